import PyProof.Rows.All
import Wide.All
import OpenK.AllK
import Wide.FinOn
import Lean
import PyProof.EqAt
import PyProof.EqKinds
import PyProof.TupleCall
import PySem.Challenge.RW_forerun_k63_no_line
import KE.IntBitsLaws
import KE.KDictList
import KE.KDictOf
import KE.KEqDict
import KE.KIntText
import KE.KItemsList
import KE.KRevIter
import KE.KSortAsk
import KE.KSortTup
import KE.KSorted
import KE.KTryMore
import KE.LcSums
import PyProof.AttrMissHeap
import PyProof.Conv_int_bool
import PyProof.DictItems
import PyProof.DictKinds
import PyProof.DictWalks
import PyProof.EnumFor
import PyProof.EnumMake
import PyProof.EqAt
import PyProof.EqKinds
import PyProof.FitsStr
import PyProof.IsRules
import PyProof.ListIndexNeg
import PyProof.MeetsStr
import PyProof.MeetsStr3
import PyProof.NeKinds
import PyProof.NsDelKeeps
import PyProof.P3Eq
import PyProof.ReprHeads
import PyProof.ReprHeadsEmpty
import PyProof.ReprLen
import PyProof.Rows.EqDataRows
import PyProof.Rows.Range3
import PyProof.Rows.SetFrom
import PyProof.SetKind
import PyProof.SetNew
import PyProof.StrCalls2
import PyProof.StrLaws
import PyProof.StrLawsTight
import PyProof.StrOps
import PyProof.StrOps2
import PyProof.StrWalks
import PyProof.TupleIter
import PyProof.TupleKey
import PyProof.TupleOfSeq
import PyProof.ZipIter
import Wide.ObjOpen
import Wide.RegSB
set_option Elab.async false
set_option linter.all false
set_option maxRecDepth 100000
namespace L2
open PySem PySem.Spec PyProof.Rows
abbrev Key:=Sum Int Str
def Xn:Key→Value→Bool
 | .inl k,v=>Value.isInt k v
 | .inr x,v=>Value.isStrOf x v
def zeJ (w:World):Key→Int
 | .inl k=>hashInt k
 | .inr x=>hashStr w x
theorem yF:∀ {k:Key} {v:Value},Xn k v=true→(∃ i t,k=Sum.inl i∧v=Value.int i t)∨(∃ x t,k=Sum.inr x∧v=Value.str x t)
 | .inl i,v,h=>by
  obtain ⟨t,e⟩:=Value.isInt_shape (k:=i) (v:=v) h
  exact .inl ⟨i,t,rfl,e⟩
 | .inr x,v,h=>by
  obtain ⟨t,e⟩:=Value.isStrOf_shape (x:=x) (v:=v) h
  exact .inr ⟨x,t,rfl,e⟩
theorem K3 (i:Int) (t:Tok):Xn (.inl i) (.int i t)=true:=by simp [Xn,Value.isInt]
theorem K4 (x:Str) (t:Tok):Xn (.inr x) (.str x t)=true:=by simp [Xn,Value.isStrOf]
theorem zdr (a b:Int):decide ((Sum.inl a:Key)=Sum.inl b)=(a == b):=by
 by_cases e:a=b
 ·subst e;simp
 ·have h:¬ (Sum.inl a:Key)=Sum.inl b:=fun q=>e (Sum.inl.inj q)
  rw [decide_eq_false h]
  exact (beq_eq_false_iff_ne.mpr e).symm
theorem zds (a b:Str):decide ((Sum.inr a:Key)=Sum.inr b)=decide (a=b):=by
 by_cases e:a=b
 ·subst e;simp
 ·have h:¬ (Sum.inr a:Key)=Sum.inr b:=fun q=>e (Sum.inr.inj q)
  rw [decide_eq_false h,decide_eq_false e]
theorem zdt (a:Int) (b:Str):decide ((Sum.inl a:Key)=Sum.inr b)=false:=decide_eq_false (fun q=>nomatch q)
theorem zdu (a:Str) (b:Int):decide ((Sum.inr a:Key)=Sum.inl b)=false:=decide_eq_false (fun q=>nomatch q)
def yB (prog:Program) (w:World):PySem.KeyKind prog w Key where
 is:=Xn
 hash:=zeJ w
 inj:=fun v a b ha hb=>by
  rcases yF ha with ⟨i,t,rfl,rfl⟩ | ⟨x,t,rfl,rfl⟩
  ·rcases yF hb with ⟨j,u,rfl,e⟩ | ⟨y,u,rfl,e⟩
   ·injection e with e1 _;rw [e1]
   ·exact nomatch e
  ·rcases yF hb with ⟨j,u,rfl,e⟩ | ⟨y,u,rfl,e⟩
   ·exact nomatch e
   ·injection e with e1 _;rw [e1]
 byValue:=fun k v h=>by
  rcases yF h with ⟨i,t,rfl,rfl⟩ | ⟨x,t,rfl,rfl⟩ <;> rfl
 pyHash:=fun hv h=>by
  rcases yF hv with ⟨i,t,rfl,rfl⟩ | ⟨x,t,rfl,rfl⟩
  ·exact wpAny_pyHash_int h
  ·exact wpAny_pyHash_str h
 eqBool:=fun hu hv h=>by
  rcases yF hu with ⟨i,t,rfl,rfl⟩ | ⟨x,t,rfl,rfl⟩
  ·rcases yF hv with ⟨j,u,rfl,rfl⟩ | ⟨y,u,rfl,rfl⟩
   ·rw [zdr] at h;exact wpAny_eqBool_int h
   ·rw [zdt] at h;exact SeqAt.EqAt.int_str i t y u _ _ _ _ h
  ·rcases yF hv with ⟨j,u,rfl,rfl⟩ | ⟨y,u,rfl,rfl⟩
   ·rw [zdu] at h;exact SeqAt.EqAt.str_int x t j u _ _ _ _ h
   ·rw [zds] at h;exact wpAny_eqBool_str h
 «strs»:=fun k x t v h=>by
  rcases yF h with ⟨i,u,rfl,e⟩ | ⟨y,u,rfl,e⟩
  ·exact nomatch e
  ·injection e with e1 _
   subst e1
   cases v <;> rfl
theorem ZC (prog:Program) (w:World) (i:Int) (t:Tok):(yB prog w).is (.inl i) (.int i t)=true:=K3 i t
theorem ZD (prog:Program) (w:World) (x:Str) (t:Tok):(yB prog w).is (.inr x) (.str x t)=true:=K4 x t
end L2
namespace L2
open PySem PySem.Spec PyProof.Rows
inductive V where
 | non | bl (b:Bool) | int (i:Int) | str (x:Str) | byt (b:Array UInt8) | flt (b:UInt64) | ref (a:Addr) | ty (n:String)
 deriving DecidableEq
def RelV:V→Value→Prop
 | .non,u=>u=Value.none
 | .bl b,u=>u=Value.bool b
 | .int i,u=>∃ t,u=Value.int i t
 | .str x,u=>∃ t,u=Value.str x t
 | .byt b,u=>∃ t,u=Value.bytes b t
 | .flt b,u=>∃ t,u=Value.float b t
 | .ref a,u=>u=Value.ref a
 | .ty n,u=>u=Value.type n
abbrev Vals:List V→List Value→Prop:=Paired RelV
theorem Vals.length {xs:List V} {us:List Value} (r:Vals xs us):xs.length=us.length:=Paired.length r
theorem Vals.get:∀ {xs:List V} {us:List Value} {i:Nat} {x:V},Vals xs us→xs[i]?=some x→∃ u,us[i]?=some u∧RelV x u
 | _,_,_,_,.nil,e=>by simp at e
 | _,_,0,_,.cons r _,e=>by simp at e;subst e;exact ⟨_,rfl,r⟩
 | _,_,i + 1,x,.cons _ t,e=>by
  obtain ⟨u,h1,h2⟩:=Vals.get (i:=i) (x:=x) t (by simpa using e)
  exact ⟨u,by simpa using h1,h2⟩
theorem Vals.append:∀ {xs ys:List V} {us ws:List Value},Vals xs us→Vals ys ws→Vals (xs ++ ys) (us ++ ws)
 | _,_,_,_,.nil,s=>s
 | _,_,_,_,.cons r t,s=>.cons r (Vals.append t s)
theorem Vals.take:∀ {xs:List V} {us:List Value} (n:Nat),Vals xs us→Vals (xs.take n) (us.take n)
 | _,_,0,_=>.nil
 | _,_,_ + 1,.nil=>.nil
 | _,_,n + 1,.cons r t=>.cons r (Vals.take n t)
theorem Vals.drop:∀ {xs:List V} {us:List Value} (n:Nat),Vals xs us→Vals (xs.drop n) (us.drop n)
 | _,_,0,r=>r
 | _,_,_ + 1,.nil=>.nil
 | _,_,n + 1,.cons _ t=>Vals.drop n t
def RelO:Option V→Option Value→Prop
 | some v,some u=>RelV v u
 | none,none=>True
 | _,_=>False
def KV {κ:Type}:List (κ × V)→List (κ × Value)→Prop:=Paired fun (p:κ × V) (q:κ × Value)=>p.1=q.1∧RelV p.2 q.2
def kV:Key→V
 | .inl i=>.int i
 | .inr x=>.str x
inductive HO where
  | lst (xs:List V)
  | tup (xs:List V)
  | dK (kvs:List (Key × V)) | dT (kvs:List (List Key × V))
  | set (S:Int→Bool) (n:Nat)
  | ins (C dx:Addr) (fs:List (Str × V))
  | own (x:Addr)
  | xd (fs:List (Str × V))
  | met (f x:Addr)
  | rng (lo hi:Int)
  | frz (o:Obj) (u:HO)
  | tbl (ps:Array Value)
  | ext (φ:Heap→Prop)
abbrev Hp:=Addr→Option HO
def upd (H:Hp) (a:Addr) (o:HO):Hp:=fun b=>if b=a then some o else H b
theorem zp {H:Hp} {a:Addr} {o:HO}:upd H a o a=some o:=by unfold upd;rw [if_pos rfl]
theorem yb {H:Hp} {a b:Addr} {o:HO} (h:b≠a):upd H a o b=H b:=by unfold upd;rw [if_neg h]
theorem zej {H:Hp} {a b:Addr} {o u:HO} (h:H a=some o) (h':H b=some u) (d:o≠u):a≠b:=by
 intro e;subst e;rw [h] at h';exact d (Option.some.inj h')
theorem xp {H:Hp} {a b:Addr} {o:HO} (h:H a=some o) (h':H b=none):a≠b:=by
 intro e;subst e;rw [h] at h';cases h'
section
variable (P:Program) (w:World)
def ObjOk (H:Hp) (h:Heap) (a:Addr):HO→Prop
 | .lst xs=>xs.length≤sizeLine∧∃ (its:List Value) (n:Nat),Vals xs its∧h.get? a=some { cls:=.type "list",data:=.seq its.toArray n }
 | .tup xs=>xs.length≤sizeLine∧∃ its:List Value,Vals xs its∧IsTup h a its.toArray
 | .dK kvs=>kvs.length≤sizeLine∧(a == sysModules)=false∧∃ vs,KV kvs vs∧h.DictOf (yB P w) a vs
 | .dT kvs=>kvs.length≤sizeLine∧(a == sysModules)=false∧∃ xs:List (List Key × Addr × Value),
   Paired (fun (p:List Key × V) (q:List Key × Addr × Value)=>p.1=q.1∧H q.2.1=some (.tup (p.1.map kV))∧RelV p.2 q.2.2) kvs xs ∧
   ∃ o es ep,h.get? a=some o∧o.ExactDict∧o.data=.dict es ep∧es.toList=xs.map (entryOfKey (tupleKind (yB P w)))∧(xs.map (·.1)).Nodup
 | .set S n=>h.SetOf (intKind P w) a S n
 | .ins C dx fs=>H dx=some (.own a)∧fs.length≤1000∧dx≠a∧h.get? a=some (W.instObj C dx) ∧
   ∃ mA,h.Ns1 dx mA∧(∀ f,RelO (fs.lookup f) (mA f))∧PySem.Within mA (fs.map (·.1))
 | .own _=>∃ o,h.get? a=some o
 | .xd fs=>∃ mA,h.Ns1 a mA∧∀ f,RelO (fs.lookup f) (mA f)
 | .rng lo hi=>∃ t u v,h.get? a=some { cls:=.type "range",data:=.fields #[.int lo t,.int hi u,.int 1 v] }
 | .frz o u=>h.get? a=some o∧ObjOk H h a u
 | .tbl ps=>h.get? a=some { cls:=.none,data:=.fields ps }
 | .met f x=>h.get? a=some (W.methodObj (.ref f) (.ref x))
 | .ext φ=>φ h∧(∃ o,h.get? a=some o)∧∀ h1 h2:Heap,φ h1→(∀ o,h1.get? a=some o→h2.get? a=some o)→φ h2
def HOk (H:Hp) (h:Heap):Prop:=∀ a o,H a=some o→ObjOk P w H h a o
end
section
variable {P:Program} {w:World} {H H':Hp} {h h':Heap} {a:Addr} {o:HO}
theorem ObjOk.lt (x:ObjOk P w H h a o):a < h.objs.size:=by
 cases o with
 | lst xs=>obtain ⟨_,_,_,_,e⟩:=x;exact Heap.lt_size e
 | tup xs=>obtain ⟨_,_,_,p⟩:=x;exact p.lt
 | dK kvs=>obtain ⟨_,_,_,_,o,_,_,e,_⟩:=x;exact Heap.lt_size e
 | dT kvs=>obtain ⟨_,_,_,_,o,_,_,e,_⟩:=x;exact Heap.lt_size e
 | set S n=>obtain ⟨o,_,_,_,e,_⟩:=x;exact Heap.lt_size e
 | ins C dx fs=>obtain ⟨_,_,_,e,_⟩:=x;exact Heap.lt_size e
 | own y=>obtain ⟨_,e⟩:=x;exact Heap.lt_size e
 | xd fs=>obtain ⟨_,⟨_,_,_,e,_⟩,_⟩:=x;exact Heap.lt_size e
 | rng lo hi=>obtain ⟨_,_,_,e⟩:=x;exact Heap.lt_size e
 | frz ob u=>obtain ⟨e,_⟩:=x;exact Heap.lt_size e
 | tbl ps=>exact Heap.lt_size (show h.get? a=some _ from x)
 | met f y=>exact Heap.lt_size (show h.get? a=some _ from x)
 | ext φ=>obtain ⟨_,⟨_,e⟩,_⟩:=x;exact Heap.lt_size e
theorem Paired.mapP {α β:Type} {F G:α→β→Prop}:∀ {l₁:List α} {l₂:List β},Paired F l₁ l₂→(∀ a b,F a b→G a b)→Paired G l₁ l₂
 | _,_,.nil,_=>.nil
 | _,_,.cons r t,f=>.cons (f _ _ r) (Paired.mapP t f)
theorem ObjOk.stay (x:ObjOk P w H h a o) (k:∀ b u,(b=a∨H b=some (.own a))→h.get? b=some u→h'.get? b=some u)
  (ho:∀ b,H b=some (.own a)→H' b=some (.own a)) (ht:∀ b xs,H b=some (.tup xs)→H' b=some (.tup xs)):ObjOk P w H' h' a o:=by
 induction o with
 | lst xs=>obtain ⟨z,its,n,r,e⟩:=x;exact ⟨z,its,n,r,k _ _ (.inl rfl) e⟩
 | tup xs=>obtain ⟨z,its,r,ob,e,c⟩:=x;exact ⟨z,its,r,ob,k _ _ (.inl rfl) e,c⟩
 | dK kvs=>obtain ⟨z,y,vs,r,ob,es,ep,e,c⟩:=x;exact ⟨z,y,vs,r,ob,es,ep,k _ _ (.inl rfl) e,c⟩
 | dT kvs =>
  obtain ⟨z,y,xs,r,ob,es,ep,e,c⟩:=x
  exact ⟨z,y,xs,Paired.mapP r fun p q z=>⟨z.1,ht _ _ z.2.1,z.2.2⟩,ob,es,ep,k _ _ (.inl rfl) e,c⟩
 | set S n=>obtain ⟨ob,es,ep,t,e,c⟩:=x;exact ⟨ob,es,ep,t,k _ _ (.inl rfl) e,c⟩
 | ins C dx fs =>
  obtain ⟨d,z,ne,e,mA,⟨od,es,ep,e2,c⟩,r⟩:=x
  exact ⟨ho _ d,z,ne,k _ _ (.inl rfl) e,mA,⟨od,es,ep,k _ _ (.inr d) e2,c⟩,r⟩
 | own y=>obtain ⟨ob,e⟩:=x;exact ⟨ob,k _ _ (.inl rfl) e⟩
 | xd fs=>obtain ⟨mA,⟨od,es,ep,e,c⟩,r⟩:=x;exact ⟨mA,⟨od,es,ep,k _ _ (.inl rfl) e,c⟩,r⟩
 | rng lo hi=>obtain ⟨t,u,v,e⟩:=x;exact ⟨t,u,v,k _ _ (.inl rfl) e⟩
 | frz ob u ih=>obtain ⟨e,q⟩:=x;exact ⟨k _ _ (.inl rfl) e,ih q⟩
 | tbl ps =>
  have e:h.get? a=some { cls:=.none,data:=.fields ps }:=x
  show h'.get? a=some { cls:=.none,data:=.fields ps }
  exact k a _ (.inl rfl) e
 | met f y =>
  have e:h.get? a=some (W.methodObj (.ref f) (.ref y)):=x
  show h'.get? a=some (W.methodObj (.ref f) (.ref y))
  exact k a _ (.inl rfl) e
 | ext φ=>obtain ⟨p,⟨o,e⟩,st⟩:=x;exact ⟨st _ _ p fun o q=>k _ _ (.inl rfl) q,⟨o,k _ _ (.inl rfl) e⟩,st⟩
theorem HOk.lt (x:HOk P w H h) (e:H a=some o):a < h.objs.size:=(x a o e).lt
theorem HOk.fresh (x:HOk P w H h) (e:h.objs.size≤a):H a=none:=by
 cases q:H a with
 | none=>rfl
 | some u=>exact absurd (Nat.lt_of_lt_of_le (x.lt q) e) (Nat.lt_irrefl _)
theorem HOk.kept (x:HOk P w H h) (k:∀ b u,h.get? b=some u→h'.get? b=some u):HOk P w H h':=fun a o e =>
 (x a o e).stay (fun b u _ q=>k b u q) (fun _ q=>q) fun _ _ q=>q
theorem HOk.laid (x:HOk P w H h) (k:∀ b u,h.get? b=some u→h'.get? b=some u) (hp:h.objs.size≤a) (new:ObjOk P w (upd H a o) h' a o):HOk P w (upd H a o) h':=fun b u e=>by
 have hn:=x.fresh hp
 by_cases hb:b=a
 ·subst hb;rw [zp] at e;cases e;exact new
 ·rw [yb hb] at e
  exact (x b u e).stay (fun c v _ q=>k c v q) (fun c q=>by rw [yb (xp q hn)];exact q) fun c xs q=>by rw [yb (xp q hn)];exact q
end
def Rd (H:Hp) (a:Addr) (u:HO):Prop:=H a=some u∨∃ o,H a=some (.frz o u)
theorem Rd.ok {P:Program} {w:World} {H:Hp} {h:Heap} {a:Addr} {u:HO} (r:Rd H a u) (x:HOk P w H h):ObjOk P w H h a u:=by
 rcases r with r | ⟨o,r⟩
 ·exact x a u r
 ·obtain ⟨_,q⟩:=x a _ r
  exact q
def Mut:Option HO→Prop
 | some (.lst _)=>True
 | some (.dK _)=>True
 | some (.dT _)=>True
 | some (.set _ _)=>True
 | some (.ins _ _ _)=>True
 | some (.ext _)=>True
 | _=>False
section
variable {P:Program} {w:World} {H:Hp} {h h':Heap} {x e:Addr} {o':HO}
theorem HOk.write (ok:HOk P w H h) (mu:Mut (H x)) (he:e=x∨H e=some (.own x)) (k:∀ b u,b≠e→h.get? b=some u→h'.get? b=some u) (heo:∃ u,h'.get? e=some u)
  (new:ObjOk P w (upd H x o') h' x o'):HOk P w (upd H x o') h':=fun b u q=>by
 have nown:∀ c y,H c=some (.own y)→c≠x:=fun c y r z=>by subst z;rw [r] at mu;exact mu
 have ntup:∀ c xs,H c=some (.tup xs)→c≠x:=fun c xs r z=>by subst z;rw [r] at mu;exact mu
 by_cases hb:b=x
 ·subst hb;rw [zp] at q;cases q;exact new
 ·rw [yb hb] at q
  by_cases hbe:b=e
  ·have q':H b=some (.own x):=by
    rcases he with z | z
    ·exact absurd (hbe.trans z) hb
    ·rw [hbe];exact z
   rw [q] at q';cases q'
   obtain ⟨v,hv⟩:=heo
   exact ⟨v,by rw [hbe];exact hv⟩
  ·refine (ok b u q).stay (fun c v hc r=>k c v ?_ r) (fun c r=>by rw [yb (nown c b r)];exact r) fun c xs r=>by rw [yb (ntup c xs r)];exact r
   rcases hc with rfl | hc
   ·exact hbe
   ·rintro rfl
    rcases he with z | z
    ·exact nown c b hc z
    ·rw [hc] at z;cases z;exact hb rfl
end
structure Un (fs ex:List Addr) (H H':Hp) (h h':Heap):Prop where
 keep:∀ b o,h.get? b=some o→H b=none→b ∉ fs→b ∉ ex→h'.get? b=some o
 slot:∀ b o,h.get? b=some o→H b=none→b∈fs→b ∉ ex→∃ sl,h'.get? b=some { o with slots:=sl }
 free:∀ b o,h.get? b=some o→H b=none→b ∉ ex→H' b=none
 there:∀ b o,h.get? b=some o→b ∉ ex→∃ o',h'.get? b=some o'
 tups:∀ b xs,H b=some (.tup xs)→H' b=some (.tup xs)
 frzs:∀ b o u,H b=some (.frz o u)→H' b=some (.frz o u)
 tbls:∀ b ps,H b=some (.tbl ps)→∃ more,H' b=some (.tbl (ps ++ more))
section
variable {fs fs' ex ex':List Addr} {H H1 H2:Hp} {h h1 h2 h':Heap} {a x e:Addr} {o:HO}
theorem Un.any (u:Un fs ex H H1 h h1) {b:Addr} {ob:Obj} (q:h.get? b=some ob) (n:H b=none) (hx:b ∉ ex):∃ sl,h1.get? b=some { ob with slots:=sl }:=by
 by_cases hb:b∈fs
 ·exact u.slot b ob q n hb hx
 ·exact ⟨ob.slots,u.keep b ob q n hb hx⟩
theorem Un.kept (k:∀ b u,h.get? b=some u→h'.get? b=some u):Un fs ex H H h h' :=
 ⟨fun b ob q _ _ _=>k b ob q,fun b ob q _ _ _=>⟨ob.slots,k b ob q⟩,fun _ _ _ n _=>n,fun b ob q _=>⟨ob,k b ob q⟩,fun _ _ q=>q,fun _ _ _ q=>q,fun _ ps q=>⟨#[],by rw [q];simp⟩⟩
theorem Un.refl:Un fs ex H H h h:=Un.kept fun _ _ q=>q
theorem Un.laid (k:∀ b u,h.get? b=some u→h'.get? b=some u) (hp:h.objs.size≤a) (hn:H a=none):Un fs ex H (upd H a o) h h' where
 keep:=fun b u q _ _ _=>k b u q
 slot:=fun b u q _ _ _=>⟨u.slots,k b u q⟩
 free:=fun b u q n _=>by rw [yb (Nat.ne_of_lt (Nat.lt_of_lt_of_le (Heap.lt_size q) hp))];exact n
 there:=fun b u q _=>⟨u,k b u q⟩
 tups:=fun b xs q=>by rw [yb (xp q hn)];exact q
 frzs:=fun b u xs q=>by rw [yb (xp q hn)];exact q
 tbls:=fun b ps q=>⟨#[],by rw [yb (xp q hn),q];simp⟩
theorem Un.write (mu:Mut (H x)) (he:e=x∨H e=some (.own x)) (k:∀ b u,b≠e→h.get? b=some u→h'.get? b=some u) (heo:∃ u,h'.get? e=some u):Un fs ex H (upd H x o) h h':=by
 have hx:∀ b,H b=none→b≠x:=fun b n z=>by subst z;rw [n] at mu;exact mu
 have hb:∀ b,H b=none→b≠e:=fun b n z=>by
  subst z
  rcases he with r | r
  ·exact hx b n r
  ·rw [n] at r;cases r
 have hm:∀ b u,H b=some u→¬ Mut (some u)→b≠x:=fun b u q nm z=>by subst z;rw [q] at mu;exact nm mu
 refine ⟨fun b u q n _ _=>k b u (hb b n) q,fun b u q n _ _=>⟨u.slots,k b u (hb b n) q⟩,fun b u q n _=>by rw [yb (hx b n)];exact n,fun b u q _=>?_,
  fun b xs q=>by rw [yb (hm b _ q fun z=>z)];exact q,fun b u xs q=>by rw [yb (hm b _ q fun z=>z)];exact q,fun b ps q=>⟨#[],by rw [yb (hm b _ q fun z=>z),q];simp⟩⟩
 by_cases hbe:b=e
 ·subst hbe;exact heo
 ·exact ⟨u,k b u hbe q⟩
end
def trk (h:Heap) (H:Hp):List Addr:=(List.range h.objs.size).filter fun a=>(H a).isSome
def Wh (h:Heap) (H:Hp):Heap:=W.hideAll h (trk h H)
theorem K6 (h:Heap) (H:Hp):(Wh h H).objs.size=h.objs.size:=W.hideAll_size _ _
theorem QQ {h:Heap} {H:Hp} {b:Addr} {o:Obj} (e:h.get? b=some o) (n:H b=none):(Wh h H).get? b=some o :=
 W.hideAll_get _ e fun hm=>by
  have q:(H b).isSome=true:=(List.mem_filter.mp hm).2
  rw [n] at q;simp at q
theorem zbU {h:Heap} {H:Hp} {b:Addr} {o:Obj} (e:(Wh h H).get? b=some o):h.get? b=some o∧H b=none:=by
 have e':h.get? b=some o:=W.of_hideAll (trk h H) e
 refine ⟨e',?_⟩
 cases q:H b with
 | none=>rfl
 | some x =>
  have hm:b∈trk h H:=List.mem_filter.mpr ⟨List.mem_range.mpr (Heap.lt_size e'),by simp [q]⟩
  have z:(Wh h H).get? b=none:=W.hideAll_none (trk h H) hm
  rw [z] at e;cases e
def zbV (g h:Heap) (L:Addr):List (Addr × Obj):=(List.range h.objs.size).filterMap fun a=>if a=L∨(g.get? a).isSome=true then none else (h.get? a).map fun o=>(a,o)
def rest (g h:Heap) (L d:Addr):List (Addr × Obj):=(zbV g h L).filter fun p=>decide (p.1≠d)
end L2
namespace L2
open PySem PySem.Spec PyProof.Rows
structure Mod (K:W.Frag) (mg:Str→Option Value) (base:Heap):Prop where
 kin:K.In base
 glob:base.Ns mainGlobals mg
 blt:∃ mb,base.Ns builtinsNs mb∧∀ x:Str,x≠"__name__"→mb x=bootBuiltins x
 nolimit:base.NoLimit
set_option genSizeOf false in
set_option genInjectivity false in
structure Cx where
 prog:Program
 w:World
 K:W.Frag
 mg:Str→Option Value
 base:Heap
 A:Around
 N:List Str
 s₀:Shared
 H₀:Hp
 env:Env
 outer:List Env
 stack:List Env
 ex:List Addr
 fn:Str→Bool
 calm:Bool
 pn:List (Addr × Obj)
 xe:Value→Shared→Prop
def frs (l:List Env):List Addr:=l.filterMap (·.frame)
abbrev Cx.fs (X:Cx):List Addr:=frs X.outer
def Vis (sc:Scope) (x:Str):Prop:=sc.names.lookup x=some .local∨sc.names.lookup x=some .cell∨sc.names.lookup x=some .free
def Loc (sc:Scope) (x:Str):Prop:=sc.names.lookup x=some .local∨sc.names.lookup x=some .cell
def zek (env:Env) (h:Heap) (m:Str→Option Value) (x:Str) (u:Value):Prop :=
 (env.kindOf x=some .local∧m x=some u)∨((env.kindOf x=some .cell∨env.kindOf x=some .free)∧∃ c,env.cells.lookup x=some c∧h.IsCell c (some u))
structure Cx.Ok (X:Cx):Prop where
 mod:Mod X.K X.mg X.base
 kind:X.env.scope.kind=.function
 glob:X.env.globals=mainGlobals
 blt:X.env.builtins=builtinsNs
 above:X.s₀.heap.objs.size≤X.env.locals
 inj:∀ x y c,X.env.cells.lookup x=some c→X.env.cells.lookup y=some c→x=y
 has:∀ x,(X.env.kindOf x=some .cell∨X.env.kindOf x=some .free)→∃ c,X.env.cells.lookup x=some c
 cab:∀ x c,X.fn x=true→X.env.cells.lookup x=some c→X.s₀.heap.objs.size≤c
 hd:X.calm=true→X.A.handled=none
 frames:X.A.frames=some X.stack
 stk:X.stack=X.outer∨(X.stack=X.env :: X.outer∧X.env.frame=some X.env.locals)
 exf:∀ b∈X.ex,b≠X.env.locals∧∀ x c,X.env.cells.lookup x=some c→c≠b
 bs:∀ b o,X.base.get? b=some o→X.s₀.heap.get? b=some o∧X.H₀ b=none
 bsz:X.base.objs.size≤X.s₀.heap.objs.size
 noex:∀ b o,X.base.get? b=some o→b ∉ X.ex
 exfs:∀ b∈X.ex,b ∉ X.fs
 funs:X.s₀.heap.FunFrames X.base X.outer
 frf:∀ b∈X.fs,X.H₀ b=none
structure Inv (X:Cx) (pins:List (Addr × Obj)) (σ:List (Option V)) (H:Hp) (s:Shared):Prop where
 ok:X.Ok
 os:s.os=X.s₀.os
 bare:AllBare s.gens
 base:Un X.fs X.ex X.H₀ H X.s₀.heap s.heap
 loc:∃ m,s.heap.Ns X.env.locals m∧∀ (i:Nat) (x:Str) (v:V),X.N[i]?=some x→σ[i]?=some (some v)→Vis X.env.scope x→∃ u,RelV v u∧zek X.env s.heap m x u
 cell:∀ x c,X.env.cells.lookup x=some c→∃ v,s.heap.IsCell c v
 free:H X.env.locals=none
 freeC:∀ x c,X.env.cells.lookup x=some c→H c=none
 pin:∀ p∈X.pn ++ pins,s.heap.get? p.1=some p.2∧H p.1=none∧p.1≠X.env.locals∧p.1 ∉ X.fs∧∀ v,p.2.data≠.cell v
 hok:HOk X.prog X.w H s.heap
 len:σ.length=X.N.length
section
variable {X:Cx} {pins:List (Addr × Obj)} {σ:List (Option V)} {H H':Hp} {s:Shared} {h':Heap}
theorem Cx.Ok.nofr (ok:X.Ok) {b:Addr} {o:Obj} (e:X.base.get? b=some o):b ∉ X.fs:=fun hb=>by
 have:=(ok.funs.mem hb).1
 rw [e] at this;cases this
theorem Inv.bs (I:Inv X pins σ H s):∀ b o,X.base.get? b=some o→s.heap.get? b=some o∧H b=none:=fun b o e =>
 ⟨I.base.keep b o (I.ok.bs b o e).1 (I.ok.bs b o e).2 (I.ok.nofr e) (I.ok.noex b o e),I.base.free b o (I.ok.bs b o e).1 (I.ok.bs b o e).2 (I.ok.noex b o e)⟩
theorem Inv.bk (I:Inv X pins σ H s):∀ b o,X.base.get? b=some o→s.heap.get? b=some o:=fun b o e=>(I.bs b o e).1
theorem Inv.mod (I:Inv X pins σ H s):Mod X.K X.mg X.base:=I.ok.mod
theorem Inv.kIn (I:Inv X pins σ H s):X.K.In s.heap:=I.ok.mod.kin.keeps I.bk
theorem Inv.lt (I:Inv X pins σ H s):X.env.locals < s.heap.objs.size:=let ⟨_,hn,_⟩:=I.loc;hn.lt
theorem Inv.sz (I:Inv X pins σ H s):X.s₀.heap.objs.size≤s.heap.objs.size:=Nat.le_trans I.ok.above (Nat.le_of_lt I.lt)
theorem Inv.nofs (I:Inv X pins σ H s) {a:Addr} (h:s.heap.objs.size≤a):a ∉ X.fs:=fun hb=>by
 obtain ⟨_,o,ho,_⟩:=I.ok.funs.mem hb
 exact absurd (Nat.lt_of_lt_of_le (Heap.lt_size ho) (Nat.le_trans I.sz h)) (Nat.lt_irrefl _)
theorem Inv.cne (I:Inv X pins σ H s):∀ x c,X.env.cells.lookup x=some c→c≠X.env.locals:=fun x c e z=>by
 obtain ⟨v,o,ho,hd⟩:=I.cell x c e
 obtain ⟨m,⟨o',es,ep,ho',hd',_⟩,_⟩:=I.loc
 rw [z,ho'] at ho;cases ho;rw [hd'] at hd;cases hd
theorem Inv.funs (I:Inv X pins σ H s):s.heap.FunFrames X.base X.outer:=by
 have all:∀ (l:List Env),(∀ b∈frs l,b∈X.fs)→X.s₀.heap.FunFrames X.base l→s.heap.FunFrames X.base l:=by
  intro l
  induction l with
  | nil=>intro _ _;trivial
  | cons env r ih =>
   intro hs hl
   obtain ⟨hk,⟨L,o,hf,hn,ho,hd⟩,hr⟩:=hl
   have hL:L∈X.fs:=hs L (by unfold frs;rw [List.filterMap_cons,hf];exact List.mem_cons_self)
   obtain ⟨sl,e⟩:=I.base.slot L o ho (I.ok.frf L hL) hL fun z=>I.ok.exfs L z hL
   exact ⟨hk,⟨L,_,hf,hn,e,hd⟩,ih (fun b hb=>hs b (by unfold frs;rw [List.filterMap_cons,hf];exact List.mem_cons_of_mem _ hb)) hr⟩
 exact all X.outer (fun _ hb=>hb) I.ok.funs
theorem Inv.stack (I:Inv X pins σ H s):s.heap.FunFrames X.base X.stack:=by
 rcases I.ok.stk with e | ⟨e,hf⟩
 ·rw [e];exact I.funs
 ·rw [e]
  obtain ⟨m,hn,_⟩:=I.loc
  refine .cons (by rw [I.ok.kind];decide) hf hn ?_ I.funs
  exact Heap.get?_none_of_le (Nat.le_trans I.ok.bsz I.ok.above)
theorem Inv.stkSub (I:Inv X pins σ H s):∀ b∈frs X.stack,b∈X.env.locals :: X.fs:=fun b hb=>by
 rcases I.ok.stk with e | ⟨e,hf⟩
 ·rw [e] at hb;exact List.mem_cons_of_mem _ hb
 ·rw [e] at hb
  unfold frs at hb
  rw [List.filterMap_cons,hf] at hb
  exact hb
theorem Inv.stkFree (I:Inv X pins σ H s):∀ b∈frs X.stack,H b=none:=fun b hb=>by
 rcases List.mem_cons.mp (I.stkSub b hb) with e | hb
 ·rw [e];exact I.free
 ·obtain ⟨_,o,ho,_⟩:=I.ok.funs.mem hb
  exact I.base.free b o ho (I.ok.frf b hb) fun z=>I.ok.exfs b z hb
theorem Inv.step {g':Array GenState} {t':Nat} {d':Drawn} {ch:List Addr} (I:Inv X pins σ H s)
  (hch:∀ b∈ch,(b∈X.ex∨X.s₀.heap.objs.size≤b)∧b≠X.env.locals∧(∀ x c,X.env.cells.lookup x=some c→c≠b)∧∀ p∈X.pn ++ pins,p.1≠b)
  (keep:∀ b o,b≠X.env.locals→b ∉ X.fs→b ∉ ch→s.heap.get? b=some o→H b=none→h'.get? b=some o)
  (slot:∀ b o,b≠X.env.locals→b∈X.fs→b ∉ ch→s.heap.get? b=some o→H b=none→∃ sl,h'.get? b=some { o with slots:=sl }) (free:∀ b o,b ∉ ch→s.heap.get? b=some o→H b=none→H' b=none)
  (there:∀ b o,b ∉ ch→s.heap.get? b=some o→∃ o',h'.get? b=some o')
  (tups:∀ b xs,H b=some (.tup xs)→H' b=some (.tup xs)) (frzs:∀ b o u,H b=some (.frz o u)→H' b=some (.frz o u)) (tbls:∀ b ps,H b=some (.tbl ps)→∃ more,H' b=some (.tbl (ps ++ more)))
  (ns:∀ m,s.heap.Ns X.env.locals m→h'.Ns X.env.locals m) (hok:HOk X.prog X.w H' h') (hg:AllBare g') :
  Inv X pins σ H' { s with heap:=h',gens:=g',drawn:=d',toks:=t' }:=by
 have neL:∀ b o,X.s₀.heap.get? b=some o→b≠X.env.locals:=fun b o e=>Nat.ne_of_lt (Nat.lt_of_lt_of_le (Heap.lt_size e) I.ok.above)
 have neC:∀ b o,X.s₀.heap.get? b=some o→b ∉ X.ex→b ∉ ch:=fun b o e hx hb=>by
  rcases (hch b hb).1 with z | z
  ·exact hx z
  ·exact absurd (Nat.lt_of_lt_of_le (Heap.lt_size e) z) (Nat.lt_irrefl _)
 have cellK:∀ x c,X.env.cells.lookup x=some c→∀ v,s.heap.IsCell c v→h'.IsCell c v:=fun x c e v ⟨o,ho,hd⟩=>by
  have nch:c ∉ ch:=fun z=>(hch c z).2.2.1 x c e rfl
  by_cases hc:c∈X.fs
  ·obtain ⟨sl,q⟩:=slot c o (I.cne x c e) hc nch ho (I.freeC x c e)
   exact ⟨_,q,hd⟩
  ·exact ⟨o,keep c o (I.cne x c e) hc nch ho (I.freeC x c e),hd⟩
 refine ⟨I.ok,I.os,hg,⟨fun b o e n hb hx=>?_,fun b o e n hb hx=>?_,fun b o e n hx=>?_,fun b o e hx=>?_,fun b xs e=>tups b xs (I.base.tups b xs e),fun b o xs e=>frzs b o xs (I.base.frzs b o xs e),fun b ps e=>?_⟩,?_,fun x c e=>?_,?_,fun x c e=>?_,fun p hp=>?_,hok,I.len⟩
 ·exact keep b o (neL b o e) hb (neC b o e hx) (I.base.keep b o e n hb hx) (I.base.free b o e n hx)
 ·obtain ⟨sl,e1⟩:=I.base.slot b o e n hb hx
  obtain ⟨sl',e2⟩:=slot b _ (neL b o e) hb (neC b o e hx) e1 (I.base.free b o e n hx)
  exact ⟨sl',e2⟩
 ·obtain ⟨o',e1⟩:=I.base.there b o e hx
  exact free b o' (neC b o e hx) e1 (I.base.free b o e n hx)
 ·obtain ⟨o',e1⟩:=I.base.there b o e hx
  exact there b o' (neC b o e hx) e1
 ·obtain ⟨m1,e1⟩:=I.base.tbls b ps e
  obtain ⟨m2,e2⟩:=tbls b _ e1
  exact ⟨m1 ++ m2,by rw [e2,Array.append_assoc]⟩
 ·obtain ⟨m,hn,hl⟩:=I.loc
  refine ⟨m,ns m hn,fun i x v e1 e2 e3=>?_⟩
  obtain ⟨u,r,l⟩:=hl i x v e1 e2 e3
  refine ⟨u,r,?_⟩
  rcases l with l | ⟨k,c,e,z⟩
  ·exact .inl l
  ·exact .inr ⟨k,c,e,cellK x c e _ z⟩
 ·obtain ⟨v,z⟩:=I.cell x c e
  exact ⟨v,cellK x c e v z⟩
 ·obtain ⟨m,⟨o,_,_,ho,_⟩,_⟩:=I.loc
  exact free _ o (fun z=>(hch _ z).2.1 rfl) ho I.free
 ·obtain ⟨v,o,ho,hd⟩:=I.cell x c e
  exact free c o (fun z=>(hch c z).2.2.1 x c e rfl) ho (I.freeC x c e)
 ·obtain ⟨e,n,ne,nf,d⟩:=I.pin p hp
  have nch:p.1 ∉ ch:=fun z=>(hch p.1 z).2.2.2 p hp rfl
  exact ⟨keep p.1 p.2 ne nf nch e n,free p.1 p.2 nch e n,ne,nf,d⟩
theorem Inv.un {t':Nat} (I:Inv X pins σ H s) (u:Un X.fs [] H H' s.heap h') (hok:HOk X.prog X.w H' h'):Inv X pins σ H' { s with heap:=h',toks:=t' }:=by
 obtain ⟨m,⟨o,es,ep,ho,r⟩,_⟩:=id I.loc
 obtain ⟨sl,hL⟩:=u.any ho I.free (by simp)
 exact I.step (g':=s.gens) (d':=s.drawn) (ch:=[]) (fun _ z=>nomatch z) (fun b o _ hb _ e n=>u.keep b o e n hb (by simp)) (fun b o _ hb _ e n=>u.slot b o e n hb (by simp)) (fun b o _ e n=>u.free b o e n (by simp)) (fun b o _ e=>u.there b o e (by simp)) u.tups u.frzs u.tbls (fun m' hm=>by
  obtain ⟨o',es',ep',ho',r'⟩:=hm
  rw [ho] at ho';cases ho'
  exact ⟨_,es',ep',hL,r'⟩) hok I.bare
theorem Inv.call {g':Array GenState} {t':Nat} {d':Drawn} {ch:List Addr} (I:Inv X pins σ H s) (u:Un (frs X.stack) ch H H' s.heap h') (hok:HOk X.prog X.w H' h') (hg:AllBare g')
  (hch:∀ b∈ch,(b∈X.ex∨X.s₀.heap.objs.size≤b)∧b≠X.env.locals∧(∀ x c,X.env.cells.lookup x=some c→c≠b)∧∀ p∈X.pn ++ pins,p.1≠b) :
  Inv X pins σ H' { s with heap:=h',gens:=g',drawn:=d',toks:=t' }:=by
 obtain ⟨m,⟨o,es,ep,ho,r⟩,_⟩:=id I.loc
 obtain ⟨sl,hL⟩:=u.any ho I.free fun z=>(hch _ z).2.1 rfl
 exact I.step (ch:=ch) hch (fun b o hL hb hc e n=>u.keep b o e n (fun z=>(List.mem_cons.mp (I.stkSub b z)).elim hL hb) hc) (fun b o _ _ hc e n=>u.any e n hc) (fun b o hc e n=>u.free b o e n hc) (fun b o hc e=>u.there b o e hc) u.tups u.frzs u.tbls (fun m' hm=>by
  obtain ⟨o',es',ep',ho',r'⟩:=hm
  rw [ho] at ho';cases ho'
  exact ⟨_,es',ep',hL,r'⟩) hok hg
theorem Inv.turned {t':Nat} {it:Addr} (I:Inv X pins σ H s) (k:∀ b o,b≠it→s.heap.get? b=some o→h'.get? b=some o) (hn:H it=none) (hL:it≠X.env.locals)
  (h1:it∈X.ex∨X.s₀.heap.objs.size≤it) (h2:∀ x c,X.env.cells.lookup x=some c→c≠it) (h3:∀ p∈X.pn ++ pins,p.1≠it):Inv X pins σ H { s with heap:=h',toks:=t' }:=by
 have nit:∀ b u,H b=some u→b≠it:=fun b u e z=>by rw [z,hn] at e;cases e
 refine I.step (g':=s.gens) (d':=s.drawn) (ch:=[it]) (fun b hb=>?_) (fun b o _ _ hc e _=>k b o (fun z=>hc (by simp [z])) e) (fun b o _ _ hc e _=>⟨o.slots,k b o (fun z=>hc (by simp [z])) e⟩) (fun _ _ _ _ n=>n)
  (fun b o hc e=>⟨o,k b o (fun z=>hc (by simp [z])) e⟩) (fun _ _ e=>e) (fun _ _ _ e=>e) (fun b ps e=>⟨#[],by rw [e];simp⟩) (fun m hm=>?_) (fun b u e=>?_) I.bare
 ·have e:b=it:=by simpa using hb
  subst e
  exact ⟨h1,hL,h2,h3⟩
 ·obtain ⟨o,es,ep,ho,r⟩:=hm
  exact ⟨o,es,ep,k _ o (Ne.symm hL) ho,r⟩
 ·refine (I.hok b u e).stay (fun c v hc q=>k c v ?_ q) (fun _ q=>q) fun _ _ q=>q
  rcases hc with z | z
  ·rw [z];exact nit b u e
  ·exact nit c _ z
theorem Inv.tok (I:Inv X pins σ H s) (t:Nat):Inv X pins σ H { s with toks:=t }:=I.un (h':=s.heap) (t':=t) Un.refl I.hok
theorem Inv.kept {t':Nat} (I:Inv X pins σ H s) (k:∀ b u,s.heap.get? b=some u→h'.get? b=some u):Inv X pins σ H { s with heap:=h',toks:=t' }:=I.un (Un.kept k) (I.hok.kept k)
theorem Inv.laid {a:Addr} {o:HO} {t':Nat} (I:Inv X pins σ H s) (k:∀ b u,s.heap.get? b=some u→h'.get? b=some u) (hp:s.heap.objs.size≤a) (new:ObjOk X.prog X.w (upd H a o) h' a o) :
  Inv X pins σ (upd H a o) { s with heap:=h',toks:=t' }:=I.un (Un.laid k hp (I.hok.fresh hp)) (I.hok.laid k hp new)
theorem Inv.write {x e:Addr} {o:HO} {t':Nat} (I:Inv X pins σ H s) (mu:Mut (H x)) (he:e=x∨H e=some (.own x)) (k:∀ b u,b≠e→s.heap.get? b=some u→h'.get? b=some u) (heo:∃ u,h'.get? e=some u)
  (new:ObjOk X.prog X.w (upd H x o) h' x o):Inv X pins σ (upd H x o) { s with heap:=h',toks:=t' }:=I.un (Un.write mu he k heo) (I.hok.write mu he k heo new)
theorem Inv.pins_of {pins':List (Addr × Obj)} (I:Inv X pins σ H s) (h:∀ p∈pins',s.heap.get? p.1=some p.2∧H p.1=none∧p.1≠X.env.locals∧p.1 ∉ X.fs∧∀ v,p.2.data≠.cell v):Inv X pins' σ H s :=
 ⟨I.ok,I.os,I.bare,I.base,I.loc,I.cell,I.free,I.freeC,fun p hp=>(List.mem_append.mp hp).elim (fun z=>I.pin p (List.mem_append_left _ z)) (h p),I.hok,I.len⟩
theorem Z4 {N:List Str} (hN:N.Nodup) {i j:Nat} {x:Str} (a:N[i]?=some x) (b:N[j]?=some x):i=j:=by
 obtain ⟨h1,e1⟩:=List.getElem?_eq_some_iff.mp a
 obtain ⟨h2,e2⟩:=List.getElem?_eq_some_iff.mp b
 exact (List.getElem_inj hN).mp (e1.trans e2.symm)
theorem Xo {M:Model} {A:Around} {E:Value→Shared→Prop} {i:Nat} {x:Str} {v:V} {u:Value} {Q:Unit→Shared→Prop} (I:Inv X pins σ H s) (hN:X.N.Nodup) (hi:X.N[i]?=some x) (hx:Loc X.env.scope x) (r:RelV v u)
  (h:∀ s',Inv X pins (σ.set i (some v)) H s'→(∃ a,Heap.SameBut a s.heap s'.heap∧(a=X.env.locals∨X.env.cells.lookup x=some a))→Q () s') (hf:X.fn x=true∨X.env.scope.names.lookup x=some .local:=by first | exact .inl rfl | exact .inr rfl | assumption):wpAny M A (storeName X.env x u) Q E s:=by
 obtain ⟨m,hn,hl⟩:=id I.loc
 have hcls:(X.env.scope.kind == .class || (X.env.scope.kind == .module && X.env.locals != X.env.globals))=false:=by rw [I.ok.kind];rfl
 have hiσ:i < σ.length:=by rw [I.len];exact (List.getElem?_eq_some_iff.mp hi).1
 have cne:=I.cne
 have tracked:∀ {a:Addr} {h':Heap},(∃ o,s.heap.get? a=some o∧H a=none)→Heap.SameBut a s.heap h'→HOk X.prog X.w H h':=fun {a h'} ha hs b ob e=>by
  obtain ⟨_,_,hfree⟩:=ha
  refine (I.hok b ob e).stay (fun c w' hc q=>(hs.2 c ?_).trans q) (fun _ q=>q) fun _ _ q=>q
  rintro rfl
  rcases hc with rfl | hc
  ·rw [hfree] at e;cases e
  ·rw [hfree] at hc;cases hc
 rcases hx with hk | hk
 ·refine wpAny_storeName_local hk hn (fun h' hn' hs=>?_) hcls
  obtain ⟨oL,_,_,hoL,_⟩:=id hn
  refine h _ ⟨I.ok,I.os,I.bare,⟨fun b o e n hb hx=>?_,fun b o e n hb hx=>?_,I.base.free,fun b o e hx=>?_,I.base.tups,I.base.frzs,I.base.tbls⟩,⟨_,hn',fun j y v' e1 e2 e3=>?_⟩,fun y c e=>?_,I.free,I.freeC,fun p hp=>?_,tracked ⟨oL,hoL,I.free⟩ hs,by simpa using I.len⟩ ⟨_,hs,.inl rfl⟩
  ·exact (hs.2 b (Nat.ne_of_lt (Nat.lt_of_lt_of_le (Heap.lt_size e) I.ok.above))).trans (I.base.keep b o e n hb hx)
  ·obtain ⟨sl,e1⟩:=I.base.slot b o e n hb hx
   exact ⟨sl,(hs.2 b (Nat.ne_of_lt (Nat.lt_of_lt_of_le (Heap.lt_size e) I.ok.above))).trans e1⟩
  ·obtain ⟨o',e1⟩:=I.base.there b o e hx
   exact ⟨o',(hs.2 b (Nat.ne_of_lt (Nat.lt_of_lt_of_le (Heap.lt_size e) I.ok.above))).trans e1⟩
  ·by_cases hj:j=i
   ·subst hj
    rw [hi] at e1;cases e1
    rw [List.getElem?_set_self hiσ] at e2
    cases e2
    exact ⟨u,r,.inl ⟨hk,by simp⟩⟩
   ·rw [List.getElem?_set_ne (Ne.symm hj)] at e2
    obtain ⟨u',r',q⟩:=hl j y v' e1 e2 e3
    refine ⟨u',r',?_⟩
    rcases q with ⟨k,e⟩ | ⟨k,c,e,z⟩
    ·refine .inl ⟨k,?_⟩
     have:y≠x:=fun e=>hj (Z4 hN e1 (e ▸ hi))
     simp [this,e]
    ·exact .inr ⟨k,c,e,z.sameBut hs (cne y c e)⟩
  ·obtain ⟨w',z⟩:=I.cell y c e
   exact ⟨w',z.sameBut hs (cne y c e)⟩
  ·obtain ⟨e,n,ne,nf,d⟩:=I.pin p hp
   exact ⟨(hs.2 p.1 ne).trans e,n,ne,nf,d⟩
 ·have hfn:X.fn x=true:=by
   rcases hf with z | z
   ·exact z
   ·rw [z] at hk;cases hk
  obtain ⟨c,hc⟩:=I.ok.has x (.inl hk)
  obtain ⟨w',z⟩:=I.cell x c hc
  refine wpAny_storeName_cell I.ok.kind hk hc z (fun h' hc' hs=>?_)
  obtain ⟨oc,hoc,hocd⟩:=id z
  refine h { s with heap:=h' } ⟨I.ok,I.os,I.bare,⟨fun b o e n hb hx=>?_,fun b o e n hb hx=>?_,I.base.free,fun b o e hx=>?_,I.base.tups,I.base.frzs,I.base.tbls⟩,⟨m,hn.sameBut hs (Ne.symm (cne x c hc)),fun j y v' e1 e2 e3=>?_⟩,fun y c' e=>?_,I.free,I.freeC,fun p hp=>?_,tracked ⟨oc,hoc,I.freeC x c hc⟩ hs,by simpa using I.len⟩ ⟨c,hs,.inr hc⟩
  ·exact (hs.2 b (Nat.ne_of_lt (Nat.lt_of_lt_of_le (Heap.lt_size e) (I.ok.cab x c hfn hc)))).trans (I.base.keep b o e n hb hx)
  ·obtain ⟨sl,e1⟩:=I.base.slot b o e n hb hx
   exact ⟨sl,(hs.2 b (Nat.ne_of_lt (Nat.lt_of_lt_of_le (Heap.lt_size e) (I.ok.cab x c hfn hc)))).trans e1⟩
  ·obtain ⟨o',e1⟩:=I.base.there b o e hx
   exact ⟨o',(hs.2 b (Nat.ne_of_lt (Nat.lt_of_lt_of_le (Heap.lt_size e) (I.ok.cab x c hfn hc)))).trans e1⟩
  ·by_cases hj:j=i
   ·subst hj
    rw [hi] at e1;cases e1
    rw [List.getElem?_set_self hiσ] at e2
    cases e2
    exact ⟨u,r,.inr ⟨.inl hk,c,hc,hc'⟩⟩
   ·rw [List.getElem?_set_ne (Ne.symm hj)] at e2
    obtain ⟨u',r',q⟩:=hl j y v' e1 e2 e3
    refine ⟨u',r',?_⟩
    rcases q with q | ⟨k,c',e,z'⟩
    ·exact .inl q
    ·refine .inr ⟨k,c',e,z'.sameBut hs ?_⟩
     rintro rfl
     exact hj (Z4 hN e1 (I.ok.inj _ _ _ e hc ▸ hi))
  ·by_cases hcc:c'=c
   ·subst hcc;exact ⟨_,hc'⟩
   ·obtain ⟨w2,z2⟩:=I.cell y c' e
    exact ⟨w2,z2.sameBut hs hcc⟩
  ·obtain ⟨e,n,ne,nf,d⟩:=I.pin p hp
   refine ⟨(hs.2 p.1 ?_).trans e,n,ne,nf,d⟩
   intro q
   rw [q,hoc] at e
   have q':oc=p.2:=Option.some.inj e
   exact d w' (by rw [← q'];exact hocd)
theorem qP {M:Model} {A:Around} {E:Value→Shared→Prop} {i:Nat} {x:Str} {v:V} {u:Value} {Q:Unit→Shared→Prop} (I:Inv X pins σ H s) (hN:X.N.Nodup) (hi:X.N[i]?=some x) (hx:Loc X.env.scope x) (r:RelV v u)
  (h:∀ s',Inv X pins (σ.set i (some v)) H s'→Q () s') (hf:X.fn x=true∨X.env.scope.names.lookup x=some .local:=by first | exact .inl rfl | exact .inr rfl | assumption):wpAny M A (storeName X.env x u) Q E s :=
 Xo I hN hi hx r (fun s' I' _=>h s' I') hf
theorem Inv.call' {s':Shared} {ch:List Addr} (I:Inv X pins σ H s) (ho:s'.os=s.os) (u:Un (frs X.stack) ch H H' s.heap s'.heap) (hok:HOk X.prog X.w H' s'.heap) (hg:AllBare s'.gens)
  (hch:∀ b∈ch,(b∈X.ex∨X.s₀.heap.objs.size≤b)∧b≠X.env.locals∧(∀ x c,X.env.cells.lookup x=some c→c≠b)∧∀ p∈X.pn ++ pins,p.1≠b):Inv X pins σ H' s':=by
 obtain ⟨h',g',d',t',o'⟩:=s'
 have e:o'=s.os:=ho
 subst e
 exact I.call (g':=g') (t':=t') (d':=d') u hok hg hch
end
abbrev XK:=Value→Option Addr→Hp→Prop
abbrev St:=List (Option V)
abbrev VK:=V→Hp→Prop
abbrev TE:=St→Hp→VK→Prop
abbrev TT:=St→Hp→(Bool→Hp→Prop)→Prop
abbrev TA:=St→Hp→(List V→Hp→Prop)→Prop
set_option genSizeOf false in
set_option genInjectivity false in
structure ko where
 nx:St→Hp→Prop
 rt:VK
 bk:St→Hp→Prop:=fun _ _=>False
 ct:St→Hp→Prop:=fun _ _=>False
abbrev TS:=ko→St→Hp→Prop
def EP (X:Cx) (pins:List (Addr × Obj)) (σ:St) (Q:VK) (u:Value) (s':Shared):Prop:=∃ v H',Inv X pins σ H' s'∧RelV v u∧Q v H'
def TP (X:Cx) (pins:List (Addr × Obj)) (σ:St) (Q:Bool→Hp→Prop) (b:Bool) (s':Shared):Prop:=∃ H',Inv X pins σ H' s'∧Q b H'
def AP (X:Cx) (pins:List (Addr × Obj)) (σ:St) (Q:List V→Hp→Prop) (us:List Value) (s':Shared):Prop:=∃ vs H',Inv X pins σ H' s'∧Vals vs us∧Q vs H'
def SP (X:Cx) (pins:List (Addr × Obj)) (D:ko) (f:Flow) (s':Shared):Prop :=
 match f with
 | .next=>∃ σ' H',Inv X pins σ' H' s'∧D.nx σ' H'
 | .brk=>∃ σ' H',Inv X pins σ' H' s'∧D.bk σ' H'
 | .cont=>∃ σ' H',Inv X pins σ' H' s'∧D.ct σ' H'
 | .ret u=>∃ v σ' H',Inv X pins σ' H' s'∧RelV v u∧D.rt v H'
def PE (X:Cx) (e:Expr) (t:TE):Prop :=
 ∀ (pins:List (Addr × Obj)) (s:Shared) (σ:St) (H:Hp) (Q:VK),Inv X pins σ H s→t σ H Q→wpAny (model X.prog X.w) X.A (eval e X.env) (EP X pins σ Q) X.xe s
def PT (X:Cx) (e:Expr) (t:TT):Prop :=
 ∀ (pins:List (Addr × Obj)) (s:Shared) (σ:St) (H:Hp) (Q:Bool→Hp→Prop),Inv X pins σ H s→t σ H Q→wpAny (model X.prog X.w) X.A (isTrue e X.env (eval e X.env)) (TP X pins σ Q) X.xe s
def PW (X:Cx) (e:Expr) (t:TT):Prop :=
 ∀ (whole:Sem Value) (pins:List (Addr × Obj)) (s:Shared) (σ:St) (H:Hp) (Q:Bool→Hp→Prop),Inv X pins σ H s→t σ H Q→wpAny (model X.prog X.w) X.A (isTrue e X.env whole) (TP X pins σ Q) X.xe s
theorem PW.pt {X:Cx} {e:Expr} {t:TT} (h:PW X e t):PT X e t:=h _
def PA (X:Cx) (es:List Expr) (t:TA):Prop :=
 ∀ (pos:Pos) (pins:List (Addr × Obj)) (s:Shared) (σ:St) (H:Hp) (Q:List V→Hp→Prop),Inv X pins σ H s→t σ H Q→wpAny (model X.prog X.w) X.A (spliced (backTo pos (starEach es X.env))) (AP X pins σ Q) X.xe s
def PS (X:Cx) (st:Stmt) (t:TS):Prop :=
 ∀ (pins:List (Addr × Obj)) (s:Shared) (σ:St) (H:Hp) (D:ko),Inv X pins σ H s→t D σ H→wpAny (model X.prog X.w) X.A (exec st X.env) (SP X pins D) X.xe s
def PSs (X:Cx) (st:List Stmt) (t:TS):Prop :=
 ∀ (pins:List (Addr × Obj)) (s:Shared) (σ:St) (H:Hp) (D:ko),Inv X pins σ H s→t D σ H→wpAny (model X.prog X.w) X.A (execs st X.env) (SP X pins D) X.xe s
theorem thn {α:Type} {t:Sem α} {Q Q':α→Shared→Prop} {M:Model} {A:Around} {E:Value→Shared→Prop} {s:Shared} (h:wpAny M A t Q E s) (hQ:∀ a s,Q a s→Q' a s):wpAny M A t Q' E s:=wpAny_mono h hQ fun _ _ x=>x
end L2
namespace L2
open PySem PySem.Spec PyProof.Rows
section
variable {X:Cx}
def zg (i:Nat):TE:=fun σ H Q=>∃ v,σ[i]?=some (some v)∧Q v H
def tC (v:V):TE:=fun _ H Q=>Q v H
theorem zdv {i:Nat} {x:Str} {pos:Pos} (hN:X.N[i]?=some x) (hv:Vis X.env.scope x) (hd:(x == ("__debug__":Str))=false:=by decide) (hcd:(x == ("__classdict__":Str))=false:=by decide):PE X (.Name x pos) (zg i):=by
 intro pins s σ H Q I h
 obtain ⟨v,e,h⟩:=h
 obtain ⟨m,hn,hl⟩:=I.loc
 obtain ⟨u,r,l⟩:=hl i x v hN e hv
 have fin:EP X pins σ Q u s:=⟨v,H,I,r,h⟩
 rcases l with ⟨hk,hm⟩ | ⟨hk,c,hc,hcell⟩
 ·exact wpAny_Name (wpAny_loadName_local I.ok.kind hk hn hm fin) hd
 ·rcases hk with hk | hk
  ·exact wpAny_Name (wpAny_loadName_cell I.ok.kind hk hc hcell fin) hd
  ·exact wpAny_Name (wpAny_loadName_free I.ok.kind hk hc hcell fin hcd) hd
theorem zf {i j pos}:PE X (.Constant (.int i) j pos) (tC (.int i)):=fun _ _ _ H _ I h=>wpAny_Constant_int ⟨.int i,H,I.tok _,⟨_,rfl⟩,h⟩
theorem kt {b j pos}:PE X (.Constant (.bool b) j pos) (tC (.bl b)):=fun _ _ _ H _ I h=>Constant_bool ⟨.bl b,H,I,rfl,h⟩
theorem zx {x j pos}:PE X (.Constant (.str x) j pos) (tC (.str x)):=fun _ _ _ H _ I h=>Calls.Constant_str ⟨.str x,H,I.tok _,⟨_,rfl⟩,h⟩
def Gl (X:Cx) (x:Str):Prop:=X.env.kindOf x=some .globalImplicit
theorem vS {E:Value→Shared→Prop} {pins:List (Addr × Obj)} {s:Shared} {σ:St} {H:Hp} {x:Str} {u:Value} {pos:Pos} {Q:Value→Shared→Prop} (I:Inv X pins σ H s) (hg:Gl X x) (hm:X.mg x=some u) (h:Q u s)
  (hd:(x == ("__debug__":Str))=false:=by decide):wpAny (model X.prog X.w) X.A (eval (.Name x pos) X.env) Q E s :=
 Calls.Name_function_global I.ok.kind hg (Calls.loadGlobal_global (by rw [I.ok.glob];exact I.mod.glob.keeps I.bk) hm h) hd
theorem Zs {E:Value→Shared→Prop} {pins:List (Addr × Obj)} {s:Shared} {σ:St} {H:Hp} {x:Str} {u:Value} {pos:Pos} {Q:Value→Shared→Prop} (I:Inv X pins σ H s) (hg:Gl X x) (hm:X.mg x=none) (hv:bootBuiltins x=some u) (h:Q u s)
  (hn:x≠"__name__":=by decide) (hd:(x == ("__debug__":Str))=false:=by decide):wpAny (model X.prog X.w) X.A (eval (.Name x pos) X.env) Q E s:=by
 obtain ⟨mb,h1,h2⟩:=I.mod.blt
 exact Calls.Name_function_global I.ok.kind hg (Calls.loadGlobal_builtin (by rw [I.ok.glob];exact I.mod.glob.keeps I.bk) hm (by rw [I.ok.blt];exact h1.keeps I.bk) ((h2 x hn).trans hv) h) hd
theorem yC {x:Str} {v:V} {u:Value} {pos:Pos} (hg:Gl X x) (hm:X.mg x=some u) (r:RelV v u) (hd:(x == ("__debug__":Str))=false:=by decide):PE X (.Name x pos) (tC v) :=
 fun _ _ _ H _ I h=>vS I hg hm ⟨v,H,I,r,h⟩ hd
theorem ZT {x:Str} {v:V} {u:Value} {pos:Pos} (hg:Gl X x) (hm:X.mg x=none) (hv:bootBuiltins x=some u) (r:RelV v u) (hn:x≠"__name__":=by decide) (hd:(x == ("__debug__":Str))=false:=by decide):PE X (.Name x pos) (tC v) :=
 fun _ _ _ H _ I h=>Zs I hg hm hv ⟨v,H,I,r,h⟩ hn hd
variable {a b:Expr} {ta tb:TE} {pos:Pos}
def tB (t:TE):TT:=fun σ H Q=>t σ H fun x H1=>∃ c,x=.bl c∧Q c H1
theorem v6 {e:Expr} {t:TE} (h:PE X e t) (he:∀ whole,isTrue e X.env whole=(do let v ← whole;standAt e.pos;holding [v] (truthy v)):=by intro _;rfl):PT X e (tB t):=by
 intro pins s σ H Q I hw
 refine isTrue_plain (thn (h pins s σ H _ I hw) fun v s1 ⟨x,H1,I1,r1,q1⟩=>?_) (he _)
 obtain ⟨d,rfl,q⟩:=q1
 cases r1
 exact wpAny_truthy_bool ⟨H1,I1,q⟩
variable {tA tB':TT} {rest:List Expr}
def xq (t u:TT):TT:=fun σ H Q=>t σ H fun c H1=>if c=true then u σ H1 Q else Q false H1
def tOr (t u:TT):TT:=fun σ H Q=>t σ H fun c H1=>if c=true then Q true H1 else u σ H1 Q
def jJ (t:TT):TT:=fun σ H Q=>t σ H fun c H1=>Q (!c) H1
theorem wR (ha:PT X a tA):PW X (.BoolOp .And [a] pos) tA:=by
 intro wh pins s σ H Q I h
 refine isTrue_and (thn (ha pins s σ H Q I h) fun c s1 e=>?_)
 cases c with
 | true=>exact isTrue_and_nil e
 | false=>exact e
theorem qf (ha:PT X a tA):PW X (.BoolOp .Or [a] pos) tA:=by
 intro wh pins s σ H Q I h
 refine isTrue_or (thn (ha pins s σ H Q I h) fun c s1 e=>?_)
 cases c with
 | false=>exact isTrue_or_nil e
 | true=>exact e
theorem wq (ha:PT X a tA) (hb:PW X (.BoolOp .And (b :: rest) pos) tB'):PW X (.BoolOp .And (a :: b :: rest) pos) (xq tA tB'):=by
 intro wh pins s σ H Q I h
 refine isTrue_and (thn (ha pins s σ H _ I h) fun c s1 ⟨H1,I1,q1⟩=>?_)
 cases c with
 | true=>exact hb wh pins s1 σ H1 Q I1 q1
 | false=>exact ⟨H1,I1,q1⟩
theorem Z5 (ha:PT X a tA) (hb:PW X (.BoolOp .Or (b :: rest) pos) tB'):PW X (.BoolOp .Or (a :: b :: rest) pos) (tOr tA tB'):=by
 intro wh pins s σ H Q I h
 refine isTrue_or (thn (ha pins s σ H _ I h) fun c s1 ⟨H1,I1,q1⟩=>?_)
 cases c with
 | true=>exact ⟨H1,I1,q1⟩
 | false=>exact hb wh pins s1 σ H1 Q I1 q1
theorem qg (ha:PT X a tA):PT X (.UnaryOp .Not a pos) (jJ tA):=by
 intro pins s σ H Q I h
 exact isTrue_not (ha pins s σ H (fun c H1=>Q (!c) H1) I h)
def qc (ta tb:TE):TE:=fun σ H Q=>ta σ H fun x H1=>∃ c,x=.bl c∧if c=true then tb σ H1 Q else Q (.bl false) H1
def zfJ (ta tb:TE):TE:=fun σ H Q=>ta σ H fun x H1=>∃ c,x=.bl c∧if c=true then Q (.bl true) H1 else tb σ H1 Q
def W0 (ta:TE):TE:=fun σ H Q=>ta σ H fun x H1=>∃ c,x=.bl c∧Q (.bl (!c)) H1
theorem Wi {op} {t:TE} (h:PE X a t):PE X (.BoolOp op [a] pos) t:=fun pins s σ H Q I hw=>BoolOp_one (h pins s σ H Q I hw)
theorem Z6 (ha:PE X a ta) (hb:PE X (.BoolOp .And (b :: rest) pos) tb):PE X (.BoolOp .And (a :: b :: rest) pos) (qc ta tb):=by
 intro pins s σ H Q I h
 refine BoolOp_and (thn (ha pins s σ H _ I h) fun v s1 ⟨x,H1,I1,r1,q1⟩=>?_)
 obtain ⟨c,rfl,q1⟩:=q1
 cases r1
 refine wpAny_truthy_bool ?_
 cases c with
 | true=>exact hb pins s1 σ H1 Q I1 q1
 | false=>exact ⟨.bl false,H1,I1,rfl,q1⟩
theorem QR (ha:PE X a ta):PE X (.UnaryOp .Not a pos) (W0 ta):=by
 intro pins s σ H Q I h
 refine UnaryOp_ (thn (ha pins s σ H _ I h) fun v s1 ⟨x,H1,I1,r1,q1⟩=>?_)
 obtain ⟨c,rfl,q1⟩:=q1
 cases r1
 exact not_of (wpAny_truthy_bool ⟨.bl (!c),H1,I1,rfl,q1⟩)
def tIf (t:TT) (ta tb:TE):TE:=fun σ H Q=>t σ H fun c H1=>if c=true then ta σ H1 Q else tb σ H1 Q
theorem W1 {c:Expr} (hc:PT X c tA) (ha:PE X a ta) (hb:PE X b tb):PE X (.IfExp c a b pos) (tIf tA ta tb):=by
 intro pins s σ H Q I h
 refine wpAny_IfExp (thn (hc pins s σ H _ I h) fun d s1 ⟨H1,I1,q1⟩=>?_)
 cases d with
 | true=>exact ha pins s1 σ H1 Q I1 q1
 | false=>exact hb pins s1 σ H1 Q I1 q1
end
end L2
namespace L2
open PySem PySem.Spec PyProof.Rows
def SqL (K:W.Frag) (H:Hp) (a:Addr) (xs:List V):Prop :=
 Rd H a (.lst xs) ∨
  ∃ (o:Obj) (its:Array Value) (n:Nat),K.lookup a=some o∧o.cls=.type "list"∧o.dict=none∧o.data=.seq its n∧its.size≤sizeLine∧Vals xs its.toList
def SqT (K:W.Frag) (H:Hp) (a:Addr) (xs:List V):Prop :=
 Rd H a (.tup xs) ∨
  ∃ (o:Obj) (its:Array Value) (n:Nat),K.lookup a=some o∧o.cls=.type "tuple"∧o.data=.seq its n∧its.size≤sizeLine∧Vals xs its.toList
def zeK:Value→Option V
 | .none=>some .non
 | .bool b=>some (.bl b)
 | .int i _=>some (.int i)
 | .str x _=>some (.str x)
 | .bytes b _=>some (.byt b)
 | .float b _=>some (.flt b)
 | .ref a=>some (.ref a)
 | .type n=>some (.ty n)
 | _=>none
theorem RelV.abs {x:V} {u:Value} (r:RelV x u):zeK u=some x:=by
 cases x with
 | non=>cases r;rfl
 | bl _=>cases r;rfl
 | int _=>obtain ⟨t,rfl⟩:=r;rfl
 | str _=>obtain ⟨t,rfl⟩:=r;rfl
 | byt _=>obtain ⟨t,rfl⟩:=r;rfl
 | flt _=>obtain ⟨t,rfl⟩:=r;rfl
 | ref _=>cases r;rfl
 | ty _=>cases r;rfl
theorem RelV.inj {x y:V} {u:Value} (r:RelV x u) (q:RelV y u):x=y:=Option.some.inj (r.abs.symm.trans q.abs)
theorem Vals.inj:∀ {xs ys:List V} {us:List Value},Vals xs us→Vals ys us→xs=ys
 | _,_,_,.nil,.nil=>rfl
 | _,_,_,.cons r t,.cons r' t'=>by rw [r.inj r',Vals.inj t t']
section
variable {X:Cx} {pins:List (Addr × Obj)} {σ:St} {H:Hp} {s:Shared} {a:Addr} {xs ys:List V}
theorem SqL.of {K:W.Frag} (h:H a=some (.lst xs)):SqL K H a xs:=.inl (.inl h)
theorem SqT.of {K:W.Frag} (h:H a=some (.tup xs)):SqT K H a xs:=.inl (.inl h)
theorem Inv.list (I:Inv X pins σ H s) (h:SqL X.K H a xs):∃ its:List Value,Vals xs its∧PlainL s.heap a its.toArray∧xs.length≤sizeLine:=by
 rcases h with h | ⟨o,its,n,hk,hc,hd,hs,hz,r⟩
 ·obtain ⟨z,its,n,r,e⟩:=h.ok I.hok
  exact ⟨its,r,⟨_,n,e,rfl,rfl,rfl⟩,z⟩
 ·refine ⟨its.toList,r,⟨o,n,I.kIn a o hk,hc,hd,by simpa using hs⟩,?_⟩
  have e:=r.length
  simp only [Array.length_toList] at e
  omega
theorem Inv.tuple (I:Inv X pins σ H s) (h:SqT X.K H a xs):∃ its:List Value,Vals xs its∧IsTup s.heap a its.toArray∧xs.length≤sizeLine:=by
 rcases h with h | ⟨o,its,n,hk,hc,hs,hz,r⟩
 ·obtain ⟨z,its,r,p⟩:=h.ok I.hok
  exact ⟨its,r,p,z⟩
 ·refine ⟨its.toList,r,⟨o,I.kIn a o hk,hc,n,by simpa using hs⟩,?_⟩
  have e:=r.length
  simp only [Array.length_toList] at e
  omega
theorem Inv.list_inj (I:Inv X pins σ H s) (h:SqL X.K H a xs) (h':SqL X.K H a ys):xs=ys:=by
 obtain ⟨its,r,⟨o,n,e,_,_,d⟩,_⟩:=I.list h
 obtain ⟨its',r',⟨o',n',e',_,_,d'⟩,_⟩:=I.list h'
 rw [e] at e';cases e'
 rw [d] at d'
 injection d' with d1 _
 have:its=its':=by simpa using congrArg Array.toList d1
 subst this
 exact r.inj r'
end
abbrev Cx.wish (X:Cx) (E:Value→Shared→Prop):Cx:={ X with xe:=E }
abbrev Cx.nox (X:Cx):Cx:=X.wish fun _ _=>False
theorem Cx.Ok.wish {X:Cx} (ok:X.Ok) (E:Value→Shared→Prop):(X.wish E).Ok :=
 ⟨ok.mod,ok.kind,ok.glob,ok.blt,ok.above,ok.inj,ok.has,ok.cab,ok.hd,ok.frames,ok.stk,ok.exf,ok.bs,ok.bsz,ok.noex,ok.exfs,ok.funs,ok.frf⟩
theorem Cx.Ok.unwish {X:Cx} {E:Value→Shared→Prop} (ok:(X.wish E).Ok):X.Ok :=
 ⟨ok.mod,ok.kind,ok.glob,ok.blt,ok.above,ok.inj,ok.has,ok.cab,ok.hd,ok.frames,ok.stk,ok.exf,ok.bs,ok.bsz,ok.noex,ok.exfs,ok.funs,ok.frf⟩
section
variable {X:Cx} {pins:List (Addr × Obj)} {σ:St} {H:Hp} {s:Shared} {E:Value→Shared→Prop}
theorem Inv.wish (I:Inv X pins σ H s) (E:Value→Shared→Prop):Inv (X.wish E) pins σ H s:=⟨I.ok.wish E,I.os,I.bare,I.base,I.loc,I.cell,I.free,I.freeC,I.pin,I.hok,I.len⟩
theorem Inv.unwish (I:Inv (X.wish E) pins σ H s):Inv X pins σ H s:=⟨I.ok.unwish,I.os,I.bare,I.base,I.loc,I.cell,I.free,I.freeC,I.pin,I.hok,I.len⟩
theorem SP.unwish {D:ko} {f:Flow} {s':Shared} (h:SP (X.wish E) pins D f s'):SP X pins D f s':=by
 cases f with
 | next=>obtain ⟨σ',H',I,q⟩:=h;exact ⟨σ',H',I.unwish,q⟩
 | brk=>obtain ⟨σ',H',I,q⟩:=h;exact ⟨σ',H',I.unwish,q⟩
 | cont=>obtain ⟨σ',H',I,q⟩:=h;exact ⟨σ',H',I.unwish,q⟩
 | ret u=>obtain ⟨v,σ',H',I,r,q⟩:=h;exact ⟨v,σ',H',I.unwish,r,q⟩
theorem PSs.nox {st:List Stmt} {t:TS} (h:PSs X.nox st t):PSs X st t:=fun pins s σ H D I hw =>
 wpAny_mono (h pins s σ H D (I.wish _) hw) (fun _ _ q=>q.unwish) fun _ _ z=>False.elim z
end
section
variable {X:Cx} {st:Stmt} {rest:List Stmt} {t u:TS} {e:Expr} {te:TE} {pos:Pos}
def zy:TS:=fun D σ H=>D.nx σ H
def zv (t u:TS):TS:=fun D σ H=>t { D with nx:=u D } σ H
theorem zJ:PSs X [] zy:=fun _ _ σ H _ I h=>wpAny_execs_nil ⟨σ,H,I,h⟩
theorem zh (h1:PS X st t) (h2:PSs X rest u):PSs X (st :: rest) (zv t u):=by
 intro pins s σ H D I h
 refine wpAny_execs_cons (thn (h1 pins s σ H { D with nx:=u D } I h) fun f s1 q=>?_)
 cases f with
 | next =>
  obtain ⟨σ',H',I',q⟩:=q
  exact h2 pins s1 σ' H' D I' q
 | ret v=>exact q
 | brk=>exact q
 | cont=>exact q
theorem zr (h1:PS X st t):PSs X [st] t:=by
 intro pins s σ H D I h
 refine wpAny_execs_cons (thn (h1 pins s σ H D I h) fun f s1 q=>?_)
 cases f with
 | next=>exact wpAny_execs_nil q
 | ret v=>exact q
 | brk=>exact q
 | cont=>exact q
theorem Inv.quiet {pins:List (Addr × Obj)} {σ:St} {H:Hp} {s:Shared} (I:Inv X pins σ H s):interactive X.env=false:=by simp [interactive,I.ok.kind]
def Z7 (te:TE):TS:=fun D σ H=>te σ H fun _ H1=>D.nx σ H1
theorem J9 (he:PE X e te) (hs:swapsWith e none pos.line X.env=pure false:=by rfl):PS X (.Expr e pos) (Z7 te):=by
 intro pins s σ H D I h
 exact wpAny_Expr_any (thn (he pins s σ H _ I h) fun v s1 ⟨x,H1,I1,r1,q1⟩=>⟨σ,H1,I1,q1⟩) I.quiet hs
def zC (te:TE):TS:=fun D σ H=>te σ H D.rt
theorem zK (he:PE X e te):PS X (.Return (some e) pos) (zC te):=by
 intro pins s σ H D I h
 exact wpAny_Return_some (thn (he pins s σ H _ I h) fun v s1 ⟨x,H1,I1,r1,q1⟩=>⟨x,σ,H1,I1,r1,q1⟩)
def zfb:TS:=fun D _ H=>D.rt .non H
def zL (c:TT) (t u:TS):TS:=fun D σ H=>c σ H fun b H1=>if b=true then t D σ H1 else u D σ H1
theorem yd {c:Expr} {a b:List Stmt} {tc:TT} (hc:PT X c tc) (ha:PSs X a t) (hb:PSs X b u):PS X (.If c a b pos) (zL tc t u):=by
 intro pins s σ H D I h
 refine wpAny_If (thn (hc pins s σ H _ I h) fun d s1 ⟨H1,I1,q1⟩=>?_)
 cases d with
 | true=>exact ha pins s1 σ H1 D I1 q1
 | false=>exact hb pins s1 σ H1 D I1 q1
def zeL:TS:=fun _ _ _=>False
end
abbrev TG:=V→St→Hp→(St→Hp→Prop)→Prop
abbrev TGs:=List V→St→Hp→(St→Hp→Prop)→Prop
def PG (X:Cx) (target:Expr) (t:TG):Prop :=
 ∀ (pins:List (Addr × Obj)) (s:Shared) (σ:St) (H:Hp) (v:V) (u:Value) (Q:St→Hp→Prop),Inv X pins σ H s→RelV v u→t v σ H Q →
  wpAny (model X.prog X.w) X.A (assign target X.env u) (fun _ s'=>∃ σ' H',Inv X pins σ' H' s'∧Q σ' H') X.xe s
def PGs (X:Cx) (ts:List Expr) (t:TGs):Prop :=
 ∀ (pins:List (Addr × Obj)) (s:Shared) (σ:St) (H:Hp) (vs:List V) (us:List Value) (Q:St→Hp→Prop),Inv X pins σ H s→Vals vs us→t vs σ H Q →
  wpAny (model X.prog X.w) X.A (assignInOrder ((assignEach ts X.env).map (·.2)) us) (fun _ s'=>∃ σ' H',Inv X pins σ' H' s'∧Q σ' H') X.xe s
abbrev TIp:=V→V→Hp→VK→Prop
section
variable {X:Cx} {pos:Pos}
def zo (i:Nat):TG:=fun v σ H Q=>Q (σ.set i (some v)) H
theorem yE {i:Nat} {x:Str} (hN:X.N.Nodup) (hi:X.N[i]?=some x) (hx:Loc X.env.scope x) (hf:X.fn x=true∨X.env.scope.names.lookup x=some .local:=by first | exact .inl rfl | exact .inr rfl | assumption):PG X (.Name x pos) (zo i):=by
 intro pins s σ H v u Q I r h
 exact wpAny_assign_Name (qP I hN hi hx r (fun s' I'=>⟨_,H,I',h⟩) hf)
def Y0:TGs:=fun vs σ H Q=>vs=[]∧Q σ H
def jv (t:TG) (u:TGs):TGs:=fun vs σ H Q=>∃ v r,vs=v :: r∧t v σ H fun σ' H'=>u r σ' H' Q
theorem Wj:PGs X [] Y0:=by
 intro pins s σ H vs us Q I r h
 obtain ⟨e,h⟩:=h
 subst e
 cases r
 exact assignInOrder_nil ⟨σ,H,I,h⟩
theorem jx {e:Expr} {es:List Expr} {t:TG} {u:TGs} (h1:PG X e t) (h2:PGs X es u)
  (hs:(assignEach (e :: es) X.env).map (·.2)=assign e X.env :: (assignEach es X.env).map (·.2):=by rfl):PGs X (e :: es) (jv t u):=by
 intro pins s σ H vs us Q I r h
 obtain ⟨v,vr,e1,h⟩:=h
 subst e1
 cases r with
 | cons r rr =>
  rw [hs]
  refine assignInOrder_cons (thn (h1 pins s σ H _ _ _ I r h) fun _ s1 ⟨σ1,H1,I1,q1⟩=>?_)
  exact h2 pins s1 σ1 H1 _ _ Q I1 rr q1
def Y1 (K:W.Frag) (n:Nat) (t:TGs):TG:=fun v σ H Q=>∃ a xs,v=.ref a∧SqT K H a xs∧xs.length=n∧t xs σ H Q
theorem Je {es:List Expr} {k:Nat} {t:TGs} {n:Nat} (hc:X.calm=true) (h:PGs X es t)
  (hn:(assignEach es X.env).length=n:=by rfl) (hst:(assignEach es X.env).findIdx? (·.1)=none:=by rfl):PG X (.Tuple es k pos) (Y1 X.K n t):=by
 intro pins s σ H v u Q I r hw
 obtain ⟨a,xs,e1,hq,hl,hw⟩:=hw
 subst e1
 cases r
 obtain ⟨its,rv,ht,hz⟩:=I.tuple hq
 refine assign_Tuple_tuple (I.ok.hd hc) ht (by simp [hn,← hl,rv.length]) hst fun h' hx=>?_
 have I1:Inv X pins σ H { s with heap:=h' }:=I.kept (t':=s.toks) fun b o e=>hx b o (Nat.ne_of_lt (Heap.lt_size e)) e
 exact h pins _ σ H xs _ Q I1 (by simpa using rv) hw
def zE (te:TE) (g:TG):TS:=fun D σ H=>te σ H fun x H1=>g x σ H1 D.nx
theorem zD {i:Nat} {x:Str} {e:Expr} {te:TE} {pos':Pos} (hN:X.N.Nodup) (hi:X.N[i]?=some x) (hx:Loc X.env.scope x) (he:PE X e te) (hs:swapsWith e (some (.Name x pos')) pos.line X.env=pure false:=by rfl) (hf:X.fn x=true∨X.env.scope.names.lookup x=some .local:=by first | exact .inl rfl | exact .inr rfl | assumption) :
  PS X (.Assign [.Name x pos'] e pos) (zE te (zo i)):=by
 intro pins s σ H D I h
 refine wpAny_Assign_Name (thn (he pins s σ H _ I h) fun v s1 ⟨y,H1,I1,r1,q1⟩=>?_) hs
 exact qP I1 hN hi hx r1 (fun s2 I2=>⟨_,H1,I2,q1⟩) hf
def zfK (i:Nat) (te:TE) (ti:TIp):TS:=fun D σ H=>∃ x,σ[i]?=some (some x)∧te σ H fun y H1=>ti x y H1 fun z H2=>D.nx (σ.set i (some z)) H2
def ipI (f:Int→Int→Int):TIp:=fun x y H Q=>∃ i j,x=.int i∧y=.int j∧Q (.int (f i j)) H
end
section
variable {X:Cx} {pos:Pos}
end
set_option genSizeOf false in
set_option genInjectivity false in
structure It where
 go:Nat→Hp→Prop
 yld:Nat→Hp→V→Hp→Prop
 stop:Nat→Hp→Prop
def jK (X:Cx) (pins:List (Addr × Obj)) (H:Hp) (b:Addr):Prop :=
 H b=none∧b≠X.env.locals∧b ∉ X.fs∧(b∈X.ex∨X.s₀.heap.objs.size≤b)∧(∀ x c,X.env.cells.lookup x=some c→c≠b)∧∀ p∈X.pn ++ pins,p.1≠b
theorem Inv.fpOk {X:Cx} {pins:List (Addr × Obj)} {σ:St} {H H':Hp} {s:Shared} {b:Addr} (I:Inv X pins σ H s) (hb:s.heap.objs.size≤b) (hn:H' b=none):jK X pins H' b:=by
 refine ⟨hn,Nat.ne_of_gt (Nat.lt_of_lt_of_le I.lt hb),I.nofs hb,.inr (Nat.le_trans I.sz hb),fun x c e z=>?_,fun p hp z=>?_⟩
 ·obtain ⟨v,q⟩:=I.cell x c e
  exact absurd (Nat.lt_of_lt_of_le q.lt (by rw [z];exact hb)) (Nat.lt_irrefl _)
 ·exact absurd (Nat.lt_of_lt_of_le (Heap.lt_size (I.pin p hp).1) (by rw [z];exact hb)) (Nat.lt_irrefl _)
structure K7 (P:Program) (w:World) (K:W.Frag) (tg:Expr) (J:It) (fp:List Addr) (it:Addr) (tn:Nat→Heap→Prop):Prop where
 mem:it∈fp
 obj:∀ i h,tn i h→∀ b∈fp,∃ o,h.get? b=some o∧∀ v,o.data≠.cell v
 keep:∀ i h h',tn i h→(∀ b∈fp,∀ o,h.get? b=some o→h'.get? b=some o)→tn i h'
 item:∀ (X:Cx),X.prog=P→X.w=w→X.K=K→X.calm=true→∀ (i:Nat) (pins:List (Addr × Obj)) (s:Shared) (σ:St) (H:Hp) (E:Value→Shared→Prop),Inv X pins σ H s→(∀ b∈fp,jK X pins H b)→tn i s.heap→J.go i H →
  wpAny (model P w) X.A (pyNext (.ref it)) (fun r s1=>∃ u,r=some u ∧
   wpAny (model P w) X.A (letOwnedTupleGo tg (.ref it) u) (fun _ s2=>∃ x H',Inv X pins σ H' s2∧RelV x u∧J.yld i H x H'∧tn (i + 1) s2.heap∧∀ b∈fp,H' b=none) E s1) E s
 done:∀ (X:Cx),X.prog=P→X.w=w→X.K=K→X.calm=true→∀ (i:Nat) (pins:List (Addr × Obj)) (s:Shared) (σ:St) (H:Hp) (E:Value→Shared→Prop),Inv X pins σ H s→(∀ b∈fp,jK X pins H b)→tn i s.heap→J.stop i H →
  wpAny (model P w) X.A (pyNext (.ref it)) (fun r s1=>r=none∧Inv X pins σ H s1) E s
 self:∀ (A:Around) (i:Nat) (s:Shared) (Q:Value→Shared→Prop) (E:Value→Shared→Prop),tn i s.heap→Q (.ref it) s→wpAny (model P w) A (pyIter (.ref it)) Q E s
abbrev TI:=St→Hp→(It→Hp→Prop)→Prop
def PIE (X:Cx) (pins:List (Addr × Obj)) (σ:St) (tg:Expr) (R:It→Hp→Prop) (itv:Value) (s2:Shared):Prop :=
 ∃ (it:Addr) (fp:List Addr) (tn:Nat→Heap→Prop) (J:It) (H':Hp),itv=.ref it∧Inv X pins σ H' s2∧K7 X.prog X.w X.K tg J fp it tn∧tn 0 s2.heap∧(∀ b∈fp,jK X pins H' b)∧R J H'
def PI (X:Cx) (tg iter:Expr) (wi:TI):Prop :=
 ∀ (pins:List (Addr × Obj)) (s:Shared) (σ:St) (H:Hp) (R:It→Hp→Prop),Inv X pins σ H s→wi σ H R →
  wpAny (model X.prog X.w) X.A (eval iter X.env) (fun v s1=>wpAny (model X.prog X.w) X.A (pyIter v) (PIE X pins σ tg R) X.xe s1) X.xe s
theorem Ka {M:Model} {A:Around} {E:Value→Shared→Prop} {s:Shared} {tg:Expr} {it:Addr} {u:Value} {o:Obj} {n:String} {vs:Array Value} {Q:Unit→Shared→Prop} (ho:s.heap.get? it=some o) (hc:o.cls=.type n) (hd:o.data=.fields vs)
  (hn:["enumerate","zip","dict_itemiterator","dict_reverseitemiterator","odict_iterator","itertools.zip_longest","itertools.pairwise"].contains n=false) (hQ:Q () s):wpAny M A (letOwnedTupleGo tg (.ref it) u) Q E s:=by
 unfold letOwnedTupleGo
 cases tg <;> first
  | exact wpAny_pure hQ
  | (cases u <;> first
      | exact wpAny_pure hQ
      | (refine wpAny_bind (wpAny_load ho ?_)
         rw [hc,hd]
         show wpAny M A (if (["enumerate","zip","dict_itemiterator","dict_reverseitemiterator","odict_iterator","itertools.zip_longest","itertools.pairwise"].contains n && vs[0]? == some (rawInt _))=true then _ else _) Q E s
         rw [if_neg (by intro h;rw [hn,Bool.false_and] at h;cases h)]
         exact wpAny_pure hQ))
def Itl (K:W.Frag) (a:Addr):It :=
 ⟨fun i H=>∃ xs x,SqL K H a xs∧xs[i]?=some x,fun i H x H'=>H'=H∧∀ xs,SqL K H a xs→xs[i]?=some x,fun i H=>∃ xs,SqL K H a xs∧xs.length≤i⟩
def Itt (K:W.Frag) (a:Addr):It :=
 ⟨fun i H=>∃ xs x,SqT K H a xs∧xs[i]?=some x,fun i H x H'=>H'=H∧∀ xs,SqT K H a xs→xs[i]?=some x,fun i H=>∃ xs,SqT K H a xs∧xs.length≤i⟩
def Itr (lo:Int) (n:Nat):It:=⟨fun i _=>i < n,fun i H x H'=>H'=H∧x=.int (lo + i),fun i _=>n≤i⟩
theorem K8 {P:Program} {w:World} {K:W.Frag} {tg:Expr} (a it:Addr):K7 P w K tg (Itl K a) [it] it (fun i h=>h.IsListIter it a i) where
 mem:=by simp
 obj:=fun i h st b hb=>by
  have e:b=it:=by simpa using hb
  subst e
  obtain ⟨o,e,c,d⟩:=st
  exact ⟨o,e,fun v z=>by rw [d] at z;cases z⟩
 keep:=fun i h h' st k=>st.at fun o e=>k it (by simp) o e
 item:=by
  intro X hP hw hK hc i pins s σ H E I hf st hg
  subst hP hw hK
  obtain ⟨xs,x,hq,hx⟩:=hg
  obtain ⟨its,rv,p,hz⟩:=I.list hq
  obtain ⟨u,hu,ru⟩:=rv.get hx
  obtain ⟨f0,f1,f2,f3,f4,f5⟩:=hf it (by simp)
  refine wpAny_pyNext_list_item st p.isList (x:=u) (by simpa using hu) fun h' st' sb=>?_
  have I1:Inv X pins σ H { s with heap:=h' }:=I.turned (t':=s.toks) (fun b o hb e=>(sb.2 b hb).trans e) f0 f1 f3 f4 f5
  obtain ⟨o,e,c,d⟩:=id st'
  exact ⟨u,rfl,Ka (s:={ s with heap:=h' }) e c d (by decide) ⟨x,H,I1,ru,⟨rfl,fun ys hy=>by rw [I.list_inj hy hq];exact hx⟩,st',fun b hb=>(hf b hb).1⟩⟩
 done:=by
  intro X hP hw hK hc i pins s σ H E I hf st hg
  subst hP hw hK
  obtain ⟨xs,hq,hx⟩:=hg
  obtain ⟨its,rv,p,hz⟩:=I.list hq
  obtain ⟨f0,f1,f2,f3,f4,f5⟩:=hf it (by simp)
  have hl:=rv.length
  exact wpAny_pyNext_list_end (I.ok.hd hc) st p.isList (by simp;omega) fun h' eb=>⟨rfl,I.turned (t':=s.toks) (fun b o hb e=>eb b o hb e) f0 f1 f3 f4 f5⟩
 self:=fun _ _ _ _ _ st h=>wpAny_pyIter_listiter st h
theorem Jf {P:Program} {w:World} {K:W.Frag} {tg:Expr} (it:Addr) (lo:Int) (n:Nat):K7 P w K tg (Itr lo n) [it] it (fun i h=>IsRangeIter h it (lo + (i:Nat) * 1) ((n:Int) - (i:Nat)) 1) where
 mem:=by simp
 obj:=fun i h st b hb=>by
  have e:b=it:=by simpa using hb
  subst e
  exact ⟨_,st,fun v z=>by
   have z':Data.fields _=Data.cell v:=z
   cases z'⟩
 keep:=fun i h h' st k=>k it (by simp) _ st
 item:=by
  intro X hP hw hK hc i pins s σ H E I hf st hg
  subst hP hw hK
  obtain ⟨f0,f1,f2,f3,f4,f5⟩:=hf it (by simp)
  have W:=Walks.range (prog:=X.prog) (w:=X.w) (I.ok.hd hc) it lo 1 n
  refine W.item i s _ _ hg st fun v h' tk hv st' kk=>?_
  obtain ⟨t,rfl⟩:=hv
  have I1:Inv X pins σ H { s with heap:=h',toks:=tk }:=I.turned (fun b o hb e=>kk b o (by simpa using hb) e) f0 f1 f3 f4 f5
  refine ⟨_,rfl,Ka (s:={ s with heap:=h',toks:=tk }) (n:="range_iterator") st' rfl rfl (by decide) ⟨.int (lo + i),H,I1,⟨t,?_⟩,⟨rfl,rfl⟩,st',fun b hb=>(hf b hb).1⟩⟩
  rw [Int.mul_one]
 done:=by
  intro X hP hw hK hc i pins s σ H E I hf st hg
  subst hP hw hK
  obtain ⟨f0,f1,f2,f3,f4,f5⟩:=hf it (by simp)
  exact wpAny_pyNext_range_end (I.ok.hd hc) st (by have:n≤i:=hg;omega) fun h' eb=>⟨rfl,I.turned (t':=s.toks) (fun b o hb e=>eb b o hb e) f0 f1 f3 f4 f5⟩
 self:=fun _ _ _ _ _ st h=>wpAny_pyIter_rangeiter st h
end L2
namespace L2
open PySem PySem.Spec PyProof.Rows
section
variable {X:Cx} {tg:Expr}
def xn (K:W.Frag) (tl:TE):TI:=fun σ H R=>tl σ H fun x H1=>∃ a,x=.ref a∧(∃ xs,SqL K H1 a xs)∧R (Itl K a) H1
def zfL (K:W.Frag) (tl:TE):TI:=fun σ H R=>tl σ H fun x H1=>∃ a,x=.ref a∧(∃ xs,SqT K H1 a xs)∧R (Itt K a) H1
theorem kS {l:Expr} {tl:TE} (hl:PE X l tl):PI X tg l (xn X.K tl):=by
 intro pins s σ H R I h
 refine thn (hl pins s σ H _ I h) fun v s1 ⟨x,H1,I1,r1,q1⟩=>?_
 obtain ⟨a,e,⟨xs,hq⟩,q⟩:=q1
 subst e
 cases r1
 obtain ⟨its,rv,p,hz⟩:=I1.list hq
 refine wpAny_pyIter_list p.isList ?_
 refine ⟨s1.heap.objs.size,[s1.heap.objs.size],_,_,H1,rfl,I1.kept (t':=s1.toks) fun b o e=>Heap.get?_push_of_some _ e,K8 a _,⟨_,Heap.get?_push_size _ rfl,rfl,rfl⟩,fun b hb=>?_,q⟩
 have e:b=s1.heap.objs.size:=by simpa using hb
 subst e
 exact I1.fpOk (Nat.le_refl _) (I1.hok.fresh (Nat.le_refl _))
theorem QS {pins:List (Addr × Obj)} {σ:St} {H:Hp} {s:Shared} {R:It→Hp→Prop} {E:Value→Shared→Prop} {lo hi:Int} {t u v:Tok} {tk:Nat} (I:Inv X pins σ H s) (h1:-(2 ^ 62)≤lo) (h2:lo < 2 ^ 62) (h3:-(2 ^ 62)≤hi) (h4:hi < 2 ^ 62)
  (q:R (Itr lo (hi - lo).toNat) H):wpAny (model X.prog X.w) X.A (pyIter (.ref s.heap.objs.size)) (PIE X pins σ tg R) E { s with heap:=s.heap.push { cls:=.type "range",data:=.fields #[.int lo t,.int hi u,.int 1 v] },toks:=tk }:=by
 refine wpAny_pyIter_range (IsRange.new ..) (small_one h1 h2 h3 h4) ?_
 have I1:Inv X pins σ H { s with heap:=s.heap.push { cls:=.type "range",data:=.fields #[.int lo t,.int hi u,.int 1 v] },toks:=tk }:=I.kept fun b o e=>Heap.get?_push_of_some _ e
 refine ⟨(s.heap.push { cls:=.type "range",data:=.fields #[.int lo t,.int hi u,.int 1 v] }).objs.size,[(s.heap.push { cls:=.type "range",data:=.fields #[.int lo t,.int hi u,.int 1 v] }).objs.size],_,_,H,rfl,
  I1.kept (t':=tk) fun b o e=>Heap.get?_push_of_some _ e,Jf _ lo (hi - lo).toNat,?_,fun b hb=>?_,q⟩
 ·have e1:lo + ((0:Nat):Int) * 1=lo:=by simp
  have e2:(((hi - lo).toNat:Nat):Int) - ((0:Nat):Int)=Builtin.Range.rangeSize lo hi 1:=by rw [rangeSize_one];split <;> omega
  show IsRangeIter _ _ (lo + ((0:Nat):Int) * 1) ((((hi - lo).toNat:Nat):Int) - ((0:Nat):Int)) 1
  rw [e1,e2]
  exact Heap.get?_push_size _ rfl
 ·have e:b=(s.heap.push { cls:=.type "range",data:=.fields #[.int lo t,.int hi u,.int 1 v] }).objs.size:=by simpa using hb
  subst e
  exact I1.fpOk (Nat.le_refl _) (I1.hok.fresh (Nat.le_refl _))
def wU (ta:TA):TI:=fun σ H R=>ta σ H fun vs H1=>∃ j:Int,vs=[.int j]∧-(2 ^ 62)≤j∧j < 2 ^ 62∧R (Itr 0 j.toNat) H1
def zfc (ta:TA):TI:=fun σ H R=>ta σ H fun vs H1=>∃ i j:Int,vs=[.int i,.int j]∧(-(2 ^ 62)≤i∧i < 2 ^ 62∧-(2 ^ 62)≤j∧j < 2 ^ 62)∧R (Itr i (j - i).toNat) H1
theorem Zt {a:Expr} {ta:TA} {p pos:Pos} (hg:Gl X "range") (hm:X.mg "range"=none) (ha:PA X [a] ta) (hs:starEach [a] X.env=[(false,eval a X.env)]:=by rfl):PI X tg (.Call (.Name "range" p) [a] [] pos) (wU ta):=by
 intro pins s σ H R I h
 refine Call_ (Zs I hg hm boot_range (PyProof.Rows.callWith_type1 (thn (ha pos pins s σ H _ I h) fun us s1 ⟨vs,H1,I1,r1,q1⟩=>?_) hs rfl))
 obtain ⟨j,e,q1,q2,q⟩:=q1
 subst e
 cases r1 with
 | cons r rr =>
  cases rr
  obtain ⟨t,rfl⟩:=r
  exact call_range_1 (QS I1 (by omega) (by omega) q1 q2 (by simpa using q))
def we (wi:TI) (g:TG) (tb:TS):TS:=fun D σ H=>wi σ H fun J H1=>∃ W:Nat→Nat→St→Hp→Prop,(∃ m,W 0 m σ H1)∧∀ i m σ H,W i m σ H →
 (J.stop i H∧D.nx σ H)∨(J.go i H∧∃ N:St→Hp→Prop,(∀ σ' H',N σ' H'→∃ m',m' < m∧W (i + 1) m' σ' H')∧∀ x H',J.yld i H x H'→g x σ H' fun σ2 H2=>tb { D with nx:=N,ct:=N,bk:=D.nx } σ2 H2)
def Zu (fp:List Addr) (h:Heap):List (Addr × Obj):=fp.filterMap fun b=>(h.get? b).map fun o=>(b,o)
theorem wu {fp:List Addr} {h:Heap} {b:Addr} {o:Obj} (hb:b∈fp) (e:h.get? b=some o):(b,o)∈Zu fp h:=List.mem_filterMap.mpr ⟨b,hb,by rw [e];rfl⟩
theorem K9 {fp:List Addr} {h:Heap} {p:Addr × Obj} (hp:p∈Zu fp h):p.1∈fp∧h.get? p.1=some p.2:=by
 obtain ⟨b,hb,e⟩:=List.mem_filterMap.mp hp
 cases q:h.get? b with
 | none=>rw [q] at e;cases e
 | some o =>
  rw [q] at e
  have e':(b,o)=p:=Option.some.inj e
  subst e'
  exact ⟨hb,q⟩
theorem Inv.pinned {pins:List (Addr × Obj)} {σ:St} {H:Hp} {s:Shared} {fp:List Addr} (I:Inv X pins σ H s) (hf:∀ b∈fp,jK X pins H b) (ho:∀ b∈fp,∃ o,s.heap.get? b=some o∧∀ v,o.data≠.cell v):Inv X (pins ++ Zu fp s.heap) σ H s :=
 I.pins_of fun p hp=>(List.mem_append.mp hp).elim (fun z=>I.pin p (List.mem_append_right _ z)) fun z=>by
  obtain ⟨hb,e⟩:=K9 z
  obtain ⟨f0,f1,f2,_⟩:=hf p.1 hb
  obtain ⟨o,e',d⟩:=ho p.1 hb
  rw [e] at e';cases e'
  exact ⟨e,f0,f1,f2,d⟩
theorem Inv.unpinned {pins pl:List (Addr × Obj)} {σ:St} {H:Hp} {s:Shared} (I:Inv X (pins ++ pl) σ H s):Inv X pins σ H s:=I.pins_of fun p hp=>I.pin p (List.mem_append_right _ (List.mem_append_left _ hp))
theorem ku {iter:Expr} {body:List Stmt} {wi:TI} {g:TG} {tb:TS} {pos:Pos} (hp:PassesOwn (model X.prog X.w) X.A X.env X.xe) (hc:X.calm=true) (hi:PI X tg iter wi) (hg:PG X tg g) (hb:PSs X body tb)
  (hs:∀ x,foldedSetIterable iter X.env x=pure x:=by intro _;rfl):PS X (.For tg iter body [] pos) (we wi g tb):=by
 intro pins s σ H D I h
 refine wpAny_For (thn (hi pins s σ H _ I h) fun v s1 h1=>thn h1 fun itv s2 h2=>?_) hs
 obtain ⟨it,fp,tn,J,H2,e,I2,T,st2,f2,W,⟨m0,w0⟩,turn⟩:=h2
 subst e
 -- what stays true of the iterator's objects through the loop
 have stat:∀ {H':Hp},(∀ b∈fp,H' b=none)→∀ b∈fp,jK X pins H' b:=fun hn b hb=>⟨hn b hb,(f2 b hb).2⟩
 refine codeAny_forLoop_any (fun n s'=>∃ i σ' H',Inv X pins σ' H' s'∧tn i s'.heap∧(∀ b∈fp,H' b=none)∧W i n σ' H') ?_ m0 ⟨0,σ,H2,I2,st2,fun b hb=>(f2 b hb).1,w0⟩
 rintro n s3 ⟨i,σ3,H3,I3,st3,fr3,w3⟩
 rcases turn i n σ3 H3 w3 with ⟨stop,qn⟩ | ⟨go,N,hN,step⟩
 ·refine wpAny_passesOwn hp (thn (T.done X rfl rfl rfl hc i pins s3 σ3 H3 X.xe I3 (stat fr3) st3 stop) fun r s4 ⟨hr,I4⟩=>?_)
  subst hr
  exact wpAny_execs_nil ⟨σ3,H3,I4,qn⟩
 ·refine wpAny_passesOwn hp (thn (T.item X rfl rfl rfl hc i pins s3 σ3 H3 X.xe I3 (stat fr3) st3 go) fun r s4 ⟨u,hr,h4⟩=>?_)
  subst hr
  refine wpAny_passesOwn hp (thn h4 fun _ s5 ⟨x,H5,I5,r5,y5,st5,fr5⟩=>?_)
  have I5':=I5.pinned (stat fr5) (T.obj _ _ st5)
  refine wpAny_passesOwn hp (thn (hg _ s5 σ3 H5 x u _ I5' r5 (step x H5 y5)) fun _ s6 ⟨σ6,H6,I6,q6⟩=>?_)
  refine wpAny_passesOwn hp (thn (hb _ s6 σ6 H6 _ I6 q6) fun f s7 q7=>?_)
  have again:∀ {σ7:St} {H7:Hp},Inv X (pins ++ Zu fp s5.heap) σ7 H7 s7→N σ7 H7→∃ m,m < n∧∃ i σ' H',Inv X pins σ' H' s7∧tn i s7.heap∧(∀ b∈fp,H' b=none)∧W i m σ' H':=fun {σ7 H7} I7 n7=>by
   obtain ⟨m',hm,w7⟩:=hN σ7 H7 n7
   refine ⟨m',hm,i + 1,σ7,H7,I7.unpinned,T.keep _ _ _ st5 fun b hb o e=>(I7.pin (b,o) (List.mem_append_right _ (List.mem_append_right _ (wu hb e)))).1,fun b hb=>?_,w7⟩
   obtain ⟨o,e,d⟩:=T.obj _ _ st5 b hb
   exact (I7.pin (b,o) (List.mem_append_right _ (List.mem_append_right _ (wu hb e)))).2.1
  cases f with
  | next=>obtain ⟨σ7,H7,I7,n7⟩:=q7;exact again I7 n7
  | cont=>obtain ⟨σ7,H7,I7,n7⟩:=q7;exact again I7 n7
  | brk=>obtain ⟨σ7,H7,I7,q7⟩:=q7;exact ⟨σ7,H7,I7.unpinned,q7⟩
  | ret v=>obtain ⟨x7,σ7,H7,I7,r7,q7⟩:=q7;exact ⟨x7,σ7,H7,I7.unpinned,r7,q7⟩
end
end L2
namespace L2
open PySem PySem.Spec PyProof.Rows
abbrev R2:=V→V→Hp→VK→Prop
def OpR (X:Cx) (f:Value→Value→Sem Value) (r:R2):Prop :=
 ∀ (pins:List (Addr × Obj)) (s:Shared) (σ:St) (H:Hp) (x y:V) (v u:Value) (Q:VK),Inv X pins σ H s→RelV x v→RelV y u→r x y H Q →
  wpAny (model X.prog X.w) X.A (f v u) (EP X pins σ Q) X.xe s
def UnR (X:Cx) (f:Value→Sem Value) (r:V→Hp→VK→Prop):Prop :=
 ∀ (pins:List (Addr × Obj)) (s:Shared) (σ:St) (H:Hp) (x:V) (v:Value) (Q:VK),Inv X pins σ H s→RelV x v→r x H Q →
  wpAny (model X.prog X.w) X.A (f v) (EP X pins σ Q) X.xe s
def vq (X:Cx) (f:Value) (r:List V→Hp→VK→Prop):Prop :=
 ∀ (pins:List (Addr × Obj)) (s:Shared) (σ:St) (H:Hp) (xs:List V) (us:List Value) (Q:VK),Inv X pins σ H s→Vals xs us→r xs H Q →
  wpAny (model X.prog X.w) X.A (call f us) (EP X pins σ Q) X.xe s
def tOp (r:R2) (ta tb:TE):TE:=fun σ H Q=>ta σ H fun x H1=>tb σ H1 fun y H2=>r x y H2 Q
def tUn (r:V→Hp→VK→Prop) (ta:TE):TE:=fun σ H Q=>ta σ H fun x H1=>r x H1 Q
def rI (C:Int→Int→Prop) (g:Int→Int→V):R2:=fun x y H Q=>∃ i j,x=.int i∧y=.int j∧C i j∧Q (g i j) H
def rI0 (g:Int→Int→V):R2:=fun x y H Q=>∃ i j,x=.int i∧y=.int j∧Q (g i j) H
def rU (g:Int→V):V→Hp→VK→Prop:=fun x H Q=>∃ i,x=.int i∧Q (g i) H
section
variable {X:Cx} {a b c:Expr} {ta tb tc:TE} {pos:Pos}
theorem zdw (ha:PE X a ta) (hb:PE X b tb) {pins:List (Addr × Obj)} {s:Shared} {σ:St} {H:Hp} {R:V→V→Hp→Prop} (I:Inv X pins σ H s)
  (h:ta σ H fun x H1=>tb σ H1 fun y H2=>R x y H2) {Q:Value→Shared→Prop} {f:Value→Value→Sem Value}
  (hf:∀ v u s2 x y H2,Inv X pins σ H2 s2→RelV x v→RelV y u→R x y H2→wpAny (model X.prog X.w) X.A (f v u) Q X.xe s2) :
  wpAny (model X.prog X.w) X.A (eval a X.env) (fun v s₁=>wpAny (model X.prog X.w) X.A (eval b X.env) (fun u s₂=>wpAny (model X.prog X.w) X.A (f v u) Q X.xe s₂) X.xe s₁) X.xe s:=by
 refine thn (ha pins s σ H _ I h) fun v s1 ⟨x,H1,I1,r1,q1⟩=>?_
 refine thn (hb pins s1 σ H1 _ I1 q1) fun u s2 ⟨y,H2,I2,r2,q2⟩=>?_
 exact hf v u s2 x y H2 I2 r1 r2 q2
theorem zj {op:Operator} {r:R2} (ho:OpR X (binaryOp op) r) (ha:PE X a ta) (hb:PE X b tb):PE X (.BinOp a op b pos) (tOp r ta tb):=by
 intro pins s σ H Q I h
 exact wpAny_BinOp (zdw ha hb I h fun v u s2 x y H2 I2 rx ry q=>ho pins s2 σ H2 x y v u Q I2 rx ry q)
theorem qQ {op:UnaryOp} {r:V→Hp→VK→Prop} (ho:UnR X (unaryOp op) r) (ha:PE X a ta):PE X (.UnaryOp op a pos) (tUn r ta):=by
 intro pins s σ H Q I h
 exact UnaryOp_ (thn (ha pins s σ H _ I h) fun v s1 ⟨x,H1,I1,r1,q1⟩=>ho pins s1 σ H1 x v Q I1 r1 q1)
theorem opI {f:Value→Value→Sem Value} {C:Int→Int→Prop} {g:Int→Int→Int}
  (rule:∀ (i j:Int) (t u:Tok) (s:Shared) (Q:Value→Shared→Prop) (E:Value→Shared→Prop),C i j→Q (.int (g i j) s.toks) { s with toks:=s.toks + 1 }→wpAny (model X.prog X.w) X.A (f (.int i t) (.int j u)) Q E s) :
  OpR X f (rI C fun i j=>.int (g i j)):=by
 intro pins s σ H x y v u Q I rx ry h
 obtain ⟨i,j,rfl,rfl,hc,q⟩:=h
 obtain ⟨t,rfl⟩:=rx
 obtain ⟨t',rfl⟩:=ry
 exact rule i j t t' s _ _ hc ⟨.int (g i j),H,I.tok _,⟨_,rfl⟩,q⟩
theorem zel {f:Value→Value→Sem Value} {g:Int→Int→Int}
  (rule:∀ (i j:Int) (t u:Tok) (s:Shared) (Q:Value→Shared→Prop) (E:Value→Shared→Prop),Q (.int (g i j) s.toks) { s with toks:=s.toks + 1 }→wpAny (model X.prog X.w) X.A (f (.int i t) (.int j u)) Q E s) :
  OpR X f (rI0 fun i j=>.int (g i j)):=by
 intro pins s σ H x y v u Q I rx ry h
 obtain ⟨i,j,rfl,rfl,q⟩:=h
 obtain ⟨t,rfl⟩:=rx
 obtain ⟨t',rfl⟩:=ry
 exact rule i j t t' s _ _ ⟨.int (g i j),H,I.tok _,⟨_,rfl⟩,q⟩
theorem zdx {f:Value→Value→Sem Value} {g:Int→Int→Bool}
  (rule:∀ (i j:Int) (t u:Tok) (s:Shared) (Q:Value→Shared→Prop) (E:Value→Shared→Prop),Q (.bool (g i j)) s→wpAny (model X.prog X.w) X.A (f (.int i t) (.int j u)) Q E s) :
  OpR X f (rI0 fun i j=>.bl (g i j)):=by
 intro pins s σ H x y v u Q I rx ry h
 obtain ⟨i,j,rfl,rfl,q⟩:=h
 obtain ⟨t,rfl⟩:=rx
 obtain ⟨t',rfl⟩:=ry
 exact rule i j t t' s _ _ ⟨.bl (g i j),H,I,rfl,q⟩
def qh (i j:Int):Prop:=0≤j∧j≤1000000∧i.natAbs < 2 ^ 64
theorem zY:OpR X (binaryOp .Add) (rI0 fun i j=>.int (i + j)):=zel fun _ _ _ _ _ _ _ q=>add_int q
theorem qi:OpR X (binaryOp .Sub) (rI0 fun i j=>.int (i - j)):=zel fun _ _ _ _ _ _ _ q=>sub_int q
theorem zT:OpR X (binaryOp .Mod) (rI (fun _ j=>0 < j) fun i j=>.int (i % j)):=opI fun i j _ _ _ _ _ hc q=>by
 have h1:(0:Int) < j:=hc
 exact mod_int' (by omega) (by rw [Int.fmod_eq_emod_of_nonneg i (by omega)];exact q)
theorem wv:OpR X (binaryOp .Pow) (rI qh fun i j=>.int (i ^ j.toNat)):=opI fun _ _ _ _ _ _ _ hc q=>pow_int_small hc.1 hc.2.1 hc.2.2 q
theorem unI {f:Value→Sem Value} {g:Int→Int}
  (rule:∀ (i:Int) (t:Tok) (s:Shared) (Q:Value→Shared→Prop) (E:Value→Shared→Prop),Q (.int (g i) s.toks) { s with toks:=s.toks + 1 }→wpAny (model X.prog X.w) X.A (f (.int i t)) Q E s) :
  UnR X f (rU fun i=>.int (g i)):=by
 intro pins s σ H x v Q I rx h
 obtain ⟨i,rfl,q⟩:=h
 obtain ⟨t,rfl⟩:=rx
 exact rule i t s _ _ ⟨.int (g i),H,I.tok _,⟨_,rfl⟩,q⟩
theorem jL:UnR X (unaryOp .USub) (rU fun i=>.int (-i)):=unI fun _ _ _ _ _ q=>neg_int q
end
def yo:V→V→Bool
 | .non,.non=>true | .non,.int _=>true | .int _,.non=>true | .non,.bl _=>true | .bl _,.non=>true | .non,.str _=>true | .str _,.non=>true
 | .int _,.int _=>true | .bl _,.bl _=>true | .str _,.str _=>true | .byt _,.byt _=>true
 | .int _,.str _=>true | .str _,.int _=>true | .bl _,.str _=>true | .str _,.bl _=>true
 | _,_=>false
def rEq:R2:=fun x y H Q=>yo x y=true∧Q (.bl (decide (x=y))) H
def rNe:R2:=fun x y H Q=>yo x y=true∧Q (.bl (!decide (x=y))) H
theorem Kb {i j:Int}:decide (V.int i=V.int j)=(i == j):=by
 rw [Bool.eq_iff_iff]
 simp
theorem QT {i j:Bool}:decide (V.bl i=V.bl j)=(i == j):=by
 rw [Bool.eq_iff_iff]
 simp
theorem Kc {i j:Str}:decide (V.str i=V.str j)=(i == j):=by
 rw [Bool.eq_iff_iff]
 simp
theorem Kd {i j:Array UInt8}:decide (V.byt i=V.byt j)=(i.toList == j.toList):=by
 rw [Bool.eq_iff_iff]
 cases i
 cases j
 simp
section
variable {X:Cx} {a b c:Expr} {ta tb tc:TE} {pos:Pos}
theorem yk {pins:List (Addr × Obj)} {σ:St} {H:Hp} {s:Shared} {Q:VK} {k k':Bool} (I:Inv X pins σ H s) (q:Q (.bl k) H) (e:k=k'):EP X pins σ Q (.bool k') s:=by
 subst e
 exact ⟨.bl k,H,I,rfl,q⟩
theorem yz:OpR X (compareOp .Eq) rEq:=by
 intro pins s σ H x y v u Q I rx ry h
 obtain ⟨hs,q⟩:=h
 cases x with
 | non =>
  cases rx
  cases y with
  | non=>cases ry;exact PySem.EqNone.eq_none_none (yk I q (by simp))
  | bl j=>cases ry;exact PySem.EqNone.eq_none_bool (yk I q (by simp))
  | int j=>obtain ⟨t',rfl⟩:=ry;exact PySem.EqNone.eq_none_int (yk I q (by simp))
  | str j=>obtain ⟨t',rfl⟩:=ry;exact PySem.EqNone.eq_none_str (yk I q (by simp))
  | _=>exact absurd (show false=true from hs) Bool.false_ne_true
 | bl i =>
  cases rx
  cases y with
  | non=>cases ry;exact PySem.EqNone.eq_bool_none (yk I q (by simp))
  | bl j=>cases ry;exact eq_bool (yk I q QT)
  | str j=>obtain ⟨t',rfl⟩:=ry;exact PySem.EqMixed.eq_bool_str (yk I q (by simp))
  | _=>exact absurd (show false=true from hs) Bool.false_ne_true
 | int i =>
  obtain ⟨t,rfl⟩:=rx
  cases y with
  | non=>cases ry;exact PySem.EqNone.eq_int_none (yk I q (by simp))
  | int j=>obtain ⟨t',rfl⟩:=ry;exact eq_int (yk I q Kb)
  | str j=>obtain ⟨t',rfl⟩:=ry;exact PySem.EqMixed.eq_int_str (yk I q (by simp))
  | _=>exact absurd (show false=true from hs) Bool.false_ne_true
 | str i =>
  obtain ⟨t,rfl⟩:=rx
  cases y with
  | non=>cases ry;exact PySem.EqNone.eq_str_none (yk I q (by simp))
  | bl j=>cases ry;exact PySem.EqMixed.eq_str_bool (yk I q (by simp))
  | int j=>obtain ⟨t',rfl⟩:=ry;exact PySem.EqMixed.eq_str_int (yk I q (by simp))
  | str j=>obtain ⟨t',rfl⟩:=ry;exact eq_str (yk I q Kc)
  | _=>exact absurd (show false=true from hs) Bool.false_ne_true
 | byt i =>
  obtain ⟨t,rfl⟩:=rx
  cases y with
  | byt j=>obtain ⟨t',rfl⟩:=ry;exact W.eq_bytes (yk I q Kd)
  | _=>exact absurd (show false=true from hs) Bool.false_ne_true
 | _=>cases y <;> exact absurd (show false=true from hs) Bool.false_ne_true
theorem Xp:OpR X (compareOp .NotEq) rNe:=by
 intro pins s σ H x y v u Q I rx ry h
 obtain ⟨hs,q⟩:=h
 cases x with
 | non =>
  cases rx
  cases y with
  | non=>cases ry;exact PySem.EqNone.ne_none_none (yk I q (by simp))
  | bl j=>cases ry;exact PySem.EqNone.ne_none_bool (yk I q (by simp))
  | int j=>obtain ⟨t',rfl⟩:=ry;exact PySem.EqNone.ne_none_int (yk I q (by simp))
  | str j=>obtain ⟨t',rfl⟩:=ry;exact PySem.EqNone.ne_none_str (yk I q (by simp))
  | _=>exact absurd (show false=true from hs) Bool.false_ne_true
 | bl i =>
  cases rx
  cases y with
  | non=>cases ry;exact PySem.EqNone.ne_bool_none (yk I q (by simp))
  | bl j=>cases ry;exact ne_bool (yk I q (congrArg not QT))
  | str j=>obtain ⟨t',rfl⟩:=ry;exact PySem.EqMixed.ne_bool_str (yk I q (by simp))
  | _=>exact absurd (show false=true from hs) Bool.false_ne_true
 | int i =>
  obtain ⟨t,rfl⟩:=rx
  cases y with
  | non=>cases ry;exact PySem.EqNone.ne_int_none (yk I q (by simp))
  | int j=>obtain ⟨t',rfl⟩:=ry;exact ne_int (yk I q (congrArg not Kb))
  | str j=>obtain ⟨t',rfl⟩:=ry;exact PySem.EqMixed.ne_int_str (yk I q (by simp))
  | _=>exact absurd (show false=true from hs) Bool.false_ne_true
 | str i =>
  obtain ⟨t,rfl⟩:=rx
  cases y with
  | non=>cases ry;exact PySem.EqNone.ne_str_none (yk I q (by simp))
  | bl j=>cases ry;exact PySem.EqMixed.ne_str_bool (yk I q (by simp))
  | int j=>obtain ⟨t',rfl⟩:=ry;exact PySem.EqMixed.ne_str_int (yk I q (by simp))
  | str j=>obtain ⟨t',rfl⟩:=ry;exact ne_str (yk I q (congrArg not Kc))
  | _=>exact absurd (show false=true from hs) Bool.false_ne_true
 | byt i =>
  obtain ⟨t,rfl⟩:=rx
  cases y with
  | byt j=>obtain ⟨t',rfl⟩:=ry;exact W.ne_bytes (yk I q (congrArg not Kd))
  | _=>exact absurd (show false=true from hs) Bool.false_ne_true
 | _=>cases y <;> exact absurd (show false=true from hs) Bool.false_ne_true
theorem Ke:OpR X (compareOp .Lt) (rI0 fun i j=>.bl (decide (i < j))):=zdx fun _ _ _ _ _ _ _ q=>lt_int q
theorem zde:OpR X (compareOp .LtE) (rI0 fun i j=>.bl (decide (i≤j))):=zdx fun _ _ _ _ _ _ _ q=>le_int q
theorem Z8:OpR X (compareOp .Gt) (rI0 fun i j=>.bl (decide (j < i))):=zdx fun _ _ _ _ _ _ _ q=>gt_int q
theorem Xq:OpR X (compareOp .In) (fun x y H Q=>∃ i j,x=.str i∧y=.str j∧Q (.bl (!(Builtin.Str.occurrences j i 0 j.length 1).isEmpty)) H):=by
 intro pins s σ H x y v u Q I rx ry h
 obtain ⟨i,j,rfl,rfl,q⟩:=h
 obtain ⟨t,rfl⟩:=rx
 obtain ⟨t',rfl⟩:=ry
 exact in_str (yk I q rfl)
theorem zI (b:Expr) {op:CmpOp} (h:op≠.In:=by decide) (h2:op≠.NotIn:=by decide):behindInMarks op b=false:=by
 have e1:(op == CmpOp.In)=false:=by cases op <;> first | rfl | exact absurd rfl h
 have e2:(op == CmpOp.NotIn)=false:=by cases op <;> first | rfl | exact absurd rfl h2
 cases b <;> simp [behindInMarks,e1,e2]
theorem qR {op:CmpOp} {r:R2} (ho:OpR X (compareOp op) r) (ha:PE X a ta) (hb:PE X b tb) (hm:behindInMarks op b=false):PE X (.Compare a [op] [b] pos) (tOp r ta tb):=by
 intro pins s σ H Q I h
 exact wpAny_Compare1 (zdw ha hb I h fun v u s2 x y H2 I2 rx ry q=>ho pins s2 σ H2 x y v u Q I2 rx ry q) hm
def zw (t:TE):TT:=fun σ H Q=>t σ H fun x H'=>∃ k,x=.bl k∧Q k H'
theorem zA {op:CmpOp} {r:R2} (ho:OpR X (compareOp op) r) (ha:PE X a ta) (hb:PE X b tb) (hm:behindInMarks op b=false):PT X (.Compare a [op] [b] pos) (zw (tOp r ta tb)):=by
 intro pins s σ H Q I h
 refine wpAny_isTrue_Compare1 (thn (ha pins s σ H _ I h) fun v s1 ⟨x,H1,I1,r1,q1⟩=>thn (hb pins s1 σ H1 _ I1 q1) fun u s2 ⟨y,H2,I2,r2,q2⟩ =>
  thn (ho pins s2 σ H2 x y v u _ I2 r1 r2 q2) fun c s3 ⟨z,H3,I3,r3,k,e,q3⟩=>?_) hm
 subst e
 cases r3
 exact wpAny_truthy_bool ⟨H3,I3,q3⟩
def Jg (r r':R2) (ta tb tc:TE):TE:=fun σ H Q=>ta σ H fun x H1=>tb σ H1 fun y H2=>r x y H2 fun z H3=>∃ k,z=.bl k ∧
 (if k=true then tc σ H3 fun w' H4=>r' y w' H4 Q else Q (.bl false) H3)
theorem QU {op op':CmpOp} {r r':R2} (ho:OpR X (compareOp op) r) (ho':OpR X (compareOp op') r') (ha:PE X a ta) (hb:PE X b tb) (hc:PE X c tc)
  (hm:lastMarks [op,op'] [b,c]=false:=by with_unfolding_all rfl):PE X (.Compare a [op,op'] [b,c] pos) (Jg r r' ta tb tc):=by
 intro pins s σ H Q I h
 refine Compare_chain (thn (ha pins s σ H _ I h) fun v s1 ⟨x,H1,I1,r1,q1⟩=>chain_link (thn (hb pins s1 σ H1 _ I1 q1) fun u s2 ⟨y,H2,I2,r2,q2⟩ =>
  thn (ho pins s2 σ H2 x y v u _ I2 r1 r2 q2) fun d s3 ⟨z,H3,I3,r3,k,e,q3⟩=>?_)) hm
 subst e
 cases r3
 refine wpAny_truthy_bool ?_
 cases k with
 | false=>exact ite_ff ⟨.bl false,H3,I3,rfl,q3⟩
 | true=>exact ite_tt (chain_last (thn (hc pins s3 σ H3 _ I3 q3) fun w' s4 ⟨z',H4,I4,r4,q4⟩=>ho' pins s4 σ H4 y z' u w' Q I4 r2 r4 q4))
theorem Wk:(sizeLine:Nat) < 2 ^ 63:=by rw [sizeLine_eq];decide
theorem yf:OpR X (binaryOp .Add) (fun x y H Q=>∃ i j,x=.str i∧y=.str j∧i.length + j.length≤sizeLine∧Q (.str (i ++ j)) H):=by
 intro pins s σ H x y v u Q I rx ry h
 obtain ⟨i,j,rfl,rfl,hz,q⟩:=h
 obtain ⟨t,rfl⟩:=rx
 obtain ⟨t',rfl⟩:=ry
 exact add_str (fun t' tk=>⟨.str (i ++ j),H,I.tok _,⟨_,rfl⟩,q⟩) hz
theorem wV {x:V} {us:List Value} (r:Vals [x] us):∃ u,us=[u]∧RelV x u:=by
 cases r with
 | cons r1 r2=>cases r2;exact ⟨_,rfl,r1⟩
theorem QV {x y:V} {us:List Value} (r:Vals [x,y] us):∃ u w',us=[u,w']∧RelV x u∧RelV y w':=by
 cases r with
 | cons r1 r2 =>
  cases r2 with
  | cons r3 r4=>cases r4;exact ⟨_,_,rfl,r1,r3⟩
theorem z7:vq X (.type "str") (fun xs H Q=>∃ i,xs=[.int i]∧i.natAbs.log2 < 1920∧Q (.str (toString i)) H):=by
 intro pins s σ H xs us Q I r h
 obtain ⟨i,rfl,hz,q⟩:=h
 obtain ⟨u,rfl,t,rfl⟩:=wV r
 exact PySem.P.str_of_int hz ⟨.str _,H,I.tok _,⟨_,rfl⟩,q⟩
theorem W2:vq X (.builtin "ord") (fun xs H Q=>∃ x,xs=[.str x]∧x.length=1∧Q (.int (x.cps.getD 0 0:Nat)) H):=by
 intro pins s σ H xs us Q I r h
 obtain ⟨x,rfl,hz,q⟩:=h
 obtain ⟨u,rfl,t,rfl⟩:=wV r
 exact ord_of_one hz ⟨.int _,H,I.tok _,⟨_,rfl⟩,q⟩
def xM (K:W.Frag) (x:V) (H:Hp) (n:Nat):Prop :=
 match x with
 | .str y=>y.length≤sizeLine∧n=y.length
 | .byt y=>y.size≤sizeLine∧n=y.size
 | .ref p=>(∃ xs,SqL K H p xs∧n=xs.length)∨∃ xs,SqT K H p xs∧n=xs.length
 | _=>False
theorem yL:vq X (.builtin "len") (fun xs H Q=>∃ x n,xs=[x]∧xM X.K x H n∧Q (.int n) H):=by
 intro pins s σ H xs us Q I r h
 obtain ⟨x,n,rfl,e,q⟩:=h
 obtain ⟨u,rfl,rx⟩:=wV r
 have hl:=Wk
 have hs:sizeLine=16777216:=sizeLine_eq
 cases x with
 | str y =>
  obtain ⟨t,rfl⟩:=rx
  obtain ⟨hy,e'⟩:y.length≤sizeLine∧n=y.length:=e
  subst e'
  exact len_str (by omega) ⟨.int _,H,I.tok _,⟨_,rfl⟩,q⟩
 | byt y =>
  obtain ⟨t,rfl⟩:=rx
  obtain ⟨hy,e'⟩:y.size≤sizeLine∧n=y.size:=e
  subst e'
  exact W.len_bytes (by omega) ⟨.int _,H,I.tok _,⟨_,rfl⟩,q⟩
 | ref p =>
  cases rx
  have e':(∃ xs,SqL X.K H p xs∧n=xs.length)∨∃ xs,SqT X.K H p xs∧n=xs.length:=e
  rcases e' with ⟨xs,hx,e'⟩ | ⟨xs,hx,e'⟩
  ·subst e'
   obtain ⟨its,r',pl,hz⟩:=I.list hx
   have hlen:=r'.length
   exact Calls.call_len_list pl.isList (by simp only [List.size_toArray];omega) ⟨.int xs.length,H,I.tok _,⟨_,by simp only [List.size_toArray];rw [hlen]⟩,q⟩
  ·subst e'
   obtain ⟨its,r',pl,hz⟩:=I.tuple hx
   have hlen:=r'.length
   exact len_tuple pl (by simp only [List.size_toArray];omega) ⟨.int xs.length,H,I.tok _,⟨_,by simp only [List.size_toArray];rw [hlen]⟩,q⟩
 | _=>exact (show False from e).elim
end
end L2
namespace L2
open PySem PySem.Spec PyProof.Rows
structure ObjM (h:Heap) (x dx C:Addr) (mA:Str→Option Value):Prop where
 obj:h.get? x=some (W.instObj C dx)
 ns:h.Ns1 dx mA
 ne:dx≠x
theorem Qa {h:Heap} {dx:Addr} {mA:Str→Option Value} (n:h.Ns1 dx mA):∃ od,h.get? dx=some od∧∀ name,W.lookIn name od=some (mA name):=by
 obtain ⟨o,es,ep,ho,hd,hk,_,hm⟩:=n
 refine ⟨o,ho,fun name=>?_⟩
 have e:=hm name
 unfold nsFind findBy at e
 rw [← Array.find?_toList] at e
 unfold W.lookIn
 rw [hd]
 dsimp only
 split
 ·rename_i y q
  rw [q] at e
  exact congrArg some e
 ·rename_i q
  rw [q] at e
  have a:es.toList.any (·.refKey)=false:=by
   rw [List.any_eq_false]
   intro y hy
   obtain ⟨z,t,hkey⟩:=hk y (Array.mem_toList_iff.mp hy)
   simp [DictEntry.refKey,hkey]
  have a':¬ es.toList.any (·.refKey)=true:=by rw [a];exact Bool.false_ne_true
  rw [if_neg a']
  exact congrArg some e
theorem ObjM.look {h:Heap} {x dx C:Addr} {mA:Str→Option Value} (I:ObjM h x dx C mA):∃ od,W.InstAt h x (W.instObj C dx) C (some od)∧∀ name,W.lookIn name od=some (mA name) :=
 let ⟨od,ho,hl⟩:=Qa I.ns
 ⟨od,⟨I.obj,rfl,rfl,ho⟩,hl⟩
section
variable {prog:Program} {w:World} {A:Around} {E:Value→Shared→Prop} {s:Shared} {K:W.Frag} {x dx C f:Addr} {mA:Str→Option Value} {name:Str} {v:Value}
end
def zdy (f:Str) (v:V):List (Str × V)→List (Str × V)
 | []=>[(f,v)]
 | (g,x) :: r=>if g=f then (g,v) :: r else (g,x) :: zdy f v r
theorem RelO.some_of {v:V} {o:Option Value} (r:RelO (some v) o):∃ u,o=some u∧RelV v u:=by
 cases o with
 | none=>exact (show False from r).elim
 | some u=>exact ⟨u,rfl,r⟩
section
variable {P:Program} {w:World} {H H':Hp} {h h':Heap} {a C dx:Addr} {fs fs':List (Str × V)}
theorem zbW (hok:HOk P w H h) (e:H a=some (.ins C dx fs)):∃ mA,ObjM h a dx C mA∧(∀ f,RelO (fs.lookup f) (mA f))∧PySem.Within mA (fs.map (·.1))∧fs.length≤1000∧H dx=some (.own a):=by
 obtain ⟨d,z,ne,ob,mA,n,r,q⟩:=(show ObjOk P w H h a (.ins C dx fs) from hok a _ e)
 exact ⟨mA,⟨ob,n,ne⟩,r,q,z,d⟩
end
structure Cls (K:W.Frag) (C:Addr):Prop where
 pg:W.plainGet K C Str.empty=true
 hd:W.hasDictIn K C=true
 po:W.plainOver K C=true
 sa:W.findIn K (.ref C) "__setattr__"=some (some (.builtin "object.__setattr__"))
theorem Cls.get {K:W.Frag} {C:Addr} (c:Cls K C) (f:Str):W.plainGet K C f=true:=c.pg
def Jh (K:W.Frag) (C:Addr) (f:Str):Prop:=W.findIn K (.ref C) f=some none
section
variable {X:Cx} {pins:List (Addr × Obj)} {σ:St} {H:Hp} {s:Shared} {a C dx:Addr} {fs:List (Str × V)} {f:Str} {v:V} {A:Around} {E:Value→Shared→Prop}
end
def zfM (K:W.Frag) (ta:TE) (f:Str):TE:=fun σ H Q=>ta σ H fun x H1=>∃ a C dx fs v,x=.ref a∧H1 a=some (.ins C dx fs)∧Cls K C∧Jh K C f∧fs.lookup f=some v∧Q v H1
def zeM (K:W.Frag) (ta tv:TE) (f:Str):TS:=fun D σ H=>tv σ H fun y H1=>ta σ H1 fun x H2=>∃ a C dx fs,x=.ref a∧H2 a=some (.ins C dx fs)∧Cls K C∧Jh K C f∧fs.length < 1000 ∧
 D.nx σ (upd H2 a (.ins C dx (zdy f y fs)))
def zeG (K:W.Frag) (ta tv:TE) (rd:V→V→Hp→VK→Prop) (f:Str):TS:=fun D σ H=>ta σ H fun x H1=>∃ a C dx fs v,x=.ref a∧H1 a=some (.ins C dx fs)∧Cls K C∧Jh K C f∧fs.lookup f=some v ∧
 tv σ H1 fun y H2=>rd v y H2 fun z H3=>∃ dx' fs',H3 a=some (.ins C dx' fs')∧fs'.length < 1000∧D.nx σ (upd H3 a (.ins C dx' (zdy f z fs')))
section
variable {X:Cx} {o e value:Expr} {f:Str} {pos pos' tpos:Pos} {ta tv:TE}
def zfN:V→V→Hp→VK→Prop:=fun x y H Q=>∃ i j,x=.int i∧y=.int j∧Q (.int (i + j)) H
end
section
variable {X:Cx} {pins:List (Addr × Obj)} {σ:St} {H:Hp} {s:Shared} {A:Around} {E:Value→Shared→Prop} {Q:Value→Shared→Prop} {c:Value} {b:Bool}
inductive qj (K:W.Frag) (H:Hp):V→Value→Prop where
 | non:qj K H .non (.type "NoneType")
 | bl (x:Bool):qj K H (.bl x) (.type "bool")
 | int (i:Int):qj K H (.int i) (.type "int")
 | str (x:Str):qj K H (.str x) (.type "str")
 | flt (x:UInt64):qj K H (.flt x) (.type "float")
 | lst {a:Addr} {xs:List V} (e:H a=some (.lst xs)):qj K H (.ref a) (.type "list")
 | frz {a:Addr} {o:Obj} {xs:List V} (e:H a=some (.frz o (.lst xs))):qj K H (.ref a) (.type "list")
 | tup {a:Addr} {xs:List V} (e:H a=some (.tup xs)):qj K H (.ref a) (.type "tuple")
 | dK {a:Addr} {kvs:List (Key × V)} (e:H a=some (.dK kvs)):qj K H (.ref a) (.type "dict")
 | dT {a:Addr} {kvs:List (List Key × V)} (e:H a=some (.dT kvs)):qj K H (.ref a) (.type "dict")
 | ins {a C dx:Addr} {fs:List (Str × V)} (e:H a=some (.ins C dx fs)) (cl:Cls K C) (ha:W.findIn K (.ref C) "__class__"=some (some (.builtin "object.__class__")))
   (hn:W.specialIn K (.builtin "object.__class__") "__get__"=some (some (.builtin "getset_descriptor.__get__"))) (htk:W.takesIn K (.builtin "object.__class__")=some true)
   (hm:W.mroIn K C (.type "object")=some true):qj K H (.ref a) (.ref C)
theorem Qb {x:V} {u t:Value} (I:Inv X pins σ H s) (rx:RelV x u) (ty:qj X.K H x t) (e:W.kitOne X.K t c=some b) (h:∀ tk,Q (.bool b) { s with toks:=tk }) :
  wpAny (model X.prog X.w) A (call (.builtin "isinstance") [u,c]) Q E s:=by
 cases ty with
 | non=>cases (show u=Value.none from rx);exact W.kia_one W.kitx_none I.kIn True.intro e (fun z=>nomatch z) h
 | bl y=>cases (show u=Value.bool y from rx);exact W.kia_one W.kitx_bool I.kIn True.intro e (fun z=>nomatch z) h
 | int i=>obtain ⟨t,q⟩:=(show ∃ t,u=Value.int i t from rx);cases q;exact W.kia_one W.kitx_int I.kIn True.intro e (fun z=>nomatch z) h
 | str y=>obtain ⟨t,q⟩:=(show ∃ t,u=Value.str y t from rx);cases q;exact W.kia_one W.kitx_str I.kIn True.intro e (fun z=>nomatch z) h
 | flt y=>obtain ⟨t,q⟩:=(show ∃ t,u=Value.float y t from rx);cases q;exact W.kia_one W.kitx_float I.kIn True.intro e (fun z=>nomatch z) h
 | @lst a xs ea =>
  cases (show u=Value.ref a from rx)
  obtain ⟨_,_,n,_,h1⟩:=(show ObjOk X.prog X.w H s.heap a (.lst xs) from I.hok a _ ea)
  exact W.kia_one W.kitx_list I.kIn ⟨_,h1,rfl⟩ e (fun z=>nomatch z) h
 | @frz a ob xs ea =>
  cases (show u=Value.ref a from rx)
  obtain ⟨_,_,_,n,_,h1⟩:=(show ObjOk X.prog X.w H s.heap a (.frz ob (.lst xs)) from I.hok a _ ea)
  exact W.kia_one W.kitx_list I.kIn ⟨_,h1,rfl⟩ e (fun z=>nomatch z) h
 | @tup a xs ea =>
  cases (show u=Value.ref a from rx)
  obtain ⟨_,_,_,p⟩:=(show ObjOk X.prog X.w H s.heap a (.tup xs) from I.hok a _ ea)
  obtain ⟨o,h1,h2,_⟩:=p
  exact W.kia_one W.kitx_tuple I.kIn ⟨o,h1,h2⟩ e (fun z=>nomatch z) h
 | @dK a kvs ea =>
  cases (show u=Value.ref a from rx)
  obtain ⟨_,_,vs,_,p⟩:=(show ObjOk X.prog X.w H s.heap a (.dK kvs) from I.hok a _ ea)
  obtain ⟨o,es,ep,h1,h2,_⟩:=p
  exact W.kia_one W.kitx_dict I.kIn ⟨o,h1,h2.1⟩ e (fun z=>nomatch z) h
 | @dT a kvs ea =>
  cases (show u=Value.ref a from rx)
  obtain ⟨_,_,xs,_,o,es,ep,h1,h2,_⟩:=(show ObjOk X.prog X.w H s.heap a (.dT kvs) from I.hok a _ ea)
  exact W.kia_one W.kitx_dict I.kIn ⟨o,h1,h2.1⟩ e (fun z=>nomatch z) h
 | @ins a C dx fs ea cl ha hn htk hm =>
  cases (show u=Value.ref a from rx)
  obtain ⟨mA,O,_⟩:=zbW I.hok ea
  obtain ⟨od,J,_⟩:=O.look
  exact W.kia_one (W.kitx_own (cl.get _) cl.hd ha hn htk hm) I.kIn J e (fun z=>nomatch z) h
end
end L2
namespace L2
open PySem PySem.Spec PyProof.Rows
structure Room (k:Nat) (A:Around):Prop where
 hd:A.handled=none
 dp:A.depth + 3 * k + 5 < recursionLimit
 un:A.units + 16 * k + 200 < cLine
 gd:A.guards=some []
theorem Room.mono {j k:Nat} {A:Around} (r:Room k A) (h:j≤k):Room j A:=⟨r.hd,by have:=r.dp;omega,by have:=r.un;omega,r.gd⟩
theorem Room.deeper {k:Nat} {A:Around} (r:Room (k + 1) A) (env:Env):Room k (A.deeper env) :=
 ⟨r.hd,by have:=r.dp;show A.depth + 1 + 3 * k + 5 < _;omega,by have:=r.un;show A.units + 3 + 16 * k + 200 < _;omega,r.gd⟩
theorem Room.depth {k:Nat} {A:Around} (r:Room k A):A.depth < recursionLimit:=by have:=r.dp;omega
theorem Room.units {k:Nat} {A:Around} (r:Room k A):A.units + 64 < cLine:=by have:=r.un;omega
theorem Room.units0 {k:Nat} {A:Around} (r:Room k A):A.units < cLine:=by have:=r.un;omega
def zm:TA:=fun _ H Q=>Q [] H
def zd (ta:TE) (tr:TA):TA:=fun σ H Q=>ta σ H fun x H1=>tr σ H1 fun xs H2=>Q (x :: xs) H2
section
variable {X:Cx} {e:Expr} {es:List Expr} {te:TE} {t:TA} {pos:Pos}
theorem zi:PA X [] zm:=fun _ _ _ _ H Q I h=>Calls.spliced_nil ⟨[],H,I,.nil,h⟩
theorem zb (ha:PE X e te) (hr:PA X es t) (hs:starEach (e :: es) X.env=(false,eval e X.env) :: starEach es X.env:=by rfl):PA X (e :: es) (zd te t):=by
 intro pos pins s σ H Q I h
 rw [hs]
 show wpAny _ _ (spliced ((false,eval e X.env) :: backTo pos (starEach es X.env))) _ _ s
 refine Calls.spliced_cons (thn (ha pins s σ H _ I h) fun u s1 ⟨x,H1,I1,r1,q1⟩=>?_)
 exact thn (hr pos pins s1 σ H1 _ I1 q1) fun us s2 ⟨xs,H2,I2,r2,q2⟩=>⟨x :: xs,H2,I2,.cons r1 r2,q2⟩
def xN (t:TA):TE:=fun σ H Q=>t σ H fun xs H1=>xs.length≤sizeLine∧∀ p,H1 p=none→Q (.ref p) (upd H1 p (.tup xs))
def z8 (t:TA):TE:=fun σ H Q=>t σ H fun xs H1=>xs.length≤sizeLine∧∀ p,H1 p=none→Q (.ref p) (upd H1 p (.lst xs))
theorem jM {x1} (h:PA X es t):PE X (.Tuple es x1 pos) (xN t):=by
 intro pins s σ H Q I hq
 refine wpAny_Tuple_spliced (thn (h pos pins s σ H _ I hq) fun us s1 ⟨xs,H1,I1,r,z,q⟩=>⟨by rw [← r.length];exact z,?_⟩)
 have hf:H1 s1.heap.objs.size=none:=I1.hok.fresh (Nat.le_refl _)
 refine ⟨.ref s1.heap.objs.size,upd H1 s1.heap.objs.size (.tup xs),I1.laid (t':=s1.toks) (fun b u e=>Heap.get?_push_of_some _ e) (Nat.le_refl _) ?_,rfl,q _ hf⟩
 exact ⟨z,us,r,⟨_,Heap.get?_push_size _ rfl,rfl,_,rfl⟩⟩
theorem yp (h:PA X es t):PE X (.List es pos) (z8 t):=by
 intro pins s σ H Q I hq
 refine wpAny_List_spliced (thn (h pos pins s σ H _ I hq) fun us s1 ⟨xs,H1,I1,r,z,q⟩=>⟨by rw [← r.length];exact z,?_⟩)
 have hf:H1 s1.heap.objs.size=none:=I1.hok.fresh (Nat.le_refl _)
 refine ⟨.ref s1.heap.objs.size,upd H1 s1.heap.objs.size (.lst xs),I1.laid (t':=s1.toks) (fun b u e=>Heap.get?_push_of_some _ e) (Nat.le_refl _) ?_,rfl,q _ hf⟩
 exact ⟨z,us,0,r,Heap.get?_push_size _ rfl⟩
end
abbrev Sp:=List V→Hp→VK→XK→Prop
abbrev CXT:=List Env→Hp→Shared→XK→Value→Shared→Prop
structure zbX (P:Program) (w:World) (K:W.Frag) (mg:Str→Option Value) (base:Heap) (A:Around) (outer:List Env) (s:Shared) (H:Hp):Prop where
 frames:A.frames=some outer
 mod:Mod K mg base
 bs:∀ b o,base.get? b=some o→s.heap.get? b=some o∧H b=none
 bsz:base.objs.size≤s.heap.objs.size
 funs:s.heap.FunFrames base outer
 frf:∀ b∈frs outer,H b=none
 hok:HOk P w H s.heap
 bare:AllBare s.gens
def CE (outer:List Env) (P:Program) (w:World) (H:Hp) (s:Shared) (Q:VK) (u:Value) (s':Shared):Prop :=
 ∃ v H',s'.os=s.os∧AllBare s'.gens∧Un (frs outer) [] H H' s.heap s'.heap∧HOk P w H' s'.heap∧RelV v u∧Q v H'
def CR (CX:CXT) (outer:List Env) (P:Program) (w:World) (H:Hp) (s:Shared) (Q:VK) (E:XK) (r:Result) (s':Shared):Prop :=
 match r with
 | .ok (.ret u)=>CE outer P w H s Q u s'
 | .ok _=>False
 | .error e=>CX outer H s E e s'
structure FnOk (P:Program) (w:World) (K:W.Frag) (mg:Str→Option Value) (base:Heap) (CX:CXT) (k:Nat) (f:Addr) (fd:FuncData) (ps:List Str) (sp:Sp):Prop where
 len:∀ vs H Q E,sp vs H Q E→vs.length=ps.length
 run:∀ (A:Around) (outer:List Env) (s:Shared) (H:Hp) (args:Args) (us:List Value) (vs:List V) (Q:VK) (E:XK),Room k A→zbX P w K mg base A outer s H→BindsTo s fd args (ps.zip us)→Vals vs us→sp vs H Q E →
  codeAny (model P w) A (.call (.ref f) args) (CR CX outer P w H s Q E) s
theorem FnOk.mono {P:Program} {w:World} {K:W.Frag} {mg:Str→Option Value} {base:Heap} {CX:CXT} {j k:Nat} {f:Addr} {fd:FuncData} {ps:List Str} {sp:Sp} (F:FnOk P w K mg base CX j f fd ps sp) (h:j≤k) :
  FnOk P w K mg base CX k f fd ps sp:=⟨F.len,fun A outer s H args us vs Q E hr=>F.run A outer s H args us vs Q E (hr.mono h)⟩
section
variable {X:Cx} {pins:List (Addr × Obj)} {σ:St} {H:Hp} {s s':Shared}
theorem Inv.env0 (I:Inv X pins σ H s):zbX X.prog X.w X.K X.mg X.base X.A X.stack s H :=
 ⟨I.ok.frames,I.ok.mod,I.bs,Nat.le_trans I.ok.bsz I.sz,I.stack,I.stkFree,I.hok,I.bare⟩
theorem Inv.after {Q:VK} {u:Value} (I:Inv X pins σ H s) (h:CE X.stack X.prog X.w H s Q u s'):EP X pins σ Q u s':=by
 obtain ⟨v,H',os,bare,un,hok,r,q⟩:=h
 obtain ⟨hh,g,d,t,os'⟩:=s'
 obtain rfl:os'=s.os:=os
 exact ⟨v,H',I.call (h':=hh) (g':=g) (d':=d) (t':=t) (ch:=[]) un hok bare (fun b z=>absurd z (by simp)),r,q⟩
end
def zB (sp:Sp) (dvs:List V) (E:XK) (t:TA):TE:=fun σ H Q=>t σ H fun vs H1=>sp (vs ++ dvs) H1 Q E
def zfd (C:Addr) (m:Str) (sp:Sp) (dvs:List V) (E:XK) (ta:TE) (t:TA):TE:=fun σ H Q=>ta σ H fun x H1=>∃ a dx fs,x=.ref a∧H1 a=some (.ins C dx fs)∧fs.lookup m=none ∧
 t σ H1 fun vs H2=>sp (x :: (vs ++ dvs)) H2 Q E
def zfe (C:Addr) (sp:Sp) (dvs:List V) (E:XK) (t:TA):TE:=fun σ H Q=>t σ H fun vs H1=>∀ x dx,H1 x=none→H1 dx=none→dx≠x →
 sp (.ref x :: (vs ++ dvs)) (upd (upd H1 dx (.own x)) x (.ins C dx [])) (fun v H2=>v=.non∧Q (.ref x) H2) E
def Binds (K:W.Frag) (fd:FuncData) (ps:List Str) (ds:List Value):Prop :=
 ∀ (s:Shared) (us:List Value),K.In s.heap→(us ++ ds).length=ps.length→BindsTo s fd ⟨us,[]⟩ (ps.zip (us ++ ds))
theorem Binds.all {K:W.Frag} {fd:FuncData} {ps:List Str} (h:∀ us:List Value,us.length=ps.length→bindArgs fd ⟨us,[]⟩=pure (ps.zip us)):Binds K fd ps []:=fun s us _ hl=>by
 rw [List.append_nil] at hl ⊢
 exact .of_eq (h us hl)
def Z9 (CX:CXT) (X:Cx) (E:XK):Prop:=∀ (pins:List (Addr × Obj)) (σ:St) (H:Hp) (s:Shared) (e:Value) (s':Shared),Inv X pins σ H s→CX X.stack H s E e s'→X.xe e s'
section
variable {X:Cx} {CX:CXT} {k:Nat} {f C:Addr} {fd:FuncData} {ps:List Str} {sp:Sp} {dvs:List V} {ds:List Value} {E:XK} {x m:Str} {p pos apos:Pos} {e o:Expr} {es:List Expr} {ta:TE} {t:TA}
theorem zdz {pins:List (Addr × Obj)} {σ:St} {H:Hp} {s:Shared} {Q:VK} {us:List Value} {vs:List V} (F:FnOk X.prog X.w X.K X.mg X.base CX k f fd ps sp) (hr:Room k X.A) (hb:Binds X.K fd ps ds) (hd:Vals dvs ds) (hx:Z9 CX X E)
  (I:Inv X pins σ H s) (r:Vals vs us) (h:sp (vs ++ dvs) H Q E):wpAny (model X.prog X.w) X.A (call (.ref f) us) (EP X pins σ Q) X.xe s:=by
 have r2:Vals (vs ++ dvs) (us ++ ds):=r.append hd
 have hl:(us ++ ds).length=ps.length:=by rw [← r2.length];exact F.len _ _ _ _ h
 refine wpAny_call (codeAny_mono (F.run X.A X.stack s H ⟨us,[]⟩ (us ++ ds) (vs ++ dvs) Q E hr I.env0 (hb s us I.kIn hl) r2 h) fun r s' hq=>?_)
 cases r with
 | error e=>exact hx pins σ H s e s' I hq
 | ok fl =>
  cases fl with
  | ret u=>exact I.after hq
  | next=>exact False.elim hq
  | brk=>exact False.elim hq
  | cont=>exact False.elim hq
theorem zM (F:FnOk X.prog X.w X.K X.mg X.base CX k f fd ps sp) (hr:Room k X.A) (hg:Gl X x) (hm:X.mg x=some (.ref f)) (hk:W.keepIn X.K (.ref f)=true) (hb:Binds X.K fd ps ds) (hd:Vals dvs ds) (hx:Z9 CX X E)
  (ha:PA X (e :: es) t) (hdb:(x == ("__debug__":Str))=false:=by decide) (he:starEach (e :: es) X.env=(false,eval e X.env) :: starEach es X.env:=by rfl) (hpl:(backTo pos (starEach es X.env)).any (·.1)=false:=by rfl) :
  PE X (.Call (.Name x p) (e :: es) [] pos) (zB sp dvs E t):=by
 intro pins s σ H Q I h
 refine wpAny_Call_Name_kw (vS I hg hm ?_ hdb)
 refine W.callWith_K (h₀:=X.base) I.ok.mod.kin hk (thn (ha pos pins s σ H _ I h) fun us s1 ⟨vs,H1,I1,r,q⟩=>⟨I1.kIn,?_⟩) he hpl
 exact zdz F hr hb hd hx I1 r q
end
section
variable {X:Cx} {CX:CXT} {k:Nat} {f C:Addr} {fd:FuncData} {ps ks:List Str} {sp:Sp} {E:XK} {x m:Str} {p pos apos kpos:Pos} {e o:Expr} {es:List Expr} {kws:List Keyword} {te ta:TE} {t tk:TA} {nm:Option Str}
variable {g:List Value→List Value→List Value} {gV:List V→List V→List V}
end
structure zV (N P:List Str) (sc:Scope):Prop where
 kind:sc.kind=.function
 co:sc.isCoroutine=false
 gen:sc.isGenerator=false
 nd:N.Nodup
 pre:N.take P.length=P
 par:∀ x∈P,sc.names.lookup x=some .local∨sc.names.lookup x=some .cell
 nofree:∀ y∈sc.names,y.2≠.free
theorem Xr {kindOf:Str→Option NameKind} {x:Str}:∀ {binds:List (Str × Value)} {m:Str→Option Value},(∀ v,(x,v) ∉ binds)→bindL kindOf binds m x=m x
 | [],_,_=>rfl
 | (n,v) :: r,m,h=>by
  unfold bindL
  rw [Xr fun w hw=>h w (List.mem_cons_of_mem _ hw)]
  split
  ·have:x≠n:=by rintro rfl;exact h v List.mem_cons_self
   simp [this]
  ·rfl
theorem Xs {kindOf:Str→Option NameKind} {x:Str}:∀ {binds:List (Str × Value)} {m:Str→Option Value},(∀ v,(x,v) ∉ binds)→bindC kindOf binds m x=m x
 | [],_,_=>rfl
 | (n,v) :: r,m,h=>by
  unfold bindC
  rw [Xs fun w hw=>h w (List.mem_cons_of_mem _ hw)]
  split
  ·rfl
  ·have:x≠n:=by rintro rfl;exact h v List.mem_cons_self
   simp [this]
theorem Xt {kindOf:Str→Option NameKind} {x:Str} {v:Value}:∀ {P:List Str} {vs:List Value} {i:Nat} {m:Str→Option Value},P.Nodup→P[i]?=some x→vs[i]?=some v→kindOf x=some .local →
  bindL kindOf (P.zip vs) m x=some v
 | [],_,_,_,_,h,_,_=>by simp at h
 | _ :: _,[],_,_,_,_,h,_=>by simp at h
 | p :: P,w :: vs,0,m,nd,h1,h2,hk=>by
  simp at h1 h2;subst h1;subst h2
  show bindL kindOf ((p,w) :: P.zip vs) m p=_
  unfold bindL
  rw [Xr fun v hv=>(List.nodup_cons.mp nd).1 (List.of_mem_zip hv).1,if_pos hk]
  simp
 | p :: P,w :: vs,i + 1,m,nd,h1,h2,hk=>by
  show bindL kindOf ((p,w) :: P.zip vs) m x=_
  unfold bindL
  exact Xt (i:=i) (List.nodup_cons.mp nd).2 (by simpa using h1) (by simpa using h2) hk
theorem Xu {kindOf:Str→Option NameKind} {x:Str} {v:Value}:∀ {P:List Str} {vs:List Value} {i:Nat} {m:Str→Option Value},P.Nodup→P[i]?=some x→vs[i]?=some v→kindOf x≠some .local →
  bindC kindOf (P.zip vs) m x=some v
 | [],_,_,_,_,h,_,_=>by simp at h
 | _ :: _,[],_,_,_,_,h,_=>by simp at h
 | p :: P,w :: vs,0,m,nd,h1,h2,hk=>by
  simp at h1 h2;subst h1;subst h2
  show bindC kindOf ((p,w) :: P.zip vs) m p=_
  unfold bindC
  rw [Xs fun v hv=>(List.nodup_cons.mp nd).1 (List.of_mem_zip hv).1,if_neg hk]
  simp
 | p :: P,w :: vs,i + 1,m,nd,h1,h2,hk=>by
  show bindC kindOf ((p,w) :: P.zip vs) m x=_
  unfold bindC
  exact Xu (i:=i) (List.nodup_cons.mp nd).2 (by simpa using h1) (by simpa using h2) hk
def start (N:List Str) (vs:List V):St:=vs.map some ++ List.replicate (N.length - vs.length) none
def jN (CX:CXT) (P:Program) (w:World) (K:W.Frag) (mg:Str→Option Value) (base:Heap) (N:List Str) (qual:Str) (scope:Scope) (f:Addr) (cd:Value) (A:Around) (outer:List Env) (s:Shared) (H:Hp) (E:XK):Cx where
 prog:=P
 w:=w
 K:=K
 mg:=mg
 base:=base
 A:=A.deeper (envOfC qual scope s.heap.objs.size f cd)
 N:=N
 s₀:=s
 H₀:=H
 env:=envOfC qual scope s.heap.objs.size f cd
 outer:=outer
 stack:=envOfC qual scope s.heap.objs.size f cd :: outer
 ex:=[]
 calm:=true
 fn:=fun _=>true
 pn:=[]
 xe:=fun e s'=>wpAny (model P w) (A.deeper (envOfC qual scope s.heap.objs.size f cd)) (leaving (envOfC qual scope s.heap.objs.size f cd) e) (fun _ s''=>CX outer H s E e s'') (fun e' s''=>CX outer H s E e' s'') s'
theorem W3 {sc:Scope} {n:Nat} {x:Str} (h:sc.names.lookup x=some .cell):∃ c,(cellsFrom n sc.names []).lookup x=some c:=by
 have q:=W.cellsFrom_some sc.names n [] (.inl h)
 exact Option.isSome_iff_exists.mp q
theorem Qc {CX:CXT} {P:Program} {w:World} {K:W.Frag} {mg:Str→Option Value} {base:Heap} {N ps:List Str} {qual:Str} {scope:Scope} {f:Addr} {cd:Value} {A:Around} {outer:List Env} {s s1:Shared} {H:Hp} {E:XK} {us:List Value} {vs:List V}
  (S:zV N ps scope) (hd:A.handled=none) (e0:zbX P w K mg base A outer s H) (hl:vs.length=ps.length) (r:Vals vs us)
  (x:InCallC s s.heap.objs.size (bindL (envOfC qual scope s.heap.objs.size f cd).kindOf (ps.zip us) fun _=>none) (cellsFrom (s.heap.objs.size + 1) scope.names []) (bindC (envOfC qual scope s.heap.objs.size f cd).kindOf (ps.zip us) fun _=>none) s1) :
  Inv (jN CX P w K mg base N qual scope f cd A outer s H E) [] (start N vs) H s1:=by
 have hpl:ps.length≤N.length:=by have:=congrArg List.length S.pre;rw [List.length_take] at this;omega
 obtain ⟨h1,tk,rfl,hk⟩:=x.done
 have noA:∀ b:Addr,b ∉ (jN CX P w K mg base N qual scope f cd A outer s H E).ex:=fun b z=>absurd (show b∈([]:List Addr) from z) (by simp)
 refine ⟨⟨e0.mod,S.kind,rfl,rfl,Nat.le_refl _,fun y z c h1 h2=>?_,fun y hy=>?_,fun y c _ h=>?_,fun _=>hd,Around.frames_deeper e0.frames,.inr ⟨rfl,rfl⟩,fun b z=>absurd z (noA b),e0.bs,e0.bsz,fun b _ _=>noA b,fun b z=>absurd z (noA b),e0.funs,e0.frf⟩,
  rfl,e0.bare,Un.kept hk,⟨_,x.toInCall.ns,fun i y v h1 h2 h3=>?_⟩,fun y c h=>⟨_,x.cell y c h⟩,e0.hok.fresh (Nat.le_refl _),fun y c h=>?_,fun p hp=>absurd (show p∈([]:List (Addr × Obj)) from hp) (by simp),e0.hok.kept hk,?_⟩
 ·exact name_of_addr x.apart (PySem.mem_of_lookup h1) (PySem.mem_of_lookup h2)
 ·have hy:scope.names.lookup y=some .cell∨scope.names.lookup y=some .free:=hy
  rcases hy with hy | hy
  ·exact W3 hy
  ·exact absurd rfl (S.nofree _ (PySem.mem_of_lookup hy))
 ·exact Nat.le_of_lt (x.above y c (PySem.mem_of_lookup h))
 ·have hi:i < vs.length:=by
   unfold start at h2
   by_cases hi:i < vs.length
   ·exact hi
   ·rw [List.getElem?_append_right (by simpa using hi)] at h2
    rw [List.getElem?_replicate] at h2
    split at h2 <;> cases h2
  have ha:vs[i]?=some v:=by
   unfold start at h2
   rw [List.getElem?_append_left (by simpa using hi),List.getElem?_map] at h2
   cases e:vs[i]? with
   | none=>rw [e] at h2;cases h2
   | some a=>rw [e] at h2;cases h2;rfl
  obtain ⟨u,hu,rv⟩:=r.get ha
  have hp:ps[i]?=some y:=by
   rw [← S.pre,List.getElem?_take_of_lt (by omega)];exact h1
  have ndP:ps.Nodup:=by rw [← S.pre];exact S.nd.sublist (List.take_sublist _ _)
  refine ⟨u,rv,?_⟩
  rcases S.par y (List.mem_of_getElem? hp) with k | k
  ·exact .inl ⟨k,Xt ndP hp hu k⟩
  ·obtain ⟨c,e⟩:=W3 (n:=s.heap.objs.size + 1) k
   refine .inr ⟨.inl k,c,e,?_⟩
   have q:=x.cell y c e
   rw [Xu ndP hp hu (by show scope.names.lookup y≠_;rw [k];decide)] at q
   exact q
 ·exact e0.hok.fresh (Nat.le_of_lt (x.above y c (PySem.mem_of_lookup h)))
 ·unfold start
  show _=N.length
  rw [List.length_append,List.length_map,List.length_replicate]
  omega
theorem zdf {CX:CXT} {P:Program} {w:World} {K:W.Frag} {mg:Str→Option Value} {base:Heap} {k:Nat} {f:Addr} {name qual:Str} {params:Arguments} {body:List Stmt} {scope:Scope} {dV kV doc pm cdv ct oc:Value} {an od:Option Addr}
  {osl:Array (Option Value)} {N ps:List Str} {sp:Sp} (lk:K.lookup f=some ⟨oc,od,.func (W.fnOf name qual params body scope dV kV doc pm an cdv ct),osl⟩) (hcd:W.codeIn K cdv qual=true) (S:zV N ps scope)
  (len:∀ vs H Q E,sp vs H Q E→vs.length=ps.length)
  (hbody:∀ (A:Around) (outer:List Env) (s:Shared) (H:Hp) (vs:List V) (Q:VK) (E:XK),Room k (A.deeper (envOfC qual scope s.heap.objs.size f cdv))→sp vs H Q E →
   ∃ t,PSs (jN CX P w K mg base N qual scope f cdv A outer s H E) body t∧t { nx:=fun _ H'=>Q .non H',rt:=Q } (start N vs) H) :
  FnOk P w K mg base CX (k + 1) f (W.fnOf name qual params body scope dV kV doc pm an cdv ct) ps sp:=by
 refine ⟨len,fun A outer s H args us vs Q E hr e0 hb r hsp=>?_⟩
 have hl:=len _ _ _ _ hsp
 have KX:K.In s.heap:=e0.mod.kin.keeps fun b o e=>(e0.bs b o e).1
 have lim:s.heap.NoLimit:=e0.mod.nolimit.keeps fun b o e=>(e0.bs b o e).1
 have hkind:∀ y∈ps.zip us,scope.names.lookup y.1=some .local∨(scope.names.lookup y.1=some .cell∧((cellsFrom (s.heap.objs.size + 1) scope.names []).lookup y.1).isSome=true):=fun ⟨n,v⟩ hy=>by
  rcases S.par n (List.of_mem_zip hy).1 with q | q
  ·exact .inl q
  ·exact .inr ⟨q,W.cellsFrom_some _ _ _ (.inl q)⟩
 refine codeAny_call_function hr.depth (KX _ _ lk) rfl S.co S.gen rfl (W.codeRec_of KX hcd) (hb _ _ _ _ ?_)
 refine wpAny_newFunctionEnv_cells S.kind hkind fun env he s1 x=>?_
 subst he
 refine ⟨lim.keeps x.toInCall.keep,codeAny_func ?_⟩
 obtain ⟨t,ht,hq⟩:=hbody A outer s H vs Q E (hr.deeper _) hsp
 have I:Inv (jN CX P w K mg base N qual scope f cdv A outer s H E) [] (start N vs) H s1:=Qc S hr.hd e0 hl r x
 refine wpAny_mono (ht [] s1 (start N vs) H _ I hq) (fun fl s' hs=>?_) fun e s' hs=>hs
 have fin:∀ {σ':St} {H':Hp} {v:V} {u:Value},Inv (jN CX P w K mg base N qual scope f cdv A outer s H E) [] σ' H' s'→RelV v u→Q v H'→CE outer P w H s Q u s' :=
  fun {σ' H' v u} J rv q=>⟨v,H',J.os,J.bare,J.base,J.hok,rv,q⟩
 cases fl with
 | ret u =>
  obtain ⟨v,σ',H',J,rv,q⟩:=hs
  exact fin J rv q
 | next =>
  obtain ⟨σ',H',J,q⟩:=hs
  exact fin (v:=V.non) (u:=Value.none) J rfl q
 | brk =>
  obtain ⟨_,_,_,q⟩:=hs
  exact False.elim q
 | cont =>
  obtain ⟨_,_,_,q⟩:=hs
  exact False.elim q
end L2
namespace L2
open PySem PySem.Spec PyProof.Rows
section
variable {X:Cx} {x:Str} {p pos:Pos} {e:Expr} {es:List Expr} {t:TA} {id T:String} {r:List V→Hp→VK→Prop}
def tCB (r:List V→Hp→VK→Prop) (t:TA):TE:=fun σ H Q=>t σ H fun vs H1=>r vs H1 Q
theorem zW (hc:vq X (.builtin id) r) (hg:Gl X x) (hm:X.mg x=none) (hv:bootBuiltins x=some (.builtin id)) (ha:PA X (e :: es) t) (hn:x≠"__name__":=by decide) (hdb:(x == ("__debug__":Str))=false:=by decide)
  (he:starEach (e :: es) X.env=(false,eval e X.env) :: starEach es X.env:=by rfl) (hpl:(backTo pos (starEach es X.env)).any (·.1)=false:=by rfl):PE X (.Call (.Name x p) (e :: es) [] pos) (tCB r t):=by
 intro pins s σ H Q I h
 refine wpAny_Call_Name_kw (Zs I hg hm hv ?_ hn hdb)
 exact PyProof.Rows.callWith_builtin1 (thn (ha pos pins s σ H _ I h) fun us s1 ⟨vs,H1,I1,r1,q1⟩=>hc pins s1 σ H1 vs us Q I1 r1 q1) he hpl
theorem yh (hc:vq X (.type T) r) (hg:Gl X x) (hm:X.mg x=none) (hv:bootBuiltins x=some (.type T)) (ha:PA X (e :: es) t) (hn:x≠"__name__":=by decide) (hdb:(x == ("__debug__":Str))=false:=by decide)
  (he:starEach (e :: es) X.env=(false,eval e X.env) :: starEach es X.env:=by rfl) (hpl:(backTo pos (starEach es X.env)).any (·.1)=false:=by rfl):PE X (.Call (.Name x p) (e :: es) [] pos) (tCB r t):=by
 intro pins s σ H Q I h
 refine wpAny_Call_Name_kw (Zs I hg hm hv ?_ hn hdb)
 exact PyProof.Rows.callWith_type1 (thn (ha pos pins s σ H _ I h) fun us s1 ⟨vs,H1,I1,r1,q1⟩=>hc pins s1 σ H1 vs us Q I1 r1 q1) he hpl
end
end L2
namespace HT
open PySem PyProof.Rows
def zem:List Int→List Int→Bool
 | [],[]=>false
 | [],_ :: _=>true
 | _ :: _,[]=>false
 | x :: xs,y :: ys=>if x=y then zem xs ys else decide (x < y)
section
open PySem.SeqAt
open PySem.AutoSeq1 (wpAny_loadPart')
open PySem.MeetsSeq PySem.MeetsSeq2 PySem.MeetsSeq3
end
section
variable {prog:Program} {w:World} {A:Around} {E:Value→Shared→Prop} {s:Shared}
def sIx (n d:Nat):Option Int→Nat
 | none=>d
 | some v=>if v < 0 then (v + (n:Int)).toNat else min v.toNat n
theorem sIx_none (n d:Nat):sIx n d none=d:=rfl
theorem sIx_nat (n d k:Nat):sIx n d (some (k:Int))=min k n:=by
 show (if (k:Int) < 0 then ((k:Int) + (n:Int)).toNat else min (k:Int).toNat n)=min k n
 rw [if_neg (by omega),Int.toNat_natCast]
theorem sIx_le (n d:Nat) (hd:d≤n) (o:Option Int):sIx n d o≤n:=by
 cases o with
 | none=>exact hd
 | some v =>
  show (if v < 0 then (v + (n:Int)).toNat else min v.toNat n)≤n
  by_cases hv:v < 0
  ·rw [if_pos hv];omega
  ·rw [if_neg hv];exact Nat.min_le_right _ _
end
end HT
namespace L2
open PySem PySem.Spec PyProof.Rows
abbrev TO:=St→Hp→(Option Int→Hp→Prop)→Prop
def PO (X:Cx) (e:Option Expr) (t:TO):Prop :=
 ∀ (pins:List (Addr × Obj)) (s:Shared) (σ:St) (H:Hp) (Q:Option Int→Hp→Prop),Inv X pins σ H s→t σ H Q →
  wpAny (model X.prog X.w) X.A (evalPart e X.env) (fun u s'=>∃ o H',Inv X pins σ H' s'∧IsPart u o∧Q o H') X.xe s
def zu:TO:=fun _ H Q=>Q none H
def zF (t:TE):TO:=fun σ H Q=>t σ H fun x H1=>∃ i,x=.int i∧Q (some i) H1
theorem Ji {ns:List Int}:∀ {us:List Value},Vals (ns.map V.int) us→IntsAre us ns:=by
 induction ns with
 | nil=>intro us r;rw [List.map_nil] at r;cases r;exact .nil
 | cons n ns ih =>
  intro us r
  rw [List.map_cons] at r
  cases r with
  | cons r1 r2 =>
   obtain ⟨t,e⟩:=r1
   subst e
   exact .cons n t (ih r2)
section
variable {X:Cx} {e:Expr} {te:TE} {lo hi:Option Expr} {tl th:TO} {pos p2:Pos}
theorem z0:PO X none zu:=by
 intro pins s σ H Q I h
 rw [evalPart_none]
 exact wpAny_pure ⟨none,H,I,.none,h⟩
theorem zQ (h:PE X e te):PO X (some e) (zF te):=by
 intro pins s σ H Q I hw
 rw [evalPart_some]
 refine thn (h pins s σ H _ I hw) fun u s1 ⟨x,H1,I1,r1,q1⟩=>?_
 obtain ⟨i,rfl,q⟩:=q1
 obtain ⟨t,rfl⟩:=r1
 exact ⟨some i,H1,I1,.int i t,q⟩
def SlR (X:Cx) (r:V→Option Int→Option Int→Hp→VK→Prop):Prop :=
 ∀ (pins:List (Addr × Obj)) (s:Shared) (σ:St) (H:Hp) (x:V) (v vl vu:Value) (lo hi:Option Int) (sl:Addr) (Q:VK),Inv X pins σ H s→RelV x v→s.heap.IsSliceOf sl vl vu .none→IsPart vl lo→IsPart vu hi→r x lo hi H Q →
  ∃ T id,typeLookup (.type T) "__getitem__"=pure (some (.builtin id))∧s.TypeIs v T∧wpAny (model X.prog X.w) X.A (getItem v (.ref sl)) (EP X pins σ Q) X.xe s
def tSl (r:V→Option Int→Option Int→Hp→VK→Prop) (te:TE) (tl th:TO):TE:=fun σ H Q=>te σ H fun x H1=>tl σ H1 fun l H2=>th σ H2 fun u H3=>r x l u H3 Q
theorem zN {r:V→Option Int→Option Int→Hp→VK→Prop} (hr:SlR X r) (he:PE X e te) (hl:PO X lo tl) (hu:PO X hi th):PE X (.Subscript e (.Slice lo hi none p2) pos) (tSl r te tl th):=by
 intro pins s σ H Q I h
 refine Subscript_ (thn (he pins s σ H _ I h) fun v s1 ⟨x,H1,I1,r1,q1⟩=>?_)
 refine wpAny_Slice (thn (hl pins s1 σ H1 _ I1 q1) fun vl s2 ⟨l,H2,I2,pl,q2⟩=>thn (hu pins s2 σ H2 _ I2 q2) fun vu s3 ⟨u,H3,I3,pu,q3⟩=>?_)
 rw [evalPart_none]
 refine wpAny_pure ?_
 have I4:Inv X pins σ H3 { s3 with heap:=s3.heap.push { cls:=.type "slice",data:=.fields #[vl,vu,.none] } }:=I3.kept (t':=s3.toks) fun b ob q=>Heap.get?_push_of_some _ q
 obtain ⟨T,id,hT,ht,hg⟩:=hr pins { s3 with heap:=s3.heap.push { cls:=.type "slice",data:=.fields #[vl,vu,.none] } } σ H3 x v vl vu l u s3.heap.objs.size Q I4 r1 (Heap.IsSliceOf.new ..) pl pu q3
 show wpAny (model X.prog X.w) X.A (subscriptTail e (.Slice lo hi none p2) v (.ref s3.heap.objs.size)) (EP X pins σ Q) X.xe { s3 with heap:=s3.heap.push { cls:=.type "slice",data:=.fields #[vl,vu,.none] } }
 exact tail_any (ops:=[.ref s3.heap.objs.size,v]) ht hT hg (by with_unfolding_all rfl)
def yM (xs:List V) (lo hi:Option Int):List V:=(xs.drop (HT.sIx xs.length 0 lo)).take (HT.sIx xs.length xs.length hi - HT.sIx xs.length 0 lo)
theorem W4 (xs:List V) (lo hi:Option Int):(yM xs lo hi).length≤xs.length:=by
 unfold yM
 rw [List.length_take,List.length_drop]
 omega
def zff (K:W.Frag):R2:=fun x y H Q=>∃ a b xs ys,x=.ref a∧y=.ref b∧SqT K H a xs∧SqT K H b ys∧xs≠[]∧xs.length + ys.length≤sizeLine ∧
 (ys=[]→Q (.ref a) H)∧(ys≠[]→∀ p,H p=none→Q (.ref p) (upd H p (.tup (xs ++ ys))))
end
end L2
namespace L2
open PySem PySem.Spec PyProof.Rows
def ixN (n:Nat) (i:Int):Option Nat:=if 0≤i then (if i < n then some i.toNat else none) else if -(n:Int)≤i then some (i + n).toNat else none
def atI {α:Type} (xs:List α) (i:Int):Option α:=(ixN xs.length i).bind fun j=>xs[j]?
theorem zbY {n:Nat} {i:Int} {j:Nat} (h:ixN n i=some j):seqIndex? i n=some j∧j < n∧-(n:Int)≤i∧i < n:=by
 unfold ixN at h
 by_cases h0:0≤i
 ·rw [if_pos h0] at h
  by_cases h1:i < n
  ·rw [if_pos h1] at h
   have e:i.toNat=j:=Option.some.inj h
   exact ⟨by rw [seqIndex_of h0 h1,e],by omega,by omega,h1⟩
  ·rw [if_neg h1] at h;cases h
 ·rw [if_neg h0] at h
  by_cases h1:-(n:Int)≤i
  ·rw [if_pos h1] at h
   have e:(i + n).toNat=j:=Option.some.inj h
   exact ⟨by rw [seqIndex_neg (by omega) h1,e],by omega,h1,by omega⟩
  ·rw [if_neg h1] at h;cases h
theorem Wl {α:Type} {xs:List α} {i:Int} {v:α} (h:atI xs i=some v):∃ j,seqIndex? i xs.length=some j∧xs[j]?=some v∧j < xs.length∧-(xs.length:Int)≤i∧i < xs.length:=by
 unfold atI at h
 cases e:ixN xs.length i with
 | none=>rw [e] at h;cases h
 | some j =>
  rw [e] at h
  obtain ⟨h1,h2,h3,h4⟩:=zbY e
  exact ⟨j,h1,h,h2,h3,h4⟩
theorem qS {α:Type} {xs:List α} {j:Nat} {v:α} (h:xs[j]?=some v):atI xs (j:Int)=some v:=by
 have hj:j < xs.length:=(List.getElem?_eq_some_iff.mp h).1
 have e:ixN xs.length (j:Int)=some j:=by
  unfold ixN
  rw [if_pos (by omega),if_pos (by omega)];simp
 unfold atI;rw [e];exact h
def zbZ (b:Expr):Prop:=∀ o i,subscripted b false o i=operate [o,i] (getItem o i)
def IxR (X:Cx) (r:R2):Prop :=
 ∀ (value slice:Expr) (pins:List (Addr × Obj)) (s:Shared) (σ:St) (H:Hp) (x y:V) (v u:Value) (Q:VK),Inv X pins σ H s→RelV x v→RelV y u→r x y H Q →
  subscripted slice false v u=operate [v,u] (getItem v u)→wpAny (model X.prog X.w) X.A (subscriptTail value slice v u) (EP X pins σ Q) X.xe s
def MtR (X:Cx) (id:String) (r:V→List V→Hp→VK→Prop):Prop :=
 ∀ (pins:List (Addr × Obj)) (s:Shared) (σ:St) (H:Hp) (x:V) (xs:List V) (v:Value) (us:List Value) (Q:VK),Inv X pins σ H s→RelV x v→Vals xs us→r x xs H Q →
  wpAny (model X.prog X.w) X.A (call (.builtin id) (v :: us)) (EP X pins σ Q) X.xe s
section
variable {X:Cx} {a b:Expr} {ta tb:TE} {pos:Pos}
theorem zO {r:R2} (hr:IxR X r) (ha:PE X a ta) (hb:PE X b tb) (hs:zbZ b):PE X (.Subscript a b pos) (tOp r ta tb):=by
 intro pins s σ H Q I h
 exact Subscript_ (zdw ha hb I h fun v u s2 x y H2 I2 rx ry q=>hr a b pins s2 σ H2 x y v u Q I2 rx ry q (hs _ _))
def zG (K:W.Frag):R2:=fun x y H Q=>∃ p xs i v,x=.ref p∧y=.int i∧SqL K H p xs∧atI xs i=some v∧Q v H
def yG (K:W.Frag):R2:=fun x y H Q=>∃ p xs i v,x=.ref p∧y=.int i∧SqT K H p xs∧atI xs i=some v∧Q v H
def jO:R2:=fun x y H Q=>∃ z i c,x=.str z∧y=.int i∧z.length≤sizeLine∧atI z.cps.toList i=some c∧Q (.str ⟨#[c]⟩) H
theorem zz:IxR X (zG X.K):=by
 intro value slice pins s σ H x y v u Q I rx ry h hs
 obtain ⟨p,xs,i,z,rfl,rfl,hq,he,q⟩:=h
 cases rx
 obtain ⟨t,rfl⟩:=ry
 obtain ⟨its,r,pl,hz⟩:=I.list hq
 obtain ⟨j,h1,h2,h3,h4,h5⟩:=Wl he
 obtain ⟨w,ew,rw'⟩:=r.get h2
 have hl:=r.length
 have hn:=Wk
 have fin:EP X pins σ Q w s:=⟨z,H,I,rw',q⟩
 by_cases h0:0≤i
 ·have hj:i.toNat=j:=by
   rw [seqIndex_of h0 h5] at h1
   exact Option.some.inj h1
  exact item_listR pl.isList h0 (by omega) (by rw [hj];simpa using ew) fin hs
 ·have hj:(i + (its.toArray.size:Int)).toNat=j:=by
   rw [seqIndex_neg (by omega) h4] at h1
   rw [List.size_toArray,← hl]
   exact Option.some.inj h1
  exact subscriptTail_builtinR (x:=w) pl.isList.typeIs slot_list_getitem.lookup
   (wpAny_getItem_list_neg (Q:=fun r s'=>r=w∧EP X pins σ Q r s') pl.isList (by omega) (by rw [List.size_toArray] <;> omega) (by omega) (by rw [hj];simpa using ew) ⟨rfl,fin⟩) hs
theorem qk:IxR X (yG X.K):=by
 intro value slice pins s σ H x y v u Q I rx ry h hs
 obtain ⟨p,xs,i,z,rfl,rfl,hq,he,q⟩:=h
 cases rx
 obtain ⟨t,rfl⟩:=ry
 obtain ⟨its,r,pl,hz⟩:=I.tuple hq
 obtain ⟨j,h1,h2,h3,h4,h5⟩:=Wl he
 obtain ⟨w,ew,rw'⟩:=r.get h2
 have hl:=r.length
 have hn:=Wk
 have fin:EP X pins σ Q w s:=⟨z,H,I,rw',q⟩
 exact subscriptTail_builtinR (x:=w) pl.typeIs slot_tuple_getitem.lookup
  (getItem_tuple (j:=j) (Q:=fun r s'=>r=w∧EP X pins σ Q r s') pl (by omega) (by omega) (by rw [List.size_toArray,← hl];exact h1) (by simpa using ew) ⟨rfl,fin⟩) hs
theorem Ya:IxR X jO:=by
 intro value slice pins s σ H x y v u Q I rx ry h hs
 obtain ⟨z,i,c,rfl,rfl,hz,he,q⟩:=h
 obtain ⟨t,rfl⟩:=rx
 obtain ⟨t',rfl⟩:=ry
 obtain ⟨j,h1,h2,h3,h4,h5⟩:=Wl he
 have hl:z.cps.toList.length=z.length:=by simp [Str.length]
 rw [hl] at h1 h4 h5
 have hn:=Wk
 exact tail_any (typeIs_str s z t) slot_str_getitem.lookup (getItem_str (c:=c) (by
  have e1:decide (i < -(2 ^ 63:Int))=false:=decide_eq_false (by omega)
  have e2:decide (i ≥ 2 ^ 63)=false:=decide_eq_false (by omega)
  rw [e1,e2,Bool.or_false]) (by rw [h1];simpa using h2) ⟨.str ⟨#[c]⟩,H,I.tok _,⟨_,rfl⟩,q⟩) hs
theorem Wm (lo hi:Option Int) (n:Nat):(sliceBounds lo hi none n).1=((HT.sIx n 0 lo:Nat):Int)∧(sliceBounds lo hi none n).2.1=((HT.sIx n n hi:Nat):Int)∧(sliceBounds lo hi none n).2.2=1:=by
 refine ⟨?_,?_,rfl⟩
 ·cases lo with
  | none=>simp [sliceBounds,HT.sIx]
  | some i =>
   simp only [sliceBounds,HT.sIx,Option.getD_none,show (1:Int) > 0 by decide,if_true]
   by_cases h:i < 0
   ·simp only [h,if_true] <;> omega
   ·simp only [h,if_false] <;> omega
 ·cases hi with
  | none=>simp [sliceBounds,HT.sIx]
  | some i =>
   simp only [sliceBounds,HT.sIx,Option.getD_none,show (1:Int) > 0 by decide,if_true]
   by_cases h:i < 0
   ·simp only [h,if_true] <;> omega
   ·simp only [h,if_false] <;> omega
theorem Y2 (its:List Value) (lo hi:Option Int):slicePick its.toArray lo hi none=((its.drop (HT.sIx its.length 0 lo)).take (HT.sIx its.length its.length hi - HT.sIx its.length 0 lo)).toArray:=by
 obtain ⟨h1,h2,h3⟩:=Wm lo hi its.toArray.size
 unfold slicePick
 rw [h1,h2,h3]
 simp only [sliceRange_one,pick_run,List.size_toArray] <;> rfl
def yl (K:W.Frag):V→Option Int→Option Int→Hp→VK→Prop:=fun x lo hi H Q=>∃ a xs,x=.ref a∧SqL K H a xs∧∀ p,H p=none→Q (.ref p) (upd H p (.lst (yM xs lo hi)))
theorem yc:SlR X (yl X.K):=by
 intro pins s σ H x v vl vu lo hi sl Q I rx hs pl pu h
 obtain ⟨a,xs,rfl,hx,q⟩:=h
 cases rx
 obtain ⟨its,r,ht,hz⟩:=I.list hx
 have hlen:=r.length
 refine ⟨"list",_,slot_list_getitem.lookup,ht.isList.typeIs,?_⟩
 refine wpAny_getItem_list_slice ht.isList hs pl pu .none (by simp) ?_ (by rw [List.size_toArray] <;> omega)
 rw [Y2,← hlen]
 refine ⟨.ref s.heap.objs.size,_,I.laid (t':=s.toks) (o:=.lst (yM xs lo hi)) (fun b ob q=>Heap.get?_push_of_some _ q) (Nat.le_refl _) ?_,rfl,q _ (I.hok.fresh (Nat.le_refl _))⟩
 exact ⟨Nat.le_trans (W4 xs lo hi) hz,_,0,(r.drop (HT.sIx xs.length 0 lo)).take (HT.sIx xs.length xs.length hi - HT.sIx xs.length 0 lo),Heap.get?_push_size _ rfl⟩
def ZE:V→Bool
 | .non=>true
 | .bl _=>true
 | .int _=>true
 | .str _=>true
 | _=>false
def eqV:V→V→Bool
 | .non,.non=>true
 | .bl a,.bl b=>a == b
 | .bl a,.int b=>(if a then 1 else 0) == b
 | .int a,.bl b=>a == (if b then 1 else 0)
 | .int a,.int b=>a == b
 | .str a,.str b=>a == b
 | _,_=>false
theorem zdA {A:Around} {s:Shared} {y x:V} {u v:Value} (ry:RelV y u) (rx:RelV x v) (fy:ZE y=true) (fx:ZE x=true):SeqAt.EqAt A s u v (eqV y x):=by
 cases y with
 | non =>
  cases ry
  cases x with
  | non=>cases rx;exact SeqAt.EqAt.same _
  | bl b=>cases rx;exact SeqAt.EqAt.none_bool b
  | int b=>obtain ⟨t,rfl⟩:=rx;exact SeqAt.EqAt.none_int b t
  | str b=>obtain ⟨t,rfl⟩:=rx;exact SeqAt.EqAt.none_str b t
  | _=>exact absurd (show false=true from fx) Bool.false_ne_true
 | bl a =>
  cases ry
  cases x with
  | non=>cases rx;exact SeqAt.EqAt.bool_none a
  | bl b=>cases rx;exact SeqAt.EqAt.bool_bool a b
  | int b=>obtain ⟨t,rfl⟩:=rx;exact SeqAt.EqAt.bool_int a b t
  | str b=>obtain ⟨t,rfl⟩:=rx;exact SeqAt.EqAt.bool_str a b t
  | _=>exact absurd (show false=true from fx) Bool.false_ne_true
 | int a =>
  obtain ⟨t',rfl⟩:=ry
  cases x with
  | non=>cases rx;exact SeqAt.EqAt.int_none a t'
  | bl b=>cases rx;exact SeqAt.EqAt.int_bool a t' b
  | int b=>obtain ⟨t,rfl⟩:=rx;exact SeqAt.EqAt.int_int a t' b t
  | str b=>obtain ⟨t,rfl⟩:=rx;exact SeqAt.EqAt.int_str a t' b t
  | _=>exact absurd (show false=true from fx) Bool.false_ne_true
 | str a =>
  obtain ⟨t',rfl⟩:=ry
  cases x with
  | non=>cases rx;exact SeqAt.EqAt.str_none a t'
  | bl b=>cases rx;exact SeqAt.EqAt.str_bool a t' b
  | int b=>obtain ⟨t,rfl⟩:=rx;exact SeqAt.EqAt.str_int a t' b t
  | str b=>obtain ⟨t,rfl⟩:=rx;exact SeqAt.EqAt.str_str a t' b t
  | _=>exact absurd (show false=true from fx) Bool.false_ne_true
 | _=>exact absurd (show false=true from fy) Bool.false_ne_true
def eqU (x:V) (u:Value):Bool:=match u with
 | .none=>eqV .non x
 | .bool b=>eqV (.bl b) x
 | .int i _=>eqV (.int i) x
 | .str z _=>eqV (.str z) x
 | _=>false
theorem QW {x y:V} {u:Value} (r:RelV y u) (f:ZE y=true):eqU x u=eqV y x:=by
 cases y with
 | non=>cases r;rfl
 | bl b=>cases r;rfl
 | int i=>obtain ⟨t,rfl⟩:=r;rfl
 | str z=>obtain ⟨t,rfl⟩:=r;rfl
 | _=>exact absurd (show false=true from f) Bool.false_ne_true
theorem qT {x:V}:∀ {xs:List V} {us:List Value},Vals xs us→xs.all ZE=true→us.any (eqU x)=xs.any fun y=>eqV y x
 | _,_,.nil,_=>rfl
 | y :: xs,u :: us,.cons r t,f=>by
  rw [List.all_cons,Bool.and_eq_true] at f
  rw [List.any_cons,List.any_cons,QW r f.1,qT t f.2]
theorem kw {A:Around} {s:Shared} {x:V} {v:Value} (rx:RelV x v) (fx:ZE x=true):∀ {xs:List V} {us:List Value},Vals xs us→xs.all ZE=true→∀ u∈us,SeqAt.EqAt A s u v (eqU x u)
 | _,_,.nil,_=>fun u hu=>by cases hu
 | y :: xs,u :: us,.cons r t,f=>fun u' hu=>by
  rw [List.all_cons,Bool.and_eq_true] at f
  rcases List.mem_cons.mp hu with rfl | hu
  ·rw [QW r f.1];exact zdA r rx f.1 fx
  ·exact kw rx fx t f.2 u' hu
def inV (x:V) (xs:List V):Bool:=xs.any fun y=>eqV y x
def rIn (K:W.Frag) (neg:Bool):R2:=fun x y H Q=>∃ p xs,y=.ref p∧(SqL K H p xs∨SqT K H p xs)∧ZE x=true∧xs.all ZE=true∧Q (.bl (if neg then !inV x xs else inV x xs)) H
theorem kT:OpR X (compareOp .In) (rIn X.K false):=by
 intro pins s σ H x y v u Q I rx ry h
 obtain ⟨p,xs,rfl,hq,fx,fs,q⟩:=h
 cases ry
 rcases hq with hq | hq
 ·obtain ⟨its,r,pl,hz⟩:=I.list hq
  refine SeqAt.in_listAt (eqU x) pl.isList (fun w hw=>kw rx fx r fs w (by simpa using hw)) ⟨.bl _,H,I,rfl,?_⟩
  rw [show its.toArray.any (eqU x)=its.any (eqU x) by simp,qT r fs]
  exact q
 ·obtain ⟨its,r,pl,hz⟩:=I.tuple hq
  refine SeqAt.in_tupleAt (eqU x) pl (fun w hw=>kw rx fx r fs w (by simpa using hw)) ⟨.bl _,H,I,rfl,?_⟩
  rw [show its.toArray.any (eqU x)=its.any (eqU x) by simp,qT r fs]
  exact q
theorem Wn:OpR X (compareOp .NotIn) (rIn X.K true):=by
 intro pins s σ H x y v u Q I rx ry h
 obtain ⟨p,xs,rfl,hq,fx,fs,q⟩:=h
 cases ry
 rcases hq with hq | hq
 ·obtain ⟨its,r,pl,hz⟩:=I.list hq
  refine SeqAt.notIn_listAt (eqU x) pl.isList (fun w hw=>kw rx fx r fs w (by simpa using hw)) ⟨.bl _,H,I,rfl,?_⟩
  rw [show its.toArray.any (eqU x)=its.any (eqU x) by simp,qT r fs]
  exact q
 ·obtain ⟨its,r,pl,hz⟩:=I.tuple hq
  refine SeqAt.notIn_tupleAt (eqU x) pl (fun w hw=>kw rx fx r fs w (by simpa using hw)) ⟨.bl _,H,I,rfl,?_⟩
  rw [show its.toArray.any (eqU x)=its.any (eqU x) by simp,qT r fs]
  exact q
theorem Y3:vq X (.type "tuple") (fun xs H Q=>∃ p ys,xs=[.ref p]∧((SqL X.K H p ys∧∀ l,H l=none→Q (.ref l) (upd H l (.tup ys)))∨(SqT X.K H p ys∧Q (.ref p) H))):=by
 intro pins s σ H xs us Q I r h
 obtain ⟨p,ys,rfl,h⟩:=h
 obtain ⟨u,rfl,rx⟩:=wV r
 cases rx
 rcases h with ⟨hq,q⟩ | ⟨hq,q⟩
 ·obtain ⟨its,r',pl,hz⟩:=I.list hq
  have hlen:=r'.length
  refine call_tuple_list pl.isList (fun h' kp=>?_) (by simp only [List.size_toArray] <;> omega)
  have I1:Inv X pins σ H { s with heap:=h' }:=I.kept (t':=s.toks) kp
  have I2:Inv X pins σ (upd H h'.objs.size (.tup ys)) { s with heap:=h'.push { cls:=.type "tuple",data:=.seq its.toArray } } :=
   I1.laid (t':=s.toks) (fun b o e=>Heap.get?_push_of_some _ e) (Nat.le_refl _) (show ObjOk X.prog X.w _ _ _ (.tup ys) from ⟨hz,its,r',IsTup.new _ _⟩)
  exact ⟨.ref h'.objs.size,_,I2,rfl,q _ (I1.hok.fresh (Nat.le_refl _))⟩
 ·obtain ⟨its,r',pl,hz⟩:=I.tuple hq
  exact call_tuple_same pl ⟨.ref p,H,I,rfl,q⟩
def tyV (K:W.Frag) (T:String) (x:V) (H:Hp):Prop:=match x with
 | .str _=>T="str"
 | .int _=>T="int"
 | .ref p=>(T="list"∧∃ xs,SqL K H p xs)∨(T="tuple"∧∃ o,K.lookup p=some o∧o.cls=.type "tuple"∧o.dict=none) ∨
   (T="dict"∧((∃ kvs,H p=some (.dK kvs))∨∃ kvs,H p=some (.dT kvs)))∨(T="set"∧∃ S n,H p=some (.set S n))
 | _=>False
theorem zdB {pins:List (Addr × Obj)} {σ:St} {H:Hp} {s:Shared} {T:String} {x:V} {v:Value} (I:Inv X pins σ H s) (r:RelV x v) (ty:tyV X.K T x H) :
  s.TypeIs v T∧∀ a,v=.ref a→∃ ob,s.heap.get? a=some ob∧ob.dict=none:=by
 cases x with
 | str z =>
  obtain ⟨t,rfl⟩:=r
  cases (show T="str" from ty)
  exact ⟨typeIs_str s z t,fun _ e=>nomatch e⟩
 | int i =>
  obtain ⟨t,rfl⟩:=r
  cases (show T="int" from ty)
  exact ⟨typeIs_int s i t,fun _ e=>nomatch e⟩
 | ref p =>
  cases r
  rcases ty with ⟨rfl,xs,hq⟩ | ⟨rfl,o,hk,hc,hd⟩ | ⟨rfl,hk⟩ | ⟨rfl,S,n,hk⟩
  ·obtain ⟨its,_,pl,_⟩:=I.list hq
   refine ⟨pl.isList.typeIs,fun a e=>?_⟩
   cases e
   obtain ⟨o,n,e,c,hd,_⟩:=pl
   exact ⟨o,e,hd⟩
  ·refine ⟨⟨o,I.kIn p o hk,hc⟩,fun a e=>?_⟩
   cases e
   exact ⟨o,I.kIn _ o hk,hd⟩
  ·have z:∃ o,s.heap.get? p=some o∧o.ExactDict:=by
    rcases hk with ⟨kvs,hk⟩ | ⟨kvs,hk⟩
    ·obtain ⟨_,_,_,_,o,_,_,e,ex,_⟩:=I.hok p _ hk
     exact ⟨o,e,ex⟩
    ·obtain ⟨_,_,_,_,o,_,_,e,ex,_⟩:=I.hok p _ hk
     exact ⟨o,e,ex⟩
   obtain ⟨o,e,ex⟩:=z
   refine ⟨⟨o,e,ex.1⟩,fun a e2=>?_⟩
   cases e2
   exact ⟨o,e,ex.2.1⟩
  ·obtain ⟨o,_,_,_,e,ex,_⟩:=I.hok p _ hk
   refine ⟨⟨o,e,ex.1⟩,fun a e2=>?_⟩
   cases e2
   exact ⟨o,e,ex.2.1⟩
 | _=>exact False.elim ty
def zfO (K:W.Frag) (T:String) (r:V→List V→Hp→VK→Prop) (to:TE):TE:=fun σ H Q=>to σ H fun x H1=>tyV K T x H1∧r x [] H1 Q
def tBM (K:W.Frag) (T:String) (r:V→List V→Hp→VK→Prop) (to:TE) (t:TA):TE:=fun σ H Q=>to σ H fun x H1=>tyV K T x H1∧t σ H1 fun xs H2=>r x xs H2 Q
variable {o e:Expr} {es:List Expr} {to:TE} {t:TA} {name:Str} {apos cpos:Pos} {T id:String} {r:V→List V→Hp→VK→Prop}
theorem vT (pa:PlainAttrs T) (slot:Slot T name id) (hty:typeOf (.builtin id)=pure (.type "method_descriptor")) (hm:MtR X id r) (ho:PE X o to) (ha:PA X (e :: es) t)
  (hbase:attributeBase o name X.env (eval o X.env)=eval o X.env:=by rfl)
  (hfew:((backTo cpos (starEach (e :: es) X.env)).all (fun x=>!x.1) && (backToKw cpos (keywordEach [] X.env)).all (fun x=>x.1.isSome)
   && decide ((e :: es).length + ([]:List Keyword).length + (if ([]:List Keyword).isEmpty then 0 else 1) < 30))=true:=by rfl)
  (hline:(apos.endLine == cpos.line)=true:=by rfl) (hs:starEach (e :: es) X.env=(false,eval e X.env) :: starEach es X.env:=by rfl) (hplain:(backTo cpos (starEach es X.env)).any (·.1)=false:=by rfl) :
  PE X (.Call (.Attribute o name apos) (e :: es) [] cpos) (tBM X.K T r to t):=by
 intro pins s σ H Q I h
 refine wpAny_Call_method_late hbase hfew hline rfl (thn (ho pins s σ H _ I h) fun v s1 ⟨x,H1,I1,r1,ty,q1⟩=>?_)
 obtain ⟨h1,h2⟩:=zdB I1 r1 ty
 refine ⟨T,id,pa,slot,hty,h1,h2,?_⟩
 have hA:=ha cpos pins s1 σ H1 _ I1 q1
 rw [hs] at hA ⊢
 refine Calls.callWith_builtin (by show (false || (backTo cpos (starEach es X.env)).any (·.1))=false;rw [hplain] <;> rfl) (Calls.evalArgs_plain ?_)
 exact thn hA fun us s2 ⟨vs,H2,I2,r2,q2⟩=>hm pins s2 σ H2 x vs v us Q I2 r1 r2 q2
end
end L2
namespace L2
open PySem PySem.Spec PyProof.Rows
def MtM (X:Cx) (id:String) (r:V→List V→Hp→VK→Prop):Prop :=
 ∀ (pins:List (Addr × Obj)) (s:Shared) (σ:St) (H:Hp) (x:V) (xs:List V) (v:Value) (us:List Value) (Q:VK),Inv X pins σ H s→RelV x v→Vals xs us→r x xs H Q →
  wpAny (model X.prog X.w) X.A (call (.builtin id) (v :: us)) (EP X pins σ Q) X.xe s
theorem Vals.one:∀ {x:V} {us:List Value},Vals [x] us→∃ u,us=[u]∧RelV x u
 | _,_,.cons r .nil=>⟨_,rfl,r⟩
section
variable {X:Cx} {pins:List (Addr × Obj)} {σ:St} {H:Hp} {s:Shared} {l b:Addr} {xs ys zs:List V}
theorem Inv.lset {its its':List Value} {n:Nat} {f:Array Value→Array Value} {t':Nat} (I:Inv X pins σ H s) (hH:H l=some (.lst xs))
  (e:s.heap.get? l=some { cls:=.type "list",data:=.seq its.toArray n }) (hf:f its.toArray=its'.toArray) (hv:Vals ys its') (hz:ys.length≤sizeLine) :
  Inv X pins σ (upd H l (.lst ys)) { s with heap:=s.heap.update l (Obj.mapSeq f),toks:=t' }:=by
 have q:=PySem.IsL.update e f
 rw [hf] at q
 refine I.write (x:=l) (e:=l) (by rw [hH];exact trivial) (.inl rfl) (fun b' u hb hu=>(Heap.get?_update_other s.heap (Obj.mapSeq f) (Ne.symm hb)).trans hu) ⟨_,q⟩ ?_
 exact ⟨hz,its',_,hv,q⟩
theorem Inv.lnew {its:List Value} {t':Nat} (I:Inv X pins σ H s) (hv:Vals ys its) (hz:ys.length≤sizeLine) :
  Inv X pins σ (upd H s.heap.objs.size (.lst ys)) { s with heap:=s.heap.push { cls:=.type "list",data:=.seq its.toArray },toks:=t' } :=
 I.laid (fun _ _ q=>Heap.get?_push_of_some _ q) (Nat.le_refl _) ⟨hz,its,0,hv,Heap.get?_push_size _ rfl⟩
theorem Inv.fresh (I:Inv X pins σ H s):H s.heap.objs.size=none:=I.hok.fresh (Nat.le_refl _)
theorem Inv.lstM (I:Inv X pins σ H s) (hH:H l=some (.lst xs)):xs.length≤sizeLine∧∃ (its:List Value) (n:Nat),Vals xs its∧xs.length=its.length∧s.heap.get? l=some { cls:=.type "list",data:=.seq its.toArray n }:=by
 obtain ⟨z,its,n,r,e⟩:=I.hok l _ hH
 exact ⟨z,its,n,r,r.length,e⟩
end
section
variable {X:Cx}
def kU:V→List V→Hp→VK→Prop:=fun x vs H Q=>∃ l xs y,x=.ref l∧vs=[y]∧H l=some (.lst xs)∧xs.length < sizeLine∧Q .non (upd H l (.lst (xs ++ [y])))
theorem kW:MtM X "list.append" kU:=by
 intro pins s σ H x vs v us Q I rx rv h
 obtain ⟨l,xs,y,rfl,rfl,hH,hz,q⟩:=h
 cases rx
 obtain ⟨u,rfl,ru⟩:=rv.one
 obtain ⟨z,its,n,r,hl,e⟩:=I.lstM hH
 refine call_meets F.slot_list_append ⟨_,e,rfl⟩ F.entry_list_append (F.args_list_append_2 _ _) (PySem.list_append l its.toArray n u (by rw [List.size_toArray];omega)) ⟨e,?_⟩
 refine ⟨.non,_,I.lset (its':=its ++ [u]) hH e (by simp) (r.append (.cons ru .nil)) ?_,rfl,q⟩
 rw [List.length_append,List.length_singleton]
 omega
def zb0:V→List V→Hp→VK→Prop:=fun x vs H Q=>∃ l b xs zs,x=.ref l∧vs=[.ref b]∧H l=some (.lst xs)∧H b=some (.lst zs)∧xs.length + zs.length≤sizeLine∧Q .non (upd H l (.lst (xs ++ zs)))
def zeN:V→List V→Hp→VK→Prop:=fun x vs H Q=>∃ l xs y,x=.ref l∧vs=[]∧H l=some (.lst xs)∧xs[xs.length - 1]?=some y∧Q y (upd H l (.lst xs.dropLast))
def zdC:V→List V→Hp→VK→Prop:=fun x vs H Q=>∃ l xs,x=.ref l∧vs=[]∧H l=some (.lst xs)∧Q .non (upd H l (.lst []))
def zP:R2:=fun x y H Q=>∃ l b xs zs,x=.ref l∧y=.ref b∧H l=some (.lst xs)∧H b=some (.lst zs)∧xs.length + zs.length≤sizeLine∧∀ p,H p=none→Q (.ref p) (upd H p (.lst (xs ++ zs)))
theorem yt:OpR X (binaryOp .Add) zP:=by
 intro pins s σ H x y v u Q I rx ry h
 obtain ⟨l,b,xs,zs,rfl,rfl,hH,hB,hz,q⟩:=h
 cases rx
 cases ry
 obtain ⟨z,its,n,r,hl,e⟩:=I.lstM hH
 obtain ⟨z2,its2,n2,r2,hl2,e2⟩:=I.lstM hB
 refine PySem.P.add_list e e2 ?_ (by rw [List.size_toArray,List.size_toArray];omega)
 have ea:its.toArray ++ its2.toArray=(its ++ its2).toArray:=by simp
 rw [ea]
 exact ⟨.ref _,_,I.lnew (t':=s.toks) (r.append r2) (by rw [List.length_append];omega),rfl,q _ I.fresh⟩
def zfP:R2:=fun x y H Q=>∃ l k xs,x=.ref l∧y=.int k∧H l=some (.lst xs)∧-(2 ^ 63)≤k∧k < 2 ^ 63∧xs.length * k.toNat≤sizeLine ∧
 ∀ p,H p=none→Q (.ref p) (upd H p (.lst (List.replicate k.toNat xs).flatten))
end
section
variable {prog:Program} {w:World} {A:Around} {E:Value→Shared→Prop} {s:Shared}
set_option maxRecDepth 100000 in
end
section
variable {X:Cx}
end
end L2
namespace L2
open PySem PySem.Spec PyProof.Rows
section
variable {κ:Type} [DecidableEq κ]
def yU (kvs:List (κ × V)) (k:κ):Option V:=(kvs.find? fun kv=>decide (kv.1=k)).map (·.2)
def wW (kvs:List (κ × V)) (k:κ) (v:V):List (κ × V) :=
 if (kvs.any fun kv=>decide (kv.1=k))=true then kvs.map (fun kv=>if kv.1=k then (kv.1,v) else kv) else kvs ++ [(k,v)]
def Xv (kvs:List (κ × V)) (k:κ):List (κ × V):=kvs.filter fun kv=>decide (kv.1≠k)
theorem QX {k:κ}:yU ([]:List (κ × V)) k=none:=rfl
theorem yZ {p:κ × V} {r:List (κ × V)} {k:κ} (e:p.1=k):yU (p :: r) k=some p.2:=by simp [yU,List.find?_cons,e]
theorem y0 {p:κ × V} {r:List (κ × V)} {k:κ} (e:¬ p.1=k):yU (p :: r) k=yU r k:=by simp [yU,List.find?_cons,e]
theorem wX (k:κ):∀ kvs:List (κ × V),(kvs.any fun kv=>decide (kv.1=k))=(yU kvs k).isSome
 | []=>rfl
 | p :: r=>by
  rw [List.any_cons]
  by_cases e:p.1=k
  ·simp only [yZ e,decide_eq_true e,Bool.true_or,Option.isSome_some]
  ·rw [y0 e,decide_eq_false e,Bool.false_or];exact wX k r
theorem W5 (k j:κ) (y:V):∀ kvs:List (κ × V),yU (kvs.map fun kv=>if kv.1=k then (kv.1,y) else kv) j=(yU kvs j).map fun x=>if j=k then y else x
 | []=>rfl
 | p :: r=>by
  have ih:=W5 k j y r
  rw [List.map_cons]
  by_cases h:p.1=k
  ·rw [if_pos h]
   by_cases e:p.1=j
   ·rw [yZ (p:=(p.1,y)) e,yZ e,Option.map_some,if_pos (e.symm.trans h)]
   ·rw [y0 (p:=(p.1,y)) e,y0 e,ih]
  ·rw [if_neg h]
   by_cases e:p.1=j
   ·rw [yZ (p:=p) e,yZ e,Option.map_some,if_neg (fun z=>h (e.trans z))]
   ·rw [y0 (p:=p) e,y0 e,ih]
theorem Xw (k j:κ) (y:V):∀ kvs:List (κ × V),yU kvs k=none→yU (kvs ++ [(k,y)]) j=if j=k then some y else yU kvs j
 | [],_=>by
  by_cases e:k=j
  ·rw [if_pos e.symm];exact yZ (p:=(k,y)) e
  ·rw [if_neg (fun z=>e z.symm)];exact y0 (p:=(k,y)) e
 | p :: r,hn=>by
  rw [List.cons_append]
  have hk:¬ p.1=k:=fun z=>by rw [yZ z] at hn;cases hn
  rw [y0 hk] at hn
  have ih:=Xw k j y r hn
  by_cases e:p.1=j
  ·rw [yZ e,yZ e,if_neg (fun z=>hk (e.trans z))]
  ·rw [y0 e,y0 e,ih]
theorem QY (kvs:List (κ × V)) (k j:κ) (y:V):yU (wW kvs k y) j=if j=k then some y else yU kvs j:=by
 unfold wW
 by_cases a:(kvs.any fun kv=>decide (kv.1=k))=true
 ·rw [if_pos a,W5]
  rw [wX] at a
  by_cases e:j=k
  ·obtain ⟨x,hx⟩:=Option.isSome_iff_exists.mp a
   rw [if_pos e,e,hx,Option.map_some,if_pos rfl]
  ·rw [if_neg e]
   cases yU kvs j with
   | none=>rfl
   | some x=>rw [Option.map_some,if_neg e]
 ·rw [if_neg a]
  refine Xw k j y kvs ?_
  rw [wX] at a
  cases q:yU kvs k with
  | none=>rfl
  | some x=>rw [q] at a;exact (a rfl).elim
theorem ZF (kvs:List (κ × V)) (k:κ) (v:V):(wW kvs k v).length≤kvs.length + 1:=by
 unfold wW
 split
 ·rw [List.length_map];omega
 ·rw [List.length_append,List.length_cons,List.length_nil];omega
theorem W6 {kvs:List (κ × V)} {k:κ} (v:V) (h:yU kvs k=none):wW kvs k v=kvs ++ [(k,v)]:=by
 unfold wW
 rw [wX,h]
 exact if_neg (by decide)
theorem RelO.isSome_eq {o:Option V} {u:Option Value} (r:RelO o u):o.isSome=u.isSome:=by
 cases o with
 | none=>cases u with
  | none=>rfl
  | some _=>exact (show False from r).elim
 | some _=>cases u with
  | none=>exact (show False from r).elim
  | some _=>rfl
theorem KV.val {kvs:List (κ × V)} {vs:List (κ × Value)} (r:KV kvs vs) (k:κ):RelO (yU kvs k) (valueAt vs k):=by
 unfold KV at r
 induction r with
 | nil=>exact True.intro
 | @cons p q ps qs h t ih =>
  obtain ⟨h1,h2⟩:=h
  by_cases e:p.1=k
  ·have e':q.1=k:=h1.symm.trans e
   have b:valueAt (q :: qs) k=some q.2:=by simp [valueAt,List.find?_cons,e']
   rw [yZ e,b];exact h2
  ·have e':¬ q.1=k:=fun z=>e (h1.trans z)
   have b:valueAt (q :: qs) k=valueAt qs k:=by simp [valueAt,List.find?_cons,e']
   rw [y0 e,b];exact ih
theorem KV.any {kvs:List (κ × V)} {vs:List (κ × Value)} (r:KV kvs vs) (k:κ):(kvs.any fun kv=>decide (kv.1=k))=vs.any fun kv=>decide (kv.1=k):=by
 unfold KV at r
 induction r with
 | nil=>rfl
 | cons h t ih=>rw [List.any_cons,List.any_cons,ih,h.1]
theorem KV.repl {kvs:List (κ × V)} {vs:List (κ × Value)} (r:KV kvs vs) (k:κ) {y:V} {u:Value} (ry:RelV y u) :
  KV (kvs.map fun kv=>if kv.1=k then (kv.1,y) else kv) (vs.map fun kv=>if kv.1=k then (kv.1,u) else kv):=by
 unfold KV at r ⊢
 induction r with
 | nil=>exact .nil
 | @cons p q ps qs h t ih =>
  rw [List.map_cons,List.map_cons]
  refine .cons ?_ ih
  obtain ⟨h1,h2⟩:=h
  by_cases e:p.1=k
  ·rw [if_pos e,if_pos (h1.symm.trans e)];exact ⟨h1,ry⟩
  ·rw [if_neg e,if_neg (fun z=>e (h1.trans z))];exact ⟨h1,h2⟩
theorem KV.put {kvs:List (κ × V)} {vs:List (κ × Value)} (r:KV kvs vs) (k:κ) {y:V} {u:Value} (ry:RelV y u):KV (wW kvs k y) (stored vs k u):=by
 unfold wW stored
 rw [r.any k]
 by_cases e:(vs.any fun kv=>decide (kv.1=k))=true
 ·rw [if_pos e,if_pos e];exact r.repl k ry
 ·rw [if_neg e,if_neg e];exact Paired.snoc r ⟨rfl,ry⟩
theorem KV.length {kvs:List (κ × V)} {vs:List (κ × Value)} (r:KV kvs vs):kvs.length=vs.length:=Paired.length r
end
theorem QZ {P:Program} {w:World} {k:Key} {u:Value} (r:RelV (kV k) u):(yB P w).is k u=true:=by
 cases k with
 | inl i=>obtain ⟨t,e⟩:=(show ∃ t,u=Value.int i t from r);subst e;exact ZC P w i t
 | inr x=>obtain ⟨t,e⟩:=(show ∃ t,u=Value.str x t from r);subst e;exact ZD P w x t
theorem Xx {P:Program} {w:World}:∀ {ks:List Key} {us:List Value},Vals (ks.map kV) us→ItemsAre (yB P w) ks us
 | [],_,r=>by rw [List.map_nil] at r;cases r;exact .nil
 | k :: ks,_,r=>by
  rw [List.map_cons] at r
  cases r with
  | cons h t=>exact .cons (QZ h) (Xx t)
abbrev KT (H:Hp):List (List Key × V)→List (List Key × Addr × Value)→Prop:=Paired fun p q=>p.1=q.1∧H q.2.1=some (.tup (p.1.map kV))∧RelV p.2 q.2.2
theorem KT.val {H:Hp} {kvs:List (List Key × V)} {xs:List (List Key × Addr × Value)} (r:KT H kvs xs) (k:List Key):RelO (yU kvs k) ((atKey xs k).map (·.2)):=by
 induction r with
 | nil=>exact True.intro
 | @cons p q ps qs h t ih =>
  obtain ⟨h1,_,h2⟩:=h
  by_cases e:p.1=k
  ·have e':q.1=k:=h1.symm.trans e
   have b:atKey (q :: qs) k=some q.2:=by simp [atKey,List.find?_cons,e']
   rw [yZ e,b];exact h2
  ·have e':¬ q.1=k:=fun z=>e (h1.trans z)
   have b:atKey (q :: qs) k=atKey qs k:=by simp [atKey,List.find?_cons,e']
   rw [y0 e,b];exact ih
theorem KT.repl {H:Hp} {kvs:List (List Key × V)} {xs:List (List Key × Addr × Value)} (r:KT H kvs xs) (k:List Key) {y:V} {u:Value} (ry:RelV y u) :
  KT H (kvs.map fun kv=>if kv.1=k then (kv.1,y) else kv) (xs.map (putAt k u)):=by
 induction r with
 | nil=>exact .nil
 | @cons p q ps qs h t ih =>
  rw [List.map_cons,List.map_cons]
  refine .cons ?_ ih
  obtain ⟨h1,h2,h3⟩:=h
  unfold putAt
  by_cases e:p.1=k
  ·rw [if_pos e,if_pos (h1.symm.trans e)];exact ⟨h1,h2,ry⟩
  ·rw [if_neg e,if_neg (fun z=>e (h1.trans z))];exact ⟨h1,h2,h3⟩
theorem KT.put {H:Hp} {kvs:List (List Key × V)} {xs:List (List Key × Addr × Value)} (r:KT H kvs xs) (k:List Key) {b:Addr} {y:V} {u:Value} (hb:H b=some (.tup (k.map kV))) (ry:RelV y u) :
  KT H (wW kvs k y) (storedH xs k b u):=by
 have e:(kvs.any fun kv=>decide (kv.1=k))=(atKey xs k).isSome:=by
  rw [wX,(r.val k).isSome_eq,Option.isSome_map]
 unfold wW storedH
 rw [e]
 by_cases q:(atKey xs k).isSome=true
 ·rw [if_pos q,if_pos q];exact r.repl k ry
 ·rw [if_neg q,if_neg q];exact Paired.snoc r ⟨rfl,hb,ry⟩
theorem KT.keeps {H H':Hp} {kvs:List (List Key × V)} {xs:List (List Key × Addr × Value)} (r:KT H kvs xs) (ht:∀ b ys,H b=some (.tup ys)→H' b=some (.tup ys)):KT H' kvs xs :=
 Paired.mapP r fun _ _ z=>⟨z.1,ht _ _ z.2.1,z.2.2⟩
section
variable {P:Program} {w:World} {H:Hp} {h:Heap} {a:Addr}
theorem zdg {u:HO} (ok:HOk P w H h) (e:Rd H a u):ObjOk P w H h a u:=e.ok ok
theorem Q0 {kvs:List (Key × V)} (ok:HOk P w H h) (e:Rd H a (.dK kvs)):kvs.length≤sizeLine∧(a == sysModules)=false∧∃ vs,KV kvs vs∧h.DictOf (yB P w) a vs :=
 show ObjOk P w H h a (.dK kvs) from zdg ok e
theorem zen {kvs:List (Key × V)} (ok:HOk P w H h) (e:H a=some (.dK kvs)):kvs.length≤sizeLine∧(a == sysModules)=false∧∃ vs,KV kvs vs∧h.DictOf (yB P w) a vs:=Q0 ok (.inl e)
theorem Jj {ks:List Key} (ok:HOk P w H h) (e:H a=some (.tup (ks.map kV))):(tupleKind (yB P w)).is h ks a:=by
 obtain ⟨_,its,r,o,h1,h2,n,h3⟩:=(show ObjOk P w H h a (.tup (ks.map kV)) from ok a _ e)
 exact ⟨o,its.toArray,n,h1,h2,h3,by simpa using Xx r⟩
theorem Q2 {kvs:List (List Key × V)} (ok:HOk P w H h) (e:Rd H a (.dT kvs)):kvs.length≤sizeLine∧(a == sysModules)=false ∧
  ∃ xs,KT H kvs xs∧h.DictOfH (tupleKind (yB P w)) a xs:=by
 obtain ⟨z,y,xs,r,o,es,ep,h1,h2,h3,h4,h5⟩:=(show ObjOk P w H h a (.dT kvs) from zdg ok e)
 refine ⟨z,y,xs,r,o,es,ep,h1,h2,h3,h4,fun x hx=>?_,h5⟩
 have all:∀ {l:List (List Key × V)} {m:List (List Key × Addr × Value)},KT H l m→∀ x∈m,(tupleKind (yB P w)).is h x.1 x.2.1:=by
  intro l m q
  induction q with
  | nil=>intro x hx;exact nomatch hx
  | @cons p q ps qs hq t ih =>
   intro x hx
   rcases List.mem_cons.mp hx with e | hx
   ·subst e
    exact Jj ok (by rw [← hq.1];exact hq.2.1)
   ·exact ih x hx
 exact all r x hx
theorem zeo {kvs:List (List Key × V)} (ok:HOk P w H h) (e:H a=some (.dT kvs)):kvs.length≤sizeLine∧(a == sysModules)=false ∧
  ∃ xs,KT H kvs xs∧h.DictOfH (tupleKind (yB P w)) a xs:=Q2 ok (.inl e)
end
def Q3 (H:Hp) (a:Addr) (y:V) (r:Option V):Prop :=
 (∃ kvs k,Rd H a (.dK kvs)∧y=kV k∧r=yU kvs k)∨∃ kvs k b,Rd H a (.dT kvs)∧y=.ref b∧H b=some (.tup (k.map kV))∧r=yU kvs k
def DPut (H:Hp) (a:Addr) (y v:V) (H':Hp):Prop :=
 (∃ kvs k,H a=some (.dK kvs)∧y=kV k∧kvs.length < sizeLine∧H'=upd H a (.dK (wW kvs k v))) ∨
 ∃ kvs k b,H a=some (.dT kvs)∧y=.ref b∧H b=some (.tup (k.map kV))∧kvs.length < sizeLine∧H'=upd H a (.dT (wW kvs k v))
theorem DPut.t {H:Hp} {a b:Addr} {kvs:List (List Key × V)} {k:List Key} {v:V} (e:H a=some (.dT kvs)) (eb:H b=some (.tup (k.map kV))) (hl:kvs.length < sizeLine) :
  DPut H a (.ref b) v (upd H a (.dT (wW kvs k v))):=.inr ⟨kvs,k,b,e,rfl,eb,hl,rfl⟩
section
variable {X:Cx} {pins:List (Addr × Obj)} {σ:St} {H:Hp} {s:Shared} {a:Addr} {y v:V} {u r:Value} {o:Option V} {A:Around} {E:Value→Shared→Prop}
theorem Inv.big (I:Inv X pins σ H s):sysModules < s.heap.objs.size:=by
 have h:mainGlobals < s.heap.objs.size:=(I.mod.glob.keeps I.bk).lt
 exact Nat.lt_trans (by decide) h
theorem Qd {Q:Value→Shared→Prop} (hu:A.units + 1 < cLine) (I:Inv X pins σ H s) (g:Q3 H a y (some v)) (ry:RelV y u) (h:∀ w' s',Inv X pins σ H s'→RelV v w'→Q w' s') :
  wpAny (model X.prog X.w) A (getItem (.ref a) u) Q E s:=by
 rcases g with ⟨kvs,k,e,ey,l⟩ | ⟨kvs,k,b,e,ey,eb,l⟩
 ·subst ey
  obtain ⟨z,hd,vs,rel,dd⟩:=Q0 I.hok e
  obtain ⟨w',hw,rw'⟩:=RelO.some_of (v:=v) (o:=valueAt vs k) (by rw [l];exact rel.val k)
  exact wpAny_getItem_of (QZ ry) dd.mapOf hw (h w' _ (I.tok _) rw')
 ·subst ey
  cases (show u=Value.ref b from ry)
  obtain ⟨z,hd,xs,rel,dd⟩:=Q2 I.hok e
  obtain ⟨w',hw,rw'⟩:=RelO.some_of (v:=v) (o:=(atKey xs k).map (·.2)) (by rw [l];exact rel.val k)
  obtain ⟨p,hp,hp2⟩:=Option.map_eq_some_iff.mp hw
  refine wpAny_getItem_heap (tupleKind_room_in1 hu) (Jj I.hok eb) dd hp ?_
  rw [hp2]
  exact h w' _ (I.tok _) rw'
theorem Kf {h':Heap} {t':Nat} {ob:HO} (I:Inv X pins σ H s) (mu:Mut (H a)) (hs:Heap.SameBut a s.heap h') (he:∃ q,h'.get? a=some q) (new:ObjOk X.prog X.w (upd H a ob) h' a ob) :
  Inv X pins σ (upd H a ob) { s with heap:=h',toks:=t' } :=
 I.write (x:=a) (e:=a) mu (.inl rfl) (fun b q hb z=>(hs.2 b hb).trans z) he new
theorem zdD {P:Program} {w:World} {H':Hp} {h':Heap} {kvs:List (Key × V)} {vs:List (Key × Value)} (z:kvs.length≤sizeLine) (hd:(a == sysModules)=false) (rel:KV kvs vs) (dd:h'.DictOf (yB P w) a vs) :
  ObjOk P w H' h' a (.dK kvs):=⟨z,hd,vs,rel,dd⟩
theorem Qe {H':Hp} {Q:Unit→Shared→Prop} (hu:A.units + 1 < cLine) (I:Inv X pins σ H s) (g:DPut H a y v H') (ry:RelV y u) (rv:RelV v r) (h:∀ s',Inv X pins σ H' s'→Q () s') :
  wpAny (model X.prog X.w) A (setItem (.ref a) u r) Q E s:=by
 rcases g with ⟨kvs,k,e,ey,l,eH⟩ | ⟨kvs,k,b,e,ey,eb,l,eH⟩
 ·subst ey eH
  obtain ⟨z,hd,vs,rel,dd⟩:=zen I.hok e
  have hz:vs.length≤sizeLine:=by rw [← rel.length];exact z
  have hl:(wW kvs k v).length≤sizeLine:=by have:=ZF kvs k v;omega
  refine wpAny_setItem_pairs (hsz:=hz) (QZ ry) dd fun h' dd' hs=>h _ ?_
  have he:∃ q,h'.get? a=some q:=let ⟨q,_,_,hq,_⟩:=dd';⟨q,hq⟩
  exact Kf I (by rw [e];exact True.intro) hs he (zdD hl hd (rel.put k rv) dd')
 ·subst ey eH
  cases (show u=Value.ref b from ry)
  obtain ⟨z,hd,xs,rel,dd⟩:=zeo I.hok e
  have hz:xs.length≤sizeLine:=by rw [← Paired.length rel];exact z
  have hl:(wW kvs k v).length≤sizeLine:=by have:=ZF kvs k v;omega
  refine wpAny_setItem_heap (hsz:=hz) (tupleKind_room_in1 hu) (Jj I.hok eb) dd fun h' dd' hs=>h _ ?_
  obtain ⟨q,es,ep,hq,h2,h3,h4,_,h5⟩:=dd'
  refine Kf I (by rw [e];exact True.intro) hs ⟨q,hq⟩ ⟨hl,hd,_,(rel.put k eb rv).keeps fun c ys ec=>?_,q,es,ep,hq,h2,h3,h4,h5⟩
  rw [yb (zej ec e (fun z=>nomatch z))]
  exact ec
end
section
variable {X:Cx} {pins:List (Addr × Obj)} {σ:St} {H:Hp} {s:Shared} {a:Addr} {kvs:List (Key × V)} {k:Key} {u:Value} {A:Around} {E:Value→Shared→Prop}
end
def zep (i:Expr):Prop:=∀ ov iv,subscripted i false ov iv=operate [ov,iv] (getItem ov iv)
theorem zb1 {prog:Program} {w:World} {A:Around} {E:Value→Shared→Prop} {s:Shared} {env:Env} {value slice:Expr} {pos:Pos} {T id:String} {Q:Value→Shared→Prop}
  (hl:typeLookup (.type T) "__getitem__"=pure (some (.builtin id))) (hs:zep slice)
  (h:wpAny (model prog w) A (eval value env) (fun o s₁=>wpAny (model prog w) A (eval slice env) (fun i s₂=>s₂.TypeIs o T∧wpAny (model prog w) A (getItem o i) Q E s₂) E s₁) E s) :
  wpAny (model prog w) A (eval (.Subscript value slice pos) env) Q E s:=by
 refine Subscript_ (wpAny_mono h (fun o s₁ h₁=>wpAny_mono h₁ (fun i s₂ h₂=>?_) fun _ _ x=>x) fun _ _ x=>x)
 obtain ⟨hT,h₂⟩:=h₂
 unfold subscriptTail
 refine wpAny_bind ?_
 rw [getitemInPython_of_ne hT.not_modules]
 refine wpAny_bind (wpAny_specialOf hT hl ?_)
 have fin:wpAny (model prog w) A (subscripted slice false o i) (fun r s₃=>wpAny (model prog w) A (letTemporaryGo value o r >>= fun _=>pure r) Q E s₃) E s₂:=by
  rw [hs o i]
  exact wpAny_operating (wpAny_mono h₂ (fun r s₃ h₃=>wpAny_bind (wpAny_letTemporaryGo (wpAny_pure h₃))) fun _ _ x=>x)
 first
  | exact wpAny_pure (wpAny_bind fin)
  | exact wpAny_bind (wpAny_pure (wpAny_bind fin))
  | exact wpAny_bind fin
theorem W7 {X:Cx} {pins:List (Addr × Obj)} {σ:St} {H:Hp} {s:Shared} {a:Addr} {y:V} {o:Option V} (I:Inv X pins σ H s) (g:Q3 H a y o):s.TypeIs (.ref a) "dict":=by
 rcases g with ⟨kvs,k,e,_,_⟩ | ⟨kvs,k,b,e,_,_,_⟩
 ·obtain ⟨_,_,vs,_,dd⟩:=Q0 I.hok e
  exact dd.typeIs
 ·obtain ⟨_,_,xs,_,dd⟩:=Q2 I.hok e
  exact dd.typeIs
def qd (td ty:TE):TE:=fun σ H Q=>td σ H fun x H1=>ty σ H1 fun y H2=>∃ a v,x=.ref a∧Q3 H2 a y (some v)∧Q v H2
def qU (td ty tv:TE):TS:=fun D σ H=>tv σ H fun v H1=>td σ H1 fun x H2=>ty σ H2 fun y H3=>∃ a H4,x=.ref a∧DPut H3 a y v H4∧D.nx σ H4
section
variable {X:Cx} {o i e value:Expr} {pos pos' tpos:Pos} {td ty tv:TE}
theorem zb2 (hu:X.A.units + 1 < cLine) (ho:PE X o td) (hi:PE X i ty) (hs:zep i):PE X (.Subscript o i pos) (qd td ty):=by
 intro pins s σ H Q I h
 refine zb1 PySem.F.slot_dict_getitem.lookup hs (thn (ho pins s σ H _ I h) fun u s1 ⟨x,H1,I1,rx,q1⟩=>thn (hi pins s1 σ H1 _ I1 q1) fun iv s2 ⟨y,H2,I2,ry,a,v,ex,g,q2⟩=>?_)
 subst ex
 obtain rfl:u=Value.ref a:=rx
 exact ⟨W7 I2 g,Qd hu I2 g ry fun w' s3 I3 rw'=>⟨v,H2,I3,rw',q2⟩⟩
theorem zb3 (hu:X.A.units + 1 < cLine) (ho:PE X o td) (hi:PE X i ty) (hv:PE X value tv) (hs:swapsWith value (some (.Subscript o i pos')) pos.line X.env=pure false) :
  PS X (.Assign [.Subscript o i pos'] value pos) (qU td ty tv):=by
 intro pins s σ H D I h
 refine wpAny_Assign_Subscript (thn (hv pins s σ H _ I h) fun r s1 ⟨v,H1,I1,rv,q1⟩=>thn (ho pins s1 σ H1 _ I1 q1) fun u s2 ⟨x,H2,I2,rx,q2⟩=>thn (hi pins s2 σ H2 _ I2 q2) fun iv s3 ⟨y,H3,I3,ry,a,H4,ex,g,q3⟩=>?_) hs
 subst ex
 obtain rfl:u=Value.ref a:=rx
 exact Qe hu I3 g ry rv fun s4 I4=>⟨σ,H4,I4,q3⟩
end
theorem Q4 {P:Program} {w:World} {H:Hp} (h:Heap) (hb:sysModules < h.objs.size):ObjOk P w H (h.push { cls:=.type "dict",data:=.dict #[] }) h.objs.size (.dT []) :=
 ⟨Nat.zero_le _,beq_eq_false_iff_ne.mpr (Ne.symm (Nat.ne_of_lt hb)),[],.nil,_,#[],0,Heap.get?_push_size _ rfl,⟨rfl,rfl,rfl⟩,rfl,rfl,List.nodup_nil⟩
def zeO:TE:=fun _ H Q=>∀ p,H p=none→Q (.ref p) (upd H p (.dK []))
def kx:TE:=fun _ H Q=>∀ p,H p=none→Q (.ref p) (upd H p (.dT []))
section
variable {X:Cx} {pos:Pos}
theorem Q5:PE X (.Dict [] [] pos) kx:=fun pins s σ H Q I h =>
 wpAny_Dict_empty ⟨.ref s.heap.objs.size,_,I.laid (a:=s.heap.objs.size) (o:=.dT []) (t':=s.toks) (fun _ _ q=>Heap.get?_push_of_some _ q) (Nat.le_refl _) (Q4 s.heap I.big),rfl,h _ (I.hok.fresh (Nat.le_refl _))⟩
end
def Q6:List (TE × TE)→St→Hp→(List (V × V)→Hp→Prop)→Prop
 | [],_,H,Q=>Q [] H
 | (tk,tv) :: r,σ,H,Q=>tk σ H fun x H1=>tv σ H1 fun y H2=>Q6 r σ H2 fun ps H3=>Q ((x,y) :: ps) H3
def zdE (kvs more:List (Key × V)):List (Key × V):=more.foldl (fun acc kv=>wW acc kv.1 kv.2) kvs
def zfg (trs:List (TE × TE)):TE:=fun σ H Q=>∀ p,H p=none→Q6 trs σ (upd H p (.dK [])) fun ps H2=>H2 p=some (.dK [])∧∃ kvs:List (Key × V),ps=kvs.map (fun kv=>(kV kv.1,kv.2))∧kvs.length≤15∧Q (.ref p) (upd H2 p (.dK (zdE [] kvs)))
def IsD (H:Hp) (a:Addr):Prop:=(∃ kvs,Rd H a (.dK kvs))∨∃ kvs,Rd H a (.dT kvs)
section
variable {X:Cx} {pins:List (Addr × Obj)} {σ:St} {H:Hp} {s:Shared} {a:Addr} {y d:V} {u r:Value} {o:Option V} {A:Around} {E:Value→Shared→Prop}
end
def zeP (td ty tx:TE):TE:=fun σ H Q=>td σ H fun x H1=>∃ a,x=.ref a∧IsD H1 a∧ty σ H1 fun y H2=>tx σ H2 fun z H3=>∃ o,Q3 H3 a y o∧Q (o.getD z) H3
def zeQ (td ty tx:TE):TE:=fun σ H Q=>td σ H fun x H1=>∃ a,x=.ref a∧IsD H1 a∧ty σ H1 fun y H2=>tx σ H2 fun z H3=>∃ kvs k,H3 a=some (.dK kvs)∧y=kV k ∧
 (∀ v,yU kvs k=some v→Q v (upd H3 a (.dK (Xv kvs k))))∧(yU kvs k=none→Q z H3)
section
variable {X:Cx} {o e f:Expr} {apos cpos:Pos} {td ty tx:TE}
end
section
variable {X:Cx} {pins:List (Addr × Obj)} {σ:St} {H:Hp} {s:Shared} {a:Addr} {kvs:List (Key × V)} {A:Around} {E:Value→Shared→Prop}
end
section
variable {X:Cx} {pins:List (Addr × Obj)} {σ:St} {H:Hp} {s:Shared} {a:Addr} {y:V} {u:Value} {A:Around} {E:Value→Shared→Prop}
end
end L2
namespace Att
open PySem PySem.W PySem.Calls PyProof.Rows
theorem ZK {P:Params} {h:Heap}:∀ (ns:List Int) (vs:List Value),WellAll P h vs (ns.map WData.int)→IntsAre vs ns:=by
 intro ns
 induction ns with
 | nil =>
  intro vs w
  rw [List.map_nil] at w
  cases w
  exact .nil
 | cons n ns ih =>
  intro vs w
  rw [List.map_cons] at w
  cases w with
  | cons a b =>
   cases a
   exact .cons _ _ (ih _ b)
theorem Xy {l:OpenLaw} {n:Nat} (hn:l.most=some n) {P:Params} {h:Heap} {args:List WData} {vals:List Value}
  (hpre:l.row.toRowW.claim.pre args=true) (hwl:WellAll P h vals args) :
  ∃ a vs ns,vals=[Value.ref a]∧args=[WData.list (ns.map WData.int)]∧h.get? a=some { cls:=.type "list",data:=.seq vs.toArray }∧IntsAre vs ns∧ns.length≤n:=by
 have hsh:WShape.hasAll [] args [.list .int]=true:=(pre_splitW hpre).1
 have hc:l.pre.holds [] { args:=args }=true:=(pre_splitW hpre).2
 obtain ⟨d,r,rfl,h1,h2⟩:=hasAllW_cons hsh
 obtain rfl:=hasAllW_nil h2
 obtain ⟨xs,rfl,h3⟩:=hasW_list h1
 obtain ⟨ns,rfl⟩:=items_int h3
 have hlen:ns.length≤n:=by
  unfold OpenLaw.pre at hc
  have h4:(WTm.not (.lt (.lit (.int (n:Int))) (.len (.arg 0)))).holds [] { args:=[.list (ns.map .int)] }=true:=by
   have h4:=(holds_andW hc).1
   rw [hn] at h4
   exact h4
  have h5:=condW_of h4 (w_not (w_lt w_lit (w_len_list (w_arg rfl))))
  rw [List.length_map] at h5
  refine Nat.le_of_not_lt fun q=>?_
  have q':(n:Int) < ((ns.length:Nat):Int):=by omega
  first
   | (rw [decide_eq_true q'] at h5;exact absurd h5 (by decide))
   | (simp at h5;omega)
 cases hwl with
 | cons w1 w2 =>
  cases w2
  cases w1 with
  | list ho hall=>exact ⟨_,_,ns,rfl,rfl,ho,ZK ns _ hall,hlen⟩
theorem Xz (l:OpenLaw) (args:List WData):l.row.toRowW.claim.post args (.bool true) args=true :=
 postW_of (r:=l.row.toRowW) (X:=(true == true))
  (show WShape.has [] (.bool true) .bool=true by first | rfl | decide | simp [WShape.has,WShape.arms,WShape.armsAll])
  (show (WTm.eq .res (.lit (.bool true))).value [] { args:=args,res:=some (.bool true),after:=args }=some (.bool (true == true)) from w_eq_bool (w_res rfl) w_lit) rfl
theorem attach_call {l:OpenLaw} {n:Nat} {q:Program} {loose:List Str} {XP:(Str→Option Value)→Heap→Prop} {YP:World→Heap→Prop} {d:DefRec}
  (hn:l.most=some n) (hdf:d.params.defaults=[])
  (call:∀ (w:World) (s₀ s₁:Shared) (mg mb:Str→Option Value) (fa:Addr) (o:Obj) (pm cd doc:Value) (a:Addr) (vs:List Value) (ns:List Int),
   Ground q loose [] XP w s₀ mg mb s₁.heap→YP w s₁.heap →
   s₁.heap.get? fa=some o→o.data=.func (docDef d.name d.params d.body d.scope pm cd doc)→s₁.heap.CodeRec cd d.name→mg d.name=some (.ref fa) →
   s₁.heap.get? a=some { cls:=.type "list",data:=.seq vs.toArray }→IntsAre vs ns→ns.length≤n→s₁.gens=#[] →
   codeAny (model l.prog w) callerA (.call (.ref fa) ⟨[.ref a],[]⟩) (fun r s'=>r=.ok (.ret (.bool true))∧OldK s₁.heap s'.heap∧s'.os=s₁.os∧AllBare s'.gens) s₁) :
  WalkO q loose XP YP l.row.toRowW d [] (fun f vs=>PySem.call f vs):=by
 intro w s₀ s₁ mg mb G Y fa o pm cd doc dV kV ho hd hcd hD hmg hg args vals as hpre hlay hrd hwl hlo
 obtain rfl:dV=.none:=Dflts.none hD hdf
 obtain rfl:kV=.none:=Dflts.noKw hD
 obtain ⟨a,vs,ns,rfl,rfl,hobj,hints,hlen⟩:=Xy hn hpre hwl
 refine enter_call (codeAny_mono (call w s₀ s₁ mg mb fa o pm cd doc a vs ns G Y ho (fd_plain hd) hcd hmg hobj hints hlen hg) fun r s' hq=>?_)
 obtain ⟨rfl,h2,h3,h4⟩:=hq
 exact ⟨.inl ⟨.bool true,.bool true,[],rfl,fun _=>rfl,.bool true,Xz l _,fun _=>⟨List.Pairwise.nil,fun _ hm=>(nomatch hm)⟩⟩,h2,h3,h4⟩
section
variable {prog:Program} {w:World} {A:Around} {E:Value→Shared→Prop} {s:Shared} {K:Frag}
def zeR (h:Heap) (L d:Addr):List (Addr × Obj):=(List.range h.objs.size).filterMap fun a=>if a=L∨a=d then none else (h.get? a).map fun o=>(a,o)
end
end Att
namespace L2
open PySem PySem.Spec PyProof.Rows
theorem XA:∀ {vs:List Value} {ns:List Int},IntsAre vs ns→Vals (ns.map V.int) vs
 | _,_,.nil=>.nil
 | _,_,.cons n t h=>.cons ⟨t,rfl⟩ (XA h)
def Jk (H:Hp):Prop:=∀ b,H b=none∨∃ o xs,H b=some (.frz o (.lst xs))
theorem W8 {P:Program} {w:World} {K:W.Frag} {mg mb:Str→Option Value} {CX:CXT} {k:Nat} {fa a:Addr} {fd:FuncData} {x:Str} {sp:Sp} {s₁:Shared} {vs:List Value} {ns:List Int}
  (KX:K.In s₁.heap) (hns:s₁.heap.Ns mainGlobals mg) (hb:s₁.heap.Ns builtinsNs mb) (hbb:∀ x:Str,x≠"__name__"→mb x=bootBuiltins x) (hlim:s₁.heap.NoLimit) (hg:s₁.gens=#[])
  (ha:s₁.heap.get? a=some { cls:=.type "list",data:=.seq vs.toArray }) (hi:IntsAre vs ns) (hl:ns.length≤sizeLine) (hr:Room k callerA)
  (F:∀ base:Heap,K.In base→base.Ns mainGlobals mg→FnOk P w K mg base CX k fa fd [x] sp) (hbind:∀ (s:Shared) (u:Value),BindsTo s fd ⟨[u],[]⟩ [(x,u)])
  (hsp:∀ H:Hp,Jk H→SqL K H a (ns.map V.int)→sp [.ref a] H (fun v _=>v=.bl true) fun _ _ _=>False)
  (hCX:∀ H e s',CX [] H s₁ (fun _ _ _=>False) e s'→False) :
  codeAny (model P w) callerA (.call (.ref fa) ⟨[.ref a],[]⟩) (fun r s'=>r=.ok (.ret (.bool true))∧OldK s₁.heap s'.heap∧s'.os=s₁.os∧AllBare s'.gens) s₁:=by
 have rv:=XA hi
 have lenV:=hi.length
 -- from an abstract heap in which nothing but the script may be tracked
 have core:∀ H:Hp,Jk H→SqL K H a (ns.map V.int)→HOk P w H s₁.heap→(∀ b,H b≠none→b=a)→(H a≠none→K.lookup a=none) →
   codeAny (model P w) callerA (.call (.ref fa) ⟨[.ref a],[]⟩) (fun r s'=>r=.ok (.ret (.bool true))∧OldK s₁.heap s'.heap∧s'.os=s₁.os∧AllBare s'.gens) s₁:=by
  intro H hO hS hok hA hK
  have base_of:∀ {b:Addr} {o:Obj},s₁.heap.get? b=some o→H b=none→(Wh s₁.heap H).get? b=some o:=fun e n=>QQ e n
  have noA:∀ {b:Addr} {o:Obj} {es:Array DictEntry} {ep:Nat},s₁.heap.get? b=some o→o.data=.dict es ep→H b=none:=fun {b o es ep} e d=>by
   cases q:H b with
   | none=>rfl
   | some u =>
    have e':b=a:=hA b (by rw [q];simp)
    subst e'
    rw [ha] at e;cases e
    have d':Data.seq vs.toArray _=Data.dict es ep:=d
    cases d'
  have nsK:∀ {b:Addr} {m:Str→Option Value},s₁.heap.Ns b m→(Wh s₁.heap H).Ns b m:=fun {b m} ⟨o,es,ep,e,d,r⟩=>⟨o,es,ep,base_of e (noA e d),d,r⟩
  have hKb:K.In (Wh s₁.heap H):=fun b o e=>base_of (KX b o e) (by
   cases q:H b with
   | none=>rfl
   | some u =>
    have e':b=a:=hA b (by rw [q];simp)
    subst e'
    rw [hK (by rw [q];simp)] at e;cases e)
  have hM:Mod K mg (Wh s₁.heap H):=⟨hKb,nsK hns,⟨mb,nsK hb,hbb⟩,let ⟨mc,h1,h2⟩:=hlim;⟨mc,nsK h1,h2⟩⟩
  have e0:zbX P w K mg (Wh s₁.heap H) callerA [] s₁ H:=⟨rfl,hM,fun b o e=>zbU e,Nat.le_of_eq (K6 _ _),trivial,fun b hb=>absurd (show b∈([]:List Addr) from hb) (by simp),hok,.of_eq hg⟩
  refine codeAny_mono ((F _ hKb (nsK hns)).run callerA [] s₁ H ⟨[.ref a],[]⟩ [.ref a] [.ref a] _ _ hr e0 (hbind s₁ (.ref a)) (.cons rfl .nil) (hsp H hO hS)) fun r s' h=>?_
  cases r with
  | error e=>exact (hCX H e s' h).elim
  | ok fl =>
   cases fl with
   | next=>exact False.elim h
   | brk=>exact False.elim h
   | cont=>exact False.elim h
   | ret u =>
    obtain ⟨v,H',os,bare,un,hok',r',q⟩:=h
    have q':v=.bl true:=q
    subst q'
    obtain rfl:u=Value.bool true:=r'
    refine ⟨rfl,OldK.of_keep fun b o e=>?_,os,bare⟩
    cases q:H b with
    | none=>exact un.keep b o e q (by intro z;exact absurd (show b∈([]:List Addr) from z) (by simp)) (by simp)
    | some u =>
     rcases hO b with z | ⟨ob,xs,z⟩
     ·rw [q] at z;cases z
     ·have z2:=un.frzs b ob _ z
      obtain ⟨e1,_⟩:=hok b _ z
      obtain ⟨e2,_⟩:=hok' b _ z2
      rw [e] at e1;cases e1
      exact e2
 cases hk:K.lookup a with
 | some o =>
  -- the script is one of the module's own objects
  have e:=KX a o hk
  rw [ha] at e
  cases e
  refine core (fun _=>none) (fun _=>.inl rfl) (.inr ⟨_,vs.toArray,_,hk,rfl,rfl,rfl,by rw [List.size_toArray,lenV];exact hl,by simpa using rv⟩) (fun b u z=>by have z':(none:Option HO)=some u:=z;cases z') (fun b z=>absurd rfl z) fun z=>absurd rfl z
 | none =>
  refine core (fun b=>if b=a then some (.frz { cls:=.type "list",data:=.seq vs.toArray } (.lst (ns.map V.int))) else none) (fun b=>?_) (.inl (.inr ⟨{ cls:=.type "list",data:=.seq vs.toArray },if_pos rfl⟩)) (fun b u z=>?_) (fun b z=>?_) fun _=>hk
  ·by_cases hb:b=a
   ·exact .inr ⟨_,_,if_pos hb⟩
   ·exact .inl (if_neg hb)
  ·by_cases hb:b=a
   ·have z':=(if_pos hb).symm.trans z
    cases z'
    subst hb
    exact ⟨ha,by rw [List.length_map];exact hl,vs,_,rv,ha⟩
   ·have z':=(if_neg hb).symm.trans z
    cases z'
  ·by_cases hb:b=a
   ·exact hb
   ·exact absurd (if_neg hb) z
end L2
namespace L2
open PySem PySem.Spec PyProof.Rows
abbrev KOf {K:W.Frag} {h:Heap} (_:K.In h):W.Frag:=K
theorem Kg {l:W.OpenLaw} {n k:Nat} {q:Program} {loose:List Str} {XP:(Str→Option Value)→Heap→Prop} {YP:World→Heap→Prop} {d:DefRec} {K:Params→W.Frag} {CX:World→CXT} {sp:World→Sp} {x:Str}
  (hn:l.most=some n) (hn2:n≤sizeLine) (hdf:d.params.defaults=[]) (hr:Room k callerA)
  (hY:∀ (w:World) (h:Heap),YP w h→(K w.params).In h)
  (F:∀ (w:World) (mg:Str→Option Value) (fa:Addr) (h:Heap),(K w.params).In h→h.Ns mainGlobals mg→mg d.name=some (.ref fa) →
   ∃ fd:FuncData,(∀ (s:Shared) (u:Value),BindsTo s fd ⟨[u],[]⟩ [(x,u)]) ∧
    ∀ base:Heap,(K w.params).In base→base.Ns mainGlobals mg→FnOk l.prog w (K w.params) mg base (CX w) k fa fd [x] (sp w))
  (hsp:∀ (w:World) (H:Hp) (a:Addr) (ns:List Int),ns.length≤n→Jk H→SqL (K w.params) H a (ns.map V.int)→sp w [.ref a] H (fun v _=>v=.bl true) fun _ _ _=>False)
  (hCX:∀ (w:World) (H:Hp) (s:Shared) (e:Value) (s':Shared),CX w [] H s (fun _ _ _=>False) e s'→False) :
  W.WalkO q loose XP YP l.row.toRowW d [] (fun f vs=>PySem.call f vs):=by
 refine Att.attach_call hn hdf fun w s₀ s₁ mg mb fa o pm cd doc a vs ns G Y ho hd hcd hmg hobj hints hlen hg=>?_
 have KX:=hY w _ Y
 obtain ⟨fd,hb,hF⟩:=F w mg fa _ KX G.T.g hmg
 exact W8 KX G.T.g G.T.b G.T.builtins G.T.nolimit hg hobj hints (Nat.le_trans hlen hn2) hr hF hb (fun H hO hS=>hsp w H a ns hlen hO hS) fun H e s'=>hCX w H s₁ e s'
theorem zeq {l:W.OpenLaw} {n k:Nat} {q:Program} {loose:List Str} {XP:(Str→Option Value)→Heap→Prop} {YP:World→Heap→Prop} {d:DefRec} {K:Params→W.Frag} {CX:CXT} {sp:W.Frag→Sp} {x:Str}
  (hn:l.most=some n) (hn2:n≤sizeLine) (hdf:d.params.defaults=[]) (hr:Room k callerA)
  (hY:∀ (w:World) (h:Heap),YP w h→(K w.params).In h)
  (F:∀ (w:World) (mg:Str→Option Value) (fa:Addr) (h:Heap),(K w.params).In h→h.Ns mainGlobals mg→mg d.name=some (.ref fa) →
   ∃ fd:FuncData,(∀ (s:Shared) (u:Value),BindsTo s fd ⟨[u],[]⟩ [(x,u)]) ∧
    ∀ base:Heap,(K w.params).In base→base.Ns mainGlobals mg→FnOk l.prog w (K w.params) mg base CX k fa fd [x] (sp (K w.params)))
  (hsp:∀ (K:W.Frag) (H:Hp) (a:Addr) (ns:List Int),ns.length≤n→Jk H→SqL K H a (ns.map V.int)→sp K [.ref a] H (fun v _=>v=.bl true) fun _ _ _=>False)
  (hCX:∀ (H:Hp) (s:Shared) (e:Value) (s':Shared),CX [] H s (fun _ _ _=>False) e s'→False) :
  W.WalkO q loose XP YP l.row.toRowW d [] (fun f vs=>PySem.call f vs) :=
 Kg (K:=K) (CX:=fun _=>CX) (sp:=fun w=>sp (K w.params)) hn hn2 hdf hr hY F (fun w H a ns h1 h2 h3=>hsp (K w.params) H a ns h1 h2 h3) fun _ H s e s'=>hCX H s e s'
end L2
namespace L2
open PySem PySem.Spec PyProof.Rows
def zX (s:Stmt):Arguments:=match s with
 | .FunctionDef _ a _ _ _ _ _ _ _ _=>a
 | _=>{ posonlyargs:=[],args:=[],vararg:=none,kwonlyargs:=[],kw_defaults:=[],kwarg:=none,defaults:=[] }
def zU (s:Stmt):List Stmt:=match s with
 | .FunctionDef _ _ b _ _ _ _ _ _ _=>b
 | _=>[]
def zq (s:Stmt):Scope:=match s with
 | .FunctionDef _ _ _ _ _ _ sc _ _ _=>sc
 | _=>{ kind:=.function,names:=[],isGenerator:=false,isCoroutine:=false }
abbrev E0:XK:=fun _ _ _=>False
structure Fun (K:W.Frag) (x qual:Str) (st:Stmt) (f:Addr) (fd:FuncData):Prop where
 ex:∃ (oc:Value) (od:Option Addr) (kV doc pm:Value) (an:Option Addr) (cdv ct:Value) (osl:Array (Option Value)),
  fd=W.fnOf x qual (zX st) (zU st) (zq st) .none kV doc pm an cdv ct∧K.lookup f=some ⟨oc,od,.func fd,osl⟩∧W.codeIn K cdv qual=true
 kp:W.keepIn K (.ref f)=true
section
variable {P:Program} {w:World} {K:W.Frag} {mg:Str→Option Value} {base:Heap}
theorem Fun.binds {x qual:Str} {st:Stmt} {f:Addr} {fd:FuncData} {ps:List Str} (F:Fun K x qual st f fd)
  (h:∀ (kV doc pm:Value) (an:Option Addr) (cdv ct:Value) (us:List Value),us.length=ps.length→bindArgs (W.fnOf x qual (zX st) (zU st) (zq st) .none kV doc pm an cdv ct) ⟨us,[]⟩=pure (ps.zip us)):Binds K fd ps []:=by
 obtain ⟨oc,od,kV,doc,pm,an,cdv,ct,osl,rfl,lk,hcd⟩:=F.ex
 exact .all (h kV doc pm an cdv ct)
theorem yq {x qual:Str} {st:Stmt} {f:Addr} {oc:Value} {od an:Option Addr} {osl:Array (Option Value)} {kV doc pm cdv ct:Value} (l:K.lookup f=some ⟨oc,od,.func (W.fnOf x qual (zX st) (zU st) (zq st) .none kV doc pm an cdv ct),osl⟩)
  (c:W.codeIn K cdv qual=true) (k:W.keepIn K (.ref f)=true):Fun K x qual st f (W.fnOf x qual (zX st) (zU st) (zq st) .none kV doc pm an cdv ct):=⟨⟨oc,od,kV,doc,pm,an,cdv,ct,osl,rfl,l,c⟩,k⟩
end
theorem zdh {A:Around} {k:Nat} (hr:Room k A):A.units + 1 < cLine:=Nat.lt_of_le_of_lt (Nat.add_le_add_left (by decide:1≤64) _) hr.units
section
variable {X:Cx}
theorem pv (i:Nat) {x:Str} {pos:Pos} (hN:X.N[i]?=some x:=by rfl) (hv:Vis X.env.scope x:=by first | exact Or.inl rfl | exact Or.inr (Or.inl rfl) | exact Or.inr (Or.inr rfl)) (hd:(x == ("__debug__":Str))=false:=by decide)
  (hcd:(x == ("__classdict__":Str))=false:=by decide):PE X (.Name x pos) (zg i):=zdv hN hv hd hcd
end
theorem ym {c A B:Prop} [Decidable c] (h1:c→A) (h2:¬ c→B):if c then A else B:=by
 by_cases h:c
 ·rw [if_pos h]
  exact h1 h
 ·rw [if_neg h]
  exact h2 h
def Same (H H':Hp):Prop:=∀ b o,H b=some o→H' b=some o
theorem Same.refl (H:Hp):Same H H:=fun _ _ h=>h
theorem Same.trans {H H1 H2:Hp} (a:Same H H1) (b:Same H1 H2):Same H H2:=fun c o h=>b c o (a c o h)
end L2
namespace L2
open PySem PySem.Spec PyProof.Rows
section
variable {X:Cx}
end
section
variable {κ:Type} [DecidableEq κ]
theorem Q8 {kvs:List (κ × V)} {k:κ} (h:yU kvs k=none):¬ k∈kvs.map (·.1):=by
 intro m
 obtain ⟨p,hp,e⟩:=List.mem_map.mp m
 have q:(kvs.any fun kv=>decide (kv.1=k))=true:=List.any_eq_true.mpr ⟨p,hp,decide_eq_true e⟩
 rw [wX,h] at q
 exact absurd q (by simp)
theorem zb4 {kvs:List (κ × V)} {k:κ} {v:V} (h:yU kvs k=some v):k∈kvs.map (·.1):=by
 have q:(kvs.any fun kv=>decide (kv.1=k))=true:=by
  rw [wX,h]
  all_goals rfl
 obtain ⟨p,hp,e⟩:=List.any_eq_true.mp q
 exact List.mem_map.mpr ⟨p,hp,of_decide_eq_true e⟩
theorem Kh:∀ {l:List κ} {k:κ},l.Nodup→¬ k∈l→(l ++ [k]).Nodup
 | [],k,_,_=>by simp
 | a :: r,k,h,hk=>by
  obtain ⟨h1,h2⟩:=List.nodup_cons.mp h
  show (a :: (r ++ [k])).Nodup
  refine List.nodup_cons.mpr ⟨fun m=>?_,Kh h2 fun m=>hk (List.mem_cons.mpr (Or.inr m))⟩
  rcases List.mem_append.mp m with q | q
  ·exact h1 q
  ·exact hk (List.mem_cons.mpr (Or.inl (List.mem_singleton.mp q).symm))
theorem zb5 {kvs:List (κ × V)} {k:κ} (v:V) (hn:(kvs.map (·.1)).Nodup) (h:yU kvs k=none):((wW kvs k v).map (·.1)).Nodup:=by
 rw [W6 v h,List.map_append]
 exact Kh hn (Q8 h)
theorem Qf {p:κ × V} {r:List (κ × V)} {k:κ} (e:¬ p.1=k):Xv (p :: r) k=p :: Xv r k:=by
 unfold Xv
 rw [List.filter_cons,if_pos (by simp [e])]
theorem Q9:∀ {kvs:List (κ × V)} {k:κ},¬ k∈kvs.map (·.1)→Xv kvs k=kvs
 | [],_,_=>rfl
 | p :: r,k,h=>by
  have h':¬ k∈r.map (·.1):=fun m=>by
   obtain ⟨q,hq,e⟩:=List.mem_map.mp m
   exact h (List.mem_map.mpr ⟨q,List.mem_cons.mpr (Or.inr hq),e⟩)
  rw [Qf fun e=>h (List.mem_map.mpr ⟨p,List.mem_cons.mpr (Or.inl rfl),e⟩),Q9 h']
end
end L2
set_option Elab.async false
set_option linter.all false
set_option maxRecDepth 100000
set_option maxHeartbeats 4000000
namespace L2
open PySem PySem.Spec PyProof.Rows
def Cx.comp (X:Cx) (scope:Scope) (cl:List (Str × Addr)) (C:Addr) (N:List Str) (fp:List Addr) (s:Shared) (H:Hp):Cx :=
 { X with env:=compEnvC scope cl C X.env,N:=N,s₀:=s,H₀:=H,outer:=X.stack,ex:=fp,fn:=fun _=>false,pn:=[],xe:=fun _ _=>False }
structure jy (X:Cx) (scope:Scope) (cl:List (Str × Addr)) (ix:List Nat):Prop where
 clos:closureFor scope X.env=pure cl
 nocell:∀ y∈scope.names,y.2≠.cell
 kind:scope.kind=.function
 names:∀ y∈scope.names,y.2=.local→scope.names.lookup y.1=some .local
 sub:∀ y c,cl.lookup y=some c→X.env.cells.lookup y=some c
 has:∀ y,((relabel scope X.env).names.lookup y=some .cell∨(relabel scope X.env).names.lookup y=some .free)→∃ c,cl.lookup y=some c
 cap:∀ i∈ix,∃ y,X.N[i]?=some y∧(X.env.kindOf y=some .cell∨X.env.kindOf y=some .free)∧((relabel scope X.env).names.lookup y=some .cell∨(relabel scope X.env).names.lookup y=some .free)
def vC (scope:Scope) (env:Env):List (Str × Addr):=scope.names.foldl (fun cs y=>if y.2 == .free then (y.1,(env.cells.lookup y.1).getD 0) :: cs else cs) []
def W9 (osc:Scope) (N:List Str) (sc:Scope) (ix:List Nat):Bool :=
 sc.kind == .function && sc.names.all (fun y=>y.2 != .cell && (y.2 != .local || sc.names.lookup y.1 == some .local) && (y.2 != .free || osc.names.lookup y.1 == some .cell || osc.names.lookup y.1 == some .free)) &&
  ix.all fun i=>match N[i]? with
   | some y=>sc.names.lookup y == some .free
   | none=>false
theorem wY {l:List (Str × NameKind)} {y:Str} {k:NameKind} (h:l.lookup y=some k):(y,k)∈l:=PySem.mem_of_lookup h
theorem jP {env:Env}:∀ {names:List (Str × NameKind)} {x:Str} {k:NameKind},(names.map fun (n,k)=>if (k == NameKind.free && env.scope.kind == .function && env.kindOf n == some .cell) then (n,NameKind.cell) else (n,k)).lookup x=some k →
  ∃ k',names.lookup x=some k'∧(k'=.free∨k'=k)
 | [],_,_,h=>by simp at h
 | (n,k') :: r,x,k,h=>by
  have ih:=@jP env r x k
  rw [List.map_cons] at h
  cases hx:x == n with
  | true =>
   by_cases hc:(k' == NameKind.free && env.scope.kind == .function && env.kindOf n == some .cell)=true
   ·have e:k'=.free:=by
     have:=(Bool.and_eq_true _ _ ▸ (Bool.and_eq_true _ _ ▸ hc).1).1
     simpa using this
    exact ⟨k',by simp [List.lookup_cons,hx],.inl e⟩
   ·simp only [if_neg hc,List.lookup_cons,hx] at h
    exact ⟨k',by simp [List.lookup_cons,hx],.inr (Option.some.inj h)⟩
  | false =>
   have h':(r.map fun (n,k)=>if (k == NameKind.free && env.scope.kind == .function && env.kindOf n == some .cell) then (n,NameKind.cell) else (n,k)).lookup x=some k:=by
    by_cases hc:(k' == NameKind.free && env.scope.kind == .function && env.kindOf n == some .cell)=true
    ·simp only [if_pos hc,List.lookup_cons,hx] at h;exact h
    ·simp only [if_neg hc,List.lookup_cons,hx] at h;exact h
   obtain ⟨q,e,r'⟩:=ih h'
   exact ⟨q,by simp only [List.lookup_cons,hx];exact e,r'⟩
theorem qV {env:Env}:∀ {names:List (Str × NameKind)} {x:Str},names.lookup x=some .free →
  ((names.map fun (n,k)=>if (k == NameKind.free && env.scope.kind == .function && env.kindOf n == some .cell) then (n,NameKind.cell) else (n,k)).lookup x=some .cell ∨
   (names.map fun (n,k)=>if (k == NameKind.free && env.scope.kind == .function && env.kindOf n == some .cell) then (n,NameKind.cell) else (n,k)).lookup x=some .free)
 | [],_,h=>by simp at h
 | (n,k') :: r,x,h=>by
  have ih:=@qV env r x
  rw [List.map_cons]
  cases hx:x == n with
  | true =>
   simp only [List.lookup_cons,hx] at h
   cases h
   by_cases hc:(NameKind.free == NameKind.free && env.scope.kind == .function && env.kindOf n == some .cell)=true
   ·left;simp only [if_pos hc,List.lookup_cons,hx]
   ·right;simp only [if_neg hc,List.lookup_cons,hx]
  | false =>
   simp only [List.lookup_cons,hx] at h
   by_cases hc:(k' == NameKind.free && env.scope.kind == .function && env.kindOf n == some .cell)=true
   ·simp only [if_pos hc,List.lookup_cons,hx];exact ih h
   ·simp only [if_neg hc,List.lookup_cons,hx];exact ih h
theorem XB {env:Env}:∀ (l:List (Str × NameKind)) (cs:List (Str × Addr)),(∀ y∈l,y.2=.free→∃ c,env.cells.lookup y.1=some c) →
  (∀ y c,cs.lookup y=some c→env.cells.lookup y=some c)→∀ y c,(l.foldl (fun cs y=>if y.2 == .free then (y.1,(env.cells.lookup y.1).getD 0) :: cs else cs) cs).lookup y=some c→env.cells.lookup y=some c
 | [],_,_,h,y,c,e=>h y c e
 | z :: r,cs,hl,h,y,c,e=>by
  rw [List.foldl_cons] at e
  refine XB r _ (fun y hy=>hl y (List.mem_cons_of_mem _ hy)) (fun y' c' e'=>?_) y c e
  by_cases hz:z.2=.free
  ·obtain ⟨c0,h0⟩:=hl z List.mem_cons_self hz
   have hb:(z.2 == NameKind.free)=true:=by simpa using hz
   rw [if_pos hb,h0,List.lookup_cons] at e'
   cases hq:y' == z.1 with
   | true =>
    rw [hq] at e'
    have e2:y'=z.1:=by simpa using hq
    cases e'
    rw [e2];exact h0
   | false=>rw [hq] at e';exact h _ _ e'
  ·have hb:(z.2 == NameKind.free)=false:=by simpa using hz
   rw [hb] at e'
   exact h _ _ e'
theorem Va {env:Env}:∀ (l:List (Str × NameKind)) (cs:List (Str × Addr)) (y:Str),((∃ c,cs.lookup y=some c)∨(y,NameKind.free)∈l) →
  ∃ c,(l.foldl (fun cs y=>if y.2 == .free then (y.1,(env.cells.lookup y.1).getD 0) :: cs else cs) cs).lookup y=some c
 | [],_,_,h=>h.elim id fun z=>nomatch z
 | z :: r,cs,y,h=>by
  rw [List.foldl_cons]
  refine Va r _ y ?_
  rcases h with ⟨c,h⟩ | h
  ·left
   by_cases hz:(z.2 == NameKind.free)=true
   ·rw [if_pos hz,List.lookup_cons]
    cases y == z.1 with
    | true=>exact ⟨_,rfl⟩
    | false=>exact ⟨c,h⟩
   ·rw [if_neg hz];exact ⟨c,h⟩
  ·rcases List.mem_cons.mp h with h | h
   ·left
    subst h
    rw [if_pos (by rfl),List.lookup_cons]
    simp
   ·exact .inr h
theorem Wo {env:Env}:∀ (l:List (Str × NameKind)) (cs:List (Str × Addr)),(∀ y∈l,y.2=.free→∃ c,env.cells.lookup y.1=some c) →
  forIn (m:=Sem) l cs (fun x r=>match x with | (name,kind)=>if (kind == NameKind.free)=true then do let c ← cellOf env name;pure (ForInStep.yield ((name,c) :: r)) else pure (ForInStep.yield r)) =
   pure (l.foldl (fun cs y=>if y.2 == .free then (y.1,(env.cells.lookup y.1).getD 0) :: cs else cs) cs)
 | [],_,_=>rfl
 | (n,k) :: r,cs,h=>by
  rw [List.forIn_cons,List.foldl_cons]
  by_cases hz:(k == NameKind.free)=true
  ·obtain ⟨c,hc⟩:=h (n,k) List.mem_cons_self (by simpa using hz)
   have e:cellOf env n=pure c:=by unfold cellOf;rw [hc]
   simp only [hz,if_true,e,pure_bind]
   rw [Wo r _ fun y hy=>h y (List.mem_cons_of_mem _ hy)]
   simp only [hc,Option.getD_some]
  ·simp only [hz,if_false,pure_bind]
   exact Wo r _ fun y hy=>h y (List.mem_cons_of_mem _ hy)
theorem jQ {X:Cx} {osc scope:Scope} {N:List Str} {ix:List Nat} (ok:X.Ok) (h:W9 osc N scope ix=true) (hs:X.env.scope=osc) (hN:X.N=N):jy X scope (vC scope X.env) ix:=by
 subst hs hN
 unfold W9 at h
 rw [Bool.and_eq_true,Bool.and_eq_true,List.all_eq_true,List.all_eq_true] at h
 obtain ⟨⟨h1,h2⟩,h3⟩:=h
 have p:∀ y∈scope.names,y.2≠.cell∧(y.2=.local→scope.names.lookup y.1=some .local)∧(y.2=.free→X.env.kindOf y.1=some .cell∨X.env.kindOf y.1=some .free):=fun y hy=>by
  have q:=h2 y hy
  rw [Bool.and_eq_true,Bool.and_eq_true] at q
  obtain ⟨⟨q1,q2⟩,q3⟩:=q
  refine ⟨by simpa using q1,fun e=>?_,fun e=>?_⟩
  ·rw [e] at q2;simpa using q2
  ·rw [e] at q3
   have q3':X.env.scope.names.lookup y.1=some .cell∨X.env.scope.names.lookup y.1=some .free:=by simpa using q3
   exact q3'
 have f:∀ y∈scope.names,y.2=.free→∃ c,X.env.cells.lookup y.1=some c:=fun y hy e=>ok.has y.1 ((p y hy).2.2 e)
 refine ⟨?_,fun y hy=>(p y hy).1,by simpa using h1,fun y hy=>(p y hy).2.1,fun y c e=>XB scope.names [] f (fun _ _ z=>by simp at z) y c e,fun y hy=>?_,fun i hi=>?_⟩
 ·have e:=Wo scope.names [] f
  unfold closureFor vC
  refine Eq.trans (congrArg (fun m=>m >>= fun s=>(pure s:Sem (List (Str × Addr)))) e) ?_
  rw [pure_bind]
 ·refine Va scope.names [] y (.inr ?_)
  rcases hy with hy | hy
  ·obtain ⟨k',e,z | z⟩:=jP hy
   ·subst z;exact wY e
   ·subst z;exact absurd rfl (p _ (wY e)).1
  ·obtain ⟨k',e,z | z⟩:=jP hy
   ·subst z;exact wY e
   ·subst z;exact wY e
 ·have q:=h3 i hi
  cases hy:X.N[i]? with
  | none=>rw [hy] at q;cases q
  | some y =>
   rw [hy] at q
   have q':scope.names.lookup y=some .free:=by simpa using q
   exact ⟨y,rfl,(p _ (wY q')).2.2 rfl,qV q'⟩
def kq (ix:List Nat) (σ:St):St:=ix.map fun i=>(σ[i]?).getD none
def xy (ix:List Nat) (N:List Str):List Str:=ix.map fun i=>(N[i]?).getD ""
section
variable {X:Cx} {pins:List (Addr × Obj)} {σ:St} {H:Hp} {s:Shared} {scope:Scope} {cl:List (Str × Addr)} {ix:List Nat} {fp:List Addr} {C:Addr} {xs:List Str}
theorem Inv.compOk (I:Inv X pins σ H s) (S:jy X scope cl ix) (hC:C=s.heap.objs.size) (hf:∀ b∈fp,jK X pins H b) (hl:∀ b∈fp,b < s.heap.objs.size) (N':List Str) :
  (X.comp scope cl C N' fp s H).Ok where
 mod:=I.ok.mod
 kind:=S.kind
 glob:=I.ok.glob
 blt:=I.ok.blt
 above:=Nat.le_of_eq hC.symm
 inj:=fun x y c h1 h2=>I.ok.inj x y c (S.sub x c h1) (S.sub y c h2)
 has:=fun x hx=>S.has x hx
 cab:=fun x c h1 _=>nomatch h1
 hd:=I.ok.hd
 frames:=I.ok.frames
 stk:=.inl rfl
 exf:=fun b hb=>⟨fun z=>absurd (hl b hb) (by rw [z];show ¬ C < _;rw [hC];exact Nat.lt_irrefl _),fun x c h=>(hf b hb).2.2.2.2.1 x c (S.sub x c h)⟩
 bs:=I.bs
 bsz:=Nat.le_trans I.ok.bsz I.sz
 noex:=fun b o e hb=>by
  rcases (hf b hb).2.2.2.1 with z | z
  ·exact I.ok.noex b o e z
  ·exact absurd (Nat.lt_of_lt_of_le (Heap.lt_size e) (Nat.le_trans I.ok.bsz z)) (Nat.lt_irrefl _)
 exfs:=fun b hb z=>by
  rcases List.mem_cons.mp (I.stkSub b z) with e | e
  ·exact (hf b hb).2.1 e
  ·exact (hf b hb).2.2.1 e
 funs:=I.stack
 frf:=I.stkFree
theorem Inv.comp {h₁:Heap} {m₁:Str→Option Value} {t':Nat} (I:Inv X pins σ H s) (S:jy X scope cl ix) (hC:C=s.heap.objs.size) (hf:∀ b∈fp,jK X pins H b) (hl:∀ b∈fp,b < s.heap.objs.size)
  (hn:h₁.Ns C m₁) (hk:∀ b o,s.heap.get? b=some o→h₁.get? b=some o) :
  Inv (X.comp scope cl C (xs ++ xy ix X.N) fp s H) [] (List.replicate xs.length none ++ kq ix σ) H { s with heap:=h₁,toks:=t' } where
 ok:=I.compOk S hC hf hl _
 os:=rfl
 bare:=I.bare
 base:=Un.kept hk
 loc:=by
  refine ⟨m₁,hn,fun i y v e1 e2 e3=>?_⟩
  by_cases hi:i < xs.length
  ·rw [List.getElem?_append_left (by simpa using hi),List.getElem?_replicate,if_pos hi] at e2
   cases e2
  ·have e1':(xs ++ xy ix X.N)[i]?=some y:=e1
   rw [List.getElem?_append_right (by omega)] at e1'
   rw [List.getElem?_append_right (by rw [List.length_replicate];omega),List.length_replicate] at e2
   generalize i - xs.length=j at e1' e2
   unfold xy at e1'
   unfold kq at e2
   rw [List.getElem?_map] at e1' e2
   cases hj:ix[j]? with
   | none=>rw [hj] at e1';cases e1'
   | some k =>
    rw [hj] at e1' e2
    obtain ⟨y',c1,c2,c3⟩:=S.cap k (List.mem_of_getElem? hj)
    have ey:y'=y:=by
     have q:(X.N[k]?).getD ""=y:=Option.some.inj e1'
     rw [c1] at q
     exact q
    subst ey
    have ev:σ[k]?=some (some v):=by
     have q:(σ[k]?).getD none=some v:=Option.some.inj e2
     cases hs:σ[k]? with
     | none=>rw [hs] at q;cases q
     | some o=>rw [hs] at q;exact congrArg some q
    obtain ⟨m,hm,hv⟩:=I.loc
    obtain ⟨u,r,l⟩:=hv k y' v c1 ev (c2.elim (fun z=>.inr (.inl z)) fun z=>.inr (.inr z))
    refine ⟨u,r,.inr ⟨c3,?_⟩⟩
    rcases l with ⟨l1,_⟩ | ⟨_,c,lc,⟨o,ho,hd⟩⟩
    ·rcases c2 with z | z <;> (rw [l1] at z;cases z)
    ·obtain ⟨c',hc'⟩:=S.has y' c3
     have e:=S.sub _ _ hc'
     rw [lc] at e
     cases e
     exact ⟨c,hc',o,hk _ _ ho,hd⟩
 cell:=fun x c e=>by
  obtain ⟨v,o,ho,hd⟩:=I.cell x c (S.sub x c e)
  exact ⟨v,o,hk _ _ ho,hd⟩
 free:=I.hok.fresh (Nat.le_of_eq hC.symm)
 freeC:=fun x c e=>I.freeC x c (S.sub x c e)
 pin:=fun p hp=>absurd (show p∈([]:List (Addr × Obj)) from hp) (by simp)
 hok:=I.hok.kept hk
 len:=by
  show (List.replicate xs.length none ++ kq ix σ).length=(xs ++ xy ix X.N).length
  rw [List.length_append,List.length_append,List.length_replicate,kq,xy,List.length_map,List.length_map]
theorem Inv.uncomp {s':Shared} {σ':St} {H':Hp} {N':List Str} {h':Heap} (I:Inv X pins σ H s) (hC:C=s.heap.objs.size) (hf:∀ b∈fp,jK X pins H b)
  (J:Inv (X.comp scope cl C N' fp s H) [] σ' H' s') (hb:Heap.SameBut C s'.heap h'):Inv X pins σ H' { s' with heap:=h' }:=by
 have lt:∀ b o,s.heap.get? b=some o→b≠C:=fun b o e=>by
  rw [hC];exact Nat.ne_of_lt (Heap.lt_size e)
 have B:Un (frs X.stack) fp H H' s.heap s'.heap:=J.base
 refine I.call' (s':={ s' with heap:=h' }) (ch:=fp) J.os ?_ ?_ J.bare ?_
 ·exact ⟨fun b o e n h1 h2=>(hb.2 b (lt b o e)).trans (B.keep b o e n h1 h2),fun b o e n h1 h2=>by
   obtain ⟨sl,q⟩:=B.slot b o e n h1 h2
   exact ⟨sl,(hb.2 b (lt b o e)).trans q⟩,B.free,fun b o e h1=>by
   obtain ⟨o',q⟩:=B.there b o e h1
   exact ⟨o',(hb.2 b (lt b o e)).trans q⟩,B.tups,B.frzs,B.tbls⟩
 ·intro b o e
  refine (J.hok b o e).stay (fun c u hc q=>(hb.2 c ?_).trans q) (fun _ q=>q) fun _ _ q=>q
  have hC0:H' C=none:=J.free
  rintro rfl
  rcases hc with rfl | hc
  ·rw [hC0] at e;cases e
  ·rw [hC0] at hc;cases hc
 ·intro b hb'
  obtain ⟨f0,f1,f2,f3,f4,f5⟩:=hf b hb'
  exact ⟨f3,f1,f4,f5⟩
end
def PTs (X:Cx) (ifs:List Expr) (t:TT):Prop :=
 ∀ (pins:List (Addr × Obj)) (s:Shared) (σ:St) (H:Hp) (Q:Bool→Hp→Prop),Inv X pins σ H s→t σ H Q →
  wpAny (model X.prog X.w) X.A (forIn ifs true fun c r=>if r=true then do let ok ← isTrue c X.env (eval c X.env);pure (ForInStep.yield ok) else pure (ForInStep.yield r)) (TP X pins σ Q) X.xe s
def v7:TT:=fun _ H Q=>Q true H
theorem jR {X:Cx}:PTs X [] v7:=fun _ _ _ H _ I h=>wpAny_tests_nil ⟨H,I,h⟩
section
variable {prog:Program} {w:World} {A:Around} {R:Result→Shared→Prop} {s:Shared}
theorem qW {elt target iter:Expr} {ifs:List Expr} {scope:Scope} {pos:Pos} {it acc:Value} {env:Env} (W:Nat→Shared→Prop) {EE:Value→Shared→Prop}
  (hE:∀ e s',EE e s'→notedBy (model prog w) A env (fun e s'=>R (.error e) s') e s')
  (turn:∀ n s,W n s→wpAny (model prog w) A (pyNext it) (fun r s₁=>match r with
   | none=>R (.ok .next) s₁
   | some v=>wpAny (model prog w) A (letOwnedTupleGo target it v) (fun _ t₁=>wpAny (model prog w) A (assign target env v) (fun _ s₂ =>
     wpAny (model prog w) A (forIn ifs true fun c r=>if r=true then do let ok ← isTrue c env (eval c env);pure (ForInStep.yield ok) else pure (ForInStep.yield r)) (fun ok s₃ =>
      if ok=true then wpAny (model prog w) A (eval elt env) (fun x s₄=>wpAny (model prog w) A (call (.builtin "list.append") [acc,x]) (fun _ s₅=>∃ m,m < n∧W m s₅) EE s₄) EE s₃
      else ∃ m,m < n∧W m s₃) EE s₂) EE t₁) EE s₁) EE s)
  (n:Nat) (h:W n s):codeAny (model prog w) A (.compLoop (.ListComp elt [⟨target,iter,ifs,0⟩] scope pos) 0 it acc env) R s:=by
 refine codeAny_loop rfl W (fun n s hW=>?_) n h
 show wpAny _ A ((compTurn (.ListComp elt [⟨target,iter,ifs,0⟩] scope pos) 0 it acc env).onRaise (fun x=>do noteFrame x env;theTreesLotGoes x)) _ _ s
 refine wpAny_noted (wpAny_mono ?_ (fun _ _ q=>q) hE)
 rw [compTurn_list]
 refine wpAny_bind (wpAny_standAt (wpAny_bind (thn (turn n s hW) fun r s₁ h₁=>?_)))
 cases r with
 | none=>exact wpAny_pure h₁
 | some v =>
  refine wpAny_bind (thn h₁ fun _ t₁ k₁=>?_)
  refine wpAny_bind (thn k₁ fun _ s₂ h₂=>wpAny_bind (thn h₂ fun ok s₃ h₃=>?_))
  cases ok with
  | false=>exact wpAny_pure ⟨rfl,h₃⟩
  | true=>exact wpAny_bind (wpAny_bind (thn h₃ fun x s₄ h₄=>wpAny_bind (thn h₄ fun _ s₅ h₅=>wpAny_pure (wpAny_pure ⟨rfl,h₅⟩))))
end
def y6 (wi:TI) (g:TG) (tt:TT) (te:TE) (k:Nat) (ix:List Nat):TE:=fun σ H Q=>wi σ H fun J H1=>∀ D,H1 D=none →
 ∃ W:Nat→Nat→List V→St→Hp→Prop,(∃ m,W 0 m [] (List.replicate k none ++ kq ix σ) (upd H1 D (.lst [])))∧∀ i m ys τ H,W i m ys τ H→H D=some (.lst ys) ∧
  ((J.stop i H∧Q (.ref D) H)∨(J.go i H∧ys.length < sizeLine∧∃ N:V→St→Hp→Prop,
   (∀ v τ' H',N v τ' H'→H' D=some (.lst ys)∧∃ m',m' < m∧W (i + 1) m' (ys ++ [v]) τ' (upd H' D (.lst (ys ++ [v]))))∧∃ Nf:St→Hp→Prop,(∀ τ' H',Nf τ' H'→∃ m',m' < m∧W (i + 1) m' ys τ' H') ∧
   ∀ x H',J.yld i H x H'→g x τ H' fun τ2 H2=>tt τ2 H2 fun b H3=>if b=true then te τ2 H3 fun v H4=>N v τ2 H4 else Nf τ2 H3))
section
variable {X:Cx} {elt iter tg:Expr} {ifs:List Expr} {scope:Scope} {pos:Pos} {cl:List (Str × Addr)} {ix:List Nat} {xs:List Str} {wi:TI} {g:TG} {tt:TT} {te:TE}
theorem Yb (S:jy X scope cl ix) (hc:X.calm=true) (hi:PI X tg iter wi)
  (hg:∀ C fp s H,PG (X.comp scope cl C (xs ++ xy ix X.N) fp s H) tg g) (ht:∀ C fp s H,PTs (X.comp scope cl C (xs ++ xy ix X.N) fp s H) ifs tt)
  (he:∀ C fp s H,PE (X.comp scope cl C (xs ++ xy ix X.N) fp s H) elt te)
  {pins:List (Addr × Obj)} {s:Shared} {σ:St} {H:Hp} {Q:VK} (I:Inv X pins σ H s) (h:y6 wi g tt te xs.length ix σ H Q) {RR:Value→Addr→Result→Shared→Prop}
  (hR:∀ v u s' C,RelV v u→(∃ H',Q v H'∧(∃ m,s'.heap.Ns C m)∧(∀ h',Heap.SameBut C s'.heap h'→Inv X pins σ H' { s' with heap:=h' })∧jK X pins H' C)→RR u C (.ok .next) s') :
  wpAny (model X.prog X.w) X.A (eval iter X.env) (fun x s₁=>wpAny (model X.prog X.w) X.A (pyIter x) (fun it s₂=>wpAny (model X.prog X.w) X.A (newList []) (fun acc s₃ =>
   wpAny (model X.prog X.w) X.A (newFunctionEnv scope X.env.globals cl [] X.env.qual none .none (some X.env)) (fun cenv s₄ =>
    codeAny (model X.prog X.w) X.A (.compStart (.ListComp elt [⟨tg,iter,ifs,0⟩] scope pos) 0 it acc { cenv with scope:=relabel scope X.env }) (RR acc cenv.locals) s₄) X.xe s₃) X.xe s₂) X.xe s₁) X.xe s:=by
 refine thn (hi pins s σ H _ I h) fun v s1 h1=>thn h1 fun itv s2 h2=>?_
 obtain ⟨it,fp,tn,J,H2,e,I2,T,st2,f2,hW⟩:=h2
 subst e
 refine wpAny_newObj_type (wpAny_newFunctionEnv S.nocell (fun y hy=>nomatch hy) (fun h₁ hns₁ hsb₁=>?_) S.kind)
 dsimp only at hns₁ hsb₁ ⊢
 obtain ⟨W,⟨m0,w0⟩,turn⟩:=hW s2.heap.objs.size I2.fresh
 have I3:=I2.lnew (t':=s2.toks) (ys:=[]) (its:=[]) .nil (Nat.zero_le _)
 have hl3:∀ b∈fp,b < s2.heap.objs.size:=fun b hb=>by
  obtain ⟨o,e,_⟩:=T.obj _ _ st2 b hb
  exact Heap.lt_size e
 generalize hs3:({ s2 with heap:=s2.heap.push { cls:=.type "list",data:=.seq ([]:List Value).toArray },toks:=s2.toks }:Shared)=s3 at I3
 have hs3h:s3.heap=s2.heap.push { cls:=.type "list",data:=.seq ([]:List Value).toArray }:=by rw [← hs3]
 have hsz:s3.heap.objs.size=s2.heap.objs.size + 1:=by rw [hs3h,Heap.size_push]
 have f3:∀ b∈fp,jK X pins (upd H2 s2.heap.objs.size (.lst [])) b:=fun b hb=>by
  obtain ⟨q0,q⟩:=f2 b hb
  exact ⟨by rw [yb (Nat.ne_of_lt (hl3 b hb))];exact q0,q⟩
 have hl3':∀ b∈fp,b < s3.heap.objs.size:=fun b hb=>by rw [hsz];exact Nat.lt_succ_of_lt (hl3 b hb)
 rw [← hs3h] at hns₁ hsb₁ ⊢
 have hk:∀ b o,s3.heap.get? b=some o→h₁.get? b=some o:=fun b o e=>(hsb₁.2 b (Nat.ne_of_lt (Heap.lt_size e))).trans (Heap.get?_push_of_some _ e)
 have hk2:∀ b o,s2.heap.get? b=some o→s3.heap.get? b=some o:=fun b o e=>by rw [hs3h];exact Heap.get?_push_of_some _ e
 have J0:=I3.comp (xs:=xs) (t':=s2.toks) (C:=s3.heap.objs.size) S rfl f3 hl3' hns₁ hk
 have st3:tn 0 h₁:=T.keep _ _ _ st2 fun b _ o e=>hk b o (hk2 b o e)
 have loop:∀ tk,codeAny (model X.prog X.w) X.A (.compLoop (.ListComp elt [⟨tg,iter,ifs,0⟩] scope pos) 0 (.ref it) (.ref s2.heap.objs.size) (compEnvC scope cl s3.heap.objs.size X.env))
   (RR (.ref s2.heap.objs.size) s3.heap.objs.size) { s3 with heap:=h₁,toks:=tk }:=by
  intro tk
  refine qW (EE:=fun _ _=>False) (fun n s'=>∃ i ys τ H',Inv (X.comp scope cl s3.heap.objs.size (xs ++ xy ix X.N) fp s3 (upd H2 s2.heap.objs.size (.lst []))) [] τ H' s'∧tn i s'.heap∧(∀ b∈fp,H' b=none)∧W i n ys τ H')
   (fun _ _ z=>z.elim) ?_ m0 ⟨0,[],_,_,J0.tok tk,st3,fun b hb=>(f3 b hb).1,w0⟩
  rintro n s' ⟨i,ys,τ,H',I',st',fr',w'⟩
  have stat:∀ {H':Hp},(∀ b∈fp,H' b=none)→∀ b∈fp,jK (X.comp scope cl s3.heap.objs.size (xs ++ xy ix X.N) fp s3 (upd H2 s2.heap.objs.size (.lst []))) [] H' b:=fun hn b hb =>
   ⟨hn b hb,(I'.ok.exf b hb).1,I'.ok.exfs b hb,.inl hb,(I'.ok.exf b hb).2,fun p hp=>absurd (show p∈([]:List (Addr × Obj)) from hp) (by simp)⟩
  obtain ⟨hD,⟨stop,q⟩ | ⟨go,hz,N,hN,Nf,hNf,step⟩⟩:=turn i n ys τ H' w'
  ·refine thn (T.done (X.comp scope cl s3.heap.objs.size (xs ++ xy ix X.N) fp s3 (upd H2 s2.heap.objs.size (.lst []))) rfl rfl rfl hc i [] s' τ H' _ I' (stat fr') st' stop) fun r s4 ⟨hr,I4⟩=>?_
   subst hr
   refine hR (.ref s2.heap.objs.size) _ s4 _ rfl ⟨H',q,?_,fun h' hb=>I3.uncomp rfl f3 I4 hb,I3.fpOk (Nat.le_refl _) I4.free⟩
   obtain ⟨m,hn,_⟩:=I4.loc
   exact ⟨m,hn⟩
  ·refine thn (T.item (X.comp scope cl s3.heap.objs.size (xs ++ xy ix X.N) fp s3 (upd H2 s2.heap.objs.size (.lst []))) rfl rfl rfl hc i [] s' τ H' _ I' (stat fr') st' go) fun r s4 ⟨u,hr,h4⟩=>?_
   subst hr
   refine thn h4 fun _ s5 ⟨x,H5,I5,r5,y5,st5,fr5⟩=>?_
   have I5':=I5.pinned (stat fr5) (T.obj _ _ st5)
   refine thn (hg _ _ _ _ _ s5 τ H5 x u _ I5' r5 (step x H5 y5)) fun _ s6 ⟨τ6,H6,I6,q6⟩=>?_
   refine thn (ht _ _ _ _ _ s6 τ6 H6 _ I6 q6) fun ok s7 ⟨H7,I7,q7⟩=>?_
   have back:∀ {s8:Shared} {H8:Hp} {m:Nat} {zs:List V},Inv (X.comp scope cl s3.heap.objs.size (xs ++ xy ix X.N) fp s3 (upd H2 s2.heap.objs.size (.lst []))) ([] ++ Zu fp s5.heap) τ6 H8 s8→W (i + 1) m zs τ6 H8 →
     ∃ i ys τ H',Inv (X.comp scope cl s3.heap.objs.size (xs ++ xy ix X.N) fp s3 (upd H2 s2.heap.objs.size (.lst []))) [] τ H' s8∧tn i s8.heap∧(∀ b∈fp,H' b=none)∧W i m ys τ H':=fun {s8 H8 m zs} I8 w8=>by
    refine ⟨i + 1,zs,τ6,H8,I8.unpinned,T.keep _ _ _ st5 fun b hb o e=>(I8.pin (b,o) (List.mem_append_right _ (List.mem_append_right _ (wu hb e)))).1,fun b hb=>?_,w8⟩
    obtain ⟨o,e,d⟩:=T.obj _ _ st5 b hb
    exact (I8.pin (b,o) (List.mem_append_right _ (List.mem_append_right _ (wu hb e)))).2.1
   cases ok with
   | false =>
    rw [if_neg Bool.false_ne_true] at q7 ⊢
    obtain ⟨m',hm,w7⟩:=hNf _ _ q7
    exact ⟨m',hm,back I7 w7⟩
   | true =>
    rw [if_pos rfl] at q7 ⊢
    refine thn (he _ _ _ _ _ s7 τ6 H7 _ I7 q7) fun y s8 ⟨v8,H8,I8,r8,n8⟩=>?_
    obtain ⟨hD8,m',hm,w8⟩:=hN _ _ _ n8
    refine thn (kW _ s8 τ6 H8 (.ref s2.heap.objs.size) [v8] (.ref s2.heap.objs.size) [y] (fun _ Hn=>∃ m,m < n∧W (i + 1) m (ys ++ [v8]) τ6 Hn) I8 rfl (.cons r8 .nil) ⟨_,ys,v8,rfl,rfl,hD8,hz,m',hm,w8⟩) fun _ s9 ⟨_,H9,I9,_,m9,hm9,w9⟩=>?_
    exact ⟨m9,hm9,back I9 w9⟩
 have e3:∀ tk,({ s3 with heap:=h₁,toks:=tk }:Shared)={ s2 with heap:=h₁,toks:=tk }:=fun tk=>by rw [← hs3]
 have loop':∀ tk,codeAny (model X.prog X.w) X.A (.compLoop (.ListComp elt [⟨tg,iter,ifs,0⟩] scope pos) 0 (.ref it) (.ref s2.heap.objs.size) (compEnvC scope cl s3.heap.objs.size X.env))
   (RR (.ref s2.heap.objs.size) s3.heap.objs.size) { s2 with heap:=h₁,toks:=tk }:=fun tk=>by rw [← e3];exact loop tk
 exact codeAny_compStart_list (loop' _) (T.self _ 0 _ _ _ st3 (loop' _))
theorem qX {osc:Scope} {N:List Str} (hc:X.calm=true) (hD:W9 osc N scope ix=true) (hi:PI X tg iter wi)
  (hg:∀ C fp s H,PG (X.comp scope (vC scope X.env) C (xs ++ xy ix X.N) fp s H) tg g) (ht:∀ C fp s H,PTs (X.comp scope (vC scope X.env) C (xs ++ xy ix X.N) fp s H) ifs tt)
  (he:∀ C fp s H,PE (X.comp scope (vC scope X.env) C (xs ++ xy ix X.N) fp s H) elt te) (hsc:X.env.scope=osc:=by rfl) (hN:X.N=N:=by rfl) (hs:∀ x,foldedSetIterable iter X.env x=pure x:=by intro _;rfl) :
  PE X (.ListComp elt [⟨tg,iter,ifs,0⟩] scope pos) (y6 wi g tt te xs.length ix):=by
 intro pins s σ H Q I h
 have S:=jQ I.ok hD hsc hN
 rw [eval_ListComp]
 refine wpAny_comprehension_free (use:=none) rfl hs S.clos S.kind S.names (Yb S hc hi hg ht he I h (RR:=fun acc C=>compPost (model X.prog X.w) X.A X.xe none (EP X pins σ Q) acc C) ?_)
 rintro v u s' C r ⟨H',q,⟨m,hn⟩,hI,_⟩
 exact ⟨m,hn,fun h' hb=>⟨v,H',hI h' hb,r,q⟩⟩
theorem Jl {osc:Scope} {N:List Str} {y:Str} {py:Pos} {j:Nat} {spos:Pos} (hNd:X.N.Nodup) (hj:X.N[j]?=some y) (hc:X.calm=true) (hy:Loc X.env.scope y) (hD:W9 osc N scope ix=true) (hi:PI X tg iter wi)
  (hg:∀ C fp s H,PG (X.comp scope (vC scope X.env) C (xs ++ xy ix X.N) fp s H) tg g) (ht:∀ C fp s H,PTs (X.comp scope (vC scope X.env) C (xs ++ xy ix X.N) fp s H) ifs tt)
  (he:∀ C fp s H,PE (X.comp scope (vC scope X.env) C (xs ++ xy ix X.N) fp s H) elt te) (hsc:X.env.scope=osc:=by rfl) (hN:X.N=N:=by rfl)
  (hsw:swapsWith (.ListComp elt [⟨tg,iter,ifs,0⟩] scope pos) (some (.Name y py)) spos.line X.env=pure true:=by rfl)
  (hs:∀ x,foldedSetIterable iter X.env x=pure x:=by intro _;rfl) (hf:X.fn y=true∨X.env.scope.names.lookup y=some .local:=by first | exact .inl rfl | exact .inr rfl | assumption) :
  PS X (.Assign [.Name y py] (.ListComp elt [⟨tg,iter,ifs,0⟩] scope pos) spos) (zE (y6 wi g tt te xs.length ix) (zo j)):=by
 intro pins s σ H D I h
 have S:=jQ I.ok hD hsc hN
 rw [exec_Assign_Name_used _ _ _ _ hsw]
 refine wpAny_bind (wpAny_standAt (wpAny_bind ?_))
 show wpAny _ X.A (do let _ ← comprehension (.ListComp elt [⟨tg,iter,ifs,0⟩] scope pos) scope X.env _ (newList []) false (eval iter X.env) (some (assign (.Name y py) X.env))) _ _ s
 refine wpAny_bind (thn (wpAny_comprehension_free (use:=some (assign (.Name y py) X.env)) (Q:=fun _ s'=>SP X pins D .next s') rfl hs S.clos S.kind S.names
  (Yb S hc hi hg ht he I h (RR:=fun acc C=>compPost (model X.prog X.w) X.A X.xe (some (assign (.Name y py) X.env)) (fun _ s'=>SP X pins D .next s') acc C) ?_)) fun _ s' hq=>wpAny_pure (wpAny_pure hq))
 rintro v u s' C r ⟨H',q,⟨m,hn⟩,hI,f0,f1,f2,f3,f4,f5⟩
 have I':Inv X pins σ H' s':=hI s'.heap (.refl ..)
 show wpAny _ X.A (assign (.Name y py) X.env u) _ _ _
 refine wpAny_assign_Name (Xo I' hNd hj hy r (fun s2 I2 hx=>?_) hf)
 obtain ⟨a,hb,ha⟩:=hx
 have hCa:C≠a:=by
  rcases ha with rfl | ha
  ·exact f1
  ·exact Ne.symm (f4 _ _ ha)
 refine ⟨m,hn.sameBut hb hCa,fun h' hb'=>⟨_,H',?_,q⟩⟩
 exact I2.turned (t':=s2.toks) (fun b o hne e=>(hb'.2 b hne).trans e) f0 f1 f3 f4 f5
end
end L2
namespace L2
open PySem PySem.Spec PyProof.Rows
abbrev yn:R2:=fun x y H Q=>∃ i j,x=.str i∧y=.str j∧i.length + j.length≤sizeLine∧Q (.str (i ++ j)) H
abbrev zb6:R2:=fun x y H Q=>∃ i j,x=.str i∧y=.str j∧Q (.bl (!(Builtin.Str.occurrences j i 0 j.length 1).isEmpty)) H
abbrev zeH:R2:=fun x y H Q=>∃ i j,x=.str i∧y=.str j∧Q (.bl (!(!(Builtin.Str.occurrences j i 0 j.length 1).isEmpty))) H
abbrev zfQ:R2:=fun x y H Q=>∃ a b,x=.bl a∧y=.bl b∧Q (.bl (a == b)) H
abbrev zeI:R2:=fun x y H Q=>∃ a b,x=.bl a∧y=.bl b∧Q (.bl (a != b)) H
abbrev zfR:R2:=fun x y H Q=>y=.non∧Q (.bl (decide (x=.non))) H
abbrev zfh:R2:=fun x y H Q=>y=.non∧Q (.bl (!decide (x=.non))) H
abbrev RC:=List V→Hp→VK→Prop
abbrev yT (K:W.Frag):RC:=fun xs H Q=>∃ x n,xs=[x]∧xM K x H n∧Q (.int n) H
abbrev ZL (K:W.Frag):RC:=fun xs H Q=>∃ x c t b,xs=[x,c]∧qj K H x t∧(∃ T,c=.ty T∧W.kitOne K t (.type T)=some b)∧Q (.bl b) H
abbrev zaa (K:W.Frag):RC:=fun xs H Q=>∃ (a:Addr) (bs:List Bool),xs=[.ref a]∧SqL K H a (bs.map V.bl)∧Q (.bl (bs.all id)) H
abbrev zfT:RC:=fun xs H Q=>∃ i,xs=[.int i]∧Q (.int (if i < 0 then -i else i)) H
abbrev y8:RC:=fun xs H Q=>∃ i,xs=[.int i]∧i.natAbs.log2 < 1920∧Q (.str (toString i)) H
abbrev RM:=V→List V→Hp→VK→Prop
abbrev w5:RM:=fun x xs H Q=>∃ a b,x=.str a∧xs=[.str b]∧Q (.bl (0 + b.length≤a.length && Builtin.Str.subAt a b 0)) H
def spP (pre:List V→Hp→Prop) (post:List V→Hp→V→Hp→Prop):Sp:=fun vs H Q _=>pre vs H∧∀ r H',post vs H r H'→Same H H'→Q r H'
abbrev zab:RC:=fun xs H Q=>∃ (x:Str) (n:Int),xs=[.str x]∧PySem.intText? x=some n∧x.length≤640∧Q (.int n) H
abbrev zdF:RM:=fun x xs H Q=>∃ a:Str,x=.str a∧xs=[]∧(∀ c∈a.cps.toList,c < 128)∧a.length≤sizeLine∧∀ y:Str,y.length=a.length→Q (.str y) H
theorem isV (p:Addr) {H:Hp} {o:HO} (h:H p=none):Same H (upd H p o):=fun b u e=>by rw [yb (xp e h)];exact e
theorem zt {n:Nat} (h:n≤100000):n≤sizeLine:=Nat.le_trans h (by decide)
theorem ww:bootBuiltins "len"=some (.builtin "len"):=by decide +kernel
theorem yJ:bootBuiltins "isinstance"=some (.builtin "isinstance"):=by decide +kernel
theorem zac:bootBuiltins "all"=some (.builtin "all"):=by decide +kernel
theorem zdG:bootBuiltins "any"=some (.builtin "any"):=by decide +kernel
theorem zad:bootBuiltins "ord"=some (.builtin "ord"):=by decide +kernel
theorem XC:bootBuiltins "sorted"=some (.builtin "sorted"):=by decide +kernel
theorem zdH:bootBuiltins "sum"=some (.builtin "sum"):=by decide +kernel
theorem Wp:bootBuiltins "enumerate"=some (.type "enumerate"):=by decide +kernel
theorem xO:bootBuiltins "str"=some (.type "str"):=by decide +kernel
theorem Jm:bootBuiltins "int"=some (.type "int"):=by decide +kernel
theorem zb7:bootBuiltins "bool"=some (.type "bool"):=by decide +kernel
theorem Vb:bootBuiltins "tuple"=some (.type "tuple"):=by decide +kernel
theorem zdI:bootBuiltins "set"=some (.type "set"):=by decide +kernel
theorem Y4:bootBuiltins "ValueError"=some (.type "ValueError"):=by decide +kernel
section
variable {X:Cx}
def big:Int:=10 ^ 200
def vD (_ j:Int):Prop:=0 < j∧j < big
def CMulB (i j:Int):Prop:=(-big < i∧i < big)∧(-big < j∧j < big)
theorem Vc {j:Int} (h:j.natAbs < 10 ^ 200):j.natAbs.log2 < 700:=by
 by_cases h0:j.natAbs=0
 ·rw [h0];decide
 ·exact (Nat.log2_lt h0).mpr (Nat.lt_of_lt_of_le h (by decide +kernel))
theorem Ki {j:Int} (h:-big < j∧j < big):j.natAbs < 10 ^ 200:=by
 have e:big=((10 ^ 200:Nat):Int):=by decide +kernel
 rw [e] at h
 omega
theorem CMulB.ok {i j:Int} (h:CMulB i j):IntMulOk i j:=by
 have b:∀ k:Int,(-big < k∧k < big)→Builtin.Int.intBits k≤2 ^ 20:=fun k hk=>by
  have q:=Vc (Ki hk)
  unfold Builtin.Int.intBits
  split <;> omega
 exact .of_bits (b i h.1) (b j h.2)
theorem jS:OpR X (binaryOp .Mult) (rI CMulB fun i j=>.int (i * j)):=opI fun _ _ _ _ _ _ _ hc q=>mul_int q hc.ok
theorem yN:OpR X (binaryOp .FloorDiv) (rI vD fun i j=>.int (i / j)):=opI fun i j _ _ _ _ _ hc q=>by
 have h1:(0:Int) < j:=hc.1
 refine floordiv_int (by omega) ?_ (.inl (PyProof.noPylong_of_log2 (Nat.lt_trans (Vc (Ki ⟨by have:=hc.2;omega,hc.2⟩)) (by decide))))
 rw [Int.fdiv_eq_ediv_of_nonneg i (by omega)]
 exact q
theorem Yc:vq X (.builtin "isinstance") (ZL X.K):=by
 intro pins s σ H xs us Q I r h
 obtain ⟨x,c,t,b,rfl,ty,⟨T,rfl,e⟩,q⟩:=h
 obtain ⟨u,w',rfl,r1,r2⟩:=QV r
 cases r2
 exact Qb I r1 ty e fun tk=>⟨.bl b,H,I.tok tk,rfl,q⟩
def Its (x:Str):It:=⟨fun i _=>i < x.cps.size,fun i H v H'=>H'=H∧∃ c,x.cps[i]?=some c∧v=.str ⟨#[c]⟩,fun i _=>x.cps.size≤i⟩
theorem Vd {P:Program} {w:World} {K:W.Frag} {tg:Expr} {it:Addr} {x:Str} {t:Tok} {ty:String} (hty:["enumerate","zip","dict_itemiterator","dict_reverseitemiterator","odict_iterator","itertools.zip_longest","itertools.pairwise"].contains ty=false)
  (W:∀ A:Around,A.handled=none→Walks P w A it [it] [it] x.cps.size (SignAt x) (fun i h=>h.IsStrIter it ty x t i))
  (self:∀ (A:Around) (i:Nat) (s:Shared) (Q:Value→Shared→Prop) (E:Value→Shared→Prop),s.heap.IsStrIter it ty x t i→Q (.ref it) s→wpAny (model P w) A (pyIter (.ref it)) Q E s) :
  K7 P w K tg (Its x) [it] it (fun i h=>i≤x.cps.size∧h.IsStrIter it ty x t i) where
 mem:=by simp
 obj:=fun i h st b hb=>by
  have e:b=it:=by simpa using hb
  subst e
  obtain ⟨_,o,e,c,d⟩:=st
  exact ⟨o,e,fun v z=>by rw [d] at z;cases z⟩
 keep:=fun i h h' st k=>by
  obtain ⟨hi,o,e,r⟩:=st
  exact ⟨hi,o,k it (by simp) o e,r⟩
 item:=by
  intro X hP hw hK hc i pins s σ H E I hf st hg
  subst hP hw hK
  obtain ⟨f0,f1,f2,f3,f4,f5⟩:=hf it (by simp)
  refine (W X.A (I.ok.hd hc)).item i s _ _ hg st.2 fun v h' tk hv st' kk=>?_
  obtain ⟨c,u,hc',rfl⟩:=hv
  have I1:Inv X pins σ H { s with heap:=h',toks:=tk }:=I.turned (fun b o hb e=>kk b o (by simpa using hb) e) f0 f1 f3 f4 f5
  obtain ⟨o,e,c1,d1⟩:=id st'
  exact ⟨_,rfl,Ka (s:={ s with heap:=h',toks:=tk }) e c1 d1 hty ⟨.str ⟨#[c]⟩,H,I1,⟨u,rfl⟩,⟨rfl,c,hc',rfl⟩,⟨hg,st'⟩,fun b hb=>(hf b hb).1⟩⟩
 done:=by
  intro X hP hw hK hc i pins s σ H E I hf st hg
  subst hP hw hK
  obtain ⟨f0,f1,f2,f3,f4,f5⟩:=hf it (by simp)
  have e:i=x.cps.size:=Nat.le_antisymm st.1 hg
  subst e
  exact (W X.A (I.ok.hd hc)).done s _ _ st.2 fun h' tk kk=>⟨rfl,I.turned (fun b o hb e=>kk b o (by simpa using hb) e) f0 f1 f3 f4 f5⟩
 self:=fun A i s Q E st h=>self A i s Q E st.2 h
def Jn (tl:TE):TI:=fun σ H R=>tl σ H fun x H1=>∃ z,x=.str z∧R (Its z) H1
theorem Jo {l tg:Expr} {tl:TE} (hl:PE X l tl):PI X tg l (Jn tl):=by
 intro pins s σ H R I h
 refine thn (hl pins s σ H _ I h) fun v s1 ⟨x,H1,I1,r1,q1⟩=>?_
 obtain ⟨z,rfl,q⟩:=q1
 obtain ⟨t,rfl⟩:=r1
 have new:∀ b∈[s1.heap.objs.size],jK X pins H1 b:=fun b hb=>by
  have e:b=s1.heap.objs.size:=by simpa using hb
  subst e
  exact I1.fpOk (Nat.le_refl _) (I1.hok.fresh (Nat.le_refl _))
 cases ha:z.cps.all (· < 128)
 ·refine wpAny_pyIter_wide ha ?_
  exact ⟨s1.heap.objs.size,[s1.heap.objs.size],_,_,H1,rfl,I1.kept (t':=s1.toks) fun b o e=>Heap.get?_push_of_some _ e,
   Vd (t:=t) (by decide) (fun A hA=>Walks.strWide hA _ z t) fun A i s Q E st h=>wpAny_pyIter_striter_wide st h,⟨Nat.zero_le _,_,Heap.get?_push_size _ rfl,rfl,rfl⟩,new,q⟩
 ·refine wpAny_pyIter_ascii ha ?_
  exact ⟨s1.heap.objs.size,[s1.heap.objs.size],_,_,H1,rfl,I1.kept (t':=s1.toks) fun b o e=>Heap.get?_push_of_some _ e,
   Vd (t:=t) (by decide) (fun A hA=>Walks.strAscii hA _ z t) fun A i s Q E st h=>wpAny_pyIter_striter_ascii st h,⟨Nat.zero_le _,_,Heap.get?_push_size _ rfl,rfl,rfl⟩,new,q⟩
theorem XD (hc:X.calm=true):vq X (.builtin "all") (zaa X.K):=by
 intro pins s σ H xs us Q I r h
 obtain ⟨a,bs,rfl,hq,q⟩:=h
 obtain ⟨u,rfl,r1⟩:=wV r
 cases r1
 obtain ⟨its,rv,p,hz⟩:=I.list hq
 have hl:=rv.length
 rw [List.length_map] at hl
 have hne:a≠s.heap.objs.size:=by
  obtain ⟨o,n,e,_⟩:=p
  exact Nat.ne_of_lt (Heap.lt_size e)
 refine call_all_walk (wpAny_pyIter_list p.isList ?_)
 refine ⟨s.heap.objs.size,_,_,its.toArray.size,fun i v=>its.toArray[i]?=some v,_,fun i=>bs.getD i false,rfl,Walks.list (A:=X.A.in1) (I.ok.hd hc) _ a hne its.toArray,?_,?_,fun h' tk k=>?_⟩
 ·refine ⟨⟨_,Heap.get?_push_size _ rfl,rfl,rfl⟩,?_⟩
  exact p.isList.at fun o e=>Heap.get?_push_of_some _ e
 ·intro i v s' Q' E' hv hQ
  have hv':its[i]?=some v:=by simpa using hv
  have hi:i < bs.length:=by
   rw [hl]
   exact (List.getElem?_eq_some_iff.mp hv').1
  obtain ⟨u',hu,ru⟩:=rv.get (i:=i) (x:=V.bl bs[i]) (by simp [hi])
  rw [hv'] at hu
  cases hu
  cases ru
  have e:bs.getD i false=bs[i]:=by simp [hi]
  have hQ':Q' (bs.getD i false) s':=hQ
  rw [e] at hQ'
  exact wpAny_truthy_bool hQ'
 ·have e:(List.range its.toArray.size).all (fun i=>bs.getD i false)=bs.all id:=by
   rw [List.size_toArray,← hl]
   have:bs.map id=(List.range bs.length).map fun i=>bs.getD i false:=by
    apply List.ext_getElem?
    intro i
    by_cases hi:i < bs.length <;> simp [hi]
   have h2:bs.all id=(bs.map id).all id:=by simp
   rw [h2,this,List.all_map]
   rfl
  rw [e]
  refine ⟨.bl (bs.all id),H,?_,rfl,q⟩
  exact I.kept fun b o e=>k b o (by
   have:=Nat.ne_of_lt (Heap.lt_size e)
   simpa using this) (Heap.get?_push_of_some _ e)
theorem Y5:MtR X "str.startswith" w5:=by
 intro pins s σ H x xs v us Q I rx rs h
 obtain ⟨a,b,rfl,rfl,q⟩:=h
 obtain ⟨t,rfl⟩:=rx
 obtain ⟨u,rfl,t',rfl⟩:=wV rs
 exact call_meets F.slot_str_startswith (typeIs_str s a t) F.entry_str_startswith (F.args_str_startswith_2 _ _) (gives_str_startswith a b t t').meets (show _ from ⟨.bl _,H,I,rfl,q⟩)
def vE:V→Option Int→Option Int→Hp→VK→Prop:=fun x lo hi H Q=>∃ z,x=.str z∧z.length≤sizeLine∧Q (.str (Txt.slice z lo hi)) H
theorem ky:SlR X vE:=by
 intro pins s σ H x v vl vu lo hi sl Q I rx hs pl pu h
 obtain ⟨z,rfl,hz,q⟩:=h
 obtain ⟨t,rfl⟩:=rx
 obtain ⟨o,ho,hc,hd⟩:=hs
 refine ⟨"str",_,F.slot_str_getitem.lookup,typeIs_str _ _ _,?_⟩
 obtain ⟨l,e1,e2⟩:∃ l:Option (Int × Tok),vl=partValue l∧lo=l.map (·.1):=by
  cases pl with
  | none=>exact ⟨none,rfl,rfl⟩
  | int i t=>exact ⟨some (i,t),rfl,rfl⟩
 obtain ⟨u,e3,e4⟩:∃ l:Option (Int × Tok),vu=partValue l∧hi=l.map (·.1):=by
  cases pu with
  | none=>exact ⟨none,rfl,rfl⟩
  | int i t=>exact ⟨some (i,t),rfl,rfl⟩
 subst e1 e2 e3 e4
 exact wpAny_getItem_str_slice (l:=l) (u:=u) (st:=none) ⟨o,ho,hc,hd⟩ rfl
  (post_val_or_str ⟨Nat.le_trans (Txt.slice_le z _ _) hz,fun t' k=>⟨.str (Txt.slice z (l.map (·.1)) (u.map (·.1))),H,I.tok k,⟨t',rfl⟩,q⟩⟩)
theorem qY:vq X (.type "int") zab:=by
 intro pins s σ H xs us Q I r h
 obtain ⟨x,n,rfl,hn,hl,q⟩:=h
 obtain ⟨u,rfl,t,rfl⟩:=wV r
 exact W.KIN.call_text hn hl ⟨.int n,H,I.tok _,⟨_,rfl⟩,q⟩
end
end L2
namespace L2
open PySem PySem.Spec PyProof.Rows
theorem ObjOk.there {P:Program} {w:World} {H:Hp} {h:Heap} {a:Addr} {o:HO} (x:ObjOk P w H h a o):∃ u,h.get? a=some u:=by
 cases o with
 | lst xs=>obtain ⟨_,_,_,_,e⟩:=x;exact ⟨_,e⟩
 | tup xs=>obtain ⟨_,_,_,o,e,_⟩:=x;exact ⟨_,e⟩
 | dK kvs=>obtain ⟨_,_,_,_,o,_,_,e,_⟩:=x;exact ⟨_,e⟩
 | dT kvs=>obtain ⟨_,_,_,_,o,_,_,e,_⟩:=x;exact ⟨_,e⟩
 | set S n=>obtain ⟨o,_,_,_,e,_⟩:=x;exact ⟨_,e⟩
 | ins C dx fs=>obtain ⟨_,_,_,e,_⟩:=x;exact ⟨_,e⟩
 | own y=>exact x
 | xd fs=>obtain ⟨_,⟨o,_,_,e,_⟩,_⟩:=x;exact ⟨_,e⟩
 | rng lo hi=>obtain ⟨_,_,_,e⟩:=x;exact ⟨_,e⟩
 | frz ob u=>obtain ⟨e,_⟩:=x;exact ⟨_,e⟩
 | tbl ps=>exact ⟨_,(show h.get? a=some _ from x)⟩
 | met f y=>exact ⟨_,(show h.get? a=some _ from x)⟩
 | ext φ=>obtain ⟨_,e,_⟩:=x;exact e
def XF (g h:Heap) (H:Hp) (e:Addr) (cls:Value):Prop :=
 ∃ oe vs a0 T oT ts,h.get? e=some oe∧(oe.cls=cls∧vs[0]?=some a0)∧oe.data=.fields vs∧vs[1]?=some (.ref T)∧T≠e∧h.get? T=some oT∧oT.data=.fields ts∧ts[3]?=some .none ∧
  g.get? e=none∧g.get? T=none∧H e=none∧H T=none
def CX1 (P:Program) (w:World):CXT:=fun outer H s E ev s'=>∃ e cls H',ev=.ref e∧s'.os=s.os∧AllBare s'.gens∧Un (frs outer) [] H H' s.heap s'.heap∧HOk P w H' s'.heap∧XF s.heap s'.heap H' e cls∧E cls none H'
theorem xc {g h:Heap} (k:∀ b o,g.get? b=some o→∃ o',h.get? b=some o') {b:Addr} (e:h.get? b=none):g.get? b=none:=by
 cases q:g.get? b with
 | none=>rfl
 | some o =>
  obtain ⟨o',z⟩:=k b o q
  rw [e] at z;cases z
theorem XF.older {g g' h:Heap} {H:Hp} {e:Addr} {cls:Value} (x:XF g h H e cls) (k:∀ b o,g'.get? b=some o→∃ o',g.get? b=some o'):XF g' h H e cls:=by
 obtain ⟨oe,vs,a0,T,oT,ts,h1,h2,h3,h4,h5,h6,h7,h8,h9,h10,h11,h12⟩:=x
 exact ⟨oe,vs,a0,T,oT,ts,h1,h2,h3,h4,h5,h6,h7,h8,xc k h9,xc k h10,h11,h12⟩
section
variable {X:Cx} {pins:List (Addr × Obj)} {σ:St} {H:Hp} {s:Shared}
theorem Inv.stackFields (J:Inv X pins σ H s) {b:Addr} (hb:b∈frs X.stack):∃ o,s.heap.get? b=some o∧∀ vs,o.data≠.fields vs:=(J.stack.mem hb).2
theorem Inv.there0 (hex:X.ex=[]) (J:Inv X pins σ H s):∀ b o,X.s₀.heap.get? b=some o→∃ o',s.heap.get? b=some o':=fun b o e=>J.base.there b o e (by rw [hex];simp)
theorem Inv.behind {h2:Heap} {cs:List Addr} (hex:X.ex=[]) (J:Inv X pins σ H s) (hcs:∀ b∈cs,H b=none∧X.s₀.heap.get? b=none)
  (hB:∀ b o,s.heap.get? b=some o→b ∉ frs X.stack→b ∉ cs→h2.get? b=some o) (hF:∀ b o,s.heap.get? b=some o→b∈frs X.stack→∃ sl,h2.get? b=some { o with slots:=sl }) :
  Un X.fs [] X.H₀ H X.s₀.heap h2∧HOk X.prog X.w H h2:=by
 have B:Un X.fs [] X.H₀ H X.s₀.heap s.heap:=by have:=J.base;rw [hex] at this;exact this
 have nL:∀ b o,X.s₀.heap.get? b=some o→b≠X.env.locals:=fun b o e=>Nat.ne_of_lt (Nat.lt_of_lt_of_le (Heap.lt_size e) J.ok.above)
 have nC:∀ b o,X.s₀.heap.get? b=some o→b ∉ cs:=fun b o e z=>by rw [(hcs b z).2] at e;cases e
 have any:∀ b o,s.heap.get? b=some o→b ∉ cs→∃ sl,h2.get? b=some { o with slots:=sl }:=fun b o e n=>by
  by_cases hb:b∈frs X.stack
  ·exact hF b o e hb
  ·exact ⟨o.slots,hB b o e hb n⟩
 refine ⟨⟨fun b o e n h1 _=>?_,fun b o e n h1 _=>?_,B.free,fun b o e h1=>?_,B.tups,B.frzs,B.tbls⟩,fun b u e=>?_⟩
 ·refine hB b o (B.keep b o e n h1 (by simp)) (fun z=>?_) (nC b o e)
  rcases List.mem_cons.mp (J.stkSub b z) with q | q
  ·exact nL b o e q
  ·exact h1 q
 ·obtain ⟨sl,q⟩:=B.slot b o e n h1 (by simp)
  obtain ⟨sl',q'⟩:=any b _ q (nC b o e)
  exact ⟨sl',q'⟩
 ·obtain ⟨o',q⟩:=B.there b o e (by simp)
  obtain ⟨sl,q'⟩:=any b o' q (nC b o e)
  exact ⟨_,q'⟩
 ·refine (J.hok b u e).stay (fun c v hc q=>?_) (fun _ q=>q) fun _ _ q=>q
  have hn:H c≠none:=by
   rcases hc with rfl | hc
   ·rw [e];simp
   ·rw [hc];simp
  exact hB c v q (fun z=>hn (J.stkFree c z)) fun z=>hn (hcs c z).1
theorem Inv.flown {B h2:Heap} {cs:List Addr} {e:Addr} {cls a0:Value} (hex:X.ex=[]) (J:Inv X pins σ H s) (hcs:∀ b∈cs,H b=none∧X.s₀.heap.get? b=none)
  (hB:∀ b o,s.heap.get? b=some o→b ∉ frs X.stack→b ∉ cs→B.get? b=some o) (hF:∀ b o,s.heap.get? b=some o→b∈frs X.stack→∃ sl,h2.get? b=some { o with slots:=sl })
  (he:H e=none) (he0:X.s₀.heap.get? e=none) (kb:B.StaysIn h2) (tr:h2.TracedW B e cls a0) :
  Un X.fs [] X.H₀ H X.s₀.heap h2∧HOk X.prog X.w H h2∧XF X.s₀.heap h2 H e cls:=by
 have hk:=J.behind (h2:=h2) hex hcs (fun b o q n1 n2=>kb b o (hB b o q n1 n2)) hF
 refine ⟨hk.1,hk.2,?_⟩
 obtain ⟨oe,vs,T,oT,ts,h1,h2',h3,h4,h5,h6,h7,h8,h9⟩:=tr
 have noT:∀ o,s.heap.get? T=some o→T∈cs:=fun o q=>by
  by_cases hb:T∈frs X.stack
  ·obtain ⟨o',q',nf⟩:=J.stackFields hb
   obtain ⟨sl,z⟩:=hF T o' q' hb
   rw [h7] at z
   have z':oT={ o' with slots:=sl }:=Option.some.inj z
   exact absurd (by rw [← h8,z']) (nf ts)
  ·by_cases hc:T∈cs
   ·exact hc
   ·rw [hB T o q hb hc] at h5;cases h5
 refine ⟨oe,vs,a0,T,oT,ts,h1,h2',h3,h4,h6,h7,h8,h9,he0,?_,he,?_⟩
 ·cases q:X.s₀.heap.get? T with
  | none=>rfl
  | some o =>
   obtain ⟨o',q'⟩:=J.there0 hex T o q
   rw [(hcs T (noT o' q')).2] at q;cases q
 ·cases q:H T with
  | none=>rfl
  | some u =>
   obtain ⟨o,z⟩:=(J.hok T u q).there
   rw [(hcs T (noT o z)).1] at q;cases q
theorem Qg {h':Heap} {e:Addr} {cls:Value} {vs:List Value} {E:XK} {EE:Value→Shared→Prop} (hst:X.stack=X.env :: X.outer∧X.env.frame=some X.env.locals) (hex:X.ex=[]) (J:Inv X pins σ H s) (hx:Heap.MadeExcOf s.heap h' e cls vs) (hE:E cls none H) :
  wpAny (model X.prog X.w) X.A (leaving X.env (.ref e)) (fun _ s2=>CX1 X.prog X.w X.outer X.H₀ X.s₀ E (.ref e) s2) EE { s with heap:=h' }:=by
 have fr:s.heap.FunFrames (W.hideAll s.heap (frs X.stack)) (X.env :: X.outer):=by
  have q:=W.funFrames_hide (as:=frs X.stack) J.stack fun env he a ha=>List.mem_filterMap.mpr ⟨env,he,ha⟩
  rw [hst.1] at q ⊢
  exact q
 refine wpAny_leaves_madeW (s:={ s with heap:=h' }) (base:=W.hideAll s.heap (frs X.stack)) (h:=s.heap) (by rw [J.ok.frames,hst.1]) hst.2 (fun b o q=>W.of_hideAll _ q) fr hx fun h2 t hfl _ _ hup=>?_
 obtain ⟨f1,f2,f3,f4⟩:=hfl
 have hF:∀ b o,s.heap.get? b=some o→b∈frs X.stack→∃ sl,h2.get? b=some { o with slots:=sl }:=fun b o q hb=>by
  obtain ⟨o',q',nf⟩:=J.stackFields hb
  rw [q] at q';cases q'
  exact hup b o (hx.keeps b o q) nf
 obtain ⟨r1,r2,r3⟩:=J.flown (cs:=[]) hex (fun b z=>nomatch z) (fun b o q n _=>W.hideAll_get _ q n) hF
  (by
   cases q:H e with
   | none=>rfl
   | some u =>
    obtain ⟨o,z⟩:=(J.hok e u q).there
    rw [hx.new] at z;cases z)
  (xc (J.there0 hex) hx.new) f1 f4
 exact ⟨e,cls,H,rfl,J.os,J.bare,r1,r2,r3,hE⟩
theorem zae {e:Addr} {cls:Value} {E:XK} {EE:Value→Shared→Prop} (hst:X.stack=X.env :: X.outer∧X.env.frame=some X.env.locals) (hex:X.ex=[]) (J:Inv X pins σ H s) (xf:XF X.s₀.heap s.heap H e cls) (hE:E cls none H) :
  wpAny (model X.prog X.w) X.A (leaving X.env (.ref e)) (fun _ s2=>CX1 X.prog X.w X.outer X.H₀ X.s₀ E (.ref e) s2) EE s:=by
 obtain ⟨oe,vs,a0,T,oT,ts,h1,h2,h3,h4,h5,h6,h7,h8,h9,h10,h11,h12⟩:=id xf
 have fr:s.heap.FunFrames (W.hideAll s.heap (frs X.stack ++ [e,T])) (X.env :: X.outer):=by
  have q:=W.funFrames_hide (as:=frs X.stack ++ [e,T]) J.stack fun env he a ha=>List.mem_append_left _ (List.mem_filterMap.mpr ⟨env,he,ha⟩)
  rw [hst.1] at q ⊢
  exact q
 refine wpAny_leaves_onW (base:=W.hideAll s.heap (frs X.stack ++ [e,T])) (a0:=a0) (by rw [J.ok.frames,hst.1]) hst.2
  ⟨fun b o q=>W.of_hideAll _ q,W.hideAll_none _ (List.mem_append_right _ (by simp)),fr,oe,vs,T,oT,ts,h1,h2,h3,h4,W.hideAll_none _ (List.mem_append_right _ (by simp)),h5,h6,h7,h8⟩ fun h2' hfl hup=>?_
 obtain ⟨f1,f2,f3,f4⟩:=hfl
 have hF:∀ b o,s.heap.get? b=some o→b∈frs X.stack→∃ sl,h2'.get? b=some { o with slots:=sl }:=fun b o q hb=>by
  obtain ⟨o',q',nf⟩:=J.stackFields hb
  rw [q] at q';cases q'
  exact hup b o q nf
 obtain ⟨r1,r2,r3⟩:=J.flown (cs:=[e,T]) hex (fun b z=>by
   have z':b=e∨b=T:=by simpa using z
   rcases z' with rfl | rfl
   ·exact ⟨h11,h9⟩
   ·exact ⟨h12,h10⟩) (fun b o q n n2=>W.hideAll_get _ q fun z=>(List.mem_append.mp z).elim n n2) hF h11 h9 f1 f4
 exact ⟨e,cls,H,rfl,J.os,J.bare,r1,r2,r3,hE⟩
end
def Jp (X:Cx) (E:XK):Prop:=∀ (pins:List (Addr × Obj)) (σ:St) (H:Hp) (s:Shared) (h':Heap) (e:Addr) (cls:Value) (vs:List Value),Inv X pins σ H s→Heap.MadeExcOf s.heap h' e cls vs→E cls none H→X.xe (.ref e) { s with heap:=h' }
section
variable {P:Program} {w:World} {K:W.Frag} {mg:Str→Option Value} {base:Heap} {N:List Str} {qual:Str} {scope:Scope} {f:Addr} {cd:Value} {A:Around} {outer:List Env} {s₀:Shared} {H₀:Hp} {E:XK}
theorem jz:Z9 (CX1 P w) (jN (CX1 P w) P w K mg base N qual scope f cd A outer s₀ H₀ E) E:=by
 intro pins σ H s ev s' I hcx
 obtain ⟨e,cls,H',rfl,os,bare,un,hok,xf,hE⟩:=hcx
 have J:=I.call' (ch:=[]) os un hok bare (fun b z=>nomatch z)
 exact zae (X:=jN (CX1 P w) P w K mg base N qual scope f cd A outer s₀ H₀ E) ⟨rfl,rfl⟩ rfl J (xf.older (I.there0 rfl)) hE
theorem xP:Jp (jN (CX1 P w) P w K mg base N qual scope f cd A outer s₀ H₀ E) E:=by
 intro pins σ H s h' e cls vs I hx hE
 exact Qg (X:=jN (CX1 P w) P w K mg base N qual scope f cd A outer s₀ H₀ E) ⟨rfl,rfl⟩ rfl I hx hE
theorem zeS:PassesOwn (model P w) (jN (CX1 P w) P w K mg base N qual scope f cd A outer s₀ H₀ E).A (jN (CX1 P w) P w K mg base N qual scope f cd A outer s₀ H₀ E).env (jN (CX1 P w) P w K mg base N qual scope f cd A outer s₀ H₀ E).xe:=PassesOwn.leaving
end
abbrev Yd:List Value:=[.type "ValueError",.type "Exception",.type "BaseException",.type "object"]
abbrev jb:String:="ValueError.__new__"
def yi (C:Addr) (ta:TA) (E:XK):TS:=fun _ σ H=>ta σ H fun vs H1=>vs.length≤sizeLine∧E (.ref C) none H1
theorem Wq {K:W.Frag} {h:Heap} {C:Addr} {bmB:List Value} {newId:String} (X:K.In h) (q:W.excIn K C bmB newId=true) :
  ∃ bm N nm qn bs hdct sn sub ab col dd k0 k1 k2 k3 k5 mN,h.get? C=some (excClassObj nm qn C N bs bm hdct sn sub ab col dd k0 k1 k2 k3 k5 newId)∧h.Ns N mN∧mN "__init__"=none∧OwnTail h bmB bm:=by
 unfold W.excIn at q
 split at q
 case h_2=>cases q
 rename_i dd cd sl ho
 split at q
 case h_2=>cases q
 rename_i C' bm k0 k1 k2 k3 n k5 hm hs
 rw [Bool.and_eq_true,Bool.and_eq_true,Bool.and_eq_true,Bool.and_eq_true,Bool.and_eq_true] at q
 obtain ⟨⟨⟨⟨⟨q1,q2⟩,q3⟩,q4⟩,q5⟩,q6⟩:=q
 obtain rfl:C'=C:=by simpa using q1
 obtain rfl:n=newId:=by simpa using q2
 obtain ⟨nm,bs,mro,ns,qn,hd,sn,sub,ab,col,del⟩:=cd
 have hdel:del=false:=by simpa using q3
 have hm':mro=.ref C' :: bm:=hm
 subst hdel hm'
 have hsl:sl=#[k0,k1,k2,k3,some (.builtin n),k5]:=by
  apply Array.ext'
  exact hs
 subst hsl
 exact ⟨bm,ns,nm,qn,bs,hd,sn,sub,ab,col,dd,k0,k1,k2,k3,k5,_,X _ _ ho,.of_isNs (W.isNs_of_in X q5),W.nsMap_none_of_in X q5 (by simpa using q6),W.tail_of_in X q4⟩
section
variable {X:Cx} {x:Str} {C:Addr} {np cpos pos:Pos} {e₀:Expr} {rest:List Expr} {ta:TA} {E:XK}
theorem y9 (hc:X.calm=true) (q:W.excIn X.K C Yd jb=true) (hr:Jp X E) (hg:Gl X x) (hm:X.mg x=some (.ref C)) (ha:PA X (e₀ :: rest) ta)
  (he:starEach (e₀ :: rest) X.env=(false,eval e₀ X.env) :: starEach rest X.env:=by rfl) (hp:(backTo cpos (starEach rest X.env)).any (·.1)=false:=by rfl) (hd:(x == ("__debug__":Str))=false:=by decide) :
  PS X (.Raise (some (.Call (.Name x np) (e₀ :: rest) [] cpos)) none pos) (yi C ta E):=by
 intro pins s σ H D I h
 obtain ⟨tl,N,nm,qn,bs,hdct,sn,sub,ab,col,dd,k0,k1,k2,k3,k5,mN,hC,hN,hni,T⟩:=Wq I.ok.mod.kin q
 refine wpAny_Raise_call_subT (C:=C) (nm:=nm) (q:=qn) (N:=N) (bs:=bs) (bm:=tl) (hdct:=hdct) (sn:=sn) (sub:=sub) (ab:=ab) (col:=col) (dd:=dd) (k0:=k0) (k1:=k1) (k2:=k2) (k3:=k3) (k5:=k5) (newId:=jb)
  PySem.F.excBase_ValueError (mN:=mN) (T.hasType PySem.F.excBase_ValueError.hasBase) (I.ok.hd hc) (by rw [he];exact hp) hni (vS I hg hm ⟨rfl,?_⟩ hd)
 have hA:=ha cpos pins s σ H _ I h
 rw [he] at hA ⊢
 refine Calls.evalArgs_plain (thn hA fun us s2 ⟨vs,H2,I2,r2,z2,q2⟩=>?_)
 exact ⟨rfl,by rw [← r2.length];exact z2,I2.bk _ _ hC,hN.keeps I2.bk,T.keeps I2.bk,fun h' e hm=>hr pins σ H2 s2 h' e _ _ I2 hm q2⟩
end
def Asc (x:Str):Prop:=∀ c∈x.cps.toList,c < 128
section
variable {X:Cx} {e:Expr} {te:TE} {a:Str} {j:Nat} {p1 p2 p3:Pos}
def vt (te:TE):TE:=fun σ H Q=>te σ H fun v H1=>∃ x:Str,v=.str x∧x.length≤100000∧Asc x∧∀ y:Str,Q (.str y) H1
theorem kX (he:PE X e te) (hl:a.length≤1000:=by decide +kernel):PE X (.JoinedStr [.Constant (.str a) j p1,.FormattedValue e 114 none p2] p3) (vt te):=by
 intro pins s σ H Q I h
 refine wpAny_JoinedStr ?_
 show wpAny _ _ (eval (.Constant (.str a) j p1) X.env) _ _ s
 have e0:(Str.empty ++ a).length=a.length:=by rw [Str.length_append];simp [Str.empty,Str.length]
 refine Calls.Constant_str ⟨a,_,rfl,by rw [e0];exact zt (by omega),?_⟩
 show wpAny _ _ (eval (.FormattedValue e 114 none p2) X.env) _ _ _
 refine wpAny_FormattedValue_repr (thn (he pins _ σ H _ (I.tok _) h) fun v s1 ⟨x,H1,I1,r1,z,ex,hz,hA,q⟩=>?_)
 subst ex
 obtain ⟨t,rfl⟩:=r1
 have hr:(reprText z).length≤10 * z.length + 2:=StrLaws.reprText_len z fun c hc=>Nat.lt_trans (hA c hc) (by decide)
 have hs:sizeLine=16777216:=sizeLine_eq
 refine wpAny_pyReprObj_gives (typeIs_str _ z t) PySem.F.slot_str_repr PySem.F.entry_str_repr (PySem.F.args_str_repr_1 _) (gives_str_repr z t) ?_ rfl (by omega)
 have fin:∀ (t':Tok) (tk:Nat),∃ y u,Value.str (reprText z) t'=Value.str y u∧(Str.empty ++ a ++ y).length≤sizeLine∧Joins (model X.prog X.w) X.A X.xe (evalEach [] X.env) (Str.empty ++ a ++ y) (fun out s₁=>out.length≤sizeLine∧EP X pins σ Q (.str out s₁.toks) { s₁ with toks:=s₁.toks + 1 }) { s1 with toks:=tk }:=fun t' tk=>by
  have hz2:(Str.empty ++ a ++ reprText z).length≤sizeLine:=by rw [Str.length_append,e0];omega
  exact ⟨_,_,rfl,hz2,hz2,.str _,H1,I1.tok _,⟨_,rfl⟩,q _⟩
 exact wpAny_formatField_str (fin _ _) (fin _ _) (by omega)
def zfi (te:TE):TE:=fun σ H Q=>te σ H fun v H1=>∃ x:Str,v=.str x∧x.length≤100000∧∀ y:Str,Q (.str y) H1
end
end L2
namespace L2
open PySem PySem.Spec PyProof.Rows
structure ExC (K:W.Frag) (C:Addr):Prop where
 ga:W.findIn K (.ref C) "__getattribute__"=some (some (.builtin "BaseException.__getattribute__"))
 gx:W.findIn K (.ref C) "__getattr__"=some none
 cl:W.findIn K (.ref C) "__class__"=some (some (.builtin "object.__class__"))
 ob:W.mroIn K C (.type "object")=some true
 be:W.mroIn K C (.type "BaseException")=some true
 ge:W.specialIn K (.builtin "object.__class__") "__get__"=some (some (.builtin "getset_descriptor.__get__"))
 tk:W.takesIn K (.builtin "object.__class__")=some true
section
variable {prog:Program} {w:World} {A:Around} {E:Value→Shared→Prop} {K:W.Frag} {e C:Addr} {s:Shared}
theorem zaf {M:Model} {h:Heap} (X:K.In h) (c:ExC K C):W.Looks M h (PySem.Builtin.ObjectAttr.find (.ref e) (.ref C) "__class__") (.bind (.builtin "getset_descriptor.__get__") (.builtin "object.__class__")):=by
 have l1:=W.looks_findIn (M:=M) X c.cl
 have l2:W.Looks M h (PySem.Builtin.ObjectAttr.getOf (some (.builtin "object.__class__"))) (some (.builtin "getset_descriptor.__get__")):=W.looks_specialIn X c.ge
 have l3:=W.looks_takesIn (M:=M) X c.tk
 refine l1.andThen (l2.andThen ?_)
 exact (show W.Looks M h (PySem.Builtin.ObjectAttr.dataDescriptor? (some (.builtin "object.__class__")) (some (.builtin "getset_descriptor.__get__"))) (some ((.builtin "getset_descriptor.__get__"),(.builtin "object.__class__"))) from l3.andThen .now).andThen (W.Looks.tag .now)
open PySem.Builtin PySem.Builtin.Getset_descriptor in
theorem zb8 {R:Result→Shared→Prop} {tp:Value} (X:K.In s.heap) (c:ExC K C) (t0:W.Looks (model prog w) s.heap (typeOf (.ref e)) (.ref C)) (hr:R (.ok (.ret (.ref C))) s) :
  codeAny (model prog w) A (.call (.builtin "getset_descriptor.__get__") ⟨[.builtin "object.__class__",.ref e,tp],[]⟩) R s:=by
 obtain ⟨hh,gs,dr,tt,os⟩:=s
 have t5:=W.looks_mroIn (M:=model prog w) X c.ob
 refine codeAny_call_builtin W.KF.slot_gs.plain W.KF.entry_gs (W.KF.slot_gs.check _ _ _ _ _ _ _ _ W.KF.type_class (W.KF.args_gs _ _ _) ?_)
 unfold Builtin.«getset_descriptor.__get__» descrGet
 rw [W.dga_obj]
 refine wpAny_bind (wpAny_pure ?_)
 unfold descrGetter descrCheckInstance descrNameAndClass isInstance
 simp only [W.KF.owner_class]
 repeat lk
 refine ⟨Code.quiet_builtin _ (by decide +kernel),codeAny_builtin W.KF.entry_class ?_⟩
 unfold Builtin.«object.__class__» shownTypeOf
 repeat lk
 exact hr
theorem Qh {Q:Option Value→Shared→Prop} (X:K.In s.heap) (c:ExC K C) (LT:∀ M:Model,W.Looks M s.heap (typeOf (.ref e)) (.ref C)) (hq:Q (some (.ref C)) { s with toks:=s.toks + 1 }) :
  wpAny (model prog w) A (getAttr? (.ref e) "__class__") Q E s:=by
 obtain ⟨hh,gs,dr,tt,os⟩:=s
 have t0:=LT (model prog w)
 have t1:=W.looks_findIn (M:=model prog w) X c.ga
 have t2:=W.looks_findIn (M:=model prog w) X c.gx
 have t3:=W.looks_mroIn (M:=model prog w) X c.be
 have t4:=zaf (M:=model prog w) (e:=e) X c
 have t5:=W.looks_mroIn (M:=model prog w) X c.ob
 have t6:bindSpecial (.builtin "BaseException.__getattribute__") (.ref e)=pure (.builtin "BaseException.__getattribute__",[.ref e]):=F.excAttr_ValueError.ga.bind (.ref e)
 have b2:(Value.builtin "BaseException.__getattribute__" == Value.builtin "object.__getattribute__")=false:=by decide +kernel
 unfold getAttr? getAttrBy? getAttrBy
 refine wpAny_bind (wpAny_mkText (wpAny_bind (wpAny_attempt (wpAny_holding (wpAny_bind (t0.at (wpAny_bind (t1.at ?_))))))))
 simp only [b2,Bool.and_false,Bool.false_eq_true,if_false]
 unfold getAttrByItsOwn hookBefore
 refine wpAny_bind (t2.at ?_)
 unfold callGetattribute boundAndCalled
 simp only [Bool.false_and,Bool.false_eq_true,if_false,Option.toList,t6]
 refine wpAny_bind (wpAny_attempt (wpAny_holding (wpAny_bind (wpAny_pure (wpAny_call ?_)))))
 refine codeAny_call_builtin F.excAttr_ValueError.ga.plain F.entry_bexc_ga ?_
 have k1:builtinKind "BaseException.__getattribute__"=some .slot:=by decide +kernel
 have k2:splitId "BaseException.__getattribute__"=some ("BaseException","__getattribute__"):=by decide +kernel
 have k3:=F.args_bexc_ga (.ref e) (.str "__class__" tt)
 simp only [checkBuiltinCall,k1,k2]
 refine wpAny_bind (?_:wpAny _ _ (isInstance (.ref e) (.type "BaseException")) _ _ _)
 have k4:W.Looks (model prog w) hh (isInstance (.ref e) (.type "BaseException")) true:=t0.andThen t3
 refine k4.at ?_
 simp only [Bool.not_true,Bool.false_eq_true,if_false,List.cons_append,List.nil_append]
 refine wpAny_of_eq (show _=pure () from k3) ?_
 refine wpAny_bind (wpAny_pure (wpAny_bind (wpAny_pure (wpAny_bind (t0.at (wpAny_bind (t4.at ?_)))))))
 show wpAny _ _ (holding [.builtin "object.__class__"] (call (.builtin "getset_descriptor.__get__") [.builtin "object.__class__",.ref e,.ref C]) >>= ret) _ _ _
 refine wpAny_bind (wpAny_holding (wpAny_call (zb8 X c t0 (wpAny_pure ?_))))
 exact W.handed_on rfl (wpAny_pure hq)
theorem Ve {a:Addr} (c:ExC K C) (hc:(W.clsIn K C).isSome=true):W.KitX K (.ref a) (.ref C) (fun h=>∃ o,h.get? a=some o∧o.cls=.ref C) where
 ty:=fun M h _ p=>by
  obtain ⟨o,p1,p2⟩:=p
  exact p2 ▸ (W.Looks.ld p1).andThen .now
 it:=fun _ _ X _=>by
  obtain ⟨cd,z⟩:=Option.isSome_iff_exists.mp hc
  unfold W.clsIn at z
  split at z
  ·rename_i y
   intro A' Q' E' s' k q
   unfold isType loadHead
   exact wpAny_bind (wpAny_loadPart (k _ _ (X _ _ y)) (wpAny_pure q))
  ·cases z
 ne:=fun h tp dd its n sl X p=>by
  obtain ⟨cd,z⟩:=Option.isSome_iff_exists.mp hc
  refine Bool.eq_false_iff.mpr fun q=>?_
  obtain rfl:C=tp:=Value.ref.inj (beq_iff_eq.mp q)
  unfold W.clsIn at z
  split at z
  ·rename_i y
   cases (X _ _ y).symm.trans p
  ·cases z
 ca:=fun X p k=>by
  obtain ⟨o,p1,p2⟩:=p
  exact Qh X c (fun M=>p2 ▸ (W.Looks.ld p1).andThen .now) k
end
end L2
namespace L2
open PySem PySem.Spec PyProof.Rows
section
variable {X:Cx} {pins:List (Addr × Obj)} {σ:St} {H:Hp} {s:Shared}
theorem Inv.land {h2:Heap} {cs:List Addr} (hex:X.ex=[]) (I:Inv X pins σ H s) (hcs:∀ b∈cs,H b=none∧X.s₀.heap.get? b=none) (hcp:∀ b∈cs,∀ p∈X.pn ++ pins,p.1≠b)
  (hB:∀ b o,s.heap.get? b=some o→b ∉ frs X.stack→b ∉ cs→h2.get? b=some o) (sm:s.heap.UpToSlots h2):Inv X pins σ H { s with heap:=h2 }:=by
 have hF:∀ b o,s.heap.get? b=some o→b∈frs X.stack→∃ sl,h2.get? b=some { o with slots:=sl }:=fun b o q hb=>by
  obtain ⟨o',q',nf⟩:=I.stackFields hb
  rw [q] at q';cases q'
  exact sm b o q nf
 obtain ⟨r1,r2⟩:=I.behind hex hcs hB hF
 have ce:∀ c v,s.heap.IsCell c v→h2.IsCell c v:=fun c v ⟨o,ho,hd⟩=>by
  obtain ⟨sl,q⟩:=sm c o ho fun vs z=>by rw [hd] at z;cases z
  exact ⟨_,q,hd⟩
 refine ⟨I.ok,I.os,I.bare,by rw [hex];exact r1,?_,fun x c e=>?_,I.free,I.freeC,fun p hp=>?_,r2,I.len⟩
 ·obtain ⟨m,hn,hl⟩:=I.loc
  refine ⟨m,sm.ns hn,fun i x v e1 e2 e3=>?_⟩
  obtain ⟨u,r,l⟩:=hl i x v e1 e2 e3
  refine ⟨u,r,?_⟩
  rcases l with l | ⟨k,c,e,z⟩
  ·exact .inl l
  ·exact .inr ⟨k,c,e,ce c _ z⟩
 ·obtain ⟨v,z⟩:=I.cell x c e
  exact ⟨v,ce c v z⟩
 ·obtain ⟨e,n,ne,nf,d⟩:=I.pin p hp
  exact ⟨hB _ _ e (fun z=>(List.mem_cons.mp (I.stkSub _ z)).elim ne nf) fun z=>hcp _ z p hp rfl,n,ne,nf,d⟩
theorem Inv.track {e:Addr} {φ:Heap→Prop} (I:Inv X pins σ H s) (hn:H e=none) (h0:X.s₀.heap.get? e=none) (hex:X.ex=[]) (hL:e≠X.env.locals) (hc:∀ x c,X.env.cells.lookup x=some c→c≠e) (hp:∀ p∈X.pn ++ pins,p.1≠e)
  (ok:φ s.heap∧(∃ o,s.heap.get? e=some o)∧∀ h1 h2:Heap,φ h1→(∀ o,h1.get? e=some o→h2.get? e=some o)→φ h2):Inv X pins σ (upd H e (.ext φ)) s:=by
 have ne:∀ b u,H b=some u→b≠e:=fun b u q z=>by rw [z,hn] at q;cases q
 have B:=I.base
 refine ⟨I.ok,I.os,I.bare,⟨B.keep,B.slot,fun b o q n x=>?_,B.there,fun b xs q=>?_,fun b o u q=>?_,fun b ps q=>?_⟩,I.loc,I.cell,?_,fun x c q=>?_,fun p q=>?_,fun b u q=>?_,I.len⟩
 ·rw [yb fun z=>by rw [z,h0] at q;cases q];exact B.free b o q n x
 ·have z:=B.tups b xs q
  rw [yb (ne _ _ z)];exact z
 ·have z:=B.frzs b o u q
  rw [yb (ne _ _ z)];exact z
 ·obtain ⟨m,z⟩:=B.tbls b ps q
  exact ⟨m,by rw [yb (ne _ _ z)];exact z⟩
 ·rw [yb (Ne.symm hL)];exact I.free
 ·rw [yb (hc x c q)];exact I.freeC x c q
 ·obtain ⟨z1,z2,z3,z4,z5⟩:=I.pin p q
  exact ⟨z1,by rw [yb (hp p q)];exact z2,z3,z4,z5⟩
 ·by_cases hb:b=e
  ·subst hb
   rw [zp] at q;cases q
   exact ok
  ·rw [yb hb] at q
   exact (I.hok b u q).stay (fun c v _ z=>z) (fun c z=>by rw [yb (ne _ _ z)];exact z) fun c xs z=>by rw [yb (ne _ _ z)];exact z
theorem Inv.forget {h':Heap} {t':Nat} {i:Nat} {n:Str} {m:Str→Option Value} {v:Option Value} (I:Inv X pins σ H s) (hN:X.N.Nodup) (hi:X.N[i]?=some n)
  (hm:s.heap.Ns X.env.locals m) (hl:∀ (i:Nat) (x:Str) (v:V),X.N[i]?=some x→σ[i]?=some (some v)→Vis X.env.scope x→∃ u,RelV v u∧zek X.env s.heap m x u)
  (hn:h'.Ns X.env.locals (fun x=>if x=n then v else m x)) (hs:Heap.SameBut X.env.locals s.heap h'):Inv X pins (σ.set i none) H { s with heap:=h',toks:=t' }:=by
 have nL:∀ b o,X.s₀.heap.get? b=some o→b≠X.env.locals:=fun b o e=>Nat.ne_of_lt (Nat.lt_of_lt_of_le (Heap.lt_size e) I.ok.above)
 have hiσ:i < σ.length:=by rw [I.len];exact (List.getElem?_eq_some_iff.mp hi).1
 refine ⟨I.ok,I.os,I.bare,⟨fun b o e n hb hx=>(hs.2 b (nL b o e)).trans (I.base.keep b o e n hb hx),fun b o e n hb hx=>?_,I.base.free,fun b o e hx=>?_,I.base.tups,I.base.frzs,I.base.tbls⟩,⟨_,hn,fun j y w e1 e2 e3=>?_⟩,fun y c e=>?_,I.free,I.freeC,fun p hp=>?_,fun b u e=>?_,by simpa using I.len⟩
 ·obtain ⟨sl,e1⟩:=I.base.slot b o e n hb hx
  exact ⟨sl,(hs.2 b (nL b o e)).trans e1⟩
 ·obtain ⟨o',e1⟩:=I.base.there b o e hx
  exact ⟨o',(hs.2 b (nL b o e)).trans e1⟩
 ·by_cases hj:j=i
  ·subst hj
   rw [List.getElem?_set_self hiσ] at e2
   cases e2
  ·rw [List.getElem?_set_ne (Ne.symm hj)] at e2
   obtain ⟨u,r,q⟩:=hl j y w e1 e2 e3
   refine ⟨u,r,?_⟩
   rcases q with ⟨k,e⟩ | ⟨k,c,e,z⟩
   ·have:y≠n:=fun e=>hj (Z4 hN e1 (e ▸ hi))
    exact .inl ⟨k,by simp [this,e]⟩
   ·exact .inr ⟨k,c,e,z.sameBut hs (I.cne y c e)⟩
 ·obtain ⟨w',z⟩:=I.cell y c e
  exact ⟨w',z.sameBut hs (I.cne y c e)⟩
 ·obtain ⟨e,n,ne,nf,d⟩:=I.pin p hp
  exact ⟨(hs.2 p.1 ne).trans e,n,ne,nf,d⟩
 ·refine (I.hok b u e).stay (fun c w' hc q=>(hs.2 c ?_).trans q) (fun _ q=>q) fun _ _ q=>q
  rintro rfl
  rcases hc with rfl | hc
  ·rw [I.free] at e;cases e
  ·rw [I.free] at hc;cases hc
end
def exO (e C:Addr):HO:=.ext fun h=>∃ o,h.get? e=some o∧o.cls=.ref C
abbrev Cx.sub (X:Cx) (e:Addr):Cx:={ X with A:=X.A.mark (some (.ref e)),calm:=false,xe:=fun _ _=>False }
section
variable {X:Cx} {pins:List (Addr × Obj)} {σ:St} {H:Hp} {s:Shared} {e:Addr}
theorem Inv.toSub (I:Inv X pins σ H s):Inv (X.sub e) pins σ H s :=
 ⟨⟨I.ok.mod,I.ok.kind,I.ok.glob,I.ok.blt,I.ok.above,I.ok.inj,I.ok.has,I.ok.cab,(fun z=>nomatch z),I.ok.frames,I.ok.stk,I.ok.exf,I.ok.bs,I.ok.bsz,I.ok.noex,I.ok.exfs,I.ok.funs,I.ok.frf⟩,I.os,I.bare,I.base,I.loc,I.cell,I.free,I.freeC,I.pin,I.hok,I.len⟩
theorem Inv.ofSub {J:Inv X pins σ H s} {σ':St} {H':Hp} {s':Shared} (I:Inv (X.sub e) pins σ' H' s'):Inv X pins σ' H' s' :=
 ⟨J.ok,I.os,I.bare,I.base,I.loc,I.cell,I.free,I.freeC,I.pin,I.hok,I.len⟩
end
abbrev EXK:=Value→St→Hp→Prop
def PX (X:Cx) (pins:List (Addr × Obj)) (EX:EXK):Value→Shared→Prop:=fun ev s'=>∃ e cls σ s1 H1 H',ev=.ref e∧Inv X pins σ H1 s1∧Inv X pins σ H' s'∧XF s1.heap s'.heap H' e cls∧EX cls σ H'
def PEX (X:Cx) (ex:Expr) (t:EXK→TE):Prop :=
 ∀ (pins:List (Addr × Obj)) (s:Shared) (σ:St) (H:Hp) (Q:VK) (EX:EXK),Inv X pins σ H s→t EX σ H Q→wpAny (model X.prog X.w) X.A (eval ex X.env) (EP X pins σ Q) (PX X pins EX) s
def PSX (X:Cx) (st:Stmt) (t:EXK→TS):Prop :=
 ∀ (pins:List (Addr × Obj)) (s:Shared) (σ:St) (H:Hp) (D:ko) (EX:EXK),Inv X pins σ H s→t EX D σ H→wpAny (model X.prog X.w) X.A (exec st X.env) (SP X pins D) (PX X pins EX) s
section
variable {X:Cx} {k:Nat} {f:Addr} {fd:FuncData} {ps:List Str} {sp:Sp} {x:Str} {p pos:Pos} {e:Expr} {es:List Expr} {t:TA}
def ql (sp:Sp) (ta:TA) (EX:EXK):TE:=fun σ H Q=>ta σ H fun vs H1=>sp (vs ++ []) H1 Q fun cls _ H2=>EX cls σ H2
theorem zag (F:FnOk X.prog X.w X.K X.mg X.base (CX1 X.prog X.w) k f fd ps sp) (hr:Room k X.A) (hg:Gl X x) (hm:X.mg x=some (.ref f)) (hk:W.keepIn X.K (.ref f)=true) (hb:Binds X.K fd ps []) 
  (ha:PA X.nox (e :: es) t) (hdb:(x == ("__debug__":Str))=false:=by decide) (he:starEach (e :: es) X.env=(false,eval e X.env) :: starEach es X.env:=by rfl) (hpl:(backTo pos (starEach es X.env)).any (·.1)=false:=by rfl) :
  PEX X (.Call (.Name x p) (e :: es) [] pos) (ql sp t):=by
 intro pins s σ H Q EX I h
 refine wpAny_Call_Name_kw (vS I hg hm ?_ hdb)
 refine W.callWith_K (h₀:=X.base) I.ok.mod.kin hk (wpAny_mono (ha pos pins s σ H _ (I.wish _) h) (fun us s1 ⟨vs,H1,I1',r,q⟩=>⟨I1'.kIn,?_⟩) fun _ _ z=>False.elim z) he hpl
 have I1:=I1'.unwish
 have r2:Vals (vs ++ []) (us ++ []):=r.append .nil
 have hl:(us ++ []).length=ps.length:=by rw [← r2.length];exact F.len _ _ _ _ q
 refine wpAny_call (codeAny_mono (F.run X.A X.stack s1 H1 ⟨us,[]⟩ (us ++ []) (vs ++ []) _ _ hr I1.env0 (hb s1 us I1.kIn hl) r2 q) fun r s' hq=>?_)
 cases r with
 | error ev =>
  obtain ⟨e,cls,H',rfl,os,bare,un,hok,xf,hE⟩:=hq
  exact ⟨e,cls,σ,s1,H1,H',rfl,I1,I1.call' (ch:=[]) os un hok bare (fun b z=>nomatch z),xf,hE⟩
 | ok fl =>
  cases fl with
  | ret u=>exact I1.after hq
  | next=>exact False.elim hq
  | brk=>exact False.elim hq
  | cont=>exact False.elim hq
end
section
variable {X:Cx} {ex:Expr} {tx:EXK→TE} {pos p1:Pos} {i:Nat} {y:Str}
def Wr (tx:EXK→TE) (EX:EXK):TS:=fun D σ H=>tx EX σ H fun _ H1=>D.nx σ H1
theorem zah (he:PEX X ex tx) (hs:swapsWith ex none pos.line X.env=pure false:=by rfl):PSX X (.Expr ex pos) (Wr tx):=by
 intro pins s σ H D EX I h
 exact wpAny_Expr_any (thn (he pins s σ H _ EX I h) fun v s1 ⟨x,H1,I1,r1,q1⟩=>⟨σ,H1,I1,q1⟩) I.quiet hs
def zfj (tx:EXK→TE) (EX:EXK):TS:=fun D σ H=>tx EX σ H D.rt
def zfk (tx:EXK→TE) (i:Nat) (EX:EXK):TS:=fun D σ H=>tx EX σ H fun v H1=>D.nx (σ.set i (some v)) H1
end
structure ExK (K:W.Frag) (C:Addr):Prop extends ExC K C where
 has:(W.clsIn K C).isSome=true
def zb9 (i:Nat) (D:ko):ko:={ nx:=fun σ H=>D.nx (σ.set i none) H,rt:=D.rt,bk:=fun σ H=>D.bk (σ.set i none) H,ct:=fun σ H=>D.ct (σ.set i none) H }
def zai (K:W.Frag) (tb:EXK→TS) (C0:Addr) (i:Nat) (th:TS):TS:=fun D σ H=>tb (fun cls σ1 H1=>∃ C,cls=.ref C∧ExK K C∧W.exmOne K (.ref C) (.ref C0)=some true ∧
 ∀ e,H1 e=none→th (zb9 i D) (σ1.set i (some (.ref e))) (upd H1 e (exO e C))) D σ H
section
variable {X:Cx} {st b₀:Stmt} {suite:List Stmt} {tb:EXK→TS} {th:TS} {c n:Str} {C0:Addr} {i:Nat} {np hpos pos:Pos}
theorem zdJ (hst:X.stack=X.env :: X.outer∧X.env.frame=some X.env.locals) (hex:X.ex=[]) (hN:X.N.Nodup) (hb:PSX X st tb) (hg:Gl X c) (hm:X.mg c=some (.ref C0)) (hi:X.N[i]?=some n) (hl:X.env.scope.names.lookup n=some .local)
  (hs:∀ e,PSs (X.sub e) (b₀ :: suite) th) (hdb:(c == ("__debug__":Str))=false:=by decide) :
  PS X (.Try [st] [.ExceptHandler (some (.Name c np)) (some n) (b₀ :: suite) hpos] [] [] pos) (zai X.K tb C0 i th):=by
 intro pins s σ H D I h
 refine wpAny_Try_except (wpAny_execs_cons (wpAny_mono (hb pins s σ H D _ I h) (fun f s1 q=>?_) fun ev s1 q=>?_))
 ·cases f with
  | next=>exact wpAny_execs_nil (wpAny_execs_nil q)
  | ret v=>exact q
  | brk=>exact q
  | cont=>exact q
 obtain ⟨e,cls,σ1,s0,H0,H1,rfl,I0,I1,xf,C,rfl,ek,hx,hth⟩:=q
 obtain ⟨oe,vs,a0,T,oT,ts,h1,h2,h3,h4,h5,h6,h7,h8,h9,h10,h11,h12⟩:=xf
 have fr:s1.heap.FunFrames (W.hideAll s1.heap (frs X.stack ++ [e,T])) (X.env :: X.outer):=by
  have q:=W.funFrames_hide (as:=frs X.stack ++ [e,T]) I1.stack fun env he a ha=>List.mem_append_left _ (List.mem_filterMap.mpr ⟨env,he,ha⟩)
  rw [hst.1] at q ⊢
  exact q
 have two:∀ b∈[e,T],s0.heap.get? b=none∧H1 b=none:=fun b z=>by
  have z':b=e∨b=T:=by simpa using z
  rcases z' with rfl | rfl
  ·exact ⟨h9,h11⟩
  ·exact ⟨h10,h12⟩
 have hcs:∀ b∈[e,T],H1 b=none∧X.s₀.heap.get? b=none:=fun b z=>⟨(two b z).2,xc (I0.there0 hex) (two b z).1⟩
 have hcp:∀ b∈[e,T],∀ p∈X.pn ++ pins,p.1≠b:=fun b z p hp q=>by
  have:=(I0.pin p hp).1
  rw [q,(two b z).1] at this;cases this
 refine wpAny_looks_onW (base:=W.hideAll s1.heap (frs X.stack ++ [e,T])) (a0:=a0) (cls:=.ref C) (by rw [I1.ok.frames,hst.1]) hst.2
  ⟨fun b o q=>W.of_hideAll _ q,W.hideAll_none _ (List.mem_append_right _ (by simp)),fr,oe,vs,T,oT,ts,h1,h2,h3,h4,W.hideAll_none _ (List.mem_append_right _ (by simp)),h5,h6,h7,h8⟩ fun g4 held4 sm4=>?_
 refine wpAny_landsW held4 fun g5 fly5 sm5=>?_
 have hB:∀ {g:Heap},(W.hideAll s1.heap (frs X.stack ++ [e,T])).StaysIn g→∀ b o,s1.heap.get? b=some o→b ∉ frs X.stack→b ∉ [e,T]→g.get? b=some o :=
  fun {g} k b o q n1 n2=>k b o (W.hideAll_get _ q fun z=>(List.mem_append.mp z).elim n1 n2)
 have I5:Inv X pins σ1 H1 { s1 with heap:=g5 }:=I1.land hex hcs hcp (hB fly5.1) (sm4.trans sm5)
 have K5:=I5.kIn
 refine wpAny_handleBy_cons (codeAny_handlers_test ?_) (by intro q;cases q)
 refine vS (X:=X.sub e) (I5.toSub (e:=e)) hg hm ?_ hdb
 have ty5:W.Looks (model X.prog X.w) g5 (typeOf (.ref e)) (.ref C):=by
  obtain ⟨o,p1,p2⟩:=fly5.there
  exact p2 ▸ (W.Looks.ld p1).andThen .now
 refine (W.exm_one K5 ty5 hx).here ?_
 refine codeAny_handlers_suite_as ?_
 refine lands_againW fly5 fun g6 fly6 sm6=>?_
 have I6:Inv X pins σ1 H1 { s1 with heap:=g6 }:=I1.land hex hcs hcp (hB fly6.1) ((sm4.trans sm5).trans sm6)
 have neL:e≠X.env.locals:=fun z=>by
  obtain ⟨m,⟨o,_,_,ho,_⟩,_⟩:=I0.loc
  rw [← z,h9] at ho;cases ho
 have neC:∀ x c,X.env.cells.lookup x=some c→c≠e:=fun x c q z=>by
  obtain ⟨v,o,ho,_⟩:=I0.cell x c q
  rw [z,h9] at ho;cases ho
 obtain ⟨o6,p6,q6⟩:=fly6.there
 have I7:Inv X pins σ1 (upd H1 e (exO e C)) { s1 with heap:=g6 }:=I6.track h11 (hcs e (by simp)).2 hex neL neC (hcp e (by simp))
  ⟨⟨o6,p6,q6⟩,⟨o6,p6⟩,fun a b ⟨o,z1,z2⟩ k=>⟨o,k o z1,z2⟩⟩
 refine qP (X:=X) (v:=.ref e) I7 hN hi (.inl hl) rfl (fun s8 I8=>?_) (.inr hl)
 refine wpAny_mono (hs e pins s8 _ _ _ I8.toSub (hth e h11)) (fun f s9 q=>?_) fun _ _ z=>False.elim z
 have hcls:(X.env.scope.kind == .class || (X.env.scope.kind == .module && X.env.locals != X.env.globals))=false:=by rw [I.ok.kind];rfl
 have go:∀ {σ9:St} {H9:Hp} {R:Shared→Prop},Inv (X.sub e) pins σ9 H9 s9→(∀ s',Inv X pins (σ9.set i none) H9 s'→R s') →
   wpAny (model X.prog X.w) X.A (do bindName X.env n .none;unbindBehindTheSuite X.env n hpos) (fun _ s3=>R s3) X.xe s9:=fun {σ9 H9 R} J k=>by
  have J':Inv X pins σ9 H9 s9:=Inv.ofSub (J:=I) J
  obtain ⟨m,hm9,hl9⟩:=J'.loc
  exact wpAny_nameGoes_keeps (Q:=fun _ s3=>R s3) hl hm9 hcls fun h' v a b=>k _ (J'.forget hN hi hm9 hl9 a b)
 cases f with
 | next =>
  obtain ⟨σ9,H9,J,z⟩:=q
  exact go (R:=fun s3=>SP X pins D .next s3) J fun s' J'=>⟨_,_,J',z⟩
 | brk =>
  obtain ⟨σ9,H9,J,z⟩:=q
  exact go (R:=fun s3=>SP X pins D .brk s3) J fun s' J'=>⟨_,_,J',z⟩
 | cont =>
  obtain ⟨σ9,H9,J,z⟩:=q
  exact go (R:=fun s3=>SP X pins D .cont s3) J fun s' J'=>⟨_,_,J',z⟩
 | ret u =>
  obtain ⟨v,σ9,H9,J,r,z⟩:=q
  exact go (R:=fun s3=>SP X pins D (.ret u) s3) J fun s' J'=>⟨v,_,_,J',r,z⟩
end
end L2
namespace L2
open PySem PySem.Spec PyProof.Rows
def zca:V→Option Value
 | .ty T=>some (.type T)
 | .ref D=>some (.ref D)
 | _=>none
abbrev zaj (K:W.Frag):RC:=fun xs H Q=>∃ a C c cv b,xs=[.ref a,c]∧H a=some (exO a C)∧ExK K C∧zca c=some cv∧W.kitOne K (.ref C) cv=some b∧Q (.bl b) H
abbrev Vf (K:W.Frag):RC:=fun xs H Q=>∃ a C p,∃ cs:List Addr,∃ b,xs=[.ref a,.ref p]∧H a=some (exO a C)∧ExK K C∧H p=some (.tup (cs.map V.ref))∧W.kitAny K (.ref C) (cs.map Value.ref)=some b∧Q (.bl b) H
theorem XE:∀ {cs:List Addr} {us:List Value},Vals (cs.map V.ref) us→us=cs.map Value.ref
 | [],_,.nil=>rfl
 | c :: r,_,.cons h t=>by rw [XE t];cases h;rfl
section
variable {X:Cx}
theorem zak {P:Program} {w:World} {H:Hp} {h:Heap} {a C:Addr} (k:HOk P w H h) (e:H a=some (exO a C)):∃ o,h.get? a=some o∧o.cls=.ref C:=(k a _ e).1
theorem Vg:vq X (.builtin "isinstance") (zaj X.K):=by
 intro pins s σ H xs us Q I r h
 obtain ⟨a,C,c,cv,b,rfl,ha,ek,hc,hk,q⟩:=h
 obtain ⟨u,w',rfl,r1,r2⟩:=QV r
 cases r1
 have e2:w'=cv:=by
  cases c <;> simp only [zca,Option.some.injEq,reduceCtorEq] at hc
  ·subst hc;exact r2
  ·subst hc;exact r2
 subst e2
 exact W.kia_one (Ve ek.toExC ek.has) I.kIn (zak I.hok ha) hk (fun z=>nomatch z) fun tk=>⟨.bl b,H,I.tok _,rfl,q⟩
theorem XG:vq X (.builtin "isinstance") (Vf X.K):=by
 intro pins s σ H xs us Q I r h
 obtain ⟨a,C,p,cs,b,rfl,ha,ek,hp,hk,q⟩:=h
 obtain ⟨u,w',rfl,r1,r2⟩:=QV r
 cases r1
 cases r2
 obtain ⟨_,its,rv,o,o1,o2,n,o3⟩:=(show ObjOk X.prog X.w H s.heap p (.tup (cs.map V.ref)) from I.hok p _ hp)
 obtain rfl:=XE rv
 obtain ⟨oc,od,oda,osl⟩:=o
 obtain rfl:oc=.type "tuple":=o2
 obtain rfl:oda=.seq (cs.map Value.ref).toArray n:=o3
 exact W.kia_tup (Ve ek.toExC ek.has) I.kIn (zak I.hok ha) o1 hk (fun z=>nomatch z) fun tk=>⟨.bl b,H,I.tok _,rfl,q⟩
end
theorem yr {P:Program} {w:World} {X:Cx}:Z9 (CX1 P w) X E0:=fun _ _ _ _ _ _ _ h=>by
 obtain ⟨_,_,_,_,_,_,_,_,_,z⟩:=h
 exact z.elim
section
variable {P:Program} {w:World} {K:W.Frag} {mg:Str→Option Value} {base:Heap}
theorem Fun.ok1 {x qual:Str} {st:Stmt} {f:Addr} {fd:FuncData} {N ps:List Str} {k:Nat} {sp:Sp} (F:Fun K x qual st f fd) (S:zV N ps (zq st)) (len:∀ vs H Q E,sp vs H Q E→vs.length=ps.length)
  (hbody:∀ (cdv:Value) (A:Around) (outer:List Env) (s:Shared) (H:Hp) (vs:List V) (Q:VK) (E:XK),Room k (A.deeper (envOfC qual (zq st) s.heap.objs.size f cdv))→sp vs H Q E →
   ∃ t,PSs (jN (CX1 P w) P w K mg base N qual (zq st) f cdv A outer s H E) (zU st) t∧t { nx:=fun _ H'=>Q .non H',rt:=Q } (start N vs) H):FnOk P w K mg base (CX1 P w) (k + 1) f fd ps sp:=by
 obtain ⟨oc,od,kV,doc,pm,an,cdv,ct,osl,rfl,lk,hcd⟩:=F.ex
 exact zdf lk hcd S len fun A outer s H vs Q E hr hsp=>hbody cdv A outer s H vs Q E hr hsp
theorem Fun.ok0 {x qual:Str} {st:Stmt} {f:Addr} {fd:FuncData} {N ps:List Str} {k:Nat} {sp:Sp} (F:Fun K x qual st f fd) (S:zV N ps (zq st)) (len:∀ vs H Q E,sp vs H Q E→vs.length=ps.length)
  (hbody:∀ (cdv:Value) (A:Around) (outer:List Env) (s:Shared) (H:Hp) (vs:List V) (Q:VK) (E:XK),Room k (A.deeper (envOfC qual (zq st) s.heap.objs.size f cdv))→sp vs H Q E →
   ∃ t,PSs (jN (CX1 P w) P w K mg base N qual (zq st) f cdv A outer s H E).nox (zU st) t∧t { nx:=fun _ H'=>Q .non H',rt:=Q } (start N vs) H):FnOk P w K mg base (CX1 P w) (k + 1) f fd ps sp :=
 F.ok1 S len fun cdv A outer s H vs Q E hr h=>let ⟨t,a,b⟩:=hbody cdv A outer s H vs Q E hr h;⟨t,a.nox,b⟩
end
theorem zer {l:W.OpenLaw} {n k:Nat} {q:Program} {loose:List Str} {XP:(Str→Option Value)→Heap→Prop} {YP:World→Heap→Prop} {d:DefRec} {K:Params→W.Frag} {sp:W.Frag→Sp} {x:Str}
  (hn:l.most=some n) (hn2:n≤sizeLine) (hdf:d.params.defaults=[]) (hr:Room k callerA)
  (hY:∀ (w:World) (h:Heap),YP w h→(K w.params).In h)
  (F:∀ (w:World) (mg:Str→Option Value) (fa:Addr) (h:Heap),(K w.params).In h→h.Ns mainGlobals mg→mg d.name=some (.ref fa) →
   ∃ fd:FuncData,(∀ (s:Shared) (u:Value),BindsTo s fd ⟨[u],[]⟩ [(x,u)]) ∧
    ∀ base:Heap,(K w.params).In base→base.Ns mainGlobals mg→FnOk l.prog w (K w.params) mg base (CX1 l.prog w) k fa fd [x] (sp (K w.params)))
  (hsp:∀ (K:W.Frag) (H:Hp) (a:Addr) (ns:List Int),ns.length≤n→Jk H→SqL K H a (ns.map V.int)→sp K [.ref a] H (fun v _=>v=.bl true) fun _ _ _=>False) :
  W.WalkO q loose XP YP l.row.toRowW d [] (fun f vs=>PySem.call f vs) :=
 Kg (K:=K) (CX:=fun w=>CX1 l.prog w) (sp:=fun w=>sp (K w.params)) hn hn2 hdf hr hY F (fun w H a ns h1 h2 h3=>hsp (K w.params) H a ns h1 h2 h3) fun _ _ _ _ _ z=>by
  obtain ⟨_,_,_,_,_,_,_,_,_,y⟩:=z
  exact y
end L2
namespace L2
open PySem
section
variable {σ:St} {H:Hp} {nx:St→Hp→Prop} {B:V→St→Hp→(St→Hp→Prop)→Prop}
theorem qm {lo:Int} {n:Nat} (Pv:Nat→St→Hp→Prop) (h0:Pv 0 σ H) (hs:∀ i σ H,i < n→Pv i σ H→B (.int (lo + i)) σ H (Pv (i + 1))) (hd:∀ σ H,Pv n σ H→nx σ H) :
  ∃ W:Nat→Nat→St→Hp→Prop,(∃ m,W 0 m σ H)∧∀ i m σ H,W i m σ H→((Itr lo n).stop i H∧nx σ H)∨((Itr lo n).go i H∧∃ N:St→Hp→Prop,(∀ σ' H',N σ' H'→∃ m',m' < m∧W (i + 1) m' σ' H')∧∀ x H',(Itr lo n).yld i H x H'→B x σ H' N):=by
 refine ⟨fun i m σ H=>m=n - i∧i≤n∧Pv i σ H,⟨n,by simp,Nat.zero_le _,h0⟩,?_⟩
 rintro i m σ H ⟨rfl,hi,p⟩
 by_cases hlt:i < n
 ·refine .inr ⟨hlt,Pv (i + 1),fun σ' H' p'=>⟨n - (i + 1),by omega,rfl,hlt,p'⟩,?_⟩
  rintro x H' ⟨rfl,rfl⟩
  exact hs i σ _ hlt p
 ·obtain rfl:i=n:=by omega
  exact .inl ⟨Nat.le_refl _,hd σ H p⟩
theorem XH {K:W.Frag} {a:Addr} (xs:List V) (Pv:Nat→St→Hp→Prop) (h0:Pv 0 σ H) (hl:∀ i σ H,Pv i σ H→SqL K H a xs) (hs:∀ i x σ H,xs[i]?=some x→Pv i σ H→B x σ H (Pv (i + 1))) (hd:∀ σ H,Pv xs.length σ H→nx σ H) :
  ∃ W:Nat→Nat→St→Hp→Prop,(∃ m,W 0 m σ H)∧∀ i m σ H,W i m σ H→((Itl K a).stop i H∧nx σ H)∨((Itl K a).go i H∧∃ N:St→Hp→Prop,(∀ σ' H',N σ' H'→∃ m',m' < m∧W (i + 1) m' σ' H')∧∀ x H',(Itl K a).yld i H x H'→B x σ H' N):=by
 refine ⟨fun i m σ H=>m=xs.length - i∧i≤xs.length∧Pv i σ H,⟨xs.length,by simp,Nat.zero_le _,h0⟩,?_⟩
 rintro i m σ H ⟨rfl,hi,p⟩
 have q:=hl i σ H p
 by_cases hlt:i < xs.length
 ·refine .inr ⟨⟨xs,xs[i],q,by simp [hlt]⟩,Pv (i + 1),fun σ' H' p'=>⟨xs.length - (i + 1),by omega,rfl,hlt,p'⟩,?_⟩
  rintro x H' ⟨rfl,y⟩
  exact hs i x σ _ (y xs q) p
 ·obtain rfl:i=xs.length:=by omega
  exact .inl ⟨⟨xs,q,Nat.le_refl _⟩,hd σ H p⟩
theorem zal {z:Str} (Pv:Nat→St→Hp→Prop) (h0:Pv 0 σ H) (hs:∀ i c σ H,z.cps[i]?=some c→Pv i σ H→B (.str ⟨#[c]⟩) σ H (Pv (i + 1))) (hd:∀ σ H,Pv z.cps.size σ H→nx σ H) :
  ∃ W:Nat→Nat→St→Hp→Prop,(∃ m,W 0 m σ H)∧∀ i m σ H,W i m σ H→((Its z).stop i H∧nx σ H)∨((Its z).go i H∧∃ N:St→Hp→Prop,(∀ σ' H',N σ' H'→∃ m',m' < m∧W (i + 1) m' σ' H')∧∀ x H',(Its z).yld i H x H'→B x σ H' N):=by
 refine ⟨fun i m σ H=>m=z.cps.size - i∧i≤z.cps.size∧Pv i σ H,⟨z.cps.size,by simp,Nat.zero_le _,h0⟩,?_⟩
 rintro i m σ H ⟨rfl,hi,p⟩
 by_cases hlt:i < z.cps.size
 ·refine .inr ⟨hlt,Pv (i + 1),fun σ' H' p'=>⟨z.cps.size - (i + 1),by omega,rfl,hlt,p'⟩,?_⟩
  rintro x H' ⟨rfl,c,hc,rfl⟩
  exact hs i c σ _ hc p
 ·obtain rfl:i=z.cps.size:=by omega
  exact .inl ⟨Nat.le_refl _,hd σ H p⟩
end
theorem vF {J:It} {D:Addr} {τ₀:St} {H1:Hp} {Q:Hp→Prop} {B:V→St→Hp→(V→St→Hp→Prop)→(St→Hp→Prop)→Prop} (n:Nat) (hn:n≤1000000) (C:St→Prop) (R:Nat→V→Prop) (hC:C τ₀)
  (go:∀ i H,Same H1 H→i < n→J.go i H) (stop:∀ H,Same H1 H→J.stop n H) (hD:H1 D=none)
  (hs:∀ i x τ H H',C τ→Same H1 H→i < n→J.yld i H x H'→B x τ H' (fun v τ' H4=>C τ'∧R i v∧Same H H4) (fun _ _=>False))
  (hd:∀ ys H,ys.length=n→(∀ i v,ys[i]?=some v→R i v)→Same H1 H→H D=some (.lst ys)→Q H) :
  ∃ W:Nat→Nat→List V→St→Hp→Prop,(∃ m,W 0 m [] τ₀ (upd H1 D (.lst [])))∧∀ i m ys τ H,W i m ys τ H→H D=some (.lst ys) ∧
  ((J.stop i H∧Q H)∨(J.go i H∧ys.length < sizeLine∧∃ N:V→St→Hp→Prop,
   (∀ v τ' H',N v τ' H'→H' D=some (.lst ys)∧∃ m',m' < m∧W (i + 1) m' (ys ++ [v]) τ' (upd H' D (.lst (ys ++ [v]))))∧∃ Nf:St→Hp→Prop,(∀ τ' H',Nf τ' H'→∃ m',m' < m∧W (i + 1) m' ys τ' H') ∧
   ∀ x H',J.yld i H x H'→B x τ H' N Nf)):=by
 have ext:∀ {H:Hp} {o:HO},Same H1 H→Same H1 (upd H D o):=fun {H o} h b u e=>by
  rw [yb (xp e hD)];exact h b u e
 refine ⟨fun i m ys τ H=>m=n - i∧i≤n∧ys.length=i∧(∀ j v,ys[j]?=some v→R j v)∧Same H1 H∧H D=some (.lst ys)∧C τ,⟨n,by simp,Nat.zero_le _,rfl,by simp,ext (Same.refl _),zp,hC⟩,?_⟩
 rintro i m ys τ H ⟨rfl,hi,hl,hR,hS,hy,hc⟩
 refine ⟨hy,?_⟩
 by_cases hlt:i < n
 ·refine .inr ⟨go i H hS hlt,Nat.lt_of_le_of_lt (by omega:ys.length≤1000000) (by decide),(fun v τ' H4=>C τ'∧R i v∧Same H H4),?_,(fun _ _=>False),fun _ _ z=>z.elim,fun x H' y=>hs i x τ H H' hc hS hlt y⟩
  rintro v τ' H4 ⟨c4,r4,s4⟩
  refine ⟨s4 _ _ hy,n - (i + 1),by omega,rfl,hlt,by simp [hl],fun j u hj=>?_,ext (hS.trans s4),zp,c4⟩
  rcases Nat.lt_trichotomy j ys.length with h | h | h
  ·exact hR j u (by rwa [List.getElem?_append_left h] at hj)
  ·subst h
   simp at hj
   subst hj
   rw [hl];exact r4
  ·rw [List.getElem?_eq_none (by simp;omega)] at hj;cases hj
 ·obtain rfl:i=n:=by omega
  exact .inl ⟨stop H hS,hd ys H hl hR hS hy⟩
theorem Ws (n d:Nat) (v:Int):max (0:Int) (min (if v < 0 then v + n else v) n)=((HT.sIx n d (some v):Nat):Int):=by
 show _=(((if v < 0 then (v + (n:Int)).toNat else min v.toNat n):Nat):Int)
 by_cases hv:v < 0
 ·simp only [if_pos hv];omega
 ·simp only [if_neg hv];omega
theorem zcb (a b:Nat):sliceRange (a:Int) (b:Int) 1=(List.range (b - a)).map fun k=>a + k:=by
 simp only [sliceRange,show ((1:Int) > 0)=True from by simp,if_true]
 by_cases hlt:(a:Int) < b
 ·have e3:(((b:Int) - a + 1 - 1) / 1).toNat=b - a:=by rw [Int.ediv_one];omega
  simp only [hlt,if_true,e3]
  refine List.map_congr_left fun k _=>?_
  omega
 ·have:b - a=0:=by omega
  simp [hlt,this]
theorem zam (lo hi:Option Int) (n:Nat):Builtin.Str.strSliceIndices lo hi 1 n=(List.range (HT.sIx n n hi - HT.sIx n 0 lo)).map fun k=>HT.sIx n 0 lo + k:=by
 rw [← zcb]
 unfold Builtin.Str.strSliceIndices
 simp only [show ((1:Int) > 0)=True from by simp,if_true]
 cases lo with
 | none =>
  cases hi with
  | none=>rfl
  | some v=>simp only [Ws n n v];rfl
 | some u =>
  cases hi with
  | none=>simp only [Ws n 0 u];rfl
  | some v=>simp only [Ws n n v,Ws n 0 u]
theorem XI (x:Str) (lo hi:Option Int):(Txt.slice x lo hi).cps.toList=(x.cps.toList.drop (HT.sIx x.length 0 lo)).take (HT.sIx x.length x.length hi - HT.sIx x.length 0 lo):=by
 have hb:=HT.sIx_le x.length x.length (Nat.le_refl _) hi
 have hn:x.cps.toList.length=x.length:=by simp [Str.length]
 unfold Txt.slice
 rw [zam]
 split
 ·rename_i h
  have h':HT.sIx x.length x.length hi - HT.sIx x.length 0 lo=x.length:=by simpa using h
  have e0:HT.sIx x.length 0 lo=0∨x.length=0:=by omega
  rcases e0 with e0 | e0
  ·rw [e0,List.drop_zero,List.take_of_length_le]
   omega
  ·rw [List.eq_nil_of_length_eq_zero (by omega:x.cps.toList.length=0)];simp
 ·by_cases hab:HT.sIx x.length 0 lo≤HT.sIx x.length x.length hi
  ·have h:=StrLaws.picks x.cps.toList (HT.sIx x.length x.length hi - HT.sIx x.length 0 lo) (HT.sIx x.length 0 lo) (by omega)
   simpa using h
  ·have:HT.sIx x.length x.length hi - HT.sIx x.length 0 lo=0:=by omega
   rw [this];simp
theorem jT (x:Str) (k:Nat):(Txt.slice x (some (k:Int)) none).cps.toList=x.cps.toList.drop k:=by
 rw [XI,HT.sIx_none,HT.sIx_nat]
 have hn:x.cps.toList.length=x.length:=by simp [Str.length]
 by_cases h:k≤x.length
 ·rw [Nat.min_eq_left h,List.take_of_length_le (by rw [List.length_drop];omega)]
 ·rw [List.drop_eq_nil_of_le (by omega:x.cps.toList.length≤k),Nat.min_eq_right (by omega),List.drop_eq_nil_of_le (by omega)];simp
theorem Ye (x:Str) (k:Nat):(Txt.slice x none (some (k:Int))).cps.toList=x.cps.toList.take k:=by
 rw [XI,HT.sIx_none,HT.sIx_nat,List.drop_zero,Nat.sub_zero]
 have hn:x.cps.toList.length=x.length:=by simp [Str.length]
 by_cases h:k≤x.length
 ·rw [Nat.min_eq_left h]
 ·rw [Nat.min_eq_right (by omega),List.take_of_length_le (by omega),List.take_of_length_le (by omega)]
theorem wS {x y:Str} (h:x.cps.toList=y.cps.toList):x=y:=by
 obtain ⟨a⟩:=x
 obtain ⟨b⟩:=y
 have:a=b:=Array.toList_inj.mp h
 rw [this]
theorem yu (x y:Str):(x ++ y).cps.toList=x.cps.toList ++ y.cps.toList:=by
 show (x.cps ++ y.cps).toList=_
 simp
theorem Qi (x y:Str):(0 + y.length≤x.length && Builtin.Str.subAt x y 0)=(x.cps.toList.take y.length == y.cps.toList):=by
 rw [StrLaws.subAt_eq,List.drop_zero]
 have hn:x.cps.toList.length=x.length:=by simp [Str.length]
 have hm:y.cps.toList.length=y.length:=by simp [Str.length]
 by_cases h:y.length≤x.length
 ·simp [h]
 ·have e:(x.cps.toList.take y.length == y.cps.toList)=false:=by
   rw [beq_eq_false_iff_ne]
   intro e
   have:=congrArg List.length e
   rw [List.length_take] at this
   omega
  rw [e];simp
open PySem.NumText in
section
def zH (w:Int):Str:=Str.ofString (toString w)
def dg (m:Nat):List Nat:=(Nat.toDigits 10 m).map Char.toNat
theorem jA {m:Nat} (h:m < 10):dg m=[48 + m]:=by
 unfold dg
 rw [Nat.toDigits_of_lt_base h]
 have:∀ d:Nat,d < 10→(Nat.digitChar d).toNat=48 + d:=by decide
 simp [this m h]
theorem ZU {m:Nat} (h:10≤m):dg m=dg (m / 10) ++ [48 + m % 10]:=by
 have hm:m % 10 < 10:=Nat.mod_lt m (by decide)
 have t:Nat.toDigits 10 (m / 10) ++ Nat.toDigits 10 (m % 10)=Nat.toDigits 10 (10 * (m / 10) + m % 10):=Nat.toDigits_append_toDigits (by decide) (by omega) hm
 rw [Nat.div_add_mod] at t
 rw [← jA hm]
 unfold dg
 rw [← t,List.map_append]
theorem jc (m:Nat):AllDigits (dg m):=by
 induction m using Nat.strongRecOn with
 | _ m ih =>
  by_cases h:m < 10
  ·rw [jA h]
   intro c hc
   have e:c=48 + m:=by simpa using hc
   omega
  ·rw [ZU (by omega)]
   intro c hc
   rcases List.mem_append.mp hc with hc | hc
   ·exact ih (m / 10) (by omega) c hc
   ·have e:c=48 + m % 10:=by simpa using hc
    omega
theorem Kj (m:Nat):dg m≠[]:=by
 by_cases h:m < 10
 ·rw [jA h];simp
 ·rw [ZU (by omega)];simp
theorem zan (m:Nat):digitsVal (dg m)=m:=by
 induction m using Nat.strongRecOn with
 | _ m ih =>
  by_cases h:m < 10
  ·rw [jA h]
   show 0 * 10 + (48 + m - 48)=m
   omega
  ·rw [ZU (by omega),digitsVal_snoc,ih (m / 10) (by omega)]
   omega
theorem Yf:∀ (k m:Nat),m < 10 ^ (k + 1)→(dg m).length≤k + 1
 | 0,m,h=>by rw [jA (by simpa using h)];simp
 | k + 1,m,h=>by
  by_cases hm:m < 10
  ·rw [jA hm];simp
  ·rw [ZU (by omega),List.length_append]
   have:=Yf k (m / 10) (by rw [Nat.pow_succ] at h;omega)
   simp only [List.length_cons,List.length_nil]
   omega
theorem yD (m:Nat):(zH (m:Int)).cps.toList=dg m:=by
 unfold zH
 rw [Str.ofString_eq_toList]
 show (Nat.repr m).toList.map Char.toNat=_
 rw [Nat.toList_repr]
 rfl
theorem xQ {m:Nat} (h:0 < m):(zH (-(m:Int))).cps.toList=45 :: dg m:=by
 obtain ⟨k,rfl⟩:∃ k,m=k + 1:=⟨m - 1,by omega⟩
 have e:(-((k + 1:Nat):Int))=Int.negSucc k:=by omega
 rw [e]
 unfold zH
 rw [Str.ofString_eq_toList]
 show (("-" ++ Nat.repr (k + 1)):String).toList.map Char.toNat=_
 rw [String.toList_append,List.map_append,Nat.toList_repr]
 rfl
theorem ZV (x:Str):x.length=x.cps.toList.length:=by simp [Str.length]
theorem zao {w:Int} {k:Nat} (h:w.natAbs < 10 ^ (k + 1)):(zH w).length≤k + 2:=by
 rw [ZV]
 rcases Int.lt_or_le w 0 with h0 | h0
 ·obtain ⟨m,rfl,hm⟩:∃ m:Nat,w=-(m:Int)∧0 < m:=⟨w.natAbs,by omega,by omega⟩
  rw [xQ hm,List.length_cons]
  have:=Yf k m (by omega)
  omega
 ·obtain ⟨m,rfl⟩:∃ m:Nat,w=(m:Int):=⟨w.natAbs,by omega⟩
  rw [yD]
  have:=Yf k m (by omega)
  omega
theorem Jq {w:Int} (h:w.natAbs < 10 ^ 100):intText? (zH w)=some w:=by
 have hl:(zH w).length≤4300:=Nat.le_trans (zao (k:=99) h) (by decide)
 rcases Int.lt_or_le w 0 with h0 | h0
 ·obtain ⟨m,rfl,hm⟩:∃ m:Nat,w=-(m:Int)∧0 < m:=⟨w.natAbs,by omega,by omega⟩
  rw [intText_neg (xQ hm) (jc m) (Kj m) hl,zan]
 ·obtain ⟨m,rfl⟩:∃ m:Nat,w=(m:Int):=⟨w.natAbs,by omega⟩
  rw [intText_digits (by rw [yD];exact jc m) (by rw [yD];exact Kj m) hl,yD,zan]
def inF (c:Nat):Bool:=!(Builtin.Str.occurrences "0123456789" ⟨#[c]⟩ 0 (Str.length "0123456789") 1).isEmpty
theorem zcc (c:Nat):inF c=true↔48≤c∧c≤57:=by
 unfold inF
 rw [StrLaws.found_one]
 have e:(Str.ofString "0123456789").cps.toList=[48,49,50,51,52,53,54,55,56,57]:=by decide +kernel
 rw [e]
 simp only [decide_eq_true_eq,List.mem_cons,List.not_mem_nil,or_false]
 omega
def vU (x:Str):Bool:=!decide (x="") && x.cps.toList.all inF
theorem XJ (x:Str):vU x=true↔x.cps.toList≠[]∧AllDigits x.cps.toList:=by
 unfold vU
 rw [Bool.and_eq_true,Bool.not_eq_true',decide_eq_false_iff_not,List.all_eq_true]
 refine and_congr ⟨fun h e=>h (wS (by rw [e];decide +kernel)),fun h e=>h (by rw [e];decide +kernel)⟩ ?_
 exact forall_congr' fun c=>forall_congr' fun _=>zcc c
def inW (i:Int):Bool:=decide (-1000000000000000000000000000000≤i∧i≤1000000000000000000000000000000)
def xB (x:Str):Str:=if (x.cps.toList.take 1 == [45])=true then Txt.slice x (some 1) none else x
theorem kY (x:Str):(∃ cs,x.cps.toList=45 :: cs∧(xB x).cps.toList=cs)∨((∀ cs,x.cps.toList≠45 :: cs)∧xB x=x):=by
 unfold xB
 cases h:x.cps.toList with
 | nil=>exact .inr ⟨(fun cs e=>nomatch e),if_neg (by simp)⟩
 | cons c cs =>
  by_cases hc:c=45
  ·subst hc
   refine .inl ⟨cs,rfl,?_⟩
   rw [if_pos (by simp)]
   have:=jT x 1
   rw [h] at this
   exact this
  ·refine .inr ⟨fun ds e=>hc (List.cons.inj e).1,?_⟩
   rw [if_neg (by simp [hc])]
def yO (x:Str):Int:=(intText? x).getD 0
theorem Yg {x:Str} (h:vU (xB x)=true) (hl:x.length≤4300):intText? x=some (yO x):=by
 obtain ⟨h1,h2⟩:=(XJ _).mp h
 unfold yO
 rcases kY x with ⟨cs,e,ef⟩ | ⟨_,ef⟩
 ·rw [ef] at h1 h2
  rw [intText_neg e h2 h1 hl];rfl
 ·rw [ef] at h1 h2
  rw [intText_digits h2 h1 hl];rfl
def yv (x:Str):Bool:=!(decide (31 < (xB x).length) || !vU (xB x)) && (inW (yO x) && decide (zH (yO x)=x))
theorem Zv (x:Str):x.length≤(xB x).length + 1:=by
 rw [ZV,ZV]
 rcases kY x with ⟨cs,e,ef⟩ | ⟨_,ef⟩
 ·rw [e,ef];simp
 ·rw [ef];omega
theorem zap (x:Str):(xB x).length≤x.length:=by
 unfold xB
 split
 ·exact Txt.slice_le x _ _
 ·exact Nat.le_refl _
theorem qo {w:Int} (h:inW w=true):yv (zH w)=true∧yO (zH w)=w∧(zH w).length≤40:=by
 have hw:-1000000000000000000000000000000≤w∧w≤1000000000000000000000000000000:=of_decide_eq_true h
 have hr:=Jq (w:=w) (Nat.lt_of_le_of_lt (by omega:w.natAbs≤1000000000000000000000000000000) (by decide +kernel))
 have hv:yO (zH w)=w:=by unfold yO;rw [hr];rfl
 have hf:(xB (zH w)).length≤31∧vU (xB (zH w))=true:=by
  rw [XJ,ZV]
  rcases Int.lt_or_le w 0 with h0 | h0
  ·obtain ⟨m,rfl,hm⟩:∃ m:Nat,w=-(m:Int)∧0 < m:=⟨w.natAbs,by omega,by omega⟩
   rcases kY (zH (-(m:Int))) with ⟨cs,e,ef⟩ | ⟨e,_⟩
   ·rw [xQ hm] at e
    rw [ef,← (List.cons.inj e).2]
    exact ⟨Yf 30 m (by omega),Kj m,jc m⟩
   ·exact absurd (xQ hm) (e _)
  ·obtain ⟨m,rfl⟩:∃ m:Nat,w=(m:Int):=⟨w.natAbs,by omega⟩
   rcases kY (zH (m:Int)) with ⟨cs,e,ef⟩ | ⟨_,ef⟩
   ·have:=jc m 45 (by rw [← yD,e];simp)
    omega
   ·rw [ef,yD]
    exact ⟨Yf 30 m (by omega),Kj m,jc m⟩
 refine ⟨?_,hv,Nat.le_trans (Zv _) (by omega)⟩
 unfold yv
 rw [hv,hf.2,h,decide_eq_false (by omega:¬ 31 < (xB (zH w)).length),decide_eq_true rfl]
 rfl
end
end L2
namespace L2
open PySem PySem.Spec PyProof.Rows
def zes (x y:Str):Int:=match Builtin.Str.occurrences x y 0 x.length 1 with | i :: _=>(i:Int) | []=>-1
abbrev zei:RM:=fun x xs H Q=>∃ a b,x=.str a∧xs=[.str b]∧Q (.int (zes a b)) H
def xC (sep:Str):List Str→Str
 | [p]=>p
 | l=>Builtin.Str.glued sep l
def Qj (sep:Str) (ls:List Str):Nat:=ls.foldl (fun n p=>n + p.length + sep.length) 0
abbrev xG (K:W.Frag):RM:=fun x xs H Q=>∃ sep a ls,x=.str sep∧xs=[.ref a]∧SqL K H a (ls.map V.str)∧Qj sep ls≤sizeLine∧Q (.str (xC sep ls)) H
theorem Wt (sep:Str):∀ (ls:List Str) (k:Nat),ls.foldl (fun n p=>n + p.length + sep.length) k=k + (ls.map (·.length)).sum + ls.length * sep.length
 | [],k=>by simp
 | p :: r,k=>by
  rw [List.foldl_cons,Wt sep r,List.map_cons,List.sum_cons,List.length_cons,Nat.add_mul,Nat.one_mul]
  omega
theorem XL (sep:Str) (ls:List Str):(xC sep ls).length≤Qj sep ls:=by
 unfold Qj
 rw [Wt]
 have g:(Builtin.Str.glued sep ls).length≤0 + (ls.map (·.length)).sum + ls.length * sep.length:=by
  rw [size_glued]
  have:(ls.length - 1) * sep.length≤ls.length * sep.length:=Nat.mul_le_mul_right _ (by omega)
  omega
 unfold xC
 split
 ·simp only [List.map_cons,List.map_nil,List.sum_cons,List.sum_nil,List.length_cons,List.length_nil];omega
 ·exact g
theorem XM:∀ {ls:List Str} {us:List Value},Vals (ls.map V.str) us→∃ l:List (Str × Tok),us=strValues l∧l.map (·.1)=ls
 | [],_,.nil=>⟨[],rfl,rfl⟩
 | x :: r,_,.cons h t=>by
  obtain ⟨l,rfl,e⟩:=XM t
  obtain ⟨k,rfl⟩:=h
  exact ⟨(x,k) :: l,rfl,by rw [List.map_cons,e]⟩
def Jr (x:Str) (n:Int):Str:=if n < 1 then Str.empty else if (n == 1 || x.length == 0)=true then x else ⟨(List.replicate n.toNat x.cps).foldl (· ++ ·) #[]⟩
abbrev Vh:R2:=fun x y H Q=>∃ a n,x=.str a∧y=.int n∧(n < 1000000∧-1000000 < n∧a.length * n.toNat≤1000000)∧Q (.str (Jr a n)) H
theorem Kk (a:Array Nat):∀ (k:Nat) (b:Array Nat),((List.replicate k a).foldl (· ++ ·) b).toList=b.toList ++ (List.replicate k a.toList).flatten
 | 0,b=>by simp
 | k + 1,b=>by
  rw [List.replicate_succ,List.foldl_cons,Kk a k,List.replicate_succ]
  simp
theorem zaq (x:Str) (n:Int):(Jr x n).cps.toList=(List.replicate n.toNat x.cps.toList).flatten:=by
 unfold Jr
 split
 ·have:n.toNat=0:=by omega
  rw [this];rfl
 ·split
  ·rename_i h1 h2
   rw [Bool.or_eq_true,beq_iff_eq,beq_iff_eq] at h2
   rcases h2 with rfl | h2
   ·simp
   ·have e:x.cps.toList=[]:=List.eq_nil_of_length_eq_zero (by rw [← h2];simp [Str.length])
    rw [e]
    simp
  ·rw [Kk];simp
theorem Vi {α:Type} (a:List α):∀ k:Nat,(List.replicate k a).flatten.length=a.length * k
 | 0=>by simp
 | k + 1=>by rw [List.replicate_succ,List.flatten_cons,List.length_append,Vi a k,Nat.mul_succ];omega
theorem Vj (x:Str) (n:Int):(Jr x n).length=x.length * n.toNat:=by
 have e:∀ y:Str,y.length=y.cps.toList.length:=fun y=>by simp [Str.length]
 rw [e,zaq,Vi,← e]
section
variable {X:Cx}
theorem Kl:MtR X "str.join" (xG X.K):=by
 intro pins s σ H x xs v us Q I rx rs h
 obtain ⟨sep,a,ls,rfl,rfl,hq,hl,q⟩:=h
 obtain ⟨t,rfl⟩:=rx
 obtain ⟨u,rfl,r1⟩:=wV rs
 cases r1
 obtain ⟨its,rv,p,hz⟩:=I.list hq
 obtain ⟨l,rfl,e⟩:=XM rv
 have tl:Builtin.Str.tooLong ((l.map (·.1)).toArray.foldl (· + ·.length + sep.length) 0)=false:=by
  rw [e,List.foldl_toArray]
  unfold Builtin.Str.tooLong
  exact decide_eq_false (by unfold Qj at hl;omega)
 have jl:=XL sep ls
 refine call_meets F.slot_str_join (typeIs_str s sep t) F.entry_str_join (F.args_str_join_2 _ _) (meets_str_join_list sep t a l tl) ⟨p.isList,?_⟩
 subst e
 match l,q,jl,hl with
 | [],q,jl,hl=>exact ⟨Nat.le_trans jl hl,.str _,H,I.tok _,⟨_,rfl⟩,q⟩
 | [p],q,jl,hl=>exact ⟨.str p.1,H,I,⟨_,rfl⟩,q⟩
 | p :: p' :: r,q,jl,hl=>exact ⟨Nat.le_trans jl hl,.str _,H,I.tok _,⟨_,rfl⟩,q⟩
theorem Yh:OpR X (binaryOp .Mult) Vh:=by
 intro pins s σ H x y v u Q I rx ry h
 obtain ⟨a,n,rfl,rfl,⟨h1,h2,h3⟩,q⟩:=h
 obtain ⟨t,rfl⟩:=rx
 obtain ⟨t',rfl⟩:=ry
 have hs:sizeLine=16777216:=sizeLine_eq
 have ln:=Vj a n
 refine P.mul_str (by rw [decide_eq_false (by omega),decide_eq_false (by omega)];rfl) (fun c1 c2=>?_) (fun c1 c2=>?_) ?_
 ·have m:(a.length:Int) * n≤1000000:=by
   have:((a.length * n.toNat:Nat):Int)≤1000000:=by omega
   rw [Int.natCast_mul,Int.toNat_of_nonneg (by omega)] at this
   exact this
  intro c
  have c':(2 ^ 63 - 1) / n < (a.length:Int):=c
  have:=(Int.ediv_lt_iff_lt_mul (by omega)).mp c'
  omega
 ·unfold Builtin.Str.tooLong
  exact decide_eq_false (by omega)
 ·unfold Jr at ln q
  split
  ·rename_i c
   rw [if_pos c] at q
   exact ⟨by decide,.str _,H,I.tok _,⟨_,rfl⟩,q⟩
  ·rename_i c
   rw [if_neg c] at q ln
   split
   ·rename_i c2
    rw [if_pos c2] at q
    exact ⟨.str a,H,I,⟨_,rfl⟩,q⟩
   ·rename_i c2
    rw [if_neg c2] at q ln
    exact ⟨by rw [ln];omega,.str _,H,I.tok _,⟨_,rfl⟩,q⟩
end
theorem Asc.app {x y:Str} (h:Asc x) (h':Asc y):Asc (x ++ y):=fun c hc=>by
 rw [yu] at hc
 exact (List.mem_append.mp hc).elim (h c) (h' c)
theorem Asc.num (w:Int):Asc (zH w):=fun c hc=>by
 have d:∀ (m c:Nat),c∈dg m→c < 128:=fun m c h=>by have:=jc m c h;omega
 rcases Int.lt_or_le w 0 with h0 | h0
 ·obtain ⟨m,rfl,hm⟩:∃ m:Nat,w=-(m:Int)∧0 < m:=⟨w.natAbs,by omega,by omega⟩
  rw [xQ hm] at hc
  rcases List.mem_cons.mp hc with rfl | hc
  ·decide
  ·exact d m c hc
 ·obtain ⟨m,rfl⟩:∃ m:Nat,w=(m:Int):=⟨w.natAbs,by omega⟩
  rw [yD] at hc
  exact d m c hc
theorem yy (x y:Str):(x ++ y).length=x.length + y.length:=Str.length_append x y
end L2
namespace L2
open PySem PySem.Spec PyProof.Rows
section
open PySem.NumText
end
end L2
namespace L2
open PySem PySem.Spec PyProof.Rows
section
variable {X:Cx}
abbrev zfl:RC:=fun xs H Q=>∃ b:Bool,xs=[.bl b]∧Q (.int (if b then 1 else 0)) H
end
theorem zcd {k:Nat} {A:Around} (r:Room k A):A.units + 64 < cLine:=by have:=r.un;omega
def kr:V→PyData
 | .non=>.none
 | .bl b=>.bool b
 | .int i=>.int i
 | .str x=>.str x
 | _=>.none
def yA:V→Bool
 | .non=>true
 | .bl _=>true
 | .int _=>true
 | .str x=>PyData.strOk x
 | _=>false
theorem Asc.flat {x:Str} (h:Asc x):yA (.str x)=true:=by
 unfold yA PyData.strOk
 rw [Array.all_eq_true]
 intro i hi
 have:=h x.cps[i] (by simp)
 exact decide_eq_true (by omega)
def zdK:V→V→Bool
 | .bl _,.int _=>false
 | .int _,.bl _=>false
 | _,_=>true
def Yi:List V→List V→Bool
 | x :: xs,y :: ys=>zdK x y && Yi xs ys
 | _,_=>true
theorem vG:∀ {xs:List V} {us:List Value},xs.all yA=true→Vals xs us→CarriedAll us (xs.map kr)
 | [],_,_,.nil=>.nil
 | x :: r,_,h,.cons rx t=>by
  rw [List.all_cons,Bool.and_eq_true] at h
  refine .cons ?_ (vG h.2 t)
  cases x with
  | non=>cases rx;exact .none
  | bl b=>cases rx;exact .bool b
  | int i=>obtain ⟨t,rfl⟩:=rx;exact .int i t
  | str x=>obtain ⟨t,rfl⟩:=rx;exact .str x t
  | byt b=>exact absurd h.1 (by simp [yA])
  | flt b=>exact absurd h.1 (by simp [yA])
  | ref a=>exact absurd h.1 (by simp [yA])
  | ty n=>exact absurd h.1 (by simp [yA])
theorem zar {x y:V} (hx:yA x=true) (hy:yA y=true):Spec.same (kr x) (kr y)=decide (x=y):=by
 cases x <;> cases y <;> simp_all [yA,kr,Spec.same] <;> (rename_i a b;by_cases e:a=b <;> simp [e])
theorem kz:∀ {xs ys:List V},xs.all yA=true→ys.all yA=true→Spec.sameAll (xs.map kr) (ys.map kr)=decide (xs=ys)
 | [],[],_,_=>by simp [Spec.sameAll]
 | [],_ :: _,_,_=>by simp [Spec.sameAll]
 | _ :: _,[],_,_=>by simp [Spec.sameAll]
 | x :: r,y :: t,hx,hy=>by
  rw [List.all_cons,Bool.and_eq_true] at hx hy
  rw [List.map_cons,List.map_cons,Spec.sameAll,zar hx.1 hy.1,kz hx.2 hy.2]
  by_cases a:x=y <;> by_cases b:r=t <;> simp [a,b]
theorem Qk {x y:V} (hx:yA x=true) (hy:yA y=true) (h:zdK x y=true):SeqAt.noMix (kr x) (kr y)=true:=by
 cases x <;> cases y <;> simp_all [yA,kr,SeqAt.noMix,zdK]
theorem jU:∀ {xs ys:List V},xs.all yA=true→ys.all yA=true→Yi xs ys=true→SeqAt.noMixAll (xs.map kr) (ys.map kr)=true
 | [],[],_,_,_=>by simp [SeqAt.noMixAll]
 | [],_ :: _,_,_,_=>by simp [SeqAt.noMixAll]
 | _ :: _,[],_,_,_=>by simp [SeqAt.noMixAll]
 | x :: r,y :: t,hx,hy,h=>by
  rw [List.all_cons,Bool.and_eq_true] at hx hy
  rw [Yi,Bool.and_eq_true] at h
  rw [List.map_cons,List.map_cons,SeqAt.noMixAll,Qk hx.1 hy.1 h.1,jU hx.2 hy.2 h.2]
  rfl
theorem jV {xs:List V} (h:xs.all yA=true):SeqAt.shaped (.list (xs.map kr))=true∧SeqAt.shaped (.tuple (xs.map kr))=true:=by
 have a:∀ x,yA x=true→(kr x).canLay0=true∧(kr x).depth=0:=fun x=>by cases x <;> simp [kr,PyData.canLay0,PyData.depth,yA]
 have l:∀ ys:List V,ys.all yA=true→PyData.canLayAll0 (ys.map kr)=true∧PyData.depthAll (ys.map kr)=0:=by
  intro ys
  induction ys with
  | nil=>exact fun _=>⟨rfl,rfl⟩
  | cons y r ih =>
   intro h
   rw [List.all_cons,Bool.and_eq_true] at h
   exact ⟨by rw [List.map_cons,PyData.canLayAll0,(a y h.1).1,(ih h.2).1];rfl,by rw [List.map_cons,PyData.depthAll,(a y h.1).2,(ih h.2).2];rfl⟩
 exact ⟨by simp [SeqAt.shaped,PyData.canLay0,PyData.depth,(l xs h).1,(l xs h).2],by simp [SeqAt.shaped,PyData.canLay0,PyData.depth,(l xs h).1,(l xs h).2]⟩
abbrev zce (K:W.Frag) (neg:Bool):R2:=fun x y H Q=>∃ a b xs ys,x=.ref a∧y=.ref b∧SqL K H a xs∧SqL K H b ys∧(xs.all yA=true∧ys.all yA=true∧Yi xs ys=true)∧Q (.bl (if neg then !decide (xs=ys) else decide (xs=ys))) H
section
variable {X:Cx}
theorem zdL (hu:X.A.units + 64 < cLine):OpR X (compareOp .Eq) (zce X.K false):=by
 intro pins s σ H x y v u Q I rx ry h
 obtain ⟨a,b,xs,ys,rfl,rfl,ha,hb,⟨f1,f2,f3⟩,q⟩:=h
 cases rx
 cases ry
 obtain ⟨us,r1,p1,_⟩:=I.list ha
 obtain ⟨ws,r2,p2,_⟩:=I.list hb
 refine eq_dataH_same (reads_newData p1.isList (vG f1 r1)) (reads_newData p2.isList (vG f2 r2)) (jV f1).1 (jV f2).1 hu (by rw [SeqAt.noMix];exact jU f1 f2 f3) ?_
 rw [Spec.same,kz f1 f2]
 exact ⟨.bl _,H,I,rfl,q⟩
theorem zdM (hu:X.A.units + 64 < cLine):OpR X (compareOp .NotEq) (zce X.K true):=by
 intro pins s σ H x y v u Q I rx ry h
 obtain ⟨a,b,xs,ys,rfl,rfl,ha,hb,⟨f1,f2,f3⟩,q⟩:=h
 cases rx
 cases ry
 obtain ⟨us,r1,p1,_⟩:=I.list ha
 obtain ⟨ws,r2,p2,_⟩:=I.list hb
 refine ne_dataH_same (reads_newData p1.isList (vG f1 r1)) (reads_newData p2.isList (vG f2 r2)) (jV f1).1 (jV f2).1 hu (by rw [SeqAt.noMix];exact jU f1 f2 f3) ?_
 rw [Spec.same,kz f1 f2]
 exact ⟨.bl _,H,I,rfl,q⟩
abbrev zeT (K:W.Frag):R2:=fun x y H Q=>∃ a b xs,x=.ref a∧y=.ref b∧SqL K H a xs∧SqL K H b []∧Q (.bl (decide (xs=[]))) H
end
end L2
namespace L2
open PySem PySem.Spec PyProof.Rows
abbrev xH:RM:=kU
abbrev zet:RM:=zeN
def jw:List V:=[.str "plus",.str "minus",.str "times",.str "over",.str "rest",.str "under",.str "same"]
def isJ (v:V):Bool:=inV v jw
inductive Er where
 | nought | great | stuck
 deriving DecidableEq
def zas (w:Str) (a b:Int):Int :=
 if w="plus" then a + b else if w="minus" then a - b else if w="times" then a * b else if w="under" then (if a < b then 1 else 0) else if w="same" then (if a=b then 1 else 0) else if w="over" then a.fdiv b else a.fmod b
def Km (w:Str):Prop:=¬ w="plus"∧¬ w="minus"∧¬ w="times"∧¬ w="under"∧¬ w="same"
instance (w:Str):Decidable (Km w):=by unfold Km;infer_instance
def zdi (w:Str) (a b:Int):Except Er Int:=if Km w∧b=0 then .error .nought else if inW (zas w a b)=true then .ok (zas w a b) else .error .great
def zeu (kvs:List (Key × V)):V→Int
 | .int i=>i
 | .str x=>(match yU kvs (.inr x) with | some (.int i)=>i | _=>0)
 | _=>0
def zat (kvs:List (Key × V)) (st:List Int) (v:V):Except Er (List Int) :=
 if isJ v=true then (match v,st.reverse with | .str w,b :: a :: r=>(match zdi w a b with | .ok c=>.ok (r.reverse ++ [c]) | .error e=>.error e) | _,_=>.error .stuck) else .ok (st ++ [zeu kvs v])
def zau (kvs:List (Key × V)):List V→List Int→Except Er (List Int)
 | [],st=>.ok st
 | v :: r,st=>match zat kvs st v with | .ok st'=>zau kvs r st' | .error e=>.error e
section
variable {kvs:List (Key × V)}
def zeU (kvs:List (Key × V)) (ps:List V) (r:Except Er Int):Prop:=(∀ st,zau kvs ps st=match r with | .ok i=>.ok (st ++ [i]) | .error e=>.error e)∧r≠.error .stuck
end
def Wu (v:V):Prop:=(∃ i,v=.int i∧inW i=true)∨∃ x:Str,v=.str x∧x.length≤1000
def ZW (kvs:List (Key × V)):Prop:=∀ k v,yU kvs k=some v→∃ i,v=.int i∧inW i=true
theorem zav {kvs:List (Key × V)} (h:ZW kvs) {v:V} (hv:Wu v):inW (zeu kvs v)=true:=by
 rcases hv with ⟨i,rfl,hi⟩ | ⟨x,rfl,_⟩
 ·exact hi
 ·show inW (match yU kvs (.inr x) with | some (.int i)=>i | _=>0)=true
  cases e:yU kvs (.inr x) with
  | none=>rfl
  | some u =>
   obtain ⟨i,rfl,hi⟩:=h _ _ e
   exact hi
theorem zcf (w:Str):isJ (.str w)=true↔(w="plus"∨w="minus"∨w="times"∨w="over"∨w="rest"∨w="under"∨w="same"):=by
 unfold isJ inV jw
 simp only [List.any_cons,List.any_nil,eqV,Bool.or_false,Bool.or_eq_true,beq_iff_eq]
 constructor
 ·rintro (h | h | h | h | h | h | h) <;> simp [← h]
 ·rintro (h | h | h | h | h | h | h) <;> simp [h]
end L2
namespace L2
open PySem PySem.Spec PyProof.Rows
def Itv (K:W.Frag) (a:Addr) (xs:List V):It:=⟨fun i H=>i < xs.length∧SqL K H a xs,fun i H x H'=>H'=H∧xs[xs.length - 1 - i]?=some x,fun i _=>xs.length≤i⟩
def zfU (K:W.Frag) (ta:TA):TI:=fun σ H R=>ta σ H fun vs H1=>∃ a xs,vs=[.ref a]∧SqL K H1 a xs∧R (Itv K a xs) H1
section
variable {X:Cx} {tg:Expr}
end
section
variable {σ:St} {H:Hp} {nx:St→Hp→Prop} {B:V→St→Hp→(St→Hp→Prop)→Prop}
end
end L2
namespace L2
open PySem PySem.Spec PyProof.Rows
abbrev zfV (K:W.Frag):RC:=fun xs H Q=>∃ p ys,xs=[.ref p]∧(SqL K H p ys∨SqT K H p ys)∧∀ l,H l=none→Q (.ref l) (upd H l (.lst ys))
abbrev zfW:RC:=fun xs H Q=>∃ i j,xs=[.int i,.int j]∧Q (.int (if j < i then j else i)) H
def inL (c:Nat):Bool:=!(Builtin.Str.occurrences "abcdefghijklmnopqrstuvwxyz" ⟨#[c]⟩ 0 (Str.length "abcdefghijklmnopqrstuvwxyz") 1).isEmpty
def wl:List V:=[.str "take",.str "give",.str "let",.str "say",.str "off",.str "if",.str "else",.str "end",.str "as"]
def z6 (x:Str):Bool:=!(decide (x="") || decide (6 < x.length)) && !(inV (.str x) jw || inV (.str x) wl) && x.cps.toList.all inL
theorem zcg (c:Nat):inL c=true→97≤c∧c≤122:=by
 unfold inL
 rw [StrLaws.found_one]
 have e:(Str.ofString "abcdefghijklmnopqrstuvwxyz").cps.toList=[97,98,99,100,101,102,103,104,105,106,107,108,109,110,111,112,113,114,115,116,117,118,119,120,121,122]:=by decide +kernel
 rw [e]
 simp only [decide_eq_true_eq,List.mem_cons,List.not_mem_nil,or_false]
 omega
theorem jW {x:Str} (h:z6 x=true):x.cps.toList≠[]∧x.length≤6∧isJ (.str x)=false∧x.cps.toList.all inL=true:=by
 unfold z6 at h
 rw [Bool.and_eq_true,Bool.and_eq_true,Bool.not_eq_true',Bool.not_eq_true',Bool.or_eq_false_iff,Bool.or_eq_false_iff,decide_eq_false_iff_not,decide_eq_false_iff_not] at h
 refine ⟨fun z=>h.1.1.1 (wS (by rw [z];decide +kernel)),by omega,h.1.2.1,h.2⟩
def zaw (w:Str):Option V:=if z6 w=true then some (.str w) else if yv w=true then some (.int (yO w)) else none
inductive Tw where
 | leaf (w:Str) | node (w:Str) (a b:Tw)
def pre:Tw→List Str
 | .leaf w=>[w]
 | .node w a b=>w :: (pre a ++ pre b)
def wfT:Tw→Prop
 | .leaf w=>isJ (.str w)=false
 | .node w a b=>isJ (.str w)=true∧wfT a∧wfT b
def okT:Tw→Bool
 | .leaf w=>(zaw w).isSome
 | .node _ a b=>okT a && okT b
def pvw (w:Str):V:=(zaw w).getD (.str w)
def pst:Tw→List V
 | .leaf w=>[pvw w]
 | .node w a b=>pst a ++ pst b ++ [.str w]
def zev:List Str→Nat→Option Nat
 | _,0=>some 0
 | [],_ + 1=>none
 | w :: r,d + 1=>(zev r (if isJ (.str w)=true then d + 2 else d)).map (· + 1)
def Kn (st:List (List V)) (w:Str):Except Bool (List (List V)) :=
 if isJ (.str w)=true then (match st.reverse with | a :: b :: r=>.ok (r.reverse ++ [a ++ b ++ [.str w]]) | _=>.error false) else (match zaw w with | some v=>.ok (st ++ [[v]]) | none=>.error true)
def Js:List Str→List (List V)→Except Bool (List (List V))
 | [],st=>.ok st
 | w :: r,st=>match Kn st w with | .ok st'=>Js r st' | .error e=>.error e
theorem zax:∀ (p q:List Str) (st:List (List V)),Js (p ++ q) st=match Js p st with | .ok st'=>Js q st' | .error e=>.error e
 | [],q,st=>rfl
 | v :: r,q,st=>by
  show (match Kn st v with | .ok st'=>Js (r ++ q) st' | .error e=>.error e)=match (match Kn st v with | .ok st'=>Js r st' | .error e=>.error e) with | .ok st'=>Js q st' | .error e=>.error e
  cases Kn st v with
  | error e=>rfl
  | ok st'=>exact zax r q st'
theorem Jt {c:Const} {j:Nat} {p:Pos} {es:List Expr} {env:Env}:starEach (.Constant c j p :: es) env=(false,eval (.Constant c j p) env) :: starEach es env:=by
 first | rfl | simp only [starEach]
theorem yP {X:Cx} {es:List Expr} {t:TA} {x:Str} {j:Nat} {p:Pos} (hr:PA X es t):PA X (.Constant (.str x) j p :: es) (zd (tC (.str x)) t):=zb zx hr Jt
end L2
namespace L2
open PySem PySem.Spec PyProof.Rows
abbrev zfX:RC:=fun xs H Q=>∃ a kvs,xs=[.ref a]∧H a=some (.dK kvs)∧∀ p,H p=none→Q (.ref p) (upd H p (.dK kvs))
abbrev zfY:R2:=fun x y H Q=>∃ a b kvs,x=.ref a∧y=.ref b∧H a=some (.dK kvs)∧H b=some (.dK kvs)∧(∀ p∈kvs,∃ i,p.2=V.int i)∧Q (.bl false) H
section
variable {X:Cx}
end
def LW (x:Str):Prop:=x.cps.toList.all inL=true∧1≤x.length∧x.length≤6
theorem zdN (w:Str):inV (.str w) wl=true↔(w="take"∨w="give"∨w="let"∨w="say"∨w="off"∨w="if"∨w="else"∨w="end"∨w="as"):=by
 unfold inV wl
 simp only [List.any_cons,List.any_nil,eqV,Bool.or_false,Bool.or_eq_true,beq_iff_eq]
 constructor
 ·rintro (h | h | h | h | h | h | h | h | h) <;> simp [← h]
 ·rintro (h | h | h | h | h | h | h | h | h) <;> simp [h]
theorem Vk {x:Str} (h:z6 x=true):Asc x:=fun c hc=>by
 have:=zcg c (List.all_eq_true.mp (jW h).2.2.2 c hc)
 omega
theorem zch {a b:List Nat} (h:a.all inL=true) (h':b.all inL=true):(a ++ b).all inL=true:=by
 rw [List.all_append,h,h'];rfl
end L2
namespace L2
open PySem PySem.Spec PyProof.Rows
section
variable {P:Program} {w:World} {A:Around} {E:Value→Shared→Prop} {s:Shared}
end
section
variable {P:Program} {w:World} {A:Around} {E:Value→Shared→Prop} {s:Shared}
end
section
variable {P:Program} {w:World} {A:Around} {E:Value→Shared→Prop} {s:Shared}
end
theorem Inv.turnedL {X:Cx} {pins:List (Addr × Obj)} {σ:St} {H:Hp} {s:Shared} {h':Heap} {t':Nat} {ch:List Addr} (I:Inv X pins σ H s) (k:∀ b o,b ∉ ch→s.heap.get? b=some o→h'.get? b=some o) (hf:∀ b∈ch,jK X pins H b) :
  Inv X pins σ H { s with heap:=h',toks:=t' }:=by
 have nit:∀ b u,H b=some u→b ∉ ch:=fun b u e z=>by rw [(hf b z).1] at e;cases e
 refine I.step (g':=s.gens) (d':=s.drawn) (ch:=ch) (fun b hb=>?_) (fun b o _ _ hc e _=>k b o hc e) (fun b o _ _ hc e _=>⟨o.slots,k b o hc e⟩) (fun _ _ _ _ n=>n) (fun b o hc e=>⟨o,k b o hc e⟩) (fun _ _ e=>e) (fun _ _ _ e=>e) (fun b ps e=>⟨#[],by rw [e];simp⟩) (fun m hm=>?_) (fun b u e=>?_) I.bare
 ·obtain ⟨f0,f1,f2,f3,f4,f5⟩:=hf b hb
  exact ⟨f3,f1,f4,f5⟩
 ·obtain ⟨o,es,ep,ho,r⟩:=hm
  exact ⟨o,es,ep,k _ o (fun z=>(hf _ z).2.1 rfl) ho,r⟩
 ·refine (I.hok b u e).stay (fun c v hc q=>k c v ?_ q) (fun _ q=>q) fun _ _ q=>q
  rcases hc with z | z
  ·rw [z];exact nit b u e
  ·exact nit c _ z
def Itz (K:W.Frag) (p q:Addr) (xs ys:List V):It:=⟨fun i H=>i < xs.length∧SqT K H p xs∧SqT K H q ys,fun i H x H'=>∃ T u v,x=.ref T∧H T=none∧H'=upd H T (.tup [u,v])∧xs[i]?=some u∧ys[i]?=some v,fun i H=>xs.length≤i∧SqT K H p xs∧SqT K H q ys⟩
def zfZ (K:W.Frag) (ta:TA):TI:=fun σ H R=>ta σ H fun vs H1=>∃ p q xs ys,vs=[.ref p,.ref q]∧SqT K H1 p xs∧SqT K H1 q ys∧xs.length=ys.length∧R (Itz K p q xs ys) H1
section
variable {X:Cx}
end
section
variable {σ:St} {H:Hp} {nx:St→Hp→Prop} {B:V→St→Hp→(St→Hp→Prop)→Prop}
end
abbrev zew (K:W.Frag):RC:=fun xs H Q=>∃ p ys,xs=[.ref p]∧((SqL K H p ys∧∀ l,H l=none→Q (.ref l) (upd H l (.tup ys)))∨(SqT K H p ys∧Q (.ref p) H))
def Ko (st:List (List V)) (v:V):Option (List (List V)):=if isJ v=true then (match st.reverse with | b :: a :: r=>some (r.reverse ++ [v :: (a ++ b)]) | _=>none) else some (st ++ [[v]])
def Ju:List V→List (List V)→Option (List (List V))
 | [],st=>some st
 | v :: r,st=>(Ko st v).bind (Ju r)
theorem zay:∀ (p q:List V) (st:List (List V)),Ju (p ++ q) st=(Ju p st).bind (Ju q)
 | [],q,st=>rfl
 | v :: r,q,st=>by
  show (Ko st v).bind (Ju (r ++ q))=((Ko st v).bind (Ju r)).bind (Ju q)
  cases Ko st v with
  | none=>rfl
  | some st'=>exact zay r q st'
end L2
namespace L2
open PySem PySem.W PyProof.Rows
section
variable {α β:Type} {lt:Nat→Nat→Bool} {n:Nat}
def kOk (lt:Nat→Nat→Bool) (n:Nat):KasT α→(α→Prop)→Prop
 | .ret a,R=>R a
 | .ask i j k,R=>i < n∧j < n∧i≠j∧kOk lt n (k (lt i j)) R
theorem jB:∀ {t:KasT α} {f:α→KasT β} {R:β→Prop},kOk lt n t (fun a=>kOk lt n (f a) R)→kOk lt n (t.bind f) R
 | .ret _,_,_,h=>h
 | .ask _ _ _,_,_,h=>⟨h.1,h.2.1,h.2.2.1,jB h.2.2.2⟩
theorem wZ:∀ {t:KasT α} {R R':α→Prop},kOk lt n t R→(∀ a,R a→R' a)→kOk lt n t R'
 | .ret _,_,_,h,m=>m _ h
 | .ask _ _ _,_,_,h,m=>⟨h.1,h.2.1,h.2.2.1,wZ h.2.2.2 m⟩
structure SO (lt:Nat→Nat→Bool) (n:Nat):Prop where
 irr:∀ i,i < n→lt i i=false
 trans:∀ i j k,i < n→j < n→k < n→lt i j=true→lt j k=true→lt i k=true
 tot:∀ i j,i < n→j < n→i≠j→lt i j=false→lt j i=true
def PP (n:Nat) (p:Array Nat):Prop:=p.Perm (List.range n).toArray
def gt (p:Array Nat) (k:Nat):Nat:=p.getD k 0
theorem jC {p:Array Nat} {k:Nat} (h:k < p.size):p[k]?=some (gt p k):=by
 unfold gt
 rw [Array.getD_eq_getD_getElem?,Array.getElem?_eq_getElem h]
 rfl
theorem PP.size {p:Array Nat} (h:PP n p):p.size=n:=by
 have:=h.size_eq
 simpa using this
theorem PP.blt {p:Array Nat} (h:PP n p) {k:Nat} (hk:k < n):gt p k < n:=by
 have hs:=h.size
 have m:gt p k∈p:=Array.mem_of_getElem? (jC (by omega))
 have m2:gt p k∈(List.range n).toArray:=(Array.Perm.mem_iff h).mp m
 simpa using m2
theorem PP.inj {p:Array Nat} (h:PP n p) {i j:Nat} (hi:i < n) (hj:j < n) (e:gt p i=gt p j):i=j:=by
 have hs:=h.size
 have nd:p.toList.Nodup:=by
  have:p.toList.Perm (List.range n):=by
   have:=Array.perm_iff_toList_perm.mp h
   simpa using this
  exact this.nodup_iff.mpr List.nodup_range
 have e1:=jC (p:=p) (k:=i) (by omega)
 have e2:=jC (p:=p) (k:=j) (by omega)
 rw [← e] at e2
 have e1':p.toList[i]?=some (gt p i):=by simpa using e1
 have e2':p.toList[j]?=some (gt p i):=by simpa using e2
 obtain ⟨a1,b1⟩:=List.getElem?_eq_some_iff.mp e1'
 obtain ⟨a2,b2⟩:=List.getElem?_eq_some_iff.mp e2'
 exact (List.getElem_inj nd).mp (b1.trans b2.symm)
def k9 (lt:Nat→Nat→Bool) (p:Array Nat) (m:Nat):Prop:=∀ i j,i < j→j < m→lt (gt p i) (gt p j)=true
def zdO (lt:Nat→Nat→Bool) (p:Array Nat) (m:Nat):Prop:=∀ i j,i < j→j < m→lt (gt p j) (gt p i)=true
theorem Jv (S:SO lt n) {p:Array Nat} (hp:PP n p):∀ (f a:Nat),1≤a→a + f≤n→k9 lt p a→kOk lt n (kas_asc p f a) fun m=>a≤m∧m≤a + f∧k9 lt p m∧(m < a + f→lt (gt p m) (gt p (m - 1))=true)
 | 0,a,h1,h2,hr=>⟨Nat.le_refl _,Nat.le_refl _,hr,fun z=>absurd z (Nat.lt_irrefl _)⟩
 | f + 1,a,h1,h2,hr=>by
  refine ⟨hp.blt (by omega),hp.blt (by omega),(fun z=>by have:=hp.inj (by omega) (by omega) z;omega),?_⟩
  show kOk lt n (if lt (gt p a) (gt p (a - 1))=true then .ret a else kas_asc p f (a + 1)) _
  by_cases c:lt (gt p a) (gt p (a - 1))=true
  ·rw [if_pos c]
   exact ⟨Nat.le_refl _,by omega,hr,fun _=>c⟩
  ·rw [if_neg c]
   have up:lt (gt p (a - 1)) (gt p a)=true:=S.tot _ _ (hp.blt (by omega)) (hp.blt (by omega)) (fun z=>by have:=hp.inj (by omega) (by omega) z;omega) (Bool.eq_false_iff.mpr c)
   refine wZ (Jv S hp f (a + 1) (by omega) (by omega) fun i j hij hj=>?_) fun m ⟨x1,x2,x3,x4⟩=>⟨by omega,by omega,x3,fun z=>x4 (by omega)⟩
   by_cases hja:j < a
   ·exact hr i j hij hja
   ·obtain rfl:j=a:=by omega
    by_cases hi:i=j - 1
    ·rw [hi];exact up
    ·exact S.trans _ _ _ (hp.blt (by omega)) (hp.blt (by omega)) (hp.blt (by omega)) (hr i (j - 1) (by omega) (by omega)) up
theorem Kq (S:SO lt n) {p:Array Nat} (hp:PP n p):∀ (f a:Nat),1≤a→a + f≤n→zdO lt p a→kOk lt n (kas_desc f p a 0) fun r=>r.1=p∧r.2.2=0∧a≤r.2.1∧r.2.1≤a + f∧zdO lt p r.2.1
 | 0,a,h1,h2,hr=>⟨rfl,rfl,Nat.le_refl _,Nat.le_refl _,hr⟩
 | f + 1,a,h1,h2,hr=>by
  refine ⟨hp.blt (by omega),hp.blt (by omega),(fun z=>by have:=hp.inj (by omega) (by omega) z;omega),?_⟩
  show kOk lt n (if lt (gt p a) (gt p (a - 1))=true then (if 0 > 0 then _ else kas_desc f p (a + 1) 0) else .ask (gt p (a - 1)) (gt p a) fun d=>if d=true then .ret (p,a,0) else kas_desc f p (a + 1) (0 + 1)) _
  by_cases c:lt (gt p a) (gt p (a - 1))=true
  ·rw [if_pos c,if_neg (by omega)]
   refine wZ (Kq S hp f (a + 1) (by omega) (by omega) fun i j hij hj=>?_) fun m ⟨x1,x2,x3,x4,x5⟩=>⟨x1,x2,by omega,by omega,x5⟩
   by_cases hja:j < a
   ·exact hr i j hij hja
   ·obtain rfl:j=a:=by omega
    by_cases hi:i=j - 1
    ·rw [hi];exact c
    ·exact S.trans _ _ _ (hp.blt (by omega)) (hp.blt (by omega)) (hp.blt (by omega)) c (hr i (j - 1) (by omega) (by omega))
  ·rw [if_neg c]
   have up:lt (gt p (a - 1)) (gt p a)=true:=S.tot _ _ (hp.blt (by omega)) (hp.blt (by omega)) (fun z=>by have:=hp.inj (by omega) (by omega) z;omega) (Bool.eq_false_iff.mpr c)
   refine ⟨hp.blt (by omega),hp.blt (by omega),(fun z=>by have:=hp.inj (by omega) (by omega) z;omega),?_⟩
   show kOk lt n (if lt (gt p (a - 1)) (gt p a)=true then .ret (p,a,0) else _) _
   rw [if_pos up]
   exact ⟨rfl,rfl,Nat.le_refl _,Nat.le_add_right _ _,hr⟩
theorem zaz {p:Array Nat} {m k:Nat} (hm:m≤p.size) (hk:k < m):gt (kas_rev p 0 m) k=gt p (m - 1 - k):=by
 have e:=getElem?_mirror_all (xs:=p) (i:=0) (j:=m) hm k
 rw [if_pos ⟨Nat.zero_le _,hk⟩] at e
 have e1:=jC (p:=kas_rev p 0 m) (k:=k) (by unfold kas_rev;rw [mirror_size];omega)
 have e2:=jC (p:=p) (k:=m - 1 - k) (by omega)
 unfold kas_rev at e1 ⊢
 rw [e,show 0 + m - 1 - k=m - 1 - k by omega,e2] at e1
 exact (Option.some.inj e1).symm
theorem PP.rev {p:Array Nat} (h:PP n p) (m:Nat):PP n (kas_rev p 0 m):=Array.Perm.trans (mirror_perm _ _ _ _) h
theorem zci (S:SO lt n) {p:Array Nat} (hp:PP n p) {m:Nat} (h1:1≤m) (h2:m≤n) (hf:zdO lt p m):kOk lt n (kas_tail3 m n p) fun r=>PP n r.2∧k9 lt r.2 r.1∧1≤r.1∧r.1≤n:=by
 refine jB (wZ (Jv S (hp.rev m) (n - m) m h1 (by omega) fun i j hij hj=>?_) fun a ⟨x1,x2,x3,_⟩=>⟨hp.rev m,x3,by omega,by omega⟩)
 have hs:=hp.size
 rw [zaz (by omega) (by omega),zaz (by omega) hj]
 exact hf _ _ (by omega) (by omega)
theorem zaA (S:SO lt n) {p:Array Nat} (hp:PP n p) (hn:1≤n):kOk lt n (kas_count n p) fun r=>PP n r.2∧k9 lt r.2 r.1∧1≤r.1∧r.1≤n:=by
 refine jB (wZ (Jv S hp (n - 1) 1 (Nat.le_refl _) (by omega) fun i j hij hj=>by omega) fun m ⟨x1,x2,x3,x4⟩=>?_)
 by_cases e:(m == n)=true
 ·rw [if_pos e]
  exact ⟨hp,x3,x1,by omega⟩
 ·rw [if_neg e]
  have ne:m≠n:=by simpa using e
  by_cases h:m > 1
  ·rw [if_pos h]
   refine ⟨hp.blt (by omega),hp.blt (by omega),(fun z=>by have:=hp.inj (by omega) (by omega) z;omega),?_⟩
   show kOk lt n (if lt (gt p 0) (gt p (m - 1))=true then .ret (m,p) else _) _
   rw [if_pos (x3 0 (m - 1) (by omega) (by omega))]
   exact ⟨hp,x3,x1,by omega⟩
  ·rw [if_neg h]
   obtain rfl:m=1:=by omega
   have c:=x4 (by omega)
   refine jB (wZ (Kq S hp (n - 2) 2 (by omega) (by omega) fun i j hij hj=>?_) fun r ⟨y1,y2,y3,y4,y5⟩=>?_)
   ·obtain rfl:j=1:=by omega
    obtain rfl:i=0:=by omega
    exact c
   ·rw [if_neg (by omega),y1]
    exact zci S hp (by omega) (by omega) y5
theorem Yj (S:SO lt n) {p:Array Nat} (hp:PP n p) {k:Nat} (hk:k < n) (hr:k9 lt p k):∀ (f l r:Nat),l≤r→r≤k→r - l≤f→(∀ i,i < l→lt (gt p i) (gt p k)=true)→(∀ i,r≤i→i < k→lt (gt p k) (gt p i)=true) →
  kOk lt n (kas_place p k f l r) fun m=>m≤k∧(∀ i,i < m→lt (gt p i) (gt p k)=true)∧∀ i,m≤i→i < k→lt (gt p k) (gt p i)=true
 | 0,l,r,h1,h2,h3,h4,h5=>⟨by omega,h4,fun i hi hik=>h5 i (by omega) hik⟩
 | f + 1,l,r,h1,h2,h3,h4,h5=>by
  unfold kas_place
  by_cases c:l ≥ r
  ·rw [if_pos c]
   exact ⟨by omega,h4,fun i hi hik=>h5 i (by omega) hik⟩
  ·rw [if_neg c]
   refine ⟨hp.blt (by omega),hp.blt (by omega),(fun z=>by have:=hp.inj (by omega) (by omega) z;omega),?_⟩
   show kOk lt n (if lt (gt p k) (gt p ((l + r) / 2))=true then _ else _) _
   by_cases d:lt (gt p k) (gt p ((l + r) / 2))=true
   ·rw [if_pos d]
    refine Yj S hp hk hr f l ((l + r) / 2) (by omega) (by omega) (by omega) h4 fun i hi hik=>?_
    by_cases e:i=(l + r) / 2
    ·rw [e];exact d
    ·exact S.trans _ _ _ (hp.blt (by omega)) (hp.blt (by omega)) (hp.blt (by omega)) d (hr _ i (by omega) hik)
   ·rw [if_neg d]
    have up:lt (gt p ((l + r) / 2)) (gt p k)=true:=S.tot _ _ (hp.blt (by omega)) (hp.blt (by omega)) (fun z=>by have:=hp.inj (by omega) (by omega) z;omega) (Bool.eq_false_iff.mpr d)
    refine Yj S hp hk hr f ((l + r) / 2 + 1) r (by omega) (by omega) (by omega) (fun i hi=>?_) h5
    by_cases e:i=(l + r) / 2
    ·rw [e];exact up
    ·exact S.trans _ _ _ (hp.blt (by omega)) (hp.blt (by omega)) (hp.blt (by omega)) (hr i _ (by omega) (by omega)) up
theorem zaB {p:Array Nat} {k d j:Nat} (hk:k < p.size) (hd:d≤k) (hj:j < p.size):gt (bubble p k d) j=if j=k - d then gt p k else if k - d < j∧j≤k then gt p (j - 1) else gt p j:=by
 have e:=getElem?_bubble hk d hd j
 rw [jC (p:=bubble p k d) (k:=j) (by rw [bubble_size];exact hj)] at e
 by_cases h1:j=k - d
 ·rw [if_pos h1,jC hk] at e
  rw [if_pos h1];exact Option.some.inj e
 ·rw [if_neg h1] at e ⊢
  by_cases h2:k - d < j∧j≤k
  ·rw [if_pos h2,jC (by omega)] at e
   rw [if_pos h2];exact Option.some.inj e
  ·rw [if_neg h2,jC hj] at e
   rw [if_neg h2];exact Option.some.inj e
theorem zaC (S:SO lt n):∀ (f:Nat) {p:Array Nat} (k:Nat),PP n p→k + f=n→k9 lt p k→kOk lt n (kas_bin f p k) fun p'=>PP n p'∧k9 lt p' n
 | 0,p,k,hp,hk,hr=>⟨hp,by rw [← hk];exact hr⟩
 | f + 1,p,k,hp,hk,hr=>by
  have hs:=hp.size
  refine jB (wZ (Yj S hp (by omega) hr k 0 k (Nat.zero_le _) (Nat.le_refl _) (by omega) (fun i hi=>by omega) (fun i h1 h2=>by omega)) fun l ⟨x1,x2,x3⟩=>?_)
  refine zaC S f (k + 1) (Array.Perm.trans (bubble_perm _ _ _) hp) (by omega) fun i j hij hj=>?_
  rw [zaB (by omega) (by omega) (by omega),zaB (by omega) (by omega) (by omega)]
  have e:k - (k - l)=l:=by omega
  rw [e]
  by_cases hi:i=l
  ·rw [if_pos hi,if_neg (by omega),if_pos (by omega)]
   exact x3 _ (by omega) (by omega)
  ·rw [if_neg hi]
   by_cases hi2:l < i∧i≤k
   ·rw [if_pos hi2,if_neg (by omega),if_pos (by omega)]
    exact hr _ _ (by omega) (by omega)
   ·rw [if_neg hi2]
    by_cases hj1:j=l
    ·rw [if_pos hj1]
     exact x2 _ (by omega)
    ·rw [if_neg hj1]
     by_cases hj2:l < j∧j≤k
     ·rw [if_pos hj2]
      by_cases hij2:i < j - 1
      ·exact hr _ _ hij2 (by omega)
      ·omega
     ·rw [if_neg hj2]
      exact hr _ _ hij (by omega)
theorem zcj (S:SO lt n) (hn:1≤n):kOk lt n (kas_sort n) fun p=>PP n p∧k9 lt p n:=by
 refine jB (wZ (zaA S (p:=List.toArray (List.range n)) (Array.Perm.refl _) hn) fun r ⟨x1,x2,x3,x4⟩=>?_)
 by_cases h:r.1 < n
 ·rw [if_pos h,Nat.max_eq_left x3]
  exact zaC S _ _ x1 (by omega) x2
 ·rw [if_neg h]
  obtain e:r.1=n:=by omega
  exact ⟨x1,by rw [← e];rw [e] at x2 ⊢;exact x2⟩
end
end L2
namespace L2
open PySem PySem.W PyProof.Rows
theorem zaD {α:Type} {lt:Nat→Nat→Bool} {n:Nat} {s:Shared} {cmp:Nat→Nat→(Bool→Shared→Prop)→Shared→Prop} (hc:∀ i j C,i < n→j < n→i≠j→C (lt i j) s→cmp i j C s):∀ {t:KasT α} {R:α→Prop} {Q:α→Shared→Prop},kOk lt n t R→(∀ a,R a→Q a s)→t.kasWp cmp Q s
 | .ret _,_,_,h,m=>m _ h
 | .ask _ _ _,_,_,h,m=>hc _ _ _ h.1 h.2.1 h.2.2.1 (zaD hc h.2.2.2 m)
def Kp (a:Addr) (h h':Heap):Prop:=∀ b o,b≠a→h.get? b=some o→h'.get? b=some o
def vH (vs:List Value) (p:Array Nat):List Value:=p.toList.map fun i=>vs.getD i Value.none
theorem Vl (vs:List Value):vH vs (List.toArray (List.range vs.length))=vs:=by
 unfold vH
 apply List.ext_getElem?
 intro i
 simp only [List.getElem?_map]
 by_cases h:i < vs.length
 ·rw [List.getElem?_eq_getElem (l:=vs) h]
  simp [List.getElem?_range h,h]
 ·rw [List.getElem?_eq_none (by omega:vs.length≤i)]
  simp
  omega
section
variable {P:Program} {w:World} {A:Around} {E:Value→Shared→Prop} {s:Shared}
theorem Yk {a:Addr} {vs:List Value} {n:Nat} {κ:SortKind} {lt:Nat→Nat→Bool} {R:PySem.Fin→Shared→Prop} (ho:s.heap.get? a=some (seqObj "list" vs.toArray n)) (h64:vs.length < 64)
  (hk:2≤vs.length→∀ (h:Heap) (Q:SortKind→Shared→Prop),Kp a s.heap h→Q κ { s with heap:=h }→wpAny (model P w) A (keyKind' vs.toArray) Q (fun _ _=>False) { s with heap:=h })
  (hc:∀ (h:Heap) i j C,Kp a s.heap h→i < vs.length→j < vs.length→i≠j→C (lt i j) { s with heap:=h }→kas_ask P w A κ vs i j C { s with heap:=h }) (S:SO lt vs.length)
  (fin:∀ h p c,Kp a s.heap h→h.get? a=some (seqObj "list" (vH vs p).toArray c)→PP vs.length p→k9 lt p vs.length→R (.done (.ret .none)) { s with heap:=h }) :
  wpAny (model P w) A (Builtin.«list.sort» ⟨[.ref a],[]⟩) R E s:=by
 have ha:a < s.heap.objs.size:=Heap.lt_size ho
 obtain ⟨e1,o1⟩:∃ e1,(s.heap.update a (Obj.mapSeq fun _=>(#[]:Array Value))).get? a=some (seqObj "list" #[] e1):=⟨_,get?_update_seq ho fun _=>#[]⟩
 have k1:Kp a s.heap (((s.heap.update a (Obj.mapSeq fun _=>(#[]:Array Value))).push (seqObj "tuple" vs.toArray 0)).push (seqObj "list" #[] 0)):=fun b o hb e =>
  Heap.get?_push_of_some _ (Heap.get?_push_of_some _ ((Heap.get?_update_other _ _ (Ne.symm hb)).trans e))
 have o3:(((s.heap.update a (Obj.mapSeq fun _=>(#[]:Array Value))).push (seqObj "tuple" vs.toArray 0)).push (seqObj "list" #[] 0)).get? a=some (seqObj "list" #[] e1):=Heap.get?_push_of_some _ (Heap.get?_push_of_some _ o1)
 have last:∀ out:List Value,out.length=vs.length→∃ c,((((s.heap.update a (Obj.mapSeq fun _=>(#[]:Array Value))).push (seqObj "tuple" vs.toArray 0)).push (seqObj "list" #[] 0)).update a (Obj.mapSeq fun _=>out.toArray)).get? a=some (seqObj "list" out.toArray c):=fun out _=>⟨_,get?_update_seq o3 fun _=>out.toArray⟩
 have keep2:∀ out:List Value,Kp a s.heap ((((s.heap.update a (Obj.mapSeq fun _=>(#[]:Array Value))).push (seqObj "tuple" vs.toArray 0)).push (seqObj "list" #[] 0)).update a (Obj.mapSeq fun _=>out.toArray)):=fun out b o hb e =>
  (Heap.get?_update_other _ _ (Ne.symm hb)).trans (k1 b o hb e)
 rw [list_sort_plain];refine wpAny_bind (listItems_at ho rfl ?_)
 refine wpAny_bind (listUpdate_at ho rfl ?_ (by rw [List.size_toArray,sizeLine_eq];omega) (Nat.zero_le _));refine wpAny_bind (seqEpoch_at o1 rfl ?_)
 refine wpAny_bind (wpAny_newTuple ?_ (by show vs.length≤_;rw [sizeLine_eq];omega));refine wpAny_bind (wpAny_newList ?_ (Nat.zero_le _));refine wpAny_holding ?_
 show wpAny (model P w) A _ R E { s with heap:=((s.heap.update a (Obj.mapSeq fun _=>(#[]:Array Value))).push (seqObj "tuple" vs.toArray 0)).push (seqObj "list" #[] 0) }
 generalize hH:((s.heap.update a (Obj.mapSeq fun _=>(#[]:Array Value))).push (seqObj "tuple" vs.toArray 0)).push (seqObj "list" #[] 0)=g at *
 dsimp only
 have up:∀ out:List Value,out.length=vs.length→∀ p,out=vH vs p→PP vs.length p→k9 lt p vs.length→R (.done (.ret .none)) { s with heap:=g.update a (Obj.mapSeq fun _=>out.toArray) }:=fun out hl p e hp hr=>by
  obtain ⟨c,hcc⟩:=last out hl
  refine fin _ p c (keep2 out) ?_ hp hr
  rw [← e];exact hcc
 by_cases h2:vs.toArray.size < 2
 ·have hl2:vs.length < 2:=by simpa using h2
  rw [if_pos h2,if_pos h2];refine wpAny_bind (wpAny_pure ?_);rw [StateT.run_pure];refine wpAny_bind (wpAny_pure ?_)
  dsimp only
  have ez:((vs.toArray.zip vs.toArray).map (·.2))=vs.toArray:=by
   apply Array.toList_inj.mp
   rw [Array.toList_map,Array.toList_zip]
   simp [List.map_snd_zip]
  refine wpAny_bind (seqEpoch_at o3 rfl ?_)
  rw [show (arrOf (SortSt.mk' general' (vs.toArray.zip vs.toArray) #[] 7 none))=vs.toArray.zip vs.toArray from rfl,ez]
  refine wpAny_bind (listUpdate_at o3 rfl ?_ (Nat.zero_le _) (by rw [List.size_toArray,sizeLine_eq];omega))
  simp only [bne_self_eq_false,Bool.false_eq_true,if_false]
  exact wpAny_pure (up vs rfl _ (Vl vs).symm (Array.Perm.refl _) fun i j hij hj=>by omega)
 ·have hl2:2≤vs.length:=by simpa using h2
  rw [if_neg h2,if_neg h2];refine wpAny_bind (wpAny_mono (hk hl2 g (fun κ' s'=>κ'=κ∧s'={ s with heap:=g }) k1 ⟨rfl,rfl⟩) (fun κ' s' hs=>?_) fun _ _ x=>x.elim)
  obtain ⟨rfl,rfl⟩:=hs
  have run:=zaD (s:={ s with heap:=g }) (cmp:=kas_ask P w A κ' vs) (fun i j C hi hj hij hC=>hc g i j C k1 hi hj hij hC) (zcj S (by omega)) (Q:=fun p s'=>s'={ s with heap:=g }∧PP vs.length p∧k9 lt p vs.length) fun p hp=>⟨rfl,hp⟩
  refine wpAny_bind (wpAny_mono (kat_run (ks:=vs) (Q:=fun st s'=>∃ p:Array Nat,arrOf st=p.map (kas_item (vs.toArray.zip vs.toArray))∧failedOf st=none∧s'={ s with heap:=g }∧PP vs.length p∧k9 lt p vs.length) rfl hl2 h64 (fun p st s' _ a2 a3 a4=>⟨p,a2,a3,a4⟩) run) ?_ fun _ _ e=>e)
  rintro ⟨⟨⟩,st⟩ s' ⟨p,har,hf,rfl,hp,hr⟩
  dsimp only
  have out:=kat_snds (ks:=vs) rfl har
  have ol:(vH vs p).length=vs.length:=by unfold vH;rw [List.length_map,Array.length_toList,hp.size]
  rw [out];refine wpAny_bind (seqEpoch_at o3 rfl ?_)
  refine wpAny_bind (listUpdate_at o3 rfl ?_ (Nat.zero_le _) (by show (List.toArray (vH vs p)).size≤_;rw [List.size_toArray,ol,sizeLine_eq];omega));rw [hf]
  simp only [bne_self_eq_false,Bool.false_eq_true,if_false]
  exact wpAny_pure (up (vH vs p) ol p rfl hp hr)
theorem Vm {l:Addr} {vs:List Value} {κ:SortKind} {lt:Nat→Nat→Bool} {Q:Value→Shared→Prop} (h64:vs.length < 64) (S:SO lt vs.length)
  (coll:∀ R:List Value→Shared→Prop,(∀ (h:Heap) (tk:Nat),(∀ b o,s.heap.get? b=some o→h.get? b=some o)→R vs { s with heap:=h,toks:=tk })→wpAny (model P w) A.in1 (collect (.ref l)) R E s)
  (hk:2≤vs.length→∀ (h:Heap) (tk:Nat) (Q:SortKind→Shared→Prop),(∀ b o,s.heap.get? b=some o→h.get? b=some o)→Q κ { s with heap:=h,toks:=tk }→wpAny (model P w) A.in1.in1 (keyKind' vs.toArray) Q (fun _ _=>False) { s with heap:=h,toks:=tk })
  (hc:∀ (h:Heap) (tk:Nat) i j C,(∀ b o,s.heap.get? b=some o→h.get? b=some o)→i < vs.length→j < vs.length→i≠j→C (lt i j) { s with heap:=h,toks:=tk }→kas_ask P w A.in1.in1 κ vs i j C { s with heap:=h,toks:=tk })
  (fin:∀ (h:Heap) (tk:Nat) (h':Heap) (p:Array Nat) (c:Nat),(∀ b o,s.heap.get? b=some o→h.get? b=some o)→(∀ b o,h.get? b=some o→h'.get? b=some o)→h'.get? h.objs.size=some (seqObj "list" (vH vs p).toArray c)→PP vs.length p→k9 lt p vs.length→Q (.ref h.objs.size) { s with heap:=h',toks:=tk }) :
  wpAny (model P w) A (call (.builtin "sorted") [.ref l]) Q E s:=by
 refine Calls.call_function_entry kind_sorted plain_sorted entry_sorted (args_sorted1 _) ?_;unfold Builtin.«sorted»
 refine wpAny_bind (m:=checkCount "sorted" 1 1 _) (wpAny_pure ?_);refine wpAny_bind (coll _ fun h tk hk1=>?_)
 refine wpAny_bind (wpAny_newList ?_ (by rw [sizeLine_eq];omega))
 have hoL:(h.push (seqObj "list" vs.toArray 0)).get? h.objs.size=some (seqObj "list" vs.toArray 0):=Heap.get?_push_size _ rfl
 have kept:∀ h',Kp h.objs.size (h.push (seqObj "list" vs.toArray 0)) h'→∀ b o,h.get? b=some o→h'.get? b=some o:=fun h' k b o e=>k b o (Nat.ne_of_lt (Heap.lt_size e)) (Heap.get?_push_of_some _ e)
 refine wpAny_bind (wpAny_holding (wpAny_call_entry slot_list_sort ⟨_,hoL,rfl⟩ entry_list_sort (Yk (s:={ s with heap:=h.push (seqObj "list" vs.toArray 0),toks:=tk }) hoL h64 (κ:=κ) (lt:=lt) (fun h2 h' Q' k q=>?_) (fun h' i j C k hi hj hij q=>?_) S fun h' p c k ho hp hr=>?_) (args_list_sort _)))
 ·exact hk h2 h' tk Q' (fun b o e=>kept h' k b o (hk1 b o e)) q
 ·exact hc h' tk i j C (fun b o e=>kept h' k b o (hk1 b o e)) hi hj hij q
 ·exact ⟨_,rfl,wpAny_pure ⟨_,rfl,fin h tk h' p c hk1 (kept h' k) ho hp hr⟩⟩
end
end L2
namespace L2
open PySem PySem.W PyProof.Rows
section
variable {lt:Nat→Nat→Bool} {n:Nat}
theorem PP.ask {p:Array Nat} (h:PP n p) {i j:Nat} (hi:i < n) (hj:j < n) (hij:i≠j):gt p i < n∧gt p j < n∧gt p i≠gt p j:=⟨h.blt hi,h.blt hj,fun z=>hij (h.inj hi hj z)⟩
theorem XO {p:Array Nat} (hp:PP n p) {k:Nat} (hk:k < n):∀ (f l r:Nat),l≤r→r≤k→kOk lt n (kas_place p k f l r) fun m=>m≤k
 | 0,l,r,h1,h2=>Nat.le_trans h1 h2
 | f + 1,l,r,h1,h2=>by
  unfold kas_place
  split
  ·exact Nat.le_trans h1 h2
  ·obtain ⟨x,y,z⟩:=hp.ask (i:=k) (j:=(l + r) / 2) (by omega) (by omega) (by omega)
   refine ⟨x,y,z,?_⟩
   show kOk lt n (if lt (gt p k) (gt p ((l + r) / 2))=true then kas_place p k f l ((l + r) / 2) else kas_place p k f ((l + r) / 2 + 1) r) _
   split
   ·exact XO hp hk f l _ (by omega) (by omega)
   ·exact XO hp hk f _ r (by omega) (by omega)
end
section
variable {P:Program} {w:World} {A:Around} {E:Value→Shared→Prop} {s:Shared}
end
end L2
namespace L2
open PySem PySem.W PyProof.Rows
def ya (a b:Str × Int):Bool:=if a.1=b.1 then decide (a.2 < b.2) else decide (a.1.cps.toList < b.1.cps.toList)
def PlAt (h:Heap) (v:Value) (q:Str × Int):Prop:=∃ a o t u n,v=.ref a∧h.get? a=some o∧o.cls=.type "tuple"∧o.data=.seq #[.str q.1 t,.int q.2 u] n
section
variable {P:Program} {w:World} {A:Around} {E:Value→Shared→Prop} {s:Shared}
theorem zck {a c:Str} {t u:Tok} {Q:Bool→Shared→Prop} (h:Q (decide (a.cps.toList < c.cps.toList)) s):wpAny (model P w) A (oneLt' true (.str a t) (.str c u)) Q E s:=by
 rw [← keyLt'_oneType]
 exact kas_lt_str h
theorem zcl {a c:Int} {t u:Tok} {Q:Bool→Shared→Prop} (h:Q (decide (a < c)) s):wpAny (model P w) A (oneLt' false (.int a t) (.int c u)) Q E s :=
 kat_one _ _ (PyProof.Rows.lt_int (show W.BoolBack Q (.bool (decide (a < c))) s from h))
theorem XQ {x y:Value} {a b:Str × Int} {Q:Bool→Shared→Prop} (hx:PlAt s.heap x a) (hy:PlAt s.heap y b) (h:Q (ya a b) s) (hn:a≠b):wpAny (model P w) A (keyLt' (tuples' true) x y) Q E s:=by
 obtain ⟨p,o,t,u,n,rfl,ho,hc,hd⟩:=hx
 obtain ⟨p2,o2,t2,u2,n2,rfl,ho2,hc2,hd2⟩:=hy
 refine kat_lt ho hd ho2 hd2 (kat_cons (wpAny_eqBool_str (kat_go (fun e=>kat_yes (kat_cons (wpAny_eqBool_int (kat_go (fun e2=>?_) fun e2=>kat_no ?_)))) fun e=>kat_no ?_)))
 ·exact absurd (Prod.ext (of_decide_eq_true e) (by simpa using e2)) hn
 ·have e:=of_decide_eq_true e
  unfold ya at h
  rw [if_pos e] at h
  exact zcl h
 ·have e:=of_decide_eq_false e
  unfold ya at h
  rw [if_neg e] at h
  exact zck h
theorem Yl {vs:List Value} {qs:List (Str × Int)} {Q:SortKind→Shared→Prop} (hl:vs.length=qs.length) (hv:∀ (i:Nat) (v:Value) (q:Str × Int),vs[i]?=some v→qs[i]?=some q→PlAt s.heap v q) (h2:0 < vs.length) (h:Q (tuples' true) s) :
  wpAny (model P w) A (keyKind' vs.toArray) Q E s:=by
 have T:∀ (vs:List Value) (qs:List (Str × Int)),vs.length=qs.length→(∀ (i:Nat) (v:Value) (q:Str × Int),vs[i]?=some v→qs[i]?=some q→PlAt s.heap v q)→∃ fs,KatTups s.heap vs fs∧fs.length=vs.length∧∀ v∈fs,∃ x t,v=Value.str x t:=by
  intro vs
  induction vs with
  | nil=>exact fun qs _ _=>⟨[],trivial,rfl,fun _ z=>nomatch z⟩
  | cons v r ih =>
   intro qs hl hv
   match qs,hl with
   | q :: qr,hl =>
    obtain ⟨fs,k,kl,kf⟩:=ih qr (by simpa using hl) fun i v' q' e1 e2=>hv (i + 1) v' q' (by simpa using e1) (by simpa using e2)
    obtain ⟨a,o,t,u,n,rfl,ho,hc,hd⟩:=hv 0 v q rfl rfl
    refine ⟨.str q.1 t :: fs,KatTups.cons ho hc hd rfl k,by simp [kl],fun z hz=>?_⟩
    rcases List.mem_cons.mp hz with rfl | hz
    ·exact ⟨_,_,rfl⟩
    ·exact kf z hz
 obtain ⟨fs,k,kl,kf⟩:=T vs qs hl hv
 refine kat_kind (T:=.type "str") k (by omega) (fun v hv=>?_) (by decide) h
 obtain ⟨x,t,rfl⟩:=kf v hv
 exact Looks.of_pure rfl
end
theorem Vn {x y:Str} (h:x.cps.toList=y.cps.toList):x=y:=by
 obtain ⟨a⟩:=x
 obtain ⟨b⟩:=y
 have:a=b:=Array.toList_inj.mp h
 rw [this]
theorem Ym {qs:List (Str × Int)} (hn:qs.Nodup):SO (fun i j=>ya (qs.getD i ("",0)) (qs.getD j ("",0))) qs.length where
 irr:=fun i _=>by
  unfold ya
  rw [if_pos rfl]
  exact decide_eq_false (by omega)
 trans:=fun i j k _ _ _ h1 h2=>by
  generalize qs.getD i ("",0)=a at *
  generalize qs.getD j ("",0)=b at *
  generalize qs.getD k ("",0)=c at *
  unfold ya at *
  by_cases e1:a.1=b.1
  ·rw [if_pos e1] at h1
   by_cases e2:b.1=c.1
   ·rw [if_pos e2] at h2
    rw [if_pos (e1.trans e2)]
    have h1:=of_decide_eq_true h1
    have h2:=of_decide_eq_true h2
    exact decide_eq_true (by omega)
   ·rw [if_neg e2] at h2
    rw [if_neg (by rw [e1];exact e2),e1]
    exact h2
  ·rw [if_neg e1] at h1
   have h1:=of_decide_eq_true h1
   by_cases e2:b.1=c.1
   ·rw [if_neg (by rw [← e2];exact e1),← e2]
    exact decide_eq_true h1
   ·rw [if_neg e2] at h2
    have h2:=of_decide_eq_true h2
    have h3:=List.lt_trans h1 h2
    rw [if_neg (fun z=>by rw [z] at h3;exact List.lt_irrefl _ h3)]
    exact decide_eq_true h3
 tot:=fun i j hi hj hij h=>by
  have ne:qs.getD i ("",0)≠qs.getD j ("",0):=fun z=>hij (by
   rw [List.getD_eq_getElem?_getD,List.getD_eq_getElem?_getD,List.getElem?_eq_getElem hi,List.getElem?_eq_getElem hj] at z
   exact (List.getElem_inj hn).mp z)
  generalize qs.getD i ("",0)=a at *
  generalize qs.getD j ("",0)=b at *
  unfold ya at *
  by_cases e:a.1=b.1
  ·rw [if_pos e] at h
   rw [if_pos e.symm]
   have h:=of_decide_eq_false h
   have:a.2≠b.2:=fun z=>ne (Prod.ext e z)
   exact decide_eq_true (by omega)
  ·rw [if_neg e] at h
   rw [if_neg (fun z=>e z.symm)]
   have h:=of_decide_eq_false h
   refine decide_eq_true ?_
   rcases List.le_iff_lt_or_eq.mp (List.not_lt.mp h) with z | z
   ·exact z
   ·exact absurd (Vn z.symm) e
end L2
namespace L2
open PySem
def RawD (h:Heap) (d:Addr) (es:Array DictEntry) (ep:Nat):Prop:=∃ o,h.get? d=some o∧o.ExactDict∧o.data=.dict es ep
section
variable {P:Program} {w:World} {A:Around} {E:Value→Shared→Prop} {s:Shared}
theorem RawD.type {d:Addr} {es:Array DictEntry} {ep:Nat} (x:RawD s.heap d es ep):s.TypeIs (.ref d) "dict":=let ⟨o,ho,hc,_⟩:=x;⟨o,ho,hc.1⟩
theorem RawD.at {h h':Heap} {d:Addr} {es:Array DictEntry} {ep:Nat} (x:RawD h d es ep) (e:∀ o,h.get? d=some o→h'.get? d=some o):RawD h' d es ep:=let ⟨o,ho,r⟩:=x;⟨o,e _ ho,r⟩
theorem zaE {d:Addr} {es:Array DictEntry} {ep:Nat} {Q:Value→Shared→Prop} (lo:(d == sysModules)=false) (hm:RawD s.heap d es ep)
  (q:Q (.ref s.heap.objs.size) { s with heap:=s.heap.push { cls:=.type "dict_keyiterator",data:=.fields #[.ref d,.int 0 0,.int es.size 0,.int ep 0] } }):wpAny (model P w) A (pyIter (.ref d)) Q E s:=by
 have T:=hm.type
 obtain ⟨o,ho,hc,hd⟩:=id hm
 refine wpAny_pyIter_slot T F.slot_dict_iter (wpAny_call_entry F.slot_dict_iter T F.entry_dict_iter ?_ (F.args_dict_iter_1 _));unfold Builtin.«dict.__iter__»
 refine wpAny_bind ?_;unfold Builtin.Dict.dictSlotNone;refine wpAny_bind (wpAny_notOrdered_dict T ?_)
 show wpAny _ _ (pure (Value.ref d)) _ _ s;refine wpAny_pure ?_
 show wpAny _ _ (Builtin.Dict.showsAll d >>= _) _ _ s;unfold Builtin.Dict.showsAll
 rw [if_neg (by rw [lo];exact Bool.false_ne_true)];refine wpAny_bind (wpAny_pure ?_)
 refine wpAny_bind (wpAny_dictEntries ho hd ?_);refine wpAny_bind (wpAny_dictEpoch ho hd ?_)
 refine wpAny_bind (wpAny_newObj_type (wpAny_pure ⟨_,rfl,"dict_keyiterator",_,⟨_,Heap.get?_push_size _ rfl,rfl⟩,F.slot_dict_keyiterator_next.lookup,?_⟩));simpa [rawInt] using q
theorem zaF {it d:Addr} {i ep:Nat} {es:Array DictEntry} {e:DictEntry} {Q:Option Value→Shared→Prop} (hit:s.heap.IsKeyIter it d i es.size ep) (hm:RawD s.heap d es ep) (hx:es[i]?=some e)
  (q:∀ h,h.IsKeyIter it d (i + 1) es.size ep→Heap.SameBut it s.heap h→Q (some e.key) { s with heap:=h }):wpAny (model P w) A (pyNext (.ref it)) Q E s:=by
 obtain ⟨o,ho,hc,hd⟩:=id hit
 obtain ⟨od,hod,hcd,hdd⟩:=id hm
 have lt:i < es.size:=by
  rcases Nat.lt_or_ge i es.size with h | h
  ·exact h
  ·rw [Array.getElem?_eq_none h] at hx;cases hx
 unfold pyNext
 refine wpAny_bind (wpAny_attempt (wpAny_callSpecial?_slot (name:=Str.ofString "__next__") hit.typeIs F.slot_dict_keyiterator_next (wpAny_call_entry F.slot_dict_keyiterator_next hit.typeIs F.entry_dict_keyiterator_next ?_ (F.args_dict_keyiterator_next_1 _))))
 refine wpAny_bind (wpAny_pure ?_);refine wpAny_bind ?_;refine wpAny_bind ?_
 first | (refine wpAny_bind (wpAny_typeNameOfWhole_keyiter hit.typeIs (wpAny_pure ?_))) | (refine wpAny_bind (wpAny_typeNameOf_keyiter hit.typeIs (wpAny_pure ?_)))
 refine wpAny_bind (wpAny_fieldsOf ho hd ?_);have own:Builtin.Dict_items.ownsTuple "dict_keyiterator"=false:=by decide
 simp only [own,Bool.false_eq_true,if_false];show wpAny _ _ (if (Value.ref d == Value.none)=true then _ else _) _ _ s
 rw [if_neg (show ¬ ((Value.ref d == Value.none)=true) from Bool.false_ne_true)];refine wpAny_bind (wpAny_pure ?_);refine wpAny_bind (wpAny_dictEntries hod hdd ?_)
 rw [if_neg (by simp)];refine wpAny_bind (wpAny_pure ?_);refine wpAny_bind (wpAny_dictEpoch hod hdd ?_);rw [if_neg (by simp)];refine wpAny_pure ?_
 simp only [show ¬ ((i:Int) < 0) from by omega,if_false,Int.toNat_natCast,hx]
 refine wpAny_bind ?_
 first | (refine wpAny_bind (wpAny_typeNameOfWhole_keyiter hit.typeIs (wpAny_pure ?_))) | (refine wpAny_bind (wpAny_typeNameOf_keyiter hit.typeIs (wpAny_pure ?_)))
 refine wpAny_bind (wpAny_isOneOf_keyiter hit.typeIs ?_);show wpAny _ _ (setField (.ref it) 1 (rawInt ((i:Int) + 1)) >>= _) _ _ s
 refine wpAny_bind (wpAny_setField ho hd (by simp) ?_)
 have next:(s.heap.update it (Obj.mapFields (·.setIfInBounds 1 (rawInt ((i:Int) + 1))))).IsKeyIter it d (i + 1) es.size ep:=by
  refine ⟨_,Heap.get?_update_self _ ho (Obj.isFreed_of_fields (Obj.data_mapFields hd _)),(Obj.cls_mapFields ..).trans hc,?_⟩;rw [Obj.data_mapFields hd];simp [rawInt]
 refine wpAny_bind (wpAny_holding ?_)
 refine wpAny_bind (wpAny_isOneOf_keyiter (s:={ s with heap:=s.heap.update it (Obj.mapFields (·.setIfInBounds 1 (rawInt ((i:Int) + 1)))) }) next.typeIs ?_);show wpAny _ _ (pure e.key) _ _ _
 exact wpAny_pure (wpAny_pure ⟨_,rfl,wpAny_pure (q _ next (Heap.SameBut.update ..))⟩)
theorem zcm {it d:Addr} {i ep:Nat} {es:Array DictEntry} {Q:Option Value→Shared→Prop} (hh:A.handled=none) (hit:s.heap.IsKeyIter it d i es.size ep) (hm:RawD s.heap d es ep) (hx:es.size≤i)
  (q:∀ h,Heap.ExtBut it s.heap h→Q none { s with heap:=h }):wpAny (model P w) A (pyNext (.ref it)) Q E s:=by
 obtain ⟨o,ho,hc,hd⟩:=id hit
 obtain ⟨od,hod,hcd,hdd⟩:=id hm
 unfold pyNext
 refine wpAny_bind (wpAny_attempt (wpAny_callSpecial?_slot (name:=Str.ofString "__next__") hit.typeIs F.slot_dict_keyiterator_next (wpAny_call_entry F.slot_dict_keyiterator_next hit.typeIs F.entry_dict_keyiterator_next ?_ (F.args_dict_keyiterator_next_1 _))))
 refine wpAny_bind (wpAny_pure ?_);refine wpAny_bind ?_;refine wpAny_bind ?_
 first | (refine wpAny_bind (wpAny_typeNameOfWhole_keyiter hit.typeIs (wpAny_pure ?_))) | (refine wpAny_bind (wpAny_typeNameOf_keyiter hit.typeIs (wpAny_pure ?_)))
 refine wpAny_bind (wpAny_fieldsOf ho hd ?_);have own:Builtin.Dict_items.ownsTuple "dict_keyiterator"=false:=by decide
 simp only [own,Bool.false_eq_true,if_false];show wpAny _ _ (if (Value.ref d == Value.none)=true then _ else _) _ _ s
 rw [if_neg (show ¬ ((Value.ref d == Value.none)=true) from Bool.false_ne_true)];refine wpAny_bind (wpAny_pure ?_);refine wpAny_bind (wpAny_dictEntries hod hdd ?_)
 rw [if_neg (by simp)];refine wpAny_bind (wpAny_pure ?_);refine wpAny_bind (wpAny_dictEpoch hod hdd ?_);rw [if_neg (by simp)];refine wpAny_pure ?_
 simp only [show ¬ ((i:Int) < 0) from by omega,if_false,Int.toNat_natCast,Array.getElem?_eq_none hx]
 refine wpAny_bind ?_
 first | (refine wpAny_bind (wpAny_typeNameOfWhole_keyiter hit.typeIs (wpAny_pure ?_))) | (refine wpAny_bind (wpAny_typeNameOf_keyiter hit.typeIs (wpAny_pure ?_)))
 show wpAny _ _ (setField (.ref it) 0 .none >>= _) _ _ s;refine wpAny_bind (wpAny_setField ho hd (by simp) ?_)
 show wpAny _ _ (newExc (.type "StopIteration") [] >>= _) _ _ _;refine wpAny_bind ?_;simp only [newExc,newTuple]
 refine wpAny_bind (wpAny_newObj_type ?_ (by size_fits));refine wpAny_bind (m:=firstArgMember _ _) (wpAny_of_eq (a:=Value.none) (by first | rfl | (simp only [firstArgMember];rfl)) ?_)
 refine wpAny_newObj_type ?_ (by size_fits);simp only [raiseNew]
 refine wpAny_bind (wpAny_handled ?_);rw [show A.in1.handled=none from hh];refine wpAny_bind (wpAny_pure (wpAny_throw ?_))
 exact wpAny_bind (wpAny_isInstance (T:="StopIteration") (b:=true) ⟨_,Heap.get?_push_size _ rfl,rfl⟩ isSubtype_stop (wpAny_pure (q _ (((Heap.SameBut.update ..).extBut.push _).push _))))
theorem Ql (hh:A.handled=none) (I d:Addr) (hne:d≠I) (es:Array DictEntry) (ep:Nat) :
  Walks P w A I [I,d] [I] es.size (fun i v=>∃ e,es[i]?=some e∧v=e.key) (fun i h=>h.IsKeyIter I d i es.size ep∧RawD h d es ep) where
 sub:=fun b hb=>by simp at hb;simp [hb]
 frame:=fun _ _ _ st hk=>⟨st.1.at fun o e=>hk I (by simp) o e,st.2.at fun o e=>hk d (by simp) o e⟩
 item:=fun i s Q E hi st hQ=>by
  refine zaF st.1 st.2 (Array.getElem?_eq_getElem hi) fun h' hit' hs'=>?_
  exact hQ _ h' s.toks ⟨_,Array.getElem?_eq_getElem hi,rfl⟩ ⟨hit',st.2.at fun o e=>hs'.extBut d o hne e⟩ fun b o hb e=>hs'.extBut b o (fun h=>hb (by simp [h])) e
 done:=fun s Q E st hQ=>zcm hh st.1 st.2 (Nat.le_refl _) fun h' he'=>hQ h' s.toks fun b o hb e=>he' b o (fun h=>hb (by simp [h])) e
 self:=fun _ _ _ _ st hQ=>wpAny_pyIter_keyiter st.1 hQ
end
end L2
namespace L2
open PySem PySem.Spec PyProof.Rows
section
open PySem.SeqAt
open PySem.AutoSeq1 (wpAny_loadPart')
open PySem.MeetsSeq PySem.MeetsSeq2 PySem.MeetsSeq3
end
end L2
namespace L2
open PySem PySem.Spec PyProof.Rows
section
variable {P:Program} {w:World} {A:Around} {E:Value→Shared→Prop} {s:Shared}
theorem RawD.lt {h:Heap} {d:Addr} {es:Array DictEntry} {ep:Nat} (x:RawD h d es ep):d < h.objs.size:=let ⟨_,ho,_⟩:=x;Heap.lt_size ho
theorem zcn {d:Addr} {es:Array DictEntry} {ep:Nat} (lo:(d == sysModules)=false):W.KdlSrc P w "dict" d d es.size (fun i v=>∃ e,es[i]?=some e∧v=e.key) (fun h=>RawD h d es ep) where
 type:=fun _ hm=>hm.type
 there:=fun _ hm=>⟨hm.lt,hm.lt⟩
 keep:=fun _ _ hm hk=>hm.at fun o e=>hk d (.inl rfl) o e
 notList:=by decide
 notTuple:=by decide
 hint:=fun _ _ _ _ hm hq=>W.kdl_hint_dict hm.type hq
 iter:=fun _ _ hh hm=>⟨_,_,(fun _ _ hq=>zaE lo hm hq),Ql hh _ d (Nat.ne_of_lt hm.lt) es ep,⟨⟨_,Heap.get?_push_size _ rfl,rfl,rfl⟩,hm.at fun o e=>Heap.get?_push_of_some _ e⟩⟩
theorem Vo {T:String} {r d:Addr} {n:Nat} {G:Nat→Value→Prop} {OK:Heap→Prop} {R:List Value→Shared→Prop} (K:W.KdlSrc P w T r d n G OK) (hh:A.handled=none) (hok:OK s.heap) (hn:n≤sizeLine)
  (h:∀ (h':Heap) (tk:Nat) (vs:List Value),(∀ b o,s.heap.get? b=some o→h'.get? b=some o)→vs.length=n→(∀ j v,vs[j]?=some v→G j v)→R vs { s with heap:=h',toks:=tk }) :
  wpAny (model P w) A (collect (.ref r)) R E s:=by
 obtain ⟨lr,ld⟩:=K.there _ hok
 unfold collect
 refine wpAny_bind (wpAny_runValue (codeAny_builtin entry_proto_collect' ?_));rw [Around.under_plainId PySem.F.plain_proto_collect _]
 show wpAny _ A.in1 (newList [] >>= fun l=>again (.builtin "list.__iadd__" ⟨[l,.ref r],[]⟩)) _ _ s;refine wpAny_bind (wpAny_newObj_type ?_)
 refine wpAny_pure ⟨plainId_quiet PySem.F.plain_list_iadd _,codeAny_builtin entry_list_iadd' ?_⟩;rw [Around.under_plainId PySem.F.plain_list_iadd _]
 have hS:(s.heap.push { cls:=.type "list",data:=.seq ([]:List Value).toArray }).get? s.heap.objs.size=some { cls:=.type "list",data:=.seq #[] }:=Heap.get?_push_size _ rfl
 show wpAny _ A.in1 (Builtin.List.listExtendWith (.ref s.heap.objs.size) (.ref r) (.ref s.heap.objs.size)) _ _ _
 have key:=W.kdl_extend (A:=A) (s:={ s with heap:=s.heap.push { cls:=.type "list",data:=.seq ([]:List Value).toArray } }) (R:=fun (q:Result) (s':Shared)=>∃ (h':Heap) (tk:Nat) (acc:Array Value) (c:Nat),q=.ok (.ret (.ref s.heap.objs.size))∧s'={ s with heap:=h',toks:=tk } ∧
   (∀ b o,s.heap.get? b=some o→h'.get? b=some o)∧h'.get? s.heap.objs.size=some { cls:=.type "list",dict:=none,data:=.seq acc c,slots:=#[] }∧ItemsOf G acc n) K hh (K.keep _ _ hok fun b _ o e=>Heap.get?_push_of_some _ e) s.heap.objs.size (Nat.ne_of_gt lr) (Nat.ne_of_gt ld) (.ref s.heap.objs.size) 0 hS
  (fun h' tk acc c hk hS' hacc=>⟨h',tk,acc,c,rfl,rfl,fun b o e=>hk b o (Nat.ne_of_lt (Heap.lt_size e)) (Heap.get?_push_of_some _ e),hS',hacc⟩) hn
 refine wpAny_mono key (fun fin s' x=>?_) fun e s' x=>?_
 ·cases fin with
  | done f =>
   obtain ⟨h',tk,acc,c,e,rfl,hk,hS',hacc⟩:=x
   cases e
   show wpAny _ A (load s.heap.objs.size >>= _) _ _ _;refine wpAny_bind (wpAny_load hS' ?_)
   exact wpAny_pure (h h' tk acc.toList hk (by rw [Array.length_toList];exact hacc.1) fun j v e=>hacc.2 j v (by rw [← Array.getElem?_toList];exact e))
  | again c =>
   refine ⟨x.1,codeAny_mono x.2 fun q s' x=>?_⟩
   obtain ⟨h',tk,acc,c,rfl,rfl,hk,hS',hacc⟩:=x
   show wpAny _ A (load s.heap.objs.size >>= _) _ _ _;refine wpAny_bind (wpAny_load hS' ?_)
   exact wpAny_pure (h h' tk acc.toList hk (by rw [Array.length_toList];exact hacc.1) fun j v e=>hacc.2 j v (by rw [← Array.getElem?_toList];exact e))
 ·obtain ⟨h',tk,acc,c,e',_⟩:=x
  cases e'
end
end L2
namespace L2
open PySem PySem.Spec PyProof.Rows
def ye (q:Str × Int):List Key:=[.inr q.1,.inl q.2]
abbrev qZ:RC:=fun xs H Q=>∃ (a:Addr) (kvs:List (List Key × V)) (qs:List (Str × Int)),xs=[.ref a]∧H a=some (.dT kvs)∧kvs.map (·.1)=qs.map ye∧kvs.length < 64 ∧
 ∀ (l:Addr) (ps:List (Addr × (Str × Int))),H l=none→(ps.map (·.2)).Perm qs→(ps.map (·.2)).Pairwise (fun a b=>ya a b=true)→(∀ n∈ps,H n.1=some (.tup [.str n.2.1,.int n.2.2]))→Q (.ref l) (upd H l (.lst (ps.map fun n=>V.ref n.1)))
theorem vI {α β:Type} {F:α→β→Prop}:∀ {l₁:List α} {l₂:List β},Paired F l₁ l₂→∀ {i:Nat} {a:α} {b:β},l₁[i]?=some a→l₂[i]?=some b→F a b
 | _,_,.nil,i,a,b,h,_=>by simp at h
 | _,_,.cons x r,0,a,b,h1,h2=>by
  simp only [List.getElem?_cons_zero,Option.some.injEq] at h1 h2
  subst h1 h2
  exact x
 | _,_,.cons x r,i + 1,a,b,h1,h2=>vI r (by simpa using h1) (by simpa using h2)
theorem PlAt.keep {h h':Heap} {v:Value} {q:Str × Int} (x:PlAt h v q) (k:∀ b o,h.get? b=some o→h'.get? b=some o):PlAt h' v q:=by
 obtain ⟨a,o,t,u,n,e,ho,r⟩:=x
 exact ⟨a,o,t,u,n,e,k _ _ ho,r⟩
section
variable {X:Cx}
theorem Yn {pins:List (Addr × Obj)} {σ:St} {H:Hp} {s:Shared} {a:Addr} {q:Str × Int} (I:Inv X pins σ H s) (h:H a=some (.tup [.str q.1,.int q.2])):PlAt s.heap (.ref a) q:=by
 obtain ⟨its,rv,⟨o,ho,hc,n,hd⟩,_⟩:=I.tuple (SqT.of h)
 cases rv with
 | cons r1 rr =>
  cases rr with
  | cons r2 rn =>
   cases rn
   obtain ⟨t,rfl⟩:=r1
   obtain ⟨u,rfl⟩:=r2
   exact ⟨a,o,t,u,n,rfl,ho,hc,hd⟩
theorem jd {α β:Type} {f:α→β}:∀ {l:List α},(l.map f).Nodup→l.Nodup
 | [],_=>List.nodup_nil
 | a :: r,h=>by
  rw [List.map_cons,List.nodup_cons] at h
  exact List.nodup_cons.mpr ⟨fun z=>h.1 (List.mem_map_of_mem z),jd h.2⟩
theorem Wv (hc:X.calm=true):vq X (.builtin "sorted") qZ:=by
 intro pins s σ H xs us Q I r h
 obtain ⟨a,kvs,qs,rfl,ha,hk,h64,q⟩:=h
 obtain ⟨u,rfl,ru⟩:=wV r
 cases ru
 obtain ⟨hz,lo,xs,rel,o,es,ep,ho,hx,hd,he,hn⟩:=(show ObjOk X.prog X.w H s.heap a (.dT kvs) from I.hok a _ ha)
 have hh:X.A.handled=none:=I.ok.hd hc
 have lk:kvs.length=qs.length:=by have:=congrArg List.length hk;simpa using this
 have lx:kvs.length=xs.length:=Paired.length rel
 have les:es.size=xs.length:=by rw [← Array.length_toList,he,List.length_map]
 -- the keys in their order
 have key:∀ (i:Nat) (x:List Key × Addr × Value),xs[i]?=some x→∃ q,qs[i]?=some q∧x.1=ye q∧H x.2.1=some (.tup [.str q.1,.int q.2]):=fun i x hx=>by
  have hi:=(List.getElem?_eq_some_iff.mp hx).1
  obtain ⟨kv,hkv⟩:∃ kv,kvs[i]?=some kv:=⟨_,List.getElem?_eq_getElem (by omega)⟩
  obtain ⟨q,hq⟩:∃ q,qs[i]?=some q:=⟨_,List.getElem?_eq_getElem (by omega)⟩
  have rl:=vI rel hkv hx
  have e1:kv.1=ye q:=by
   have e1:(kvs.map (·.1))[i]?=some kv.1:=by rw [List.getElem?_map,hkv];rfl
   have e2:(qs.map ye)[i]?=some (ye q):=by rw [List.getElem?_map,hq];rfl
   rw [hk,e2] at e1
   exact (Option.some.inj e1).symm
  refine ⟨q,hq,by rw [← rl.1,e1],?_⟩
  have:=rl.2.1
  rw [e1] at this
  exact this
 have nq:qs.Nodup:=by
  refine jd (f:=ye) ?_
  have e:xs.map (·.1)=qs.map ye:=by
   rw [← hk]
   apply List.ext_getElem?
   intro i
   rw [List.getElem?_map,List.getElem?_map]
   cases hx:xs[i]? with
   | none =>
    have:xs.length≤i:=by simpa using hx
    rw [List.getElem?_eq_none (by omega:kvs.length≤i)]
    rfl
   | some x =>
    have hi:=(List.getElem?_eq_some_iff.mp hx).1
    have hkv:kvs[i]?=some kvs[i]:=List.getElem?_eq_getElem (by omega)
    rw [hkv]
    have:=(vI rel hkv hx).1
    simp [this]
  rw [← e];exact hn
 have vv:∀ (i:Nat) (v:Value) (q:Str × Int),(xs.map fun x=>Value.ref x.2.1)[i]?=some v→qs[i]?=some q→PlAt s.heap v q:=fun i v q hv hq=>by
  rw [List.getElem?_map] at hv
  obtain ⟨x,hx,rfl⟩:=Option.map_eq_some_iff.mp hv
  obtain ⟨q',hq',_,hH⟩:=key i x hx
  rw [hq] at hq'
  cases hq'
  exact Yn I hH
 have lv:(xs.map fun x=>Value.ref x.2.1).length=qs.length:=by rw [List.length_map];omega
 have vat:∀ i,i < qs.length→PlAt s.heap ((xs.map fun x=>Value.ref x.2.1).getD i Value.none) (qs.getD i ("",0)):=fun i hi=>by
  refine vv i _ _ ?_ ?_
  ·rw [List.getD_eq_getElem?_getD,List.getElem?_eq_getElem (by rw [lv];exact hi)];rfl
  ·rw [List.getD_eq_getElem?_getD,List.getElem?_eq_getElem hi];rfl
 have S:=Ym nq
 rw [← lv] at S
 refine Vm (vs:=xs.map fun x=>Value.ref x.2.1) (κ:=tuples' true) (by rw [List.length_map];omega) S (fun R hR=>?_) (fun h2 h tk Q' kp q'=>?_) (fun h tk i j C kp hi hj hij q'=>?_) fun h tk h' p c k1 k2 hD hp hr=>?_
 ·refine Vo (zcn (ep:=ep) (es:=es) lo) hh ⟨o,ho,hx,hd⟩ (by rw [les];omega) fun h' tk vs kp hl hG=>?_
  have ev:vs=xs.map fun x=>Value.ref x.2.1:=by
   apply List.ext_getElem?
   intro i
   by_cases hi:i < vs.length
   ·obtain ⟨e,hes,ek⟩:=hG i vs[i] (List.getElem?_eq_getElem hi)
    have e2:es.toList[i]?=some e:=by rw [Array.getElem?_toList];exact hes
    rw [he,List.getElem?_map] at e2
    obtain ⟨x,hxx,ex⟩:=Option.map_eq_some_iff.mp e2
    rw [List.getElem?_eq_getElem hi,ek,List.getElem?_map,hxx,← ex]
    rfl
   ·rw [List.getElem?_eq_none (by omega),List.getElem?_eq_none (by rw [List.length_map];omega)]
  rw [ev]
  exact hR h' tk kp
 ·exact Yl (s:={ s with heap:=h,toks:=tk }) lv (fun i v q hv hq=>(vv i v q hv hq).keep kp) (by omega) q'
 ·rw [lv] at hi hj
  refine XQ (s:={ s with heap:=h,toks:=tk }) ((vat i hi).keep kp) ((vat j hj).keep kp) q' fun z=>hij ?_
  rw [List.getD_eq_getElem?_getD,List.getD_eq_getElem?_getD,List.getElem?_eq_getElem hi,List.getElem?_eq_getElem hj] at z
  exact (List.getElem_inj nq).mp z
 ·have I1:Inv X pins σ H { s with heap:=h,toks:=tk }:=I.kept k1
  have ps:∃ ps:List (Addr × (Str × Int)),ps.map (fun n=>Value.ref n.1)=vH (xs.map fun x=>Value.ref x.2.1) p∧ps.map (·.2)=p.toList.map (fun i=>qs.getD i ("",0))∧∀ n∈ps,H n.1=some (.tup [.str n.2.1,.int n.2.2]):=by
   have pl:∀ i∈p.toList,i < xs.length:=fun i hi=>by
    have:i∈p:=by simpa using hi
    have:=(Array.Perm.mem_iff hp).mp this
    rw [List.length_map] at this
    simpa using this
   refine ⟨p.toList.map fun i=>((xs.getD i ([],0,.none)).2.1,qs.getD i ("",0)),?_,by rw [List.map_map];rfl,fun n hn=>?_⟩
   ·unfold vH
    rw [List.map_map]
    refine List.map_congr_left fun i hi=>?_
    have:=pl i hi
    simp [List.getD_eq_getElem?_getD,List.getElem?_map,List.getElem?_eq_getElem this]
   ·obtain ⟨i,hi,rfl⟩:=List.mem_map.mp hn
    have hl:=pl i hi
    obtain ⟨q,hq,_,hH⟩:=key i xs[i] (List.getElem?_eq_getElem hl)
    have e1:xs.getD i ([],0,.none)=xs[i]:=by rw [List.getD_eq_getElem?_getD,List.getElem?_eq_getElem hl];rfl
    have e2:qs.getD i ("",0)=q:=by rw [List.getD_eq_getElem?_getD,hq];rfl
    show H (xs.getD i ([],0,.none)).2.1=some (.tup [.str (qs.getD i ("",0)).1,.int (qs.getD i ("",0)).2])
    rw [e1,e2]
    exact hH
  obtain ⟨ps,e1,e2,hps⟩:=ps
  have vr:Vals (ps.map fun n=>V.ref n.1) (ps.map fun n=>Value.ref n.1):=by
   clear e1 e2 hps
   induction ps with
   | nil=>exact .nil
   | cons n r ih=>exact .cons rfl ih
  have psz:p.size=xs.length:=by have:=hp.size;rw [List.length_map] at this;exact this
  have pln:ps.length=xs.length:=by have:=congrArg List.length e1;unfold vH at this;simpa [psz] using this
  have I2:Inv X pins σ (upd H h.objs.size (.lst (ps.map fun n=>V.ref n.1))) { s with heap:=h',toks:=tk }:=I1.laid (s:={ s with heap:=h,toks:=tk }) (a:=h.objs.size) (o:=.lst (ps.map fun n=>V.ref n.1)) (t':=tk) k2 (Nat.le_refl _)
   ⟨by rw [List.length_map];omega,ps.map fun n=>Value.ref n.1,c,vr,by rw [e1];exact hD⟩
  refine ⟨.ref h.objs.size,_,I2,rfl,q _ ps (I1.hok.fresh (Nat.le_refl _)) ?_ ?_ hps⟩
  ·rw [e2]
   have pr:p.toList.Perm (List.range qs.length):=by
    have:=Array.perm_iff_toList_perm.mp hp
    rw [lv] at this
    simpa using this
   refine (pr.map _).trans ?_
   have:(List.range qs.length).map (fun i=>qs.getD i ("",0))=qs:=by
    apply List.ext_getElem?
    intro i
    rw [List.getElem?_map]
    by_cases hi:i < qs.length
    ·rw [List.getElem?_range hi,List.getElem?_eq_getElem hi]
     simp [List.getD_eq_getElem?_getD,List.getElem?_eq_getElem hi]
    ·rw [List.getElem?_eq_none (by simpa using hi),List.getElem?_eq_none (by omega)]
     rfl
   rw [this]
  ·rw [e2,List.pairwise_map,List.pairwise_iff_getElem]
   intro i j hi hj hij
   rw [Array.length_toList] at hi hj
   have g1:=jC hi
   have g2:=jC hj
   have r:=hr i j hij (by rw [List.length_map];omega)
   have x1:p.toList[i]=gt p i:=by
    rw [Array.getElem?_eq_getElem hi] at g1
    simpa using g1
   have x2:p.toList[j]=gt p j:=by
    rw [Array.getElem?_eq_getElem hj] at g2
    simpa using g2
   rw [x1,x2]
   exact r
end
end L2
namespace L2
open PySem PySem.Spec PyProof.Rows
def Itd (a:Addr) (o:Obj) (kvs:List (List Key × V)):It :=
 ⟨fun i H=>H a=some (.frz o (.dT kvs))∧i < kvs.length,fun i H x H'=>H'=H∧∃ k v p,kvs[i]?=some (k,v)∧x=.ref p∧H p=some (.tup (k.map kV)),fun i H=>H a=some (.frz o (.dT kvs))∧kvs.length≤i⟩
section
variable {X:Cx}
def iDT (tl:TE):TI:=fun σ H R=>tl σ H fun x H1=>∃ a o kvs,x=.ref a∧H1 a=some (.frz o (.dT kvs))∧R (Itd a o kvs) H1
end
section
variable {σ:St} {H:Hp} {nx:St→Hp→Prop} {B:V→St→Hp→(St→Hp→Prop)→Prop}
end
end L2
namespace L2
open PySem PySem.Spec PyProof.Rows
mutual
inductive Dat (K:W.Frag) (H:Hp):V→PyData→Prop
 | non:Dat K H .non .none
 | bl (b:Bool):Dat K H (.bl b) (.bool b)
 | int (i:Int):Dat K H (.int i) (.int i)
 | str (x:Str):Dat K H (.str x) (.str x)
 | lst {a:Addr} {xs:List V} {ds:List PyData}:SqL K H a xs→DatAll K H xs ds→Dat K H (.ref a) (.list ds)
 | tup {a:Addr} {xs:List V} {ds:List PyData}:SqT K H a xs→DatAll K H xs ds→Dat K H (.ref a) (.tuple ds)
inductive DatAll (K:W.Frag) (H:Hp):List V→List PyData→Prop
 | nil:DatAll K H [] []
 | cons {x:V} {d:PyData} {xs:List V} {ds:List PyData}:Dat K H x d→DatAll K H xs ds→DatAll K H (x :: xs) (d :: ds)
end
section
variable {X:Cx} {pins:List (Addr × Obj)} {σ:St} {H:Hp} {s:Shared}
mutual
theorem Dat.reads (I:Inv X pins σ H s):∀ {x:V} {d:PyData} {u:Value},Dat X.K H x d→RelV x u→∃ as,Reads s.heap u d as
 | _,_,_,.non,r=>by cases r;exact ⟨_,.none⟩
 | _,_,_,.bl b,r=>by cases r;exact ⟨_,.bool b⟩
 | _,_,_,.int i,r=>by obtain ⟨t,rfl⟩:=r;exact ⟨_,.int i t⟩
 | _,_,_,.str x,r=>by obtain ⟨t,rfl⟩:=r;exact ⟨_,.str x t⟩
 | _,_,_,.lst hq ha,r=>by
  cases r
  obtain ⟨its,rv,⟨o,n,e,c,_,d⟩,_⟩:=I.list hq
  obtain ⟨as,ra⟩:=DatAll.reads I ha rv
  exact ⟨_,.list e c d (by simpa using ra)⟩
 | _,_,_,.tup hq ha,r=>by
  cases r
  obtain ⟨its,rv,⟨o,e,c,n,d⟩,_⟩:=I.tuple hq
  obtain ⟨as,ra⟩:=DatAll.reads I ha rv
  exact ⟨_,.tuple e c d (by simpa using ra)⟩
theorem DatAll.reads (I:Inv X pins σ H s):∀ {xs:List V} {ds:List PyData} {us:List Value},DatAll X.K H xs ds→Vals xs us→∃ as,ReadsAll s.heap us ds as
 | _,_,_,.nil,r=>by cases r;exact ⟨_,.nil⟩
 | _,_,_,.cons hx ht,r=>by
  cases r with
  | cons r1 rr =>
   obtain ⟨as,ra⟩:=Dat.reads I hx r1
   obtain ⟨bs,rb⟩:=DatAll.reads I ht rr
   exact ⟨_,.cons ra rb⟩
end
end
section
variable {K:W.Frag} {H H':Hp}
theorem SqL.mono {a:Addr} {xs:List V} (k:Same H H') (h:SqL K H a xs):SqL K H' a xs:=by
 rcases h with (h | ⟨o,h⟩) | h
 ·exact .inl (.inl (k _ _ h))
 ·exact .inl (.inr ⟨o,k _ _ h⟩)
 ·exact .inr h
end
section
variable {X:Cx} {pins:List (Addr × Obj)} {σ:St} {H:Hp} {s:Shared}
end
mutual
def zZ:PyData→Bool
 | .none=>true
 | .int _=>true
 | .str x=>PyData.strOk x
 | .list xs=>yH xs
 | .tuple xs=>yH xs
 | .bool _=>false
 | .dict _=>false
def yH:List PyData→Bool
 | []=>true
 | x :: xs=>zZ x && yH xs
end
mutual
theorem XR:∀ {d:PyData},zZ d=true→d.canLay0=true
 | .none,_=>by simp [PyData.canLay0]
 | .int _,_=>by simp [PyData.canLay0]
 | .str x,h=>by simpa [PyData.canLay0,zZ] using h
 | .list xs,h=>by rw [PyData.canLay0];exact qp (by simpa [zZ] using h)
 | .tuple xs,h=>by rw [PyData.canLay0];exact qp (by simpa [zZ] using h)
 | .bool _,h=>by simp [zZ] at h
 | .dict _,h=>by simp [zZ] at h
theorem qp:∀ {ds:List PyData},yH ds=true→PyData.canLayAll0 ds=true
 | [],_=>by simp [PyData.canLayAll0]
 | x :: xs,h=>by
  rw [yH,Bool.and_eq_true] at h
  rw [PyData.canLayAll0,XR h.1,qp h.2];rfl
end
mutual
theorem XS:∀ {d e:PyData},zZ d=true→zZ e=true→(PyData.eqv d e=true↔d=e)
 | .list xs,.list ys,h,h'=>by
  rw [PyData.eqv,qt (by simpa [zZ] using h) (by simpa [zZ] using h'),PyData.list.injEq]
 | .tuple xs,.tuple ys,h,h'=>by
  rw [PyData.eqv,qt (by simpa [zZ] using h) (by simpa [zZ] using h'),PyData.tuple.injEq]
 | .bool _,_,h,_=>by simp [zZ] at h
 | .dict _,_,h,_=>by simp [zZ] at h
 | .none,.bool _,_,h=>by simp [zZ] at h
 | .int _,.bool _,_,h=>by simp [zZ] at h
 | .str _,.bool _,_,h=>by simp [zZ] at h
 | .list _,.bool _,_,h=>by simp [zZ] at h
 | .tuple _,.bool _,_,h=>by simp [zZ] at h
 | .none,.dict _,_,h=>by simp [zZ] at h
 | .int _,.dict _,_,h=>by simp [zZ] at h
 | .str _,.dict _,_,h=>by simp [zZ] at h
 | .list _,.dict _,_,h=>by simp [zZ] at h
 | .tuple _,.dict _,_,h=>by simp [zZ] at h
 | .none,.none,_,_ | .none,.int _,_,_ | .none,.str _,_,_ | .none,.list _,_,_ | .none,.tuple _,_,_=>by simp [PyData.eqv]
 | .int _,.none,_,_ | .int _,.int _,_,_ | .int _,.str _,_,_ | .int _,.list _,_,_ | .int _,.tuple _,_,_=>by simp [PyData.eqv]
 | .str _,.none,_,_ | .str _,.int _,_,_ | .str _,.str _,_,_ | .str _,.list _,_,_ | .str _,.tuple _,_,_=>by simp [PyData.eqv]
 | .list _,.none,_,_ | .list _,.int _,_,_ | .list _,.str _,_,_ | .list _,.tuple _,_,_=>by simp [PyData.eqv]
 | .tuple _,.none,_,_ | .tuple _,.int _,_,_ | .tuple _,.str _,_,_ | .tuple _,.list _,_,_=>by simp [PyData.eqv]
theorem qt:∀ {xs ys:List PyData},yH xs=true→yH ys=true→(PyData.eqvAll xs ys=true↔xs=ys)
 | [],[],_,_=>by simp [PyData.eqvAll]
 | [],_ :: _,_,_=>by simp [PyData.eqvAll]
 | _ :: _,[],_,_=>by simp [PyData.eqvAll]
 | x :: xs,y :: ys,h,h'=>by
  rw [yH,Bool.and_eq_true] at h h'
  rw [PyData.eqvAll,Bool.and_eq_true,XS h.1 h'.1,qt h.2 h'.2,List.cons.injEq]
end
abbrev zaG (K:W.Frag) (neg:Bool):R2:=fun x y H Q=>∃ d e,Dat K H x d∧Dat K H y e∧(zZ d=true∧zZ e=true∧d.depth≤64∧e.depth≤64)∧∀ b:Bool,(b=true↔d=e)→Q (.bl (if neg then !b else b)) H
section
variable {X:Cx}
theorem q8 {d:PyData} (h:zZ d=true) (h':d.depth≤64):SeqAt.shaped d=true:=by
 unfold SeqAt.shaped
 rw [XR h,decide_eq_true h'];rfl
theorem zaH (hu:X.A.units + 64 < cLine):OpR X (compareOp .NotEq) (zaG X.K true):=by
 intro pins s σ H x y v u Q I rx ry h
 obtain ⟨d,e,hd,he,⟨p1,p2,l1,l2⟩,q⟩:=h
 obtain ⟨as,ra⟩:=hd.reads I rx
 obtain ⟨bs,rb⟩:=he.reads I ry
 exact ne_dataH ra rb (q8 p1 l1) (q8 p2 l2) hu ⟨.bl _,H,I,rfl,q _ (XS p1 p2)⟩
end
end L2
namespace L2
open PySem PySem.Spec PyProof.Rows
abbrev zf0:R2:=fun x y H Q=>∃ i j,x=.str i∧y=.str j∧Q (.bl (decide (j.cps.toList < i.cps.toList))) H
abbrev zf1 (neg:Bool):R2:=fun x y H Q=>∃ a o,y=.ref a∧Q3 H a x o∧Q (.bl (if neg then !o.isSome else o.isSome)) H
section
variable {X:Cx}
end
end L2
namespace L2
open PySem
abbrev Pl:=Str × Int
abbrev Row:=Pl × Int
def xo:List Row→Pl→Option Int
 | [],_=>none
 | r :: t,p=>(xo t p).or (if r.1=p then some r.2 else none)
def Yo (kvs:List (List Key × V)) (q:Row):List (List Key × V):=wW kvs (ye q.1) (.int q.2)
def dOf (rows:List Row):List (List Key × V):=rows.foldl Yo []
theorem Qm {p q:Pl} (h:ye p=ye q):p=q:=by
 unfold ye at h
 simp only [List.cons.injEq,Sum.inr.injEq,Sum.inl.injEq,and_true] at h
 exact Prod.ext h.1 h.2
theorem Vp:∀ (rows:List Row) (kvs:List (List Key × V)) (p:Pl),yU (rows.foldl Yo kvs) (ye p)=((xo rows p).map V.int).or (yU kvs (ye p))
 | [],_,_=>rfl
 | r :: t,kvs,p=>by
  rw [List.foldl_cons,Vp t,xo]
  show _=_
  rw [Yo,QY]
  cases xo t p with
  | some w=>rfl
  | none =>
   by_cases e:r.1=p
   ·subst e;simp
   ·rw [if_neg (fun z=>e (Qm z).symm)];simp [e]
theorem Ww (rows:List Row) (p:Pl):yU (dOf rows) (ye p)=(xo rows p).map V.int:=by
 unfold dOf
 rw [Vp,QX]
 cases xo rows p <;> rfl
theorem zaI (rows:List Row) (q:Row):dOf (rows ++ [q])=wW (dOf rows) (ye q.1) (.int q.2):=by
 unfold dOf
 rw [List.foldl_append];rfl
def OkKv (kvs:List (List Key × V)):Prop:=(kvs.map (·.1)).Nodup∧∀ kv∈kvs,∃ (p:Pl) (w:Int),kv=(ye p,.int w)
theorem OkKv.put {kvs:List (List Key × V)} (h:OkKv kvs) (p:Pl) (w:Int):OkKv (wW kvs (ye p) (.int w)):=by
 cases e:yU kvs (ye p) with
 | none =>
  refine ⟨zb5 _ h.1 e,fun kv hk=>?_⟩
  rw [W6 _ e] at hk
  rcases List.mem_append.mp hk with hk | hk
  ·exact h.2 kv hk
  ·exact ⟨p,w,List.mem_singleton.mp hk⟩
 | some v =>
  have q:(kvs.any fun kv=>decide (kv.1=ye p))=true:=by rw [wX,e];rfl
  unfold wW
  rw [if_pos q]
  constructor
  ·rw [List.map_map]
   have:((fun x:List Key × V=>x.1) ∘ fun kv:List Key × V=>if kv.1=ye p then (kv.1,V.int w) else kv)=fun x=>x.1:=by
    funext kv
    show (if kv.1=ye p then (kv.1,V.int w) else kv).1=kv.1
    split <;> rfl
   rw [this];exact h.1
  ·intro kv hk
   obtain ⟨z,hz,rfl⟩:=List.mem_map.mp hk
   by_cases e:z.1=ye p
   ·exact ⟨p,w,by rw [if_pos e,e]⟩
   ·rw [if_neg e];exact h.2 z hz
theorem XT:∀ (rows:List Row) (kvs:List (List Key × V)),OkKv kvs→OkKv (rows.foldl Yo kvs)
 | [],_,h=>h
 | r :: t,kvs,h=>XT t _ (h.put r.1 r.2)
theorem q9 (rows:List Row):OkKv (dOf rows):=XT rows [] ⟨List.nodup_nil,fun _ h=>nomatch h⟩
theorem zco (kvs:List (List Key × V)) (k:List Key) (v:V):(wW kvs k v).length≤kvs.length + 1:=by
 unfold wW
 split
 ·rw [List.length_map];omega
 ·rw [List.length_append];simp
theorem Vq:∀ (rows:List Row) (kvs:List (List Key × V)),(rows.foldl Yo kvs).length≤kvs.length + rows.length
 | [],_=>by simp
 | r :: t,kvs=>by
  have:=Vq t (Yo kvs r)
  have:=zco kvs (ye r.1) (.int r.2)
  rw [List.foldl_cons,List.length_cons]
  unfold Yo at *
  omega
theorem Kr (rows:List Row):(dOf rows).length≤rows.length:=by have:=Vq rows [];simpa [dOf] using this
theorem Ks {kvs:List (List Key × V)}:(kvs.map (·.1)).Nodup→∀ kv∈kvs,yU kvs kv.1=some kv.2:=by
 induction kvs with
 | nil=>exact fun _ kv h=>nomatch h
 | cons a r ih =>
  intro hn kv hk
  rw [List.map_cons,List.nodup_cons] at hn
  rcases List.mem_cons.mp hk with rfl | hk
  ·exact yZ rfl
  ·rw [y0 fun z=>hn.1 (by rw [z];exact List.mem_map_of_mem hk)]
   exact ih hn.2 kv hk
theorem mem_dOf {rows:List Row} {kv:List Key × V}:kv∈dOf rows↔∃ p w,kv=(ye p,.int w)∧xo rows p=some w:=by
 constructor
 ·intro h
  obtain ⟨p,w,rfl⟩:=(q9 rows).2 kv h
  have:=Ks (q9 rows).1 _ h
  rw [Ww] at this
  obtain ⟨w',e1,e2⟩:=Option.map_eq_some_iff.mp this
  cases e2
  exact ⟨p,w,rfl,e1⟩
 ·rintro ⟨p,w,rfl,h⟩
  have e:yU (dOf rows) (ye p)=some (.int w):=by rw [Ww,h];rfl
  obtain ⟨kv,hk,e1⟩:=List.mem_map.mp (zb4 e)
  have:=Ks (q9 rows).1 _ hk
  rw [e1,e] at this
  have e2:kv=(ye p,V.int w):=Prod.ext e1 (Option.some.inj this).symm
  rw [← e2];exact hk
theorem vV (a:Pl):ya a a=false:=by
 unfold ya
 rw [if_pos rfl]
 exact decide_eq_false (by omega)
theorem qe {a b c:Pl} (h1:ya a b=true) (h2:ya b c=true):ya a c=true:=by
 unfold ya at *
 by_cases e1:a.1=b.1
 ·rw [if_pos e1] at h1
  by_cases e2:b.1=c.1
  ·rw [if_pos e2] at h2
   rw [if_pos (e1.trans e2)]
   have h1:=of_decide_eq_true h1
   have h2:=of_decide_eq_true h2
   exact decide_eq_true (by omega)
  ·rw [if_neg e2] at h2
   rw [if_neg (by rw [e1];exact e2),e1]
   exact h2
 ·rw [if_neg e1] at h1
  have h1:=of_decide_eq_true h1
  by_cases e2:b.1=c.1
  ·rw [if_neg (by rw [← e2];exact e1),← e2]
   exact decide_eq_true h1
  ·rw [if_neg e2] at h2
   have h2:=of_decide_eq_true h2
   have h3:=List.lt_trans h1 h2
   rw [if_neg (fun z=>by rw [z] at h3;exact List.lt_irrefl _ h3)]
   exact decide_eq_true h3
def vJ (l:List Row):Prop:=l.Pairwise fun a b=>ya a.1 b.1=true
def zex (rows out:List Row):Prop:=vJ out∧∀ p w,(p,w)∈out↔xo rows p=some w∧w≠0
theorem Qn {p:Pl}:∀ {l:List Row},(∀ r∈l,r.1≠p)→xo l p=none
 | [],_=>rfl
 | r :: t,h=>by
  rw [xo,Qn fun r hr=>h r (List.mem_cons_of_mem _ hr),if_neg (h r List.mem_cons_self)];rfl
end L2
namespace L2
open PySem PySem.Spec PyProof.Rows
def zey (K:W.Frag) (p q:Addr) (xs ys:List V):It:=⟨fun i H=>i < xs.length∧SqL K H p xs∧SqL K H q ys,fun i H x H'=>∃ T u v,x=.ref T∧H T=none∧H'=upd H T (.tup [u,v])∧xs[i]?=some u∧ys[i]?=some v,fun i H=>xs.length≤i∧SqL K H p xs∧SqL K H q ys⟩
def zfm (K:W.Frag) (ta:TA):TI:=fun σ H R=>ta σ H fun vs H1=>∃ p q xs ys,vs=[.ref p,.ref q]∧SqL K H1 p xs∧SqL K H1 q ys∧xs.length=ys.length∧R (zey K p q xs ys) H1
section
variable {X:Cx}
end
section
variable {σ:St} {H:Hp} {nx:St→Hp→Prop} {B:V→St→Hp→(St→Hp→Prop)→Prop}
end
end L2
namespace L2
open PySem PySem.Spec PyProof.Rows
section
variable {X:Cx} {A:Around} {R:Result→Shared→Prop}
def ZM (H:Hp) (v:V) (q:Row):Prop:=∃ r p,v=.ref r∧H r=some (.tup [.ref p,.int q.2])∧H p=some (.tup [.str q.1.1,.int q.1.2])
end
end L2
namespace L2
open PySem PySem.Spec PyProof.Rows
section
variable {prog:Program} {w:World} {A:Around} {E:Value→Shared→Prop} {s:Shared} {a:Addr} {o:Obj} {xs:Array Value} {k:Nat}
end
abbrev zfn:RC:=fun vs H Q=>∃ (a:Addr) (xs:List V) (rows:List Row),vs=[.ref a]∧H a=some (.lst xs)∧Paired (ZM H) xs rows∧rows.length≤1000∧∀ p,H p=none→Q (.ref p) (upd H p (.dT (dOf rows)))
section
variable {X:Cx}
end
end L2
namespace L2
open PySem PySem.Spec PyProof.Rows
section
variable {X:Cx} {k:Nat} {f C:Addr} {fd:FuncData} {ps:List Str} {sp:Sp} {m:Str} {pos apos:Pos} {e o:Expr} {es:List Expr} {ta:TE} {t:TA}
def zeV (C:Addr) (m:Str) (sp:Sp) (ta:TE) (t:TA) (EX:EXK):TE:=fun σ H Q=>ta σ H fun x H1=>∃ a dx fs,x=.ref a∧H1 a=some (.ins C dx fs)∧fs.lookup m=none ∧
 t σ H1 fun vs H2=>sp (x :: (vs ++ [])) H2 Q fun cls _ H3=>EX cls σ H3
end
def zfo (K:W.Frag) (tb:EXK→TS) (C1:Addr) (th1:TS):TS:=fun D σ H=>tb (fun cls σ1 H1=>∃ C,cls=.ref C∧W.exmOne K (.ref C) (.ref C1)=some true∧th1 D σ1 H1) D σ H
def zeW (K:W.Frag) (tb:EXK→TS) (C1:Addr) (th1:TS) (C2:Addr) (th2:TS):TS:=fun D σ H=>tb (fun cls σ1 H1=>∃ C,cls=.ref C ∧
 ((W.exmOne K (.ref C) (.ref C1)=some true∧th1 D σ1 H1)∨(W.exmOne K (.ref C) (.ref C1)=some false∧W.exmOne K (.ref C) (.ref C2)=some true∧th2 D σ1 H1))) D σ H
section
variable {X:Cx} {st b₀ b₁:Stmt} {suite suite1:List Stmt} {tb:EXK→TS} {th1 th2:TS} {c1 c2:Str} {C1 C2:Addr} {np hpos np2 hpos2 pos:Pos}
end
section
variable {X:Cx} {k:Nat} {f:Addr} {fd:FuncData} {ps:List Str} {sp:Sp} {x:Str} {p pos:Pos} {e:Expr} {es:List Expr} {t:TA}
end
end L2
namespace L2
open PySem
def rk (kvs:List (Key × V)) (ps:List V):Except Er Int:=match zau kvs ps [] with
 | .ok [i]=>.ok i
 | .ok _=>.error .stuck
 | .error e=>.error e
theorem zaJ {kvs:List (Key × V)} (hs:ZW kvs) {v:V} (hv:Wu v) {st st':List Int} (h:∀ x∈st,inW x=true) (e:zat kvs st v=.ok st'):∀ x∈st',inW x=true:=by
 unfold zat at e
 split at e
 ·split at e
  ·rename_i w b a r hr hj
   unfold zdi at e
   by_cases c1:Km w∧b=0
   ·rw [if_pos c1] at e;cases e
   ·rw [if_neg c1] at e
    by_cases c2:inW (zas w a b)=true
    ·rw [if_pos c2] at e
     cases e
     intro x hx
     rcases List.mem_append.mp hx with hx | hx
     ·refine h x (List.mem_reverse.mp ?_)
      rw [hr]
      exact List.mem_cons_of_mem _ (List.mem_cons_of_mem _ (List.mem_reverse.mp hx))
     ·rw [List.mem_singleton.mp hx];exact c2
    ·rw [if_neg c2] at e;cases e
  ·cases e
 ·cases e
  intro x hx
  rcases List.mem_append.mp hx with hx | hx
  ·exact h x hx
  ·rw [List.mem_singleton.mp hx];exact zav hs hv
theorem zcp {kvs:List (Key × V)} (hs:ZW kvs):∀ {ps:List V} {st st':List Int},(∀ v∈ps,Wu v)→(∀ x∈st,inW x=true)→zau kvs ps st=.ok st'→∀ x∈st',inW x=true
 | [],st,st',_,h,e=>by cases e;exact h
 | v :: r,st,st',hp,h,e=>by
  unfold zau at e
  split at e
  ·rename_i st1 e1
   exact zcp hs (fun v hv=>hp v (List.mem_cons_of_mem _ hv)) (zaJ hs (hp v List.mem_cons_self) h e1) e
  ·cases e
def qu (e:List V):Prop:=(∀ kvs,∃ r,zeU kvs e r)∧(∀ v∈e,Wu v)∧e.length≤1000
mutual
inductive Rw where
 | take (sh:Str) (e:List V) (sl:Str)
 | give (sh:Str) (e f:List V)
 | lt (sl:Str) (e:List V)
 | say (e:List V)
 | off (e:List V)
 | iff (e:List V) (a b:Rws)
inductive Rws where
 | nil
 | cons (r:Rw) (rs:Rws)
end
set_option genSizeOf false in
set_option genInjectivity false in
structure Sta where
 sl:List (Key × V)
 wo:List Row
 sa:List Int
inductive Res where
 | go (s:Sta)
 | off
 | er (e:Er)
mutual
def goR:Rw→Sta→Res
 | .take sh e sl,s=>match rk s.sl e with
  | .ok n=>.go { s with sl:=wW s.sl (.inr sl) (.int ((xo s.wo (sh,n)).getD 0)) }
  | .error x=>.er x
 | .give sh e f,s=>match rk s.sl e with
  | .ok n=>(match rk s.sl f with
   | .ok w=>.go { s with wo:=s.wo ++ [((sh,n),w)] }
   | .error x=>.er x)
  | .error x=>.er x
 | .lt sl e,s=>match rk s.sl e with
  | .ok n=>.go { s with sl:=wW s.sl (.inr sl) (.int n) }
  | .error x=>.er x
 | .say e,s=>match rk s.sl e with
  | .ok n=>.go { s with sa:=s.sa ++ [n] }
  | .error x=>.er x
 | .off e,s=>match rk s.sl e with
  | .ok n=>if n=0 then .go s else .off
  | .error x=>.er x
 | .iff e a b,s=>match rk s.sl e with
  | .ok n=>if n=0 then zcq b s else zcq a s
  | .error x=>.er x
def zcq:Rws→Sta→Res
 | .nil,s=>.go s
 | .cons r rs,s=>match goR r s with
  | .go s'=>zcq rs s'
  | x=>x
end
mutual
def zeX (F:Addr→Prop) (H:Hp) (v:V):Rw→Prop
 | .take sh e sl=>∃ r te,v=.ref r∧F r∧F te∧H r=some (.tup [.str "take",.str sh,.ref te,.str sl])∧H te=some (.tup e)
 | .give sh e f=>∃ r te tf,v=.ref r∧F r∧F te∧F tf∧H r=some (.tup [.str "give",.str sh,.ref te,.ref tf])∧H te=some (.tup e)∧H tf=some (.tup f)
 | .lt sl e=>∃ r te,v=.ref r∧F r∧F te∧H r=some (.tup [.str "let",.str sl,.ref te])∧H te=some (.tup e)
 | .say e=>∃ r te,v=.ref r∧F r∧F te∧H r=some (.tup [.str "say",.ref te])∧H te=some (.tup e)
 | .off e=>∃ r te,v=.ref r∧F r∧F te∧H r=some (.tup [.str "off",.ref te])∧H te=some (.tup e)
 | .iff e a b=>∃ r te la lb xs ys,v=.ref r∧F r∧F te∧F la∧F lb∧H r=some (.tup [.str "if",.ref te,.ref la,.ref lb])∧H te=some (.tup e)∧H la=some (.lst xs)∧RwsAt F H xs a∧H lb=some (.lst ys)∧RwsAt F H ys b
def RwsAt (F:Addr→Prop) (H:Hp) (vs:List V):Rws→Prop
 | .nil=>vs=[]
 | .cons r rs=>∃ v ws,vs=v :: ws∧zeX F H v r∧RwsAt F H ws rs
end
mutual
def zeY:Rw→Prop
 | .take _ e _=>qu e
 | .give _ e f=>qu e∧qu f
 | .lt _ e=>qu e
 | .say e=>qu e
 | .off e=>qu e
 | .iff e a b=>qu e∧zaK a∧zaK b
def zaK:Rws→Prop
 | .nil=>True
 | .cons r rs=>zeY r∧zaK rs
end
mutual
def Rw.deep:Rw→Nat
 | .iff _ a b=>max a.deep b.deep + 1
 | _=>0
def Rws.deep:Rws→Nat
 | .nil=>0
 | .cons r rs=>max r.deep rs.deep
end
mutual
def Rw.cnt:Rw→Nat
 | .iff _ a b=>max a.cnt b.cnt + 1
 | _=>1
def Rws.cnt:Rws→Nat
 | .nil=>0
 | .cons r rs=>r.cnt + rs.cnt
end
end L2
namespace L2
open PySem
section
variable {P:Program} {w:World} {A:Around} {E:Value→Shared→Prop} {s:Shared}
end
end L2
namespace L2
open PySem PySem.Spec PyProof.Rows
def zaL (r d:Addr):HO:=.ext fun h=>h.IsItemsView r d
def zeZ (td:TE):TE:=fun σ H Q=>td σ H fun x H1=>∃ d kvs,x=.ref d∧H1 d=some (.dT kvs)∧∀ r,H1 r=none→Q (.ref r) (upd H1 r (zaL r d))
section
variable {X:Cx} {o:Expr} {apos cpos:Pos} {td:TE}
end
def ze0 (H:Hp) (v:V) (kv:List Key × V):Prop:=∃ r p,v=.ref r∧H r=some (.tup [.ref p,kv.2])∧H p=some (.tup (kv.1.map kV))
section
variable {X:Cx} {A:Around} {R:Result→Shared→Prop}
end
end L2
namespace L2
open PySem PySem.Spec PyProof.Rows
abbrev zfp:RC:=fun vs H Q=>∃ r d kvs,vs=[.ref r]∧H r=some (zaL r d)∧H d=some (.dT kvs)∧kvs.length≤1000∧∀ l ys H',Same H H'→H l=none→H' l=some (.lst ys)→Paired (ze0 H') ys kvs→Q (.ref l) H'
section
variable {X:Cx}
end
end L2
namespace L2
open PySem PySem.Spec PyProof.Rows PySem.W
section
variable {X:Cx}
end
section
variable {P:Program} {w:World} {A:Around} {E:Value→Shared→Prop} {s:Shared}
end
end L2
namespace L2
open PySem PySem.Spec PyProof.Rows PySem.W
def d0:Row:=(("",0),0)
theorem Jw {α:Type} (l:List α) (d:α):(List.range l.length).map (fun i=>l.getD i d)=l:=by
 apply List.ext_getElem?
 intro i
 rw [List.getElem?_map]
 by_cases hi:i < l.length
 ·rw [List.getElem?_range hi,List.getElem?_eq_getElem hi]
  simp [List.getD_eq_getElem?_getD,List.getElem?_eq_getElem hi]
 ·rw [List.getElem?_eq_none (by simpa using hi),List.getElem?_eq_none (by omega)]
  rfl
theorem PP.list {n:Nat} {p:Array Nat} (h:PP n p):p.toList.Perm (List.range n):=by
 have:=Array.perm_iff_toList_perm.mp h
 simpa using this
theorem PP.lt {n:Nat} {p:Array Nat} (h:PP n p):∀ i∈p.toList,i < n:=fun i hi=>by
 have:=h.list.mem_iff.mp hi
 simpa using this
theorem Jx {α:Type} {F:α→α→Bool} {l:List α} {d:α} {n:Nat} {p:Array Nat} (hp:PP n p) (hr:k9 (fun i j=>F (l.getD i d) (l.getD j d)) p n):(p.toList.map fun i=>l.getD i d).Pairwise fun a b=>F a b=true:=by
 rw [List.pairwise_map,List.pairwise_iff_getElem]
 intro i j hi hj hij
 rw [Array.length_toList] at hi hj
 have g1:=jC hi
 have g2:=jC hj
 have sz:=hp.size
 have r:=hr i j hij (by omega)
 have x1:p.toList[i]=gt p i:=by
  rw [Array.getElem?_eq_getElem hi] at g1
  simpa using g1
 have x2:p.toList[j]=gt p j:=by
  rw [Array.getElem?_eq_getElem hj] at g2
  simpa using g2
 rw [x1,x2];exact r
abbrev zfq:RC:=fun vs H Q=>∃ r d rows,vs=[.ref r]∧H r=some (zaL r d)∧H d=some (.dT (dOf rows))∧(dOf rows).length < 64 ∧
 ∀ l ys srt H',Same H H'→H l=none→H' l=some (.lst ys)→Paired (ZM H') ys srt→vJ srt→(∀ p w,(p,w)∈srt↔xo rows p=some w)→Q (.ref l) H'
section
variable {X:Cx}
end
end L2
namespace L2
open PySem PySem.Spec PyProof.Rows
def zaM (lo c:Int) (n:Nat):It:=⟨fun i _=>i < n,fun i H x H'=>H'=H∧x=.int (lo + i * c),fun i _=>n≤i⟩
theorem Vr {P:Program} {w:World} {K:W.Frag} {tg:Expr} (it:Addr) (lo c:Int) (n:Nat):K7 P w K tg (zaM lo c n) [it] it (fun i h=>IsRangeIter h it (lo + (i:Nat) * c) ((n:Int) - (i:Nat)) c) where
 mem:=by simp
 obj:=fun i h st b hb=>by
  have e:b=it:=by simpa using hb
  subst e
  refine ⟨_,st,fun v z=>?_⟩
  have z':Data.fields _=Data.cell v:=z
  cases z'
 keep:=fun i h h' st k=>k it (by simp) _ st
 item:=by
  intro X hP hw hK hc i pins s σ H E I hf st hg;subst hP hw hK
  obtain ⟨f0,f1,f2,f3,f4,f5⟩:=hf it (by simp)
  refine (Walks.range (prog:=X.prog) (w:=X.w) (I.ok.hd hc) it lo c n).item i s _ _ hg st fun v h' tk hv st' kk=>?_
  obtain ⟨t,rfl⟩:=hv
  have I1:Inv X pins σ H { s with heap:=h',toks:=tk }:=I.turned (fun b o hb e=>kk b o (by simpa using hb) e) f0 f1 f3 f4 f5
  exact ⟨_,rfl,Ka (s:={ s with heap:=h',toks:=tk }) (n:="range_iterator") st' rfl rfl (by decide) ⟨.int (lo + i * c),H,I1,⟨t,rfl⟩,⟨rfl,rfl⟩,st',fun b hb=>(hf b hb).1⟩⟩
 done:=by
  intro X hP hw hK hc i pins s σ H E I hf st hg;subst hP hw hK
  obtain ⟨f0,f1,f2,f3,f4,f5⟩:=hf it (by simp)
  exact wpAny_pyNext_range_end (I.ok.hd hc) st (by have:n≤i:=hg;omega) fun h' eb=>⟨rfl,I.turned (t':=s.toks) (fun b o hb e=>eb b o hb e) f0 f1 f3 f4 f5⟩
 self:=fun _ _ _ _ _ st h=>wpAny_pyIter_rangeiter st h
def ZN (i j c:Int):Nat:=if i < j then ((j - i - 1) / c + 1).toNat else 0
def Yp (ta:TA):TI:=fun σ H R=>ta σ H fun vs H1=>∃ i j c:Int,vs=[.int i,.int j,.int c]∧(0≤i∧i < 1073741824∧-1073741824≤j∧j < 1073741824∧0 < c∧c < 1073741824)∧R (zaM i c (ZN i j c)) H1
section
variable {X:Cx} {tg:Expr}
theorem XU {a b c:Expr} {ta:TA} {p pos:Pos} (hg:Gl X "range") (hm:X.mg "range"=none) (ha:PA X [a,b,c] ta) (hs:starEach [a,b,c] X.env=[(false,eval a X.env),(false,eval b X.env),(false,eval c X.env)]:=by rfl) (hs2:starEach [b,c] X.env=[(false,eval b X.env),(false,eval c X.env)]:=by rfl) :
  PI X tg (.Call (.Name "range" p) [a,b,c] [] pos) (Yp ta):=by
 intro pins s σ H R I h
 refine Call_ (Zs I hg hm boot_range (PyProof.Rows.callWith_type1 (thn (ha pos pins s σ H _ I h) fun us s1 ⟨vs,H1,I1,r1,q1⟩=>?_) (by rw [hs,hs2]) (by rw [hs2];rfl)))
 obtain ⟨i,j,c,e,⟨q1,q2,q3,q4,q5,q6⟩,q⟩:=q1
 subst e
 cases r1 with
 | cons r rr =>
  cases rr with
  | cons r' rr =>
   cases rr with
   | cons r'' rr =>
    cases rr
    obtain ⟨t,rfl⟩:=r
    obtain ⟨t',rfl⟩:=r'
    obtain ⟨t'',rfl⟩:=r''
    refine call_range_3 (by omega) ?_ (.inl (PyProof.noPylong_small (by omega)))
    have hz:Builtin.Range.rangeSize i j c=(ZN i j c:Int):=by
     unfold Builtin.Range.rangeSize ZN
     rw [if_pos q5]
     split
     ·rename_i h
      have:=Int.ediv_nonneg (a:=j - i - 1) (b:=c) (by omega) (by omega)
      omega
     ·rfl
    have hb:(ZN i j c:Int)≤1073741824∧(ZN i j c:Int) * c≤2147483648:=by
     unfold ZN
     split
     ·rename_i h
      have h1:=Int.ediv_nonneg (a:=j - i - 1) (b:=c) (by omega) (by omega)
      have h2:=Int.ediv_le_self (a:=j - i - 1) c (by omega)
      have h3:=Int.ediv_mul_le (j - i - 1) (b:=c) (by omega)
      rw [Int.toNat_of_nonneg (by omega),Int.add_mul]
      omega
     ·simp
    generalize ZN i j c=n at *
    have sm:Builtin.Range.small i j c=true:=by
     unfold Builtin.Range.small
     rw [hz]
     simp only [Builtin.Range.rangeFitsLong,Bool.and_eq_true,Bool.or_eq_true,decide_eq_true_eq,beq_iff_eq,show c > 0 from q5,if_true]
     omega
    refine wpAny_pyIter_range (IsRange.new ..) sm ?_
    rw [hz]
    have I2:Inv X pins σ H1 { s1 with heap:=s1.heap.push { cls:=.type "range",data:=.fields #[.int i t,.int j t',.int c t''] },toks:=s1.toks }:=I1.kept fun b o e=>Heap.get?_push_of_some _ e
    refine ⟨(s1.heap.push { cls:=.type "range",data:=.fields #[.int i t,.int j t',.int c t''] }).objs.size,[(s1.heap.push { cls:=.type "range",data:=.fields #[.int i t,.int j t',.int c t''] }).objs.size],_,_,H1,rfl,I2.kept (t':=s1.toks) fun b o e=>Heap.get?_push_of_some _ e,Vr _ i c n,?_,fun b hb=>?_,q⟩
    ·show IsRangeIter _ _ (i + ((0:Nat):Int) * c) ((n:Int) - ((0:Nat):Int)) c
     rw [show i + ((0:Nat):Int) * c=i by simp,show (n:Int) - ((0:Nat):Int)=n by simp]
     exact Heap.get?_push_size _ rfl
    ·have e:b=(s1.heap.push { cls:=.type "range",data:=.fields #[.int i t,.int j t',.int c t''] }).objs.size:=by simpa using hb
     subst e
     exact I2.fpOk (Nat.le_refl _) (I2.hok.fresh (Nat.le_refl _))
end
end L2
namespace L2
open PySem
structure StOk (n:Nat) (s:Sta):Prop where
 so:ZW s.sl
 wo:∀ r∈s.wo,inW r.2=true
 l1:s.sl.length≤n
 l2:s.wo.length≤n
 l3:s.sa.length≤n
theorem StOk.mono {n m:Nat} {s:Sta} (h:StOk n s) (l:n≤m):StOk m s:=⟨h.so,h.wo,Nat.le_trans h.l1 l,Nat.le_trans h.l2 l,Nat.le_trans h.l3 l⟩
theorem zcr {P:Row→Prop} {p:Pl} {w:Int}:∀ {l:List Row},(∀ r∈l,P r)→xo l p=some w→P (p,w)
 | [],_,h=>by cases h
 | r :: t,hp,h=>by
  rw [xo] at h
  cases e:xo t p with
  | some w' =>
   rw [e] at h
   have:w'=w:=by simpa using h
   subst this
   exact zcr (fun r hr=>hp r (List.mem_cons_of_mem _ hr)) e
  | none =>
   rw [e] at h
   by_cases c:r.1=p
   ·rw [if_pos c] at h
    have:r.2=w:=by simpa using h
    rw [← c,← this];exact hp r List.mem_cons_self
   ·rw [if_neg c] at h;cases h
mutual
def ze1 (P:Pl→Prop):Rw→Prop
 | .give sh e _=>∀ kvs n,rk kvs e=.ok n→P (sh,n)
 | .iff _ a b=>zaN P a∧zaN P b
 | _=>True
def zaN (P:Pl→Prop):Rws→Prop
 | .nil=>True
 | .cons r rs=>ze1 P r∧zaN P rs
end
inductive Oc where
 | done (sa:List Int)
 | off (why:Str)
def zez:Er→Str
 | .great=>"great"
 | _=>"nought"
def zdP (rws:Rws) (tab:List Row) (oc:Oc) (out:List Row):Prop:=match zcq rws ⟨[],tab,[]⟩ with
 | .go s=>oc=.done s.sa∧zex s.wo out
 | .off=>oc=.off "told"∧out=tab
 | .er e=>oc=.off (zez e)∧out=tab
inductive zdQ:List Rws→List Row→List Oc→List Row→Prop
 | nil {tab:List Row}:zdQ [] tab [] tab
 | cons {d:Rws} {ds:List Rws} {tab mid out:List Row} {oc:Oc} {ocs:List Oc}:zdP d tab oc mid→zdQ ds mid ocs out→zdQ (d :: ds) tab (oc :: ocs) out
def ZG:V→PyData
 | .int i=>.int i
 | .str x=>.str x
 | _=>.none
def plV (v:V):Prop:=(∃ i,v=.int i)∨∃ x,v=.str x∧PyData.strOk x=true
def Yq (e:List V):PyData:=.tuple (e.map ZG)
mutual
def rwD:Rw→PyData
 | .take sh e sl=>.tuple [.str "take",.str sh,Yq e,.str sl]
 | .give sh e f=>.tuple [.str "give",.str sh,Yq e,Yq f]
 | .lt sl e=>.tuple [.str "let",.str sl,Yq e]
 | .say e=>.tuple [.str "say",Yq e]
 | .off e=>.tuple [.str "off",Yq e]
 | .iff e a b=>.tuple [.str "if",Yq e,.list (zdR a),.list (zdR b)]
def zdR:Rws→List PyData
 | .nil=>[]
 | .cons r rs=>rwD r :: zdR rs
end
def tmP (e:List V):Prop:=∀ v∈e,plV v
mutual
def ze2:Rw→Prop
 | .take sh e sl=>PyData.strOk sh=true∧tmP e∧PyData.strOk sl=true
 | .give sh e f=>PyData.strOk sh=true∧tmP e∧tmP f
 | .lt sl e=>PyData.strOk sl=true∧tmP e
 | .say e=>tmP e
 | .off e=>tmP e
 | .iff e a b=>tmP e∧zaO a∧zaO b
def zaO:Rws→Prop
 | .nil=>True
 | .cons r rs=>ze2 r∧zaO rs
end
section
variable {K:W.Frag} {H:Hp} {F:Addr→Prop}
theorem zaP {v:V} (h:plV v):Dat K H v (ZG v):=by
 rcases h with ⟨i,rfl⟩ | ⟨x,rfl,_⟩
 ·exact .int i
 ·exact .str x
theorem Qo:∀ {e:List V},tmP e→DatAll K H e (e.map ZG)
 | [],_=>.nil
 | v :: r,h=>.cons (zaP (h v List.mem_cons_self)) (Qo fun u hu=>h u (List.mem_cons_of_mem _ hu))
end
theorem Vs:∀ {e:List V},tmP e→yH (e.map ZG)=true
 | [],_=>by simp [yH]
 | v :: r,h=>by
  rw [List.map_cons,yH,Vs fun u hu=>h u (List.mem_cons_of_mem _ hu),Bool.and_true]
  rcases h v List.mem_cons_self with ⟨i,rfl⟩ | ⟨x,rfl,hx⟩
  ·rw [ZG,zZ]
  ·rw [ZG,zZ];exact hx
theorem Jy:∀ (e:List V),PyData.depthAll (e.map ZG)=0
 | []=>by simp [PyData.depthAll]
 | v :: r=>by
  rw [List.map_cons,PyData.depthAll,Jy r]
  cases v <;> simp [ZG,PyData.depth]
def Rws.snoc:Rws→Rw→Rws
 | .nil,x=>.cons x .nil
 | .cons r rs,x=>.cons r (rs.snoc x)
def Rws.app:Rws→Rws→Rws
 | .nil,x=>x
 | .cons r rs,x=>.cons r (rs.app x)
end L2
namespace L2
open PySem PySem.Spec PyProof.Rows
abbrev qv:RM:=fun x xs H Q=>∃ a b,x=.str a∧xs=[.str b]∧(b.length == 0)=false∧a.length≤100000∧(Txt.split a b).length≤100000∧∀ l,H l=none→Q (.ref l) (upd H l (.lst ((Txt.split a b).map V.str)))
theorem Za:∀ (l:List (Str × Tok)),Vals ((l.map (·.1)).map V.str) (strValues l)
 | []=>.nil
 | p :: r=>.cons ⟨p.2,rfl⟩ (Za r)
section
variable {X:Cx}
theorem zaQ:MtM X "str.split" qv:=by
 intro pins s σ H x xs v us Q I rx rs h
 obtain ⟨a,b,rfl,rfl,hb,ha,hl,q⟩:=h
 obtain ⟨t,rfl⟩:=rx
 obtain ⟨u,rfl,t',rfl⟩:=wV rs
 have hs:sizeLine=16777216:=sizeLine_eq
 have fin:∀ (l:List (Str × Tok)) (tk c:Nat),l.map (·.1)=Txt.split a b→EP X pins σ Q (.ref s.heap.objs.size) { s with heap:=s.heap.push { cls:=.type "list",data:=.seq (strValues l).toArray c },toks:=tk }:=fun l tk c e=>by
  have hn:H s.heap.objs.size=none:=I.hok.fresh (Nat.le_refl _)
  have vv:=Za l
  rw [e] at vv
  refine ⟨.ref s.heap.objs.size,_,I.laid (a:=s.heap.objs.size) (o:=.lst ((Txt.split a b).map V.str)) (t':=tk) (fun b u e=>Heap.get?_push_of_some _ e) (Nat.le_refl _) ⟨by rw [List.length_map];omega,strValues l,c,vv,Heap.get?_push_size _ rfl⟩,rfl,q _ hn⟩
 cases h1:(decide (a.length < b.length) || decide (Builtin.Str.strKind a < Builtin.Str.strKind b))
 ·cases hf:(Builtin.Str.occurrences a b 0 a.length (a.length + 1)).isEmpty
  ·have e0:Txt.split a b=Builtin.Str.partsBetween a (Builtin.Str.occurrences a b 0 a.length (a.length + 1)) b.length:=(if_neg (ne_true_of_eq_false h1)).trans (if_neg (ne_true_of_eq_false hf))
   refine call_meets F.slot_str_split (typeIs_str _ _ _) F.entry_str_split (F.args_str_split_2 _ _) (meets_str_split_sep a b t t' h1 hb hf (by omega) (by rw [← e0];omega)) ?_
   rw [strsFrom_eq]
   exact fin (numbered s.toks _) _ _ ((numbered_texts _ _).trans e0.symm)
  ·exact call_meets F.slot_str_split (typeIs_str _ _ _) F.entry_str_split (F.args_str_split_2 _ _) (meets_str_split_not_found a b t t' h1 hb hf)
    (fin [(a,t)] _ _ ((if_neg (ne_true_of_eq_false h1)).trans (if_pos hf)).symm)
 ·exact call_meets F.slot_str_split (typeIs_str _ _ _) F.entry_str_split (F.args_str_split_2 _ _) (meets_str_split_cannot_occur a b t t' h1)
   (fin [(a,t)] _ _ (if_pos h1).symm)
end
def ze3 (K:W.Frag) (p:Addr) (xs:List V):It:=⟨fun i H=>i < xs.length∧SqL K H p xs,fun i H x H'=>∃ T u,x=.ref T∧H T=none∧H'=upd H T (.tup [.int i,u])∧xs[i]?=some u,fun i H=>xs.length≤i∧SqL K H p xs⟩
def zf2 (K:W.Frag) (ta:TA):TI:=fun σ H R=>ta σ H fun vs H1=>∃ p xs,vs=[.ref p]∧SqL K H1 p xs∧R (ze3 K p xs) H1
section
variable {X:Cx}
end
section
variable {σ:St} {H:Hp} {nx:St→Hp→Prop} {B:V→St→Hp→(St→Hp→Prop)→Prop}
end
end L2
namespace L2
open PySem PySem.Spec PyProof.Rows
theorem zaR {c:Nat}:∀ {a b r s:List Nat},c ∉ a→c ∉ b→a ++ c :: r=b ++ c :: s→a=b∧r=s
 | [],[],r,s,_,_,h=>by simpa using h
 | [],y :: b,r,s,_,hb,h=>by
  simp only [List.nil_append,List.cons_append,List.cons.injEq] at h
  exact absurd h.1 (fun z=>hb (by rw [z];exact List.mem_cons_self))
 | x :: a,[],r,s,ha,_,h=>by
  simp only [List.nil_append,List.cons_append,List.cons.injEq] at h
  exact absurd h.1.symm (fun z=>ha (by rw [z];exact List.mem_cons_self))
 | x :: a,y :: b,r,s,ha,hb,h=>by
  simp only [List.cons_append,List.cons.injEq] at h
  obtain ⟨e1,e2⟩:=zaR (fun z=>ha (List.mem_cons_of_mem _ z)) (fun z=>hb (List.mem_cons_of_mem _ z)) h.2
  exact ⟨by rw [h.1,e1],e2⟩
theorem XV {sep x y:Str} {r:List Str}:Str.join sep (x :: y :: r)=x ++ sep ++ Str.join sep (y :: r):=rfl
theorem kZ {c:Nat} {x y:Str} {r:List Str}:(Str.join ⟨#[c]⟩ (x :: y :: r)).cps.toList=x.cps.toList ++ c :: (Str.join ⟨#[c]⟩ (y :: r)).cps.toList:=by
 rw [XV,yu,yu,List.append_assoc];rfl
theorem Vt {c:Nat}:∀ {a b:List Str},a≠[]→b≠[]→(∀ p∈a,c ∉ p.cps.toList)→(∀ p∈b,c ∉ p.cps.toList)→Str.join ⟨#[c]⟩ a=Str.join ⟨#[c]⟩ b→a=b
 | [],_,h,_,_,_,_=>absurd rfl h
 | _,[],_,h,_,_,_=>absurd rfl h
 | [x],[y],_,_,_,_,e=>by
  have e:x=y:=e
  rw [e]
 | [x],y :: z :: s,_,_,ha,_,e=>by
  have e1:(Str.join ⟨#[c]⟩ _).cps.toList=(Str.join ⟨#[c]⟩ _).cps.toList:=congrArg (fun w:Str=>w.cps.toList) e
  rw [kZ] at e1
  have e2:x.cps.toList=y.cps.toList ++ c :: (Str.join ⟨#[c]⟩ (z :: s)).cps.toList:=e1
  exact absurd (by rw [e2];simp) (ha x List.mem_cons_self)
 | x :: z :: r,[y],_,_,_,hb,e=>by
  have e1:(Str.join ⟨#[c]⟩ _).cps.toList=(Str.join ⟨#[c]⟩ _).cps.toList:=congrArg (fun w:Str=>w.cps.toList) e
  rw [kZ] at e1
  have e2:x.cps.toList ++ c :: (Str.join ⟨#[c]⟩ (z :: r)).cps.toList=y.cps.toList:=e1
  exact absurd (by rw [← e2];simp) (hb y List.mem_cons_self)
 | x :: z :: r,y :: w :: s,_,_,ha,hb,e=>by
  have e1:(Str.join ⟨#[c]⟩ _).cps.toList=(Str.join ⟨#[c]⟩ _).cps.toList:=congrArg (fun w:Str=>w.cps.toList) e
  rw [kZ,kZ] at e1
  obtain ⟨e2,e3⟩:=zaR (ha x List.mem_cons_self) (hb y List.mem_cons_self) e1
  rw [wS e2,Vt (a:=z :: r) (b:=w :: s) (by simp) (by simp) (fun p hp=>ha p (List.mem_cons_of_mem _ hp)) (fun p hp=>hb p (List.mem_cons_of_mem _ hp)) (wS e3)]
theorem zaS (x y:Str):Txt.split x y≠[]:=by
 unfold Txt.split
 split
 ·simp
 ·split
  ·simp
  ·rw [StrLaws.partsBetween_eq]
   obtain ⟨p,r,e⟩:=StrLaws.partsFrom_ne x y.length 0 (Builtin.Str.occurrences x y 0 x.length (x.length + 1))
   rw [e];simp
theorem Jz {c:Nat} {ws:List Str} (h:ws≠[]) (hf:∀ p∈ws,c ∉ p.cps.toList):Txt.split (Str.join ⟨#[c]⟩ ws) ⟨#[c]⟩=ws :=
 Vt (zaS _ _) h (StrLaws.split_free _ c) hf (StrLaws.join_split _ _)
theorem Zb (sep:Str) (ls:List Str):xC sep ls=Str.join sep ls:=by
 match ls with
 | []=>exact StrLaws.glued_eq_join sep []
 | [p]=>rfl
 | a :: b :: r=>exact StrLaws.glued_eq_join sep (a :: b :: r)
end L2
namespace L2
open PySem PySem.Spec PyProof.Rows
abbrev zfr (K:W.Frag):RC:=fun xs H Q=>∃ (x:V) (p:Addr) (t:Value) (Ts:List String) (b:Bool),xs=[x,.ref p]∧qj K H x t∧H p=some (.tup (Ts.map V.ty))∧W.kitAny K t (Ts.map Value.type)=some b∧Q (.bl b) H
section
variable {X:Cx}
end
section
variable {prog:Program} {w:World} {A:Around} {E:Value→Shared→Prop} {s:Shared}
theorem Vu {l:Addr} {items:Array Value} {n:Nat} {k:Int} {t:Tok} {v:Value} {Q:Unit→Shared→Prop} (hl:s.heap.get? l=some { cls:=.type "list",data:=.seq items n })
  (h0:k < 0) (h1:-(items.size:Int)≤k) (hfit:-(2 ^ 63)≤k) (hQ:Q () { s with heap:=s.heap.update l (Obj.mapSeq (·.setIfInBounds (k + items.size).toNat v)) }) :
  wpAny (model prog w) A (setItem (.ref l) (.int k t) v) Q E s:=by
 have hL:s.heap.IsList l items:=⟨_,hl,rfl,n,rfl⟩
 unfold setItem
 try with_reducible refine wpAny_holding ?_
 first | refine wpAny_bind (wpAny_pure ?_) | skip
 refine wpAny_bind (wpAny_sequenceKey hL.typeIs (by decide) ?_)
 refine wpAny_bind (wpAny_callSpecial?_slot (name:=Str.ofString "__setitem__") hL.typeIs slot_list_setitem
  (wpAny_call_entry slot_list_setitem hL.typeIs entry_list_setitem ?_ (args_list_setitem _ _ _)))
 show wpAny _ _ (Builtin.List.listSubscript? (.int k t) >>= _) _ _ s
 refine wpAny_bind (wpAny_listSubscript_int (fitsIndex_neg h0 hfit) ?_)
 clear hfit
 have hidx:=seqIndex_neg h0 h1
 have hx:items[(k + items.size).toNat]?=some (items[(k + items.size).toNat]'(by omega)):=Array.getElem?_eq_getElem (by omega)
 obtain ⟨j,rfl⟩:∃ j:Nat,k=Int.negSucc j:=by
  cases k with
  | ofNat n=>exact absurd h0 (Int.not_lt.mpr (Int.ofNat_nonneg n))
  | negSucc n=>exact ⟨n,rfl⟩
 show wpAny _ _ ((Builtin.List.listItems (.ref l) >>= fun xs=>pure ((seqIndex? (Int.negSucc j) xs.size).bind fun i=>xs[i]?.map (i,·))) >>= _) _ _ s
 refine wpAny_bind (wpAny_bind ?_)
 show wpAny _ _ (seqItems? (.ref l) >>= _) _ _ s
 refine wpAny_bind (wpAny_seqItems hl rfl (wpAny_pure (wpAny_pure ?_)))
 rw [hidx]
 simp only [Option.bind_some,hx,Option.map_some]
 refine wpAny_bind (wpAny_setSeqItemAt hl rfl ?_)
 first
  | exact wpAny_bind (wpAny_pure (wpAny_pure ⟨.none,rfl,wpAny_pure hQ⟩))
  | exact wpAny_pure ⟨.none,rfl,wpAny_pure hQ⟩
theorem Vv {l:Addr} {items:Array Value} {n j:Nat} {k:Int} {t:Tok} {v:Value} {Q:Unit→Shared→Prop} (hl:s.heap.get? l=some { cls:=.type "list",data:=.seq items n })
  (h0:0≤k) (hfit:k < 2 ^ 63) (hkj:k.toNat=j) (hn:j < items.size) (hQ:Q () { s with heap:=s.heap.update l (Obj.mapSeq (·.setIfInBounds j v)) }) :
  wpAny (model prog w) A (setItem (.ref l) (.int k t) v) Q E s:=by
 have hL:s.heap.IsList l items:=⟨_,hl,rfl,n,rfl⟩
 unfold setItem
 try with_reducible refine wpAny_holding ?_
 first | refine wpAny_bind (wpAny_pure ?_) | skip
 refine wpAny_bind (wpAny_sequenceKey hL.typeIs (by decide) ?_)
 refine wpAny_bind (wpAny_callSpecial?_slot (name:=Str.ofString "__setitem__") hL.typeIs slot_list_setitem
  (wpAny_call_entry slot_list_setitem hL.typeIs entry_list_setitem ?_ (args_list_setitem _ _ _)))
 show wpAny _ _ (Builtin.List.listSubscript? (.int k t) >>= _) _ _ s
 refine wpAny_bind (wpAny_listSubscript_int (fitsIndex_of h0 hfit) ?_)
 clear hfit
 obtain ⟨j',rfl⟩:=Int.eq_ofNat_of_zero_le h0
 have hkj:j'=j:=hkj
 subst hkj
 have hx':items[j']?=some items[j']:=Array.getElem?_eq_getElem hn
 show wpAny _ _ ((seqItemAt l j' >>= fun r=>pure (r.map (j',·))) >>= _) _ _ s
 refine wpAny_bind (wpAny_bind (wpAny_seqItemAt hl rfl (wpAny_pure ?_)))
 rw [hx']
 refine wpAny_bind (wpAny_setSeqItemAt hl rfl ?_)
 first
  | exact wpAny_bind (wpAny_pure (wpAny_pure ⟨.none,rfl,wpAny_pure hQ⟩))
  | exact wpAny_pure ⟨.none,rfl,wpAny_pure hQ⟩
end
def Vw (td ty tv:TE):TS:=fun D σ H=>tv σ H fun v H1=>td σ H1 fun x H2=>ty σ H2 fun y H3=>∃ a xs i j,x=.ref a∧y=.int i∧H3 a=some (.lst xs)∧ixN xs.length i=some j∧(-1000≤i∧i≤1000)∧D.nx σ (upd H3 a (.lst (xs.set j v)))
theorem Vx {v:V} {u:Value} (r:RelV v u):∀ {xs:List V} {us:List Value},Vals xs us→∀ j:Nat,Vals (xs.set j v) (us.set j u)
 | _,_,.nil,_=>.nil
 | _,_,.cons _ t,0=>.cons r t
 | _,_,.cons a t,j + 1=>.cons a (Vx r t j)
section
variable {X:Cx} {o i value:Expr} {pos pos':Pos} {td ty tv:TE}
theorem zcs (ho:PE X o td) (hi:PE X i ty) (hv:PE X value tv) (hs:swapsWith value (some (.Subscript o i pos')) pos.line X.env=pure false) :
  PS X (.Assign [.Subscript o i pos'] value pos) (Vw td ty tv):=by
 intro pins s σ H D I h
 refine wpAny_Assign_Subscript (thn (hv pins s σ H _ I h) fun r s1 ⟨v,H1,I1,rv,q1⟩=>thn (ho pins s1 σ H1 _ I1 q1) fun u s2 ⟨x,H2,I2,rx,q2⟩=>thn (hi pins s2 σ H2 _ I2 q2) fun iv s3 ⟨y,H3,I3,ry,a,xs,k,j,ex,ey,ea,hj,hk,q3⟩=>?_) hs
 subst ex ey
 obtain rfl:u=Value.ref a:=rx
 obtain ⟨t,rfl⟩:=ry
 obtain ⟨z,its,n,rl,hl,e⟩:=I3.lstM ea
 have fin:SP X pins D .next { s3 with heap:=s3.heap.update a (Obj.mapSeq (·.setIfInBounds j r)) }:=⟨σ,_,I3.lset (its':=its.set j r) (t':=s3.toks) ea e (by simp) (Vx rv rl _) (by rw [List.length_set];exact z),q3⟩
 unfold ixN at hj
 by_cases h0:0≤k
 ·rw [if_pos h0] at hj
  split at hj
  ·rename_i h1
   cases hj
   exact Vv e h0 (by omega) rfl (by rw [List.size_toArray,← hl];omega) fin
  ·cases hj
 ·rw [if_neg h0] at hj
  split at hj
  ·rename_i h1
   cases hj
   refine Vu e (by omega) (by rw [List.size_toArray,← hl];exact h1) (by omega) ?_
   rw [List.size_toArray,← hl]
   exact fin
  ·cases hj
end
section
variable {X:Cx} {st:Stmt} {hs:List ExceptHandler} {pos:Pos} {tb:TS}
end
end L2
namespace L2
open PySem PySem.Spec PyProof.Rows
def zfs (K:W.Frag) (ta:TA):TI:=fun σ H R=>ta σ H fun vs H1=>∃ p q xs ys,vs=[.ref p,.ref q]∧xs.length=ys.length∧((SqL K H1 p xs∧SqL K H1 q ys∧R (zey K p q xs ys) H1)∨(SqT K H1 p xs∧SqT K H1 q ys∧R (Itz K p q xs ys) H1))
section
variable {X:Cx}
abbrev Wy (K:W.Frag):R2:=fun x y H Q=>∃ a b xs,x=.ref a∧y=.ref b∧SqL K H a xs∧SqL K H b []∧Q (.bl (!decide (xs=[]))) H
theorem zaT (hu:X.A.units + 64 < cLine):OpR X (compareOp .NotEq) (Wy X.K):=by
 intro pins s σ H x y v u Q I rx ry h
 obtain ⟨a,b,xs,rfl,rfl,ha,hb,q⟩:=h
 by_cases e:xs=[]
 ·subst e
  exact zdM hu pins s σ H _ _ v u Q I rx ry ⟨a,b,[],[],rfl,rfl,ha,hb,⟨rfl,rfl,rfl⟩,q⟩
 ·cases rx
  cases ry
  obtain ⟨us,r1,p1,_⟩:=I.list ha
  obtain ⟨ws,r2,p2,_⟩:=I.list hb
  cases r2
  have e1:=r1.length
  have e2:xs.length≠0:=fun z=>e (List.eq_nil_of_length_eq_zero z)
  rw [decide_eq_false e] at q
  exact PySem.SeqAt.RcNeAt.lists_lengths p1.isList p2.isList (by simp;intro z;rw [z] at e1;exact e2 e1) (by omega) X.prog X.w X.xe _ ⟨.bl true,H,I,rfl,q⟩
end
mutual
inductive zaU (H:Hp):V→PyData→Prop
 | int (i:Int):zaU H (.int i) (.int i)
 | str (x:Str):zaU H (.str x) (.str x)
 | lst {a:Addr} {xs:List V} {ds:List PyData}:H a=some (.lst xs)→Vy H xs ds→zaU H (.ref a) (.list ds)
 | tup {a:Addr} {xs:List V} {ds:List PyData}:H a=some (.tup xs)→Vy H xs ds→zaU H (.ref a) (.tuple ds)
inductive Vy (H:Hp):List V→List PyData→Prop
 | nil:Vy H [] []
 | cons {x:V} {d:PyData} {xs:List V} {ds:List PyData}:zaU H x d→Vy H xs ds→Vy H (x :: xs) (d :: ds)
end
end L2
namespace L2
open PySem
end L2
namespace L2
open PySem
abbrev zdj:RM:=zb0
end L2
namespace L2
open PySem PySem.Spec PyProof.Rows
abbrev zdS:RM:=zdC
abbrev zaV (K:W.Frag):RC:=fun xs H Q=>∃ a,∃ ns:List Int,xs=[.ref a]∧SqL K H a (ns.map V.int)∧Q (.int ns.sum) H
abbrev zft (K:W.Frag):RC:=fun xs H Q=>∃ a,∃ ns:List Int,xs=[.ref a]∧SqL K H a (ns.map V.int)∧0 < ns.length∧∀ M,M∈ns→(∀ x∈ns,x≤M)→Q (.int M) H
section
variable {X:Cx}
theorem Qp (hc:X.calm=true):vq X (.builtin "sum") (zaV X.K):=by
 intro pins s σ H xs us Q I r h
 obtain ⟨a,ns,rfl,hq,q⟩:=h
 obtain ⟨u,rfl,r1⟩:=wV r
 cases r1
 obtain ⟨its,rv,p,hz⟩:=I.list hq
 have hi:IntsAre its ns:=Ji rv
 obtain ⟨ys,hx⟩:=hi.allInts.items
 have hl':s.heap.IsList a (intItems ys):=hx ▸ p.isList
 refine sum_intListG (I.ok.hd hc) hl' fun h' tk t' hk=>?_
 have e1:ns=ys.toList.map (·.1):=by
  rw [← nums_intItems,← hx]
  exact (show numsOf its.toArray.toList=ns from hi.numsOf).symm
 have e2:preSum (numAt ys) ys.size=ns.sum:=by
  rw [preSum_eq,List.take_of_length_le (by simp),e1]
 rw [e2]
 exact ⟨.int ns.sum,H,I.kept hk,⟨_,rfl⟩,q⟩
end
end L2
namespace L2
open PySem PySem.Spec PyProof.Rows
abbrev zfu:RC:=fun xs H Q=>∃ i j,xs=[.int i,.int j]∧Q (.int (if j > i then j else i)) H
abbrev zf3 (K:W.Frag) (neg:Bool):R2:=fun x y H Q=>∃ (p:Addr) (xs:List V) (d:PyData) (ds:List PyData),y=.ref p∧(SqL K H p xs∨SqT K H p xs)∧Dat K H x d∧DatAll K H xs ds∧(zZ d=true∧d.depth≤50∧∀ e∈ds,zZ e=true) ∧
 ∀ b:Bool,(b=true↔d∈ds)→Q (.bl (if neg then !b else b)) H
section
variable {X:Cx}
open Classical in
noncomputable def zf4 (K:PySem.W.Frag) (H:Hp) (d:PyData) (u:Value):Bool:=decide (∃ x,RelV x u∧Dat K H x d)
open Classical in
end
abbrev zfv (K:W.Frag):RC:=fun vs H Q=>∃ r xs its,vs=[.ref r]∧SqL K H r xs∧Paired (ZM H) xs its∧(its.map (·.1)).Nodup∧its.length < 64 ∧
 ∀ l ys srt H',Same H H'→H l=none→H' l=some (.lst ys)→Paired (ZM H') ys srt→vJ srt→srt.Perm its→Q (.ref l) H'
section
variable {X:Cx}
end
def Cb (i:Int):Prop:=Builtin.Int.intBits i≤1048576
theorem Cb.of {i:Int} (h:i.natAbs < 2 ^ 64):Cb i:=Nat.le_trans (intBits_le_iff.mpr h) (by decide)
def Cw (i:Int):Prop:=Builtin.Int.intBits i≤4000000
theorem Cb.w {i:Int} (h:Cb i):Cw i:=Nat.le_trans h (by decide)
theorem Cw.div {i k:Int} (h:Cw i):Cw (i / k):=intBits_le_of_natAbs (Int.natAbs_ediv_le_natAbs i k) h
def CMulC (i j:Int):Prop:=Cw i∧Cw j
theorem CMulC.ok {i j:Int} (h:CMulC i j):IntMulOk i j:=by
 unfold IntMulOk
 have h1:Builtin.Int.intBits i≤4000000:=h.1
 have h2:Builtin.Int.intBits j≤4000000:=h.2
 have e:Builtin.Int.intTooBig ((Builtin.Int.intBits i:Int) + (Builtin.Int.intBits j:Int))=false:=by
  unfold Builtin.Int.intTooBig
  rw [decide_eq_false_iff_not]
  have:(bitsLine:Int)=134217728:=by decide
  omega
 rw [e];simp
section
variable {X:Cx}
theorem Wz:OpR X (binaryOp .Mult) (rI CMulC fun i j=>.int (i * j)):=opI fun _ _ _ _ _ _ _ hc q=>mul_int q hc.ok
end
open Att PySem.W PySem.Calls in
theorem zaW {l:W.OpenLaw} {n k:Nat} {q:Program} {loose:List Str} {XP:(Str→Option Value)→Heap→Prop} {YP:World→Heap→Prop} {d:DefRec} {K:Params→W.Frag} {CX:World→CXT} {sp:World→Sp} {x:Str}
  (hn:l.most=some n) (hn2:n≤sizeLine) (hdf:d.params.defaults=[]) (hr:Room k callerA) (hY:∀ (w:World) (h:Heap),YP w h→(K w.params).In h)
  (F:∀ (w:World) (mg:Str→Option Value) (fa:Addr) (h:Heap),(K w.params).In h→h.Ns mainGlobals mg→mg d.name=some (.ref fa) →
   ∃ fd:FuncData,(∀ (s:Shared) (u:Value),BindsTo s fd ⟨[u],[]⟩ [(x,u)]) ∧
    ∀ base:Heap,(K w.params).In base→base.Ns mainGlobals mg→FnOk l.prog w (K w.params) mg base (CX w) k fa fd [x] (sp w))
  (hsp:∀ (w:World) (H:Hp) (a:Addr) (ns:List Int),ns.length≤n→(∀ i∈ns,Cb i)→Jk H→SqL (K w.params) H a (ns.map V.int)→sp w [.ref a] H (fun v _=>v=.bl true) fun _ _ _=>False)
  (hCX:∀ (w:World) (H:Hp) (s:Shared) (e:Value) (s':Shared),CX w [] H s (fun _ _ _=>False) e s'→False) :
  W.WalkO q loose XP YP l.row.toRowW d [] (fun f vs=>PySem.call f vs):=by
 intro w s₀ s₁ mg mb G Y fa o pm cd doc dV kV ho hd hcd hD hmg hg args vals as hpre hlay hrd hwl hlo
 obtain rfl:dV=.none:=Dflts.none hD hdf
 obtain rfl:kV=.none:=Dflts.noKw hD
 obtain ⟨a,vs,ns,rfl,rfl,hobj,hints,hlen⟩:=Xy hn hpre hwl
 have hb:∀ i∈ns,Cb i:=fun i hi=>intBits_le_of_layable (layable_of_mem (lay0_int (layableW_item (layableW_arg hlay _ List.mem_cons_self) _ (List.mem_map.mpr ⟨i,hi,rfl⟩))) List.mem_cons_self)
 have KX:=hY w _ Y
 obtain ⟨fd,hbd,hF⟩:=F w mg fa _ KX G.T.g hmg
 refine enter_call (codeAny_mono (W8 KX G.T.g G.T.b G.T.builtins G.T.nolimit hg hobj hints (Nat.le_trans hlen hn2) hr hF hbd (fun H hO hS=>hsp w H a ns hlen hb hO hS) fun H e s'=>hCX w H s₁ e s') fun r s' hq=>?_)
 obtain ⟨rfl,h2,h3,h4⟩:=hq
 exact ⟨.inl ⟨.bool true,.bool true,[],rfl,fun _=>rfl,.bool true,Xz l _,fun _=>⟨List.Pairwise.nil,fun _ hm=>(nomatch hm)⟩⟩,h2,h3,h4⟩
theorem walk_ofXB {l:W.OpenLaw} {n k:Nat} {q:Program} {loose:List Str} {XP:(Str→Option Value)→Heap→Prop} {YP:World→Heap→Prop} {d:DefRec} {K:Params→W.Frag} {sp:W.Frag→Sp} {x:Str}
  (hn:l.most=some n) (hn2:n≤sizeLine) (hdf:d.params.defaults=[]) (hr:Room k callerA) (hY:∀ (w:World) (h:Heap),YP w h→(K w.params).In h)
  (F:∀ (w:World) (mg:Str→Option Value) (fa:Addr) (h:Heap),(K w.params).In h→h.Ns mainGlobals mg→mg d.name=some (.ref fa) →
   ∃ fd:FuncData,(∀ (s:Shared) (u:Value),BindsTo s fd ⟨[u],[]⟩ [(x,u)]) ∧
    ∀ base:Heap,(K w.params).In base→base.Ns mainGlobals mg→FnOk l.prog w (K w.params) mg base (CX1 l.prog w) k fa fd [x] (sp (K w.params)))
  (hsp:∀ (K:W.Frag) (H:Hp) (a:Addr) (ns:List Int),ns.length≤n→(∀ i∈ns,Cb i)→Jk H→SqL K H a (ns.map V.int)→sp K [.ref a] H (fun v _=>v=.bl true) fun _ _ _=>False) :
  W.WalkO q loose XP YP l.row.toRowW d [] (fun f vs=>PySem.call f vs) :=
 zaW (K:=K) (CX:=fun w=>CX1 l.prog w) (sp:=fun w=>sp (K w.params)) hn hn2 hdf hr hY F (fun w H a ns h1 hb h2 h3=>hsp (K w.params) H a ns h1 hb h2 h3) fun _ _ _ _ _ z=>by
  obtain ⟨_,_,_,_,_,_,_,_,_,y⟩:=z
  exact y
end L2
namespace L2
open PySem PySem.Spec PyProof.Rows
def Itk (a:Addr) (o:Obj) (kvs:List (Key × V)):It :=
 ⟨fun i H=>H a=some (.frz o (.dK kvs))∧i < kvs.length,fun i H x H'=>H'=H∧∃ k v,kvs[i]?=some (k,v)∧x=kV k,fun i H=>H a=some (.frz o (.dK kvs))∧kvs.length≤i⟩
section
variable {X:Cx}
def iDK (tl:TE):TI:=fun σ H R=>tl σ H fun x H1=>∃ a o kvs,x=.ref a∧H1 a=some (.frz o (.dK kvs))∧R (Itk a o kvs) H1
end
section
variable {σ:St} {H:Hp} {nx:St→Hp→Prop} {B:V→St→Hp→(St→Hp→Prop)→Prop}
end
end L2
namespace L2
open PySem PySem.Spec PyProof.Rows
def Yr (H:Hp) (v:V) (q:Pl):Prop:=∃ p,v=.ref p∧H p=some (.tup [.str q.1,.int q.2])
abbrev zfw (K:W.Frag):RC:=fun vs H Q=>∃ r xs its,vs=[.ref r]∧SqL K H r xs∧Paired (Yr H) xs its∧its.Nodup∧its.length < 64 ∧
 ∀ l ys srt H',Same H H'→H l=none→H' l=some (.lst ys)→Paired (Yr H') ys srt→srt.Pairwise (fun a b=>ya a b=true)→srt.Perm its→Q (.ref l) H'
section
variable {X:Cx}
end
end L2
namespace L2
open PySem PySem.Spec PyProof.Rows
section
variable {K:Type} [DecidableEq K]
end
section
variable {prog:Program} {w:World} {K:Type} [DecidableEq K] {knd:HeapKind prog w K} {A:Around} {E:Value→Shared→Prop} {s:Shared} {d a:Addr} {xs:List (K × Addr × Value)} {k:K}
end
section
variable {X:Cx} {pins:List (Addr × Obj)} {σ:St} {H:Hp} {s:Shared} {a b:Addr} {kvs:List (List Key × V)} {k:List Key} {A:Around} {E:Value→Shared→Prop}
end
def ze4 (td ty:TE):TE:=fun σ H Q=>td σ H fun x H1=>∃ a,x=.ref a∧IsD H1 a∧ty σ H1 fun y H2=>∃ kvs k b v,H2 a=some (.dT kvs)∧y=.ref b∧H2 b=some (.tup (k.map kV))∧yU kvs k=some v∧Q v (upd H2 a (.dT (Xv kvs k)))
def ze5 (td ty tx:TE):TE:=fun σ H Q=>td σ H fun x H1=>∃ a,x=.ref a∧IsD H1 a∧ty σ H1 fun y H2=>tx σ H2 fun z H3=>∃ kvs k b,H3 a=some (.dT kvs)∧y=.ref b∧H3 b=some (.tup (k.map kV))∧kvs.length < sizeLine ∧
 (∀ v,yU kvs k=some v→Q v H3)∧(yU kvs k=none→Q z (upd H3 a (.dT (wW kvs k z))))
section
variable {X:Cx} {o e f:Expr} {apos cpos:Pos} {td ty tx:TE}
end
abbrev zdk:RM:=fun x vs H Q=>∃ (l:Addr) (xs:List V) (k:Nat) (y:V),x=.ref l∧vs=[.int k,y]∧H l=some (.lst xs)∧k≤xs.length∧xs.length < 1000000∧Q .non (upd H l (.lst (xs.take k ++ y :: xs.drop k)))
abbrev zdl:RM:=fun x vs H Q=>∃ (l:Addr) (ns:List Int) (i:Int),x=.ref l∧vs=[.int i]∧H l=some (.lst (ns.map V.int))∧i∈ns∧Q .non (upd H l (.lst ((ns.erase i).map V.int)))
section
variable {X:Cx}
end
def ze6 (H:Hp) (y:V) (kv:List Key × V):Prop:=∃ p,y=.ref p∧H p=some (.tup (kv.1.map kV))
abbrev zfx:RC:=fun vs H Q=>∃ a kvs,vs=[.ref a]∧H a=some (.dT kvs)∧∀ l ys,H l=none→Paired (ze6 H) ys kvs→Q (.ref l) (upd H l (.lst ys))
abbrev zfy:RC:=fun vs H Q=>∃ a kvs,vs=[.ref a]∧H a=some (.dT kvs)∧Q (.int (kvs.length:Nat)) H
section
variable {X:Cx}
end
end L2
namespace L2
open PySem PySem.Spec PyProof.Rows
section
variable {X:Cx} {c:Expr} {s₁ s₂:Stmt} {tc:TT} {t1 t2:EXK→TS} {pos:Pos}
end
section
variable {X:Cx} {e:Expr} {te:TE} {a b:Str} {j k:Nat} {p1 p2 p3 p4:Pos}
end
end L2
namespace L2
open PySem PySem.Spec PyProof.Rows
section
variable {P:Program} {w:World} {K:W.Frag} {mg:Str→Option Value} {base:Heap} {x qual:Str} {st:Stmt} {f:Addr} {fd:FuncData} {N ps:List Str} {k:Nat} {sp:Sp}
end
section
variable {X:Cx} {o value:Expr} {f:Str} {pos pos':Pos} {ta:TE} {tx:EXK→TE}
def zfz (K:W.Frag) (ta:TE) (tx:EXK→TE) (f:Str) (EX:EXK):TS:=zeM K ta (tx EX) f
end
def zfA (K:W.Frag) (tb:EXK→TS) (C1 C2:Addr) (th:TS):TS:=fun D σ H=>tb (fun cls σ1 H1=>∃ C,cls=.ref C∧W.exmAny K (.ref C) [.ref C1,.ref C2]=some true∧th D σ1 H1) D σ H
section
variable {X:Cx} {st b₀:Stmt} {suite:List Stmt} {tb:EXK→TS} {th:TS} {c1 c2:Str} {C1 C2:Addr} {np np2 hpos tpos pos:Pos} {x1:Nat}
end
section
variable {X:Cx} {CX:CXT} {k:Nat} {f C:Addr} {fd:FuncData} {ps:List Str} {sp:Sp} {dvs:List V} {E:XK} {m:Str} {pos apos:Pos} {o:Expr} {ta:TE}
end
end L2
namespace L2
open PySem PySem.Spec PyProof.Rows
abbrev zf5:R2:=fun x y H Q=>∃ a b p r,x=.ref a∧y=.ref b∧H a=some (.tup [.str p.1,.int p.2])∧H b=some (.tup [.str r.1,.int r.2])∧Q (.bl (ya p r)) H
section
variable {X:Cx}
open PySem.SeqAt
open PySem.AutoSeq1 (wpAny_loadPart')
open PySem.MeetsSeq PySem.MeetsSeq2 PySem.MeetsSeq3
end
end L2
namespace L2
open PySem PySem.Spec PyProof.Rows
def ze7 (C:Addr):TE:=fun _ H Q=>∀ x dx,H x=none→H dx=none→dx≠x→Q (.ref x) (upd (upd H dx (.own x)) x (.ins C dx []))
section
variable {X:Cx} {C:Addr} {x:Str} {p pos:Pos}
end
def ze8 (L:List (Addr × Sp)) (m:Str) (E:XK) (ta:TE) (t:TA):TE:=fun σ H Q=>ta σ H fun x H1=>∃ a dx fs C sp,x=.ref a∧H1 a=some (.ins C dx fs)∧fs.lookup m=none∧(C,sp)∈L∧t σ H1 fun vs H2=>sp (x :: vs) H2 Q E
section
variable {X:Cx} {CX:CXT} {E:XK} {m:Str} {pos apos:Pos} {e o:Expr} {es:List Expr} {ta:TE} {t:TA} {L:List (Addr × Sp)} {C:Addr} {sp:Sp}
end
structure ze9 (K:W.Frag) (C:Addr):Prop where
 cl:Cls K C
 ha:W.findIn K (.ref C) "__class__"=some (some (.builtin "object.__class__"))
 hn:W.specialIn K (.builtin "object.__class__") "__get__"=some (some (.builtin "getset_descriptor.__get__"))
 tk:W.takesIn K (.builtin "object.__class__")=some true
 hm:W.mroIn K C (.type "object")=some true
abbrev zf6 (K:W.Frag):RC:=fun xs H Q=>∃ a C dx fs D b,xs=[.ref a,.ref D]∧H a=some (.ins C dx fs)∧ze9 K C∧W.kitOne K (.ref C) (.ref D)=some b∧Q (.bl b) H
section
variable {X:Cx}
end
end L2
namespace L2
open PySem PySem.Spec PyProof.Rows
abbrev zaX (K:W.Frag):RC:=fun xs H Q=>∃ (a:Addr) (bs:List Bool),xs=[.ref a]∧SqL K H a (bs.map V.bl)∧Q (.bl (bs.any id)) H
section
variable {X:Cx}
theorem Qq (hc:X.calm=true):vq X (.builtin "any") (zaX X.K):=by
 intro pins s σ H xs us Q I r h
 obtain ⟨a,bs,rfl,hq,q⟩:=h
 obtain ⟨u,rfl,r1⟩:=wV r
 cases r1
 obtain ⟨its,rv,p,hz⟩:=I.list hq
 have hl:=rv.length
 rw [List.length_map] at hl
 have hne:a≠s.heap.objs.size:=by
  obtain ⟨o,n,e,_⟩:=p
  exact Nat.ne_of_lt (Heap.lt_size e)
 refine call_any_walk (wpAny_pyIter_list p.isList ?_)
 refine ⟨s.heap.objs.size,_,_,its.toArray.size,fun i v=>its.toArray[i]?=some v,_,fun i=>bs.getD i false,rfl,Walks.list (A:=X.A.in1) (I.ok.hd hc) _ a hne its.toArray,?_,?_,fun h' tk k=>?_⟩
 ·exact ⟨⟨_,Heap.get?_push_size _ rfl,rfl,rfl⟩,p.isList.at fun o e=>Heap.get?_push_of_some _ e⟩
 ·intro i v s' Q' E' hv hQ
  have hv':its[i]?=some v:=by simpa using hv
  have hi:i < bs.length:=by
   rw [hl]
   exact (List.getElem?_eq_some_iff.mp hv').1
  obtain ⟨u',hu,ru⟩:=rv.get (i:=i) (x:=V.bl bs[i]) (by simp [hi])
  rw [hv'] at hu
  cases hu
  cases ru
  have e:bs.getD i false=bs[i]:=by simp [hi]
  have hQ':Q' (bs.getD i false) s':=hQ
  rw [e] at hQ'
  exact wpAny_truthy_bool hQ'
 ·have e:(List.range its.toArray.size).any (fun i=>bs.getD i false)=bs.any id:=by
   rw [List.size_toArray,← hl]
   have:bs.map id=(List.range bs.length).map fun i=>bs.getD i false:=by
    apply List.ext_getElem?
    intro i
    by_cases hi:i < bs.length <;> simp [hi]
   have h2:bs.any id=(bs.map id).any id:=by simp
   rw [h2,this,List.any_map]
   rfl
  rw [e]
  refine ⟨.bl (bs.any id),H,?_,rfl,q⟩
  exact I.kept fun b o e=>k b o (by
   have:=Nat.ne_of_lt (Heap.lt_size e)
   simpa using this) (Heap.get?_push_of_some _ e)
end
def zfB (te ts:TE):TE:=fun σ H Q=>te σ H fun x H1=>ts σ H1 fun k H2=>∃ z y,x=.str z∧k=.int (-1)∧z.length≤sizeLine∧(∀ u,Txt.sliceBy z none none (-1,u)=y)∧Q (.str y) H2
section
variable {X:Cx} {e st:Expr} {p2 pos:Pos} {te ts:TE}
end
section
variable {P:Program} {w:World} {A:Around} {E:Value→Shared→Prop} {s:Shared}
end
def zfC (K:W.Frag) (ta:TA):TE:=fun σ H Q=>ta σ H fun vs H1=>∃ a xs,vs=[.ref a]∧SqL K H1 a xs∧∀ l,H1 l=none→Q (.ref l) (upd H1 l (.lst xs.reverse))
section
variable {X:Cx} {a:Expr} {ta:TA} {p p2 pos pos2:Pos}
end
end L2
namespace L2
open PySem PySem.Spec PyProof.Rows
abbrev zfD:RC:=fun vs H Q=>∃ a kvs,vs=[.ref a]∧H a=some (.dK kvs)∧Q (.int (kvs.length:Nat)) H
section
variable {X:Cx}
end
end L2
namespace L2
open PySem PySem.Spec PyProof.Rows
section
variable {X:Cx} {CX:CXT} {k:Nat} {f C:Addr} {fd:FuncData} {ps:List Str} {sp:Sp} {dvs:List V} {E:XK} {x:Str} {p pos:Pos} {e:Expr} {es:List Expr} {t:TA}
end
section
variable {X:Cx} {e:Expr} {te:TE} {a:Str} {j:Nat} {p1 p2 p3:Pos}
end
section
variable {X:Cx} {st b₀:Stmt} {suite:List Stmt} {tb:EXK→TS} {th1:TS} {c1:Str} {C1:Addr} {np hpos pos:Pos}
end
end L2
namespace L2
open PySem PySem.Spec PyProof.Rows
section
variable {X:Cx} {tg:Expr}
def zf7 (K:W.Frag) (tl:TE):TI:=fun σ H R=>tl σ H fun x H1=>∃ a,x=.ref a∧(((∃ xs,SqL K H1 a xs)∧R (Itl K a) H1)∨((∃ xs,SqT K H1 a xs)∧R (Itt K a) H1))
end
end L2
namespace HT
open PySem PySem.Spec PyProof.Rows
section
variable {prog:Program} {w:World} {A:Around} {E:Value→Shared→Prop} {s:Shared}
end
end HT
namespace L2
open PySem PySem.Spec PyProof.Rows
section
variable {X:Cx}
def zfE (K:W.Frag):V→Option Int→Option Int→Hp→VK→Prop:=fun x lo hi H Q=>∃ a xs,x=.ref a∧SqT K H a xs ∧
 ((HT.sIx xs.length 0 lo=0∧HT.sIx xs.length xs.length hi=xs.length)→Q (.ref a) H)∧(¬ (HT.sIx xs.length 0 lo=0∧HT.sIx xs.length xs.length hi=xs.length)→∀ p,H p=none→Q (.ref p) (upd H p (.tup (yM xs lo hi))))
end
end L2
namespace L2
open PySem PySem.Spec PyProof.Rows
def zfa (K:W.Frag) (te ts:TE):TE:=fun σ H Q=>te σ H fun x H1=>ts σ H1 fun k H2=>∃ a xs,x=.ref a∧k=.int (-1)∧SqL K H2 a xs∧∀ p,H2 p=none→Q (.ref p) (upd H2 p (.lst xs.reverse))
section
variable {X:Cx} {e st:Expr} {p2 pos:Pos} {te ts:TE}
end
end L2
namespace L2
open PySem
section
variable {P:Program} {w:World} {A:Around} {E:Value→Shared→Prop} {s:Shared}
end
end L2
namespace L2
open PySem PySem.Spec PyProof.Rows
def Itm (a:Addr) (o:Obj) (kvs:List (List Key × V)):It :=
 ⟨fun i H=>H a=some (.frz o (.dT kvs))∧i < kvs.length,fun i H x H'=>∃ T k v p,kvs[i]?=some (k,v)∧x=.ref T∧H T=none∧H p=some (.tup (k.map kV))∧H'=upd H T (.tup [.ref p,v]),fun i H=>H a=some (.frz o (.dT kvs))∧kvs.length≤i⟩
section
variable {X:Cx}
def zf8 (td:TE):TI:=fun σ H R=>td σ H fun x H1=>∃ a o kvs,x=.ref a∧H1 a=some (.frz o (.dT kvs))∧R (Itm a o kvs) H1
end
end L2
namespace L2
open PySem PySem.Spec PySem.W PyProof.Rows
abbrev zfF (K:W.Frag):RC:=fun vs H Q=>∃ r ns,vs=[.ref r]∧SqL K H r (List.map V.int ns)∧ns.length < 64 ∧
 ∀ (l:Addr) (srt:List Int),H l=none→srt.Perm ns→(ns.Nodup→srt.Pairwise (· < ·))→Q (.ref l) (upd H l (.lst (srt.map V.int)))
section
variable {X:Cx}
end
def zfG (ta:TA):TE:=fun σ H Q=>ta σ H fun vs H1=>∃ n:Nat,vs=[.int n]∧n≤1000∧∀ l,H1 l=none→Q (.ref l) (upd H1 l (.lst ((List.range n).map fun i=>V.int (i:Nat))))
section
variable {X:Cx} {a:Expr} {ta:TA} {p p2 pos pos2:Pos}
end
end L2
namespace L2
open PySem PySem.Spec PySem.W PyProof.Rows PySem.Calls
abbrev zfH:R2:=fun x y H Q=>∃ a b kvs,x=.ref a∧y=.ref b∧H a=some (.dT kvs)∧H b=some (.dK [])∧Q (.bl (decide (kvs.length=0))) H
section
variable {X:Cx}
end
end L2
namespace L2
open PySem
def lcN (m i:Nat):Nat:=(i * 5 + 1) % (m + 1)
def itN (m:Nat):Nat→Nat→Nat
 | 0,x=>x
 | k + 1,x=>itN m k (lcN m x)
def orN (m:Nat):Nat→Nat→List Nat
 | 0,x=>[x]
 | k + 1,x=>x :: orN m k (lcN m x)
theorem ZX (m:Nat):∀ (a b x:Nat),itN m (a + b) x=itN m b (itN m a x)
 | 0,b,x=>by rw [Nat.zero_add];rfl
 | a + 1,b,x=>by rw [Nat.add_right_comm];exact ZX m a b (lcN m x)
theorem Kt (m:Nat):∀ (k x e:Nat),e∈orN m k x→∃ b,b≤k∧itN m b x=e
 | 0,x,e,h=>⟨0,Nat.le_refl _,(List.mem_singleton.mp h).symm⟩
 | k + 1,x,e,h=>by
  rcases List.mem_cons.mp h with rfl | h
  ·exact ⟨0,Nat.zero_le _,rfl⟩
  ·obtain ⟨b,hb,e⟩:=Kt m k _ e h
   exact ⟨b + 1,by omega,e⟩
def vK (m:Nat):Prop:=m=7∨m=31∨m=127
theorem zct {m:Nat} (hm:vK m):(∀ e,e≤m→∃ b,b≤m∧itN m b 0=e)∧itN m (m + 1) 0=0:=by
 have key:∀ n,((List.range (n + 1)).all fun e=>(orN n n 0).contains e)=true→∀ e,e≤n→∃ b,b≤n∧itN n b 0=e:=fun n h e he=>by
  have:=List.all_eq_true.mp h e (List.mem_range.mpr (by omega))
  exact Kt n n 0 e (by simpa using this)
 rcases hm with rfl | rfl | rfl
 ·exact ⟨key 7 (by decide +kernel),by decide +kernel⟩
 ·exact ⟨key 31 (by decide +kernel),by decide +kernel⟩
 ·exact ⟨key 127 (by decide +kernel),by decide +kernel⟩
theorem Qr {m x e:Nat} (hm:vK m) (hx:x≤m) (he:e≤m):∃ k,k≤m∧itN m k x=e:=by
 obtain ⟨all,per⟩:=zct hm
 obtain ⟨a,ha,rfl⟩:=all x hx
 obtain ⟨b,hb,rfl⟩:=all e he
 by_cases c:a≤b
 ·exact ⟨b - a,by omega,by rw [← ZX,show a + (b - a)=b by omega]⟩
 ·refine ⟨b + (m + 1) - a,by omega,?_⟩
  rw [← ZX,show a + (b + (m + 1) - a)=(m + 1) + b by omega,ZX,per]
def lpN (m:Nat):Nat→Nat × Nat→Nat × Nat
 | 0,x=>x
 | k + 1,x=>lpN m k (SetTable.leap m x.1 x.2)
theorem WA (m:Nat):∀ (a b:Nat) (x:Nat × Nat),lpN m (a + b) x=lpN m b (lpN m a x)
 | 0,b,x=>by rw [Nat.zero_add];rfl
 | a + 1,b,x=>by rw [Nat.add_right_comm];exact WA m a b _
theorem Ku (m:Nat):∀ (k:Nat) (x:Nat × Nat),(lpN m k x).2=x.2 / 32 ^ k
 | 0,x=>by simp [lpN]
 | k + 1,x=>by
  show (lpN m k (SetTable.leap m x.1 x.2)).2=_
  rw [Ku m k]
  show x.2 / 32 / 32 ^ k=_
  rw [Nat.div_div_eq_div_mul,Nat.pow_succ,Nat.mul_comm]
theorem zaY (m:Nat):∀ (k:Nat) (x:Nat × Nat),x.1≤m→(lpN m k x).1≤m
 | 0,x,h=>h
 | k + 1,x,h=>zaY m k _ (Nat.le_of_lt_succ (Nat.mod_lt _ (Nat.succ_pos m)))
theorem Vz (m:Nat):∀ (k i:Nat),lpN m k (i,0)=(itN m k i,0)
 | 0,i=>rfl
 | k + 1,i=>by
  show lpN m k (SetTable.leap m i 0)=_
  exact Vz m k (lcN m i)
theorem XW {m e:Nat} {x:Nat × Nat} (hm:vK m) (h1:x.1≤m) (h2:x.2 < 2 ^ 64) (he:e≤m):∃ k,1≤k∧k≤m + 13∧(lpN m k x).1=e:=by
 have z:(lpN m 13 x).2=0:=by rw [Ku];exact Nat.div_eq_of_lt (Nat.lt_of_lt_of_le h2 (by decide))
 have l:=zaY m 13 x h1
 obtain ⟨k,hk,e1⟩:=Qr (x:=(lpN m 13 x).1) hm l he
 refine ⟨13 + k,by omega,by omega,?_⟩
 rw [WA,show lpN m 13 x=((lpN m 13 x).1,0) from Prod.ext rfl z,Vz]
 exact e1
section
variable {t:SetTable}
def yg (t:SetTable):Nat→SetTable.Probe→SetTable.Probe
 | 0,p=>p
 | k + 1,p=>yg t k (t.advance p)
theorem xR (t:SetTable):∀ (a b:Nat) (p:SetTable.Probe),yg t (a + b) p=yg t b (yg t a p)
 | 0,b,x=>by rw [Nat.zero_add];rfl
 | a + 1,b,x=>by rw [Nat.add_right_comm];exact xR t a b _
structure PbOk (t:SetTable) (p:SetTable.Probe):Prop where
 more:p.more≤9
 i:p.i≤t.mask
 pt:p.perturb < 2 ^ 64
 dm:p.dummy=none
theorem WB (m i:Nat):SetTable.runEnd m i - i≤9:=by unfold SetTable.runEnd;split <;> omega
theorem jD {p:SetTable.Probe} (h:0 < p.more):t.advance p={ p with j:=p.j + 1,more:=p.more - 1 }:=by
 unfold SetTable.advance
 rw [if_pos h]
theorem Zc {p:SetTable.Probe} (h:p.more=0):t.advance p={ p with j:=(SetTable.leap t.mask p.i p.perturb).1,more:=SetTable.runEnd t.mask (SetTable.leap t.mask p.i p.perturb).1 - (SetTable.leap t.mask p.i p.perturb).1,i:=(SetTable.leap t.mask p.i p.perturb).1,perturb:=(SetTable.leap t.mask p.i p.perturb).2 }:=by
 unfold SetTable.advance
 rw [if_neg (by omega)]
theorem PbOk.adv {p:SetTable.Probe} (h:PbOk t p):PbOk t (t.advance p):=by
 by_cases c:0 < p.more
 ·rw [jD c]
  exact ⟨by have:=h.more;show p.more - 1≤9;omega,h.i,h.pt,h.dm⟩
 ·rw [Zc (by omega)]
  refine ⟨WB _ _,Nat.le_of_lt_succ (Nat.mod_lt _ (Nat.succ_pos _)),?_,h.dm⟩
  show p.perturb / 32 < 2 ^ 64
  exact Nat.lt_of_le_of_lt (Nat.div_le_self _ _) h.pt
theorem WC:∀ (n:Nat) (p:SetTable.Probe),p.more=n→(yg t (n + 1) p).j=(SetTable.leap t.mask p.i p.perturb).1∧(yg t (n + 1) p).i=(SetTable.leap t.mask p.i p.perturb).1∧(yg t (n + 1) p).perturb=(SetTable.leap t.mask p.i p.perturb).2∧(yg t (n + 1) p).more≤9
 | 0,p,h=>by
  show (t.advance p).j=_∧(t.advance p).i=_∧(t.advance p).perturb=_∧(t.advance p).more≤9
  rw [Zc h]
  exact ⟨rfl,rfl,rfl,WB _ _⟩
 | n + 1,p,h=>by
  have:=WC n (t.advance p) (by rw [jD (by omega)];show p.more - 1=n;omega)
  rw [jD (by omega)] at this
  rw [show n + 1 + 1=(n + 1) + 1 from rfl]
  show (yg t (n + 1) (t.advance p)).j=_∧(yg t (n + 1) (t.advance p)).i=_∧(yg t (n + 1) (t.advance p)).perturb=_∧(yg t (n + 1) (t.advance p)).more≤9
  rw [jD (by omega)]
  exact this
theorem XX:∀ (k:Nat) (p:SetTable.Probe),p.more≤9→∃ n,n≤10 * (k + 1)∧(yg t n p).j=(lpN t.mask (k + 1) (p.i,p.perturb)).1∧(yg t n p).i=(lpN t.mask (k + 1) (p.i,p.perturb)).1∧(yg t n p).perturb=(lpN t.mask (k + 1) (p.i,p.perturb)).2∧(yg t n p).more≤9
 | 0,p,h=>by
  obtain ⟨a,b,c,d⟩:=WC (t:=t) p.more p rfl
  exact ⟨p.more + 1,by omega,a,b,c,d⟩
 | k + 1,p,h=>by
  obtain ⟨n,hn,a,b,c,d⟩:=XX k p h
  obtain ⟨a',b',c',d'⟩:=WC (t:=t) (yg t n p).more (yg t n p) rfl
  have e:lpN t.mask (k + 1 + 1) (p.i,p.perturb)=SetTable.leap t.mask (yg t n p).i (yg t n p).perturb:=by
   rw [WA,b,c];rfl
  refine ⟨n + ((yg t n p).more + 1),by omega,?_⟩
  rw [xR,e]
  exact ⟨a',b',c',d'⟩
theorem Qs {p:SetTable.Probe} {e:Nat} (hm:vK t.mask) (h:PbOk t p) (he:e≤t.mask):∃ n,n < 10 * SetTable.turns t.mask∧(yg t n p).j=e:=by
 obtain ⟨k,k1,k2,e1⟩:=XW (x:=(p.i,p.perturb)) hm h.i h.pt he
 obtain ⟨n,hn,a,_⟩:=XX (t:=t) (k - 1) p h.more
 rw [show k - 1 + 1=k by omega] at a hn
 exact ⟨n,by unfold SetTable.turns;omega,a.trans e1⟩
theorem VA (j:Nat):SetTable.has #[] j=false:=by unfold SetTable.has;simp
theorem Kv {j:Nat} (hd:t.dummies=#[]):t.slot j≠.dummy:=by
 unfold SetTable.slot
 dsimp only
 split
 ·exact fun z=>nomatch z
 ·rw [hd,VA]
  exact fun z=>nomatch z
theorem Qt {j i:Nat} (h:t.slot j=.live i):t.place[i]?=some j:=by
 unfold SetTable.slot at h
 dsimp only at h
 split at h
 ·rename_i c
  cases h
  simpa using c
 ·split at h <;> cases h
theorem Qu (hd:t.dummies=#[]) (hn:t.place.size≤t.mask):∃ e,e≤t.mask∧t.slot e=.empty:=by
 apply Classical.byContradiction
 intro z
 have all:∀ e,e≤t.mask→e∈t.place.toList:=fun e he=>by
  cases c:t.slot e with
  | empty=>exact absurd ⟨e,he,c⟩ z
  | dummy=>exact absurd c (Kv hd)
  | live i =>
   have:=Qt c
   rw [← Array.getElem?_toList] at this
   exact List.mem_of_getElem? this
 have:=List.Nodup.length_le_of_subset (List.nodup_range (n:=t.mask + 1)) (fun e he=>all e (by have:=List.mem_range.mp he;omega))
 rw [List.length_range,Array.length_toList] at this
 omega
end
end L2
namespace L2
open PySem
theorem VB {m e:Nat} {ow:Array (Option Nat)} (he:ow[e]?=some none):∀ (k fuel i p:Nat),k < fuel→(lpN m k (i,p)).1=e→∃ j,SetTable.layClean.free m ow fuel i p=some j∧ow[j]?=some none
 | k,0,i,p,h,_=>by omega
 | k,fuel + 1,i,p,h,hl=>by
  unfold SetTable.layClean.free
  cases c:(List.range (SetTable.runEnd m i + 1 - i)).find? fun k=>(ow.getD (i + k) (some 0)).isNone with
  | some k0 =>
   refine ⟨i + k0,rfl,?_⟩
   have z:=List.find?_some c
   rw [Array.getD_eq_getD_getElem?] at z
   cases d:ow[i + k0]? with
   | none=>rw [d] at z;cases z
   | some x =>
    rw [d] at z
    cases x with
    | none=>rfl
    | some _=>cases z
  | none =>
   cases k with
   | zero =>
    exfalso
    have:=List.find?_eq_none.mp c 0 (List.mem_range.mpr (by unfold SetTable.runEnd;split <;> omega))
    have ei:i=e:=hl
    rw [Nat.add_zero,ei,Array.getD_eq_getD_getElem?,he] at this
    exact this rfl
   | succ k=>exact VB he k fuel _ _ (by omega) hl
theorem VC {v:Nat}:∀ {l:List (Option Nat)} {j:Nat},l[j]?=some none→((l.set j (some v)).filterMap id).Perm (v :: l.filterMap id)
 | [],j,h=>by simp at h
 | x :: l,0,h=>by
  simp only [List.getElem?_cons_zero,Option.some.injEq] at h
  subst h
  exact List.Perm.refl _
 | x :: l,j + 1,h=>by
  have ih:=VC (v:=v) (l:=l) (j:=j) (by simpa using h)
  cases x with
  | none=>exact ih
  | some y=>exact (ih.cons y).trans (List.Perm.swap ..)
theorem XY:∀ {l:List (Option Nat)},(l.filterMap id).length < l.length→∃ e:Nat,e < l.length∧l[e]?=some none
 | [],h=>by simp at h
 | none :: l,h=>⟨0,by simp,rfl⟩
 | some x :: l,h=>by
  obtain ⟨e,a,b⟩:=XY (l:=l) (by simpa using h)
  exact ⟨e + 1,by simpa using a,by simpa using b⟩
structure zcu (m k:Nat) (ow:Array (Option Nat)):Prop where
 sz:ow.size=m + 1
 pm:(ow.toList.filterMap id).Perm (List.range k)
theorem Kw (h:Int):SetTable.bits h < 2 ^ 64:=by
 unfold SetTable.bits
 have h1:(0:Int)≤h % 2 ^ 64:=Int.emod_nonneg _ (by decide)
 have h2:h % 2 ^ 64 < 2 ^ 64:=Int.emod_lt_of_pos _ (by decide)
 omega
theorem zaZ {m:Nat} (hm:vK m):∀ (hs:List Int) (ow:Array (Option Nat)) (k:Nat),zcu m k ow→k + hs.length≤m →
  ∃ ow',hs.foldl (fun acc h=>acc.bind fun x=>(SetTable.layClean.free m x.1 (SetTable.turns m) (SetTable.bits h % (m + 1)) (SetTable.bits h)).bind fun j=>some (x.1.setIfInBounds j (some x.2),x.2 + 1)) (some (ow,k))=some (ow',k + hs.length)∧zcu m (k + hs.length) ow'
 | [],ow,k,ok,_=>⟨ow,rfl,ok⟩
 | h :: hs,ow,k,ok,hl=>by
  have l1:(ow.toList.filterMap id).length=k:=by rw [ok.pm.length_eq,List.length_range]
  obtain ⟨e,a,b⟩:=XY (l:=ow.toList) (by rw [l1,Array.length_toList,ok.sz];simp at hl;omega)
  rw [Array.length_toList,ok.sz] at a
  rw [Array.getElem?_toList] at b
  obtain ⟨n,n1,n2,n3⟩:=XW (x:=(SetTable.bits h % (m + 1),SetTable.bits h)) hm (Nat.le_of_lt_succ (Nat.mod_lt _ (Nat.succ_pos _))) (Kw h) (Nat.le_of_lt_succ a)
  obtain ⟨j,j1,j2⟩:=VB b n (SetTable.turns m) _ _ (by unfold SetTable.turns;omega) n3
  have ok2:zcu m (k + 1) (ow.setIfInBounds j (some k)):=by
   refine ⟨by rw [Array.size_setIfInBounds];exact ok.sz,?_⟩
   rw [Array.toList_setIfInBounds]
   refine (VC (by rw [Array.getElem?_toList];exact j2)).trans ?_
   rw [List.range_succ]
   exact (ok.pm.cons k).trans (List.perm_append_singleton k _).symm
  obtain ⟨ow',g1,g2⟩:=zaZ hm hs _ (k + 1) ok2 (by simp at hl;omega)
  refine ⟨ow',?_,by rw [List.length_cons,show k + (hs.length + 1)=k + 1 + hs.length by omega];exact g2⟩
  rw [List.foldl_cons,List.length_cons,show k + (hs.length + 1)=k + 1 + hs.length by omega,← g1]
  congr 1
  show (SetTable.layClean.free m ow (SetTable.turns m) (SetTable.bits h % (m + 1)) (SetTable.bits h)).bind _=_
  rw [j1]
  rfl
theorem XZ {m:Nat} (hm:vK m) {hs:Array Int} (hl:hs.size≤m):∃ ow,SetTable.layClean m hs=some ow∧zcu m hs.size ow:=by
 obtain ⟨ow,a,b⟩:=zaZ hm hs.toList (Array.replicate (m + 1) none) 0 ⟨by simp,by
  have:∀ n,(List.replicate n (none:Option Nat)).filterMap id=[]:=fun n=>by
   induction n with
   | zero=>rfl
   | succ n ih=>exact ih
  rw [Array.toList_replicate,this];exact List.Perm.refl _⟩ (by simpa using hl)
 rw [Nat.zero_add,Array.length_toList] at a b
 refine ⟨ow,?_,b⟩
 unfold SetTable.layClean
 rw [← Array.foldl_toList]
 have:=congrArg (Option.map (·.1)) a
 exact this
theorem Qv {α:Type} (l:List (Option α)):(List.range l.length).filterMap (fun j=>l.getD j none)=l.filterMap id:=by
 have e:(List.range l.length).map (fun j=>l.getD j none)=l:=by
  apply List.ext_getElem
  ·simp
  ·intro i h1 h2
   simp [List.getD_eq_getElem?_getD,List.getElem?_eq_getElem h2]
 conv=>rhs;rw [← e]
 rw [List.filterMap_map]
 rfl
theorem zcv {m fg mv:Nat} {ld pl:Bool} {hs:Array Int} (hm:vK m) (hl:hs.size≤m):∃ t' ord,SetTable.laid m fg mv ld pl hs=some (t',ord)∧t'.mask=m∧t'.dummies=#[]∧t'.place.size=hs.size∧(t'.plain=pl∧t'.led=ld)∧ord.toList.Perm (List.range hs.size):=by
 obtain ⟨ow,a,b⟩:=XZ hm hl
 have e:((List.range (m + 1)).filterMap fun j=>(ow.getD j none).map (Prod.mk j)).map (·.2)=ow.toList.filterMap id:=by
  rw [List.map_filterMap,← Qv,Array.length_toList,b.sz]
  congr 1
  funext j
  rw [Array.getD_eq_getD_getElem?,List.getD_eq_getElem?_getD,Array.getElem?_toList]
  cases (ow[j]?.getD none) <;> rfl
 have ln:((List.range (m + 1)).filterMap fun j=>(ow.getD j none).map (Prod.mk j)).length=hs.size:=by
  have:=congrArg List.length e
  rw [List.length_map,b.pm.length_eq,List.length_range] at this
  exact this
 refine ⟨_,_,by unfold SetTable.laid;rw [a];rfl,rfl,rfl,?_,⟨rfl,rfl⟩,?_⟩
 ·show (List.toArray _).size=_
  rw [List.size_toArray,List.length_map]
  exact ln
 ·show (List.toArray _).toList.Perm _
  exact (show _=ow.toList.filterMap id from e) ▸ b.pm
theorem Qw {α:Type} {es:Array α} {ord:Array Nat} (h:ord.toList.Perm (List.range es.size)):(ord.filterMap (es[·]?)).toList.Perm es.toList:=by
 rw [Array.toList_filterMap]
 exact (h.filterMap _).trans (by rw [filterMap_getElem?_range])
end L2
namespace L2
open PySem PySem.Spec PyProof.Rows
section
variable {P:Program} {w:World} {A:Around} {E:Value→Shared→Prop} {s:Shared} {t:SetTable}
def plH (P:Program) (w:World) (q:Str × Int):Int:=tupleKeyHash (yB P w) (ye q)
theorem PlAt.key {h:Heap} {a:Addr} {q:Str × Int} (x:PlAt h (.ref a) q):IsTupleKey (yB P w) h (ye q) a:=by
 obtain ⟨_,o,t,u,n,e,ho,hc,hd⟩:=x
 cases e
 exact ⟨o,_,n,ho,hc,hd,.cons (ZD _ _ _ _) (.cons (ZC _ _ _ _) .nil)⟩
structure SetOk (t:SetTable) (n:Nat):Prop where
 dm:t.dummies=#[]
 sz:t.place.size=n
 mm:t.mask=7∧n≤4∨t.mask=31∧n≤18∨t.mask=127∧n≤76
theorem SetOk.msk {n:Nat} (h:SetOk t n):vK t.mask:=by
 rcases h.mm with h | h | h
 ·exact .inl h.1
 ·exact .inr (.inl h.1)
 ·exact .inr (.inr h.1)
theorem SetOk.lt {n:Nat} (h:SetOk t n):n≤t.mask:=by
 rcases h.mm with h | h | h <;> omega
theorem SetOk.fits {n:Nat} (h:SetOk t n):t.fits n=true:=by
 have:=h.lt
 simp only [SetTable.fits,SetTable.fill,h.sz,h.dm,Bool.and_eq_true,beq_iff_eq,decide_eq_true_eq]
 exact ⟨trivial,by simpa using this⟩
theorem X0 {x:Addr} {q:Str × Int} (hx:PlAt s.heap (.ref x) q) {Q:Bool→Shared→Prop} (h:Q false s):wpAny (model P w) A (ofAClassStatement 8 (.ref x)) Q E s:=by
 obtain ⟨_,o,t,u,n,e,ho,hc,hd⟩:=hx
 cases e
 have hT:s.TypeIs (.ref x) "tuple":=⟨o,ho,hc⟩
 unfold ofAClassStatement
 refine wpAny_bind (wpAny_typeOf hT ?_)
 show wpAny _ _ (if ("tuple" == "tuple")=true then _ else _) _ _ _
 rw [if_pos (by decide)]
 simp only [Bool.not_true,Bool.false_eq_true,if_false,pure_bind]
 refine wpAny_bind (wpAny_seqItems ho hd ?_)
 show wpAny _ _ ((forIn #[Value.str q.1 t,Value.int q.2 u] _ _) >>= _) _ _ _
 rw [← Array.forIn_toList]
 refine wpAny_bind (wpAny_forIn_list _ (fun rest r s'=>r.1=none∧s'=s∧∀ v∈rest,carriedByValue v=true) _ ?_ ?_ _ _ ⟨rfl,rfl,fun v hv=>?_⟩)
 ·rintro v rest r s' ⟨hr,rfl,hall⟩
  have nr:ofAClassStatement 7 v=pure false:=by
   have:=hall v List.mem_cons_self
   cases v <;> first | rfl | (cases this)
  rw [nr]
  refine wpAny_bind (wpAny_pure ?_)
  rw [if_neg (by decide)]
  exact wpAny_pure ⟨rfl,rfl,fun v hv=>hall v (List.mem_cons_of_mem _ hv)⟩
 ·rintro ⟨r1,r2⟩ s' ⟨hr,rfl,_⟩
  simp only at hr
  subst hr
  exact wpAny_pure h
 ·simp only [List.mem_cons,List.not_mem_nil,or_false] at hv
  rcases hv with rfl | rfl <;> rfl
theorem za0 {a b:Str × Int} (h:ye a=ye b):a=b:=by
 unfold ye at h
 simp only [List.cons.injEq,Sum.inr.injEq,Sum.inl.injEq,and_true] at h
 exact Prod.ext h.1 h.2
theorem PbOk.advs {p:SetTable.Probe}:∀ (k:Nat) {p:SetTable.Probe},PbOk t p→PbOk t (yg t k p)
 | 0,p,h=>h
 | k + 1,p,h=>PbOk.advs (p:=p) k h.adv
theorem Qx {x:Addr} {q:Str × Int} (hx:PlAt s.heap (.ref x) q) {Q:Bool→Shared→Prop}:∀ (l:List Value),(∀ v∈l,∃ b qb,v=.ref b∧PlAt s.heap (.ref b) qb)→Q false s→wpAny (model P w) A (searchCouldBeSeen (.ref x) l) Q E s:=by
 intro l hl q
 unfold searchCouldBeSeen
 refine wpAny_bind ?_
 refine wpAny_forIn_list _ (fun rest r s'=>r.1=none∧s'=s∧∀ v∈rest,∃ b qb,v=.ref b∧PlAt s.heap (.ref b) qb) _ ?_ ?_ _ _ ⟨rfl,rfl,hl⟩
 ·rintro v rest r s' ⟨hr,rfl,hall⟩
  obtain ⟨b,qb,rfl,hb⟩:=hall v List.mem_cons_self
  have fin:wpAny (model P w) A (pure (ForInStep.yield ((none:Option Bool),()))) (fun st s''=>match st with | .yield r=>r.1=none∧s''=s'∧∀ v∈rest,∃ b qb,v=.ref b∧PlAt s'.heap (.ref b) qb | .done r=>wpAny (model P w) A (match r.1 with | some r=>pure r | none=>pure false) Q E s'') E s':=wpAny_pure ⟨rfl,rfl,fun v hv=>hall v (List.mem_cons_of_mem _ hv)⟩
  dsimp only
  by_cases c:x=b
  ·rw [if_pos (by simp [c])]
   exact fin
  ·rw [if_neg (by simp [c,carriedByValue])]
   refine wpAny_bind ((tupleKind (yB P w)).quiet hx.key ?_)
   rw [if_neg (by decide)]
   refine wpAny_bind ((tupleKind (yB P w)).quiet hb.key ?_)
   rw [if_neg (by decide)]
   refine wpAny_bind (X0 hx ?_)
   rw [if_neg (by decide)]
   refine wpAny_bind (X0 hb ?_)
   rw [if_neg (by decide)]
   exact fin
 ·rintro ⟨r1,r2⟩ s' ⟨hr,rfl,_⟩
  simp only at hr
  subst hr
  exact wpAny_pure q
end
end L2
namespace L2
open PySem PySem.Spec PyProof.Rows
section
variable {P:Program} {w:World} {A:Around} {E:Value→Shared→Prop} {s:Shared} {t:SetTable}
theorem Qy {x:Addr} {q:Str × Int} (hx:PlAt s.heap (.ref x) q) {Q:Bool→Shared→Prop} (h:Q false s):wpAny (model P w) A (hashByValue 8 (.ref x)) Q E s:=by
 obtain ⟨_,o,t,u,n,e,ho,hc,hd⟩:=hx
 cases e
 have hT:s.TypeIs (.ref x) "tuple":=⟨o,ho,hc⟩
 unfold hashByValue
 refine wpAny_bind (wpAny_specialOf hT F.slot_tuple_hash.lookup ?_)
 show wpAny _ _ (seqItems? (.ref x) >>= _) _ _ _
 refine wpAny_bind (wpAny_seqItems ho hd ?_)
 show wpAny _ _ ((forIn #[Value.str q.1 t,Value.int q.2 u] _ _) >>= _) _ _ _
 rw [← Array.forIn_toList]
 refine wpAny_bind (wpAny_forIn_list _ (fun rest r s'=>r.1=none∧s'=s∧∃ y,rest.head?=some (.str y t)) _ ?_ ?_ _ _ ⟨rfl,rfl,_,rfl⟩)
 ·rintro v rest r s' ⟨hr,rfl,y,hall⟩
  cases hall
  have nr:hashByValue 7 (.str y t)=pure false:=rfl
  rw [nr]
  refine wpAny_bind (wpAny_pure ?_)
  rw [if_pos (by decide)]
  exact wpAny_pure (wpAny_pure h)
 ·rintro ⟨r1,r2⟩ s' ⟨hr,rfl,y,hh⟩
  cases hh
theorem Kx {a:Addr} {o:Obj} {es es':Array (Int × Value)} {ep:Nat} {t':SetTable} {h:Heap} (ho:h.get? a=some o) (hd:o.data=.set es ep t):(h.update a (Obj.putSet es' t')).get? a=some { o with data:=.set es' (ep + 1) t' }:=by
 have:=Heap.get?_update_self (Obj.putSet es' t') ho (by rw [putSet_of es' t' hd];rfl)
 rw [putSet_of es' t' hd] at this
 exact this
theorem Ys {a:Addr} {es':Array (Int × Value)} {t':SetTable} (h:Heap):Heap.SameBut a h (h.update a (Obj.putSet es' t')):=Heap.SameBut.update h a _
end
end L2
namespace L2
open PySem PySem.Spec PyProof.Rows
abbrev qw (es:Array (Int × Value)) (ep:Nat) (t:SetTable):Obj:={ cls:=.type "set",dict:=none,data:=.set es ep t }
def VD (w:World):Bool:=!w.params.followText "set-order"
def SetIn (w:World) (h:Heap) (S:Addr) (vs:List Value):Prop:=∃ es ep t,h.get? S=some (qw es ep t)∧(es.toList.map (·.2)).Perm vs∧SetOk t es.size∧(t.plain=true→vs=[])∧t.led=VD w
section
variable {P:Program} {w:World} {A:Around} {E:Value→Shared→Prop} {s:Shared} {t:SetTable}
theorem SetIn.at {h h':Heap} {S:Addr} {vs:List Value} (x:SetIn w h S vs) (e:∀ o,h.get? S=some o→h'.get? S=some o):SetIn w h' S vs:=let ⟨es,ep,t,a,r⟩:=x;⟨es,ep,t,e _ a,r⟩
theorem PlAt.at {h h':Heap} {b:Addr} {q:Str × Int} (x:PlAt h (.ref b) q) (e:∀ o,h.get? b=some o→h'.get? b=some o):PlAt h' (.ref b) q:=by
 obtain ⟨_,o,t,u,n,e1,ho,r⟩:=x
 cases e1
 exact ⟨b,o,t,u,n,rfl,e _ ho,r⟩
theorem za1 (a:Value) {Q:Value→Shared→Prop} (h:Q (.ref s.heap.objs.size) { s with heap:=s.heap.push (qw #[] 0 (.fresh 0 0 (VD w))) }) :
  codeAny (model P w) A (.call (.builtin "set.__new__") ⟨[.type "set",a],[]⟩) (wants Q E) s:=by
 refine codeAny_of_tree ?_;show wpAny _ A.in1 (do checkBuiltinCall "set.__new__" ⟨[.type "set",a],[]⟩;again (.builtin "set.__new__" ⟨[.type "set",a],[]⟩)) _ _ s
 refine wpAny_bind (wpAny_of_eq (PySem.F.newCall_set_1 a) (wpAny_pure ⟨plainId_quiet PySem.F.plain_set_new _,codeAny_builtin PySem.F.entry_set_new ?_⟩));rw [Around.under_plainId PySem.F.plain_set_new _]
 unfold Builtin.«set.__new__» Builtin.Frozenset.newClass
 have hsub:=sub_set_self
 obtain ⟨hp,g,d,tk,os⟩:=s
 dsimp only
 wp_walk
 refine wpAny_askSetting (wpAny_pure ?_);dsimp only;simp only [newObj]
 refine wpAny_bind (wpAny_alloc (wpAny_pure ?_));exact wpAny_pure h
set_option maxRecDepth 200000 in
end
end L2
namespace L2
open PySem PySem.Spec PyProof.Rows
theorem VE:Manifest.owners.lookup (String.ofList ['r','o','t','a','r','e','t','i','_','t','e','s'].reverse)=some Manifest.sig_set_iterator:=by kernel_rfl
theorem si_next:Slot "set_iterator" "__next__" "set_iterator.__next__":=.of (owner:="set_iterator") (n:="__next__") (by rw [typeLookup_type,builtinLookup_eq_fast];kernel_rfl) (by decide +kernel) (by decide +kernel) (by decide +kernel) (by first | exact .inl (by decide +kernel) | exact .inr (by decide +kernel)) (by rw [isSubtype_type];kernel_rfl)
theorem Zd:entryFor table "set_iterator.__next__"=some Builtin.«set_iterator.__next__»:=entryFor_of_tree (by kernel_rfl)
theorem ZY (a:Value):argsOk "set_iterator.__next__" ⟨[a],[]⟩:=by
 unfold argsOk;rw [signature?_of (id:="set_iterator.__next__") (n:=['_','_','t','x','e','n','_','_']) (o:=['r','o','t','a','r','e','t','i','_','t','e','s']) (by kernel_rfl) VE];kernel_rfl
theorem Ky:Slot "set_iterator" "__iter__" "set_iterator.__iter__":=.of (owner:="set_iterator") (n:="__iter__") (by rw [typeLookup_type,builtinLookup_eq_fast];kernel_rfl) (by decide +kernel) (by decide +kernel) (by decide +kernel) (by first | exact .inl (by decide +kernel) | exact .inr (by decide +kernel)) (by rw [isSubtype_type];kernel_rfl)
theorem Qz:entryFor table "set_iterator.__iter__"=some Builtin.«dict_keyiterator.__iter__»:=entryFor_alias (id':="dict_keyiterator.__iter__") (by kernel_rfl) rfl (by decide +kernel) (by kernel_rfl)
theorem za2 (a:Value):argsOk "set_iterator.__iter__" ⟨[a],[]⟩:=by
 unfold argsOk;rw [signature?_of (id:="set_iterator.__iter__") (n:=['_','_','r','e','t','i','_','_']) (o:=['r','o','t','a','r','e','t','i','_','t','e','s']) (by kernel_rfl) VE];kernel_rfl
theorem QA:entryFor table "set.__iter__"=some Builtin.«frozenset.__iter__»:=entryFor_alias (id':="frozenset.__iter__") (by kernel_rfl) rfl (by decide +kernel) (by kernel_rfl)
section
variable {P:Program} {w:World} {A:Around} {E:Value→Shared→Prop} {s:Shared} {t:SetTable}
def SIt (h:Heap) (I:Addr) (f:Value) (i:Nat) (S:Addr) (n ep:Nat):Prop:=h.get? I=some { cls:=.type "set_iterator",data:=.fields #[f,.int i 0,.ref S,.int n 0,.int ep 0] }
theorem SIt.type {I S:Addr} {f:Value} {i n ep:Nat} (x:SIt s.heap I f i S n ep):s.TypeIs (.ref I) "set_iterator":=⟨_,x,rfl⟩
theorem Kz {I S:Addr} {f:Value} {i n ep:Nat} {Q:Value→Shared→Prop} (x:SIt s.heap I f i S n ep) (h:Q (.ref I) s):wpAny (model P w) A (pyIter (.ref I)) Q E s:=by
 refine wpAny_pyIter_slot x.type Ky (wpAny_call_entry Ky x.type Qz ?_ (za2 _))
 show wpAny _ _ (ret (.ref I)) _ _ s;exact wpAny_pure ⟨_,rfl,"set_iterator",_,x.type,si_next.lookup,h⟩
theorem za3 {S:Addr} {Q:Bool→Shared→Prop} (hT:s.TypeIs (.ref S) "set") (h:Q false s):wpAny (model P w) A (Builtin.List.listLengthHint (.ref S)) Q E s:=by
 unfold Builtin.List.listLengthHint
 refine wpAny_bind (wpAny_specialOf hT PySem.F.slot_set_len.lookup ?_);generalize hid:("set.__len__":String)=id0
 wp_delta
 rw [show splitId id0=some ("set","__len__") from by subst hid;decide +kernel];subst hid
 refine wpAny_bind (wpAny_isInstance (T:="set") (b:=true) hT (by rw [isSubtype_type];kernel_rfl) ?_);refine wpAny_ite_split (fun hab=>absurd hab (by decide)) (fun _=>?_)
 refine wpAny_ite_split (fun _=>?_) (fun hab=>absurd (by decide +kernel) hab);refine wpAny_bind (wpAny_typeOf hT ?_);exact wpAny_pure h
end
end L2
namespace L2
open PySem PySem.Spec PyProof.Rows
section
variable {P:Program} {w:World} {A:Around} {E:Value→Shared→Prop} {s:Shared} {t:SetTable}
theorem zcw {I S:Addr} {k k2 i ep:Nat} {es:Array (Int × Value)} {x:Value} {Q:Option Value→Shared→Prop} (hI:SIt s.heap I (.int k 0) i S es.size ep) (hS:s.heap.get? S=some (qw es ep t)) (ft:t.fits es.size=true)
  (nx:∀ (Q:Option (Value × Nat)→Shared→Prop) (E:Value→Shared→Prop),Q (some (x,k2)) s→wpAny (model P w) A.in1 (setNext S k i ep) Q E s)
  (q:∀ h,SIt h I (.int k2 0) (i + 1) S es.size ep→Heap.SameBut I s.heap h→Q (some x) { s with heap:=h }):wpAny (model P w) A (pyNext (.ref I)) Q E s:=by
 unfold pyNext
 refine wpAny_bind (wpAny_attempt (wpAny_callSpecial?_slot (name:=Str.ofString "__next__") hI.type si_next (wpAny_call_entry si_next hI.type Zd ?_ (ZY _))))
 unfold Builtin.«set_iterator.__next__»
 refine wpAny_bind (wpAny_pure ?_)
 refine wpAny_bind (wpAny_fieldsOf hI rfl ?_)
 dsimp only
 refine wpAny_bind (wpAny_setEntries_of hS rfl ft ?_)
 rw [if_neg (by simp)]
 simp only [Int.toNat_natCast]
 refine wpAny_bind (nx _ _ ?_)
 refine wpAny_bind (wpAny_setField_rec hI (by simp) fun h1 g1 s1=>?_)
 refine wpAny_bind (wpAny_setField_rec (s:={ s with heap:=h1 }) g1 (by simp) fun h2 g2 s2=>?_)
 exact wpAny_pure ⟨_,rfl,wpAny_pure (q h2 (by unfold SIt;rw [g2];simp [rawInt]) (s1.trans s2))⟩
theorem X1 {I:Addr} {h:Heap} {Q:Option Value→Shared→Prop} (hh:A.handled=none) (q:∀ h',(∀ b o,h.get? b=some o→h'.get? b=some o)→Q none { s with heap:=h' }) :
  wpAny (model P w) A.in1 (do let e ← newExc (Value.type "StopIteration") [];raiseNew e) (fun fin s'=>∃ v,fin=Fin.done (Flow.ret v)∧wpAny (model P w) A (pure (some v)) Q E s')
   (fun e s'=>wpAny (model P w) A (do let b ← isInstance e (Value.type "StopIteration");if b=true then pure none else throw e) Q E s') { s with heap:=h }:=by
 refine wpAny_bind ?_;simp only [newExc,newTuple]
 refine wpAny_bind (wpAny_newObj_type ?_ (by size_fits));refine wpAny_bind (m:=firstArgMember _ _) (wpAny_of_eq (a:=Value.none) (by first | rfl | (simp only [firstArgMember];rfl)) ?_)
 refine wpAny_newObj_type ?_ (by size_fits);simp only [raiseNew]
 refine wpAny_bind (wpAny_handled ?_);rw [show A.in1.handled=none from hh];refine wpAny_bind (wpAny_pure (wpAny_throw ?_))
 exact wpAny_bind (wpAny_isInstance (T:="StopIteration") (b:=true) ⟨_,Heap.get?_push_size _ rfl,rfl⟩ isSubtype_stop (wpAny_pure (q _ fun b o e=>Heap.get?_push_of_some _ (Heap.get?_push_of_some _ e))))
theorem zcx {I S:Addr} {k i ep:Nat} {es:Array (Int × Value)} {Q:Option Value→Shared→Prop} (hh:A.handled=none) (hI:SIt s.heap I (.int k 0) i S es.size ep) (hS:s.heap.get? S=some (qw es ep t)) (ft:t.fits es.size=true)
  (nx:∀ (Q:Option (Value × Nat)→Shared→Prop) (E:Value→Shared→Prop),Q none s→wpAny (model P w) A.in1 (setNext S k i ep) Q E s)
  (q:∀ h,(∀ b o,b≠I→s.heap.get? b=some o→h.get? b=some o)→Q none { s with heap:=h }):wpAny (model P w) A (pyNext (.ref I)) Q E s:=by
 unfold pyNext
 refine wpAny_bind (wpAny_attempt (wpAny_callSpecial?_slot (name:=Str.ofString "__next__") hI.type si_next (wpAny_call_entry si_next hI.type Zd ?_ (ZY _))))
 unfold Builtin.«set_iterator.__next__»
 refine wpAny_bind (wpAny_pure ?_);refine wpAny_bind (wpAny_fieldsOf hI rfl ?_)
 dsimp only
 refine wpAny_bind (wpAny_setEntries_of hS rfl ft ?_)
 rw [if_neg (by simp)]
 simp only [Int.toNat_natCast]
 refine wpAny_bind (nx _ _ ?_)
 refine wpAny_bind (wpAny_setField_rec hI (by simp) fun h1 g1 s1=>?_)
 exact X1 (I:=I) hh fun h' k'=>q h' fun b o bI e=>k' b o (by rw [s1.2 b bI];exact e)
structure SDr (h:Heap) (I T S:Addr) (i:Nat) (es:Array (Int × Value)) (ep:Nat) (t:SetTable) (π:List Nat):Prop where
 it:SIt h I (.ref T) i S es.size ep
 tp:h.get? T=some { cls:=.type "tuple",data:=.seq (π.map fun (k:Nat)=>rawInt k).toArray }
 st:h.get? S=some (qw es ep t)
theorem zcy {I T S:Addr} {i ep k:Nat} {es:Array (Int × Value)} {π:List Nat} {e:Int × Value} {Q:Option Value→Shared→Prop} (D:SDr s.heap I T S i es ep t π) (ft:t.fits es.size=true) (hk:π[i]?=some k) (he:es[k]?=some e)
  (q:∀ h,SIt h I (.ref T) (i + 1) S es.size ep→Heap.SameBut I s.heap h→Q (some e.2) { s with heap:=h }):wpAny (model P w) A (pyNext (.ref I)) Q E s:=by
 have hI:=D.it
 unfold pyNext
 refine wpAny_bind (wpAny_attempt (wpAny_callSpecial?_slot (name:=Str.ofString "__next__") hI.type si_next (wpAny_call_entry si_next hI.type Zd ?_ (ZY _))))
 unfold Builtin.«set_iterator.__next__»
 refine wpAny_bind (wpAny_pure ?_);refine wpAny_bind (wpAny_fieldsOf hI rfl ?_)
 dsimp only
 refine wpAny_bind (wpAny_setEntries_of D.st rfl ft ?_)
 rw [if_neg (by simp)]
 refine wpAny_bind (wpAny_seqItems D.tp rfl ?_)
 have ek:(π.map fun (k:Nat)=>rawInt k).toArray[i]?=some (rawInt k):=by rw [List.getElem?_toArray,List.getElem?_map,hk];rfl
 simp only [Int.toNat_natCast,ek]
 show wpAny _ _ (setNextDrawn S (Int.toNat k) ep >>= _) _ _ _
 rw [Int.toNat_natCast]
 refine wpAny_bind ?_
 unfold setNextDrawn
 refine wpAny_bind (wpAny_setState_of D.st rfl ft ?_)
 simp only [bne_self_eq_false,Bool.false_eq_true,if_false,he]
 refine wpAny_pure ?_
 refine wpAny_bind (wpAny_setField_rec hI (by simp) fun h1 g1 s1=>?_)
 exact wpAny_pure ⟨_,rfl,wpAny_pure (q h1 (by unfold SIt;rw [g1];simp [rawInt]) s1)⟩
theorem zcz {I T S:Addr} {i ep:Nat} {es:Array (Int × Value)} {π:List Nat} {Q:Option Value→Shared→Prop} (hh:A.handled=none) (D:SDr s.heap I T S i es ep t π) (ft:t.fits es.size=true) (hk:π.length≤i)
  (q:∀ h,(∀ b o,b≠I→s.heap.get? b=some o→h.get? b=some o)→Q none { s with heap:=h }):wpAny (model P w) A (pyNext (.ref I)) Q E s:=by
 have hI:=D.it
 unfold pyNext
 refine wpAny_bind (wpAny_attempt (wpAny_callSpecial?_slot (name:=Str.ofString "__next__") hI.type si_next (wpAny_call_entry si_next hI.type Zd ?_ (ZY _))))
 unfold Builtin.«set_iterator.__next__»
 refine wpAny_bind (wpAny_pure ?_);refine wpAny_bind (wpAny_fieldsOf hI rfl ?_)
 dsimp only
 refine wpAny_bind (wpAny_setEntries_of D.st rfl ft ?_)
 rw [if_neg (by simp)]
 refine wpAny_bind (wpAny_seqItems D.tp rfl ?_)
 have ek:(π.map fun (k:Nat)=>rawInt k).toArray[i]?=none:=by rw [List.getElem?_toArray,List.getElem?_map,List.getElem?_eq_none hk];rfl
 simp only [Int.toNat_natCast,ek]
 refine wpAny_bind (wpAny_setField_rec hI (by simp) fun h1 g1 s1=>?_)
 refine wpAny_bind (wpAny_setField_rec (s:={ s with heap:=h1 }) g1 (by simp) fun h2 g2 s2=>?_)
 exact X1 (I:=I) hh fun h' k'=>q h' fun b o bI e=>k' b o (by rw [s2.2 b bI,s1.2 b bI];exact e)
theorem za4 (hh:A.handled=none) {I T S:Addr} (n1:T≠I) (n2:S≠I) {ep:Nat} {es:Array (Int × Value)} {π:List Nat} (ft:t.fits es.size=true) (pm:π.Perm (List.range es.size)) :
  Walks P w A I [I,T,S] [I] es.size (fun i v=>∃ k e,π[i]?=some k∧es[k]?=some e∧v=e.2) (fun i h=>SDr h I T S i es ep t π) where
 sub:=fun b hb=>by simp at hb;simp [hb]
 frame:=fun _ _ _ st hk=>⟨hk I (by simp) _ st.it,hk T (by simp) _ st.tp,hk S (by simp) _ st.st⟩
 item:=fun i s Q E hi st hQ=>by
  have lp:π.length=es.size:=by have:=pm.length_eq;simpa using this
  have k1:π[i]?=some π[i]:=List.getElem?_eq_getElem (by omega)
  have k2:π[i] < es.size:=by have:=pm.mem_iff.mp (List.getElem_mem (l:=π) (n:=i) (by omega));simpa using this
  have k3:es[π[i]]?=some es[π[i]]:=Array.getElem?_eq_getElem k2
  refine zcy st ft k1 k3 fun h' h1 h2=>hQ _ h' s.toks ⟨_,_,k1,k3,rfl⟩ ⟨h1,by rw [h2.2 T n1];exact st.tp,by rw [h2.2 S n2];exact st.st⟩ fun b o hb e=>by rw [h2.2 b (by simpa using hb)];exact e
 done:=fun s Q E st hQ=>zcz hh st ft (by have:=pm.length_eq;simp at this;omega) fun h' k=>hQ h' s.toks fun b o hb e=>k b o (by simpa using hb) e
 self:=fun _ _ _ _ st hQ=>Kz st.it hQ
end
end L2
namespace L2
open PySem PySem.Spec PyProof.Rows
theorem qx {α:Type}:∀ {l:List α} {i:Nat} {x:α},l[i]?=some x→(x :: l.eraseIdx i).Perm l
 | [],i,x,h=>by simp at h
 | y :: l,0,x,h=>by
  simp only [List.getElem?_cons_zero,Option.some.injEq] at h
  subst h
  exact List.Perm.refl _
 | y :: l,i + 1,x,h=>by
  have ih:=qx (l:=l) (i:=i) (x:=x) (by simpa using h)
  exact (List.Perm.swap ..).trans (ih.cons y)
theorem KA {α:Type} (f:Nat→Nat):∀ (n k:Nat) (l:List α) (out:Array α),l.length=n→(pickOrder.go f n k l out).toList.Perm (out.toList ++ l)
 | 0,k,l,out,h=>by
  have:l=[]:=List.eq_nil_of_length_eq_zero h
  subst this
  rw [List.append_nil]
  exact List.Perm.refl _
 | n + 1,k,l,out,h=>by
  have lt:f k % l.length < l.length:=Nat.mod_lt _ (by omega)
  have e:l[f k % l.length]?=some l[f k % l.length]:=List.getElem?_eq_getElem lt
  unfold pickOrder.go
  rw [e]
  dsimp only
  refine (KA f n (k + 1) _ _ (by rw [List.length_eraseIdx_of_lt lt];omega)).trans ?_
  rw [Array.toList_push,List.append_assoc]
  exact (qx e).append_left _
theorem za5 {α:Type} (f:Nat→Nat) (es:Array α):(pickOrder f es).toList.Perm es.toList:=by
 exact KA f es.size 0 es.toList #[] (by simp)
section
variable {P:Program} {w:World} {A:Around} {E:Value→Shared→Prop} {s:Shared} {t:SetTable}
theorem zcA {src:Source} {n:Nat} {Q:Nat→Shared→Prop} (hn:n≠0) (h:∀ i d,i < n→Q i { s with drawn:=d }):wpAny (model P w) A (choose src n) Q E s:=fun _ _ _=>by
 unfold choose
 rw [Sem.wp_choose]
 refine ⟨hn,?_⟩
 exact h _ _ (Nat.mod_lt _ (Nat.pos_of_ne_zero hn))
theorem VF {α:Type}:∀ (n:Nat) (xs:List α) (s:Shared) (Q:List α→Shared→Prop),xs.length=n→(∀ ys d,ys.Perm xs→Q ys { s with drawn:=d })→wpAny (model P w) A (drawOrder n xs) Q E s
 | 0,xs,s,Q,h,q=>by
  have:xs=[]:=List.eq_nil_of_length_eq_zero h
  subst this
  unfold drawOrder
  exact wpAny_pure (q [] s.drawn (List.Perm.refl _))
 | n + 1,[],s,Q,h,q=>by cases h
 | n + 1,x :: xs,s,Q,h,q=>by
  unfold drawOrder
  refine wpAny_bind (zcA (by simp) fun i d hi=>?_)
  rw [List.getElem?_eq_getElem hi]
  dsimp only
  refine wpAny_bind (VF n _ _ _ (by rw [List.length_eraseIdx_of_lt hi];simp at h ⊢;omega) fun ys d2 p=>?_)
  exact wpAny_pure (q _ d2 ((p.cons _).trans (qx (List.getElem?_eq_getElem hi))))
theorem VG (hh:A.handled=none) {I S:Addr} (n2:S≠I) {ep:Nat} {es:Array (Int × Value)} (ft:t.fits es.size=true) (ord:List Value) (lo:ord.length=es.size) (kk:Nat→Nat)
  (nx:∀ (i:Nat) (v:Value) (s:Shared) (A:Around),s.heap.get? S=some (qw es ep t)→ord[i]?=some v→∀ (Q:Option (Value × Nat)→Shared→Prop) (E:Value→Shared→Prop),Q (some (v,kk (i + 1))) s→wpAny (model P w) A (setNext S (kk i) i ep) Q E s)
  (nd:∀ (s:Shared) (A:Around),s.heap.get? S=some (qw es ep t)→∀ (Q:Option (Value × Nat)→Shared→Prop) (E:Value→Shared→Prop),Q none s→wpAny (model P w) A (setNext S (kk es.size) es.size ep) Q E s) :
  Walks P w A I [I,S] [I] es.size (fun i v=>ord[i]?=some v) (fun i h=>SIt h I (.int (kk i) 0) i S es.size ep∧h.get? S=some (qw es ep t)) where
 sub:=fun b hb=>by simp at hb;simp [hb]
 frame:=fun _ _ _ st hk=>⟨hk I (by simp) _ st.1,hk S (by simp) _ st.2⟩
 item:=fun i s Q E hi st hQ=>by
  have k1:ord[i]?=some ord[i]:=List.getElem?_eq_getElem (by omega)
  exact zcw st.1 st.2 ft (nx i _ s _ st.2 k1) fun h' h1 h2=>hQ _ h' s.toks k1 ⟨h1,by rw [h2.2 S n2];exact st.2⟩ fun b o hb e=>by rw [h2.2 b (by simpa using hb)];exact e
 done:=fun s Q E st hQ=>zcx hh st.1 st.2 ft (nd s _ st.2) fun h' k=>hQ h' s.toks fun b o hb e=>k b o (by simpa using hb) e
 self:=fun _ _ _ _ st hQ=>Kz st.1 hQ
theorem k6 {Q:Bool→Shared→Prop} (h:Q (w.params.followText "set-order") s):wpAny (model P w) A setsByText Q E s:=by
 unfold setsByText
 exact wpAny_bind (wpAny_askSetting (wpAny_pure h))
theorem KB {S:Addr} {k i ep:Nat} {es:Array (Int × Value)} (bt:w.params.followText "set-order"=true) (hS:s.heap.get? S=some (qw es ep t)) (ft:t.fits es.size=true) {Q:Option (Value × Nat)→Shared→Prop}
  (q:Q ((((pickOrder (w.params.setOrder S ep) es).toList.map (·.2))[i]?).map fun v=>(v,k)) s):wpAny (model P w) A (setNext S k i ep) Q E s:=by
 unfold setNext
 refine wpAny_bind (wpAny_setState_of hS rfl ft ?_)
 refine wpAny_bind (k6 ?_)
 rw [bt,if_pos rfl]
 dsimp only
 rw [if_neg (by simp)]
 unfold setWalk
 refine wpAny_bind (wpAny_bind (wpAny_setState_of hS rfl ft ?_))
 refine wpAny_bind (k6 ?_)
 rw [bt,if_pos rfl]
 refine wpAny_bind (wpAny_askSetting (wpAny_pure ?_))
 refine wpAny_pure ?_
 rw [List.getElem?_map,Array.getElem?_toList,Option.map_map] at q
 exact q
theorem KC {S:Addr} {k i ep:Nat} {es:Array (Int × Value)} (bt:w.params.followText "set-order"=false) (hS:s.heap.get? S=some (qw es ep t)) (ft:t.fits es.size=true) (sm:es.size≤1) (ld:t.led=true) {Q:Option (Value × Nat)→Shared→Prop}
  (q:Q (match es[SetTable.below t.place k]?,t.place[SetTable.below t.place k]? with | some (_,x),some j=>some (x,j + 1) | _,_=>none) s):wpAny (model P w) A (setNext S k i ep) Q E s:=by
 unfold setNext
 refine wpAny_bind (wpAny_setState_of hS rfl ft ?_)
 refine wpAny_bind (k6 ?_)
 rw [bt,if_neg Bool.false_ne_true]
 dsimp only
 refine wpAny_ite_split (fun c=>absurd c (show ¬ ((!t.plain && decide (es.size > 1))=true) by simp;omega)) fun _=>?_
 refine wpAny_bind ?_
 show wpAny _ _ (if (!t.led && !es.isEmpty)=true then _ else _) _ _ _
 rw [ld,if_neg (by simp)]
 refine wpAny_pure ?_
 exact wpAny_pure q
end
end L2
namespace L2
open PySem PySem.Spec PyProof.Rows
section
variable {P:Program} {w:World} {A:Around} {E:Value→Shared→Prop} {s:Shared} {t:SetTable}
theorem za6 (j:Nat):SetTable.below #[j] 0=0:=by
 simp [SetTable.below,SetTable.below.go]
theorem za7 (j:Nat):SetTable.below #[j] (j + 1)=1:=by
 simp [SetTable.below,SetTable.below.go]
theorem Walks.weak {I:Addr} {fp wr:List Addr} {n:Nat} {P1 P2:Nat→Value→Prop} {St:Nat→Heap→Prop} (W:Walks P w A I fp wr n P1 St) (h:∀ i v,P1 i v→P2 i v):Walks P w A I fp wr n P2 St where
 sub:=W.sub
 frame:=W.frame
 item:=fun i s Q E hi st hQ=>W.item i s Q E hi st fun v h' tk p=>hQ v h' tk (h i v p)
 done:=W.done
 self:=W.self
theorem za8 {S:Addr} {ep:Nat} {es:Array (Int × Value)} (hS:s.heap.get? S=some (qw es ep t)) (ok:SetOk t es.size) (pn:t.plain=true→es.size=0) (ld:t.led=VD w) (hh:A.handled=none) {Q:Value→Shared→Prop}
  (q:∀ (h1:Heap) d (I:Addr) (ord:List Value) (fp:List Addr) (St:Nat→Heap→Prop),(∀ b o,s.heap.get? b=some o→h1.get? b=some o)→s.heap.objs.size≤I→ord.Perm (es.toList.map (·.2))→(∀ b∈fp,b=S∨s.heap.objs.size≤b) →
   Walks P w A I fp [I] es.size (fun i v=>ord[i]?=some v) St→St 0 h1→Q (.ref I) { s with heap:=h1,drawn:=d }):wpAny (model P w) A (pyIter (.ref S)) Q E s:=by
 have hT:s.TypeIs (.ref S) "set":=⟨_,hS,rfl⟩
 have lS:S < s.heap.objs.size:=Heap.lt_size hS
 refine wpAny_pyIter_slot hT PySem.F.slot_set_iter (wpAny_call_entry PySem.F.slot_set_iter hT QA ?_ (PySem.F.args_set_iter_1 _));unfold Builtin.«frozenset.__iter__»
 refine wpAny_bind (m:=Builtin.Frozenset.slot0 _ _) (wpAny_pure ?_)
 refine wpAny_bind (m:=Builtin.Frozenset.sizeOf S) (wpAny_bind (wpAny_setEntries_of hS rfl ok.fits (wpAny_pure ?_)))
 unfold setDrawn
 refine wpAny_bind (wpAny_bind (wpAny_setState_of hS rfl ok.fits ?_))
 refine wpAny_bind (k6 (wpAny_pure ?_))
 have le:es.size≤127:=by have:=ok.lt;rcases ok.msk with e | e | e <;> omega
 have zl:(128:Nat)≤sizeLine:=by decide
 refine wpAny_ite_split (fun c=>?_) fun c=>?_
 ·have c2:(!w.params.followText "set-order" && (!t.plain && decide (es.size > 1)))=true:=c
  refine wpAny_bind (VF es.size (List.range es.size) s _ (by simp) fun π d pm=>?_)
  have lp:π.length=es.size:=by have:=pm.length_eq;simpa using this
  refine wpAny_bind (wpAny_newTuple ?_ (by rw [List.length_map,lp];omega))
  have hS1:=Heap.get?_push_of_some { cls:=Value.type "tuple",data:=.seq (π.map fun (i:Nat)=>rawInt i).toArray } hS
  refine wpAny_bind (wpAny_setEpoch_of (s:={ s with heap:=s.heap.push { cls:=.type "tuple",data:=.seq (π.map fun (i:Nat)=>rawInt i).toArray },drawn:=d }) hS1 rfl ok.fits ?_)
  refine wpAny_bind (m:=newFields _ _) (wpAny_newObj_type (wpAny_pure ⟨_,rfl,"set_iterator",_,⟨_,Heap.get?_push_size _ rfl,rfl⟩,si_next.lookup,?_⟩))
  obtain ⟨h1,e1⟩:∃ h1:Heap,h1=s.heap.push { cls:=.type "tuple",data:=.seq (π.map fun (i:Nat)=>rawInt i).toArray }:=⟨_,rfl⟩
  have z1:h1.objs.size=s.heap.objs.size + 1:=by rw [e1,Heap.size_push]
  have gT:h1.get? s.heap.objs.size=some { cls:=.type "tuple",data:=.seq (π.map fun (i:Nat)=>rawInt i).toArray }:=e1 ▸ Heap.get?_push_size _ rfl
  have k1:∀ b o,s.heap.get? b=some o→h1.get? b=some o:=fun b o e=>e1 ▸ Heap.get?_push_of_some _ e
  rw [← e1]
  have wk:=za4 (P:=P) (w:=w) (I:=h1.objs.size) (T:=s.heap.objs.size) (S:=S) (ep:=ep) hh (by rw [z1];exact Nat.ne_of_lt (Nat.lt_succ_self _)) (by rw [z1];exact Nat.ne_of_lt (Nat.lt_succ_of_lt lS)) ok.fits pm
  refine q _ d h1.objs.size (π.map fun k=>(es.toList.map (·.2)).getD k Value.none) _ _ (fun b o e=>Heap.get?_push_of_some _ (k1 b o e)) (by rw [z1];exact Nat.le_succ _) ?_ ?_ (Walks.weak wk fun i v=>?_) ⟨Heap.get?_push_size _ rfl,Heap.get?_push_of_some _ gT,Heap.get?_push_of_some _ (k1 _ _ hS)⟩
  ·refine (pm.map _).trans ?_
   have e2:(List.range es.size).map (fun k=>(es.toList.map (·.2)).getD k Value.none)=es.toList.map (·.2):=by
    apply List.ext_getElem
    ·simp
    ·intro i h1 h2
     simp [List.getD_eq_getElem?_getD,List.getElem?_eq_getElem h2]
     simp at h2
     rw [Array.getElem?_eq_getElem h2];rfl
   rw [e2]
  ·intro b hb
   simp only [List.mem_cons,List.not_mem_nil,or_false] at hb
   rcases hb with rfl | rfl | rfl
   ·exact .inr (by rw [z1];exact Nat.le_succ _)
   ·exact .inr (Nat.le_refl _)
   ·exact .inl rfl
  ·rintro ⟨k,e,a1,a2,rfl⟩
   rw [List.getElem?_map,a1]
   simp [List.getD_eq_getElem?_getD,a2]
 ·have c2:¬ ((!w.params.followText "set-order" && (!t.plain && decide (es.size > 1)))=true):=c
  refine wpAny_bind (wpAny_pure ?_)
  refine wpAny_bind (wpAny_setEpoch_of hS rfl ok.fits ?_)
  refine wpAny_bind (m:=newFields _ _) (wpAny_newObj_type (wpAny_pure ⟨_,rfl,"set_iterator",_,⟨_,Heap.get?_push_size _ rfl,rfl⟩,si_next.lookup,?_⟩))
  have sI:S≠s.heap.objs.size:=Nat.ne_of_lt lS
  have fpo:∀ b∈[s.heap.objs.size,S],b=S∨s.heap.objs.size≤b:=fun b hb=>by
   simp only [List.mem_cons,List.not_mem_nil,or_false] at hb
   rcases hb with rfl | rfl
   ·exact .inr (Nat.le_refl _)
   ·exact .inl rfl
  by_cases bt:w.params.followText "set-order"=true
  ·have pm:=(za5 (w.params.setOrder S ep) es).map (·.2)
   have lo:((pickOrder (w.params.setOrder S ep) es).toList.map (·.2)).length=es.size:=by have:=pm.length_eq;rw [this];simp
   exact q _ s.drawn _ _ _ _ (fun b o e=>Heap.get?_push_of_some _ e) (Nat.le_refl _) pm fpo (VG hh sI ok.fits _ lo (fun _=>0) (fun i v s A hS hv Q E q=>KB bt hS ok.fits (by rw [hv];exact q)) fun s A hS Q E q=>KB bt hS ok.fits (by rw [List.getElem?_eq_none (by rw [lo];exact Nat.le_refl _)];exact q)) ⟨Heap.get?_push_size _ rfl,Heap.get?_push_of_some _ hS⟩
  ·have bt:w.params.followText "set-order"=false:=by simpa using bt
   have sm:es.size≤1:=by
    cases hp:t.plain with
    | true=>have:=pn hp;omega
    | false=>rw [bt,hp] at c2;simp at c2;exact c2
   have ld1:t.led=true:=by rw [ld];unfold VD;rw [bt];rfl
   refine q _ s.drawn _ (es.toList.map (·.2)) _ _ (fun b o e=>Heap.get?_push_of_some _ e) (Nat.le_refl _) (List.Perm.refl _) fpo (VG hh sI ok.fits _ (by simp) (fun i=>if i=0 then 0 else t.place.getD 0 0 + 1) (fun i v s A hS hv Q E q=>?_) fun s A hS Q E q=>?_) ⟨Heap.get?_push_size _ rfl,Heap.get?_push_of_some _ hS⟩
   ·have i0:i < es.size:=by have:=(List.getElem?_eq_some_iff.mp hv).1;simpa using this
    obtain ⟨j,hj⟩:=Array.size_eq_one_iff.mp (show t.place.size=1 by rw [ok.sz];omega)
    obtain ⟨e,he⟩:=Array.size_eq_one_iff.mp (show es.size=1 by omega)
    have i1:i=0:=by omega
    subst i1
    subst he
    simp only [List.map_cons,List.getElem?_cons_zero,Option.some.injEq] at hv
    subst hv
    refine KC bt hS ok.fits sm ld1 ?_
    rw [if_pos rfl,hj,za6]
    rw [hj] at q
    exact q
   ·refine KC bt hS ok.fits sm ld1 ?_
    rcases Nat.eq_zero_or_pos es.size with z | z
    ·rw [Array.getElem?_eq_none (xs:=es) (by omega)]
     exact q
    ·obtain ⟨j,hj⟩:=Array.size_eq_one_iff.mp (show t.place.size=1 by rw [ok.sz];omega)
     rw [if_neg (by omega),hj]
     rw [show (#[j]:Array Nat).getD 0 0=j from rfl,za7,Array.getElem?_eq_none (xs:=es) (by omega)]
     exact q
theorem VH {S:Addr} {vs:List Value} {R:List Value→Shared→Prop} (hS:SetIn w s.heap S vs) (hh:A.handled=none)
  (h:∀ (h':Heap) (tk:Nat) d (ord:List Value),(∀ b o,s.heap.get? b=some o→h'.get? b=some o)→ord.Perm vs→R ord { s with heap:=h',toks:=tk,drawn:=d }):wpAny (model P w) A (collect (.ref S)) R E s:=by
 obtain ⟨es,ep,t,ho,pm,ok,pn,ld⟩:=hS
 have le:es.size≤127:=by have:=ok.lt;rcases ok.msk with e | e | e <;> omega
 have zl:(128:Nat)≤sizeLine:=by decide
 unfold collect
 refine wpAny_bind (wpAny_runValue (codeAny_builtin entry_proto_collect' ?_));rw [Around.under_plainId PySem.F.plain_proto_collect _]
 show wpAny _ A.in1 (newList [] >>= fun l=>again (.builtin "list.__iadd__" ⟨[l,.ref S],[]⟩)) _ _ s;refine wpAny_bind (wpAny_newObj_type ?_)
 refine wpAny_pure ⟨plainId_quiet PySem.F.plain_list_iadd _,codeAny_builtin entry_list_iadd' ?_⟩;rw [Around.under_plainId PySem.F.plain_list_iadd _]
 obtain ⟨h0,e0⟩:∃ h0:Heap,h0=s.heap.push { cls:=.type "list",data:=.seq ([]:List Value).toArray }:=⟨_,rfl⟩
 rw [← e0]
 have k0:∀ b o,s.heap.get? b=some o→h0.get? b=some o:=fun b o e=>e0 ▸ Heap.get?_push_of_some _ e
 have hL:h0.get? s.heap.objs.size=some { cls:=.type "list",data:=.seq #[] }:=e0 ▸ Heap.get?_push_size _ rfl
 have lS:S < s.heap.objs.size:=Heap.lt_size ho
 have L0:s.heap.objs.size < h0.objs.size:=Heap.lt_size hL
 show wpAny _ A.in1 (Builtin.List.listExtendWith (.ref s.heap.objs.size) (.ref S) (.ref s.heap.objs.size)) _ _ _
 unfold Builtin.List.listExtendWith
 refine wpAny_bind (wpAny_typeOf (s:={ s with heap:=h0 }) (T:="set") ⟨_,k0 _ _ ho,rfl⟩ ?_)
 have h1:Builtin.List.listSameRef (.ref s.heap.objs.size) (.ref S)=false:=by simp [Builtin.List.listSameRef,(Nat.ne_of_gt lS:s.heap.objs.size≠S)]
 simp only [h1,show (Value.type "set" == Value.type "list")=false by decide,show (Value.type "set" == Value.type "tuple")=false by decide,Bool.or_false,Bool.false_eq_true,if_false]
 refine wpAny_bind (za8 (P:=P) (A:=A.in1) (s:={ s with heap:=h0 }) (k0 _ _ ho) ok (fun z=>by have:=pn z;subst this;have:=pm.length_eq;simpa using this) ld hh fun h1 d I ord fp St k1 lI po pf W st=>?_)
 have hL1:=k1 _ _ hL
 have Lf:s.heap.objs.size ∉ fp:=fun z=>by
  rcases pf _ z with e | e
  ·exact absurd e (Nat.ne_of_gt lS)
  ·exact absurd L0 (Nat.not_lt.mpr e)
 have key:∀ (h2:Heap) (c:Nat),St 0 h2→(∀ b o,b≠s.heap.objs.size→h1.get? b=some o→h2.get? b=some o)→h2.get? s.heap.objs.size=some { cls:=.type "list",data:=.seq #[] c } →
   codeAny (model P w) A (.builtin "list.extend.loop" ⟨[.ref s.heap.objs.size,.ref I,.ref s.heap.objs.size],[]⟩) (fun (q:Result) (s':Shared)=>∃ (h':Heap) (tk:Nat) (acc:Array Value) (c:Nat),q=.ok (.ret (.ref s.heap.objs.size))∧s'={ s with heap:=h',toks:=tk,drawn:=d } ∧
    (∀ b o,s.heap.get? b=some o→h'.get? b=some o)∧h'.get? s.heap.objs.size=some { cls:=.type "list",dict:=none,data:=.seq acc c,slots:=#[] }∧ItemsOf (fun i v=>ord[i]?=some v) acc es.size) { s with heap:=h2,drawn:=d }:=fun h2 c st2 k2 hL2=>by
  refine codeAny_extend_loopS W.toS (by omega) s.heap.objs.size Lf _ es.size 0 _ #[] c rfl (Nat.zero_le _) st2 hL2 (ItemsOf.nil _) fun s' acc' c' hm hS' hacc=>?_
  refine ⟨s'.heap,s'.toks,acc',c',rfl,Moved.eq_with hm,fun b o e=>?_,hS',hacc⟩
  have bl:=Heap.lt_size e
  refine hm.heap b o (fun z=>?_) (k2 b o (Nat.ne_of_lt bl) (k1 _ _ (k0 _ _ e)))
  rcases List.mem_cons.mp z with z | z
  ·exact absurd z (Nat.ne_of_lt bl)
  ·exact absurd (List.mem_singleton.mp z) (Nat.ne_of_lt (Nat.lt_of_lt_of_le (Nat.lt_trans bl L0) lI))
 have ends:∀ (h2:Heap) (c:Nat),St 0 h2→(∀ b o,b≠s.heap.objs.size→h1.get? b=some o→h2.get? b=some o)→h2.get? s.heap.objs.size=some { cls:=.type "list",data:=.seq #[] c } →
   codeAny (model P w) A (.builtin "list.extend.loop" ⟨[.ref s.heap.objs.size,.ref I,.ref s.heap.objs.size],[]⟩) (fun r s'=>match r with | .ok (.ret v)=>wpAny (model P w) A (match v with | Value.ref a=>do { let o ← load a;match o.data with | Data.seq xs epoch=>pure xs.toList | x=>unsupported "internal:collect" } | x=>unsupported "internal:collect") R E s' | .ok a=>False | .error e=>E e s') { s with heap:=h2,drawn:=d }:=fun h2 c st2 k2 hL2=>by
  refine codeAny_mono (key h2 c st2 k2 hL2) fun q s' x=>?_
  obtain ⟨h',tk,acc,c,rfl,rfl,hk,hS',hacc⟩:=x
  show wpAny _ A (load s.heap.objs.size >>= _) _ _ _;refine wpAny_bind (wpAny_load hS' ?_)
  have ea:acc.toList=ord:=by
   have lo:ord.length=es.size:=by have:=(po.trans (List.Perm.refl _)).length_eq;simpa using this
   apply List.ext_getElem?
   intro i
   rcases Nat.lt_or_ge i acc.size with z | z
   ·rw [Array.getElem?_toList,Array.getElem?_eq_getElem z]
    exact (hacc.2 i _ (Array.getElem?_eq_getElem z)).symm
   ·rw [List.getElem?_eq_none (by simpa using z),List.getElem?_eq_none (by rw [lo,← hacc.1];exact z)]
  exact wpAny_pure (ea ▸ h h' tk d acc.toList hk (ea ▸ po.trans pm))
 refine wpAny_bind (wpAny_holding (za3 ⟨_,k1 _ _ (k0 _ _ ho),rfl⟩ ?_))
 refine wpAny_ite_split (fun _=>?_) fun _=>wpAny_pure ⟨plainId_quiet PySem.F.plain_extend_loop _,ends h1 _ st (fun _ _ _ e=>e) hL1⟩
 refine wpAny_bind (wpAny_rule (wpAny_bind ?_))
 show wpAny _ _ (updateSeq s.heap.objs.size (·.push .none) >>= fun _=>updateSeq s.heap.objs.size (·.pop)) _ _ _
 refine wpAny_bind (wpAny_updateSeq hL1 rfl ?_)
 have g2:=Heap.get?_update_self (Obj.mapSeq (·.push Value.none)) hL1 rfl
 refine wpAny_updateSeq (hz:=by seq_fits) g2 rfl ?_
 have g3:=Heap.get?_update_self (Obj.mapSeq (·.pop)) g2 rfl
 have oth:∀ b o,b≠s.heap.objs.size→h1.get? b=some o→((h1.update s.heap.objs.size (Obj.mapSeq (·.push Value.none))).update s.heap.objs.size (Obj.mapSeq (·.pop))).get? b=some o:=fun b o hb e=>(Heap.get?_update_other _ _ (Ne.symm hb)).trans ((Heap.get?_update_other _ _ (Ne.symm hb)).trans e)
 exact wpAny_pure ⟨plainId_quiet PySem.F.plain_extend_loop _,ends _ _ (W.frame 0 _ _ st fun b hb o e=>oth b o (fun z=>Lf (z ▸ hb)) e) oth g3⟩
end
end L2
namespace L2
open PySem PySem.Spec PySem.W PyProof.Rows
section
variable {P:Program} {w:World} {A:Around} {E:Value→Shared→Prop} {s:Shared}
theorem VI {l:Addr} {C:List Value→Shared→Prop} {Q:Value→Shared→Prop} (coll:∀ R:List Value→Shared→Prop,(∀ vs s1,C vs s1→R vs s1)→wpAny (model P w) A.in1 (collect (.ref l)) R E s)
  (rest:∀ (vs:List Value) (s1:Shared),C vs s1→∃ (κ:SortKind) (lt:Nat→Nat→Bool),vs.length < 64∧SO lt vs.length ∧
   (2≤vs.length→∀ (h:Heap) (Q:SortKind→Shared→Prop),(∀ b o,s1.heap.get? b=some o→h.get? b=some o)→Q κ { s1 with heap:=h }→wpAny (model P w) A.in1.in1 (keyKind' vs.toArray) Q (fun _ _=>False) { s1 with heap:=h }) ∧
   (∀ (h:Heap) i j C,(∀ b o,s1.heap.get? b=some o→h.get? b=some o)→i < vs.length→j < vs.length→i≠j→C (lt i j) { s1 with heap:=h }→kas_ask P w A.in1.in1 κ vs i j C { s1 with heap:=h }) ∧
   ∀ (h':Heap) (p:Array Nat) (c:Nat),(∀ b o,s1.heap.get? b=some o→h'.get? b=some o)→h'.get? s1.heap.objs.size=some (seqObj "list" (vH vs p).toArray c)→PP vs.length p→k9 lt p vs.length→Q (.ref s1.heap.objs.size) { s1 with heap:=h' }) :
  wpAny (model P w) A (call (.builtin "sorted") [.ref l]) Q E s:=by
 refine Calls.call_function_entry kind_sorted plain_sorted entry_sorted (args_sorted1 _) ?_;unfold Builtin.«sorted»
 refine wpAny_bind (m:=checkCount "sorted" 1 1 _) (wpAny_pure ?_);refine wpAny_bind (coll _ fun vs s1 hC=>?_)
 obtain ⟨κ,lt,h64,S,hk,hc,fin⟩:=rest vs s1 hC
 refine wpAny_bind (wpAny_newList ?_ (by rw [sizeLine_eq];omega))
 have hoL:(s1.heap.push (seqObj "list" vs.toArray 0)).get? s1.heap.objs.size=some (seqObj "list" vs.toArray 0):=Heap.get?_push_size _ rfl
 have kept:∀ h',Kp s1.heap.objs.size (s1.heap.push (seqObj "list" vs.toArray 0)) h'→∀ b o,s1.heap.get? b=some o→h'.get? b=some o:=fun h' k b o e=>k b o (Nat.ne_of_lt (Heap.lt_size e)) (Heap.get?_push_of_some _ e)
 refine wpAny_bind (wpAny_holding (wpAny_call_entry slot_list_sort ⟨_,hoL,rfl⟩ entry_list_sort (Yk (s:={ s1 with heap:=s1.heap.push (seqObj "list" vs.toArray 0) }) hoL h64 (κ:=κ) (lt:=lt) (fun h2 h' Q' k q=>?_) (fun h' i j C k hi hj hij q=>?_) S fun h' p c k ho hp hr=>?_) (args_list_sort _)))
 ·exact hk h2 h' Q' (kept h' k) q
 ·exact hc h' i j C (kept h' k) hi hj hij q
 ·exact ⟨_,rfl,wpAny_pure ⟨_,rfl,fin h' p c (kept h' k) ho hp hr⟩⟩
end
theorem za9 {α β:Type} {f:α→β} {l:List β}:∀ {m:List α},l.Perm (m.map f)→∃ m':List α,m'.Perm m∧l=m'.map f:=by
 suffices H:∀ {l k:List β},l.Perm k→∀ m:List α,k=m.map f→∃ m':List α,m'.Perm m∧l=m'.map f from fun {m} h=>H h m rfl
 intro l k h
 induction h with
 | nil=>intro m e;exact ⟨m,List.Perm.refl _,e⟩
 | cons x _ ih =>
  intro m e
  cases m with
  | nil=>cases e
  | cons y m =>
   obtain ⟨m',a,b⟩:=ih m (by injection e)
   exact ⟨y :: m',a.cons y,by rw [b,List.map_cons];congr 1;injection e⟩
 | swap x y l =>
  intro m e
  match m,e with
  | a :: b :: m,e =>
   injection e with e1 e2
   injection e2 with e2 e3
   exact ⟨b :: a :: m,List.Perm.swap ..,by rw [List.map_cons,List.map_cons,← e1,← e2,← e3]⟩
 | trans _ _ ih1 ih2 =>
  intro m e
  obtain ⟨m2,a,b⟩:=ih2 m e
  obtain ⟨m3,c,d⟩:=ih1 m2 b
  exact ⟨m3,c.trans a,d⟩
abbrev QB (H:Hp) (ps:List (Addr × Pl)):Prop:=∀ n∈ps,H n.1=some (.tup [.str n.2.1,.int n.2.2])
def zba (w:World) (a:Addr) (ps:List (Addr × Pl)):HO:=.ext fun h=>SetIn w h a (ps.map fun n=>Value.ref n.1)
abbrev zdm (w:World):RC:=fun vs H Q=>∃ a ps,vs=[.ref a]∧H a=some (zba w a ps)∧QB H ps∧(ps.map (·.2)).Nodup∧ps.length < 64 ∧
 ∀ l ys srt H',Same H H'→H l=none→H' l=some (.lst ys)→Paired (Yr H') ys srt→srt.Pairwise (fun a b=>ya a b=true)→srt.Perm (ps.map (·.2))→Q (.ref l) H'
section
variable {X:Cx}
theorem zbb {α:Type} {f:α→Addr}:∀ {ps:List α} {vs:List Value},Vals (ps.map fun n=>V.ref (f n)) vs→vs=ps.map fun n=>Value.ref (f n)
 | [],_,h=>by cases h;rfl
 | p :: ps,_,h=>by
  cases h with
  | cons a r =>
   cases a
   rw [zbb r]
   rfl
theorem X2 {α:Type} {f:α→Addr}:∀ {ps:List α},Vals (ps.map fun n=>V.ref (f n)) (ps.map fun n=>Value.ref (f n))
 | []=>.nil
 | p :: ps=>.cons rfl X2
theorem Inv.drew {pins:List (Addr × Obj)} {σ:St} {H:Hp} {s:Shared} {d:Drawn} (I:Inv X pins σ H s):Inv X pins σ H { s with drawn:=d }:=⟨I.ok,I.os,I.bare,I.base,I.loc,I.cell,I.free,I.freeC,I.pin,I.hok,I.len⟩
theorem QC (hc:X.calm=true):vq X (.builtin "sorted") (zdm X.w):=by
 intro pins s σ H vs us Q I r0 h
 obtain ⟨a,ps,rfl,ha,pp,nd,h64,q⟩:=h
 obtain ⟨u,rfl,ru⟩:=wV r0
 cases ru
 have hS:SetIn X.w s.heap a (ps.map fun n=>Value.ref n.1):=(show ObjOk X.prog X.w H s.heap a (zba X.w a ps) from I.hok a _ ha).1
 have hh:X.A.handled=none:=I.ok.hd hc
 refine VI (C:=fun vs s1=>∃ ps':List (Addr × Pl),ps'.Perm ps∧vs=ps'.map (fun n=>Value.ref n.1)∧(∀ b o,s.heap.get? b=some o→s1.heap.get? b=some o)∧Inv X pins σ H s1) (fun R hR=>?_) fun vs s1 ⟨ps',pm,ev,k1,I1⟩=>?_
 ·refine VH hS hh fun h' tk d ord kp po=>?_
  obtain ⟨ps',pm,e⟩:=za9 po
  exact hR _ _ ⟨ps',pm,e,kp,(I.kept (t':=tk) kp).drew⟩
 ·subst ev
  have nd':(ps'.map (·.2)).Nodup:=((pm.map (·.2)).nodup_iff).mpr nd
  have lp:ps'.length=ps.length:=pm.length_eq
  have so:=Ym nd'
  have pp':QB H ps':=fun n hn=>pp n (pm.mem_iff.mp hn)
  have vat:∀ {h:Heap},(∀ b o,s1.heap.get? b=some o→h.get? b=some o)→∀ (i:Nat) (v:Value) (q:Pl),(ps'.map fun n=>Value.ref n.1)[i]?=some v→(ps'.map (·.2))[i]?=some q→PlAt h v q:=fun {h} k i v q hv hq=>by
   rw [List.getElem?_map] at hv hq
   obtain ⟨m,hm,rfl⟩:=Option.map_eq_some_iff.mp hv
   rw [hm] at hq
   cases hq
   exact (Yn I1 (pp' m (List.mem_of_getElem? hm))).keep k
  have ll:(ps'.map fun n=>Value.ref n.1).length=(ps'.map (·.2)).length:=by simp
  refine ⟨tuples' true,fun i j=>ya ((ps'.map (·.2)).getD i (("",0):Pl)) ((ps'.map (·.2)).getD j (("",0):Pl)),by simp;omega,by rw [ll];exact so,fun h2 h Q' k q'=>?_,fun h i j C k hi hj hij q'=>?_,fun h' p c k2 hD hp hr=>?_⟩
  ·exact Yl (s:={ s1 with heap:=h }) (qs:=ps'.map (·.2)) ll (fun i v q hv hq=>vat k i v q hv hq) (by omega) q'
  ·have hi':i < (ps'.map (·.2)).length:=by simpa using hi
   have hj':j < (ps'.map (·.2)).length:=by simpa using hj
   have e1:(ps'.map (·.2))[i]?=some (ps'.map (·.2))[i]:=List.getElem?_eq_getElem hi'
   have e2:(ps'.map (·.2))[j]?=some (ps'.map (·.2))[j]:=List.getElem?_eq_getElem hj'
   have g1:(ps'.map fun n=>Value.ref n.1)[i]?=some ((ps'.map fun n=>Value.ref n.1).getD i Value.none):=by rw [List.getD_eq_getElem?_getD,List.getElem?_eq_getElem hi];rfl
   have g2:(ps'.map fun n=>Value.ref n.1)[j]?=some ((ps'.map fun n=>Value.ref n.1).getD j Value.none):=by rw [List.getD_eq_getElem?_getD,List.getElem?_eq_getElem hj];rfl
   have n1:(ps'.map (·.2)).getD i (("",0):Pl)=(ps'.map (·.2))[i]:=by rw [List.getD_eq_getElem?_getD,e1];rfl
   have n2:(ps'.map (·.2)).getD j (("",0):Pl)=(ps'.map (·.2))[j]:=by rw [List.getD_eq_getElem?_getD,e2];rfl
   simp only [n1,n2] at q'
   exact XQ (P:=X.prog) (w:=X.w) (A:=X.A.in1.in1) (E:=fun _ _=>False) (s:={ s1 with heap:=h }) (Q:=C) (vat k i _ _ g1 e1) (vat k j _ _ g2 e2) q' fun z=>hij ((List.getElem_inj nd').mp z)
  ·have hp':PP ps'.length p:=by simpa using hp
   have fr:H s1.heap.objs.size=none:=I1.hok.fresh (Nat.le_refl _)
   have sz:=hp'.size
   have eo:vH (ps'.map fun n=>Value.ref n.1) p=(p.toList.map fun i=>ps'.getD i (0,(("",0):Pl))).map fun n=>Value.ref n.1:=by
    unfold vH
    rw [List.map_map]
    refine List.map_congr_left fun i hi=>?_
    have hl:=hp'.lt i hi
    simp [List.getD_eq_getElem?_getD,List.getElem?_map,List.getElem?_eq_getElem hl]
   have pp2:QB H (p.toList.map fun i=>ps'.getD i (0,(("",0):Pl))):=fun n hn=>by
    obtain ⟨i,hi,rfl⟩:=List.mem_map.mp hn
    have hl:=hp'.lt i hi
    rw [List.getD_eq_getElem?_getD,List.getElem?_eq_getElem hl]
    exact pp' _ (List.getElem_mem hl)
   have pm2:(p.toList.map fun i=>ps'.getD i (0,(("",0):Pl))).Perm ps':=by
    refine (hp'.list.map _).trans ?_
    rw [Jw]
   obtain ⟨ps2,e2⟩:∃ ps2,ps2=p.toList.map fun i=>ps'.getD i (0,(("",0):Pl)):=⟨_,rfl⟩
   rw [eo,← e2] at hD
   rw [← e2] at pp2 pm2
   have I2:Inv X pins σ (upd H s1.heap.objs.size (.lst (ps2.map fun n=>V.ref n.1))) { s1 with heap:=h' }:=I1.laid (s:=s1) (a:=s1.heap.objs.size) (o:=.lst (ps2.map fun n=>V.ref n.1)) (t':=s1.toks) k2 (Nat.le_refl _)
    ⟨by rw [List.length_map,pm2.length_eq];exact Nat.le_trans (by omega:_≤64) (by decide),ps2.map fun n=>Value.ref n.1,c,X2,hD⟩
   have S2:Same H (upd H s1.heap.objs.size (.lst (ps2.map fun n=>V.ref n.1))):=isV _ fr
   have pr:∀ {ps3:List (Addr × Pl)},QB H ps3→Paired (Yr (upd H s1.heap.objs.size (.lst (ps2.map fun n=>V.ref n.1)))) (ps3.map fun n=>V.ref n.1) (ps3.map (·.2)):=fun {ps3} h=>by
    induction ps3 with
    | nil=>exact .nil
    | cons n ps ih=>exact .cons ⟨n.1,rfl,S2 _ _ (h n List.mem_cons_self)⟩ (ih fun m hm=>h m (List.mem_cons_of_mem _ hm))
   refine ⟨.ref s1.heap.objs.size,_,I2,rfl,q _ _ (ps2.map (·.2)) _ S2 fr zp (pr pp2) ?_ ((pm2.trans pm).map (·.2))⟩
   have hr':k9 (fun i j=>ya ((ps'.map (·.2)).getD i (("",0):Pl)) ((ps'.map (·.2)).getD j (("",0):Pl))) p ps'.length:=by simpa using hr
   have pw:=Jx (F:=ya) hp' hr'
   have eq:ps2.map (·.2)=p.toList.map fun i=>(ps'.map (·.2)).getD i (("",0):Pl):=by
    rw [e2,List.map_map]
    refine List.map_congr_left fun i hi=>?_
    have hl:=hp'.lt i hi
    simp [List.getD_eq_getElem?_getD,List.getElem?_map,List.getElem?_eq_getElem hl]
   rw [eq]
   exact pw
def zfI (K:W.Frag) (ta:TA):TE:=fun σ H Q=>ta σ H fun vs H1=>∃ r xs its,vs=[.ref r]∧SqL K H1 r xs∧Paired (Yr H1) xs its∧its.Nodup∧its.length < 64 ∧
 ∀ l ys srt H',Same H1 H'→H1 l=none→H' l=some (.lst ys)→Paired (Yr H') ys srt→srt.Pairwise (fun a b=>ya a b=true)→srt.Perm its→Q (.ref l) H'
theorem X3 {H:Hp}:∀ {xs:List V} {its:List Pl},Paired (Yr H) xs its→∃ ps:List (Addr × Pl),xs=ps.map (fun n=>V.ref n.1)∧its=ps.map (·.2)∧QB H ps
 | _,_,.nil=>⟨[],rfl,rfl,fun _ h=>by cases h⟩
 | _,_,.cons a r=>by
  obtain ⟨p,rfl,hp⟩:=a
  obtain ⟨ps,e1,e2,h⟩:=X3 r
  refine ⟨(p,_) :: ps,by rw [e1];rfl,by rw [e2];rfl,fun n hn=>?_⟩
  rcases List.mem_cons.mp hn with rfl | hn
  ·exact hp
  ·exact h n hn
end
end L2
namespace L2
open PySem PySem.Spec PyProof.Rows
section
variable {P:Program} {w:World} {A:Around} {E:Value→Shared→Prop} {s:Shared}
theorem zbc {it:Addr} {x:Str} {t:Tok} {i c:Nat} {Q:Value→Shared→Prop} (hit:s.heap.IsStrIter it "str_ascii_iterator" x t i) (hx:x.cps[i]?=some c)
  (q:∀ h,h.IsStrIter it "str_ascii_iterator" x t (i + 1)→Heap.SameBut it s.heap h→Q (.str ⟨#[c]⟩ s.toks) { s with heap:=h,toks:=s.toks + 1 }):wpAny (model P w) A (Builtin.SmallTypes.nextOf (.ref it)) Q E s:=by
 obtain ⟨o,ho,hc,hd⟩:=id hit
 unfold Builtin.SmallTypes.nextOf
 refine wpAny_bind (wpAny_callSpecial?_slot (name:=Str.ofString "__next__") hit.typeIs F.slot_str_ascii_iterator_next (wpAny_call_entry F.slot_str_ascii_iterator_next hit.typeIs F.entry_str_ascii_iterator_next ?_ (F.args_str_ascii_iterator_next_1 _)))
 show wpAny _ _ (field (.ref it) 0 >>= _) _ _ s;refine wpAny_bind (wpAny_field ho hd (x:=.str x t) rfl ?_)
 show wpAny _ _ (field (.ref it) 1 >>= _) _ _ s;refine wpAny_bind (wpAny_field ho hd (x:=.int i 0) rfl ?_);simp only [Int.toNat_natCast,hx]
 refine wpAny_bind (wpAny_setField ho hd (by simp) (wpAny_bind (wpAny_mkStr (wpAny_pure ⟨_,rfl,wpAny_pure (q _ ?_ (Heap.SameBut.update ..))⟩) (by show 1≤sizeLine;decide))))
 exact ⟨_,Heap.get?_update_self _ ho (Obj.isFreed_of_fields (Obj.data_mapFields hd _)),(Obj.cls_mapFields ..).trans hc,by rw [Obj.data_mapFields hd];simp [rawInt]⟩
theorem zcB {it:Addr} {x:Str} {t:Tok} {i:Nat} {Q:Value→Shared→Prop} (hh:A.handled=none) (hit:s.heap.IsStrIter it "str_ascii_iterator" x t i) (hx:x.cps[i]?=none)
  (hE:∀ h e,Heap.ExtBut it s.heap h→(∃ o,h.get? e=some o∧o.cls=.type "StopIteration")→E (.ref e) { s with heap:=h }):wpAny (model P w) A (Builtin.SmallTypes.nextOf (.ref it)) Q E s:=by
 obtain ⟨o,ho,hc,hd⟩:=id hit
 unfold Builtin.SmallTypes.nextOf
 refine wpAny_bind (wpAny_callSpecial?_slot (name:=Str.ofString "__next__") hit.typeIs F.slot_str_ascii_iterator_next (wpAny_call_entry F.slot_str_ascii_iterator_next hit.typeIs F.entry_str_ascii_iterator_next ?_ (F.args_str_ascii_iterator_next_1 _)))
 show wpAny _ _ (field (.ref it) 0 >>= _) _ _ s;refine wpAny_bind (wpAny_field ho hd (x:=.str x t) rfl ?_)
 show wpAny _ _ (field (.ref it) 1 >>= _) _ _ s;refine wpAny_bind (wpAny_field ho hd (x:=.int i 0) rfl ?_);simp only [Int.toNat_natCast,hx]
 refine wpAny_bind (wpAny_rule (wpAny_bind (wpAny_setField ho hd (by simp) (wpAny_bind (wpAny_letGo ?_)))))
 show wpAny _ _ (newExc (.type "StopIteration") [] >>= _) _ _ _;refine wpAny_bind ?_;simp only [newExc,newTuple]
 refine wpAny_bind (wpAny_newObj_type ?_ (by size_fits));refine wpAny_bind (m:=firstArgMember _ _) (wpAny_of_eq (a:=Value.none) (by first | rfl | (simp only [firstArgMember];rfl)) ?_)
 refine wpAny_newObj_type ?_ (by size_fits);simp only [raiseNew]
 refine wpAny_bind (wpAny_handled ?_);rw [show A.in1.handled=none from hh];refine wpAny_bind (wpAny_pure (wpAny_throw ?_))
 exact hE _ _ (((Heap.SameBut.update ..).extBut.push _).push _) ⟨_,Heap.get?_push_size _ rfl,rfl⟩
theorem zcC {e it:Addr} {i c:Nat} {x:Str} {t:Tok} {old:Value} {Q:Option Value→Shared→Prop} (he:IsEnum s.heap e it i old) (hit:s.heap.IsStrIter it "str_ascii_iterator" x t i) (hx:x.cps[i]?=some c) (hne:e≠it)
  (q:∀ h,IsEnumOut h e it ((i:Int) + 1) (.str ⟨#[c]⟩ s.toks) s.heap.objs.size→h.IsStrIter it "str_ascii_iterator" x t (i + 1)→h.get? s.heap.objs.size=some { cls:=.type "tuple",data:=.seq #[.int i (s.toks + 1),.str ⟨#[c]⟩ s.toks] } →
   (∀ b o,b≠e→b≠it→s.heap.get? b=some o→h.get? b=some o)→Q (some (.ref s.heap.objs.size)) { s with heap:=h,toks:=s.toks + 1 + 1 }):wpAny (model P w) A (pyNext (.ref e)) Q E s:=by
 have hT:s.TypeIs (.ref e) "enumerate":=⟨_,he,rfl⟩
 unfold pyNext
 refine wpAny_bind (wpAny_attempt (wpAny_callSpecial?_slot (name:=Str.ofString "__next__") hT F.slot_enumerate_next (wpAny_call_entry F.slot_enumerate_next hT F.entry_enumerate_next ?_ (F.args_enumerate_next_1 _))))
 obtain ⟨hp,g,d,tk,os⟩:=s
 show wpAny _ _ (field (.ref e) 2 >>= _) _ _ _;refine wpAny_bind (wpAny_field he rfl (x:=.ref it) rfl ?_)
 refine wpAny_bind (zbc hit hx fun h1 it1 s1=>?_)
 have s1:Heap.SameBut it hp h1:=s1
 have e1:IsEnum h1 e it i old:=(s1.2 e hne).trans he
 show wpAny _ _ (field (.ref e) 3 >>= _) _ _ ⟨h1,g,d,tk + 1,os⟩;refine wpAny_bind (wpAny_field e1 rfl (x:=rawInt i) rfl ?_)
 show wpAny _ _ (field (.ref e) 4 >>= _) _ _ ⟨h1,g,d,tk + 1,os⟩;refine wpAny_bind (wpAny_field e1 rfl (x:=.none) rfl ?_)
 show wpAny _ _ (mkInt i >>= _) _ _ ⟨h1,g,d,tk + 1,os⟩;refine wpAny_bind (wpAny_mkInt ?_)
 show wpAny _ _ (setField (.ref e) 3 (rawInt ((i:Int) + 1)) >>= _) _ _ ⟨h1,g,d,tk + 1 + 1,os⟩
 refine wpAny_bind (wpAny_setField_rec e1 (by simp) fun h2 e2 s2=>?_)
 have s2:Heap.SameBut e h1 h2:=s2
 have e2:IsEnum h2 e it ((i:Int) + 1) old:=e2
 show wpAny _ _ (setField (.ref e) 4 .none >>= _) _ _ ⟨h2,g,d,tk + 1 + 1,os⟩
 refine wpAny_bind (wpAny_setField_rec e2 (by simp) fun h3 e3 s3=>?_)
 have s3:Heap.SameBut e h2 h3:=s3
 have e3:IsEnum h3 e it ((i:Int) + 1) old:=e3
 show wpAny _ _ (newTuple [.int i (tk + 1),.str ⟨#[c]⟩ tk] >>= _) _ _ ⟨h3,g,d,tk + 1 + 1,os⟩;refine wpAny_bind (wpAny_newTuple ?_)
 have e4:IsEnum (h3.push { cls:=.type "tuple",data:=.seq #[.int i (tk + 1),.str ⟨#[c]⟩ tk] }) e it ((i:Int) + 1) old:=Heap.get?_push_of_some _ e3
 generalize hh4:h3.push { cls:=.type "tuple",data:=.seq #[.int i (tk + 1),.str ⟨#[c]⟩ tk] }=h4 at e4
 have sz:h3.objs.size=hp.objs.size:=by rw [s3.1,s2.1,s1.1]
 have el:e < hp.objs.size:=Heap.lt_size he
 have t4:h4.get? hp.objs.size=some { cls:=.type "tuple",data:=.seq #[.int i (tk + 1),.str ⟨#[c]⟩ tk] }:=by rw [← hh4,← sz];exact Heap.get?_push_size _ rfl
 have k4:∀ b o,b≠e→b≠it→hp.get? b=some o→h4.get? b=some o:=fun b o hbe hbi hb=>by
  rw [← hh4];exact Heap.get?_push_of_some _ (s3.extBut b o hbe (s2.extBut b o hbe (s1.extBut b o hbi hb)))
 have it4:h4.IsStrIter it "str_ascii_iterator" x t (i + 1):=by
  rw [← hh4];obtain ⟨o,ho,r⟩:=(it1.extBut s2.extBut (Ne.symm hne)).extBut s3.extBut (Ne.symm hne);exact ⟨o,Heap.get?_push_of_some _ ho,r⟩
 show wpAny _ _ (Builtin.SmallTypes.ownedTupleIsFree (.ref e) >>= _) _ _ ⟨h4,g,d,tk + 1 + 1,os⟩
 rw [sz]
 refine wpAny_bind ?_
 unfold Builtin.SmallTypes.ownedTupleIsFree
 refine wpAny_bind (wpAny_field e4 rfl (x:=.none) rfl (wpAny_pure ?_));simp only [if_true]
 refine wpAny_bind (wpAny_rule ?_);refine wpAny_bind (wpAny_field e4 rfl (x:=old) rfl ?_)
 refine wpAny_bind (wpAny_setField_rec e4 (by simp) fun h5 e5 s5=>?_)
 have s5:Heap.SameBut e h4 h5:=s5
 have e5:IsEnum h5 e it ((i:Int) + 1) (.str ⟨#[c]⟩ tk):=e5
 show wpAny _ _ (Builtin.SmallTypes.ownedTupleHandOut (.ref e) (.ref hp.objs.size) >>= _) _ _ ⟨h5,g,d,tk + 1 + 1,os⟩;refine wpAny_bind ?_
 unfold Builtin.SmallTypes.ownedTupleHandOut
 refine wpAny_bind (wpAny_setField_rec e5 (by simp) fun h6 e6 s6=>?_)
 have s6:Heap.SameBut e h5 h6:=s6
 have e6:IsEnumOut h6 e it ((i:Int) + 1) (.str ⟨#[c]⟩ tk) hp.objs.size:=e6
 refine wpAny_setField_rec e6 (by simp) fun h7 e7 s7=>?_
 have s7:Heap.SameBut e h6 h7:=s7
 have e7:IsEnumOut h7 e it ((i:Int) + 1) (.str ⟨#[c]⟩ tk) hp.objs.size:=e7
 refine wpAny_bind (wpAny_letGo (wpAny_pure ⟨_,rfl,wpAny_pure (q h7 e7 ?_ ?_ ?_)⟩))
 ·exact ((it4.extBut s5.extBut (Ne.symm hne)).extBut s6.extBut (Ne.symm hne)).extBut s7.extBut (Ne.symm hne)
 ·exact s7.extBut _ _ (Nat.ne_of_gt el) (s6.extBut _ _ (Nat.ne_of_gt el) (s5.extBut _ _ (Nat.ne_of_gt el) t4))
 ·exact fun b o hbe hbi hb=>s7.extBut b o hbe (s6.extBut b o hbe (s5.extBut b o hbe (k4 b o hbe hbi hb)))
theorem zdT {e it:Addr} {i:Nat} {x:Str} {t:Tok} {old:Value} {Q:Option Value→Shared→Prop} (hh:A.handled=none) (he:IsEnum s.heap e it i old) (hit:s.heap.IsStrIter it "str_ascii_iterator" x t i) (hx:x.cps[i]?=none)
  (q:∀ h,Heap.ExtBut it s.heap h→Q none { s with heap:=h }):wpAny (model P w) A (pyNext (.ref e)) Q E s:=by
 have hT:s.TypeIs (.ref e) "enumerate":=⟨_,he,rfl⟩
 unfold pyNext
 refine wpAny_bind (wpAny_attempt (wpAny_callSpecial?_slot (name:=Str.ofString "__next__") hT F.slot_enumerate_next (wpAny_call_entry F.slot_enumerate_next hT F.entry_enumerate_next ?_ (F.args_enumerate_next_1 _))))
 show wpAny _ _ (field (.ref e) 2 >>= _) _ _ _;refine wpAny_bind (wpAny_field he rfl (x:=.ref it) rfl ?_)
 refine wpAny_bind (zcB hh hit hx fun h x k hx=>?_)
 obtain ⟨o,ho,hc⟩:=hx
 refine wpAny_bind (wpAny_isInstance (T:="StopIteration") (b:=true) ⟨o,ho,hc⟩ isSubtype_stop ?_);exact wpAny_pure (q _ k)
end
def ES (e it:Addr) (z:Str) (t:Tok) (k:Nat) (h:Heap):Prop:=k≤z.cps.size∧(∃ old,IsEnum h e it (k:Int) old)∧h.IsStrIter it "str_ascii_iterator" z t k
def zdU (z:Str):It:=⟨fun i _=>i < z.cps.size,fun i H x H'=>∃ T c,x=.ref T∧H T=none∧H'=upd H T (.tup [.int i,.str ⟨#[c]⟩])∧z.cps[i]?=some c,fun i _=>z.cps.size≤i⟩
theorem JA {P:Program} {w:World} {K:W.Frag} {elts:List Expr} {x1} {pos:Pos} {e it:Addr} {z:Str} {t:Tok} (hei:e≠it) :
  K7 P w K (.Tuple elts x1 pos) (zdU z) [e,it] e (ES e it z t) where
 mem:=by simp
 obj:=fun k h st c hc=>by
  obtain ⟨_,⟨old,he⟩,⟨oi,hi,ci,di⟩⟩:=st
  simp only [List.mem_cons,List.not_mem_nil,or_false] at hc
  rcases hc with rfl | rfl
  ·exact ⟨_,he,fun v z=>by cases z⟩
  ·exact ⟨_,hi,fun v z=>by rw [di] at z;cases z⟩
 keep:=fun k h h' st kk=>by
  obtain ⟨l,⟨old,he⟩,⟨oi,hi,ci⟩⟩:=st
  exact ⟨l,⟨old,kk e (by simp) _ he⟩,⟨oi,kk it (by simp) _ hi,ci⟩⟩
 item:=by
  intro X hP hw hK hc k pins s σ H E I hf st hg
  subst hP hw hK
  have hlt:k < z.cps.size:=hg
  have hk:=Array.getElem?_eq_getElem hlt
  have old:∀ c∈[e,it],c≠s.heap.objs.size:=fun c hc=>by
   obtain ⟨_,⟨old,he⟩,⟨oi,hi,ci⟩⟩:=st
   simp only [List.mem_cons,List.not_mem_nil,or_false] at hc
   rcases hc with rfl | rfl
   ·exact Nat.ne_of_lt (Heap.lt_size he)
   ·exact Nat.ne_of_lt (Heap.lt_size hi)
  obtain ⟨_,⟨o0,he⟩,hi⟩:=st
  refine zcC he hi hk hei fun h e8 i5 t5 k5=>?_
  generalize hcc:z.cps[k]=c at *
  have I6:Inv X pins σ (upd H s.heap.objs.size (.tup [.int k,.str ⟨#[c]⟩])) { s with heap:=s.heap.push { cls:=.type "tuple",data:=.seq #[.int k (s.toks + 1),.str ⟨#[c]⟩ s.toks] },toks:=s.toks + 1 + 1 } :=
   I.laid (a:=s.heap.objs.size) (o:=.tup [.int k,.str ⟨#[c]⟩]) (t':=s.toks + 1 + 1) (fun b u e=>Heap.get?_push_of_some _ e) (Nat.le_refl _) ⟨by show 2≤sizeLine;decide,[.int k (s.toks + 1),.str ⟨#[c]⟩ s.toks],.cons ⟨_,rfl⟩ (.cons ⟨_,rfl⟩ .nil),⟨_,Heap.get?_push_size _ rfl,rfl,_,rfl⟩⟩
  have free:∀ c'∈[e,it],upd H s.heap.objs.size (HO.tup [.int k,.str ⟨#[c]⟩]) c'=none:=fun c' hc=>by rw [yb (old c' hc)];exact (hf c' hc).1
  have fz:∀ c'∈[e,it],jK X pins (upd H s.heap.objs.size (HO.tup [.int k,.str ⟨#[c]⟩])) c':=fun c' hc=>⟨free c' hc,(hf c' hc).2⟩
  refine ⟨.ref s.heap.objs.size,rfl,wpAny_letOwnedTupleGo_enum e8 fun h2 z9 sb2=>?_⟩
  have up:∀ c o,c≠e→h.get? c=some o→h2.get? c=some o:=fun c o hc e=>by
   rw [show h2.get? c=h.get? c from sb2.2 c hc];exact e
  have I7:Inv X pins σ (upd H s.heap.objs.size (.tup [.int k,.str ⟨#[c]⟩])) { s with heap:=h2,toks:=s.toks + 1 + 1 }:=I6.turnedL (s:={ s with heap:=s.heap.push { cls:=.type "tuple",data:=.seq #[.int k (s.toks + 1),.str ⟨#[c]⟩ s.toks] },toks:=s.toks + 1 + 1 }) (t':=s.toks + 1 + 1) (ch:=[e,it]) (fun c' o hc e=>by
   simp only [List.mem_cons,List.not_mem_nil,or_false,not_or] at hc
   refine up c' o hc.1 ?_
   rcases Heap.get?_push_cases (show (s.heap.push { cls:=.type "tuple",data:=.seq #[.int k (s.toks + 1),.str ⟨#[c]⟩ s.toks] }).get? c'=some o from e) with ⟨rfl,rfl⟩ | e
   ·exact t5
   ·exact k5 c' o hc.1 hc.2 e) fun c' hc=>fz c' hc
  refine ⟨.ref s.heap.objs.size,_,I7,rfl,⟨_,c,rfl,I.hok.fresh (Nat.le_refl _),rfl,hk⟩,?_,free⟩
  obtain ⟨oi,hi,ci⟩:=i5
  exact ⟨hlt,⟨_,z9⟩,⟨oi,up it _ (Ne.symm hei) hi,ci⟩⟩
 done:=by
  intro X hP hw hK hc k pins s σ H E I hf st hg
  subst hP hw hK
  obtain ⟨l,⟨o0,he⟩,hi⟩:=st
  have hk:z.cps[k]?=none:=Array.getElem?_eq_none hg
  refine zdT (I.ok.hd hc) he hi hk fun h hk=>⟨rfl,I.turnedL (t':=s.toks) (ch:=[e,it]) (fun c o hc e=>?_) fun c hc=>hf c hc⟩
  simp only [List.mem_cons,List.not_mem_nil,or_false,not_or] at hc
  exact hk c o hc.2 e
 self:=fun _ _ _ _ _ st h=>by
  obtain ⟨_,⟨o0,he⟩,hi⟩:=st
  exact wpAny_pyIter_enum he h
def zbd (ta:TA):TI:=fun σ H R=>ta σ H fun vs H1=>∃ z:Str,vs=[.str z]∧z.cps.all (· < 128)=true∧R (zdU z) H1
section
variable {X:Cx}
theorem zbe {elts:List Expr} {x1} {tp:Pos} {e1:Expr} {ta:TA} {p pos:Pos} (hg:Gl X "enumerate") (hm:X.mg "enumerate"=none) (ha:PA X [e1] ta) (he:starEach [e1] X.env=(false,eval e1 X.env) :: starEach [] X.env:=by rfl) (hpl:(backTo pos (starEach [] X.env)).any (·.1)=false:=by rfl) :
  PI X (.Tuple elts x1 tp) (.Call (.Name "enumerate" p) [e1] [] pos) (zbd ta):=by
 intro pins s σ H R I h
 refine Call_ (Zs I hg hm Wp (PyProof.Rows.callWith_type1 (thn (ha pos pins s σ H _ I h) fun us s1 ⟨vs,H1,I1,r1,q1⟩=>?_) he hpl))
 obtain ⟨z,e,h1,q⟩:=q1
 subst e
 obtain ⟨u1,rfl,t,rfl⟩:=wV r1
 refine call_enumerate_str fun h' e0 i0 _ k=>?_
 refine wpAny_pyIter_enum (s:={ s1 with heap:=h' }) e0 ?_
 have ty:strIterType z="str_ascii_iterator":=by unfold strIterType;rw [h1];rfl
 rw [ty] at i0
 generalize hn:s1.heap.objs.size=n at *
 have ne:∀ {x y:Nat},x≠y→(show Addr from x)≠(show Addr from y):=fun h=>h
 refine ⟨_,_,_,_,H1,rfl,I1.kept (t':=s1.toks) k,JA (e:=n + 1) (it:=n) (z:=z) (t:=t) (ne (by omega)),⟨Nat.zero_le _,⟨_,e0⟩,i0⟩,fun c hc=>?_,q⟩
 simp only [List.mem_cons,List.not_mem_nil,or_false] at hc
 have hc:n≤c:=by rcases hc with rfl | rfl <;> first | exact Nat.le_add_right _ _ | exact Nat.le_refl _
 exact I1.fpOk (by rw [hn];exact hc) (I1.hok.fresh (by rw [hn];exact hc))
end
end L2
namespace L2
open PySem PySem.Spec PyProof.Rows
abbrev zbf:RC:=fun xs H Q=>∃ x,xs=[.str x]∧x.length=1∧Q (.int (x.cps.getD 0 0:Nat)) H
def zfS (a:Str) (i:Nat):Str:=if i≤a.length then a else zfilled a (i - a.length)
abbrev qy:RM:=fun x xs H Q=>∃ (a:Str) (i:Nat),x=.str a∧xs=[.int i]∧i≤1000∧Q (.str (zfS a i)) H
def rpL (a b:Str):List V:=match Builtin.Str.lastOccurrence a b 0 a.length with
 | some i=>[.str (Builtin.Str.strSub a 0 i),.str b,.str (Builtin.Str.strSub a (i + b.length) a.length)]
 | none=>[.str Str.empty,.str Str.empty,.str a]
abbrev w6:RM:=fun x xs H Q=>∃ a b,x=.str a∧xs=[.str b]∧(b.length == 0)=false∧a.length≤100000∧∀ l,H l=none→Q (.ref l) (upd H l (.tup (rpL a b)))
abbrev zR:RM:=fun x xs H Q=>∃ (l:Addr) (ls:List Str) (y:Str),x=.ref l∧xs=[.str y]∧H l=some (.lst (ls.map V.str))∧y∈ls∧Q (.int (ls.idxOf y:Nat)) H
theorem hu8 {k:Nat} {A:Around} (r:Room k A):A.units + 8 < cLine:=by have:=zcd r;omega
section
variable {X:Cx}
theorem zbg:MtR X "str.zfill" qy:=by
 intro pins s σ H x xs v us Q I rx rs h
 obtain ⟨a,i,rfl,rfl,hi,q⟩:=h
 obtain ⟨t,rfl⟩:=rx
 obtain ⟨u,rfl,t',rfl⟩:=wV rs
 have hs:sizeLine=16777216:=sizeLine_eq
 have tl:Builtin.Str.tooLong (Int.toNat (i:Int))=false:=by
  unfold Builtin.Str.tooLong
  exact decide_eq_false (by rw [Int.toNat_natCast];omega)
 refine call_gives F.slot_str_zfill (typeIs_str s a t) F.entry_str_zfill (F.args_str_zfill_2 _ _) (gives_str_zfill a i t t' (by rw [decide_eq_false (by omega),decide_eq_false (by omega)];rfl) tl) ?_
 unfold zfS at q
 by_cases c:i≤a.length
 ·rw [if_pos c] at q
  rw [if_pos (by omega)]
  exact ⟨.str a,H,I,⟨_,rfl⟩,q⟩
 ·rw [if_neg c] at q
  rw [if_neg (by omega),Int.toNat_natCast]
  have fz:=fits_zfilled (x:=a) (i:=(i:Int)) tl (by omega)
  rw [Int.toNat_natCast] at fz
  exact ⟨fz,.str _,H,I.tok _,⟨_,rfl⟩,q⟩
theorem Y6:MtM X "str.rpartition" w6:=by
 intro pins s σ H x xs v us Q I rx rs h
 obtain ⟨a,b,rfl,rfl,hb,ha,q⟩:=h
 obtain ⟨t,rfl⟩:=rx
 obtain ⟨u,rfl,t',rfl⟩:=wV rs
 have hs:sizeLine=16777216:=sizeLine_eq
 have hn:H s.heap.objs.size=none:=I.hok.fresh (Nat.le_refl _)
 have q:=q _ hn
 refine call_meets F.slot_str_rpartition (typeIs_str _ _ _) F.entry_str_rpartition (F.args_str_rpartition_2 _ _) (meets_str_rpartition a b t t' hb (by omega)) ?_
 unfold rpL at q
 revert q
 cases Builtin.Str.lastOccurrence a b 0 a.length with
 | none=>exact fun q=>⟨.ref s.heap.objs.size,_,I.laid (a:=s.heap.objs.size) (o:=.tup [.str Str.empty,.str Str.empty,.str a]) (t':=s.toks + 1) (fun b u e=>Heap.get?_push_of_some _ e) (Nat.le_refl _) ⟨by show 3≤sizeLine;omega,_,.cons ⟨_,rfl⟩ (.cons ⟨_,rfl⟩ (.cons ⟨_,rfl⟩ .nil)),⟨_,Heap.get?_push_size _ rfl,rfl,_,rfl⟩⟩,rfl,q⟩
 | some i=>exact fun q=>⟨.ref s.heap.objs.size,_,I.laid (a:=s.heap.objs.size) (o:=.tup [.str (Builtin.Str.strSub a 0 i),.str b,.str (Builtin.Str.strSub a (i + b.length) a.length)]) (t':=s.toks + 1 + 1) (fun b u e=>Heap.get?_push_of_some _ e) (Nat.le_refl _) ⟨by show 3≤sizeLine;omega,_,.cons ⟨_,rfl⟩ (.cons ⟨_,rfl⟩ (.cons ⟨_,rfl⟩ .nil)),⟨_,Heap.get?_push_size _ rfl,rfl,_,rfl⟩⟩,rfl,q⟩
theorem KD:∀ {ls:List Str} {its:List Value},Vals (ls.map V.str) its→∀ (m:Nat) (v:Value),its[m]?=some v→∃ y t,ls[m]?=some y∧v=.str y t
 | [],_,r,m,v,h=>by cases r;simp at h
 | y :: ls,_,.cons a r,0,v,h=>by
  obtain ⟨t,rfl⟩:=a
  simp only [List.getElem?_cons_zero,Option.some.injEq] at h
  exact ⟨y,t,rfl,h.symm⟩
 | y :: ls,_,.cons a r,m + 1,v,h=>by
  obtain ⟨z,t,e1,e2⟩:=KD r m v (by simpa using h)
  exact ⟨z,t,by simpa using e1,e2⟩
def isS (y:Str):Value→Bool
 | .str x _=>x == y
 | _=>false
theorem jE:MtM X "list.index" zR:=by
 intro pins s σ H x vs v us Q I rx rv h
 obtain ⟨l,ls,y,rfl,rfl,hH,hi,q⟩:=h
 cases rx
 obtain ⟨u,rfl,ru⟩:=rv.one
 obtain ⟨t,rfl⟩:=ru
 obtain ⟨z,its,n,r,hl,e⟩:=I.lstM hH
 have hs:sizeLine=16777216:=sizeLine_eq
 rw [List.length_map] at hl z
 have hj:ls.idxOf y < ls.length:=List.idxOf_lt_length_iff.mpr hi
 have gt:∀ m (hm:m < its.toArray.size),∃ (h2:m < ls.length) (t':Tok),its.toArray[m]=.str ls[m] t':=fun m hm=>by
  rw [List.size_toArray] at hm
  obtain ⟨y',t',h1,h2⟩:=KD r m its[m] (List.getElem?_eq_getElem hm)
  have h3:m < ls.length:=by omega
  rw [List.getElem?_eq_getElem h3] at h1
  refine ⟨h3,t',?_⟩
  rw [Option.some.inj h1,← h2]
  simp
 refine call_meets F.slot_list_index ⟨_,e,rfl⟩ F.entry_list_index (F.args_list_index_2 _ _) (SeqAt.list_indexAt l its.toArray n none #[] (.str y t) (isS y) (ls.idxOf y) (by rw [List.size_toArray];omega) (by omega) ?_ (fun m hm hlt=>?_)) ⟨e,fun v hv=>?_,?_⟩
 ·obtain ⟨h2,t',e2⟩:=gt (ls.idxOf y) (by rw [List.size_toArray];omega)
  rw [e2]
  show (ls[ls.idxOf y] == y)=true
  simp [List.getElem_idxOf]
 ·obtain ⟨h2,t',e2⟩:=gt m hm
  rw [e2]
  show (ls[m] == y)=false
  have:=List.not_of_lt_findIdx hlt
  simpa using this
 ·obtain ⟨m,hm,rfl⟩:=Array.mem_iff_getElem.mp hv
  obtain ⟨h2,t',e2⟩:=gt m hm
  rw [e2]
  exact SeqAt.EqAt.str_str _ _ _ _
 ·exact ⟨.int _,H,I.tok _,⟨_,rfl⟩,q⟩
end
theorem Yt {α β:Type} (g:α→β→Id (ForInStep β)) (f:β→α→β) (h:∀ a b,g a b=ForInStep.yield (f b a)):∀ (l:List α) (b:β),(forIn (m:=Id) l b g)=l.foldl f b
 | [],b=>rfl
 | a :: l,b=>by
  rw [List.forIn_cons,h]
  exact Yt g f h l (f b a)
theorem zcD (s sub:Str) (hi:Nat):Builtin.Str.lastOccurrence s sub 0 hi=(List.range (hi + 1)).foldl (fun last i=>if (decide (i + sub.length≤hi) && Builtin.Str.subAt s sub i)=true then some i else last) none:=by
 unfold Builtin.Str.lastOccurrence
 simp [List.range_eq_range',Id.run]
 refine Yt _ _ (fun a b=>?_) _ _
 split <;> rfl
theorem X4 {p:Nat→Bool}:∀ (n k:Nat) (o:Option Nat),k < n→p k=true→(∀ j,k < j→j < n→p j=false)→(List.range n).foldl (fun last i=>if p i=true then some i else last) o=some k
 | 0,k,o,h,_,_=>by omega
 | n + 1,k,o,h,hp,no=>by
  rw [List.range_succ,List.foldl_append]
  show (if p n=true then some n else _)=_
  by_cases e:k=n
  ·subst e
   rw [if_pos hp]
  ·rw [if_neg (by rw [no n (by omega) (by omega)];decide)]
   exact X4 n k o (by omega) hp fun j h1 h2=>no j h1 (by omega)
theorem KG (s:Str) (c i:Nat):Builtin.Str.subAt s ⟨#[c]⟩ i=decide (s.cps[i]?=some c):=by
 unfold Builtin.Str.subAt
 show (s.cps.extract i (i + 1) == #[c])=_
 cases e:s.cps[i]? with
 | none =>
  have:=Array.getElem?_eq_none_iff.mp e
  rw [show s.cps.extract i (i + 1)=#[] by apply Array.ext' ;simp;omega]
  simp
 | some d =>
  obtain ⟨h1,h2⟩:=Array.getElem?_eq_some_iff.mp e
  have e2:s.cps.extract i (i + 1)=#[d]:=by
   apply Array.ext
   ·simp;omega
   ·intro j j1 j2
    simp at j2
    subst j2
    simp [h2]
  rw [e2]
  by_cases z:d=c
  ·subst z;simp
  ·simp [z]
theorem QD {s:Str} {c k:Nat} (h:s.cps[k]?=some c) (no:∀ j,k < j→s.cps[j]?≠some c):Builtin.Str.lastOccurrence s ⟨#[c]⟩ 0 s.length=some k:=by
 have lk:=(Array.getElem?_eq_some_iff.mp h).1
 rw [zcD]
 refine X4 (p:=fun i=>decide (i + (⟨#[c]⟩:Str).length≤s.length) && Builtin.Str.subAt s ⟨#[c]⟩ i) _ k none (by show k < s.cps.size + 1;omega) ?_ fun j h1 h2=>?_
 ·rw [KG,h]
  simp
  exact lk
 ·rw [KG,decide_eq_false (no j h1),Bool.and_false]
theorem Ze {b d:Str} {c:Nat} (no:c ∉ d.cps.toList):rpL (b ++ ⟨#[c]⟩ ++ d) ⟨#[c]⟩=[.str b,.str ⟨#[c]⟩,.str d]:=by
 have e0:(b ++ ⟨#[c]⟩ ++ d).cps.toList=b.cps.toList ++ c :: d.cps.toList:=by rw [yu,yu,List.append_assoc];rfl
 have e1:(b ++ ⟨#[c]⟩ ++ d).cps[b.length]?=some c:=by
  rw [← Array.getElem?_toList,e0]
  simp [Str.length]
 have e2:=QD e1 fun j hj z=>by
  rw [← Array.getElem?_toList,e0,List.getElem?_append_right (by simp [Str.length] at hj ⊢;omega)] at z
  have lj:1≤j - b.cps.toList.length:=by simp [Str.length] at hj ⊢;omega
  obtain ⟨m,hm⟩:∃ m,j - b.cps.toList.length=m + 1:=⟨_,(Nat.sub_add_cancel lj).symm⟩
  rw [hm,List.getElem?_cons_succ] at z
  exact no (List.mem_of_getElem? z)
 have ln:(b ++ ⟨#[c]⟩ ++ d).length=b.length + 1 + d.length:=by rw [yy,yy];rfl
 unfold rpL
 rw [e2]
 have f1:Builtin.Str.strSub (b ++ ⟨#[c]⟩ ++ d) 0 b.length=b:=by
  apply wS
  unfold Builtin.Str.strSub
  rw [Array.toList_extract,e0,List.extract_eq_take_drop]
  simp [Str.length]
 have f2:Builtin.Str.strSub (b ++ ⟨#[c]⟩ ++ d) (b.length + (⟨#[c]⟩:Str).length) (b ++ ⟨#[c]⟩ ++ d).length=d:=by
  apply wS
  unfold Builtin.Str.strSub
  rw [Array.toList_extract,e0,List.extract_eq_take_drop,ln]
  have:(⟨#[c]⟩:Str).length=1:=rfl
  rw [this]
  have e3:(b.cps.toList ++ c :: d.cps.toList).drop (b.length + 1)=d.cps.toList:=by
   rw [show b.length=b.cps.toList.length by simp [Str.length],List.drop_append]
   simp
  rw [e3]
  exact List.take_of_length_le (by simp [Str.length])
 dsimp only
 rw [f1,f2]
end L2
namespace L2
open PySem
def UpA (xs:Array Nat):Prop:=∀ a b x y:Nat,a < b→xs[a]?=some x→xs[b]?=some y→x < y
theorem Yu {xs:Array Nat} {j:Nat} (up:UpA xs):∀ (f lo hi:Nat),lo≤hi→hi≤xs.size→hi - lo≤f→(∀ i x:Nat,i < lo→xs[i]?=some x→x < j)→(∀ i x:Nat,hi≤i→xs[i]?=some x→j≤x) →
  SetTable.below.go xs j f lo hi≤xs.size∧(∀ i x:Nat,i < SetTable.below.go xs j f lo hi→xs[i]?=some x→x < j)∧∀ i x:Nat,SetTable.below.go xs j f lo hi≤i→xs[i]?=some x→j≤x
 | 0,lo,hi,h1,h2,h3,h4,h5=>by
  have:lo=hi:=by omega
  subst this
  exact ⟨h2,h4,h5⟩
 | f + 1,lo,hi,h1,h2,h3,h4,h5=>by
  unfold SetTable.below.go
  by_cases c:lo < hi
  ·rw [if_pos c]
   have hm:(lo + hi) / 2 < xs.size:=by omega
   have em:xs[(lo + hi) / 2]?=some (xs.getD ((lo + hi) / 2) j):=by simp [Array.getD,hm]
   dsimp only
   by_cases d:xs.getD ((lo + hi) / 2) j < j
   ·rw [if_pos d]
    refine Yu up f _ _ (by omega) h2 (by omega) (fun i x hi' hx=>?_) h5
    by_cases e:i=(lo + hi) / 2
    ·rw [e,em] at hx;cases hx;exact d
    ·have:=up i _ x _ (by omega:i < (lo + hi) / 2) hx em
     omega
   ·rw [if_neg d]
    refine Yu up f _ _ (by omega) (by omega) (by omega) h4 fun i x hi' hx=>?_
    by_cases e:i=(lo + hi) / 2
    ·rw [e,em] at hx;cases hx;omega
    ·have:=up _ i _ x (by omega:(lo + hi) / 2 < i) em hx
     omega
  ·rw [if_neg c]
   have:lo=hi:=by omega
   subst this
   exact ⟨h2,h4,h5⟩
theorem kA {xs:Array Nat} (up:UpA xs) (j:Nat):SetTable.below xs j≤xs.size∧(∀ i x:Nat,i < SetTable.below xs j→xs[i]?=some x→x < j)∧∀ i x:Nat,SetTable.below xs j≤i→xs[i]?=some x→j≤x :=
 Yu up _ _ _ (Nat.zero_le _) (Nat.le_refl _) (by omega) (fun i x h=>by omega) fun i x h hx=>by
  have:=(Array.getElem?_eq_some_iff.mp hx).1
  omega
theorem zbh {xs:Array Nat} (up:UpA xs) {i j:Nat} (h:xs[i]?=some j):SetTable.below xs j=i:=by
 obtain ⟨a,b,c⟩:=kA up j
 rcases Nat.lt_trichotomy (SetTable.below xs j) i with l | l | l
 ·have li:=(Array.getElem?_eq_some_iff.mp h).1
  have e:=Array.getElem?_eq_getElem (xs:=xs) (i:=SetTable.below xs j) (by omega)
  have:=up _ _ _ _ l e h
  have:=c _ _ (Nat.le_refl _) e
  omega
 ·exact l
 ·have:=b i j l h
  omega
section
variable {t:SetTable}
theorem Zf (up:UpA t.place) {i j:Nat} (h:t.place[i]?=some j):t.slot j=.live i:=by
 unfold SetTable.slot
 dsimp only
 rw [zbh up h,if_pos (by simp [h])]
theorem KH {i j:Nat} (h:t.slot j=.live i):t.place[i]?=some j:=by
 unfold SetTable.slot at h
 dsimp only at h
 split at h
 ·rename_i c
  cases h
  simpa using c
 ·split at h <;> cases h
theorem zcE (up:UpA t.place) {j:Nat} (h:t.slot j=.empty):∀ i:Nat,t.place[i]?≠some j:=fun i e=>by
 rw [Zf up e] at h;cases h
def Tk (t:SetTable) (j:Nat):Prop:=∃ i:Nat,t.place[i]?=some j
theorem kB {α:Type} {xs:Array α} {p:Nat} (hp:p≤xs.size) (x:α) (i:Nat):(SetTable.insertAt xs p x)[i]?=if i < p then xs[i]? else if i=p then some x else xs[i - 1]?:=by
 rw [← Array.getElem?_toList,SetTable.toList_insertAt]
 rw [show xs[i]?=xs.toList[i]? from Array.getElem?_toList.symm,show xs[i - 1]?=xs.toList[i - 1]? from Array.getElem?_toList.symm]
 have hl:xs.toList.length=xs.size:=Array.length_toList
 by_cases c:i < p
 ·rw [if_pos c,List.getElem?_append_left (by rw [List.length_take];omega),List.getElem?_take_of_lt c]
 ·rw [if_neg c,List.getElem?_append_right (by rw [List.length_take];omega),List.length_take,Nat.min_eq_left (by omega)]
  by_cases d:i=p
  ·rw [if_pos d,d,Nat.sub_self];rfl
  ·rw [if_neg d,show i - p=(i - 1 - p) + 1 by omega,List.getElem?_cons_succ,List.getElem?_drop,show p + (i - 1 - p)=i - 1 by omega]
theorem zbi (up:UpA t.place) {j:Nat} (no:∀ i:Nat,t.place[i]?≠some j):UpA (t.put j).1.place:=by
 obtain ⟨b1,b2,b3⟩:=kA up j
 intro a b x y ab ha hb
 have ha:(SetTable.insertAt t.place (SetTable.below t.place j) j)[a]?=some x:=ha
 have hb:(SetTable.insertAt t.place (SetTable.below t.place j) j)[b]?=some y:=hb
 rw [kB b1] at ha hb
 generalize SetTable.below t.place j=p at *
 have big:∀ (i z:Nat),p≤i→t.place[i]?=some z→j < z:=fun i z l e=>by
  have:=b3 i z l e
  rcases Nat.lt_or_ge j z with q | q
  ·exact q
  ·exact absurd (by rw [e];congr 1;omega) (no i)
 by_cases c:a < p
 ·rw [if_pos c] at ha
  by_cases d:b < p
  ·rw [if_pos d] at hb;exact up a b x y ab ha hb
  ·rw [if_neg d] at hb
   by_cases e:b=p
   ·rw [if_pos e] at hb;cases hb;exact b2 a x c ha
   ·rw [if_neg e] at hb;exact up a (b - 1) x y (by omega) ha hb
 ·rw [if_neg c] at ha
  rw [if_neg (by omega:¬ b < p),if_neg (by omega:¬ b=p)] at hb
  by_cases e:a=p
  ·rw [if_pos e] at ha;cases ha;exact big (b - 1) y (by omega) hb
  ·rw [if_neg e] at ha;exact up (a - 1) (b - 1) x y (by omega) ha hb
theorem zbj (up:UpA t.place) {j k:Nat} (h:Tk t k):Tk (t.put j).1 k:=by
 obtain ⟨b1,_,_⟩:=kA up j
 obtain ⟨i,e⟩:=h
 show ∃ i:Nat,(SetTable.insertAt t.place (SetTable.below t.place j) j)[i]?=some k
 by_cases c:i < SetTable.below t.place j
 ·exact ⟨i,by rw [kB b1,if_pos c];exact e⟩
 ·exact ⟨i + 1,by rw [kB b1,if_neg (by omega),if_neg (by omega)];exact e⟩
def rdJ (m:Nat) (h:Int) (n:Nat):Nat:=(yg { mask:=m,place:=#[],dummies:=#[],finger:=0,led:=false,moves:=0,plain:=false } n (SetTable.probeStart { mask:=m,place:=#[],dummies:=#[],finger:=0,led:=false,moves:=0,plain:=false } h)).j
theorem X5 {t u:SetTable} (e:t.mask=u.mask):∀ (n:Nat) (p:SetTable.Probe),yg t n p=yg u n p
 | 0,p=>rfl
 | n + 1,p=>by
  show yg t n (t.advance p)=yg u n (u.advance p)
  rw [X5 e n,show t.advance p=u.advance p by unfold SetTable.advance;rw [e]]
theorem zeA (t:SetTable) (h:Int) (n:Nat):(yg t n (t.probeStart h)).j=rdJ t.mask h n:=by
 exact congrArg SetTable.Probe.j (X5 (t:=t) (u:={ mask:=t.mask,place:=#[],dummies:=#[],finger:=0,led:=false,moves:=0,plain:=false }) rfl n (t.probeStart h))
def kC (t:SetTable) (hs:Nat→Option Int):Prop:=∀ (i j:Nat) (h:Int),t.place[i]?=some j→hs i=some h→∃ n,n < 10 * SetTable.turns t.mask∧rdJ t.mask h n=j∧∀ m,m < n→Tk t (rdJ t.mask h m)
theorem QE {hs:Nat→Option Int} {j n:Nat} {h:Int} (up:UpA t.place) (R:kC t hs) (hn:n < 10 * SetTable.turns t.mask) (ej:rdJ t.mask h n=j) (tk:∀ m,m < n→Tk t (rdJ t.mask h m)) :
  kC (t.put j).1 (fun i=>if i < (t.put j).2 then hs i else if i=(t.put j).2 then some h else hs (i - 1)):=by
 obtain ⟨b1,_,_⟩:=kA up j
 intro i k g e1 e2
 have e1:(SetTable.insertAt t.place (SetTable.below t.place j) j)[i]?=some k:=e1
 have e2:(if i < SetTable.below t.place j then hs i else if i=SetTable.below t.place j then some h else hs (i - 1))=some g:=e2
 rw [kB b1] at e1
 have old:∀ i':Nat,t.place[i']?=some k→hs i'=some g→∃ n,n < 10 * SetTable.turns t.mask∧rdJ t.mask g n=k∧∀ m,m < n→Tk (t.put j).1 (rdJ t.mask g m):=fun i' a b=>by
  obtain ⟨n,n1,n2,n3⟩:=R i' k g a b
  exact ⟨n,n1,n2,fun m hm=>zbj up (n3 m hm)⟩
 by_cases c:i < SetTable.below t.place j
 ·rw [if_pos c] at e1 e2;exact old i e1 e2
 ·rw [if_neg c] at e1 e2
  by_cases d:i=SetTable.below t.place j
  ·rw [if_pos d] at e1 e2
   cases e1;cases e2
   exact ⟨n,hn,ej,fun m hm=>zbj up (tk m hm)⟩
  ·rw [if_neg d] at e1 e2;exact old (i - 1) e1 e2
def tkO (ow:Array (Option Nat)) (x:Nat):Prop:=(ow.getD x (some 0)).isNone=false
theorem Zw {p:SetTable.Probe}:∀ (k:Nat),k≤p.more→yg t k p={ p with j:=p.j + k,more:=p.more - k }
 | 0,_=>rfl
 | k + 1,h=>by
  rw [xR t k 1,Zw k (by omega)]
  show t.advance _=_
  rw [jD (by show 0 < p.more - k;omega)]
  show SetTable.Probe.mk _ _ _ _ _=SetTable.Probe.mk _ _ _ _ _
  congr 1
theorem X6 {ow:Array (Option Nat)} {j:Nat}:∀ (f i pt:Nat) (p:SetTable.Probe),p.j=i→p.i=i→p.more=SetTable.runEnd t.mask i - i→p.perturb=pt→SetTable.layClean.free t.mask ow f i pt=some j →
  ∃ n,n < 10 * f∧(yg t n p).j=j∧∀ k,k < n→tkO ow (yg t k p).j
 | 0,i,pt,p,_,_,_,_,h=>by unfold SetTable.layClean.free at h;cases h
 | f + 1,i,pt,p,h1,h2,h3,h4,h=>by
  have rl:=WB t.mask i
  have ri:i≤SetTable.runEnd t.mask i:=by unfold SetTable.runEnd;split <;> omega
  unfold SetTable.layClean.free at h
  split at h
  ·rename_i k hk
   cases h
   have hk1:=List.mem_range.mp (List.mem_of_find?_eq_some hk)
   refine ⟨k,by omega,by rw [Zw k (by omega),← h1],fun q hq=>?_⟩
   rw [Zw q (by omega)]
   obtain ⟨_,as,bs,e,no⟩:=List.find?_eq_some_iff_append.mp hk
   have lq:q∈as:=by
    have l:as.length=k:=by
     have:=congrArg (fun l=>l[as.length]?) e
     simp only [List.getElem?_append_right (Nat.le_refl _),Nat.sub_self,List.getElem?_cons_zero] at this
     have l2:as.length < SetTable.runEnd t.mask i + 1 - i:=by
      have:=congrArg List.length e
      simp at this
      omega
     rw [List.getElem?_range l2] at this
     injection this
    have:=congrArg (fun l=>l[q]?) e
    simp only [List.getElem?_append_left (by omega:q < as.length)] at this
    rw [List.getElem?_range (by omega)] at this
    exact List.mem_of_getElem? this.symm
   have:=no q lq
   unfold tkO
   rw [h1]
   simpa using this
  ·rename_i hk
   dsimp only at h
   have all:=List.find?_eq_none.mp hk
   have e:=Zc (t:=t) (p:=yg t p.more p) (by rw [Zw _ (Nat.le_refl _)];exact Nat.sub_self _)
   have e':yg t (p.more + 1) p=t.advance (yg t p.more p):=xR t p.more 1 p
   have pm:yg t p.more p={ p with j:=p.j + p.more,more:=0 }:=by rw [Zw _ (Nat.le_refl _),Nat.sub_self]
   rw [pm] at e e'
   rw [e] at e'
   have lp:SetTable.leap t.mask p.i p.perturb=SetTable.leap t.mask i pt:=by rw [h2,h4]
   obtain ⟨n,n1,n2,n3⟩:=X6 f _ _ (yg t (p.more + 1) p) (by rw [e'];exact congrArg Prod.fst lp) (by rw [e'];exact congrArg Prod.fst lp) (by rw [e'];show _ - _=_;rw [lp]) (by rw [e'];exact congrArg Prod.snd lp) h
   refine ⟨p.more + 1 + n,by omega,by rw [xR];exact n2,fun q hq=>?_⟩
   by_cases c:q≤p.more
   ·rw [Zw q c]
    have:=all q (List.mem_range.mpr (by omega))
    unfold tkO
    rw [h1]
    exact Bool.eq_false_iff.mpr this
   ·have:=n3 (q - (p.more + 1)) (by omega)
    rw [← xR,show p.more + 1 + (q - (p.more + 1))=q by omega] at this
    exact this
theorem zeB (m:Nat) (h:Int) (n:Nat):rdJ m h n≤m:=by
 have key:∀ (T:SetTable) (n:Nat) (p:SetTable.Probe),p.j + p.more≤T.mask→(yg T n p).j≤T.mask:=fun T n=>by
  induction n with
  | zero=>intro p hp;show p.j≤_;omega
  | succ n ih =>
   intro p hp
   show (yg T n (T.advance p)).j≤_
   refine ih _ ?_
   by_cases c:0 < p.more
   ·rw [jD c];show p.j + 1 + (p.more - 1)≤_;omega
   ·rw [Zc (by omega)]
    show (SetTable.leap T.mask p.i p.perturb).1 + (SetTable.runEnd T.mask (SetTable.leap T.mask p.i p.perturb).1 - (SetTable.leap T.mask p.i p.perturb).1)≤T.mask
    have l:(SetTable.leap T.mask p.i p.perturb).1≤T.mask:=Nat.le_of_lt_succ (Nat.mod_lt _ (Nat.succ_pos _))
    unfold SetTable.runEnd
    split <;> omega
 unfold rdJ
 refine key _ n _ ?_
 show SetTable.bits h % (m + 1) + (SetTable.runEnd m (SetTable.bits h % (m + 1)) - SetTable.bits h % (m + 1))≤m
 have l:SetTable.bits h % (m + 1)≤m:=Nat.le_of_lt_succ (Nat.mod_lt _ (Nat.succ_pos _))
 unfold SetTable.runEnd
 split <;> omega
def zdV (m:Nat) (hs:List Int) (ow:Array (Option Nat)):Prop:=∀ (j k:Nat) (h:Int),ow[j]?=some (some k)→hs[k]?=some h→∃ n,n < 10 * SetTable.turns m∧rdJ m h n=j∧∀ q,q < n→tkO ow (rdJ m h q)
theorem zbk {ow:Array (Option Nat)} {j x k:Nat} (h:tkO ow x):tkO (ow.setIfInBounds j (some k)) x:=by
 unfold tkO at *
 by_cases c:j=x
 ·subst c
  rw [Array.getD_eq_getD_getElem?,Array.getElem?_setIfInBounds]
  simp
  split <;> rfl
 ·rw [Array.getD_eq_getD_getElem?,Array.getElem?_setIfInBounds_ne c,← Array.getD_eq_getD_getElem?]
  exact h
theorem X7 {m:Nat}:∀ (hs all:List Int) (ow ow':Array (Option Nat)) (k k':Nat),(∀ i:Nat,i < hs.length→all[k + i]?=hs[i]?)→zdV m all ow →
  hs.foldl (fun acc h=>acc.bind fun x=>(SetTable.layClean.free m x.1 (SetTable.turns m) (SetTable.bits h % (m + 1)) (SetTable.bits h)).bind fun j=>some (x.1.setIfInBounds j (some x.2),x.2 + 1)) (some (ow,k))=some (ow',k')→zdV m all ow'
 | [],all,ow,ow',k,k',_,R,h=>by cases h;exact R
 | g :: hs,all,ow,ow',k,k',ha,R,h=>by
  rw [List.foldl_cons] at h
  cases hf:SetTable.layClean.free m ow (SetTable.turns m) (SetTable.bits g % (m + 1)) (SetTable.bits g) with
  | none =>
   have:∀ l:List Int,l.foldl (fun (acc:Option (Array (Option Nat) × Nat)) h=>acc.bind fun x=>(SetTable.layClean.free m x.1 (SetTable.turns m) (SetTable.bits h % (m + 1)) (SetTable.bits h)).bind fun j=>some (x.1.setIfInBounds j (some x.2),x.2 + 1)) none=none:=fun l=>by
    induction l with
    | nil=>rfl
    | cons a l ih=>exact ih
   rw [Option.bind_some,hf,Option.bind_none,this] at h
   cases h
  | some j =>
   rw [Option.bind_some,hf,Option.bind_some] at h
   refine X7 hs all _ ow' (k + 1) k' (fun i hi=>?_) ?_ h
   ·rw [show k + 1 + i=k + (i + 1) by omega,ha (i + 1) (by simp;omega)];rfl
   ·obtain ⟨n,n1,n2,n3⟩:=X6 (t:={ mask:=m,place:=#[],dummies:=#[],finger:=0,led:=false,moves:=0,plain:=false }) (SetTable.turns m) _ _ (SetTable.probeStart { mask:=m,place:=#[],dummies:=#[],finger:=0,led:=false,moves:=0,plain:=false } g) rfl rfl rfl rfl hf
    intro x y z e1 e2
    by_cases c:j=x
    ·subst c
     have ey:y=k:=by
      rw [Array.getElem?_setIfInBounds] at e1
      simp at e1
      exact e1.2.symm
     subst ey
     have:=ha 0 (by simp)
     rw [Nat.add_zero,e2] at this
     cases this
     exact ⟨n,n1,n2,fun q hq=>zbk (n3 q hq)⟩
    ·rw [Array.getElem?_setIfInBounds_ne c] at e1
     obtain ⟨n',a,b,c'⟩:=R x y z e1 e2
     exact ⟨n',a,b,fun q hq=>zbk (c' q hq)⟩
theorem QF {m fg mv:Nat} {ld pl:Bool} {hs:Array Int} {t':SetTable} {ord:Array Nat} (hm:vK m) (hl:hs.size≤m) (h:SetTable.laid m fg mv ld pl hs=some (t',ord)):UpA t'.place∧kC t' (fun i=>(ord[i]?).bind fun k=>hs[k]?):=by
 obtain ⟨ow,hc,ok⟩:=XZ hm hl
 have R:zdV m hs.toList ow:=by
  unfold SetTable.layClean at hc
  rw [← Array.foldl_toList] at hc
  obtain ⟨⟨ow2,k2⟩,e1,e2⟩:=Option.map_eq_some_iff.mp hc
  cases e2
  refine X7 hs.toList hs.toList (Array.replicate (m + 1) none) ow2 0 k2 (fun i _=>by rw [Nat.zero_add]) (fun j k z e=>?_) e1
  rw [Array.getElem?_replicate] at e
  split at e <;> simp at e
 obtain ⟨L,eL⟩:∃ L,L=(List.range (m + 1)).filterMap fun j=>(ow.getD j none).map (Prod.mk j):=⟨_,rfl⟩
 have hL:t'={ mask:=m,place:=(L.map (·.1)).toArray,dummies:=#[],finger:=fg,led:=ld,moves:=mv,plain:=pl }∧ord=(L.map (·.2)).toArray:=by
  unfold SetTable.laid at h
  rw [hc] at h
  rw [eL]
  have h:=Option.some.inj h
  exact ⟨(congrArg Prod.fst h).symm,(congrArg Prod.snd h).symm⟩
 obtain ⟨rfl,rfl⟩:=hL
 have memL:∀ j k,(j,k)∈L↔j≤m∧ow[j]?=some (some k):=fun j k=>by
  rw [eL,List.mem_filterMap]
  constructor
  ·rintro ⟨j',hj,e⟩
   obtain ⟨k',e1,e2⟩:=Option.map_eq_some_iff.mp e
   cases e2
   refine ⟨Nat.le_of_lt_succ (List.mem_range.mp hj),?_⟩
   rw [Array.getD_eq_getD_getElem?] at e1
   cases c:ow[j]? with
   | none=>rw [c] at e1;cases e1
   | some v=>rw [c] at e1;exact congrArg some e1
  ·rintro ⟨hj,e⟩
   exact ⟨j,List.mem_range.mpr (by omega),by rw [Array.getD_eq_getD_getElem?,e];rfl⟩
 have at2:∀ (i j k:Nat),(L.map (·.1)).toArray[i]?=some j→(L.map (·.2)).toArray[i]?=some k→(j,k)∈L:=fun i j k e1 e2=>by
  rw [List.getElem?_toArray,List.getElem?_map] at e1 e2
  cases c:L[i]? with
  | none=>rw [c] at e1;cases e1
  | some v =>
   rw [c] at e1 e2
   cases e1;cases e2
   exact List.mem_of_getElem? c
 constructor
 ·have pw:(L.map (·.1)).Pairwise (· < ·):=by
   rw [eL,List.pairwise_map]
   refine List.Pairwise.filterMap _ (R:=(· < ·)) (fun a a' l b hb b' hb'=>?_) List.pairwise_lt_range
   obtain ⟨_,_,rfl⟩:=Option.map_eq_some_iff.mp hb
   obtain ⟨_,_,rfl⟩:=Option.map_eq_some_iff.mp hb'
   exact l
  intro a b x y ab e1 e2
  have e1:(L.map (·.1)).toArray[a]?=some x:=e1
  have e2:(L.map (·.1)).toArray[b]?=some y:=e2
  rw [List.getElem?_toArray] at e1 e2
  obtain ⟨l1,rfl⟩:=List.getElem?_eq_some_iff.mp e1
  obtain ⟨l2,rfl⟩:=List.getElem?_eq_some_iff.mp e2
  exact List.pairwise_iff_getElem.mp pw a b l1 l2 ab
 ·intro i j g e1 e2
  obtain ⟨k,k1,k2⟩:=Option.bind_eq_some_iff.mp e2
  obtain ⟨_,oj⟩:=(memL j k).mp (at2 i j k e1 k1)
  obtain ⟨n,n1,n2,n3⟩:=R j k g oj (by rw [Array.getElem?_toList];exact k2)
  refine ⟨n,n1,n2,fun q hq=>?_⟩
  have tk:=n3 q hq
  have le:=zeB m g q
  generalize rdJ m g q=x at tk le
  have lx:x < ow.size:=by rw [ok.sz];omega
  unfold tkO at tk
  rw [Array.getD_eq_getD_getElem?,Array.getElem?_eq_getElem lx] at tk
  cases c:ow[x] with
  | none=>rw [c] at tk;cases tk
  | some k' =>
   have mem:=(memL x k').mpr ⟨le,by rw [Array.getElem?_eq_getElem lx,c]⟩
   obtain ⟨i',e⟩:=List.mem_iff_getElem?.mp mem
   exact ⟨i',by show (L.map (·.1)).toArray[i']?=_;rw [List.getElem?_toArray,List.getElem?_map,e];rfl⟩
end
end L2
namespace L2
open PySem PySem.Spec PyProof.Rows
section
variable {t:SetTable}
theorem X8 {f:Nat→Int} {h:Int} (hd:t.dummies=#[]):∀ (n fuel:Nat) (p:SetTable.Probe),n < fuel→PbOk t p→t.slot (yg t n p).j=.empty →
  (∃ k,k≤n∧SetTable.probe.go t f h fuel p=some (.empty (yg t k p).j none)∧t.slot (yg t k p).j=.empty∧∀ m,m < k→∃ i,t.slot (yg t m p).j=.live i∧f i≠h) ∨
  ∃ k i,k < n∧SetTable.probe.go t f h fuel p=some (.candidate (yg t k p).j i (yg t (k + 1) p))∧t.slot (yg t k p).j=.live i∧f i=h∧∀ m,m < k→∃ i,t.slot (yg t m p).j=.live i∧f i≠h
 | n,0,p,h1,_,_=>by omega
 | 0,fuel + 1,p,_,ok,h2=>by
  left
  refine ⟨0,Nat.le_refl _,?_,h2,fun m hm=>by omega⟩
  unfold SetTable.probe.go
  rw [show t.slot p.j=.empty from h2]
  dsimp only
  rw [ok.dm]
  rfl
 | n + 1,fuel + 1,p,h1,ok,h2=>by
  unfold SetTable.probe.go
  cases c:t.slot p.j with
  | empty=>left;exact ⟨0,Nat.zero_le _,by dsimp only;rw [ok.dm];rfl,c,fun m hm=>by omega⟩
  | dummy=>exact absurd c (Kv hd)
  | live i =>
   dsimp only
   by_cases e:(f i == h)=true
   ·right
    rw [if_pos e]
    exact ⟨0,i,by omega,rfl,c,by simpa using e,fun m hm=>by omega⟩
   ·rw [if_neg e]
    have first:f i≠h:=by simpa using e
    rcases X8 (f:=f) (h:=h) hd n fuel (t.advance p) (by omega) ok.adv h2 with ⟨k,a,b,c',d⟩ | ⟨k,j,a,b,c',d,g⟩
    ·refine .inl ⟨k + 1,by omega,b,c',fun m hm=>?_⟩
     cases m with
     | zero=>exact ⟨i,c,first⟩
     | succ m=>exact d m (by omega)
    ·refine .inr ⟨k + 1,j,by omega,b,c',d,fun m hm=>?_⟩
     cases m with
     | zero=>exact ⟨i,c,first⟩
     | succ m=>exact g m (by omega)
end
section
variable {t:SetTable}
theorem zdW {f:Nat→Int} {h:Int} {p:SetTable.Probe} {pm:Option SetTable.Met} {es:Array (Int × Value)} (hf:t.probe f h p=pm) (fd:∀ (i:Nat) e,es[i]?=some e→f i=e.1) (hd:t.dummies=#[]) (sz:t.place.size=es.size) {n:Nat} (hn:n < 10 * SetTable.turns t.mask) (pb:PbOk t p) (he:t.slot (yg t n p).j=.empty) :
  (∃ k,k≤n∧pm=some (.empty (yg t k p).j none)∧t.slot (yg t k p).j=.empty∧∀ m,m < k→∃ i e,t.slot (yg t m p).j=.live i∧es[i]?=some e∧e.1≠h) ∨
  ∃ k i e,k < n∧pm=some (.candidate (yg t k p).j i (yg t (k + 1) p))∧t.slot (yg t k p).j=.live i∧es[i]?=some e∧∀ m,m < k→∃ i e,t.slot (yg t m p).j=.live i∧es[i]?=some e∧e.1≠h:=by
 have at':∀ {j i:Nat},t.slot j=.live i→∃ e,es[i]?=some e:=fun {j i} z=>by
  have l:=(Array.getElem?_eq_some_iff.mp (KH z)).1
  exact ⟨_,Array.getElem?_eq_getElem (by omega)⟩
 have ah:∀ {k},(∀ m,m < k→∃ i,t.slot (yg t m p).j=.live i∧f i≠h)→∀ m,m < k→∃ i e,t.slot (yg t m p).j=.live i∧es[i]?=some e∧e.1≠h:=fun {k} z m hm=>by
  obtain ⟨i,i1,i2⟩:=z m hm
  obtain ⟨e,he⟩:=at' i1
  exact ⟨i,e,i1,he,by rw [← fd i e he];exact i2⟩
 unfold SetTable.probe at hf
 rcases X8 (f:=f) (h:=h) hd n _ p hn pb he with ⟨k,k1,a1,a2,a3⟩ | ⟨k,i,k1,a1,a2,a3,a4⟩
 ·exact .inl ⟨k,k1,by rw [← hf];exact a1,a2,ah a3⟩
 ·obtain ⟨e,he⟩:=at' a2
  exact .inr ⟨k,i,e,k1,by rw [← hf];exact a1,a2,he,ah a4⟩
end
section
variable {P:Program} {w:World} {A:Around} {E:Value→Shared→Prop} {s:Shared} {t:SetTable}
theorem PlAt.uniq {h:Heap} {b:Addr} {q r:Str × Int} (x:PlAt h (.ref b) q) (y:PlAt h (.ref b) r):q=r:=by
 obtain ⟨a,o,t1,u1,n1,e1,e2,_,e4⟩:=x
 obtain ⟨a',o',t2,u2,n2,f1,f2,_,f4⟩:=y
 cases e1;cases f1
 rw [e2] at f2;cases f2
 rw [e4] at f4
 injection f4 with g1 _
 have g2:=congrArg Array.toList g1
 simp only [List.cons.injEq,Value.str.injEq,Value.int.injEq,and_true] at g2
 exact Prod.ext g2.1.1 g2.2.1
def Yv (P:Program) (w:World) (h:Heap) (e:Int × Value) (q:Str × Int):Prop:=∃ b,e.2=.ref b∧PlAt h (.ref b) q∧e.1=plH P w q
theorem JB {a x:Addr} {q:Str × Int} {o:Obj} {es:Array (Int × Value)} {ep:Nat} (ho:s.heap.get? a=some o) (hd:o.data=.set es ep t) (ok:SetOk t es.size) (up:UpA t.place) (R:kC t (fun i=>(es[i]?).map (·.1))) (hu:A.units < cLine) (hx:PlAt s.heap (.ref x) q)
  (hes:∀ e∈es.toList,∃ qb,Yv P w s.heap e qb) {Q:SetFound→Shared→Prop} (h1:(∃ e∈es.toList,Yv P w s.heap e q)→Q (.there none) s)
  (h2:∀ j n,(∀ e∈es.toList,¬ Yv P w s.heap e q)→t.slot j=.empty→n < 10 * SetTable.turns t.mask→rdJ t.mask (plH P w q) n=j→(∀ m,m < n→Tk t (rdJ t.mask (plH P w q) m))→Q (.free j false) s) :
  ∀ (n at' fuel:Nat) (st:Option SetTable.Probe),n < fuel→at' + n < 10 * SetTable.turns t.mask→st.getD (t.probeStart (plH P w q))=yg t at' (t.probeStart (plH P w q))→PbOk t (st.getD (t.probeStart (plH P w q)))→t.slot (yg t n (st.getD (t.probeStart (plH P w q)))).j=.empty →
   (∀ m,m < at'→∃ i e,t.slot (rdJ t.mask (plH P w q) m)=.live i∧es[i]?=some e∧¬ Yv P w s.heap e q)→wpAny (model P w) A (setSearchFrom a (.ref x) (plH P w q) true fuel st) Q E s:=by
 intro n
 induction n using Nat.strongRecOn with
 | _ n ih =>
  intro at' fuel st f1 f2 hst pb he hb
  cases fuel with
  | zero=>omega
  | succ fuel =>
   unfold setSearchFrom
   refine wpAny_bind (wpAny_setState_of ho hd ok.fits ?_)
   have gw:t.gaveWay=false:=by
    unfold SetTable.gaveWay
    rcases ok.msk with e | e | e <;> rw [e] <;> rfl
   simp only [gw,Bool.false_eq_true,if_false]
   generalize hf:t.probe _ (plH P w q) _=pm
   have pos:∀ k,(yg t k (st.getD (t.probeStart (plH P w q)))).j=rdJ t.mask (plH P w q) (at' + k):=fun k=>by rw [hst,← xR,zeA]
   have join:∀ {k},(∀ m,m < k→∃ i e,t.slot (yg t m (st.getD (t.probeStart (plH P w q)))).j=.live i∧es[i]?=some e∧e.1≠plH P w q)→∀ m,m < at' + k→∃ i e,t.slot (rdJ t.mask (plH P w q) m)=.live i∧es[i]?=some e∧¬ Yv P w s.heap e q:=fun {k} z m hm=>by
    by_cases c:m < at'
    ·exact hb m c
    ·obtain ⟨i,e,i1,i2,i3⟩:=z (m - at') (by omega)
     rw [pos,show at' + (m - at')=m by omega] at i1
     exact ⟨i,e,i1,i2,fun ⟨_,_,_,y⟩=>i3 y⟩
   rcases zdW (es:=es) hf (fun i e ei=>by show (es[i]?.map (·.1)).getD 0=e.1;rw [ei];rfl) ok.dm ok.sz (n:=n) (by omega) pb he with ⟨k,k1,a1,a2,a3⟩ | ⟨k,i,e,k1,a1,a2,ei,a4⟩
   ·subst a1
    rw [pos] at a2 ⊢
    have ahead:=join a3
    refine wpAny_pure (h2 _ (at' + k) (fun e hm z=>?_) a2 (by omega) rfl fun m hm=>?_)
    ·obtain ⟨i0,ei0⟩:=List.mem_iff_getElem?.mp hm
     rw [Array.getElem?_toList] at ei0
     have li:i0 < t.place.size:=by rw [ok.sz];exact (Array.getElem?_eq_some_iff.mp ei0).1
     have pl:=Array.getElem?_eq_getElem li
     obtain ⟨n0,n1,n2,n3⟩:=R i0 _ (plH P w q) pl (by show (es[i0]?).map (·.1)=_;rw [ei0];obtain ⟨_,_,_,z3⟩:=z;exact congrArg some z3)
     rcases Nat.lt_trichotomy n0 (at' + k) with l | l | l
     ·obtain ⟨i,e',i1,i2,i3⟩:=ahead n0 l
      rw [n2,Zf up pl] at i1
      cases i1
      rw [ei0] at i2
      cases i2
      exact i3 z
     ·rw [← l,n2,Zf up pl] at a2;cases a2
     ·obtain ⟨i',e'⟩:=n3 (at' + k) l
      rw [Zf up e'] at a2;cases a2
    ·obtain ⟨i,_,i1,_⟩:=ahead m hm
     exact ⟨i,KH i1⟩
   ·subst a1
    dsimp only
    have mem:e∈es.toList:=by rw [← Array.getElem?_toList] at ei;exact List.mem_of_getElem? ei
    obtain ⟨qb,b,eb,hb',hh⟩:=hes e mem
    obtain ⟨e1,e2⟩:=e
    dsimp only at eb hh
    subst eb
    have nxt:qb≠q→wpAny (model P w) A (setSearchFrom a (.ref x) (plH P w q) true fuel (some (yg t (k + 1) (st.getD (t.probeStart (plH P w q)))))) Q E s:=fun nq=>by
     refine ih (n - (k + 1)) (by omega) (at' + (k + 1)) fuel _ (by omega) (by omega) ?_ (PbOk.advs (p:=st.getD (t.probeStart (plH P w q))) _ pb) ?_ fun m hm=>?_
     ·show yg t (k + 1) _=_
      rw [hst,← xR]
     ·show t.slot (yg t (n - (k + 1)) (yg t (k + 1) (st.getD (t.probeStart (plH P w q))))).j=_
      rw [← xR,show k + 1 + (n - (k + 1))=n by omega]
      exact he
     ·by_cases c:m < at' + k
      ·exact join a4 m c
      ·have:m=at' + k:=by omega
       subst this
       rw [pos] at a2
       refine ⟨i,_,a2,ei,fun ⟨b',y1,y2,_⟩=>nq ?_⟩
       cases y1
       exact PlAt.uniq hb' y2
    rw [ei]
    by_cases c:(!t.led)=true
    ·rw [if_pos c]
     refine wpAny_bind (Qx hx _ (fun v hv'=>?_) ?_)
     ·obtain ⟨e,he',rfl⟩:=List.mem_map.mp hv'
      have:e∈es:=(Array.mem_filter.mp (Array.mem_toList_iff.mp he')).1
      obtain ⟨qb,b,e1,e2,_⟩:=hes e (Array.mem_toList_iff.mpr this)
      exact ⟨b,qb,e1,e2⟩
     rw [if_neg (by decide)]
     dsimp only
     refine wpAny_bind (wpAny_holding ((tupleKind (yB P w)).eqBool (x:=ye qb) (y:=ye q) hu hb'.key hx.key ?_))
     by_cases qq:qb=q
     ·rw [decide_eq_true (congrArg ye qq)]
      refine wpAny_bind (wpAny_setState_of ho hd ok.fits ?_)
      rw [if_pos (by decide)]
      exact wpAny_pure (h1 ⟨_,mem,b,rfl,qq ▸ hb',qq ▸ hh⟩)
     rw [decide_eq_false fun z=>qq (za0 z)]
     refine wpAny_bind (wpAny_setState_of ho hd ok.fits ?_)
     rw [if_neg (by decide)]
     dsimp only
     rw [show t.sameMemory t.moves t.mask=some true by unfold SetTable.sameMemory;simp]
     dsimp only
     rw [if_pos rfl,a2]
     dsimp only
     rw [ei]
     dsimp only
     refine wpAny_bind (wpAny_isSame_ref_self ?_)
     rw [if_pos rfl]
     refine wpAny_bind (wpAny_pure ?_)
     dsimp only
     rw [if_neg (by decide)]
     exact nxt qq
    ·rw [if_neg c]
     dsimp only
     refine wpAny_bind (wpAny_holding ((tupleKind (yB P w)).eqBool (x:=ye qb) (y:=ye q) hu hb'.key hx.key ?_))
     by_cases qq:qb=q
     ·rw [decide_eq_true (congrArg ye qq)]
      refine wpAny_bind (wpAny_setState_of ho hd ok.fits ?_)
      rw [if_pos (by decide)]
      exact wpAny_pure (h1 ⟨_,mem,b,rfl,qq ▸ hb',qq ▸ hh⟩)
     rw [decide_eq_false fun z=>qq (za0 z)]
     refine wpAny_bind (wpAny_setState_of ho hd ok.fits ?_)
     rw [if_neg (by decide)]
     dsimp only
     rw [show t.sameMemory t.moves t.mask=some true by unfold SetTable.sameMemory;simp]
     dsimp only
     rw [if_pos rfl,a2]
     dsimp only
     rw [ei]
     dsimp only
     refine wpAny_bind (wpAny_isSame_ref_self ?_)
     rw [if_pos rfl]
     refine wpAny_bind (wpAny_pure ?_)
     dsimp only
     rw [if_neg (by decide)]
     exact nxt qq
end
end L2
namespace L2
open PySem PySem.Spec PyProof.Rows
theorem zbl {α β:Type} {f:α→Option β}:∀ {l:List α},(∀ k∈l,(f k).isSome=true)→∀ i:Nat,(l.filterMap f)[i]?=l[i]?.bind f
 | [],_,i=>by simp
 | k :: l,h,i=>by
  obtain ⟨y,hy⟩:=Option.isSome_iff_exists.mp (h k List.mem_cons_self)
  rw [List.filterMap_cons,hy]
  dsimp only
  cases i with
  | zero=>simp [hy]
  | succ i=>rw [List.getElem?_cons_succ,List.getElem?_cons_succ];exact zbl (fun x hx=>h x (List.mem_cons_of_mem _ hx)) i
section
variable {P:Program} {w:World} {A:Around} {E:Value→Shared→Prop} {s:Shared} {t:SetTable}
theorem JC {a:Addr} {o:Obj} {es:Array (Int × Value)} {ep wt m:Nat} (ho:s.heap.get? a=some o) (hd:o.data=.set es ep t) (hf:t.fits es.size=true) (hw:SetTable.sizeAbove wt=m + 1) (hm:vK m) (hl:es.size≤m) {Q:Unit→Shared→Prop}
  (h:∀ es' t',es'.toList.Perm es.toList→t'.mask=m→t'.dummies=#[]→t'.place.size=es.size→t'.plain=t.plain∧t'.led=t.led→UpA t'.place→kC t' (fun i=>(es'[i]?).map (·.1))→Q () { s with heap:=s.heap.update a (Obj.putSet es' t') }):wpAny (model P w) A (setRelay a wt) Q E s:=by
 unfold setRelay
 refine wpAny_bind (wpAny_setState_of ho hd hf ?_)
 have m1:m≤127:=by rcases hm with e | e | e <;> omega
 dsimp only
 rw [if_neg (by have z:(128:Nat)≤sizeLine:=(by decide);rw [hw];omega)]
 have hl':(es.map (·.1)).size≤m:=by rw [Array.size_map];exact hl
 obtain ⟨t',ord,e1,e2,e3,e4,e5,e6⟩:=zcv (fg:=t.finger) (mv:=t.movedTo m) (ld:=t.led) (pl:=t.plain) (hs:=es.map (·.1)) hm hl'
 obtain ⟨u1,u2⟩:=QF hm hl' e1
 rw [Array.size_map] at e4 e6
 have pp:=Qw (es:=es) e6
 have sz:(ord.filterMap (es[·]?)).size=es.size:=by have:=pp.length_eq;rw [Array.length_toList,Array.length_toList] at this;exact this
 have er:t.relaid (es.map (·.1)) wt=some (t',ord):=by
  unfold SetTable.relaid
  rw [hw,Nat.add_sub_cancel]
  exact e1
 have rd:kC t' (fun i=>((ord.filterMap (es[·]?))[i]?).map (·.1)):=by
  have e:(fun i:Nat=>((ord.filterMap (es[·]?))[i]?).map (·.1))=fun i=>(ord[i]?).bind fun k=>(es.map (·.1))[k]?:=by
   funext i
   rw [← Array.getElem?_toList,Array.toList_filterMap,zbl (fun k hk=>?_),Array.getElem?_toList]
   ·cases ord[i]? with
    | none=>rfl
    | some k=>show (es[k]?).map (·.1)=(es.map (·.1))[k]?;rw [Array.getElem?_map]
   ·have:=List.mem_range.mp (e6.mem_iff.mp hk)
    rw [Array.getElem?_eq_getElem this];rfl
  rw [e]
  exact u2
 rw [er]
 refine wpAny_bind ?_
 show wpAny _ _ (if ((ord.filterMap (es[·]?)).size != es.size)=true then _ else _) _ _ _
 rw [sz,if_neg (by simp)]
 refine wpAny_pure ?_
 exact wpAny_storeSet_of ho hd (h _ _ pp e2 e3 e4 e5 u1 rd) (by have z:(128:Nat)≤sizeLine:=(by decide);rw [sz];omega)
theorem zbm {a x:Addr} {q:Str × Int} {o:Obj} {es:Array (Int × Value)} {ep:Nat} (ho:s.heap.get? a=some o) (hd:o.data=.set es ep t) (ok:SetOk t es.size) (up:UpA t.place) (R:kC t (fun i=>(es[i]?).map (·.1))) (room:es.size < 76) (hu:A.units < cLine) (hx:PlAt s.heap (.ref x) q)
  (hes:∀ e∈es.toList,∃ qb,Yv P w s.heap e qb) {Q:Bool→Shared→Prop} (h0:(∃ e∈es.toList,Yv P w s.heap e q)→∀ tk:Nat,s.toks≤tk→Q false { s with toks:=tk })
  (h:(∀ e∈es.toList,¬ Yv P w s.heap e q)→∀ (h':Heap) (tk:Nat) es' ep' t',Heap.SameBut a s.heap h'→h'.get? a=some { o with data:=.set es' ep' t' }→es'.toList.Perm (es.toList ++ [(plH P w q,.ref x)])→SetOk t' es'.size→UpA t'.place→kC t' (fun i=>(es'[i]?).map (·.1))→t'.plain=false∧t'.led=t.led→s.toks≤tk→Q true { s with heap:=h',toks:=tk }):wpAny (model P w) A (setAdd a (.ref x)) Q E s:=by
 unfold setAdd
 refine wpAny_holding (wpAny_bind (wpAny_pyHash_tuple (knd:=yB P w) hu hx.key ?_))
 obtain ⟨s1,hs1⟩:∃ s1:Shared,s1={ s with toks:=s.toks + ((ye q).length + 1) }:=⟨_,rfl⟩
 rw [← hs1]
 have hx1:PlAt s1.heap (.ref x) q:=by rw [hs1];exact hx
 have ho1:s1.heap.get? a=some o:=by rw [hs1];exact ho
 have eh:s1.heap=s.heap:=by rw [hs1]
 have hes1:∀ e∈es.toList,∃ qb,Yv P w s1.heap e qb:=by rw [eh];exact hes
 unfold setAddHashed setAddHashedIn
 refine wpAny_holding (wpAny_bind (wpAny_setState_of ho1 hd ok.fits ?_))
 dsimp only
 rw [if_neg (show ¬ (byScan (.ref x) es=true) from Bool.false_ne_true)]
 obtain ⟨e,e1,e2⟩:=Qu (t:=t) ok.dm (by rw [ok.sz];exact ok.lt)
 have pb:PbOk t (t.probeStart (plH P w q)):=⟨WB _ _,Nat.le_of_lt_succ (Nat.mod_lt _ (Nat.succ_pos _)),Kw _,rfl⟩
 obtain ⟨n,n1,n2⟩:=Qs ok.msk pb e1
 have tl:10 * SetTable.turns t.mask≤2000:=by unfold SetTable.turns;rcases ok.msk with e | e | e <;> rw [e] <;> decide
 unfold setSearch
 refine wpAny_bind (JB ho1 hd ok up R hu hx1 hes1 (fun tw=>?_) (fun j nn new hj hn ej tk=>?_) n 0 100000 none (by omega) (by omega) rfl pb (by show t.slot (yg t n (t.probeStart (plH P w q))).j=_;rw [n2];exact e2) fun m hm=>by omega)
 ·dsimp only
  refine wpAny_pure ?_
  subst hs1
  exact h0 tw _ (Nat.le_add_right _ _)
 dsimp only
 refine wpAny_bind (wpAny_setState_of ho1 hd ok.fits ?_)
 have zl:(128:Nat)≤sizeLine:=by decide
 have new':∀ e∈es.toList,¬ Yv P w s.heap e q:=by rw [← eh];exact new
 have tail:∀ (T:SetTable) (es1:Array (Int × Value)),T.mask=t.mask→T.dummies=#[]→T.place.size=es.size + 1→T.plain=false∧T.led=t.led→es1.toList.Perm (es.toList ++ [(plH P w q,.ref x)])→UpA T.place→kC T (fun i=>(es1[i]?).map (·.1)) →
   wpAny (model P w) A (do storeSet a es1 T;if (!false && T.tooFull)=true then do { setRelay a (SetTable.grown (es.size + 1));pure true } else pure true) Q E s1:=fun T es1 t1 t2 t3 t4 pm tu tr=>by
  have z1:es1.size=es.size + 1:=by have:=pm.length_eq;simpa using this
  have fl:T.fill=es.size + 1:=by unfold SetTable.fill;rw [t2,t3];rfl
  have g1:=Kx (es':=es1) (t':=T) ho1 hd
  refine wpAny_bind (wpAny_storeSet_of ho1 hd ?_ (by rw [z1];omega))
  by_cases c:T.tooFull=true
  ·rw [if_pos (by rw [c];rfl)]
   have c2:(es.size + 1) * 5 ≥ t.mask * 3:=by
    unfold SetTable.tooFull at c
    rw [fl,t1] at c
    exact of_decide_eq_true c
   have go:∀ m,SetTable.sizeAbove (SetTable.grown (es.size + 1))=m + 1→vK m→es1.size≤m→(m=7∧es1.size≤4∨m=31∧es1.size≤18∨m=127∧es1.size≤76)→T.fits es1.size=true →
     wpAny (model P w) A (do { setRelay a (SetTable.grown (es.size + 1));pure true }) Q E { s1 with heap:=s1.heap.update a (Obj.putSet es1 T) }:=fun m m1 m2 m3 m4 m5=>by
    refine wpAny_bind (JC (s:={ s1 with heap:=s1.heap.update a (Obj.putSet es1 T) }) g1 rfl m5 m1 m2 m3 fun es' t' p1 p2 p3 p4 p5 p6 p7=>wpAny_pure ?_)
    have z2:es'.size=es1.size:=by have:=p1.length_eq;simpa using this
    subst hs1
    exact h new' _ _ es' (ep + 1 + 1) t' ((Ys s.heap).trans (Ys _)) (by have z:=Kx (es':=es') (t':=t') g1 rfl;exact z) (p1.trans pm) ⟨p3,by rw [p4,z2],by rw [p2,z2];exact m4⟩ p6 p7 ⟨p5.1.trans t4.1,p5.2.trans t4.2⟩ (Nat.le_add_right _ _)
   have ft:es.size + 1≤t.mask→T.fits es1.size=true:=fun z=>by
    simp only [SetTable.fits,fl,t3,t1,z1,Bool.and_eq_true,beq_iff_eq,decide_eq_true_eq]
    exact ⟨trivial,z⟩
   rcases ok.mm with ⟨e1,e2⟩ | ⟨e1,e2⟩ | ⟨e1,e2⟩
   ·have:es.size=4:=by rw [e1] at c2;omega
    exact go 31 (by rw [this];decide) (.inr (.inl rfl)) (by omega) (.inr (.inl ⟨rfl,by omega⟩)) (ft (by omega))
   ·have:es.size=18:=by rw [e1] at c2;omega
    exact go 127 (by rw [this];decide) (.inr (.inr rfl)) (by omega) (.inr (.inr ⟨rfl,by omega⟩)) (ft (by omega))
   ·rw [e1] at c2;omega
  ·rw [if_neg (by simpa using c)]
   have c2:¬ (es.size + 1) * 5 ≥ t.mask * 3:=fun z=>c (by
    unfold SetTable.tooFull
    rw [fl,t1]
    exact decide_eq_true z)
   refine wpAny_pure ?_
   subst hs1
   refine h new' _ _ es1 _ T (Ys s.heap) g1 pm ⟨t2,by rw [t3,z1],?_⟩ tu tr t4 (Nat.le_add_right _ _)
   rw [t1,z1]
   rcases ok.mm with ⟨e1,e2⟩ | ⟨e1,e2⟩ | ⟨e1,e2⟩ <;> rw [e1] at c2 ⊢ <;> omega
 have no:=zcE up hj
 obtain ⟨b1,_,_⟩:=kA up j
 have pm:(SetTable.insertAt es (t.put j).2 (plH P w q,Value.ref x)).toList.Perm (es.toList ++ [(plH P w q,.ref x)]):=by
  have:=SetTable.insertAt_perm es (t.put j).2 (plH P w q,Value.ref x)
  rw [Array.toList_push] at this
  exact this
 have rd:kC (t.put j).1 (fun i=>((SetTable.insertAt es (t.put j).2 (plH P w q,Value.ref x))[i]?).map (·.1)):=by
  have:=QE up R hn ej tk
  have e:(fun i:Nat=>((SetTable.insertAt es (t.put j).2 (plH P w q,Value.ref x))[i]?).map (·.1))=fun i=>if i < (t.put j).2 then (es[i]?).map (·.1) else if i=(t.put j).2 then some (plH P w q) else (es[i - 1]?).map (·.1):=by
   funext i
   rw [kB (show (t.put j).2≤es.size by rw [← ok.sz];exact b1)]
   split
   ·rfl
   ·split <;> rfl
  rw [e]
  exact this
 have sp:(t.put j).1.place.size=es.size + 1:=by
  have:=(SetTable.insertAt_perm t.place (SetTable.below t.place j) j).length_eq
  rw [Array.toList_push,List.length_append,Array.length_toList,Array.length_toList,ok.sz] at this
  exact this
 have sd:(t.put j).1.dummies=#[]:=by
  show (if SetTable.has t.dummies j=true then _ else t.dummies)=_
  rw [ok.dm,VA]
  rfl
 dsimp only
 by_cases c:(t.put j).1.plain=true
 ·rw [if_pos c]
  refine wpAny_bind (Qy hx1 ?_)
  rw [if_neg (by decide)]
  exact tail _ _ rfl sd sp ⟨rfl,rfl⟩ pm (zbi up no) rd
 ·rw [if_neg c]
  refine wpAny_bind (wpAny_pure ?_)
  rw [if_pos rfl]
  exact tail _ _ rfl sd sp ⟨by simpa using c,rfl⟩ pm (zbi up no) rd
end
end L2
namespace L2
open PySem PySem.Spec PySem.W PyProof.Rows
def ddS (ks:List (Addr × Pl)) (p:Addr × Pl):List (Addr × Pl):=if p.2∈ks.map (·.2) then ks else ks ++ [p]
def dd (ps:List (Addr × Pl)):List (Addr × Pl):=ps.foldl ddS []
theorem zcF (ps:List (Addr × Pl)) (p:Addr × Pl):dd (ps ++ [p])=ddS (dd ps) p:=by unfold dd;rw [List.foldl_append];rfl
theorem KI {p:Addr × Pl}:∀ (ps ks:List (Addr × Pl)),p∈ps.foldl ddS ks→p∈ks∨p∈ps
 | [],ks,h=>.inl h
 | q :: ps,ks,h=>by
  rcases KI ps _ h with h | h
  ·unfold ddS at h
   split at h
   ·exact .inl h
   ·rcases List.mem_append.mp h with h | h
    ·exact .inl h
    ·exact .inr (by rw [List.mem_singleton.mp h];exact List.mem_cons_self)
  ·exact .inr (List.mem_cons_of_mem _ h)
theorem zbn {ps:List (Addr × Pl)} {p:Addr × Pl} (h:p∈dd ps):p∈ps:=(KI ps [] h).resolve_left (fun z=>nomatch z)
theorem zeC (ps:List (Addr × Pl)):((dd ps).map (·.2)).Nodup:=by
 have:∀ (ps ks:List (Addr × Pl)),(ks.map (·.2)).Nodup→((ps.foldl ddS ks).map (·.2)).Nodup:=fun ps=>by
  induction ps with
  | nil=>exact fun ks h=>h
  | cons q ps ih =>
   intro ks h
   refine ih _ ?_
   unfold ddS
   split
   ·exact h
   ·rename_i c
    rw [List.map_append,List.nodup_append]
    refine ⟨h,List.nodup_cons.mpr ⟨by simp,List.nodup_nil⟩,fun a ha b hb=>?_⟩
    have hb':b=q.2:=by simpa using hb
    rw [hb']
    exact fun z=>c (z ▸ ha)
 exact this ps [] List.nodup_nil
theorem zdX {ps:List (Addr × Pl)} {q:Pl}:q∈(dd ps).map (·.2)↔q∈ps.map (·.2):=by
 have:∀ (ps ks:List (Addr × Pl)),q∈(ps.foldl ddS ks).map (·.2)↔q∈ks.map (·.2)∨q∈ps.map (·.2):=fun ps=>by
  induction ps with
  | nil=>intro ks;simp
  | cons p ps ih =>
   intro ks
   show q∈(ps.foldl ddS (ddS ks p)).map (·.2)↔_
   rw [ih,List.map_cons,List.mem_cons]
   unfold ddS
   split
   ·rename_i c
    constructor
    ·rintro (h | h)
     ·exact .inl h
     ·exact .inr (.inr h)
    ·rintro (h | h | h)
     ·exact .inl h
     ·exact .inl (h ▸ c)
     ·exact .inr h
   ·rw [List.map_append,List.mem_append]
    simp
    constructor
    ·rintro ((h | h) | h)
     ·exact .inl h
     ·exact .inr (.inl h)
     ·exact .inr (.inr h)
    ·rintro (h | h | h)
     ·exact .inl (.inl h)
     ·exact .inl (.inr h)
     ·exact .inr h
 rw [show dd ps=ps.foldl ddS [] from rfl,this]
 simp
theorem zbo (ps:List (Addr × Pl)):(dd ps).length≤ps.length:=by
 have:∀ (ps ks:List (Addr × Pl)),(ps.foldl ddS ks).length≤ks.length + ps.length:=fun ps=>by
  induction ps with
  | nil=>intro ks;exact Nat.le_refl _
  | cons q ps ih =>
   intro ks
   have:=ih (ddS ks q)
   have:(ddS ks q).length≤ks.length + 1:=by unfold ddS;split <;> simp
   rw [List.length_cons]
   show (ps.foldl ddS (ddS ks q)).length≤_
   omega
 have:=this ps []
 rw [List.length_nil,Nat.zero_add] at this
 exact this
def SetTw (P:Program) (w:World) (h:Heap) (S:Addr) (ks:List (Addr × Pl)):Prop:=∃ es ep t,h.get? S=some (qw es ep t)∧(es.toList.map (·.2)).Perm (ks.map fun n=>Value.ref n.1)∧SetOk t es.size∧UpA t.place∧kC t (fun i=>(es[i]?).map (·.1))∧(∀ e∈es.toList,∃ n∈ks,e=(plH P w n.2,Value.ref n.1))∧(t.plain=true→ks=[])∧t.led=VD w
section
variable {P:Program} {w:World} {A:Around} {E:Value→Shared→Prop} {s:Shared} {t:SetTable}
theorem SetTw.at {h h':Heap} {S:Addr} {ks:List (Addr × Pl)} (x:SetTw P w h S ks) (e:∀ o,h.get? S=some o→h'.get? S=some o):SetTw P w h' S ks:=let ⟨es,ep,t,a,r⟩:=x;⟨es,ep,t,e _ a,r⟩
theorem SetTw.in {h:Heap} {S:Addr} {ks:List (Addr × Pl)} (x:SetTw P w h S ks):SetIn w h S (ks.map fun n=>Value.ref n.1):=let ⟨es,ep,t,a,b,c,_,_,_,d,e⟩:=x;⟨es,ep,t,a,b,c,(fun z=>by rw [d z];rfl),e⟩
theorem JD {I l S:Addr} {ps:List (Addr × Pl)} {R:Result→Shared→Prop} (W:Walks P w A.in1 I [I,l] [I] ps.length (fun i v=>(ps.map fun n=>Value.ref n.1).toArray[i]?=some v) (fun i h=>h.IsListIter I l i∧h.IsList l (ps.map fun n=>Value.ref n.1).toArray))
  (sI:S≠I) (sl:S≠l) (h76:ps.length≤76) (hu:A.in1.units < cLine) :
  ∀ (k i:Nat) (s:Shared),ps.length - i=k→i≤ps.length→s.heap.IsListIter I l i→s.heap.IsList l (ps.map fun n=>Value.ref n.1).toArray→SetTw P w s.heap S (dd (ps.take i)) →
   (∀ n∈ps,n.1≠I∧n.1≠S∧PlAt s.heap (.ref n.1) n.2) →
   (∀ (h':Heap) (tk:Nat),(∀ b o,b≠I→b≠S→s.heap.get? b=some o→h'.get? b=some o)→SetTw P w h' S (dd ps)→R (.ok (.ret .none)) { s with heap:=h',toks:=tk }) →
   codeAny (model P w) A (.builtin "set.update.loop" ⟨[.ref S,.ref I],[]⟩) R s:=by
 intro k
 induction k with
 | zero =>
  intro i s hk hi st1 st2 hS pl hR
  have e:i=ps.length:=by omega
  subst e
  refine codeAny_builtin PyProof.Rows.F.entry_set_update_loop ?_;rw [Around.under_plainId PyProof.Rows.F.plain_set_update_loop _]
  show wpAny _ A.in1 (pyNext (.ref I) >>= _) _ _ s;refine wpAny_bind (W.done s _ _ ⟨st1,st2⟩ fun h' tk hm=>?_)
  show wpAny _ A.in1 (ret Value.none) _ _ _;refine wpAny_pure (hR h' tk (fun b o b1 _ e=>hm b o (by simpa using b1) e) ?_)
  rw [List.take_of_length_le (Nat.le_refl _)] at hS
  exact hS.at fun o e=>hm S o (by simpa using sI) e
 | succ k ih =>
  intro i s hk hi st1 st2 hS pl hR
  have lt:i < ps.length:=by omega
  refine codeAny_builtin PyProof.Rows.F.entry_set_update_loop ?_;rw [Around.under_plainId PyProof.Rows.F.plain_set_update_loop _]
  show wpAny _ A.in1 (pyNext (.ref I) >>= _) _ _ s;refine wpAny_bind (W.item i s _ _ lt ⟨st1,st2⟩ fun v h1 tk1 hv st hm=>?_)
  have hpi:=List.getElem?_eq_getElem lt
  have mi:=List.getElem_mem lt
  generalize ps[i]=p at hpi mi
  rw [List.getElem?_toArray,List.getElem?_map,hpi] at hv
  cases hv
  have hS1:SetTw P w h1 S (dd (ps.take i)):=hS.at fun o e=>hm S o (by simpa using sI) e
  have pl1:∀ n∈ps,n.1≠I∧n.1≠S∧PlAt h1 (.ref n.1) n.2:=fun n hn=>by
   obtain ⟨g2,g3,g4⟩:=pl n hn
   exact ⟨g2,g3,g4.at fun o e=>hm n.1 o (by simpa using g2) e⟩
  have sub:∀ n∈dd (ps.take i),n∈ps:=fun n hn=>List.mem_of_mem_take (zbn hn)
  have step:dd (ps.take (i + 1))=ddS (dd (ps.take i)) p:=by rw [List.take_succ,hpi];exact zcF _ _
  obtain ⟨es,ep,t,ho,pm,ok,up,rd,ens,pn,pd⟩:=hS1
  have ne:es.size≤i:=by
   have:=pm.length_eq
   rw [List.length_map,Array.length_toList,List.length_map] at this
   have:=zbo (ps.take i)
   rw [List.length_take] at this
   omega
  have en:∀ e∈es.toList,∃ qb,Yv P w h1 e qb:=fun e he=>by
   obtain ⟨n,hn,rfl⟩:=ens e he
   exact ⟨n.2,n.1,rfl,(pl1 n (sub n hn)).2.2,rfl⟩
  have goOn:∀ (h2:Heap) (tk2:Nat),Heap.SameBut S h1 h2→SetTw P w h2 S (dd (ps.take (i + 1)))→codeAny (model P w) A (.builtin "set.update.loop" ⟨[.ref S,.ref I],[]⟩) R { s with heap:=h2,toks:=tk2 }:=fun h2 tk2 sb tw=>by
   refine ih (i + 1) _ (by omega) lt ?_ ?_ tw ?_ fun h3 tk3 k3 s3=>?_
   ·exact st.1.at fun o e=>by rw [sb.2 I (Ne.symm sI)];exact e
   ·exact st.2.at fun o e=>by rw [sb.2 l (Ne.symm sl)];exact e
   ·intro n hn
    obtain ⟨c2,c3,c4⟩:=pl1 n hn
    exact ⟨c2,c3,c4.at fun o e=>by rw [sb.2 n.1 c3];exact e⟩
   ·refine hR h3 tk3 (fun c o c1 c2 e=>k3 c o c1 c2 ?_) s3
    show h2.get? c=some o
    rw [sb.2 c c2]
    exact hm c o (by simpa using c1) e
  show wpAny _ A.in1 (holding [Value.ref p.1] (setAdd S (.ref p.1)) >>= _) _ _ _
  refine wpAny_bind (wpAny_holding (zbm (s:={ s with heap:=h1,toks:=tk1 }) (q:=p.2) ho rfl ok up rd (by omega) hu (pl1 p mi).2.2 en (fun tw tk2 _=>?_) fun new h2 tk2 es2 ep2 t2 sb g2 p2 ok2 up2 rd2 pn2 _=>?_))
  ·refine wpAny_pure ⟨plainId_quiet PyProof.Rows.F.plain_set_update_loop _,goOn h1 tk2 (Heap.SameBut.refl _ _) ?_⟩
   obtain ⟨e,he,b,y1,y2,_⟩:=tw
   obtain ⟨n,hn,rfl⟩:=ens e he
   cases y1
   have:=(pl1 n (sub n hn)).2.2.uniq y2
   rw [step]
   unfold ddS
   rw [if_pos (by rw [← this];exact List.mem_map_of_mem hn)]
   exact ⟨es,ep,t,ho,pm,ok,up,rd,ens,pn,pd⟩
  ·refine wpAny_pure ⟨plainId_quiet PyProof.Rows.F.plain_set_update_loop _,goOn h2 tk2 sb ?_⟩
   rw [step]
   unfold ddS
   rw [if_neg (fun z=>by
    obtain ⟨n,hn,e⟩:=List.mem_map.mp z
    have me:Value.ref n.1∈es.toList.map (·.2):=pm.mem_iff.mpr (List.mem_map_of_mem (f:=fun n:Addr × Pl=>Value.ref n.1) hn)
    obtain ⟨e',he',q'⟩:=List.mem_map.mp me
    obtain ⟨n',hn',rfl⟩:=ens e' he'
    have q2:n'.1=n.1:=by injection q'
    have a1:=(pl1 n' (sub n' hn')).2.2
    rw [q2] at a1
    have:=a1.uniq (pl1 n (sub n hn)).2.2
    exact new _ he' ⟨n.1,by rw [← q2],by rw [← e];exact (pl1 n (sub n hn)).2.2,by rw [← e,this]⟩)]
   refine ⟨es2,ep2,t2,g2,?_,ok2,up2,rd2,fun e he=>?_,(fun z=>by rw [pn2.1] at z;cases z),pn2.2.trans pd⟩
   ·have:=p2.map (·.2)
    rw [List.map_append] at this
    rw [List.map_append]
    exact this.trans (pm.append_right _)
   ·rcases List.mem_append.mp (p2.mem_iff.mp he) with z | z
    ·obtain ⟨n,hn,e⟩:=ens e z
     exact ⟨n,List.mem_append_left _ hn,e⟩
    ·exact ⟨p,List.mem_append_right _ List.mem_cons_self,List.mem_singleton.mp z⟩
set_option maxRecDepth 200000 in
theorem Yw {l:Addr} {ps:List (Addr × Pl)} {Q:Value→Shared→Prop} (hh:A.handled=none) (hu:A.units + 8 < cLine) (hl:s.heap.IsList l (ps.map fun n=>Value.ref n.1).toArray) (h76:ps.length≤76)
  (pl:∀ n∈ps,PlAt s.heap (.ref n.1) n.2)
  (h:∀ (h':Heap) (tk:Nat),SetIn w h' s.heap.objs.size ((dd ps).map fun n=>Value.ref n.1)→(∀ b o,s.heap.get? b=some o→h'.get? b=some o)→Q (.ref s.heap.objs.size) { s with heap:=h',toks:=tk }) :
  wpAny (model P w) A (call (.type "set") [.ref l]) Q E s:=by
 obtain ⟨c,tl,hmro⟩:=PySem.F.called_set.mro
 have hmade:=PySem.F.called_set.made;have hsub:=PySem.F.called_set.sub
 refine wpAny_call (codeAny_of_tree ?_);show wpAny _ _ (callAny (.type "set") _) _ _ _
 refine wpAny_pure ⟨Code.quiet_builtin _ (by decide +kernel),codeAny_builtin PySem.F.entry_type_call ?_⟩;rw [Around.under_plain (weight_type_call_type "set" [.ref l] []) rfl]
 have h1:=PySem.F.called_set.notType;have h2:=PySem.F.called_set.canCreate;have hct:=PySem.F.typeCall_set_1 (.ref l)
 repeat (any_goals (first | assumption | wp_step))
 refine codeAny_mono (za1 (.ref l) (E:=E) (Q:=fun obj s₁=>obj=.ref s.heap.objs.size∧s₁={ s with heap:=s.heap.push (qw #[] 0 (.fresh 0 0 (VD w))) }) ⟨rfl,rfl⟩) fun r s₁ hr=>?_
 cases r with
 | error e=>exact hr
 | ok fl =>
  cases fl with
  | ret obj =>
   obtain ⟨rfl,rfl⟩:=hr
   obtain ⟨h0,eh0⟩:∃ h0:Heap,h0=s.heap.push (qw #[] 0 (.fresh 0 0 (VD w))):=⟨_,rfl⟩
   have hS:h0.get? s.heap.objs.size=some (qw #[] 0 (.fresh 0 0 (VD w))):=eh0 ▸ Heap.get?_push_size _ rfl
   have hk0:∀ b o,s.heap.get? b=some o→h0.get? b=some o:=fun b o e=>eh0 ▸ Heap.get?_push_of_some _ e
   have sz0:h0.objs.size=s.heap.objs.size + 1:=by rw [eh0,Heap.size_push]
   rw [← eh0]
   have hT:Shared.TypeIs { s with heap:=h0 } (.ref s.heap.objs.size) "set":=⟨_,hS,rfl⟩
   have hli:=PySem.F.called_set.init.lookup;have hbi:=PySem.F.called_set.init.bind (.ref s.heap.objs.size)
   repeat (any_goals (first | assumption | wp_step))
   refine codeAny_mono (codeAny_call_builtin (R:=wants (fun r s₂=>r=.none∧∃ (h':Heap) (tk:Nat),s₂={ s with heap:=h',toks:=tk }∧SetIn w h' s.heap.objs.size ((dd ps).map fun n=>Value.ref n.1)∧∀ b o,s.heap.get? b=some o→h'.get? b=some o) E) PySem.F.called_set.init.plain PySem.F.entry_set_init (check_set_init_1 hT ?_)) fun r₂ s₂ hr₂=>?_
   ·obtain ⟨ol,hol,hcl,nl,hdl⟩:=hl
    obtain ⟨ocls,odict,odata,oslots⟩:=ol
    simp only at hcl hdl
    subst hcl;subst hdl
    have hol':=hk0 _ _ hol
    have hl1:h0.IsList l (ps.map fun n=>Value.ref n.1).toArray:=⟨_,hol',rfl,nl,rfl⟩
    have hsls:=PySem.F.sub_list_set;have hslf:=PySem.F.sub_list_frozenset
    have hne:(Value.type "list" == Value.type "dict")=false:=by decide
    unfold Builtin.«set.__init__» noKeywords Builtin.Frozenset.updateFrom
    generalize hPI:pyIter=PI
    wp_walk
    subst hPI
    refine wpAny_pyIter_list hl1 ?_
    refine wpAny_bind (wpAny_runValue ?_)
    have ll:l < s.heap.objs.size:=Heap.lt_size hol
    obtain ⟨h1',eh1⟩:∃ h1:Heap,h1=h0.push { cls:=.type "list_iterator",data:=.fields #[.ref l,.int 0 0] }:=⟨_,rfl⟩
    have hk1:∀ b o,h0.get? b=some o→h1'.get? b=some o:=fun b o e=>eh1 ▸ Heap.get?_push_of_some _ e
    rw [← eh1]
    have W:=Walks.list (prog:=P) (w:=w) (A:=A.in1.in1.in1) (by simp [hh]) h0.objs.size l (by rw [sz0];exact Nat.ne_of_lt (Nat.lt_succ_of_lt ll)) (ps.map fun n=>Value.ref n.1).toArray
    rw [show (ps.map fun n=>Value.ref n.1).toArray.size=ps.length by simp] at W
    refine JD (P:=P) (w:=w) W (S:=s.heap.objs.size) (by rw [sz0];exact Nat.ne_of_lt (Nat.lt_succ_self _)) (Nat.ne_of_gt ll) h76 (by have e:A.in1.in1.in1.units=A.units + 3:=rfl;omega) ps.length 0 _ (by omega) (Nat.zero_le _) (by subst eh1;exact ⟨_,Heap.get?_push_size _ rfl,rfl,rfl⟩) ⟨_,hk1 _ _ hol',rfl,nl,rfl⟩ ⟨#[],0,_,hk1 _ _ hS,List.Perm.refl _,⟨rfl,rfl,.inl ⟨rfl,by decide⟩⟩,(fun a b x y _ z=>by simp [SetTable.fresh] at z),(fun i j g z=>by simp [SetTable.fresh] at z),(fun _ z=>nomatch z),(fun _=>rfl),rfl⟩ (fun n hn=>?_) fun h' tk k3 s3=>?_
    ·have b2:=pl n hn
     have bl:n.1 < s.heap.objs.size:=by
      obtain ⟨_,o,t,u,m,e,ho,r⟩:=b2
      cases e
      exact Heap.lt_size ho
     exact ⟨by rw [sz0];exact Nat.ne_of_lt (Nat.lt_succ_of_lt bl),Nat.ne_of_lt bl,b2.at fun o e=>hk1 _ _ (hk0 _ _ e)⟩
    ·show wpAny _ _ _ _ _ _
     refine wpAny_pure ?_
     show wpAny _ _ (ret Value.none) _ _ _
     refine wpAny_pure ⟨rfl,h',tk,rfl,s3.in,fun b o e=>k3 b o ?_ ?_ (hk1 _ _ (hk0 _ _ e))⟩
     ·rw [sz0];exact Nat.ne_of_lt (Nat.lt_succ_of_lt (Heap.lt_size e))
     ·exact Nat.ne_of_lt (Heap.lt_size e)
   ·cases r₂ with
    | error e=>exact hr₂
    | ok fl₂ =>
     cases fl₂ with
     | ret r =>
      obtain ⟨rfl,h',tk,rfl,hS',hk'⟩:=hr₂
      repeat (any_goals (first | assumption | wp_step))
      exact h _ _ hS' hk'
     | _=>exact hr₂.elim
  | _=>exact hr.elim
end
abbrev zbp (w:World) (K:W.Frag):RC:=fun vs H Q=>∃ r ps,vs=[.ref r]∧SqL K H r (ps.map fun n=>V.ref n.1)∧QB H ps∧ps.length < 64∧∀ l,H l=none→Q (.ref l) (upd H l (zba w l (dd ps)))
section
variable {X:Cx}
theorem QG (hc:X.calm=true) (hu:X.A.units + 8 < cLine):vq X (.type "set") (zbp X.w X.K):=by
 intro pins s σ H vs us Q I r0 h
 obtain ⟨r,ps,rfl,hq,pp,h64,q⟩:=h
 obtain ⟨u,rfl,ru⟩:=wV r0
 cases ru
 obtain ⟨vs,rv,⟨o,n,ho,oc,_,od⟩,hz⟩:=I.list hq
 have ev:=zbb (f:=fun n:Addr × Pl=>n.1) rv
 subst ev
 refine Yw (ps:=ps) (I.ok.hd hc) hu ⟨o,ho,oc,n,od⟩ (by omega) (fun m hm=>Yn I (pp m hm)) fun h' tk hS hk=>?_
 have fr:H s.heap.objs.size=none:=I.hok.fresh (Nat.le_refl _)
 have ex:∃ o,h'.get? s.heap.objs.size=some o:=by obtain ⟨es,ep,t,ho,_⟩:=hS;exact ⟨_,ho⟩
 refine ⟨.ref s.heap.objs.size,_,I.laid (a:=s.heap.objs.size) (o:=zba X.w s.heap.objs.size (dd ps)) (t':=tk) hk (Nat.le_refl _) ⟨hS,ex,fun h1 h2 a b=>SetIn.at a b⟩,rfl,q _ fr⟩
def VJ (K:W.Frag) (ta:TA):TE:=fun σ H Q=>ta σ H fun vs H1=>∃ r xs its,vs=[.ref r]∧SqL K H1 r xs∧Paired (Yr H1) xs its∧its.length < 64 ∧
 ∀ l ys srt H',Same H1 H'→H1 l=none→H' l=some (.lst ys)→Paired (Yr H') ys srt→srt.Pairwise (fun a b=>ya a b=true)→(∀ q,q∈srt↔q∈its)→Q (.ref l) H'
theorem zcG {a:Expr} {ta:TA} {p p2 pos pos2:Pos} (hc:X.calm=true) (hu:X.A.units + 8 < cLine) (hg1:Gl X "sorted") (hm1:X.mg "sorted"=none) (hg2:Gl X "set") (hm2:X.mg "set"=none) (ha:PA X [a] ta) (hs:starEach [a] X.env=[(false,eval a X.env)]:=by rfl)
  (he:starEach [.Call (.Name "set" p2) [a] [] pos2] X.env=[(false,eval (.Call (.Name "set" p2) [a] [] pos2) X.env)]:=by rfl):PE X (.Call (.Name "sorted" p) [.Call (.Name "set" p2) [a] [] pos2] [] pos) (VJ X.K ta):=by
 let t2:TA:=fun σ H Q=>∃ Q1,ta σ H Q1∧∀ vs H,Q1 vs H→Q vs H
 have ha2:PA X [a] t2:=fun pos pins s σ H Q I ⟨Q1,h,im⟩=>wpAny_mono (ha pos pins s σ H Q1 I h) (fun us s' ⟨vs,H',I',v,q⟩=>⟨vs,H',I',v,im _ _ q⟩) fun _ _ x=>x
 have e1:PE X (.Call (.Name "set" p2) [a] [] pos2) (tCB (zbp X.w X.K) t2):=yh (QG hc hu) hg2 hm2 zdI ha2 (by decide) (by decide) hs rfl
 have e2:PE X (.Call (.Name "sorted" p) [.Call (.Name "set" p2) [a] [] pos2] [] pos) (tCB (zdm X.w) (zd (tCB (zbp X.w X.K) t2) zm)):=zW (QC hc) hg1 hm1 XC (zb e1 zi) (by decide) (by decide) he rfl
 intro pins s σ H Q I h
 refine e2 pins s σ H Q I ⟨_,h,fun vs H1 h1=>?_⟩
 obtain ⟨r,xs,its,rfl,hq,pr,h64,q⟩:=h1
 obtain ⟨ps,rfl,rfl,pp⟩:=X3 pr
 rw [List.length_map] at h64
 refine ⟨r,ps,rfl,hq,pp,h64,fun l hl=>?_⟩
 have s1:Same H1 (upd H1 l (zba X.w l (dd ps))):=isV l hl
 refine ⟨l,dd ps,rfl,zp,fun n hn=>s1 _ _ (pp n (zbn hn)),zeC ps,Nat.lt_of_le_of_lt (zbo ps) h64,fun l2 ys srt H' s2 n2 g2 p2 up pm=>q l2 ys srt H' (s1.trans s2) ?_ g2 p2 up fun z=>(pm.mem_iff).trans zdX⟩
 by_cases e:l2=l
 ·rw [e,zp] at n2;cases n2
 ·rw [yb e] at n2;exact n2
end
end L2
namespace L2
open PySem PySem.Spec PyProof.Rows
theorem Zg:∀ {ls:List Str} {its:List Value},Vals (ls.map V.str) its→∀ (i:Nat) (v:Value),its[i]?=some v→∃ y t,ls[i]?=some y∧v=.str y t
 | [],_,r,m,v,h=>by cases r;simp at h
 | y :: ls,_,r,m,v,h=>by
  cases r with
  | cons a b =>
   obtain ⟨t,rfl⟩:=a
   cases m with
   | zero=>simp at h;exact ⟨y,t,rfl,h.symm⟩
   | succ m=>exact Zg b m v (by simpa using h)
section
variable {X:Cx} {e:Expr} {te:TE} {a:Str} {j k:Nat} {p1 p2 p3:Pos}
def Yx (te:TE):TE:=fun σ H Q=>te σ H fun v H1=>∃ (p:Addr) (ls:List Str),v=.ref p∧H1 p=some (.lst (ls.map V.str))∧ls.length≤10000∧(∀ x∈ls,Asc x)∧(ls.map (·.length)).sum≤100000∧∀ y:Str,Q (.str y) H1
theorem KJ:∀ {l:List Nat} {x:Nat},x∈l→x≤l.sum
 | y :: l,x,h=>by
  rw [List.sum_cons]
  rcases List.mem_cons.mp h with rfl | h
  ·omega
  ·have:=KJ h;omega
theorem KK:∀ {ls:List Str},(∀ x∈ls,Asc x)→((ls.map reprText).map (·.length)).sum≤10 * (ls.map (·.length)).sum + 2 * ls.length
 | [],_=>by simp
 | x :: ls,h=>by
  have ih:=KK (ls:=ls) fun y hy=>h y (List.mem_cons_of_mem _ hy)
  have hr:(reprText x).length≤10 * x.length + 2:=StrLaws.reprText_len x fun c hc=>Nat.lt_trans (h x List.mem_cons_self c hc) (by decide)
  simp only [List.map_cons,List.sum_cons,List.length_cons]
  omega
theorem zbq (hr:Room k X.A) (he:PE X e te) (hl:a.length≤1000:=by decide +kernel):PE X (.JoinedStr [.Constant (.str a) j p1,.FormattedValue e 114 none p2] p3) (Yx te):=by
 intro pins s σ H Q I h
 refine wpAny_JoinedStr ?_
 show wpAny _ _ (eval (.Constant (.str a) j p1) X.env) _ _ s
 have e0:(Str.empty ++ a).length=a.length:=by rw [Str.length_append];simp [Str.empty,Str.length]
 refine Calls.Constant_str ⟨a,_,rfl,by rw [e0];exact zt (by omega),?_⟩
 show wpAny _ _ (eval (.FormattedValue e 114 none p2) X.env) _ _ _
 refine wpAny_FormattedValue_repr (thn (he pins _ σ H _ (I.tok _) h) fun v s1 ⟨x,H1,I1,r1,p,ls,ex,hp,hn,hA,hz,q⟩=>?_)
 subst ex
 cases r1
 obtain ⟨_,its,n,rv,ho⟩:=(show ObjOk X.prog X.w H1 s1.heap p (.lst (ls.map V.str)) from I1.hok p _ hp)
 have hs:sizeLine=16777216:=sizeLine_eq
 have rs:=KK hA
 have lt:=listText_len_le (ls.map reprText)
 rw [List.length_map] at lt
 have fin:∀ (y:Str) (t':Tok) (h':Heap) (tk:Nat),y.length≤2000000→(∀ b o,s1.heap.get? b=some o→h'.get? b=some o)→∃ z u,Value.str y t'=Value.str z u∧(Str.empty ++ a ++ z).length≤sizeLine∧Joins (model X.prog X.w) X.A X.xe (evalEach [] X.env) (Str.empty ++ a ++ z) (fun out s₁=>out.length≤sizeLine∧EP X pins σ Q (.str out s₁.toks) { s₁ with toks:=s₁.toks + 1 }) { s1 with heap:=h',toks:=tk }:=fun y t' h' tk ly hk=>by
  have hz2:(Str.empty ++ a ++ y).length≤sizeLine:=by rw [Str.length_append,e0];omega
  exact ⟨_,_,rfl,hz2,hz2,.str _,H1,(I1.kept (t':=tk) hk).tok _,⟨_,rfl⟩,q _⟩
 have hT:Shared.TypeIs s1 (.ref p) "list":=⟨_,ho,rfl⟩
 cases its with
 | nil =>
  refine wpAny_pyReprObj_list_empty hT hr.units0 ho rfl ?_
  exact wpAny_formatField_str (fin _ _ _ _ (by decide) fun _ _ z=>z) (fin _ _ _ _ (by decide) fun _ _ z=>z) (by decide)
 | cons v its =>
  refine wpAny_pyReprObj_list (ts:=ls.map reprText) hT hr.gd (fun _ _ _ z=>nomatch z) hr.units0 ho rfl (by rw [List.length_map];have:=rv.length;simpa using this) (fun i y hy=>?_) (fun h' u tk hk=>?_) (by omega)
  ·rw [List.getElem?_toArray] at hy
   obtain ⟨z,t,e1,e2⟩:=Zg rv i y hy
   subst e2
   have mz:=List.mem_of_getElem? e1
   have lz:=KJ (List.mem_map_of_mem (f:=fun x:Str=>x.length) mz)
   have hr2:(reprText z).length≤10 * z.length + 2:=StrLaws.reprText_len z fun c hc=>Nat.lt_trans (hA z mz c hc) (by decide)
   exact ⟨reprText z,by rw [List.getElem?_map,e1];rfl,ReprIs.str z t (by omega)⟩
  ·exact wpAny_formatField_str (fin _ _ _ _ (by omega) hk) (fin _ _ _ _ (by omega) hk) (by omega)
end
end L2
namespace L2
open PySem PySem.Spec PyProof.Rows
def TrG (h base:Heap) (e:Addr) (cls a0 fl:Value) (od:Bool):Prop :=
 ∃ oe vs T oT ts,h.get? e=some oe∧((oe.cls=cls∧vs[0]?=some a0)∧(od=true→vs[2]?=some .none))∧oe.data=.fields vs∧vs[1]?=some (.ref T)∧base.get? T=none∧T≠e∧h.get? T=some oT∧oT.data=.fields ts∧ts[3]?=some fl
section
variable {M:Model} {A:Around} {E:Value→Shared→Prop} {s:Shared} {base:Heap} {env:Env} {outer:List Env} {L e:Addr} {cls a0:Value} {od:Bool} {Q:Unit→Shared→Prop}
def TgK (s:Shared) (base:Heap) (l:List Env) (e:Addr) (cls a0 fl:Value) (od:Bool) (g:Heap):Prop:=base.StaysIn g∧g.FunFrames base l∧TrG g base e cls a0 fl od∧s.heap.UpToSlots g
theorem zbr {oe:Obj} {vs:Array Value} {head:Value} {hn:Bool} (fr:A.frames=some (env :: outer)) (ff:s.heap.FunFrames base (env :: outer)) (fl:env.frame=some L) (he:s.heap.get? e=some oe) (kb:base.StaysIn s.heap) (nb:base.get? e=none)
  (dt:oe.data=.fields vs) (sz:1 < vs.size) (v0:vs[0]?=some a0) (v2:od=true→vs[2]?=some .none) (h:∀ g,TgK s base (env :: outer) e oe.cls a0 (rawInt L) od g→Q () { s with heap:=g }) :
  wpAny M A (do let a ← frameOf env;let pl ← entryPlaceOf L hn;let b ← EntryCells.newEntry head a .none (rawInt L) .none pl;setField (.ref e) 1 b) Q E s:=by
 have nf:e ∉ (env :: outer).filterMap (·.frame):=fun hm=>by
  obtain ⟨_,o,ho,z⟩:=ff.mem hm;rw [he] at ho;injection ho with ho;subst ho;exact z vs dt
 refine wpAny_bind (wpAny_frameOf_fun fr ff fl fun g1 so=>wpAny_bind (wpAny_entryPlaceOf fun pl hpl=>?_));unfold EntryCells.newEntry newFields
 refine wpAny_bind (wpAny_newObj_type ?_ (hpl.sizeOk5 _ _ _ _ _))
 have e1:g1.get? e=some oe:=(so.2.1 e nf).trans he
 have k1:base.StaysIn g1:=fun b o q=>(so.2.1 b fun hm=>by rw [(ff.mem hm).1] at q;cases q).trans (kb b o q)
 generalize hO:({ cls:=.type "traceback",dict:=none,data:=.fields ([head,.ref L,.none,rawInt L,.none] ++ (if pl.isEmpty then List.replicate 6 Value.none else pl)).toArray }:Obj)=nO
 have dO:nO.data=.fields ([head,.ref L,.none,rawInt L,.none] ++ (if pl.isEmpty then List.replicate 6 Value.none else pl)).toArray:=by rw [← hO]
 have e2:=Heap.get?_push_of_some (h:=g1) nO e1
 refine wpAny_setField e2 dt sz (h _ ?_)
 have nT:g1.objs.size≠e:=Nat.ne_of_gt (Heap.lt_size e1)
 have d3:=Obj.data_mapFields dt (·.setIfInBounds 1 (Value.ref g1.objs.size))
 have e3:=Heap.get?_update_self (Obj.mapFields (·.setIfInBounds 1 (Value.ref g1.objs.size))) e2 (Obj.isFreed_of_fields d3)
 have t3:=(Heap.get?_update_other (g1.push nO) (Obj.mapFields (·.setIfInBounds 1 (Value.ref g1.objs.size))) (Ne.symm nT)).trans (Heap.get?_push_size g1 (Obj.isFreed_of_fields dO))
 have kp:∀ b o,b≠e→g1.get? b=some o→((g1.push nO).update e (Obj.mapFields (·.setIfInBounds 1 (Value.ref g1.objs.size)))).get? b=some o:=fun b o n q=>by
  rw [Heap.get?_update_other _ _ (Ne.symm n)];exact Heap.get?_push_of_some _ q
 have nr:∀ b o,s.heap.get? b=some o→(∀ vs,o.data≠.fields vs)→b≠e:=fun b o q z w=>by rw [w,he] at q;injection q with q;subst q;exact z vs dt
 refine ⟨fun b o q=>kp b o (fun w=>by rw [w,nb] at q;cases q) (k1 b o q),ff.of_keeps fun b o q z=>?_,?_,fun b o q z=>?_⟩
 ·obtain ⟨sl,w⟩:=so.2.2 b o q;exact ⟨_,kp b _ (nr b o q z) w,rfl⟩
 ·exact ⟨_,_,g1.objs.size,_,_,e3,⟨⟨Obj.cls_mapFields _ _,by rw [Array.getElem?_setIfInBounds_ne (by decide)];exact v0⟩,fun z=>by rw [Array.getElem?_setIfInBounds_ne (by decide)];exact v2 z⟩,d3,by simp [sz],k1.fresh,nT,t3,dO,by first | (simp;done) | (rcases hpl with rfl | ⟨_,_,_,_,_,_,_,rfl⟩ <;> simp)⟩
 ·obtain ⟨sl,w⟩:=so.2.2 b o q;exact ⟨sl,kp b _ (nr b o q z) w⟩
theorem zdY {l:List Env} {fl:Value} (kb:base.StaysIn s.heap) (ff:s.heap.FunFrames base l) (t:TrG s.heap base e cls a0 fl od) (h:∀ g,TgK s base l e cls a0 .none od g→Q () { s with heap:=g }):wpAny M A (setFlight (.ref e) none) Q E s:=by
 obtain ⟨oe,vs,T,oT,ts,he,hc,dt,v1,nT,Te,hT,dT,t3⟩:=t
 have sz:3 < ts.size:=(Array.getElem?_eq_some_iff.mp t3).1
 have ot:∀ b,b≠T→(s.heap.update T (Obj.mapFields (·.setIfInBounds 3 ((none:Option Addr).elim Value.none fun f=>rawInt f)))).get? b=s.heap.get? b:=fun b q=>Heap.get?_update_other _ _ (Ne.symm q)
 have nr:∀ b o,s.heap.get? b=some o→(∀ vs,o.data≠.fields vs)→b≠T:=fun b o q z w=>by rw [w,hT] at q;injection q with q;subst q;exact z ts dT
 unfold setFlight;refine wpAny_bind (wpAny_field he dt v1 ?_);rw [if_pos (show (Value.ref T != Value.none)=true from by simp)]
 refine wpAny_setField hT dT sz (h _ ⟨fun b o q=>(ot b fun w=>by rw [w,nT] at q;cases q).trans (kb b o q),ff.of_keeps fun b o q z=>⟨o,(ot b (nr b o q z)).trans q,rfl⟩,?_,fun b o q z=>⟨o.slots,(ot b (nr b o q z)).trans q⟩⟩)
 exact ⟨oe,vs,T,_,_,(ot e (Ne.symm Te)).trans he,hc,dt,v1,nT,Te,Heap.get?_update_self _ hT (Obj.isFreed_of_fields (Obj.data_mapFields dT _)),Obj.data_mapFields dT _,by simp [sz]⟩
theorem zbs {oe:Obj} {vs:Array Value} (fr:A.frames=some (env :: outer)) (ff:s.heap.FunFrames base (env :: outer)) (fl:env.frame=some L) (he:s.heap.get? e=some oe) (kb:base.StaysIn s.heap) (nb:base.get? e=none)
  (dt:oe.data=.fields vs) (v1:vs[1]?=some .none) (v0:vs[0]?=some a0) (v2:od=true→vs[2]?=some .none) (h:∀ g,TgK s base (env :: outer) e oe.cls a0 (rawInt L) od g→Q () { s with heap:=g }):wpAny M A (noteFrame (.ref e) env) Q E s:=by
 unfold noteFrame;simp only [fl];refine wpAny_bind (wpAny_field he dt v1 ?_);rw [if_neg (by decide)]
 exact zbr fr ff fl he kb nb dt (Array.getElem?_eq_some_iff.mp v1).1 v0 v2 h
theorem JE {fv:Value} (hfv:(fv == rawInt L)=false) (fr:A.frames=some (env :: outer)) (ff:s.heap.FunFrames base (env :: outer)) (fl:env.frame=some L) (t:TrG s.heap base e cls a0 fv od) (kb:base.StaysIn s.heap) (nb:base.get? e=none)
  (h:∀ g,TgK s base (env :: outer) e cls a0 (rawInt L) od g→Q () { s with heap:=g }):wpAny M A (noteFrame (.ref e) env) Q E s:=by
 obtain ⟨oe,vs,T,oT,ts,he,⟨⟨hcl,v0⟩,v2⟩,dt,v1,nT,Te,hT,dT,t3⟩:=t
 subst hcl
 unfold noteFrame;simp only [fl];refine wpAny_bind (wpAny_field he dt v1 ?_);rw [if_pos (show (Value.ref T != Value.none)=true from by simp)]
 refine wpAny_bind (wpAny_field hT dT t3 ?_);rw [if_neg (by rw [hfv];decide)]
 refine wpAny_bind (wpAny_setField hT dT (Array.getElem?_eq_some_iff.mp t3).1 ?_)
 have ot:∀ b,b≠T→(s.heap.update T (Obj.mapFields (·.setIfInBounds 3 Value.none))).get? b=s.heap.get? b:=fun b q=>Heap.get?_update_other _ _ (Ne.symm q)
 have nr:∀ b o,s.heap.get? b=some o→(∀ vs,o.data≠.fields vs)→b≠T:=fun b o q z w=>by rw [w,hT] at q;injection q with q;subst q;exact z ts dT
 refine zbr fr (ff.of_keeps fun b o q z=>⟨o,(ot b (nr b o q z)).trans q,rfl⟩) fl ((ot e (Ne.symm Te)).trans he) (fun b o q=>(ot b fun w=>by rw [w,nT] at q;cases q).trans (kb b o q)) nb dt (Array.getElem?_eq_some_iff.mp v1).1 v0 v2 fun g ⟨x1,x2,x3,x4⟩=>h g ⟨x1,x2,x3,fun b o q z=>x4 b o ((ot b (nr b o q z)).trans q) z⟩
theorem zbt (x:∀ {Q:Unit→Shared→Prop},(∀ g,TgK s base (env :: outer) e cls a0 (rawInt L) od g→Q () { s with heap:=g })→wpAny M A (noteFrame (.ref e) env) Q E s)
  (h:∀ g,TgK s base (env :: outer) e cls a0 .none od g→Q () { s with heap:=g }):wpAny M A (leaving env (.ref e)) Q E s:=by
 unfold leaving
 refine wpAny_bind (x fun g ⟨x1,x2,x3,x4⟩=>zdY x1 x2 x3 fun g' ⟨y1,y2,y3,y4⟩=>h g' ⟨y1,y2,y3,x4.trans y4⟩)
end
end L2
namespace L2
open PySem PySem.Spec PySem.W PyProof.Rows
theorem Y7:entryFor table "proto.unchain"=some Builtin.«proto.unchain»:=entryFor_of_fast (by kernel_rfl)
theorem Y8:plainId "proto.unchain"=true:=by decide +kernel
abbrev zdZ (C t h:Addr):Obj:={ cls:=.ref C,data:=.fields #[.ref t,.none,.ref h,.ref h,.bool true,.none] }
section
variable {prog:Program} {w:World} {A:Around} {E:Value→Shared→Prop}
variable {nm qn:Str} {C N:Addr} {bs bm:List Value} {hdct:Bool} {sn:List Str} {sub:List Value} {ab:Bool} {col:Option Bool} {dd:Option Addr} {k0 k1 k2 k3 k5:Option Value} {nid:String}
variable {nm' qn':Str} {C' N':Addr} {bs' bm':List Value} {hdct':Bool} {sn':List Str} {sub':List Value} {ab':Bool} {col':Option Bool} {dd':Option Addr} {k0' k1' k2' k3' k5':Option Value} {nid':String}
theorem JF {env:Env} {s:Shared} {x c:Sem Value} {h:Addr} {Q:Flow→Shared→Prop} (hb:bm.contains (.type "BaseException")=true) (hb':bm'.contains (.type "BaseException")=true) (hh:A.handled=some (.ref h))
  (hx:wpAny (model prog w) A x (fun v s1=>∃ e t oh vh,v=.ref e∧s1.heap.get? C=some (excClassObj nm qn C N bs bm hdct sn sub ab col dd k0 k1 k2 k3 k5 nid)∧s1.heap.get? C'=some (excClassObj nm' qn' C' N' bs' bm' hdct' sn' sub' ab' col' dd' k0' k1' k2' k3' k5' nid') ∧
   s1.heap.get? e=some { cls:=.ref C,data:=.fields #[.ref t,.none,.none,.none,.bool false,.none] }∧h≠e∧s1.heap.get? h=some oh∧oh.cls=.ref C'∧oh.data=.fields vh∧vh[2]?=some .none ∧
   (∀ R:Value→Shared→Prop,R (.ref h) s1→wpAny (model prog w) A c R E s1) ∧
   ∀ g:Heap,g.get? e=some (zdZ C t h)→(∀ b o,b≠e→s1.heap.get? b=some o→g.get? b=some o)→E (.ref e) { s1 with heap:=g }) E s):wpAny (model prog w) A (raiseStmt env (some x) (some c)) Q E s:=by
 have cB:(Value.ref C :: bm).contains (.type "BaseException")=true:=by rw [List.contains_cons,hb,Bool.or_true]
 have cB':(Value.ref C' :: bm').contains (.type "BaseException")=true:=by rw [List.contains_cons,hb',Bool.or_true]
 unfold raiseStmt
 refine wpAny_bind (wpAny_mono hx (fun v s1 z=>?_) fun _ _ x=>x)
 obtain ⟨e,t,oh,vh,rfl,hC,hC',he,hhe,ho,hoc,hd,v2,hc,hE⟩:=z
 obtain ⟨hp,g,d,tk,os⟩:=s1
 dsimp only
 refine wpAny_bind (wpAny_holding (hc _ (wpAny_bind (wpAny_pure ?_))))
 refine wpAny_bind (wpAny_holding ?_)
 unfold excFromValue
 have nn:((Value.ref h == Value.none)=true)=False:=by simp
 repeat (first | with_reducible refine wpAny_loadPart_at he ?_ | with_reducible refine wpAny_loadPart_at hC ?_ | (with_reducible refine wpAny_isSubtype_exc hC ?_;rw [cB]) | (with_reducible refine wpAny_loadPart_at ho ?_;rw [hoc]) | with_reducible refine wpAny_loadPart_at hC' ?_ | (with_reducible refine wpAny_isSubtype_exc hC' ?_;rw [cB']) | simp only [nn,if_false] | wp_step)
 have hCe:C≠e:=fun z=>by rw [z] at hC;rw [he] at hC;cases hC
 generalize hg1:(hp.update e (Obj.mapFields fun x=>x.setIfInBounds 3 (Value.ref h))).update e (Obj.mapFields fun x=>x.setIfInBounds 4 (Value.bool true))=g1
 have e1:g1.get? e=some { cls:=.ref C,data:=.fields #[.ref t,.none,.none,.ref h,.bool true,.none] }:=by
  rw [← hg1]
  have a1:=Heap.get?_update_self (Obj.mapFields (·.setIfInBounds 3 (Value.ref h))) he rfl
  exact Heap.get?_update_self (Obj.mapFields (·.setIfInBounds 4 (Value.bool true))) a1 rfl
 have k1:∀ b o,b≠e→hp.get? b=some o→g1.get? b=some o:=fun b o n q=>by
  rw [← hg1]
  exact (Heap.get?_update_other _ _ (Ne.symm n)).trans ((Heap.get?_update_other _ _ (Ne.symm n)).trans q)
 have hC1:=k1 _ _ hCe hC
 refine wpAny_loadPart_at hC1 ?_
 refine wpAny_pure ?_
 rw [if_pos (by rfl)]
 refine wpAny_pure (wpAny_bind ?_)
 unfold setFlight
 refine wpAny_bind (wpAny_field (s:=⟨g1,g,d,tk,os⟩) (x:=Value.none) e1 rfl rfl ?_)
 rw [if_neg (by decide)]
 refine wpAny_pure ?_
 unfold raiseNew
 refine wpAny_bind (wpAny_handled ?_)
 rw [hh]
 dsimp only
 rw [if_pos (by simp [hhe])]
 refine wpAny_bind (wpAny_holding (wpAny_runValue (codeAny_builtin Y7 ?_)))
 rw [Around.under_plainId Y8 _]
 have ho1:=k1 _ _ hhe ho
 show wpAny _ _ (Builtin.«proto.unchain» ⟨[.ref e,.ref h,.ref h,.bool false],[]⟩) _ _ _
 unfold Builtin.«proto.unchain»
 dsimp only
 refine wpAny_bind (wpAny_field (s:=⟨g1,g,d,tk,os⟩) ho1 hd v2 ?_)
 rw [if_pos (by rfl)]
 refine wpAny_pure ?_
 show wpAny (model prog w) A (do updateField e 2 (Value.ref h);throw (Value.ref e)) Q E ⟨g1,g,d,tk,os⟩
 refine wpAny_bind (wpAny_setField (s:=⟨g1,g,d,tk,os⟩) (a:=e) (i:=2) (x:=Value.ref h) e1 rfl (by show 2 < 6;decide) ?_)
 refine wpAny_throw (hE _ ?_ fun b o n q=>?_)
 ·exact Heap.get?_update_self (Obj.mapFields (·.setIfInBounds 2 (Value.ref h))) e1 rfl
 ·exact (Heap.get?_update_other _ _ (Ne.symm n)).trans (k1 b o n q)
end
def XN (g h:Heap) (H:Hp) (e:Addr) (cls:Value):Prop :=
 ∃ oe vs a0 T oT ts,h.get? e=some oe∧((oe.cls=cls∧vs[0]?=some a0)∧vs[2]?=some .none)∧oe.data=.fields vs∧vs[1]?=some (.ref T)∧T≠e∧h.get? T=some oT∧oT.data=.fields ts∧ts[3]?=some .none ∧
  g.get? e=none∧g.get? T=none∧H e=none∧H T=none
def CXN (P:Program) (w:World):CXT:=fun outer H s E ev s'=>∃ e cls H',ev=.ref e∧s'.os=s.os∧AllBare s'.gens∧Un (frs outer) [] H H' s.heap s'.heap∧HOk P w H' s'.heap∧XN s.heap s'.heap H' e cls∧E cls none H'
section
variable {X:Cx} {pins:List (Addr × Obj)} {σ:St} {H:Hp} {s:Shared}
theorem JG {h':Heap} {e:Addr} {cls:Value} {vs:List Value} {E:XK} {EE:Value→Shared→Prop} (hst:X.stack=X.env :: X.outer∧X.env.frame=some X.env.locals) (hex:X.ex=[]) (J:Inv X pins σ H s) (hx:Heap.MadeExcOf s.heap h' e cls vs) (hE:E cls none H) :
  wpAny (model X.prog X.w) X.A (leaving X.env (.ref e)) (fun _ s2=>CXN X.prog X.w X.outer X.H₀ X.s₀ E (.ref e) s2) EE { s with heap:=h' }:=by
 obtain ⟨t,he,htn,ht⟩:=hx.there
 have J':Inv X pins σ H { s with heap:=h' }:=J.kept (t':=s.toks) hx.keeps
 have hn:H e=none:=by
  cases q:H e with
  | none=>rfl
  | some u =>
   obtain ⟨o,z⟩:=(J.hok e u q).there
   rw [hx.new] at z;cases z
 have h0:=xc (J.there0 hex) hx.new
 have fr:h'.FunFrames (W.hideAll h' (frs X.stack ++ [e])) (X.env :: X.outer):=by
  have q:=W.funFrames_hide (as:=frs X.stack ++ [e]) J'.stack fun env he a ha=>List.mem_append_left _ (List.mem_filterMap.mpr ⟨env,he,ha⟩)
  rw [hst.1] at q ⊢
  exact q
 refine zbt (s:={ s with heap:=h' }) (od:=true) (fun h=>zbs (s:={ s with heap:=h' }) (by rw [J.ok.frames,hst.1]) fr hst.2 he (fun b o q=>W.of_hideAll _ q) (W.hideAll_none _ (List.mem_append_right _ (by simp))) rfl rfl rfl (fun _=>rfl) h) fun h2 ⟨f1,f2,f4,hup⟩=>?_
 have hF:∀ b o,h'.get? b=some o→b∈frs X.stack→∃ sl,h2.get? b=some { o with slots:=sl }:=fun b o q hb=>by
  obtain ⟨o',q',nf⟩:=J'.stackFields hb
  rw [q] at q';cases q'
  exact hup b o q nf
 obtain ⟨oe,ws,T,oT,ts,x1,x2,x3,x4,x5,x6,x7,x8,x9⟩:=f4
 obtain ⟨r1,r2,xf⟩:=J'.flown (cs:=[e]) hex (fun b z=>by rw [List.mem_singleton.mp z];exact ⟨hn,h0⟩) (fun b o q n n2=>W.hideAll_get _ q fun z=>(List.mem_append.mp z).elim n n2) hF hn h0 f1 ⟨oe,ws,T,oT,ts,x1,x2.1,x3,x4,x5,x6,x7,x8,x9⟩
 refine ⟨e,cls,H,rfl,J.os,J.bare,r1,r2,?_,hE⟩
 obtain ⟨oe',vs',a0,T',oT',ts',y1,y2,y3,y4,y5⟩:=xf
 rw [x1] at y1;cases y1
 rw [x3] at y3;cases y3
 exact ⟨oe,ws,a0,T',oT',ts',x1,⟨y2,x2.2 rfl⟩,x3,y4,y5⟩
end
theorem QH {X:Cx} {pins:List (Addr × Obj)} {σ:St} {H:Hp} {s:Shared} {e:Addr} {oe:Obj} {vs:Array Value} {a0 fv:Value} {T:Addr} {oT:Obj} {ts:Array Value} {E:XK} {EE:Value→Shared→Prop} (hst:X.stack=X.env :: X.outer∧X.env.frame=some X.env.locals) (hex:X.ex=[]) (I:Inv X pins σ H s) (he:s.heap.get? e=some oe) (hd:oe.data=.fields vs) (v0:vs[0]?=some a0) (v1:vs[1]?=some (.ref T)) (hTe:T≠e)
  (hT:s.heap.get? T=some oT) (hdT:oT.data=.fields ts) (t3:ts[3]?=some fv) (e0:X.s₀.heap.get? e=none) (T0:X.s₀.heap.get? T=none) (eH:H e=none) (TH:H T=none) (hE:E oe.cls none H) :
  wpAny (model X.prog X.w) X.A (leaving X.env (.ref e)) (fun _ s2=>CX1 X.prog X.w X.outer X.H₀ X.s₀ E (.ref e) s2) EE s:=by
 have sz:3 < ts.size:=(Array.getElem?_eq_some_iff.mp t3).1
 have hcs:∀ b∈[e,T],H b=none∧X.s₀.heap.get? b=none:=fun b z=>by
  have z':b=e∨b=T:=by simpa using z
  rcases z' with rfl | rfl
  ·exact ⟨eH,e0⟩
  ·exact ⟨TH,T0⟩
 cases hf:fv == rawInt X.env.locals with
 | false =>
  have fr:s.heap.FunFrames (W.hideAll s.heap (frs X.stack ++ [e,T])) (X.env :: X.outer):=by
   have q:=W.funFrames_hide (as:=frs X.stack ++ [e,T]) I.stack fun env he a ha=>List.mem_append_left _ (List.mem_filterMap.mpr ⟨env,he,ha⟩)
   rw [hst.1] at q ⊢
   exact q
  refine zbt (od:=false) (fun h=>JE (od:=false) hf (by rw [I.ok.frames,hst.1]) fr hst.2 ⟨oe,vs,T,oT,ts,he,⟨⟨rfl,v0⟩,fun z=>nomatch z⟩,hd,v1,W.hideAll_none _ (List.mem_append_right _ (by simp)),hTe,hT,hdT,t3⟩ (fun b o q=>W.of_hideAll _ q) (W.hideAll_none _ (List.mem_append_right _ (by simp))) h) fun h2 ⟨f1,f2,f4,hup⟩=>?_
  have hF:∀ b o,s.heap.get? b=some o→b∈frs X.stack→∃ sl,h2.get? b=some { o with slots:=sl }:=fun b o q hb=>by
   obtain ⟨o',q',nf⟩:=I.stackFields hb
   rw [q] at q';cases q'
   exact hup b o q nf
  obtain ⟨oe',ws,T',oT',ts',x1,x2,x3⟩:=f4
  obtain ⟨r1,r2,xf⟩:=I.flown (cs:=[e,T]) hex hcs (fun b o q n n2=>W.hideAll_get _ q fun z=>(List.mem_append.mp z).elim n n2) hF eH e0 f1 ⟨oe',ws,T',oT',ts',x1,x2.1,x3⟩
  exact ⟨e,oe.cls,H,rfl,I.os,I.bare,r1,r2,xf,hE⟩
 | true =>
  unfold leaving noteFrame
  simp only [hst.2]
  refine wpAny_bind (wpAny_bind (wpAny_field he hd v1 ?_))
  rw [if_pos (show (Value.ref T != Value.none)=true from by simp)]
  refine wpAny_bind (wpAny_field hT hdT t3 ?_)
  rw [if_pos hf]
  refine wpAny_pure ?_
  unfold setFlight
  refine wpAny_bind (wpAny_field he hd v1 ?_)
  rw [if_pos (show (Value.ref T != Value.none)=true from by simp)]
  have ot:∀ b,b≠T→(s.heap.update T (Obj.mapFields (·.setIfInBounds 3 ((none:Option Addr).elim Value.none fun f=>rawInt f)))).get? b=s.heap.get? b:=fun b q=>Heap.get?_update_other _ _ (Ne.symm q)
  refine wpAny_setField hT hdT sz ?_
  obtain ⟨r1,r2⟩:=I.behind (cs:=[e,T]) hex hcs (fun b o q _ n2=>(ot b fun z=>n2 (by rw [z];simp)).trans q) fun b o q hb=>by
   obtain ⟨o',q',nf⟩:=I.stackFields hb
   rw [q] at q';cases q'
   exact ⟨o.slots,(ot b fun z=>by rw [z,hT] at q;cases q;exact nf _ hdT).trans q⟩
  exact ⟨e,oe.cls,H,rfl,I.os,I.bare,r1,r2,⟨oe,vs,a0,T,_,_,(ot e (Ne.symm hTe)).trans he,⟨rfl,v0⟩,hd,v1,hTe,Heap.get?_update_self _ hT (Obj.isFreed_of_fields (Obj.data_mapFields hdT _)),Obj.data_mapFields hdT _,by simp [sz],e0,T0,eH,TH⟩,hE⟩
section
variable {P:Program} {w:World} {K:W.Frag} {mg:Str→Option Value} {base:Heap} {N:List Str} {qual:Str} {scope:Scope} {f:Addr} {cd:Value} {A:Around} {outer:List Env} {s₀:Shared} {H₀:Hp} {E:XK}
theorem zcH:Jp (jN (CXN P w) P w K mg base N qual scope f cd A outer s₀ H₀ E) E:=by
 intro pins σ H s h' e cls vs I hx hE
 exact JG (X:=jN (CXN P w) P w K mg base N qual scope f cd A outer s₀ H₀ E) ⟨rfl,rfl⟩ rfl I hx hE
theorem Fun.okN {x:Str} {st:Stmt} {fd:FuncData} {ps:List Str} {k:Nat} {sp:Sp} (F:Fun K x qual st f fd) (S:zV N ps (zq st)) (len:∀ vs H Q E,sp vs H Q E→vs.length=ps.length)
  (hbody:∀ (cdv:Value) (A:Around) (outer:List Env) (s:Shared) (H:Hp) (vs:List V) (Q:VK) (E:XK),Room k (A.deeper (envOfC qual (zq st) s.heap.objs.size f cdv))→sp vs H Q E →
   ∃ t,PSs (jN (CXN P w) P w K mg base N qual (zq st) f cdv A outer s H E) (zU st) t∧t { nx:=fun _ H'=>Q .non H',rt:=Q } (start N vs) H):FnOk P w K mg base (CXN P w) (k + 1) f fd ps sp:=by
 obtain ⟨oc,od,kV,doc,pm,an,cdv,ct,osl,rfl,lk,hcd⟩:=F.ex
 exact zdf lk hcd S len fun A outer s H vs Q E hr hsp=>hbody cdv A outer s H vs Q E hr hsp
def WD (X:Cx) (E:XK):Prop:=∀ (pins:List (Addr × Obj)) (σ:St) (H:Hp) (s:Shared) (e:Addr) (oe:Obj) (vs:Array Value) (a0 fv:Value) (T:Addr) (oT:Obj) (ts:Array Value),Inv X pins σ H s→s.heap.get? e=some oe→oe.data=.fields vs→vs[0]?=some a0→vs[1]?=some (.ref T)→T≠e →
 s.heap.get? T=some oT→oT.data=.fields ts→ts[3]?=some fv→X.s₀.heap.get? e=none→X.s₀.heap.get? T=none→H e=none→H T=none→E oe.cls none H→X.xe (.ref e) s
theorem VL:WD (jN (CX1 P w) P w K mg base N qual scope f cd A outer s₀ H₀ E) E :=
 fun _ _ _ _ _ _ _ _ _ _ _ _ I he hd v0 v1 hTe hT hdT t3 e0 T0 eH TH hE=>QH (X:=jN (CX1 P w) P w K mg base N qual scope f cd A outer s₀ H₀ E) ⟨rfl,rfl⟩ rfl I he hd v0 v1 hTe hT hdT t3 e0 T0 eH TH hE
end
def exC (e C:Addr):HO:=.ext fun h=>∃ o vs,h.get? e=some o∧o.cls=.ref C∧o.data=.fields vs∧vs[2]?=some .none
def PXN (X:Cx) (pins:List (Addr × Obj)) (EX:EXK):Value→Shared→Prop:=fun ev s'=>∃ e cls σ s1 H1 H',ev=.ref e∧Inv X pins σ H1 s1∧Inv X pins σ H' s'∧XN s1.heap s'.heap H' e cls∧EX cls σ H'
def zeD (X:Cx) (ex:Expr) (t:EXK→TE):Prop :=
 ∀ (pins:List (Addr × Obj)) (s:Shared) (σ:St) (H:Hp) (Q:VK) (EX:EXK),Inv X pins σ H s→t EX σ H Q→wpAny (model X.prog X.w) X.A (eval ex X.env) (EP X pins σ Q) (PXN X pins EX) s
section
variable {X:Cx} {k:Nat} {f:Addr} {fd:FuncData} {ps:List Str} {sp:Sp} {x:Str} {p pos:Pos} {e:Expr} {es:List Expr} {t:TA}
theorem QI (F:FnOk X.prog X.w X.K X.mg X.base (CXN X.prog X.w) k f fd ps sp) (hr:Room k X.A) (hg:Gl X x) (hm:X.mg x=some (.ref f)) (hk:W.keepIn X.K (.ref f)=true) (hb:Binds X.K fd ps []) 
  (ha:PA X.nox (e :: es) t) (hdb:(x == ("__debug__":Str))=false:=by decide) (he:starEach (e :: es) X.env=(false,eval e X.env) :: starEach es X.env:=by rfl) (hpl:(backTo pos (starEach es X.env)).any (·.1)=false:=by rfl) :
  zeD X (.Call (.Name x p) (e :: es) [] pos) (ql sp t):=by
 intro pins s σ H Q EX I h
 refine wpAny_Call_Name_kw (vS I hg hm ?_ hdb)
 refine W.callWith_K (h₀:=X.base) I.ok.mod.kin hk (wpAny_mono (ha pos pins s σ H _ (I.wish _) h) (fun us s1 ⟨vs,H1,I1',r,q⟩=>⟨I1'.kIn,?_⟩) fun _ _ z=>False.elim z) he hpl
 have I1:=I1'.unwish
 have r2:Vals (vs ++ []) (us ++ []):=r.append .nil
 have hl:(us ++ []).length=ps.length:=by rw [← r2.length];exact F.len _ _ _ _ q
 refine wpAny_call (codeAny_mono (F.run X.A X.stack s1 H1 ⟨us,[]⟩ (us ++ []) (vs ++ []) _ _ hr I1.env0 (hb s1 us I1.kIn hl) r2 q) fun r s' hq=>?_)
 cases r with
 | error ev =>
  obtain ⟨e,cls,H',rfl,os,bare,un,hok,xf,hE⟩:=hq
  exact ⟨e,cls,σ,s1,H1,H',rfl,I1,I1.call' (ch:=[]) os un hok bare (fun b z=>nomatch z),xf,hE⟩
 | ok fl =>
  cases fl with
  | ret u=>exact I1.after hq
  | next=>exact False.elim hq
  | brk=>exact False.elim hq
  | cont=>exact False.elim hq
end
section
variable {X:Cx} {ex e₀:Expr} {tb:EXK→TE} {c1 x n:Str} {C1 C:Addr} {i:Nat} {np np2 cpos rpos hpos pos pos2 pn:Pos} {ta:TA} {E:XK}
def JH (tb:EXK→TE) (C1 C:Addr) (i:Nat) (ta:TA) (E:XK):TS:=fun D σ H=>tb (fun cls σ1 H1=>cls=.ref C1 ∧
 ∀ e,H1 e=none→ta (σ1.set i (some (.ref e))) (upd H1 e (exC e C1)) fun vs H2=>vs.length≤sizeLine∧H2 e=some (exC e C1)∧E (.ref C) none H2) σ H D.rt
theorem zbu (hst:X.stack=X.env :: X.outer∧X.env.frame=some X.env.locals) (hex:X.ex=[]) (hN:X.N.Nodup) (hb:zeD X ex tb) (hg1:Gl X c1) (hm1:X.mg c1=some (.ref C1)) (q1:W.excIn X.K C1 Yd jb=true) (hx1:W.exmOne X.K (.ref C1) (.ref C1)=some true)
  (hi:X.N[i]?=some n) (hl:X.env.scope.names.lookup n=some .local) (q2:W.excIn X.K C Yd jb=true) (hx:WD X E) (ho:∀ e:Addr,PassesOwnAt (model X.prog X.w) (X.A.mark (some (.ref e))) X.A X.env X.xe)
  (hg:Gl X x) (hm:X.mg x=some (.ref C)) (ha:∀ e,PA (X.sub e) [e₀] ta)
  (hdb1:(c1 == ("__debug__":Str))=false:=by decide) (he:starEach [e₀] X.env=[(false,eval e₀ X.env)]:=by rfl) (hp:(backTo cpos (starEach ([]:List Expr) X.env)).any (·.1)=false:=by rfl) (hd:(x == ("__debug__":Str))=false:=by decide)
  (hdn:(n == ("__debug__":Str))=false:=by decide) (hcn:(n == ("__classdict__":Str))=false:=by decide) :
  PS X (.Try [.Return (some ex) pos2] [.ExceptHandler (some (.Name c1 np)) (some n) [.Raise (some (.Call (.Name x np2) [e₀] [] cpos)) (some (.Name n pn)) rpos] hpos] [] [] pos) (JH tb C1 C i ta E):=by
 intro pins s σ H D I h
 refine wpAny_Try_except (wpAny_execs_cons (wpAny_Return_some (wpAny_mono (hb pins s σ H _ _ I h) (fun v s1 ⟨x,H1,I1,r,q⟩=>⟨x,σ,H1,I1,r,q⟩) fun ev s1 q=>?_)))
 obtain ⟨e,cls,σ1,s0,H0,H1,rfl,I0,I1,xf,rfl,hth⟩:=q
 obtain ⟨oe,vs,a0,T,oT,ts,h1,h2,h3,h4,h5,h6,h7,h8,h9,h10,h11,h12⟩:=xf
 have fr:s1.heap.FunFrames (W.hideAll s1.heap (frs X.stack ++ [e,T])) (X.env :: X.outer):=by
  have q:=W.funFrames_hide (as:=frs X.stack ++ [e,T]) I1.stack fun env he a ha=>List.mem_append_left _ (List.mem_filterMap.mpr ⟨env,he,ha⟩)
  rw [hst.1] at q ⊢
  exact q
 have two:∀ b∈[e,T],s0.heap.get? b=none∧H1 b=none:=fun b z=>by
  have z':b=e∨b=T:=by simpa using z
  rcases z' with rfl | rfl
  ·exact ⟨h9,h11⟩
  ·exact ⟨h10,h12⟩
 have hcs:∀ b∈[e,T],H1 b=none∧X.s₀.heap.get? b=none:=fun b z=>⟨(two b z).2,xc (I0.there0 hex) (two b z).1⟩
 have hcp:∀ b∈[e,T],∀ p∈X.pn ++ pins,p.1≠b:=fun b z p hp q=>by
  have:=(I0.pin p hp).1
  rw [q,(two b z).1] at this;cases this
 refine JE (fv:=.none) (od:=true) (by simp [rawInt]) (base:=W.hideAll s1.heap (frs X.stack ++ [e,T])) (by rw [I1.ok.frames,hst.1]) fr hst.2 ⟨oe,vs,T,oT,ts,h1,⟨h2.1,fun _=>h2.2⟩,h3,h4,W.hideAll_none _ (List.mem_append_right _ (by simp)),h5,h6,h7,h8⟩ (fun b o q=>W.of_hideAll _ q) (W.hideAll_none _ (List.mem_append_right _ (by simp))) fun g4 ⟨a1,a2,a3,sm4⟩=>?_
 refine zdY (s:={ s1 with heap:=g4 }) a1 a2 a3 fun g5 ⟨b1,b2,b3,sm5⟩=>?_
 have hB:∀ {g:Heap},(W.hideAll s1.heap (frs X.stack ++ [e,T])).StaysIn g→∀ b o,s1.heap.get? b=some o→b ∉ frs X.stack→b ∉ [e,T]→g.get? b=some o :=
  fun {g} k b o q n1 n2=>k b o (W.hideAll_get _ q fun z=>(List.mem_append.mp z).elim n1 n2)
 have I5:Inv X pins σ1 H1 { s1 with heap:=g5 }:=I1.land hex hcs hcp (hB b1) (sm4.trans sm5)
 have K5:=I5.kIn
 refine wpAny_handleBy_cons (codeAny_handlers_test ?_) (by intro q;cases q)
 refine vS (X:=X.sub e) (I5.toSub (e:=e)) hg1 hm1 ?_ hdb1
 have ty5:W.Looks (model X.prog X.w) g5 (typeOf (.ref e)) (.ref C1):=by
  obtain ⟨o,_,_,_,_,p1,p2,_⟩:=b3
  exact p2.1.1 ▸ (W.Looks.ld p1).andThen .now
 refine (W.exm_one K5 ty5 hx1).here ?_
 refine codeAny_handlers_suite_as ?_
 refine zdY (s:={ s1 with heap:=g5 }) b1 b2 b3 fun g6 ⟨c1,c2,c3,sm6⟩=>?_
 have I6:Inv X pins σ1 H1 { s1 with heap:=g6 }:=I1.land hex hcs hcp (hB c1) ((sm4.trans sm5).trans sm6)
 obtain ⟨o6,vs6,_,_,_,p6,q6,r6,_⟩:=c3
 have v26:=q6.2 rfl
 have neL:e≠X.env.locals:=fun z=>by
  obtain ⟨m,⟨o,_,_,ho,_⟩,_⟩:=I0.loc
  rw [← z,h9] at ho;cases ho
 have neC:∀ x c,X.env.cells.lookup x=some c→c≠e:=fun x c q z=>by
  obtain ⟨v,o,ho,_⟩:=I0.cell x c q
  rw [z,h9] at ho;cases ho
 have I7:Inv X pins σ1 (upd H1 e (exC e C1)) { s1 with heap:=g6 }:=I6.track h11 (hcs e (by simp)).2 hex neL neC (hcp e (by simp))
  ⟨⟨o6,vs6,p6,q6.1.1,r6,v26⟩,⟨o6,p6⟩,fun a b ⟨o,w,z1,z2⟩ k=>⟨o,w,k o z1,z2⟩⟩
 refine qP (X:=X) (v:=.ref e) I7 hN hi (.inl hl) rfl (fun s8 I8=>?_) (.inr hl)
 refine wpAny_execs_cons ?_
 obtain ⟨tl,N,nm,qn,bs,hdct,sn,sub,ab,col,dd,k0,k1,k2,k3,k5,mN,hC,hNs,hni,T9⟩:=Wq I.ok.mod.kin q2
 obtain ⟨tl',N',nm',qn',bs',hdct',sn',sub',ab',col',dd',k0',k1',k2',k3',k5',mN',hC',_,_,T9'⟩:=Wq I.ok.mod.kin q1
 rw [arm_exec_Raise]
 refine wpAny_bind (wpAny_standAt (JF (h:=e) (C:=C) (nm:=nm) (qn:=qn) (N:=N) (bs:=bs) (bm:=tl) (hdct:=hdct) (sn:=sn) (sub:=sub) (ab:=ab) (col:=col) (dd:=dd) (k0:=k0) (k1:=k1) (k2:=k2) (k3:=k3) (k5:=k5) (nid:=jb) (C':=C1) (nm':=nm') (qn':=qn') (N':=N') (bs':=bs') (bm':=tl') (hdct':=hdct') (sn':=sn') (sub':=sub') (ab':=ab') (col':=col') (dd':=dd') (k0':=k0') (k1':=k1') (k2':=k2') (k3':=k3') (k5':=k5') (nid':=jb)
  (T9.hasType PySem.F.excBase_ValueError.hasBase) (T9'.hasType PySem.F.excBase_ValueError.hasBase) rfl (wpAny_bind (wpAny_mono (wpAny_Call_ofName (vS (X:=X.sub e) I8.toSub hg hm ?_ hd)) (fun v s3 z=>wpAny_bind (wpAny_standAt (wpAny_pure z))) fun _ _ z=>z))))
 have hA:=ha e cpos pins s8 _ _ _ I8.toSub (hth e h11)
 have he':starEach [e₀] (X.sub e).env=[(false,eval e₀ (X.sub e).env)]:=he
 rw [he'] at hA
 unfold callWith
 rw [he]
 refine wpAny_bind (wpAny_holding (Calls.evalArgs_plain (wpAny_mono hA (fun us s2 ⟨vs2,H2,J2,r2,z2,z3,qE⟩=>wpAny_bind (wpAny_standAt ?_)) fun _ _ z=>False.elim z)))
 have hp':(backTo cpos [(false,eval e₀ X.env)]).any (·.1)=false:=by rw [← he];exact (by rw [he];exact hp)
 obtain ⟨hp2,gs,dr,tt,os⟩:=s2
 simp only [hp']
 refine wpAny_bind (wpAny_keeperOf_exc (J2.bk _ _ hC) ?_)
 refine wpAny_bind (wpAny_call_exc_subT (hrest:=by rw [List.nil_append,← r2.length];exact z2) PySem.F.excBase_ValueError (T9.keeps J2.bk) (J2.bk _ _ hC) (hNs.keeps J2.bk) hni fun h' e2 hmk=>wpAny_bind (wpAny_holding (wpAny_point (wpAny_pure ?_))))
 obtain ⟨t2,g2,_,_⟩:=hmk.there
 have h9':ObjOk X.prog X.w H2 hp2 e (exC e C1):=J2.hok e _ z3
 obtain ⟨⟨o9,vs9,p9,c9,d9,v9⟩,_⟩:=h9'
 have ne2:e≠e2:=fun z=>by rw [z] at p9;rw [hmk.new] at p9;cases p9
 have J0:Inv X pins (σ1.set i (some (.ref e))) H2 ⟨hp2,gs,dr,tt,os⟩:=Inv.ofSub (J:=I8) J2
 have J3:Inv X pins (σ1.set i (some (.ref e))) H2 ⟨h',gs,dr,tt,os⟩:=J0.kept (t':=tt) hmk.keeps
 have nH:∀ {b:Addr} {hq:Heap},HOk X.prog X.w H2 hq→hq.get? b=none→H2 b=none:=fun {b hq} k z=>by
  cases q:H2 b with
  | none=>rfl
  | some u =>
   obtain ⟨o,y⟩:=(k b u q).there
   rw [z] at y;cases y
 have n3:H2 e2=none:=nH J0.hok hmk.new
 have x0:X.s₀.heap.get? e2=none:=xc (J0.there0 hex) hmk.new
 have eL:e2≠X.env.locals:=fun z=>by
  obtain ⟨m,⟨o,_,_,ho,_⟩,_⟩:=J0.loc
  rw [← z] at ho;rw [hmk.new] at ho;cases ho
 have hcs2:∀ b∈[e2],H2 b=none∧X.s₀.heap.get? b=none:=fun b z=>by rw [List.mem_singleton.mp z];exact ⟨n3,x0⟩
 have hcp2:∀ b∈[e2],∀ p∈X.pn ++ pins,p.1≠b:=fun b z p hp w=>by
  rw [List.mem_singleton.mp z] at w
  have:=(J0.pin p hp).1
  rw [w,hmk.new] at this;cases this
 refine ⟨e2,t2,o9,vs9,rfl,hmk.keeps _ _ (J2.bk _ _ hC),hmk.keeps _ _ (J2.bk _ _ hC'),g2,ne2,hmk.keeps _ _ p9,c9,d9,v9,fun R hR=>?_,fun g z1 zk=>?_⟩
 ·obtain ⟨m,hn,hl3⟩:=J3.loc
  have hiσ:i < σ1.length:=by rw [I1.len];exact (List.getElem?_eq_some_iff.mp hi).1
  obtain ⟨u,r,l⟩:=hl3 i n (.ref e) hi (List.getElem?_set_self hiσ) (.inl hl)
  cases r
  rcases l with ⟨hk,hmm⟩ | ⟨hk,_⟩
  ·exact wpAny_bind (wpAny_Name (wpAny_loadName_local I.ok.kind hk hn hmm (wpAny_bind (wpAny_standAt (wpAny_pure hR)))) hdn)
  ·rcases hk with hk | hk
   ·exact absurd (hl.symm.trans hk) (by simp)
   ·exact absurd (hl.symm.trans hk) (by simp)
 have J4:Inv X pins (σ1.set i (some (.ref e))) H2 ⟨g,gs,dr,tt,os⟩:=J3.land hex hcs2 hcp2 (fun b o q _ n=>zk b o (fun w=>n (by rw [w];simp)) q) fun b o q n=>⟨o.slots,zk b o (fun w=>by rw [w] at q;rw [g2] at q;cases q;exact n _ rfl) q⟩
 have fr2:g.FunFrames (W.hideAll g (frs X.stack ++ [e2])) (X.env :: X.outer):=by
  have q:=W.funFrames_hide (as:=frs X.stack ++ [e2]) J4.stack fun env he a ha=>List.mem_append_left _ (List.mem_filterMap.mpr ⟨env,he,ha⟩)
  rw [hst.1] at q ⊢
  exact q
 refine zbs (s:=⟨g,gs,dr,tt,os⟩) (od:=false) (base:=W.hideAll g (frs X.stack ++ [e2])) (by show X.A.frames=_;rw [I.ok.frames,hst.1]) fr2 hst.2 z1 (fun b o q=>W.of_hideAll _ q) (W.hideAll_none _ (List.mem_append_right _ (by simp))) rfl rfl rfl (fun z=>nomatch z) fun g7 ⟨f1,f2,f4,hup⟩=>?_
 have J5:Inv X pins (σ1.set i (some (.ref e))) H2 ⟨g7,gs,dr,tt,os⟩:=J4.land hex hcs2 hcp2 (fun b o q n1 n2=>f1 b o (W.hideAll_get _ q fun z=>(List.mem_append.mp z).elim n1 n2)) hup
 obtain ⟨oe2,ws,T2,oT2,ts2,x1,x2,x3,x4,x5,x6,x7,x8,x9⟩:=f4
 have gT:g.get? T2=none:=by
  cases q:g.get? T2 with
  | none=>rfl
  | some o =>
   exfalso
   by_cases hb:T2∈frs X.stack
   ·obtain ⟨o',q',nf⟩:=J5.stackFields hb
    rw [x7] at q';cases q'
    exact nf _ x8
   ·rw [W.hideAll_get (frs X.stack ++ [e2]) q fun z=>(List.mem_append.mp z).elim hb fun w=>x6 (List.mem_singleton.mp w)] at x5
    cases x5
 have TH:H2 T2=none:=nH J4.hok gT
 have T0:X.s₀.heap.get? T2=none:=xc (J4.there0 hex) gT
 have TL:T2≠X.env.locals:=fun z=>by
  obtain ⟨m,⟨o,_,_,ho,_⟩,_⟩:=J4.loc
  rw [← z] at ho;rw [gT] at ho;cases ho
 have hcls:(X.env.scope.kind == .class || (X.env.scope.kind == .module && X.env.locals != X.env.globals))=false:=by rw [I.ok.kind];rfl
 obtain ⟨m,hm9,hl9⟩:=id J5.loc
 refine wpAny_nameGoes_keeps hl hm9 hcls fun h8 v a b=>?_
 have J6:=J5.forget (t':=tt + 1) hN hi hm9 hl9 a b
 have y1:h8.get? e2=some oe2:=(b.2 e2 eL).trans x1
 have y7:h8.get? T2=some oT2:=(b.2 T2 TL).trans x7
 have sz:3 < ts2.size:=(Array.getElem?_eq_some_iff.mp x9).1
 unfold PySem.passOn
 refine wpAny_bind (wpAny_field y1 x3 x4 ?_)
 rw [if_neg (by simp)]
 refine wpAny_bind ?_
 unfold setFlight
 refine wpAny_bind (wpAny_field y1 x3 x4 ?_)
 rw [if_pos (show (Value.ref T2 != Value.none)=true from by simp)]
 refine wpAny_setField y7 x8 sz (wpAny_throw ?_)
 refine ho e _ _ ?_
 have ot:∀ b,b≠T2→(h8.update T2 (Obj.mapFields (·.setIfInBounds 3 (X.env.frame.elim Value.none fun f=>rawInt f)))).get? b=h8.get? b:=fun b q=>Heap.get?_update_other _ _ (Ne.symm q)
 have J7:=J6.land (h2:=h8.update T2 (Obj.mapFields (·.setIfInBounds 3 (X.env.frame.elim Value.none fun f=>rawInt f)))) hex (cs:=[T2]) (fun b z=>by rw [List.mem_singleton.mp z];exact ⟨TH,T0⟩)
  (fun b z p hp w=>by
    rw [List.mem_singleton.mp z] at w
    have:=(J4.pin p hp).1
    rw [w,gT] at this;cases this)
  (fun b o q _ n=>(ot b fun w=>n (by rw [w];simp)).trans q) fun b o q n=>⟨o.slots,(ot b fun w=>by rw [w] at q;rw [y7] at q;cases q;exact n _ x8).trans q⟩
 exact hx pins _ H2 _ e2 oe2 ws _ (rawInt X.env.locals) T2 _ _ J7 ((ot e2 (Ne.symm x6)).trans y1) x3 x2.1.2 x4 x6 (Heap.get?_update_self _ y7 (Obj.isFreed_of_fields (Obj.data_mapFields x8 _))) (Obj.data_mapFields x8 _) (by rw [hst.2];simp [sz]) x0 T0 n3 TH (by rw [x2.1.1];exact qE)
end
end L2
namespace L2
open PySem PySem.Spec PyProof.Rows
def PXC (Y:Cx) (E:XK):Value→Shared→Prop:=fun ev s'=>∃ e cls pins σ s1 H1 H',ev=.ref e∧Inv Y pins σ H1 s1∧Inv Y pins σ H' s'∧XF s1.heap s'.heap H' e cls∧E cls none H'
abbrev Cx.compX (X:Cx) (scope:Scope) (cl:List (Str × Addr)) (C:Addr) (N:List Str) (fp:List Addr) (s:Shared) (H:Hp) (E:XK):Cx:=(X.comp scope cl C N fp s H).wish (PXC (X.comp scope cl C N fp s H) E)
theorem zeE {P:Program} {w:World} {X:Cx} {scope:Scope} {cl:List (Str × Addr)} {C:Addr} {N:List Str} {fp:List Addr} {s:Shared} {H:Hp} {E:XK} (hP:X.prog=P:=by rfl) (hw:X.w=w:=by rfl):Z9 (CX1 P w) (X.compX scope cl C N fp s H E) E:=by
 subst hP hw
 intro pins σ H1 s1 ev s' I hcx
 obtain ⟨e,cls,H',rfl,os,bare,un,hok,xf,hE⟩:=hcx
 have I1:Inv (X.comp scope cl C N fp s H) pins σ H1 s1:=I.unwish
 exact ⟨e,cls,pins,σ,s1,H1,H',rfl,I1,I1.call' (ch:=[]) os un hok bare (fun b z=>nomatch z),xf,hE⟩
theorem Y9 {x:Value} {env env':Env} (h:env.frame=env'.frame):noteFrame x env=noteFrame x env':=by
 unfold noteFrame PySem.frameOf
 rw [h]
theorem thF {α:Type} {M:Model} {A:Around} {m:Sem α} {Q R:α→Shared→Prop} {E:Value→Shared→Prop} {s:Shared} (h:wpAny M A m Q (fun _ _=>False) s) (k:∀ a s',Q a s'→R a s'):wpAny M A m R E s:=wpAny_mono h k fun _ _ z=>z.elim
section
variable {X:Cx} {elt iter tg:Expr} {ifs:List Expr} {scope:Scope} {pos:Pos} {cl:List (Str × Addr)} {ix:List Nat} {xs:List Str} {wi:TI} {g:TG} {tt:TT} {te:TE}
theorem VM {E:XK} (hst:X.stack=X.env :: X.outer∧X.env.frame=some X.env.locals) (hex:X.ex=[]) (S:jy X scope cl ix) (hc:X.calm=true) (hi:PI X tg iter wi)
  (hg:∀ C fp s H,PG (X.comp scope cl C (xs ++ xy ix X.N) fp s H) tg g) (ht:∀ C fp s H,PTs (X.comp scope cl C (xs ++ xy ix X.N) fp s H) ifs tt)
  (he:∀ C fp s H,PE (X.compX scope cl C (xs ++ xy ix X.N) fp s H E) elt te)
  {pins:List (Addr × Obj)} {s:Shared} {σ:St} {H:Hp} {Q:VK} (I:Inv X pins σ H s) (h:y6 wi g tt te xs.length ix σ H Q) {RR:Value→Addr→Result→Shared→Prop}
  (hR:∀ v u s' C,RelV v u→(∃ H',Q v H'∧(∃ m,s'.heap.Ns C m)∧(∀ h',Heap.SameBut C s'.heap h'→Inv X pins σ H' { s' with heap:=h' })∧jK X pins H' C)→RR u C (.ok .next) s')
  (hX:∀ u e cls s1 s' C H1 H',(∃ m,s1.heap.Ns C m)→(∃ m,s'.heap.Ns C m)→Inv X pins σ H1 s1→Inv X pins σ H' s'→jK X pins H' C→XF s1.heap s'.heap H' e cls→E cls none H'→wpAny (model X.prog X.w) X.A (noteFrame (.ref e) X.env) (fun _ s2=>RR u C (.error (.ref e)) s2) (fun x s2=>RR u C (.error x) s2) s') :
  wpAny (model X.prog X.w) X.A (eval iter X.env) (fun x s₁=>wpAny (model X.prog X.w) X.A (pyIter x) (fun it s₂=>wpAny (model X.prog X.w) X.A (newList []) (fun acc s₃ =>
   wpAny (model X.prog X.w) X.A (newFunctionEnv scope X.env.globals cl [] X.env.qual none .none (some X.env)) (fun cenv s₄ =>
    codeAny (model X.prog X.w) X.A (.compStart (.ListComp elt [⟨tg,iter,ifs,0⟩] scope pos) 0 it acc { cenv with scope:=relabel scope X.env }) (RR acc cenv.locals) s₄) X.xe s₃) X.xe s₂) X.xe s₁) X.xe s:=by
 refine thn (hi pins s σ H _ I h) fun v s1 h1=>thn h1 fun itv s2 h2=>?_
 obtain ⟨it,fp,tn,J,H2,e,I2,T,st2,f2,hW⟩:=h2
 subst e
 refine wpAny_newObj_type (wpAny_newFunctionEnv S.nocell (fun y hy=>nomatch hy) (fun h₁ hns₁ hsb₁=>?_) S.kind)
 dsimp only at hns₁ hsb₁ ⊢
 obtain ⟨W,⟨m0,w0⟩,turn⟩:=hW s2.heap.objs.size I2.fresh
 have I3:=I2.lnew (t':=s2.toks) (ys:=[]) (its:=[]) .nil (Nat.zero_le _)
 have hl3:∀ b∈fp,b < s2.heap.objs.size:=fun b hb=>by
  obtain ⟨o,e,_⟩:=T.obj _ _ st2 b hb
  exact Heap.lt_size e
 generalize hs3:({ s2 with heap:=s2.heap.push { cls:=.type "list",data:=.seq ([]:List Value).toArray },toks:=s2.toks }:Shared)=s3 at I3
 have hs3h:s3.heap=s2.heap.push { cls:=.type "list",data:=.seq ([]:List Value).toArray }:=by rw [← hs3]
 have hsz:s3.heap.objs.size=s2.heap.objs.size + 1:=by rw [hs3h,Heap.size_push]
 have f3:∀ b∈fp,jK X pins (upd H2 s2.heap.objs.size (.lst [])) b:=fun b hb=>by
  obtain ⟨q0,q⟩:=f2 b hb
  exact ⟨by rw [yb (Nat.ne_of_lt (hl3 b hb))];exact q0,q⟩
 have hl3':∀ b∈fp,b < s3.heap.objs.size:=fun b hb=>by rw [hsz];exact Nat.lt_succ_of_lt (hl3 b hb)
 rw [← hs3h] at hns₁ hsb₁ ⊢
 have hk:∀ b o,s3.heap.get? b=some o→h₁.get? b=some o:=fun b o e=>(hsb₁.2 b (Nat.ne_of_lt (Heap.lt_size e))).trans (Heap.get?_push_of_some _ e)
 have hk2:∀ b o,s2.heap.get? b=some o→s3.heap.get? b=some o:=fun b o e=>by rw [hs3h];exact Heap.get?_push_of_some _ e
 have J0:=I3.comp (xs:=xs) (t':=s2.toks) (C:=s3.heap.objs.size) S rfl f3 hl3' hns₁ hk
 have st3:tn 0 h₁:=T.keep _ _ _ st2 fun b _ o e=>hk b o (hk2 b o e)
 have loop:∀ tk,codeAny (model X.prog X.w) X.A (.compLoop (.ListComp elt [⟨tg,iter,ifs,0⟩] scope pos) 0 (.ref it) (.ref s2.heap.objs.size) (compEnvC scope cl s3.heap.objs.size X.env))
   (RR (.ref s2.heap.objs.size) s3.heap.objs.size) { s3 with heap:=h₁,toks:=tk }:=by
  intro tk
  refine qW (EE:=PXC (X.comp scope cl s3.heap.objs.size (xs ++ xy ix X.N) fp s3 (upd H2 s2.heap.objs.size (.lst []))) E) (fun n s'=>∃ i ys τ H',Inv (X.comp scope cl s3.heap.objs.size (xs ++ xy ix X.N) fp s3 (upd H2 s2.heap.objs.size (.lst []))) [] τ H' s'∧tn i s'.heap∧(∀ b∈fp,H' b=none)∧W i n ys τ H')
   (fun ev s' z=>?_) ?_ m0 ⟨0,[],_,_,J0.tok tk,st3,fun b hb=>(f3 b hb).1,w0⟩
  ·obtain ⟨e,cls,pl,τ,s1',H1,H',rfl,K1,K2,xf,hE⟩:=z
   have K1':=K1.pins_of (pins':=[]) fun p hp=>nomatch hp
   have K2':=K2.pins_of (pins':=[]) fun p hp=>nomatch hp
   have L1:=I3.uncomp rfl f3 K1' (.refl ..)
   have L2:=I3.uncomp rfl f3 K2' (.refl ..)
   unfold notedBy
   rw [Y9 (env:=compEnvC scope cl s3.heap.objs.size X.env) (env':=X.env) rfl]
   obtain ⟨m,hn,_⟩:=K2'.loc
   obtain ⟨m1,hn1,_⟩:=K1'.loc
   exact hX _ e cls s1' s' _ H1 H' ⟨m1,hn1⟩ ⟨m,hn⟩ L1 L2 (I3.fpOk (Nat.le_refl _) K2'.free) xf hE
  rintro n s' ⟨i,ys,τ,H',I',st',fr',w'⟩
  have stat:∀ {H':Hp},(∀ b∈fp,H' b=none)→∀ b∈fp,jK (X.comp scope cl s3.heap.objs.size (xs ++ xy ix X.N) fp s3 (upd H2 s2.heap.objs.size (.lst []))) [] H' b:=fun hn b hb =>
   ⟨hn b hb,(I'.ok.exf b hb).1,I'.ok.exfs b hb,.inl hb,(I'.ok.exf b hb).2,fun p hp=>absurd (show p∈([]:List (Addr × Obj)) from hp) (by simp)⟩
  obtain ⟨hD,⟨stop,q⟩ | ⟨go,hz,N,hN,Nf,hNf,step⟩⟩:=turn i n ys τ H' w'
  ·refine thF (T.done (X.comp scope cl s3.heap.objs.size (xs ++ xy ix X.N) fp s3 (upd H2 s2.heap.objs.size (.lst []))) rfl rfl rfl hc i [] s' τ H' _ I' (stat fr') st' stop) fun r s4 ⟨hr,I4⟩=>?_
   subst hr
   refine hR (.ref s2.heap.objs.size) _ s4 _ rfl ⟨H',q,?_,fun h' hb=>I3.uncomp rfl f3 I4 hb,I3.fpOk (Nat.le_refl _) I4.free⟩
   obtain ⟨m,hn,_⟩:=I4.loc
   exact ⟨m,hn⟩
  ·refine thF (T.item (X.comp scope cl s3.heap.objs.size (xs ++ xy ix X.N) fp s3 (upd H2 s2.heap.objs.size (.lst []))) rfl rfl rfl hc i [] s' τ H' _ I' (stat fr') st' go) fun r s4 ⟨u,hr,h4⟩=>?_
   subst hr
   refine thF h4 fun _ s5 ⟨x,H5,I5,r5,y5,st5,fr5⟩=>?_
   have I5':=I5.pinned (stat fr5) (T.obj _ _ st5)
   refine thF (hg _ _ _ _ _ s5 τ H5 x u _ I5' r5 (step x H5 y5)) fun _ s6 ⟨τ6,H6,I6,q6⟩=>?_
   refine thF (ht _ _ _ _ _ s6 τ6 H6 _ I6 q6) fun ok s7 ⟨H7,I7,q7⟩=>?_
   have back:∀ {s8:Shared} {H8:Hp} {m:Nat} {zs:List V},Inv (X.comp scope cl s3.heap.objs.size (xs ++ xy ix X.N) fp s3 (upd H2 s2.heap.objs.size (.lst []))) ([] ++ Zu fp s5.heap) τ6 H8 s8→W (i + 1) m zs τ6 H8 →
     ∃ i ys τ H',Inv (X.comp scope cl s3.heap.objs.size (xs ++ xy ix X.N) fp s3 (upd H2 s2.heap.objs.size (.lst []))) [] τ H' s8∧tn i s8.heap∧(∀ b∈fp,H' b=none)∧W i m ys τ H':=fun {s8 H8 m zs} I8 w8=>by
    refine ⟨i + 1,zs,τ6,H8,I8.unpinned,T.keep _ _ _ st5 fun b hb o e=>(I8.pin (b,o) (List.mem_append_right _ (List.mem_append_right _ (wu hb e)))).1,fun b hb=>?_,w8⟩
    obtain ⟨o,e,d⟩:=T.obj _ _ st5 b hb
    exact (I8.pin (b,o) (List.mem_append_right _ (List.mem_append_right _ (wu hb e)))).2.1
   cases ok with
   | false =>
    rw [if_neg Bool.false_ne_true] at q7 ⊢
    obtain ⟨m',hm,w7⟩:=hNf _ _ q7
    exact ⟨m',hm,back I7 w7⟩
   | true =>
    rw [if_pos rfl] at q7 ⊢
    refine thn (he _ _ _ _ _ s7 τ6 H7 _ (I7.wish _) q7) fun y s8 ⟨v8,H8,I8',r8,n8⟩=>?_
    have I8:=I8'.unwish
    obtain ⟨hD8,m',hm,w8⟩:=hN _ _ _ n8
    refine thF (kW _ s8 τ6 H8 (.ref s2.heap.objs.size) [v8] (.ref s2.heap.objs.size) [y] (fun _ Hn=>∃ m,m < n∧W (i + 1) m (ys ++ [v8]) τ6 Hn) I8 rfl (.cons r8 .nil) ⟨_,ys,v8,rfl,rfl,hD8,hz,m',hm,w8⟩) fun _ s9 ⟨_,H9,I9,_,m9,hm9,w9⟩=>?_
    exact ⟨m9,hm9,back I9 w9⟩
 have e3:∀ tk,({ s3 with heap:=h₁,toks:=tk }:Shared)={ s2 with heap:=h₁,toks:=tk }:=fun tk=>by rw [← hs3]
 have loop':∀ tk,codeAny (model X.prog X.w) X.A (.compLoop (.ListComp elt [⟨tg,iter,ifs,0⟩] scope pos) 0 (.ref it) (.ref s2.heap.objs.size) (compEnvC scope cl s3.heap.objs.size X.env))
   (RR (.ref s2.heap.objs.size) s3.heap.objs.size) { s2 with heap:=h₁,toks:=tk }:=fun tk=>by rw [← e3];exact loop tk
 exact codeAny_compStart_list (loop' _) (T.self _ 0 _ _ _ st3 (loop' _))
theorem zbv {E:XK} {osc:Scope} {N:List Str} (hst:X.stack=X.env :: X.outer∧X.env.frame=some X.env.locals) (hex:X.ex=[]) (hr:WD X E) (hc:X.calm=true) (hD:W9 osc N scope ix=true) (hi:PI X tg iter wi)
  (hg:∀ C fp s H,PG (X.comp scope (vC scope X.env) C (xs ++ xy ix X.N) fp s H) tg g) (ht:∀ C fp s H,PTs (X.comp scope (vC scope X.env) C (xs ++ xy ix X.N) fp s H) ifs tt)
  (he:∀ C fp s H,PE (X.compX scope (vC scope X.env) C (xs ++ xy ix X.N) fp s H E) elt te) (hsc:X.env.scope=osc:=by rfl) (hN:X.N=N:=by rfl) (hs:∀ x,foldedSetIterable iter X.env x=pure x:=by intro _;rfl) :
  PE X (.ListComp elt [⟨tg,iter,ifs,0⟩] scope pos) (y6 wi g tt te xs.length ix):=by
 intro pins s σ H Q I h
 have S:=jQ I.ok hD hsc hN
 rw [eval_ListComp]
 refine wpAny_comprehension_free (use:=none) rfl hs S.clos S.kind S.names (VM hst hex S hc hi hg ht he I h (RR:=fun acc C=>compPost (model X.prog X.w) X.A X.xe none (EP X pins σ Q) acc C) ?_ ?_)
 ·rintro v u s' C r ⟨H',q,⟨m,hn⟩,hI,_⟩
  exact ⟨m,hn,fun h' hb=>⟨v,H',hI h' hb,r,q⟩⟩
 rintro u e cls s1 s' C H1 H' ⟨m1,o1,_,_,hC1,_⟩ ⟨m,hn⟩ J1 J ⟨c0,c1,c2,c3,c4,c5⟩ xf hE
 obtain ⟨oe,vs,a0,T,oT,ts,h1,h2,h3,h4,h5,h6,h7,h8,h9,h10,h11,h12⟩:=xf
 have two:∀ b∈[e,T],s1.heap.get? b=none∧H' b=none:=fun b z=>by
  have z':b=e∨b=T:=by simpa using z
  rcases z' with rfl | rfl
  ·exact ⟨h9,h11⟩
  ·exact ⟨h10,h12⟩
 have hcs:∀ b∈[e,T],H' b=none∧X.s₀.heap.get? b=none:=fun b z=>⟨(two b z).2,xc (J1.there0 hex) (two b z).1⟩
 have hcp:∀ b∈[e,T],∀ p∈X.pn ++ pins,p.1≠b:=fun b z p hp q=>by
  have:=(J1.pin p hp).1
  rw [q,(two b z).1] at this;cases this
 have hcC:∀ b∈[e,T],b≠C:=fun b z q=>by
  have:=(two b z).1
  rw [q,hC1] at this;cases this
 have fr:s'.heap.FunFrames (W.hideAll s'.heap (frs X.stack ++ [e,T])) (X.env :: X.outer):=by
  have q:=W.funFrames_hide (as:=frs X.stack ++ [e,T]) J.stack fun env he a ha=>List.mem_append_left _ (List.mem_filterMap.mpr ⟨env,he,ha⟩)
  rw [hst.1] at q ⊢
  exact q
 refine JE (fv:=.none) (od:=false) (by simp [rawInt]) (base:=W.hideAll s'.heap (frs X.stack ++ [e,T])) (by rw [J.ok.frames,hst.1]) fr hst.2 ⟨oe,vs,T,oT,ts,h1,⟨h2,fun z=>nomatch z⟩,h3,h4,W.hideAll_none _ (List.mem_append_right _ (by simp)),h5,h6,h7,h8⟩ (fun b o q=>W.of_hideAll _ q) (W.hideAll_none _ (List.mem_append_right _ (by simp))) fun g7 ⟨f1,f2,f4,hup⟩=>?_
 have J5:Inv X pins σ H' { s' with heap:=g7 }:=J.land hex hcs hcp (fun b o q n1 n2=>f1 b o (W.hideAll_get _ q fun z=>(List.mem_append.mp z).elim n1 n2)) hup
 obtain ⟨oe2,ws,T2,oT2,ts2,x1,x2,x3,x4,x5,x6,x7,x8,x9⟩:=f4
 have sz:3 < ts2.size:=(Array.getElem?_eq_some_iff.mp x9).1
 have gT:T2=T∨s'.heap.get? T2=none:=by
  by_cases hT:T2=T
  ·exact .inl hT
  ·refine .inr ?_
   cases q:s'.heap.get? T2 with
   | none=>rfl
   | some o =>
    exfalso
    by_cases hb:T2∈frs X.stack
    ·obtain ⟨o',q',nf⟩:=J5.stackFields hb
     rw [x7] at q';cases q'
     exact nf _ x8
    ·rw [W.hideAll_get (frs X.stack ++ [e,T]) q fun z=>(List.mem_append.mp z).elim hb fun w=>by
      have z':T2=e∨T2=T:=by simpa using w
      exact z'.elim x6 hT] at x5
     cases x5
 have fT:H' T2=none∧X.s₀.heap.get? T2=none∧T2≠C∧∀ p∈X.pn ++ pins,p.1≠T2:=by
  rcases gT with rfl | gT
  ·exact ⟨h12,(hcs _ (by simp)).2,hcC _ (by simp),hcp _ (by simp)⟩
  ·refine ⟨?_,xc (J.there0 hex) gT,fun z=>?_,fun p hp z=>?_⟩
   ·cases q:H' T2 with
    | none=>rfl
    | some u =>
     obtain ⟨o,y⟩:=(J.hok T2 u q).there
     rw [gT] at y;cases y
   ·obtain ⟨o,_,_,ho,_⟩:=hn
    rw [← z,gT] at ho;cases ho
   ·have:=(J.pin p hp).1
    rw [z,gT] at this;cases this
 refine ⟨m,hup.ns hn,fun h' hb cenv hce=>?_⟩
 have J6:Inv X pins σ H' { s' with heap:=h' }:=J5.turned (t':=s'.toks) (fun b o hne q=>(hb.2 b hne).trans q) c0 c1 c3 c4 c5
 have y1:h'.get? e=some oe2:=(hb.2 e (hcC e (by simp))).trans x1
 have y7:h'.get? T2=some oT2:=(hb.2 T2 fT.2.2.1).trans x7
 unfold PySem.passOn
 refine wpAny_bind (wpAny_field y1 x3 x4 ?_)
 rw [if_neg (by simp)]
 refine wpAny_bind ?_
 unfold setFlight
 refine wpAny_bind (wpAny_field y1 x3 x4 ?_)
 rw [if_pos (show (Value.ref T2 != Value.none)=true from by simp)]
 refine wpAny_setField y7 x8 sz (wpAny_throw ?_)
 generalize hfl:(cenv.frame.elim Value.none fun f=>rawInt f)=fl
 have ot:∀ b,b≠T2→(h'.update T2 (Obj.mapFields (·.setIfInBounds 3 fl))).get? b=h'.get? b:=fun b q=>Heap.get?_update_other _ _ (Ne.symm q)
 have J7:=J6.land (h2:=h'.update T2 (Obj.mapFields (·.setIfInBounds 3 fl))) hex (cs:=[T2]) (fun b z=>by rw [List.mem_singleton.mp z];exact ⟨fT.1,fT.2.1⟩)
  (fun b z p hp=>by rw [List.mem_singleton.mp z];exact fT.2.2.2 p hp)
  (fun b o q _ n=>(ot b fun w=>n (by rw [w];simp)).trans q) fun b o q n=>⟨o.slots,(ot b fun w=>by rw [w] at q;rw [y7] at q;cases q;exact n _ x8).trans q⟩
 exact hr pins _ H' _ e oe2 ws _ fl T2 _ _ J7 ((ot e (Ne.symm x6)).trans y1) x3 x2.1.2 x4 x6 (Heap.get?_update_self _ y7 (Obj.isFreed_of_fields (Obj.data_mapFields x8 _))) (Obj.data_mapFields x8 _) (by simp [sz]) (hcs e (by simp)).2 fT.2.1 h11 fT.1 (by rw [x2.1.1];exact hE)
end
end L2
namespace K63
open PySem L2
theorem jqa {α:Type} {a:α} {l m:List α}:a :: l ++ m=a :: (l ++ m):=rfl
theorem jqb {α:Type} (l:List α):[] ++ l=l:=rfl
theorem jqc {α:Type} (l:List α):l ++ []=l:=List.append_nil l
theorem jqd {α:Type} {a:α} {l:List α}:(a :: l)[0]?=some a:=rfl
theorem jqe {α:Type} {a:α} {l:List α} {i:Nat}:(a :: l)[i + 1]?=l[i]?:=rfl
theorem jqf {α:Type} (a b:α):(some a=some b)=(a=b):=Option.some.injEq a b
theorem jqg {α:Sort _} {p:α→Prop} {a:α}:(∃ x,a=x∧p x)↔p a:=exists_eq_left'
theorem jqh {α:Sort _} {p:α→Prop} {a:α}:(∃ x,x=a∧p x)↔p a:=exists_eq_left
theorem jqi (a b:Int):(V.int a=V.int b)=(a=b):=V.int.injEq a b
theorem jqj (a b:Addr):(V.ref a=V.ref b)=(a=b):=V.ref.injEq a b
theorem jqk (a b:Str):(V.str a=V.str b)=(a=b):=V.str.injEq a b
theorem jql (a b:Bool):(V.bl a=V.bl b)=(a=b):=V.bl.injEq a b
theorem jqm (a b:String):(V.ty a=V.ty b)=(a=b):=V.ty.injEq a b
theorem jqn {α:Type} (a:α) (l:List α) (b:α) (m:List α):(a :: l=b :: m)=(a=b∧l=m):=List.cons.injEq a l b m
theorem jqo {α:Sort _} {p:α→Prop} {b:Prop}:(∃ x,b∧p x)↔b∧(∃ x,p x):=exists_and_left
theorem jqp {α:Type} {x:α} {l:List α} {a:α}:(x :: l).set 0 a=a :: l:=rfl
theorem jqq {α:Type} {x:α} {l:List α} {i:Nat} {a:α}:(x :: l).set (i + 1) a=x :: l.set i a:=rfl
theorem jqr {p:Prop} [Decidable p]:(decide p=true)=p:=decide_eq_true_eq
theorem jqs (b:Bool):((!b)=true)=(b=false):=Bool.not_eq_true' b
theorem jqt {p:Prop} {_:Decidable p}:decide p=false↔¬p:=decide_eq_false_iff_not
theorem jqu:(false=true)=False:=Bool.false_eq_true
def top (i:Nat):Stmt:=PySem.Challenge.pw_forerun_k63_no_line.main.body.getD i (.Pass ⟨0,0,0,0⟩)
abbrev xr:Stmt:=top 42
abbrev xt:Stmt:=top 43
abbrev xI:Stmt:=top 44
abbrev xJ:Stmt:=top 45
abbrev yV:Stmt:=top 47
abbrev wy:Stmt:=top 25
abbrev wz:Stmt:=top 34
abbrev wA:Stmt:=top 15
abbrev yW:Stmt:=top 17
abbrev vy:Stmt:=top 16
abbrev xu:Stmt:=top 18
abbrev wC:Stmt:=top 19
abbrev xK:Stmt:=top 32
abbrev wD:Stmt:=top 36
abbrev yX:Stmt:=top 35
abbrev vz:Stmt:=top 33
abbrev vA:Stmt:=top 37
abbrev wE:Stmt:=top 38
abbrev xE:Stmt:=top 31
abbrev vB:Stmt:=top 39
abbrev xL:Stmt:=top 40
abbrev yQ:Stmt:=top 53
abbrev yw:Stmt:=top 52
abbrev wF:Stmt:=top 48
abbrev yR:Stmt:=top 49
abbrev xv:Stmt:=top 50
abbrev xg:Stmt:=top 51
abbrev xw:Stmt:=top 46
abbrev X9:Stmt:=top 54
theorem sc__law_drawn:zV ["cell","many","low","high","found","k"] ["cell","many"] (zq xr):=⟨rfl,rfl,rfl,by decide +kernel,rfl,by decide +kernel,by decide +kernel⟩
theorem sc__law_worth:zV ["cell","rest"] ["cell"] (zq xt):=⟨rfl,rfl,rfl,by decide +kernel,rfl,by decide +kernel,by decide +kernel⟩
theorem WE:zV ["cell"] ["cell"] (zq xI):=⟨rfl,rfl,rfl,by decide +kernel,rfl,by decide +kernel,by decide +kernel⟩
theorem sc__law_name:zV ["cell","letters","words","xs","name","k"] ["cell"] (zq xJ):=⟨rfl,rfl,rfl,by decide +kernel,rfl,by decide +kernel,by decide +kernel⟩
theorem sc__law_words:zV ["cell","xs","head","worths","k","worth","place"] ["cell"] (zq yV):=⟨rfl,rfl,rfl,by decide +kernel,rfl,by decide +kernel,by decide +kernel⟩
theorem JI:zV ["text"] ["text"] (zq wy):=⟨rfl,rfl,rfl,by decide +kernel,rfl,by decide +kernel,by decide +kernel⟩
theorem VN:zV ["word"] ["word"] (zq wz):=⟨rfl,rfl,rfl,by decide +kernel,rfl,by decide +kernel,by decide +kernel⟩
theorem VO:zV ["thing"] ["thing"] (zq wA):=⟨rfl,rfl,rfl,by decide +kernel,rfl,by decide +kernel,by decide +kernel⟩
theorem Xa:zV ["text"] ["text"] (zq yW):=⟨rfl,rfl,rfl,by decide +kernel,rfl,by decide +kernel,by decide +kernel⟩
theorem JJ:zV ["worth"] ["worth"] (zq vy):=⟨rfl,rfl,rfl,by decide +kernel,rfl,by decide +kernel,by decide +kernel⟩
theorem sc_is_numeral:zV ["text","figures","worth"] ["text"] (zq xu):=⟨rfl,rfl,rfl,by decide +kernel,rfl,by decide +kernel,by decide +kernel⟩
theorem VP:zV ["text"] ["text"] (zq wC):=⟨rfl,rfl,rfl,by decide +kernel,rfl,by decide +kernel,by decide +kernel⟩
theorem sc_number_in:zV ["word","refusal"] ["word"] (zq xK):=⟨rfl,rfl,rfl,by decide +kernel,rfl,by decide +kernel,by decide +kernel⟩
theorem sc_rows_in:zV ["words","rows","at","place","places"] ["words"] (zq wD):=⟨rfl,rfl,rfl,by decide +kernel,rfl,by decide +kernel,by decide +kernel⟩
theorem Xb:zV ["words"] ["words"] (zq yX):=⟨rfl,rfl,rfl,by decide +kernel,rfl,by decide +kernel,by decide +kernel⟩
theorem sc_rank_in:zV ["word","rank"] ["word"] (zq vz):=⟨rfl,rfl,rfl,by decide +kernel,rfl,by decide +kernel,by decide +kernel⟩
theorem sc_deal_in:zV ["words","rows","outcome"] ["words","rows"] (zq vA):=⟨rfl,rfl,rfl,by decide +kernel,rfl,by decide +kernel,by decide +kernel⟩
theorem JK:zV ["words","rows"] ["words","rows"] (zq wE):=⟨rfl,rfl,rfl,by decide +kernel,rfl,by decide +kernel,by decide +kernel⟩
theorem sc_check_of:zV ["body","total"] ["body"] (zq xE):=⟨rfl,rfl,rfl,by decide +kernel,rfl,by decide +kernel,by decide +kernel⟩
theorem sc_body_in:zV ["text","parts"] ["text"] (zq vB):=⟨rfl,rfl,rfl,by decide +kernel,rfl,by decide +kernel,by decide +kernel⟩
theorem sc_line_read:zV ["text","words","at","rows"] ["text"] (zq xL):=⟨rfl,rfl,rfl,by decide +kernel,rfl,by decide +kernel,by decide +kernel⟩
theorem sc__law_refused:zV ["text","right","other","another","e"] ["text"] (zq yQ):=⟨rfl,rfl,rfl,by decide +kernel,rfl,by decide +kernel,by decide +kernel⟩
theorem sc__law_other_check:zV ["check","xs","signs","which","at"] ["check","xs"] (zq yw):=⟨rfl,rfl,rfl,by decide +kernel,rfl,by decide +kernel,by decide +kernel⟩
theorem sc__law_odd:zV ["cell","some"] ["cell"] (zq wF):=⟨rfl,rfl,rfl,by decide +kernel,rfl,by decide +kernel,by decide +kernel⟩
theorem sc__law_odd_put:zV ["words","xs","at","both"] ["words","xs"] (zq yR):=⟨rfl,rfl,rfl,by decide +kernel,rfl,by decide +kernel,by decide +kernel⟩
theorem sc__law_short:zV ["words","xs","at"] ["words","xs"] (zq xv):=⟨rfl,rfl,rfl,by decide +kernel,rfl,by decide +kernel,by decide +kernel⟩
theorem sc__law_spoilt:zV ["words","kind","xs","behind","many","at","turned"] ["words","kind","xs"] (zq xg):=⟨rfl,rfl,rfl,by decide +kernel,rfl,by decide +kernel,by decide +kernel⟩
theorem sc__law_check:zV ["body","total","weight","sign","figures"] ["body"] (zq xw):=⟨rfl,rfl,rfl,by decide +kernel,rfl,by decide +kernel,by decide +kernel⟩
theorem sc_law:zV ["script","text","k","words","xs","good","kind","body","found"] ["script"] (zq X9):=⟨rfl,rfl,rfl,by decide +kernel,rfl,by decide +kernel,by decide +kernel⟩
set_option genSizeOf false in
set_option genInjectivity false in
structure Adr where
 a__law_drawn:Addr
 d__law_drawn:FuncData
 a__law_worth:Addr
 d__law_worth:FuncData
 a__law_rank:Addr
 d__law_rank:FuncData
 a__law_name:Addr
 d__law_name:FuncData
 a__law_words:Addr
 d__law_words:FuncData
 a_is_name:Addr
 d_is_name:FuncData
 a_shelf_in:Addr
 d_shelf_in:FuncData
 a_is_worth:Addr
 d_is_worth:FuncData
 a_is_figures:Addr
 d_is_figures:FuncData
 a_numeral:Addr
 d_numeral:FuncData
 a_is_numeral:Addr
 d_is_numeral:FuncData
 a_worth_in:Addr
 d_worth_in:FuncData
 a_number_in:Addr
 d_number_in:FuncData
 a_rows_in:Addr
 d_rows_in:FuncData
 a_outcome_in:Addr
 d_outcome_in:FuncData
 a_rank_in:Addr
 d_rank_in:FuncData
 a_deal_in:Addr
 d_deal_in:FuncData
 a_mark_in:Addr
 d_mark_in:FuncData
 a_check_of:Addr
 d_check_of:FuncData
 a_body_in:Addr
 d_body_in:FuncData
 a_line_read:Addr
 d_line_read:FuncData
 a__law_refused:Addr
 d__law_refused:FuncData
 a__law_other_check:Addr
 d__law_other_check:FuncData
 a__law_odd:Addr
 d__law_odd:FuncData
 a__law_odd_put:Addr
 d__law_odd_put:FuncData
 a__law_short:Addr
 d__law_short:FuncData
 a__law_spoilt:Addr
 d__law_spoilt:FuncData
 a__law_check:Addr
 d__law_check:FuncData
 a_law:Addr
 d_law:FuncData
 k_CHECK_BY:Tok
 k_CHECK_FIGURES:Tok
 k_FIGURES:Tok
 c_JOINING:Addr
 k_LETTERS:Tok
 k_MOST_FACTOR:Tok
 k_MOST_FIGURES:Tok
 k_MOST_LETTERS:Tok
 c_ROW_WORDS:Addr
 c_WHYS:Addr
 c_Folded:Addr
 c_ForerunError:Addr
 c_Great:Addr
 c_NoDealing:Addr
 c_NoHand:Addr
 c_NoLine:Addr
 c_NoLog:Addr
 c_NoNumber:Addr
 c_NoOrder:Addr
 c_NoTerm:Addr
 c_Nought:Addr
structure Txt (K:W.Frag) (mg:Str→Option Value) (t:Adr):Prop where
 f__law_drawn:Fun K "_law_drawn" "_law_drawn" xr t.a__law_drawn t.d__law_drawn
 b__law_drawn:Binds K t.d__law_drawn ["cell","many"] []
 m__law_drawn:mg "_law_drawn"=some (.ref t.a__law_drawn)
 f__law_worth:Fun K "_law_worth" "_law_worth" xt t.a__law_worth t.d__law_worth
 b__law_worth:Binds K t.d__law_worth ["cell"] []
 m__law_worth:mg "_law_worth"=some (.ref t.a__law_worth)
 f__law_rank:Fun K "_law_rank" "_law_rank" xI t.a__law_rank t.d__law_rank
 b__law_rank:Binds K t.d__law_rank ["cell"] []
 m__law_rank:mg "_law_rank"=some (.ref t.a__law_rank)
 f__law_name:Fun K "_law_name" "_law_name" xJ t.a__law_name t.d__law_name
 b__law_name:Binds K t.d__law_name ["cell"] []
 m__law_name:mg "_law_name"=some (.ref t.a__law_name)
 f__law_words:Fun K "_law_words" "_law_words" yV t.a__law_words t.d__law_words
 b__law_words:Binds K t.d__law_words ["cell"] []
 m__law_words:mg "_law_words"=some (.ref t.a__law_words)
 f_is_name:Fun K "is_name" "is_name" wy t.a_is_name t.d_is_name
 b_is_name:Binds K t.d_is_name ["text"] []
 m_is_name:mg "is_name"=some (.ref t.a_is_name)
 f_shelf_in:Fun K "shelf_in" "shelf_in" wz t.a_shelf_in t.d_shelf_in
 b_shelf_in:Binds K t.d_shelf_in ["word"] []
 m_shelf_in:mg "shelf_in"=some (.ref t.a_shelf_in)
 f_is_worth:Fun K "is_worth" "is_worth" wA t.a_is_worth t.d_is_worth
 b_is_worth:Binds K t.d_is_worth ["thing"] []
 m_is_worth:mg "is_worth"=some (.ref t.a_is_worth)
 f_is_figures:Fun K "is_figures" "is_figures" yW t.a_is_figures t.d_is_figures
 b_is_figures:Binds K t.d_is_figures ["text"] []
 m_is_figures:mg "is_figures"=some (.ref t.a_is_figures)
 f_numeral:Fun K "numeral" "numeral" vy t.a_numeral t.d_numeral
 b_numeral:Binds K t.d_numeral ["worth"] []
 m_numeral:mg "numeral"=some (.ref t.a_numeral)
 f_is_numeral:Fun K "is_numeral" "is_numeral" xu t.a_is_numeral t.d_is_numeral
 b_is_numeral:Binds K t.d_is_numeral ["text"] []
 m_is_numeral:mg "is_numeral"=some (.ref t.a_is_numeral)
 f_worth_in:Fun K "worth_in" "worth_in" wC t.a_worth_in t.d_worth_in
 b_worth_in:Binds K t.d_worth_in ["text"] []
 m_worth_in:mg "worth_in"=some (.ref t.a_worth_in)
 f_number_in:Fun K "number_in" "number_in" xK t.a_number_in t.d_number_in
 b_number_in:Binds K t.d_number_in ["word"] []
 m_number_in:mg "number_in"=some (.ref t.a_number_in)
 f_rows_in:Fun K "rows_in" "rows_in" wD t.a_rows_in t.d_rows_in
 b_rows_in:Binds K t.d_rows_in ["words"] []
 m_rows_in:mg "rows_in"=some (.ref t.a_rows_in)
 f_outcome_in:Fun K "outcome_in" "outcome_in" yX t.a_outcome_in t.d_outcome_in
 b_outcome_in:Binds K t.d_outcome_in ["words"] []
 m_outcome_in:mg "outcome_in"=some (.ref t.a_outcome_in)
 f_rank_in:Fun K "rank_in" "rank_in" vz t.a_rank_in t.d_rank_in
 b_rank_in:Binds K t.d_rank_in ["word"] []
 m_rank_in:mg "rank_in"=some (.ref t.a_rank_in)
 f_deal_in:Fun K "deal_in" "deal_in" vA t.a_deal_in t.d_deal_in
 b_deal_in:Binds K t.d_deal_in ["words","rows"] []
 m_deal_in:mg "deal_in"=some (.ref t.a_deal_in)
 f_mark_in:Fun K "mark_in" "mark_in" wE t.a_mark_in t.d_mark_in
 b_mark_in:Binds K t.d_mark_in ["words","rows"] []
 m_mark_in:mg "mark_in"=some (.ref t.a_mark_in)
 f_check_of:Fun K "check_of" "check_of" xE t.a_check_of t.d_check_of
 b_check_of:Binds K t.d_check_of ["body"] []
 m_check_of:mg "check_of"=some (.ref t.a_check_of)
 f_body_in:Fun K "body_in" "body_in" vB t.a_body_in t.d_body_in
 b_body_in:Binds K t.d_body_in ["text"] []
 m_body_in:mg "body_in"=some (.ref t.a_body_in)
 f_line_read:Fun K "line_read" "line_read" xL t.a_line_read t.d_line_read
 b_line_read:Binds K t.d_line_read ["text"] []
 m_line_read:mg "line_read"=some (.ref t.a_line_read)
 f__law_refused:Fun K "_law_refused" "_law_refused" yQ t.a__law_refused t.d__law_refused
 b__law_refused:Binds K t.d__law_refused ["text"] []
 m__law_refused:mg "_law_refused"=some (.ref t.a__law_refused)
 f__law_other_check:Fun K "_law_other_check" "_law_other_check" yw t.a__law_other_check t.d__law_other_check
 b__law_other_check:Binds K t.d__law_other_check ["check","xs"] []
 m__law_other_check:mg "_law_other_check"=some (.ref t.a__law_other_check)
 f__law_odd:Fun K "_law_odd" "_law_odd" wF t.a__law_odd t.d__law_odd
 b__law_odd:Binds K t.d__law_odd ["cell"] []
 m__law_odd:mg "_law_odd"=some (.ref t.a__law_odd)
 f__law_odd_put:Fun K "_law_odd_put" "_law_odd_put" yR t.a__law_odd_put t.d__law_odd_put
 b__law_odd_put:Binds K t.d__law_odd_put ["words","xs"] []
 m__law_odd_put:mg "_law_odd_put"=some (.ref t.a__law_odd_put)
 f__law_short:Fun K "_law_short" "_law_short" xv t.a__law_short t.d__law_short
 b__law_short:Binds K t.d__law_short ["words","xs"] []
 m__law_short:mg "_law_short"=some (.ref t.a__law_short)
 f__law_spoilt:Fun K "_law_spoilt" "_law_spoilt" xg t.a__law_spoilt t.d__law_spoilt
 b__law_spoilt:Binds K t.d__law_spoilt ["words","kind","xs"] []
 m__law_spoilt:mg "_law_spoilt"=some (.ref t.a__law_spoilt)
 f__law_check:Fun K "_law_check" "_law_check" xw t.a__law_check t.d__law_check
 b__law_check:Binds K t.d__law_check ["body"] []
 m__law_check:mg "_law_check"=some (.ref t.a__law_check)
 f_law:Fun K "law" "law" X9 t.a_law t.d_law
 b_law:Binds K t.d_law ["script"] []
 m_law:mg "law"=some (.ref t.a_law)
 w_law:∀ (s:Shared) (v:Value),BindsTo s t.d_law ⟨[v],[]⟩ [("script",v)]
 b_ValueError:mg "ValueError"=none
 b_all:mg "all"=none
 b_any:mg "any"=none
 b_bool:mg "bool"=none
 b_enumerate:mg "enumerate"=none
 b_int:mg "int"=none
 b_isinstance:mg "isinstance"=none
 b_len:mg "len"=none
 b_ord:mg "ord"=none
 b_range:mg "range"=none
 b_set:mg "set"=none
 b_sorted:mg "sorted"=none
 b_str:mg "str"=none
 b_sum:mg "sum"=none
 b_tuple:mg "tuple"=none
 g_CHECK_BY:mg "CHECK_BY"=some (.int 1009 t.k_CHECK_BY)
 g_CHECK_FIGURES:mg "CHECK_FIGURES"=some (.int 4 t.k_CHECK_FIGURES)
 g_FIGURES:mg "FIGURES"=some (.str "0123456789" t.k_FIGURES)
 g_JOINING:mg "JOINING"=some (.ref t.c_JOINING)
 v_JOINING:∀ H:Hp,SqT K H t.c_JOINING [.str "plus",.str "minus",.str "times",.str "over",.str "rest",.str "under",.str "same"]
 g_LETTERS:mg "LETTERS"=some (.str "abcdefghijklmnopqrstuvwxyz" t.k_LETTERS)
 g_MOST_FACTOR:mg "MOST_FACTOR"=some (.int 1008 t.k_MOST_FACTOR)
 g_MOST_FIGURES:mg "MOST_FIGURES"=some (.int 31 t.k_MOST_FIGURES)
 g_MOST_LETTERS:mg "MOST_LETTERS"=some (.int 6 t.k_MOST_LETTERS)
 g_ROW_WORDS:mg "ROW_WORDS"=some (.ref t.c_ROW_WORDS)
 v_ROW_WORDS:∀ H:Hp,SqT K H t.c_ROW_WORDS [.str "take",.str "give",.str "let",.str "say",.str "off",.str "if",.str "else",.str "end",.str "as"]
 g_WHYS:mg "WHYS"=some (.ref t.c_WHYS)
 v_WHYS:∀ H:Hp,SqT K H t.c_WHYS [.str "told",.str "great",.str "nought"]
 g_Folded:mg "Folded"=some (.ref t.c_Folded)
 g_ForerunError:mg "ForerunError"=some (.ref t.c_ForerunError)
 g_Great:mg "Great"=some (.ref t.c_Great)
 g_NoDealing:mg "NoDealing"=some (.ref t.c_NoDealing)
 g_NoHand:mg "NoHand"=some (.ref t.c_NoHand)
 g_NoLine:mg "NoLine"=some (.ref t.c_NoLine)
 g_NoLog:mg "NoLog"=some (.ref t.c_NoLog)
 g_NoNumber:mg "NoNumber"=some (.ref t.c_NoNumber)
 g_NoOrder:mg "NoOrder"=some (.ref t.c_NoOrder)
 g_NoTerm:mg "NoTerm"=some (.ref t.c_NoTerm)
 g_Nought:mg "Nought"=some (.ref t.c_Nought)
 x_NoLine:W.excIn K t.c_NoLine Yd jb=true
 y_NoLine:ExK K t.c_NoLine
 e_NoLine_NoNumber:W.exmOne K (.ref t.c_NoLine) (.ref t.c_NoNumber)=some false
 e_NoLine_ForerunError:W.exmOne K (.ref t.c_NoLine) (.ref t.c_ForerunError)=some true
 i_NoLine_ValueError:W.kitOne K (.ref t.c_NoLine) (.type "ValueError")=some true
 i_NoLine_NoLine:W.kitOne K (.ref t.c_NoLine) (.ref t.c_NoLine)=some true
 j_NoLine_0:W.kitAny K (.ref t.c_NoLine) [.ref t.c_NoNumber,.ref t.c_NoTerm,.ref t.c_NoDealing,.ref t.c_Nought,.ref t.c_Great]=some false
 j_NoLine_1:W.kitAny K (.ref t.c_NoLine) [.ref t.c_Folded,.ref t.c_NoHand,.ref t.c_NoOrder,.ref t.c_NoLog]=some false
 x_NoNumber:W.excIn K t.c_NoNumber Yd jb=true
 y_NoNumber:ExK K t.c_NoNumber
 e_NoNumber_NoNumber:W.exmOne K (.ref t.c_NoNumber) (.ref t.c_NoNumber)=some true
 e_NoNumber_ForerunError:W.exmOne K (.ref t.c_NoNumber) (.ref t.c_ForerunError)=some true
 i_NoNumber_ValueError:W.kitOne K (.ref t.c_NoNumber) (.type "ValueError")=some true
 i_NoNumber_NoLine:W.kitOne K (.ref t.c_NoNumber) (.ref t.c_NoLine)=some false
 j_NoNumber_0:W.kitAny K (.ref t.c_NoNumber) [.ref t.c_NoNumber,.ref t.c_NoTerm,.ref t.c_NoDealing,.ref t.c_Nought,.ref t.c_Great]=some true
 j_NoNumber_1:W.kitAny K (.ref t.c_NoNumber) [.ref t.c_Folded,.ref t.c_NoHand,.ref t.c_NoOrder,.ref t.c_NoLog]=some false
theorem txt_mk {K:W.Frag} {h:Heap} {mg:Str→Option Value} (X:K.In h) (G:h.Ns mainGlobals mg)
  {f0:Addr} {od0 an0:Option Addr} {sl0:Array (Option Value)} {oc0 kV0 dc0 pm0 cd0 ct0:Value}
  {f1:Addr} {od1 an1:Option Addr} {sl1:Array (Option Value)} {oc1 kV1 dc1 pm1 cd1 ct1:Value}
  {f2:Addr} {od2 an2:Option Addr} {sl2:Array (Option Value)} {oc2 kV2 dc2 pm2 cd2 ct2:Value}
  {f3:Addr} {od3 an3:Option Addr} {sl3:Array (Option Value)} {oc3 kV3 dc3 pm3 cd3 ct3:Value}
  {f4:Addr} {od4 an4:Option Addr} {sl4:Array (Option Value)} {oc4 kV4 dc4 pm4 cd4 ct4:Value}
  {f5:Addr} {od5 an5:Option Addr} {sl5:Array (Option Value)} {oc5 kV5 dc5 pm5 cd5 ct5:Value}
  {f6:Addr} {od6 an6:Option Addr} {sl6:Array (Option Value)} {oc6 kV6 dc6 pm6 cd6 ct6:Value}
  {f7:Addr} {od7 an7:Option Addr} {sl7:Array (Option Value)} {oc7 kV7 dc7 pm7 cd7 ct7:Value}
  {f8:Addr} {od8 an8:Option Addr} {sl8:Array (Option Value)} {oc8 kV8 dc8 pm8 cd8 ct8:Value}
  {f9:Addr} {od9 an9:Option Addr} {sl9:Array (Option Value)} {oc9 kV9 dc9 pm9 cd9 ct9:Value}
  {f10:Addr} {od10 an10:Option Addr} {sl10:Array (Option Value)} {oc10 kV10 dc10 pm10 cd10 ct10:Value}
  {f11:Addr} {od11 an11:Option Addr} {sl11:Array (Option Value)} {oc11 kV11 dc11 pm11 cd11 ct11:Value}
  {f12:Addr} {od12 an12:Option Addr} {sl12:Array (Option Value)} {oc12 kV12 dc12 pm12 cd12 ct12:Value}
  {f13:Addr} {od13 an13:Option Addr} {sl13:Array (Option Value)} {oc13 kV13 dc13 pm13 cd13 ct13:Value}
  {f14:Addr} {od14 an14:Option Addr} {sl14:Array (Option Value)} {oc14 kV14 dc14 pm14 cd14 ct14:Value}
  {f15:Addr} {od15 an15:Option Addr} {sl15:Array (Option Value)} {oc15 kV15 dc15 pm15 cd15 ct15:Value}
  {f16:Addr} {od16 an16:Option Addr} {sl16:Array (Option Value)} {oc16 kV16 dc16 pm16 cd16 ct16:Value}
  {f17:Addr} {od17 an17:Option Addr} {sl17:Array (Option Value)} {oc17 kV17 dc17 pm17 cd17 ct17:Value}
  {f18:Addr} {od18 an18:Option Addr} {sl18:Array (Option Value)} {oc18 kV18 dc18 pm18 cd18 ct18:Value}
  {f19:Addr} {od19 an19:Option Addr} {sl19:Array (Option Value)} {oc19 kV19 dc19 pm19 cd19 ct19:Value}
  {f20:Addr} {od20 an20:Option Addr} {sl20:Array (Option Value)} {oc20 kV20 dc20 pm20 cd20 ct20:Value}
  {f21:Addr} {od21 an21:Option Addr} {sl21:Array (Option Value)} {oc21 kV21 dc21 pm21 cd21 ct21:Value}
  {f22:Addr} {od22 an22:Option Addr} {sl22:Array (Option Value)} {oc22 kV22 dc22 pm22 cd22 ct22:Value}
  {f23:Addr} {od23 an23:Option Addr} {sl23:Array (Option Value)} {oc23 kV23 dc23 pm23 cd23 ct23:Value}
  {f24:Addr} {od24 an24:Option Addr} {sl24:Array (Option Value)} {oc24 kV24 dc24 pm24 cd24 ct24:Value}
  {f25:Addr} {od25 an25:Option Addr} {sl25:Array (Option Value)} {oc25 kV25 dc25 pm25 cd25 ct25:Value}
  {f26:Addr} {od26 an26:Option Addr} {sl26:Array (Option Value)} {oc26 kV26 dc26 pm26 cd26 ct26:Value}
  {f27:Addr} {od27 an27:Option Addr} {sl27:Array (Option Value)} {oc27 kV27 dc27 pm27 cd27 ct27:Value}
  {f28:Addr} {od28 an28:Option Addr} {sl28:Array (Option Value)} {oc28 kV28 dc28 pm28 cd28 ct28:Value}
  {gt0:Tok}
  {gt1:Tok}
  {gt2:Tok}
  {ga3:Addr} {gn3:Nat} {gt3_0:Tok} {gt3_1:Tok} {gt3_2:Tok} {gt3_3:Tok} {gt3_4:Tok} {gt3_5:Tok} {gt3_6:Tok}
  {gt4:Tok}
  {gt5:Tok}
  {gt6:Tok}
  {gt7:Tok}
  {ga8:Addr} {gn8:Nat} {gt8_0:Tok} {gt8_1:Tok} {gt8_2:Tok} {gt8_3:Tok} {gt8_4:Tok} {gt8_5:Tok} {gt8_6:Tok} {gt8_7:Tok} {gt8_8:Tok}
  {ga9:Addr} {gn9:Nat} {gt9_0:Tok} {gt9_1:Tok} {gt9_2:Tok}
  {ca0:Addr}
  {ca1:Addr}
  {ca2:Addr}
  {ca3:Addr}
  {ca4:Addr}
  {ca5:Addr}
  {ca6:Addr}
  {ca7:Addr}
  {ca8:Addr}
  {ca9:Addr}
  {ca10:Addr}
  {cl0:ClassData}
  {cl1:ClassData}
  (qa0:W.nsIn K mainGlobals "_law_drawn"=some (some (.ref f0))) (ql0:K.lookup f0=some ⟨oc0,od0,.func (W.fnOf "_law_drawn" "_law_drawn" (zX xr) (zU xr) (zq xr) .none kV0 dc0 pm0 an0 cd0 ct0),sl0⟩) (qc0:W.codeIn K cd0 "_law_drawn"=true) (qk0:W.keepIn K (.ref f0)=true)
  (qa1:W.nsIn K mainGlobals "_law_worth"=some (some (.ref f1))) (ql1:K.lookup f1=some ⟨oc1,od1,.func (W.fnOf "_law_worth" "_law_worth" (zX xt) (zU xt) (zq xt) .none kV1 dc1 pm1 an1 cd1 ct1),sl1⟩) (qc1:W.codeIn K cd1 "_law_worth"=true) (qk1:W.keepIn K (.ref f1)=true)
  (qa2:W.nsIn K mainGlobals "_law_rank"=some (some (.ref f2))) (ql2:K.lookup f2=some ⟨oc2,od2,.func (W.fnOf "_law_rank" "_law_rank" (zX xI) (zU xI) (zq xI) .none kV2 dc2 pm2 an2 cd2 ct2),sl2⟩) (qc2:W.codeIn K cd2 "_law_rank"=true) (qk2:W.keepIn K (.ref f2)=true)
  (qa3:W.nsIn K mainGlobals "_law_name"=some (some (.ref f3))) (ql3:K.lookup f3=some ⟨oc3,od3,.func (W.fnOf "_law_name" "_law_name" (zX xJ) (zU xJ) (zq xJ) .none kV3 dc3 pm3 an3 cd3 ct3),sl3⟩) (qc3:W.codeIn K cd3 "_law_name"=true) (qk3:W.keepIn K (.ref f3)=true)
  (qa4:W.nsIn K mainGlobals "_law_words"=some (some (.ref f4))) (ql4:K.lookup f4=some ⟨oc4,od4,.func (W.fnOf "_law_words" "_law_words" (zX yV) (zU yV) (zq yV) .none kV4 dc4 pm4 an4 cd4 ct4),sl4⟩) (qc4:W.codeIn K cd4 "_law_words"=true) (qk4:W.keepIn K (.ref f4)=true)
  (qa5:W.nsIn K mainGlobals "is_name"=some (some (.ref f5))) (ql5:K.lookup f5=some ⟨oc5,od5,.func (W.fnOf "is_name" "is_name" (zX wy) (zU wy) (zq wy) .none kV5 dc5 pm5 an5 cd5 ct5),sl5⟩) (qc5:W.codeIn K cd5 "is_name"=true) (qk5:W.keepIn K (.ref f5)=true)
  (qa6:W.nsIn K mainGlobals "shelf_in"=some (some (.ref f6))) (ql6:K.lookup f6=some ⟨oc6,od6,.func (W.fnOf "shelf_in" "shelf_in" (zX wz) (zU wz) (zq wz) .none kV6 dc6 pm6 an6 cd6 ct6),sl6⟩) (qc6:W.codeIn K cd6 "shelf_in"=true) (qk6:W.keepIn K (.ref f6)=true)
  (qa7:W.nsIn K mainGlobals "is_worth"=some (some (.ref f7))) (ql7:K.lookup f7=some ⟨oc7,od7,.func (W.fnOf "is_worth" "is_worth" (zX wA) (zU wA) (zq wA) .none kV7 dc7 pm7 an7 cd7 ct7),sl7⟩) (qc7:W.codeIn K cd7 "is_worth"=true) (qk7:W.keepIn K (.ref f7)=true)
  (qa8:W.nsIn K mainGlobals "is_figures"=some (some (.ref f8))) (ql8:K.lookup f8=some ⟨oc8,od8,.func (W.fnOf "is_figures" "is_figures" (zX yW) (zU yW) (zq yW) .none kV8 dc8 pm8 an8 cd8 ct8),sl8⟩) (qc8:W.codeIn K cd8 "is_figures"=true) (qk8:W.keepIn K (.ref f8)=true)
  (qa9:W.nsIn K mainGlobals "numeral"=some (some (.ref f9))) (ql9:K.lookup f9=some ⟨oc9,od9,.func (W.fnOf "numeral" "numeral" (zX vy) (zU vy) (zq vy) .none kV9 dc9 pm9 an9 cd9 ct9),sl9⟩) (qc9:W.codeIn K cd9 "numeral"=true) (qk9:W.keepIn K (.ref f9)=true)
  (qa10:W.nsIn K mainGlobals "is_numeral"=some (some (.ref f10))) (ql10:K.lookup f10=some ⟨oc10,od10,.func (W.fnOf "is_numeral" "is_numeral" (zX xu) (zU xu) (zq xu) .none kV10 dc10 pm10 an10 cd10 ct10),sl10⟩) (qc10:W.codeIn K cd10 "is_numeral"=true) (qk10:W.keepIn K (.ref f10)=true)
  (qa11:W.nsIn K mainGlobals "worth_in"=some (some (.ref f11))) (ql11:K.lookup f11=some ⟨oc11,od11,.func (W.fnOf "worth_in" "worth_in" (zX wC) (zU wC) (zq wC) .none kV11 dc11 pm11 an11 cd11 ct11),sl11⟩) (qc11:W.codeIn K cd11 "worth_in"=true) (qk11:W.keepIn K (.ref f11)=true)
  (qa12:W.nsIn K mainGlobals "number_in"=some (some (.ref f12))) (ql12:K.lookup f12=some ⟨oc12,od12,.func (W.fnOf "number_in" "number_in" (zX xK) (zU xK) (zq xK) .none kV12 dc12 pm12 an12 cd12 ct12),sl12⟩) (qc12:W.codeIn K cd12 "number_in"=true) (qk12:W.keepIn K (.ref f12)=true)
  (qa13:W.nsIn K mainGlobals "rows_in"=some (some (.ref f13))) (ql13:K.lookup f13=some ⟨oc13,od13,.func (W.fnOf "rows_in" "rows_in" (zX wD) (zU wD) (zq wD) .none kV13 dc13 pm13 an13 cd13 ct13),sl13⟩) (qc13:W.codeIn K cd13 "rows_in"=true) (qk13:W.keepIn K (.ref f13)=true)
  (qa14:W.nsIn K mainGlobals "outcome_in"=some (some (.ref f14))) (ql14:K.lookup f14=some ⟨oc14,od14,.func (W.fnOf "outcome_in" "outcome_in" (zX yX) (zU yX) (zq yX) .none kV14 dc14 pm14 an14 cd14 ct14),sl14⟩) (qc14:W.codeIn K cd14 "outcome_in"=true) (qk14:W.keepIn K (.ref f14)=true)
  (qa15:W.nsIn K mainGlobals "rank_in"=some (some (.ref f15))) (ql15:K.lookup f15=some ⟨oc15,od15,.func (W.fnOf "rank_in" "rank_in" (zX vz) (zU vz) (zq vz) .none kV15 dc15 pm15 an15 cd15 ct15),sl15⟩) (qc15:W.codeIn K cd15 "rank_in"=true) (qk15:W.keepIn K (.ref f15)=true)
  (qa16:W.nsIn K mainGlobals "deal_in"=some (some (.ref f16))) (ql16:K.lookup f16=some ⟨oc16,od16,.func (W.fnOf "deal_in" "deal_in" (zX vA) (zU vA) (zq vA) .none kV16 dc16 pm16 an16 cd16 ct16),sl16⟩) (qc16:W.codeIn K cd16 "deal_in"=true) (qk16:W.keepIn K (.ref f16)=true)
  (qa17:W.nsIn K mainGlobals "mark_in"=some (some (.ref f17))) (ql17:K.lookup f17=some ⟨oc17,od17,.func (W.fnOf "mark_in" "mark_in" (zX wE) (zU wE) (zq wE) .none kV17 dc17 pm17 an17 cd17 ct17),sl17⟩) (qc17:W.codeIn K cd17 "mark_in"=true) (qk17:W.keepIn K (.ref f17)=true)
  (qa18:W.nsIn K mainGlobals "check_of"=some (some (.ref f18))) (ql18:K.lookup f18=some ⟨oc18,od18,.func (W.fnOf "check_of" "check_of" (zX xE) (zU xE) (zq xE) .none kV18 dc18 pm18 an18 cd18 ct18),sl18⟩) (qc18:W.codeIn K cd18 "check_of"=true) (qk18:W.keepIn K (.ref f18)=true)
  (qa19:W.nsIn K mainGlobals "body_in"=some (some (.ref f19))) (ql19:K.lookup f19=some ⟨oc19,od19,.func (W.fnOf "body_in" "body_in" (zX vB) (zU vB) (zq vB) .none kV19 dc19 pm19 an19 cd19 ct19),sl19⟩) (qc19:W.codeIn K cd19 "body_in"=true) (qk19:W.keepIn K (.ref f19)=true)
  (qa20:W.nsIn K mainGlobals "line_read"=some (some (.ref f20))) (ql20:K.lookup f20=some ⟨oc20,od20,.func (W.fnOf "line_read" "line_read" (zX xL) (zU xL) (zq xL) .none kV20 dc20 pm20 an20 cd20 ct20),sl20⟩) (qc20:W.codeIn K cd20 "line_read"=true) (qk20:W.keepIn K (.ref f20)=true)
  (qa21:W.nsIn K mainGlobals "_law_refused"=some (some (.ref f21))) (ql21:K.lookup f21=some ⟨oc21,od21,.func (W.fnOf "_law_refused" "_law_refused" (zX yQ) (zU yQ) (zq yQ) .none kV21 dc21 pm21 an21 cd21 ct21),sl21⟩) (qc21:W.codeIn K cd21 "_law_refused"=true) (qk21:W.keepIn K (.ref f21)=true)
  (qa22:W.nsIn K mainGlobals "_law_other_check"=some (some (.ref f22))) (ql22:K.lookup f22=some ⟨oc22,od22,.func (W.fnOf "_law_other_check" "_law_other_check" (zX yw) (zU yw) (zq yw) .none kV22 dc22 pm22 an22 cd22 ct22),sl22⟩) (qc22:W.codeIn K cd22 "_law_other_check"=true) (qk22:W.keepIn K (.ref f22)=true)
  (qa23:W.nsIn K mainGlobals "_law_odd"=some (some (.ref f23))) (ql23:K.lookup f23=some ⟨oc23,od23,.func (W.fnOf "_law_odd" "_law_odd" (zX wF) (zU wF) (zq wF) .none kV23 dc23 pm23 an23 cd23 ct23),sl23⟩) (qc23:W.codeIn K cd23 "_law_odd"=true) (qk23:W.keepIn K (.ref f23)=true)
  (qa24:W.nsIn K mainGlobals "_law_odd_put"=some (some (.ref f24))) (ql24:K.lookup f24=some ⟨oc24,od24,.func (W.fnOf "_law_odd_put" "_law_odd_put" (zX yR) (zU yR) (zq yR) .none kV24 dc24 pm24 an24 cd24 ct24),sl24⟩) (qc24:W.codeIn K cd24 "_law_odd_put"=true) (qk24:W.keepIn K (.ref f24)=true)
  (qa25:W.nsIn K mainGlobals "_law_short"=some (some (.ref f25))) (ql25:K.lookup f25=some ⟨oc25,od25,.func (W.fnOf "_law_short" "_law_short" (zX xv) (zU xv) (zq xv) .none kV25 dc25 pm25 an25 cd25 ct25),sl25⟩) (qc25:W.codeIn K cd25 "_law_short"=true) (qk25:W.keepIn K (.ref f25)=true)
  (qa26:W.nsIn K mainGlobals "_law_spoilt"=some (some (.ref f26))) (ql26:K.lookup f26=some ⟨oc26,od26,.func (W.fnOf "_law_spoilt" "_law_spoilt" (zX xg) (zU xg) (zq xg) .none kV26 dc26 pm26 an26 cd26 ct26),sl26⟩) (qc26:W.codeIn K cd26 "_law_spoilt"=true) (qk26:W.keepIn K (.ref f26)=true)
  (qa27:W.nsIn K mainGlobals "_law_check"=some (some (.ref f27))) (ql27:K.lookup f27=some ⟨oc27,od27,.func (W.fnOf "_law_check" "_law_check" (zX xw) (zU xw) (zq xw) .none kV27 dc27 pm27 an27 cd27 ct27),sl27⟩) (qc27:W.codeIn K cd27 "_law_check"=true) (qk27:W.keepIn K (.ref f27)=true)
  (qa28:W.nsIn K mainGlobals "law"=some (some (.ref f28))) (ql28:K.lookup f28=some ⟨oc28,od28,.func (W.fnOf "law" "law" (zX X9) (zU X9) (zq X9) .none kV28 dc28 pm28 an28 cd28 ct28),sl28⟩) (qc28:W.codeIn K cd28 "law"=true) (qk28:W.keepIn K (.ref f28)=true)
  (qz0:W.nsIn K mainGlobals "ValueError"=some none)
  (qz1:W.nsIn K mainGlobals "all"=some none)
  (qz2:W.nsIn K mainGlobals "any"=some none)
  (qz3:W.nsIn K mainGlobals "bool"=some none)
  (qz4:W.nsIn K mainGlobals "enumerate"=some none)
  (qz5:W.nsIn K mainGlobals "int"=some none)
  (qz6:W.nsIn K mainGlobals "isinstance"=some none)
  (qz7:W.nsIn K mainGlobals "len"=some none)
  (qz8:W.nsIn K mainGlobals "ord"=some none)
  (qz9:W.nsIn K mainGlobals "range"=some none)
  (qz10:W.nsIn K mainGlobals "set"=some none)
  (qz11:W.nsIn K mainGlobals "sorted"=some none)
  (qz12:W.nsIn K mainGlobals "str"=some none)
  (qz13:W.nsIn K mainGlobals "sum"=some none)
  (qz14:W.nsIn K mainGlobals "tuple"=some none)
  (qg0:W.nsIn K mainGlobals "CHECK_BY"=some (some (.int 1009 gt0)))
  (qg1:W.nsIn K mainGlobals "CHECK_FIGURES"=some (some (.int 4 gt1)))
  (qg2:W.nsIn K mainGlobals "FIGURES"=some (some (.str "0123456789" gt2)))
  (qg3:W.nsIn K mainGlobals "JOINING"=some (some (.ref ga3))) (qh3:K.lookup ga3=some ⟨.type "tuple",none,.seq #[.str "plus" gt3_0,.str "minus" gt3_1,.str "times" gt3_2,.str "over" gt3_3,.str "rest" gt3_4,.str "under" gt3_5,.str "same" gt3_6] gn3,#[]⟩)
  (qg4:W.nsIn K mainGlobals "LETTERS"=some (some (.str "abcdefghijklmnopqrstuvwxyz" gt4)))
  (qg5:W.nsIn K mainGlobals "MOST_FACTOR"=some (some (.int 1008 gt5)))
  (qg6:W.nsIn K mainGlobals "MOST_FIGURES"=some (some (.int 31 gt6)))
  (qg7:W.nsIn K mainGlobals "MOST_LETTERS"=some (some (.int 6 gt7)))
  (qg8:W.nsIn K mainGlobals "ROW_WORDS"=some (some (.ref ga8))) (qh8:K.lookup ga8=some ⟨.type "tuple",none,.seq #[.str "take" gt8_0,.str "give" gt8_1,.str "let" gt8_2,.str "say" gt8_3,.str "off" gt8_4,.str "if" gt8_5,.str "else" gt8_6,.str "end" gt8_7,.str "as" gt8_8] gn8,#[]⟩)
  (qg9:W.nsIn K mainGlobals "WHYS"=some (some (.ref ga9))) (qh9:K.lookup ga9=some ⟨.type "tuple",none,.seq #[.str "told" gt9_0,.str "great" gt9_1,.str "nought" gt9_2] gn9,#[]⟩)
  (qv0:W.nsIn K mainGlobals "Folded"=some (some (.ref ca0)))
  (qv1:W.nsIn K mainGlobals "ForerunError"=some (some (.ref ca1)))
  (qv2:W.nsIn K mainGlobals "Great"=some (some (.ref ca2)))
  (qv3:W.nsIn K mainGlobals "NoDealing"=some (some (.ref ca3)))
  (qv4:W.nsIn K mainGlobals "NoHand"=some (some (.ref ca4)))
  (qv5:W.nsIn K mainGlobals "NoLine"=some (some (.ref ca5)))
  (qv6:W.nsIn K mainGlobals "NoLog"=some (some (.ref ca6)))
  (qv7:W.nsIn K mainGlobals "NoNumber"=some (some (.ref ca7)))
  (qv8:W.nsIn K mainGlobals "NoOrder"=some (some (.ref ca8)))
  (qv9:W.nsIn K mainGlobals "NoTerm"=some (some (.ref ca9)))
  (qv10:W.nsIn K mainGlobals "Nought"=some (some (.ref ca10)))
  (rx0:W.excIn K ca5 Yd jb=true)
  (ry0_0:W.findIn K (.ref ca5) "__getattribute__"=some (some (.builtin "BaseException.__getattribute__")))
  (ry0_1:W.findIn K (.ref ca5) "__getattr__"=some none)
  (ry0_2:W.findIn K (.ref ca5) "__class__"=some (some (.builtin "object.__class__")))
  (ry0_3:W.mroIn K ca5 (.type "object")=some true)
  (ry0_4:W.mroIn K ca5 (.type "BaseException")=some true)
  (ry0_5:W.specialIn K (.builtin "object.__class__") "__get__"=some (some (.builtin "getset_descriptor.__get__")))
  (ry0_6:W.takesIn K (.builtin "object.__class__")=some true)
  (ry0_7:W.clsIn K ca5=some cl0)
  (re0_0:W.exmOne K (.ref ca5) (.ref ca7)=some false)
  (re0_1:W.exmOne K (.ref ca5) (.ref ca1)=some true)
  (ri0_0:W.kitOne K (.ref ca5) (.type "ValueError")=some true)
  (ri0_1:W.kitOne K (.ref ca5) (.ref ca5)=some true)
  (rj0_0:W.kitAny K (.ref ca5) [(.ref ca7),(.ref ca9),(.ref ca3),(.ref ca10),(.ref ca2)]=some false)
  (rj0_1:W.kitAny K (.ref ca5) [(.ref ca0),(.ref ca4),(.ref ca8),(.ref ca6)]=some false)
  (rx1:W.excIn K ca7 Yd jb=true)
  (ry1_0:W.findIn K (.ref ca7) "__getattribute__"=some (some (.builtin "BaseException.__getattribute__")))
  (ry1_1:W.findIn K (.ref ca7) "__getattr__"=some none)
  (ry1_2:W.findIn K (.ref ca7) "__class__"=some (some (.builtin "object.__class__")))
  (ry1_3:W.mroIn K ca7 (.type "object")=some true)
  (ry1_4:W.mroIn K ca7 (.type "BaseException")=some true)
  (ry1_5:W.specialIn K (.builtin "object.__class__") "__get__"=some (some (.builtin "getset_descriptor.__get__")))
  (ry1_6:W.takesIn K (.builtin "object.__class__")=some true)
  (ry1_7:W.clsIn K ca7=some cl1)
  (re1_0:W.exmOne K (.ref ca7) (.ref ca7)=some true)
  (re1_1:W.exmOne K (.ref ca7) (.ref ca1)=some true)
  (ri1_0:W.kitOne K (.ref ca7) (.type "ValueError")=some true)
  (ri1_1:W.kitOne K (.ref ca7) (.ref ca5)=some false)
  (rj1_0:W.kitAny K (.ref ca7) [(.ref ca7),(.ref ca9),(.ref ca3),(.ref ca10),(.ref ca2)]=some true)
  (rj1_1:W.kitAny K (.ref ca7) [(.ref ca0),(.ref ca4),(.ref ca8),(.ref ca6)]=some false):∃ t,Txt K mg t:=by
 have F0:=yq (st:=xr) ql0 qc0 qk0
 have F1:=yq (st:=xt) ql1 qc1 qk1
 have F2:=yq (st:=xI) ql2 qc2 qk2
 have F3:=yq (st:=xJ) ql3 qc3 qk3
 have F4:=yq (st:=yV) ql4 qc4 qk4
 have F5:=yq (st:=wy) ql5 qc5 qk5
 have F6:=yq (st:=wz) ql6 qc6 qk6
 have F7:=yq (st:=wA) ql7 qc7 qk7
 have F8:=yq (st:=yW) ql8 qc8 qk8
 have F9:=yq (st:=vy) ql9 qc9 qk9
 have F10:=yq (st:=xu) ql10 qc10 qk10
 have F11:=yq (st:=wC) ql11 qc11 qk11
 have F12:=yq (st:=xK) ql12 qc12 qk12
 have F13:=yq (st:=wD) ql13 qc13 qk13
 have F14:=yq (st:=yX) ql14 qc14 qk14
 have F15:=yq (st:=vz) ql15 qc15 qk15
 have F16:=yq (st:=vA) ql16 qc16 qk16
 have F17:=yq (st:=wE) ql17 qc17 qk17
 have F18:=yq (st:=xE) ql18 qc18 qk18
 have F19:=yq (st:=vB) ql19 qc19 qk19
 have F20:=yq (st:=xL) ql20 qc20 qk20
 have F21:=yq (st:=yQ) ql21 qc21 qk21
 have F22:=yq (st:=yw) ql22 qc22 qk22
 have F23:=yq (st:=wF) ql23 qc23 qk23
 have F24:=yq (st:=yR) ql24 qc24 qk24
 have F25:=yq (st:=xv) ql25 qc25 qk25
 have F26:=yq (st:=xg) ql26 qc26 qk26
 have F27:=yq (st:=xw) ql27 qc27 qk27
 have F28:=yq (st:=X9) ql28 qc28 qk28
 exact ⟨⟨f0,_,f1,_,f2,_,f3,_,f4,_,f5,_,f6,_,f7,_,f8,_,f9,_,f10,_,f11,_,f12,_,f13,_,f14,_,f15,_,f16,_,f17,_,f18,_,f19,_,f20,_,f21,_,f22,_,f23,_,f24,_,f25,_,f26,_,f27,_,f28,_,gt0,gt1,gt2,ga3,gt4,gt5,gt6,gt7,ga8,ga9,ca0,ca1,ca2,ca3,ca4,ca5,ca6,ca7,ca8,ca9,ca10⟩,⟨F0,F0.binds (ps:=["cell","many"]) (fun _ _ _ _ _ _ us hl=>match us,hl with | [_,_],_=>rfl),W.mg_of X G qa0,
  F1,F1.binds (ps:=["cell"]) (fun _ _ _ _ _ _ us hl=>match us,hl with | [_],_=>rfl),W.mg_of X G qa1,
  F2,F2.binds (ps:=["cell"]) (fun _ _ _ _ _ _ us hl=>match us,hl with | [_],_=>rfl),W.mg_of X G qa2,
  F3,F3.binds (ps:=["cell"]) (fun _ _ _ _ _ _ us hl=>match us,hl with | [_],_=>rfl),W.mg_of X G qa3,
  F4,F4.binds (ps:=["cell"]) (fun _ _ _ _ _ _ us hl=>match us,hl with | [_],_=>rfl),W.mg_of X G qa4,
  F5,F5.binds (ps:=["text"]) (fun _ _ _ _ _ _ us hl=>match us,hl with | [_],_=>rfl),W.mg_of X G qa5,
  F6,F6.binds (ps:=["word"]) (fun _ _ _ _ _ _ us hl=>match us,hl with | [_],_=>rfl),W.mg_of X G qa6,
  F7,F7.binds (ps:=["thing"]) (fun _ _ _ _ _ _ us hl=>match us,hl with | [_],_=>rfl),W.mg_of X G qa7,
  F8,F8.binds (ps:=["text"]) (fun _ _ _ _ _ _ us hl=>match us,hl with | [_],_=>rfl),W.mg_of X G qa8,
  F9,F9.binds (ps:=["worth"]) (fun _ _ _ _ _ _ us hl=>match us,hl with | [_],_=>rfl),W.mg_of X G qa9,
  F10,F10.binds (ps:=["text"]) (fun _ _ _ _ _ _ us hl=>match us,hl with | [_],_=>rfl),W.mg_of X G qa10,
  F11,F11.binds (ps:=["text"]) (fun _ _ _ _ _ _ us hl=>match us,hl with | [_],_=>rfl),W.mg_of X G qa11,
  F12,F12.binds (ps:=["word"]) (fun _ _ _ _ _ _ us hl=>match us,hl with | [_],_=>rfl),W.mg_of X G qa12,
  F13,F13.binds (ps:=["words"]) (fun _ _ _ _ _ _ us hl=>match us,hl with | [_],_=>rfl),W.mg_of X G qa13,
  F14,F14.binds (ps:=["words"]) (fun _ _ _ _ _ _ us hl=>match us,hl with | [_],_=>rfl),W.mg_of X G qa14,
  F15,F15.binds (ps:=["word"]) (fun _ _ _ _ _ _ us hl=>match us,hl with | [_],_=>rfl),W.mg_of X G qa15,
  F16,F16.binds (ps:=["words","rows"]) (fun _ _ _ _ _ _ us hl=>match us,hl with | [_,_],_=>rfl),W.mg_of X G qa16,
  F17,F17.binds (ps:=["words","rows"]) (fun _ _ _ _ _ _ us hl=>match us,hl with | [_,_],_=>rfl),W.mg_of X G qa17,
  F18,F18.binds (ps:=["body"]) (fun _ _ _ _ _ _ us hl=>match us,hl with | [_],_=>rfl),W.mg_of X G qa18,
  F19,F19.binds (ps:=["text"]) (fun _ _ _ _ _ _ us hl=>match us,hl with | [_],_=>rfl),W.mg_of X G qa19,
  F20,F20.binds (ps:=["text"]) (fun _ _ _ _ _ _ us hl=>match us,hl with | [_],_=>rfl),W.mg_of X G qa20,
  F21,F21.binds (ps:=["text"]) (fun _ _ _ _ _ _ us hl=>match us,hl with | [_],_=>rfl),W.mg_of X G qa21,
  F22,F22.binds (ps:=["check","xs"]) (fun _ _ _ _ _ _ us hl=>match us,hl with | [_,_],_=>rfl),W.mg_of X G qa22,
  F23,F23.binds (ps:=["cell"]) (fun _ _ _ _ _ _ us hl=>match us,hl with | [_],_=>rfl),W.mg_of X G qa23,
  F24,F24.binds (ps:=["words","xs"]) (fun _ _ _ _ _ _ us hl=>match us,hl with | [_,_],_=>rfl),W.mg_of X G qa24,
  F25,F25.binds (ps:=["words","xs"]) (fun _ _ _ _ _ _ us hl=>match us,hl with | [_,_],_=>rfl),W.mg_of X G qa25,
  F26,F26.binds (ps:=["words","kind","xs"]) (fun _ _ _ _ _ _ us hl=>match us,hl with | [_,_,_],_=>rfl),W.mg_of X G qa26,
  F27,F27.binds (ps:=["body"]) (fun _ _ _ _ _ _ us hl=>match us,hl with | [_],_=>rfl),W.mg_of X G qa27,
  F28,F28.binds (ps:=["script"]) (fun _ _ _ _ _ _ us hl=>match us,hl with | [_],_=>rfl),W.mg_of X G qa28,
  fun s v=>.of_eq rfl,
  W.mg_none_of X G qz0,
  W.mg_none_of X G qz1,
  W.mg_none_of X G qz2,
  W.mg_none_of X G qz3,
  W.mg_none_of X G qz4,
  W.mg_none_of X G qz5,
  W.mg_none_of X G qz6,
  W.mg_none_of X G qz7,
  W.mg_none_of X G qz8,
  W.mg_none_of X G qz9,
  W.mg_none_of X G qz10,
  W.mg_none_of X G qz11,
  W.mg_none_of X G qz12,
  W.mg_none_of X G qz13,
  W.mg_none_of X G qz14,
  W.mg_of X G qg0,
  W.mg_of X G qg1,
  W.mg_of X G qg2,
  W.mg_of X G qg3,fun _=>.inr ⟨_,_,_,qh3,rfl,rfl,(by show 7≤sizeLine;decide),(.cons ⟨_,rfl⟩ (.cons ⟨_,rfl⟩ (.cons ⟨_,rfl⟩ (.cons ⟨_,rfl⟩ (.cons ⟨_,rfl⟩ (.cons ⟨_,rfl⟩ (.cons ⟨_,rfl⟩ .nil)))))))⟩,
  W.mg_of X G qg4,
  W.mg_of X G qg5,
  W.mg_of X G qg6,
  W.mg_of X G qg7,
  W.mg_of X G qg8,fun _=>.inr ⟨_,_,_,qh8,rfl,rfl,(by show 9≤sizeLine;decide),(.cons ⟨_,rfl⟩ (.cons ⟨_,rfl⟩ (.cons ⟨_,rfl⟩ (.cons ⟨_,rfl⟩ (.cons ⟨_,rfl⟩ (.cons ⟨_,rfl⟩ (.cons ⟨_,rfl⟩ (.cons ⟨_,rfl⟩ (.cons ⟨_,rfl⟩ .nil)))))))))⟩,
  W.mg_of X G qg9,fun _=>.inr ⟨_,_,_,qh9,rfl,rfl,(by show 3≤sizeLine;decide),(.cons ⟨_,rfl⟩ (.cons ⟨_,rfl⟩ (.cons ⟨_,rfl⟩ .nil)))⟩,
  W.mg_of X G qv0,
  W.mg_of X G qv1,
  W.mg_of X G qv2,
  W.mg_of X G qv3,
  W.mg_of X G qv4,
  W.mg_of X G qv5,
  W.mg_of X G qv6,
  W.mg_of X G qv7,
  W.mg_of X G qv8,
  W.mg_of X G qv9,
  W.mg_of X G qv10,
  rx0,
  ⟨⟨ry0_0,ry0_1,ry0_2,ry0_3,ry0_4,ry0_5,ry0_6⟩,by rw [ry0_7];rfl⟩,
  re0_0,
  re0_1,
  ri0_0,
  ri0_1,
  rj0_0,
  rj0_1,
  rx1,
  ⟨⟨ry1_0,ry1_1,ry1_2,ry1_3,ry1_4,ry1_5,ry1_6⟩,by rw [ry1_7];rfl⟩,
  re1_0,
  re1_1,
  ri1_0,
  ri1_1,
  rj1_0,
  rj1_1⟩⟩
def zcI (K:W.Frag):Prop:=W.kitOne K (.type "int") (.type "bool")=some false
def zbw (K:W.Frag) (H:Hp) (x:V):Prop:=∃ T b,qj K H x (.type T)∧W.kitOne K (.type T) (.type "int")=some b∧(b=true→W.kitOne K (.type T) (.type "bool")=some true)
structure KF (K:W.Frag):Prop where
 i_b:W.kitOne K (.type "int") (.type "bool")=some false
def wB (i:Int):Prop:=-1000000000000000000000000000000≤i∧i≤1000000000000000000000000000000
def rB (i:Int):Prop:=0≤i∧i≤100000000000000000000000000000
def drI (x:Int):Prop:=0≤x∧x < 3000000000
def Zh (q:Pl):Prop:=z6 q.1=true∧wB q.2
def PlV (H:Hp) (v:V) (q:Pl):Prop:=∃ p,v=.ref p∧H p=some (.tup [.str q.1,.int q.2])
def RwsAt (H:Hp) (a:Addr) (rows:List Row):Prop:=∃ xs,H a=some (.lst xs)∧Paired (ZM H) xs rows
open Classical in
noncomputable def Hid (F:Addr→Prop) (H:Hp):Hp:=fun b=>if F b then none else H b
def whyL:List Str:=["told","great","nought"]
def JL:Oc→Prop
 | .done sa=>sa.length≤8∧∀ i∈sa,wB i
 | .off w=>w∈whyL
structure Yy (rows:List Row):Prop where
 up:vJ rows
 le:rows.length≤10
 nm:∀ r∈rows,Zh r.1∧wB r.2
def Wd (w:Str):Prop:=w.length≤40∧Asc w∧32 ∉ w.cps.toList
def rwW (r:Row):List Str:=[r.1.1,zH r.1.2,zH r.2]
def wsR (rows:List Row):List Str:=rows.flatMap rwW
def ocW:Oc→List Str
 | .done sa=>"done" :: sa.map zH
 | .off w=>["off",w]
def ckL:Nat→List Nat→List Int
 | _,[]=>[]
 | i,c :: cs=>(c:Int) * (1 + (i:Int) % 1008) :: ckL (i + 1) cs
def Xc (z:Str):Int:=(ckL 0 z.cps.toList).sum % 1009
def va (z:Str):Str:=zfS (zH (Xc z)) 4
def Yz (r:Int) (oc:Oc) (gs:List Row):List Str:=("deal":Str) :: zH r :: (ocW oc ++ (";":Str) :: wsR gs)
def Wa (r:Int) (tb:List Row):List Str:=("mark":Str) :: zH r :: (";":Str) :: wsR tb
def kD (K:W.Frag):Sp:=fun vs H Q _=>∃ x,vs=[x]∧((∃ i,x=.int i∧∀ H',Same H H'→Q (.bl (inW i)) H')∨(zbw K H x∧∀ H',Same H H'→Q (.bl false) H'))
def qz:Sp:=fun vs H Q _=>∃ w,vs=[.int w]∧inW w=true∧∀ H',Same H H'→Q (.str (zH w)) H'
def je:Sp:=fun vs H Q _=>∃ x:Str,vs=[.str x]∧x.length≤1000∧∀ H',Same H H'→Q (.bl (vU x)) H'
def jf:Sp:=fun vs H Q _=>∃ x:Str,vs=[.str x]∧x.length≤1000∧∀ H',Same H H'→Q (.bl (yv x)) H'
def kE (t:Adr):Sp:=fun vs H Q E=>∃ x:Str,vs=[.str x]∧x.length≤1000∧Asc x∧∀ H',Same H H'→if yv x=true then Q (.int (yO x)) H' else E (.ref t.c_NoNumber) none H'
def qA:Sp:=fun vs H Q _=>∃ x:Str,vs=[.str x]∧x.length≤1000∧∀ H',Same H H'→Q (.bl (z6 x)) H'
def kF:Sp:=fun vs H Q _=>∃ z:Str,vs=[.str z]∧Asc z∧z.length≤20000∧∀ H',Same H H'→Q (.str (va z)) H'
def LnW (ws:List Str):Prop:=(∃ (r:Int) (oc:Oc) (gs:List Row),ws=Yz r oc gs∧rB r∧JL oc∧Yy gs∧∀ w,oc=.off w→gs=[])∨(∃ (r:Int) (tb:List Row),ws=Wa r tb∧rB r∧Yy tb∧∀ x∈tb,x.2≠0)
def Wx (w:Str):Prop:=w.length≤100∧Asc w∧32 ∉ w.cps.toList
def okWs (ws:List Str):Prop:=ws.length≤100∧∀ w∈ws,w.length≤1000∧Asc w
def rkP (w:Str):Prop:=yv w=true∧rB (yO w)
def ocP (ws:List Str):Prop:=(∃ r,ws=("done":Str) :: r∧∀ w∈r,yv w=true)∨(∃ w∈whyL,ws=[("off":Str),w])
def rwO:List Str→List Row
 | a :: b :: c :: r=>((a,yO b),yO c) :: rwO r
 | _=>[]
def trP:List Str→Prop
 | []=>True
 | a :: b :: c :: r=>(z6 a=true∧yv b=true∧yv c=true)∧trP r
 | _=>False
def rwP (ws:List Str):Prop:=trP ws∧vJ (rwO ws)
def dlP (a:List Str) (gs:List Row):Prop:=ocP (a.drop 2)∧(a[2]?=some ("off":Str)→gs=[])∧∃ w,a[1]?=some w∧rkP w
def mkP (a:List Str) (gs:List Row):Prop:=a.length=2∧(∀ r∈gs,r.2≠0)∧∃ w,a[1]?=some w∧rkP w
def lnP (ws:List Str):Prop:=∃ a b,ws=a ++ (";":Str) :: b∧(";":Str) ∉ a∧rwP b∧((a[0]?=some ("deal":Str)∧dlP a (rwO b))∨(a[0]?=some ("mark":Str)∧mkP a (rwO b)))
def vb (ws:List Str):Prop:=ws≠[]∧ws.length≤60∧(∀ w∈ws,Wx w)∧¬ lnP ws
def JM (x:Str):Prop:=Asc x∧x.length≤20000∧∃ p s d:Str,rpL x " "=[.str p,.str s,.str d]∧Asc p∧p.length≤20000∧(d=va p→okWs (Txt.split p " ")∧¬ lnP (Txt.split p " "))
def yI (t:Adr):Sp:=fun vs H Q E=>∃ x:Str,vs=[.str x]∧x.length≤1000∧Asc x∧(yv x=true→∀ H',Same H H'→Q (.int (yO x)) H')∧(¬ yv x=true→∀ H',Same H H'→E (.ref t.c_NoLine) none H')
def vL (t:Adr):Sp:=fun vs H Q E=>∃ x:Str,vs=[.str x]∧x.length≤1000∧Asc x∧(rkP x→∀ H',Same H H'→Q (.int (yO x)) H')∧(¬ rkP x→∀ H',Same H H'→E (.ref t.c_NoLine) none H')
def kG (t:Adr):Sp:=fun vs H Q E=>∃ x:Str,vs=[.str x]∧x.length≤1000∧Asc x∧(z6 x=true→∀ H',Same H H'→Q (.str x) H')∧(¬ z6 x=true→∀ H',Same H H'→E (.ref t.c_NoLine) none H')
def jg (t:Adr):Sp:=fun vs H Q E=>∃ (a:Addr) (ws:List Str),vs=[.ref a]∧H a=some (.lst (ws.map V.str))∧okWs ws∧(ocP ws→∀ o h y H',Same H H'→ws[0]?=some h→H' o=some (.tup [.str h,y])→Q (.ref o) H')∧(¬ ocP ws→∀ H',Same H H'→E (.ref t.c_NoLine) none H')
def qB (t:Adr):Sp:=fun vs H Q E=>∃ (a:Addr) (ws:List Str),vs=[.ref a]∧H a=some (.lst (ws.map V.str))∧okWs ws∧(rwP ws→∀ l H',Same H H'→RwsAt H' l (rwO ws)→Q (.ref l) H')∧(¬ rwP ws→∀ H',Same H H'→E (.ref t.c_NoLine) none H')
def qC (t:Adr):Sp:=fun vs H Q E=>∃ (a g:Addr) (ws:List Str) (gs:List Row),vs=[.ref a,.ref g]∧H a=some (.lst (ws.map V.str))∧okWs ws∧RwsAt H g gs∧(dlP ws gs→∀ p ys H',Same H H'→H' p=some (.tup (.str "deal" :: ys))→Q (.ref p) H')∧(¬ dlP ws gs→∀ H',Same H H'→E (.ref t.c_NoLine) none H')
def qD (t:Adr):Sp:=fun vs H Q E=>∃ (a g:Addr) (ws:List Str) (gs:List Row),vs=[.ref a,.ref g]∧H a=some (.lst (ws.map V.str))∧okWs ws∧RwsAt H g gs∧gs.length≤60∧(mkP ws gs→∀ p ys H',Same H H'→H' p=some (.tup (.str "mark" :: ys))→Q (.ref p) H')∧(¬ mkP ws gs→∀ H',Same H H'→E (.ref t.c_NoLine) none H')
def qF (t:Adr):Sp:=fun vs H Q E=>∃ x p s d:Str,vs=[.str x]∧Asc x∧x.length≤20000∧rpL x " "=[.str p,.str s,.str d]∧Asc p∧p.length≤20000∧(d=va p→∀ H',Same H H'→Q (.str p) H')∧(d≠va p→∀ H',Same H H'→E (.ref t.c_NoLine) none H')
def xS (t:Adr):Sp:=fun vs H Q E=>∃ x p s d:Str,vs=[.str x]∧Asc x∧x.length≤20000∧rpL x " "=[.str p,.str s,.str d]∧Asc p∧p.length≤20000∧(d=va p→okWs (Txt.split p " ")) ∧
 (d=va p∧lnP (Txt.split p " ")→∀ a h ys H',Same H H'→(Txt.split p " ")[0]?=some h→H' a=some (.tup (.str h :: ys))→Q (.ref a) H')∧(¬ (d=va p∧lnP (Txt.split p " "))→∀ H',Same H H'→E (.ref t.c_NoLine) none H')
def yK:Sp:=fun vs H Q _=>∃ c m,vs=[.int c,.int m]∧0≤m∧m≤64∧∀ l xs H',Same H H'→H l=none→H' l=some (.lst (List.map V.int xs))→(xs.length:Int)=m→(∀ x∈xs,drI x)→Q (.ref l) H'
def jX:Sp:=fun vs H Q _=>∃ c,vs=[.int c]∧Cw c∧∀ r H',Same H H'→rB r→Q (.int r) H'
def xh:Sp:=fun vs H Q _=>∃ z:Str,vs=[.str z]∧Asc z∧z.length≤20000∧∀ H',Same H H'→Q (.str (va z)) H'
def yj:Sp:=fun vs H Q _=>∃ c,vs=[.int c]∧Cw c∧∀ w H',Same H H'→wB w→Q (.int w) H'
def xT:Sp:=fun vs H Q _=>∃ c:Int,vs=[.int c]∧∀ n H',Same H H'→z6 n=true→Q (.str n) H'
def jh:Sp:=fun vs H Q _=>∃ c,vs=[.int c]∧Cb c∧∀ l ws H',Same H H'→H' l=some (.lst (ws.map V.str))→LnW ws→Q (.ref l) H'
def oddL:List Str:=["","-","-0","00","007","+1","1x","A","Q7","abcdefg","take","times","as","Done",";;","1.0","1000000000000000000000000000001","-1000000000000000000000000000001","9999999999999999999999999999999999999999","a1","a;","mark1","deal!","1_0"]
def w4:Sp:=fun vs H Q _=>∃ c:Int,vs=[.int c]∧∀ w H',Same H H'→w∈oddL→Q (.str w) H'
def dr3 (H:Hp) (l:Addr):Prop:=∃ x y z:Int,H l=some (.lst [.int x,.int y,.int z])∧drI x∧drI y∧drI z
def vc:Sp:=fun vs H Q _=>∃ (a l:Addr) (ws:List Str),vs=[.ref a,.ref l]∧H a=some (.lst (ws.map V.str))∧LnW ws∧dr3 H l∧∀ b zs H',Same H H'→H' b=some (.lst (zs.map V.str))→vb zs→Q (.ref b) H'
def jj:Sp:=fun vs H Q _=>∃ (a l:Addr) (ws:List Str),vs=[.ref a,.ref l]∧H a=some (.lst (ws.map V.str))∧LnW ws∧dr3 H l∧∀ b zs H',Same H H'→H' b=some (.lst (zs.map V.str))→vb zs→Q (.ref b) H'
def vM:Sp:=fun vs H Q _=>∃ (a l:Addr) (k:Int) (ws:List Str),vs=[.ref a,.int k,.ref l]∧H a=some (.lst (ws.map V.str))∧LnW ws∧dr3 H l∧∀ b zs H',Same H H'→H' b=some (.lst (zs.map V.str))→vb zs→Q (.ref b) H'
def QJ (c z:Str):Prop:=Asc z∧z.length≤5∧((32 ∉ z.cps.toList∧z≠c)∨∃ z1 z2:Str,z=z1 ++ " " ++ z2∧32 ∉ z2.cps.toList∧(z2.length≠4∨(z1=""∧z2=c)))
def xz:Sp:=fun vs H Q _=>∃ (c:Str) (l:Addr),vs=[.str c,.ref l]∧c.length=4∧Asc c∧32 ∉ c.cps.toList∧dr3 H l∧∀ z H',Same H H'→QJ c z→Q (.str z) H'
def xb (t:Adr):Sp:=fun vs H Q _=>∃ x:Str,vs=[.str x]∧JM x∧∀ H',Same H H'→Q (.bl true) H'
def sp_law (K:W.Frag):Sp:=fun vs H Q _=>∃ (a:Addr) (ns:List Int),vs=[.ref a]∧SqL K H a (ns.map V.int)∧ns.length≤63∧(∀ i∈ns,Cb i)∧∀ H',Q (.bl true) H'
def jk (K:W.Frag) (t:Adr):TS:=(zv (zE (tOp (rI0 fun i j=>.int (i + j)) (tOp (rI (fun _ j=>0 < j) fun i j=>.int (i % j)) (zg 0) (tC (.int 999999937))) (tC (.int 1))) (zo 2))
  (zv (zE (tOp (rI0 fun i j=>.int (i + j)) (tOp (rI (fun _ j=>0 < j) fun i j=>.int (i % j)) (tOp (rI vD fun i j=>.int (i / j)) (zg 0) (tC (.int 999999937))) (tC (.int 999999929))) (tC (.int 2))) (zo 3))
  (zv (zE (z8 zm) (zo 4))
  (zv (we (wU (zd (zg 1) zm)) (zo 5)
    (zv (zE (tOp (rI (fun _ j=>0 < j) fun i j=>.int (i % j)) (tOp (rI0 fun i j=>.int (i + j)) (tOp (rI0 fun i j=>.int (i + j)) (tOp (rI CMulB fun i j=>.int (i * j)) (zg 2) (tC (.int 40009))) (zg 3)) (zg 5)) (tC (.int 999999937))) (zo 2))
  (zv (zE (tOp (rI (fun _ j=>0 < j) fun i j=>.int (i % j)) (tOp (rI0 fun i j=>.int (i + j)) (tOp (rI CMulB fun i j=>.int (i * j)) (zg 3) (tC (.int 31))) (tOp (rI CMulB fun i j=>.int (i * j)) (zg 2) (zg 2))) (tC (.int 999999929))) (zo 3))
  (Z7 (tBM K "list" xH (zg 4) (zd (tOp (rI0 fun i j=>.int (i + j)) (zg 2) (zg 3)) zm))))))
  (zC (zg 4))))))
def vd (K:W.Frag) (t:Adr):TS:=(zv (zL (zw (tOp rEq (tOp (rI (fun _ j=>0 < j) fun i j=>.int (i % j)) (zg 0) (tC (.int 4))) (tC (.int 1))))
   (zC (tOp (zG K) (z8 (zd (tOp (rI qh fun i j=>.int (i ^ j.toNat)) (tC (.int 10)) (tC (.int 30))) (zd (tUn (rU fun i=>.int (-i)) (tOp (rI qh fun i j=>.int (i ^ j.toNat)) (tC (.int 10)) (tC (.int 30)))) (zd (tC (.int 0)) (zd (tC (.int 64)) (zd (tUn (rU fun i=>.int (-i)) (tC (.int 64))) (zd (tC (.int 1)) (zd (tUn (rU fun i=>.int (-i)) (tC (.int 1))) (zd (tC (.int 10)) zm))))))))) (tOp (rI (fun _ j=>0 < j) fun i j=>.int (i % j)) (zg 1) (tC (.int 8)))))
   zy)
  (zC (tOp (rI0 fun i j=>.int (i - j)) (tOp (rI (fun _ j=>0 < j) fun i j=>.int (i % j)) (zg 1) (tC (.int 7))) (tC (.int 3)))))
def jm (K:W.Frag) (t:Adr):TS:=(zv (zE (tOp (rI vD fun i j=>.int (i / j)) (zg 0) (tC (.int 4))) (zo 1))
  (zv (zL (xq (zw (tOp rEq (tOp (rI (fun _ j=>0 < j) fun i j=>.int (i % j)) (zg 0) (tC (.int 4))) (tC (.int 0)))) (zw (tOp rEq (tOp (rI (fun _ j=>0 < j) fun i j=>.int (i % j)) (zg 1) (tC (.int 3))) (tC (.int 0)))))
    (zC (tOp (rI0 fun i j=>.int (i - j)) (tOp (rI (fun _ j=>0 < j) fun i j=>.int (i % j)) (tOp (rI CMulC fun i j=>.int (i * j)) (tOp (rI vD fun i j=>.int (i / j)) (zg 1) (tC (.int 3))) (tC (.int 618033988749894848204586834365))) (tOp (rI0 fun i j=>.int (i + j)) (tOp (rI CMulC fun i j=>.int (i * j)) (tC (.int 2)) (tOp (rI qh fun i j=>.int (i ^ j.toNat)) (tC (.int 10)) (tC (.int 30)))) (tC (.int 1)))) (tOp (rI qh fun i j=>.int (i ^ j.toNat)) (tC (.int 10)) (tC (.int 30)))))
    zy)
  (vd K t)))
def jY (K:W.Frag) (t:Adr):TS:=(zv (zL (zw (tOp rEq (tOp (rI (fun _ j=>0 < j) fun i j=>.int (i % j)) (zg 0) (tC (.int 8))) (tC (.int 0))))
   (zC (tOp (rI (fun _ j=>0 < j) fun i j=>.int (i % j)) (tOp (rI CMulC fun i j=>.int (i * j)) (tOp (rI vD fun i j=>.int (i / j)) (zg 0) (tC (.int 8))) (tC (.int 618033988749894848204586834365))) (tOp (rI0 fun i j=>.int (i + j)) (tOp (rI qh fun i j=>.int (i ^ j.toNat)) (tC (.int 10)) (tC (.int 29))) (tC (.int 1)))))
   zy)
  (zv (zL (zw (tOp rEq (tOp (rI (fun _ j=>0 < j) fun i j=>.int (i % j)) (zg 0) (tC (.int 8))) (tC (.int 1))))
    (zC (tOp (rI qh fun i j=>.int (i ^ j.toNat)) (tC (.int 10)) (tC (.int 29))))
    zy)
  (zC (tOp (rI (fun _ j=>0 < j) fun i j=>.int (i % j)) (tOp (rI vD fun i j=>.int (i / j)) (zg 0) (tC (.int 8))) (tC (.int 100))))))
def vN (K:W.Frag) (t:Adr):TS:=(zv (we (wU (zd (tOp (rI0 fun i j=>.int (i + j)) (tC (.int 1)) (tOp (rI (fun _ j=>0 < j) fun i j=>.int (i % j)) (zg 0) (tC (.int 6)))) zm)) (zo 5)
   (zE (tOp yn (zg 4) (tOp jO (zg 1) (tOp (rI (fun _ j=>0 < j) fun i j=>.int (i % j)) (tOp (zG K) (zg 3) (zg 5)) (tC (.int 26))))) (zo 4)))
  (zv (zL (zw (tOp (rIn K false) (zg 4) (zg 2)))
    (zE (tOp yn (tSl vE (zg 4) zu (zF (tUn (rU fun i=>.int (-i)) (tC (.int 1))))) (tC (.str "q"))) (zo 4))
    zy)
  (zC (zg 4))))
def kH (K:W.Frag) (t:Adr):TS:=(zv (zE (tC (.str "")) (zo 4))
  (vN K t))
def jZ (K:W.Frag) (t:Adr):TS:=(zv (zE (tC (.str "abcdefghijklmnopqrstuvwxyz")) (zo 1))
  (zv (zE (z8 (zd (tC (.str "take")) (zd (tC (.str "give")) (zd (tC (.str "let")) (zd (tC (.str "say")) (zd (tC (.str "off")) (zd (tC (.str "if")) (zd (tC (.str "else")) (zd (tC (.str "end")) (zd (tC (.str "as")) zm)))))))))) (zo 2))
  (zv (zE (tOp zP (zg 2) (z8 (zd (tC (.str "plus")) (zd (tC (.str "minus")) (zd (tC (.str "times")) (zd (tC (.str "over")) (zd (tC (.str "rest")) (zd (tC (.str "under")) (zd (tC (.str "same")) zm))))))))) (zo 2))
  (zv (zE (zB yK [] E0 (zd (tOp (rI vD fun i j=>.int (i / j)) (zg 0) (tC (.int 6))) (zd (tC (.int 6)) zm))) (zo 3))
  (kH K t)))))
def ve (K:W.Frag) (t:Adr):TS:=(zE (tOp zP (zg 2) (z8 (zd (tOp (yG K) (zg 6) (tC (.int 0))) (zd (tCB y8 (zd (tOp (yG K) (zg 6) (tC (.int 1))) zm)) (zd (tCB y8 (zd (qd (zg 3) (zg 6)) zm)) zm))))) (zo 2))
def vf (K:W.Frag) (t:Adr):TS:=(zv (zE (zB yj [] E0 (zd (tOp (zG K) (zg 1) (tOp (rI0 fun i j=>.int (i + j)) (tC (.int 4)) (zg 4))) zm)) (zo 5))
  (zv (zE (xN (zd (zB xT [] E0 (zd (tOp (rI vD fun i j=>.int (i / j)) (tOp (zG K) (zg 1) (tC (.int 3))) (tOp (rI0 fun i j=>.int (i + j)) (tC (.int 4)) (zg 4))) zm)) (zd (zB yj [] E0 (zd (tOp (rI vD fun i j=>.int (i / j)) (tOp (zG K) (zg 1) (tOp (rI0 fun i j=>.int (i + j)) (tC (.int 5)) (tOp (rI (fun _ j=>0 < j) fun i j=>.int (i % j)) (zg 4) (tC (.int 3))))) (tC (.int 16))) zm)) zm))) (zo 6))
  (qU (zg 3) (zg 6) (tIf (zw (tOp rNe (zg 5) (tC (.int 0)))) (zg 5) (tC (.int 5))))))
def vg (K:W.Frag) (t:Adr):TS:=(zE (tOp zP (tOp zP (zg 2) (z8 (zd (tC (.str "done")) zm))) (y6 (xn K (tSl (yl K) (zg 1) (zF (tC (.int 1))) (zF (tOp (rI0 fun i j=>.int (i + j)) (tC (.int 1)) (tOp (rI (fun _ j=>0 < j) fun i j=>.int (i % j)) (tOp (rI vD fun i j=>.int (i / j)) (tOp (zG K) (zg 1) (tC (.int 0))) (tC (.int 4))) (tC (.int 3))))))) (zo 0) v7 (tCB y8 (zd (zB yj [] E0 (zd (zg 0) zm)) zm)) 1 [])) (zo 2))
def vi (K:W.Frag) (t:Adr):TS:=(zv (we (xn K (tCB qZ (zd (zg 3) zm))) (zo 6)
   (ve K t))
  (zC (zg 2)))
def kc (K:W.Frag) (t:Adr):TS:=(zv (zE (tOp zP (zg 2) (z8 (zd (tC (.str ";")) zm))) (zo 2))
  (vi K t))
def ke (K:W.Frag) (t:Adr):TS:=(zv (we (wU (zd (tOp (rI (fun _ j=>0 < j) fun i j=>.int (i % j)) (tOp (zG K) (zg 1) (tC (.int 3))) (tC (.int 4))) zm)) (zo 4)
   (vf K t))
  (kc K t))
def vj (K:W.Frag) (t:Adr):TS:=(zv (zE kx (zo 3))
  (ke K t))
def kg (K:W.Frag) (t:Adr):TS:=(zv (zL (zw (tOp rEq (tOp (rI (fun _ j=>0 < j) fun i j=>.int (i % j)) (tOp (zG K) (zg 1) (tC (.int 0))) (tC (.int 4))) (tC (.int 1))))
   (Vw (zg 2) (tC (.int 0)) (tC (.str "mark")))
   (vg K t))
  (vj K t))
def kh (K:W.Frag) (t:Adr):TS:=(zv (zL (zw (tOp rEq (tOp (rI (fun _ j=>0 < j) fun i j=>.int (i % j)) (tOp (zG K) (zg 1) (tC (.int 0))) (tC (.int 4))) (tC (.int 0))))
   (zC (tOp zP (zg 2) (z8 (zd (tC (.str "off")) (zd (tOp (zG K) (z8 (zd (tC (.str "told")) (zd (tC (.str "great")) (zd (tC (.str "nought")) zm)))) (tOp (rI (fun _ j=>0 < j) fun i j=>.int (i % j)) (tOp (rI vD fun i j=>.int (i / j)) (tOp (zG K) (zg 1) (tC (.int 0))) (tC (.int 4))) (tC (.int 3)))) (zd (tC (.str ";")) zm))))))
   zy)
  (kg K t))
def jn (K:W.Frag) (t:Adr):TS:=(zv (zE (zB yK [] E0 (zd (zg 0) (zd (tC (.int 8)) zm))) (zo 1))
  (zv (zE (z8 (zd (tC (.str "deal")) (zd (tCB y8 (zd (zB jX [] E0 (zd (zg 0) zm)) zm)) zm))) (zo 2))
  (kh K t)))
def qG (K:W.Frag) (t:Adr):TS:=(zv (zL (tOr (zw (tOp rEq (zg 0) (tC (.str "")))) (zw (tOp (rI0 fun i j=>.bl (decide (j < i))) (tCB (yT K) (zd (zg 0) zm)) (tC (.int 6)))))
   (zC (tC (.bl false)))
   zy)
  (zv (zL (tOr (zw (tOp (rIn K false) (zg 0) (tC (.ref t.c_JOINING)))) (zw (tOp (rIn K false) (zg 0) (tC (.ref t.c_ROW_WORDS)))))
    (zC (tC (.bl false)))
    zy)
  (zC (tCB (zaa K) (zd (y6 (Jn (zg 0)) (zo 0) v7 (tOp zb6 (zg 0) (tC (.str "abcdefghijklmnopqrstuvwxyz"))) 1 []) zm)))))
def kI (K:W.Frag) (t:Adr) (E:XK):TS:=(zv (zL (jJ (tB (zB qA [] E (zd (zg 0) zm))))
   (yi t.c_NoLine (zd (vt (zg 0)) zm) E)
   zy)
  (zC (zg 0)))
def kJ (K:W.Frag) (t:Adr):TS:=(zv (zL (tOr (jJ (tB (tCB (ZL K) (zd (zg 0) (zd (tC (.ty "int")) zm))))) (tB (tCB (ZL K) (zd (zg 0) (zd (tC (.ty "bool")) zm)))))
   (zC (tC (.bl false)))
   zy)
  (zC (Jg (rI0 fun i j=>.bl (decide (i≤j))) (rI0 fun i j=>.bl (decide (i≤j))) (tUn (rU fun i=>.int (-i)) (tOp (rI qh fun i j=>.int (i ^ j.toNat)) (tC (.int 10)) (tC (.int 30)))) (zg 0) (tOp (rI qh fun i j=>.int (i ^ j.toNat)) (tC (.int 10)) (tC (.int 30))))))
def jo (K:W.Frag) (t:Adr):TS:=(zC (qc (tOp rNe (zg 0) (tC (.str ""))) (tCB (zaa K) (zd (y6 (Jn (zg 0)) (zo 0) v7 (tOp zb6 (zg 0) (tC (.str "0123456789"))) 1 []) zm))))
def qH (K:W.Frag) (t:Adr):TS:=(zC (tCB y8 (zd (zg 0) zm)))
def jp (K:W.Frag) (t:Adr):TS:=(zv (zE (tIf (tB (tBM K "str" w5 (zg 0) (zd (tC (.str "-")) zm))) (tSl vE (zg 0) (zF (tC (.int 1))) zu) (zg 0)) (zo 1))
  (zv (zL (tOr (zw (tOp (rI0 fun i j=>.bl (decide (j < i))) (tCB (yT K) (zd (zg 1) zm)) (tC (.int 31)))) (jJ (tB (zB je [] E0 (zd (zg 1) zm)))))
    (zC (tC (.bl false)))
    zy)
  (zv (zE (tCB zab (zd (zg 0) zm)) (zo 2))
  (zC (qc (zB (kD K) [] E0 (zd (zg 2) zm)) (tOp rEq (zB qz [] E0 (zd (zg 2) zm)) (zg 0)))))))
def kK (K:W.Frag) (t:Adr) (E:XK):TS:=(zv (zL (jJ (tB (zB jf [] E0 (zd (zg 0) zm))))
   (yi t.c_NoNumber (zd (vt (zg 0)) zm) E)
   zy)
  (zC (tCB zab (zd (zg 0) zm))))
def j3 (K:W.Frag) (t:Adr) (E:XK):TS:=(JH (ql (kE t) (zd (zg 0) zm)) t.c_NoNumber t.c_NoLine 1 (zd (vt (zg 0)) zm) E)
def j4 (K:W.Frag) (t:Adr) (E:XK):TS:=(zv (zE (xN (zd (zB (kG t) [] E (zd (tOp (zG K) (zg 0) (zg 2)) zm)) (zd (zB (yI t) [] E (zd (tOp (zG K) (zg 0) (tOp (rI0 fun i j=>.int (i + j)) (zg 2) (tC (.int 1)))) zm)) zm))) (zo 3))
  (Z7 (tBM K "list" xH (zg 1) (zd (xN (zd (zg 3) (zd (zB (yI t) [] E (zd (tOp (zG K) (zg 0) (tOp (rI0 fun i j=>.int (i + j)) (zg 2) (tC (.int 2)))) zm)) zm))) zm))))
def j5 (K:W.Frag) (t:Adr) (E:XK):TS:=(zv (zL (zw (tOp (zaG K true) (zg 4) (VJ K (zd (zg 4) zm))))
   (yi t.c_NoLine (zd (tC (.str "a place twice, or places out of order")) zm) E)
   zy)
  (zC (zg 1)))
def j6 (K:W.Frag) (t:Adr) (E:XK):TS:=(zv (zE (y6 (xn K (zg 1)) (Y1 K 2 (jv (zo 0) (jv (zo 1) Y0))) v7 (zg 0) 2 []) (zo 4))
  (j5 K t E))
def qI (K:W.Frag) (t:Adr) (E:XK):TS:=(zv (zL (zw (tOp rNe (tOp (rI (fun _ j=>0 < j) fun i j=>.int (i % j)) (tCB (yT K) (zd (zg 0) zm)) (tC (.int 3))) (tC (.int 0))))
   (yi t.c_NoLine (zd (tC (.str "not three words for each place")) zm) E)
   zy)
  (zv (zE (z8 zm) (zo 1))
  (zv (we (Yp (zd (tC (.int 0)) (zd (tCB (yT K) (zd (zg 0) zm)) (zd (tC (.int 3)) zm)))) (zo 2)
    (j4 K t E))
  (j6 K t E))))
def xD (K:W.Frag) (t:Adr) (E:XK):TS:=(yi t.c_NoLine (zd (Yx (zg 0)) zm) E)
def vk (K:W.Frag) (t:Adr) (E:XK):TS:=(zv (zL (xq (zw (tOp rEq (tCB (yT K) (zd (zg 0) zm)) (tC (.int 2)))) (xq (zw (tOp rEq (tOp (zG K) (zg 0) (tC (.int 0))) (tC (.str "off")))) (zw (tOp (rIn K false) (tOp (zG K) (zg 0) (tC (.int 1))) (tC (.ref t.c_WHYS))))))
   (zC (xN (zd (tC (.str "off")) (zd (tOp (zG K) (zg 0) (tC (.int 1))) zm))))
   zy)
  (xD K t E))
def jq (K:W.Frag) (t:Adr) (E:XK):TS:=(zv (zL (zw (tOp (zce K false) (tSl (yl K) (zg 0) zu (zF (tC (.int 1)))) (z8 (zd (tC (.str "done")) zm))))
   (zC (xN (zd (tC (.str "done")) (zd (tCB (zew K) (zd (y6 (xn K (tSl (yl K) (zg 0) (zF (tC (.int 1))) zu)) (zo 0) v7 (zB (yI t) [] E (zd (zg 0) zm)) 1 []) zm)) zm))))
   zy)
  (vk K t E))
def qJ (K:W.Frag) (t:Adr) (E:XK):TS:=(zv (zE (zB (yI t) [] E (zd (zg 0) zm)) (zo 1))
  (zv (zL (tOr (zw (tOp (rI0 fun i j=>.bl (decide (i < j))) (zg 1) (tC (.int 0)))) (zw (tOp (rI0 fun i j=>.bl (decide (j < i))) (zg 1) (tOp (rI qh fun i j=>.int (i ^ j.toNat)) (tC (.int 10)) (tC (.int 29))))))
    (yi t.c_NoLine (zd (vt (zg 0)) zm) E)
    zy)
  (zC (zg 1))))
def j7 (K:W.Frag) (t:Adr) (E:XK):TS:=(zC (xN (zd (tC (.str "deal")) (zd (zB (vL t) [] E (zd (tOp (zG K) (zg 0) (tC (.int 1))) zm)) (zd (zg 2) (zd (zg 1) zm))))))
def Zi (K:W.Frag) (t:Adr) (E:XK):TS:=(zv (zL (xq (zw (tOp rEq (tOp (yG K) (zg 2) (tC (.int 0))) (tC (.str "off")))) (zw (tOp (Wy K) (zg 1) (z8 zm))))
   (yi t.c_NoLine (zd (tC (.str "a dealing that was broken off, with gifts")) zm) E)
   zy)
  (j7 K t E))
def qK (K:W.Frag) (t:Adr) (E:XK):TS:=(zv (zE (zB (jg t) [] E (zd (tSl (yl K) (zg 0) (zF (tC (.int 2))) zu) zm)) (zo 2))
  (Zi K t E))
def Zj (K:W.Frag) (t:Adr) (E:XK):TS:=(zC (xN (zd (tC (.str "mark")) (zd (zB (vL t) [] E (zd (tOp (zG K) (zg 0) (tC (.int 1))) zm)) (zd (zg 1) zm)))))
def Zk (K:W.Frag) (t:Adr) (E:XK):TS:=(zv (zL (tB (tCB (zaX K) (zd (y6 (xn K (zg 1)) (Y1 K 2 (jv (zo 0) (jv (zo 1) Y0))) v7 (tOp rEq (zg 1) (tC (.int 0))) 2 []) zm)))
   (yi t.c_NoLine (zd (tC (.str "a mark with a worth of 0")) zm) E)
   zy)
  (Zj K t E))
def qL (K:W.Frag) (t:Adr) (E:XK):TS:=(zv (zL (zw (tOp rNe (tCB (yT K) (zd (zg 0) zm)) (tC (.int 2))))
   (yi t.c_NoLine (zd (tC (.str "a mark without one rank")) zm) E)
   zy)
  (Zk K t E))
def kL (K:W.Frag) (t:Adr):TS:=(zv (zE (tCB (zaV K) (zd (y6 (zbd (zd (zg 0) zm)) (Y1 K 2 (jv (zo 0) (jv (zo 1) Y0))) v7 (tOp (rI CMulB fun i j=>.int (i * j)) (tCB zbf (zd (zg 1) zm)) (tOp (rI0 fun i j=>.int (i + j)) (tC (.int 1)) (tOp (rI (fun _ j=>0 < j) fun i j=>.int (i % j)) (zg 0) (tC (.int 1008))))) 2 []) zm)) (zo 1))
  (zC (tBM K "str" qy (tCB y8 (zd (tOp (rI (fun _ j=>0 < j) fun i j=>.int (i % j)) (zg 1) (tC (.int 1009))) zm)) (zd (tC (.int 4)) zm))))
def qM (K:W.Frag) (t:Adr) (E:XK):TS:=(zv (zE (tBM K "str" w6 (zg 0) (zd (tC (.str " ")) zm)) (zo 1))
  (zv (zL (zw (tOp rNe (tOp (yG K) (zg 1) (tC (.int 2))) (zB kF [] E (zd (tOp (yG K) (zg 1) (tC (.int 0))) zm))))
    (yi t.c_NoLine (zd (vt (zg 0)) zm) E)
    zy)
  (zC (tOp (yG K) (zg 1) (tC (.int 0))))))
def vO (K:W.Frag) (t:Adr) (E:XK):TS:=(zv (zL (zw (tOp rEq (tOp (zG K) (zg 1) (tC (.int 0))) (tC (.str "deal"))))
   (zC (zB (qC t) [] E (zd (tSl (yl K) (zg 1) zu (zF (zg 2))) (zd (zg 3) zm))))
   zy)
  (zv (zL (zw (tOp rEq (tOp (zG K) (zg 1) (tC (.int 0))) (tC (.str "mark"))))
    (zC (zB (qD t) [] E (zd (tSl (yl K) (zg 1) zu (zF (zg 2))) (zd (zg 3) zm))))
    zy)
  (yi t.c_NoLine (zd (vt (zg 0)) zm) E)))
def kM (K:W.Frag) (t:Adr) (E:XK):TS:=(zv (zE (zB (qB t) [] E (zd (tSl (yl K) (zg 1) (zF (tOp (rI0 fun i j=>.int (i + j)) (zg 2) (tC (.int 1)))) zu) zm)) (zo 3))
  (vO K t E))
def vP (K:W.Frag) (t:Adr) (E:XK):TS:=(zv (zL (zw (tOp (rIn K true) (tC (.str ";")) (zg 1)))
   (yi t.c_NoLine (zd (tC (.str "a line without its ;")) zm) E)
   zy)
  (zv (zE (tBM K "list" zR (zg 1) (zd (tC (.str ";")) zm)) (zo 2))
  (kM K t E)))
def j8 (K:W.Frag) (t:Adr) (E:XK):TS:=(zv (zE (tBM K "str" qv (zB (qF t) [] E (zd (zg 0) zm)) (zd (tC (.str " ")) zm)) (zo 1))
  (vP K t E))
def vW (K:W.Frag) (t:Adr):TS:=(zC (qc (zg 1) (qc (W0 (zg 2)) (W0 (zg 3)))))
def vm (K:W.Frag) (t:Adr):TS:=(zv (zE (tC (.bl false)) (zo 1))
  (zv (zE (tC (.bl false)) (zo 2))
  (zv (zE (tC (.bl false)) (zo 3))
  (zv (zai K (Wr (ql (xS t) (zd (zg 0) zm))) t.c_ForerunError 4 (zv (zE (qc (tCB (zaj K) (zd (zg 4) (zd (tC (.ref t.c_NoLine)) zm))) (tCB (zaj K) (zd (zg 4) (zd (tC (.ty "ValueError")) zm)))) (zo 1))
  (zv (zE (tCB (Vf K) (zd (zg 4) (zd (xN (zd (tC (.ref t.c_NoNumber)) (zd (tC (.ref t.c_NoTerm)) (zd (tC (.ref t.c_NoDealing)) (zd (tC (.ref t.c_Nought)) (zd (tC (.ref t.c_Great)) zm)))))) zm))) (zo 2))
  (zE (tCB (Vf K) (zd (zg 4) (zd (xN (zd (tC (.ref t.c_Folded)) (zd (tC (.ref t.c_NoHand)) (zd (tC (.ref t.c_NoOrder)) (zd (tC (.ref t.c_NoLog)) zm))))) zm))) (zo 3)))))
  (vW K t)))))
def wg (K:W.Frag) (t:Adr):TS:=(zC (tOp yn (tSl vE (zg 0) zu (zF (zg 4))) (tSl vE (zg 0) (zF (tOp (rI0 fun i j=>.int (i + j)) (zg 4) (tC (.int 1)))) zu)))
def wj (K:W.Frag) (t:Adr):TS:=(zv (zE (tOp (rI (fun _ j=>0 < j) fun i j=>.int (i % j)) (tOp (zG K) (zg 1) (tC (.int 0))) (tC (.int 5))) (zo 4))
  (zC (tOp yn (tOp yn (tSl vE (zg 0) zu (zF (zg 4))) (tOp jO (zg 2) (zg 3))) (tSl vE (zg 0) (zF (zg 4)) zu))))
def xk (K:W.Frag) (t:Adr):TS:=(zC (tOp yn (tOp yn (tSl vE (zg 0) zu (zF (zg 4))) (tOp jO (zg 2) (zg 3))) (tSl vE (zg 0) (zF (tOp (rI0 fun i j=>.int (i + j)) (zg 4) (tC (.int 1)))) zu)))
def wm (K:W.Frag) (t:Adr):TS:=(zv (zL (zw (tOp rEq (tOp jO (zg 2) (zg 3)) (tOp jO (zg 0) (zg 4))))
   (zE (tOp (rI (fun _ j=>0 < j) fun i j=>.int (i % j)) (tOp (rI0 fun i j=>.int (i + j)) (zg 3) (tC (.int 1))) (tC (.int 16))) (zo 3))
   zy)
  (xk K t))
def wn (K:W.Frag) (t:Adr):TS:=(zv (zL (zw (tOp rEq (tOp (rI (fun _ j=>0 < j) fun i j=>.int (i % j)) (tOp (zG K) (zg 1) (tC (.int 2))) (tC (.int 3))) (tC (.int 1))))
   (wg K t)
   zy)
  (wm K t))
def xm (K:W.Frag) (t:Adr):TS:=(zv (zE (tOp (rI (fun _ j=>0 < j) fun i j=>.int (i % j)) (tOp (zG K) (zg 1) (tC (.int 0))) (tC (.int 4))) (zo 4))
  (wn K t))
def wp (K:W.Frag) (t:Adr):TS:=(zv (zL (zw (tOp rEq (tOp (rI (fun _ j=>0 < j) fun i j=>.int (i % j)) (tOp (zG K) (zg 1) (tC (.int 2))) (tC (.int 3))) (tC (.int 0))))
   (wj K t)
   zy)
  (xm K t))
def xA (K:W.Frag) (t:Adr):TS:=(zv (zE (tC (.str "0123456789+-_ \n\t")) (zo 2))
  (zv (zE (tOp (rI (fun _ j=>0 < j) fun i j=>.int (i % j)) (tOp (zG K) (zg 1) (tC (.int 1))) (tC (.int 16))) (zo 3))
  (wp K t)))
def kN (K:W.Frag) (t:Adr):TS:=(zv (zE (z8 (zd (tC (.str "")) (zd (tC (.str "-")) (zd (tC (.str "-0")) (zd (tC (.str "00")) (zd (tC (.str "007")) (zd (tC (.str "+1")) (zd (tC (.str "1x")) (zd (tC (.str "A")) (zd (tC (.str "Q7")) (zd (tC (.str "abcdefg")) (zd (tC (.str "take")) zm)))))))))))) (zo 1))
  (zv (zE (tOp zP (zg 1) (z8 (zd (tC (.str "times")) (zd (tC (.str "as")) (zd (tC (.str "Done")) (zd (tC (.str ";;")) (zd (tC (.str "1.0")) (zd (tCB y8 (zd (tOp (rI0 fun i j=>.int (i + j)) (tOp (rI qh fun i j=>.int (i ^ j.toNat)) (tC (.int 10)) (tC (.int 30))) (tC (.int 1))) zm)) zm)))))))) (zo 1))
  (zv (zE (tOp zP (zg 1) (z8 (zd (tCB y8 (zd (tOp (rI0 fun i j=>.int (i - j)) (tUn (rU fun i=>.int (-i)) (tOp (rI qh fun i j=>.int (i ^ j.toNat)) (tC (.int 10)) (tC (.int 30)))) (tC (.int 1))) zm)) (zd (tOp Vh (tC (.str "9")) (tC (.int 40))) (zd (tC (.str "a1")) (zd (tC (.str "a;")) (zd (tC (.str "mark1")) (zd (tC (.str "deal!")) (zd (tC (.str "1_0")) zm))))))))) (zo 1))
  (zC (tOp (zG K) (zg 1) (tOp (rI (fun _ j=>0 < j) fun i j=>.int (i % j)) (zg 0) (tC (.int 24))))))))
def xU (K:W.Frag) (t:Adr):TS:=(zC (tOp zP (tOp zP (tSl (yl K) (zg 0) zu (zF (zg 2))) (z8 (zd (tC (.str ";")) zm))) (tSl (yl K) (zg 0) (zF (zg 2)) zu)))
def vX (K:W.Frag) (t:Adr):TS:=(zC (tOp zP (tOp zP (tSl (yl K) (zg 0) zu (zF (zg 2))) (z8 (zd (zB w4 [] E0 (zd (tOp (zG K) (zg 1) (tC (.int 2))) zm)) zm))) (tSl (yl K) (zg 0) (zF (tOp (rI0 fun i j=>.int (i + j)) (zg 2) (tC (.int 1)))) zu)))
def xV (K:W.Frag) (t:Adr):TS:=(zC (tOp zP (tOp zP (tSl (yl K) (zg 0) zu (zF (tBM K "list" zR (zg 0) (zd (tC (.str ";")) zm)))) (z8 (zd (tOp (zG K) (z8 (zd (tC (.str "7")) (zd (tC (.str "0")) zm))) (tOp (rI (fun _ j=>0 < j) fun i j=>.int (i % j)) (tOp (zG K) (zg 1) (tC (.int 2))) (tC (.int 2)))) zm))) (tSl (yl K) (zg 0) (zF (tBM K "list" zR (zg 0) (zd (tC (.str ";")) zm))) zu)))
def xW (K:W.Frag) (t:Adr):TS:=(zv (zE (tOp yn (tOp yn (tOp (zG K) (zg 0) (zg 2)) (tOp (zG K) (z8 (zd (tC (.str "\t")) (zd (tC (.str "\n")) (zd (tC (.str ",")) zm)))) (tOp (rI (fun _ j=>0 < j) fun i j=>.int (i % j)) (tOp (zG K) (zg 1) (tC (.int 2))) (tC (.int 3))))) (tOp (zG K) (zg 0) (tOp (rI0 fun i j=>.int (i + j)) (zg 2) (tC (.int 1))))) (zo 3))
  (zC (tOp zP (tOp zP (tSl (yl K) (zg 0) zu (zF (zg 2))) (z8 (zd (zg 3) zm))) (tSl (yl K) (zg 0) (zF (tOp (rI0 fun i j=>.int (i + j)) (zg 2) (tC (.int 2)))) zu))))
def xX (K:W.Frag) (t:Adr):TS:=(zC (tOp zP (tOp zP (tSl (yl K) (zg 0) zu (zF (zg 2))) (z8 (zd (zB w4 [] E0 (zd (tOp (zG K) (zg 1) (tC (.int 2))) zm)) zm))) (tSl (yl K) (zg 0) (zF (zg 2)) zu)))
def xY (K:W.Frag) (t:Adr):TS:=(zv (zL (xq (zw (tOp rEq (tOp (rI (fun _ j=>0 < j) fun i j=>.int (i % j)) (tOp (zG K) (zg 1) (tC (.int 1))) (tC (.int 2))) (tC (.int 0)))) (zw (tOp (rI0 fun i j=>.bl (decide (i < j))) (zg 2) (tCB (yT K) (zd (zg 0) zm)))))
   (vX K t)
   zy)
  (xX K t))
def xZ (K:W.Frag) (t:Adr):TS:=(zv (zL (xq (zw (tOp rEq (tOp (rI (fun _ j=>0 < j) fun i j=>.int (i % j)) (tOp (zG K) (zg 1) (tC (.int 1))) (tC (.int 4))) (tC (.int 3)))) (zw (tOp (rI0 fun i j=>.bl (decide (i < j))) (tOp (rI0 fun i j=>.int (i + j)) (zg 2) (tC (.int 1))) (tCB (yT K) (zd (zg 0) zm)))))
   (xW K t)
   zy)
  (xY K t))
def vY (K:W.Frag) (t:Adr):TS:=(zv (zL (zw (tOp rEq (tOp (rI (fun _ j=>0 < j) fun i j=>.int (i % j)) (tOp (zG K) (zg 1) (tC (.int 1))) (tC (.int 8))) (tC (.int 5))))
   (zv (zL (tOr (zw (tOp rEq (tOp (zG K) (zg 0) (tC (.int 2))) (tC (.str "done")))) (zw (tOp rEq (tOp (rI (fun _ j=>0 < j) fun i j=>.int (i % j)) (tOp (zG K) (zg 1) (tC (.int 2))) (tC (.int 3))) (tC (.int 0)))))
   (xU K t)
   zy)
  (xV K t))
   zy)
  (xZ K t))
def vn (K:W.Frag) (t:Adr):TS:=(zv (zE (tOp (rI (fun _ j=>0 < j) fun i j=>.int (i % j)) (tOp (zG K) (zg 1) (tC (.int 0))) (tOp (rI0 fun i j=>.int (i + j)) (tCB (yT K) (zd (zg 0) zm)) (tC (.int 1)))) (zo 2))
  (vY K t))
def vo (K:W.Frag) (t:Adr):TS:=(zC (tOp zP (tSl (yl K) (zg 0) zu (zF (zg 2))) (tSl (yl K) (zg 0) (zF (tOp (rI0 fun i j=>.int (i + j)) (zg 2) (tC (.int 1)))) zu)))
def ki (K:W.Frag) (t:Adr):TS:=(zv (zL (xq (zw (tOp rEq (tOp (zG K) (zg 0) (tC (.int 2))) (tC (.str "done")))) (xq (zw (tOp (rI0 fun i j=>.bl (decide (j < i))) (zg 2) (tC (.int 2)))) (zw (tOp (rI0 fun i j=>.bl (decide (i < j))) (zg 2) (tBM K "list" zR (zg 0) (zd (tC (.str ";")) zm))))))
   (zE (tBM K "list" zR (zg 0) (zd (tC (.str ";")) zm)) (zo 2))
   zy)
  (vo K t))
def jr (K:W.Frag) (t:Adr):TS:=(zv (zE (tOp (rI (fun _ j=>0 < j) fun i j=>.int (i % j)) (tOp (zG K) (zg 1) (tC (.int 0))) (tCB (yT K) (zd (zg 0) zm))) (zo 2))
  (ki K t))
def wG (K:W.Frag) (t:Adr):TS:=(zC (tOp zP (zg 0) (z8 (zd (zB xT [] E0 (zd (tOp (zG K) (zg 2) (tC (.int 0))) zm)) (zd (tCB y8 (zd (zB yj [] E0 (zd (tOp (zG K) (zg 2) (tC (.int 1))) zm)) zm)) (zd (tCB y8 (zd (zB yj [] E0 (zd (tOp (zG K) (zg 2) (tC (.int 2))) zm)) zm)) zm))))))
def wH (K:W.Frag) (t:Adr):TS:=(zv (zE (tOp (rI0 fun i j=>.int (i + j)) (tOp (rI0 fun i j=>.int (i + j)) (zg 3) (tOp (rI CMulB fun i j=>.int (i * j)) (tC (.int 3)) (tOp (rI (fun _ j=>0 < j) fun i j=>.int (i % j)) (tOp (zG K) (zg 2) (tC (.int 0))) (zg 4)))) (tC (.int 2))) (zo 5))
  (zC (tOp zP (tOp zP (tSl (yl K) (zg 0) zu (zF (zg 5))) (z8 (zd (tC (.str "0")) zm))) (tSl (yl K) (zg 0) (zF (tOp (rI0 fun i j=>.int (i + j)) (zg 5) (tC (.int 1)))) zu))))
def wI (K:W.Frag) (t:Adr):TS:=(zv (zE (tOp (rI0 fun i j=>.int (i + j)) (zg 3) (tOp (rI CMulB fun i j=>.int (i * j)) (tC (.int 3)) (tOp (rI (fun _ j=>0 < j) fun i j=>.int (i % j)) (tOp (zG K) (zg 2) (tC (.int 0))) (tOp (rI0 fun i j=>.int (i - j)) (zg 4) (tC (.int 1)))))) (zo 5))
  (zv (zE (tOp zP (tSl (yl K) (zg 0) (zF (tOp (rI0 fun i j=>.int (i + j)) (zg 5) (tC (.int 3)))) (zF (tOp (rI0 fun i j=>.int (i + j)) (zg 5) (tC (.int 6))))) (tSl (yl K) (zg 0) (zF (zg 5)) (zF (tOp (rI0 fun i j=>.int (i + j)) (zg 5) (tC (.int 3)))))) (zo 6))
  (zC (tOp zP (tOp zP (tSl (yl K) (zg 0) zu (zF (zg 5))) (zg 6)) (tSl (yl K) (zg 0) (zF (tOp (rI0 fun i j=>.int (i + j)) (zg 5) (tC (.int 6)))) zu)))))
def wJ (K:W.Frag) (t:Adr):TS:=(zC (tOp zP (tOp zP (zg 0) (tSl (yl K) (zg 0) (zF (tUn (rU fun i=>.int (-i)) (tC (.int 3)))) (zF (tUn (rU fun i=>.int (-i)) (tC (.int 1)))))) (z8 (zd (tCB y8 (zd (zB yj [] E0 (zd (tOp (zG K) (zg 2) (tC (.int 0))) zm)) zm)) zm))))
def wK (K:W.Frag) (t:Adr):TS:=(zC (tOp zP (z8 (zd (tOp (zG K) (zg 0) (tC (.int 0))) (zd (tOp (zG K) (z8 (zd (tC (.str "-1")) (zd (tCB y8 (zd (tOp (rI0 fun i j=>.int (i + j)) (tOp (rI qh fun i j=>.int (i ^ j.toNat)) (tC (.int 10)) (tC (.int 29))) (tC (.int 1))) zm)) (zd (tCB y8 (zd (tUn (rU fun i=>.int (-i)) (tOp (rI qh fun i j=>.int (i ^ j.toNat)) (tC (.int 10)) (tC (.int 30)))) zm)) zm)))) (tOp (rI (fun _ j=>0 < j) fun i j=>.int (i % j)) (tOp (zG K) (zg 2) (tC (.int 0))) (tC (.int 3)))) zm))) (tSl (yl K) (zg 0) (zF (tC (.int 2))) zu)))
def wL (K:W.Frag) (t:Adr):TS:=(zC (zB vc [] E0 (zd (zg 0) (zd (zg 2) zm))))
def wM (K:W.Frag) (t:Adr):TS:=(zv (zL (xq (zw (tOp rEq (zg 1) (tC (.int 6)))) (zw (tOp rEq (tOp (zG K) (zg 0) (tC (.int 2))) (tC (.str "off")))))
   (wG K t)
   zy)
  (wL K t))
def wN (K:W.Frag) (t:Adr):TS:=(zv (zL (xq (zw (tOp rEq (zg 1) (tC (.int 5)))) (xq (zw (tOp rEq (tOp (zG K) (zg 0) (tC (.int 0))) (tC (.str "mark")))) (zw (tOp (rI0 fun i j=>.bl (decide (j < i))) (zg 4) (tC (.int 0))))))
   (wH K t)
   zy)
  (wM K t))
def wO (K:W.Frag) (t:Adr):TS:=(zv (zL (xq (zw (tOp rEq (zg 1) (tC (.int 4)))) (zw (tOp (rI0 fun i j=>.bl (decide (j < i))) (zg 4) (tC (.int 1)))))
   (wI K t)
   zy)
  (wN K t))
def wP (K:W.Frag) (t:Adr):TS:=(zv (zL (xq (zw (tOp rEq (zg 1) (tC (.int 3)))) (zw (tOp (rI0 fun i j=>.bl (decide (j < i))) (zg 4) (tC (.int 0)))))
   (wJ K t)
   zy)
  (wO K t))
def wQ (K:W.Frag) (t:Adr):TS:=(zv (zL (zw (tOp rEq (zg 1) (tC (.int 2))))
   (wK K t)
   zy)
  (wP K t))
def jF (K:W.Frag) (t:Adr):TS:=(zv (zL (zw (tOp rEq (zg 1) (tC (.int 1))))
   (zC (zB jj [] E0 (zd (zg 0) (zd (zg 2) zm))))
   zy)
  (wQ K t))
def vQ (K:W.Frag) (t:Adr):TS:=(zv (zE (tOp (rI0 fun i j=>.int (i + j)) (tBM K "list" zR (zg 0) (zd (tC (.str ";")) zm)) (tC (.int 1))) (zo 3))
  (zv (zE (tOp (rI vD fun i j=>.int (i / j)) (tOp (rI0 fun i j=>.int (i - j)) (tCB (yT K) (zd (zg 0) zm)) (zg 3)) (tC (.int 3))) (zo 4))
  (jF K t)))
def vp (K:W.Frag) (t:Adr):TS:=(zv (zE (tOp (rI (fun _ j=>0 < j) fun i j=>.int (i % j)) (tOp (rI0 fun i j=>.int (i + j)) (zg 1) (tOp (rI CMulB fun i j=>.int (i * j)) (zg 2) (tCB zbf (zd (zg 3) zm)))) (tC (.int 1009))) (zo 1))
  (zv (zE (tOp (rI0 fun i j=>.int (i + j)) (zg 2) (tC (.int 1))) (zo 2))
  (zL (zw (tOp rEq (zg 2) (tC (.int 1009))))
   (zE (tC (.int 1)) (zo 2))
   zy)))
def km (K:W.Frag) (t:Adr):TS:=(zv (zE (tCB y8 (zd (zg 1) zm)) (zo 4))
  (zC (tOp yn (tOp Vh (tC (.str "0")) (tOp (rI0 fun i j=>.int (i - j)) (tC (.int 4)) (tCB (yT K) (zd (zg 4) zm)))) (zg 4))))
def js (K:W.Frag) (t:Adr):TS:=(zv (zE (tC (.int 0)) (zo 1))
  (zv (zE (tC (.int 1)) (zo 2))
  (zv (we (Jn (zg 0)) (zo 3)
    (vp K t))
  (km K t))))
def YA (K:W.Frag) (t:Adr):TS:=(zL (zw (tOp rEq (tOp (rI (fun _ j=>0 < j) fun i j=>.int (i % j)) (tOp (rI vD fun i j=>.int (i / j)) (tOp (zG K) (zg 4) (tC (.int 0))) (tC (.int 16))) (tC (.int 4))) (tC (.int 0))))
   (zv (zE (zB (xS t) [] E0 (zd (tOp yn (tOp yn (zg 5) (tC (.str " "))) (zB xh [] E0 (zd (zg 5) zm))) zm)) (zo 8))
  (zL (tOr (jJ (tB (tCB (ZL K) (zd (zg 8) (zd (tC (.ty "tuple")) zm))))) (zw (tOp rNe (tOp (yG K) (zg 8) (tC (.int 0))) (tOp (zG K) (zg 3) (tC (.int 0))))))
   (zC (tC (.bl false)))
   zy))
   zy)
def YB (K:W.Frag) (t:Adr):TS:=(zv (zL (jJ (tB (zB (xb t) [] E0 (zd (zg 1) zm))))
   (zC (tC (.bl false)))
   zy)
  (YA K t))
def YC (K:W.Frag) (t:Adr):TS:=(zv (zL (zw (tOp rEq (zg 6) (tC (.int 7))))
   (zE (tOp yn (tOp yn (zg 5) (tC (.str " "))) (zB xz [] E0 (zd (zB xh [] E0 (zd (zg 5) zm)) (zd (zg 4) zm)))) (zo 1))
   (zv (zE (tBM K "str" (xG K) (tC (.str " ")) (zd (zB vM [] E0 (zd (zg 3) (zd (zg 6) (zd (zg 4) zm)))) zm)) (zo 7))
  (zE (tOp yn (tOp yn (zg 7) (tC (.str " "))) (zB xh [] E0 (zd (zg 7) zm))) (zo 1))))
  (YB K t))
def YD (K:W.Frag) (t:Adr):TS:=(zv (zE (zB jh [] E0 (zd (tOp (zG K) (zg 0) (zg 2)) zm)) (zo 3))
  (zv (zE (zB yK [] E0 (zd (tOp (rI vD fun i j=>.int (i / j)) (tOp (zG K) (zg 0) (tOp (rI0 fun i j=>.int (i + j)) (zg 2) (tC (.int 1)))) (tC (.int 8))) (zd (tC (.int 3)) zm))) (zo 4))
  (zv (zE (tBM K "str" (xG K) (tC (.str " ")) (zd (zg 3) zm)) (zo 5))
  (zv (zE (tOp (rI (fun _ j=>0 < j) fun i j=>.int (i % j)) (tOp (zG K) (zg 0) (tOp (rI0 fun i j=>.int (i + j)) (zg 2) (tC (.int 1)))) (tC (.int 8))) (zo 6))
  (YC K t)))))
def VQ (K:W.Frag) (t:Adr):TS:=(zL (jJ (tB (zB (xb t) [] E0 (zd (zg 1) zm))))
   (zC (tC (.bl false)))
   zy)
def VR (K:W.Frag) (t:Adr):TS:=(zv (we (Yp (zd (tC (.int 0)) (zd (tOp (rI0 fun i j=>.int (i - j)) (tCB (yT K) (zd (zg 0) zm)) (tC (.int 1))) (zd (tC (.int 2)) zm)))) (zo 2)
   (YD K t))
  (zC (tC (.bl true))))
def JN (K:W.Frag) (t:Adr):TS:=(zv (we (xn K (z8 (zd (tC (.str "")) (zd (tC (.str "mark")) (zd (tC (.str "0000")) (zd (tC (.str " 0000")) (zd (tC (.str "\n")) (zd (tC (.str "mark 0 ;")) zm)))))))) (zo 1)
   (VQ K t))
  (VR K t))
section
variable {K:W.Frag} {t:Adr} {H:Hp} {Q:VK}
theorem jG {j:Int} (h0:0≤j) (h1:j≤100):qh 10 j:=⟨h0,by omega,by decide⟩
theorem zt {n:Nat} (h:n≤100000):n≤sizeLine:=Nat.le_trans h (by decide)
theorem VS (T:String):W.kitOne K (.type T) (.type T)=some true:=by
 unfold W.kitOne
 rw [if_pos (by simp)]
theorem kf (K:W.Frag):KF K:=⟨by with_unfolding_all rfl⟩
theorem dB {i j:Int} (h0:0 < j:=by decide) (h1:j < 10000000000000000000000000000000000000000000000:=by decide):vD i j:=by
 have hb:(10000000000000000000000000000000000000000000000:Int) < big:=by decide +kernel
 exact ⟨h0,by omega⟩
theorem zdn {α:Type} {xs:List α} {i:Int} (h0:0≤i) (h1:i < xs.length):∃ x,atI xs i=some x∧x∈xs:=by
 obtain ⟨n,rfl⟩:∃ n:Nat,i=(n:Int):=⟨i.toNat,by omega⟩
 have hn:n < xs.length:=by omega
 refine ⟨xs[n],?_,List.getElem_mem hn⟩
 unfold atI ixN
 rw [if_pos h0,if_pos h1]
 simp [hn]
theorem qN {α:Type} {xs:List α} (e:Int) (n:Nat) (hl:xs.length=n) (hn:0 < (n:Int)):∃ x,atI xs (e % n)=some x∧x∈xs :=
 zdn (Int.emod_nonneg _ (by omega)) (by rw [hl];exact Int.emod_lt_of_pos _ hn)
theorem YE {H H':Hp} {w:Addr} {o:HO} (s:Same H H') (hw:H w=none):Same H (upd H' w o):=fun b u e=>by rw [yb (xp e hw)];exact s b u e
theorem zcJ:(Str.ofString "abcdefghijklmnopqrstuvwxyz").cps.toList.length=26:=by decide +kernel
theorem vZ (c:Nat):({ cps:=#[c] }:Str).length=1:=rfl
theorem YF {H H':Hp} {D:Addr} (s:Same H H') (h:H' D=none):H D=none:=by
 cases e:H D with
 | none=>rfl
 | some o=>rw [s _ _ e] at h;cases h
theorem VT {p:Pl} {w:Int}:∀ {l:List Row},xo l p=some w→(p,w)∈l
 | [],h=>by cases h
 | r :: t,h=>by
  rw [xo] at h
  cases e:xo t p with
  | some w' =>
   rw [e] at h
   have:w'=w:=by simpa using h
   subst this
   exact List.mem_cons_of_mem _ (VT e)
  | none =>
   rw [e] at h
   by_cases c:r.1=p
   ·rw [if_pos c] at h
    have:r.2=w:=by simpa using h
    rw [← c,← this];exact List.mem_cons_self
   ·rw [if_neg c] at h;cases h
theorem zd0:∀ c∈(Str.ofString "abcdefghijklmnopqrstuvwxyz").cps.toList,inL c=true:=by decide +kernel
theorem zcK {c:Nat} (h:inL c=true):(⟨#[c]⟩:Str).cps.toList.all inL=true:=by
 show [c].all inL=true
 rw [List.all_cons,h];rfl
theorem WF {x:V} (hK:zcI K) (h:(∃ i,x=.int i∧∀ H',Same H H'→Q (.bl (inW i)) H')∨(zbw K H x∧∀ H',Same H H'→Q (.bl false) H')) :
  kJ K t { nx:=fun _ H'=>Q .non H',rt:=Q } (L2.start ["thing"] [x]) H:=by
 simp only [kJ,L2.start,zv,zC,zy,tOp,tUn,zg,tC,zd,zm,zL,tOr,jJ,tB,tCB,Jg,rI,rI0,rU,ZL,List.map,List.replicate,List.length,List.append,jqa,jqb,jqc,jqd,jqe,jqf,jqg,jqh,jqi,jqj,jqk,jql,jqm,jqn,and_true,true_and,and_assoc,jqo,jqp,jqq,jqr,jqs,jqt,if_true,ite_true,jqu,ite_false,if_false]
 rcases h with ⟨i,rfl,q⟩ | ⟨⟨T,b,ty,k1,k2⟩,q⟩
 ·have q:=q H (Same.refl H)
  refine ⟨_,.int i,true,VS _,?_⟩
  rw [if_neg (by decide)]
  refine ⟨_,.int i,false,hK,?_⟩
  rw [if_neg (by decide)]
  refine ⟨jG (by decide) (by decide),_,rfl,ym (fun c=>⟨jG (by decide) (by decide),_,rfl,?_⟩) fun c=>?_⟩
  ·have e:inW i=decide (i≤1000000000000000000000000000000):=by
    unfold inW
    by_cases h:i≤1000000000000000000000000000000
    ·rw [decide_eq_true h,decide_eq_true ⟨c,h⟩]
    ·rw [decide_eq_false h,decide_eq_false fun z=>h z.2]
   rw [e] at q
   exact q
  ·have e:inW i=false:=decide_eq_false fun z=>c z.1
   rw [e] at q
   exact q
 ·have q:=q H (Same.refl H)
  refine ⟨_,ty,b,k1,ym (fun _=>q) fun c=>⟨_,ty,true,k2 (by simpa using c),?_⟩⟩
  rw [if_pos rfl]
  exact q
theorem wT {w:Int} (hw:inW w=true):w.natAbs.log2 < 1920:=by
 have hw':-1000000000000000000000000000000≤w∧w≤1000000000000000000000000000000:=of_decide_eq_true hw
 by_cases h0:w.natAbs=0
 ·rw [h0];decide
 ·exact Nat.lt_of_lt_of_le ((Nat.log2_lt h0 (k:=100)).mpr (Nat.lt_of_le_of_lt (by omega:w.natAbs≤1000000000000000000000000000000) (by decide +kernel))) (by decide)
theorem VU {w:Int} (hw:inW w=true) (q:∀ H',Same H H'→Q (.str (zH w)) H') :
  qH K t { nx:=fun _ H'=>Q .non H',rt:=Q } (L2.start ["worth"] [.int w]) H:=by
 simp only [qH,L2.start,zC,zg,zd,zm,tCB,y8,List.map,List.replicate,List.length,List.append,jqa,jqb,jqc,jqd,jqe,jqf,jqg,jqh,jqi,jqj,jqk,jql,jqm,jqn,and_true,true_and,and_assoc,jqo,jqp,jqq,jqr,jqs,jqt,if_true,ite_true,jqu,ite_false,if_false]
 exact ⟨wT hw,q _ (Same.refl H)⟩
theorem zcL {x:Str} {f:Nat→Bool} {ys:List V} (hl:ys.length=x.cps.size) (hv:∀ (i:Nat) (v:V),ys[i]?=some v→∃ c,x.cps[i]?=some c∧v=.bl (f c)):ys=(x.cps.toList.map f).map V.bl:=by
 apply List.ext_getElem?
 intro i
 by_cases hi:i < ys.length
 ·obtain ⟨c,hc,e⟩:=hv i ys[i] (List.getElem?_eq_getElem hi)
  rw [List.getElem?_eq_getElem hi,e,List.getElem?_map,List.getElem?_map]
  have hc':x.cps.toList[i]?=some c:=by simpa using hc
  rw [hc'];rfl
 ·rw [List.getElem?_eq_none (by omega),List.getElem?_eq_none]
  rw [List.length_map,List.length_map]
  have:x.cps.toList.length=x.cps.size:=by simp
  omega
theorem YG {x:Str} (hx:x.length≤1000) (q:∀ H',Same H H'→Q (.bl (vU x)) H') :
  jo K t { nx:=fun _ H'=>Q .non H',rt:=Q } (L2.start ["text"] [.str x]) H:=by
 simp only [jo,L2.start,zo,zC,tOp,zg,tC,zd,zm,qc,tCB,y6,v7,kq,Jn,rNe,zb6,zaa,yo,List.map,List.replicate,List.length,List.append,jqa,jqb,jqc,jqd,jqe,jqf,jqg,jqh,jqi,jqj,jqk,jql,jqm,jqn,and_true,true_and,and_assoc,jqo,jqp,jqq,jqr,jqs,jqt,if_true,ite_true,jqu,ite_false,if_false]
 refine ym (fun c D hD=>?_) fun c=>?_
 ·refine vF (J:=Its x) x.cps.size (by show x.length≤_;omega) (fun τ=>∃ o,τ=[o]) (fun i v=>∃ c,x.cps[i]?=some c∧v=.bl (inF c)) ⟨_,rfl⟩ (fun i H _ h=>h) (fun H _=>Nat.le_refl _) hD ?_ ?_
  ·rintro i v τ H2 H' ⟨o,rfl⟩ hS hi ⟨rfl,c,hc,rfl⟩
   exact ⟨_,rfl,_,rfl,⟨_,rfl⟩,⟨c,hc,rfl⟩,Same.refl _⟩
  ·intro ys H' hl hv hS hq
   refine ⟨x.cps.toList.map inF,SqL.of (by rw [← zcL hl hv];exact hq),?_⟩
   have e:vU x=(x.cps.toList.map inF).all id:=by
    unfold vU
    rw [decide_eq_false c,List.all_map];rfl
   rw [← e]
   exact q _ hS
 ·have e:vU x=false:=by
   unfold vU
   rw [decide_eq_true (Classical.not_not.mp c)];rfl
  rw [e] at q
  exact q _ (Same.refl H)
theorem zbx {x:Str} (hx:x.length≤1000) (q:∀ H',Same H H'→Q (.bl (yv x)) H'):(xB x).length≤sizeLine∧if 31 < ((xB x).length:Int) then Q (V.bl false) H else
   (xB x).length≤1000∧∀ H',Same H H'→if vU (xB x)=false then Q (V.bl false) H' else
    ∃ n,intText? x=some n∧x.length≤640∧((∀ H2,Same H' H2→if inW n=true then inW n=true∧∀ H3,Same H2 H3→Q (V.bl (decide (zH n=x))) H3 else Q (V.bl false) H2) ∨
     zbw K H' (V.int n)∧∀ H2,Same H' H2→Q (V.bl false) H2):=by
 have h1:=zap x
 have h2:=Zv x
 refine ⟨zt (by omega),ym (fun c=>?_) fun c=>⟨by omega,fun H' s=>ym (fun f=>?_) fun f=>?_⟩⟩
 ·have e:yv x=false:=by unfold yv;rw [decide_eq_true (by omega:31 < (xB x).length)];rfl
  rw [e] at q;exact q _ (Same.refl H)
 ·have e:yv x=false:=by unfold yv;rw [f];simp
  rw [e] at q;exact q _ s
 ·have f':vU (xB x)=true:=by simpa using f
  have en:yv x=(inW (yO x) && decide (zH (yO x)=x)):=by
   unfold yv
   rw [f',decide_eq_false (by omega:¬ 31 < (xB x).length)];rfl
  refine ⟨_,Yg f' (by omega),by omega,.inl fun H2 s2=>ym (fun w=>⟨w,fun H3 s3=>?_⟩) fun w=>?_⟩
  ·rw [w,Bool.true_and] at en
   rw [en] at q
   exact q _ (s.trans (s2.trans s3))
  ·rw [Bool.eq_false_iff.mpr w,Bool.false_and] at en
   rw [en] at q
   exact q _ (s.trans s2)
theorem YH {x:Str} (hx:x.length≤1000) (q:∀ H',Same H H'→Q (.bl (yv x)) H') :
  jp K t { nx:=fun _ H'=>Q .non H',rt:=Q } (L2.start ["text","figures","worth"] [.str x]) H:=by
 simp only [jp,je,kD,qz,L2.start,zv,zE,zo,zC,zy,tOp,zg,tC,zd,zm,zL,tOr,jJ,zw,tB,qc,tIf,tCB,tBM,tyV,tSl,zF,zu,zB,xM,rEq,rI0,vE,yT,zab,w5,yo,List.map,List.replicate,List.length,List.append,jqa,jqb,jqc,jqd,jqe,jqf,jqg,jqh,jqi,jqj,jqk,jql,jqm,jqn,and_true,true_and,and_assoc,jqo,jqp,jqq,jqr,jqs,jqt,if_true,ite_true,jqu,ite_false,if_false]
 have r:=zbx (K:=K) hx q
 unfold xB at r
 rw [Qi]
 have e1:(Str.ofString "-").cps.toList=[45]:=by decide +kernel
 have e2:(Str.ofString "-").length=1:=by decide +kernel
 rw [e1,e2]
 by_cases c:(x.cps.toList.take 1 == [45])=true
 ·simp only [if_pos c] at r ⊢
  exact ⟨zt (by omega),r⟩
 ·simp only [if_neg c] at r ⊢
  exact r
theorem WG {x:Str} {E:XK} (hx:x.length≤1000) (ha:Asc x) (q:∀ H',Same H H'→if yv x=true then Q (.int (yO x)) H' else E (.ref t.c_NoNumber) none H') :
  kK K t E { nx:=fun _ H'=>Q .non H',rt:=Q } (L2.start ["text"] [.str x]) H:=by
 simp only [kK,jf,L2.start,yi,vt,zv,zC,zy,zg,zd,zm,zL,jJ,tB,tCB,zB,zab,List.map,List.replicate,List.length,List.append,jqa,jqb,jqc,jqd,jqe,jqf,jqg,jqh,jqi,jqj,jqk,jql,jqm,jqn,and_true,true_and,and_assoc,jqo,jqp,jqq,jqr,jqs,jqt,if_true,ite_true,jqu,ite_false,if_false]
 refine ⟨hx,fun H' s=>?_⟩
 have q:=q H' s
 by_cases hn:yv x=true
 ·rw [if_neg (by rw [hn];decide)]
  rw [if_pos hn] at q
  unfold yv at hn
  rw [Bool.and_eq_true,Bool.not_eq_true',Bool.or_eq_false_iff,decide_eq_false_iff_not] at hn
  have h2:=Zv x
  have hf:vU (xB x)=true:=by simpa using hn.1.2
  exact ⟨_,Yg hf (by omega),by omega,q⟩
 ·rw [if_neg hn] at q
  rw [if_pos (by simpa using hn)]
  exact ⟨by omega,ha,fun y=>⟨by decide,q⟩⟩
theorem VV {x:Str} (h:6 < x.length):z6 x=false:=by
 unfold z6
 rw [decide_eq_true h]
 simp
theorem VW {x:Str} (hx:x.length≤1000) (hJ:∀ H,SqT K H t.c_JOINING jw) (hR:∀ H,SqT K H t.c_ROW_WORDS wl) (q:∀ H',Same H H'→Q (.bl (z6 x)) H') :
  qG K t { nx:=fun _ H'=>Q .non H',rt:=Q } (L2.start ["text"] [.str x]) H:=by
 simp only [qG,L2.start,zv,zo,zC,zy,tOp,zg,tC,zd,zm,zL,tOr,zw,tCB,y6,v7,kq,xM,Jn,rEq,rI0,rIn,zb6,yT,zaa,yo,List.map,List.replicate,List.length,List.append,jqa,jqb,jqc,jqd,jqe,jqf,jqg,jqh,jqi,jqj,jqk,jql,jqm,jqn,and_true,true_and,and_assoc,jqo,jqp,jqq,jqr,jqs,jqt,if_true,ite_true,jqu,ite_false,if_false]
 refine ym (fun e=>?_) fun e0=>⟨zt (by omega),ym (fun e=>?_) fun e6=>⟨_,.inr (hJ H),rfl,rfl,ym (fun e=>?_) fun eJ=>⟨_,.inr (hR H),rfl,rfl,ym (fun e=>?_) fun eR D hD=>?_⟩⟩⟩
 ·rw [show z6 x=false by rw [e];decide +kernel] at q
  exact q _ (Same.refl H)
 ·rw [VV (by omega)] at q
  exact q _ (Same.refl H)
 ·rw [show z6 x=false by unfold z6;rw [e];simp] at q
  exact q _ (Same.refl H)
 ·rw [show z6 x=false by unfold z6;rw [e];simp] at q
  exact q _ (Same.refl H)
 have en:z6 x=x.cps.toList.all inL:=by
  unfold z6
  rw [decide_eq_false e0,decide_eq_false (by omega:¬ 6 < x.length),Bool.eq_false_iff.mpr eJ,Bool.eq_false_iff.mpr eR]
  simp
 refine vF (J:=Its x) x.cps.size (by show x.length≤_;omega) (fun τ=>∃ o,τ=[o]) (fun i v=>∃ c,x.cps[i]?=some c∧v=.bl (inL c)) ⟨_,rfl⟩ (fun i H _ h=>h) (fun H _=>Nat.le_refl _) hD ?_ ?_
 ·rintro i v τ H2 H' ⟨o,rfl⟩ hS hi ⟨rfl,c,hc,rfl⟩
  exact ⟨_,rfl,_,rfl,⟨_,rfl⟩,⟨c,hc,rfl⟩,Same.refl _⟩
 ·intro ys H' hl hv hS hq
  have ey:ys=(x.cps.toList.map inL).map V.bl:=by
   apply List.ext_getElem?
   intro i
   by_cases hi:i < ys.length
   ·obtain ⟨c,hc,e⟩:=hv i ys[i] (List.getElem?_eq_getElem hi)
    rw [List.getElem?_eq_getElem hi,e,List.getElem?_map,List.getElem?_map]
    have hc':x.cps.toList[i]?=some c:=by simpa using hc
    rw [hc'];rfl
   ·rw [List.getElem?_eq_none (by omega),List.getElem?_eq_none]
    rw [List.length_map,List.length_map]
    have:x.cps.toList.length=x.cps.size:=by simp
    omega
  refine ⟨x.cps.toList.map inL,SqL.of (by rw [← ey];exact hq),?_⟩
  rw [List.all_map,show (id ∘ inL)=inL from rfl,← en]
  exact q _ hS
theorem zS {xs:List V} {n:Nat} {v:V} (h:xs[n]?=some v):atI xs (n:Int)=some v:=qS h
theorem VX {α:Type} (f:α→V) (xs:List α) {k:Nat} (h:k≤xs.length):yM (xs.map f) (some (k:Int)) none=(xs.drop k).map f:=by
 unfold yM
 have e1:HT.sIx (xs.map f).length 0 (some (k:Int))=k:=by
  show (if (k:Int) < 0 then ((k:Int) + ((xs.map f).length:Int)).toNat else min (k:Int).toNat (xs.map f).length)=k
  rw [if_neg (by omega),Int.toNat_natCast,List.length_map]
  omega
 have e2:HT.sIx (xs.map f).length (xs.map f).length none=xs.length:=by
  show (xs.map f).length=_
  rw [List.length_map]
 rw [e1,e2,← List.map_drop,List.take_of_length_le (by rw [List.length_map,List.length_drop];omega)]
theorem ZH {σ:St} {H:Hp} {nx:St→Hp→Prop} {B:V→St→Hp→(St→Hp→Prop)→Prop} {lo c:Int} {n:Nat} (Pv:Nat→St→Hp→Prop) (h0:Pv 0 σ H) (hs:∀ i σ H,i < n→Pv i σ H→B (.int (lo + i * c)) σ H (Pv (i + 1))) (hd:∀ σ H,Pv n σ H→nx σ H) :
  ∃ W:Nat→Nat→St→Hp→Prop,(∃ m,W 0 m σ H)∧∀ i m σ H,W i m σ H→((zaM lo c n).stop i H∧nx σ H)∨((zaM lo c n).go i H∧∃ N:St→Hp→Prop,(∀ σ' H',N σ' H'→∃ m',m' < m∧W (i + 1) m' σ' H')∧∀ x H',(zaM lo c n).yld i H x H'→B x σ H' N):=by
 refine ⟨fun i m σ H=>m=n - i∧i≤n∧Pv i σ H,⟨n,by simp,Nat.zero_le _,h0⟩,?_⟩
 rintro i m σ H ⟨rfl,hi,p⟩
 by_cases hlt:i < n
 ·refine .inr ⟨hlt,Pv (i + 1),fun σ' H' p'=>⟨n - (i + 1),by omega,rfl,hlt,p'⟩,?_⟩
  rintro x H' ⟨rfl,rfl⟩
  exact hs i σ _ hlt p
 ·obtain rfl:i=n:=by omega
  exact .inl ⟨Nat.le_refl _,hd σ H p⟩
theorem zd1 {i:Nat} {j c:Int} (hj:0≤j) (hc:0 < c) (h:i < ZN 0 j c):(i:Int) * c < j:=by
 unfold ZN at h
 split at h
 ·have h2:(i:Int)≤(j - 0 - 1) / c:=by omega
  have h3:=(Int.le_ediv_iff_mul_le hc).mp h2
  omega
 ·omega
theorem zcM {H1:Hp} {d p:Addr} {rows:List Row} {q:Row} (hd:H1 d=some (.dT (dOf rows))) (hp:H1 p=some (.tup [.str q.1.1,.int q.1.2])) (hl:rows.length≤1000):DPut H1 d (.ref p) (.int q.2) (upd H1 d (.dT (dOf (rows ++ [q])))):=by
 rw [zaI]
 have:=Kr rows
 exact DPut.t (k:=ye q.1) hd hp (Nat.lt_of_le_of_lt (by omega:(dOf rows).length≤1000) (by decide))
def zeF (c m:Int) (A:Addr) (H:Hp) (i:Nat) (σ:St) (H':Hp):Prop:=∃ lo hi o,∃ xs:List Int,σ=[some (.int c),some (.int m),some (.int lo),some (.int hi),some (.ref A),o]∧(0≤lo∧lo < 1500000000)∧(0≤hi∧hi < 1500000000)∧H' A=some (.lst (xs.map V.int))∧xs.length=i∧(∀ x∈xs,drI x)∧Same H H'
theorem zcN {c m lo hi:Int} {A:Addr} {H H':Hp} {i:Nat} {o:Option V} {xs:List Int} (hA:H A=none) (hx:H' A=some (.lst (xs.map V.int))) (hl:xs.length=i) (hs:∀ x∈xs,drI x) (S:Same H H') (l1:0≤lo∧lo < 1500000000) (l2:0≤hi∧hi < 1500000000) :
  zeF c m A H (i + 1) [some (.int c),some (.int m),some (.int lo),some (.int hi),some (.ref A),o] (upd H' A (.lst (xs.map V.int ++ [V.int (lo + hi)]))):=by
 refine ⟨_,_,_,xs ++ [lo + hi],rfl,l1,l2,?_,?_,?_,?_⟩
 ·rw [zp,List.map_append];rfl
 ·rw [List.length_append,hl];rfl
 ·intro x hx
  rcases List.mem_append.mp hx with h | h
  ·exact hs x h
  ·rw [List.mem_singleton.mp h];exact ⟨by omega,by omega⟩
 ·exact fun b o e=>by rw [yb (fun z=>by subst z;rw [hA] at e;cases e)];exact S _ _ e
theorem YI {c m:Int} (h0:0≤m) (h1:m≤64) (q:∀ l xs H',Same H H'→H l=none→H' l=some (.lst (List.map V.int xs))→(xs.length:Int)=m→(∀ x∈xs,drI x)→Q (.ref l) H') :
  jk K t { nx:=fun _ H'=>Q .non H',rt:=Q } (L2.start ["cell","many","low","high","found","k"] [.int c,.int m]) H:=by
 simp only [jk,L2.start,xH,kU,zv,zE,zo,zC,Z7,tOp,zg,tC,z8,zd,zm,we,tBM,tyV,wU,rI,rI0,List.map,List.replicate,List.length,List.append,jqa,jqb,jqc,jqd,jqe,jqf,jqg,jqh,jqi,jqj,jqk,jql,jqm,jqn,and_true,true_and,and_assoc,jqo,jqp,jqq,jqr,jqs,jqt,if_true,ite_true,jqu,ite_false,if_false]
 have hb:(10000000000000000000000000000000000000000000000:Int) < big:=by decide +kernel
 have g1:=Int.emod_nonneg c (b:=999999937) (by decide)
 have g2:=Int.emod_lt_of_pos c (b:=999999937) (by decide)
 have g3:=Int.emod_nonneg (c / 999999937) (b:=999999929) (by decide)
 have g4:=Int.emod_lt_of_pos (c / 999999937) (b:=999999929) (by decide)
 refine ⟨by decide,dB,by decide,Nat.zero_le _,fun A hA=>⟨by omega,by omega,qm (zeF c m A H) ⟨_,_,_,[],rfl,⟨by omega,by omega⟩,⟨by omega,by omega⟩,zp,rfl,(fun _ z=>nomatch z),isV A hA⟩ ?_ ?_⟩⟩
 ·rintro i σ H' hi ⟨lo,hi,o,xs,rfl,l1,l2,hx,hl,hs,S⟩
  simp only [L2.start,xH,kU,zv,zE,zo,zC,Z7,tOp,zg,tC,z8,zd,zm,we,tBM,tyV,wU,rI,rI0,List.map,List.replicate,List.length,List.append,jqa,jqb,jqc,jqd,jqe,jqf,jqg,jqh,jqi,jqj,jqk,jql,jqm,jqn,and_true,true_and,and_assoc,jqo,jqp,jqq,jqr,jqs,jqt,if_true,ite_true,jqu,ite_false,if_false]
  have a1:=Int.emod_nonneg (lo * 40009 + hi + (0 + (i:Int))) (b:=999999937) (by decide)
  have a2:=Int.emod_lt_of_pos (lo * 40009 + hi + (0 + (i:Int))) (b:=999999937) (by decide)
  generalize (lo * 40009 + hi + (0 + (i:Int))) % 999999937=lo' at *
  have b1:=Int.emod_nonneg (hi * 31 + lo' * lo') (b:=999999929) (by decide)
  have b2:=Int.emod_lt_of_pos (hi * 31 + lo' * lo') (b:=999999929) (by decide)
  refine ⟨⟨⟨by omega,by omega⟩,by omega,by omega⟩,by decide,⟨⟨by omega,by omega⟩,by omega,by omega⟩,⟨⟨by omega,by omega⟩,by omega,by omega⟩,by decide,.inl ⟨_,SqL.of hx⟩,_,hx,Nat.lt_of_lt_of_le (m:=100000) (by rw [List.length_map];omega) (by decide),?_⟩
  exact zcN hA hx hl hs S ⟨by omega,by omega⟩ ⟨by omega,by omega⟩
 ·rintro σ H' ⟨lo,hi,o,xs,rfl,l1,l2,hx,hl,hs,S⟩
  exact ⟨_,rfl,q _ _ _ S hA hx (by omega) hs⟩
theorem YJ {xs:List Int} {k:Nat} (h:k < xs.length) (hs:∀ x∈xs,drI x):∃ x,atI (xs.map V.int) (k:Int)=some (V.int x)∧drI x:=by
 obtain ⟨v,h1,h2⟩:=zdn (xs:=xs.map V.int) (i:=(k:Int)) (by omega) (by rw [List.length_map];omega)
 obtain ⟨x,hx,rfl⟩:=List.mem_map.mp h2
 exact ⟨x,h1,hs x hx⟩
theorem drI.cb {x:Int} (h:drI x):Cb x:=Cb.of (by obtain ⟨a,b⟩:=h;omega)
theorem zd2 {x:Str} (h:LW x):z6 (if inV (.str x) (wl ++ jw)=true then Txt.slice x none (some (-1)) ++ "q" else x)=true:=by
 obtain ⟨h1,h2,h3⟩:=h
 have e:inV (.str x) (wl ++ jw)=(inV (.str x) wl || inV (.str x) jw):=by unfold inV;rw [List.any_append]
 rw [e]
 by_cases a:inV (.str x) wl=true
 ·rw [a,Bool.true_or,if_pos rfl]
  rcases (zdN x).mp a with rfl | rfl | rfl | rfl | rfl | rfl | rfl | rfl | rfl <;> decide +kernel
 ·by_cases b:inV (.str x) jw=true
  ·rw [b,Bool.or_true,if_pos rfl]
   rcases (zcf x).mp b with rfl | rfl | rfl | rfl | rfl | rfl | rfl <;> decide +kernel
  ·rw [Bool.eq_false_iff.mpr a,Bool.eq_false_iff.mpr b,if_neg (by decide)]
   have e0:¬ x="":=fun z=>by
    rw [z] at h2
    exact absurd h2 (by decide +kernel)
   unfold z6
   rw [decide_eq_false e0,decide_eq_false (by omega:¬ 6 < x.length),Bool.eq_false_iff.mpr a,Bool.eq_false_iff.mpr b,h1]
   rfl
theorem zd3 (e:Int):wB (e % 2000000000000000000000000000001 - 1000000000000000000000000000000):=by
 have g1:=Int.emod_nonneg e (b:=2000000000000000000000000000001) (by decide)
 have g2:=Int.emod_lt_of_pos e (b:=2000000000000000000000000000001) (by decide)
 exact ⟨by omega,by omega⟩
theorem KL:Cw 618033988749894848204586834365:=by unfold Cw;decide +kernel
theorem zd4:CMulC 2 1000000000000000000000000000000:=⟨by unfold Cw;decide +kernel,by unfold Cw;decide +kernel⟩
theorem xF {α β:Type} {F G:α→β→Prop} (h:∀ a b,F a b→G a b):∀ {l₁:List α} {l₂:List β},Paired F l₁ l₂→Paired G l₁ l₂
 | _,_,.nil=>.nil
 | _,_,.cons a t=>.cons (h _ _ a) (xF h t)
theorem ZI {α β:Type} {F:α→β→Prop} {a:α} {b:β} (h:F a b):∀ {l₁:List α} {l₂:List β},Paired F l₁ l₂→Paired F (l₁ ++ [a]) (l₂ ++ [b])
 | _,_,.nil=>.cons h .nil
 | _,_,.cons x t=>.cons x (ZI h t)
theorem PlV.same {H H':Hp} {v:V} {q:Pl} (s:Same H H') (h:PlV H v q):PlV H' v q:=by
 obtain ⟨p,e,h1⟩:=h
 exact ⟨p,e,s _ _ h1⟩
theorem WH {H H':Hp} {v:V} {q:Row} (s:Same H H') (h:ZM H v q):ZM H' v q:=by
 obtain ⟨r,p,e,h1,h2⟩:=h
 exact ⟨r,p,e,s _ _ h1,s _ _ h2⟩
theorem KM {H:Hp} {A p:Addr} {xs ys zs:List V} (hA:H A=some (.lst xs)) (h:H p=some (.tup zs)):upd H A (.lst ys) p=some (.tup zs):=by
 rw [yb (fun z=>by subst z;rw [hA] at h;cases h)];exact h
theorem zby {H:Hp} {A:Addr} {xs ys:List V} {v:V} {q:Row} (hA:H A=some (.lst xs)) (h:ZM H v q):ZM (upd H A (.lst ys)) v q:=by
 obtain ⟨r,p,e,h1,h2⟩:=h
 exact ⟨r,p,e,KM hA h1,KM hA h2⟩
def plD (q:Pl):PyData:=.tuple [.str q.1,.int q.2]
theorem zcO {p q:Pl} (h:plD p=plD q):p=q:=by
 unfold plD at h
 simp only [PyData.tuple.injEq,List.cons.injEq,PyData.str.injEq,PyData.int.injEq,and_true] at h
 exact Prod.ext h.1 h.2
theorem zcP {H:Hp} {v:V} {q:Pl} (h:PlV H v q):Dat K H v (plD q):=by
 obtain ⟨p,rfl,h1⟩:=h
 exact .tup (SqT.of h1) (.cons (.str _) (.cons (.int _) .nil))
theorem WI {H:Hp}:∀ {xs:List V} {ps:List Pl},Paired (PlV H) xs ps→DatAll K H xs (ps.map plD)
 | _,_,.nil=>.nil
 | _,_,.cons h t=>.cons (zcP h) (WI t)
theorem zd5 {q:Pl} (h:z6 q.1=true):zZ (plD q)=true:=by
 have e:PyData.strOk q.1=true:=(Vk h).flat
 unfold plD
 rw [zZ,yH,yH,yH,zZ,zZ,e];rfl
theorem v3 {w:Int} (h:wB w):inW w=true:=decide_eq_true h
theorem Xd {w:Int} (h:rB w):wB w:=by obtain ⟨a,b⟩:=h;constructor <;> omega
theorem Zx {w:Int} (h:inW w=true):Wd (zH w):=by
 refine ⟨(qo h).2.2,Asc.num w,fun z=>?_⟩
 have dg0:∀ m,32 ∉ dg m:=fun m hm=>by have:=jc m 32 hm;omega
 rcases Int.le_total 0 w with c | c
 ·rw [show w=((w.toNat:Nat):Int) by omega,yD] at z
  exact dg0 _ z
 ·rcases Nat.eq_zero_or_pos w.natAbs with e | e
  ·have:w=((0:Nat):Int):=by omega
   rw [this,yD] at z
   exact dg0 _ z
  ·rw [show w=-((w.natAbs:Nat):Int) by omega,xQ e] at z
   rcases List.mem_cons.mp z with z | z
   ·cases z
   ·exact dg0 _ z
theorem zcQ {w:Str} (h:z6 w=true):Wd w:=by
 obtain ⟨_,a,_,b⟩:=jW h
 refine ⟨by omega,Vk h,fun z=>?_⟩
 have:=List.all_eq_true.mp b 32 z
 revert this;decide +kernel
theorem zd6 {w:Str} (h:w∈whyL):Wd w:=by
 unfold whyL at h
 simp only [List.mem_cons,List.not_mem_nil,or_false] at h
 rcases h with rfl | rfl | rfl <;> exact ⟨by decide +kernel,by unfold Asc;decide +kernel,by decide +kernel⟩
theorem wb {x:String} (h:((Str.ofString x).cps.toList.all fun c=>decide (c < 128) && decide (c≠32))=true) (l:(Str.ofString x).length≤40):Wd (Str.ofString x):=by
 have h':=List.all_eq_true.mp h
 refine ⟨l,fun c hc=>?_,fun z=>?_⟩
 ·have:=h' c hc
  simp only [Bool.and_eq_true,decide_eq_true_eq] at this
  exact this.1
 ·have:=h' 32 z
  simp at this
theorem WJ {rows:List Row} (h:∀ r∈rows,Zh r.1∧wB r.2):∀ w∈wsR rows,Wd w:=fun w hw=>by
 obtain ⟨r,hr,hw⟩:=List.mem_flatMap.mp hw
 obtain ⟨⟨a,b⟩,c⟩:=h r hr
 unfold rwW at hw
 simp only [List.mem_cons,List.not_mem_nil,or_false] at hw
 rcases hw with rfl | rfl | rfl
 ·exact zcQ a
 ·exact Zx (v3 b)
 ·exact Zx (v3 c)
theorem xx:∀ (rows:List Row),(wsR rows).length=3 * rows.length
 | []=>rfl
 | r :: rows=>by
  show (rwW r ++ wsR rows).length=_
  rw [List.length_append,xx rows,List.length_cons]
  show 3 + _=_
  omega
theorem zbz {oc:Oc} (h:JL oc):(∀ w∈ocW oc,Wd w)∧(ocW oc).length≤21∧(";":Str) ∉ ocW oc:=by
 have semi:∀ w:Int,(";":Str)≠zH w:=fun w z=>by
  have e:(Str.ofString ";").cps.toList=[59]:=by decide +kernel
  have z':=congrArg (fun x:Str=>x.cps.toList) z
  have z':(Str.ofString ";").cps.toList=(zH w).cps.toList:=z'
  rw [e] at z'
  have dg0:∀ m,59 ∉ dg m:=fun m hm=>by have:=jc m 59 hm;omega
  rcases Int.le_total 0 w with c | c
  ·rw [show w=((w.toNat:Nat):Int) by omega,yD] at z'
   exact dg0 w.toNat (by rw [← z'];simp)
  ·rcases Nat.eq_zero_or_pos w.natAbs with e | e
   ·have:w=((0:Nat):Int):=by omega
    rw [this,yD] at z'
    exact dg0 0 (by rw [← z'];simp)
   ·rw [show w=-((w.natAbs:Nat):Int) by omega,xQ e] at z'
    cases z'
 cases oc with
 | done sa =>
  obtain ⟨h1,h2⟩:=h
  refine ⟨fun w hw=>?_,?_,fun z=>?_⟩
  ·rcases List.mem_cons.mp hw with rfl | hw
   ·exact wb (by decide +kernel) (by decide +kernel)
   ·obtain ⟨i,hi,rfl⟩:=List.mem_map.mp hw
    exact Zx (v3 (h2 i hi))
  ·show ((Str.ofString "done") :: sa.map zH).length≤21
   rw [List.length_cons,List.length_map];omega
  ·rcases List.mem_cons.mp z with z | z
   ·exact absurd z (by decide +kernel)
   ·obtain ⟨i,hi,e⟩:=List.mem_map.mp z
    exact semi i e.symm
 | off w =>
  refine ⟨fun x hx=>?_,by show 2≤21;decide,fun z=>?_⟩
  ·rcases List.mem_cons.mp hx with rfl | hx
   ·exact wb (by decide +kernel) (by decide +kernel)
   ·rw [List.mem_singleton.mp hx];exact zd6 h
  ·have h:w∈whyL:=h
   rcases List.mem_cons.mp z with z | z
   ·exact absurd z (by decide +kernel)
   ·have e:=List.mem_singleton.mp z
    rw [← e] at h
    exact absurd h (by decide +kernel)
def b32:Str:=⟨#[32]⟩
theorem qO:(Str.ofString " ")=b32:=by decide +kernel
theorem wc:(Str.ofString " ").length=1:=by decide +kernel
theorem v4 (z:Str):0≤Xc z∧Xc z < 1009:=⟨Int.emod_nonneg _ (by decide),Int.emod_lt_of_pos _ (by decide)⟩
theorem zcR:((List.range 1009).all fun n=>decide (zfS (zH (n:Nat)) 4=Jr (Str.ofString "0") (4 - ((zH (n:Nat)).length:Int)) ++ zH (n:Nat)) && (decide ((zfS (zH (n:Nat)) 4).length=4) && ((zfS (zH (n:Nat)) 4).cps.toList.all fun c=>decide (c < 128) && decide (c≠32))))=true:=by decide +kernel
theorem KN {i:Int} (h0:0≤i) (h1:i < 1009):zfS (zH i) 4=Jr (Str.ofString "0") (4 - ((zH i).length:Int)) ++ zH i∧(zfS (zH i) 4).length=4∧Asc (zfS (zH i) 4)∧32 ∉ (zfS (zH i) 4).cps.toList:=by
 have:=List.all_eq_true.mp zcR i.toNat (List.mem_range.mpr (by omega))
 rw [show ((i.toNat:Nat):Int)=i by omega] at this
 simp only [Bool.and_eq_true,decide_eq_true_eq] at this
 obtain ⟨a,b,c⟩:=this
 have c':=List.all_eq_true.mp c
 refine ⟨a,b,fun d hd=>?_,fun z=>?_⟩
 ·have:=c' d hd
  simp only [Bool.and_eq_true,decide_eq_true_eq] at this
  exact this.1
 ·have:=c' 32 z
  simp at this
theorem YK (z:Str):(va z).length=4∧Asc (va z)∧32 ∉ (va z).cps.toList:=(KN (v4 z).1 (v4 z).2).2
theorem KO:∀ (cs:List Nat) (i:Nat),(ckL i cs).length=cs.length
 | [],_=>rfl
 | _ :: cs,i=>by show (ckL (i + 1) cs).length + 1=_;rw [KO cs];rfl
theorem KP:∀ (cs:List Nat) (i j:Nat) (c:Nat),cs[j]?=some c→(ckL i cs)[j]?=some ((c:Int) * (1 + ((i + j:Nat):Int) % 1008))
 | [],_,j,c,h=>by simp at h
 | d :: cs,i,0,c,h=>by
  simp only [List.getElem?_cons_zero,Option.some.injEq] at h
  subst h
  rfl
 | d :: cs,i,j + 1,c,h=>by
  have:=KP cs (i + 1) j c (by simpa using h)
  rw [show i + 1 + j=i + (j + 1) by omega] at this
  exact this
theorem WK:∀ (a b:List Nat) (i:Nat),ckL i (a ++ b)=ckL i a ++ ckL (i + a.length) b
 | [],b,i=>rfl
 | c :: a,b,i=>by
  show _ :: ckL (i + 1) (a ++ b)=_ :: (ckL (i + 1) a ++ _)
  rw [WK a b (i + 1),List.length_cons,show i + 1 + a.length=i + (a.length + 1) by omega]
theorem zcS {z:Str} (h:Asc z):z.cps.all (· < 128)=true:=by
 rw [← Array.all_toList,List.all_eq_true]
 exact fun c hc=>decide_eq_true (h c hc)
theorem k7 {i:Int} (h0:0≤i) (h1:i < 1000000):-big < i∧i < big:=by unfold big;constructor <;> omega
theorem WL {z:Str} (h1:Asc z) (h2:z.length≤20000) (q:∀ H',Same H H'→Q (.str (va z)) H') :
  kL K t { nx:=fun _ H'=>Q .non H',rt:=Q } (L2.start ["body","total"] [.str z]) H:=by
 simp only [kL,zaV,qy,zbd,zbf,L2.start,zv,zE,zo,Y1,jv,Y0,zC,tOp,zg,tC,zd,zm,tCB,tBM,tyV,y6,v7,kq,rI,rI0,y8,List.map,List.replicate,List.length,List.append,jqa,jqb,jqc,jqd,jqe,jqf,jqg,jqh,jqi,jqj,jqk,jql,jqm,jqn,and_true,true_and,and_assoc,jqo,jqp,jqq,jqr,jqs,jqt,if_true,ite_true,jqu,ite_false,if_false]
 refine ⟨zcS h1,fun D hD=>?_⟩
 refine vF (J:=zdU z) z.cps.size (by show z.length≤_;omega) (fun τ=>∃ o1 o2,τ=[o1,o2]) (fun i v=>∃ c,z.cps[i]?=some c∧v=.int ((c:Int) * (1 + (i:Int) % 1008))) ⟨_,_,rfl⟩ (fun i H _ h=>h) (fun H _=>Nat.le_refl _) hD ?_ ?_
 ·rintro i v τ H2 H' ⟨o1,o2,rfl⟩ hS hi ⟨T,c,rfl,hT,rfl,hc⟩
  have lc:c < 128:=h1 c (by rw [← Array.getElem?_toList] at hc;exact List.mem_of_getElem? hc)
  refine ⟨_,rfl,_,SqT.of zp,rfl,_,_,rfl,_,_,rfl,rfl,_,rfl,_,rfl,rfl,_,rfl,_,rfl,by decide,⟨k7 (Int.natCast_nonneg _) (by show ((c:Nat):Int) < _;omega),k7 (by omega) (by omega)⟩,⟨_,_,rfl⟩,⟨c,hc,rfl⟩,isV T hT⟩
 ·intro ys H' hl hv hS hq
  have e:ys=(ckL 0 z.cps.toList).map V.int:=by
   apply List.ext_getElem?
   intro i
   rcases Nat.lt_or_ge i ys.length with z1 | z1
   ·obtain ⟨c,hc,e⟩:=hv i ys[i] (List.getElem?_eq_getElem z1)
    rw [← Array.getElem?_toList] at hc
    rw [List.getElem?_eq_getElem z1,e,List.getElem?_map,KP _ 0 i c hc,Nat.zero_add]
    rfl
   ·rw [List.getElem?_eq_none z1,List.getElem?_eq_none (by rw [List.length_map,KO,Array.length_toList];omega)]
  rw [e] at hq
  have r:=v4 z
  refine ⟨_,SqL.of hq,by decide,?_,4,rfl,by decide,q H' hS⟩
  exact wT (w:=Xc z) (decide_eq_true ⟨by omega,by omega⟩)
theorem yS {H:Hp} {o:HO} {p:Addr} (h:H p=none):∃ H',H'=upd H p o∧Same H H'∧H' p=some o:=⟨_,rfl,isV p h,zp⟩
theorem RwsAt.same {H H':Hp} {a:Addr} {rows:List Row} (h:RwsAt H a rows) (s:Same H H'):RwsAt H' a rows:=by
 obtain ⟨xs,hx,p⟩:=h
 exact ⟨xs,s _ _ hx,xF (fun _ _=>WH s) p⟩
theorem zcT {r:Int} {oc:Oc} {gs:List Row} (h2:rB r) (h4:JL oc) (h6:Yy gs):∀ w∈Yz r oc gs,Wd w:=fun w hw=>by
 unfold Yz at hw
 simp only [List.mem_cons,List.mem_append] at hw
 rcases hw with rfl | rfl | hw | rfl | hw
 ·exact wb (by decide +kernel) (by decide +kernel)
 ·exact Zx (v3 (Xd h2))
 ·exact (zbz h4).1 w hw
 ·exact wb (by decide +kernel) (by decide +kernel)
 ·exact WJ h6.nm w hw
theorem zcU {r:Int} {gs:List Row} (h2:rB r) (h6:Yy gs):∀ w∈Wa r gs,Wd w:=fun w hw=>by
 unfold Wa at hw
 simp only [List.mem_cons] at hw
 rcases hw with rfl | rfl | rfl | hw
 ·exact wb (by decide +kernel) (by decide +kernel)
 ·exact Zx (v3 (Xd h2))
 ·exact wb (by decide +kernel) (by decide +kernel)
 ·exact WJ h6.nm w hw
theorem zbA {rows:List Row} {i:Nat} {r:Row} (h:rows[i]?=some r):wsR (rows.take (i + 1))=wsR (rows.take i) ++ rwW r:=by
 rw [List.take_succ,h]
 unfold wsR
 rw [List.flatMap_append]
 show _ ++ (rwW r ++ [])=_
 rw [List.append_nil]
theorem zbB {α:Type} (f:α→V) (xs:List α) {k:Nat} (h:k≤xs.length):yM (xs.map f) none (some (k:Int))=(xs.take k).map f:=by
 unfold yM
 have e1:HT.sIx (xs.map f).length 0 none=0:=rfl
 have e2:HT.sIx (xs.map f).length (xs.map f).length (some (k:Int))=k:=by
  show (if (k:Int) < 0 then ((k:Int) + ((xs.map f).length:Int)).toNat else min (k:Int).toNat (xs.map f).length)=k
  rw [if_neg (by omega),Int.toNat_natCast,List.length_map]
  omega
 rw [e1,e2,List.drop_zero,List.map_take]
 rfl
theorem zd7 {x:String} (h:((Str.ofString x).cps.toList.all fun c=>decide (c < 128))=true):yA (V.str (Str.ofString x))=true:=Asc.flat fun c hc=>of_decide_eq_true (List.all_eq_true.mp h c hc)
theorem Wb {α:Type} {l:List α} {i:Nat} {r:α} (h:l[i]?=some r):l.take (i + 1)=l.take i ++ [r]:=by rw [List.take_succ,h];rfl
theorem zbC {n:Nat} (h:n < 1000000):n < sizeLine:=Nat.lt_of_lt_of_le h (by decide)
theorem Wc {α β:Type} {F:α→β→Prop}:∀ {l₁:List α} {l₂:List β},l₁.length=l₂.length→(∀ (i:Nat) a b,l₁[i]?=some a→l₂[i]?=some b→F a b)→Paired F l₁ l₂
 | [],[],_,_=>.nil
 | [],b :: l,h,_=>by simp at h
 | a :: l,[],h,_=>by simp at h
 | a :: l,b :: m,h,f=>.cons (f 0 a b rfl rfl) (Wc (by simpa using h) fun i x y h1 h2=>f (i + 1) x y (by simpa using h1) (by simpa using h2))
theorem VY:∀ {a b:List Pl},a.Pairwise (fun a b=>ya a b=true)→b.Pairwise (fun a b=>ya a b=true)→a.Perm b→a=b
 | [],b,_,_,h=>h.nil_eq
 | x :: a,[],_,_,h=>absurd h.length_eq (by simp)
 | x :: a,y :: b,ha,hb,h=>by
  rw [List.pairwise_cons] at ha hb
  have e:x=y:=by
   rcases List.mem_cons.mp (h.mem_iff.mp (List.mem_cons_self ..)) with e | e
   ·exact e
   ·rcases List.mem_cons.mp (h.mem_iff.mpr (List.mem_cons_self ..)) with e' | e'
    ·exact e'.symm
    ·have z:=qe (ha.1 y e') (hb.1 x e)
     rw [vV] at z
     cases z
  subst e
  rw [VY ha.2 hb.2 (List.perm_cons x |>.mp h)]
theorem zdo {a:List Pl} (h:a.Pairwise (fun a b=>ya a b=true)):a.Nodup:=h.imp fun {x y} z e=>by rw [e,vV] at z;cases z
theorem WM:∀ {ps:List Pl},(∀ q∈ps,z6 q.1=true)→yH (ps.map plD)=true
 | [],_=>by rw [List.map_nil,yH]
 | r :: t,h=>by rw [List.map_cons,yH,WM fun x hx=>h x (List.mem_cons_of_mem _ hx),Bool.and_true,zd5 (h r List.mem_cons_self)]
theorem We (ps:List Pl):(PyData.list (ps.map plD)).depth≤64:=by
 have h:∀ l:List Pl,PyData.depthAll (l.map plD)≤10:=fun l=>by
  induction l with
  | nil=>simp [PyData.depthAll]
  | cons r t ih =>
   rw [List.map_cons,PyData.depthAll]
   have:(plD r).depth≤10:=by simp [plD,PyData.depth,PyData.depthAll]
   omega
 have:=h ps
 rw [PyData.depth]
 omega
theorem jH (w:Int):Str.ofString ";"≠zH w:=fun z=>by
 have e:=(zbz (oc:=.done [0]) ⟨by decide,fun i hi=>by rw [List.mem_singleton.mp hi];exact ⟨by decide,by decide⟩⟩).2.2
 have e':(Str.ofString ";").cps.toList=[59]:=by decide +kernel
 have z':(Str.ofString ";").cps.toList=(zH w).cps.toList:=congrArg (fun x:Str=>x.cps.toList) z
 rw [e'] at z'
 have dg0:∀ m,59 ∉ dg m:=fun m hm=>by have:=jc m 59 hm;omega
 rcases Int.le_total 0 w with c | c
 ·rw [show w=((w.toNat:Nat):Int) by omega,yD] at z'
  exact dg0 w.toNat (by rw [← z'];simp)
 ·rcases Nat.eq_zero_or_pos w.natAbs with e | e
  ·have:w=((0:Nat):Int):=by omega
   rw [this,yD] at z'
   exact dg0 0 (by rw [← z'];simp)
  ·rw [show w=-((w.natAbs:Nat):Int) by omega,xQ e] at z'
   cases z'
theorem v5 {a b:List Str} {x:Str} (h:x ∉ a):(a ++ x :: b).idxOf x=a.length:=by
 rw [List.idxOf_append,if_neg h]
 simp
theorem YL (r:Int) (oc:Oc) (gs:List Row):Yz r oc gs=(Str.ofString "deal" :: zH r :: ocW oc) ++ Str.ofString ";" :: wsR gs:=rfl
theorem YM (r:Int) (gs:List Row):Wa r gs=[Str.ofString "mark",zH r] ++ Str.ofString ";" :: wsR gs:=rfl
theorem WN {r:Int} {oc:Oc} (h:JL oc):Str.ofString ";" ∉ (Str.ofString "deal" :: zH r :: ocW oc):=fun z=>by
 rcases List.mem_cons.mp z with z | z
 ·exact absurd z (by decide +kernel)
 ·rcases List.mem_cons.mp z with z | z
  ·exact jH _ z
  ·exact (zbz h).2.2 z
theorem Zl {r:Int}:Str.ofString ";" ∉ [Str.ofString "mark",zH r]:=fun z=>by
 rcases List.mem_cons.mp z with z | z
 ·exact absurd z (by decide +kernel)
 ·exact jH _ (List.mem_singleton.mp z)
theorem in_strs {ws:List Str} {w:Str}:inV (.str w) (ws.map V.str)=true↔w∈ws:=by
 unfold inV
 rw [List.any_eq_true]
 constructor
 ·rintro ⟨x,hx,e⟩
  obtain ⟨y,hy,rfl⟩:=List.mem_map.mp hx
  simp only [eqV,beq_iff_eq] at e
  exact e ▸ hy
 ·intro h
  exact ⟨_,List.mem_map_of_mem h,by simp [eqV]⟩
theorem ZO {D:ko} {z:Str} {i:Nat} {tot:Int} {c:Nat} {o4:Option V} (hc:c < 128) (q:D.nx [some (.str z),some (.int ((tot + (c:Int) * (1 + (i:Int) % 1008)) % 1009)),some (.int (1 + ((i + 1:Nat):Int) % 1008)),some (.str ⟨#[c]⟩),o4] H) :
  vp K t D [some (.str z),some (.int tot),some (.int (1 + (i:Int) % 1008)),some (.str ⟨#[c]⟩),o4] H:=by
 simp only [vp,zbf,L2.start,zv,zE,zo,zy,tOp,zg,tC,zd,zm,zL,zw,tCB,rEq,rI,rI0,yo,List.map,List.replicate,List.length,List.append,jqa,jqb,jqc,jqd,jqe,jqf,jqg,jqh,jqi,jqj,jqk,jql,jqm,jqn,and_true,true_and,and_assoc,jqo,jqp,jqq,jqr,jqs,jqt,if_true,ite_true,jqu,ite_false,if_false]
 have e:(#[c].getD 0 0:Nat)=c:=rfl
 rw [e]
 rw [Int.mul_comm (c:Int)] at q
 refine ⟨rfl,⟨k7 (by omega) (by omega),k7 (by omega) (by omega)⟩,by decide,?_⟩
 by_cases z1:(1 + (i:Int) % 1008 + 1=1009)
 ·rw [if_pos z1]
  rw [show (1 + ((i + 1:Nat):Int) % 1008)=1 by omega] at q
  exact q
 ·rw [if_neg z1]
  rw [show (1 + ((i + 1:Nat):Int) % 1008)=1 + (i:Int) % 1008 + 1 by omega] at q
  exact q
def ckI (z:Str) (i:Nat) (σ:St) (H0 H':Hp):Prop:=∃ o3,σ=[some (.str z),some (.int ((ckL 0 (z.cps.toList.take i)).sum % 1009)),some (.int (1 + (i:Int) % 1008)),o3,none]∧H'=H0
theorem zcV {z:Str} {i c:Nat} (h:z.cps[i]?=some c):((ckL 0 (z.cps.toList.take i)).sum % 1009 + (c:Int) * (1 + (i:Int) % 1008)) % 1009=(ckL 0 (z.cps.toList.take (i + 1))).sum % 1009:=by
 have li:=(Array.getElem?_eq_some_iff.mp h).1
 rw [← Array.getElem?_toList] at h
 rw [Wb h,WK,List.sum_append,List.length_take,Array.length_toList,Nat.min_eq_left (by omega),Nat.zero_add]
 show _=((ckL 0 (z.cps.toList.take i)).sum + ((c:Int) * (1 + (i:Int) % 1008) + 0)) % 1009
 omega
theorem YN {z:Str} (h1:Asc z) (h2:z.length≤20000) (q:∀ H',Same H H'→Q (.str (va z)) H') :
  js K t { nx:=fun _ H'=>Q .non H',rt:=Q } (L2.start ["body","total","weight","sign","figures"] [.str z]) H:=by
 simp only [js,km,zbf,L2.start,Vh,zv,zE,zo,zC,zy,tOp,zg,tC,zd,zm,we,zL,zw,tCB,xM,Jn,rEq,rI,rI0,yn,yT,y8,yo,List.map,List.replicate,List.length,List.append,jqa,jqb,jqc,jqd,jqe,jqf,jqg,jqh,jqi,jqj,jqk,jql,jqm,jqn,and_true,true_and,and_assoc,jqo,jqp,jqq,jqr,jqs,jqt,if_true,ite_true,jqu,ite_false,if_false]
 refine zal (fun i σ H'=>ckI z i σ H H') ⟨_,rfl,rfl⟩ ?_ ?_
 ·rintro i c σ H1 hc ⟨o3,rfl,rfl⟩
  refine ZO (h1 c (by rw [← Array.getElem?_toList] at hc;exact List.mem_of_getElem? hc)) ⟨some (.str ⟨#[c]⟩),?_,rfl⟩
  rw [zcV hc]
 ·rintro σ H1 ⟨o3,rfl,rfl⟩
  rw [List.take_of_length_le (by simp)]
  have r:=v4 z
  have w:inW (Xc z)=true:=decide_eq_true ⟨by omega,by omega⟩
  obtain ⟨e,l,_⟩:=KN r.1 r.2
  have ln:=(qo w).2.2
  have lz:(Str.ofString "0").length=1:=by decide +kernel
  refine ⟨_,rfl,_,rfl,wT w,_,rfl,_,⟨zt (by show (zH (Xc z)).length≤_;omega),rfl⟩,by omega,?_,?_,_,rfl,_,rfl,?_,?_⟩
  ·have:((zH (Xc z)).length:Int)≤40:=by omega
   show -1000000 < 4 - ((zH (Xc z)).length:Int)
   omega
  ·rw [lz];omega
  ·rw [Vj,lz]
   show _ + (zH (Xc z)).length≤_
   exact zt (by omega)
  ·have:=q H1 (Same.refl _)
   unfold va at this
   rw [e] at this
   exact this
theorem vw {α:Type} (f:α→V) (xs:List α) (k:Nat):yM (xs.map f) none (some (k:Int))=(xs.take k).map f:=by
 rcases Nat.le_total k xs.length with h | h
 ·exact zbB f xs h
 ·have e:=zbB f xs (Nat.le_refl xs.length)
  rw [List.take_of_length_le h]
  rw [List.take_of_length_le (Nat.le_refl _)] at e
  refine Eq.trans ?_ e
  unfold yM
  have e1:HT.sIx (xs.map f).length (xs.map f).length (some (k:Int))=xs.length:=by
   show (if (k:Int) < 0 then ((k:Int) + ((xs.map f).length:Int)).toNat else min (k:Int).toNat (xs.map f).length)=xs.length
   rw [if_neg (by omega),Int.toNat_natCast,List.length_map];omega
  have e2:HT.sIx (xs.map f).length (xs.map f).length (some (xs.length:Int))=xs.length:=by
   show (if (xs.length:Int) < 0 then ((xs.length:Int) + ((xs.map f).length:Int)).toNat else min (xs.length:Int).toNat (xs.map f).length)=xs.length
   rw [if_neg (by omega),Int.toNat_natCast,List.length_map];omega
  rw [e1,e2]
theorem yx {α:Type} (f:α→V) (xs:List α) (k:Nat):yM (xs.map f) (some (k:Int)) none=(xs.drop k).map f:=by
 rcases Nat.le_total k xs.length with h | h
 ·exact VX f xs h
 ·have e:=VX f xs (Nat.le_refl xs.length)
  rw [List.drop_eq_nil_of_le h]
  rw [List.drop_eq_nil_of_le (Nat.le_refl _)] at e
  refine Eq.trans ?_ e
  unfold yM
  have e1:HT.sIx (xs.map f).length 0 (some (k:Int))=xs.length:=by
   show (if (k:Int) < 0 then ((k:Int) + ((xs.map f).length:Int)).toNat else min (k:Int).toNat (xs.map f).length)=xs.length
   rw [if_neg (by omega),Int.toNat_natCast,List.length_map];omega
  have e2:HT.sIx (xs.map f).length 0 (some (xs.length:Int))=xs.length:=by
   show (if (xs.length:Int) < 0 then ((xs.length:Int) + ((xs.map f).length:Int)).toNat else min (xs.length:Int).toNat (xs.map f).length)=xs.length
   rw [if_neg (by omega),Int.toNat_natCast,List.length_map];omega
  rw [e1,e2]
theorem WO {n:Nat}:∀ {ws:List Str},(∀ w∈ws,w.length≤n)→(ws.map (·.length)).sum≤n * ws.length
 | [],_=>Nat.zero_le _
 | w :: ws,h=>by
  have a:=WO (ws:=ws) fun x hx=>h x (List.mem_cons_of_mem _ hx)
  have b:=h w List.mem_cons_self
  simp only [List.map_cons,List.sum_cons,List.length_cons,Nat.mul_add,Nat.mul_one]
  omega
theorem okWs.of {ws zs:List Str} (h:okWs ws) (l:zs.length≤ws.length) (m:∀ w∈zs,w∈ws):okWs zs:=⟨Nat.le_trans l h.1,fun w hw=>h.2 w (m w hw)⟩
theorem okWs.drop {ws:List Str} (h:okWs ws) (k:Nat):okWs (ws.drop k):=h.of (by rw [List.length_drop];omega) fun w hw=>List.mem_of_mem_drop hw
theorem okWs.take {ws:List Str} (h:okWs ws) (k:Nat):okWs (ws.take k):=h.of (by rw [List.length_take];omega) fun w hw=>List.mem_of_mem_take hw
section
variable {E:XK}
theorem Xe {x:Str} (h1:x.length≤1000) (h2:Asc x) (h3:yv x=true→∀ H',Same H H'→Q (.int (yO x)) H') (h4:¬ yv x=true→∀ H',Same H H'→E (.ref t.c_NoLine) none H') :
  j3 K t E { nx:=fun _ H'=>Q .non H',rt:=Q } (L2.start ["word","refusal"] [.str x]) H:=by
 simp only [j3,kE,JH,L2.start,ql,vt,zg,zd,zm,List.map,List.replicate,List.length,List.append,jqa,jqb,jqc,jqd,jqe,jqf,jqg,jqh,jqi,jqj,jqk,jql,jqm,jqn,and_true,true_and,and_assoc,jqo,jqp,jqq,jqr,jqs,jqt,if_true,ite_true,jqu,ite_false,if_false]
 refine ⟨h1,h2,fun H' s=>?_⟩
 by_cases e:yv x=true
 ·rw [if_pos e]
  exact h3 e H' s
 ·rw [if_neg e]
  exact fun a ha=>⟨by omega,h2,fun y=>⟨by decide,zp,h4 e _ (s.trans (isV a ha))⟩⟩
theorem VZ {x:Str} (h1:x.length≤1000) (h2:Asc x) (h3:rkP x→∀ H',Same H H'→Q (.int (yO x)) H') (h4:¬ rkP x→∀ H',Same H H'→E (.ref t.c_NoLine) none H') :
  qJ K t E { nx:=fun _ H'=>Q .non H',rt:=Q } (L2.start ["word","rank"] [.str x]) H:=by
 simp only [qJ,yI,L2.start,yi,vt,zv,zE,zo,zC,zy,tOp,zg,tC,zd,zm,zL,tOr,zw,zB,rI,rI0,List.map,List.replicate,List.length,List.append,jqa,jqb,jqc,jqd,jqe,jqf,jqg,jqh,jqi,jqj,jqk,jql,jqm,jqn,and_true,true_and,and_assoc,jqo,jqp,jqq,Nat.reduceSub,Nat.reduceAdd,jqr,jqs,jqt,Int.reduceToNat,Int.reducePow,Int.reduceNeg,Int.reduceMul,Int.reduceAdd,if_true,ite_true,jqu,ite_false,if_false]
 refine ⟨h1,h2,fun e H' s=>?_,fun e H' s=>h4 (fun z=>e z.1) H' s⟩
 refine ym (fun c=>?_) fun c=>⟨jG (by decide) (by decide),ym (fun d=>?_) fun d=>?_⟩
 ·exact ⟨by omega,h2,fun y=>⟨by decide,h4 (fun z=>by have:=z.2.1;omega) H' s⟩⟩
 ·exact ⟨by omega,h2,fun y=>⟨by decide,h4 (fun z=>by have:=z.2.2;omega) H' s⟩⟩
 ·exact h3 ⟨e,by constructor <;> omega⟩ H' s
theorem WP {x:Str} (h1:x.length≤1000) (h2:Asc x) (h3:z6 x=true→∀ H',Same H H'→Q (.str x) H') (h4:¬ z6 x=true→∀ H',Same H H'→E (.ref t.c_NoLine) none H') :
  kI K t E { nx:=fun _ H'=>Q .non H',rt:=Q } (L2.start ["word"] [.str x]) H:=by
 simp only [kI,qA,L2.start,yi,vt,zv,zC,zy,zg,zd,zm,zL,jJ,tB,zB,List.map,List.replicate,List.length,List.append,jqa,jqb,jqc,jqd,jqe,jqf,jqg,jqh,jqi,jqj,jqk,jql,jqm,jqn,and_true,true_and,and_assoc,jqo,jqp,jqq,jqr,jqs,jqt,if_true,ite_true,jqu,ite_false,if_false]
 refine ⟨h1,fun H' s=>ym (fun e=>?_) fun e=>?_⟩
 ·exact ⟨by omega,h2,fun y=>⟨by decide,h4 (by rw [e];decide) H' s⟩⟩
 ·exact h3 (by simpa using e) H' s
theorem ZP {a:Addr} {ws:List Str} (h1:H a=some (.lst (ws.map V.str))) (h2:okWs ws) (q:E (.ref t.c_NoLine) none H) :
  xD K t E { nx:=fun _ H'=>Q .non H',rt:=Q } [some (.ref a)] H:=by
 simp only [xD,Yx,L2.start,yi,zg,zd,zm,List.map,List.replicate,List.length,List.append,jqa,jqb,jqc,jqd,jqe,jqf,jqg,jqh,jqi,jqj,jqk,jql,jqm,jqn,and_true,true_and,and_assoc,jqo,jqp,jqq,jqr,jqs,jqt,if_true,ite_true,jqu,ite_false,if_false]
 have:=WO (n:=1000) fun w hw=>(h2.2 w hw).1
 have:=h2.1
 exact ⟨ws,h1,by omega,fun x hx=>(h2.2 x hx).2,by omega,fun y=>⟨by decide,q⟩⟩
theorem ZQ {a:Addr} {ws:List Str} (hW:∀ H,SqT K H t.c_WHYS (whyL.map V.str)) (h1:H a=some (.lst (ws.map V.str))) (h2:okWs ws) (n:ws[0]?≠some (Str.ofString "done")) (h3:ocP ws→∀ o h y H',Same H H'→ws[0]?=some h→H' o=some (.tup [.str h,y])→Q (.ref o) H') (h4:¬ ocP ws→∀ H',Same H H'→E (.ref t.c_NoLine) none H') :
  vk K t E { nx:=fun _ H'=>Q .non H',rt:=Q } [some (.ref a)] H:=by
 simp only [vk,Yx,L2.start,yi,zv,zC,zy,tOp,zg,tC,xN,zd,zm,zL,xq,zw,tCB,xM,zG,rEq,rIn,yT,yo,List.map,List.replicate,List.length,List.append,jqa,jqb,jqc,jqd,jqe,jqf,jqg,jqh,jqi,jqj,jqk,jql,jqm,jqn,and_true,true_and,and_assoc,jqo,jqp,jqq,jqr,jqs,jqt,if_true,ite_true,jqu,ite_false,if_false]
 have no:¬ (∃ w∈whyL,ws=[Str.ofString "off",w])→xD K t E { nx:=fun _ H'=>Q .non H',rt:=Q } [some (.ref a)] H:=fun z=>ZP h1 h2 (h4 (fun y=>by
  rcases y with ⟨r,rfl,_⟩ | y
  ·exact n rfl
  ·exact z y) H (Same.refl _))
 refine ⟨_,.inl ⟨_,SqL.of h1,rfl⟩,ym (fun e=>?_) fun e=>no fun ⟨w,_,z⟩=>e (by rw [z];rfl)⟩
 rw [List.length_map] at e
 obtain ⟨w0,w1,rfl⟩:∃ w0 w1,ws=[w0,w1]:=by
  match ws,e with
  | [w0,w1],_=>exact ⟨w0,w1,rfl⟩
  | [],e=>exact absurd e (by decide)
  | [_],e=>exact absurd e (by simp)
  | _ :: _ :: _ :: _,e=>exact absurd e (by simp only [List.length_cons];omega)
 refine ⟨_,SqL.of h1,_,zS (n:=0) rfl,rfl,ym (fun f=>?_) fun f=>no fun ⟨w,_,z⟩=>f (by injection z with z;rw [z])⟩
 obtain rfl:w0=Str.ofString "off":=by injection f
 refine ⟨_,SqL.of h1,_,zS (n:=1) rfl,_,.inr (hW H),rfl,rfl,ym (fun g=>?_) fun g=>no fun ⟨w,hw,z⟩=>g (in_strs.mpr (by injection z with _ z;injection z with z;rw [z];exact hw))⟩
 exact ⟨_,SqL.of h1,_,zS (n:=1) rfl,by decide,fun p hp=>h3 (.inr ⟨w1,in_strs.mp g,rfl⟩) p _ _ _ (isV p hp) rfl zp⟩
theorem YO {a:Addr} {ws:List Str} (hW:∀ H,SqT K H t.c_WHYS (whyL.map V.str)) (h1:H a=some (.lst (ws.map V.str))) (h2:okWs ws) (h3:ocP ws→∀ o h y H',Same H H'→ws[0]?=some h→H' o=some (.tup [.str h,y])→Q (.ref o) H') (h4:¬ ocP ws→∀ H',Same H H'→E (.ref t.c_NoLine) none H') :
  jq K t E { nx:=fun _ H'=>Q .non H',rt:=Q } (L2.start ["words"] [.ref a]) H:=by
 simp only [jq,yI,zew,Yx,L2.start,zce,yi,zv,zo,zC,zy,tOp,zg,tC,z8,xN,zd,zm,zL,xq,zw,tCB,tSl,zF,zu,zB,y6,v7,kq,xM,xn,zG,rEq,rIn,yl,yT,yo,List.map,List.replicate,List.length,List.append,jqa,jqb,jqc,jqd,jqe,jqf,jqg,jqh,jqi,jqj,jqk,jql,jqm,jqn,and_true,true_and,and_assoc,jqo,jqp,jqq,jqr,jqs,jqt,if_true,ite_true,jqu,ite_false,if_false]
 refine ⟨_,SqL.of h1,fun p hp=>⟨by decide,fun p1 hp1=>?_⟩⟩
 rw [show (1:Int)=((1:Nat):Int) from rfl,vw] at hp1 ⊢
 obtain ⟨H1,e1,s1,g1⟩:=yS (o:=.lst ((ws.take 1).map V.str)) hp
 rw [← e1] at hp1 ⊢
 obtain ⟨H2,e2,s2,g2⟩:=yS (o:=.lst [V.str (Str.ofString "done")]) hp1
 rw [← e2]
 have S2:=s1.trans s2
 have fl:([V.str (Str.ofString "done")].all yA)=true:=by rw [List.all_cons,zd7 (by decide +kernel)];rfl
 have fl2:(((ws.take 1).map V.str).all yA)=true:=by
  rw [List.all_eq_true]
  intro v hv
  obtain ⟨w,hw,rfl⟩:=List.mem_map.mp hv
  exact (h2.2 w (List.mem_of_mem_take hw)).2.flat
 have mx:Yi ((ws.take 1).map V.str) [V.str (Str.ofString "done")]=true:=by
  cases ws with
  | nil=>rfl
  | cons w r=>rfl
 refine ⟨_,SqL.of (s2 _ _ g1),_,SqL.of g2,fl2,fl,mx,ym (fun e=>?_) fun e=>?_⟩
 ·cases ws with
  | nil=>cases e
  | cons w r =>
   obtain rfl:w=Str.ofString "done":=by simpa using e
   refine ⟨_,SqL.of (S2 _ _ h1),fun p2 hp2=>?_⟩
   rw [yx]
   obtain ⟨H3,e3,s3,g3⟩:=yS (o:=.lst (r.map V.str)) hp2
   have e3':H3=upd H2 p2 (.lst (((Str.ofString "done" :: r).drop 1).map V.str)):=e3
   rw [← e3']
   have lr:r.length≤100:=by have:=h2.1;simp only [List.length_cons] at this;omega
   refine ⟨⟨_,SqL.of g3⟩,fun D hD=>?_⟩
   refine vF (J:=Itl K p2) r.length (by omega) (fun τ=>∃ o,τ=[o]) (fun i v=>∃ w,r[i]?=some w∧yv w=true) ⟨_,rfl⟩ (fun i H s h=>⟨_,_,SqL.of (s _ _ g3),List.getElem?_eq_getElem (by rw [List.length_map];omega)⟩) (fun H s=>⟨_,SqL.of (s _ _ g3),by rw [List.length_map];omega⟩) hD ?_ ?_
   ·rintro i x τ H4 H5 ⟨o',rfl⟩ s4 hi ⟨rfl,hv⟩
    have hv:=hv _ (SqL.of (s4 _ _ g3))
    have hr:=List.getElem?_eq_getElem (l:=r) hi
    rw [List.getElem?_map,hr] at hv
    cases hv
    obtain ⟨l1,l2⟩:=h2.2 _ (List.mem_cons_of_mem _ (List.getElem_mem hi))
    refine ⟨_,rfl,_,rfl,l1,l2,fun en H6 s6=>⟨⟨_,rfl⟩,⟨_,hr,en⟩,s6⟩,fun en H6 s6=>h4 (fun z=>?_) H6 (S2.trans (s3.trans (s4.trans s6)))⟩
    rcases z with ⟨r',z,zn⟩ | ⟨w',_,z⟩
    ·injection z with _ z
     subst z
     exact en (zn _ (List.getElem_mem hi))
    ·injection z with z
     exact absurd z (by decide +kernel)
   ·intro ys H4 hl hv s4 hq
    refine ⟨ys,.inl ⟨SqL.of hq,fun l hl2=>⟨by decide,fun b hb=>?_⟩⟩⟩
    have oc:ocP (Str.ofString "done" :: r):=.inl ⟨r,rfl,fun w hw=>by
     obtain ⟨i,hi⟩:=List.getElem?_of_mem hw
     have li:=(List.getElem?_eq_some_iff.mp hi).1
     obtain ⟨w',e1,e2⟩:=hv i ys[i] (List.getElem?_eq_getElem (by omega))
     rw [hi] at e1
     cases e1
     exact e2⟩
    exact h3 oc b _ _ _ ((S2.trans (s3.trans s4)).trans ((isV l hl2).trans (isV b hb))) rfl zp
 ·refine ZQ hW (S2 _ _ h1) h2 (fun z=>e ?_) (fun oc o h y H' s=>h3 oc o h y H' (S2.trans s)) fun oc H' s=>h4 oc H' (S2.trans s)
  cases ws with
  | nil=>cases z
  | cons w r =>
   obtain rfl:w=Str.ofString "done":=by simpa using z
   rfl
theorem KQ {g:Addr} {gs:List Row} {xs:List V} (h:RwsAt H g gs) (hx:H g=some (.lst xs)):xs=[]↔gs=[]:=by
 obtain ⟨ys,e,pr⟩:=h
 rw [hx] at e
 cases e
 have:=Paired.length pr
 constructor
 ·rintro rfl;exact List.eq_nil_of_length_eq_zero this.symm
 ·rintro rfl;exact List.eq_nil_of_length_eq_zero this
theorem Zm {a g o:Addr} {ws:List Str} {gs:List Row} (h1:H a=some (.lst (ws.map V.str))) (h2:okWs ws) (oc:ocP (ws.drop 2)) (ng:ws[2]?=some (Str.ofString "off")→gs=[]) (h4:dlP ws gs→∀ p ys H',Same H H'→H' p=some (.tup (.str (Str.ofString "deal") :: ys))→Q (.ref p) H') (h5:¬ dlP ws gs→∀ H',Same H H'→E (.ref t.c_NoLine) none H') :
  j7 K t E { nx:=fun _ H'=>Q .non H',rt:=Q } [some (.ref a),some (.ref g),some (.ref o)] H:=by
 simp only [j7,vL,L2.start,zC,tOp,zg,tC,xN,zd,zm,zB,zG,List.map,List.replicate,List.length,List.append,jqa,jqb,jqc,jqd,jqe,jqf,jqg,jqh,jqi,jqj,jqk,jql,jqm,jqn,and_true,true_and,and_assoc,jqo,jqp,jqq,jqr,jqs,jqt,if_true,ite_true,jqu,ite_false,if_false]
 have l:1 < ws.length:=by
  have e:(ws.drop 2).length≠0:=by
   rcases oc with ⟨r,e,_⟩ | ⟨w,_,e⟩ <;> (rw [e];simp)
  rw [List.length_drop] at e
  omega
 have hg:=List.getElem?_eq_getElem l
 obtain ⟨m1,m2⟩:=h2.2 _ (List.getElem_mem l)
 refine ⟨_,SqL.of h1,_,zS (n:=1) (by rw [List.getElem?_map,hg];rfl),_,rfl,m1,m2,fun rk H' s=>⟨by decide,fun p hp=>h4 ⟨oc,ng,_,hg,rk⟩ p _ _ (s.trans (isV p hp)) zp⟩,fun rk H' s=>h5 (fun z=>?_) H' s⟩
 obtain ⟨_,_,w,e,r⟩:=z
 rw [hg] at e
 cases e
 exact rk r
theorem V0 {a g:Addr} {ws:List Str} {gs:List Row} (h1:H a=some (.lst (ws.map V.str))) (h2:okWs ws) (h3:RwsAt H g gs) (h4:dlP ws gs→∀ p ys H',Same H H'→H' p=some (.tup (.str (Str.ofString "deal") :: ys))→Q (.ref p) H') (h5:¬ dlP ws gs→∀ H',Same H H'→E (.ref t.c_NoLine) none H') :
  qK K t E { nx:=fun _ H'=>Q .non H',rt:=Q } (L2.start ["words","rows","outcome"] [.ref a,.ref g]) H:=by
 simp only [qK,jg,Wy,L2.start,yG,yi,zv,zE,zo,zC,zy,tOp,zg,tC,z8,xN,zd,zm,zL,xq,zw,tSl,zF,zu,zB,zG,yG,rEq,yl,yo,List.map,List.replicate,List.length,List.append,jqa,jqb,jqc,jqd,jqe,jqf,jqg,jqh,jqi,jqj,jqk,jql,jqm,jqn,and_true,true_and,and_assoc,jqo,jqp,jqq,jqr,jqs,jqt,if_true,ite_true,jqu,ite_false,if_false]
 refine ⟨_,SqL.of h1,fun p hp=>⟨ws.drop 2,by rw [zp,show (2:Int)=((2:Nat):Int) from rfl,yx],h2.drop 2,fun oc o h y H' s eh ho=>?_,fun oc H' s=>h5 (fun z=>oc z.1) H' ((isV p hp).trans s)⟩⟩
 have S:=(isV (o:=HO.lst (yM (ws.map V.str) (some 2) none)) p hp).trans s
 have e2:ws[2]?=some h:=by rw [List.getElem?_drop] at eh;exact eh
 simp only [Zi,Wy,L2.start,yG,yi,zv,zE,zo,zC,zy,tOp,zg,tC,z8,xN,zd,zm,zL,xq,zw,tSl,zF,zu,zB,zG,yG,rEq,yl,yo,List.map,List.replicate,List.length,List.append,jqa,jqb,jqc,jqd,jqe,jqf,jqg,jqh,jqi,jqj,jqk,jql,jqm,jqn,and_true,true_and,and_assoc,jqo,jqp,jqq,jqr,jqs,jqt,if_true,ite_true,jqu,ite_false,if_false]
 refine ⟨_,SqT.of ho,_,zS (n:=0) rfl,rfl,ym (fun f=>⟨by decide,fun b hb=>?_⟩) fun f=>?_⟩
 ·obtain ⟨xs,hx,pr⟩:=id h3
  have s2:=isV (o:=HO.lst []) b hb
  refine ⟨xs,SqL.of (s2 _ _ (S _ _ hx)),SqL.of zp,ym (fun n=>⟨by decide,?_⟩) fun n=>?_⟩
  ·refine h5 (fun z=>n ((KQ h3 hx).mpr (z.2.1 ?_))) _ (S.trans s2)
   rw [e2];injection f with f;rw [f]
  ·exact Zm (s2 _ _ (S _ _ h1)) h2 oc (fun _=>(KQ h3 hx).mp (Decidable.not_not.mp n)) (fun z p ys H' s'=>h4 z p ys H' (S.trans (s2.trans s'))) fun z H' s'=>h5 z H' (S.trans (s2.trans s'))
 ·exact Zm (S _ _ h1) h2 oc (fun z=>absurd (by rw [e2] at z;injection z with z;rw [z]) f) (fun z p ys H' s'=>h4 z p ys H' (S.trans s')) fun z H' s'=>h5 z H' (S.trans s')
theorem V1 {a g:Addr} {ws:List Str} {gs:List Row} (h1:H a=some (.lst (ws.map V.str))) (h2:okWs ws) (h3:RwsAt H g gs) (h4:gs.length≤60) (h5:mkP ws gs→∀ p ys H',Same H H'→H' p=some (.tup (.str (Str.ofString "mark") :: ys))→Q (.ref p) H') (h6:¬ mkP ws gs→∀ H',Same H H'→E (.ref t.c_NoLine) none H') :
  qL K t E { nx:=fun _ H'=>Q .non H',rt:=Q } (L2.start ["words","rows"] [.ref a,.ref g]) H:=by
 simp only [qL,zaX,L2.start,yi,zv,zo,Y1,jv,Y0,zC,zy,tOp,zg,tC,xN,zd,zm,zL,zw,tB,tCB,zB,y6,v7,kq,xM,xn,zG,rEq,rNe,yT,yo,List.map,List.replicate,List.length,List.append,jqa,jqb,jqc,jqd,jqe,jqf,jqg,jqh,jqi,jqj,jqk,jql,jqm,jqn,and_true,true_and,and_assoc,jqo,jqp,jqq,jqr,jqs,jqt,if_true,ite_true,jqu,ite_false,if_false]
 refine ⟨_,.inl ⟨_,SqL.of h1,rfl⟩,ym (fun e=>⟨by decide,h6 (fun z=>e (by rw [List.length_map,z.1];rfl)) _ (Same.refl _)⟩) fun e=>?_⟩
 have l2:ws.length=2:=by rw [List.length_map] at e;omega
 have hg:=List.getElem?_eq_getElem (l:=ws) (i:=1) (by omega)
 simp only [Zk,zaX,L2.start,yi,zv,zo,Y1,jv,Y0,zC,zy,tOp,zg,tC,xN,zd,zm,zL,zw,tB,tCB,zB,y6,v7,kq,xM,xn,zG,rEq,rNe,yT,yo,List.map,List.replicate,List.length,List.append,jqa,jqb,jqc,jqd,jqe,jqf,jqg,jqh,jqi,jqj,jqk,jql,jqm,jqn,and_true,true_and,and_assoc,jqo,jqp,jqq,jqr,jqs,jqt,if_true,ite_true,jqu,ite_false,if_false]
 obtain ⟨xs,hx,pr⟩:=h3
 have lx:=Paired.length pr
 refine ⟨⟨_,SqL.of hx⟩,fun D hD=>?_⟩
 refine vF (J:=Itl K g) gs.length (by omega) (fun τ=>∃ o1 o2,τ=[o1,o2]) (fun i v=>∃ r,gs[i]?=some r∧v=.bl (decide (r.2=0))) ⟨_,_,rfl⟩ (fun i H s h=>⟨_,_,SqL.of (s _ _ hx),List.getElem?_eq_getElem (by omega)⟩) (fun H s=>⟨_,SqL.of (s _ _ hx),by omega⟩) hD ?_ ?_
 ·rintro i x τ H4 H5 ⟨o1,o2,rfl⟩ s4 hi ⟨rfl,hv⟩
  have hv:=hv _ (SqL.of (s4 _ _ hx))
  have hr:=List.getElem?_eq_getElem (l:=gs) (i:=i) hi
  obtain ⟨rr,pp,rfl,e1,e2⟩:=vI pr hv hr
  refine ⟨_,rfl,_,SqT.of (s4 _ _ e1),rfl,_,_,rfl,_,_,rfl,rfl,_,rfl,rfl,⟨_,_,rfl⟩,⟨_,hr,?_⟩,Same.refl _⟩
  simp
 ·intro ys H4 hl hv s4 hq
  have e:ys=(gs.map fun r=>decide (r.2=0)).map V.bl:=by
   apply List.ext_getElem?
   intro i
   rcases Nat.lt_or_ge i ys.length with z | z
   ·obtain ⟨r,hr,e⟩:=hv i ys[i] (List.getElem?_eq_getElem z)
    rw [List.getElem?_eq_getElem z,e,List.getElem?_map,List.getElem?_map,hr];rfl
   ·rw [List.getElem?_eq_none z,List.getElem?_eq_none (by rw [List.length_map,List.length_map];omega)]
  subst e
  refine ⟨_,SqL.of hq,ym (fun n=>⟨by decide,h6 (fun z=>?_) _ s4⟩) fun n=>?_⟩
  ·rw [List.any_map,List.any_eq_true] at n
   obtain ⟨r,hr,e⟩:=n
   exact z.2.1 r hr (of_decide_eq_true e)
  ·simp only [Zj,vL,zaX,L2.start,yi,zv,zo,Y1,jv,Y0,zC,zy,tOp,zg,tC,xN,zd,zm,zL,zw,tB,tCB,zB,y6,v7,kq,xM,xn,zG,rEq,rNe,yT,yo,List.map,List.replicate,List.length,List.append,jqa,jqb,jqc,jqd,jqe,jqf,jqg,jqh,jqi,jqj,jqk,jql,jqm,jqn,and_true,true_and,and_assoc,jqo,jqp,jqq,jqr,jqs,jqt,if_true,ite_true,jqu,ite_false,if_false]
   obtain ⟨m1,m2⟩:=h2.2 _ (List.getElem_mem (l:=ws) (n:=1) (by omega))
   refine ⟨_,SqL.of (s4 _ _ h1),_,zS (n:=1) (by rw [List.getElem?_map,hg];rfl),_,rfl,m1,m2,fun rk H' s=>⟨by decide,fun p hp=>h5 ⟨l2,fun r hr z=>n ?_,_,hg,rk⟩ p _ _ (s4.trans (s.trans (isV p hp))) zp⟩,fun rk H' s=>h6 (fun z=>?_) H' (s4.trans s)⟩
   ·rw [List.any_map,List.any_eq_true]
    exact ⟨r,hr,decide_eq_true z⟩
   ·obtain ⟨_,_,w,e,r⟩:=z
    rw [hg] at e
    cases e
    exact rk r
end
theorem ZZ:∀ (ws:List Str),(rwO ws).length=ws.length / 3
 | []=>rfl
 | [_]=>by simp [rwO]
 | [_,_]=>by simp [rwO]
 | _ :: _ :: _ :: r=>by
  show (rwO r).length + 1=(r.length + 1 + 1 + 1) / 3
  rw [ZZ r];omega
theorem zbD:∀ {ws:List Str} {i:Nat} {a b c:Str},ws[3 * i]?=some a→ws[3 * i + 1]?=some b→ws[3 * i + 2]?=some c→(rwO ws)[i]?=some ((a,yO b),yO c)
 | [],i,a,b,c,h,_,_=>by simp at h
 | [_],i,a,b,c,_,h,_=>by simp at h
 | [_,_],i,a,b,c,_,_,h=>by simp at h
 | x :: y :: z :: r,0,a,b,c,h1,h2,h3=>by
  simp only [Nat.mul_zero,Nat.zero_add,List.getElem?_cons_zero,List.getElem?_cons_succ,Option.some.injEq] at h1 h2 h3
  subst h1 h2 h3
  rfl
 | x :: y :: z :: r,i + 1,a,b,c,h1,h2,h3=>zbD (ws:=r) (i:=i) h1 h2 h3
def ok3 (ws:List Str) (i:Nat):Prop:=∀ a b c:Str,ws[3 * i]?=some a→ws[3 * i + 1]?=some b→ws[3 * i + 2]?=some c→z6 a=true∧yv b=true∧yv c=true
theorem zbE:∀ {ws:List Str} (i:Nat),trP ws→ok3 ws i
 | [],i,_=>fun a b c h _ _=>by simp at h
 | [_],i,h=>h.elim
 | [_,_],i,h=>h.elim
 | x :: y :: z :: r,0,h=>fun a b c h1 h2 h3=>by
  simp only [Nat.mul_zero,Nat.zero_add,List.getElem?_cons_zero,List.getElem?_cons_succ,Option.some.injEq] at h1 h2 h3
  subst h1 h2 h3
  exact h.1
 | x :: y :: z :: r,i + 1,h=>fun a b c h1 h2 h3=>zbE (ws:=r) i h.2 a b c h1 h2 h3
theorem WQ:∀ {ws:List Str},trP ws→ws.length % 3=0
 | [],_=>rfl
 | [_],h=>h.elim
 | [_,_],h=>h.elim
 | x :: y :: z :: r,h=>by
  have:=WQ h.2
  simp only [List.length_cons];omega
theorem zbF:∀ {ws:List Str},ws.length % 3=0→(∀ i,i < ws.length / 3→ok3 ws i)→trP ws
 | [],_,_=>trivial
 | [_],h,_=>absurd h (by simp)
 | [_,_],h,_=>absurd h (by simp)
 | x :: y :: z :: r,h,k=>by
  simp only [List.length_cons] at h k
  exact ⟨k 0 (by omega) x y z rfl rfl rfl,zbF (by omega) fun i hi a b c h1 h2 h3=>k (i + 1) (by omega) a b c h1 h2 h3⟩
section
variable {E:XK}
def riI (a A:Addr) (ws:List Str) (H:Hp) (i:Nat) (σ:St) (H':Hp):Prop:=∃ o2 o3 xs,σ=[some (.ref a),some (.ref A),o2,o3,none]∧H' A=some (.lst xs)∧Paired (ZM H') xs ((rwO ws).take i)∧Same H H'∧∀ j < i,ok3 ws j
theorem WR {D:ko} {a A:Addr} {ws:List Str} {i:Nat} {o3:Option V} {xs:List V} {H0:Hp} (hA0:H0 A=none) (s0:Same H0 H) (h1:H0 a=some (.lst (ws.map V.str))) (h2:okWs ws) (hi:3 * i + 2 < ws.length) (hA:H A=some (.lst xs)) (pr:Paired (ZM H) xs ((rwO ws).take i)) (ok:∀ j < i,ok3 ws j)
  (h4:¬ rwP ws→∀ H',Same H0 H'→E (.ref t.c_NoLine) none H') (q:∀ σ H',riI a A ws H0 (i + 1) σ H'→D.nx σ H') :
  j4 K t E D [some (.ref a),some (.ref A),some (.int (0 + (i:Int) * 3)),o3,none] H:=by
 simp only [j4,kG,yI,L2.start,xH,kU,zv,zE,zo,Z7,tOp,zg,tC,xN,zd,zm,tBM,tyV,zB,zG,rI0,List.map,List.replicate,List.length,List.append,jqa,jqb,jqc,jqd,jqe,jqf,jqg,jqh,jqi,jqj,jqk,jql,jqm,jqn,and_true,true_and,and_assoc,jqo,jqp,jqq,jqr,jqs,jqt,if_true,ite_true,jqu,ite_false,if_false]
 have w1:=List.getElem?_eq_getElem (l:=ws) (i:=3 * i) (by omega)
 have w2:=List.getElem?_eq_getElem (l:=ws) (i:=3 * i + 1) (by omega)
 have w3:=List.getElem?_eq_getElem (l:=ws) (i:=3 * i + 2) (by omega)
 have k1:=h2.2 _ (List.getElem_mem (l:=ws) (n:=3 * i) (by omega))
 have k2:=h2.2 _ (List.getElem_mem (l:=ws) (n:=3 * i + 1) (by omega))
 have k3:=h2.2 _ (List.getElem_mem (l:=ws) (n:=3 * i + 2) (by omega))
 generalize ws[3 * i]=x at *
 generalize ws[3 * i + 1]=y at *
 generalize ws[3 * i + 2]=z at *
 have hg:=zbD w1 w2 w3
 have no:¬ (z6 x=true∧yv y=true∧yv z=true)→∀ H',Same H0 H'→E (.ref t.c_NoLine) none H':=fun n=>h4 fun r=>n (zbE i r.1 x y z w1 w2 w3)
 have m:∀ {k:Nat} {w:Str},ws[k]?=some w→(ws.map V.str)[k]?=some (V.str w):=fun h=>by rw [List.getElem?_map,h];rfl
 have lx:=Paired.length pr
 rw [show (0 + (i:Int) * 3)=((3 * i:Nat):Int) by omega,show ((3 * i:Nat):Int) + 1=((3 * i + 1:Nat):Int) by omega,show ((3 * i:Nat):Int) + 2=((3 * i + 2:Nat):Int) by omega]
 have ha:=s0 _ _ h1
 refine ⟨_,SqL.of ha,_,zS (m w1),_,rfl,k1.1,k1.2,fun n1 H1 s1=>⟨_,SqL.of (s1 _ _ ha),_,zS (m w2),_,rfl,k2.1,k2.2,fun n2 H2 s2=>⟨by decide,fun p hp=>?_⟩,fun n2 H2 s2=>no (fun z=>n2 z.2.1) _ (s0.trans (s1.trans s2))⟩,fun n1 H1 s1=>no (fun z=>n1 z.1) _ (s0.trans s1)⟩
 obtain ⟨H3,e3,s3,g3⟩:=yS (o:=.tup [V.str x,V.int (yO y)]) hp
 rw [← e3]
 have S3:=s1.trans (s2.trans s3)
 refine ⟨.inl ⟨_,SqL.of (S3 _ _ hA)⟩,_,SqL.of (S3 _ _ ha),_,zS (m w3),_,rfl,k3.1,k3.2,fun n3 H4 s4=>⟨by decide,fun p5 hp5=>?_⟩,fun n3 H4 s4=>no (fun z=>n3 z.2.2) _ (s0.trans (S3.trans s4))⟩
 obtain ⟨H5,e5,s5,g5⟩:=yS (o:=.tup [V.ref p,V.int (yO z)]) hp5
 rw [← e5]
 have S5:=S3.trans (s4.trans s5)
 have lo:=ZZ ws
 have:=h2.1
 refine ⟨_,S5 _ _ hA,zbC (by rw [lx,List.length_take];omega),q _ _ ⟨_,_,xs ++ [V.ref p5],rfl,zp,?_,YE (s0.trans S5) hA0,fun j hj=>?_⟩⟩
 ·rw [Wb hg]
  refine ZI ?_ (xF (fun _ _ z=>zby (S5 _ _ hA) (WH S5 z)) pr)
  exact zby (S5 _ _ hA) ⟨p5,p,rfl,g5,s5 _ _ (s4 _ _ g3)⟩
 ·rcases Nat.lt_or_ge j i with c | c
  ·exact ok j c
  ·obtain rfl:j=i:=by omega
   intro a' b' c' q1 q2 q3
   rw [w1] at q1;rw [w2] at q2;rw [w3] at q3
   cases q1;cases q2;cases q3
   exact ⟨n1,n2,n3⟩
theorem WS {a A D:Addr} {rows:List Row} {o2 o3:Option V} {ys:List V} (l6:rows.length < 64) (nm:∀ r∈rows,z6 r.1.1=true) (hD:H D=some (.lst ys)) (pl:Paired (PlV H) ys (rows.map (·.1))) (q:vJ rows→∀ H',Same H H'→Q (.ref A) H') (q2:¬ vJ rows→∀ H',Same H H'→E (.ref t.c_NoLine) none H') :
  j5 K t E { nx:=fun _ H'=>Q .non H',rt:=Q } [some (.ref a),some (.ref A),o2,o3,some (.ref D)] H:=by
 simp only [j5,zaG,VJ,L2.start,yi,zv,zC,zy,tOp,zg,tC,zd,zm,zL,zw,List.map,List.replicate,List.length,List.append,jqa,jqb,jqc,jqd,jqe,jqf,jqg,jqh,jqi,jqj,jqk,jql,jqm,jqn,and_true,true_and,and_assoc,jqo,jqp,jqq,jqr,jqs,jqt,if_true,ite_true,jqu,ite_false,if_false]
 refine ⟨_,SqL.of hD,rows.map fun r:Row=>r.1,xF (F:=PlV H) (G:=Yr H) (fun _ _ z=>z) pl,by rw [List.length_map];exact l6,fun l zs srt H1 s1 _ g1 p1 u1 pm=>?_⟩
 have nq:∀ q∈rows.map (·.1),z6 q.1=true:=fun q hq=>by
  obtain ⟨r,hr,rfl⟩:=List.mem_map.mp hq
  exact nm r hr
 have pp:zZ (.list ((rows.map (·.1)).map plD))=true:=by rw [zZ];exact WM nq
 have pp2:zZ (.list (srt.map plD))=true:=by rw [zZ];exact WM fun q hq=>nq q ((pm q).mp hq)
 refine ⟨_,.lst (SqL.of (s1 _ _ hD)) (WI (xF (fun _ _ z=>PlV.same s1 z) pl)),_,.lst (SqL.of g1) (WI (xF (F:=Yr H1) (G:=PlV H1) (fun _ _ z=>z) p1)),pp,pp2,We _,We _,fun b hb=>ym (fun e=>⟨by decide,q2 (fun up=>?_) H1 s1⟩) fun e=>q ?_ H1 s1⟩
 ·have up':(rows.map (·.1)).Pairwise (fun a b=>ya a b=true):=List.pairwise_map.mpr up
  have e2:rows.map (·.1)=srt:=VY up' u1 ((List.perm_ext_iff_of_nodup (zdo up') (zdo u1)).mpr fun a=>(pm a).symm)
  rw [hb.mpr (by rw [e2])] at e
  cases e
 ·have e':b=true:=by simpa using e
  have e2:=hb.mp e'
  have e3:rows.map (·.1)=srt:=by
   injection e2 with e2
   exact (List.map_inj_right fun _ _ z=>zcO z).mp e2
  rw [← e3] at u1
  exact List.pairwise_map.mp u1
theorem WT {a A:Addr} {rows:List Row} {o2 o3:Option V} {xs:List V} (l6:rows.length < 64) (nm:∀ r∈rows,z6 r.1.1=true) (hA:H A=some (.lst xs)) (pr:Paired (ZM H) xs rows) (q:vJ rows→∀ H',Same H H'→Q (.ref A) H') (q2:¬ vJ rows→∀ H',Same H H'→E (.ref t.c_NoLine) none H') :
  j6 K t E { nx:=fun _ H'=>Q .non H',rt:=Q } [some (.ref a),some (.ref A),o2,o3,none] H:=by
 simp only [j6,zaG,VJ,L2.start,yi,zv,zE,zo,Y1,jv,Y0,zC,zy,tOp,zg,tC,zd,zm,zL,zw,y6,v7,kq,xn,List.map,List.replicate,List.length,List.append,jqa,jqb,jqc,jqd,jqe,jqf,jqg,jqh,jqi,jqj,jqk,jql,jqm,jqn,and_true,true_and,and_assoc,jqo,jqp,jqq,jqr,jqs,jqt,if_true,ite_true,jqu,ite_false,if_false]
 have lx:=Paired.length pr
 refine ⟨⟨_,SqL.of hA⟩,fun D hD=>?_⟩
 refine vF (J:=Itl K A) rows.length (by omega) (fun τ=>∃ o1 o2,τ=[o1,o2]) (fun i v=>∃ p r,v=.ref p∧rows[i]?=some r∧H p=some (.tup [.str r.1.1,.int r.1.2])) ⟨_,_,rfl⟩ (fun i H s h=>⟨_,_,SqL.of (s _ _ hA),List.getElem?_eq_getElem (by omega)⟩) (fun H s=>⟨_,SqL.of (s _ _ hA),by omega⟩) hD ?_ ?_
 ·rintro i x τ H4 H5 ⟨o1,o2,rfl⟩ s4 hi ⟨rfl,hv⟩
  have hv:=hv _ (SqL.of (s4 _ _ hA))
  have hr:=List.getElem?_eq_getElem (l:=rows) (i:=i) hi
  obtain ⟨rr,pp,rfl,e1,e2⟩:=vI pr hv hr
  exact ⟨_,rfl,_,SqT.of (s4 _ _ e1),rfl,_,_,rfl,_,_,rfl,rfl,_,rfl,⟨_,_,rfl⟩,⟨_,_,rfl,hr,e2⟩,Same.refl _⟩
 ·intro ys H4 hl hv s4 hq
  refine WS l6 nm hq ?_ (fun u H5 s5=>q u H5 (s4.trans s5)) fun u H5 s5=>q2 u H5 (s4.trans s5)
  refine Wc (by rw [List.length_map];exact hl) fun i v x h1 h2=>?_
  obtain ⟨p,r,e1,e2,e3⟩:=hv i v h1
  rw [List.getElem?_map,e2] at h2
  cases h2
  exact ⟨p,e1,s4 _ _ e3⟩
theorem zbG:∀ {ws:List Str},trP ws→∀ r∈rwO ws,z6 r.1.1=true
 | [],_,r,h=>by simp [rwO] at h
 | [_],h,_,_=>h.elim
 | [_,_],h,_,_=>h.elim
 | x :: y :: z :: l,h,r,hr=>by
  rcases List.mem_cons.mp hr with rfl | hr
  ·exact h.1.1
  ·exact zbG h.2 r hr
theorem V2 {a:Addr} {ws:List Str} (h1:H a=some (.lst (ws.map V.str))) (h2:okWs ws) (h3:rwP ws→∀ l H',Same H H'→RwsAt H' l (rwO ws)→Q (.ref l) H') (h4:¬ rwP ws→∀ H',Same H H'→E (.ref t.c_NoLine) none H') :
  qI K t E { nx:=fun _ H'=>Q .non H',rt:=Q } (L2.start ["words","rows","at","place","places"] [.ref a]) H:=by
 simp only [qI,zaG,Yp,VJ,L2.start,xH,kU,yi,zv,zE,zo,Y1,jv,Y0,zC,Z7,zy,tOp,zg,tC,z8,xN,zd,zm,we,zL,zw,tCB,tBM,tyV,zB,y6,v7,kq,xM,xn,zG,rNe,rI,rI0,yT,yo,List.map,List.replicate,List.length,List.append,jqa,jqb,jqc,jqd,jqe,jqf,jqg,jqh,jqi,jqj,jqk,jql,jqm,jqn,and_true,true_and,and_assoc,jqo,jqp,jqq,jqr,jqs,jqt,if_true,ite_true,jqu,ite_false,if_false]
 have l1:=h2.1
 have lw:((ws.map V.str).length:Int)=(ws.length:Int):=by rw [List.length_map]
 refine ⟨_,.inl ⟨_,SqL.of h1,rfl⟩,by decide,ym (fun e=>⟨by decide,h4 (fun z=>e ?_) _ (Same.refl _)⟩) fun e=>?_⟩
 ·have:=WQ z.1
  rw [lw];omega
 have m3:ws.length % 3=0:=by rw [lw] at e;omega
 refine ⟨Nat.zero_le _,fun A hA=>⟨_,.inl ⟨_,SqL.of (isV A hA _ _ h1),rfl⟩,by decide,by decide,by omega,by omega,by decide,by decide,ZH (riI a A ws H) ⟨_,_,[],rfl,zp,.nil,isV A hA,fun j hj=>absurd hj (Nat.not_lt_zero _)⟩ ?_ ?_⟩⟩
 ·rintro i σ H1 hi ⟨o2,o3,xs,rfl,g,pr,s,ok⟩
  have hl:=zd1 (by omega) (by decide) hi
  rw [lw] at hl
  exact WR hA s h1 h2 (by omega) g pr ok h4 fun σ H' z=>z
 ·rintro σ H1 ⟨o2,o3,xs,rfl,g,pr,s,ok⟩
  have lo:=ZZ ws
  have cn:ZN 0 ((ws.map V.str).length:Int) 3=ws.length / 3:=by rw [lw];unfold ZN;split <;> omega
  rw [cn] at ok pr
  rw [List.take_of_length_le (by omega)] at pr
  have tr:trP ws:=zbF m3 ok
  exact WT (by omega) (zbG tr) g pr (fun u H2 s2=>h3 ⟨tr,u⟩ A H2 (s.trans s2) ⟨xs,s2 _ _ g,xF (fun _ _=>WH s2) pr⟩) fun u H2 s2=>h4 (fun z=>u z.2) H2 (s.trans s2)
theorem V3 {x p s0 d:Str} (h1:Asc x) (h2:x.length≤20000) (h3:rpL x (Str.ofString " ")=[.str p,.str s0,.str d]) (h4:Asc p) (h5:p.length≤20000) (h6:d=va p→∀ H',Same H H'→Q (.str p) H') (h7:d≠va p→∀ H',Same H H'→E (.ref t.c_NoLine) none H') :
  qM K t E { nx:=fun _ H'=>Q .non H',rt:=Q } (L2.start ["text","parts"] [.str x]) H:=by
 simp only [qM,kF,w6,L2.start,yG,yi,vt,zv,zE,zo,zC,zy,tOp,zg,tC,zd,zm,zL,zw,tBM,tyV,zB,yG,rNe,yo,List.map,List.replicate,List.length,List.append,jqa,jqb,jqc,jqd,jqe,jqf,jqg,jqh,jqi,jqj,jqk,jql,jqm,jqn,and_true,true_and,and_assoc,jqo,jqp,jqq,jqr,jqs,jqt,if_true,ite_true,jqu,ite_false,if_false]
 refine ⟨rfl,by omega,fun l hl=>?_⟩
 obtain ⟨H1,e1,s1,g1⟩:=yS (o:=.tup (rpL x (Str.ofString " "))) hl
 rw [← e1]
 rw [h3] at g1
 refine ⟨_,SqT.of g1,_,rfl,_,SqT.of g1,_,rfl,p,rfl,h4,h5,fun H2 s2=>⟨rfl,ym (fun e=>?_) fun e=>?_⟩⟩
 ·exact ⟨by omega,h1,fun y=>⟨by decide,h7 (fun z=>e (by rw [z])) H2 (s1.trans s2)⟩⟩
 ·exact ⟨_,SqT.of (s2 _ _ g1),_,rfl,h6 (by have:=Decidable.not_not.mp e;injection this) H2 (s1.trans s2)⟩
theorem WU {a b a' b':List Str} {x:Str} (h:a ++ x :: b=a' ++ x :: b') (n:x ∉ a) (n':x ∉ a'):a=a'∧b=b':=by
 have l:a.length=a'.length:=by rw [← v5 (b:=b) n,← v5 (b:=b') n',h]
 obtain ⟨e1,e2⟩:=List.append_inj h l
 injection e2 with _ e2
 exact ⟨e1,e2⟩
theorem QK {x:Str} {l g:Addr} {a b:List Str} (hx:Asc x) (lx:x.length≤20000) (hl:H l=some (.lst ((a ++ Str.ofString ";" :: b).map V.str))) (ok:okWs (a ++ Str.ofString ";" :: b)) (n:Str.ofString ";" ∉ a) (hg:RwsAt H g (rwO b)) (rw_:rwP b)
  (h3:lnP (a ++ Str.ofString ";" :: b)→∀ p h ys H',Same H H'→(a ++ Str.ofString ";" :: b)[0]?=some h→H' p=some (.tup (.str h :: ys))→Q (.ref p) H') (h4:¬ lnP (a ++ Str.ofString ";" :: b)→∀ H',Same H H'→E (.ref t.c_NoLine) none H') :
  vO K t E { nx:=fun _ H'=>Q .non H',rt:=Q } [some (.str x),some (.ref l),some (.int (a.length:Nat)),some (.ref g)] H:=by
 simp only [vO,qC,qD,L2.start,yi,vt,zv,zC,zy,tOp,zg,tC,zd,zm,zL,zw,tSl,zF,zu,zB,zG,rEq,yl,yo,List.map,List.replicate,List.length,List.append,jqa,jqb,jqc,jqd,jqe,jqf,jqg,jqh,jqi,jqj,jqk,jql,jqm,jqn,and_true,true_and,and_assoc,jqo,jqp,jqq,jqr,jqs,jqt,if_true,ite_true,jqu,ite_false,if_false]
 have inv:lnP (a ++ Str.ofString ";" :: b)→(a[0]?=some (Str.ofString "deal")∧dlP a (rwO b))∨(a[0]?=some (Str.ofString "mark")∧mkP a (rwO b)):=fun ⟨a',b',e,n',_,z⟩=>by
  obtain ⟨rfl,rfl⟩:=WU e n n'
  exact z
 obtain ⟨w,ew⟩:∃ w,(a ++ Str.ofString ";" :: b)[0]?=some w:=by
  cases a with
  | nil=>exact ⟨_,rfl⟩
  | cons y r=>exact ⟨_,rfl⟩
 have ea:∀ y,a[0]?=some y→y=w:=fun y hy=>by
  cases a with
  | nil=>cases hy
  | cons z r =>
   have e1:some z=some y:=hy
   have e2:some z=some w:=ew
   rw [e1] at e2
   injection e2
 have aw:w≠Str.ofString ";"→a[0]?=some w:=fun z=>by
  cases a with
  | nil=>cases ew;exact absurd rfl z
  | cons y r=>exact ew
 have m:((a ++ Str.ofString ";" :: b).map V.str)[0]?=some (.str w):=by rw [List.getElem?_map,ew];rfl
 have tk:(a ++ Str.ofString ";" :: b).take a.length=a:=List.take_left
 have cu:=vw V.str (a ++ Str.ofString ";" :: b) a.length
 rw [tk] at cu
 have oa:okWs a:=by have:=ok.take a.length;rw [tk] at this;exact this
 have lb:=ZZ b
 have l1:b.length≤100:=by have:=ok.1;rw [List.length_append,List.length_cons] at this;omega
 refine ⟨_,SqL.of hl,_,zS (n:=0) m,rfl,ym (fun e=>⟨_,SqL.of hl,fun p hp=>?_⟩) fun e=>⟨_,SqL.of hl,_,zS (n:=0) m,rfl,ym (fun f=>⟨_,SqL.of hl,fun p hp=>?_⟩) fun f=>⟨by omega,hx,fun y=>⟨by decide,h4 (fun z=>?_) H (Same.refl _)⟩⟩⟩⟩
 ·obtain rfl:w=Str.ofString "deal":=by injection e
  have s1:=isV (o:=HO.lst (yM ((a ++ Str.ofString ";" :: b).map V.str) none (some (a.length:Nat)))) p hp
  refine ⟨a,by rw [zp,cu],oa,rwO b,hg.same s1,fun dl p1 ys H' s2=>h3 ⟨a,b,rfl,n,rw_,.inl ⟨aw (by decide +kernel),dl⟩⟩ p1 _ ys H' (s1.trans s2) ew,fun dl H' s2=>h4 (fun z=>?_) H' (s1.trans s2)⟩
  rcases inv z with ⟨_,z⟩ | ⟨z,_⟩
  ·exact dl z
  ·exact absurd (ea _ z) (by decide +kernel)
 ·obtain rfl:w=Str.ofString "mark":=by injection f
  have s1:=isV (o:=HO.lst (yM ((a ++ Str.ofString ";" :: b).map V.str) none (some (a.length:Nat)))) p hp
  refine ⟨a,by rw [zp,cu],oa,rwO b,hg.same s1,by omega,fun dl p1 ys H' s2=>h3 ⟨a,b,rfl,n,rw_,.inr ⟨aw (by decide +kernel),dl⟩⟩ p1 _ ys H' (s1.trans s2) ew,fun dl H' s2=>h4 (fun z=>?_) H' (s1.trans s2)⟩
  rcases inv z with ⟨z,_⟩ | ⟨_,z⟩
  ·exact absurd (ea _ z) (by decide +kernel)
  ·exact dl z
 ·rcases inv z with ⟨z,_⟩ | ⟨z,_⟩
  ·exact e (by rw [ea _ z])
  ·exact f (by rw [ea _ z])
theorem QL {x:Str} {l:Addr} {ws:List Str} (hx:Asc x) (lx:x.length≤20000) (hl:H l=some (.lst (ws.map V.str))) (ok:okWs ws)
  (h3:lnP ws→∀ p h ys H',Same H H'→ws[0]?=some h→H' p=some (.tup (.str h :: ys))→Q (.ref p) H') (h4:¬ lnP ws→∀ H',Same H H'→E (.ref t.c_NoLine) none H') :
  vP K t E { nx:=fun _ H'=>Q .non H',rt:=Q } [some (.str x),some (.ref l),none,none] H:=by
 simp only [vP,zR,L2.start,yi,vt,zv,zE,zo,zC,zy,tOp,zg,tC,zd,zm,zL,zw,tBM,tyV,tSl,zF,zu,zB,zG,rEq,rI0,rIn,yl,yo,List.map,List.replicate,List.length,List.append,jqa,jqb,jqc,jqd,jqe,jqf,jqg,jqh,jqi,jqj,jqk,jql,jqm,jqn,and_true,true_and,and_assoc,jqo,jqp,jqq,jqr,jqs,jqt,if_true,ite_true,jqu,ite_false,if_false]
 refine ⟨_,.inl (SqL.of hl),rfl,?_,ym (fun e=>⟨by decide,h4 (fun z=>?_) H (Same.refl _)⟩) fun e=>?_⟩
 ·rw [List.all_eq_true];intro v hv;obtain ⟨w,_,rfl⟩:=List.mem_map.mp hv;rfl
 ·obtain ⟨a,b,rfl,_⟩:=z
  rw [in_strs.mpr (List.mem_append_right _ List.mem_cons_self)] at e
  cases e
 ·have mem:Str.ofString ";"∈ws:=in_strs.mp (by simpa using e)
  obtain ⟨a,b,rfl,n⟩:=List.eq_append_cons_of_mem mem
  refine ⟨.inl ⟨_,SqL.of hl⟩,_,hl,mem,?_⟩
  rw [v5 n]
  simp only [kM,qB,zR,L2.start,yi,vt,zv,zE,zo,zC,zy,tOp,zg,tC,zd,zm,zL,zw,tBM,tyV,tSl,zF,zu,zB,zG,rEq,rI0,rIn,yl,yo,List.map,List.replicate,List.length,List.append,jqa,jqb,jqc,jqd,jqe,jqf,jqg,jqh,jqi,jqj,jqk,jql,jqm,jqn,and_true,true_and,and_assoc,jqo,jqp,jqq,jqr,jqs,jqt,if_true,ite_true,jqu,ite_false,if_false]
  have cu:=yx V.str (a ++ Str.ofString ";" :: b) (a.length + 1)
  rw [show (a ++ Str.ofString ";" :: b).drop (a.length + 1)=b by rw [List.drop_append];simp] at cu
  have ob:okWs b:=ok.of (by simp;omega) fun w hw=>List.mem_append_right _ (List.mem_cons_of_mem _ hw)
  refine ⟨_,SqL.of hl,fun p hp=>⟨b,by rw [zp,show ((a.length:Int) + 1)=((a.length + 1:Nat):Int) by omega,cu],ob,fun r g H' s rs=>?_,fun r H' s=>h4 (fun z=>?_) H' ((isV p hp).trans s)⟩⟩
  ·have S:=(isV (o:=HO.lst (yM ((a ++ Str.ofString ";" :: b).map V.str) (some ((a.length:Int) + 1)) none)) p hp).trans s
   exact QK hx lx (S _ _ hl) ok n rs r (fun z p h ys H' s'=>h3 z p h ys H' (S.trans s')) fun z H' s'=>h4 z H' (S.trans s')
  ·obtain ⟨a',b',e',n',r',_⟩:=z
   obtain ⟨rfl,rfl⟩:=WU e' n n'
   exact r r'
theorem Xf {x p s0 d:Str} (h1:Asc x) (h2:x.length≤20000) (h3:rpL x (Str.ofString " ")=[.str p,.str s0,.str d]) (h4:Asc p) (h5:p.length≤20000) (h6:d=va p→okWs (Txt.split p (Str.ofString " ")))
  (h7:d=va p∧lnP (Txt.split p (Str.ofString " "))→∀ a h ys H',Same H H'→(Txt.split p (Str.ofString " "))[0]?=some h→H' a=some (.tup (.str h :: ys))→Q (.ref a) H') (h8:¬ (d=va p∧lnP (Txt.split p (Str.ofString " ")))→∀ H',Same H H'→E (.ref t.c_NoLine) none H') :
  j8 K t E { nx:=fun _ H'=>Q .non H',rt:=Q } (L2.start ["text","words","at","rows"] [.str x]) H:=by
 simp only [j8,qF,qv,zR,L2.start,yi,vt,zv,zE,zo,zC,zy,tOp,zg,tC,zd,zm,zL,zw,tBM,tyV,tSl,zF,zu,zB,zG,rEq,rI0,rIn,yl,yo,List.map,List.replicate,List.length,List.append,jqa,jqb,jqc,jqd,jqe,jqf,jqg,jqh,jqi,jqj,jqk,jql,jqm,jqn,and_true,true_and,and_assoc,jqo,jqp,jqq,jqr,jqs,jqt,if_true,ite_true,jqu,ite_false,if_false]
 refine ⟨h1,h2,p,s0,d,h3,h4,h5,fun e H' s=>⟨rfl,by omega,by have:=(h6 e).1;omega,fun l hl=>?_⟩,fun e H' s=>h8 (fun z=>e z.1) H' s⟩
 have S:=s.trans (isV (o:=HO.lst ((Txt.split p (Str.ofString " ")).map V.str)) l hl)
 exact QL h1 h2 zp (h6 e) (fun z p h ys H' s'=>h7 ⟨e,z⟩ p h ys H' (S.trans s')) fun z H' s'=>h8 (fun y=>z y.2) H' (S.trans s')
end
theorem svV {Hk H':Hp} {p:Addr} {o:HO} (e:upd Hk p o=H') (hp:Hk p=none):Same Hk H':=e ▸ isV p hp
theorem Zy {mg:Str→Option Value} {x:Str} (T:Txt K mg t) (h:JM x) (k:∀ H',Same H H'→Q (.bl true) H') :
  vm K t { nx:=fun _ H'=>Q .non H',rt:=Q } (L2.start ["text","right","other","another","e"] [.str x]) H:=by
 simp only [vm,xS,zai,L2.start,zai,zb9,Wr,ql,zaj,Vf,zca,zv,zE,zo,zC,zg,tC,xN,zd,zm,qc,W0,tCB,List.map,List.replicate,List.length,List.append,jqa,jqb,jqc,jqd,jqe,jqf,jqg,jqh,jqi,jqj,jqk,jql,jqm,jqn,and_true,true_and,and_assoc,jqo,jqp,jqq,jqr,jqs,jqt,if_true,ite_true,jqu,ite_false,if_false]
 obtain ⟨h1,h2,p,s0,d,h3,h4,h5,h6⟩:=h
 refine ⟨h1,h2,p,s0,d,h3,h4,h5,fun e=>(h6 e).1,fun z=>absurd z.2 (h6 z.1).2,fun _ H1 s1=>⟨_,rfl,T.y_NoLine,T.e_NoLine_ForerunError,fun e he=>?_⟩⟩
 have s2:=isV (o:=exO e t.c_NoLine) e he
 have he:upd H1 e (exO e t.c_NoLine) e=some (exO e t.c_NoLine):=zp
 generalize upd H1 e (exO e t.c_NoLine)=H2 at *
 refine ⟨_,he,T.y_NoLine,true,T.i_NoLine_NoLine,?_⟩
 rw [if_pos rfl]
 refine ⟨_,he,T.y_NoLine,true,T.i_NoLine_ValueError,by decide,fun p1 hp1=>?_⟩
 generalize e3:upd H2 p1 _=H3
 have s3:=svV e3 hp1
 have q3:H3 p1=some (HO.tup [V.ref t.c_NoNumber,V.ref t.c_NoTerm,V.ref t.c_NoDealing,V.ref t.c_Nought,V.ref t.c_Great]):=e3 ▸ zp
 refine ⟨_,s3 _ _ he,T.y_NoLine,[t.c_NoNumber,t.c_NoTerm,t.c_NoDealing,t.c_Nought,t.c_Great],q3,false,T.j_NoLine_0,by decide,fun p2 hp2=>?_⟩
 generalize e4:upd H3 p2 _=H4
 have s4:=svV e4 hp2
 have q4:H4 p2=some (HO.tup [V.ref t.c_Folded,V.ref t.c_NoHand,V.ref t.c_NoOrder,V.ref t.c_NoLog]):=e4 ▸ zp
 refine ⟨_,s4 _ _ (s3 _ _ he),T.y_NoLine,[t.c_Folded,t.c_NoHand,t.c_NoOrder,t.c_NoLog],q4,false,T.j_NoLine_1,?_⟩
 simp only [zb9,vW,L2.start,zai,zb9,Wr,ql,zaj,Vf,zca,zv,zE,zo,zC,zg,tC,xN,zd,zm,qc,W0,tCB,List.map,List.replicate,List.length,List.append,jqa,jqb,jqc,jqd,jqe,jqf,jqg,jqh,jqi,jqj,jqk,jql,jqm,jqn,and_true,true_and,and_assoc,jqo,jqp,jqq,jqr,jqs,jqt,if_true,ite_true,jqu,ite_false,if_false]
 exact k _ (s1.trans (s2.trans (s3.trans s4)))
theorem YQ {c r:Int} (q:∀ w H',Same H H'→wB w→Q (.int w) H') :
  vd K t { nx:=fun _ H'=>Q .non H',rt:=Q } [some (.int c),some (.int r)] H:=by
 simp only [vd,L2.start,zv,zC,zy,tOp,tUn,zg,tC,z8,zd,zm,zL,zw,zG,rEq,rI,rI0,rU,yo,List.map,List.replicate,List.length,List.append,jqa,jqb,jqc,jqd,jqe,jqf,jqg,jqh,jqi,jqj,jqk,jql,jqm,jqn,and_true,true_and,and_assoc,jqo,jqp,jqq,Nat.reduceSub,Nat.reduceAdd,jqr,jqs,jqt,Int.reduceToNat,Int.reducePow,Int.reduceNeg,Int.reduceMul,Int.reduceAdd,if_true,ite_true,jqu,ite_false,if_false]
 refine ⟨by decide,ym (fun e2=>⟨jG (by decide) (by decide),jG (by decide) (by decide),by decide,fun p hp=>⟨by decide,?_⟩⟩) fun e2=>⟨by decide,?_⟩⟩
 ·obtain ⟨x,e3,e4⟩:=qN (xs:=[V.int 1000000000000000000000000000000,V.int (-1000000000000000000000000000000),V.int 0,V.int 64,V.int (-64),V.int 1,V.int (-1),V.int 10]) r 8 rfl (by decide)
  refine ⟨_,SqL.of zp,_,e3,?_⟩
  generalize e5:upd H p _=H1
  have S:=svV e5 hp
  simp only [List.mem_cons,List.not_mem_nil,or_false] at e4
  rcases e4 with rfl | rfl | rfl | rfl | rfl | rfl | rfl | rfl <;> exact q _ _ S ⟨by decide,by decide⟩
 ·have g1:=Int.emod_nonneg r (b:=7) (by decide)
  have g2:=Int.emod_lt_of_pos r (b:=7) (by decide)
  exact q _ _ (Same.refl _) ⟨by omega,by omega⟩
theorem YR {c:Int} (h:Cw c) (q:∀ w H',Same H H'→wB w→Q (.int w) H') :
  jm K t { nx:=fun _ H'=>Q .non H',rt:=Q } (L2.start ["cell","rest"] [.int c]) H:=by
 simp only [jm,L2.start,zv,zE,zo,zC,zy,tOp,tUn,zg,tC,z8,zd,zm,zL,xq,zw,zG,rEq,rI,rI0,rU,yo,List.map,List.replicate,List.length,List.append,jqa,jqb,jqc,jqd,jqe,jqf,jqg,jqh,jqi,jqj,jqk,jql,jqm,jqn,and_true,true_and,and_assoc,jqo,jqp,jqq,Nat.reduceSub,Nat.reduceAdd,jqr,jqs,jqt,Int.reduceToNat,Int.reducePow,Int.reduceNeg,Int.reduceMul,Int.reduceAdd,if_true,ite_true,jqu,ite_false,if_false]
 refine ⟨dB,by decide,ym (fun e=>⟨by decide,ym (fun e1=>⟨dB,⟨h.div.div,KL⟩,jG (by decide) (by decide),zd4,by decide,jG (by decide) (by decide),q _ _ (Same.refl _) (zd3 _)⟩) fun _=>YQ q⟩) fun _=>YQ q⟩
theorem Xg {c:Int} (h:Cw c) (q:∀ w H',Same H H'→rB w→Q (.int w) H') :
  jY K t { nx:=fun _ H'=>Q .non H',rt:=Q } (L2.start ["cell"] [.int c]) H:=by
 simp only [jY,L2.start,zv,zC,zy,tOp,zg,tC,zL,zw,rEq,rI,rI0,yo,List.map,List.replicate,List.length,List.append,jqa,jqb,jqc,jqd,jqe,jqf,jqg,jqh,jqi,jqj,jqk,jql,jqm,jqn,and_true,true_and,and_assoc,jqo,jqp,jqq,Nat.reduceSub,Nat.reduceAdd,jqr,jqs,jqt,Int.reduceToNat,Int.reducePow,Int.reduceNeg,Int.reduceMul,Int.reduceAdd,if_true,ite_true,jqu,ite_false,if_false]
 refine ⟨by decide,ym (fun e=>⟨dB,⟨h.div,KL⟩,jG (by decide) (by decide),by decide,q _ _ (Same.refl _) ?_⟩) fun e=>⟨by decide,ym (fun e=>⟨jG (by decide) (by decide),q _ _ (Same.refl _) ?_⟩) fun e=>⟨dB,by decide,q _ _ (Same.refl _) ?_⟩⟩⟩
 ·have g1:=Int.emod_nonneg (c / 8 * 618033988749894848204586834365) (b:=100000000000000000000000000001) (by decide)
  have g2:=Int.emod_lt_of_pos (c / 8 * 618033988749894848204586834365) (b:=100000000000000000000000000001) (by decide)
  exact ⟨by omega,by omega⟩
 ·exact ⟨by omega,by omega⟩
 ·exact ⟨by omega,by omega⟩
def nmI (c:Int) (wd l:Addr) (H:Hp) (i:Nat) (σ:St) (H':Hp):Prop:=(∃ (x:Str) (o:Option V),σ=[some (.int c),some (.str (Str.ofString "abcdefghijklmnopqrstuvwxyz")),some (.ref wd),some (.ref l),some (.str x),o]∧x.length=i∧x.cps.toList.all inL=true)∧H'=H
theorem QM {c:Int} {wd l:Addr} {xs:List Int} (hw:H wd=some (.lst (wl ++ jw))) (hx:H l=some (.lst (xs.map V.int))) (hl:xs.length=6) (hs:∀ x∈xs,drI x) (q:∀ n,z6 n=true→Q (.str n) H) :
  vN K t { nx:=fun _ H'=>Q .non H',rt:=Q } [some (.int c),some (.str (Str.ofString "abcdefghijklmnopqrstuvwxyz")),some (.ref wd),some (.ref l),some (.str (Str.ofString "")),none] H:=by
 have g1:=Int.emod_nonneg c (b:=6) (by decide)
 have g2:=Int.emod_lt_of_pos c (b:=6) (by decide)
 simp only [vN,L2.start,zv,zE,zo,zC,zy,tOp,tUn,zg,tC,zd,zm,we,zL,zw,tSl,zF,zu,wU,zG,jO,rI,rI0,rU,rIn,vE,yn,List.map,List.replicate,List.length,List.append,jqa,jqb,jqc,jqd,jqe,jqf,jqg,jqh,jqi,jqj,jqk,jql,jqm,jqn,and_true,true_and,and_assoc,jqo,jqp,jqq,jqr,jqs,jqt,if_true,ite_true,jqu,ite_false,if_false]
 refine ⟨by decide,by omega,by omega,qm (nmI c wd l H) ⟨⟨_,_,rfl,rfl,rfl⟩,rfl⟩ ?_ ?_⟩
 ·rintro i σ H2 hi ⟨⟨x,o,rfl,hx1,hx2⟩,rfl⟩
  simp only [L2.start,zv,zE,zo,zC,zy,tOp,tUn,zg,tC,zd,zm,we,zL,zw,tSl,zF,zu,wU,zG,jO,rI,rI0,rU,rIn,vE,yn,List.map,List.replicate,List.length,List.append,jqa,jqb,jqc,jqd,jqe,jqf,jqg,jqh,jqi,jqj,jqk,jql,jqm,jqn,and_true,true_and,and_assoc,jqo,jqp,jqq,jqr,jqs,jqt,if_true,ite_true,jqu,ite_false,if_false]
  have i0:(0 + (i:Int))=(i:Int):=by omega
  rw [i0]
  obtain ⟨xi,e1,d1⟩:=YJ (k:=i) (by omega) hs
  obtain ⟨c2,hc2,hm2⟩:=qN xi 26 zcJ (by decide)
  refine ⟨_,SqL.of hx,_,e1,_,rfl,by decide,by decide +kernel,c2,hc2,zt (by rw [vZ];omega),⟨⟨_,_,rfl,?_,?_⟩,rfl⟩⟩
  ·rw [yy,vZ];omega
  ·rw [yu];exact zch hx2 (zcK (zd0 c2 hm2))
 ·rintro σ H2 ⟨⟨x,o,rfl,hx1,hx2⟩,rfl⟩
  simp only [L2.start,zv,zE,zo,zC,zy,tOp,tUn,zg,tC,zd,zm,we,zL,zw,tSl,zF,zu,wU,zG,jO,rI,rI0,rU,rIn,vE,yn,List.map,List.replicate,List.length,List.append,jqa,jqb,jqc,jqd,jqe,jqf,jqg,jqh,jqi,jqj,jqk,jql,jqm,jqn,and_true,true_and,and_assoc,jqo,jqp,jqq,jqr,jqs,jqt,if_true,ite_true,jqu,ite_false,if_false]
  have lw:LW x:=⟨hx2,by omega,by omega⟩
  have hn:=zd2 lw
  have l3:=lw.2.2
  have l4:=Txt.slice_le x none (some (-1))
  refine ⟨_,.inl (SqL.of hw),rfl,by decide,ym (fun e=>?_) fun e=>?_⟩
  ·rw [if_pos e] at hn
   exact ⟨zt (by omega),zt (by have:(Str.ofString "q").length=1:=rfl;omega),q _ hn⟩
  ·rw [if_neg e] at hn
   exact q _ hn
theorem Xh {c:Int} (q:∀ n H',Same H H'→z6 n=true→Q (.str n) H') :
  jZ K t { nx:=fun _ H'=>Q .non H',rt:=Q } (L2.start ["cell","letters","words","xs","name","k"] [.int c]) H:=by
 simp only [jZ,yK,zP,L2.start,zv,zE,zo,zC,zy,tOp,tUn,zg,tC,z8,zd,zm,we,zL,zw,tSl,zF,zu,zB,wU,zP,zG,jO,rI,rI0,rU,rIn,vE,yn,List.map,List.replicate,List.length,List.append,jqa,jqb,jqc,jqd,jqe,jqf,jqg,jqh,jqi,jqj,jqk,jql,jqm,jqn,and_true,true_and,and_assoc,jqo,jqp,jqq,jqr,jqs,jqt,if_true,ite_true,jqu,ite_false,if_false]
 refine ⟨by decide,fun p hp=>?_⟩
 have S1:=isV (o:=HO.lst wl) p hp
 have a1:upd H p (.lst wl) p=some (.lst wl):=zp
 generalize hH1:upd H p (.lst wl)=H1 at *
 rw [show upd H p (.lst [V.str (Str.ofString "take"),V.str (Str.ofString "give"),V.str (Str.ofString "let"),V.str (Str.ofString "say"),V.str (Str.ofString "off"),V.str (Str.ofString "if"),V.str (Str.ofString "else"),V.str (Str.ofString "end"),V.str (Str.ofString "as")])=H1 from hH1]
 refine ⟨by decide,fun p1 hp1=>?_⟩
 have S2:=isV (o:=HO.lst jw) p1 hp1
 have a2:upd H1 p1 (.lst jw) p1=some (.lst jw):=zp
 generalize hH2:upd H1 p1 (.lst jw)=H2 at *
 rw [show upd H1 p1 (.lst [V.str (Str.ofString "plus"),V.str (Str.ofString "minus"),V.str (Str.ofString "times"),V.str (Str.ofString "over"),V.str (Str.ofString "rest"),V.str (Str.ofString "under"),V.str (Str.ofString "same")])=H2 from hH2]
 refine ⟨wl,S2 _ _ a1,jw,a2,by decide,fun p2 hp2=>⟨dB,by decide,by decide,fun l xs H4 s4 _ hx hl hs=>?_⟩⟩
 have S3:=isV (o:=HO.lst (wl ++ jw)) p2 hp2
 simp only [kH,zP,L2.start,zv,zE,zo,zC,zy,tOp,tUn,zg,tC,z8,zd,zm,we,zL,zw,tSl,zF,zu,zB,wU,zP,zG,jO,rI,rI0,rU,rIn,vE,yn,List.map,List.replicate,List.length,List.append,jqa,jqb,jqc,jqd,jqe,jqf,jqg,jqh,jqi,jqj,jqk,jql,jqm,jqn,and_true,true_and,and_assoc,jqo,jqp,jqq,jqr,jqs,jqt,if_true,ite_true,jqu,ite_false,if_false]
 exact QM (s4 _ _ zp) hx (by omega) hs fun n hn=>q n H4 (S1.trans (S2.trans (S3.trans s4))) hn
theorem QN (gl:List Row):∃ its:List Row,dOf gl=its.map (fun r=>(ye r.1,V.int r.2))∧(its.map (·.1)).Nodup∧∀ r∈its,xo gl r.1=some r.2:=by
 have H1:∀ l:List (List Key × V),(∀ kv∈l,∃ p w,kv=(ye p,V.int w)∧xo gl p=some w)→∃ its:List Row,l=its.map (fun r=>(ye r.1,V.int r.2))∧∀ r∈its,xo gl r.1=some r.2:=fun l=>by
  induction l with
  | nil=>exact fun _=>⟨[],rfl,fun _ z=>nomatch z⟩
  | cons kv l ih =>
   intro h
   obtain ⟨its,e,f⟩:=ih fun x hx=>h x (List.mem_cons_of_mem _ hx)
   obtain ⟨p,w,e1,e2⟩:=h kv List.mem_cons_self
   refine ⟨(p,w) :: its,by rw [e,e1];rfl,fun r hr=>?_⟩
   rcases List.mem_cons.mp hr with rfl | hr
   ·exact e2
   ·exact f r hr
 obtain ⟨its,e,f⟩:=H1 (dOf gl) fun kv hk=>mem_dOf.mp hk
 refine ⟨its,e,?_,f⟩
 have nd:=(q9 gl).1
 rw [e,List.map_map] at nd
 have:(its.map (·.1)).map ye=its.map ((fun x=>x.1) ∘ fun r:Row=>(ye r.1,V.int r.2)):=by rw [List.map_map];rfl
 rw [← this] at nd
 exact jd nd
structure PaS (H0:Hp) (G:Addr) (gl:List Row) (n:Nat) (H:Hp):Prop where
 hG:H G=some (.dT (dOf gl))
 ks:Same H0 H
 fg:H0 G=none
 ng:gl.length≤n
 og:∀ r∈gl,(Zh r.1∧wB r.2)∧r.2≠0
theorem PaS.same {H0 H H':Hp} {G:Addr} {gl:List Row} {n:Nat} (h:PaS H0 G gl n H) (s:Same H H'):PaS H0 G gl n H':=⟨s _ _ h.hG,h.ks.trans s,h.fg,h.ng,h.og⟩
theorem PaS.put {H0 H:Hp} {G:Addr} {gl:List Row} {n:Nat} {r:Row} (h:PaS H0 G gl n H) (hr:(Zh r.1∧wB r.2)∧r.2≠0):PaS H0 G (gl ++ [r]) (n + 1) (upd H G (.dT (dOf (gl ++ [r])))) :=
 ⟨zp,YE h.ks h.fg,h.fg,by rw [List.length_append];have:=h.ng;show _ + 1≤_;omega,fun i hi=>(List.mem_append.mp hi).elim (h.og i) fun z=>by rw [List.mem_singleton.mp z];exact hr⟩
theorem zd8 (ns:List Int) (lo hi:Option Int):∃ cs:List Int,yM (ns.map V.int) lo hi=cs.map V.int∧cs.length≤ns.length∧(∀ c∈cs,c∈ns):=by
 refine ⟨(ns.drop (HT.sIx (ns.map V.int).length 0 lo)).take (HT.sIx (ns.map V.int).length (ns.map V.int).length hi - HT.sIx (ns.map V.int).length 0 lo),?_,by rw [List.length_take,List.length_drop];omega,fun y hy=>List.mem_of_mem_drop (List.mem_of_mem_take hy)⟩
 unfold yM
 rw [List.map_take,List.map_drop]
def hdP (a:List Str):Prop:=(∃ (r:Int) (sa:List Int),a=Str.ofString "deal" :: zH r :: ocW (.done sa)∧rB r∧JL (.done sa))∨(∃ r:Int,a=[Str.ofString "mark",zH r]∧rB r)
theorem hdP.ln {a:List Str} {rows:List Row} (h:hdP a) (h2:Yy rows) (h3:∀ x∈rows,x.2≠0):LnW (a ++ Str.ofString ";" :: wsR rows):=by
 rcases h with ⟨r,sa,rfl,hr,ho⟩ | ⟨r,rfl,hr⟩
 ·exact .inl ⟨r,_,rows,(YL r _ rows).symm,hr,ho,h2,fun w z=>nomatch z⟩
 ·exact .inr ⟨r,rows,(YM r rows).symm,hr,h2,h3⟩
theorem hdP.len {a:List Str} (h:hdP a):a.length≤12:=by
 rcases h with ⟨r,sa,rfl,hr,ho,_⟩ | ⟨r,rfl,hr⟩
 ·simp only [ocW,List.length_cons,List.length_map];omega
 ·simp
theorem JO {D:ko} {c:Int} {l h d p:Addr} {o4 o5:Option V} {ws:List Str} {gl:List Row} {q:Pl} {w:Int} (hh:H h=some (.lst (ws.map V.str))) (lw:ws.length≤100) (hG:H d=some (.dT (dOf gl))) (hp:H p=some (.tup [.str q.1,.int q.2])) (la:xo gl q=some w) (b1:wB q.2) (b2:wB w)
  (k:∀ h' H',Same H H'→H' h'=some (.lst ((ws ++ rwW (q,w)).map V.str))→D.nx [some (.int c),some (.ref l),some (.ref h'),some (.ref d),o4,o5,some (.ref p)] H') :
  ve K t D [some (.int c),some (.ref l),some (.ref h),some (.ref d),o4,o5,some (.ref p)] H:=by
 simp only [ve,qd,zP,L2.start,yG,zE,zo,tOp,zg,tC,z8,zd,zm,tCB,zP,yG,y8,List.map,List.replicate,List.length,List.append,jqa,jqb,jqc,jqd,jqe,jqf,jqg,jqh,jqi,jqj,jqk,jql,jqm,jqn,and_true,true_and,and_assoc,jqo,jqp,jqq,jqr,jqs,jqt,if_true,ite_true,jqu,ite_false,if_false]
 refine ⟨_,SqT.of hp,_,zS (n:=0) rfl,_,SqT.of hp,_,zS (n:=1) rfl,_,rfl,wT (v3 b1),V.int w,.inr ⟨_,ye q,p,.inl hG,rfl,hp,by rw [Ww,la];rfl⟩,_,rfl,wT (v3 b2),by decide,fun p1 hp1=>?_⟩
 obtain ⟨H1,e1,s1,g1⟩:=yS (o:=.lst ((rwW (q,w)).map V.str)) hp1
 have e1':H1=upd H p1 (.lst [V.str q.1,V.str (Str.ofString (toString q.2)),V.str (Str.ofString (toString w))]):=e1
 rw [← e1']
 refine ⟨_,s1 _ _ hh,_,g1,zt (by simp only [List.length_map,rwW,List.length_cons,List.length_nil];omega),fun p2 hp2=>?_⟩
 exact k p2 _ (s1.trans (isV p2 hp2)) (by rw [zp,List.map_append])
theorem JP {c:Int} {l h d:Addr} {o4 o5 o6:Option V} {a:List Str} {gl:List Row} (hh:H h=some (.lst ((a ++ [Str.ofString ";"]).map V.str))) (ha:hdP a) (hG:H d=some (.dT (dOf gl))) (l1:gl.length≤4) (ok:∀ r∈gl,(Zh r.1∧wB r.2)∧r.2≠0) (q:∀ b ws H',Same H H'→H' b=some (.lst (ws.map V.str))→LnW ws→Q (.ref b) H') :
  vi K t { nx:=fun _ H'=>Q .non H',rt:=Q } [some (.int c),some (.ref l),some (.ref h),some (.ref d),o4,o5,o6] H:=by
 simp only [vi,qd,qZ,zP,L2.start,yG,zv,zE,zo,zC,tOp,zg,tC,z8,zd,zm,we,tCB,xn,zP,yG,y8,List.map,List.replicate,List.length,List.append,jqa,jqb,jqc,jqd,jqe,jqf,jqg,jqh,jqi,jqj,jqk,jql,jqm,jqn,and_true,true_and,and_assoc,jqo,jqp,jqq,jqr,jqs,jqt,if_true,ite_true,jqu,ite_false,if_false]
 obtain ⟨its,ei,nd,mi⟩:=QN gl
 have dl:=Kr gl
 have li:its.length=(dOf gl).length:=by rw [ei,List.length_map]
 refine ⟨_,hG,its.map (·.1),by rw [ei,List.map_map,List.map_map];rfl,by omega,fun L ps hL pm up at_=>?_⟩
 have mem:∀ n∈ps,∃ w,xo gl n.2=some w:=fun n hn=>by
  have:=pm.mem_iff.mp (List.mem_map_of_mem (f:=fun x=>x.2) hn)
  obtain ⟨r,hr,e⟩:=List.mem_map.mp this
  exact ⟨r.2,e ▸ mi r hr⟩
 have lp:ps.length≤4:=by have:=pm.length_eq;rw [List.length_map,List.length_map] at this;omega
 have H1:∃ rows:List Row,rows.map (·.1)=ps.map (·.2)∧∀ r∈rows,xo gl r.1=some r.2:=by
  clear pm up at_ lp
  induction ps with
  | nil=>exact ⟨[],rfl,fun _ z=>nomatch z⟩
  | cons n ps ih =>
   obtain ⟨rows,e,f⟩:=ih fun x hx=>mem x (List.mem_cons_of_mem _ hx)
   obtain ⟨w,hw⟩:=mem n List.mem_cons_self
   exact ⟨(n.2,w) :: rows,by rw [List.map_cons,e];rfl,fun r hr=>(List.mem_cons.mp hr).elim (fun z=>by rw [z];exact hw) (f r)⟩
 obtain ⟨rows,er,fr⟩:=H1
 have lr:rows.length=ps.length:=by have:=congrArg List.length er;rw [List.length_map,List.length_map] at this;exact this
 have okr:∀ r∈rows,(Zh r.1∧wB r.2)∧r.2≠0:=fun r hr=>ok r (VT (fr r hr))
 have rs:Yy rows:=⟨by rw [← er] at up;exact List.pairwise_map.mp up,by omega,fun r hr=>(okr r hr).1⟩
 have la:=ha.len
 have S1:=isV (o:=HO.lst (ps.map fun n=>V.ref n.1)) L hL
 refine ⟨⟨_,SqL.of zp⟩,XH (ps.map fun n=>V.ref n.1) (fun i σ H'=>∃ h' o6,σ=[some (.int c),some (.ref l),some (.ref h'),some (.ref d),o4,o5,o6]∧H' h'=some (.lst ((a ++ Str.ofString ";" :: wsR (rows.take i)).map V.str))∧Same (upd H L (.lst (ps.map fun n=>V.ref n.1))) H') ⟨h,_,rfl,S1 _ _ hh,Same.refl _⟩ (fun i σ H' ⟨_,_,_,_,s⟩=>SqL.of (s _ _ zp)) ?_ ?_⟩
 ·rintro i x σ H2 hi ⟨h',o6,rfl,g,s⟩
  rw [List.getElem?_map] at hi
  cases hn:ps[i]? with
  | none=>rw [hn] at hi;cases hi
  | some n =>
   rw [hn] at hi
   cases hi
   have il:=(List.getElem?_eq_some_iff.mp hn).1
   have hr:=List.getElem?_eq_getElem (l:=rows) (i:=i) (by omega)
   have e:=congrArg (fun z:List Pl=>z[i]?) er
   simp only [List.getElem?_map,hr,hn,Option.map_some,Option.some.injEq] at e
   have mr:=List.getElem_mem (l:=rows) (n:=i) (by omega)
   have o:=okr _ mr
   have f:=fr _ mr
   have hp:=at_ n (List.mem_of_getElem? hn)
   rw [← e] at hp
   refine JO (q:=rows[i].1) (w:=rows[i].2) g (by simp [xx];omega) (s _ _ (S1 _ _ hG)) (s _ _ (S1 _ _ hp)) f o.1.1.2 o.1.2 fun h2 H3 s3 g3=>⟨h2,_,rfl,?_,s.trans s3⟩
   rw [g3,zbA hr,List.append_assoc,List.cons_append]
 ·rintro σ H2 ⟨h',o6,rfl,g,s⟩
  rw [List.take_of_length_le (by rw [List.length_map];omega)] at g
  exact ⟨_,rfl,q h' _ H2 (S1.trans s) g (ha.ln rs fun r hr=>(okr r hr).2)⟩
theorem JQ {D:ko} {H0:Hp} {c:Int} {l h d:Addr} {k:Nat} {o5 o6:Option V} {gl:List Row} {xs:List Int} (hk:k < 4) (hx:H0 l=some (.lst (xs.map V.int))) (lx:xs.length=8) (dr:∀ x∈xs,drI x) (h0:PaS H0 d gl k H) (q:∀ gl o5 o6 H',PaS H0 d gl (k + 1) H'→D.nx [some (.int c),some (.ref l),some (.ref h),some (.ref d),some (.int k),o5,o6] H') :
  vf K t D [some (.int c),some (.ref l),some (.ref h),some (.ref d),some (.int k),o5,o6] H:=by
 simp only [vf,yj,xT,qU,L2.start,zv,zE,zo,tOp,zg,tC,xN,zd,zm,zw,tIf,zB,zG,rNe,rI,rI0,yo,List.map,List.replicate,List.length,List.append,jqa,jqb,jqc,jqd,jqe,jqf,jqg,jqh,jqi,jqj,jqk,jql,jqm,jqn,and_true,true_and,and_assoc,jqo,jqp,jqq,jqr,jqs,jqt,if_true,ite_true,jqu,ite_false,if_false]
 have hb:(10000000000000000000000000000000000000000000000:Int) < big:=by decide +kernel
 have hl:=h0.ks _ _ hx
 obtain ⟨x1,e1,d1⟩:=YJ (xs:=xs) (k:=4 + k) (by omega) dr
 obtain ⟨x2,e2,d2⟩:=YJ (xs:=xs) (k:=3) (by omega) dr
 obtain ⟨x3,e3,d3⟩:=YJ (xs:=xs) (k:=5 + k % 3) (by omega) dr
 rw [show ((4:Int) + (k:Int))=((4 + k:Nat):Int) by omega,show ((5:Int) + (k:Int) % 3)=((5 + k % 3:Nat):Int) by omega]
 refine ⟨_,SqL.of hl,_,e1,_,rfl,d1.cb.w,fun w H1 s1 bw=>⟨_,SqL.of (s1 _ _ hl),_,e2,_,rfl,dB (by omega) (by omega),fun n H2 s2 nn=>⟨by decide,_,SqL.of (s2 _ _ (s1 _ _ hl)),_,e3,_,rfl,dB,d3.cb.w.div,fun u H3 s3 bu=>⟨by decide,fun p hp=>?_⟩⟩⟩⟩
 have h2:=(h0.same (s1.trans (s2.trans s3))).same (isV (o:=HO.tup [.str n,.int u]) p hp)
 have ng:=h0.ng
 have go:∀ y:Int,wB y→y≠0→DPut (upd H3 p (.tup [.str n,.int u])) d (.ref p) (.int y) (upd (upd H3 p (.tup [.str n,.int u])) d (.dT (dOf (gl ++ [((n,u),y)]))))∧PaS H0 d (gl ++ [((n,u),y)]) (k + 1) (upd (upd H3 p (.tup [.str n,.int u])) d (.dT (dOf (gl ++ [((n,u),y)])))):=fun y hy ny =>
  ⟨zcM (q:=((n,u),y)) h2.hG zp (by omega),h2.put ⟨⟨⟨nn,bu⟩,hy⟩,ny⟩⟩
 refine ym (fun e=>⟨_,(go w bw e).1,q _ _ _ _ (go w bw e).2⟩) fun e=>?_
 have g:=go 5 ⟨by decide,by decide⟩ (by decide)
 exact ⟨_,g.1,q _ _ _ _ g.2⟩
theorem YS {c:Int} {l h:Addr} {a:List Str} {xs:List Int} (hx:H l=some (.lst (xs.map V.int))) (lx:xs.length=8) (dr:∀ x∈xs,drI x) (hh:H h=some (.lst (a.map V.str))) (ha:hdP a) (q:∀ b ws H',Same H H'→H' b=some (.lst (ws.map V.str))→LnW ws→Q (.ref b) H') :
  vj K t { nx:=fun _ H'=>Q .non H',rt:=Q } [some (.int c),some (.ref l),some (.ref h),none,none,none,none] H:=by
 simp only [vj,qU,qd,kx,qZ,zP,L2.start,yG,zv,zE,zo,zC,tOp,zg,tC,z8,xN,zd,zm,we,zw,tIf,tCB,zB,wU,xn,zP,zG,yG,rNe,rI,rI0,y8,yo,List.map,List.replicate,List.length,List.append,jqa,jqb,jqc,jqd,jqe,jqf,jqg,jqh,jqi,jqj,jqk,jql,jqm,jqn,and_true,true_and,and_assoc,jqo,jqp,jqq,jqr,jqs,jqt,if_true,ite_true,jqu,ite_false,if_false]
 intro d hd
 simp only [ke,qU,qd,kx,qZ,zP,L2.start,yG,zv,zE,zo,zC,tOp,zg,tC,z8,xN,zd,zm,we,zw,tIf,tCB,zB,wU,xn,zP,zG,yG,rNe,rI,rI0,y8,yo,List.map,List.replicate,List.length,List.append,jqa,jqb,jqc,jqd,jqe,jqf,jqg,jqh,jqi,jqj,jqk,jql,jqm,jqn,and_true,true_and,and_assoc,jqo,jqp,jqq,jqr,jqs,jqt,if_true,ite_true,jqu,ite_false,if_false]
 obtain ⟨x3,e3,d3⟩:=YJ (xs:=xs) (k:=3) (by omega) dr
 have la:=ha.len
 refine ⟨_,SqL.of (isV d hd _ _ hx),_,e3,_,rfl,by decide,by omega,by omega,qm (fun i σ H'=>∃ gl o4 o5 o6,σ=[some (.int c),some (.ref l),some (.ref h),some (.ref d),o4,o5,o6]∧PaS H d gl i H') ⟨[],_,_,_,rfl,⟨zp,isV d hd,hd,Nat.le_refl _,(fun _ z=>nomatch z)⟩⟩ ?_ ?_⟩
 ·rintro i σ H1 hi ⟨gl,o4,o5,o6,rfl,P⟩
  simp only [Int.zero_add]
  exact JQ (by omega) hx lx dr P fun gl o5 o6 H' z=>⟨gl,_,_,_,rfl,z⟩
 ·rintro σ H1 ⟨gl,o4,o5,o6,rfl,P⟩
  simp only [kc,qU,qd,kx,qZ,zP,L2.start,yG,zv,zE,zo,zC,tOp,zg,tC,z8,xN,zd,zm,we,zw,tIf,tCB,zB,wU,xn,zP,zG,yG,rNe,rI,rI0,y8,yo,List.map,List.replicate,List.length,List.append,jqa,jqb,jqc,jqd,jqe,jqf,jqg,jqh,jqi,jqj,jqk,jql,jqm,jqn,and_true,true_and,and_assoc,jqo,jqp,jqq,jqr,jqs,jqt,if_true,ite_true,jqu,ite_false,if_false]
  have ng:=P.ng
  refine ⟨by decide,fun p hp=>?_⟩
  have s1:=isV (o:=HO.lst [V.str (Str.ofString ";")]) p hp
  refine ⟨_,s1 _ _ (P.ks _ _ hh),_,zp,zt (by simp only [List.length_map,List.length_cons,List.length_nil];omega),fun p1 hp1=>?_⟩
  have s2:=isV (o:=HO.lst (a.map V.str ++ [V.str (Str.ofString ";")])) p1 hp1
  exact JP (by rw [zp,List.map_append];rfl) ha (s2 _ _ (s1 _ _ P.hG)) (by omega) P.og fun b ws H2 s=>q b ws H2 (P.ks.trans (s1.trans (s2.trans s)))
theorem JR {D:ko} {c:Int} {l h:Addr} {r:Int} {xs:List Int} (hx:H l=some (.lst (xs.map V.int))) (lx:xs.length=8) (dr:∀ x∈xs,drI x) (hh:H h=some (.lst ([Str.ofString "deal",zH r].map V.str))) (hr:rB r) (q:∀ h' a H',Same H H'→H' h'=some (.lst (a.map V.str))→hdP a→D.nx [some (.int c),some (.ref l),some (.ref h'),none,none,none,none] H') :
  vg K t D [some (.int c),some (.ref l),some (.ref h),none,none,none,none] H:=by
 simp only [vg,yj,zP,L2.start,zE,zo,tOp,zg,tC,z8,zd,zm,tCB,tSl,zF,zB,y6,v7,kq,xn,zP,zG,rI,rI0,yl,y8,List.map,List.replicate,List.length,List.append,jqa,jqb,jqc,jqd,jqe,jqf,jqg,jqh,jqi,jqj,jqk,jql,jqm,jqn,and_true,true_and,and_assoc,jqo,jqp,jqq,jqr,jqs,jqt,if_true,ite_true,jqu,ite_false,if_false]
 obtain ⟨x0,e0,d0⟩:=YJ (xs:=xs) (k:=0) (by omega) dr
 refine ⟨by decide,fun p hp=>?_⟩
 have s1:=isV (o:=HO.lst [V.str (Str.ofString "done")]) p hp
 refine ⟨_,s1 _ _ hh,_,zp,zt (by simp),fun p1 hp1=>?_⟩
 obtain ⟨H2,e2,s2,g2⟩:=yS (o:=.lst ([Str.ofString "deal",zH r].map V.str ++ [V.str (Str.ofString "done")])) hp1
 rw [← e2]
 have S2:=s1.trans s2
 refine ⟨_,SqL.of (S2 _ _ hx),_,e0,_,rfl,dB,by decide,_,SqL.of (S2 _ _ hx),fun p2 hp2=>?_⟩
 obtain ⟨cs,ec,lc,mc⟩:=zd8 xs (some 1) (some (1 + x0 / 4 % 3))
 rw [ec]
 obtain ⟨H3,e3,s3,g3⟩:=yS (o:=.lst (cs.map V.int)) hp2
 rw [← e3]
 refine ⟨⟨_,SqL.of g3⟩,fun D1 hD=>?_⟩
 refine vF (J:=Itl K p2) cs.length (by omega) (fun τ=>∃ o,τ=[o]) (fun i v=>∃ w,wB w∧v=.str (zH w)) ⟨_,rfl⟩ (fun i H s h=>⟨_,_,SqL.of (s _ _ g3),List.getElem?_eq_getElem (by rw [List.length_map];omega)⟩) (fun H s=>⟨_,SqL.of (s _ _ g3),by rw [List.length_map];omega⟩) hD ?_ ?_
 ·rintro i x τ H4 H5 ⟨o',rfl⟩ s4 hi ⟨rfl,hv⟩
  have hv:=hv _ (SqL.of (s4 _ _ g3))
  have hr:=List.getElem?_eq_getElem (l:=cs) hi
  rw [List.getElem?_map,hr] at hv
  cases hv
  exact ⟨_,rfl,_,rfl,(dr _ (mc _ (List.getElem_mem hi))).cb.w,fun w H6 s6 bw=>⟨wT (v3 bw),⟨_,rfl⟩,⟨w,bw,rfl⟩,s6⟩⟩
 ·intro ys H4 hl hv s4 hq
  have ex:∃ sa:List Int,ys=(sa.map zH).map V.str∧sa.length=ys.length∧∀ i∈sa,wB i:=by
   clear hq hl
   induction ys with
   | nil=>exact ⟨[],rfl,rfl,fun _ z=>nomatch z⟩
   | cons y ys ih =>
    obtain ⟨sa,e,l,f⟩:=ih fun i v h=>hv (i + 1) v (by simpa using h)
    obtain ⟨w,bw,rfl⟩:=hv 0 y rfl
    exact ⟨w :: sa,by rw [e];rfl,by simp [l],fun i hi=>(List.mem_cons.mp hi).elim (fun z=>z ▸ bw) (f i)⟩
  obtain ⟨sa,rfl,l,f⟩:=ex
  have g5:=s4 _ _ (s3 _ _ g2)
  refine ⟨_,g5,_,hq,zt (by simp only [List.length_append,List.length_map,List.length_cons,List.length_nil] at *;omega),fun p5 hp5=>q p5 (Str.ofString "deal" :: zH r :: ocW (.done sa)) _ (S2.trans (s3.trans (s4.trans (isV p5 hp5)))) ?_ (.inl ⟨r,sa,rfl,hr,by omega,f⟩)⟩
  rw [zp]
  rfl
theorem YT {c:Int} (hc:Cb c) (q:∀ b ws H',Same H H'→H' b=some (.lst (ws.map V.str))→LnW ws→Q (.ref b) H') :
  jn K t { nx:=fun _ H'=>Q .non H',rt:=Q } (L2.start ["cell","xs","head","worths","k","worth","place"] [.int c]) H:=by
 simp only [jn,yK,jX,qU,qd,kx,qZ,zP,Vw,L2.start,yG,zv,zE,zo,zC,zy,tOp,zg,tC,z8,xN,zd,zm,we,zL,zw,tIf,tCB,tSl,zF,zB,y6,v7,kq,wU,xn,zP,zG,yG,rEq,rNe,rI,rI0,yl,y8,yo,List.map,List.replicate,List.length,List.append,jqa,jqb,jqc,jqd,jqe,jqf,jqg,jqh,jqi,jqj,jqk,jql,jqm,jqn,and_true,true_and,and_assoc,jqo,jqp,jqq,jqr,jqs,jqt,if_true,ite_true,jqu,ite_false,if_false]
 refine ⟨by decide,by decide,fun l xs H1 s1 _ hx lx dr=>⟨hc.w,fun r H2 s2 hr=>⟨wT (v3 (Xd hr)),by decide,fun h hh=>?_⟩⟩⟩
 obtain ⟨H3,e3,s3,g3⟩:=yS (o:=.lst ([Str.ofString "deal",zH r].map V.str)) hh
 have e3':H3=upd H2 h (.lst [V.str (Str.ofString "deal"),V.str (Str.ofString (toString r))]):=e3
 rw [← e3']
 have hl:=s3 _ _ (s2 _ _ hx)
 have S3:=s1.trans (s2.trans s3)
 obtain ⟨x0,e0,d0⟩:=YJ (xs:=xs) (k:=0) (by omega) dr
 simp only [kh,qU,qd,kx,qZ,zP,Vw,L2.start,yG,zv,zE,zo,zC,zy,tOp,zg,tC,z8,xN,zd,zm,we,zL,zw,tIf,tCB,tSl,zF,zB,y6,v7,kq,wU,xn,zP,zG,yG,rEq,rNe,rI,rI0,yl,y8,yo,List.map,List.replicate,List.length,List.append,jqa,jqb,jqc,jqd,jqe,jqf,jqg,jqh,jqi,jqj,jqk,jql,jqm,jqn,and_true,true_and,and_assoc,jqo,jqp,jqq,jqr,jqs,jqt,if_true,ite_true,jqu,ite_false,if_false]
 refine ⟨_,SqL.of hl,_,e0,_,rfl,by decide,ym (fun e=>⟨by decide,fun p hp=>?_⟩) fun e=>?_⟩
 ·have s4:=isV (o:=HO.lst (whyL.map V.str)) p hp
  obtain ⟨v,e5,m5⟩:=qN (xs:=whyL.map V.str) (x0 / 4) 3 rfl (by decide)
  obtain ⟨w,hw,rfl⟩:=List.mem_map.mp m5
  refine ⟨_,SqL.of (s4 _ _ hl),_,e0,_,rfl,dB,by decide,_,SqL.of zp,_,e5,by decide,fun p1 hp1=>?_⟩
  have s5:=isV (o:=HO.lst [V.str (Str.ofString "off"),V.str w,V.str (Str.ofString ";")]) p1 hp1
  refine ⟨_,s5 _ _ (s4 _ _ g3),_,zp,zt (by simp),fun p2 hp2=>?_⟩
  refine q p2 (Yz r (.off w) []) _ (S3.trans (s4.trans (s5.trans (isV p2 hp2)))) (by rw [zp];rfl) (.inl ⟨r,.off w,[],rfl,hr,hw,⟨.nil,by decide,fun _ z=>nomatch z⟩,fun _ _=>rfl⟩)
 ·simp only [kg,qU,qd,kx,qZ,zP,Vw,L2.start,yG,zv,zE,zo,zC,zy,tOp,zg,tC,z8,xN,zd,zm,we,zL,zw,tIf,tCB,tSl,zF,zB,y6,v7,kq,wU,xn,zP,zG,yG,rEq,rNe,rI,rI0,yl,y8,yo,List.map,List.replicate,List.length,List.append,jqa,jqb,jqc,jqd,jqe,jqf,jqg,jqh,jqi,jqj,jqk,jql,jqm,jqn,and_true,true_and,and_assoc,jqo,jqp,jqq,jqr,jqs,jqt,if_true,ite_true,jqu,ite_false,if_false]
  refine ⟨_,SqL.of hl,_,e0,_,rfl,by decide,ym (fun e=>⟨_,g3,0,rfl,by decide,by decide,?_⟩) fun e=>?_⟩
  ·have fh:H h=none:=YF s1 (YF s2 hh)
   have lh:l≠h:=fun z=>by rw [z] at hx;rw [YF s2 hh] at hx;cases hx
   exact YS (by rw [yb lh];exact hl) (by omega) dr (a:=[Str.ofString "mark",zH r]) zp (.inr ⟨r,rfl,hr⟩) fun b ws H4 s4=>q b ws H4 ((YE S3 fh).trans s4)
  ·exact JR hl (by omega) dr g3 hr fun h' a H4 s4 g4 ha=>YS (s4 _ _ hl) (by omega) dr g4 ha fun b ws H5 s5=>q b ws H5 (S3.trans (s4.trans s5))
theorem vR {w:Int} (h:wB w):yv (zH w)=true∧yO (zH w)=w:=by
 obtain ⟨a,b,_⟩:=qo (v3 h)
 exact ⟨a,b⟩
theorem kO {w:Int} {x:Str} (h:wB w) (hx:yv x=false):zH w≠x:=fun z=>by rw [← z,(vR h).1] at hx;cases hx
theorem zbH (r:Row) (rows:List Row):wsR (r :: rows)=r.1.1 :: zH r.1.2 :: zH r.2 :: wsR rows:=rfl
theorem Z0:∀ {rows:List Row},(∀ r∈rows,Zh r.1∧wB r.2)→rwO (wsR rows)=rows∧trP (wsR rows)
 | [],_=>⟨rfl,trivial⟩
 | r :: rows,h=>by
  obtain ⟨⟨h1,h2⟩,h3⟩:=h r List.mem_cons_self
  obtain ⟨e,f⟩:=Z0 (rows:=rows) fun x hx=>h x (List.mem_cons_of_mem _ hx)
  rw [zbH]
  refine ⟨?_,⟨h1,(vR h2).1,(vR h3).1⟩,f⟩
  show ((r.1.1,yO (zH r.1.2)),yO (zH r.2)) :: rwO (wsR rows)=r :: rows
  rw [(vR h2).2,(vR h3).2,e]
theorem zbI {rows:List Row} (h:∀ r∈rows,Zh r.1∧wB r.2):Str.ofString ";" ∉ wsR rows:=fun z=>by
 obtain ⟨r,hr,hw⟩:=List.mem_flatMap.mp z
 obtain ⟨⟨a,b⟩,c⟩:=h r hr
 unfold rwW at hw
 simp only [List.mem_cons,List.not_mem_nil,or_false] at hw
 rcases hw with e | e | e
 ·rw [← e] at a;exact absurd a (by decide +kernel)
 ·exact jH _ e
 ·exact jH _ e
theorem j9 {a b:List Str} (n:Str.ofString ";" ∉ a):lnP (a ++ Str.ofString ";" :: b)↔rwP b∧((a[0]?=some (Str.ofString "deal")∧dlP a (rwO b))∨(a[0]?=some (Str.ofString "mark")∧mkP a (rwO b))):=by
 constructor
 ·rintro ⟨a',b',e,n',z⟩
  obtain ⟨rfl,rfl⟩:=WU e n n'
  exact z
 ·exact fun z=>⟨a,b,rfl,n,z⟩
theorem zdp {ws:List Str} (h:LnW ws):lnP ws:=by
 rcases h with ⟨r,oc,gs,rfl,hr,ho,hg,hn⟩ | ⟨r,gs,rfl,hr,hg,hz⟩
 ·rw [YL,j9 (WN ho)]
  obtain ⟨e,f⟩:=Z0 hg.nm
  refine ⟨⟨f,by rw [e];exact hg.up⟩,.inl ⟨rfl,?_,fun z=>?_,zH r,rfl,(vR (Xd hr)).1,by rw [(vR (Xd hr)).2];exact hr⟩⟩
  ·cases oc with
   | done sa=>exact .inl ⟨sa.map zH,rfl,fun w hw=>by obtain ⟨i,hi,rfl⟩:=List.mem_map.mp hw;exact (vR (ho.2 i hi)).1⟩
   | off w=>exact .inr ⟨w,ho,rfl⟩
  ·cases oc with
   | done sa=>exact absurd z (by show some (Str.ofString "done")≠some (Str.ofString "off");decide +kernel)
   | off w=>rw [e];exact hn w rfl
 ·rw [YM,j9 Zl]
  obtain ⟨e,f⟩:=Z0 hg.nm
  exact ⟨⟨f,by rw [e];exact hg.up⟩,.inr ⟨rfl,rfl,by rw [e];exact hz,zH r,rfl,(vR (Xd hr)).1,by rw [(vR (Xd hr)).2];exact hr⟩⟩
def cstL:List Str:=["deal","mark","done","off",";","told","great","nought"]
def JS (w:Str):Prop:=yv w=true∨z6 w=true∨w∈cstL
theorem JT:∀ {ws:List Str},trP ws→∀ w∈ws,yv w=true∨z6 w=true
 | [],_,_,h=>nomatch h
 | [_],h,_,_=>h.elim
 | [_,_],h,_,_=>h.elim
 | a :: b :: c :: r,h,w,hw=>by
  simp only [List.mem_cons] at hw
  rcases hw with rfl | rfl | rfl | hw
  ·exact .inr h.1.1
  ·exact .inl h.1.2.1
  ·exact .inl h.1.2.2
  ·exact JT h.2 w hw
theorem zcW {ws:List Str} (h:trP ws):Str.ofString ";" ∉ ws:=fun z=>by
 rcases JT h _ z with e | e <;> exact absurd e (by decide +kernel)
theorem zd9 {ws:List Str} (h:ocP ws):∀ w∈ws,JS w:=fun w hw=>by
 rcases h with ⟨r,rfl,f⟩ | ⟨y,hy,rfl⟩
 ·rcases List.mem_cons.mp hw with rfl | hw
  ·exact .inr (.inr (by decide +kernel))
  ·exact .inl (f w hw)
 ·simp only [List.mem_cons,List.not_mem_nil,or_false] at hw
  rcases hw with rfl | rfl
  ·exact .inr (.inr (by decide +kernel))
  ·refine .inr (.inr ?_)
   unfold whyL at hy
   simp only [List.mem_cons,List.not_mem_nil,or_false] at hy
   rcases hy with rfl | rfl | rfl <;> decide +kernel
theorem zea:∀ {a:List Str} {x y:Str},a[0]?=some x→a[1]?=some y→a=x :: y :: a.drop 2
 | [],_,_,h,_=>nomatch h
 | [_],_,_,_,h=>nomatch h
 | p :: q :: r,x,y,h1,h2=>by
  simp only [List.getElem?_cons_zero,List.getElem?_cons_succ,Option.some.injEq] at h1 h2
  rw [h1,h2];rfl
theorem zeb {ws:List Str} (h:lnP ws):∀ w∈ws,JS w:=fun w hw=>by
 obtain ⟨a,b,rfl,n,rw_,z⟩:=h
 have two:∀ {x y:Str},a[0]?=some x→a[1]?=some y→x∈cstL→rkP y→(∀ v∈a.drop 2,JS v)→w∈a→JS w:=fun {x y} h1 h2 hx hy k m=>by
  rw [zea h1 h2] at m
  rcases List.mem_cons.mp m with rfl | m
  ·exact .inr (.inr hx)
  ·rcases List.mem_cons.mp m with rfl | m
   ·exact .inl hy.1
   ·exact k w m
 rcases List.mem_append.mp hw with m | m
 ·rcases z with ⟨h1,oc,_,y,h2,hy⟩ | ⟨h1,l2,_,y,h2,hy⟩
  ·exact two h1 h2 (by decide +kernel) hy (zd9 oc) m
  ·exact two h1 h2 (by decide +kernel) hy (fun v hv=>by rw [List.drop_eq_nil_of_le (by omega)] at hv;cases hv) m
 ·rcases List.mem_cons.mp m with rfl | m
  ·exact .inr (.inr (by decide +kernel))
  ·exact (JT rw_.1 w m).elim .inl fun z=>.inr (.inl z)
theorem Zn {ws:List Str} (h:lnP ws):ws.count (Str.ofString ";")=1:=by
 obtain ⟨a,b,rfl,n,rw_,z⟩:=h
 rw [List.count_append,List.count_cons_self,List.count_eq_zero_of_not_mem n,List.count_eq_zero_of_not_mem (zcW rw_.1)]
theorem yY {ws:List Str} (h:LnW ws):3≤ws.length∧ws.length≤42∧∀ w∈ws,Wd w:=by
 rcases h with ⟨r,oc,gs,rfl,h1,h2,h3,h4⟩ | ⟨r,tb,rfl,h1,h2,h3⟩
 ·have l:=h3.le
  have lo:(ocW oc).length≤9:=by
   cases oc with
   | done sa=>have:=h2.1;simp only [ocW,List.length_cons,List.length_map];omega
   | off w=>show 2≤9;decide
  exact ⟨by unfold Yz;simp;omega,by unfold Yz;simp [xx];omega,zcT h1 h2 h3⟩
 ·have l:=h2.le
  exact ⟨by unfold Wa;simp,by unfold Wa;simp [xx];omega,zcU h1 h2⟩
theorem Wd.x {w:Str} (h:Wd w):Wx w:=⟨Nat.le_trans h.1 (by decide),h.2⟩
theorem KR {zs:List Str} {z:Str} (l:zs.length≤60) (x:∀ w∈zs,Wx w) (m:z∈zs) (n:¬ JS z):vb zs:=⟨List.ne_nil_of_mem m,l,x,fun h=>n (zeb h z m)⟩
theorem zcX {zs:List Str} (n0:zs≠[]) (l:zs.length≤60) (x:∀ w∈zs,Wx w) (n:zs.count (Str.ofString ";")≠1):vb zs:=⟨n0,l,x,fun h=>n (Zn h)⟩
theorem zec:(oddL.all fun w=>!yv w && !z6 w && !cstL.contains w && decide (w.length≤100) && w.cps.toList.all (fun c=>decide (c < 128) && decide (c≠32)))=true:=by decide +kernel
theorem zcY {w:Str} (h:w∈oddL):¬ JS w∧Wx w:=by
 have:=List.all_eq_true.mp zec w h
 simp only [Bool.and_eq_true,Bool.not_eq_true',decide_eq_true_eq] at this
 obtain ⟨⟨⟨⟨a,b⟩,c⟩,d⟩,e⟩:=this
 have e':=List.all_eq_true.mp e
 refine ⟨fun z=>?_,d,fun x hx=>?_,fun z=>?_⟩
 ·rcases z with z | z | z
  ·rw [a] at z;cases z
  ·rw [b] at z;cases z
  ·rw [List.contains_iff_mem.mpr z] at c;cases c
 ·have:=e' x hx
  simp only [Bool.and_eq_true,decide_eq_true_eq] at this
  exact this.1
 ·have:=e' 32 z
  simp at this
theorem QO (w:Int) {c:Nat} (h:c∈(zH w).cps.toList):c=45∨(48≤c∧c < 58):=by
 have dg0:∀ m,c∈dg m→48≤c∧c < 58:=fun m hm=>by have:=jc m c hm;omega
 rcases Int.le_total 0 w with z | z
 ·rw [show w=((w.toNat:Nat):Int) by omega,yD] at h
  exact .inr (dg0 _ h)
 ·rcases Nat.eq_zero_or_pos w.natAbs with e | e
  ·have:w=((0:Nat):Int):=by omega
   rw [this,yD] at h
   exact .inr (dg0 _ h)
  ·rw [show w=-((w.natAbs:Nat):Int) by omega,xQ e] at h
   rcases List.mem_cons.mp h with h | h
   ·exact .inl h
   ·exact .inr (dg0 _ h)
theorem zbJ {z:Str} (h:yv z=true):zH (yO z)=z:=by
 unfold yv at h
 simp only [Bool.and_eq_true,decide_eq_true_eq] at h
 exact h.2.2
theorem zbK {u v:Str} {s:Nat} (hs:s=9∨s=10∨s=44) (hu:Wd u) (hv:Wd v):¬ JS (u ++ ⟨#[s]⟩ ++ v)∧Wx (u ++ ⟨#[s]⟩ ++ v):=by
 have m:s∈(u ++ ⟨#[s]⟩ ++ v).cps.toList:=by rw [yu,yu];simp
 have lu:u.length≤40:=hu.1
 have lv:v.length≤40:=hv.1
 have l1:(⟨#[s]⟩:Str).length=1:=rfl
 refine ⟨fun z=>?_,by rw [yy,yy,l1];omega,(hu.2.1.app (fun c hc=>by rw [List.mem_singleton.mp hc];omega)).app hv.2.1,fun z=>?_⟩
 ·rcases z with z | z | z
  ·rw [← zbJ z] at m
   have:=QO _ m
   omega
  ·obtain ⟨_,_,_,b⟩:=jW z
   have:=List.all_eq_true.mp b s m
   revert this
   rcases hs with rfl | rfl | rfl <;> decide +kernel
  ·have k:(cstL.all fun w=>w.cps.toList.all fun c=>decide (c≠9∧c≠10∧c≠44))=true:=by decide +kernel
   have:=of_decide_eq_true (List.all_eq_true.mp (List.all_eq_true.mp k _ z) s m)
   omega
 ·rw [yu,yu] at z
  simp only [List.mem_append] at z
  rcases z with (z | z) | z
  ·exact hu.2.2 z
  ·have:=List.mem_singleton.mp z;omega
  ·exact hv.2.2 z
theorem zcZ {a p:Addr} {u mid xs:List V} {hi:Option Int} (F:Addr→Hp→Prop) (hp:H p=some (.lst u)) (ha:H a=some (.lst xs)) (l:u.length + mid.length + (yM xs hi none).length≤1000) (q:∀ b H',Same H H'→H' b=some (.lst (u ++ mid ++ yM xs hi none))→F b H') :
  ∀ p1,H p1=none→∃ x1,upd H p1 (.lst mid) p=some (.lst x1)∧∃ x2,upd H p1 (.lst mid) p1=some (.lst x2)∧x1.length + x2.length≤sizeLine∧∀ p2,upd H p1 (.lst mid) p2=none→∃ x3,SqL K (upd (upd H p1 (.lst mid)) p2 (.lst (x1 ++ x2))) a x3∧∀ p3,upd (upd H p1 (.lst mid)) p2 (.lst (x1 ++ x2)) p3=none →
   ∃ x4,upd (upd (upd H p1 (.lst mid)) p2 (.lst (x1 ++ x2))) p3 (.lst (yM x3 hi none)) p2=some (.lst x4)∧∃ x5,upd (upd (upd H p1 (.lst mid)) p2 (.lst (x1 ++ x2))) p3 (.lst (yM x3 hi none)) p3=some (.lst x5)∧x4.length + x5.length≤sizeLine ∧
    ∀ p4,upd (upd (upd H p1 (.lst mid)) p2 (.lst (x1 ++ x2))) p3 (.lst (yM x3 hi none)) p4=none→F p4 (upd (upd (upd (upd H p1 (.lst mid)) p2 (.lst (x1 ++ x2))) p3 (.lst (yM x3 hi none))) p4 (.lst (x4 ++ x5))):=by
 intro p1 h1
 have s1:=isV (o:=HO.lst mid) p1 h1
 refine ⟨u,s1 _ _ hp,mid,zp,zt (by omega),fun p2 h2=>?_⟩
 have s2:=isV (o:=HO.lst (u ++ mid)) p2 h2
 refine ⟨xs,SqL.of (s2 _ _ (s1 _ _ ha)),fun p3 h3=>?_⟩
 have s3:=isV (o:=HO.lst (yM xs hi none)) p3 h3
 refine ⟨_,s3 _ _ zp,_,zp,zt (by rw [List.length_append];omega),fun p4 h4=>q p4 _ (s1.trans (s2.trans (s3.trans (isV p4 h4)))) zp⟩
theorem Z1 {ws:List Str} {z:Str} {k j:Nat} (h:LnW ws) (hz:Wx z) (kj:j≤k + 2):(ws.take k ++ [z] ++ ws.drop j).length≤1000∧(∀ w∈ws.take k ++ [z] ++ ws.drop j,Wx w)∧z∈ws.take k ++ [z] ++ ws.drop j:=by
 obtain ⟨l1,l2,l3⟩:=yY h
 refine ⟨by simp only [List.length_append,List.length_take,List.length_drop,List.length_cons,List.length_nil];omega,fun w hw=>?_,by simp⟩
 simp only [List.mem_append,List.mem_singleton] at hw
 rcases hw with (hw | rfl) | hw
 ·exact (l3 w (List.mem_of_mem_take hw)).x
 ·exact hz
 ·exact (l3 w (List.mem_of_mem_drop hw)).x
theorem Z2 {ws:List Str} {z:Str} {k j:Nat} (h:LnW ws) (kj:k≤j):(ws.take k ++ [z] ++ ws.drop j).length≤60:=by
 obtain ⟨l1,l2,l3⟩:=yY h
 simp only [List.length_append,List.length_take,List.length_drop,List.length_cons,List.length_nil];omega
theorem WV {c:Int} (q:∀ w H',Same H H'→w∈oddL→Q (.str w) H') :
  kN K t { nx:=fun _ H'=>Q .non H',rt:=Q } (L2.start ["cell","some"] [.int c]) H:=by
 simp only [kN,zP,L2.start,Vh,zv,zE,zo,zC,tOp,tUn,zg,tC,z8,zd,zm,tCB,zP,zG,rI,rI0,rU,y8,List.map,List.replicate,List.length,List.append,jqa,jqb,jqc,jqd,jqe,jqf,jqg,jqh,jqi,jqj,jqk,jql,jqm,jqn,and_true,true_and,and_assoc,jqo,jqp,jqq,Nat.reduceSub,Nat.reduceAdd,jqr,jqs,jqt,Int.reduceToNat,Int.reducePow,Int.reduceNeg,Int.reduceMul,Int.reduceAdd,if_true,ite_true,jqu,ite_false,if_false]
 refine ⟨by decide,fun p hp=>⟨jG (by decide) (by decide),by decide +kernel,by decide,fun p1 hp1=>?_⟩⟩
 generalize e1:upd H p _=H1 at *
 have s1:=svV e1 hp
 have g1:H1 p=_:=e1 ▸ zp
 generalize e2:upd H1 p1 _=H2 at *
 have s2:=svV e2 hp1
 have g2:H2 p1=_:=e2 ▸ zp
 refine ⟨_,s2 _ _ g1,_,g2,by decide,fun p2 hp2=>?_⟩
 generalize e3:upd H2 p2 _=H3 at *
 have s3:=svV e3 hp2
 have g3:H3 p2=_:=e3 ▸ zp
 refine ⟨jG (by decide) (by decide),by decide +kernel,by decide,by decide,by decide +kernel,by decide,fun p3 hp3=>?_⟩
 generalize e4:upd H3 p3 _=H4 at *
 have s4:=svV e4 hp3
 have g4:H4 p3=_:=e4 ▸ zp
 refine ⟨_,s4 _ _ g3,_,g4,by decide,fun p4 hp4=>?_⟩
 generalize e5:upd H4 p4 _=H5 at *
 have s5:=svV e5 hp4
 have g5:H5 p4=_:=e5 ▸ zp
 obtain ⟨v,e6,m6⟩:=qN (xs:=oddL.map V.str) c 24 rfl (by decide)
 obtain ⟨w,hw,rfl⟩:=List.mem_map.mp m6
 refine ⟨by decide,_,SqL.of (g5.trans (congrArg (fun z=>some (HO.lst z)) (by decide +kernel:_=oddL.map V.str))),_,e6,q w H5 (s1.trans (s2.trans (s3.trans (s4.trans s5)))) hw⟩
theorem V4 {D:ko} {a l:Addr} {k:Nat} {o3:Option V} {ws:List Str} (h1:H a=some (.lst (ws.map V.str))) (h2:LnW ws) (q:∀ b zs H',Same H H'→H' b=some (.lst (zs.map V.str))→vb zs→D.rt (.ref b) H') :
  xU K t D [some (.ref a),some (.ref l),some (.int k),o3] H:=by
 simp only [xU,zP,L2.start,zC,tOp,zg,tC,z8,zd,zm,tSl,zF,zu,zP,yl,List.map,List.replicate,List.length,List.append,jqa,jqb,jqc,jqd,jqe,jqf,jqg,jqh,jqi,jqj,jqk,jql,jqm,jqn,and_true,true_and,and_assoc,jqo,jqp,jqq,jqr,jqs,jqt,if_true,ite_true,jqu,ite_false,if_false]
 obtain ⟨l1,l2,l3⟩:=yY h2
 refine ⟨_,SqL.of h1,fun p hp=>⟨by decide,?_⟩⟩
 obtain ⟨H1,e1,s1,g1⟩:=yS (o:=.lst (yM (ws.map V.str) none (some (k:Nat)))) hp
 rw [← e1]
 rw [vw] at g1
 have sx:Wx (Str.ofString ";"):=(wb (by decide +kernel) (by decide +kernel)).x
 obtain ⟨m1,m2,m3⟩:=Z1 (k:=k) (j:=k) h2 sx (by omega)
 refine zcZ (fun b H'=>D.rt (.ref b) H') g1 (s1 _ _ h1) (by rw [yx];simp only [List.length_append,List.length_map,List.length_take,List.length_drop,List.length_cons,List.length_nil];omega) fun b H2 s2 g2=>q b (ws.take k ++ [Str.ofString ";"] ++ ws.drop k) H2 (s1.trans s2) (by rw [g2,yx,List.map_append,List.map_append];rfl) ?_
 refine zcX (List.ne_nil_of_mem m3) (Z2 h2 (Nat.le_refl _)) m2 ?_
 have c1:=Zn (zdp h2)
 rw [← List.take_append_drop k ws,List.count_append] at c1
 rw [List.count_append,List.count_append,List.count_singleton_self]
 omega
theorem kP {ws:List Str} (h:LnW ws):(∃ (r:Int) (sa:List Int) (gs:List Row),ws=(Str.ofString "deal" :: zH r :: Str.ofString "done" :: sa.map zH) ++ Str.ofString ";" :: wsR gs∧rB r∧JL (.done sa)∧Yy gs)∨(∃ (r:Int) (w:Str),ws=[Str.ofString "deal",zH r,Str.ofString "off",w] ++ Str.ofString ";" :: []∧rB r∧w∈whyL) ∨
  (∃ (r:Int) (gs:List Row),ws=[Str.ofString "mark",zH r] ++ Str.ofString ";" :: wsR gs∧rB r∧Yy gs∧∀ x∈gs,x.2≠0):=by
 rcases h with ⟨r,oc,gs,rfl,h1,h2,h3,h4⟩ | ⟨r,tb,rfl,h1,h2,h3⟩
 ·cases oc with
  | done sa=>exact .inl ⟨r,sa,gs,rfl,h1,h2,h3⟩
  | off w =>
   obtain rfl:=h4 w rfl
   exact .inr (.inl ⟨r,w,rfl,h1,h2⟩)
 ·exact .inr (.inr ⟨r,tb,rfl,h1,h2,h3⟩)
theorem KS {r:Int} {sa:List Int} (h:JL (.done sa)):Str.ofString ";" ∉ (Str.ofString "deal" :: zH r :: Str.ofString "done" :: sa.map zH):=WN (oc:=.done sa) h
theorem YU {r:Int} {w:Str} (h:w∈whyL):Str.ofString ";" ∉ [Str.ofString "deal",zH r,Str.ofString "off",w]:=WN (oc:=.off w) h
theorem WW {ws:List Str} (h:LnW ws):Str.ofString ";"∈ws:=by
 rcases kP h with ⟨r,sa,gs,rfl,_⟩ | ⟨r,w,rfl,_⟩ | ⟨r,gs,rfl,_⟩ <;> exact List.mem_append_right _ List.mem_cons_self
theorem zed {a b c:Str} {r:List Str}:¬ ocP (Str.ofString "off" :: b :: c :: r):=fun z=>by
 rcases z with ⟨r',e,_⟩ | ⟨w,_,e⟩
 ·injection e with e;exact absurd e (by decide +kernel)
 ·injection e with _ e;injection e with _ e;cases e
theorem zc0 {ws:List Str} {x:Str} (h:LnW ws) (hx:Str.ofString ";"≠x) (nd:ws[2]?≠some (Str.ofString "done")):¬ lnP (ws.take (ws.idxOf (Str.ofString ";")) ++ [x] ++ ws.drop (ws.idxOf (Str.ofString ";"))):=by
 have go:∀ {a b:List Str},Str.ofString ";" ∉ a→((a ++ Str.ofString ";" :: b).take ((a ++ Str.ofString ";" :: b).idxOf (Str.ofString ";")) ++ [x] ++ (a ++ Str.ofString ";" :: b).drop ((a ++ Str.ofString ";" :: b).idxOf (Str.ofString ";")))=(a ++ [x]) ++ Str.ofString ";" :: b:=fun {a b} n=>by
  rw [v5 n,List.take_left,List.drop_left]
 have no:∀ {a:List Str},Str.ofString ";" ∉ a→Str.ofString ";" ∉ a ++ [x]:=fun n z=>(List.mem_append.mp z).elim n fun y=>hx (List.mem_singleton.mp y)
 rcases kP h with ⟨r,sa,gs,rfl,_⟩ | ⟨r,w,rfl,hr,hw⟩ | ⟨r,gs,rfl,hr,hg,hz⟩
 ·exact absurd rfl nd
 ·rw [go (YU hw),j9 (no (YU hw))]
  rintro ⟨_,⟨_,z,_⟩ | ⟨z,_⟩⟩
  ·exact zed (a:=x) z
  ·exact absurd z (by show some (Str.ofString "deal")≠some (Str.ofString "mark");decide +kernel)
 ·rw [go Zl,j9 (no Zl)]
  rintro ⟨_,⟨z,_⟩ | ⟨_,z,_⟩⟩
  ·exact absurd z (by show some (Str.ofString "mark")≠some (Str.ofString "deal");decide +kernel)
  ·cases z
theorem zbL {D:ko} {a l:Addr} {k:Nat} {o3:Option V} {ws:List Str} (h1:H a=some (.lst (ws.map V.str))) (h2:LnW ws) (h3:dr3 H l) (nd:ws[2]?≠some (Str.ofString "done")) (q:∀ b zs H',Same H H'→H' b=some (.lst (zs.map V.str))→vb zs→D.rt (.ref b) H') :
  xV K t D [some (.ref a),some (.ref l),some (.int k),o3] H:=by
 simp only [xV,zP,zR,L2.start,zC,tOp,zg,tC,z8,zd,zm,tBM,tyV,tSl,zF,zu,zP,zG,rI,yl,List.map,List.replicate,List.length,List.append,jqa,jqb,jqc,jqd,jqe,jqf,jqg,jqh,jqi,jqj,jqk,jql,jqm,jqn,and_true,true_and,and_assoc,jqo,jqp,jqq,jqr,jqs,jqt,if_true,ite_true,jqu,ite_false,if_false]
 obtain ⟨l1,l2,l3⟩:=yY h2
 obtain ⟨x,y,z,hx,_⟩:=h3
 have mem:=WW h2
 refine ⟨.inl ⟨_,SqL.of h1⟩,ws,h1,mem,_,SqL.of h1,fun p hp=>⟨by decide,fun p1 hp1=>?_⟩⟩
 obtain ⟨H1,e1,s1,g1⟩:=yS (o:=.lst (yM (ws.map V.str) none (some ((ws.idxOf (Str.ofString ";"):Nat):Int)))) hp
 rw [← e1] at hp1 ⊢
 rw [vw] at g1
 obtain ⟨H2,e2,s2,g2⟩:=yS (o:=.lst [V.str (Str.ofString "7"),V.str (Str.ofString "0")]) hp1
 rw [← e2]
 obtain ⟨v,e5,m5⟩:=qN (xs:=[V.str (Str.ofString "7"),V.str (Str.ofString "0")]) z 2 rfl (by decide)
 have fx:∃ f:Str,v=.str f∧Wx f∧Str.ofString ";"≠f:=by
  simp only [List.mem_cons,List.not_mem_nil,or_false] at m5
  rcases m5 with rfl | rfl <;> exact ⟨_,rfl,(wb (by decide +kernel) (by decide +kernel)).x,by decide +kernel⟩
 obtain ⟨f,rfl,wf,nf⟩:=fx
 have S2:=s1.trans s2
 refine ⟨_,SqL.of (S2 _ _ hx),_,zS (n:=2) rfl,_,rfl,by decide,_,SqL.of g2,_,e5,by decide,fun p3 hp3=>?_⟩
 obtain ⟨H3,e3,s3,g3⟩:=yS (o:=.lst [V.str f]) hp3
 rw [← e3]
 refine ⟨_,s3 _ _ (s2 _ _ g1),_,g3,zt (by simp only [List.length_map,List.length_take,List.length_cons,List.length_nil];omega),fun p4 hp4=>?_⟩
 obtain ⟨H4,e4,s4,g4⟩:=yS (o:=.lst ((ws.take (ws.idxOf (Str.ofString ";"))).map V.str ++ [V.str f])) hp4
 rw [← e4]
 have S4:=S2.trans (s3.trans s4)
 refine ⟨.inl ⟨_,SqL.of (S4 _ _ h1)⟩,ws,S4 _ _ h1,mem,_,SqL.of (S4 _ _ h1),fun p5 hp5=>?_⟩
 rw [yx]
 have s5:=isV (o:=HO.lst ((ws.drop (ws.idxOf (Str.ofString ";"))).map V.str)) p5 hp5
 obtain ⟨m1,m2,m3⟩:=Z1 (k:=ws.idxOf (Str.ofString ";")) (j:=ws.idxOf (Str.ofString ";")) h2 wf (by omega)
 refine ⟨_,s5 _ _ g4,_,zp,zt (by simp only [List.length_append,List.length_map,List.length_take,List.length_drop,List.length_cons,List.length_nil];omega),fun p6 hp6=>q p6 (ws.take (ws.idxOf (Str.ofString ";")) ++ [f] ++ ws.drop (ws.idxOf (Str.ofString ";"))) _ (S4.trans (s5.trans (isV p6 hp6))) (by rw [zp,List.map_append,List.map_append];rfl) ⟨List.ne_nil_of_mem m3,Z2 h2 (Nat.le_refl _),m2,zc0 h2 nf nd⟩⟩
theorem zbM {D:ko} {a l:Addr} {k:Nat} {o3:Option V} {ws:List Str} (h1:H a=some (.lst (ws.map V.str))) (h2:LnW ws) (h3:dr3 H l) (hk:k + 1 < ws.length) (q:∀ b zs H',Same H H'→H' b=some (.lst (zs.map V.str))→vb zs→D.rt (.ref b) H') :
  xW K t D [some (.ref a),some (.ref l),some (.int k),o3] H:=by
 simp only [xW,zP,L2.start,zv,zE,zo,zC,tOp,zg,tC,z8,zd,zm,tSl,zF,zu,zP,zG,rI,rI0,yl,yn,List.map,List.replicate,List.length,List.append,jqa,jqb,jqc,jqd,jqe,jqf,jqg,jqh,jqi,jqj,jqk,jql,jqm,jqn,and_true,true_and,and_assoc,jqo,jqp,jqq,jqr,jqs,jqt,if_true,ite_true,jqu,ite_false,if_false]
 obtain ⟨l1,l2,l3⟩:=yY h2
 obtain ⟨x,y,z,hx,_⟩:=h3
 have w1:=List.getElem?_eq_getElem (l:=ws) (i:=k) (by omega)
 have w2:=List.getElem?_eq_getElem (l:=ws) (i:=k + 1) hk
 have d1:=l3 _ (List.getElem_mem (l:=ws) (n:=k) (by omega))
 have d2:=l3 _ (List.getElem_mem (l:=ws) (n:=k + 1) hk)
 generalize ws[k]=u at *
 generalize ws[k + 1]=v at *
 have m:∀ {i:Nat} {w:Str},ws[i]?=some w→(ws.map V.str)[i]?=some (V.str w):=fun h=>by rw [List.getElem?_map,h];rfl
 refine ⟨_,SqL.of h1,_,zS (m w1),by decide,fun p hp=>?_⟩
 obtain ⟨H1,e1,s1,g1⟩:=yS (o:=.lst [V.str (Str.ofString "\t"),V.str (Str.ofString "\n"),V.str (Str.ofString ",")]) hp
 rw [← e1]
 obtain ⟨vv,e5,m5⟩:=qN (xs:=[V.str (Str.ofString "\t"),V.str (Str.ofString "\n"),V.str (Str.ofString ",")]) z 3 rfl (by decide)
 have fx:∃ s:Nat,vv=.str ⟨#[s]⟩∧(s=9∨s=10∨s=44):=by
  simp only [List.mem_cons,List.not_mem_nil,or_false] at m5
  rcases m5 with rfl | rfl | rfl
  ·exact ⟨9,by rw [show Str.ofString "\t"=⟨#[9]⟩ by decide +kernel],.inl rfl⟩
  ·exact ⟨10,by rw [show Str.ofString "\n"=⟨#[10]⟩ by decide +kernel],.inr (.inl rfl)⟩
  ·exact ⟨44,by rw [show Str.ofString ","=⟨#[44]⟩ by decide +kernel],.inr (.inr rfl)⟩
 obtain ⟨s,rfl,hs⟩:=fx
 obtain ⟨nb,wx⟩:=zbK hs d1 d2
 have lu:u.length≤40:=d1.1
 have lv:v.length≤40:=d2.1
 refine ⟨_,SqL.of (s1 _ _ hx),_,zS (n:=2) rfl,_,rfl,by decide,_,SqL.of g1,_,e5,_,rfl,_,rfl,zt (by rw [vZ];omega),_,SqL.of (s1 _ _ h1),_,zS (n:=k + 1) (m w2),_,rfl,zt (by rw [yy,vZ];omega),_,SqL.of (s1 _ _ h1),fun p1 hp1=>⟨by decide,?_⟩⟩
 obtain ⟨H2,e2,s2,g2⟩:=yS (o:=.lst (yM (ws.map V.str) none (some (k:Nat)))) hp1
 rw [← e2]
 rw [vw] at g2
 obtain ⟨m1,m2,m3⟩:=Z1 (k:=k) (j:=k + 2) h2 wx (by omega)
 have S2:=s1.trans s2
 rw [show ((k:Int) + 2)=((k + 2:Nat):Int) by omega]
 exact zcZ (fun b H'=>D.rt (.ref b) H') g2 (S2 _ _ h1) (by rw [yx];simp only [List.length_append,List.length_map,List.length_take,List.length_drop,List.length_cons,List.length_nil];omega) fun b H3 s3 g3=>q b (ws.take k ++ [u ++ ⟨#[s]⟩ ++ v] ++ ws.drop (k + 2)) H3 (S2.trans s3) (by rw [g3,yx,List.map_append,List.map_append];rfl) (KR (Z2 h2 (by omega)) m2 m3 nb)
theorem Wf {F:Addr→Hp→Prop} {a l:Addr} {k j:Nat} {ws:List Str} (h1:H a=some (.lst (ws.map V.str))) (h2:LnW ws) (h3:dr3 H l) (kj:k≤j) (kj2:j≤k + 2) (q:∀ b zs H',Same H H'→H' b=some (.lst (zs.map V.str))→vb zs→F b H') :
  ∃ x,SqL K H a x∧∀ p,H p=none→∃ x1,SqL K (upd H p (HO.lst (yM x none (some (k:Int))))) l x1∧∃ x2,atI x1 2=some x2∧∃ c,x2=V.int c∧∀ (w:Str) (H':Hp),Same (upd H p (HO.lst (yM x none (some (k:Int))))) H'→w∈oddL→1≤sizeLine ∧
   ∀ p1,H' p1=none→∃ x1,upd H' p1 (.lst [V.str w]) p=some (.lst x1)∧∃ x2,upd H' p1 (.lst [V.str w]) p1=some (.lst x2)∧x1.length + x2.length≤sizeLine∧∀ p2,upd H' p1 (.lst [V.str w]) p2=none→∃ x3,SqL K (upd (upd H' p1 (.lst [V.str w])) p2 (.lst (x1 ++ x2))) a x3∧∀ p3,upd (upd H' p1 (.lst [V.str w])) p2 (.lst (x1 ++ x2)) p3=none →
   ∃ x4,upd (upd (upd H' p1 (.lst [V.str w])) p2 (.lst (x1 ++ x2))) p3 (.lst (yM x3 (some (j:Int)) none)) p2=some (.lst x4)∧∃ x5,upd (upd (upd H' p1 (.lst [V.str w])) p2 (.lst (x1 ++ x2))) p3 (.lst (yM x3 (some (j:Int)) none)) p3=some (.lst x5)∧x4.length + x5.length≤sizeLine ∧
    ∀ p4,upd (upd (upd H' p1 (.lst [V.str w])) p2 (.lst (x1 ++ x2))) p3 (.lst (yM x3 (some (j:Int)) none)) p4=none→F p4 (upd (upd (upd (upd H' p1 (.lst [V.str w])) p2 (.lst (x1 ++ x2))) p3 (.lst (yM x3 (some (j:Int)) none))) p4 (.lst (x4 ++ x5))):=by
 obtain ⟨l1,l2,l3⟩:=yY h2
 obtain ⟨x,y,z,hx,_⟩:=h3
 refine ⟨_,SqL.of h1,fun p hp=>?_⟩
 obtain ⟨H1,e1,s1,g1⟩:=yS (o:=.lst (yM (ws.map V.str) none (some (k:Nat)))) hp
 rw [← e1]
 rw [vw] at g1
 refine ⟨_,SqL.of (s1 _ _ hx),_,zS (n:=2) rfl,_,rfl,fun w H2 s2 hw=>⟨by decide,?_⟩⟩
 obtain ⟨nb,wx⟩:=zcY hw
 obtain ⟨m1,m2,m3⟩:=Z1 (k:=k) (j:=j) h2 wx kj2
 have S2:=s1.trans s2
 exact zcZ F (s2 _ _ g1) (S2 _ _ h1) (by rw [yx];simp only [List.length_append,List.length_map,List.length_take,List.length_drop,List.length_cons,List.length_nil];omega) fun b H3 s3 g3=>q b (ws.take k ++ [w] ++ ws.drop j) H3 (S2.trans s3) (by rw [g3,yx,List.map_append,List.map_append];rfl) (KR (Z2 h2 kj) m2 m3 nb)
theorem V5 {a l:Addr} {k:Nat} {o3:Option V} {ws:List Str} (h1:H a=some (.lst (ws.map V.str))) (h2:LnW ws) (h3:dr3 H l) (q:∀ b zs H',Same H H'→H' b=some (.lst (zs.map V.str))→vb zs→Q (.ref b) H') :
  xX K t { nx:=fun _ H'=>Q .non H',rt:=Q } [some (.ref a),some (.ref l),some (.int k),o3] H:=by
 simp only [xX,w4,zP,L2.start,zC,tOp,zg,tC,z8,zd,zm,tSl,zF,zu,zB,zP,zG,yl,List.map,List.replicate,List.length,List.append,jqa,jqb,jqc,jqd,jqe,jqf,jqg,jqh,jqi,jqj,jqk,jql,jqm,jqn,and_true,true_and,and_assoc,jqo,jqp,jqq,jqr,jqs,jqt,if_true,ite_true,jqu,ite_false,if_false]
 exact Wf (F:=fun b H'=>Q (.ref b) H') h1 h2 h3 (Nat.le_refl _) (by omega) q
theorem V6 {a l:Addr} {k:Nat} {o3:Option V} {ws:List Str} (h1:H a=some (.lst (ws.map V.str))) (h2:LnW ws) (h3:dr3 H l) (q:∀ b zs H',Same H H'→H' b=some (.lst (zs.map V.str))→vb zs→Q (.ref b) H') :
  xY K t { nx:=fun _ H'=>Q .non H',rt:=Q } [some (.ref a),some (.ref l),some (.int k),o3] H:=by
 simp only [xY,zP,L2.start,zv,zC,zy,tOp,zg,tC,z8,zd,zm,zL,xq,zw,tCB,tSl,zF,zu,zB,xM,zP,zG,rEq,rI,rI0,yl,yT,yo,List.map,List.replicate,List.length,List.append,jqa,jqb,jqc,jqd,jqe,jqf,jqg,jqh,jqi,jqj,jqk,jql,jqm,jqn,and_true,true_and,and_assoc,jqo,jqp,jqq,jqr,jqs,jqt,if_true,ite_true,jqu,ite_false,if_false]
 obtain ⟨x,y,z,hx,_⟩:=id h3
 refine ⟨_,SqL.of hx,_,zS (n:=1) rfl,_,rfl,by decide,ym (fun e=>⟨_,.inl ⟨_,SqL.of h1,rfl⟩,ym (fun e=>?_) fun e=>V5 h1 h2 h3 q⟩) fun e=>V5 h1 h2 h3 q⟩
 simp only [vX,w4,zP,L2.start,zv,zC,zy,tOp,zg,tC,z8,zd,zm,zL,xq,zw,tCB,tSl,zF,zu,zB,xM,zP,zG,rEq,rI,rI0,yl,yT,yo,List.map,List.replicate,List.length,List.append,jqa,jqb,jqc,jqd,jqe,jqf,jqg,jqh,jqi,jqj,jqk,jql,jqm,jqn,and_true,true_and,and_assoc,jqo,jqp,jqq,jqr,jqs,jqt,if_true,ite_true,jqu,ite_false,if_false]
 rw [show ((k:Int) + 1)=((k + 1:Nat):Int) by omega]
 exact Wf (F:=fun b H'=>Q (.ref b) H') h1 h2 h3 (Nat.le_succ _) (by omega) q
theorem Zz {a l:Addr} {ws:List Str} (h1:H a=some (.lst (ws.map V.str))) (h2:LnW ws) (h3:dr3 H l) (q:∀ b zs H',Same H H'→H' b=some (.lst (zs.map V.str))→vb zs→Q (.ref b) H') :
  vn K t { nx:=fun _ H'=>Q .non H',rt:=Q } (L2.start ["words","xs","at","both"] [.ref a,.ref l]) H:=by
 simp only [vn,zP,zR,L2.start,zv,zE,zo,zC,zy,tOp,zg,tC,z8,zd,zm,zL,xq,tOr,zw,tCB,tBM,tyV,tSl,zF,zu,zB,xM,zP,zG,rEq,rI,rI0,yl,yn,yT,yo,List.map,List.replicate,List.length,List.append,jqa,jqb,jqc,jqd,jqe,jqf,jqg,jqh,jqi,jqj,jqk,jql,jqm,jqn,and_true,true_and,and_assoc,jqo,jqp,jqq,jqr,jqs,jqt,if_true,ite_true,jqu,ite_false,if_false]
 obtain ⟨l1,l2,l3⟩:=yY h2
 obtain ⟨x,y,z,hx,_⟩:=id h3
 refine ⟨_,SqL.of hx,_,zS (n:=0) rfl,_,.inl ⟨_,SqL.of h1,rfl⟩,_,rfl,by omega,?_⟩
 rw [List.length_map]
 have g1:=Int.emod_nonneg x (b:=(ws.length:Int) + 1) (by omega)
 obtain ⟨k,ek⟩:∃ k:Nat,x % ((ws.length:Int) + 1)=(k:Int):=⟨(x % ((ws.length:Int) + 1)).toNat,by omega⟩
 rw [ek]
 have w2:=List.getElem?_eq_getElem (l:=ws) (i:=2) (by omega)
 have R2:∀ {o3:Option V},xZ K t { nx:=fun _ H'=>Q .non H',rt:=Q } [some (.ref a),some (.ref l),some (.int k),o3] H:=fun {o3}=>by
  simp only [xZ,zP,zR,L2.start,zv,zE,zo,zC,zy,tOp,zg,tC,z8,zd,zm,zL,xq,tOr,zw,tCB,tBM,tyV,tSl,zF,zu,zB,xM,zP,zG,rEq,rI,rI0,yl,yn,yT,yo,List.map,List.replicate,List.length,List.append,jqa,jqb,jqc,jqd,jqe,jqf,jqg,jqh,jqi,jqj,jqk,jql,jqm,jqn,and_true,true_and,and_assoc,jqo,jqp,jqq,jqr,jqs,jqt,if_true,ite_true,jqu,ite_false,if_false]
  refine ⟨_,SqL.of hx,_,zS (n:=1) rfl,_,rfl,by decide,ym (fun e=>⟨_,.inl ⟨_,SqL.of h1,rfl⟩,ym (fun e=>?_) fun e=>V6 h1 h2 h3 q⟩) fun e=>V6 h1 h2 h3 q⟩
  rw [List.length_map] at e
  exact zbM h1 h2 h3 (by omega) q
 simp only [vY,zP,zR,L2.start,zv,zE,zo,zC,zy,tOp,zg,tC,z8,zd,zm,zL,xq,tOr,zw,tCB,tBM,tyV,tSl,zF,zu,zB,xM,zP,zG,rEq,rI,rI0,yl,yn,yT,yo,List.map,List.replicate,List.length,List.append,jqa,jqb,jqc,jqd,jqe,jqf,jqg,jqh,jqi,jqj,jqk,jql,jqm,jqn,and_true,true_and,and_assoc,jqo,jqp,jqq,jqr,jqs,jqt,if_true,ite_true,jqu,ite_false,if_false]
 refine ⟨_,SqL.of hx,_,zS (n:=1) rfl,_,rfl,by decide,ym (fun e=>?_) fun e=>R2⟩
 refine ⟨_,SqL.of h1,_,zS (n:=2) (by rw [List.getElem?_map,w2];rfl),rfl,ym (fun e=>V4 h1 h2 q) fun e=>⟨_,SqL.of hx,_,zS (n:=2) rfl,_,rfl,by decide,ym (fun e2=>V4 h1 h2 q) fun e2=>zbL h1 h2 h3 (fun z=>e ?_) q⟩⟩
 rw [w2] at z
 injection z with z
 rw [z]
theorem KU {α:Type} (f:α→V) (xs:List α) {lo hi:Nat} (h:hi≤xs.length) (h2:lo≤hi):yM (xs.map f) (some (lo:Int)) (some (hi:Int))=((xs.drop lo).take (hi - lo)).map f:=by
 unfold yM
 have e1:HT.sIx (xs.map f).length 0 (some (lo:Int))=lo:=by
  show (if (lo:Int) < 0 then ((lo:Int) + ((xs.map f).length:Int)).toNat else min (lo:Int).toNat (xs.map f).length)=lo
  rw [if_neg (by omega),Int.toNat_natCast,List.length_map];omega
 have e2:HT.sIx (xs.map f).length (xs.map f).length (some (hi:Int))=hi:=by
  show (if (hi:Int) < 0 then ((hi:Int) + ((xs.map f).length:Int)).toNat else min (hi:Int).toNat (xs.map f).length)=hi
  rw [if_neg (by omega),Int.toNat_natCast,List.length_map];omega
 rw [e1,e2,← List.map_drop,← List.map_take]
theorem zc1 {α:Type} (f:α→V) (xs:List α) (h:3≤xs.length):yM (xs.map f) (some (-3)) (some (-1))=((xs.drop (xs.length - 3)).take 2).map f:=by
 unfold yM
 have e1:HT.sIx (xs.map f).length 0 (some (-3))=xs.length - 3:=by
  show (if (-3:Int) < 0 then ((-3:Int) + ((xs.map f).length:Int)).toNat else min (-3:Int).toNat (xs.map f).length)=xs.length - 3
  rw [if_pos (by decide),List.length_map];omega
 have e2:HT.sIx (xs.map f).length (xs.map f).length (some (-1))=xs.length - 1:=by
  show (if (-1:Int) < 0 then ((-1:Int) + ((xs.map f).length:Int)).toNat else min (-1:Int).toNat (xs.map f).length)=xs.length - 1
  rw [if_pos (by decide),List.length_map];omega
 rw [e1,e2,← List.map_drop,← List.map_take,show xs.length - 1 - (xs.length - 3)=2 by omega]
theorem Z3 {ws:List Str} (h:LnW ws):∃ (a:List Str) (gs:List Row),ws=a ++ Str.ofString ";" :: wsR gs∧Str.ofString ";" ∉ a∧(∀ w∈a,Wd w)∧(2≤a.length∧a.length≤11)∧Yy gs∧(∃ (x:Str) (r:Int) (c:List Str),a=x :: zH r :: c)∧(ws[2]?=some (Str.ofString "off")→gs=[]):=by
 have wd:=(yY h).2.2
 rcases kP h with ⟨r,sa,gs,rfl,hr,ho,hg⟩ | ⟨r,w,rfl,hr,hw⟩ | ⟨r,gs,rfl,hr,hg,hz⟩
 ·refine ⟨_,gs,rfl,KS ho,fun w hw=>wd w (List.mem_append_left _ hw),⟨?_,?_⟩,hg,⟨_,r,_,rfl⟩,fun z=>?_⟩
  ·simp only [List.length_cons];omega
  ·have:=ho.1;simp only [List.length_cons,List.length_map];omega
  ·exact absurd z (by show some (Str.ofString "done")≠some (Str.ofString "off");decide +kernel)
 ·exact ⟨_,[],rfl,YU hw,fun w hw=>wd w (List.mem_append_left _ hw),⟨by simp,by simp⟩,⟨.nil,by decide,fun _ z=>nomatch z⟩,⟨_,r,_,rfl⟩,fun _=>rfl⟩
 ·exact ⟨_,gs,rfl,Zl,fun w hw=>wd w (List.mem_append_left _ hw),⟨by simp,by simp⟩,hg,⟨_,r,_,rfl⟩,fun z=>absurd z (by show some (Str.ofString ";")≠some (Str.ofString "off");decide +kernel)⟩
theorem kQ {a:List Str} {gs:List Row} (wa:∀ w∈a,Wd w) (la:a.length≤11) (ok:∀ r∈gs,Zh r.1∧wB r.2) (lg:gs.length≤11) (n:¬ lnP (a ++ Str.ofString ";" :: wsR gs)):vb (a ++ Str.ofString ";" :: wsR gs):=by
 refine ⟨by simp,by simp [xx];omega,fun w hw=>?_,n⟩
 rcases List.mem_append.mp hw with m | m
 ·exact (wa w m).x
 ·rcases List.mem_cons.mp m with rfl | m
  ·exact (wb (by decide +kernel) (by decide +kernel)).x
  ·exact (WJ ok w m).x
theorem Zo {a:List Str} {gs:List Row} (na:Str.ofString ";" ∉ a) (ok:∀ r∈gs,Zh r.1∧wB r.2) (h:lnP (a ++ Str.ofString ";" :: wsR gs)):vJ gs∧(∃ w,a[1]?=some w∧rkP w)∧(a[0]?=some (Str.ofString "mark")→∀ r∈gs,r.2≠0)∧(a[2]?=some (Str.ofString "off")→gs=[]):=by
 obtain ⟨⟨_,up⟩,z⟩:=(j9 na).mp h
 rw [(Z0 ok).1] at up z
 rcases z with ⟨z,oc,nn,rk⟩ | ⟨z,l,nz,rk⟩
 ·exact ⟨up,rk,fun e=>(by rw [z] at e;exact absurd e (by show some (Str.ofString "deal")≠some (Str.ofString "mark");decide +kernel)),nn⟩
 ·exact ⟨up,rk,fun _=>nz,fun e=>by rw [List.getElem?_eq_none (by omega)] at e;cases e⟩
theorem WX {l1 l2:List Row} {p q:Row} (h:vJ (l1 ++ p :: q :: l2)):ya p.1 q.1=true:=by
 have h2:=(List.pairwise_append.mp h).2.1
 exact (List.pairwise_cons.mp h2).1 q List.mem_cons_self
theorem k8 (l1 l2:List Row):wsR (l1 ++ l2)=wsR l1 ++ wsR l2:=List.flatMap_append
theorem zbN {α:Type} {p s:List α} {n:Nat} (h:n=p.length):(p ++ s).drop n=s:=by rw [h];exact List.drop_left
theorem YV {gs:List Row} {j:Nat} (h:j < gs.length):∃ l1 p l2,gs=l1 ++ p :: l2∧l1.length=j:=⟨gs.take j,gs[j],gs.drop (j + 1),by rw [← List.drop_eq_getElem_cons h,List.take_append_drop],by rw [List.length_take];omega⟩
theorem KW {sa:List Int} (h:∀ i∈sa,wB i):¬ ocP (sa.map zH):=fun z=>by
 rcases z with ⟨r,e,_⟩ | ⟨w,_,e⟩
 ·cases sa with
  | nil=>cases e
  | cons i sa=>injection e with e;exact kO (h i List.mem_cons_self) (by decide +kernel) e
 ·cases sa with
  | nil=>cases e
  | cons i sa=>injection e with e;exact kO (h i List.mem_cons_self) (by decide +kernel) e
theorem JU {w:Str} (h:w≠Str.ofString "done"):¬ ocP [w]:=fun z=>by
 rcases z with ⟨r,e,_⟩ | ⟨x,_,e⟩
 ·injection e with e;exact h e
 ·injection e with _ e;cases e
theorem zee {w:Str} (h:w∈whyL):w≠Str.ofString "done"∧w≠Str.ofString ";":=by
 unfold whyL at h
 simp only [List.mem_cons,List.not_mem_nil,or_false] at h
 rcases h with rfl | rfl | rfl <;> exact ⟨by decide +kernel,by decide +kernel⟩
theorem zef {x:Str} {a b:List Str} (h1:x≠Str.ofString "deal") (h2:x≠Str.ofString "mark") (na:Str.ofString ";" ∉ x :: a):¬ lnP ((x :: a) ++ Str.ofString ";" :: b):=fun h=>by
 rcases ((j9 na).mp h).2 with ⟨z,_⟩ | ⟨z,_⟩ <;> (injection z with z)
 ·exact h1 z
 ·exact h2 z
theorem zbO {a b:List Str} (n:¬ ocP (a.drop 1)) (na:Str.ofString ";" ∉ Str.ofString "deal" :: a):¬ lnP ((Str.ofString "deal" :: a) ++ Str.ofString ";" :: b):=fun h=>by
 rcases ((j9 na).mp h).2 with ⟨_,z,_⟩ | ⟨z,_⟩
 ·exact n z
 ·exact absurd z (by show some (Str.ofString "deal")≠some (Str.ofString "mark");decide +kernel)
theorem YW {a b:List Str} {k:Nat} (h:k < a.length):(a ++ b).take k ++ (a ++ b).drop (k + 1)=(a.take k ++ a.drop (k + 1)) ++ b:=by
 rw [List.take_append_of_le_length (by omega),List.drop_append_of_le_length (by omega),List.append_assoc]
theorem QP {ws:List Str} {k:Nat} (h:LnW ws) (hk:k < ws.length) (nd:ws[2]?=some (Str.ofString "done")→2 < k→¬ k < ws.idxOf (Str.ofString ";")):¬ lnP (ws.take k ++ ws.drop (k + 1)):=by
 -- behind the head
 have beh:∀ {a:List Str} {gs:List Row},Str.ofString ";" ∉ a→Yy gs→a.length≤k→k < (a ++ Str.ofString ";" :: wsR gs).length→¬ lnP ((a ++ Str.ofString ";" :: wsR gs).take k ++ (a ++ Str.ofString ";" :: wsR gs).drop (k + 1)):=fun {a gs} na hg h1 h2 z=>by
  rcases Nat.lt_or_ge a.length k with c | c
  ·obtain ⟨j,rfl⟩:∃ j,k=a.length + 1 + j:=⟨k - a.length - 1,by omega⟩
   have e:(a ++ Str.ofString ";" :: wsR gs).take (a.length + 1 + j) ++ (a ++ Str.ofString ";" :: wsR gs).drop (a.length + 1 + j + 1)=a ++ Str.ofString ";" :: ((wsR gs).take j ++ (wsR gs).drop (j + 1)):=by
    rw [show a ++ Str.ofString ";" :: wsR gs=(a ++ [Str.ofString ";"]) ++ wsR gs by simp]
    have l:(a ++ [Str.ofString ";"]).length=a.length + 1:=by simp
    rw [← l,List.take_length_add_append,show (a ++ [Str.ofString ";"]).length + j + 1=(a ++ [Str.ofString ";"]).length + (j + 1) by omega,List.drop_length_add_append]
    simp
   rw [e] at z
   have tl:=WQ ((j9 na).mp z).1.1
   have lw:=xx gs
   simp only [List.length_append,List.length_cons] at h2
   rw [List.length_append,List.length_take,List.length_drop] at tl
   omega
  ·obtain rfl:k=a.length:=by omega
   rw [List.take_left,show (a ++ Str.ofString ";" :: wsR gs).drop (a.length + 1)=wsR gs by rw [List.drop_append];simp] at z
   have:=Zn z
   rw [List.count_append,List.count_eq_zero_of_not_mem na,List.count_eq_zero_of_not_mem (zbI hg.nm)] at this
   cases this
 rcases kP h with ⟨r,sa,gs,rfl,hr,ho,hg⟩ | ⟨r,w,rfl,hr,hw⟩ | ⟨r,gs,rfl,hr,hg,hz⟩
 ·have na:=KS (r:=r) ho
  have nd:=nd rfl
  rw [v5 na] at nd
  rcases Nat.lt_or_ge k (Str.ofString "deal" :: zH r :: Str.ofString "done" :: sa.map zH).length with c | c
  ·rw [YW c]
   have nr:=Xd hr
   simp only [List.mem_cons,not_or] at na
   match k,nd with
   | 0,_=>exact zef (a:=Str.ofString "done" :: sa.map zH) (kO nr (by decide +kernel)) (kO nr (by decide +kernel)) (by simp only [List.mem_cons,not_or];exact na.2)
   | 1,_=>exact zbO (a:=Str.ofString "done" :: sa.map zH) (KW ho.2) (by simp only [List.mem_cons,not_or];exact ⟨na.1,na.2.2⟩)
   | 2,_=>exact zbO (a:=zH r :: sa.map zH) (KW ho.2) (by simp only [List.mem_cons,not_or];exact ⟨na.1,na.2.1,na.2.2.2⟩)
   | k + 3,nd=>exact absurd c (nd (by omega))
  ·exact beh na hg c hk
 ·have na:=YU (r:=r) hw
  rcases Nat.lt_or_ge k [Str.ofString "deal",zH r,Str.ofString "off",w].length with c | c
  ·rw [YW c]
   have nr:=Xd hr
   simp only [List.mem_cons,not_or] at na
   obtain ⟨w1,w2⟩:=zee hw
   match k,c with
   | 0,_=>exact zef (a:=[Str.ofString "off",w]) (kO nr (by decide +kernel)) (kO nr (by decide +kernel)) (by simp only [List.mem_cons,not_or];exact na.2)
   | 1,_=>exact zbO (a:=[Str.ofString "off",w]) (JU w1) (by simp only [List.mem_cons,not_or];exact ⟨na.1,na.2.2⟩)
   | 2,_=>exact zbO (a:=[zH r,w]) (JU w1) (by simp only [List.mem_cons,not_or];exact ⟨na.1,na.2.1,na.2.2.2⟩)
   | 3,_=>exact zbO (a:=[zH r,Str.ofString "off"]) (JU (by decide +kernel)) (by simp only [List.mem_cons,not_or];exact ⟨na.1,na.2.1,na.2.2.1,by simp⟩)
   | k + 4,c=>exact absurd c (by simp)
  ·exact beh (gs:=[]) na ⟨.nil,by decide,fun _ z=>nomatch z⟩ c hk
 ·rcases Nat.lt_or_ge k [Str.ofString "mark",zH r].length with c | c
  ·rw [YW c]
   have nr:=Xd hr
   match k,c with
   | 0,_=>exact zef (a:=[]) (kO nr (by decide +kernel)) (kO nr (by decide +kernel)) (fun z=>jH _ (List.mem_singleton.mp z))
   | 1,_ =>
    intro z
    rcases ((j9 (a:=[Str.ofString "mark"]) (by decide +kernel)).mp z).2 with ⟨z,_⟩ | ⟨_,z,_⟩
    ·exact absurd z (by show some (Str.ofString "mark")≠some (Str.ofString "deal");decide +kernel)
    ·cases z
   | k + 2,c=>exact absurd c (by simp)
  ·exact beh Zl hg c hk
theorem ka {a l:Addr} {k:Nat} {ws:List Str} (h1:H a=some (.lst (ws.map V.str))) (h2:LnW ws) (hk:k < ws.length) (nd:ws[2]?=some (Str.ofString "done")→2 < k→¬ k < ws.idxOf (Str.ofString ";")) (q:∀ b zs H',Same H H'→H' b=some (.lst (zs.map V.str))→vb zs→Q (.ref b) H') :
  vo K t { nx:=fun _ H'=>Q .non H',rt:=Q } [some (.ref a),some (.ref l),some (.int k)] H:=by
 simp only [vo,zP,L2.start,zC,tOp,zg,tC,tSl,zF,zu,zP,rI0,yl,List.map,List.replicate,List.length,List.append,jqa,jqb,jqc,jqd,jqe,jqf,jqg,jqh,jqi,jqj,jqk,jql,jqm,jqn,and_true,true_and,and_assoc,jqo,jqp,jqq,jqr,jqs,jqt,if_true,ite_true,jqu,ite_false,if_false]
 obtain ⟨l1,l2,l3⟩:=yY h2
 refine ⟨_,SqL.of h1,fun p hp=>?_⟩
 rw [vw]
 have s1:=isV (o:=HO.lst ((ws.take k).map V.str)) p hp
 refine ⟨_,SqL.of (s1 _ _ h1),fun p1 hp1=>?_⟩
 rw [show ((k:Int) + 1)=((k + 1:Nat):Int) by omega,yx]
 have s2:=isV (o:=HO.lst ((ws.drop (k + 1)).map V.str)) p1 hp1
 refine ⟨_,s2 _ _ zp,_,zp,zt (by simp only [List.length_map,List.length_take,List.length_drop];omega),fun p2 hp2=>q p2 (ws.take k ++ ws.drop (k + 1)) _ (s1.trans (s2.trans (isV p2 hp2))) (by rw [zp,List.map_append]) ⟨fun z=>?_,by simp only [List.length_append,List.length_take,List.length_drop];omega,fun w hw=>?_,QP h2 hk nd⟩⟩
 ·have:=congrArg List.length z
  simp only [List.length_append,List.length_take,List.length_drop,List.length_nil] at this
  omega
 ·rcases List.mem_append.mp hw with m | m
  ·exact (l3 w (List.mem_of_mem_take m)).x
  ·exact (l3 w (List.mem_of_mem_drop m)).x
theorem YX {a l:Addr} {ws:List Str} (h1:H a=some (.lst (ws.map V.str))) (h2:LnW ws) (h3:dr3 H l) (q:∀ b zs H',Same H H'→H' b=some (.lst (zs.map V.str))→vb zs→Q (.ref b) H') :
  jr K t { nx:=fun _ H'=>Q .non H',rt:=Q } (L2.start ["words","xs","at"] [.ref a,.ref l]) H:=by
 simp only [jr,zP,zR,L2.start,zv,zE,zo,zC,zy,tOp,zg,tC,zd,zm,zL,xq,zw,tCB,tBM,tyV,tSl,zF,zu,xM,zP,zG,rEq,rI,rI0,yl,yT,yo,List.map,List.replicate,List.length,List.append,jqa,jqb,jqc,jqd,jqe,jqf,jqg,jqh,jqi,jqj,jqk,jql,jqm,jqn,and_true,true_and,and_assoc,jqo,jqp,jqq,jqr,jqs,jqt,if_true,ite_true,jqu,ite_false,if_false]
 obtain ⟨l1,l2,l3⟩:=yY h2
 obtain ⟨x,y,z,hx,_⟩:=id h3
 refine ⟨_,SqL.of hx,_,zS (n:=0) rfl,_,.inl ⟨_,SqL.of h1,rfl⟩,_,rfl,by rw [List.length_map];omega,?_⟩
 rw [List.length_map]
 have g1:=Int.emod_nonneg x (b:=(ws.length:Int)) (by omega)
 have g2:=Int.emod_lt_of_pos x (b:=(ws.length:Int)) (by omega)
 obtain ⟨k,ek⟩:∃ k:Nat,x % (ws.length:Int)=(k:Int):=⟨(x % (ws.length:Int)).toNat,by omega⟩
 rw [ek]
 have w2:=List.getElem?_eq_getElem (l:=ws) (i:=2) (by omega)
 have mem:=WW h2
 have li:ws.idxOf (Str.ofString ";") < ws.length:=List.idxOf_lt_length_iff.mpr mem
 simp only [ki,zP,zR,L2.start,zv,zE,zo,zC,zy,tOp,zg,tC,zd,zm,zL,xq,zw,tCB,tBM,tyV,tSl,zF,zu,xM,zP,zG,rEq,rI,rI0,yl,yT,yo,List.map,List.replicate,List.length,List.append,jqa,jqb,jqc,jqd,jqe,jqf,jqg,jqh,jqi,jqj,jqk,jql,jqm,jqn,and_true,true_and,and_assoc,jqo,jqp,jqq,jqr,jqs,jqt,if_true,ite_true,jqu,ite_false,if_false]
 refine ⟨_,SqL.of h1,_,zS (n:=2) (by rw [List.getElem?_map,w2];rfl),rfl,ym (fun e=>ym (fun e2=>⟨.inl ⟨_,SqL.of h1⟩,ws,h1,mem,ym (fun e3=>⟨.inl ⟨_,SqL.of h1⟩,ws,h1,mem,ka h1 h2 li (fun _ _=>Nat.lt_irrefl _) q⟩) fun e3=>ka h1 h2 (by omega) (fun _ _=>by omega) q⟩) fun e2=>ka h1 h2 (by omega) (fun _ z=>by omega) q) fun e=>ka h1 h2 (by omega) (fun z=>absurd ?_ e) q⟩
 rw [w2] at z
 injection z with z
 rw [z]
theorem zbP {ws:List Str} {w:Int} (h:LnW ws) (bw:wB w) (nr:¬ rB w):∃ x,ws[0]?=some x∧vb ([x,zH w] ++ ws.drop 2):=by
 obtain ⟨a,gs,rfl,na,wa,la,hg,⟨x,r,c,rfl⟩,_⟩:=Z3 h
 refine ⟨x,rfl,?_⟩
 show vb ((x :: zH w :: c) ++ Str.ofString ";" :: wsR gs)
 have nb:Str.ofString ";" ∉ x :: zH w :: c:=fun z=>by
  rcases List.mem_cons.mp z with e | z
  ·exact na (e ▸ List.mem_cons_self)
  ·rcases List.mem_cons.mp z with e | z
   ·exact jH _ e
   ·exact na (List.mem_cons_of_mem _ (List.mem_cons_of_mem _ z))
 refine kQ (fun v hv=>?_) la.2 hg.nm (Nat.le_trans hg.le (by decide)) fun z=>?_
 ·rcases List.mem_cons.mp hv with rfl | hv
  ·exact wa _ List.mem_cons_self
  ·rcases List.mem_cons.mp hv with rfl | hv
   ·exact Zx (v3 bw)
   ·exact wa v (List.mem_cons_of_mem _ (List.mem_cons_of_mem _ hv))
 ·obtain ⟨_,⟨v,e,rk⟩,_⟩:=Zo nb hg.nm z
  obtain rfl:zH w=v:=by injection e
  have:=rk.2
  rw [(vR bw).2] at this
  exact nr this
section
variable {D:ko} {a l:Addr} {k b m:Int} {o5 o6:Option V} {ws:List Str}
theorem zc2 (h1:H a=some (.lst (ws.map V.str))) (h2:LnW ws) (h3:dr3 H l) (q:∀ b zs H',Same H H'→H' b=some (.lst (zs.map V.str))→vb zs→D.rt (.ref b) H') :
  wK K t D [some (.ref a),some (.int k),some (.ref l),some (.int b),some (.int m),o5,o6] H:=by
 simp only [wK,zP,L2.start,zC,tOp,tUn,zg,tC,z8,zd,zm,tCB,tSl,zF,zu,zP,zG,rI,rI0,rU,yl,y8,List.map,List.replicate,List.length,List.append,jqa,jqb,jqc,jqd,jqe,jqf,jqg,jqh,jqi,jqj,jqk,jql,jqm,jqn,and_true,true_and,and_assoc,jqo,jqp,jqq,Nat.reduceSub,Nat.reduceAdd,jqr,jqs,jqt,Int.reduceToNat,Int.reducePow,Int.reduceNeg,Int.reduceMul,Int.reduceAdd,if_true,ite_true,jqu,ite_false,if_false]
 obtain ⟨l1,l2,l3⟩:=yY h2
 obtain ⟨x,y,z,hx,_⟩:=id h3
 have w0:=List.getElem?_eq_getElem (l:=ws) (i:=0) (by omega)
 refine ⟨_,SqL.of h1,_,zS (n:=0) (by rw [List.getElem?_map,w0];rfl),jG (by decide) (by decide),by decide +kernel,jG (by decide) (by decide),by decide +kernel,by decide,fun p hp=>?_⟩
 generalize e1:upd H p _=H1
 have s1:=svV e1 hp
 have g1:H1 p=some (.lst ([-1,100000000000000000000000000001,-1000000000000000000000000000000].map fun i=>V.str (zH i))):=e1 ▸ zp
 obtain ⟨v,e5,m5⟩:=qN (xs:=[(-1:Int),100000000000000000000000000001,-1000000000000000000000000000000].map fun i=>V.str (zH i)) x 3 rfl (by decide)
 obtain ⟨w,hw,rfl⟩:=List.mem_map.mp m5
 have bw:wB w∧¬ rB w:=by
  simp only [List.mem_cons,List.not_mem_nil,or_false] at hw
  unfold wB rB
  omega
 obtain ⟨x0,ex,bd⟩:=zbP h2 bw.1 bw.2
 rw [w0] at ex
 injection ex with ex
 refine ⟨_,SqL.of (s1 _ _ hx),_,zS (n:=0) rfl,_,rfl,by decide,_,SqL.of g1,_,e5,by decide,fun p1 hp1=>?_⟩
 obtain ⟨H2,e2,s2,g2⟩:=yS (o:=.lst [V.str ws[0],V.str (zH w)]) hp1
 rw [← e2]
 have S2:=s1.trans s2
 refine ⟨_,SqL.of (S2 _ _ h1),fun p2 hp2=>?_⟩
 rw [show (2:Int)=((2:Nat):Int) from rfl,yx]
 have s3:=isV (o:=HO.lst ((ws.drop 2).map V.str)) p2 hp2
 refine ⟨_,s3 _ _ g2,_,zp,zt (by simp only [List.length_map,List.length_drop,List.length_cons,List.length_nil];omega),fun p3 hp3=>q p3 ([x0,zH w] ++ ws.drop 2) _ (S2.trans (s3.trans (isV p3 hp3))) (by rw [zp,List.map_append,← ex];rfl) bd⟩
theorem zbQ {a:List Str} {gs:List Row} {w:Int} (na:Str.ofString ";" ∉ a) (wa:∀ w∈a,Wd w) (la:a.length≤11) (hg:Yy gs) (ne:0 < gs.length) (bw:wB w):∃ x y,((a ++ Str.ofString ";" :: wsR gs).drop ((a ++ Str.ofString ";" :: wsR gs).length - 3)).take 2=[x,y]∧vb (a ++ Str.ofString ";" :: wsR gs ++ [x,y] ++ [zH w]):=by
 obtain ⟨l1,p,l2,rfl,e⟩:=YV (j:=gs.length - 1) (gs:=gs) (by omega)
 have e2:l2=[]:=by
  simp only [List.length_append,List.length_cons] at e
  exact List.eq_nil_of_length_eq_zero (by omega)
 subst e2
 have ew:a ++ Str.ofString ";" :: wsR (l1 ++ [p])=(a ++ Str.ofString ";" :: wsR l1) ++ rwW p:=by rw [k8];simp [wsR]
 refine ⟨p.1.1,zH p.1.2,?_,?_⟩
 ·rw [ew,zbN (by rw [List.length_append (bs:=rwW p)];simp [rwW])];rfl
 ·have e3:a ++ Str.ofString ";" :: wsR (l1 ++ [p]) ++ [p.1.1,zH p.1.2] ++ [zH w]=a ++ Str.ofString ";" :: wsR (l1 ++ p :: (p.1,w) :: []):=by
   rw [show l1 ++ p :: (p.1,w) :: []=(l1 ++ [p]) ++ [(p.1,w)] by simp,k8]
   simp [wsR,rwW]
  rw [e3]
  have ok:∀ r∈l1 ++ p :: (p.1,w) :: [],Zh r.1∧wB r.2:=fun r hr=>by
   simp only [List.mem_append,List.mem_cons,List.not_mem_nil,or_false] at hr
   rcases hr with hr | rfl | rfl
   ·exact hg.nm r (by simp [hr])
   ·exact hg.nm _ (by simp)
   ·exact ⟨(hg.nm p (by simp)).1,bw⟩
  refine kQ wa la ok (by have:=hg.le;simp at this ⊢;omega) fun z=>?_
  have:=WX (Zo na ok z).1
  rw [vV] at this
  cases this
theorem zc3 (h1:H a=some (.lst (ws.map V.str))) (h2:LnW ws) (h3:dr3 H l) (hm:(ws.idxOf (Str.ofString ";"):Int) + 4≤ws.length) (q:∀ b zs H',Same H H'→H' b=some (.lst (zs.map V.str))→vb zs→D.rt (.ref b) H') :
  wJ K t D [some (.ref a),some (.int k),some (.ref l),some (.int b),some (.int m),o5,o6] H:=by
 simp only [wJ,yj,zP,L2.start,zC,tOp,tUn,zg,tC,z8,zd,zm,tCB,tSl,zF,zB,zP,zG,rU,yl,y8,List.map,List.replicate,List.length,List.append,jqa,jqb,jqc,jqd,jqe,jqf,jqg,jqh,jqi,jqj,jqk,jql,jqm,jqn,and_true,true_and,and_assoc,jqo,jqp,jqq,jqr,jqs,jqt,if_true,ite_true,jqu,ite_false,if_false]
 obtain ⟨l1,l2,l3⟩:=yY h2
 obtain ⟨x,y,z,hx,dx,_⟩:=id h3
 obtain ⟨hd,gs,rfl,na,wa,la,hg,_⟩:=Z3 h2
 have lw:=xx gs
 have ng:0 < gs.length:=by
  rw [v5 na] at hm
  simp only [List.length_append,List.length_cons] at hm
  omega
 refine ⟨_,SqL.of h1,fun p hp=>?_⟩
 rw [zc1 V.str _ l1]
 have s1:=isV (o:=HO.lst ((((hd ++ Str.ofString ";" :: wsR gs).drop ((hd ++ Str.ofString ";" :: wsR gs).length - 3)).take 2).map V.str)) p hp
 refine ⟨_,s1 _ _ h1,_,zp,zt (by simp only [List.length_map,List.length_take];omega),fun p1 hp1=>?_⟩
 have s2:=isV (o:=HO.lst ((hd ++ Str.ofString ";" :: wsR gs).map V.str ++ (((hd ++ Str.ofString ";" :: wsR gs).drop ((hd ++ Str.ofString ";" :: wsR gs).length - 3)).take 2).map V.str)) p1 hp1
 refine ⟨_,SqL.of (s2 _ _ (s1 _ _ hx)),_,zS (n:=0) rfl,_,rfl,dx.cb.w,fun w H2 s3 bw=>⟨wT (v3 bw),by decide,fun p2 hp2=>?_⟩⟩
 have s4:=isV (o:=HO.lst [V.str (zH w)]) p2 hp2
 obtain ⟨u,v,e,bd⟩:=zbQ na wa la.2 hg ng bw
 refine ⟨_,s4 _ _ (s3 _ _ zp),_,zp,zt (by simp only [List.length_append,List.length_map,List.length_take,List.length_cons,List.length_nil] at *;omega),fun p3 hp3=>q p3 _ _ (s1.trans (s2.trans (s3.trans (s4.trans (isV p3 hp3))))) ?_ bd⟩
 simp only [zp,e,List.map_append]
 rfl
theorem zc4 (h1:H a=some (.lst (ws.map V.str))) (h2:LnW ws) (h3:dr3 H l) (hb:b=(ws.idxOf (Str.ofString ";"):Int) + 1) (hm:m=((ws.length:Int) - b) / 3) (m1:1 < m) (q:∀ b zs H',Same H H'→H' b=some (.lst (zs.map V.str))→vb zs→D.rt (.ref b) H') :
  wI K t D [some (.ref a),some (.int k),some (.ref l),some (.int b),some (.int m),o5,o6] H:=by
 simp only [wI,zP,L2.start,zv,zE,zo,zC,tOp,zg,tC,tSl,zF,zu,zP,zG,rI,rI0,yl,List.map,List.replicate,List.length,List.append,jqa,jqb,jqc,jqd,jqe,jqf,jqg,jqh,jqi,jqj,jqk,jql,jqm,jqn,and_true,true_and,and_assoc,jqo,jqp,jqq,jqr,jqs,jqt,if_true,ite_true,jqu,ite_false,if_false]
 obtain ⟨l1,l2,l3⟩:=yY h2
 obtain ⟨x,y,z,hx,dx,_⟩:=id h3
 obtain ⟨hd,gs,rfl,na,wa,la,hg,_⟩:=Z3 h2
 have lw:=xx gs
 have lg:=hg.le
 rw [v5 na] at hb
 have ll:(hd ++ Str.ofString ";" :: wsR gs).length=hd.length + 1 + 3 * gs.length:=by simp [lw];omega
 have mg:m=gs.length:=by omega
 obtain ⟨j,ej,hj⟩:∃ j:Nat,x % (m - 1)=(j:Int)∧j + 1 < gs.length:=by
  have g1:=Int.emod_nonneg x (b:=m - 1) (by omega)
  have g2:=Int.emod_lt_of_pos x (b:=m - 1) (by omega)
  exact ⟨(x % (m - 1)).toNat,by omega,by omega⟩
 have hbig:(1000:Int) < big:=by decide +kernel
 have e0:b + 3 * (j:Int)=((hd.length + 1 + 3 * j:Nat):Int):=by omega
 obtain ⟨r1,p,r2,rfl,e1⟩:=YV (gs:=gs) (j:=j) (by omega)
 obtain ⟨p2,r3,rfl⟩:∃ p2 r3,r2=p2 :: r3:=by
  cases r2 with
  | nil=>simp at hj;omega
  | cons p2 r3=>exact ⟨p2,r3,rfl⟩
 have lr:=xx r1
 obtain ⟨pr,epr⟩:∃ pr,pr=hd ++ Str.ofString ";" :: wsR r1:=⟨_,rfl⟩
 have lpr:pr.length=hd.length + 1 + 3 * j:=by rw [epr];simp [lr];omega
 have ew:hd ++ Str.ofString ";" :: wsR (r1 ++ p :: p2 :: r3)=pr ++ (rwW p ++ (rwW p2 ++ wsR r3)):=by rw [epr,k8];simp [wsR]
 have t1:((hd ++ Str.ofString ";" :: wsR (r1 ++ p :: p2 :: r3)).drop (pr.length + 3)).take (pr.length + 6 - (pr.length + 3))=rwW p2:=by
  rw [ew,List.drop_length_add_append,show pr.length + 6 - (pr.length + 3)=3 by omega];rfl
 have t2:((hd ++ Str.ofString ";" :: wsR (r1 ++ p :: p2 :: r3)).drop pr.length).take (pr.length + 3 - pr.length)=rwW p:=by
  rw [ew,List.drop_left,show pr.length + 3 - pr.length=3 by omega];rfl
 have t3:(hd ++ Str.ofString ";" :: wsR (r1 ++ p :: p2 :: r3)).drop (pr.length + 6)=wsR r3:=by
  rw [ew,List.drop_length_add_append];rfl
 have t4:(hd ++ Str.ofString ";" :: wsR (r1 ++ p :: p2 :: r3)).take pr.length=pr:=by rw [ew,List.take_left]
 have le6:pr.length + 6≤(hd ++ Str.ofString ";" :: wsR (r1 ++ p :: p2 :: r3)).length:=by rw [ll,lpr];simp only [List.length_append,List.length_cons];omega
 refine ⟨_,SqL.of hx,_,zS (n:=0) rfl,_,rfl,by omega,?_⟩
 rw [ej,e0,show ((hd.length + 1 + 3 * j:Nat):Int) + 3=((hd.length + 1 + 3 * j + 3:Nat):Int) by omega,show ((hd.length + 1 + 3 * j:Nat):Int) + 6=((hd.length + 1 + 3 * j + 6:Nat):Int) by omega,← lpr]
 have l3p:∀ r:Row,(rwW r).length=3:=fun _=>rfl
 refine ⟨⟨⟨by omega,by omega⟩,by omega,by omega⟩,_,SqL.of h1,fun q1 hq1=>?_⟩
 rw [KU V.str _ le6 (by omega),t1]
 have s1:=isV (o:=HO.lst ((rwW p2).map V.str)) q1 hq1
 refine ⟨_,SqL.of (s1 _ _ h1),fun q2 hq2=>?_⟩
 rw [KU V.str _ (by omega) (by omega),t2]
 have s2:=isV (o:=HO.lst ((rwW p).map V.str)) q2 hq2
 refine ⟨_,s2 _ _ zp,_,zp,zt (by rw [List.length_map,List.length_map,l3p,l3p];decide),fun q3 hq3=>?_⟩
 have s3:=isV (o:=HO.lst ((rwW p2).map V.str ++ (rwW p).map V.str)) q3 hq3
 have S3:=s1.trans (s2.trans s3)
 refine ⟨_,SqL.of (S3 _ _ h1),fun q4 hq4=>?_⟩
 rw [vw,t4]
 have s4:=isV (o:=HO.lst (pr.map V.str)) q4 hq4
 refine ⟨_,zp,_,s4 _ _ zp,zt (by rw [List.length_append,List.length_map,List.length_map,List.length_map,l3p,l3p];omega),fun q5 hq5=>?_⟩
 have s5:=isV (o:=HO.lst (pr.map V.str ++ ((rwW p2).map V.str ++ (rwW p).map V.str))) q5 hq5
 have S5:=S3.trans (s4.trans s5)
 refine ⟨_,SqL.of (S5 _ _ h1),fun q6 hq6=>?_⟩
 rw [yx,t3]
 have s6:=isV (o:=HO.lst ((wsR r3).map V.str)) q6 hq6
 have l3r:=xx r3
 simp only [List.length_append,List.length_cons] at lg
 refine ⟨_,s6 _ _ zp,_,zp,zt (by simp only [List.length_append,List.length_map,l3p];omega),fun q7 hq7=>q q7 (hd ++ Str.ofString ";" :: wsR (r1 ++ p2 :: p :: r3)) _ (S5.trans (s6.trans (isV q7 hq7))) ?_ ?_⟩
 ·rw [zp,show hd ++ Str.ofString ";" :: wsR (r1 ++ p2 :: p :: r3)=pr ++ (rwW p2 ++ rwW p) ++ wsR r3 by rw [epr,k8];simp [wsR]]
  simp only [List.map_append]
 ·have ok:∀ r∈r1 ++ p2 :: p :: r3,Zh r.1∧wB r.2:=fun r hr=>hg.nm r (by
   simp only [List.mem_append,List.mem_cons] at hr ⊢
   rcases hr with hr | rfl | rfl | hr
   ·exact .inl hr
   ·exact .inr (.inr (.inl rfl))
   ·exact .inr (.inl rfl)
   ·exact .inr (.inr (.inr hr)))
  refine kQ wa la.2 ok (by simp only [List.length_append,List.length_cons];omega) fun z=>?_
  have u1:=WX (Zo na ok z).1
  have u2:=WX hg.up
  have:=qe u1 u2
  rw [vV] at this
  cases this
theorem zc5 (h1:H a=some (.lst (ws.map V.str))) (h2:LnW ws) (h3:dr3 H l) (hb:b=(ws.idxOf (Str.ofString ";"):Int) + 1) (hm:m=((ws.length:Int) - b) / 3) (m1:0 < m) (mk:ws[0]?=some (Str.ofString "mark")) (q:∀ b zs H',Same H H'→H' b=some (.lst (zs.map V.str))→vb zs→D.rt (.ref b) H') :
  wH K t D [some (.ref a),some (.int k),some (.ref l),some (.int b),some (.int m),o5,o6] H:=by
 simp only [wH,zP,L2.start,zv,zE,zo,zC,tOp,zg,tC,z8,zd,zm,tSl,zF,zu,zP,zG,rI,rI0,yl,List.map,List.replicate,List.length,List.append,jqa,jqb,jqc,jqd,jqe,jqf,jqg,jqh,jqi,jqj,jqk,jql,jqm,jqn,and_true,true_and,and_assoc,jqo,jqp,jqq,jqr,jqs,jqt,if_true,ite_true,jqu,ite_false,if_false]
 obtain ⟨l1,l2,l3⟩:=yY h2
 obtain ⟨x,y,z,hx,dx,_⟩:=id h3
 obtain ⟨hd,gs,rfl,na,wa,la,hg,_⟩:=Z3 h2
 have lw:=xx gs
 have lg:=hg.le
 rw [v5 na] at hb
 have ll:(hd ++ Str.ofString ";" :: wsR gs).length=hd.length + 1 + 3 * gs.length:=by simp [lw];omega
 have mg:m=gs.length:=by omega
 obtain ⟨j,ej,hj⟩:∃ j:Nat,x % m=(j:Int)∧j < gs.length:=by
  have g1:=Int.emod_nonneg x (b:=m) (by omega)
  have g2:=Int.emod_lt_of_pos x (b:=m) (by omega)
  exact ⟨(x % m).toNat,by omega,by omega⟩
 have hbig:(1000:Int) < big:=by decide +kernel
 obtain ⟨r1,p,r2,rfl,e1⟩:=YV hj
 have lr:=xx r1
 obtain ⟨pr,epr⟩:∃ pr,pr=hd ++ Str.ofString ";" :: (wsR r1 ++ [p.1.1,zH p.1.2]):=⟨_,rfl⟩
 have lpr:pr.length=hd.length + 1 + 3 * j + 2:=by rw [epr];simp [lr];omega
 have ew:hd ++ Str.ofString ";" :: wsR (r1 ++ p :: r2)=pr ++ ([zH p.2] ++ wsR r2):=by rw [epr,k8];simp [wsR,rwW]
 have t3:(hd ++ Str.ofString ";" :: wsR (r1 ++ p :: r2)).drop (pr.length + 1)=wsR r2:=by rw [ew,List.drop_length_add_append];rfl
 have t4:(hd ++ Str.ofString ";" :: wsR (r1 ++ p :: r2)).take pr.length=pr:=by rw [ew,List.take_left]
 refine ⟨_,SqL.of hx,_,zS (n:=0) rfl,_,rfl,by omega,?_⟩
 rw [ej,show b + 3 * (j:Int) + 2=((pr.length:Nat):Int) by omega,show ((pr.length:Nat):Int) + 1=((pr.length + 1:Nat):Int) by omega]
 refine ⟨⟨⟨by omega,by omega⟩,by omega,by omega⟩,_,SqL.of h1,fun q1 hq1=>⟨by decide,?_⟩⟩
 obtain ⟨H1,e2,s1,g1⟩:=yS (o:=.lst (yM ((hd ++ Str.ofString ";" :: wsR (r1 ++ p :: r2)).map V.str) none (some (pr.length:Nat)))) hq1
 rw [← e2]
 rw [vw,t4] at g1
 have l3r:=xx r2
 simp only [List.length_append,List.length_cons] at lg
 refine zcZ (fun b H'=>D.rt (.ref b) H') g1 (s1 _ _ h1) (by rw [yx,t3];simp only [List.length_map,List.length_cons,List.length_nil];omega) fun b H2 s2 g2=>q b (hd ++ Str.ofString ";" :: wsR (r1 ++ (p.1,0) :: r2)) H2 (s1.trans s2) ?_ ?_
 ·rw [g2,yx,t3,show hd ++ Str.ofString ";" :: wsR (r1 ++ (p.1,0) :: r2)=pr ++ [zH 0] ++ wsR r2 by rw [epr,k8];simp [wsR,rwW],List.map_append,List.map_append,show zH 0=Str.ofString "0" by decide +kernel]
  rfl
 ·have ok:∀ r∈r1 ++ (p.1,0) :: r2,Zh r.1∧wB r.2:=fun r hr=>by
   rcases List.mem_append.mp hr with hr | hr
   ·exact hg.nm r (List.mem_append_left _ hr)
   ·rcases List.mem_cons.mp hr with rfl | hr
    ·exact ⟨(hg.nm p (by simp)).1,show wB 0 from ⟨by decide,by decide⟩⟩
    ·exact hg.nm r (by simp [hr])
  refine kQ wa la.2 ok (by simp only [List.length_append,List.length_cons];omega) fun z=>?_
  refine (Zo na ok z).2.2.1 ?_ (p.1,0) (by simp) rfl
  rw [List.getElem?_append_left (by omega)] at mk
  exact mk
theorem zc6 (h1:H a=some (.lst (ws.map V.str))) (h2:LnW ws) (h3:dr3 H l) (hof:ws[2]?=some (Str.ofString "off")) (q:∀ b zs H',Same H H'→H' b=some (.lst (zs.map V.str))→vb zs→D.rt (.ref b) H') :
  wG K t D [some (.ref a),some (.int k),some (.ref l),some (.int b),some (.int m),o5,o6] H:=by
 simp only [wG,xT,yj,zP,L2.start,zC,tOp,zg,tC,z8,zd,zm,tCB,zB,zP,zG,y8,List.map,List.replicate,List.length,List.append,jqa,jqb,jqc,jqd,jqe,jqf,jqg,jqh,jqi,jqj,jqk,jql,jqm,jqn,and_true,true_and,and_assoc,jqo,jqp,jqq,jqr,jqs,jqt,if_true,ite_true,jqu,ite_false,if_false]
 obtain ⟨l1,l2,l3⟩:=yY h2
 obtain ⟨x,y,z,hx,dx,dy,dz⟩:=id h3
 have of2:∃ r w,ws=[Str.ofString "deal",zH r,Str.ofString "off",w] ++ Str.ofString ";" :: []∧rB r∧w∈whyL:=by
  rcases kP h2 with ⟨r,sa,gs,rfl,_⟩ | z | ⟨r,gs,rfl,_⟩
  ·exact absurd hof (by show some (Str.ofString "done")≠some (Str.ofString "off");decide +kernel)
  ·exact z
  ·exact absurd hof (by show some (Str.ofString ";")≠some (Str.ofString "off");decide +kernel)
 obtain ⟨r,w,rfl,hr,hw⟩:=of2
 refine ⟨_,SqL.of hx,_,zS (n:=0) rfl,_,rfl,fun n H1 s1 nn=>⟨_,SqL.of (s1 _ _ hx),_,zS (n:=1) rfl,_,rfl,dy.cb.w,fun i H2 s2 bi=>⟨wT (v3 bi),_,SqL.of (s2 _ _ (s1 _ _ hx)),_,zS (n:=2) rfl,_,rfl,dz.cb.w,fun u H3 s3 bu=>⟨wT (v3 bu),by decide,fun p hp=>?_⟩⟩⟩⟩
 have S3:=s1.trans (s2.trans s3)
 have s4:=isV (o:=HO.lst ((rwW ((n,i),u)).map V.str)) p hp
 refine ⟨_,s4 _ _ (S3 _ _ h1),(rwW ((n,i),u)).map V.str,zp,zt (by simp [rwW]),fun p1 hp1=>q p1 ([Str.ofString "deal",zH r,Str.ofString "off",w] ++ Str.ofString ";" :: wsR [((n,i),u)]) _ (S3.trans (s4.trans (isV p1 hp1))) (by rw [zp];rfl) ?_⟩
 have ok:∀ r∈[(((n,i),u):Row)],Zh r.1∧wB r.2:=fun r hr=>by rw [List.mem_singleton.mp hr];exact ⟨⟨nn,bi⟩,bu⟩
 exact kQ (fun v hv=>l3 v (List.mem_append_left _ hv)) (by simp) ok (by simp) fun z=>by cases (Zo (YU hw) ok z).2.2.2 rfl
end
theorem ZR {a l:Addr} {k:Int} {ws:List Str} (h1:H a=some (.lst (ws.map V.str))) (h2:LnW ws) (h3:dr3 H l) (q:∀ b zs H',Same H H'→H' b=some (.lst (zs.map V.str))→vb zs→Q (.ref b) H') :
  vQ K t { nx:=fun _ H'=>Q .non H',rt:=Q } (L2.start ["words","kind","xs","behind","many","at","turned"] [.ref a,.int k,.ref l]) H:=by
 simp only [vQ,zP,zR,L2.start,zv,zE,zo,zC,zy,tOp,tUn,zg,tC,z8,zd,zm,zL,xq,zw,tCB,tBM,tyV,tSl,zF,zu,zB,xM,zP,zG,rEq,rI,rI0,rU,yl,yT,y8,yo,List.map,List.replicate,List.length,List.append,jqa,jqb,jqc,jqd,jqe,jqf,jqg,jqh,jqi,jqj,jqk,jql,jqm,jqn,and_true,true_and,and_assoc,jqo,jqp,jqq,jqr,jqs,jqt,if_true,ite_true,jqu,ite_false,if_false]
 obtain ⟨l1,l2,l3⟩:=yY h2
 have mem:=WW h2
 refine ⟨.inl ⟨_,SqL.of h1⟩,ws,h1,mem,_,.inl ⟨_,SqL.of h1,rfl⟩,dB,?_⟩
 rw [List.length_map]
 have w0:=List.getElem?_eq_getElem (l:=ws) (i:=0) (by omega)
 have w2:=List.getElem?_eq_getElem (l:=ws) (i:=2) (by omega)
 have mm:∀ {i:Nat} {w:Str},ws[i]?=some w→(ws.map V.str)[i]?=some (V.str w):=fun h=>by rw [List.getElem?_map,h];rfl
 generalize hb:(ws.idxOf (Str.ofString ";"):Int) + 1=b
 generalize hm:((ws.length:Int) - b) / 3=m
 have R8:wL K t { nx:=fun _ H'=>Q .non H',rt:=Q } [some (.ref a),some (.int k),some (.ref l),some (.int b),some (.int m),none,none] H:=by
  simp only [wL,vc,zP,zR,L2.start,zv,zE,zo,zC,zy,tOp,tUn,zg,tC,z8,zd,zm,zL,xq,zw,tCB,tBM,tyV,tSl,zF,zu,zB,xM,zP,zG,rEq,rI,rI0,rU,yl,yT,y8,yo,List.map,List.replicate,List.length,List.append,jqa,jqb,jqc,jqd,jqe,jqf,jqg,jqh,jqi,jqj,jqk,jql,jqm,jqn,and_true,true_and,and_assoc,jqo,jqp,jqq,jqr,jqs,jqt,if_true,ite_true,jqu,ite_false,if_false]
  exact ⟨ws,h1,h2,h3,q⟩
 have R7:wM K t { nx:=fun _ H'=>Q .non H',rt:=Q } [some (.ref a),some (.int k),some (.ref l),some (.int b),some (.int m),none,none] H:=by
  simp only [wM,zP,zR,L2.start,zv,zE,zo,zC,zy,tOp,tUn,zg,tC,z8,zd,zm,zL,xq,zw,tCB,tBM,tyV,tSl,zF,zu,zB,xM,zP,zG,rEq,rI,rI0,rU,yl,yT,y8,yo,List.map,List.replicate,List.length,List.append,jqa,jqb,jqc,jqd,jqe,jqf,jqg,jqh,jqi,jqj,jqk,jql,jqm,jqn,and_true,true_and,and_assoc,jqo,jqp,jqq,jqr,jqs,jqt,if_true,ite_true,jqu,ite_false,if_false]
  refine ym (fun _=>⟨_,SqL.of h1,_,zS (n:=2) (mm w2),rfl,ym (fun e=>zc6 h1 h2 h3 (by injection e with e;rw [w2,e]) q) fun _=>R8⟩) fun _=>R8
 have R6:wN K t { nx:=fun _ H'=>Q .non H',rt:=Q } [some (.ref a),some (.int k),some (.ref l),some (.int b),some (.int m),none,none] H:=by
  simp only [wN,zP,zR,L2.start,zv,zE,zo,zC,zy,tOp,tUn,zg,tC,z8,zd,zm,zL,xq,zw,tCB,tBM,tyV,tSl,zF,zu,zB,xM,zP,zG,rEq,rI,rI0,rU,yl,yT,y8,yo,List.map,List.replicate,List.length,List.append,jqa,jqb,jqc,jqd,jqe,jqf,jqg,jqh,jqi,jqj,jqk,jql,jqm,jqn,and_true,true_and,and_assoc,jqo,jqp,jqq,jqr,jqs,jqt,if_true,ite_true,jqu,ite_false,if_false]
  refine ym (fun _=>⟨_,SqL.of h1,_,zS (n:=0) (mm w0),rfl,ym (fun e=>ym (fun e2=>zc5 h1 h2 h3 hb.symm hm.symm e2 (by injection e with e;rw [w0,e]) q) fun _=>R7) fun _=>R7⟩) fun _=>R7
 have R5:wO K t { nx:=fun _ H'=>Q .non H',rt:=Q } [some (.ref a),some (.int k),some (.ref l),some (.int b),some (.int m),none,none] H:=by
  simp only [wO,zP,zR,L2.start,zv,zE,zo,zC,zy,tOp,tUn,zg,tC,z8,zd,zm,zL,xq,zw,tCB,tBM,tyV,tSl,zF,zu,zB,xM,zP,zG,rEq,rI,rI0,rU,yl,yT,y8,yo,List.map,List.replicate,List.length,List.append,jqa,jqb,jqc,jqd,jqe,jqf,jqg,jqh,jqi,jqj,jqk,jql,jqm,jqn,and_true,true_and,and_assoc,jqo,jqp,jqq,jqr,jqs,jqt,if_true,ite_true,jqu,ite_false,if_false]
  exact ym (fun _=>ym (fun e=>zc4 h1 h2 h3 hb.symm hm.symm e q) fun _=>R6) fun _=>R6
 have R4:wP K t { nx:=fun _ H'=>Q .non H',rt:=Q } [some (.ref a),some (.int k),some (.ref l),some (.int b),some (.int m),none,none] H:=by
  simp only [wP,zP,zR,L2.start,zv,zE,zo,zC,zy,tOp,tUn,zg,tC,z8,zd,zm,zL,xq,zw,tCB,tBM,tyV,tSl,zF,zu,zB,xM,zP,zG,rEq,rI,rI0,rU,yl,yT,y8,yo,List.map,List.replicate,List.length,List.append,jqa,jqb,jqc,jqd,jqe,jqf,jqg,jqh,jqi,jqj,jqk,jql,jqm,jqn,and_true,true_and,and_assoc,jqo,jqp,jqq,jqr,jqs,jqt,if_true,ite_true,jqu,ite_false,if_false]
  exact ym (fun _=>ym (fun e=>zc3 h1 h2 h3 (by omega) q) fun _=>R5) fun _=>R5
 have R3:wQ K t { nx:=fun _ H'=>Q .non H',rt:=Q } [some (.ref a),some (.int k),some (.ref l),some (.int b),some (.int m),none,none] H:=by
  simp only [wQ,zP,zR,L2.start,zv,zE,zo,zC,zy,tOp,tUn,zg,tC,z8,zd,zm,zL,xq,zw,tCB,tBM,tyV,tSl,zF,zu,zB,xM,zP,zG,rEq,rI,rI0,rU,yl,yT,y8,yo,List.map,List.replicate,List.length,List.append,jqa,jqb,jqc,jqd,jqe,jqf,jqg,jqh,jqi,jqj,jqk,jql,jqm,jqn,and_true,true_and,and_assoc,jqo,jqp,jqq,jqr,jqs,jqt,if_true,ite_true,jqu,ite_false,if_false]
  exact ym (fun _=>zc2 h1 h2 h3 q) fun _=>R4
 simp only [jF,jj,zP,zR,L2.start,zv,zE,zo,zC,zy,tOp,tUn,zg,tC,z8,zd,zm,zL,xq,zw,tCB,tBM,tyV,tSl,zF,zu,zB,xM,zP,zG,rEq,rI,rI0,rU,yl,yT,y8,yo,List.map,List.replicate,List.length,List.append,jqa,jqb,jqc,jqd,jqe,jqf,jqg,jqh,jqi,jqj,jqk,jql,jqm,jqn,and_true,true_and,and_assoc,jqo,jqp,jqq,jqr,jqs,jqt,if_true,ite_true,jqu,ite_false,if_false]
 exact ym (fun _=>⟨ws,h1,h2,h3,q⟩) fun _=>R3
theorem KY {c z:Str} {i j d:Nat} (c4:c.length=4) (ca:Asc c) (cs:32 ∉ c.cps.toList) (hd:d < 128) (hi:i≤4) (hij:j=i∨(j=i + 1∧i < 4∧c.cps.toList[i]?≠some d)) (hz:z.cps.toList=c.cps.toList.take i ++ d :: c.cps.toList.drop j):QJ c z:=by
 have lc:c.cps.toList.length=4:=by rw [Array.length_toList];exact c4
 have lz:z.length=z.cps.toList.length:=by rw [Array.length_toList];rfl
 have ji:i≤j:=by omega
 refine ⟨fun x hx=>?_,?_,?_⟩
 ·rw [hz] at hx
  rcases List.mem_append.mp hx with m | m
  ·exact ca x (List.mem_of_mem_take m)
  ·rcases List.mem_cons.mp m with rfl | m
   ·exact hd
   ·exact ca x (List.mem_of_mem_drop m)
 ·rw [lz,hz,List.length_append,List.length_cons,List.length_take,List.length_drop];omega
 ·by_cases d32:d=32
  ·subst d32
   refine .inr ⟨⟨(c.cps.toList.take i).toArray⟩,⟨(c.cps.toList.drop j).toArray⟩,?_,fun m=>cs (List.mem_of_mem_drop (by simpa using m)),?_⟩
   ·apply wS
    rw [hz,qO,yu,yu,List.append_assoc]
    rfl
   ·by_cases j0:j=0
    ·obtain rfl:i=0:=by omega
     subst j0
     refine .inr ⟨?_,?_⟩
     ·apply wS;rfl
     ·apply wS;rfl
    ·refine .inl ?_
     show (c.cps.toList.drop j).toArray.size≠4
     rw [List.size_toArray,List.length_drop]
     omega
  ·refine .inl ⟨fun m=>?_,fun e=>?_⟩
   ·rw [hz] at m
    rcases List.mem_append.mp m with m | m
    ·exact cs (List.mem_of_mem_take m)
    ·rcases List.mem_cons.mp m with e | m
     ·exact d32 e.symm
     ·exact cs (List.mem_of_mem_drop m)
   ·rw [e] at hz
    rcases hij with rfl | ⟨rfl,i4,ne⟩
    ·have:=congrArg List.length hz
     rw [List.length_append,List.length_cons,List.length_take,List.length_drop] at this
     omega
    ·have:=congrArg (fun l:List Nat=>l[i]?) hz
     rw [List.getElem?_append_right (by rw [List.length_take];omega),List.length_take,Nat.min_eq_left (by omega),Nat.sub_self,List.getElem?_cons_zero] at this
     exact ne this
theorem zc7 {c z:Str} {i:Nat} (c4:c.length=4) (ca:Asc c) (cs:32 ∉ c.cps.toList) (hi:i < 4) (hz:z.cps.toList=c.cps.toList.take i ++ c.cps.toList.drop (i + 1)):QJ c z:=by
 have lc:c.cps.toList.length=4:=by rw [Array.length_toList];exact c4
 have lz:z.length=z.cps.toList.length:=by rw [Array.length_toList];rfl
 have l3:z.cps.toList.length=3:=by rw [hz,List.length_append,List.length_take,List.length_drop];omega
 have mem:∀ x∈z.cps.toList,x∈c.cps.toList:=fun x hx=>by
  rw [hz] at hx
  rcases List.mem_append.mp hx with m | m
  ·exact List.mem_of_mem_take m
  ·exact List.mem_of_mem_drop m
 exact ⟨fun x hx=>ca x (mem x hx),by omega,.inl ⟨fun m=>cs (mem _ m),fun e=>by rw [e] at l3;omega⟩⟩
def sgS:Str:=Str.ofString "0123456789+-_ \n\t"
theorem KZ:(decide (sgS.length=16) && (sgS.cps.toList.all (fun c=>decide (c < 128)) && (List.range 16).all fun k=>decide (sgS.cps.toList[k]?≠sgS.cps.toList[(k + 1) % 16]?)))=true:=by decide +kernel
theorem zdq (k:Nat) (h:k < 16):∃ d,sgS.cps.toList[k]?=some d∧d < 128:=by
 have f:=KZ
 simp only [Bool.and_eq_true,decide_eq_true_eq] at f
 have l:sgS.cps.toList.length=16:=by rw [Array.length_toList];exact f.1
 exact ⟨_,List.getElem?_eq_getElem (by omega),of_decide_eq_true (List.all_eq_true.mp f.2.1 _ (List.getElem_mem (by omega)))⟩
section
variable {c:Str} {l:Addr}
theorem ZA (x:Str) (i:Nat):(Txt.slice x none (some (i:Int))).length≤x.length∧(Txt.slice x (some (i:Int)) none).length≤x.length:=⟨Txt.slice_le _ _ _,Txt.slice_le _ _ _⟩
theorem V7 {i k d:Nat} (c4:c.length=4) (ca:Asc c) (cs:32 ∉ c.cps.toList) (hi:i < 4) (hk:sgS.cps.toList[k]?=some d) (hd:d < 128) (ne:c.cps.toList[i]?≠some d) (q:∀ z,QJ c z→Q (.str z) H) :
  xk K t { nx:=fun _ H'=>Q .non H',rt:=Q } [some (.str c),some (.ref l),some (.str sgS),some (.int k),some (.int i)] H:=by
 simp only [xk,L2.start,zC,tOp,zg,tC,tSl,zF,zu,jO,rI0,vE,yn,List.map,List.replicate,List.length,List.append,jqa,jqb,jqc,jqd,jqe,jqf,jqg,jqh,jqi,jqj,jqk,jql,jqm,jqn,and_true,true_and,and_assoc,jqo,jqp,jqq,jqr,jqs,jqt,if_true,ite_true,jqu,ite_false,if_false]
 have a:=(ZA c i).1
 have b:=(ZA c (i + 1)).2
 rw [show ((i:Int) + 1)=((i + 1:Nat):Int) by omega]
 refine ⟨zt (by omega),by decide +kernel,d,qS hk,zt (by rw [vZ];omega),zt (by omega),zt (by rw [yy,vZ];omega),q _ (KY c4 ca cs hd (by omega) (.inr ⟨rfl,hi,ne⟩) ?_)⟩
 rw [yu,yu,Ye,jT,List.append_assoc]
 rfl
theorem kR (c4:c.length=4) (ca:Asc c) (cs:32 ∉ c.cps.toList) (h3:dr3 H l) (q:∀ z H',Same H H'→QJ c z→Q (.str z) H') :
  xA K t { nx:=fun _ H'=>Q .non H',rt:=Q } (L2.start ["check","xs","signs","which","at"] [.str c,.ref l]) H:=by
 simp only [xA,L2.start,zv,zE,zo,zC,zy,tOp,zg,tC,zL,zw,tSl,zF,zu,zG,jO,rEq,rI,rI0,vE,yn,yo,List.map,List.replicate,List.length,List.append,jqa,jqb,jqc,jqd,jqe,jqf,jqg,jqh,jqi,jqj,jqk,jql,jqm,jqn,and_true,true_and,and_assoc,jqo,jqp,jqq,jqr,jqs,jqt,if_true,ite_true,jqu,ite_false,if_false]
 obtain ⟨x,y,z,hx,_⟩:=h3
 have q:=fun z=>q z H (Same.refl _)
 refine ⟨_,SqL.of hx,_,zS (n:=1) rfl,_,rfl,by decide,?_⟩
 obtain ⟨k,ek,hk⟩:∃ k:Nat,y % 16=(k:Int)∧k < 16:=⟨(y % 16).toNat,by omega,by omega⟩
 rw [ek,show Str.ofString "0123456789+-_ \n\t"=sgS from rfl]
 obtain ⟨d,ed,hd⟩:=zdq k hk
 have R3:xm K t { nx:=fun _ H'=>Q .non H',rt:=Q } [some (.str c),some (.ref l),some (.str sgS),some (.int k),none] H:=by
  simp only [xm,L2.start,zv,zE,zo,zC,zy,tOp,zg,tC,zL,zw,tSl,zF,zu,zG,jO,rEq,rI,rI0,vE,yn,yo,List.map,List.replicate,List.length,List.append,jqa,jqb,jqc,jqd,jqe,jqf,jqg,jqh,jqi,jqj,jqk,jql,jqm,jqn,and_true,true_and,and_assoc,jqo,jqp,jqq,jqr,jqs,jqt,if_true,ite_true,jqu,ite_false,if_false]
  refine ⟨_,SqL.of hx,_,zS (n:=0) rfl,_,rfl,by decide,?_⟩
  obtain ⟨i,ei,hi⟩:∃ i:Nat,x % 4=(i:Int)∧i < 4:=⟨(x % 4).toNat,by omega,by omega⟩
  rw [ei]
  have lc:c.cps.toList.length=4:=by rw [Array.length_toList];exact c4
  have ci:=List.getElem?_eq_getElem (l:=c.cps.toList) (i:=i) (by omega)
  simp only [wn,L2.start,zv,zE,zo,zC,zy,tOp,zg,tC,zL,zw,tSl,zF,zu,zG,jO,rEq,rI,rI0,vE,yn,yo,List.map,List.replicate,List.length,List.append,jqa,jqb,jqc,jqd,jqe,jqf,jqg,jqh,jqi,jqj,jqk,jql,jqm,jqn,and_true,true_and,and_assoc,jqo,jqp,jqq,jqr,jqs,jqt,if_true,ite_true,jqu,ite_false,if_false]
  refine ⟨_,SqL.of hx,_,zS (n:=2) rfl,_,rfl,by decide,ym (fun _=>?_) fun _=>?_⟩
  ·simp only [wg,L2.start,zv,zE,zo,zC,zy,tOp,zg,tC,zL,zw,tSl,zF,zu,zG,jO,rEq,rI,rI0,vE,yn,yo,List.map,List.replicate,List.length,List.append,jqa,jqb,jqc,jqd,jqe,jqf,jqg,jqh,jqi,jqj,jqk,jql,jqm,jqn,and_true,true_and,and_assoc,jqo,jqp,jqq,jqr,jqs,jqt,if_true,ite_true,jqu,ite_false,if_false]
   have a:=(ZA c i).1
   have b:=(ZA c (i + 1)).2
   rw [show ((i:Int) + 1)=((i + 1:Nat):Int) by omega]
   refine ⟨zt (by omega),zt (by omega),zt (Nat.le_trans (Nat.add_le_add a b) (by omega)),q _ (zc7 c4 ca cs hi ?_)⟩
   rw [yu,Ye,jT]
  ·simp only [wm,L2.start,zv,zE,zo,zC,zy,tOp,zg,tC,zL,zw,tSl,zF,zu,zG,jO,rEq,rI,rI0,vE,yn,yo,List.map,List.replicate,List.length,List.append,jqa,jqb,jqc,jqd,jqe,jqf,jqg,jqh,jqi,jqj,jqk,jql,jqm,jqn,and_true,true_and,and_assoc,jqo,jqp,jqq,jqr,jqs,jqt,if_true,ite_true,jqu,ite_false,if_false]
   refine ⟨by decide +kernel,d,qS ed,zt (by omega),_,qS ci,ym (fun e=>⟨by decide,?_⟩) fun e=>V7 c4 ca cs hi ed hd (fun w=>e ?_) q⟩
   ·rw [show ((k:Int) + 1) % 16=(((k + 1) % 16:Nat):Int) by omega]
    obtain ⟨d2,ed2,hd2⟩:=zdq ((k + 1) % 16) (Nat.mod_lt _ (by decide))
    refine V7 c4 ca cs hi ed2 hd2 (fun w=>?_) q
    have f:=KZ
    simp only [Bool.and_eq_true,decide_eq_true_eq] at f
    have n:=of_decide_eq_true (List.all_eq_true.mp f.2.2 k (List.mem_range.mpr hk))
    rw [ed,ed2] at n
    rw [ci] at w
    have e':d=c.cps.toList[i]:=by simpa using e
    exact n (by rw [e',w])
   ·rw [ci] at w
    injection w with w
    rw [w]
 simp only [wp,L2.start,zv,zE,zo,zC,zy,tOp,zg,tC,zL,zw,tSl,zF,zu,zG,jO,rEq,rI,rI0,vE,yn,yo,List.map,List.replicate,List.length,List.append,jqa,jqb,jqc,jqd,jqe,jqf,jqg,jqh,jqi,jqj,jqk,jql,jqm,jqn,and_true,true_and,and_assoc,jqo,jqp,jqq,jqr,jqs,jqt,if_true,ite_true,jqu,ite_false,if_false]
 refine ⟨_,SqL.of hx,_,zS (n:=2) rfl,_,rfl,by decide,ym (fun _=>?_) fun _=>R3⟩
 simp only [wj,L2.start,zv,zE,zo,zC,zy,tOp,zg,tC,zL,zw,tSl,zF,zu,zG,jO,rEq,rI,rI0,vE,yn,yo,List.map,List.replicate,List.length,List.append,jqa,jqb,jqc,jqd,jqe,jqf,jqg,jqh,jqi,jqj,jqk,jql,jqm,jqn,and_true,true_and,and_assoc,jqo,jqp,jqq,jqr,jqs,jqt,if_true,ite_true,jqu,ite_false,if_false]
 obtain ⟨i,ei,hi⟩:∃ i:Nat,x % 5=(i:Int)∧i < 5:=⟨(x % 5).toNat,by omega,by omega⟩
 refine ⟨_,SqL.of hx,_,zS (n:=0) rfl,_,rfl,by decide,?_⟩
 rw [ei]
 have a:=(ZA c i).1
 have b:=(ZA c i).2
 refine ⟨zt (by omega),by decide +kernel,d,qS ed,zt (by rw [vZ];omega),zt (by omega),zt (by rw [yy,vZ];omega),q _ (KY (i:=i) (j:=i) c4 ca cs hd (by omega) (.inl rfl) ?_)⟩
 rw [yu,yu,Ye,jT,List.append_assoc]
 rfl
end
theorem zc8:((List.range 128).all fun e=>decide (e=0) || decide (Nat.gcd 1009 e=1))=true:=by decide +kernel
theorem zc9 {e w:Nat} (h0:0 < e) (h1:e < 128) (hw:0 < w) (hw2:w < 1009):¬ 1009 ∣ e * w:=fun z=>by
 have:=List.all_eq_true.mp zc8 e (List.mem_range.mpr h1)
 simp only [Bool.or_eq_true,decide_eq_true_eq] at this
 have g:Nat.Coprime 1009 e:=by rcases this with c | c;(· omega);exact c
 have:=Nat.le_of_dvd hw (g.dvd_of_dvd_mul_left z)
 omega
theorem K0:((List.range 1009).all fun n=>decide ((zfS (zH (n:Nat)) 4).cps.toList.foldl (fun a c=>a * 10 + (c - 48)) 0=n))=true:=by decide +kernel
theorem zda {i j:Int} (h0:0≤i) (h1:i < 1009) (g0:0≤j) (g1:j < 1009) (e:zfS (zH i) 4=zfS (zH j) 4):i=j:=by
 have a:=List.all_eq_true.mp K0 i.toNat (List.mem_range.mpr (by omega))
 have b:=List.all_eq_true.mp K0 j.toNat (List.mem_range.mpr (by omega))
 rw [show ((i.toNat:Nat):Int)=i by omega,decide_eq_true_eq] at a
 rw [show ((j.toNat:Nat):Int)=j by omega,decide_eq_true_eq] at b
 rw [e] at a
 omega
theorem ZB {ws:List Str} (h:∀ w∈ws,Wx w):Qj (Str.ofString " ") ws≤101 * ws.length:=by
 have:=Wt (Str.ofString " ") ws 0
 unfold Qj
 rw [this,wc]
 have:=WO (n:=100) fun w hw=>(h w hw).1
 omega
theorem Zp {ws:List Str} (h:∀ w∈ws,Wx w):(xC (Str.ofString " ") ws).length≤101 * ws.length:=Nat.le_trans (XL _ _) (ZB h)
theorem jI:∀ {ws:List Str},(∀ w∈ws,Wx w)→Asc (xC (Str.ofString " ") ws)
 | [],_=>by rw [Zb];intro c hc;revert hc;decide +revert
 | [w],h=>by rw [Zb];exact (h w List.mem_cons_self).2.1
 | w :: x :: ws,h=>by
  have ih:=jI (ws:=x :: ws) fun y hy=>h y (List.mem_cons_of_mem _ hy)
  rw [Zb] at ih ⊢
  rw [XV]
  exact ((h w List.mem_cons_self).2.1.app (by unfold Asc;decide +kernel)).app ih
theorem V8 {ws:List Str} (h:∀ w∈ws,Wx w) (n:ws≠[]):Txt.split (xC (Str.ofString " ") ws) (Str.ofString " ")=ws:=by
 rw [Zb,qO]
 exact Jz n fun p hp=>(h p hp).2.2
theorem okX {ws:List Str} (h:∀ w∈ws,Wx w) (l:ws.length≤60):okWs ws:=⟨by omega,fun w hw=>⟨Nat.le_trans (h w hw).1 (by decide),(h w hw).2.1⟩⟩
theorem WY:Asc (Str.ofString " "):=by unfold Asc;decide +kernel
theorem zeg {zs:List Str} (h:vb zs):JM (xC (Str.ofString " ") zs ++ Str.ofString " " ++ va (xC (Str.ofString " ") zs)):=by
 obtain ⟨n,l,x,nl⟩:=h
 obtain ⟨c1,c2,c3⟩:=YK (xC (Str.ofString " ") zs)
 have jl:=Zp x
 have ja:=jI x
 refine ⟨(ja.app WY).app c2,by rw [yy,yy,wc,c1];omega,_,_,_,by rw [qO];exact Ze c3,ja,by omega,fun _=>?_⟩
 rw [V8 x n]
 exact ⟨okX x l,nl⟩
theorem zeh (g:Str):va g≠va (g ++ Str.ofString " " ++ Str.ofString ""):=fun z=>by
 have:=zda (v4 _).1 (v4 _).2 (v4 _).1 (v4 _).2 z
 unfold Xc at this
 rw [yu,yu,show (Str.ofString " ").cps.toList=[32] by decide +kernel,show (Str.ofString "").cps.toList=[] by decide +kernel,List.append_nil,WK,List.sum_append] at this
 have e1:(ckL (0 + g.cps.toList.length) [32]).sum=(32:Nat) * (1 + ((0 + g.cps.toList.length:Nat):Int) % 1008) + 0:=rfl
 rw [e1] at this
 obtain ⟨w,hw⟩:∃ w:Nat,w=1 + (0 + g.cps.toList.length) % 1008:=⟨_,rfl⟩
 have hw':(1 + ((0 + g.cps.toList.length:Nat):Int) % 1008)=(w:Int):=by omega
 rw [hw',← Int.natCast_mul] at this
 generalize (ckL 0 g.cps.toList).sum=A at this
 refine zc9 (e:=32) (w:=w) (by decide) (by decide) (by omega) (by omega) ?_
 generalize 32 * w=X at *
 omega
theorem zdb {g z:Str} (ga:Asc g) (gl:g.length≤10000) (h:QJ (va g) z):JM (g ++ Str.ofString " " ++ z):=by
 obtain ⟨za,zl,h⟩:=h
 refine ⟨(ga.app WY).app za,by rw [yy,yy,wc];omega,?_⟩
 rcases h with ⟨zn,ze⟩ | ⟨z1,z2,rfl,zn,ze⟩
 ·exact ⟨g,_,z,by rw [qO];exact Ze zn,ga,by omega,fun e=>absurd e ze⟩
 ·have e:g ++ Str.ofString " " ++ (z1 ++ Str.ofString " " ++ z2)=(g ++ Str.ofString " " ++ z1) ++ b32 ++ z2:=by
   apply wS
   rw [qO]
   simp only [yu,List.append_assoc]
  have l1:z1.length≤5:=by rw [yy,yy] at zl;omega
  have a1:Asc z1:=fun c hc=>za c (by rw [yu,yu];simp [hc])
  refine ⟨g ++ Str.ofString " " ++ z1,b32,z2,by rw [e,qO];exact Ze zn,(ga.app WY).app a1,by rw [yy,yy,wc];omega,fun w=>?_⟩
  rcases ze with ze | ⟨rfl,rfl⟩
  ·exact absurd (by rw [w];exact (YK _).1) ze
  ·exact absurd w (zeh g)
theorem Wg {x p s d:Str} (h:rpL x (Str.ofString " ")=[.str p,.str s,.str d]) (xa:(x.cps.toList.all fun c=>decide (c < 128))=true) (xl:x.length≤100) (pa:(p.cps.toList.all fun c=>decide (c < 128))=true) (pl:p.length≤100) (n:d=va p→Txt.split p (Str.ofString " ")=[Str.ofString ""]):JM x:=by
 refine ⟨fun c hc=>of_decide_eq_true (List.all_eq_true.mp xa c hc),by omega,p,s,d,h,fun c hc=>of_decide_eq_true (List.all_eq_true.mp pa c hc),by omega,fun e=>?_⟩
 rw [n e]
 refine ⟨⟨by decide,fun w hw=>?_⟩,fun z=>?_⟩
 ·rw [List.mem_singleton.mp hw]
  exact ⟨by decide +kernel,by unfold Asc;decide +kernel⟩
 ·have:=Zn z
  exact absurd this (by decide +kernel)
theorem zdc:∀ v∈[V.str (Str.ofString ""),V.str (Str.ofString "mark"),V.str (Str.ofString "0000"),V.str (Str.ofString " 0000"),V.str (Str.ofString "\n"),V.str (Str.ofString "mark 0 ;")],∃ x,v=.str x∧JM x:=fun v hv=>by
 simp only [List.mem_cons,List.not_mem_nil,or_false] at hv
 rcases hv with rfl | rfl | rfl | rfl | rfl | rfl
 ·exact ⟨_,rfl,Wg (p:=Str.ofString "") (s:=Str.ofString "") (d:=Str.ofString "") (by decide +kernel) (by decide +kernel) (by decide +kernel) (by decide +kernel) (by decide +kernel) (fun e=>absurd e (by decide +kernel))⟩
 ·exact ⟨_,rfl,Wg (p:=Str.ofString "") (s:=Str.ofString "") (d:=Str.ofString "mark") (by decide +kernel) (by decide +kernel) (by decide +kernel) (by decide +kernel) (by decide +kernel) (fun e=>absurd e (by decide +kernel))⟩
 ·exact ⟨_,rfl,Wg (p:=Str.ofString "") (s:=Str.ofString "") (d:=Str.ofString "0000") (by decide +kernel) (by decide +kernel) (by decide +kernel) (by decide +kernel) (by decide +kernel) (fun e=>by decide +kernel)⟩
 ·exact ⟨_,rfl,Wg (p:=Str.ofString "") (s:=Str.ofString " ") (d:=Str.ofString "0000") (by decide +kernel) (by decide +kernel) (by decide +kernel) (by decide +kernel) (by decide +kernel) (fun e=>by decide +kernel)⟩
 ·exact ⟨_,rfl,Wg (p:=Str.ofString "") (s:=Str.ofString "") (d:=Str.ofString "\n") (by decide +kernel) (by decide +kernel) (by decide +kernel) (by decide +kernel) (by decide +kernel) (fun e=>absurd e (by decide +kernel))⟩
 ·exact ⟨_,rfl,Wg (p:=Str.ofString "mark 0") (s:=Str.ofString " ") (d:=Str.ofString ";") (by decide +kernel) (by decide +kernel) (by decide +kernel) (by decide +kernel) (by decide +kernel) (fun e=>absurd e (by decide +kernel))⟩
section
variable {D:ko} {a l xs:Addr} {k:Nat} {kd:Int} {o1 o7 o8:Option V} {ws:List Str}
theorem zbR {H0:Hp} (s0:Same H0 H) (hl:H l=some (.lst (ws.map V.str))) (hw:LnW ws) (h3:dr3 H xs) (q:∀ o8 H',Same H0 H'→D.nx [some (.ref a),o1,some (.int k),some (.ref l),some (.ref xs),some (.str (xC (Str.ofString " ") ws)),some (.int kd),o7,o8] H') :
  YA K t D [some (.ref a),o1,some (.int k),some (.ref l),some (.ref xs),some (.str (xC (Str.ofString " ") ws)),some (.int kd),o7,o8] H:=by
 simp only [YA,xh,xS,L2.start,yG,zv,zE,zo,zC,zy,tOp,zg,tC,zd,zm,zL,tOr,jJ,zw,tB,tCB,zB,zG,yG,rEq,rNe,rI,yn,ZL,yo,List.map,List.replicate,List.length,List.append,jqa,jqb,jqc,jqd,jqe,jqf,jqg,jqh,jqi,jqj,jqk,jql,jqm,jqn,and_true,true_and,and_assoc,jqo,jqp,jqq,jqr,jqs,jqt,if_true,ite_true,jqu,ite_false,if_false]
 obtain ⟨x,y,z,hx,_⟩:=h3
 obtain ⟨l1,l2,l3⟩:=yY hw
 have wx:∀ w∈ws,Wx w:=fun w hw=>(l3 w hw).x
 have jl:=Zp wx
 have ja:=jI wx
 have nn:ws≠[]:=fun z=>by rw [z] at l1;simp at l1
 have sp:=V8 wx nn
 obtain ⟨c1,c2,c3⟩:=YK (xC (Str.ofString " ") ws)
 have w0:=List.getElem?_eq_getElem (l:=ws) (i:=0) (by omega)
 refine ⟨_,SqL.of hx,_,zS (n:=0) rfl,_,rfl,dB,by decide,ym (fun _=>?_) fun _=>q _ _ s0⟩
 refine ⟨zt (by rw [wc];omega),ja,by omega,fun H1 s1=>⟨zt (by rw [yy,wc,c1];omega),(ja.app WY).app c2,by rw [yy,yy,wc,c1];omega,xC (Str.ofString " ") ws,b32,va (xC (Str.ofString " ") ws),by rw [qO];exact Ze c3,ja,by omega,?_⟩⟩
 rw [sp]
 refine ⟨fun _=>okX wx (by omega),fun _ f h ys H2 s2 eh hf=>?_,fun z=>absurd ⟨rfl,zdp hw⟩ z⟩
 refine ⟨_,.tup hf,true,VS "tuple",?_⟩
 rw [if_neg (by decide)]
 refine ⟨_,SqT.of hf,_,zS (n:=0) rfl,_,SqL.of (s2 _ _ (s1 _ _ hl)),_,zS (n:=0) (by rw [List.getElem?_map,eh];rfl),rfl,?_⟩
 rw [if_neg (fun n=>n rfl)]
 exact q _ _ (s0.trans (s1.trans s2))
theorem dr3.same {H H':Hp} {l:Addr} (h:dr3 H l) (s:Same H H'):dr3 H' l:=by
 obtain ⟨x,y,z,hx,h⟩:=h
 exact ⟨x,y,z,s _ _ hx,h⟩
theorem V9 {H0:Hp} {x:Str} (hr:JM x) (s0:Same H0 H) (hl:H l=some (.lst (ws.map V.str))) (hw:LnW ws) (h3:dr3 H xs) (q:∀ o1 o7 o8 H',Same H0 H'→D.nx [some (.ref a),o1,some (.int k),some (.ref l),some (.ref xs),some (.str (xC (Str.ofString " ") ws)),some (.int kd),o7,o8] H') :
  YB K t D [some (.ref a),some (.str x),some (.int k),some (.ref l),some (.ref xs),some (.str (xC (Str.ofString " ") ws)),some (.int kd),o7,o8] H:=by
 simp only [YB,xb,L2.start,yG,zv,zE,zo,zC,zy,tOp,zg,tC,zd,zm,zL,tOr,jJ,zw,tB,tCB,zB,zG,yG,rEq,rNe,rI,yn,ZL,yo,List.map,List.replicate,List.length,List.append,jqa,jqb,jqc,jqd,jqe,jqf,jqg,jqh,jqi,jqj,jqk,jql,jqm,jqn,and_true,true_and,and_assoc,jqo,jqp,jqq,jqr,jqs,jqt,if_true,ite_true,jqu,ite_false,if_false]
 refine ⟨hr,fun H1 s1=>?_⟩
 rw [if_neg (by decide)]
 exact zbR (s0.trans s1) (s1 _ _ hl) hw (h3.same s1) fun o8 H2 s2=>q _ _ _ _ s2
theorem zbS {H0:Hp} (s0:Same H0 H) (hl:H l=some (.lst (ws.map V.str))) (hw:LnW ws) (h3:dr3 H xs) (q:∀ o1 o7 o8 H',Same H0 H'→D.nx [some (.ref a),o1,some (.int k),some (.ref l),some (.ref xs),some (.str (xC (Str.ofString " ") ws)),some (.int kd),o7,o8] H') :
  YC K t D [some (.ref a),o1,some (.int k),some (.ref l),some (.ref xs),some (.str (xC (Str.ofString " ") ws)),some (.int kd),o7,o8] H:=by
 simp only [YC,xh,xz,vM,L2.start,yG,xG,zv,zE,zo,zC,zy,tOp,zg,tC,zd,zm,zL,tOr,jJ,zw,tB,tCB,tBM,tyV,zB,zG,yG,rEq,rNe,rI,yn,ZL,yo,List.map,List.replicate,List.length,List.append,jqa,jqb,jqc,jqd,jqe,jqf,jqg,jqh,jqi,jqj,jqk,jql,jqm,jqn,and_true,true_and,and_assoc,jqo,jqp,jqq,jqr,jqs,jqt,if_true,ite_true,jqu,ite_false,if_false]
 obtain ⟨l1,l2,l3⟩:=yY hw
 have wx:∀ w∈ws,Wx w:=fun w hw=>(l3 w hw).x
 have jl:=Zp wx
 have ja:=jI wx
 obtain ⟨c1,c2,c3⟩:=YK (xC (Str.ofString " ") ws)
 refine ym (fun _=>?_) fun _=>?_
 ·refine ⟨zt (by rw [wc];omega),ja,by omega,fun H1 s1=>⟨c1,c2,c3,h3.same s1,fun z H2 s2 oz=>⟨zt (by have:=oz.2.1;rw [yy,wc];omega),?_⟩⟩⟩
  exact V9 (zdb ja (by omega) oz) (s0.trans (s1.trans s2)) (s2 _ _ (s1 _ _ hl)) hw ((h3.same s1).same s2) q
 ·refine ⟨ws,hl,hw,h3,fun b zs H1 s1 hb bd=>?_⟩
  obtain ⟨n1,n2,n3,n4⟩:=id bd
  have zl:=Zp n3
  have zs':=ZB n3
  have zc:=(YK (xC (Str.ofString " ") zs)).1
  refine ⟨zs,SqL.of hb,zt (by omega),zt (by rw [wc];omega),jI n3,by omega,fun H2 s2=>⟨zt (by rw [yy,wc,zc];omega),?_⟩⟩
  exact V9 (zeg bd) (s0.trans (s1.trans s2)) (s2 _ _ (s1 _ _ hl)) hw ((h3.same s1).same s2) q
theorem zbT {ns:List Int} {i:Nat} {o3 o4 o5 o6:Option V} (h1:SqL K H a (ns.map V.int)) (hc:∀ i∈ns,Cb i) (hi:2 * i + 1 < ns.length) (q:∀ o1 o3 o4 o5 o6 o7 o8 H',Same H H'→D.nx [some (.ref a),o1,some (.int ((2 * i:Nat):Int)),o3,o4,o5,o6,o7,o8] H') :
  YD K t D [some (.ref a),o1,some (.int ((2 * i:Nat):Int)),o3,o4,o5,o6,o7,o8] H:=by
 simp only [YD,jh,yK,L2.start,yG,xG,zv,zE,zo,zC,zy,tOp,zg,tC,zd,zm,zL,tOr,jJ,zw,tB,tCB,tBM,tyV,zB,zG,yG,rEq,rNe,rI,rI0,yn,ZL,yo,List.map,List.replicate,List.length,List.append,jqa,jqb,jqc,jqd,jqe,jqf,jqg,jqh,jqi,jqj,jqk,jql,jqm,jqn,and_true,true_and,and_assoc,jqo,jqp,jqq,jqr,jqs,jqt,if_true,ite_true,jqu,ite_false,if_false]
 have n1:=List.getElem?_eq_getElem (l:=ns) (i:=2 * i) (by omega)
 have n2:=List.getElem?_eq_getElem (l:=ns) (i:=2 * i + 1) hi
 have m:∀ {i:Nat} {w:Int},ns[i]?=some w→(ns.map V.int)[i]?=some (V.int w):=fun h=>by rw [List.getElem?_map,h];rfl
 rw [show ((2 * i:Nat):Int) + 1=((2 * i + 1:Nat):Int) by omega]
 refine ⟨_,h1,_,zS (m n1),_,rfl,hc _ (List.getElem_mem _),fun l ws H1 s1 hl hw=>⟨_,h1.mono s1,_,zS (m n2),_,rfl,dB,by decide,by decide,fun l2 xs H2 s2 _ hx lx dr=>?_⟩⟩
 obtain ⟨w1,w2,w3⟩:=yY hw
 have jl:=ZB fun w hw=>(w3 w hw).x
 have h3:dr3 H2 l2:=by
  match xs,lx with
  | [x,y,z],_=>exact ⟨x,y,z,hx,dr x (by simp),dr y (by simp),dr z (by simp)⟩
  | [],e=>exact absurd e (by decide)
  | [_],e=>exact absurd e (by simp)
  | [_,_],e=>exact absurd e (by simp)
  | _ :: _ :: _ :: _ :: _,e=>exact absurd e (by simp only [List.length_cons];omega)
 refine ⟨ws,SqL.of (s2 _ _ hl),zt (by omega),_,h1.mono (s1.trans s2),_,zS (m n2),_,rfl,by decide,?_⟩
 exact zbS (s1.trans s2) (s2 _ _ hl) hw h3 fun o1 o7 o8 H3 s3=>q _ _ _ _ _ _ _ _ s3
end
theorem zdd {a:Addr} {ns:List Int} (h1:SqL K H a (ns.map V.int)) (h2:ns.length≤63) (h3:∀ i∈ns,Cb i) (q:∀ H',Q (.bl true) H') :
  JN K t { nx:=fun _ H'=>Q .non H',rt:=Q } (L2.start ["script","text","k","words","xs","good","kind","body","found"] [.ref a]) H:=by
 simp only [JN,Yp,L2.start,yG,xG,zv,zE,zo,zC,zy,tOp,zg,tC,z8,zd,zm,we,zL,tOr,jJ,zw,tB,tCB,tBM,tyV,zB,xM,xn,zG,yG,rEq,rNe,rI,rI0,yn,yT,ZL,yo,List.map,List.replicate,List.length,List.append,jqa,jqb,jqc,jqd,jqe,jqf,jqg,jqh,jqi,jqj,jqk,jql,jqm,jqn,and_true,true_and,and_assoc,jqo,jqp,jqq,jqr,jqs,jqt,if_true,ite_true,jqu,ite_false,if_false]
 refine ⟨by decide,fun p hp=>?_⟩
 have s0:=isV (o:=HO.lst [V.str (Str.ofString ""),V.str (Str.ofString "mark"),V.str (Str.ofString "0000"),V.str (Str.ofString " 0000"),V.str (Str.ofString "\n"),V.str (Str.ofString "mark 0 ;")]) p hp
 have six:=zdc
 refine ⟨⟨_,SqL.of zp⟩,XH _ (fun i σ H'=>(∃ o1,σ=[some (.ref a),o1,none,none,none,none,none,none,none])∧Same (upd H p (.lst [V.str (Str.ofString ""),V.str (Str.ofString "mark"),V.str (Str.ofString "0000"),V.str (Str.ofString " 0000"),V.str (Str.ofString "\n"),V.str (Str.ofString "mark 0 ;")])) H') ⟨⟨_,rfl⟩,Same.refl _⟩ (fun i σ H' ⟨_,s⟩=>SqL.of (s _ _ zp)) ?_ ?_⟩
 ·rintro i x σ H1 hi ⟨⟨o1,rfl⟩,s1⟩
  obtain ⟨y,rfl,hy⟩:=six x (List.mem_of_getElem? hi)
  simp only [VQ,xb,Yp,L2.start,yG,xG,zv,zE,zo,zC,zy,tOp,zg,tC,z8,zd,zm,we,zL,tOr,jJ,zw,tB,tCB,tBM,tyV,zB,xM,xn,zG,yG,rEq,rNe,rI,rI0,yn,yT,ZL,yo,List.map,List.replicate,List.length,List.append,jqa,jqb,jqc,jqd,jqe,jqf,jqg,jqh,jqi,jqj,jqk,jql,jqm,jqn,and_true,true_and,and_assoc,jqo,jqp,jqq,jqr,jqs,jqt,if_true,ite_true,jqu,ite_false,if_false]
  refine ⟨hy,fun H2 s2=>?_⟩
  rw [if_neg (by decide)]
  exact ⟨⟨_,rfl⟩,s1.trans s2⟩
 ·rintro σ H1 ⟨⟨o1,rfl⟩,s1⟩
  have S1:=s0.trans s1
  simp only [VR,Yp,L2.start,yG,xG,zv,zE,zo,zC,zy,tOp,zg,tC,z8,zd,zm,we,zL,tOr,jJ,zw,tB,tCB,tBM,tyV,zB,xM,xn,zG,yG,rEq,rNe,rI,rI0,yn,yT,ZL,yo,List.map,List.replicate,List.length,List.append,jqa,jqb,jqc,jqd,jqe,jqf,jqg,jqh,jqi,jqj,jqk,jql,jqm,jqn,and_true,true_and,and_assoc,jqo,jqp,jqq,jqr,jqs,jqt,if_true,ite_true,jqu,ite_false,if_false]
  have g1:=h1.mono S1
  refine ⟨_,.inl ⟨_,g1,rfl⟩,by decide,by decide,by omega,by rw [List.length_map];omega,by decide,by decide,ZH (fun i σ H'=>(∃ o1 o2 o3 o4 o5 o6 o7 o8,σ=[some (.ref a),o1,o2,o3,o4,o5,o6,o7,o8])∧Same H1 H') ⟨⟨_,_,_,_,_,_,_,_,rfl⟩,Same.refl _⟩ ?_ fun σ H2 _=>q H2⟩
  rintro i σ H2 hi ⟨⟨o1,o2,o3,o4,o5,o6,o7,o8,rfl⟩,s2⟩
  have hl:2 * i + 1 < ns.length:=by
   rw [List.length_map] at hi
   unfold ZN at hi
   split at hi <;> omega
  have e:(0 + (i:Int) * 2)=((2 * i:Nat):Int):=by omega
  rw [e]
  exact zbT (g1.mono s2) h3 hl fun o1 o3 o4 o5 o6 o7 o8 H3 s3=>⟨⟨_,_,_,_,_,_,_,_,rfl⟩,s2.trans s3⟩
end
section
variable {P:Program} {w:World} {K:W.Frag} {mg:Str→Option Value} {base:Heap} {t:Adr}
theorem jt (T:Txt K mg t):FnOk P w K mg base (CX1 P w) 1 t.a__law_drawn t.d__law_drawn ["cell","many"] (yK):=by
 refine T.f__law_drawn.ok0 sc__law_drawn (fun vs H Q E h=>?_) (fun cdv A outer s H vs Q E hr h=>?_)
 ·obtain ⟨c,m,rfl,_⟩:=h;rfl
 obtain ⟨c,m,rfl,h1,h2,q⟩:=h
 exact ⟨jk K t,(zh (zD (i:=2) sc__law_drawn.nd rfl (Or.inl rfl) (zj zY (zj zT (pv 0) (zf (i:=999999937))) (zf (i:=1))))
  (zh (zD (i:=3) sc__law_drawn.nd rfl (Or.inl rfl) (zj zY (zj zT (zj yN (pv 0) (zf (i:=999999937))) (zf (i:=999999929))) (zf (i:=2))))
  (zh (zD (i:=4) sc__law_drawn.nd rfl (Or.inl rfl) (yp zi))
  (zh (ku PassesOwn.never rfl (Zt rfl T.b_range (zb (pv 1) zi)) (yE (i:=5) sc__law_drawn.nd rfl (Or.inl rfl)) (zh (zD (i:=2) sc__law_drawn.nd rfl (Or.inl rfl) (zj zT (zj zY (zj zY (zj jS (pv 2) (zf (i:=40009))) (pv 3)) (pv 5)) (zf (i:=999999937))))
  (zh (zD (i:=3) sc__law_drawn.nd rfl (Or.inl rfl) (zj zT (zj zY (zj jS (pv 3) (zf (i:=31))) (zj jS (pv 2) (pv 2))) (zf (i:=999999929))))
  (zr (J9 (vT PySem.F.plainAttrs_list PySem.F.slot_list_append PySem.F.type_list_append kW (pv 4) (zb (zj zY (pv 2) (pv 3)) zi)))))))
  (zr (zK (pv 4))))))),YI h1 h2 q⟩
theorem xj (T:Txt K mg t):FnOk P w K mg base (CX1 P w) 1 t.a__law_worth t.d__law_worth ["cell"] (yj):=by
 refine T.f__law_worth.ok0 sc__law_worth (fun vs H Q E h=>?_) (fun cdv A outer s H vs Q E hr h=>?_)
 ·obtain ⟨c,rfl,_⟩:=h;rfl
 obtain ⟨c,rfl,h1,q⟩:=h
 exact ⟨jm K t,(zh (zD (i:=1) sc__law_worth.nd rfl (Or.inl rfl) (zj yN (pv 0) (zf (i:=4))))
  (zh (yd (PW.pt (wq (zA yz (zj zT (pv 0) (zf (i:=4))) (zf (i:=0)) (zI _)) (wR (zA yz (zj zT (pv 1) (zf (i:=3))) (zf (i:=0)) (zI _))))) (zr (zK (zj qi (zj zT (zj Wz (zj yN (pv 1) (zf (i:=3))) (zf (i:=618033988749894848204586834365))) (zj zY (zj Wz (zf (i:=2)) (zj wv (zf (i:=10)) (zf (i:=30)))) (zf (i:=1)))) (zj wv (zf (i:=10)) (zf (i:=30))))))
    zJ)
  (zh (yd (zA yz (zj zT (pv 0) (zf (i:=4))) (zf (i:=1)) (zI _)) (zr (zK (zO zz (yp (zb (zj wv (zf (i:=10)) (zf (i:=30))) (zb (qQ jL (zj wv (zf (i:=10)) (zf (i:=30)))) (zb (zf (i:=0)) (zb (zf (i:=64)) (zb (qQ jL (zf (i:=64))) (zb (zf (i:=1)) (zb (qQ jL (zf (i:=1))) (zb (zf (i:=10)) zi))))))))) (zj zT (pv 1) (zf (i:=8))) (fun _ _=>rfl))))
    zJ)
  (zr (zK (zj qi (zj zT (pv 1) (zf (i:=7))) (zf (i:=3)))))))),YR h1 q⟩
theorem WZ (T:Txt K mg t):FnOk P w K mg base (CX1 P w) 1 t.a__law_rank t.d__law_rank ["cell"] (jX):=by
 refine T.f__law_rank.ok0 WE (fun vs H Q E h=>?_) (fun cdv A outer s H vs Q E hr h=>?_)
 ·obtain ⟨c,rfl,_⟩:=h;rfl
 obtain ⟨c,rfl,h,q⟩:=h
 exact ⟨jY K t,(zh (yd (zA yz (zj zT (pv 0) (zf (i:=8))) (zf (i:=0)) (zI _)) (zr (zK (zj zT (zj Wz (zj yN (pv 0) (zf (i:=8))) (zf (i:=618033988749894848204586834365))) (zj zY (zj wv (zf (i:=10)) (zf (i:=29))) (zf (i:=1))))))
   zJ)
  (zh (yd (zA yz (zj zT (pv 0) (zf (i:=8))) (zf (i:=1)) (zI _)) (zr (zK (zj wv (zf (i:=10)) (zf (i:=29)))))
    zJ)
  (zr (zK (zj zT (zj yN (pv 0) (zf (i:=8))) (zf (i:=100))))))),Xg h q⟩
theorem Zq (T:Txt K mg t):FnOk P w K mg base (CX1 P w) 2 t.a__law_name t.d__law_name ["cell"] (xT):=by
 refine T.f__law_name.ok0 sc__law_name (fun vs H Q E h=>?_) (fun cdv A outer s H vs Q E hr h=>?_)
 ·obtain ⟨c,rfl,_⟩:=h;rfl
 obtain ⟨c,rfl,q⟩:=h
 exact ⟨jZ K t,(zh (zD (i:=1) sc__law_name.nd rfl (Or.inl rfl) (zx (x:="abcdefghijklmnopqrstuvwxyz")))
  (zh (zD (i:=2) sc__law_name.nd rfl (Or.inl rfl) (yp (yP (x:="take") (yP (x:="give") (yP (x:="let") (yP (x:="say") (yP (x:="off") (yP (x:="if") (yP (x:="else") (yP (x:="end") (yP (x:="as") zi)))))))))))
  (zh (zD (i:=2) sc__law_name.nd rfl (Or.inl rfl) (zj yt (pv 2) (yp (zb (zx (x:="plus")) (zb (zx (x:="minus")) (zb (zx (x:="times")) (zb (zx (x:="over")) (zb (zx (x:="rest")) (zb (zx (x:="under")) (zb (zx (x:="same")) zi))))))))))
  (zh (zD (i:=3) sc__law_name.nd rfl (Or.inl rfl) (zM (FnOk.mono (jt T) (by decide)) hr rfl T.m__law_drawn T.f__law_drawn.kp T.b__law_drawn .nil yr (zb (zj yN (pv 0) (zf (i:=6))) (zb (zf (i:=6)) zi))))
  (zh (zD (i:=4) sc__law_name.nd rfl (Or.inl rfl) (zx (x:="")))
  (zh (ku PassesOwn.never rfl (Zt rfl T.b_range (zb (zj zY (zf (i:=1)) (zj zT (pv 0) (zf (i:=6)))) zi)) (yE (i:=5) sc__law_name.nd rfl (Or.inl rfl)) (zr (zD (i:=4) sc__law_name.nd rfl (Or.inl rfl) (zj yf (pv 4) (zO Ya (pv 1) (zj zT (zO zz (pv 3) (pv 5) (fun _ _=>rfl)) (zf (i:=26))) (fun _ _=>rfl))))))
  (zh (yd (zA kT (pv 4) (pv 2) (by with_unfolding_all rfl)) (zr (zD (i:=4) sc__law_name.nd rfl (Or.inl rfl) (zj yf (zN ky (pv 4) z0 (zQ (qQ jL (zf (i:=1))))) (zx (x:="q")))))
    zJ)
  (zr (zK (pv 4)))))))))),Xh q⟩
theorem Xi (T:Txt K mg t):FnOk P w K mg base (CX1 P w) 3 t.a__law_words t.d__law_words ["cell"] (jh):=by
 refine T.f__law_words.ok0 sc__law_words (fun vs H Q E h=>?_) (fun cdv A outer s H vs Q E hr h=>?_)
 ·obtain ⟨c,rfl,_⟩:=h;rfl
 obtain ⟨c,rfl,h1,q⟩:=h
 exact ⟨jn K t,(zh (zD (i:=1) sc__law_words.nd rfl (Or.inl rfl) (zM (FnOk.mono (jt T) (by decide)) hr rfl T.m__law_drawn T.f__law_drawn.kp T.b__law_drawn .nil yr (zb (pv 0) (zb (zf (i:=8)) zi))))
  (zh (zD (i:=2) sc__law_words.nd rfl (Or.inl rfl) (yp (zb (zx (x:="deal")) (zb (yh z7 rfl T.b_str xO (zb (zM (FnOk.mono (WZ T) (by decide)) hr rfl T.m__law_rank T.f__law_rank.kp T.b__law_rank .nil yr (zb (pv 0) zi)) zi)) zi))))
  (zh (yd (zA yz (zj zT (zO zz (pv 1) (zf (i:=0)) (fun _ _=>rfl)) (zf (i:=4))) (zf (i:=0)) (zI _)) (zr (zK (zj yt (pv 2) (yp (zb (zx (x:="off")) (zb (zO zz (yp (zb (zx (x:="told")) (zb (zx (x:="great")) (zb (zx (x:="nought")) zi)))) (zj zT (zj yN (zO zz (pv 1) (zf (i:=0)) (fun _ _=>rfl)) (zf (i:=4))) (zf (i:=3))) (fun _ _=>rfl)) (zb (zx (x:=";")) zi)))))))
    zJ)
  (zh (yd (zA yz (zj zT (zO zz (pv 1) (zf (i:=0)) (fun _ _=>rfl)) (zf (i:=4))) (zf (i:=1)) (zI _)) (zr (zcs (pv 2) (zf (i:=0)) (zx (x:="mark")) rfl))
    (zr (zD (i:=2) sc__law_words.nd rfl (Or.inl rfl) (zj yt (zj yt (pv 2) (yp (zb (zx (x:="done")) zi))) (qX rfl (osc:=zq yV) (N:=["cell","xs","head","worths","k","worth","place"]) (xs:=["one"]) (ix:=[]) (by decide +kernel) (kS (zN yc (pv 1) (zQ (zf (i:=1))) (zQ (zj zY (zf (i:=1)) (zj zT (zj yN (zO zz (pv 1) (zf (i:=0)) (fun _ _=>rfl)) (zf (i:=4))) (zf (i:=3))))))) (fun _ _ _ _=>(yE (i:=0) (show List.Nodup (["one"]:List Str) from (by decide +kernel)) rfl (Or.inl rfl) (.inr rfl))) (fun _ _ _ _=>jR) (fun _ _ _ _=>(yh z7 rfl T.b_str xO (zb (zM (FnOk.mono (xj T) (by decide)) hr rfl T.m__law_worth T.f__law_worth.kp T.b__law_worth .nil yr (zb (pv 0) zi)) zi))))))))
  (zh (zD (i:=3) sc__law_words.nd rfl (Or.inl rfl) Q5)
  (zh (ku PassesOwn.never rfl (Zt rfl T.b_range (zb (zj zT (zO zz (pv 1) (zf (i:=3)) (fun _ _=>rfl)) (zf (i:=4))) zi)) (yE (i:=4) sc__law_words.nd rfl (Or.inl rfl)) (zh (zD (i:=5) sc__law_words.nd rfl (Or.inl rfl) (zM (FnOk.mono (xj T) (by decide)) hr rfl T.m__law_worth T.f__law_worth.kp T.b__law_worth .nil yr (zb (zO zz (pv 1) (zj zY (zf (i:=4)) (pv 4)) (fun _ _=>rfl)) zi)))
  (zh (zD (i:=6) sc__law_words.nd rfl (Or.inl rfl) (jM (zb (zM (FnOk.mono (Zq T) (by decide)) hr rfl T.m__law_name T.f__law_name.kp T.b__law_name .nil yr (zb (zj yN (zO zz (pv 1) (zf (i:=3)) (fun _ _=>rfl)) (zj zY (zf (i:=4)) (pv 4))) zi)) (zb (zM (FnOk.mono (xj T) (by decide)) hr rfl T.m__law_worth T.f__law_worth.kp T.b__law_worth .nil yr (zb (zj yN (zO zz (pv 1) (zj zY (zf (i:=5)) (zj zT (pv 4) (zf (i:=3)))) (fun _ _=>rfl)) (zf (i:=16))) zi)) zi))))
  (zr (zb3 (zdh hr) (pv 3) (pv 6) (W1 (zA Xp (pv 5) (zf (i:=0)) (zI _)) (pv 5) (zf (i:=5))) rfl)))))
  (zh (zD (i:=2) sc__law_words.nd rfl (Or.inl rfl) (zj yt (pv 2) (yp (zb (zx (x:=";")) zi))))
  (zh (ku PassesOwn.never rfl (kS (zW (Wv rfl) rfl T.b_sorted XC (zb (pv 3) zi))) (yE (i:=6) sc__law_words.nd rfl (Or.inl rfl)) (zr (zD (i:=2) sc__law_words.nd rfl (Or.inl rfl) (zj yt (pv 2) (yp (zb (zO qk (pv 6) (zf (i:=0)) (fun _ _=>rfl)) (zb (yh z7 rfl T.b_str xO (zb (zO qk (pv 6) (zf (i:=1)) (fun _ _=>rfl)) zi)) (zb (yh z7 rfl T.b_str xO (zb (zb2 (zdh hr) (pv 3) (pv 6) (fun _ _=>rfl)) zi)) zi))))))))
  (zr (zK (pv 2))))))))))),YT h1 q⟩
theorem JV (T:Txt K mg t):FnOk P w K mg base (CX1 P w) 1 t.a_is_name t.d_is_name ["text"] (qA):=by
 refine T.f_is_name.ok0 JI (fun vs H Q E h=>?_) (fun cdv A outer s H vs Q E hr h=>?_)
 ·obtain ⟨x,rfl,_⟩:=h;rfl
 obtain ⟨x,rfl,hx,q⟩:=h
 exact ⟨qG K t,(zh (yd (PW.pt (Z5 (zA yz (pv 0) (zx (x:="")) (zI _)) (qf (zA Z8 (zW yL rfl T.b_len ww (zb (pv 0) zi)) (yC rfl T.g_MOST_LETTERS ⟨_,rfl⟩) (zI _))))) (zr (zK (kt (b:=false))))
   zJ)
  (zh (yd (PW.pt (Z5 (zA kT (pv 0) (yC rfl T.g_JOINING rfl) (by with_unfolding_all rfl)) (qf (zA kT (pv 0) (yC rfl T.g_ROW_WORDS rfl) (by with_unfolding_all rfl))))) (zr (zK (kt (b:=false))))
    zJ)
  (zr (zK (zW (XD rfl) rfl T.b_all zac (zb (qX rfl (osc:=zq wy) (N:=["text"]) (xs:=["sign"]) (ix:=[]) (by decide +kernel) (Jo (pv 0)) (fun _ _ _ _=>(yE (i:=0) (show List.Nodup (["sign"]:List Str) from (by decide +kernel)) rfl (Or.inl rfl) (.inr rfl))) (fun _ _ _ _=>jR) (fun _ _ _ _=>(qR Xq (pv 0) (yC rfl T.g_LETTERS ⟨_,rfl⟩) (by with_unfolding_all rfl)))) zi)))))),VW hx T.v_JOINING T.v_ROW_WORDS q⟩
theorem Ja (T:Txt K mg t):FnOk P w K mg base (CX1 P w) 2 t.a_shelf_in t.d_shelf_in ["word"] (kG t):=by
 refine T.f_shelf_in.ok1 VN (fun vs H Q E h=>?_) (fun cdv A outer s H vs Q E hr h=>?_)
 ·obtain ⟨x,rfl,_⟩:=h;rfl
 obtain ⟨x,rfl,h1,h2,h3,h4⟩:=h
 exact ⟨kI K t E,(zh (yd (qg (v6 (zM (FnOk.mono (JV T) (by decide)) hr rfl T.m_is_name T.f_is_name.kp T.b_is_name .nil jz (zb (pv 0) zi)))) (zr (y9 rfl T.x_NoLine xP rfl T.g_NoLine (zb (kX (pv 0)) zi)))
   zJ)
  (zr (zK (pv 0)))),WP h1 h2 h3 h4⟩
theorem Jb (T:Txt K mg t):FnOk P w K mg base (CX1 P w) 1 t.a_is_worth t.d_is_worth ["thing"] (kD K):=by
 refine T.f_is_worth.ok0 VO (fun vs H Q E h=>?_) (fun cdv A outer s H vs Q E hr h=>?_)
 ·obtain ⟨x,rfl,_⟩:=h;rfl
 obtain ⟨x,rfl,h⟩:=h
 exact ⟨kJ K t,(zh (yd (PW.pt (Z5 (qg (v6 (zW Yc rfl T.b_isinstance yJ (zb (pv 0) (zb (ZT rfl T.b_int Jm rfl) zi))))) (qf (v6 (zW Yc rfl T.b_isinstance yJ (zb (pv 0) (zb (ZT rfl T.b_bool zb7 rfl) zi))))))) (zr (zK (kt (b:=false))))
   zJ)
  (zr (zK (QU zde zde (qQ jL (zj wv (zf (i:=10)) (zf (i:=30)))) (pv 0) (zj wv (zf (i:=10)) (zf (i:=30))))))),WF (kf K).i_b h⟩
theorem Xj (T:Txt K mg t):FnOk P w K mg base (CX1 P w) 1 t.a_is_figures t.d_is_figures ["text"] (je):=by
 refine T.f_is_figures.ok0 Xa (fun vs H Q E h=>?_) (fun cdv A outer s H vs Q E hr h=>?_)
 ·obtain ⟨x,rfl,_⟩:=h;rfl
 obtain ⟨x,rfl,hx,q⟩:=h
 exact ⟨jo K t,(zr (zK (Z6 (qR Xp (pv 0) (zx (x:="")) (zI _)) (Wi (zW (XD rfl) rfl T.b_all zac (zb (qX rfl (osc:=zq yW) (N:=["text"]) (xs:=["sign"]) (ix:=[]) (by decide +kernel) (Jo (pv 0)) (fun _ _ _ _=>(yE (i:=0) (show List.Nodup (["sign"]:List Str) from (by decide +kernel)) rfl (Or.inl rfl) (.inr rfl))) (fun _ _ _ _=>jR) (fun _ _ _ _=>(qR Xq (pv 0) (yC rfl T.g_FIGURES ⟨_,rfl⟩) (by with_unfolding_all rfl)))) zi)))))),YG hx q⟩
theorem JW (T:Txt K mg t):FnOk P w K mg base (CX1 P w) 1 t.a_numeral t.d_numeral ["worth"] (qz):=by
 refine T.f_numeral.ok0 JJ (fun vs H Q E h=>?_) (fun cdv A outer s H vs Q E hr h=>?_)
 ·obtain ⟨w,rfl,_⟩:=h;rfl
 obtain ⟨w,rfl,hw,q⟩:=h
 exact ⟨qH K t,(zr (zK (yh z7 rfl T.b_str xO (zb (pv 0) zi)))),VU hw q⟩
theorem Xk (T:Txt K mg t):FnOk P w K mg base (CX1 P w) 2 t.a_is_numeral t.d_is_numeral ["text"] (jf):=by
 refine T.f_is_numeral.ok0 sc_is_numeral (fun vs H Q E h=>?_) (fun cdv A outer s H vs Q E hr h=>?_)
 ·obtain ⟨x,rfl,_⟩:=h;rfl
 obtain ⟨x,rfl,hx,q⟩:=h
 exact ⟨jp K t,(zh (zD (i:=1) sc_is_numeral.nd rfl (Or.inl rfl) (W1 (v6 (vT PySem.F.plainAttrs_str PySem.F.slot_str_startswith PySem.F.type_str_startswith Y5 (pv 0) (zb (zx (x:="-")) zi))) (zN ky (pv 0) (zQ (zf (i:=1))) z0) (pv 0)))
  (zh (yd (PW.pt (Z5 (zA Z8 (zW yL rfl T.b_len ww (zb (pv 1) zi)) (yC rfl T.g_MOST_FIGURES ⟨_,rfl⟩) (zI _)) (qf (qg (v6 (zM (FnOk.mono (Xj T) (by decide)) hr rfl T.m_is_figures T.f_is_figures.kp T.b_is_figures .nil yr (zb (pv 1) zi))))))) (zr (zK (kt (b:=false))))
    zJ)
  (zh (zD (i:=2) sc_is_numeral.nd rfl (Or.inl rfl) (yh qY rfl T.b_int Jm (zb (pv 0) zi)))
  (zr (zK (Z6 (zM (FnOk.mono (Jb T) (by decide)) hr rfl T.m_is_worth T.f_is_worth.kp T.b_is_worth .nil yr (zb (pv 2) zi)) (Wi (qR yz (zM (FnOk.mono (JW T) (by decide)) hr rfl T.m_numeral T.f_numeral.kp T.b_numeral .nil yr (zb (pv 2) zi)) (pv 0) (zI _))))))))),YH hx q⟩
theorem Jc (T:Txt K mg t):FnOk P w K mg base (CXN P w) 3 t.a_worth_in t.d_worth_in ["text"] (kE t):=by
 refine T.f_worth_in.okN VP (fun vs H Q E h=>?_) (fun cdv A outer s H vs Q E hr h=>?_)
 ·obtain ⟨x,rfl,_⟩:=h;rfl
 obtain ⟨x,rfl,hx,ha,q⟩:=h
 exact ⟨kK K t E,(zh (yd (qg (v6 (zM (FnOk.mono (Xk T) (by decide)) hr rfl T.m_is_numeral T.f_is_numeral.kp T.b_is_numeral .nil yr (zb (pv 0) zi)))) (zr (y9 rfl T.x_NoNumber zcH rfl T.g_NoNumber (zb (kX (pv 0)) zi)))
   zJ)
  (zr (zK (yh qY rfl T.b_int Jm (zb (pv 0) zi))))),WG hx ha q⟩
theorem vx (T:Txt K mg t):FnOk P w K mg base (CX1 P w) 4 t.a_number_in t.d_number_in ["word"] (yI t):=by
 refine T.f_number_in.ok1 sc_number_in (fun vs H Q E h=>?_) (fun cdv A outer s H vs Q E hr h=>?_)
 ·obtain ⟨x,rfl,_⟩:=h;rfl
 obtain ⟨x,rfl,h1,h2,h3,h4⟩:=h
 exact ⟨j3 K t E,(zr (zbu (i:=1) (And.intro rfl rfl) rfl sc_number_in.nd (QI (FnOk.mono (Jc T) (by decide)) hr rfl T.m_worth_in T.f_worth_in.kp T.b_worth_in (zb (pv 0) zi)) rfl T.g_NoNumber T.x_NoNumber T.e_NoNumber_NoNumber rfl rfl T.x_NoLine VL (fun _=>PassesOwnAt.leaving) rfl T.g_NoLine (fun _=>(zb (kX (pv 0)) zi)))),Xe h1 h2 h3 h4⟩
theorem JX (T:Txt K mg t):FnOk P w K mg base (CX1 P w) 5 t.a_rows_in t.d_rows_in ["words"] (qB t):=by
 refine T.f_rows_in.ok1 sc_rows_in (fun vs H Q E h=>?_) (fun cdv A outer s H vs Q E hr h=>?_)
 ·obtain ⟨a,ws,rfl,_⟩:=h;rfl
 obtain ⟨a,ws,rfl,h1,h2,h3,h4⟩:=h
 exact ⟨qI K t E,(zh (yd (zA Xp (zj zT (zW yL rfl T.b_len ww (zb (pv 0) zi)) (zf (i:=3))) (zf (i:=0)) (zI _)) (zr (y9 rfl T.x_NoLine xP rfl T.g_NoLine (zb (zx (x:="not three words for each place")) zi)))
   zJ)
  (zh (zD (i:=1) sc_rows_in.nd rfl (Or.inl rfl) (yp zi))
  (zh (ku zeS rfl (XU rfl T.b_range (zb (zf (i:=0)) (zb (zW yL rfl T.b_len ww (zb (pv 0) zi)) (zb (zf (i:=3)) zi)))) (yE (i:=2) sc_rows_in.nd rfl (Or.inl rfl)) (zh (zD (i:=3) sc_rows_in.nd rfl (Or.inl rfl) (jM (zb (zM (FnOk.mono (Ja T) (by decide)) hr rfl T.m_shelf_in T.f_shelf_in.kp T.b_shelf_in .nil jz (zb (zO zz (pv 0) (pv 2) (fun _ _=>rfl)) zi)) (zb (zM (FnOk.mono (vx T) (by decide)) hr rfl T.m_number_in T.f_number_in.kp T.b_number_in .nil jz (zb (zO zz (pv 0) (zj zY (pv 2) (zf (i:=1))) (fun _ _=>rfl)) zi)) zi))))
  (zr (J9 (vT PySem.F.plainAttrs_list PySem.F.slot_list_append PySem.F.type_list_append kW (pv 1) (zb (jM (zb (pv 3) (zb (zM (FnOk.mono (vx T) (by decide)) hr rfl T.m_number_in T.f_number_in.kp T.b_number_in .nil jz (zb (zO zz (pv 0) (zj zY (pv 2) (zf (i:=2))) (fun _ _=>rfl)) zi)) zi))) zi))))))
  (zh (Jl (j:=4) sc_rows_in.nd rfl rfl (Or.inl rfl) (osc:=zq wD) (N:=["words","rows","at","place","places"]) (xs:=["place","worth"]) (ix:=[]) (by decide +kernel) (kS (pv 1)) (fun _ _ _ _=>(Je rfl (jx (yE (i:=0) (show List.Nodup (["place","worth"]:List Str) from (by decide +kernel)) rfl (Or.inl rfl)) (jx (yE (i:=1) (show List.Nodup (["place","worth"]:List Str) from (by decide +kernel)) rfl (Or.inl rfl)) Wj)))) (fun _ _ _ _=>jR) (fun _ _ _ _=>(pv 0)))
  (zh (yd (zA (zaH (zcd hr)) (pv 4) (zcG rfl (hu8 hr) rfl T.b_sorted rfl T.b_set (zb (pv 4) zi)) (zI _)) (zr (y9 rfl T.x_NoLine xP rfl T.g_NoLine (zb (zx (x:="a place twice, or places out of order")) zi)))
    zJ)
  (zr (zK (pv 1)))))))),V2 h1 h2 h3 h4⟩
theorem Xl (T:Txt K mg t):FnOk P w K mg base (CX1 P w) 5 t.a_outcome_in t.d_outcome_in ["words"] (jg t):=by
 refine T.f_outcome_in.ok1 Xb (fun vs H Q E h=>?_) (fun cdv A outer s H vs Q E hr h=>?_)
 ·obtain ⟨a,ws,rfl,_⟩:=h;rfl
 obtain ⟨a,ws,rfl,h1,h2,h3,h4⟩:=h
 exact ⟨jq K t E,(zh (yd (zA (zdL (zcd hr)) (zN yc (pv 0) z0 (zQ (zf (i:=1)))) (yp (zb (zx (x:="done")) zi)) (zI _)) (zr (zK (jM (zb (zx (x:="done")) (zb (yh Y3 rfl T.b_tuple Vb (zb (zbv (And.intro rfl rfl) rfl VL rfl (osc:=zq yX) (N:=["words"]) (xs:=["word"]) (ix:=[]) (by decide +kernel) (kS (zN yc (pv 0) (zQ (zf (i:=1))) z0)) (fun _ _ _ _=>(yE (i:=0) (show List.Nodup (["word"]:List Str) from (by decide +kernel)) rfl (Or.inl rfl) (.inr rfl))) (fun _ _ _ _=>jR) (fun _ _ _ _=>(zM (FnOk.mono (vx T) (by decide)) hr rfl T.m_number_in T.f_number_in.kp T.b_number_in .nil zeE (zb (pv 0) zi)))) zi)) zi)))))
   zJ)
  (zh (yd (PW.pt (wq (zA yz (zW yL rfl T.b_len ww (zb (pv 0) zi)) (zf (i:=2)) (zI _)) (wq (zA yz (zO zz (pv 0) (zf (i:=0)) (fun _ _=>rfl)) (zx (x:="off")) (zI _)) (wR (zA kT (zO zz (pv 0) (zf (i:=1)) (fun _ _=>rfl)) (yC rfl T.g_WHYS rfl) (by with_unfolding_all rfl)))))) (zr (zK (jM (zb (zx (x:="off")) (zb (zO zz (pv 0) (zf (i:=1)) (fun _ _=>rfl)) zi)))))
    zJ)
  (zr (y9 rfl T.x_NoLine xP rfl T.g_NoLine (zb (zbq hr (pv 0)) zi))))),YO (fun H=>T.v_WHYS H) h1 h2 h3 h4⟩
theorem YY (T:Txt K mg t):FnOk P w K mg base (CX1 P w) 5 t.a_rank_in t.d_rank_in ["word"] (vL t):=by
 refine T.f_rank_in.ok1 sc_rank_in (fun vs H Q E h=>?_) (fun cdv A outer s H vs Q E hr h=>?_)
 ·obtain ⟨x,rfl,_⟩:=h;rfl
 obtain ⟨x,rfl,h1,h2,h3,h4⟩:=h
 exact ⟨qJ K t E,(zh (zD (i:=1) sc_rank_in.nd rfl (Or.inl rfl) (zM (FnOk.mono (vx T) (by decide)) hr rfl T.m_number_in T.f_number_in.kp T.b_number_in .nil jz (zb (pv 0) zi)))
  (zh (yd (PW.pt (Z5 (zA Ke (pv 1) (zf (i:=0)) (zI _)) (qf (zA Z8 (pv 1) (zj wv (zf (i:=10)) (zf (i:=29))) (zI _))))) (zr (y9 rfl T.x_NoLine xP rfl T.g_NoLine (zb (kX (pv 0)) zi)))
    zJ)
  (zr (zK (pv 1))))),VZ h1 h2 h3 h4⟩
theorem JY (T:Txt K mg t):FnOk P w K mg base (CX1 P w) 6 t.a_deal_in t.d_deal_in ["words","rows"] (qC t):=by
 refine T.f_deal_in.ok1 sc_deal_in (fun vs H Q E h=>?_) (fun cdv A outer s H vs Q E hr h=>?_)
 ·obtain ⟨a,g,ws,gs,rfl,_⟩:=h;rfl
 obtain ⟨a,g,ws,gs,rfl,h1,h2,h3,h4,h5⟩:=h
 exact ⟨qK K t E,(zh (zD (i:=2) sc_deal_in.nd rfl (Or.inl rfl) (zM (FnOk.mono (Xl T) (by decide)) hr rfl T.m_outcome_in T.f_outcome_in.kp T.b_outcome_in .nil jz (zb (zN yc (pv 0) (zQ (zf (i:=2))) z0) zi)))
  (zh (yd (PW.pt (wq (zA yz (zO qk (pv 2) (zf (i:=0)) (fun _ _=>rfl)) (zx (x:="off")) (zI _)) (wR (zA (zaT (zcd hr)) (pv 1) (yp zi) (zI _))))) (zr (y9 rfl T.x_NoLine xP rfl T.g_NoLine (zb (zx (x:="a dealing that was broken off, with gifts")) zi)))
    zJ)
  (zr (zK (jM (zb (zx (x:="deal")) (zb (zM (FnOk.mono (YY T) (by decide)) hr rfl T.m_rank_in T.f_rank_in.kp T.b_rank_in .nil jz (zb (zO zz (pv 0) (zf (i:=1)) (fun _ _=>rfl)) zi)) (zb (pv 2) (zb (pv 1) zi))))))))),V0 h1 h2 h3 h4 h5⟩
theorem JZ (T:Txt K mg t):FnOk P w K mg base (CX1 P w) 6 t.a_mark_in t.d_mark_in ["words","rows"] (qD t):=by
 refine T.f_mark_in.ok1 JK (fun vs H Q E h=>?_) (fun cdv A outer s H vs Q E hr h=>?_)
 ·obtain ⟨a,g,ws,gs,rfl,_⟩:=h;rfl
 obtain ⟨a,g,ws,gs,rfl,h1,h2,h3,h4,h5,h6⟩:=h
 exact ⟨qL K t E,(zh (yd (zA Xp (zW yL rfl T.b_len ww (zb (pv 0) zi)) (zf (i:=2)) (zI _)) (zr (y9 rfl T.x_NoLine xP rfl T.g_NoLine (zb (zx (x:="a mark without one rank")) zi)))
   zJ)
  (zh (yd (v6 (zW (Qq rfl) rfl T.b_any zdG (zb (qX rfl (osc:=zq wE) (N:=["words","rows"]) (xs:=["place","worth"]) (ix:=[]) (by decide +kernel) (kS (pv 1)) (fun _ _ _ _=>(Je rfl (jx (yE (i:=0) (show List.Nodup (["place","worth"]:List Str) from (by decide +kernel)) rfl (Or.inl rfl)) (jx (yE (i:=1) (show List.Nodup (["place","worth"]:List Str) from (by decide +kernel)) rfl (Or.inl rfl)) Wj)))) (fun _ _ _ _=>jR) (fun _ _ _ _=>(qR yz (pv 1) (zf (i:=0)) (zI _)))) zi))) (zr (y9 rfl T.x_NoLine xP rfl T.g_NoLine (zb (zx (x:="a mark with a worth of 0")) zi)))
    zJ)
  (zr (zK (jM (zb (zx (x:="mark")) (zb (zM (FnOk.mono (YY T) (by decide)) hr rfl T.m_rank_in T.f_rank_in.kp T.b_rank_in .nil jz (zb (zO zz (pv 0) (zf (i:=1)) (fun _ _=>rfl)) zi)) (zb (pv 1) zi)))))))),V1 h1 h2 h3 h4 h5 h6⟩
theorem Jd (T:Txt K mg t):FnOk P w K mg base (CX1 P w) 1 t.a_check_of t.d_check_of ["body"] (kF):=by
 refine T.f_check_of.ok0 sc_check_of (fun vs H Q E h=>?_) (fun cdv A outer s H vs Q E hr h=>?_)
 ·obtain ⟨z,rfl,_⟩:=h;rfl
 obtain ⟨z,rfl,h1,h2,q⟩:=h
 exact ⟨kL K t,(zh (zD (i:=1) sc_check_of.nd rfl (Or.inl rfl) (zW (Qp rfl) rfl T.b_sum zdH (zb (qX rfl (osc:=zq xE) (N:=["body","total"]) (xs:=["at","sign"]) (ix:=[]) (by decide +kernel) (zbe rfl T.b_enumerate (zb (pv 0) zi)) (fun _ _ _ _=>(Je rfl (jx (yE (i:=0) (show List.Nodup (["at","sign"]:List Str) from (by decide +kernel)) rfl (Or.inl rfl)) (jx (yE (i:=1) (show List.Nodup (["at","sign"]:List Str) from (by decide +kernel)) rfl (Or.inl rfl)) Wj)))) (fun _ _ _ _=>jR) (fun _ _ _ _=>(zj jS (zW W2 rfl T.b_ord zad (zb (pv 1) zi)) (zj zY (zf (i:=1)) (zj zT (pv 0) (yC rfl T.g_MOST_FACTOR ⟨_,rfl⟩)))))) zi)))
  (zr (zK (vT PySem.F.plainAttrs_str PySem.F.slot_str_zfill PySem.F.type_str_zfill zbg (yh z7 rfl T.b_str xO (zb (zj zT (pv 1) (yC rfl T.g_CHECK_BY ⟨_,rfl⟩)) zi)) (zb (yC rfl T.g_CHECK_FIGURES ⟨_,rfl⟩) zi))))),WL h1 h2 q⟩
theorem J8 (T:Txt K mg t):FnOk P w K mg base (CX1 P w) 2 t.a_body_in t.d_body_in ["text"] (qF t):=by
 refine T.f_body_in.ok1 sc_body_in (fun vs H Q E h=>?_) (fun cdv A outer s H vs Q E hr h=>?_)
 ·obtain ⟨x,p,s0,d,rfl,_⟩:=h;rfl
 obtain ⟨x,p,s0,d,rfl,h1,h2,h3,h4,h5,h6,h7⟩:=h
 exact ⟨qM K t E,(zh (zD (i:=1) sc_body_in.nd rfl (Or.inl rfl) (vT PySem.F.plainAttrs_str PySem.F.slot_str_rpartition PySem.F.type_str_rpartition Y6 (pv 0) (zb (zx (x:=" ")) zi)))
  (zh (yd (zA Xp (zO qk (pv 1) (zf (i:=2)) (fun _ _=>rfl)) (zM (FnOk.mono (Jd T) (by decide)) hr rfl T.m_check_of T.f_check_of.kp T.b_check_of .nil jz (zb (zO qk (pv 1) (zf (i:=0)) (fun _ _=>rfl)) zi)) (zI _)) (zr (y9 rfl T.x_NoLine xP rfl T.g_NoLine (zb (kX (pv 0)) zi)))
    zJ)
  (zr (zK (zO qk (pv 1) (zf (i:=0)) (fun _ _=>rfl)))))),V3 h1 h2 h3 h4 h5 h6 h7⟩
theorem Zr (T:Txt K mg t):FnOk P w K mg base (CX1 P w) 7 t.a_line_read t.d_line_read ["text"] (xS t):=by
 refine T.f_line_read.ok1 sc_line_read (fun vs H Q E h=>?_) (fun cdv A outer s H vs Q E hr h=>?_)
 ·obtain ⟨x,p,s0,d,rfl,_⟩:=h;rfl
 obtain ⟨x,p,s0,d,rfl,h1,h2,h3,h4,h5,h6,h7,h8⟩:=h
 exact ⟨j8 K t E,(zh (zD (i:=1) sc_line_read.nd rfl (Or.inl rfl) (vT PySem.F.plainAttrs_str PySem.F.slot_str_split PySem.F.type_str_split zaQ (zM (FnOk.mono (J8 T) (by decide)) hr rfl T.m_body_in T.f_body_in.kp T.b_body_in .nil jz (zb (pv 0) zi)) (zb (zx (x:=" ")) zi)))
  (zh (yd (zA Wn (zx (x:=";")) (pv 1) (by with_unfolding_all rfl)) (zr (y9 rfl T.x_NoLine xP rfl T.g_NoLine (zb (zx (x:="a line without its ;")) zi)))
    zJ)
  (zh (zD (i:=2) sc_line_read.nd rfl (Or.inl rfl) (vT PySem.F.plainAttrs_list PySem.F.slot_list_index PySem.F.type_list_index jE (pv 1) (zb (zx (x:=";")) zi)))
  (zh (zD (i:=3) sc_line_read.nd rfl (Or.inl rfl) (zM (FnOk.mono (JX T) (by decide)) hr rfl T.m_rows_in T.f_rows_in.kp T.b_rows_in .nil jz (zb (zN yc (pv 1) (zQ (zj zY (pv 2) (zf (i:=1)))) z0) zi)))
  (zh (yd (zA yz (zO zz (pv 1) (zf (i:=0)) (fun _ _=>rfl)) (zx (x:="deal")) (zI _)) (zr (zK (zM (FnOk.mono (JY T) (by decide)) hr rfl T.m_deal_in T.f_deal_in.kp T.b_deal_in .nil jz (zb (zN yc (pv 1) z0 (zQ (pv 2))) (zb (pv 3) zi)))))
    zJ)
  (zh (yd (zA yz (zO zz (pv 1) (zf (i:=0)) (fun _ _=>rfl)) (zx (x:="mark")) (zI _)) (zr (zK (zM (FnOk.mono (JZ T) (by decide)) hr rfl T.m_mark_in T.f_mark_in.kp T.b_mark_in .nil jz (zb (zN yc (pv 1) z0 (zQ (pv 2))) (zb (pv 3) zi)))))
    zJ)
  (zr (y9 rfl T.x_NoLine xP rfl T.g_NoLine (zb (kX (pv 0)) zi))))))))),Xf h1 h2 h3 h4 h5 h6 h7 h8⟩
theorem kn (T:Txt K mg t):FnOk P w K mg base (CX1 P w) 8 t.a__law_refused t.d__law_refused ["text"] (xb t):=by
 refine T.f__law_refused.ok0 sc__law_refused (fun vs H Q E h=>?_) (fun cdv A outer s H vs Q E hr h=>?_)
 ·obtain ⟨x,rfl,_⟩:=h;rfl
 obtain ⟨x,rfl,h1,q⟩:=h
 exact ⟨vm K t,(zh (zD (i:=1) sc__law_refused.nd rfl (Or.inl rfl) (kt (b:=false)))
  (zh (zD (i:=2) sc__law_refused.nd rfl (Or.inl rfl) (kt (b:=false)))
  (zh (zD (i:=3) sc__law_refused.nd rfl (Or.inl rfl) (kt (b:=false)))
  (zh (zdJ (i:=4) (And.intro rfl rfl) rfl sc__law_refused.nd (zah (zag (FnOk.mono (Zr T) (by decide)) hr rfl T.m_line_read T.f_line_read.kp T.b_line_read (zb (pv 0) zi))) rfl T.g_ForerunError rfl rfl (fun _=>(zh (zD (i:=1) sc__law_refused.nd rfl (Or.inl rfl) (Z6 (zW Vg rfl T.b_isinstance yJ (zb (pv 4) (zb (yC rfl T.g_NoLine rfl) zi))) (Wi (zW Vg rfl T.b_isinstance yJ (zb (pv 4) (zb (ZT rfl T.b_ValueError Y4 rfl) zi))))))
  (zh (zD (i:=2) sc__law_refused.nd rfl (Or.inl rfl) (zW XG rfl T.b_isinstance yJ (zb (pv 4) (zb (jM (zb (yC rfl T.g_NoNumber rfl) (zb (yC rfl T.g_NoTerm rfl) (zb (yC rfl T.g_NoDealing rfl) (zb (yC rfl T.g_Nought rfl) (zb (yC rfl T.g_Great rfl) zi)))))) zi))))
  (zr (zD (i:=3) sc__law_refused.nd rfl (Or.inl rfl) (zW XG rfl T.b_isinstance yJ (zb (pv 4) (zb (jM (zb (yC rfl T.g_Folded rfl) (zb (yC rfl T.g_NoHand rfl) (zb (yC rfl T.g_NoOrder rfl) (zb (yC rfl T.g_NoLog rfl) zi))))) zi)))))))))
  (zr (zK (Z6 (pv 1) (Z6 (QR (pv 2)) (Wi (QR (pv 3))))))))))),Zy T h1 q⟩
theorem qa (T:Txt K mg t):FnOk P w K mg base (CX1 P w) 1 t.a__law_other_check t.d__law_other_check ["check","xs"] (xz):=by
 refine T.f__law_other_check.ok0 sc__law_other_check (fun vs H Q E h=>?_) (fun cdv A outer s H vs Q E hr h=>?_)
 ·obtain ⟨c,l,rfl,_⟩:=h;rfl
 obtain ⟨c,l,rfl,h1,h2,h3,h4,q⟩:=h
 exact ⟨xA K t,(zh (zD (i:=2) sc__law_other_check.nd rfl (Or.inl rfl) (zx (x:="0123456789+-_ \n\t")))
  (zh (zD (i:=3) sc__law_other_check.nd rfl (Or.inl rfl) (zj zT (zO zz (pv 1) (zf (i:=1)) (fun _ _=>rfl)) (zf (i:=16))))
  (zh (yd (zA yz (zj zT (zO zz (pv 1) (zf (i:=2)) (fun _ _=>rfl)) (zf (i:=3))) (zf (i:=0)) (zI _)) (zh (zD (i:=4) sc__law_other_check.nd rfl (Or.inl rfl) (zj zT (zO zz (pv 1) (zf (i:=0)) (fun _ _=>rfl)) (zf (i:=5))))
  (zr (zK (zj yf (zj yf (zN ky (pv 0) z0 (zQ (pv 4))) (zO Ya (pv 2) (pv 3) (fun _ _=>rfl))) (zN ky (pv 0) (zQ (pv 4)) z0)))))
   zJ)
  (zh (zD (i:=4) sc__law_other_check.nd rfl (Or.inl rfl) (zj zT (zO zz (pv 1) (zf (i:=0)) (fun _ _=>rfl)) (zf (i:=4))))
  (zh (yd (zA yz (zj zT (zO zz (pv 1) (zf (i:=2)) (fun _ _=>rfl)) (zf (i:=3))) (zf (i:=1)) (zI _)) (zr (zK (zj yf (zN ky (pv 0) z0 (zQ (pv 4))) (zN ky (pv 0) (zQ (zj zY (pv 4) (zf (i:=1)))) z0))))
    zJ)
  (zh (yd (zA yz (zO Ya (pv 2) (pv 3) (fun _ _=>rfl)) (zO Ya (pv 0) (pv 4) (fun _ _=>rfl)) (zI _)) (zr (zD (i:=3) sc__law_other_check.nd rfl (Or.inl rfl) (zj zT (zj zY (pv 3) (zf (i:=1))) (zf (i:=16)))))
    zJ)
  (zr (zK (zj yf (zj yf (zN ky (pv 0) z0 (zQ (pv 4))) (zO Ya (pv 2) (pv 3) (fun _ _=>rfl))) (zN ky (pv 0) (zQ (zj zY (pv 4) (zf (i:=1)))) z0)))))))))),kR h1 h2 h3 h4 q⟩
theorem ZJ (T:Txt K mg t):FnOk P w K mg base (CX1 P w) 1 t.a__law_odd t.d__law_odd ["cell"] (w4):=by
 refine T.f__law_odd.ok0 sc__law_odd (fun vs H Q E h=>?_) (fun cdv A outer s H vs Q E hr h=>?_)
 ·obtain ⟨c,rfl,_⟩:=h;rfl
 obtain ⟨c,rfl,q⟩:=h
 refine ⟨kN K t,?_,WV q⟩
 refine zh ?_ ?_
 ·refine zD (i:=1) ?z ?a ?b ?c (hs:=?d) (hf:=?e)
  case z=>exact sc__law_odd.nd
  case a=>rfl
  case b=>exact (Or.inl rfl)
  case c =>
   refine yp ?_
   refine yP (x:="") ?_
   refine yP (x:="-") ?_
   refine yP (x:="-0") ?_
   refine yP (x:="00") ?_
   refine yP (x:="007") ?_
   refine yP (x:="+1") ?_
   refine yP (x:="1x") ?_
   refine yP (x:="A") ?_
   refine yP (x:="Q7") ?_
   refine yP (x:="abcdefg") ?_
   refine yP (x:="take") ?_
   exact zi
  case d=>rfl
  case e=>first | exact .inl rfl | exact .inr rfl | assumption
 ·refine zh ?_ ?_
  ·refine zD (i:=1) ?z ?a ?b ?c (hs:=?d) (hf:=?e)
   case z=>exact sc__law_odd.nd
   case a=>rfl
   case b=>exact (Or.inl rfl)
   case c =>
    refine zj yt (pv 1) ?_
    refine yp ?_
    refine zb (zx (x:="times")) ?_
    refine zb (zx (x:="as")) ?_
    refine zb (zx (x:="Done")) ?_
    refine zb (zx (x:=";;")) ?_
    refine zb (zx (x:="1.0")) ?_
    refine zb (yh z7 rfl T.b_str xO (zb (zj zY (zj wv (zf (i:=10)) (zf (i:=30))) (zf (i:=1))) zi)) ?_
    exact zi
   case d=>rfl
   case e=>first | exact .inl rfl | exact .inr rfl | assumption
  ·refine zh ?_ ?_
   ·refine zD (i:=1) ?z ?a ?b ?c (hs:=?d) (hf:=?e)
    case z=>exact sc__law_odd.nd
    case a=>rfl
    case b=>exact (Or.inl rfl)
    case c =>
     refine zj yt (pv 1) ?_
     refine yp ?_
     refine zb (yh z7 rfl T.b_str xO (zb (zj qi (qQ jL (zj wv (zf (i:=10)) (zf (i:=30)))) (zf (i:=1))) zi)) ?_
     refine zb (zj Yh (zx (x:="9")) (zf (i:=40))) ?_
     refine zb (zx (x:="a1")) ?_
     refine zb (zx (x:="a;")) ?_
     refine zb (zx (x:="mark1")) ?_
     refine zb (zx (x:="deal!")) ?_
     refine zb (zx (x:="1_0")) ?_
     exact zi
    case d=>rfl
    case e=>first | exact .inl rfl | exact .inr rfl | assumption
   ·refine zr ?_
    exact (zK (zO zz (pv 1) (zj zT (pv 0) (zf (i:=24))) (fun _ _=>rfl)))
theorem ZS (T:Txt K mg t):FnOk P w K mg base (CX1 P w) 2 t.a__law_odd_put t.d__law_odd_put ["words","xs"] (vc):=by
 refine T.f__law_odd_put.ok0 sc__law_odd_put (fun vs H Q E h=>?_) (fun cdv A outer s H vs Q E hr h=>?_)
 ·obtain ⟨a,l,ws,rfl,_⟩:=h;rfl
 obtain ⟨a,l,ws,rfl,h1,h2,h3,q⟩:=h
 exact ⟨vn K t,(zh (zD (i:=2) sc__law_odd_put.nd rfl (Or.inl rfl) (zj zT (zO zz (pv 1) (zf (i:=0)) (fun _ _=>rfl)) (zj zY (zW yL rfl T.b_len ww (zb (pv 0) zi)) (zf (i:=1)))))
  (zh (yd (zA yz (zj zT (zO zz (pv 1) (zf (i:=1)) (fun _ _=>rfl)) (zf (i:=8))) (zf (i:=5)) (zI _)) (zh (yd (PW.pt (Z5 (zA yz (zO zz (pv 0) (zf (i:=2)) (fun _ _=>rfl)) (zx (x:="done")) (zI _)) (qf (zA yz (zj zT (zO zz (pv 1) (zf (i:=2)) (fun _ _=>rfl)) (zf (i:=3))) (zf (i:=0)) (zI _))))) (zr (zK (zj yt (zj yt (zN yc (pv 0) z0 (zQ (pv 2))) (yp (zb (zx (x:=";")) zi))) (zN yc (pv 0) (zQ (pv 2)) z0))))
    zJ)
  (zr (zK (zj yt (zj yt (zN yc (pv 0) z0 (zQ (vT PySem.F.plainAttrs_list PySem.F.slot_list_index PySem.F.type_list_index jE (pv 0) (zb (zx (x:=";")) zi)))) (yp (zb (zO zz (yp (zb (zx (x:="7")) (zb (zx (x:="0")) zi))) (zj zT (zO zz (pv 1) (zf (i:=2)) (fun _ _=>rfl)) (zf (i:=2))) (fun _ _=>rfl)) zi))) (zN yc (pv 0) (zQ (vT PySem.F.plainAttrs_list PySem.F.slot_list_index PySem.F.type_list_index jE (pv 0) (zb (zx (x:=";")) zi))) z0)))))
   zJ)
  (zh (yd (PW.pt (wq (zA yz (zj zT (zO zz (pv 1) (zf (i:=1)) (fun _ _=>rfl)) (zf (i:=4))) (zf (i:=3)) (zI _)) (wR (zA Ke (zj zY (pv 2) (zf (i:=1))) (zW yL rfl T.b_len ww (zb (pv 0) zi)) (zI _))))) (zh (zD (i:=3) sc__law_odd_put.nd rfl (Or.inl rfl) (zj yf (zj yf (zO zz (pv 0) (pv 2) (fun _ _=>rfl)) (zO zz (yp (zb (zx (x:="\t")) (zb (zx (x:="\n")) (zb (zx (x:=",")) zi)))) (zj zT (zO zz (pv 1) (zf (i:=2)) (fun _ _=>rfl)) (zf (i:=3))) (fun _ _=>rfl))) (zO zz (pv 0) (zj zY (pv 2) (zf (i:=1))) (fun _ _=>rfl))))
  (zr (zK (zj yt (zj yt (zN yc (pv 0) z0 (zQ (pv 2))) (yp (zb (pv 3) zi))) (zN yc (pv 0) (zQ (zj zY (pv 2) (zf (i:=2)))) z0)))))
   zJ)
  (zh (yd (PW.pt (wq (zA yz (zj zT (zO zz (pv 1) (zf (i:=1)) (fun _ _=>rfl)) (zf (i:=2))) (zf (i:=0)) (zI _)) (wR (zA Ke (pv 2) (zW yL rfl T.b_len ww (zb (pv 0) zi)) (zI _))))) (zr (zK (zj yt (zj yt (zN yc (pv 0) z0 (zQ (pv 2))) (yp (zb (zM (FnOk.mono (ZJ T) (by decide)) hr rfl T.m__law_odd T.f__law_odd.kp T.b__law_odd .nil yr (zb (zO zz (pv 1) (zf (i:=2)) (fun _ _=>rfl)) zi)) zi))) (zN yc (pv 0) (zQ (zj zY (pv 2) (zf (i:=1)))) z0))))
    zJ)
  (zr (zK (zj yt (zj yt (zN yc (pv 0) z0 (zQ (pv 2))) (yp (zb (zM (FnOk.mono (ZJ T) (by decide)) hr rfl T.m__law_odd T.f__law_odd.kp T.b__law_odd .nil yr (zb (zO zz (pv 1) (zf (i:=2)) (fun _ _=>rfl)) zi)) zi))) (zN yc (pv 0) (zQ (pv 2)) z0)))))))),Zz h1 h2 h3 q⟩
theorem Xm (T:Txt K mg t):FnOk P w K mg base (CX1 P w) 1 t.a__law_short t.d__law_short ["words","xs"] (jj):=by
 refine T.f__law_short.ok0 sc__law_short (fun vs H Q E h=>?_) (fun cdv A outer s H vs Q E hr h=>?_)
 ·obtain ⟨a,l,ws,rfl,_⟩:=h;rfl
 obtain ⟨a,l,ws,rfl,h1,h2,h3,q⟩:=h
 exact ⟨jr K t,(zh (zD (i:=2) sc__law_short.nd rfl (Or.inl rfl) (zj zT (zO zz (pv 1) (zf (i:=0)) (fun _ _=>rfl)) (zW yL rfl T.b_len ww (zb (pv 0) zi))))
  (zh (yd (PW.pt (wq (zA yz (zO zz (pv 0) (zf (i:=2)) (fun _ _=>rfl)) (zx (x:="done")) (zI _)) (wq (zA Z8 (pv 2) (zf (i:=2)) (zI _)) (wR (zA Ke (pv 2) (vT PySem.F.plainAttrs_list PySem.F.slot_list_index PySem.F.type_list_index jE (pv 0) (zb (zx (x:=";")) zi)) (zI _)))))) (zr (zD (i:=2) sc__law_short.nd rfl (Or.inl rfl) (vT PySem.F.plainAttrs_list PySem.F.slot_list_index PySem.F.type_list_index jE (pv 0) (zb (zx (x:=";")) zi))))
    zJ)
  (zr (zK (zj yt (zN yc (pv 0) z0 (zQ (pv 2))) (zN yc (pv 0) (zQ (zj zY (pv 2) (zf (i:=1)))) z0)))))),YX h1 h2 h3 q⟩
theorem YZ (T:Txt K mg t):FnOk P w K mg base (CX1 P w) 3 t.a__law_spoilt t.d__law_spoilt ["words","kind","xs"] (vM):=by
 refine T.f__law_spoilt.ok0 sc__law_spoilt (fun vs H Q E h=>?_) (fun cdv A outer s H vs Q E hr h=>?_)
 ·obtain ⟨a,l,k,ws,rfl,_⟩:=h;rfl
 obtain ⟨a,l,k,ws,rfl,h1,h2,h3,q⟩:=h
 exact ⟨vQ K t,(zh (zD (i:=3) sc__law_spoilt.nd rfl (Or.inl rfl) (zj zY (vT PySem.F.plainAttrs_list PySem.F.slot_list_index PySem.F.type_list_index jE (pv 0) (zb (zx (x:=";")) zi)) (zf (i:=1))))
  (zh (zD (i:=4) sc__law_spoilt.nd rfl (Or.inl rfl) (zj yN (zj qi (zW yL rfl T.b_len ww (zb (pv 0) zi)) (pv 3)) (zf (i:=3))))
  (zh (yd (zA yz (pv 1) (zf (i:=1)) (zI _)) (zr (zK (zM (FnOk.mono (Xm T) (by decide)) hr rfl T.m__law_short T.f__law_short.kp T.b__law_short .nil yr (zb (pv 0) (zb (pv 2) zi)))))
    zJ)
  (zh (yd (zA yz (pv 1) (zf (i:=2)) (zI _)) (zr (zK (zj yt (yp (zb (zO zz (pv 0) (zf (i:=0)) (fun _ _=>rfl)) (zb (zO zz (yp (zb (zx (x:="-1")) (zb (yh z7 rfl T.b_str xO (zb (zj zY (zj wv (zf (i:=10)) (zf (i:=29))) (zf (i:=1))) zi)) (zb (yh z7 rfl T.b_str xO (zb (qQ jL (zj wv (zf (i:=10)) (zf (i:=30)))) zi)) zi)))) (zj zT (zO zz (pv 2) (zf (i:=0)) (fun _ _=>rfl)) (zf (i:=3))) (fun _ _=>rfl)) zi))) (zN yc (pv 0) (zQ (zf (i:=2))) z0))))
    zJ)
  (zh (yd (PW.pt (wq (zA yz (pv 1) (zf (i:=3)) (zI _)) (wR (zA Z8 (pv 4) (zf (i:=0)) (zI _))))) (zr (zK (zj yt (zj yt (pv 0) (zN yc (pv 0) (zQ (qQ jL (zf (i:=3)))) (zQ (qQ jL (zf (i:=1)))))) (yp (zb (yh z7 rfl T.b_str xO (zb (zM (FnOk.mono (xj T) (by decide)) hr rfl T.m__law_worth T.f__law_worth.kp T.b__law_worth .nil yr (zb (zO zz (pv 2) (zf (i:=0)) (fun _ _=>rfl)) zi)) zi)) zi)))))
    zJ)
  (zh (yd (PW.pt (wq (zA yz (pv 1) (zf (i:=4)) (zI _)) (wR (zA Z8 (pv 4) (zf (i:=1)) (zI _))))) (zh (zD (i:=5) sc__law_spoilt.nd rfl (Or.inl rfl) (zj zY (pv 3) (zj jS (zf (i:=3)) (zj zT (zO zz (pv 2) (zf (i:=0)) (fun _ _=>rfl)) (zj qi (pv 4) (zf (i:=1)))))))
  (zh (zD (i:=6) sc__law_spoilt.nd rfl (Or.inl rfl) (zj yt (zN yc (pv 0) (zQ (zj zY (pv 5) (zf (i:=3)))) (zQ (zj zY (pv 5) (zf (i:=6))))) (zN yc (pv 0) (zQ (pv 5)) (zQ (zj zY (pv 5) (zf (i:=3)))))))
  (zr (zK (zj yt (zj yt (zN yc (pv 0) z0 (zQ (pv 5))) (pv 6)) (zN yc (pv 0) (zQ (zj zY (pv 5) (zf (i:=6)))) z0))))))
   zJ)
  (zh (yd (PW.pt (wq (zA yz (pv 1) (zf (i:=5)) (zI _)) (wq (zA yz (zO zz (pv 0) (zf (i:=0)) (fun _ _=>rfl)) (zx (x:="mark")) (zI _)) (wR (zA Z8 (pv 4) (zf (i:=0)) (zI _)))))) (zh (zD (i:=5) sc__law_spoilt.nd rfl (Or.inl rfl) (zj zY (zj zY (pv 3) (zj jS (zf (i:=3)) (zj zT (zO zz (pv 2) (zf (i:=0)) (fun _ _=>rfl)) (pv 4)))) (zf (i:=2))))
  (zr (zK (zj yt (zj yt (zN yc (pv 0) z0 (zQ (pv 5))) (yp (zb (zx (x:="0")) zi))) (zN yc (pv 0) (zQ (zj zY (pv 5) (zf (i:=1)))) z0)))))
   zJ)
  (zh (yd (PW.pt (wq (zA yz (pv 1) (zf (i:=6)) (zI _)) (wR (zA yz (zO zz (pv 0) (zf (i:=2)) (fun _ _=>rfl)) (zx (x:="off")) (zI _))))) (zr (zK (zj yt (pv 0) (yp (zb (zM (FnOk.mono (Zq T) (by decide)) hr rfl T.m__law_name T.f__law_name.kp T.b__law_name .nil yr (zb (zO zz (pv 2) (zf (i:=0)) (fun _ _=>rfl)) zi)) (zb (yh z7 rfl T.b_str xO (zb (zM (FnOk.mono (xj T) (by decide)) hr rfl T.m__law_worth T.f__law_worth.kp T.b__law_worth .nil yr (zb (zO zz (pv 2) (zf (i:=1)) (fun _ _=>rfl)) zi)) zi)) (zb (yh z7 rfl T.b_str xO (zb (zM (FnOk.mono (xj T) (by decide)) hr rfl T.m__law_worth T.f__law_worth.kp T.b__law_worth .nil yr (zb (zO zz (pv 2) (zf (i:=2)) (fun _ _=>rfl)) zi)) zi)) zi)))))))
    zJ)
  (zr (zK (zM (FnOk.mono (ZS T) (by decide)) hr rfl T.m__law_odd_put T.f__law_odd_put.kp T.b__law_odd_put .nil yr (zb (pv 0) (zb (pv 2) zi))))))))))))),ZR h1 h2 h3 q⟩
theorem ju (T:Txt K mg t):FnOk P w K mg base (CX1 P w) 1 t.a__law_check t.d__law_check ["body"] (xh):=by
 refine T.f__law_check.ok0 sc__law_check (fun vs H Q E h=>?_) (fun cdv A outer s H vs Q E hr h=>?_)
 ·obtain ⟨z,rfl,_⟩:=h;rfl
 obtain ⟨z,rfl,h1,h2,q⟩:=h
 exact ⟨js K t,(zh (zD (i:=1) sc__law_check.nd rfl (Or.inl rfl) (zf (i:=0)))
  (zh (zD (i:=2) sc__law_check.nd rfl (Or.inl rfl) (zf (i:=1)))
  (zh (ku PassesOwn.never rfl (Jo (pv 0)) (yE (i:=3) sc__law_check.nd rfl (Or.inl rfl)) (zh (zD (i:=1) sc__law_check.nd rfl (Or.inl rfl) (zj zT (zj zY (pv 1) (zj jS (pv 2) (zW W2 rfl T.b_ord zad (zb (pv 3) zi)))) (zf (i:=1009))))
  (zh (zD (i:=2) sc__law_check.nd rfl (Or.inl rfl) (zj zY (pv 2) (zf (i:=1))))
  (zr (yd (zA yz (pv 2) (zf (i:=1009)) (zI _)) (zr (zD (i:=2) sc__law_check.nd rfl (Or.inl rfl) (zf (i:=1))))
    zJ)))))
  (zh (zD (i:=4) sc__law_check.nd rfl (Or.inl rfl) (yh z7 rfl T.b_str xO (zb (pv 1) zi)))
  (zr (zK (zj yf (zj Yh (zx (x:="0")) (zj qi (zf (i:=4)) (zW yL rfl T.b_len ww (zb (pv 4) zi)))) (pv 4)))))))),YN h1 h2 q⟩
theorem ok_law (T:Txt K mg t):FnOk P w K mg base (CX1 P w) 9 t.a_law t.d_law ["script"] (sp_law K):=by
 refine T.f_law.ok0 sc_law (fun vs H Q E h=>?_) (fun cdv A outer s H vs Q E hr h=>?_)
 ·obtain ⟨a,ns,rfl,_⟩:=h;rfl
 obtain ⟨a,ns,rfl,h1,h2,h3,q⟩:=h
 exact ⟨JN K t,(zh (ku PassesOwn.never rfl (kS (yp (zb (zx (x:="")) (zb (zx (x:="mark")) (zb (zx (x:="0000")) (zb (zx (x:=" 0000")) (zb (zx (x:="\n")) (zb (zx (x:="mark 0 ;")) zi)))))))) (yE (i:=1) sc_law.nd rfl (Or.inl rfl)) (zr (yd (qg (v6 (zM (FnOk.mono (kn T) (by decide)) hr rfl T.m__law_refused T.f__law_refused.kp T.b__law_refused .nil yr (zb (pv 1) zi)))) (zr (zK (kt (b:=false))))
   zJ)))
  (zh (ku PassesOwn.never rfl (XU rfl T.b_range (zb (zf (i:=0)) (zb (zj qi (zW yL rfl T.b_len ww (zb (pv 0) zi)) (zf (i:=1))) (zb (zf (i:=2)) zi)))) (yE (i:=2) sc_law.nd rfl (Or.inl rfl)) (zh (zD (i:=3) sc_law.nd rfl (Or.inl rfl) (zM (FnOk.mono (Xi T) (by decide)) hr rfl T.m__law_words T.f__law_words.kp T.b__law_words .nil yr (zb (zO zz (pv 0) (pv 2) (fun _ _=>rfl)) zi)))
  (zh (zD (i:=4) sc_law.nd rfl (Or.inl rfl) (zM (FnOk.mono (jt T) (by decide)) hr rfl T.m__law_drawn T.f__law_drawn.kp T.b__law_drawn .nil yr (zb (zj yN (zO zz (pv 0) (zj zY (pv 2) (zf (i:=1))) (fun _ _=>rfl)) (zf (i:=8))) (zb (zf (i:=3)) zi))))
  (zh (zD (i:=5) sc_law.nd rfl (Or.inl rfl) (vT PySem.F.plainAttrs_str PySem.F.slot_str_join PySem.F.type_str_join Kl (zx (x:=" ")) (zb (pv 3) zi)))
  (zh (zD (i:=6) sc_law.nd rfl (Or.inl rfl) (zj zT (zO zz (pv 0) (zj zY (pv 2) (zf (i:=1))) (fun _ _=>rfl)) (zf (i:=8))))
  (zh (yd (zA yz (pv 6) (zf (i:=7)) (zI _)) (zr (zD (i:=1) sc_law.nd rfl (Or.inl rfl) (zj yf (zj yf (pv 5) (zx (x:=" "))) (zM (FnOk.mono (qa T) (by decide)) hr rfl T.m__law_other_check T.f__law_other_check.kp T.b__law_other_check .nil yr (zb (zM (FnOk.mono (ju T) (by decide)) hr rfl T.m__law_check T.f__law_check.kp T.b__law_check .nil yr (zb (pv 5) zi)) (zb (pv 4) zi))))))
    (zh (zD (i:=7) sc_law.nd rfl (Or.inl rfl) (vT PySem.F.plainAttrs_str PySem.F.slot_str_join PySem.F.type_str_join Kl (zx (x:=" ")) (zb (zM (FnOk.mono (YZ T) (by decide)) hr rfl T.m__law_spoilt T.f__law_spoilt.kp T.b__law_spoilt .nil yr (zb (pv 3) (zb (pv 6) (zb (pv 4) zi)))) zi)))
  (zr (zD (i:=1) sc_law.nd rfl (Or.inl rfl) (zj yf (zj yf (pv 7) (zx (x:=" "))) (zM (FnOk.mono (ju T) (by decide)) hr rfl T.m__law_check T.f__law_check.kp T.b__law_check .nil yr (zb (pv 7) zi)))))))
  (zh (yd (qg (v6 (zM (FnOk.mono (kn T) (by decide)) hr rfl T.m__law_refused T.f__law_refused.kp T.b__law_refused .nil yr (zb (pv 1) zi)))) (zr (zK (kt (b:=false))))
    zJ)
  (zr (yd (zA yz (zj zT (zj yN (zO zz (pv 4) (zf (i:=0)) (fun _ _=>rfl)) (zf (i:=16))) (zf (i:=4))) (zf (i:=0)) (zI _)) (zh (zD (i:=8) sc_law.nd rfl (Or.inl rfl) (zM (FnOk.mono (Zr T) (by decide)) hr rfl T.m_line_read T.f_line_read.kp T.b_line_read .nil yr (zb (zj yf (zj yf (pv 5) (zx (x:=" "))) (zM (FnOk.mono (ju T) (by decide)) hr rfl T.m__law_check T.f__law_check.kp T.b__law_check .nil yr (zb (pv 5) zi))) zi)))
  (zr (yd (PW.pt (Z5 (qg (v6 (zW Yc rfl T.b_isinstance yJ (zb (pv 8) (zb (ZT rfl T.b_tuple Vb rfl) zi))))) (qf (zA Xp (zO qk (pv 8) (zf (i:=0)) (fun _ _=>rfl)) (zO zz (pv 3) (zf (i:=0)) (fun _ _=>rfl)) (zI _))))) (zr (zK (kt (b:=false))))
    zJ)))
    zJ)))))))))
  (zr (zK (kt (b:=true)))))),zdd h1 h2 h3 q⟩
end
end K63
open PySem PySem.W PyProof.Rows
namespace PySem.W.Fast
def tw2379017769630430586:Unit:=()
def tw12046919628722519884:Unit:=()
def tw17751316388976398129:Unit:=()
def tw7594577149461446899:Unit:=()
def tw6327743129024282705:Unit:=()
def tw15204575071082409683:Unit:=()
def tw10826977159600374317:Unit:=()
def tw4077287673185964013:Unit:=()
def tw11673410674651848958:Unit:=()
def tw15510477384050455418:Unit:=()
def tw696606832445758184:Unit:=()
def tw13037518027846352896:Unit:=()
def tw14703736538207202266:Unit:=()
def tw15927602457185307827:Unit:=()
def tw10279762740441920672:Unit:=()
def tw14066502993956696381:Unit:=()
def tw5208966513551337210:Unit:=()
def tw16432105573538069537:Unit:=()
def tw10414690229503683396:Unit:=()
def tw14174231492711579436:Unit:=()
def tw2660366692527615036:Unit:=()
def tw8749402261546210209:Unit:=()
def tw1400291168894412113:Unit:=()
def tw4591228860915757901:Unit:=()
def tw927148439740470666:Unit:=()
def tw10559032401267035495:Unit:=()
def tw13546634119540020102:Unit:=()
def tw8837440084320268885:Unit:=()
def tw18347136589035435339:Unit:=()
def tw10566872272695267129:Unit:=()
def tw14924409782491725696:Unit:=()
def tw4061528623192188891:Unit:=()
def tw15929573143413910178:Unit:=()
def tw348978706575618760:Unit:=()
def tw17210822303169306529:Unit:=()
def tw16921304222116380536:Unit:=()
def tw15148191190227102942:Unit:=()
def tw10047371633712241722:Unit:=()
def tw14112884450497516832:Unit:=()
def tw7543887627525904414:Unit:=()
def tw17758571445856366123:Unit:=()
def tw2734532277973052807:Unit:=()
def tw4362349544347708097:Unit:=()
def tw16877680134138272166:Unit:=()
def tw6850340500493643003:Unit:=()
def tw9228490579389934143:Unit:=()
def tw2680293309721113838:Unit:=()
def tw11220162815188178874:Unit:=()
def tw7463229073141104738:Unit:=()
def tw16898899641612326369:Unit:=()
def tw5411772664840764848:Unit:=()
def tw17442790038667515773:Unit:=()
def tw2267568817098638090:Unit:=()
def tw13621015202541067024:Unit:=()
def tw9639768582370422015:Unit:=()
def tw15049820919786952738:Unit:=()
def tw17262764961047431820:Unit:=()
def tw6803723577282272792:Unit:=()
def tw3434153576603932514:Unit:=()
def tw6436734163447011652:Unit:=()
def tw15404441640227181524:Unit:=()
def tw4727158935113892451:Unit:=()
def tw13629867877824003240:Unit:=()
def tw1695814583499055171:Unit:=()
def tw14903384251275131063:Unit:=()
def tw17733657404533739674:Unit:=()
def tw11697029620732554611:Unit:=()
def tw12462110312765530573:Unit:=()
def tw16818415018240370105:Unit:=()
def tw7565099362408173506:Unit:=()
def tw16076626260804470685:Unit:=()
def tw1560436099630948263:Unit:=()
def tw297492548781998192:Unit:=()
def tw8753385999019727041:Unit:=()
def tw7519642105284607983:Unit:=()
def tw12656793855898981024:Unit:=()
def tw16860518383145848615:Unit:=()
def tw15100329400514479949:Unit:=()
def tw2320685259968770344:Unit:=()
def tw14511916064594365922:Unit:=()
def tw9454943448798862141:Unit:=()
def tw5583620975806303920:Unit:=()
def tw5524277426300742523:Unit:=()
def tw2141905684223689680:Unit:=()
def tw11980215890182927820:Unit:=()
def tw14710958707128554528:Unit:=()
def tw8797080636505277868:Unit:=()
def tw15870175715311870870:Unit:=()
def tw765593421414340947:Unit:=()
def tw15562860871474723213:Unit:=()
def tw4169271398707686347:Unit:=()
def tw11346553677509522752:Unit:=()
def tw5955076440334528732:Unit:=()
def tw3409057641397346281:Unit:=()
def tw2288197692224939565:Unit:=()
def tw4625296325373180245:Unit:=()
def tw9989182695390937337:Unit:=()
def tw4951204760949811320:Unit:=()
def tw6625717419227771265:Unit:=()
def tw1923529725020483052:Unit:=()
def tw91502260176021434:Unit:=()
def tw2629525805473038799:Unit:=()
def tw12772823655805277540:Unit:=()
def tw8432465518822236759:Unit:=()
def tw17989933980248099313:Unit:=()
def tw7385290052812747370:Unit:=()
def tw7044296079611376433:Unit:=()
def tw14809994883529537985:Unit:=()
def tw2595632310936568922:Unit:=()
def tw2681799367137679592:Unit:=()
def tw14236544315147250799:Unit:=()
def tw10744553886351315023:Unit:=()
def tw17429401164848183007:Unit:=()
def tw3091952734403545460:Unit:=()
def tw13413868472154385298:Unit:=()
def tw14691651134685163641:Unit:=()
def tw2863063229571991719:Unit:=()
def tw8927447412150401232:Unit:=()
def tw2846746530121781453:Unit:=()
def tw8110501633381185295:Unit:=()
def tw4886547376956348141:Unit:=()
def tw17609087673756267428:Unit:=()
def tw16288250831312486010:Unit:=()
def tw14308372524763502821:Unit:=()
def tw18120542823223969991:Unit:=()
def tw13385184192131770624:Unit:=()
def tw2959152513210162177:Unit:=()
def tw15668773200160212090:Unit:=()
def tw11917679260248623332:Unit:=()
def tw12774641329794479205:Unit:=()
def tw3920940274493326037:Unit:=()
def tw15590207325800645368:Unit:=()
def tw9238766878752169873:Unit:=()
def tw16152471382271821373:Unit:=()
def tw1761085593685567479:Unit:=()
def tw14206696502480554224:Unit:=()
def tw17594798377542673131:Unit:=()
def tw14157258977015186367:Unit:=()
def tw10623173087642195118:Unit:=()
def tw8714431197160405520:Unit:=()
def tw12653553494440975954:Unit:=()
def tw6853038120038157595:Unit:=()
def tw17268849003809136881:Unit:=()
def tw5574074679159363132:Unit:=()
def tw12059291968955747879:Unit:=()
def tw7930935726012306216:Unit:=()
def tw11859326230769115137:Unit:=()
def tw5733046888060723987:Unit:=()
def tw592280694544269709:Unit:=()
def tw374531662715866853:Unit:=()
def tw15376464311093465900:Unit:=()
def tw13536842495094843198:Unit:=()
def tw11548299859718795942:Unit:=()
def tw15755701128168835765:Unit:=()
def tw11408342337856235608:Unit:=()
def tw4740578631429552061:Unit:=()
def tw5186397422727205184:Unit:=()
def tw8037001318923588856:Unit:=()
def tw16757137622716892341:Unit:=()
def tw4467108892218166417:Unit:=()
def tw4879721909185043661:Unit:=()
def tw14847038746765942314:Unit:=()
def tw17168313295906097875:Unit:=()
def tw8960593927001128072:Unit:=()
def tw12296933726047855437:Unit:=()
def tw13037993143006989923:Unit:=()
def tw512213039119363852:Unit:=()
def tw17754221175482790681:Unit:=()
def tw3838150493042889143:Unit:=()
def tw13917150315884279649:Unit:=()
def tw12720427820240583512:Unit:=()
def tw9081812732424060028:Unit:=()
def tw3464028274554721682:Unit:=()
def tw4728627412513050099:Unit:=()
def tw540862420773802422:Unit:=()
def tw11094560608096805243:Unit:=()
def tw4520981793705154128:Unit:=()
def tw2120601824851422721:Unit:=()
def tw9263113134041281249:Unit:=()
def tw17106549882357011251:Unit:=()
def tw11793681098617325936:Unit:=()
def tw6206933569846429289:Unit:=()
def tw12210296910021548813:Unit:=()
def tw17938775880158258995:Unit:=()
def tw417557463800431555:Unit:=()
def tw15864256456918616329:Unit:=()
def tw5106482815014911876:Unit:=()
def tw17518658478126793363:Unit:=()
def tw9811592944051595241:Unit:=()
def tw10317474029336332302:Unit:=()
def tw11279321150669642611:Unit:=()
def tw2364092714304323479:Unit:=()
def tw6634376327712894152:Unit:=()
def tw3278404140798696878:Unit:=()
def tw10857598292774896083:Unit:=()
def tw4659942451426468502:Unit:=()
def tw15332154529309798236:Unit:=()
def tw4546924385383609652:Unit:=()
def tw16223119083085849921:Unit:=()
def tw326345316039042145:Unit:=()
def tw2473625397365508303:Unit:=()
def tw7051849560572876127:Unit:=()
def tw16730934243008846471:Unit:=()
def tw11307193561249720468:Unit:=()
def tw4128706697227766524:Unit:=()
def tw7623508377826928476:Unit:=()
def tw204095056629571616:Unit:=()
def tw3384004325316346988:Unit:=()
def tw9314421113386286785:Unit:=()
def tw9197367489681364492:Unit:=()
def tw14507613290208354027:Unit:=()
def tw7013057912552548220:Unit:=()
def tw16345467415401354687:Unit:=()
def tw5615423668930906677:Unit:=()
def tw14852251687392328857:Unit:=()
def tw10233663178783121185:Unit:=()
def tw18260350657359571230:Unit:=()
def tw2533378326789597865:Unit:=()
def tw884129180493029374:Unit:=()
def tw6561793763759931764:Unit:=()
def tw282432106765157280:Unit:=()
def tw1241735172083685599:Unit:=()
def tw3026229685603229198:Unit:=()
def tw2215043603426584557:Unit:=()
def tw10991132277737617826:Unit:=()
def tw9514810610519946133:Unit:=()
def tw5269410629822105932:Unit:=()
def tw7819479056245821654:Unit:=()
def tw7239872638032079654:Unit:=()
def tw6002787000772180764:Unit:=()
def tw932199365421005383:Unit:=()
def tw6685838962264969063:Unit:=()
def tw11587700107087440774:Unit:=()
def tw8057338803388028738:Unit:=()
def tw10868459845272669690:Unit:=()
def tw5120476344159349467:Unit:=()
def tw9649706548897936065:Unit:=()
def tw14236682999377525265:Unit:=()
def tw17865206471931753372:Unit:=()
def tw10984037468980168926:Unit:=()
def tw15933378956044896272:Unit:=()
def tw8091347913491801542:Unit:=()
def tw4588115923333539865:Unit:=()
def tw18030028009943402034:Unit:=()
def tw18134512108474183128:Unit:=()
def tw11899918092051395354:Unit:=()
def tw7511069064457715521:Unit:=()
def tw18417543337948147416:Unit:=()
def tw7947586310557619211:Unit:=()
def tw10580915382488113410:Unit:=()
def tw3184421221501124380:Unit:=()
def tw6351374485500705510:Unit:=()
def tw10721945812154984391:Unit:=()
def tw556200541915311900:Unit:=()
def tw11741475895330385868:Unit:=()
def tw16309132660952007108:Unit:=()
def tw7558355981441405523:Unit:=()
def tw13605092979187764036:Unit:=()
def tw6048518971794217708:Unit:=()
def tw11635915753700513368:Unit:=()
def tw16709904165946745175:Unit:=()
def tw7521184937601232936:Unit:=()
def tw3935011979827211817:Unit:=()
def tw15947554316736889876:Unit:=()
def tw15760086594387881433:Unit:=()
def tw11605532857516007865:Unit:=()
def tw13807708766607208357:Unit:=()
def tw15688466917464269869:Unit:=()
def tw1528268034600270835:Unit:=()
def tw9083853839822580808:Unit:=()
def tw8448826529841256151:Unit:=()
def tw17843869342563051831:Unit:=()
def tw16330433084383731118:Unit:=()
def tw4876999901786755451:Unit:=()
def tw10290474957344494562:Unit:=()
def tw13414362889342475058:Unit:=()
def tw6551115370264941641:Unit:=()
def tw5265366832701556579:Unit:=()
def tw4310812592378752898:Unit:=()
def tw1778594788638031079:Unit:=()
def tw1862267870431226934:Unit:=()
def tw9808363108532556873:Unit:=()
def tw16529398569352253186:Unit:=()
def tw12445728560163188559:Unit:=()
def tw4070654528056282508:Unit:=()
def tw1524898548473456216:Unit:=()
def tw11113971197754901746:Unit:=()
def tw13894795983797034278:Unit:=()
def tw9094684956776981318:Unit:=()
def tw7130353576303169841:Unit:=()
def tw9927944399933345996:Unit:=()
def tw9952643139548660098:Unit:=()
def tw10421823540912800286:Unit:=()
def tw16728276744880076308:Unit:=()
def tw12539062789962187347:Unit:=()
def tw13254204932766716742:Unit:=()
def tw10232456016485792533:Unit:=()
def tw1130495164626471256:Unit:=()
def tw14316921560777645600:Unit:=()
def tw15628813305850381147:Unit:=()
def tw6489806910646603209:Unit:=()
def tw1212584798921310925:Unit:=()
def tw6474430465688629894:Unit:=()
def tw12472286559152013727:Unit:=()
def tw4621218119766570799:Unit:=()
def tw10053204305181029431:Unit:=()
def tw12470594203964073697:Unit:=()
def tw10291536015796995495:Unit:=()
def tw10509424722771711529:Unit:=()
def tw18379090520742927971:Unit:=()
def tw1500532620985360392:Unit:=()
def tw12936500933716601335:Unit:=()
def tw18154862554003271015:Unit:=()
def tw12152951209747806975:Unit:=()
def tw12014673097567791431:Unit:=()
def tw7011750477970975690:Unit:=()
def tw15399076954211620384:Unit:=()
def tw12794082840627624630:Unit:=()
def tw2393481905102017470:Unit:=()
def tw679821010150408294:Unit:=()
def tw8998302460616711747:Unit:=()
def tw10459531508506493183:Unit:=()
def tw1445627091376745808:Unit:=()
def tw2679628469029911945:Unit:=()
def tw12505707779598552415:Unit:=()
def tw15101593706627895445:Unit:=()
def tw6595216904995280226:Unit:=()
def tw11957258238855058237:Unit:=()
def tw14766200111717533645:Unit:=()
def tw9751656735965652507:Unit:=()
def tw7847048978875313760:Unit:=()
def tw10474508547129904438:Unit:=()
def tw4094992374782774720:Unit:=()
def tw8757785434985662312:Unit:=()
def tw11406800494795800276:Unit:=()
def tw3614044070694473587:Unit:=()
def tw4689285498352768418:Unit:=()
def tw8306863979393621041:Unit:=()
def tw14939410511359043305:Unit:=()
def tw9663951315105922309:Unit:=()
def tw14666471212438882185:Unit:=()
def tw15091504208478329127:Unit:=()
def tw11541920858668336862:Unit:=()
def tw14747207684076217549:Unit:=()
def tw5486020222172627687:Unit:=()
def tw6402639008408265197:Unit:=()
def tw13659074162307165338:Unit:=()
def tw10817095750186157283:Unit:=()
def tw1538155721550183530:Unit:=()
def tw15867104373353204107:Unit:=()
def tw13859278137347475584:Unit:=()
def tw6748206971619041211:Unit:=()
def tw13126306539050765342:Unit:=()
def tw2688839059732405112:Unit:=()
end PySem.W.Fast
set_option maxRecDepth 100000 in
set_option maxHeartbeats 0 in
theorem PySem.Challenge.cw_forerun_k63_no_line_holds : PySem.Challenge.rw_forerun_k63_no_line.Holds := by
 w_on; o_law; k_head; (case hw => w_witness2)
 k_fill
 refine L2.walk_ofXB (l := PySem.Challenge.rw_forerun_k63_no_line) (n := 63) (k := 9) (x := "script") (sp := K63.sp_law) rfl (by decide) rfl ⟨rfl, by decide, by decide, rfl⟩ (fun w h Y => PySem.W.kIn_of Y) ?F ?S
 case F =>
  intro w mg fa h KX G hmg
  have T : ∃ t, K63.Txt (L2.KOf KX) mg t := by
   dsimp only [L2.KOf]
   refine' K63.txt_mk KX G ?qa0 ?ql0 ?qc0 ?qk0 ?qa1 ?ql1 ?qc1 ?qk1 ?qa2 ?ql2 ?qc2 ?qk2 ?qa3 ?ql3 ?qc3 ?qk3 ?qa4 ?ql4 ?qc4 ?qk4 ?qa5 ?ql5 ?qc5 ?qk5 ?qa6 ?ql6 ?qc6 ?qk6 ?qa7 ?ql7 ?qc7 ?qk7 ?qa8 ?ql8 ?qc8 ?qk8 ?qa9 ?ql9 ?qc9 ?qk9 ?qa10 ?ql10 ?qc10 ?qk10 ?qa11 ?ql11 ?qc11 ?qk11 ?qa12 ?ql12 ?qc12 ?qk12 ?qa13 ?ql13 ?qc13 ?qk13 ?qa14 ?ql14 ?qc14 ?qk14 ?qa15 ?ql15 ?qc15 ?qk15 ?qa16 ?ql16 ?qc16 ?qk16 ?qa17 ?ql17 ?qc17 ?qk17 ?qa18 ?ql18 ?qc18 ?qk18 ?qa19 ?ql19 ?qc19 ?qk19 ?qa20 ?ql20 ?qc20 ?qk20 ?qa21 ?ql21 ?qc21 ?qk21 ?qa22 ?ql22 ?qc22 ?qk22 ?qa23 ?ql23 ?qc23 ?qk23 ?qa24 ?ql24 ?qc24 ?qk24 ?qa25 ?ql25 ?qc25 ?qk25 ?qa26 ?ql26 ?qc26 ?qk26 ?qa27 ?ql27 ?qc27 ?qk27 ?qa28 ?ql28 ?qc28 ?qk28 ?qz0 ?qz1 ?qz2 ?qz3 ?qz4 ?qz5 ?qz6 ?qz7 ?qz8 ?qz9 ?qz10 ?qz11 ?qz12 ?qz13 ?qz14 ?qg0 ?qg1 ?qg2 ?qg3 ?qh3 ?qg4 ?qg5 ?qg6 ?qg7 ?qg8 ?qh8 ?qg9 ?qh9 ?qv0 ?qv1 ?qv2 ?qv3 ?qv4 ?qv5 ?qv6 ?qv7 ?qv8 ?qv9 ?qv10 ?rx0 ?ry0_0 ?ry0_1 ?ry0_2 ?ry0_3 ?ry0_4 ?ry0_5 ?ry0_6 ?ry0_7 ?re0_0 ?re0_1 ?ri0_0 ?ri0_1 ?rj0_0 ?rj0_1 ?rx1 ?ry1_0 ?ry1_1 ?ry1_2 ?ry1_3 ?ry1_4 ?ry1_5 ?ry1_6 ?ry1_7 ?re1_0 ?re1_1 ?ri1_0 ?ri1_1 ?rj1_0 ?rj1_1
   (case qv0 => k_is)
   (case qv1 => k_is)
   (case qv2 => k_is)
   (case qv3 => k_is)
   (case qv4 => k_is)
   (case qv5 => k_is)
   (case qv6 => k_is)
   (case qv7 => k_is)
   (case qv8 => k_is)
   (case qv9 => k_is)
   (case qv10 => k_is)
   (case qa0 => k_is)
   (case ql0 => k_is)
   (case qc0 => k_is)
   (case qk0 => k_is)
   (case qa1 => k_is)
   (case ql1 => k_is)
   (case qc1 => k_is)
   (case qk1 => k_is)
   (case qa2 => k_is)
   (case ql2 => k_is)
   (case qc2 => k_is)
   (case qk2 => k_is)
   (case qa3 => k_is)
   (case ql3 => k_is)
   (case qc3 => k_is)
   (case qk3 => k_is)
   (case qa4 => k_is)
   (case ql4 => k_is)
   (case qc4 => k_is)
   (case qk4 => k_is)
   (case qa5 => k_is)
   (case ql5 => k_is)
   (case qc5 => k_is)
   (case qk5 => k_is)
   (case qa6 => k_is)
   (case ql6 => k_is)
   (case qc6 => k_is)
   (case qk6 => k_is)
   (case qa7 => k_is)
   (case ql7 => k_is)
   (case qc7 => k_is)
   (case qk7 => k_is)
   (case qa8 => k_is)
   (case ql8 => k_is)
   (case qc8 => k_is)
   (case qk8 => k_is)
   (case qa9 => k_is)
   (case ql9 => k_is)
   (case qc9 => k_is)
   (case qk9 => k_is)
   (case qa10 => k_is)
   (case ql10 => k_is)
   (case qc10 => k_is)
   (case qk10 => k_is)
   (case qa11 => k_is)
   (case ql11 => k_is)
   (case qc11 => k_is)
   (case qk11 => k_is)
   (case qa12 => k_is)
   (case ql12 => k_is)
   (case qc12 => k_is)
   (case qk12 => k_is)
   (case qa13 => k_is)
   (case ql13 => k_is)
   (case qc13 => k_is)
   (case qk13 => k_is)
   (case qa14 => k_is)
   (case ql14 => k_is)
   (case qc14 => k_is)
   (case qk14 => k_is)
   (case qa15 => k_is)
   (case ql15 => k_is)
   (case qc15 => k_is)
   (case qk15 => k_is)
   (case qa16 => k_is)
   (case ql16 => k_is)
   (case qc16 => k_is)
   (case qk16 => k_is)
   (case qa17 => k_is)
   (case ql17 => k_is)
   (case qc17 => k_is)
   (case qk17 => k_is)
   (case qa18 => k_is)
   (case ql18 => k_is)
   (case qc18 => k_is)
   (case qk18 => k_is)
   (case qa19 => k_is)
   (case ql19 => k_is)
   (case qc19 => k_is)
   (case qk19 => k_is)
   (case qa20 => k_is)
   (case ql20 => k_is)
   (case qc20 => k_is)
   (case qk20 => k_is)
   (case qa21 => k_is)
   (case ql21 => k_is)
   (case qc21 => k_is)
   (case qk21 => k_is)
   (case qa22 => k_is)
   (case ql22 => k_is)
   (case qc22 => k_is)
   (case qk22 => k_is)
   (case qa23 => k_is)
   (case ql23 => k_is)
   (case qc23 => k_is)
   (case qk23 => k_is)
   (case qa24 => k_is)
   (case ql24 => k_is)
   (case qc24 => k_is)
   (case qk24 => k_is)
   (case qa25 => k_is)
   (case ql25 => k_is)
   (case qc25 => k_is)
   (case qk25 => k_is)
   (case qa26 => k_is)
   (case ql26 => k_is)
   (case qc26 => k_is)
   (case qk26 => k_is)
   (case qa27 => k_is)
   (case ql27 => k_is)
   (case qc27 => k_is)
   (case qk27 => k_is)
   (case qa28 => k_is)
   (case ql28 => k_is)
   (case qc28 => k_is)
   (case qk28 => k_is)
   (case qz0 => k_is)
   (case qz1 => k_is)
   (case qz2 => k_is)
   (case qz3 => k_is)
   (case qz4 => k_is)
   (case qz5 => k_is)
   (case qz6 => k_is)
   (case qz7 => k_is)
   (case qz8 => k_is)
   (case qz9 => k_is)
   (case qz10 => k_is)
   (case qz11 => k_is)
   (case qz12 => k_is)
   (case qz13 => k_is)
   (case qz14 => k_is)
   (case qg0 => k_is)
   (case qg1 => k_is)
   (case qg2 => k_is)
   (case qg3 => k_is)
   (case qh3 => k_is)
   (case qg4 => k_is)
   (case qg5 => k_is)
   (case qg6 => k_is)
   (case qg7 => k_is)
   (case qg8 => k_is)
   (case qh8 => k_is)
   (case qg9 => k_is)
   (case qh9 => k_is)
   (case rx0 => k_exc)
   (case ry0_0 => k_is)
   (case ry0_1 => k_is)
   (case ry0_2 => k_is)
   (case ry0_3 => k_is)
   (case ry0_4 => k_is)
   (case ry0_5 => k_is)
   (case ry0_6 => k_is)
   (case ry0_7 => k_is)
   (case re0_0 => kernel_rfl)
   (case re0_1 => kernel_rfl)
   (case ri0_0 => kit_is)
   (case ri0_1 => kit_is)
   (case rj0_0 => kit_is)
   (case rj0_1 => kit_is)
   (case rx1 => k_exc)
   (case ry1_0 => k_is)
   (case ry1_1 => k_is)
   (case ry1_2 => k_is)
   (case ry1_3 => k_is)
   (case ry1_4 => k_is)
   (case ry1_5 => k_is)
   (case ry1_6 => k_is)
   (case ry1_7 => k_is)
   (case re1_0 => kernel_rfl)
   (case re1_1 => kernel_rfl)
   (case ri1_0 => kit_is)
   (case ri1_1 => kit_is)
   (case rj1_0 => kit_is)
   (case rj1_1 => kit_is)
  obtain ⟨t, T⟩ := T
  have e0 := hmg.symm.trans T.m_law
  cases e0
  exact ⟨_, T.w_law, fun base _ _ => K63.ok_law T⟩
 case S => exact fun K H a ns hl hb _ hS => ⟨a, ns, rfl, hS, hl, hb, fun _ => rfl⟩
