import PyProof.Rows.All
import Wide.All
import OpenK.AllK
import Wide.FinOn
import Lean
import PyProof.EqAt
import PyProof.EqKinds
import PyProof.TupleCall
import PySem.Challenge.RW_forerun_k21_straight_rows
import KE.IntBitsLaws
import KE.KDictList
import KE.KDictOf
import KE.KEqDict
import KE.KIntText
import KE.KItemsList
import KE.KRevIter
import KE.KSortAsk
import KE.KSortTup
import KE.KSorted
import KE.KTryMore
import KE.LcSums
import PyProof.AttrMissHeap
import PyProof.Conv_int_bool
import PyProof.DictItems
import PyProof.DictKinds
import PyProof.DictWalks
import PyProof.EnumFor
import PyProof.EnumMake
import PyProof.EqKinds
import PyProof.ListIndexNeg
import PyProof.MeetsStr
import PyProof.NeKinds
import PyProof.NsDelKeeps
import PyProof.P3Eq
import PyProof.Rows.EqDataRows
import PyProof.Rows.Range3
import PyProof.StrCalls2
import PyProof.StrLaws
import PyProof.StrLawsTight
import PyProof.StrOps
import PyProof.StrOps2
import PyProof.TupleIter
import PyProof.TupleKey
import PyProof.TupleOfSeq
import PyProof.ZipIter
import Wide.ObjOpen
import Wide.RegSB
set_option Elab.async false
set_option linter.all false
set_option maxRecDepth 100000
namespace L2
open PySem PySem.Spec PyProof.Rows
abbrev Key:=Sum Int Str
def Yd:Key→Value→Bool
 | .inl k,v=>Value.isInt k v
 | .inr x,v=>Value.isStrOf x v
def zbH (w:World):Key→Int
 | .inl k=>hashInt k
 | .inr x=>hashStr w x
theorem yr:∀ {k:Key} {v:Value},Yd k v=true→(∃ i t,k=Sum.inl i∧v=Value.int i t)∨(∃ x t,k=Sum.inr x∧v=Value.str x t)
 | .inl i,v,h=>by
  obtain ⟨t,e⟩:=Value.isInt_shape (k:=i) (v:=v) h
  exact .inl ⟨i,t,rfl,e⟩
 | .inr x,v,h=>by
  obtain ⟨t,e⟩:=Value.isStrOf_shape (x:=x) (v:=v) h
  exact .inr ⟨x,t,rfl,e⟩
theorem V7 (i:Int) (t:Tok):Yd (.inl i) (.int i t)=true:=by simp [Yd,Value.isInt]
theorem V8 (x:Str) (t:Tok):Yd (.inr x) (.str x t)=true:=by simp [Yd,Value.isStrOf]
theorem zat (a b:Int):decide ((Sum.inl a:Key)=Sum.inl b)=(a == b):=by
 by_cases e:a=b
 ·subst e;simp
 ·have h:¬ (Sum.inl a:Key)=Sum.inl b:=fun q=>e (Sum.inl.inj q)
  rw [decide_eq_false h]
  exact (beq_eq_false_iff_ne.mpr e).symm
theorem zau (a b:Str):decide ((Sum.inr a:Key)=Sum.inr b)=decide (a=b):=by
 by_cases e:a=b
 ·subst e;simp
 ·have h:¬ (Sum.inr a:Key)=Sum.inr b:=fun q=>e (Sum.inr.inj q)
  rw [decide_eq_false h,decide_eq_false e]
theorem zav (a:Int) (b:Str):decide ((Sum.inl a:Key)=Sum.inr b)=false:=decide_eq_false (fun q=>nomatch q)
theorem zaw (a:Str) (b:Int):decide ((Sum.inr a:Key)=Sum.inl b)=false:=decide_eq_false (fun q=>nomatch q)
def yt (prog:Program) (w:World):PySem.KeyKind prog w Key where
 is:=Yd
 hash:=zbH w
 inj:=fun v a b ha hb=>by
  rcases yr ha with ⟨i,t,rfl,rfl⟩ | ⟨x,t,rfl,rfl⟩
  ·rcases yr hb with ⟨j,u,rfl,e⟩ | ⟨y,u,rfl,e⟩
   ·injection e with e1 _;rw [e1]
   ·exact nomatch e
  ·rcases yr hb with ⟨j,u,rfl,e⟩ | ⟨y,u,rfl,e⟩
   ·exact nomatch e
   ·injection e with e1 _;rw [e1]
 byValue:=fun k v h=>by
  rcases yr h with ⟨i,t,rfl,rfl⟩ | ⟨x,t,rfl,rfl⟩ <;> rfl
 pyHash:=fun hv h=>by
  rcases yr hv with ⟨i,t,rfl,rfl⟩ | ⟨x,t,rfl,rfl⟩
  ·exact wpAny_pyHash_int h
  ·exact wpAny_pyHash_str h
 eqBool:=fun hu hv h=>by
  rcases yr hu with ⟨i,t,rfl,rfl⟩ | ⟨x,t,rfl,rfl⟩
  ·rcases yr hv with ⟨j,u,rfl,rfl⟩ | ⟨y,u,rfl,rfl⟩
   ·rw [zat] at h;exact wpAny_eqBool_int h
   ·rw [zav] at h;exact SeqAt.EqAt.int_str i t y u _ _ _ _ h
  ·rcases yr hv with ⟨j,u,rfl,rfl⟩ | ⟨y,u,rfl,rfl⟩
   ·rw [zaw] at h;exact SeqAt.EqAt.str_int x t j u _ _ _ _ h
   ·rw [zau] at h;exact wpAny_eqBool_str h
 «strs»:=fun k x t v h=>by
  rcases yr h with ⟨i,u,rfl,e⟩ | ⟨y,u,rfl,e⟩
  ·exact nomatch e
  ·injection e with e1 _
   subst e1
   cases v <;> rfl
theorem Xp (prog:Program) (w:World) (i:Int) (t:Tok):(yt prog w).is (.inl i) (.int i t)=true:=V7 i t
theorem Xq (prog:Program) (w:World) (x:Str) (t:Tok):(yt prog w).is (.inr x) (.str x t)=true:=V8 x t
end L2
namespace L2
open PySem PySem.Spec PyProof.Rows
inductive V where
 | non | bl (b:Bool) | int (i:Int) | str (x:Str) | byt (b:Array UInt8) | flt (b:UInt64) | ref (a:Addr) | ty (n:String)
 deriving DecidableEq
def RelV:V→Value→Prop
 | .non,u=>u=Value.none
 | .bl b,u=>u=Value.bool b
 | .int i,u=>∃ t,u=Value.int i t
 | .str x,u=>∃ t,u=Value.str x t
 | .byt b,u=>∃ t,u=Value.bytes b t
 | .flt b,u=>∃ t,u=Value.float b t
 | .ref a,u=>u=Value.ref a
 | .ty n,u=>u=Value.type n
abbrev Vals:List V→List Value→Prop:=Paired RelV
theorem Vals.length {xs:List V} {us:List Value} (r:Vals xs us):xs.length=us.length:=Paired.length r
theorem Vals.get:∀ {xs:List V} {us:List Value} {i:Nat} {x:V},Vals xs us→xs[i]?=some x→∃ u,us[i]?=some u∧RelV x u
 | _,_,_,_,.nil,e=>by simp at e
 | _,_,0,_,.cons r _,e=>by simp at e;subst e;exact ⟨_,rfl,r⟩
 | _,_,i + 1,x,.cons _ t,e=>by
  obtain ⟨u,h1,h2⟩:=Vals.get (i:=i) (x:=x) t (by simpa using e)
  exact ⟨u,by simpa using h1,h2⟩
theorem Vals.append:∀ {xs ys:List V} {us ws:List Value},Vals xs us→Vals ys ws→Vals (xs ++ ys) (us ++ ws)
 | _,_,_,_,.nil,s=>s
 | _,_,_,_,.cons r t,s=>.cons r (Vals.append t s)
theorem Vals.take:∀ {xs:List V} {us:List Value} (n:Nat),Vals xs us→Vals (xs.take n) (us.take n)
 | _,_,0,_=>.nil
 | _,_,_ + 1,.nil=>.nil
 | _,_,n + 1,.cons r t=>.cons r (Vals.take n t)
theorem Vals.drop:∀ {xs:List V} {us:List Value} (n:Nat),Vals xs us→Vals (xs.drop n) (us.drop n)
 | _,_,0,r=>r
 | _,_,_ + 1,.nil=>.nil
 | _,_,n + 1,.cons _ t=>Vals.drop n t
def RelO:Option V→Option Value→Prop
 | some v,some u=>RelV v u
 | none,none=>True
 | _,_=>False
def KV {κ:Type}:List (κ × V)→List (κ × Value)→Prop:=Paired fun (p:κ × V) (q:κ × Value)=>p.1=q.1∧RelV p.2 q.2
def kV:Key→V
 | .inl i=>.int i
 | .inr x=>.str x
inductive HO where
  | lst (xs:List V)
  | tup (xs:List V)
  | dK (kvs:List (Key × V)) | dT (kvs:List (List Key × V))
  | set (S:Int→Bool) (n:Nat)
  | ins (C dx:Addr) (fs:List (Str × V))
  | own (x:Addr)
  | xd (fs:List (Str × V))
  | met (f x:Addr)
  | rng (lo hi:Int)
  | frz (o:Obj) (u:HO)
  | tbl (ps:Array Value)
  | ext (φ:Heap→Prop)
abbrev Hp:=Addr→Option HO
def upd (H:Hp) (a:Addr) (o:HO):Hp:=fun b=>if b=a then some o else H b
theorem zf {H:Hp} {a:Addr} {o:HO}:upd H a o a=some o:=by unfold upd;rw [if_pos rfl]
theorem zl {H:Hp} {a b:Addr} {o:HO} (h:b≠a):upd H a o b=H b:=by unfold upd;rw [if_neg h]
theorem qy {H:Hp} {a:Addr} {o u:HO}:upd (upd H a o) a u=upd H a u:=by
 funext b;unfold upd;split <;> rfl
theorem yI {H:Hp} {a b:Addr} {o u:HO} (h:H a=some o) (h':H b=some u) (d:o≠u):a≠b:=by
 intro e;subst e;rw [h] at h';exact d (Option.some.inj h')
theorem zG {H:Hp} {a b:Addr} {o:HO} (h:H a=some o) (h':H b=none):a≠b:=by
 intro e;subst e;rw [h] at h';cases h'
section
variable (P:Program) (w:World)
def ObjOk (H:Hp) (h:Heap) (a:Addr):HO→Prop
 | .lst xs=>xs.length≤sizeLine∧∃ (its:List Value) (n:Nat),Vals xs its∧h.get? a=some { cls:=.type "list",data:=.seq its.toArray n }
 | .tup xs=>xs.length≤sizeLine∧∃ its:List Value,Vals xs its∧IsTup h a its.toArray
 | .dK kvs=>kvs.length≤sizeLine∧(a == sysModules)=false∧∃ vs,KV kvs vs∧h.DictOf (yt P w) a vs
 | .dT kvs=>kvs.length≤sizeLine∧(a == sysModules)=false∧∃ xs:List (List Key × Addr × Value),
   Paired (fun (p:List Key × V) (q:List Key × Addr × Value)=>p.1=q.1∧H q.2.1=some (.tup (p.1.map kV))∧RelV p.2 q.2.2) kvs xs ∧
   ∃ o es ep,h.get? a=some o∧o.ExactDict∧o.data=.dict es ep∧es.toList=xs.map (entryOfKey (tupleKind (yt P w)))∧(xs.map (·.1)).Nodup
 | .set S n=>h.SetOf (intKind P w) a S n
 | .ins C dx fs=>H dx=some (.own a)∧fs.length≤1000∧dx≠a∧h.get? a=some (PySem.W.instObj C dx) ∧
   ∃ mA,h.Ns1 dx mA∧(∀ f,RelO (fs.lookup f) (mA f))∧PySem.Within mA (fs.map (·.1))
 | .own _=>∃ o,h.get? a=some o
 | .xd fs=>∃ mA,h.Ns1 a mA∧∀ f,RelO (fs.lookup f) (mA f)
 | .rng lo hi=>∃ t u v,h.get? a=some { cls:=.type "range",data:=.fields #[.int lo t,.int hi u,.int 1 v] }
 | .frz o u=>h.get? a=some o∧ObjOk H h a u
 | .tbl ps=>h.get? a=some { cls:=.none,data:=.fields ps }
 | .met f x=>h.get? a=some (PySem.W.methodObj (.ref f) (.ref x))
 | .ext φ=>φ h∧(∃ o,h.get? a=some o)∧∀ h1 h2:Heap,φ h1→(∀ o,h1.get? a=some o→h2.get? a=some o)→φ h2
def HOk (H:Hp) (h:Heap):Prop:=∀ a o,H a=some o→ObjOk P w H h a o
end
section
variable {P:Program} {w:World} {H H':Hp} {h h':Heap} {a:Addr} {o:HO}
theorem ObjOk.lt (x:ObjOk P w H h a o):a < h.objs.size:=by
 cases o with
 | lst xs=>obtain ⟨_,_,_,_,e⟩:=x;exact Heap.lt_size e
 | tup xs=>obtain ⟨_,_,_,p⟩:=x;exact p.lt
 | dK kvs=>obtain ⟨_,_,_,_,o,_,_,e,_⟩:=x;exact Heap.lt_size e
 | dT kvs=>obtain ⟨_,_,_,_,o,_,_,e,_⟩:=x;exact Heap.lt_size e
 | set S n=>obtain ⟨o,_,_,_,e,_⟩:=x;exact Heap.lt_size e
 | ins C dx fs=>obtain ⟨_,_,_,e,_⟩:=x;exact Heap.lt_size e
 | own y=>obtain ⟨_,e⟩:=x;exact Heap.lt_size e
 | xd fs=>obtain ⟨_,⟨_,_,_,e,_⟩,_⟩:=x;exact Heap.lt_size e
 | rng lo hi=>obtain ⟨_,_,_,e⟩:=x;exact Heap.lt_size e
 | frz ob u=>obtain ⟨e,_⟩:=x;exact Heap.lt_size e
 | tbl ps=>exact Heap.lt_size (show h.get? a=some _ from x)
 | met f y=>exact Heap.lt_size (show h.get? a=some _ from x)
 | ext φ=>obtain ⟨_,⟨_,e⟩,_⟩:=x;exact Heap.lt_size e
theorem Paired.mapP {α β:Type} {F G:α→β→Prop}:∀ {l₁:List α} {l₂:List β},Paired F l₁ l₂→(∀ a b,F a b→G a b)→Paired G l₁ l₂
 | _,_,.nil,_=>.nil
 | _,_,.cons r t,f=>.cons (f _ _ r) (Paired.mapP t f)
theorem ObjOk.stay (x:ObjOk P w H h a o) (k:∀ b u,(b=a∨H b=some (.own a))→h.get? b=some u→h'.get? b=some u)
  (ho:∀ b,H b=some (.own a)→H' b=some (.own a)) (ht:∀ b xs,H b=some (.tup xs)→H' b=some (.tup xs)):ObjOk P w H' h' a o:=by
 induction o with
 | lst xs=>obtain ⟨z,its,n,r,e⟩:=x;exact ⟨z,its,n,r,k _ _ (.inl rfl) e⟩
 | tup xs=>obtain ⟨z,its,r,ob,e,c⟩:=x;exact ⟨z,its,r,ob,k _ _ (.inl rfl) e,c⟩
 | dK kvs=>obtain ⟨z,y,vs,r,ob,es,ep,e,c⟩:=x;exact ⟨z,y,vs,r,ob,es,ep,k _ _ (.inl rfl) e,c⟩
 | dT kvs =>
  obtain ⟨z,y,xs,r,ob,es,ep,e,c⟩:=x
  exact ⟨z,y,xs,Paired.mapP r fun p q z=>⟨z.1,ht _ _ z.2.1,z.2.2⟩,ob,es,ep,k _ _ (.inl rfl) e,c⟩
 | set S n=>obtain ⟨ob,es,ep,t,e,c⟩:=x;exact ⟨ob,es,ep,t,k _ _ (.inl rfl) e,c⟩
 | ins C dx fs =>
  obtain ⟨d,z,ne,e,mA,⟨od,es,ep,e2,c⟩,r⟩:=x
  exact ⟨ho _ d,z,ne,k _ _ (.inl rfl) e,mA,⟨od,es,ep,k _ _ (.inr d) e2,c⟩,r⟩
 | own y=>obtain ⟨ob,e⟩:=x;exact ⟨ob,k _ _ (.inl rfl) e⟩
 | xd fs=>obtain ⟨mA,⟨od,es,ep,e,c⟩,r⟩:=x;exact ⟨mA,⟨od,es,ep,k _ _ (.inl rfl) e,c⟩,r⟩
 | rng lo hi=>obtain ⟨t,u,v,e⟩:=x;exact ⟨t,u,v,k _ _ (.inl rfl) e⟩
 | frz ob u ih=>obtain ⟨e,q⟩:=x;exact ⟨k _ _ (.inl rfl) e,ih q⟩
 | tbl ps =>
  have e:h.get? a=some { cls:=.none,data:=.fields ps }:=x
  show h'.get? a=some { cls:=.none,data:=.fields ps }
  exact k a _ (.inl rfl) e
 | met f y =>
  have e:h.get? a=some (PySem.W.methodObj (.ref f) (.ref y)):=x
  show h'.get? a=some (PySem.W.methodObj (.ref f) (.ref y))
  exact k a _ (.inl rfl) e
 | ext φ=>obtain ⟨p,⟨o,e⟩,st⟩:=x;exact ⟨st _ _ p fun o q=>k _ _ (.inl rfl) q,⟨o,k _ _ (.inl rfl) e⟩,st⟩
theorem HOk.lt (x:HOk P w H h) (e:H a=some o):a < h.objs.size:=(x a o e).lt
theorem HOk.fresh (x:HOk P w H h) (e:h.objs.size≤a):H a=none:=by
 cases q:H a with
 | none=>rfl
 | some u=>exact absurd (Nat.lt_of_lt_of_le (x.lt q) e) (Nat.lt_irrefl _)
theorem HOk.kept (x:HOk P w H h) (k:∀ b u,h.get? b=some u→h'.get? b=some u):HOk P w H h':=fun a o e =>
 (x a o e).stay (fun b u _ q=>k b u q) (fun _ q=>q) fun _ _ q=>q
theorem HOk.laid (x:HOk P w H h) (k:∀ b u,h.get? b=some u→h'.get? b=some u) (hp:h.objs.size≤a) (new:ObjOk P w (upd H a o) h' a o):HOk P w (upd H a o) h':=fun b u e=>by
 have hn:=x.fresh hp
 by_cases hb:b=a
 ·subst hb;rw [zf] at e;cases e;exact new
 ·rw [zl hb] at e
  exact (x b u e).stay (fun c v _ q=>k c v q) (fun c q=>by rw [zl (zG q hn)];exact q) fun c xs q=>by rw [zl (zG q hn)];exact q
end
def Rd (H:Hp) (a:Addr) (u:HO):Prop:=H a=some u∨∃ o,H a=some (.frz o u)
theorem Rd.ok {P:Program} {w:World} {H:Hp} {h:Heap} {a:Addr} {u:HO} (r:Rd H a u) (x:HOk P w H h):ObjOk P w H h a u:=by
 rcases r with r | ⟨o,r⟩
 ·exact x a u r
 ·obtain ⟨_,q⟩:=x a _ r
  exact q
def Mut:Option HO→Prop
 | some (.lst _)=>True
 | some (.dK _)=>True
 | some (.dT _)=>True
 | some (.set _ _)=>True
 | some (.ins _ _ _)=>True
 | some (.ext _)=>True
 | _=>False
section
variable {P:Program} {w:World} {H:Hp} {h h':Heap} {x e:Addr} {o':HO}
theorem HOk.write (ok:HOk P w H h) (mu:Mut (H x)) (he:e=x∨H e=some (.own x)) (k:∀ b u,b≠e→h.get? b=some u→h'.get? b=some u) (heo:∃ u,h'.get? e=some u)
  (new:ObjOk P w (upd H x o') h' x o'):HOk P w (upd H x o') h':=fun b u q=>by
 have nown:∀ c y,H c=some (.own y)→c≠x:=fun c y r z=>by subst z;rw [r] at mu;exact mu
 have ntup:∀ c xs,H c=some (.tup xs)→c≠x:=fun c xs r z=>by subst z;rw [r] at mu;exact mu
 by_cases hb:b=x
 ·subst hb;rw [zf] at q;cases q;exact new
 ·rw [zl hb] at q
  by_cases hbe:b=e
  ·have q':H b=some (.own x):=by
    rcases he with z | z
    ·exact absurd (hbe.trans z) hb
    ·rw [hbe];exact z
   rw [q] at q';cases q'
   obtain ⟨v,hv⟩:=heo
   exact ⟨v,by rw [hbe];exact hv⟩
  ·refine (ok b u q).stay (fun c v hc r=>k c v ?_ r) (fun c r=>by rw [zl (nown c b r)];exact r) fun c xs r=>by rw [zl (ntup c xs r)];exact r
   rcases hc with rfl | hc
   ·exact hbe
   ·rintro rfl
    rcases he with z | z
    ·exact nown c b hc z
    ·rw [hc] at z;cases z;exact hb rfl
end
structure Un (fs ex:List Addr) (H H':Hp) (h h':Heap):Prop where
 keep:∀ b o,h.get? b=some o→H b=none→b ∉ fs→b ∉ ex→h'.get? b=some o
 slot:∀ b o,h.get? b=some o→H b=none→b∈fs→b ∉ ex→∃ sl,h'.get? b=some { o with slots:=sl }
 free:∀ b o,h.get? b=some o→H b=none→b ∉ ex→H' b=none
 there:∀ b o,h.get? b=some o→b ∉ ex→∃ o',h'.get? b=some o'
 tups:∀ b xs,H b=some (.tup xs)→H' b=some (.tup xs)
 frzs:∀ b o u,H b=some (.frz o u)→H' b=some (.frz o u)
 tbls:∀ b ps,H b=some (.tbl ps)→∃ more,H' b=some (.tbl (ps ++ more))
section
variable {fs fs' ex ex':List Addr} {H H1 H2:Hp} {h h1 h2 h':Heap} {a x e:Addr} {o:HO}
theorem Un.any (u:Un fs ex H H1 h h1) {b:Addr} {ob:Obj} (q:h.get? b=some ob) (n:H b=none) (hx:b ∉ ex):∃ sl,h1.get? b=some { ob with slots:=sl }:=by
 by_cases hb:b∈fs
 ·exact u.slot b ob q n hb hx
 ·exact ⟨ob.slots,u.keep b ob q n hb hx⟩
theorem Un.kept (k:∀ b u,h.get? b=some u→h'.get? b=some u):Un fs ex H H h h' :=
 ⟨fun b ob q _ _ _=>k b ob q,fun b ob q _ _ _=>⟨ob.slots,k b ob q⟩,fun _ _ _ n _=>n,fun b ob q _=>⟨ob,k b ob q⟩,fun _ _ q=>q,fun _ _ _ q=>q,fun _ ps q=>⟨#[],by rw [q];simp⟩⟩
theorem Un.refl:Un fs ex H H h h:=Un.kept fun _ _ q=>q
theorem Un.laid (k:∀ b u,h.get? b=some u→h'.get? b=some u) (hp:h.objs.size≤a) (hn:H a=none):Un fs ex H (upd H a o) h h' where
 keep:=fun b u q _ _ _=>k b u q
 slot:=fun b u q _ _ _=>⟨u.slots,k b u q⟩
 free:=fun b u q n _=>by rw [zl (Nat.ne_of_lt (Nat.lt_of_lt_of_le (Heap.lt_size q) hp))];exact n
 there:=fun b u q _=>⟨u,k b u q⟩
 tups:=fun b xs q=>by rw [zl (zG q hn)];exact q
 frzs:=fun b u xs q=>by rw [zl (zG q hn)];exact q
 tbls:=fun b ps q=>⟨#[],by rw [zl (zG q hn),q];simp⟩
theorem Un.write (mu:Mut (H x)) (he:e=x∨H e=some (.own x)) (k:∀ b u,b≠e→h.get? b=some u→h'.get? b=some u) (heo:∃ u,h'.get? e=some u):Un fs ex H (upd H x o) h h':=by
 have hx:∀ b,H b=none→b≠x:=fun b n z=>by subst z;rw [n] at mu;exact mu
 have hb:∀ b,H b=none→b≠e:=fun b n z=>by
  subst z
  rcases he with r | r
  ·exact hx b n r
  ·rw [n] at r;cases r
 have hm:∀ b u,H b=some u→¬ Mut (some u)→b≠x:=fun b u q nm z=>by subst z;rw [q] at mu;exact nm mu
 refine ⟨fun b u q n _ _=>k b u (hb b n) q,fun b u q n _ _=>⟨u.slots,k b u (hb b n) q⟩,fun b u q n _=>by rw [zl (hx b n)];exact n,fun b u q _=>?_,
  fun b xs q=>by rw [zl (hm b _ q fun z=>z)];exact q,fun b u xs q=>by rw [zl (hm b _ q fun z=>z)];exact q,fun b ps q=>⟨#[],by rw [zl (hm b _ q fun z=>z),q];simp⟩⟩
 by_cases hbe:b=e
 ·subst hbe;exact heo
 ·exact ⟨u,k b u hbe q⟩
end
def trk (h:Heap) (H:Hp):List Addr:=(List.range h.objs.size).filter fun a=>(H a).isSome
def YO (h:Heap) (H:Hp):Heap:=PySem.W.hideAll h (trk h H)
theorem V9 (h:Heap) (H:Hp):(YO h H).objs.size=h.objs.size:=PySem.W.hideAll_size _ _
theorem JE {h:Heap} {H:Hp} {b:Addr} {o:Obj} (e:h.get? b=some o) (n:H b=none):(YO h H).get? b=some o :=
 PySem.W.hideAll_get _ e fun hm=>by
  have q:(H b).isSome=true:=(List.mem_filter.mp hm).2
  rw [n] at q;simp at q
theorem Ql {h:Heap} {H:Hp} {b:Addr} {o:Obj} (e:(YO h H).get? b=some o):h.get? b=some o∧H b=none:=by
 have e':h.get? b=some o:=PySem.W.of_hideAll (trk h H) e
 refine ⟨e',?_⟩
 cases q:H b with
 | none=>rfl
 | some x =>
  have hm:b∈trk h H:=List.mem_filter.mpr ⟨List.mem_range.mpr (Heap.lt_size e'),by simp [q]⟩
  have z:(YO h H).get? b=none:=PySem.W.hideAll_none (trk h H) hm
  rw [z] at e;cases e
def Qm (g h:Heap) (L:Addr):List (Addr × Obj):=(List.range h.objs.size).filterMap fun a=>if a=L∨(g.get? a).isSome=true then none else (h.get? a).map fun o=>(a,o)
def rest (g h:Heap) (L d:Addr):List (Addr × Obj):=(Qm g h L).filter fun p=>decide (p.1≠d)
end L2
namespace L2
open PySem PySem.Spec PyProof.Rows
structure Mod (K:PySem.W.Frag) (mg:Str→Option Value) (base:Heap):Prop where
 kin:K.In base
 glob:base.Ns mainGlobals mg
 blt:∃ mb,base.Ns builtinsNs mb∧∀ x:Str,x≠"__name__"→mb x=bootBuiltins x
 nolimit:base.NoLimit
set_option genSizeOf false in
set_option genInjectivity false in
structure Cx where
 prog:Program
 w:World
 K:PySem.W.Frag
 mg:Str→Option Value
 base:Heap
 A:Around
 N:List Str
 s₀:Shared
 H₀:Hp
 env:Env
 outer:List Env
 stack:List Env
 ex:List Addr
 fn:Str→Bool
 calm:Bool
 pn:List (Addr × Obj)
 xe:Value→Shared→Prop
def frs (l:List Env):List Addr:=l.filterMap (·.frame)
abbrev Cx.fs (X:Cx):List Addr:=frs X.outer
def Vis (sc:Scope) (x:Str):Prop:=sc.names.lookup x=some .local∨sc.names.lookup x=some .cell∨sc.names.lookup x=some .free
def Loc (sc:Scope) (x:Str):Prop:=sc.names.lookup x=some .local∨sc.names.lookup x=some .cell
def zbI (env:Env) (h:Heap) (m:Str→Option Value) (x:Str) (u:Value):Prop :=
 (env.kindOf x=some .local∧m x=some u)∨((env.kindOf x=some .cell∨env.kindOf x=some .free)∧∃ c,env.cells.lookup x=some c∧h.IsCell c (some u))
structure Cx.Ok (X:Cx):Prop where
 mod:Mod X.K X.mg X.base
 kind:X.env.scope.kind=.function
 glob:X.env.globals=mainGlobals
 blt:X.env.builtins=builtinsNs
 above:X.s₀.heap.objs.size≤X.env.locals
 inj:∀ x y c,X.env.cells.lookup x=some c→X.env.cells.lookup y=some c→x=y
 has:∀ x,(X.env.kindOf x=some .cell∨X.env.kindOf x=some .free)→∃ c,X.env.cells.lookup x=some c
 cab:∀ x c,X.fn x=true→X.env.cells.lookup x=some c→X.s₀.heap.objs.size≤c
 hd:X.calm=true→X.A.handled=none
 frames:X.A.frames=some X.stack
 stk:X.stack=X.outer∨(X.stack=X.env :: X.outer∧X.env.frame=some X.env.locals)
 exf:∀ b∈X.ex,b≠X.env.locals∧∀ x c,X.env.cells.lookup x=some c→c≠b
 bs:∀ b o,X.base.get? b=some o→X.s₀.heap.get? b=some o∧X.H₀ b=none
 bsz:X.base.objs.size≤X.s₀.heap.objs.size
 noex:∀ b o,X.base.get? b=some o→b ∉ X.ex
 exfs:∀ b∈X.ex,b ∉ X.fs
 funs:X.s₀.heap.FunFrames X.base X.outer
 frf:∀ b∈X.fs,X.H₀ b=none
structure Inv (X:Cx) (pins:List (Addr × Obj)) (σ:List (Option V)) (H:Hp) (s:Shared):Prop where
 ok:X.Ok
 os:s.os=X.s₀.os
 bare:AllBare s.gens
 base:Un X.fs X.ex X.H₀ H X.s₀.heap s.heap
 loc:∃ m,s.heap.Ns X.env.locals m∧∀ (i:Nat) (x:Str) (v:V),X.N[i]?=some x→σ[i]?=some (some v)→Vis X.env.scope x→∃ u,RelV v u∧zbI X.env s.heap m x u
 cell:∀ x c,X.env.cells.lookup x=some c→∃ v,s.heap.IsCell c v
 free:H X.env.locals=none
 freeC:∀ x c,X.env.cells.lookup x=some c→H c=none
 pin:∀ p∈X.pn ++ pins,s.heap.get? p.1=some p.2∧H p.1=none∧p.1≠X.env.locals∧p.1 ∉ X.fs∧∀ v,p.2.data≠.cell v
 hok:HOk X.prog X.w H s.heap
 len:σ.length=X.N.length
section
variable {X:Cx} {pins:List (Addr × Obj)} {σ:List (Option V)} {H H':Hp} {s:Shared} {h':Heap}
theorem Cx.Ok.nofr (ok:X.Ok) {b:Addr} {o:Obj} (e:X.base.get? b=some o):b ∉ X.fs:=fun hb=>by
 have:=(ok.funs.mem hb).1
 rw [e] at this;cases this
theorem Inv.bs (I:Inv X pins σ H s):∀ b o,X.base.get? b=some o→s.heap.get? b=some o∧H b=none:=fun b o e =>
 ⟨I.base.keep b o (I.ok.bs b o e).1 (I.ok.bs b o e).2 (I.ok.nofr e) (I.ok.noex b o e),I.base.free b o (I.ok.bs b o e).1 (I.ok.bs b o e).2 (I.ok.noex b o e)⟩
theorem Inv.bk (I:Inv X pins σ H s):∀ b o,X.base.get? b=some o→s.heap.get? b=some o:=fun b o e=>(I.bs b o e).1
theorem Inv.mod (I:Inv X pins σ H s):Mod X.K X.mg X.base:=I.ok.mod
theorem Inv.kIn (I:Inv X pins σ H s):X.K.In s.heap:=I.ok.mod.kin.keeps I.bk
theorem Inv.lt (I:Inv X pins σ H s):X.env.locals < s.heap.objs.size:=let ⟨_,hn,_⟩:=I.loc;hn.lt
theorem Inv.sz (I:Inv X pins σ H s):X.s₀.heap.objs.size≤s.heap.objs.size:=Nat.le_trans I.ok.above (Nat.le_of_lt I.lt)
theorem Inv.nofs (I:Inv X pins σ H s) {a:Addr} (h:s.heap.objs.size≤a):a ∉ X.fs:=fun hb=>by
 obtain ⟨_,o,ho,_⟩:=I.ok.funs.mem hb
 exact absurd (Nat.lt_of_lt_of_le (Heap.lt_size ho) (Nat.le_trans I.sz h)) (Nat.lt_irrefl _)
theorem Inv.cne (I:Inv X pins σ H s):∀ x c,X.env.cells.lookup x=some c→c≠X.env.locals:=fun x c e z=>by
 obtain ⟨v,o,ho,hd⟩:=I.cell x c e
 obtain ⟨m,⟨o',es,ep,ho',hd',_⟩,_⟩:=I.loc
 rw [z,ho'] at ho;cases ho;rw [hd'] at hd;cases hd
theorem Inv.funs (I:Inv X pins σ H s):s.heap.FunFrames X.base X.outer:=by
 have all:∀ (l:List Env),(∀ b∈frs l,b∈X.fs)→X.s₀.heap.FunFrames X.base l→s.heap.FunFrames X.base l:=by
  intro l
  induction l with
  | nil=>intro _ _;trivial
  | cons env r ih =>
   intro hs hl
   obtain ⟨hk,⟨L,o,hf,hn,ho,hd⟩,hr⟩:=hl
   have hL:L∈X.fs:=hs L (by unfold frs;rw [List.filterMap_cons,hf];exact List.mem_cons_self)
   obtain ⟨sl,e⟩:=I.base.slot L o ho (I.ok.frf L hL) hL fun z=>I.ok.exfs L z hL
   exact ⟨hk,⟨L,_,hf,hn,e,hd⟩,ih (fun b hb=>hs b (by unfold frs;rw [List.filterMap_cons,hf];exact List.mem_cons_of_mem _ hb)) hr⟩
 exact all X.outer (fun _ hb=>hb) I.ok.funs
theorem Inv.stack (I:Inv X pins σ H s):s.heap.FunFrames X.base X.stack:=by
 rcases I.ok.stk with e | ⟨e,hf⟩
 ·rw [e];exact I.funs
 ·rw [e]
  obtain ⟨m,hn,_⟩:=I.loc
  refine .cons (by rw [I.ok.kind];decide) hf hn ?_ I.funs
  exact Heap.get?_none_of_le (Nat.le_trans I.ok.bsz I.ok.above)
theorem Inv.stkSub (I:Inv X pins σ H s):∀ b∈frs X.stack,b∈X.env.locals :: X.fs:=fun b hb=>by
 rcases I.ok.stk with e | ⟨e,hf⟩
 ·rw [e] at hb;exact List.mem_cons_of_mem _ hb
 ·rw [e] at hb
  unfold frs at hb
  rw [List.filterMap_cons,hf] at hb
  exact hb
theorem Inv.stkFree (I:Inv X pins σ H s):∀ b∈frs X.stack,H b=none:=fun b hb=>by
 rcases List.mem_cons.mp (I.stkSub b hb) with e | hb
 ·rw [e];exact I.free
 ·obtain ⟨_,o,ho,_⟩:=I.ok.funs.mem hb
  exact I.base.free b o ho (I.ok.frf b hb) fun z=>I.ok.exfs b z hb
theorem Inv.step {g':Array GenState} {t':Nat} {d':Drawn} {ch:List Addr} (I:Inv X pins σ H s)
  (hch:∀ b∈ch,(b∈X.ex∨X.s₀.heap.objs.size≤b)∧b≠X.env.locals∧(∀ x c,X.env.cells.lookup x=some c→c≠b)∧∀ p∈X.pn ++ pins,p.1≠b)
  (keep:∀ b o,b≠X.env.locals→b ∉ X.fs→b ∉ ch→s.heap.get? b=some o→H b=none→h'.get? b=some o)
  (slot:∀ b o,b≠X.env.locals→b∈X.fs→b ∉ ch→s.heap.get? b=some o→H b=none→∃ sl,h'.get? b=some { o with slots:=sl }) (free:∀ b o,b ∉ ch→s.heap.get? b=some o→H b=none→H' b=none)
  (there:∀ b o,b ∉ ch→s.heap.get? b=some o→∃ o',h'.get? b=some o')
  (tups:∀ b xs,H b=some (.tup xs)→H' b=some (.tup xs)) (frzs:∀ b o u,H b=some (.frz o u)→H' b=some (.frz o u)) (tbls:∀ b ps,H b=some (.tbl ps)→∃ more,H' b=some (.tbl (ps ++ more)))
  (ns:∀ m,s.heap.Ns X.env.locals m→h'.Ns X.env.locals m) (hok:HOk X.prog X.w H' h') (hg:AllBare g') :
  Inv X pins σ H' { s with heap:=h',gens:=g',drawn:=d',toks:=t' }:=by
 have neL:∀ b o,X.s₀.heap.get? b=some o→b≠X.env.locals:=fun b o e=>Nat.ne_of_lt (Nat.lt_of_lt_of_le (Heap.lt_size e) I.ok.above)
 have neC:∀ b o,X.s₀.heap.get? b=some o→b ∉ X.ex→b ∉ ch:=fun b o e hx hb=>by
  rcases (hch b hb).1 with z | z
  ·exact hx z
  ·exact absurd (Nat.lt_of_lt_of_le (Heap.lt_size e) z) (Nat.lt_irrefl _)
 have cellK:∀ x c,X.env.cells.lookup x=some c→∀ v,s.heap.IsCell c v→h'.IsCell c v:=fun x c e v ⟨o,ho,hd⟩=>by
  have nch:c ∉ ch:=fun z=>(hch c z).2.2.1 x c e rfl
  by_cases hc:c∈X.fs
  ·obtain ⟨sl,q⟩:=slot c o (I.cne x c e) hc nch ho (I.freeC x c e)
   exact ⟨_,q,hd⟩
  ·exact ⟨o,keep c o (I.cne x c e) hc nch ho (I.freeC x c e),hd⟩
 refine ⟨I.ok,I.os,hg,⟨fun b o e n hb hx=>?_,fun b o e n hb hx=>?_,fun b o e n hx=>?_,fun b o e hx=>?_,fun b xs e=>tups b xs (I.base.tups b xs e),fun b o xs e=>frzs b o xs (I.base.frzs b o xs e),fun b ps e=>?_⟩,?_,fun x c e=>?_,?_,fun x c e=>?_,fun p hp=>?_,hok,I.len⟩
 ·exact keep b o (neL b o e) hb (neC b o e hx) (I.base.keep b o e n hb hx) (I.base.free b o e n hx)
 ·obtain ⟨sl,e1⟩:=I.base.slot b o e n hb hx
  obtain ⟨sl',e2⟩:=slot b _ (neL b o e) hb (neC b o e hx) e1 (I.base.free b o e n hx)
  exact ⟨sl',e2⟩
 ·obtain ⟨o',e1⟩:=I.base.there b o e hx
  exact free b o' (neC b o e hx) e1 (I.base.free b o e n hx)
 ·obtain ⟨o',e1⟩:=I.base.there b o e hx
  exact there b o' (neC b o e hx) e1
 ·obtain ⟨m1,e1⟩:=I.base.tbls b ps e
  obtain ⟨m2,e2⟩:=tbls b _ e1
  exact ⟨m1 ++ m2,by rw [e2,Array.append_assoc]⟩
 ·obtain ⟨m,hn,hl⟩:=I.loc
  refine ⟨m,ns m hn,fun i x v e1 e2 e3=>?_⟩
  obtain ⟨u,r,l⟩:=hl i x v e1 e2 e3
  refine ⟨u,r,?_⟩
  rcases l with l | ⟨k,c,e,z⟩
  ·exact .inl l
  ·exact .inr ⟨k,c,e,cellK x c e _ z⟩
 ·obtain ⟨v,z⟩:=I.cell x c e
  exact ⟨v,cellK x c e v z⟩
 ·obtain ⟨m,⟨o,_,_,ho,_⟩,_⟩:=I.loc
  exact free _ o (fun z=>(hch _ z).2.1 rfl) ho I.free
 ·obtain ⟨v,o,ho,hd⟩:=I.cell x c e
  exact free c o (fun z=>(hch c z).2.2.1 x c e rfl) ho (I.freeC x c e)
 ·obtain ⟨e,n,ne,nf,d⟩:=I.pin p hp
  have nch:p.1 ∉ ch:=fun z=>(hch p.1 z).2.2.2 p hp rfl
  exact ⟨keep p.1 p.2 ne nf nch e n,free p.1 p.2 nch e n,ne,nf,d⟩
theorem Inv.un {t':Nat} (I:Inv X pins σ H s) (u:Un X.fs [] H H' s.heap h') (hok:HOk X.prog X.w H' h'):Inv X pins σ H' { s with heap:=h',toks:=t' }:=by
 obtain ⟨m,⟨o,es,ep,ho,r⟩,_⟩:=id I.loc
 obtain ⟨sl,hL⟩:=u.any ho I.free (by simp)
 exact I.step (g':=s.gens) (d':=s.drawn) (ch:=[]) (fun _ z=>nomatch z) (fun b o _ hb _ e n=>u.keep b o e n hb (by simp)) (fun b o _ hb _ e n=>u.slot b o e n hb (by simp)) (fun b o _ e n=>u.free b o e n (by simp)) (fun b o _ e=>u.there b o e (by simp)) u.tups u.frzs u.tbls (fun m' hm=>by
  obtain ⟨o',es',ep',ho',r'⟩:=hm
  rw [ho] at ho';cases ho'
  exact ⟨_,es',ep',hL,r'⟩) hok I.bare
theorem Inv.call {g':Array GenState} {t':Nat} {d':Drawn} {ch:List Addr} (I:Inv X pins σ H s) (u:Un (frs X.stack) ch H H' s.heap h') (hok:HOk X.prog X.w H' h') (hg:AllBare g')
  (hch:∀ b∈ch,(b∈X.ex∨X.s₀.heap.objs.size≤b)∧b≠X.env.locals∧(∀ x c,X.env.cells.lookup x=some c→c≠b)∧∀ p∈X.pn ++ pins,p.1≠b) :
  Inv X pins σ H' { s with heap:=h',gens:=g',drawn:=d',toks:=t' }:=by
 obtain ⟨m,⟨o,es,ep,ho,r⟩,_⟩:=id I.loc
 obtain ⟨sl,hL⟩:=u.any ho I.free fun z=>(hch _ z).2.1 rfl
 exact I.step (ch:=ch) hch (fun b o hL hb hc e n=>u.keep b o e n (fun z=>(List.mem_cons.mp (I.stkSub b z)).elim hL hb) hc) (fun b o _ _ hc e n=>u.any e n hc) (fun b o hc e n=>u.free b o e n hc) (fun b o hc e=>u.there b o e hc) u.tups u.frzs u.tbls (fun m' hm=>by
  obtain ⟨o',es',ep',ho',r'⟩:=hm
  rw [ho] at ho';cases ho'
  exact ⟨_,es',ep',hL,r'⟩) hok hg
theorem Inv.turned {t':Nat} {it:Addr} (I:Inv X pins σ H s) (k:∀ b o,b≠it→s.heap.get? b=some o→h'.get? b=some o) (hn:H it=none) (hL:it≠X.env.locals)
  (h1:it∈X.ex∨X.s₀.heap.objs.size≤it) (h2:∀ x c,X.env.cells.lookup x=some c→c≠it) (h3:∀ p∈X.pn ++ pins,p.1≠it):Inv X pins σ H { s with heap:=h',toks:=t' }:=by
 have nit:∀ b u,H b=some u→b≠it:=fun b u e z=>by rw [z,hn] at e;cases e
 refine I.step (g':=s.gens) (d':=s.drawn) (ch:=[it]) (fun b hb=>?_) (fun b o _ _ hc e _=>k b o (fun z=>hc (by simp [z])) e) (fun b o _ _ hc e _=>⟨o.slots,k b o (fun z=>hc (by simp [z])) e⟩) (fun _ _ _ _ n=>n)
  (fun b o hc e=>⟨o,k b o (fun z=>hc (by simp [z])) e⟩) (fun _ _ e=>e) (fun _ _ _ e=>e) (fun b ps e=>⟨#[],by rw [e];simp⟩) (fun m hm=>?_) (fun b u e=>?_) I.bare
 ·have e:b=it:=by simpa using hb
  subst e
  exact ⟨h1,hL,h2,h3⟩
 ·obtain ⟨o,es,ep,ho,r⟩:=hm
  exact ⟨o,es,ep,k _ o (Ne.symm hL) ho,r⟩
 ·refine (I.hok b u e).stay (fun c v hc q=>k c v ?_ q) (fun _ q=>q) fun _ _ q=>q
  rcases hc with z | z
  ·rw [z];exact nit b u e
  ·exact nit c _ z
theorem Inv.tok (I:Inv X pins σ H s) (t:Nat):Inv X pins σ H { s with toks:=t }:=I.un (h':=s.heap) (t':=t) Un.refl I.hok
theorem Inv.kept {t':Nat} (I:Inv X pins σ H s) (k:∀ b u,s.heap.get? b=some u→h'.get? b=some u):Inv X pins σ H { s with heap:=h',toks:=t' }:=I.un (Un.kept k) (I.hok.kept k)
theorem Inv.laid {a:Addr} {o:HO} {t':Nat} (I:Inv X pins σ H s) (k:∀ b u,s.heap.get? b=some u→h'.get? b=some u) (hp:s.heap.objs.size≤a) (new:ObjOk X.prog X.w (upd H a o) h' a o) :
  Inv X pins σ (upd H a o) { s with heap:=h',toks:=t' }:=I.un (Un.laid k hp (I.hok.fresh hp)) (I.hok.laid k hp new)
theorem Inv.write {x e:Addr} {o:HO} {t':Nat} (I:Inv X pins σ H s) (mu:Mut (H x)) (he:e=x∨H e=some (.own x)) (k:∀ b u,b≠e→s.heap.get? b=some u→h'.get? b=some u) (heo:∃ u,h'.get? e=some u)
  (new:ObjOk X.prog X.w (upd H x o) h' x o):Inv X pins σ (upd H x o) { s with heap:=h',toks:=t' }:=I.un (Un.write mu he k heo) (I.hok.write mu he k heo new)
theorem Inv.pins_of {pins':List (Addr × Obj)} (I:Inv X pins σ H s) (h:∀ p∈pins',s.heap.get? p.1=some p.2∧H p.1=none∧p.1≠X.env.locals∧p.1 ∉ X.fs∧∀ v,p.2.data≠.cell v):Inv X pins' σ H s :=
 ⟨I.ok,I.os,I.bare,I.base,I.loc,I.cell,I.free,I.freeC,fun p hp=>(List.mem_append.mp hp).elim (fun z=>I.pin p (List.mem_append_left _ z)) (h p),I.hok,I.len⟩
theorem Xr {N:List Str} (hN:N.Nodup) {i j:Nat} {x:Str} (a:N[i]?=some x) (b:N[j]?=some x):i=j:=by
 obtain ⟨h1,e1⟩:=List.getElem?_eq_some_iff.mp a
 obtain ⟨h2,e2⟩:=List.getElem?_eq_some_iff.mp b
 exact (List.getElem_inj hN).mp (e1.trans e2.symm)
theorem Ye {M:Model} {A:Around} {E:Value→Shared→Prop} {i:Nat} {x:Str} {v:V} {u:Value} {Q:Unit→Shared→Prop} (I:Inv X pins σ H s) (hN:X.N.Nodup) (hi:X.N[i]?=some x) (hx:Loc X.env.scope x) (r:RelV v u)
  (h:∀ s',Inv X pins (σ.set i (some v)) H s'→(∃ a,Heap.SameBut a s.heap s'.heap∧(a=X.env.locals∨X.env.cells.lookup x=some a))→Q () s') (hf:X.fn x=true∨X.env.scope.names.lookup x=some .local:=by first | exact .inl rfl | exact .inr rfl | assumption):wpAny M A (storeName X.env x u) Q E s:=by
 obtain ⟨m,hn,hl⟩:=id I.loc
 have hcls:(X.env.scope.kind == .class || (X.env.scope.kind == .module && X.env.locals != X.env.globals))=false:=by rw [I.ok.kind];rfl
 have hiσ:i < σ.length:=by rw [I.len];exact (List.getElem?_eq_some_iff.mp hi).1
 have cne:=I.cne
 have tracked:∀ {a:Addr} {h':Heap},(∃ o,s.heap.get? a=some o∧H a=none)→Heap.SameBut a s.heap h'→HOk X.prog X.w H h':=fun {a h'} ha hs b ob e=>by
  obtain ⟨_,_,hfree⟩:=ha
  refine (I.hok b ob e).stay (fun c w' hc q=>(hs.2 c ?_).trans q) (fun _ q=>q) fun _ _ q=>q
  rintro rfl
  rcases hc with rfl | hc
  ·rw [hfree] at e;cases e
  ·rw [hfree] at hc;cases hc
 rcases hx with hk | hk
 ·refine wpAny_storeName_local hk hn (fun h' hn' hs=>?_) hcls
  obtain ⟨oL,_,_,hoL,_⟩:=id hn
  refine h _ ⟨I.ok,I.os,I.bare,⟨fun b o e n hb hx=>?_,fun b o e n hb hx=>?_,I.base.free,fun b o e hx=>?_,I.base.tups,I.base.frzs,I.base.tbls⟩,⟨_,hn',fun j y v' e1 e2 e3=>?_⟩,fun y c e=>?_,I.free,I.freeC,fun p hp=>?_,tracked ⟨oL,hoL,I.free⟩ hs,by simpa using I.len⟩ ⟨_,hs,.inl rfl⟩
  ·exact (hs.2 b (Nat.ne_of_lt (Nat.lt_of_lt_of_le (Heap.lt_size e) I.ok.above))).trans (I.base.keep b o e n hb hx)
  ·obtain ⟨sl,e1⟩:=I.base.slot b o e n hb hx
   exact ⟨sl,(hs.2 b (Nat.ne_of_lt (Nat.lt_of_lt_of_le (Heap.lt_size e) I.ok.above))).trans e1⟩
  ·obtain ⟨o',e1⟩:=I.base.there b o e hx
   exact ⟨o',(hs.2 b (Nat.ne_of_lt (Nat.lt_of_lt_of_le (Heap.lt_size e) I.ok.above))).trans e1⟩
  ·by_cases hj:j=i
   ·subst hj
    rw [hi] at e1;cases e1
    rw [List.getElem?_set_self hiσ] at e2
    cases e2
    exact ⟨u,r,.inl ⟨hk,by simp⟩⟩
   ·rw [List.getElem?_set_ne (Ne.symm hj)] at e2
    obtain ⟨u',r',q⟩:=hl j y v' e1 e2 e3
    refine ⟨u',r',?_⟩
    rcases q with ⟨k,e⟩ | ⟨k,c,e,z⟩
    ·refine .inl ⟨k,?_⟩
     have:y≠x:=fun e=>hj (Xr hN e1 (e ▸ hi))
     simp [this,e]
    ·exact .inr ⟨k,c,e,z.sameBut hs (cne y c e)⟩
  ·obtain ⟨w',z⟩:=I.cell y c e
   exact ⟨w',z.sameBut hs (cne y c e)⟩
  ·obtain ⟨e,n,ne,nf,d⟩:=I.pin p hp
   exact ⟨(hs.2 p.1 ne).trans e,n,ne,nf,d⟩
 ·have hfn:X.fn x=true:=by
   rcases hf with z | z
   ·exact z
   ·rw [z] at hk;cases hk
  obtain ⟨c,hc⟩:=I.ok.has x (.inl hk)
  obtain ⟨w',z⟩:=I.cell x c hc
  refine wpAny_storeName_cell I.ok.kind hk hc z (fun h' hc' hs=>?_)
  obtain ⟨oc,hoc,hocd⟩:=id z
  refine h { s with heap:=h' } ⟨I.ok,I.os,I.bare,⟨fun b o e n hb hx=>?_,fun b o e n hb hx=>?_,I.base.free,fun b o e hx=>?_,I.base.tups,I.base.frzs,I.base.tbls⟩,⟨m,hn.sameBut hs (Ne.symm (cne x c hc)),fun j y v' e1 e2 e3=>?_⟩,fun y c' e=>?_,I.free,I.freeC,fun p hp=>?_,tracked ⟨oc,hoc,I.freeC x c hc⟩ hs,by simpa using I.len⟩ ⟨c,hs,.inr hc⟩
  ·exact (hs.2 b (Nat.ne_of_lt (Nat.lt_of_lt_of_le (Heap.lt_size e) (I.ok.cab x c hfn hc)))).trans (I.base.keep b o e n hb hx)
  ·obtain ⟨sl,e1⟩:=I.base.slot b o e n hb hx
   exact ⟨sl,(hs.2 b (Nat.ne_of_lt (Nat.lt_of_lt_of_le (Heap.lt_size e) (I.ok.cab x c hfn hc)))).trans e1⟩
  ·obtain ⟨o',e1⟩:=I.base.there b o e hx
   exact ⟨o',(hs.2 b (Nat.ne_of_lt (Nat.lt_of_lt_of_le (Heap.lt_size e) (I.ok.cab x c hfn hc)))).trans e1⟩
  ·by_cases hj:j=i
   ·subst hj
    rw [hi] at e1;cases e1
    rw [List.getElem?_set_self hiσ] at e2
    cases e2
    exact ⟨u,r,.inr ⟨.inl hk,c,hc,hc'⟩⟩
   ·rw [List.getElem?_set_ne (Ne.symm hj)] at e2
    obtain ⟨u',r',q⟩:=hl j y v' e1 e2 e3
    refine ⟨u',r',?_⟩
    rcases q with q | ⟨k,c',e,z'⟩
    ·exact .inl q
    ·refine .inr ⟨k,c',e,z'.sameBut hs ?_⟩
     rintro rfl
     exact hj (Xr hN e1 (I.ok.inj _ _ _ e hc ▸ hi))
  ·by_cases hcc:c'=c
   ·subst hcc;exact ⟨_,hc'⟩
   ·obtain ⟨w2,z2⟩:=I.cell y c' e
    exact ⟨w2,z2.sameBut hs hcc⟩
  ·obtain ⟨e,n,ne,nf,d⟩:=I.pin p hp
   refine ⟨(hs.2 p.1 ?_).trans e,n,ne,nf,d⟩
   intro q
   rw [q,hoc] at e
   have q':oc=p.2:=Option.some.inj e
   exact d w' (by rw [← q'];exact hocd)
theorem qJ {M:Model} {A:Around} {E:Value→Shared→Prop} {i:Nat} {x:Str} {v:V} {u:Value} {Q:Unit→Shared→Prop} (I:Inv X pins σ H s) (hN:X.N.Nodup) (hi:X.N[i]?=some x) (hx:Loc X.env.scope x) (r:RelV v u)
  (h:∀ s',Inv X pins (σ.set i (some v)) H s'→Q () s') (hf:X.fn x=true∨X.env.scope.names.lookup x=some .local:=by first | exact .inl rfl | exact .inr rfl | assumption):wpAny M A (storeName X.env x u) Q E s :=
 Ye I hN hi hx r (fun s' I' _=>h s' I') hf
theorem Inv.call' {s':Shared} {ch:List Addr} (I:Inv X pins σ H s) (ho:s'.os=s.os) (u:Un (frs X.stack) ch H H' s.heap s'.heap) (hok:HOk X.prog X.w H' s'.heap) (hg:AllBare s'.gens)
  (hch:∀ b∈ch,(b∈X.ex∨X.s₀.heap.objs.size≤b)∧b≠X.env.locals∧(∀ x c,X.env.cells.lookup x=some c→c≠b)∧∀ p∈X.pn ++ pins,p.1≠b):Inv X pins σ H' s':=by
 obtain ⟨h',g',d',t',o'⟩:=s'
 have e:o'=s.os:=ho
 subst e
 exact I.call (g':=g') (t':=t') (d':=d') u hok hg hch
end
abbrev XK:=Value→Option Addr→Hp→Prop
abbrev St:=List (Option V)
abbrev VK:=V→Hp→Prop
abbrev TE:=St→Hp→VK→Prop
abbrev TT:=St→Hp→(Bool→Hp→Prop)→Prop
abbrev TA:=St→Hp→(List V→Hp→Prop)→Prop
set_option genSizeOf false in
set_option genInjectivity false in
structure ZV where
 nx:St→Hp→Prop
 rt:VK
 bk:St→Hp→Prop:=fun _ _=>False
 ct:St→Hp→Prop:=fun _ _=>False
abbrev TS:=ZV→St→Hp→Prop
def EP (X:Cx) (pins:List (Addr × Obj)) (σ:St) (Q:VK) (u:Value) (s':Shared):Prop:=∃ v H',Inv X pins σ H' s'∧RelV v u∧Q v H'
def TP (X:Cx) (pins:List (Addr × Obj)) (σ:St) (Q:Bool→Hp→Prop) (b:Bool) (s':Shared):Prop:=∃ H',Inv X pins σ H' s'∧Q b H'
def AP (X:Cx) (pins:List (Addr × Obj)) (σ:St) (Q:List V→Hp→Prop) (us:List Value) (s':Shared):Prop:=∃ vs H',Inv X pins σ H' s'∧Vals vs us∧Q vs H'
def SP (X:Cx) (pins:List (Addr × Obj)) (D:ZV) (f:Flow) (s':Shared):Prop :=
 match f with
 | .next=>∃ σ' H',Inv X pins σ' H' s'∧D.nx σ' H'
 | .brk=>∃ σ' H',Inv X pins σ' H' s'∧D.bk σ' H'
 | .cont=>∃ σ' H',Inv X pins σ' H' s'∧D.ct σ' H'
 | .ret u=>∃ v σ' H',Inv X pins σ' H' s'∧RelV v u∧D.rt v H'
def PE (X:Cx) (e:Expr) (t:TE):Prop :=
 ∀ (pins:List (Addr × Obj)) (s:Shared) (σ:St) (H:Hp) (Q:VK),Inv X pins σ H s→t σ H Q→wpAny (model X.prog X.w) X.A (eval e X.env) (EP X pins σ Q) X.xe s
def PT (X:Cx) (e:Expr) (t:TT):Prop :=
 ∀ (pins:List (Addr × Obj)) (s:Shared) (σ:St) (H:Hp) (Q:Bool→Hp→Prop),Inv X pins σ H s→t σ H Q→wpAny (model X.prog X.w) X.A (isTrue e X.env (eval e X.env)) (TP X pins σ Q) X.xe s
def PW (X:Cx) (e:Expr) (t:TT):Prop :=
 ∀ (whole:Sem Value) (pins:List (Addr × Obj)) (s:Shared) (σ:St) (H:Hp) (Q:Bool→Hp→Prop),Inv X pins σ H s→t σ H Q→wpAny (model X.prog X.w) X.A (isTrue e X.env whole) (TP X pins σ Q) X.xe s
theorem PW.pt {X:Cx} {e:Expr} {t:TT} (h:PW X e t):PT X e t:=h _
def PA (X:Cx) (es:List Expr) (t:TA):Prop :=
 ∀ (pos:Pos) (pins:List (Addr × Obj)) (s:Shared) (σ:St) (H:Hp) (Q:List V→Hp→Prop),Inv X pins σ H s→t σ H Q→wpAny (model X.prog X.w) X.A (spliced (backTo pos (starEach es X.env))) (AP X pins σ Q) X.xe s
def PS (X:Cx) (st:Stmt) (t:TS):Prop :=
 ∀ (pins:List (Addr × Obj)) (s:Shared) (σ:St) (H:Hp) (D:ZV),Inv X pins σ H s→t D σ H→wpAny (model X.prog X.w) X.A (exec st X.env) (SP X pins D) X.xe s
def PSs (X:Cx) (st:List Stmt) (t:TS):Prop :=
 ∀ (pins:List (Addr × Obj)) (s:Shared) (σ:St) (H:Hp) (D:ZV),Inv X pins σ H s→t D σ H→wpAny (model X.prog X.w) X.A (execs st X.env) (SP X pins D) X.xe s
theorem thn {α:Type} {t:Sem α} {Q Q':α→Shared→Prop} {M:Model} {A:Around} {E:Value→Shared→Prop} {s:Shared} (h:wpAny M A t Q E s) (hQ:∀ a s,Q a s→Q' a s):wpAny M A t Q' E s:=wpAny_mono h hQ fun _ _ x=>x
end L2
namespace L2
open PySem PySem.Spec PyProof.Rows
section
variable {X:Cx}
def zc (i:Nat):TE:=fun σ H Q=>∃ v,σ[i]?=some (some v)∧Q v H
def tC (v:V):TE:=fun _ H Q=>Q v H
theorem zax {i:Nat} {x:Str} {pos:Pos} (hN:X.N[i]?=some x) (hv:Vis X.env.scope x) (hd:(x == ("__debug__":Str))=false:=by decide) (hcd:(x == ("__classdict__":Str))=false:=by decide):PE X (.Name x pos) (zc i):=by
 intro pins s σ H Q I h
 obtain ⟨v,e,h⟩:=h
 obtain ⟨m,hn,hl⟩:=I.loc
 obtain ⟨u,r,l⟩:=hl i x v hN e hv
 have fin:EP X pins σ Q u s:=⟨v,H,I,r,h⟩
 rcases l with ⟨hk,hm⟩ | ⟨hk,c,hc,hcell⟩
 ·exact wpAny_Name (wpAny_loadName_local I.ok.kind hk hn hm fin) hd
 ·rcases hk with hk | hk
  ·exact wpAny_Name (wpAny_loadName_cell I.ok.kind hk hc hcell fin) hd
  ·exact wpAny_Name (wpAny_loadName_free I.ok.kind hk hc hcell fin hcd) hd
theorem zd {i j pos}:PE X (.Constant (.int i) j pos) (tC (.int i)):=fun _ _ _ H _ I h=>wpAny_Constant_int ⟨.int i,H,I.tok _,⟨_,rfl⟩,h⟩
theorem qd {b j pos}:PE X (.Constant (.bool b) j pos) (tC (.bl b)):=fun _ _ _ H _ I h=>Constant_bool ⟨.bl b,H,I,rfl,h⟩
theorem zJ {x j pos}:PE X (.Constant (.str x) j pos) (tC (.str x)):=fun _ _ _ H _ I h=>Calls.Constant_str ⟨.str x,H,I.tok _,⟨_,rfl⟩,h⟩
def Gl (X:Cx) (x:Str):Prop:=X.env.kindOf x=some .globalImplicit
theorem vH {E:Value→Shared→Prop} {pins:List (Addr × Obj)} {s:Shared} {σ:St} {H:Hp} {x:Str} {u:Value} {pos:Pos} {Q:Value→Shared→Prop} (I:Inv X pins σ H s) (hg:Gl X x) (hm:X.mg x=some u) (h:Q u s)
  (hd:(x == ("__debug__":Str))=false:=by decide):wpAny (model X.prog X.w) X.A (eval (.Name x pos) X.env) Q E s :=
 Calls.Name_function_global I.ok.kind hg (Calls.loadGlobal_global (by rw [I.ok.glob];exact I.mod.glob.keeps I.bk) hm h) hd
theorem YQ {E:Value→Shared→Prop} {pins:List (Addr × Obj)} {s:Shared} {σ:St} {H:Hp} {x:Str} {u:Value} {pos:Pos} {Q:Value→Shared→Prop} (I:Inv X pins σ H s) (hg:Gl X x) (hm:X.mg x=none) (hv:bootBuiltins x=some u) (h:Q u s)
  (hn:x≠"__name__":=by decide) (hd:(x == ("__debug__":Str))=false:=by decide):wpAny (model X.prog X.w) X.A (eval (.Name x pos) X.env) Q E s:=by
 obtain ⟨mb,h1,h2⟩:=I.mod.blt
 exact Calls.Name_function_global I.ok.kind hg (Calls.loadGlobal_builtin (by rw [I.ok.glob];exact I.mod.glob.keeps I.bk) hm (by rw [I.ok.blt];exact h1.keeps I.bk) ((h2 x hn).trans hv) h) hd
theorem Qn {x:Str} {v:V} {u:Value} {pos:Pos} (hg:Gl X x) (hm:X.mg x=some u) (r:RelV v u) (hd:(x == ("__debug__":Str))=false:=by decide):PE X (.Name x pos) (tC v) :=
 fun _ _ _ H _ I h=>vH I hg hm ⟨v,H,I,r,h⟩ hd
theorem xW {x:Str} {v:V} {u:Value} {pos:Pos} (hg:Gl X x) (hm:X.mg x=none) (hv:bootBuiltins x=some u) (r:RelV v u) (hn:x≠"__name__":=by decide) (hd:(x == ("__debug__":Str))=false:=by decide):PE X (.Name x pos) (tC v) :=
 fun _ _ _ H _ I h=>YQ I hg hm hv ⟨v,H,I,r,h⟩ hn hd
variable {a b:Expr} {ta tb:TE} {pos:Pos}
def tB (t:TE):TT:=fun σ H Q=>t σ H fun x H1=>∃ c,x=.bl c∧Q c H1
theorem wD {e:Expr} {t:TE} (h:PE X e t) (he:∀ whole,isTrue e X.env whole=(do let v ← whole;standAt e.pos;holding [v] (truthy v)):=by intro _;rfl):PT X e (tB t):=by
 intro pins s σ H Q I hw
 refine isTrue_plain (thn (h pins s σ H _ I hw) fun v s1 ⟨x,H1,I1,r1,q1⟩=>?_) (he _)
 obtain ⟨d,rfl,q⟩:=q1
 cases r1
 exact wpAny_truthy_bool ⟨H1,I1,q⟩
variable {tA tB':TT} {rest:List Expr}
def zcB (t u:TT):TT:=fun σ H Q=>t σ H fun c H1=>if c=true then u σ H1 Q else Q false H1
def tOr (t u:TT):TT:=fun σ H Q=>t σ H fun c H1=>if c=true then Q true H1 else u σ H1 Q
def wE (t:TT):TT:=fun σ H Q=>t σ H fun c H1=>Q (!c) H1
theorem WE (ha:PT X a tA):PW X (.BoolOp .Or [a] pos) tA:=by
 intro wh pins s σ H Q I h
 refine isTrue_or (thn (ha pins s σ H Q I h) fun c s1 e=>?_)
 cases c with
 | false=>exact isTrue_or_nil e
 | true=>exact e
theorem Vi (ha:PT X a tA) (hb:PW X (.BoolOp .Or (b :: rest) pos) tB'):PW X (.BoolOp .Or (a :: b :: rest) pos) (tOr tA tB'):=by
 intro wh pins s σ H Q I h
 refine isTrue_or (thn (ha pins s σ H _ I h) fun c s1 ⟨H1,I1,q1⟩=>?_)
 cases c with
 | true=>exact ⟨H1,I1,q1⟩
 | false=>exact hb wh pins s1 σ H1 Q I1 q1
theorem jP (ha:PT X a tA):PT X (.UnaryOp .Not a pos) (wE tA):=by
 intro pins s σ H Q I h
 exact isTrue_not (ha pins s σ H (fun c H1=>Q (!c) H1) I h)
def JF (ta tb:TE):TE:=fun σ H Q=>ta σ H fun x H1=>∃ c,x=.bl c∧if c=true then tb σ H1 Q else Q (.bl false) H1
def zcC (ta tb:TE):TE:=fun σ H Q=>ta σ H fun x H1=>∃ c,x=.bl c∧if c=true then Q (.bl true) H1 else tb σ H1 Q
def JG (ta:TE):TE:=fun σ H Q=>ta σ H fun x H1=>∃ c,x=.bl c∧Q (.bl (!c)) H1
theorem zay {op} {t:TE} (h:PE X a t):PE X (.BoolOp op [a] pos) t:=fun pins s σ H Q I hw=>BoolOp_one (h pins s σ H Q I hw)
theorem zaz (ha:PE X a ta) (hb:PE X (.BoolOp .And (b :: rest) pos) tb):PE X (.BoolOp .And (a :: b :: rest) pos) (JF ta tb):=by
 intro pins s σ H Q I h
 refine BoolOp_and (thn (ha pins s σ H _ I h) fun v s1 ⟨x,H1,I1,r1,q1⟩=>?_)
 obtain ⟨c,rfl,q1⟩:=q1
 cases r1
 refine wpAny_truthy_bool ?_
 cases c with
 | true=>exact hb pins s1 σ H1 Q I1 q1
 | false=>exact ⟨.bl false,H1,I1,rfl,q1⟩
theorem zaA (ha:PE X a ta):PE X (.UnaryOp .Not a pos) (JG ta):=by
 intro pins s σ H Q I h
 refine UnaryOp_ (thn (ha pins s σ H _ I h) fun v s1 ⟨x,H1,I1,r1,q1⟩=>?_)
 obtain ⟨c,rfl,q1⟩:=q1
 cases r1
 exact not_of (wpAny_truthy_bool ⟨.bl (!c),H1,I1,rfl,q1⟩)
def tIf (t:TT) (ta tb:TE):TE:=fun σ H Q=>t σ H fun c H1=>if c=true then ta σ H1 Q else tb σ H1 Q
theorem vZ {c:Expr} (hc:PT X c tA) (ha:PE X a ta) (hb:PE X b tb):PE X (.IfExp c a b pos) (tIf tA ta tb):=by
 intro pins s σ H Q I h
 refine wpAny_IfExp (thn (hc pins s σ H _ I h) fun d s1 ⟨H1,I1,q1⟩=>?_)
 cases d with
 | true=>exact ha pins s1 σ H1 Q I1 q1
 | false=>exact hb pins s1 σ H1 Q I1 q1
end
end L2
namespace L2
open PySem PySem.Spec PyProof.Rows
def SqL (K:PySem.W.Frag) (H:Hp) (a:Addr) (xs:List V):Prop :=
 Rd H a (.lst xs) ∨
  ∃ (o:Obj) (its:Array Value) (n:Nat),K.lookup a=some o∧o.cls=.type "list"∧o.dict=none∧o.data=.seq its n∧its.size≤sizeLine∧Vals xs its.toList
def SqT (K:PySem.W.Frag) (H:Hp) (a:Addr) (xs:List V):Prop :=
 Rd H a (.tup xs) ∨
  ∃ (o:Obj) (its:Array Value) (n:Nat),K.lookup a=some o∧o.cls=.type "tuple"∧o.data=.seq its n∧its.size≤sizeLine∧Vals xs its.toList
def zbJ:Value→Option V
 | .none=>some .non
 | .bool b=>some (.bl b)
 | .int i _=>some (.int i)
 | .str x _=>some (.str x)
 | .bytes b _=>some (.byt b)
 | .float b _=>some (.flt b)
 | .ref a=>some (.ref a)
 | .type n=>some (.ty n)
 | _=>none
theorem RelV.abs {x:V} {u:Value} (r:RelV x u):zbJ u=some x:=by
 cases x with
 | non=>cases r;rfl
 | bl _=>cases r;rfl
 | int _=>obtain ⟨t,rfl⟩:=r;rfl
 | str _=>obtain ⟨t,rfl⟩:=r;rfl
 | byt _=>obtain ⟨t,rfl⟩:=r;rfl
 | flt _=>obtain ⟨t,rfl⟩:=r;rfl
 | ref _=>cases r;rfl
 | ty _=>cases r;rfl
theorem RelV.inj {x y:V} {u:Value} (r:RelV x u) (q:RelV y u):x=y:=Option.some.inj (r.abs.symm.trans q.abs)
theorem Vals.inj:∀ {xs ys:List V} {us:List Value},Vals xs us→Vals ys us→xs=ys
 | _,_,_,.nil,.nil=>rfl
 | _,_,_,.cons r t,.cons r' t'=>by rw [r.inj r',Vals.inj t t']
section
variable {X:Cx} {pins:List (Addr × Obj)} {σ:St} {H:Hp} {s:Shared} {a:Addr} {xs ys:List V}
theorem SqL.of {K:PySem.W.Frag} (h:H a=some (.lst xs)):SqL K H a xs:=.inl (.inl h)
theorem SqT.of {K:PySem.W.Frag} (h:H a=some (.tup xs)):SqT K H a xs:=.inl (.inl h)
theorem Inv.list (I:Inv X pins σ H s) (h:SqL X.K H a xs):∃ its:List Value,Vals xs its∧PlainL s.heap a its.toArray∧xs.length≤sizeLine:=by
 rcases h with h | ⟨o,its,n,hk,hc,hd,hs,hz,r⟩
 ·obtain ⟨z,its,n,r,e⟩:=h.ok I.hok
  exact ⟨its,r,⟨_,n,e,rfl,rfl,rfl⟩,z⟩
 ·refine ⟨its.toList,r,⟨o,n,I.kIn a o hk,hc,hd,by simpa using hs⟩,?_⟩
  have e:=r.length
  simp only [Array.length_toList] at e
  omega
theorem Inv.tuple (I:Inv X pins σ H s) (h:SqT X.K H a xs):∃ its:List Value,Vals xs its∧IsTup s.heap a its.toArray∧xs.length≤sizeLine:=by
 rcases h with h | ⟨o,its,n,hk,hc,hs,hz,r⟩
 ·obtain ⟨z,its,r,p⟩:=h.ok I.hok
  exact ⟨its,r,p,z⟩
 ·refine ⟨its.toList,r,⟨o,I.kIn a o hk,hc,n,by simpa using hs⟩,?_⟩
  have e:=r.length
  simp only [Array.length_toList] at e
  omega
theorem Inv.list_inj (I:Inv X pins σ H s) (h:SqL X.K H a xs) (h':SqL X.K H a ys):xs=ys:=by
 obtain ⟨its,r,⟨o,n,e,_,_,d⟩,_⟩:=I.list h
 obtain ⟨its',r',⟨o',n',e',_,_,d'⟩,_⟩:=I.list h'
 rw [e] at e';cases e'
 rw [d] at d'
 injection d' with d1 _
 have:its=its':=by simpa using congrArg Array.toList d1
 subst this
 exact r.inj r'
theorem Inv.tuple_inj (I:Inv X pins σ H s) (h:SqT X.K H a xs) (h':SqT X.K H a ys):xs=ys:=by
 obtain ⟨its,r,⟨o,e,_,n,d⟩,_⟩:=I.tuple h
 obtain ⟨its',r',⟨o',e',_,n',d'⟩,_⟩:=I.tuple h'
 rw [e] at e';cases e'
 rw [d] at d'
 injection d' with d1 _
 have:its=its':=by simpa using congrArg Array.toList d1
 subst this
 exact r.inj r'
end
abbrev Cx.wish (X:Cx) (E:Value→Shared→Prop):Cx:={ X with xe:=E }
abbrev Cx.nox (X:Cx):Cx:=X.wish fun _ _=>False
theorem Cx.Ok.wish {X:Cx} (ok:X.Ok) (E:Value→Shared→Prop):(X.wish E).Ok :=
 ⟨ok.mod,ok.kind,ok.glob,ok.blt,ok.above,ok.inj,ok.has,ok.cab,ok.hd,ok.frames,ok.stk,ok.exf,ok.bs,ok.bsz,ok.noex,ok.exfs,ok.funs,ok.frf⟩
theorem Cx.Ok.unwish {X:Cx} {E:Value→Shared→Prop} (ok:(X.wish E).Ok):X.Ok :=
 ⟨ok.mod,ok.kind,ok.glob,ok.blt,ok.above,ok.inj,ok.has,ok.cab,ok.hd,ok.frames,ok.stk,ok.exf,ok.bs,ok.bsz,ok.noex,ok.exfs,ok.funs,ok.frf⟩
section
variable {X:Cx} {pins:List (Addr × Obj)} {σ:St} {H:Hp} {s:Shared} {E:Value→Shared→Prop}
theorem Inv.wish (I:Inv X pins σ H s) (E:Value→Shared→Prop):Inv (X.wish E) pins σ H s:=⟨I.ok.wish E,I.os,I.bare,I.base,I.loc,I.cell,I.free,I.freeC,I.pin,I.hok,I.len⟩
theorem Inv.unwish (I:Inv (X.wish E) pins σ H s):Inv X pins σ H s:=⟨I.ok.unwish,I.os,I.bare,I.base,I.loc,I.cell,I.free,I.freeC,I.pin,I.hok,I.len⟩
theorem SP.unwish {D:ZV} {f:Flow} {s':Shared} (h:SP (X.wish E) pins D f s'):SP X pins D f s':=by
 cases f with
 | next=>obtain ⟨σ',H',I,q⟩:=h;exact ⟨σ',H',I.unwish,q⟩
 | brk=>obtain ⟨σ',H',I,q⟩:=h;exact ⟨σ',H',I.unwish,q⟩
 | cont=>obtain ⟨σ',H',I,q⟩:=h;exact ⟨σ',H',I.unwish,q⟩
 | ret u=>obtain ⟨v,σ',H',I,r,q⟩:=h;exact ⟨v,σ',H',I.unwish,r,q⟩
theorem PSs.nox {st:List Stmt} {t:TS} (h:PSs X.nox st t):PSs X st t:=fun pins s σ H D I hw =>
 wpAny_mono (h pins s σ H D (I.wish _) hw) (fun _ _ q=>q.unwish) fun _ _ z=>False.elim z
end
section
variable {X:Cx} {st:Stmt} {rest:List Stmt} {t u:TS} {e:Expr} {te:TE} {pos:Pos}
def zA:TS:=fun D σ H=>D.nx σ H
def zq (t u:TS):TS:=fun D σ H=>t { D with nx:=u D } σ H
theorem zF:PSs X [] zA:=fun _ _ σ H _ I h=>wpAny_execs_nil ⟨σ,H,I,h⟩
theorem zg (h1:PS X st t) (h2:PSs X rest u):PSs X (st :: rest) (zq t u):=by
 intro pins s σ H D I h
 refine wpAny_execs_cons (thn (h1 pins s σ H { D with nx:=u D } I h) fun f s1 q=>?_)
 cases f with
 | next =>
  obtain ⟨σ',H',I',q⟩:=q
  exact h2 pins s1 σ' H' D I' q
 | ret v=>exact q
 | brk=>exact q
 | cont=>exact q
theorem zh (h1:PS X st t):PSs X [st] t:=by
 intro pins s σ H D I h
 refine wpAny_execs_cons (thn (h1 pins s σ H D I h) fun f s1 q=>?_)
 cases f with
 | next=>exact wpAny_execs_nil q
 | ret v=>exact q
 | brk=>exact q
 | cont=>exact q
theorem Inv.quiet {pins:List (Addr × Obj)} {σ:St} {H:Hp} {s:Shared} (I:Inv X pins σ H s):interactive X.env=false:=by simp [interactive,I.ok.kind]
def yp (te:TE):TS:=fun D σ H=>te σ H fun _ H1=>D.nx σ H1
theorem wV (he:PE X e te) (hs:swapsWith e none pos.line X.env=pure false:=by rfl):PS X (.Expr e pos) (yp te):=by
 intro pins s σ H D I h
 exact wpAny_Expr_any (thn (he pins s σ H _ I h) fun v s1 ⟨x,H1,I1,r1,q1⟩=>⟨σ,H1,I1,q1⟩) I.quiet hs
def zv (te:TE):TS:=fun D σ H=>te σ H D.rt
theorem zw (he:PE X e te):PS X (.Return (some e) pos) (zv te):=by
 intro pins s σ H D I h
 exact wpAny_Return_some (thn (he pins s σ H _ I h) fun v s1 ⟨x,H1,I1,r1,q1⟩=>⟨x,σ,H1,I1,r1,q1⟩)
def zcb:TS:=fun D _ H=>D.rt .non H
def zE (c:TT) (t u:TS):TS:=fun D σ H=>c σ H fun b H1=>if b=true then t D σ H1 else u D σ H1
theorem zU {c:Expr} {a b:List Stmt} {tc:TT} (hc:PT X c tc) (ha:PSs X a t) (hb:PSs X b u):PS X (.If c a b pos) (zE tc t u):=by
 intro pins s σ H D I h
 refine wpAny_If (thn (hc pins s σ H _ I h) fun d s1 ⟨H1,I1,q1⟩=>?_)
 cases d with
 | true=>exact ha pins s1 σ H1 D I1 q1
 | false=>exact hb pins s1 σ H1 D I1 q1
def zbK:TS:=fun _ _ _=>False
end
abbrev TG:=V→St→Hp→(St→Hp→Prop)→Prop
abbrev TGs:=List V→St→Hp→(St→Hp→Prop)→Prop
def PG (X:Cx) (target:Expr) (t:TG):Prop :=
 ∀ (pins:List (Addr × Obj)) (s:Shared) (σ:St) (H:Hp) (v:V) (u:Value) (Q:St→Hp→Prop),Inv X pins σ H s→RelV v u→t v σ H Q →
  wpAny (model X.prog X.w) X.A (assign target X.env u) (fun _ s'=>∃ σ' H',Inv X pins σ' H' s'∧Q σ' H') X.xe s
def PGs (X:Cx) (ts:List Expr) (t:TGs):Prop :=
 ∀ (pins:List (Addr × Obj)) (s:Shared) (σ:St) (H:Hp) (vs:List V) (us:List Value) (Q:St→Hp→Prop),Inv X pins σ H s→Vals vs us→t vs σ H Q →
  wpAny (model X.prog X.w) X.A (assignInOrder ((assignEach ts X.env).map (·.2)) us) (fun _ s'=>∃ σ' H',Inv X pins σ' H' s'∧Q σ' H') X.xe s
abbrev TIp:=V→V→Hp→VK→Prop
section
variable {X:Cx} {pos:Pos}
def zo (i:Nat):TG:=fun v σ H Q=>Q (σ.set i (some v)) H
theorem yU {i:Nat} {x:Str} (hN:X.N.Nodup) (hi:X.N[i]?=some x) (hx:Loc X.env.scope x) (hf:X.fn x=true∨X.env.scope.names.lookup x=some .local:=by first | exact .inl rfl | exact .inr rfl | assumption):PG X (.Name x pos) (zo i):=by
 intro pins s σ H v u Q I r h
 exact wpAny_assign_Name (qJ I hN hi hx r (fun s' I'=>⟨_,H,I',h⟩) hf)
def Xs:TGs:=fun vs σ H Q=>vs=[]∧Q σ H
def ka (t:TG) (u:TGs):TGs:=fun vs σ H Q=>∃ v r,vs=v :: r∧t v σ H fun σ' H'=>u r σ' H' Q
theorem Qo:PGs X [] Xs:=by
 intro pins s σ H vs us Q I r h
 obtain ⟨e,h⟩:=h
 subst e
 cases r
 exact assignInOrder_nil ⟨σ,H,I,h⟩
theorem Xt {e:Expr} {es:List Expr} {t:TG} {u:TGs} (h1:PG X e t) (h2:PGs X es u)
  (hs:(assignEach (e :: es) X.env).map (·.2)=assign e X.env :: (assignEach es X.env).map (·.2):=by rfl):PGs X (e :: es) (ka t u):=by
 intro pins s σ H vs us Q I r h
 obtain ⟨v,vr,e1,h⟩:=h
 subst e1
 cases r with
 | cons r rr =>
  rw [hs]
  refine assignInOrder_cons (thn (h1 pins s σ H _ _ _ I r h) fun _ s1 ⟨σ1,H1,I1,q1⟩=>?_)
  exact h2 pins s1 σ1 H1 _ _ Q I1 rr q1
def Xu (K:PySem.W.Frag) (n:Nat) (t:TGs):TG:=fun v σ H Q=>∃ a xs,v=.ref a∧SqT K H a xs∧xs.length=n∧t xs σ H Q
theorem zaB {es:List Expr} {k:Nat} {t:TGs} {n:Nat} (hc:X.calm=true) (h:PGs X es t)
  (hn:(assignEach es X.env).length=n:=by rfl) (hst:(assignEach es X.env).findIdx? (·.1)=none:=by rfl):PG X (.Tuple es k pos) (Xu X.K n t):=by
 intro pins s σ H v u Q I r hw
 obtain ⟨a,xs,e1,hq,hl,hw⟩:=hw
 subst e1
 cases r
 obtain ⟨its,rv,ht,hz⟩:=I.tuple hq
 refine assign_Tuple_tuple (I.ok.hd hc) ht (by simp [hn,← hl,rv.length]) hst fun h' hx=>?_
 have I1:Inv X pins σ H { s with heap:=h' }:=I.kept (t':=s.toks) fun b o e=>hx b o (Nat.ne_of_lt (Heap.lt_size e)) e
 exact h pins _ σ H xs _ Q I1 (by simpa using rv) hw
def zN (te:TE) (g:TG):TS:=fun D σ H=>te σ H fun x H1=>g x σ H1 D.nx
theorem zS {i:Nat} {x:Str} {e:Expr} {te:TE} {pos':Pos} (hN:X.N.Nodup) (hi:X.N[i]?=some x) (hx:Loc X.env.scope x) (he:PE X e te) (hs:swapsWith e (some (.Name x pos')) pos.line X.env=pure false:=by rfl) (hf:X.fn x=true∨X.env.scope.names.lookup x=some .local:=by first | exact .inl rfl | exact .inr rfl | assumption) :
  PS X (.Assign [.Name x pos'] e pos) (zN te (zo i)):=by
 intro pins s σ H D I h
 refine wpAny_Assign_Name (thn (he pins s σ H _ I h) fun v s1 ⟨y,H1,I1,r1,q1⟩=>?_) hs
 exact qJ I1 hN hi hx r1 (fun s2 I2=>⟨_,H1,I2,q1⟩) hf
def zcD (i:Nat) (te:TE) (ti:TIp):TS:=fun D σ H=>∃ x,σ[i]?=some (some x)∧te σ H fun y H1=>ti x y H1 fun z H2=>D.nx (σ.set i (some z)) H2
def ipI (f:Int→Int→Int):TIp:=fun x y H Q=>∃ i j,x=.int i∧y=.int j∧Q (.int (f i j)) H
end
section
variable {X:Cx} {pos:Pos}
end
set_option genSizeOf false in
set_option genInjectivity false in
structure It where
 go:Nat→Hp→Prop
 yld:Nat→Hp→V→Hp→Prop
 stop:Nat→Hp→Prop
def v0 (X:Cx) (pins:List (Addr × Obj)) (H:Hp) (b:Addr):Prop :=
 H b=none∧b≠X.env.locals∧b ∉ X.fs∧(b∈X.ex∨X.s₀.heap.objs.size≤b)∧(∀ x c,X.env.cells.lookup x=some c→c≠b)∧∀ p∈X.pn ++ pins,p.1≠b
theorem Inv.fpOk {X:Cx} {pins:List (Addr × Obj)} {σ:St} {H H':Hp} {s:Shared} {b:Addr} (I:Inv X pins σ H s) (hb:s.heap.objs.size≤b) (hn:H' b=none):v0 X pins H' b:=by
 refine ⟨hn,Nat.ne_of_gt (Nat.lt_of_lt_of_le I.lt hb),I.nofs hb,.inr (Nat.le_trans I.sz hb),fun x c e z=>?_,fun p hp z=>?_⟩
 ·obtain ⟨v,q⟩:=I.cell x c e
  exact absurd (Nat.lt_of_lt_of_le q.lt (by rw [z];exact hb)) (Nat.lt_irrefl _)
 ·exact absurd (Nat.lt_of_lt_of_le (Heap.lt_size (I.pin p hp).1) (by rw [z];exact hb)) (Nat.lt_irrefl _)
structure JH (P:Program) (w:World) (K:PySem.W.Frag) (tg:Expr) (J:It) (fp:List Addr) (it:Addr) (tn:Nat→Heap→Prop):Prop where
 mem:it∈fp
 obj:∀ i h,tn i h→∀ b∈fp,∃ o,h.get? b=some o∧∀ v,o.data≠.cell v
 keep:∀ i h h',tn i h→(∀ b∈fp,∀ o,h.get? b=some o→h'.get? b=some o)→tn i h'
 item:∀ (X:Cx),X.prog=P→X.w=w→X.K=K→X.calm=true→∀ (i:Nat) (pins:List (Addr × Obj)) (s:Shared) (σ:St) (H:Hp) (E:Value→Shared→Prop),Inv X pins σ H s→(∀ b∈fp,v0 X pins H b)→tn i s.heap→J.go i H →
  wpAny (model P w) X.A (pyNext (.ref it)) (fun r s1=>∃ u,r=some u ∧
   wpAny (model P w) X.A (letOwnedTupleGo tg (.ref it) u) (fun _ s2=>∃ x H',Inv X pins σ H' s2∧RelV x u∧J.yld i H x H'∧tn (i + 1) s2.heap∧∀ b∈fp,H' b=none) E s1) E s
 done:∀ (X:Cx),X.prog=P→X.w=w→X.K=K→X.calm=true→∀ (i:Nat) (pins:List (Addr × Obj)) (s:Shared) (σ:St) (H:Hp) (E:Value→Shared→Prop),Inv X pins σ H s→(∀ b∈fp,v0 X pins H b)→tn i s.heap→J.stop i H →
  wpAny (model P w) X.A (pyNext (.ref it)) (fun r s1=>r=none∧Inv X pins σ H s1) E s
 self:∀ (A:Around) (i:Nat) (s:Shared) (Q:Value→Shared→Prop) (E:Value→Shared→Prop),tn i s.heap→Q (.ref it) s→wpAny (model P w) A (pyIter (.ref it)) Q E s
abbrev TI:=St→Hp→(It→Hp→Prop)→Prop
def PIE (X:Cx) (pins:List (Addr × Obj)) (σ:St) (tg:Expr) (R:It→Hp→Prop) (itv:Value) (s2:Shared):Prop :=
 ∃ (it:Addr) (fp:List Addr) (tn:Nat→Heap→Prop) (J:It) (H':Hp),itv=.ref it∧Inv X pins σ H' s2∧JH X.prog X.w X.K tg J fp it tn∧tn 0 s2.heap∧(∀ b∈fp,v0 X pins H' b)∧R J H'
def PI (X:Cx) (tg iter:Expr) (wi:TI):Prop :=
 ∀ (pins:List (Addr × Obj)) (s:Shared) (σ:St) (H:Hp) (R:It→Hp→Prop),Inv X pins σ H s→wi σ H R →
  wpAny (model X.prog X.w) X.A (eval iter X.env) (fun v s1=>wpAny (model X.prog X.w) X.A (pyIter v) (PIE X pins σ tg R) X.xe s1) X.xe s
theorem JI {M:Model} {A:Around} {E:Value→Shared→Prop} {s:Shared} {tg:Expr} {it:Addr} {u:Value} {o:Obj} {n:String} {vs:Array Value} {Q:Unit→Shared→Prop} (ho:s.heap.get? it=some o) (hc:o.cls=.type n) (hd:o.data=.fields vs)
  (hn:["enumerate","zip","dict_itemiterator","dict_reverseitemiterator","odict_iterator","itertools.zip_longest","itertools.pairwise"].contains n=false) (hQ:Q () s):wpAny M A (letOwnedTupleGo tg (.ref it) u) Q E s:=by
 unfold letOwnedTupleGo
 cases tg <;> first
  | exact wpAny_pure hQ
  | (cases u <;> first
      | exact wpAny_pure hQ
      | (refine wpAny_bind (wpAny_load ho ?_)
         rw [hc,hd]
         show wpAny M A (if (["enumerate","zip","dict_itemiterator","dict_reverseitemiterator","odict_iterator","itertools.zip_longest","itertools.pairwise"].contains n && vs[0]? == some (rawInt _))=true then _ else _) Q E s
         rw [if_neg (by intro h;rw [hn,Bool.false_and] at h;cases h)]
         exact wpAny_pure hQ))
def Itl (K:PySem.W.Frag) (a:Addr):It :=
 ⟨fun i H=>∃ xs x,SqL K H a xs∧xs[i]?=some x,fun i H x H'=>H'=H∧∀ xs,SqL K H a xs→xs[i]?=some x,fun i H=>∃ xs,SqL K H a xs∧xs.length≤i⟩
def Itt (K:PySem.W.Frag) (a:Addr):It :=
 ⟨fun i H=>∃ xs x,SqT K H a xs∧xs[i]?=some x,fun i H x H'=>H'=H∧∀ xs,SqT K H a xs→xs[i]?=some x,fun i H=>∃ xs,SqT K H a xs∧xs.length≤i⟩
def Itr (lo:Int) (n:Nat):It:=⟨fun i _=>i < n,fun i H x H'=>H'=H∧x=.int (lo + i),fun i _=>n≤i⟩
theorem Yf {P:Program} {w:World} {K:PySem.W.Frag} {tg:Expr} (a it:Addr):JH P w K tg (Itl K a) [it] it (fun i h=>h.IsListIter it a i) where
 mem:=by simp
 obj:=fun i h st b hb=>by
  have e:b=it:=by simpa using hb
  subst e
  obtain ⟨o,e,c,d⟩:=st
  exact ⟨o,e,fun v z=>by rw [d] at z;cases z⟩
 keep:=fun i h h' st k=>st.at fun o e=>k it (by simp) o e
 item:=by
  intro X hP hw hK hc i pins s σ H E I hf st hg
  subst hP hw hK
  obtain ⟨xs,x,hq,hx⟩:=hg
  obtain ⟨its,rv,p,hz⟩:=I.list hq
  obtain ⟨u,hu,ru⟩:=rv.get hx
  obtain ⟨f0,f1,f2,f3,f4,f5⟩:=hf it (by simp)
  refine wpAny_pyNext_list_item st p.isList (x:=u) (by simpa using hu) fun h' st' sb=>?_
  have I1:Inv X pins σ H { s with heap:=h' }:=I.turned (t':=s.toks) (fun b o hb e=>(sb.2 b hb).trans e) f0 f1 f3 f4 f5
  obtain ⟨o,e,c,d⟩:=id st'
  exact ⟨u,rfl,JI (s:={ s with heap:=h' }) e c d (by decide) ⟨x,H,I1,ru,⟨rfl,fun ys hy=>by rw [I.list_inj hy hq];exact hx⟩,st',fun b hb=>(hf b hb).1⟩⟩
 done:=by
  intro X hP hw hK hc i pins s σ H E I hf st hg
  subst hP hw hK
  obtain ⟨xs,hq,hx⟩:=hg
  obtain ⟨its,rv,p,hz⟩:=I.list hq
  obtain ⟨f0,f1,f2,f3,f4,f5⟩:=hf it (by simp)
  have hl:=rv.length
  exact wpAny_pyNext_list_end (I.ok.hd hc) st p.isList (by simp;omega) fun h' eb=>⟨rfl,I.turned (t':=s.toks) (fun b o hb e=>eb b o hb e) f0 f1 f3 f4 f5⟩
 self:=fun _ _ _ _ _ st h=>wpAny_pyIter_listiter st h
theorem qK {P:Program} {w:World} {K:PySem.W.Frag} {tg:Expr} (a it:Addr):JH P w K tg (Itt K a) [it] it (fun i h=>h.IsTupleIter it a i) where
 mem:=by simp
 obj:=fun i h st b hb=>by
  have e:b=it:=by simpa using hb
  subst e
  obtain ⟨o,e,c,d⟩:=st
  exact ⟨o,e,fun v z=>by rw [d] at z;cases z⟩
 keep:=fun i h h' st k=>st.at fun o e=>k it (by simp) o e
 item:=by
  intro X hP hw hK hc i pins s σ H E I hf st hg
  subst hP hw hK
  obtain ⟨xs,x,hq,hx⟩:=hg
  obtain ⟨its,rv,p,hz⟩:=I.tuple hq
  obtain ⟨u,hu,ru⟩:=rv.get hx
  obtain ⟨f0,f1,f2,f3,f4,f5⟩:=hf it (by simp)
  refine wpAny_pyNext_tuple_item st (show s.heap.IsTuple a its.toArray from p) (x:=u) (by simpa using hu) fun h' st' sb=>?_
  have I1:Inv X pins σ H { s with heap:=h' }:=I.turned (t':=s.toks) (fun b o hb e=>(sb.2 b hb).trans e) f0 f1 f3 f4 f5
  obtain ⟨o,e,c,d⟩:=id st'
  exact ⟨u,rfl,JI (s:={ s with heap:=h' }) e c d (by decide) ⟨x,H,I1,ru,⟨rfl,fun ys hy=>by rw [I.tuple_inj hy hq];exact hx⟩,st',fun b hb=>(hf b hb).1⟩⟩
 done:=by
  intro X hP hw hK hc i pins s σ H E I hf st hg
  subst hP hw hK
  obtain ⟨xs,hq,hx⟩:=hg
  obtain ⟨its,rv,p,hz⟩:=I.tuple hq
  obtain ⟨f0,f1,f2,f3,f4,f5⟩:=hf it (by simp)
  have hl:=rv.length
  exact wpAny_pyNext_tuple_end (I.ok.hd hc) st (show s.heap.IsTuple a its.toArray from p) (by simp;omega) fun h' eb=>⟨rfl,I.turned (t':=s.toks) (fun b o hb e=>eb b o hb e) f0 f1 f3 f4 f5⟩
 self:=fun _ _ _ _ _ st h=>wpAny_pyIter_tupleiter st h
theorem WF {P:Program} {w:World} {K:PySem.W.Frag} {tg:Expr} (it:Addr) (lo:Int) (n:Nat):JH P w K tg (Itr lo n) [it] it (fun i h=>IsRangeIter h it (lo + (i:Nat) * 1) ((n:Int) - (i:Nat)) 1) where
 mem:=by simp
 obj:=fun i h st b hb=>by
  have e:b=it:=by simpa using hb
  subst e
  exact ⟨_,st,fun v z=>by
   have z':Data.fields _=Data.cell v:=z
   cases z'⟩
 keep:=fun i h h' st k=>k it (by simp) _ st
 item:=by
  intro X hP hw hK hc i pins s σ H E I hf st hg
  subst hP hw hK
  obtain ⟨f0,f1,f2,f3,f4,f5⟩:=hf it (by simp)
  have W:=Walks.range (prog:=X.prog) (w:=X.w) (I.ok.hd hc) it lo 1 n
  refine W.item i s _ _ hg st fun v h' tk hv st' kk=>?_
  obtain ⟨t,rfl⟩:=hv
  have I1:Inv X pins σ H { s with heap:=h',toks:=tk }:=I.turned (fun b o hb e=>kk b o (by simpa using hb) e) f0 f1 f3 f4 f5
  refine ⟨_,rfl,JI (s:={ s with heap:=h',toks:=tk }) (n:="range_iterator") st' rfl rfl (by decide) ⟨.int (lo + i),H,I1,⟨t,?_⟩,⟨rfl,rfl⟩,st',fun b hb=>(hf b hb).1⟩⟩
  rw [Int.mul_one]
 done:=by
  intro X hP hw hK hc i pins s σ H E I hf st hg
  subst hP hw hK
  obtain ⟨f0,f1,f2,f3,f4,f5⟩:=hf it (by simp)
  exact wpAny_pyNext_range_end (I.ok.hd hc) st (by have:n≤i:=hg;omega) fun h' eb=>⟨rfl,I.turned (t':=s.toks) (fun b o hb e=>eb b o hb e) f0 f1 f3 f4 f5⟩
 self:=fun _ _ _ _ _ st h=>wpAny_pyIter_rangeiter st h
end L2
namespace L2
open PySem PySem.Spec PyProof.Rows
section
variable {X:Cx} {tg:Expr}
def x0 (K:PySem.W.Frag) (tl:TE):TI:=fun σ H R=>tl σ H fun x H1=>∃ a,x=.ref a∧(∃ xs,SqL K H1 a xs)∧R (Itl K a) H1
def WG (K:PySem.W.Frag) (tl:TE):TI:=fun σ H R=>tl σ H fun x H1=>∃ a,x=.ref a∧(∃ xs,SqT K H1 a xs)∧R (Itt K a) H1
theorem qz {l:Expr} {tl:TE} (hl:PE X l tl):PI X tg l (x0 X.K tl):=by
 intro pins s σ H R I h
 refine thn (hl pins s σ H _ I h) fun v s1 ⟨x,H1,I1,r1,q1⟩=>?_
 obtain ⟨a,e,⟨xs,hq⟩,q⟩:=q1
 subst e
 cases r1
 obtain ⟨its,rv,p,hz⟩:=I1.list hq
 refine wpAny_pyIter_list p.isList ?_
 refine ⟨s1.heap.objs.size,[s1.heap.objs.size],_,_,H1,rfl,I1.kept (t':=s1.toks) fun b o e=>Heap.get?_push_of_some _ e,Yf a _,⟨_,Heap.get?_push_size _ rfl,rfl,rfl⟩,fun b hb=>?_,q⟩
 have e:b=s1.heap.objs.size:=by simpa using hb
 subst e
 exact I1.fpOk (Nat.le_refl _) (I1.hok.fresh (Nat.le_refl _))
theorem JJ {l:Expr} {tl:TE} (hl:PE X l tl):PI X tg l (WG X.K tl):=by
 intro pins s σ H R I h
 refine thn (hl pins s σ H _ I h) fun v s1 ⟨x,H1,I1,r1,q1⟩=>?_
 obtain ⟨a,e,⟨xs,hq⟩,q⟩:=q1
 subst e
 cases r1
 obtain ⟨its,rv,p,hz⟩:=I1.tuple hq
 refine wpAny_pyIter_tuple (show s1.heap.IsTuple a its.toArray from p) ?_
 refine ⟨s1.heap.objs.size,[s1.heap.objs.size],_,_,H1,rfl,I1.kept (t':=s1.toks) fun b o e=>Heap.get?_push_of_some _ e,qK a _,⟨_,Heap.get?_push_size _ rfl,rfl,rfl⟩,fun b hb=>?_,q⟩
 have e:b=s1.heap.objs.size:=by simpa using hb
 subst e
 exact I1.fpOk (Nat.le_refl _) (I1.hok.fresh (Nat.le_refl _))
theorem JK {pins:List (Addr × Obj)} {σ:St} {H:Hp} {s:Shared} {R:It→Hp→Prop} {E:Value→Shared→Prop} {lo hi:Int} {t u v:Tok} {tk:Nat} (I:Inv X pins σ H s) (h1:-(2 ^ 62)≤lo) (h2:lo < 2 ^ 62) (h3:-(2 ^ 62)≤hi) (h4:hi < 2 ^ 62)
  (q:R (Itr lo (hi - lo).toNat) H):wpAny (model X.prog X.w) X.A (pyIter (.ref s.heap.objs.size)) (PIE X pins σ tg R) E { s with heap:=s.heap.push { cls:=.type "range",data:=.fields #[.int lo t,.int hi u,.int 1 v] },toks:=tk }:=by
 refine wpAny_pyIter_range (IsRange.new ..) (small_one h1 h2 h3 h4) ?_
 have I1:Inv X pins σ H { s with heap:=s.heap.push { cls:=.type "range",data:=.fields #[.int lo t,.int hi u,.int 1 v] },toks:=tk }:=I.kept fun b o e=>Heap.get?_push_of_some _ e
 refine ⟨(s.heap.push { cls:=.type "range",data:=.fields #[.int lo t,.int hi u,.int 1 v] }).objs.size,[(s.heap.push { cls:=.type "range",data:=.fields #[.int lo t,.int hi u,.int 1 v] }).objs.size],_,_,H,rfl,
  I1.kept (t':=tk) fun b o e=>Heap.get?_push_of_some _ e,WF _ lo (hi - lo).toNat,?_,fun b hb=>?_,q⟩
 ·have e1:lo + ((0:Nat):Int) * 1=lo:=by simp
  have e2:(((hi - lo).toNat:Nat):Int) - ((0:Nat):Int)=Builtin.Range.rangeSize lo hi 1:=by rw [rangeSize_one];split <;> omega
  show IsRangeIter _ _ (lo + ((0:Nat):Int) * 1) ((((hi - lo).toNat:Nat):Int) - ((0:Nat):Int)) 1
  rw [e1,e2]
  exact Heap.get?_push_size _ rfl
 ·have e:b=(s.heap.push { cls:=.type "range",data:=.fields #[.int lo t,.int hi u,.int 1 v] }).objs.size:=by simpa using hb
  subst e
  exact I1.fpOk (Nat.le_refl _) (I1.hok.fresh (Nat.le_refl _))
def wF (ta:TA):TI:=fun σ H R=>ta σ H fun vs H1=>∃ j:Int,vs=[.int j]∧-(2 ^ 62)≤j∧j < 2 ^ 62∧R (Itr 0 j.toNat) H1
def zcc (ta:TA):TI:=fun σ H R=>ta σ H fun vs H1=>∃ i j:Int,vs=[.int i,.int j]∧(-(2 ^ 62)≤i∧i < 2 ^ 62∧-(2 ^ 62)≤j∧j < 2 ^ 62)∧R (Itr i (j - i).toNat) H1
theorem jx {a:Expr} {ta:TA} {p pos:Pos} (hg:Gl X "range") (hm:X.mg "range"=none) (ha:PA X [a] ta) (hs:starEach [a] X.env=[(false,eval a X.env)]:=by rfl):PI X tg (.Call (.Name "range" p) [a] [] pos) (wF ta):=by
 intro pins s σ H R I h
 refine Call_ (YQ I hg hm boot_range (PyProof.Rows.callWith_type1 (thn (ha pos pins s σ H _ I h) fun us s1 ⟨vs,H1,I1,r1,q1⟩=>?_) hs rfl))
 obtain ⟨j,e,q1,q2,q⟩:=q1
 subst e
 cases r1 with
 | cons r rr =>
  cases rr
  obtain ⟨t,rfl⟩:=r
  exact call_range_1 (JK I1 (by omega) (by omega) q1 q2 (by simpa using q))
def xI (wi:TI) (g:TG) (tb:TS):TS:=fun D σ H=>wi σ H fun J H1=>∃ W:Nat→Nat→St→Hp→Prop,(∃ m,W 0 m σ H1)∧∀ i m σ H,W i m σ H →
 (J.stop i H∧D.nx σ H)∨(J.go i H∧∃ N:St→Hp→Prop,(∀ σ' H',N σ' H'→∃ m',m' < m∧W (i + 1) m' σ' H')∧∀ x H',J.yld i H x H'→g x σ H' fun σ2 H2=>tb { D with nx:=N,ct:=N,bk:=D.nx } σ2 H2)
def qL (fp:List Addr) (h:Heap):List (Addr × Obj):=fp.filterMap fun b=>(h.get? b).map fun o=>(b,o)
theorem vI {fp:List Addr} {h:Heap} {b:Addr} {o:Obj} (hb:b∈fp) (e:h.get? b=some o):(b,o)∈qL fp h:=List.mem_filterMap.mpr ⟨b,hb,by rw [e];rfl⟩
theorem Ja {fp:List Addr} {h:Heap} {p:Addr × Obj} (hp:p∈qL fp h):p.1∈fp∧h.get? p.1=some p.2:=by
 obtain ⟨b,hb,e⟩:=List.mem_filterMap.mp hp
 cases q:h.get? b with
 | none=>rw [q] at e;cases e
 | some o =>
  rw [q] at e
  have e':(b,o)=p:=Option.some.inj e
  subst e'
  exact ⟨hb,q⟩
theorem Inv.pinned {pins:List (Addr × Obj)} {σ:St} {H:Hp} {s:Shared} {fp:List Addr} (I:Inv X pins σ H s) (hf:∀ b∈fp,v0 X pins H b) (ho:∀ b∈fp,∃ o,s.heap.get? b=some o∧∀ v,o.data≠.cell v):Inv X (pins ++ qL fp s.heap) σ H s :=
 I.pins_of fun p hp=>(List.mem_append.mp hp).elim (fun z=>I.pin p (List.mem_append_right _ z)) fun z=>by
  obtain ⟨hb,e⟩:=Ja z
  obtain ⟨f0,f1,f2,_⟩:=hf p.1 hb
  obtain ⟨o,e',d⟩:=ho p.1 hb
  rw [e] at e';cases e'
  exact ⟨e,f0,f1,f2,d⟩
theorem Inv.unpinned {pins pl:List (Addr × Obj)} {σ:St} {H:Hp} {s:Shared} (I:Inv X (pins ++ pl) σ H s):Inv X pins σ H s:=I.pins_of fun p hp=>I.pin p (List.mem_append_right _ (List.mem_append_left _ hp))
theorem v3 {iter:Expr} {body:List Stmt} {wi:TI} {g:TG} {tb:TS} {pos:Pos} (hp:PassesOwn (model X.prog X.w) X.A X.env X.xe) (hc:X.calm=true) (hi:PI X tg iter wi) (hg:PG X tg g) (hb:PSs X body tb)
  (hs:∀ x,foldedSetIterable iter X.env x=pure x:=by intro _;rfl):PS X (.For tg iter body [] pos) (xI wi g tb):=by
 intro pins s σ H D I h
 refine wpAny_For (thn (hi pins s σ H _ I h) fun v s1 h1=>thn h1 fun itv s2 h2=>?_) hs
 obtain ⟨it,fp,tn,J,H2,e,I2,T,st2,f2,W,⟨m0,w0⟩,turn⟩:=h2
 subst e
 -- what stays true of the iterator's objects through the loop
 have stat:∀ {H':Hp},(∀ b∈fp,H' b=none)→∀ b∈fp,v0 X pins H' b:=fun hn b hb=>⟨hn b hb,(f2 b hb).2⟩
 refine codeAny_forLoop_any (fun n s'=>∃ i σ' H',Inv X pins σ' H' s'∧tn i s'.heap∧(∀ b∈fp,H' b=none)∧W i n σ' H') ?_ m0 ⟨0,σ,H2,I2,st2,fun b hb=>(f2 b hb).1,w0⟩
 rintro n s3 ⟨i,σ3,H3,I3,st3,fr3,w3⟩
 rcases turn i n σ3 H3 w3 with ⟨stop,qn⟩ | ⟨go,N,hN,step⟩
 ·refine wpAny_passesOwn hp (thn (T.done X rfl rfl rfl hc i pins s3 σ3 H3 X.xe I3 (stat fr3) st3 stop) fun r s4 ⟨hr,I4⟩=>?_)
  subst hr
  exact wpAny_execs_nil ⟨σ3,H3,I4,qn⟩
 ·refine wpAny_passesOwn hp (thn (T.item X rfl rfl rfl hc i pins s3 σ3 H3 X.xe I3 (stat fr3) st3 go) fun r s4 ⟨u,hr,h4⟩=>?_)
  subst hr
  refine wpAny_passesOwn hp (thn h4 fun _ s5 ⟨x,H5,I5,r5,y5,st5,fr5⟩=>?_)
  have I5':=I5.pinned (stat fr5) (T.obj _ _ st5)
  refine wpAny_passesOwn hp (thn (hg _ s5 σ3 H5 x u _ I5' r5 (step x H5 y5)) fun _ s6 ⟨σ6,H6,I6,q6⟩=>?_)
  refine wpAny_passesOwn hp (thn (hb _ s6 σ6 H6 _ I6 q6) fun f s7 q7=>?_)
  have again:∀ {σ7:St} {H7:Hp},Inv X (pins ++ qL fp s5.heap) σ7 H7 s7→N σ7 H7→∃ m,m < n∧∃ i σ' H',Inv X pins σ' H' s7∧tn i s7.heap∧(∀ b∈fp,H' b=none)∧W i m σ' H':=fun {σ7 H7} I7 n7=>by
   obtain ⟨m',hm,w7⟩:=hN σ7 H7 n7
   refine ⟨m',hm,i + 1,σ7,H7,I7.unpinned,T.keep _ _ _ st5 fun b hb o e=>(I7.pin (b,o) (List.mem_append_right _ (List.mem_append_right _ (vI hb e)))).1,fun b hb=>?_,w7⟩
   obtain ⟨o,e,d⟩:=T.obj _ _ st5 b hb
   exact (I7.pin (b,o) (List.mem_append_right _ (List.mem_append_right _ (vI hb e)))).2.1
  cases f with
  | next=>obtain ⟨σ7,H7,I7,n7⟩:=q7;exact again I7 n7
  | cont=>obtain ⟨σ7,H7,I7,n7⟩:=q7;exact again I7 n7
  | brk=>obtain ⟨σ7,H7,I7,q7⟩:=q7;exact ⟨σ7,H7,I7.unpinned,q7⟩
  | ret v=>obtain ⟨x7,σ7,H7,I7,r7,q7⟩:=q7;exact ⟨x7,σ7,H7,I7.unpinned,r7,q7⟩
end
end L2
namespace L2
open PySem PySem.Spec PyProof.Rows
abbrev R2:=V→V→Hp→VK→Prop
def OpR (X:Cx) (f:Value→Value→Sem Value) (r:R2):Prop :=
 ∀ (pins:List (Addr × Obj)) (s:Shared) (σ:St) (H:Hp) (x y:V) (v u:Value) (Q:VK),Inv X pins σ H s→RelV x v→RelV y u→r x y H Q →
  wpAny (model X.prog X.w) X.A (f v u) (EP X pins σ Q) X.xe s
def UnR (X:Cx) (f:Value→Sem Value) (r:V→Hp→VK→Prop):Prop :=
 ∀ (pins:List (Addr × Obj)) (s:Shared) (σ:St) (H:Hp) (x:V) (v:Value) (Q:VK),Inv X pins σ H s→RelV x v→r x H Q →
  wpAny (model X.prog X.w) X.A (f v) (EP X pins σ Q) X.xe s
def vp (X:Cx) (f:Value) (r:List V→Hp→VK→Prop):Prop :=
 ∀ (pins:List (Addr × Obj)) (s:Shared) (σ:St) (H:Hp) (xs:List V) (us:List Value) (Q:VK),Inv X pins σ H s→Vals xs us→r xs H Q →
  wpAny (model X.prog X.w) X.A (call f us) (EP X pins σ Q) X.xe s
def tOp (r:R2) (ta tb:TE):TE:=fun σ H Q=>ta σ H fun x H1=>tb σ H1 fun y H2=>r x y H2 Q
def tUn (r:V→Hp→VK→Prop) (ta:TE):TE:=fun σ H Q=>ta σ H fun x H1=>r x H1 Q
def rI (C:Int→Int→Prop) (g:Int→Int→V):R2:=fun x y H Q=>∃ i j,x=.int i∧y=.int j∧C i j∧Q (g i j) H
def rI0 (g:Int→Int→V):R2:=fun x y H Q=>∃ i j,x=.int i∧y=.int j∧Q (g i j) H
def rU (g:Int→V):V→Hp→VK→Prop:=fun x H Q=>∃ i,x=.int i∧Q (g i) H
section
variable {X:Cx} {a b c:Expr} {ta tb tc:TE} {pos:Pos}
theorem zaC (ha:PE X a ta) (hb:PE X b tb) {pins:List (Addr × Obj)} {s:Shared} {σ:St} {H:Hp} {R:V→V→Hp→Prop} (I:Inv X pins σ H s)
  (h:ta σ H fun x H1=>tb σ H1 fun y H2=>R x y H2) {Q:Value→Shared→Prop} {f:Value→Value→Sem Value}
  (hf:∀ v u s2 x y H2,Inv X pins σ H2 s2→RelV x v→RelV y u→R x y H2→wpAny (model X.prog X.w) X.A (f v u) Q X.xe s2) :
  wpAny (model X.prog X.w) X.A (eval a X.env) (fun v s₁=>wpAny (model X.prog X.w) X.A (eval b X.env) (fun u s₂=>wpAny (model X.prog X.w) X.A (f v u) Q X.xe s₂) X.xe s₁) X.xe s:=by
 refine thn (ha pins s σ H _ I h) fun v s1 ⟨x,H1,I1,r1,q1⟩=>?_
 refine thn (hb pins s1 σ H1 _ I1 q1) fun u s2 ⟨y,H2,I2,r2,q2⟩=>?_
 exact hf v u s2 x y H2 I2 r1 r2 q2
theorem zm {op:Operator} {r:R2} (ho:OpR X (binaryOp op) r) (ha:PE X a ta) (hb:PE X b tb):PE X (.BinOp a op b pos) (tOp r ta tb):=by
 intro pins s σ H Q I h
 exact wpAny_BinOp (zaC ha hb I h fun v u s2 x y H2 I2 rx ry q=>ho pins s2 σ H2 x y v u Q I2 rx ry q)
theorem JL {op:UnaryOp} {r:V→Hp→VK→Prop} (ho:UnR X (unaryOp op) r) (ha:PE X a ta):PE X (.UnaryOp op a pos) (tUn r ta):=by
 intro pins s σ H Q I h
 exact UnaryOp_ (thn (ha pins s σ H _ I h) fun v s1 ⟨x,H1,I1,r1,q1⟩=>ho pins s1 σ H1 x v Q I1 r1 q1)
theorem opI {f:Value→Value→Sem Value} {C:Int→Int→Prop} {g:Int→Int→Int}
  (rule:∀ (i j:Int) (t u:Tok) (s:Shared) (Q:Value→Shared→Prop) (E:Value→Shared→Prop),C i j→Q (.int (g i j) s.toks) { s with toks:=s.toks + 1 }→wpAny (model X.prog X.w) X.A (f (.int i t) (.int j u)) Q E s) :
  OpR X f (rI C fun i j=>.int (g i j)):=by
 intro pins s σ H x y v u Q I rx ry h
 obtain ⟨i,j,rfl,rfl,hc,q⟩:=h
 obtain ⟨t,rfl⟩:=rx
 obtain ⟨t',rfl⟩:=ry
 exact rule i j t t' s _ _ hc ⟨.int (g i j),H,I.tok _,⟨_,rfl⟩,q⟩
theorem zbi {f:Value→Value→Sem Value} {g:Int→Int→Int}
  (rule:∀ (i j:Int) (t u:Tok) (s:Shared) (Q:Value→Shared→Prop) (E:Value→Shared→Prop),Q (.int (g i j) s.toks) { s with toks:=s.toks + 1 }→wpAny (model X.prog X.w) X.A (f (.int i t) (.int j u)) Q E s) :
  OpR X f (rI0 fun i j=>.int (g i j)):=by
 intro pins s σ H x y v u Q I rx ry h
 obtain ⟨i,j,rfl,rfl,q⟩:=h
 obtain ⟨t,rfl⟩:=rx
 obtain ⟨t',rfl⟩:=ry
 exact rule i j t t' s _ _ ⟨.int (g i j),H,I.tok _,⟨_,rfl⟩,q⟩
theorem zbj {f:Value→Value→Sem Value} {g:Int→Int→Bool}
  (rule:∀ (i j:Int) (t u:Tok) (s:Shared) (Q:Value→Shared→Prop) (E:Value→Shared→Prop),Q (.bool (g i j)) s→wpAny (model X.prog X.w) X.A (f (.int i t) (.int j u)) Q E s) :
  OpR X f (rI0 fun i j=>.bl (g i j)):=by
 intro pins s σ H x y v u Q I rx ry h
 obtain ⟨i,j,rfl,rfl,q⟩:=h
 obtain ⟨t,rfl⟩:=rx
 obtain ⟨t',rfl⟩:=ry
 exact rule i j t t' s _ _ ⟨.bl (g i j),H,I,rfl,q⟩
def Xv (i j:Int):Prop:=0≤j∧j≤1000000∧i.natAbs < 2 ^ 64
theorem zY:OpR X (binaryOp .Add) (rI0 fun i j=>.int (i + j)):=zbi fun _ _ _ _ _ _ _ q=>add_int q
theorem vb:OpR X (binaryOp .Sub) (rI0 fun i j=>.int (i - j)):=zbi fun _ _ _ _ _ _ _ q=>sub_int q
theorem zX:OpR X (binaryOp .Mod) (rI (fun _ j=>0 < j) fun i j=>.int (i % j)):=opI fun i j _ _ _ _ _ hc q=>by
 have h1:(0:Int) < j:=hc
 exact mod_int' (by omega) (by rw [Int.fmod_eq_emod_of_nonneg i (by omega)];exact q)
theorem Qp:OpR X (binaryOp .Mod) (rI (fun _ j=>j≠0) fun i j=>.int (i.fmod j)):=opI fun _ _ _ _ _ _ _ hc q=>mod_int' hc q
theorem kL:OpR X (binaryOp .Pow) (rI Xv fun i j=>.int (i ^ j.toNat)):=opI fun _ _ _ _ _ _ _ hc q=>pow_int_small hc.1 hc.2.1 hc.2.2 q
theorem unI {f:Value→Sem Value} {g:Int→Int}
  (rule:∀ (i:Int) (t:Tok) (s:Shared) (Q:Value→Shared→Prop) (E:Value→Shared→Prop),Q (.int (g i) s.toks) { s with toks:=s.toks + 1 }→wpAny (model X.prog X.w) X.A (f (.int i t)) Q E s) :
  UnR X f (rU fun i=>.int (g i)):=by
 intro pins s σ H x v Q I rx h
 obtain ⟨i,rfl,q⟩:=h
 obtain ⟨t,rfl⟩:=rx
 exact rule i t s _ _ ⟨.int (g i),H,I.tok _,⟨_,rfl⟩,q⟩
theorem WH:UnR X (unaryOp .USub) (rU fun i=>.int (-i)):=unI fun _ _ _ _ _ q=>neg_int q
end
def yV:V→V→Bool
 | .non,.non=>true | .non,.int _=>true | .int _,.non=>true | .non,.bl _=>true | .bl _,.non=>true | .non,.str _=>true | .str _,.non=>true
 | .int _,.int _=>true | .bl _,.bl _=>true | .str _,.str _=>true | .byt _,.byt _=>true
 | .int _,.str _=>true | .str _,.int _=>true | .bl _,.str _=>true | .str _,.bl _=>true
 | _,_=>false
def rEq:R2:=fun x y H Q=>yV x y=true∧Q (.bl (decide (x=y))) H
def rNe:R2:=fun x y H Q=>yV x y=true∧Q (.bl (!decide (x=y))) H
theorem Vj {i j:Int}:decide (V.int i=V.int j)=(i == j):=by
 rw [Bool.eq_iff_iff]
 simp
theorem JM {i j:Bool}:decide (V.bl i=V.bl j)=(i == j):=by
 rw [Bool.eq_iff_iff]
 simp
theorem Vk {i j:Str}:decide (V.str i=V.str j)=(i == j):=by
 rw [Bool.eq_iff_iff]
 simp
theorem Vl {i j:Array UInt8}:decide (V.byt i=V.byt j)=(i.toList == j.toList):=by
 rw [Bool.eq_iff_iff]
 cases i
 cases j
 simp
section
variable {X:Cx} {a b c:Expr} {ta tb tc:TE} {pos:Pos}
theorem z6 {pins:List (Addr × Obj)} {σ:St} {H:Hp} {s:Shared} {Q:VK} {k k':Bool} (I:Inv X pins σ H s) (q:Q (.bl k) H) (e:k=k'):EP X pins σ Q (.bool k') s:=by
 subst e
 exact ⟨.bl k,H,I,rfl,q⟩
theorem yh:OpR X (compareOp .Eq) rEq:=by
 intro pins s σ H x y v u Q I rx ry h
 obtain ⟨hs,q⟩:=h
 cases x with
 | non =>
  cases rx
  cases y with
  | non=>cases ry;exact PySem.EqNone.eq_none_none (z6 I q (by simp))
  | bl j=>cases ry;exact PySem.EqNone.eq_none_bool (z6 I q (by simp))
  | int j=>obtain ⟨t',rfl⟩:=ry;exact PySem.EqNone.eq_none_int (z6 I q (by simp))
  | str j=>obtain ⟨t',rfl⟩:=ry;exact PySem.EqNone.eq_none_str (z6 I q (by simp))
  | _=>exact absurd (show false=true from hs) Bool.false_ne_true
 | bl i =>
  cases rx
  cases y with
  | non=>cases ry;exact PySem.EqNone.eq_bool_none (z6 I q (by simp))
  | bl j=>cases ry;exact eq_bool (z6 I q JM)
  | str j=>obtain ⟨t',rfl⟩:=ry;exact PySem.EqMixed.eq_bool_str (z6 I q (by simp))
  | _=>exact absurd (show false=true from hs) Bool.false_ne_true
 | int i =>
  obtain ⟨t,rfl⟩:=rx
  cases y with
  | non=>cases ry;exact PySem.EqNone.eq_int_none (z6 I q (by simp))
  | int j=>obtain ⟨t',rfl⟩:=ry;exact eq_int (z6 I q Vj)
  | str j=>obtain ⟨t',rfl⟩:=ry;exact PySem.EqMixed.eq_int_str (z6 I q (by simp))
  | _=>exact absurd (show false=true from hs) Bool.false_ne_true
 | str i =>
  obtain ⟨t,rfl⟩:=rx
  cases y with
  | non=>cases ry;exact PySem.EqNone.eq_str_none (z6 I q (by simp))
  | bl j=>cases ry;exact PySem.EqMixed.eq_str_bool (z6 I q (by simp))
  | int j=>obtain ⟨t',rfl⟩:=ry;exact PySem.EqMixed.eq_str_int (z6 I q (by simp))
  | str j=>obtain ⟨t',rfl⟩:=ry;exact eq_str (z6 I q Vk)
  | _=>exact absurd (show false=true from hs) Bool.false_ne_true
 | byt i =>
  obtain ⟨t,rfl⟩:=rx
  cases y with
  | byt j=>obtain ⟨t',rfl⟩:=ry;exact PySem.W.eq_bytes (z6 I q Vl)
  | _=>exact absurd (show false=true from hs) Bool.false_ne_true
 | _=>cases y <;> exact absurd (show false=true from hs) Bool.false_ne_true
theorem Xw:OpR X (compareOp .NotEq) rNe:=by
 intro pins s σ H x y v u Q I rx ry h
 obtain ⟨hs,q⟩:=h
 cases x with
 | non =>
  cases rx
  cases y with
  | non=>cases ry;exact PySem.EqNone.ne_none_none (z6 I q (by simp))
  | bl j=>cases ry;exact PySem.EqNone.ne_none_bool (z6 I q (by simp))
  | int j=>obtain ⟨t',rfl⟩:=ry;exact PySem.EqNone.ne_none_int (z6 I q (by simp))
  | str j=>obtain ⟨t',rfl⟩:=ry;exact PySem.EqNone.ne_none_str (z6 I q (by simp))
  | _=>exact absurd (show false=true from hs) Bool.false_ne_true
 | bl i =>
  cases rx
  cases y with
  | non=>cases ry;exact PySem.EqNone.ne_bool_none (z6 I q (by simp))
  | bl j=>cases ry;exact ne_bool (z6 I q (congrArg not JM))
  | str j=>obtain ⟨t',rfl⟩:=ry;exact PySem.EqMixed.ne_bool_str (z6 I q (by simp))
  | _=>exact absurd (show false=true from hs) Bool.false_ne_true
 | int i =>
  obtain ⟨t,rfl⟩:=rx
  cases y with
  | non=>cases ry;exact PySem.EqNone.ne_int_none (z6 I q (by simp))
  | int j=>obtain ⟨t',rfl⟩:=ry;exact ne_int (z6 I q (congrArg not Vj))
  | str j=>obtain ⟨t',rfl⟩:=ry;exact PySem.EqMixed.ne_int_str (z6 I q (by simp))
  | _=>exact absurd (show false=true from hs) Bool.false_ne_true
 | str i =>
  obtain ⟨t,rfl⟩:=rx
  cases y with
  | non=>cases ry;exact PySem.EqNone.ne_str_none (z6 I q (by simp))
  | bl j=>cases ry;exact PySem.EqMixed.ne_str_bool (z6 I q (by simp))
  | int j=>obtain ⟨t',rfl⟩:=ry;exact PySem.EqMixed.ne_str_int (z6 I q (by simp))
  | str j=>obtain ⟨t',rfl⟩:=ry;exact ne_str (z6 I q (congrArg not Vk))
  | _=>exact absurd (show false=true from hs) Bool.false_ne_true
 | byt i =>
  obtain ⟨t,rfl⟩:=rx
  cases y with
  | byt j=>obtain ⟨t',rfl⟩:=ry;exact PySem.W.ne_bytes (z6 I q (congrArg not Vl))
  | _=>exact absurd (show false=true from hs) Bool.false_ne_true
 | _=>cases y <;> exact absurd (show false=true from hs) Bool.false_ne_true
theorem qM:OpR X (compareOp .Lt) (rI0 fun i j=>.bl (decide (i < j))):=zbj fun _ _ _ _ _ _ _ q=>lt_int q
theorem zaf:OpR X (compareOp .LtE) (rI0 fun i j=>.bl (decide (i≤j))):=zbj fun _ _ _ _ _ _ _ q=>le_int q
theorem zD (b:Expr) {op:CmpOp} (h:op≠.In:=by decide) (h2:op≠.NotIn:=by decide):behindInMarks op b=false:=by
 have e1:(op == CmpOp.In)=false:=by cases op <;> first | rfl | exact absurd rfl h
 have e2:(op == CmpOp.NotIn)=false:=by cases op <;> first | rfl | exact absurd rfl h2
 cases b <;> simp [behindInMarks,e1,e2]
theorem qA {op:CmpOp} {r:R2} (ho:OpR X (compareOp op) r) (ha:PE X a ta) (hb:PE X b tb) (hm:behindInMarks op b=false):PE X (.Compare a [op] [b] pos) (tOp r ta tb):=by
 intro pins s σ H Q I h
 exact wpAny_Compare1 (zaC ha hb I h fun v u s2 x y H2 I2 rx ry q=>ho pins s2 σ H2 x y v u Q I2 rx ry q) hm
def zr (t:TE):TT:=fun σ H Q=>t σ H fun x H'=>∃ k,x=.bl k∧Q k H'
theorem zu {op:CmpOp} {r:R2} (ho:OpR X (compareOp op) r) (ha:PE X a ta) (hb:PE X b tb) (hm:behindInMarks op b=false):PT X (.Compare a [op] [b] pos) (zr (tOp r ta tb)):=by
 intro pins s σ H Q I h
 refine wpAny_isTrue_Compare1 (thn (ha pins s σ H _ I h) fun v s1 ⟨x,H1,I1,r1,q1⟩=>thn (hb pins s1 σ H1 _ I1 q1) fun u s2 ⟨y,H2,I2,r2,q2⟩ =>
  thn (ho pins s2 σ H2 x y v u _ I2 r1 r2 q2) fun c s3 ⟨z,H3,I3,r3,k,e,q3⟩=>?_) hm
 subst e
 cases r3
 exact wpAny_truthy_bool ⟨H3,I3,q3⟩
def WI (r r':R2) (ta tb tc:TE):TE:=fun σ H Q=>ta σ H fun x H1=>tb σ H1 fun y H2=>r x y H2 fun z H3=>∃ k,z=.bl k ∧
 (if k=true then tc σ H3 fun w' H4=>r' y w' H4 Q else Q (.bl false) H3)
theorem JN {op op':CmpOp} {r r':R2} (ho:OpR X (compareOp op) r) (ho':OpR X (compareOp op') r') (ha:PE X a ta) (hb:PE X b tb) (hc:PE X c tc)
  (hm:lastMarks [op,op'] [b,c]=false:=by with_unfolding_all rfl):PE X (.Compare a [op,op'] [b,c] pos) (WI r r' ta tb tc):=by
 intro pins s σ H Q I h
 refine Compare_chain (thn (ha pins s σ H _ I h) fun v s1 ⟨x,H1,I1,r1,q1⟩=>chain_link (thn (hb pins s1 σ H1 _ I1 q1) fun u s2 ⟨y,H2,I2,r2,q2⟩ =>
  thn (ho pins s2 σ H2 x y v u _ I2 r1 r2 q2) fun d s3 ⟨z,H3,I3,r3,k,e,q3⟩=>?_)) hm
 subst e
 cases r3
 refine wpAny_truthy_bool ?_
 cases k with
 | false=>exact ite_ff ⟨.bl false,H3,I3,rfl,q3⟩
 | true=>exact ite_tt (chain_last (thn (hc pins s3 σ H3 _ I3 q3) fun w' s4 ⟨z',H4,I4,r4,q4⟩=>ho' pins s4 σ H4 y z' u w' Q I4 r2 r4 q4))
theorem YR:(sizeLine:Nat) < 2 ^ 63:=by rw [sizeLine_eq];decide
theorem vJ:OpR X (binaryOp .Add) (fun x y H Q=>∃ i j,x=.str i∧y=.str j∧i.length + j.length≤sizeLine∧Q (.str (i ++ j)) H):=by
 intro pins s σ H x y v u Q I rx ry h
 obtain ⟨i,j,rfl,rfl,hz,q⟩:=h
 obtain ⟨t,rfl⟩:=rx
 obtain ⟨t',rfl⟩:=ry
 exact add_str (fun t' tk=>⟨.str (i ++ j),H,I.tok _,⟨_,rfl⟩,q⟩) hz
theorem kc {x:V} {us:List Value} (r:Vals [x] us):∃ u,us=[u]∧RelV x u:=by
 cases r with
 | cons r1 r2=>cases r2;exact ⟨_,rfl,r1⟩
theorem zag {x y:V} {us:List Value} (r:Vals [x,y] us):∃ u w',us=[u,w']∧RelV x u∧RelV y w':=by
 cases r with
 | cons r1 r2 =>
  cases r2 with
  | cons r3 r4=>cases r4;exact ⟨_,_,rfl,r1,r3⟩
def ZW (K:PySem.W.Frag) (x:V) (H:Hp) (n:Nat):Prop :=
 match x with
 | .str y=>y.length≤sizeLine∧n=y.length
 | .byt y=>y.size≤sizeLine∧n=y.size
 | .ref p=>(∃ xs,SqL K H p xs∧n=xs.length)∨∃ xs,SqT K H p xs∧n=xs.length
 | _=>False
theorem v4:vp X (.builtin "len") (fun xs H Q=>∃ x n,xs=[x]∧ZW X.K x H n∧Q (.int n) H):=by
 intro pins s σ H xs us Q I r h
 obtain ⟨x,n,rfl,e,q⟩:=h
 obtain ⟨u,rfl,rx⟩:=kc r
 have hl:=YR
 have hs:sizeLine=16777216:=sizeLine_eq
 cases x with
 | str y =>
  obtain ⟨t,rfl⟩:=rx
  obtain ⟨hy,e'⟩:y.length≤sizeLine∧n=y.length:=e
  subst e'
  exact len_str (by omega) ⟨.int _,H,I.tok _,⟨_,rfl⟩,q⟩
 | byt y =>
  obtain ⟨t,rfl⟩:=rx
  obtain ⟨hy,e'⟩:y.size≤sizeLine∧n=y.size:=e
  subst e'
  exact PySem.W.len_bytes (by omega) ⟨.int _,H,I.tok _,⟨_,rfl⟩,q⟩
 | ref p =>
  cases rx
  have e':(∃ xs,SqL X.K H p xs∧n=xs.length)∨∃ xs,SqT X.K H p xs∧n=xs.length:=e
  rcases e' with ⟨xs,hx,e'⟩ | ⟨xs,hx,e'⟩
  ·subst e'
   obtain ⟨its,r',pl,hz⟩:=I.list hx
   have hlen:=r'.length
   exact Calls.call_len_list pl.isList (by simp only [List.size_toArray];omega) ⟨.int xs.length,H,I.tok _,⟨_,by simp only [List.size_toArray];rw [hlen]⟩,q⟩
  ·subst e'
   obtain ⟨its,r',pl,hz⟩:=I.tuple hx
   have hlen:=r'.length
   exact len_tuple pl (by simp only [List.size_toArray];omega) ⟨.int xs.length,H,I.tok _,⟨_,by simp only [List.size_toArray];rw [hlen]⟩,q⟩
 | _=>exact (show False from e).elim
end
end L2
namespace L2
open PySem PySem.Spec PyProof.Rows
structure ObjM (h:Heap) (x dx C:Addr) (mA:Str→Option Value):Prop where
 obj:h.get? x=some (PySem.W.instObj C dx)
 ns:h.Ns1 dx mA
 ne:dx≠x
theorem Jb {h:Heap} {dx:Addr} {mA:Str→Option Value} (n:h.Ns1 dx mA):∃ od,h.get? dx=some od∧∀ name,PySem.W.lookIn name od=some (mA name):=by
 obtain ⟨o,es,ep,ho,hd,hk,_,hm⟩:=n
 refine ⟨o,ho,fun name=>?_⟩
 have e:=hm name
 unfold nsFind findBy at e
 rw [← Array.find?_toList] at e
 unfold PySem.W.lookIn
 rw [hd]
 dsimp only
 split
 ·rename_i y q
  rw [q] at e
  exact congrArg some e
 ·rename_i q
  rw [q] at e
  have a:es.toList.any (·.refKey)=false:=by
   rw [List.any_eq_false]
   intro y hy
   obtain ⟨z,t,hkey⟩:=hk y (Array.mem_toList_iff.mp hy)
   simp [DictEntry.refKey,hkey]
  have a':¬ es.toList.any (·.refKey)=true:=by rw [a];exact Bool.false_ne_true
  rw [if_neg a']
  exact congrArg some e
theorem ObjM.look {h:Heap} {x dx C:Addr} {mA:Str→Option Value} (I:ObjM h x dx C mA):∃ od,PySem.W.InstAt h x (PySem.W.instObj C dx) C (some od)∧∀ name,PySem.W.lookIn name od=some (mA name) :=
 let ⟨od,ho,hl⟩:=Jb I.ns
 ⟨od,⟨I.obj,rfl,rfl,ho⟩,hl⟩
section
variable {prog:Program} {w:World} {A:Around} {E:Value→Shared→Prop} {s:Shared} {K:PySem.W.Frag} {x dx C f:Addr} {mA:Str→Option Value} {name:Str} {v:Value}
theorem Qq {expr:Bool} {Q:Value→Shared→Prop} (X:K.In s.heap) (I:ObjM s.heap x dx C mA) (hg:PySem.W.plainGet K C name=true) (hh:PySem.W.hasDictIn K C=true)
  (ha:PySem.W.findIn K (.ref C) name=some none) (hv:mA name=some v) (hv':PySem.W.handedIn v=true) (h:Q v { s with toks:=s.toks + 1 }) :
  wpAny (model prog w) A (getAttr (.ref x) name expr) Q E s:=by
 obtain ⟨od,J,hl⟩:=I.look
 exact PySem.W.get_value X J (PySem.W.plainGet_of hg).1 (PySem.W.findObj_own hh ha rfl (by rw [hl,hv])) hv' h
theorem JO {pl:Sem Bool} {Q:Value × List Value→Shared→Prop} (X:K.In s.heap) (I:ObjM s.heap x dx C mA) (hg:PySem.W.plainGet K C name=true)
  (hf:PySem.W.findIn K (.ref C) name=some (some (.ref f))) (ht:PySem.W.isFn K (.ref f)=true) (hv:mA name=none) (h:Q (.ref f,[.ref x]) s) :
  wpAny (model prog w) A (getMethod (.ref x) name pl) Q E s:=by
 obtain ⟨od,J,hl⟩:=I.look
 exact PySem.W.method_fn X J (PySem.W.plainGet_of hg).1 (PySem.W.plainGet_of hg).2 hf (beq_iff_eq.mp ht) (by show (PySem.W.lookIn name od).map (·.isSome)=some false;rw [hl,hv];rfl) h
theorem Qr {ns:List Str} {Q:Unit→Shared→Prop} (X:K.In s.heap) (I:ObjM s.heap x dx C mA)
  (hs:PySem.W.findIn K (.ref C) "__setattr__"=some (some (.builtin "object.__setattr__"))) (hp:PySem.W.plainOver K C=true) (ht:PySem.W.takerIn K C name=some none) (hh:PySem.W.hasDictIn K C=true)
  (hw:PySem.Within mA ns) (hsz:ns.length≤sizeLine)
  (h:∀ h',ObjM h' x dx C (fun y=>if y=name then some v else mA y)→Heap.SameBut dx s.heap h'→Q () { s with heap:=h',toks:=s.toks + 2 }) :
  wpAny (model prog w) A (setAttr (.ref x) name v) Q E s:=by
 obtain ⟨od,J,hl⟩:=I.look
 refine PySem.W.set_plain X J hs (PySem.W.osa_open (s:={ s with toks:=s.toks + 1 }) (r:=none) X J hp ht fun b=>?_)
 obtain ⟨cd,hc,hd'⟩:=PySem.W.any_some hh
 have hx:s.heap.get? x=some ⟨.ref C,some dx,.plain,#[]⟩:=I.obj
 refine wpAny_bind (wpAny_pure (wpAny_bind (wpAny_bind (wpAny_loadPart hx (wpAny_bind (PySem.W.Looks.here (s:={ s with toks:=s.toks + 1 }) (PySem.W.looks_clsIn X hc) ?_))))))
 rw [hd']
 refine wpAny_pure (a:=some dx) (wpAny_bind (wpAny_pure (wpAny_bind ?_)))
 refine wpAny_nsSet1 (s:={ s with toks:=s.toks + 1 }) I.ns fun h' hn2 hs2=>?_
 obtain ⟨oD,esD,epD,hoD,hdD,hcD⟩:=hn2.count (PySem.Within.cons name v hw)
 refine wpAny_bind (wpAny_lookBehind hoD (by rw [hdD];exact pastItsLine_dict (Nat.le_trans hcD (by rw [List.length_cons];omega))) ?_)
 exact wpAny_pure (h _ ⟨(hs2.2 _ (Ne.symm I.ne)).trans I.obj,hn2,I.ne⟩ hs2)
theorem JP {R:Result→Shared→Prop} {vs:List Value} {kw:List (Str × Value)} (X:K.In s.heap) (hm:PySem.W.makesIn K C=true)
  (hi:PySem.W.findIn K (.ref C) "__init__"=some (some (.ref f))) (hf:PySem.W.typeIn K (.ref f)=some (.type "function"))
  (h:codeAny (model prog w) (A.under (.builtin "type.__call__" ⟨.ref C :: vs,kw⟩)) (.call (.ref f) ⟨.ref (s.heap.objs.size + 1) :: vs,kw⟩) (PySem.W.InitBack (s.heap.objs.size + 1) R)
   { s with heap:=(s.heap.push PySem.W.emptyDict).push (PySem.W.instObj C s.heap.objs.size) }) :
  codeAny (model prog w) A (.call (.ref C) ⟨vs,kw⟩) R s:=by
 obtain ⟨hh,g,d,t,os⟩:=s
 exact PySem.W.make_core (PySem.W.makes_of X hm) (PySem.W.looks_findIn X hi) (fun self=>PySem.W.bind_fn X self hf) (.inl rfl) h
end
def yQ (f:Str) (v:V):List (Str × V)→List (Str × V)
 | []=>[(f,v)]
 | (g,x) :: r=>if g=f then (g,v) :: r else (g,x) :: yQ f v r
theorem qe (f g:Str) (v:V):∀ fs:List (Str × V),(yQ f v fs).lookup g=if g=f then some v else fs.lookup g
 | []=>by
  show List.lookup g [(f,v)]=_
  by_cases h:g=f
  ·have hb:(g == f)=true:=beq_iff_eq.mpr h
   simp only [List.lookup,hb,if_pos h]
  ·have hb:(g == f)=false:=beq_eq_false_iff_ne.mpr h
   simp only [List.lookup,hb,if_neg h]
 | (k,x) :: r=>by
  have ih:=qe f g v r
  rw [show yQ f v ((k,x) :: r)=(if k=f then (k,v) :: r else (k,x) :: yQ f v r) from rfl]
  by_cases hk:k=f
  ·rw [if_pos hk]
   by_cases h:g=k
   ·have hb:(g == k)=true:=beq_iff_eq.mpr h
    simp only [List.lookup,hb,if_pos (h.trans hk)]
   ·have hb:(g == k)=false:=beq_eq_false_iff_ne.mpr h
    simp only [List.lookup,hb,if_neg (fun e:g=f=>h (e.trans hk.symm))]
  ·rw [if_neg hk]
   by_cases h:g=k
   ·have hb:(g == k)=true:=beq_iff_eq.mpr h
    simp only [List.lookup,hb,if_neg (fun e:g=f=>hk (h.symm.trans e))]
   ·have hb:(g == k)=false:=beq_eq_false_iff_ne.mpr h
    simp only [List.lookup,hb]
    exact ih
theorem kM (f:Str) (v:V):∀ fs:List (Str × V),f∈(yQ f v fs).map (·.1)∧∀ g,g∈fs.map (·.1)→g∈(yQ f v fs).map (·.1)
 | []=>⟨by simp [yQ],fun g h=>by simp at h⟩
 | (k,x) :: r=>by
  obtain ⟨i1,i2⟩:=kM f v r
  rw [show yQ f v ((k,x) :: r)=(if k=f then (k,v) :: r else (k,x) :: yQ f v r) from rfl]
  by_cases hk:k=f
  ·rw [if_pos hk]
   subst hk
   exact ⟨by simp,fun g h=>by simpa using h⟩
  ·rw [if_neg hk]
   refine ⟨?_,fun g h=>?_⟩
   ·rw [List.map_cons]
    exact List.mem_cons_of_mem _ i1
   ·rw [List.map_cons] at h ⊢
    rcases List.mem_cons.mp h with e | e
    ·exact List.mem_cons.mpr (.inl e)
    ·exact List.mem_cons_of_mem _ (i2 g e)
theorem qf (f:Str) (v:V):∀ fs:List (Str × V),(yQ f v fs).length≤fs.length + 1
 | []=>by simp [yQ]
 | (k,x) :: r=>by
  have ih:=qf f v r
  rw [show yQ f v ((k,x) :: r)=(if k=f then (k,v) :: r else (k,x) :: yQ f v r) from rfl]
  by_cases hk:k=f
  ·rw [if_pos hk,List.length_cons,List.length_cons];omega
  ·rw [if_neg hk,List.length_cons,List.length_cons];omega
theorem RelO.some_of {v:V} {o:Option Value} (r:RelO (some v) o):∃ u,o=some u∧RelV v u:=by
 cases o with
 | none=>exact (show False from r).elim
 | some u=>exact ⟨u,rfl,r⟩
theorem RelO.none_of {o:Option Value} (r:RelO none o):o=none:=by
 cases o with
 | none=>rfl
 | some u=>exact (show False from r).elim
theorem Jc {v:V} {u:Value} (r:RelV v u):PySem.W.handedIn u=true:=by
 cases v with
 | non=>cases (show u=Value.none from r);rfl
 | bl b=>cases (show u=Value.bool b from r);rfl
 | int i=>obtain ⟨t,e⟩:=(show ∃ t,u=Value.int i t from r);cases e;rfl
 | str x=>obtain ⟨t,e⟩:=(show ∃ t,u=Value.str x t from r);cases e;rfl
 | byt b=>obtain ⟨t,e⟩:=(show ∃ t,u=Value.bytes b t from r);cases e;rfl
 | flt b=>obtain ⟨t,e⟩:=(show ∃ t,u=Value.float b t from r);cases e;rfl
 | ref a=>cases (show u=Value.ref a from r);rfl
 | ty n=>cases (show u=Value.type n from r);rfl
section
variable {P:Program} {w:World} {H H':Hp} {h h':Heap} {a C dx:Addr} {fs fs':List (Str × V)}
theorem ke (hok:HOk P w H h) (e:H a=some (.ins C dx fs)):∃ mA,ObjM h a dx C mA∧(∀ f,RelO (fs.lookup f) (mA f))∧PySem.Within mA (fs.map (·.1))∧fs.length≤1000∧H dx=some (.own a):=by
 obtain ⟨d,z,ne,ob,mA,n,r,q⟩:=(show ObjOk P w H h a (.ins C dx fs) from hok a _ e)
 exact ⟨mA,⟨ob,n,ne⟩,r,q,z,d⟩
end
structure Cls (K:PySem.W.Frag) (C:Addr):Prop where
 pg:PySem.W.plainGet K C Str.empty=true
 hd:PySem.W.hasDictIn K C=true
 po:PySem.W.plainOver K C=true
 sa:PySem.W.findIn K (.ref C) "__setattr__"=some (some (.builtin "object.__setattr__"))
theorem Cls.get {K:PySem.W.Frag} {C:Addr} (c:Cls K C) (f:Str):PySem.W.plainGet K C f=true:=c.pg
def NoAttr (K:PySem.W.Frag) (C:Addr) (f:Str):Prop:=PySem.W.findIn K (.ref C) f=some none
theorem NoAttr.taker {K:PySem.W.Frag} {C:Addr} {f:Str} (n:NoAttr K C f):PySem.W.takerIn K C f=some none:=by
 unfold PySem.W.takerIn
 rw [show PySem.W.findIn K (.ref C) f=some none from n]
 rfl
structure Jd (K:PySem.W.Frag) (C:Addr) (m:Str) (f:Addr):Prop where
 at_:PySem.W.findIn K (.ref C) m=some (some (.ref f))
 fn:PySem.W.isFn K (.ref f)=true
 kp:PySem.W.keepIn K (.ref f)=true
section
variable {X:Cx} {pins:List (Addr × Obj)} {σ:St} {H:Hp} {s:Shared} {a C dx:Addr} {fs:List (Str × V)} {f:Str} {v:V} {A:Around} {E:Value→Shared→Prop}
theorem WJ {b:Bool} {Q:Value→Shared→Prop} (I:Inv X pins σ H s) (e:H a=some (.ins C dx fs)) (c:Cls X.K C) (n:NoAttr X.K C f) (l:fs.lookup f=some v)
  (h:∀ u s',Inv X pins σ H s'→RelV v u→Q u s'):wpAny (model X.prog X.w) A (getAttr (.ref a) f b) Q E s:=by
 obtain ⟨mA,O,r,_,_,_⟩:=ke I.hok e
 obtain ⟨u,hu,ru⟩:=RelO.some_of (v:=v) (o:=mA f) (by rw [← l];exact r f)
 exact Qq I.kIn O (c.get f) c.hd n hu (Jc ru) (h u _ (I.tok _) ru)
theorem qN {m:Str} {g:Addr} {pl:Sem Bool} {Q:Value × List Value→Shared→Prop} (I:Inv X pins σ H s) (e:H a=some (.ins C dx fs)) (c:Cls X.K C) (k:Jd X.K C m g) (l:fs.lookup m=none)
  (h:Q (.ref g,[.ref a]) s):wpAny (model X.prog X.w) A (getMethod (.ref a) m pl) Q E s:=by
 obtain ⟨mA,O,r,_,_,_⟩:=ke I.hok e
 have hn:mA m=none:=RelO.none_of (by rw [← l];exact r m)
 exact JO I.kIn O (c.get m) k.at_ k.fn hn h
theorem WK {y:V} {u:Value} {Q:Unit→Shared→Prop} (I:Inv X pins σ H s) (e:H a=some (.ins C dx fs)) (c:Cls X.K C) (n:NoAttr X.K C f) (hl:fs.length < 1000) (ry:RelV y u)
  (h:∀ s',Inv X pins σ (upd H a (.ins C dx (yQ f y fs))) s'→Q () s'):wpAny (model X.prog X.w) A (setAttr (.ref a) f u) Q E s:=by
 obtain ⟨mA,O,r,wi,_,ho⟩:=ke I.hok e
 have hz:(fs.map (·.1)).length≤sizeLine:=by rw [List.length_map,sizeLine_eq];omega
 refine Qr I.kIn O c.sa c.po n.taker c.hd wi hz fun h' O' sb=>h _ ?_
 have hd:∃ o,h'.get? dx=some o:=let ⟨o,_,_,e',_⟩:=O'.ns;⟨o,e'⟩
 refine I.write (x:=a) (e:=dx) (by rw [e];exact True.intro) (.inr ho) (fun b q hb z=>(sb.2 b hb).trans z) hd ?_
 refine ⟨by rw [zl O.ne];exact ho,?_,O.ne,O'.obj,_,O'.ns,fun g=>?_,fun g hg=>?_⟩
 ·have:=qf f y fs;omega
 ·show RelO ((yQ f y fs).lookup g) (if g=f then some u else mA g)
  rw [qe]
  by_cases q:g=f
  ·rw [if_pos q,if_pos q];exact ry
  ·rw [if_neg q,if_neg q];exact r g
 ·by_cases q:g=f
  ·rw [q];exact (kM f y fs).1
  ·refine (kM f y fs).2 g (wi g fun z=>hg ?_)
   show (if g=f then some u else mA g)=none
   rw [if_neg q];exact z
theorem Inv.made (I:Inv X pins σ H s):Inv X pins σ (upd (upd H s.heap.objs.size (.own (s.heap.objs.size + 1))) (s.heap.objs.size + 1) (.ins C s.heap.objs.size []))
  { s with heap:=(s.heap.push PySem.W.emptyDict).push (PySem.W.instObj C s.heap.objs.size) }:=by
 have e1:(s.heap.push PySem.W.emptyDict).get? s.heap.objs.size=some PySem.W.emptyDict:=Heap.get?_push_size s.heap rfl
 have e2:((s.heap.push PySem.W.emptyDict).push (PySem.W.instObj C s.heap.objs.size)).get? (s.heap.objs.size + 1)=some (PySem.W.instObj C s.heap.objs.size):=by
  have:=Heap.get?_push_size (s.heap.push PySem.W.emptyDict) (o:=PySem.W.instObj C s.heap.objs.size) rfl
  rwa [Heap.size_push] at this
 have e3:(s.heap.push PySem.W.emptyDict).Ns s.heap.objs.size (fun _=>none):=⟨PySem.W.emptyDict,#[],_,e1,rfl,(fun e he=>absurd he (by simp)),fun _=>rfl⟩
 have I1:=I.laid (a:=s.heap.objs.size) (o:=.own (s.heap.objs.size + 1)) (h':=s.heap.push PySem.W.emptyDict) (t':=s.toks) (fun b u q=>Heap.get?_push_of_some _ q) (Nat.le_refl _) ⟨_,e1⟩
 refine I1.laid (a:=s.heap.objs.size + 1) (o:=.ins C s.heap.objs.size []) (t':=s.toks) (fun b u q=>Heap.get?_push_of_some _ q) (Nat.le_of_eq (Heap.size_push _ _)) ?_
 have ne:s.heap.objs.size≠s.heap.objs.size + 1:=Nat.ne_of_lt (Nat.lt_succ_self _)
 refine ⟨by rw [zl ne,zf],Nat.zero_le _,ne,e2,fun _=>none,(Heap.Ns1.of_empty e3).at fun o q=>Heap.get?_push_of_some _ q,fun _=>True.intro,fun y hy=>absurd rfl hy⟩
theorem Qs {prog:Program} {w:World} {env:Env} {e:Expr} {f:Str} {pos:Pos} {s:Shared} {Q:Value→Shared→Prop} (hb:attributeBase e f env (eval e env)=eval e env)
  (h:wpAny (model prog w) A (eval e env) (fun o s₁=>wpAny (model prog w) A (getAttr o f true) Q E s₁) E s):wpAny (model prog w) A (eval (.Attribute e f pos) env) Q E s :=
 Attribute_any_ h (by rw [arm_eval_Attribute,hb])
end
def v5 (K:PySem.W.Frag) (ta:TE) (f:Str):TE:=fun σ H Q=>ta σ H fun x H1=>∃ a C dx fs v,x=.ref a∧H1 a=some (.ins C dx fs)∧Cls K C∧NoAttr K C f∧fs.lookup f=some v∧Q v H1
def Je (K:PySem.W.Frag) (ta tv:TE) (f:Str):TS:=fun D σ H=>tv σ H fun y H1=>ta σ H1 fun x H2=>∃ a C dx fs,x=.ref a∧H2 a=some (.ins C dx fs)∧Cls K C∧NoAttr K C f∧fs.length < 1000 ∧
 D.nx σ (upd H2 a (.ins C dx (yQ f y fs)))
def zbE (K:PySem.W.Frag) (ta tv:TE) (rd:V→V→Hp→VK→Prop) (f:Str):TS:=fun D σ H=>ta σ H fun x H1=>∃ a C dx fs v,x=.ref a∧H1 a=some (.ins C dx fs)∧Cls K C∧NoAttr K C f∧fs.lookup f=some v ∧
 tv σ H1 fun y H2=>rd v y H2 fun z H3=>∃ dx' fs',H3 a=some (.ins C dx' fs')∧fs'.length < 1000∧D.nx σ (upd H3 a (.ins C dx' (yQ f z fs')))
section
variable {X:Cx} {o e value:Expr} {f:Str} {pos pos' tpos:Pos} {ta tv:TE}
theorem v6 (he:PE X e ta) (hb:attributeBase e f X.env (eval e X.env)=eval e X.env):PE X (.Attribute e f pos) (v5 X.K ta f):=by
 intro pins s σ H Q I h
 refine Qs hb (thn (he pins s σ H _ I h) fun u s1 ⟨x,H1,I1,rx,a,C,dx,fs,v,ex,ea,c,n,l,q⟩=>?_)
 subst ex
 obtain rfl:u=Value.ref a:=rx
 exact WJ I1 ea c n l fun u' s2 I2 ru=>⟨v,H1,I2,ru,q⟩
theorem WL (ha:PE X o ta) (hv:PE X value tv) (hs:swapsWith value (some (.Attribute o f pos')) pos.line X.env=pure false):PS X (.Assign [.Attribute o f pos'] value pos) (Je X.K ta tv f):=by
 intro pins s σ H D I h
 refine plainObj_wpAny_Assign_Attribute (thn (hv pins s σ H _ I h) fun u s1 ⟨y,H1,I1,ry,q⟩=>thn (ha pins s1 σ H1 _ I1 q) fun ov s2 ⟨x,H2,I2,rx,a,C,dx,fs,ex,ea,c,n,l,q2⟩=>?_) hs
 subst ex
 obtain rfl:ov=Value.ref a:=rx
 exact WK I2 ea c n l ry fun s3 I3=>⟨σ,_,I3,q2⟩
def zcE:V→V→Hp→VK→Prop:=fun x y H Q=>∃ i j,x=.int i∧y=.int j∧Q (.int (i + j)) H
end
section
variable {X:Cx} {pins:List (Addr × Obj)} {σ:St} {H:Hp} {s:Shared} {A:Around} {E:Value→Shared→Prop} {Q:Value→Shared→Prop} {c:Value} {b:Bool}
inductive kg (K:PySem.W.Frag) (H:Hp):V→Value→Prop where
 | non:kg K H .non (.type "NoneType")
 | bl (x:Bool):kg K H (.bl x) (.type "bool")
 | int (i:Int):kg K H (.int i) (.type "int")
 | str (x:Str):kg K H (.str x) (.type "str")
 | flt (x:UInt64):kg K H (.flt x) (.type "float")
 | lst {a:Addr} {xs:List V} (e:H a=some (.lst xs)):kg K H (.ref a) (.type "list")
 | frz {a:Addr} {o:Obj} {xs:List V} (e:H a=some (.frz o (.lst xs))):kg K H (.ref a) (.type "list")
 | tup {a:Addr} {xs:List V} (e:H a=some (.tup xs)):kg K H (.ref a) (.type "tuple")
 | dK {a:Addr} {kvs:List (Key × V)} (e:H a=some (.dK kvs)):kg K H (.ref a) (.type "dict")
 | dT {a:Addr} {kvs:List (List Key × V)} (e:H a=some (.dT kvs)):kg K H (.ref a) (.type "dict")
 | ins {a C dx:Addr} {fs:List (Str × V)} (e:H a=some (.ins C dx fs)) (cl:Cls K C) (ha:PySem.W.findIn K (.ref C) "__class__"=some (some (.builtin "object.__class__")))
   (hn:PySem.W.specialIn K (.builtin "object.__class__") "__get__"=some (some (.builtin "getset_descriptor.__get__"))) (htk:PySem.W.takesIn K (.builtin "object.__class__")=some true)
   (hm:PySem.W.mroIn K C (.type "object")=some true):kg K H (.ref a) (.ref C)
theorem Jf {x:V} {u t:Value} (I:Inv X pins σ H s) (rx:RelV x u) (ty:kg X.K H x t) (e:PySem.W.kitOne X.K t c=some b) (h:∀ tk,Q (.bool b) { s with toks:=tk }) :
  wpAny (model X.prog X.w) A (call (.builtin "isinstance") [u,c]) Q E s:=by
 cases ty with
 | non=>cases (show u=Value.none from rx);exact PySem.W.kia_one PySem.W.kitx_none I.kIn True.intro e (fun z=>nomatch z) h
 | bl y=>cases (show u=Value.bool y from rx);exact PySem.W.kia_one PySem.W.kitx_bool I.kIn True.intro e (fun z=>nomatch z) h
 | int i=>obtain ⟨t,q⟩:=(show ∃ t,u=Value.int i t from rx);cases q;exact PySem.W.kia_one PySem.W.kitx_int I.kIn True.intro e (fun z=>nomatch z) h
 | str y=>obtain ⟨t,q⟩:=(show ∃ t,u=Value.str y t from rx);cases q;exact PySem.W.kia_one PySem.W.kitx_str I.kIn True.intro e (fun z=>nomatch z) h
 | flt y=>obtain ⟨t,q⟩:=(show ∃ t,u=Value.float y t from rx);cases q;exact PySem.W.kia_one PySem.W.kitx_float I.kIn True.intro e (fun z=>nomatch z) h
 | @lst a xs ea =>
  cases (show u=Value.ref a from rx)
  obtain ⟨_,_,n,_,h1⟩:=(show ObjOk X.prog X.w H s.heap a (.lst xs) from I.hok a _ ea)
  exact PySem.W.kia_one PySem.W.kitx_list I.kIn ⟨_,h1,rfl⟩ e (fun z=>nomatch z) h
 | @frz a ob xs ea =>
  cases (show u=Value.ref a from rx)
  obtain ⟨_,_,_,n,_,h1⟩:=(show ObjOk X.prog X.w H s.heap a (.frz ob (.lst xs)) from I.hok a _ ea)
  exact PySem.W.kia_one PySem.W.kitx_list I.kIn ⟨_,h1,rfl⟩ e (fun z=>nomatch z) h
 | @tup a xs ea =>
  cases (show u=Value.ref a from rx)
  obtain ⟨_,_,_,p⟩:=(show ObjOk X.prog X.w H s.heap a (.tup xs) from I.hok a _ ea)
  obtain ⟨o,h1,h2,_⟩:=p
  exact PySem.W.kia_one PySem.W.kitx_tuple I.kIn ⟨o,h1,h2⟩ e (fun z=>nomatch z) h
 | @dK a kvs ea =>
  cases (show u=Value.ref a from rx)
  obtain ⟨_,_,vs,_,p⟩:=(show ObjOk X.prog X.w H s.heap a (.dK kvs) from I.hok a _ ea)
  obtain ⟨o,es,ep,h1,h2,_⟩:=p
  exact PySem.W.kia_one PySem.W.kitx_dict I.kIn ⟨o,h1,h2.1⟩ e (fun z=>nomatch z) h
 | @dT a kvs ea =>
  cases (show u=Value.ref a from rx)
  obtain ⟨_,_,xs,_,o,es,ep,h1,h2,_⟩:=(show ObjOk X.prog X.w H s.heap a (.dT kvs) from I.hok a _ ea)
  exact PySem.W.kia_one PySem.W.kitx_dict I.kIn ⟨o,h1,h2.1⟩ e (fun z=>nomatch z) h
 | @ins a C dx fs ea cl ha hn htk hm =>
  cases (show u=Value.ref a from rx)
  obtain ⟨mA,O,_⟩:=ke I.hok ea
  obtain ⟨od,J,_⟩:=O.look
  exact PySem.W.kia_one (PySem.W.kitx_own (cl.get _) cl.hd ha hn htk hm) I.kIn J e (fun z=>nomatch z) h
end
end L2
namespace L2
open PySem PySem.Spec PyProof.Rows
structure Room (k:Nat) (A:Around):Prop where
 hd:A.handled=none
 dp:A.depth + 3 * k + 5 < recursionLimit
 un:A.units + 16 * k + 200 < cLine
theorem Room.mono {j k:Nat} {A:Around} (r:Room k A) (h:j≤k):Room j A:=⟨r.hd,by have:=r.dp;omega,by have:=r.un;omega⟩
theorem Room.deeper {k:Nat} {A:Around} (r:Room (k + 1) A) (env:Env):Room k (A.deeper env) :=
 ⟨r.hd,by have:=r.dp;show A.depth + 1 + 3 * k + 5 < _;omega,by have:=r.un;show A.units + 3 + 16 * k + 200 < _;omega⟩
theorem WM {A:Around} {C:Addr} {us:List Value} {kw:List (Str × Value)}:(A.under (.builtin "type.__call__" ⟨.ref C :: us,kw⟩)).depth=A.depth + 1:=by
 first | rfl | simp [Around.under,Code.weight,Code.isCreation,Code.isGuard,Code.isCaller,Code.frames,Code.isFrame,guardIds]
theorem WN {A:Around} {C:Addr} {us:List Value} {kw:List (Str × Value)}:(A.under (.builtin "type.__call__" ⟨.ref C :: us,kw⟩)).units=A.units + 1:=by
 first | rfl | simp [Around.under,Code.cUnits,Code.frames,Code.isFrame]
theorem Room.make {k:Nat} {A:Around} (r:Room (k + 1) A) (C:Addr) (us:List Value) (kw:List (Str × Value)):Room k (A.under (.builtin "type.__call__" ⟨.ref C :: us,kw⟩)) :=
 ⟨r.hd,by have:=r.dp;rw [WM];omega,by have:=r.un;rw [WN];omega⟩
theorem Room.depth {k:Nat} {A:Around} (r:Room k A):A.depth < recursionLimit:=by have:=r.dp;omega
theorem Room.units {k:Nat} {A:Around} (r:Room k A):A.units + 64 < cLine:=by have:=r.un;omega
def zi:TA:=fun _ H Q=>Q [] H
def zb (ta:TE) (tr:TA):TA:=fun σ H Q=>ta σ H fun x H1=>tr σ H1 fun xs H2=>Q (x :: xs) H2
section
variable {X:Cx} {e:Expr} {es:List Expr} {te:TE} {t:TA} {pos:Pos}
theorem ze:PA X [] zi:=fun _ _ _ _ H Q I h=>Calls.spliced_nil ⟨[],H,I,.nil,h⟩
theorem za (ha:PE X e te) (hr:PA X es t) (hs:starEach (e :: es) X.env=(false,eval e X.env) :: starEach es X.env:=by rfl):PA X (e :: es) (zb te t):=by
 intro pos pins s σ H Q I h
 rw [hs]
 show wpAny _ _ (spliced ((false,eval e X.env) :: backTo pos (starEach es X.env))) _ _ s
 refine Calls.spliced_cons (thn (ha pins s σ H _ I h) fun u s1 ⟨x,H1,I1,r1,q1⟩=>?_)
 exact thn (hr pos pins s1 σ H1 _ I1 q1) fun us s2 ⟨xs,H2,I2,r2,q2⟩=>⟨x :: xs,H2,I2,.cons r1 r2,q2⟩
def z0 (t:TA):TE:=fun σ H Q=>t σ H fun xs H1=>xs.length≤sizeLine∧∀ p,H1 p=none→Q (.ref p) (upd H1 p (.tup xs))
def wG (t:TA):TE:=fun σ H Q=>t σ H fun xs H1=>xs.length≤sizeLine∧∀ p,H1 p=none→Q (.ref p) (upd H1 p (.lst xs))
theorem ya {x1} (h:PA X es t):PE X (.Tuple es x1 pos) (z0 t):=by
 intro pins s σ H Q I hq
 refine wpAny_Tuple_spliced (thn (h pos pins s σ H _ I hq) fun us s1 ⟨xs,H1,I1,r,z,q⟩=>⟨by rw [← r.length];exact z,?_⟩)
 have hf:H1 s1.heap.objs.size=none:=I1.hok.fresh (Nat.le_refl _)
 refine ⟨.ref s1.heap.objs.size,upd H1 s1.heap.objs.size (.tup xs),I1.laid (t':=s1.toks) (fun b u e=>Heap.get?_push_of_some _ e) (Nat.le_refl _) ?_,rfl,q _ hf⟩
 exact ⟨z,us,r,⟨_,Heap.get?_push_size _ rfl,rfl,_,rfl⟩⟩
theorem v9 (h:PA X es t):PE X (.List es pos) (wG t):=by
 intro pins s σ H Q I hq
 refine wpAny_List_spliced (thn (h pos pins s σ H _ I hq) fun us s1 ⟨xs,H1,I1,r,z,q⟩=>⟨by rw [← r.length];exact z,?_⟩)
 have hf:H1 s1.heap.objs.size=none:=I1.hok.fresh (Nat.le_refl _)
 refine ⟨.ref s1.heap.objs.size,upd H1 s1.heap.objs.size (.lst xs),I1.laid (t':=s1.toks) (fun b u e=>Heap.get?_push_of_some _ e) (Nat.le_refl _) ?_,rfl,q _ hf⟩
 exact ⟨z,us,0,r,Heap.get?_push_size _ rfl⟩
end
abbrev Sp:=List V→Hp→VK→XK→Prop
abbrev CXT:=List Env→Hp→Shared→XK→Value→Shared→Prop
structure Env0 (P:Program) (w:World) (K:PySem.W.Frag) (mg:Str→Option Value) (base:Heap) (A:Around) (outer:List Env) (s:Shared) (H:Hp):Prop where
 frames:A.frames=some outer
 mod:Mod K mg base
 bs:∀ b o,base.get? b=some o→s.heap.get? b=some o∧H b=none
 bsz:base.objs.size≤s.heap.objs.size
 funs:s.heap.FunFrames base outer
 frf:∀ b∈frs outer,H b=none
 hok:HOk P w H s.heap
 bare:AllBare s.gens
def CE (outer:List Env) (P:Program) (w:World) (H:Hp) (s:Shared) (Q:VK) (u:Value) (s':Shared):Prop :=
 ∃ v H',s'.os=s.os∧AllBare s'.gens∧Un (frs outer) [] H H' s.heap s'.heap∧HOk P w H' s'.heap∧RelV v u∧Q v H'
def CR (CX:CXT) (outer:List Env) (P:Program) (w:World) (H:Hp) (s:Shared) (Q:VK) (E:XK) (r:Result) (s':Shared):Prop :=
 match r with
 | .ok (.ret u)=>CE outer P w H s Q u s'
 | .ok _=>False
 | .error e=>CX outer H s E e s'
structure FnOk (P:Program) (w:World) (K:PySem.W.Frag) (mg:Str→Option Value) (base:Heap) (CX:CXT) (k:Nat) (f:Addr) (fd:FuncData) (ps:List Str) (sp:Sp):Prop where
 len:∀ vs H Q E,sp vs H Q E→vs.length=ps.length
 run:∀ (A:Around) (outer:List Env) (s:Shared) (H:Hp) (args:Args) (us:List Value) (vs:List V) (Q:VK) (E:XK),Room k A→Env0 P w K mg base A outer s H→BindsTo s fd args (ps.zip us)→Vals vs us→sp vs H Q E →
  codeAny (model P w) A (.call (.ref f) args) (CR CX outer P w H s Q E) s
theorem FnOk.mono {P:Program} {w:World} {K:PySem.W.Frag} {mg:Str→Option Value} {base:Heap} {CX:CXT} {j k:Nat} {f:Addr} {fd:FuncData} {ps:List Str} {sp:Sp} (F:FnOk P w K mg base CX j f fd ps sp) (h:j≤k) :
  FnOk P w K mg base CX k f fd ps sp:=⟨F.len,fun A outer s H args us vs Q E hr=>F.run A outer s H args us vs Q E (hr.mono h)⟩
theorem Env0.make {P:Program} {w:World} {K:PySem.W.Frag} {mg:Str→Option Value} {base:Heap} {A:Around} {outer:List Env} {s:Shared} {H:Hp} (e:Env0 P w K mg base A outer s H) (C:Addr) (us:List Value) (kw:List (Str × Value)) :
  Env0 P w K mg base (A.under (.builtin "type.__call__" ⟨.ref C :: us,kw⟩)) outer s H:=⟨by first | exact e.frames | (simpa [Around.under,Code.envs,Code.isFrame,pushEnvs] using e.frames),e.mod,e.bs,e.bsz,e.funs,e.frf,e.hok,e.bare⟩
section
variable {X:Cx} {pins:List (Addr × Obj)} {σ:St} {H:Hp} {s s':Shared}
theorem Inv.env0 (I:Inv X pins σ H s):Env0 X.prog X.w X.K X.mg X.base X.A X.stack s H :=
 ⟨I.ok.frames,I.ok.mod,I.bs,Nat.le_trans I.ok.bsz I.sz,I.stack,I.stkFree,I.hok,I.bare⟩
theorem Inv.after {Q:VK} {u:Value} (I:Inv X pins σ H s) (h:CE X.stack X.prog X.w H s Q u s'):EP X pins σ Q u s':=by
 obtain ⟨v,H',os,bare,un,hok,r,q⟩:=h
 obtain ⟨hh,g,d,t,os'⟩:=s'
 obtain rfl:os'=s.os:=os
 exact ⟨v,H',I.call (h':=hh) (g':=g) (d':=d) (t':=t) (ch:=[]) un hok bare (fun b z=>absurd z (by simp)),r,q⟩
end
def zn (sp:Sp) (dvs:List V) (E:XK) (t:TA):TE:=fun σ H Q=>t σ H fun vs H1=>sp (vs ++ dvs) H1 Q E
def xJ (C:Addr) (m:Str) (sp:Sp) (dvs:List V) (E:XK) (ta:TE) (t:TA):TE:=fun σ H Q=>ta σ H fun x H1=>∃ a dx fs,x=.ref a∧H1 a=some (.ins C dx fs)∧fs.lookup m=none ∧
 t σ H1 fun vs H2=>sp (x :: (vs ++ dvs)) H2 Q E
def JQ (C:Addr) (sp:Sp) (dvs:List V) (E:XK) (t:TA):TE:=fun σ H Q=>t σ H fun vs H1=>∀ x dx,H1 x=none→H1 dx=none→dx≠x →
 sp (.ref x :: (vs ++ dvs)) (upd (upd H1 dx (.own x)) x (.ins C dx [])) (fun v H2=>v=.non∧Q (.ref x) H2) E
def Binds (K:PySem.W.Frag) (fd:FuncData) (ps:List Str) (ds:List Value):Prop :=
 ∀ (s:Shared) (us:List Value),K.In s.heap→(us ++ ds).length=ps.length→BindsTo s fd ⟨us,[]⟩ (ps.zip (us ++ ds))
theorem Binds.all {K:PySem.W.Frag} {fd:FuncData} {ps:List Str} (h:∀ us:List Value,us.length=ps.length→bindArgs fd ⟨us,[]⟩=pure (ps.zip us)):Binds K fd ps []:=fun s us _ hl=>by
 rw [List.append_nil] at hl ⊢
 exact .of_eq (h us hl)
def jQ (CX:CXT) (X:Cx) (E:XK):Prop:=∀ (pins:List (Addr × Obj)) (σ:St) (H:Hp) (s:Shared) (e:Value) (s':Shared),Inv X pins σ H s→CX X.stack H s E e s'→X.xe e s'
section
variable {X:Cx} {CX:CXT} {k:Nat} {f C:Addr} {fd:FuncData} {ps:List Str} {sp:Sp} {dvs:List V} {ds:List Value} {E:XK} {x m:Str} {p pos apos:Pos} {e o:Expr} {es:List Expr} {ta:TE} {t:TA}
theorem JR {pins:List (Addr × Obj)} {σ:St} {H:Hp} {s:Shared} {Q:VK} {us:List Value} {vs:List V} (F:FnOk X.prog X.w X.K X.mg X.base CX k f fd ps sp) (hr:Room k X.A) (hb:Binds X.K fd ps ds) (hd:Vals dvs ds) (hx:jQ CX X E)
  (I:Inv X pins σ H s) (r:Vals vs us) (h:sp (vs ++ dvs) H Q E):wpAny (model X.prog X.w) X.A (call (.ref f) us) (EP X pins σ Q) X.xe s:=by
 have r2:Vals (vs ++ dvs) (us ++ ds):=r.append hd
 have hl:(us ++ ds).length=ps.length:=by rw [← r2.length];exact F.len _ _ _ _ h
 refine wpAny_call (codeAny_mono (F.run X.A X.stack s H ⟨us,[]⟩ (us ++ ds) (vs ++ dvs) Q E hr I.env0 (hb s us I.kIn hl) r2 h) fun r s' hq=>?_)
 cases r with
 | error e=>exact hx pins σ H s e s' I hq
 | ok fl =>
  cases fl with
  | ret u=>exact I.after hq
  | next=>exact False.elim hq
  | brk=>exact False.elim hq
  | cont=>exact False.elim hq
theorem zp (F:FnOk X.prog X.w X.K X.mg X.base CX k f fd ps sp) (hr:Room k X.A) (hg:Gl X x) (hm:X.mg x=some (.ref f)) (hk:PySem.W.keepIn X.K (.ref f)=true) (hb:Binds X.K fd ps ds) (hd:Vals dvs ds) (hx:jQ CX X E)
  (ha:PA X (e :: es) t) (hdb:(x == ("__debug__":Str))=false:=by decide) (he:starEach (e :: es) X.env=(false,eval e X.env) :: starEach es X.env:=by rfl) (hpl:(backTo pos (starEach es X.env)).any (·.1)=false:=by rfl) :
  PE X (.Call (.Name x p) (e :: es) [] pos) (zn sp dvs E t):=by
 intro pins s σ H Q I h
 refine wpAny_Call_Name_kw (vH I hg hm ?_ hdb)
 refine PySem.W.callWith_K (h₀:=X.base) I.ok.mod.kin hk (thn (ha pos pins s σ H _ I h) fun us s1 ⟨vs,H1,I1,r,q⟩=>⟨I1.kIn,?_⟩) he hpl
 exact JR F hr hb hd hx I1 r q
theorem wu {pl:Sem Bool} (he:PE X o ta) (c:Cls X.K C) (hm:Jd X.K C m f) (F:FnOk X.prog X.w X.K X.mg X.base CX k f fd ps sp) (hr:Room k X.A) (hb:Binds X.K fd ps ds) (hd:Vals dvs ds) (hx:jQ CX X E) (ha:PA X (e :: es) t)
  (hst:starEach (e :: es) X.env=(false,eval e X.env) :: starEach es X.env:=by rfl) (hpl:(backTo pos (starEach es X.env)).any (·.1)=false:=by rfl)
  (ht:eval (.Call (.Attribute o m apos) (e :: es) [] pos) X.env=(do
   let ov ← eval o X.env
   standAt apos.atName
   let (f,first) ← holding [ov] (getMethod ov m pl)
   callWith pos f first (backTo pos (starEach (e :: es) X.env)) (backToKw pos (keywordEach [] X.env))):=by rfl) :
  PE X (.Call (.Attribute o m apos) (e :: es) [] pos) (xJ C m sp dvs E ta t):=by
 intro pins s σ H Q I h
 refine PySem.W.methodCall_KW (pl:=pl) (thn (he pins s σ H _ I h) fun u s1 ⟨x,H1,I1,rx,a,dx,fs,ex,ea,l,q⟩=>?_) ht
 subst ex
 obtain rfl:u=Value.ref a:=rx
 refine qN I1 ea c hm l ?_
 refine PySem.W.callWith_K (first:=[.ref a]) (h₀:=X.base) I.ok.mod.kin hm.kp (thn (ha pos pins s1 σ H1 _ I1 q) fun us s2 ⟨vs,H2,I2,r,q2⟩=>⟨I2.kIn,?_⟩) hst hpl
 exact JR (us:=.ref a :: us) (vs:=.ref a :: vs) F hr hb hd hx I2 (.cons rfl r) q2
structure Mk (K:PySem.W.Frag) (C f:Addr):Prop where
 makes:PySem.W.makesIn K C=true
 init:PySem.W.findIn K (.ref C) "__init__"=some (some (.ref f))
 fn:PySem.W.isFn K (.ref f)=true
 kp:PySem.W.keepIn K (.ref C)=true
theorem JS {pins:List (Addr × Obj)} {σ:St} {H:Hp} {s:Shared} {Q:VK} {us:List Value} {vs:List V} (M:Mk X.K C f) (F:FnOk X.prog X.w X.K X.mg X.base CX k f fd ps sp) (hr:Room (k + 1) X.A) (hb:Binds X.K fd ps ds) (hd:Vals dvs ds)
  (hx:jQ CX X E) (I:Inv X pins σ H s) (r:Vals vs us)
  (h:∀ x dx,H x=none→H dx=none→dx≠x→sp (.ref x :: (vs ++ dvs)) (upd (upd H dx (.own x)) x (.ins C dx [])) (fun v H2=>v=.non∧Q (.ref x) H2) E) :
  wpAny (model X.prog X.w) X.A (call (.ref C) us) (EP X pins σ Q) X.xe s:=by
 have hq:=h (s.heap.objs.size + 1) s.heap.objs.size (I.hok.fresh (Nat.le_succ _)) (I.hok.fresh (Nat.le_refl _)) (Nat.ne_of_lt (Nat.lt_succ_self _))
 have I2:=Inv.made (C:=C) I
 have r2:Vals (V.ref (s.heap.objs.size + 1) :: (vs ++ dvs)) (Value.ref (s.heap.objs.size + 1) :: (us ++ ds)):=.cons rfl (r.append hd)
 have hl:(Value.ref (s.heap.objs.size + 1) :: us ++ ds).length=ps.length:=by
  have e:=r2.length
  rw [F.len _ _ _ _ hq] at e
  exact e.symm
 refine wpAny_call (JP (f:=f) I.kIn M.makes M.init (beq_iff_eq.mp M.fn) (codeAny_mono (F.run _ X.stack _ _ ⟨Value.ref (s.heap.objs.size + 1) :: us,[]⟩ (Value.ref (s.heap.objs.size + 1) :: (us ++ ds)) _ _ E (hr.make C us [])
  (I2.env0.make C us []) (hb _ (Value.ref (s.heap.objs.size + 1) :: us) I2.kIn hl) r2 hq) fun r s' hq'=>?_))
 cases r with
 | error e=>exact hx pins σ _ _ e s' I2 hq'
 | ok fl =>
  cases fl with
  | ret u =>
   obtain ⟨v,H',I3,rv,ev,q3⟩:=I2.after hq'
   subst ev
   exact ⟨rv,⟨V.ref (s.heap.objs.size + 1),H',I3,rfl,q3⟩⟩
  | next=>exact False.elim hq'
  | brk=>exact False.elim hq'
  | cont=>exact False.elim hq'
theorem Qt (M:Mk X.K C f) (F:FnOk X.prog X.w X.K X.mg X.base CX k f fd ps sp) (hr:Room (k + 1) X.A) (hg:Gl X x) (hm:X.mg x=some (.ref C)) (hb:Binds X.K fd ps ds) (hd:Vals dvs ds) (hx:jQ CX X E)
  (ha:PA X (e :: es) t) (hdb:(x == ("__debug__":Str))=false:=by decide) (he:starEach (e :: es) X.env=(false,eval e X.env) :: starEach es X.env:=by rfl) (hpl:(backTo pos (starEach es X.env)).any (·.1)=false:=by rfl) :
  PE X (.Call (.Name x p) (e :: es) [] pos) (JQ C sp dvs E t):=by
 intro pins s σ H Q I h
 refine wpAny_Call_Name_kw (vH I hg hm ?_ hdb)
 refine PySem.W.callWith_K (h₀:=X.base) I.ok.mod.kin M.kp (thn (ha pos pins s σ H _ I h) fun us s1 ⟨vs,H1,I1,r,q⟩=>⟨I1.kIn,?_⟩) he hpl
 exact JS M F hr hb hd hx I1 r q
end
section
variable {X:Cx} {CX:CXT} {k:Nat} {f C:Addr} {fd:FuncData} {ps ks:List Str} {sp:Sp} {E:XK} {x m:Str} {p pos apos kpos:Pos} {e o:Expr} {es:List Expr} {kws:List Keyword} {te ta:TE} {t tk:TA} {nm:Option Str}
variable {g:List Value→List Value→List Value} {gV:List V→List V→List V}
end
structure zM (N P:List Str) (sc:Scope):Prop where
 kind:sc.kind=.function
 co:sc.isCoroutine=false
 gen:sc.isGenerator=false
 nd:N.Nodup
 pre:N.take P.length=P
 par:∀ x∈P,sc.names.lookup x=some .local∨sc.names.lookup x=some .cell
 nofree:∀ y∈sc.names,y.2≠.free
theorem Yg {kindOf:Str→Option NameKind} {x:Str}:∀ {binds:List (Str × Value)} {m:Str→Option Value},(∀ v,(x,v) ∉ binds)→bindL kindOf binds m x=m x
 | [],_,_=>rfl
 | (n,v) :: r,m,h=>by
  unfold bindL
  rw [Yg fun w hw=>h w (List.mem_cons_of_mem _ hw)]
  split
  ·have:x≠n:=by rintro rfl;exact h v List.mem_cons_self
   simp [this]
  ·rfl
theorem Yh {kindOf:Str→Option NameKind} {x:Str}:∀ {binds:List (Str × Value)} {m:Str→Option Value},(∀ v,(x,v) ∉ binds)→bindC kindOf binds m x=m x
 | [],_,_=>rfl
 | (n,v) :: r,m,h=>by
  unfold bindC
  rw [Yh fun w hw=>h w (List.mem_cons_of_mem _ hw)]
  split
  ·rfl
  ·have:x≠n:=by rintro rfl;exact h v List.mem_cons_self
   simp [this]
theorem Yi {kindOf:Str→Option NameKind} {x:Str} {v:Value}:∀ {P:List Str} {vs:List Value} {i:Nat} {m:Str→Option Value},P.Nodup→P[i]?=some x→vs[i]?=some v→kindOf x=some .local →
  bindL kindOf (P.zip vs) m x=some v
 | [],_,_,_,_,h,_,_=>by simp at h
 | _ :: _,[],_,_,_,_,h,_=>by simp at h
 | p :: P,w :: vs,0,m,nd,h1,h2,hk=>by
  simp at h1 h2;subst h1;subst h2
  show bindL kindOf ((p,w) :: P.zip vs) m p=_
  unfold bindL
  rw [Yg fun v hv=>(List.nodup_cons.mp nd).1 (List.of_mem_zip hv).1,if_pos hk]
  simp
 | p :: P,w :: vs,i + 1,m,nd,h1,h2,hk=>by
  show bindL kindOf ((p,w) :: P.zip vs) m x=_
  unfold bindL
  exact Yi (i:=i) (List.nodup_cons.mp nd).2 (by simpa using h1) (by simpa using h2) hk
theorem Yj {kindOf:Str→Option NameKind} {x:Str} {v:Value}:∀ {P:List Str} {vs:List Value} {i:Nat} {m:Str→Option Value},P.Nodup→P[i]?=some x→vs[i]?=some v→kindOf x≠some .local →
  bindC kindOf (P.zip vs) m x=some v
 | [],_,_,_,_,h,_,_=>by simp at h
 | _ :: _,[],_,_,_,_,h,_=>by simp at h
 | p :: P,w :: vs,0,m,nd,h1,h2,hk=>by
  simp at h1 h2;subst h1;subst h2
  show bindC kindOf ((p,w) :: P.zip vs) m p=_
  unfold bindC
  rw [Yh fun v hv=>(List.nodup_cons.mp nd).1 (List.of_mem_zip hv).1,if_neg hk]
  simp
 | p :: P,w :: vs,i + 1,m,nd,h1,h2,hk=>by
  show bindC kindOf ((p,w) :: P.zip vs) m x=_
  unfold bindC
  exact Yj (i:=i) (List.nodup_cons.mp nd).2 (by simpa using h1) (by simpa using h2) hk
def start (N:List Str) (vs:List V):St:=vs.map some ++ List.replicate (N.length - vs.length) none
def jJ (CX:CXT) (P:Program) (w:World) (K:PySem.W.Frag) (mg:Str→Option Value) (base:Heap) (N:List Str) (qual:Str) (scope:Scope) (f:Addr) (cd:Value) (A:Around) (outer:List Env) (s:Shared) (H:Hp) (E:XK):Cx where
 prog:=P
 w:=w
 K:=K
 mg:=mg
 base:=base
 A:=A.deeper (envOfC qual scope s.heap.objs.size f cd)
 N:=N
 s₀:=s
 H₀:=H
 env:=envOfC qual scope s.heap.objs.size f cd
 outer:=outer
 stack:=envOfC qual scope s.heap.objs.size f cd :: outer
 ex:=[]
 calm:=true
 fn:=fun _=>true
 pn:=[]
 xe:=fun e s'=>wpAny (model P w) (A.deeper (envOfC qual scope s.heap.objs.size f cd)) (leaving (envOfC qual scope s.heap.objs.size f cd) e) (fun _ s''=>CX outer H s E e s'') (fun e' s''=>CX outer H s E e' s'') s'
theorem Xx {sc:Scope} {n:Nat} {x:Str} (h:sc.names.lookup x=some .cell):∃ c,(cellsFrom n sc.names []).lookup x=some c:=by
 have q:=PySem.W.cellsFrom_some sc.names n [] (.inl h)
 exact Option.isSome_iff_exists.mp q
theorem Yk {CX:CXT} {P:Program} {w:World} {K:PySem.W.Frag} {mg:Str→Option Value} {base:Heap} {N ps:List Str} {qual:Str} {scope:Scope} {f:Addr} {cd:Value} {A:Around} {outer:List Env} {s s1:Shared} {H:Hp} {E:XK} {us:List Value} {vs:List V}
  (S:zM N ps scope) (hd:A.handled=none) (e0:Env0 P w K mg base A outer s H) (hl:vs.length=ps.length) (r:Vals vs us)
  (x:InCallC s s.heap.objs.size (bindL (envOfC qual scope s.heap.objs.size f cd).kindOf (ps.zip us) fun _=>none) (cellsFrom (s.heap.objs.size + 1) scope.names []) (bindC (envOfC qual scope s.heap.objs.size f cd).kindOf (ps.zip us) fun _=>none) s1) :
  Inv (jJ CX P w K mg base N qual scope f cd A outer s H E) [] (start N vs) H s1:=by
 have hpl:ps.length≤N.length:=by have:=congrArg List.length S.pre;rw [List.length_take] at this;omega
 obtain ⟨h1,tk,rfl,hk⟩:=x.done
 have noA:∀ b:Addr,b ∉ (jJ CX P w K mg base N qual scope f cd A outer s H E).ex:=fun b z=>absurd (show b∈([]:List Addr) from z) (by simp)
 refine ⟨⟨e0.mod,S.kind,rfl,rfl,Nat.le_refl _,fun y z c h1 h2=>?_,fun y hy=>?_,fun y c _ h=>?_,fun _=>hd,Around.frames_deeper e0.frames,.inr ⟨rfl,rfl⟩,fun b z=>absurd z (noA b),e0.bs,e0.bsz,fun b _ _=>noA b,fun b z=>absurd z (noA b),e0.funs,e0.frf⟩,
  rfl,e0.bare,Un.kept hk,⟨_,x.toInCall.ns,fun i y v h1 h2 h3=>?_⟩,fun y c h=>⟨_,x.cell y c h⟩,e0.hok.fresh (Nat.le_refl _),fun y c h=>?_,fun p hp=>absurd (show p∈([]:List (Addr × Obj)) from hp) (by simp),e0.hok.kept hk,?_⟩
 ·exact name_of_addr x.apart (PySem.mem_of_lookup h1) (PySem.mem_of_lookup h2)
 ·have hy:scope.names.lookup y=some .cell∨scope.names.lookup y=some .free:=hy
  rcases hy with hy | hy
  ·exact Xx hy
  ·exact absurd rfl (S.nofree _ (PySem.mem_of_lookup hy))
 ·exact Nat.le_of_lt (x.above y c (PySem.mem_of_lookup h))
 ·have hi:i < vs.length:=by
   unfold start at h2
   by_cases hi:i < vs.length
   ·exact hi
   ·rw [List.getElem?_append_right (by simpa using hi)] at h2
    rw [List.getElem?_replicate] at h2
    split at h2 <;> cases h2
  have ha:vs[i]?=some v:=by
   unfold start at h2
   rw [List.getElem?_append_left (by simpa using hi),List.getElem?_map] at h2
   cases e:vs[i]? with
   | none=>rw [e] at h2;cases h2
   | some a=>rw [e] at h2;cases h2;rfl
  obtain ⟨u,hu,rv⟩:=r.get ha
  have hp:ps[i]?=some y:=by
   rw [← S.pre,List.getElem?_take_of_lt (by omega)];exact h1
  have ndP:ps.Nodup:=by rw [← S.pre];exact S.nd.sublist (List.take_sublist _ _)
  refine ⟨u,rv,?_⟩
  rcases S.par y (List.mem_of_getElem? hp) with k | k
  ·exact .inl ⟨k,Yi ndP hp hu k⟩
  ·obtain ⟨c,e⟩:=Xx (n:=s.heap.objs.size + 1) k
   refine .inr ⟨.inl k,c,e,?_⟩
   have q:=x.cell y c e
   rw [Yj ndP hp hu (by show scope.names.lookup y≠_;rw [k];decide)] at q
   exact q
 ·exact e0.hok.fresh (Nat.le_of_lt (x.above y c (PySem.mem_of_lookup h)))
 ·unfold start
  show _=N.length
  rw [List.length_append,List.length_map,List.length_replicate]
  omega
theorem zbk {CX:CXT} {P:Program} {w:World} {K:PySem.W.Frag} {mg:Str→Option Value} {base:Heap} {k:Nat} {f:Addr} {name qual:Str} {params:Arguments} {body:List Stmt} {scope:Scope} {dV kV doc pm cdv ct oc:Value} {an od:Option Addr}
  {osl:Array (Option Value)} {N ps:List Str} {sp:Sp} (lk:K.lookup f=some ⟨oc,od,.func (PySem.W.fnOf name qual params body scope dV kV doc pm an cdv ct),osl⟩) (hcd:PySem.W.codeIn K cdv qual=true) (S:zM N ps scope)
  (len:∀ vs H Q E,sp vs H Q E→vs.length=ps.length)
  (hbody:∀ (A:Around) (outer:List Env) (s:Shared) (H:Hp) (vs:List V) (Q:VK) (E:XK),Room k (A.deeper (envOfC qual scope s.heap.objs.size f cdv))→sp vs H Q E →
   ∃ t,PSs (jJ CX P w K mg base N qual scope f cdv A outer s H E) body t∧t { nx:=fun _ H'=>Q .non H',rt:=Q } (start N vs) H) :
  FnOk P w K mg base CX (k + 1) f (PySem.W.fnOf name qual params body scope dV kV doc pm an cdv ct) ps sp:=by
 refine ⟨len,fun A outer s H args us vs Q E hr e0 hb r hsp=>?_⟩
 have hl:=len _ _ _ _ hsp
 have KX:K.In s.heap:=e0.mod.kin.keeps fun b o e=>(e0.bs b o e).1
 have lim:s.heap.NoLimit:=e0.mod.nolimit.keeps fun b o e=>(e0.bs b o e).1
 have hkind:∀ y∈ps.zip us,scope.names.lookup y.1=some .local∨(scope.names.lookup y.1=some .cell∧((cellsFrom (s.heap.objs.size + 1) scope.names []).lookup y.1).isSome=true):=fun ⟨n,v⟩ hy=>by
  rcases S.par n (List.of_mem_zip hy).1 with q | q
  ·exact .inl q
  ·exact .inr ⟨q,PySem.W.cellsFrom_some _ _ _ (.inl q)⟩
 refine codeAny_call_function hr.depth (KX _ _ lk) rfl S.co S.gen rfl (PySem.W.codeRec_of KX hcd) (hb _ _ _ _ ?_)
 refine wpAny_newFunctionEnv_cells S.kind hkind fun env he s1 x=>?_
 subst he
 refine ⟨lim.keeps x.toInCall.keep,codeAny_func ?_⟩
 obtain ⟨t,ht,hq⟩:=hbody A outer s H vs Q E (hr.deeper _) hsp
 have I:Inv (jJ CX P w K mg base N qual scope f cdv A outer s H E) [] (start N vs) H s1:=Yk S hr.hd e0 hl r x
 refine wpAny_mono (ht [] s1 (start N vs) H _ I hq) (fun fl s' hs=>?_) fun e s' hs=>hs
 have fin:∀ {σ':St} {H':Hp} {v:V} {u:Value},Inv (jJ CX P w K mg base N qual scope f cdv A outer s H E) [] σ' H' s'→RelV v u→Q v H'→CE outer P w H s Q u s' :=
  fun {σ' H' v u} J rv q=>⟨v,H',J.os,J.bare,J.base,J.hok,rv,q⟩
 cases fl with
 | ret u =>
  obtain ⟨v,σ',H',J,rv,q⟩:=hs
  exact fin J rv q
 | next =>
  obtain ⟨σ',H',J,q⟩:=hs
  exact fin (v:=V.non) (u:=Value.none) J rfl q
 | brk =>
  obtain ⟨_,_,_,q⟩:=hs
  exact False.elim q
 | cont =>
  obtain ⟨_,_,_,q⟩:=hs
  exact False.elim q
end L2
namespace L2
open PySem PySem.Spec PyProof.Rows
section
variable {X:Cx} {x:Str} {p pos:Pos} {e:Expr} {es:List Expr} {t:TA} {id T:String} {r:List V→Hp→VK→Prop}
def tCB (r:List V→Hp→VK→Prop) (t:TA):TE:=fun σ H Q=>t σ H fun vs H1=>r vs H1 Q
theorem yi (hc:vp X (.builtin id) r) (hg:Gl X x) (hm:X.mg x=none) (hv:bootBuiltins x=some (.builtin id)) (ha:PA X (e :: es) t) (hn:x≠"__name__":=by decide) (hdb:(x == ("__debug__":Str))=false:=by decide)
  (he:starEach (e :: es) X.env=(false,eval e X.env) :: starEach es X.env:=by rfl) (hpl:(backTo pos (starEach es X.env)).any (·.1)=false:=by rfl):PE X (.Call (.Name x p) (e :: es) [] pos) (tCB r t):=by
 intro pins s σ H Q I h
 refine wpAny_Call_Name_kw (YQ I hg hm hv ?_ hn hdb)
 exact PyProof.Rows.callWith_builtin1 (thn (ha pos pins s σ H _ I h) fun us s1 ⟨vs,H1,I1,r1,q1⟩=>hc pins s1 σ H1 vs us Q I1 r1 q1) he hpl
theorem yq (hc:vp X (.type T) r) (hg:Gl X x) (hm:X.mg x=none) (hv:bootBuiltins x=some (.type T)) (ha:PA X (e :: es) t) (hn:x≠"__name__":=by decide) (hdb:(x == ("__debug__":Str))=false:=by decide)
  (he:starEach (e :: es) X.env=(false,eval e X.env) :: starEach es X.env:=by rfl) (hpl:(backTo pos (starEach es X.env)).any (·.1)=false:=by rfl):PE X (.Call (.Name x p) (e :: es) [] pos) (tCB r t):=by
 intro pins s σ H Q I h
 refine wpAny_Call_Name_kw (YQ I hg hm hv ?_ hn hdb)
 exact PyProof.Rows.callWith_type1 (thn (ha pos pins s σ H _ I h) fun us s1 ⟨vs,H1,I1,r1,q1⟩=>hc pins s1 σ H1 vs us Q I1 r1 q1) he hpl
end
end L2
namespace HT
open PySem PyProof.Rows
def zbl:List Int→List Int→Bool
 | [],[]=>false
 | [],_ :: _=>true
 | _ :: _,[]=>false
 | x :: xs,y :: ys=>if x=y then zbl xs ys else decide (x < y)
theorem rcLt_int (A:Around) (s:Shared) (a:Int) (t:Tok) (c:Int) (u:Tok) (prog:Program) (w:World) (E:Value→Shared→Prop) (Q:Value→Shared→Prop) (h:Q (.bool (decide (a < c))) s) :
  wpAny (model prog w) A (richCompare .Lt (.int a t) (.int c u)) Q E s :=
 (PyProof.Rows.lt_int h:wpAny (model prog w) A (compareOp .Lt (.int a t) (.int c u)) Q E s)
section
open PySem.SeqAt
open PySem.AutoSeq1 (wpAny_loadPart')
open PySem.MeetsSeq PySem.MeetsSeq2 PySem.MeetsSeq3
end
section
variable {prog:Program} {w:World} {A:Around} {E:Value→Shared→Prop} {s:Shared}
def sIx (n d:Nat):Option Int→Nat
 | none=>d
 | some v=>if v < 0 then (v + (n:Int)).toNat else min v.toNat n
theorem sIx_none (n d:Nat):sIx n d none=d:=rfl
theorem sIx_nat (n d k:Nat):sIx n d (some (k:Int))=min k n:=by
 show (if (k:Int) < 0 then ((k:Int) + (n:Int)).toNat else min (k:Int).toNat n)=min k n
 rw [if_neg (by omega),Int.toNat_natCast]
theorem sIx_le (n d:Nat) (hd:d≤n) (o:Option Int):sIx n d o≤n:=by
 cases o with
 | none=>exact hd
 | some v =>
  show (if v < 0 then (v + (n:Int)).toNat else min v.toNat n)≤n
  by_cases hv:v < 0
  ·rw [if_pos hv];omega
  ·rw [if_neg hv];exact Nat.min_le_right _ _
theorem Vm (v:Int) (n d:Nat):(if v < 0 then max (v + (n:Int)) 0 else min v (n:Int))=((sIx n d (some v):Nat):Int):=by
 show (if v < 0 then max (v + (n:Int)) 0 else min v (n:Int))=(((if v < 0 then (v + (n:Int)).toNat else min v.toNat n):Nat):Int)
 by_cases hv:v < 0
 ·simp only [if_pos hv];omega
 ·simp only [if_neg hv];omega
theorem WO (lo hi:Option Int) (n:Nat):Builtin.Slice.sliceAdjust lo hi 1 (n:Int)=(((sIx n 0 lo:Nat):Int),((sIx n n hi:Nat):Int)):=by
 have h1:¬ ((1:Int) < 0):=by omega
 unfold Builtin.Slice.sliceAdjust
 simp only [h1,if_false]
 refine Prod.ext ?_ ?_
 ·cases lo with
  | none=>rfl
  | some v=>exact Vm v n 0
 ·cases hi with
  | none=>rfl
  | some v=>exact Vm v n n
theorem WP (i j:Nat):Builtin.Slice.slicePlaces (i:Int) (j:Int) 1=j - i:=by
 unfold Builtin.Slice.slicePlaces
 have h1:(1:Int) > 0:=by omega
 simp only [h1,if_true,Int.ediv_one]
 split <;> omega
theorem qO {v:Value} {o:Option Int} {Q:Option Int→Shared→Prop} (p:IsPart v o) (h:Q o s):wpAny (model prog w) A (Builtin.Slice.slicePartIndex v) Q E s:=by
 cases p with
 | none=>exact slicePart_none h
 | int i t=>exact slicePart_int h
theorem vq {sl:Addr} {vl vu:Value} {lo hi:Option Int} {n:Nat} {Q:Int × Int × Nat→Shared→Prop} (hs:s.heap.IsSliceOf sl vl vu .none) (pl:IsPart vl lo) (pu:IsPart vu hi)
  (h:Q (((sIx n 0 lo:Nat):Int),1,sIx n n hi - sIx n 0 lo) s):wpAny (model prog w) A (Builtin.Slice.sliceApplied (.ref sl) (pure (n:Int))) Q E s:=by
 obtain ⟨os,hos,hcs,hds⟩:=id hs
 unfold Builtin.Slice.sliceApplied Builtin.Slice.sliceFields
 refine wpAny_bind (wpAny_bind (wpAny_field hos hds (x:=vl) rfl (wpAny_bind (wpAny_field hos hds (x:=vu) rfl (wpAny_bind (wpAny_field hos hds (x:=.none) rfl (wpAny_pure ?_)))))))
 refine wpAny_bind (slicePart_none ?_)
 show wpAny _ _ (if ((1:Int) == 0)=true then _ else _) _ _ s
 rw [if_neg (by decide)]
 refine wpAny_bind (qO pl (wpAny_bind (qO pu (wpAny_bind (wpAny_pure ?_)))))
 show wpAny _ _ (match Builtin.Slice.sliceAdjust lo hi 1 (n:Int) with | (lo,hi)=>pure (lo,(1:Int),Builtin.Slice.slicePlaces lo hi 1)) _ _ s
 rw [WO lo hi n]
 show wpAny _ _ (pure (((sIx n 0 lo:Nat):Int),(1:Int),Builtin.Slice.slicePlaces ((sIx n 0 lo:Nat):Int) ((sIx n n hi:Nat):Int) 1)) _ _ s
 rw [WP]
 exact wpAny_pure h
theorem JT (xs:Array Value) (i k:Nat):((List.range k).filterMap fun (m:Nat)=>xs[((i:Int) + (m:Int) * 1).toNat]?).toArray=((xs.toList.drop i).take k).toArray:=by
 have e:(fun (m:Nat)=>xs[((i:Int) + (m:Int) * 1).toNat]?)=fun m=>xs[i + m]?:=by
  funext m
  have:((i:Int) + (m:Int) * 1).toNat=i + m:=by omega
  rw [this]
 rw [e]
 have:=pick_run xs i k
 rw [List.filterMap_map] at this
 have e2:((fun x=>xs[x]?) ∘ fun x=>i + x)=fun m=>xs[i + m]?:=rfl
 rw [e2] at this
 rw [this]
theorem getItem_tuple_cut {t sl:Addr} {items:Array Value} {vl vu:Value} {lo hi:Option Int} {Q:Value→Shared→Prop} (ht:IsTup s.heap t items) (hs:s.heap.IsSliceOf sl vl vu .none) (pl:IsPart vl lo) (pu:IsPart vu hi)
  (hw:¬ (sIx items.size 0 lo=0∧sIx items.size items.size hi=items.size))
  (h:Q (.ref s.heap.objs.size) { s with heap:=s.heap.push { cls:=.type "tuple",data:=.seq ((items.toList.drop (sIx items.size 0 lo)).take (sIx items.size items.size hi - sIx items.size 0 lo)).toArray } })
  (hsz:items.size≤sizeLine):wpAny (model prog w) A (getItem (.ref t) (.ref sl)) Q E s:=by
 have htake:sizeOk (.seq ((items.toList.drop (sIx items.size 0 lo)).take (sIx items.size items.size hi - sIx items.size 0 lo)).toArray):=by
  show ((items.toList.drop (sIx items.size 0 lo)).take (sIx items.size items.size hi - sIx items.size 0 lo)).toArray.size≤sizeLine
  rw [List.size_toArray,List.length_take,List.length_drop,Array.length_toList]
  omega
 have hj:sIx items.size items.size hi≤items.size:=sIx_le _ _ (Nat.le_refl _) hi
 obtain ⟨os,hos,hcs,hds⟩:=id hs
 have hTs:s.TypeIs (.ref sl) "slice":=⟨os,hos,hcs⟩
 unfold getItem
 try with_reducible refine wpAny_holding ?_
 first | refine wpAny_bind (wpAny_pure ?_) | skip
 refine wpAny_bind (wpAny_sequenceKey ht.typeIs (by decide) ?_)
 refine wpAny_bind (wpAny_callSpecial?_slot (name:=Str.ofString "__getitem__") ht.typeIs PyProof.Rows.slot_tuple_getitem
  (wpAny_call_entry PyProof.Rows.slot_tuple_getitem ht.typeIs entry_tuple_getitem ?_ (args_tuple_getitem _ _)))
 show wpAny _ _ (Builtin.Tuple.tupleItemsOf (.ref t) >>= _) _ _ s
 refine wpAny_bind (tupleItemsOf_ ht ?_)
 refine wpAny_bind (wpAny_typeOf hTs ?_)
 rw [if_pos (by decide)]
 refine wpAny_bind (vq hs pl pu ?_)
 have hno:¬ ((((sIx items.size 0 lo:Nat):Int) == 0 && (1:Int) == 1 && (sIx items.size items.size hi - sIx items.size 0 lo) == items.size)=true):=by
  intro q
  rw [Bool.and_eq_true,Bool.and_eq_true] at q
  have q1:((sIx items.size 0 lo:Nat):Int)=0:=eq_of_beq q.1.1
  have q2:sIx items.size items.size hi - sIx items.size 0 lo=items.size:=eq_of_beq q.2
  exact hw ⟨by omega,by omega⟩
 show wpAny _ _ (if (((sIx items.size 0 lo:Nat):Int) == 0 && (1:Int) == 1 && (sIx items.size items.size hi - sIx items.size 0 lo) == items.size)=true then _ else _) _ _ s
 rw [if_neg hno,JT]
 first
  | exact wpAny_bind (m:=Builtin.Tuple.tupleExact _) (wpAny_newObj_type (wpAny_pure ⟨_,rfl,wpAny_pure h⟩) htake)
  | exact wpAny_bind (m:=Builtin.Tuple.tupleExact _) (wpAny_newObj_type (wpAny_bind (wpAny_pure (wpAny_pure ⟨_,rfl,wpAny_pure h⟩))) htake)
  | exact wpAny_bind (wpAny_bind (m:=Builtin.Tuple.tupleExact _) (wpAny_newObj_type (wpAny_pure (wpAny_pure ⟨_,rfl,wpAny_pure h⟩)) htake))
  | exact wpAny_bind (wpAny_bind (m:=Builtin.Tuple.tupleExact _) (wpAny_newObj_type (wpAny_pure ⟨_,rfl,wpAny_pure h⟩) htake))
end
end HT
namespace L2
open PySem PySem.Spec PyProof.Rows
abbrev TO:=St→Hp→(Option Int→Hp→Prop)→Prop
def PO (X:Cx) (e:Option Expr) (t:TO):Prop :=
 ∀ (pins:List (Addr × Obj)) (s:Shared) (σ:St) (H:Hp) (Q:Option Int→Hp→Prop),Inv X pins σ H s→t σ H Q →
  wpAny (model X.prog X.w) X.A (evalPart e X.env) (fun u s'=>∃ o H',Inv X pins σ H' s'∧IsPart u o∧Q o H') X.xe s
def yW:TO:=fun _ H Q=>Q none H
def xK (t:TE):TO:=fun σ H Q=>t σ H fun x H1=>∃ i,x=.int i∧Q (some i) H1
section
variable {X:Cx} {e:Expr} {te:TE} {lo hi:Option Expr} {tl th:TO} {pos p2:Pos}
theorem kh:PO X none yW:=by
 intro pins s σ H Q I h
 rw [evalPart_none]
 exact wpAny_pure ⟨none,H,I,.none,h⟩
theorem vK (h:PE X e te):PO X (some e) (xK te):=by
 intro pins s σ H Q I hw
 rw [evalPart_some]
 refine thn (h pins s σ H _ I hw) fun u s1 ⟨x,H1,I1,r1,q1⟩=>?_
 obtain ⟨i,rfl,q⟩:=q1
 obtain ⟨t,rfl⟩:=r1
 exact ⟨some i,H1,I1,.int i t,q⟩
def SlR (X:Cx) (r:V→Option Int→Option Int→Hp→VK→Prop):Prop :=
 ∀ (pins:List (Addr × Obj)) (s:Shared) (σ:St) (H:Hp) (x:V) (v vl vu:Value) (lo hi:Option Int) (sl:Addr) (Q:VK),Inv X pins σ H s→RelV x v→s.heap.IsSliceOf sl vl vu .none→IsPart vl lo→IsPart vu hi→r x lo hi H Q →
  ∃ T id,typeLookup (.type T) "__getitem__"=pure (some (.builtin id))∧s.TypeIs v T∧wpAny (model X.prog X.w) X.A (getItem v (.ref sl)) (EP X pins σ Q) X.xe s
def tSl (r:V→Option Int→Option Int→Hp→VK→Prop) (te:TE) (tl th:TO):TE:=fun σ H Q=>te σ H fun x H1=>tl σ H1 fun l H2=>th σ H2 fun u H3=>r x l u H3 Q
theorem vt {r:V→Option Int→Option Int→Hp→VK→Prop} (hr:SlR X r) (he:PE X e te) (hl:PO X lo tl) (hu:PO X hi th):PE X (.Subscript e (.Slice lo hi none p2) pos) (tSl r te tl th):=by
 intro pins s σ H Q I h
 refine Subscript_ (thn (he pins s σ H _ I h) fun v s1 ⟨x,H1,I1,r1,q1⟩=>?_)
 refine wpAny_Slice (thn (hl pins s1 σ H1 _ I1 q1) fun vl s2 ⟨l,H2,I2,pl,q2⟩=>thn (hu pins s2 σ H2 _ I2 q2) fun vu s3 ⟨u,H3,I3,pu,q3⟩=>?_)
 rw [evalPart_none]
 refine wpAny_pure ?_
 have I4:Inv X pins σ H3 { s3 with heap:=s3.heap.push { cls:=.type "slice",data:=.fields #[vl,vu,.none] } }:=I3.kept (t':=s3.toks) fun b ob q=>Heap.get?_push_of_some _ q
 obtain ⟨T,id,hT,ht,hg⟩:=hr pins { s3 with heap:=s3.heap.push { cls:=.type "slice",data:=.fields #[vl,vu,.none] } } σ H3 x v vl vu l u s3.heap.objs.size Q I4 r1 (Heap.IsSliceOf.new ..) pl pu q3
 show wpAny (model X.prog X.w) X.A (subscriptTail e (.Slice lo hi none p2) v (.ref s3.heap.objs.size)) (EP X pins σ Q) X.xe { s3 with heap:=s3.heap.push { cls:=.type "slice",data:=.fields #[vl,vu,.none] } }
 exact tail_any (ops:=[.ref s3.heap.objs.size,v]) ht hT hg (by with_unfolding_all rfl)
def ki (xs:List V) (lo hi:Option Int):List V:=(xs.drop (HT.sIx xs.length 0 lo)).take (HT.sIx xs.length xs.length hi - HT.sIx xs.length 0 lo)
theorem qg (xs:List V) (lo hi:Option Int):(ki xs lo hi).length≤xs.length:=by
 unfold ki
 rw [List.length_take,List.length_drop]
 omega
def zbL (K:PySem.W.Frag):V→Option Int→Option Int→Hp→VK→Prop:=fun x lo hi H Q=>∃ a xs,x=.ref a∧SqT K H a xs ∧
 ¬ (HT.sIx xs.length 0 lo=0∧HT.sIx xs.length xs.length hi=xs.length)∧∀ p,H p=none→Q (.ref p) (upd H p (.tup (ki xs lo hi)))
theorem zaD:SlR X (zbL X.K):=by
 intro pins s σ H x v vl vu lo hi sl Q I rx hs pl pu h
 obtain ⟨a,xs,rfl,hx,hw,q⟩:=h
 cases rx
 obtain ⟨its,r,ht,hz⟩:=I.tuple hx
 have hlen:its.toArray.size=xs.length:=by rw [List.size_toArray];exact r.length.symm
 refine ⟨"tuple",_,PyProof.Rows.slot_tuple_getitem.lookup,ht.typeIs,?_⟩
 refine HT.getItem_tuple_cut ht hs pl pu (by rw [hlen];exact hw) ?_ (by rw [hlen];exact hz)
 rw [hlen]
 refine ⟨.ref s.heap.objs.size,_,I.laid (t':=s.toks) (o:=.tup (ki xs lo hi)) (fun b ob q=>Heap.get?_push_of_some _ q) (Nat.le_refl _) ?_,rfl,q _ (I.hok.fresh (Nat.le_refl _))⟩
 exact ⟨Nat.le_trans (qg xs lo hi) hz,_,(r.drop (HT.sIx xs.length 0 lo)).take (HT.sIx xs.length xs.length hi - HT.sIx xs.length 0 lo),IsTup.new _ _⟩
def zcd (K:PySem.W.Frag):R2:=fun x y H Q=>∃ a b xs ys,x=.ref a∧y=.ref b∧SqT K H a xs∧SqT K H b ys∧xs≠[]∧xs.length + ys.length≤sizeLine ∧
 (ys=[]→Q (.ref a) H)∧(ys≠[]→∀ p,H p=none→Q (.ref p) (upd H p (.tup (xs ++ ys))))
end
end L2
namespace L2
open PySem PySem.Spec PyProof.Rows
def ixN (n:Nat) (i:Int):Option Nat:=if 0≤i then (if i < n then some i.toNat else none) else if -(n:Int)≤i then some (i + n).toNat else none
def atI {α:Type} (xs:List α) (i:Int):Option α:=(ixN xs.length i).bind fun j=>xs[j]?
theorem Qu {n:Nat} {i:Int} {j:Nat} (h:ixN n i=some j):seqIndex? i n=some j∧j < n∧-(n:Int)≤i∧i < n:=by
 unfold ixN at h
 by_cases h0:0≤i
 ·rw [if_pos h0] at h
  by_cases h1:i < n
  ·rw [if_pos h1] at h
   have e:i.toNat=j:=Option.some.inj h
   exact ⟨by rw [seqIndex_of h0 h1,e],by omega,by omega,h1⟩
  ·rw [if_neg h1] at h;cases h
 ·rw [if_neg h0] at h
  by_cases h1:-(n:Int)≤i
  ·rw [if_pos h1] at h
   have e:(i + n).toNat=j:=Option.some.inj h
   exact ⟨by rw [seqIndex_neg (by omega) h1,e],by omega,h1,by omega⟩
  ·rw [if_neg h1] at h;cases h
theorem YS {α:Type} {xs:List α} {i:Int} {v:α} (h:atI xs i=some v):∃ j,seqIndex? i xs.length=some j∧xs[j]?=some v∧j < xs.length∧-(xs.length:Int)≤i∧i < xs.length:=by
 unfold atI at h
 cases e:ixN xs.length i with
 | none=>rw [e] at h;cases h
 | some j =>
  rw [e] at h
  obtain ⟨h1,h2,h3,h4⟩:=Qu e
  exact ⟨j,h1,h,h2,h3,h4⟩
def Qv (b:Expr):Prop:=∀ o i,subscripted b false o i=operate [o,i] (getItem o i)
def IxR (X:Cx) (r:R2):Prop :=
 ∀ (value slice:Expr) (pins:List (Addr × Obj)) (s:Shared) (σ:St) (H:Hp) (x y:V) (v u:Value) (Q:VK),Inv X pins σ H s→RelV x v→RelV y u→r x y H Q →
  subscripted slice false v u=operate [v,u] (getItem v u)→wpAny (model X.prog X.w) X.A (subscriptTail value slice v u) (EP X pins σ Q) X.xe s
def MtR (X:Cx) (id:String) (r:V→List V→Hp→VK→Prop):Prop :=
 ∀ (pins:List (Addr × Obj)) (s:Shared) (σ:St) (H:Hp) (x:V) (xs:List V) (v:Value) (us:List Value) (Q:VK),Inv X pins σ H s→RelV x v→Vals xs us→r x xs H Q →
  wpAny (model X.prog X.w) X.A (call (.builtin id) (v :: us)) (EP X pins σ Q) X.xe s
section
variable {X:Cx} {a b:Expr} {ta tb:TE} {pos:Pos}
theorem zO {r:R2} (hr:IxR X r) (ha:PE X a ta) (hb:PE X b tb) (hs:Qv b):PE X (.Subscript a b pos) (tOp r ta tb):=by
 intro pins s σ H Q I h
 exact Subscript_ (zaC ha hb I h fun v u s2 x y H2 I2 rx ry q=>hr a b pins s2 σ H2 x y v u Q I2 rx ry q (hs _ _))
def yD (K:PySem.W.Frag):R2:=fun x y H Q=>∃ p xs i v,x=.ref p∧y=.int i∧SqL K H p xs∧atI xs i=some v∧Q v H
def zV (K:PySem.W.Frag):R2:=fun x y H Q=>∃ p xs i v,x=.ref p∧y=.int i∧SqT K H p xs∧atI xs i=some v∧Q v H
def YT:R2:=fun x y H Q=>∃ z i c,x=.str z∧y=.int i∧z.length≤sizeLine∧atI z.cps.toList i=some c∧Q (.str ⟨#[c]⟩) H
theorem yo:IxR X (yD X.K):=by
 intro value slice pins s σ H x y v u Q I rx ry h hs
 obtain ⟨p,xs,i,z,rfl,rfl,hq,he,q⟩:=h
 cases rx
 obtain ⟨t,rfl⟩:=ry
 obtain ⟨its,r,pl,hz⟩:=I.list hq
 obtain ⟨j,h1,h2,h3,h4,h5⟩:=YS he
 obtain ⟨w,ew,rw'⟩:=r.get h2
 have hl:=r.length
 have hn:=YR
 have fin:EP X pins σ Q w s:=⟨z,H,I,rw',q⟩
 by_cases h0:0≤i
 ·have hj:i.toNat=j:=by
   rw [seqIndex_of h0 h5] at h1
   exact Option.some.inj h1
  exact item_listR pl.isList h0 (by omega) (by rw [hj];simpa using ew) fin hs
 ·have hj:(i + (its.toArray.size:Int)).toNat=j:=by
   rw [seqIndex_neg (by omega) h4] at h1
   rw [List.size_toArray,← hl]
   exact Option.some.inj h1
  exact subscriptTail_builtinR (x:=w) pl.isList.typeIs slot_list_getitem.lookup
   (wpAny_getItem_list_neg (Q:=fun r s'=>r=w∧EP X pins σ Q r s') pl.isList (by omega) (by rw [List.size_toArray] <;> omega) (by omega) (by rw [hj];simpa using ew) ⟨rfl,fin⟩) hs
theorem zZ:IxR X (zV X.K):=by
 intro value slice pins s σ H x y v u Q I rx ry h hs
 obtain ⟨p,xs,i,z,rfl,rfl,hq,he,q⟩:=h
 cases rx
 obtain ⟨t,rfl⟩:=ry
 obtain ⟨its,r,pl,hz⟩:=I.tuple hq
 obtain ⟨j,h1,h2,h3,h4,h5⟩:=YS he
 obtain ⟨w,ew,rw'⟩:=r.get h2
 have hl:=r.length
 have hn:=YR
 have fin:EP X pins σ Q w s:=⟨z,H,I,rw',q⟩
 exact subscriptTail_builtinR (x:=w) pl.typeIs slot_tuple_getitem.lookup
  (getItem_tuple (j:=j) (Q:=fun r s'=>r=w∧EP X pins σ Q r s') pl (by omega) (by omega) (by rw [List.size_toArray,← hl];exact h1) (by simpa using ew) ⟨rfl,fin⟩) hs
theorem JU:IxR X YT:=by
 intro value slice pins s σ H x y v u Q I rx ry h hs
 obtain ⟨z,i,c,rfl,rfl,hz,he,q⟩:=h
 obtain ⟨t,rfl⟩:=rx
 obtain ⟨t',rfl⟩:=ry
 obtain ⟨j,h1,h2,h3,h4,h5⟩:=YS he
 have hl:z.cps.toList.length=z.length:=by simp [Str.length]
 rw [hl] at h1 h4 h5
 have hn:=YR
 exact tail_any (typeIs_str s z t) slot_str_getitem.lookup (getItem_str (c:=c) (by
  have e1:decide (i < -(2 ^ 63:Int))=false:=decide_eq_false (by omega)
  have e2:decide (i ≥ 2 ^ 63)=false:=decide_eq_false (by omega)
  rw [e1,e2,Bool.or_false]) (by rw [h1];simpa using h2) ⟨.str ⟨#[c]⟩,H,I.tok _,⟨_,rfl⟩,q⟩) hs
theorem YU (lo hi:Option Int) (n:Nat):(sliceBounds lo hi none n).1=((HT.sIx n 0 lo:Nat):Int)∧(sliceBounds lo hi none n).2.1=((HT.sIx n n hi:Nat):Int)∧(sliceBounds lo hi none n).2.2=1:=by
 refine ⟨?_,?_,rfl⟩
 ·cases lo with
  | none=>simp [sliceBounds,HT.sIx]
  | some i =>
   simp only [sliceBounds,HT.sIx,Option.getD_none,show (1:Int) > 0 by decide,if_true]
   by_cases h:i < 0
   ·simp only [h,if_true] <;> omega
   ·simp only [h,if_false] <;> omega
 ·cases hi with
  | none=>simp [sliceBounds,HT.sIx]
  | some i =>
   simp only [sliceBounds,HT.sIx,Option.getD_none,show (1:Int) > 0 by decide,if_true]
   by_cases h:i < 0
   ·simp only [h,if_true] <;> omega
   ·simp only [h,if_false] <;> omega
theorem ZX (its:List Value) (lo hi:Option Int):slicePick its.toArray lo hi none=((its.drop (HT.sIx its.length 0 lo)).take (HT.sIx its.length its.length hi - HT.sIx its.length 0 lo)).toArray:=by
 obtain ⟨h1,h2,h3⟩:=YU lo hi its.toArray.size
 unfold slicePick
 rw [h1,h2,h3]
 simp only [sliceRange_one,pick_run,List.size_toArray] <;> rfl
def JV (K:PySem.W.Frag):V→Option Int→Option Int→Hp→VK→Prop:=fun x lo hi H Q=>∃ a xs,x=.ref a∧SqL K H a xs∧∀ p,H p=none→Q (.ref p) (upd H p (.lst (ki xs lo hi)))
theorem Qw:SlR X (JV X.K):=by
 intro pins s σ H x v vl vu lo hi sl Q I rx hs pl pu h
 obtain ⟨a,xs,rfl,hx,q⟩:=h
 cases rx
 obtain ⟨its,r,ht,hz⟩:=I.list hx
 have hlen:=r.length
 refine ⟨"list",_,slot_list_getitem.lookup,ht.isList.typeIs,?_⟩
 refine wpAny_getItem_list_slice ht.isList hs pl pu .none (by simp) ?_ (by rw [List.size_toArray] <;> omega)
 rw [ZX,← hlen]
 refine ⟨.ref s.heap.objs.size,_,I.laid (t':=s.toks) (o:=.lst (ki xs lo hi)) (fun b ob q=>Heap.get?_push_of_some _ q) (Nat.le_refl _) ?_,rfl,q _ (I.hok.fresh (Nat.le_refl _))⟩
 exact ⟨Nat.le_trans (qg xs lo hi) hz,_,0,(r.drop (HT.sIx xs.length 0 lo)).take (HT.sIx xs.length xs.length hi - HT.sIx xs.length 0 lo),Heap.get?_push_size _ rfl⟩
def kj:V→Bool
 | .non=>true
 | .bl _=>true
 | .int _=>true
 | .str _=>true
 | _=>false
def eqV:V→V→Bool
 | .non,.non=>true
 | .bl a,.bl b=>a == b
 | .bl a,.int b=>(if a then 1 else 0) == b
 | .int a,.bl b=>a == (if b then 1 else 0)
 | .int a,.int b=>a == b
 | .str a,.str b=>a == b
 | _,_=>false
theorem zaE {A:Around} {s:Shared} {y x:V} {u v:Value} (ry:RelV y u) (rx:RelV x v) (fy:kj y=true) (fx:kj x=true):SeqAt.EqAt A s u v (eqV y x):=by
 cases y with
 | non =>
  cases ry
  cases x with
  | non=>cases rx;exact SeqAt.EqAt.same _
  | bl b=>cases rx;exact SeqAt.EqAt.none_bool b
  | int b=>obtain ⟨t,rfl⟩:=rx;exact SeqAt.EqAt.none_int b t
  | str b=>obtain ⟨t,rfl⟩:=rx;exact SeqAt.EqAt.none_str b t
  | _=>exact absurd (show false=true from fx) Bool.false_ne_true
 | bl a =>
  cases ry
  cases x with
  | non=>cases rx;exact SeqAt.EqAt.bool_none a
  | bl b=>cases rx;exact SeqAt.EqAt.bool_bool a b
  | int b=>obtain ⟨t,rfl⟩:=rx;exact SeqAt.EqAt.bool_int a b t
  | str b=>obtain ⟨t,rfl⟩:=rx;exact SeqAt.EqAt.bool_str a b t
  | _=>exact absurd (show false=true from fx) Bool.false_ne_true
 | int a =>
  obtain ⟨t',rfl⟩:=ry
  cases x with
  | non=>cases rx;exact SeqAt.EqAt.int_none a t'
  | bl b=>cases rx;exact SeqAt.EqAt.int_bool a t' b
  | int b=>obtain ⟨t,rfl⟩:=rx;exact SeqAt.EqAt.int_int a t' b t
  | str b=>obtain ⟨t,rfl⟩:=rx;exact SeqAt.EqAt.int_str a t' b t
  | _=>exact absurd (show false=true from fx) Bool.false_ne_true
 | str a =>
  obtain ⟨t',rfl⟩:=ry
  cases x with
  | non=>cases rx;exact SeqAt.EqAt.str_none a t'
  | bl b=>cases rx;exact SeqAt.EqAt.str_bool a t' b
  | int b=>obtain ⟨t,rfl⟩:=rx;exact SeqAt.EqAt.str_int a t' b t
  | str b=>obtain ⟨t,rfl⟩:=rx;exact SeqAt.EqAt.str_str a t' b t
  | _=>exact absurd (show false=true from fx) Bool.false_ne_true
 | _=>exact absurd (show false=true from fy) Bool.false_ne_true
def eqU (x:V) (u:Value):Bool:=match u with
 | .none=>eqV .non x
 | .bool b=>eqV (.bl b) x
 | .int i _=>eqV (.int i) x
 | .str z _=>eqV (.str z) x
 | _=>false
theorem JW {x y:V} {u:Value} (r:RelV y u) (f:kj y=true):eqU x u=eqV y x:=by
 cases y with
 | non=>cases r;rfl
 | bl b=>cases r;rfl
 | int i=>obtain ⟨t,rfl⟩:=r;rfl
 | str z=>obtain ⟨t,rfl⟩:=r;rfl
 | _=>exact absurd (show false=true from f) Bool.false_ne_true
theorem YV {x:V}:∀ {xs:List V} {us:List Value},Vals xs us→xs.all kj=true→us.any (eqU x)=xs.any fun y=>eqV y x
 | _,_,.nil,_=>rfl
 | y :: xs,u :: us,.cons r t,f=>by
  rw [List.all_cons,Bool.and_eq_true] at f
  rw [List.any_cons,List.any_cons,JW r f.1,YV t f.2]
theorem qP {A:Around} {s:Shared} {x:V} {v:Value} (rx:RelV x v) (fx:kj x=true):∀ {xs:List V} {us:List Value},Vals xs us→xs.all kj=true→∀ u∈us,SeqAt.EqAt A s u v (eqU x u)
 | _,_,.nil,_=>fun u hu=>by cases hu
 | y :: xs,u :: us,.cons r t,f=>fun u' hu=>by
  rw [List.all_cons,Bool.and_eq_true] at f
  rcases List.mem_cons.mp hu with rfl | hu
  ·rw [JW r f.1];exact zaE r rx f.1 fx
  ·exact qP rx fx t f.2 u' hu
def inV (x:V) (xs:List V):Bool:=xs.any fun y=>eqV y x
def rIn (K:PySem.W.Frag) (neg:Bool):R2:=fun x y H Q=>∃ p xs,y=.ref p∧(SqL K H p xs∨SqT K H p xs)∧kj x=true∧xs.all kj=true∧Q (.bl (if neg then !inV x xs else inV x xs)) H
theorem Jg:OpR X (compareOp .In) (rIn X.K false):=by
 intro pins s σ H x y v u Q I rx ry h
 obtain ⟨p,xs,rfl,hq,fx,fs,q⟩:=h
 cases ry
 rcases hq with hq | hq
 ·obtain ⟨its,r,pl,hz⟩:=I.list hq
  refine SeqAt.in_listAt (eqU x) pl.isList (fun w hw=>qP rx fx r fs w (by simpa using hw)) ⟨.bl _,H,I,rfl,?_⟩
  rw [show its.toArray.any (eqU x)=its.any (eqU x) by simp,YV r fs]
  exact q
 ·obtain ⟨its,r,pl,hz⟩:=I.tuple hq
  refine SeqAt.in_tupleAt (eqU x) pl (fun w hw=>qP rx fx r fs w (by simpa using hw)) ⟨.bl _,H,I,rfl,?_⟩
  rw [show its.toArray.any (eqU x)=its.any (eqU x) by simp,YV r fs]
  exact q
theorem vL:vp X (.type "list") (fun xs H Q=>∃ p ys,xs=[.ref p]∧(SqL X.K H p ys∨SqT X.K H p ys)∧∀ l,H l=none→Q (.ref l) (upd H l (.lst ys))):=by
 intro pins s σ H xs us Q I r h
 obtain ⟨p,ys,rfl,hq,q⟩:=h
 obtain ⟨u,rfl,rx⟩:=kc r
 cases rx
 have fin:∀ (its:List Value),Vals ys its→ys.length≤sizeLine→∀ (h':Heap) (c':Nat),(∀ b o',s.heap.get? b=some o'→h'.get? b=some o') →
   h'.get? s.heap.objs.size=some { cls:=.type "list",dict:=none,data:=.seq its.toArray c',slots:=#[] }→EP X pins σ Q (.ref s.heap.objs.size) { s with heap:=h' }:=fun its r' hz h' c' kp e =>
  ⟨.ref s.heap.objs.size,_,I.laid (t':=s.toks) kp (Nat.le_refl _) (show ObjOk X.prog X.w _ h' _ (.lst ys) from ⟨hz,its,c',r',e⟩),rfl,q _ (I.hok.fresh (Nat.le_refl _))⟩
 rcases hq with hq | hq
 ·obtain ⟨its,r',pl,hz⟩:=I.list hq
  have hlen:=r'.length
  obtain ⟨o,ho,hc,n,hd⟩:=pl.isList
  exact call_list_seq p (.inl rfl) ho hc hd (fun h' c' kp e=>fin its r' hz h' c' kp e) (by simp only [List.size_toArray] <;> omega)
 ·obtain ⟨its,r',pl,hz⟩:=I.tuple hq
  have hlen:=r'.length
  obtain ⟨o,ho,hc,n,hd⟩:=pl
  exact call_list_seq p (.inr rfl) ho hc hd (fun h' c' kp e=>fin its r' hz h' c' kp e) (by simp only [List.size_toArray] <;> omega)
theorem jL:vp X (.type "tuple") (fun xs H Q=>∃ p ys,xs=[.ref p]∧((SqL X.K H p ys∧∀ l,H l=none→Q (.ref l) (upd H l (.tup ys)))∨(SqT X.K H p ys∧Q (.ref p) H))):=by
 intro pins s σ H xs us Q I r h
 obtain ⟨p,ys,rfl,h⟩:=h
 obtain ⟨u,rfl,rx⟩:=kc r
 cases rx
 rcases h with ⟨hq,q⟩ | ⟨hq,q⟩
 ·obtain ⟨its,r',pl,hz⟩:=I.list hq
  have hlen:=r'.length
  refine call_tuple_list pl.isList (fun h' kp=>?_) (by simp only [List.size_toArray] <;> omega)
  have I1:Inv X pins σ H { s with heap:=h' }:=I.kept (t':=s.toks) kp
  have I2:Inv X pins σ (upd H h'.objs.size (.tup ys)) { s with heap:=h'.push { cls:=.type "tuple",data:=.seq its.toArray } } :=
   I1.laid (t':=s.toks) (fun b o e=>Heap.get?_push_of_some _ e) (Nat.le_refl _) (show ObjOk X.prog X.w _ _ _ (.tup ys) from ⟨hz,its,r',IsTup.new _ _⟩)
  exact ⟨.ref h'.objs.size,_,I2,rfl,q _ (I1.hok.fresh (Nat.le_refl _))⟩
 ·obtain ⟨its,r',pl,hz⟩:=I.tuple hq
  exact call_tuple_same pl ⟨.ref p,H,I,rfl,q⟩
def tyV (K:PySem.W.Frag) (T:String) (x:V) (H:Hp):Prop:=match x with
 | .str _=>T="str"
 | .int _=>T="int"
 | .ref p=>(T="list"∧∃ xs,SqL K H p xs)∨(T="tuple"∧∃ o,K.lookup p=some o∧o.cls=.type "tuple"∧o.dict=none) ∨
   (T="dict"∧((∃ kvs,H p=some (.dK kvs))∨∃ kvs,H p=some (.dT kvs)))∨(T="set"∧∃ S n,H p=some (.set S n))
 | _=>False
theorem JX {pins:List (Addr × Obj)} {σ:St} {H:Hp} {s:Shared} {T:String} {x:V} {v:Value} (I:Inv X pins σ H s) (r:RelV x v) (ty:tyV X.K T x H) :
  s.TypeIs v T∧∀ a,v=.ref a→∃ ob,s.heap.get? a=some ob∧ob.dict=none:=by
 cases x with
 | str z =>
  obtain ⟨t,rfl⟩:=r
  cases (show T="str" from ty)
  exact ⟨typeIs_str s z t,fun _ e=>nomatch e⟩
 | int i =>
  obtain ⟨t,rfl⟩:=r
  cases (show T="int" from ty)
  exact ⟨typeIs_int s i t,fun _ e=>nomatch e⟩
 | ref p =>
  cases r
  rcases ty with ⟨rfl,xs,hq⟩ | ⟨rfl,o,hk,hc,hd⟩ | ⟨rfl,hk⟩ | ⟨rfl,S,n,hk⟩
  ·obtain ⟨its,_,pl,_⟩:=I.list hq
   refine ⟨pl.isList.typeIs,fun a e=>?_⟩
   cases e
   obtain ⟨o,n,e,c,hd,_⟩:=pl
   exact ⟨o,e,hd⟩
  ·refine ⟨⟨o,I.kIn p o hk,hc⟩,fun a e=>?_⟩
   cases e
   exact ⟨o,I.kIn _ o hk,hd⟩
  ·have z:∃ o,s.heap.get? p=some o∧o.ExactDict:=by
    rcases hk with ⟨kvs,hk⟩ | ⟨kvs,hk⟩
    ·obtain ⟨_,_,_,_,o,_,_,e,ex,_⟩:=I.hok p _ hk
     exact ⟨o,e,ex⟩
    ·obtain ⟨_,_,_,_,o,_,_,e,ex,_⟩:=I.hok p _ hk
     exact ⟨o,e,ex⟩
   obtain ⟨o,e,ex⟩:=z
   refine ⟨⟨o,e,ex.1⟩,fun a e2=>?_⟩
   cases e2
   exact ⟨o,e,ex.2.1⟩
  ·obtain ⟨o,_,_,_,e,ex,_⟩:=I.hok p _ hk
   refine ⟨⟨o,e,ex.1⟩,fun a e2=>?_⟩
   cases e2
   exact ⟨o,e,ex.2.1⟩
 | _=>exact False.elim ty
def WQ (K:PySem.W.Frag) (T:String) (r:V→List V→Hp→VK→Prop) (to:TE):TE:=fun σ H Q=>to σ H fun x H1=>tyV K T x H1∧r x [] H1 Q
def tBM (K:PySem.W.Frag) (T:String) (r:V→List V→Hp→VK→Prop) (to:TE) (t:TA):TE:=fun σ H Q=>to σ H fun x H1=>tyV K T x H1∧t σ H1 fun xs H2=>r x xs H2 Q
variable {o e:Expr} {es:List Expr} {to:TE} {t:TA} {name:Str} {apos cpos:Pos} {T id:String} {r:V→List V→Hp→VK→Prop}
theorem WR (pa:PlainAttrs T) (slot:Slot T name id) (hty:typeOf (.builtin id)=pure (.type "method_descriptor")) (hm:MtR X id r) (ho:PE X o to)
  (hbase:attributeBase o name X.env (eval o X.env)=eval o X.env:=by rfl) (hline:(apos.endLine == cpos.line)=true:=by rfl):PE X (.Call (.Attribute o name apos) [] [] cpos) (WQ X.K T r to):=by
 intro pins s σ H Q I h
 refine wpAny_Call_method0_late hbase hline (thn (ho pins s σ H _ I h) fun v s1 ⟨x,H1,I1,r1,ty,q1⟩=>?_)
 obtain ⟨h1,h2⟩:=JX I1 r1 ty
 exact ⟨T,id,pa,slot,hty,h1,h2,Calls.callWith_builtin rfl (PySem.evalArgs_none (hm pins s1 σ H1 x [] v [] Q I1 r1 .nil q1))⟩
theorem qQ (pa:PlainAttrs T) (slot:Slot T name id) (hty:typeOf (.builtin id)=pure (.type "method_descriptor")) (hm:MtR X id r) (ho:PE X o to) (ha:PA X (e :: es) t)
  (hbase:attributeBase o name X.env (eval o X.env)=eval o X.env:=by rfl)
  (hfew:((backTo cpos (starEach (e :: es) X.env)).all (fun x=>!x.1) && (backToKw cpos (keywordEach [] X.env)).all (fun x=>x.1.isSome)
   && decide ((e :: es).length + ([]:List Keyword).length + (if ([]:List Keyword).isEmpty then 0 else 1) < 30))=true:=by rfl)
  (hline:(apos.endLine == cpos.line)=true:=by rfl) (hs:starEach (e :: es) X.env=(false,eval e X.env) :: starEach es X.env:=by rfl) (hplain:(backTo cpos (starEach es X.env)).any (·.1)=false:=by rfl) :
  PE X (.Call (.Attribute o name apos) (e :: es) [] cpos) (tBM X.K T r to t):=by
 intro pins s σ H Q I h
 refine wpAny_Call_method_late hbase hfew hline rfl (thn (ho pins s σ H _ I h) fun v s1 ⟨x,H1,I1,r1,ty,q1⟩=>?_)
 obtain ⟨h1,h2⟩:=JX I1 r1 ty
 refine ⟨T,id,pa,slot,hty,h1,h2,?_⟩
 have hA:=ha cpos pins s1 σ H1 _ I1 q1
 rw [hs] at hA ⊢
 refine Calls.callWith_builtin (by show (false || (backTo cpos (starEach es X.env)).any (·.1))=false;rw [hplain] <;> rfl) (Calls.evalArgs_plain ?_)
 exact thn hA fun us s2 ⟨vs,H2,I2,r2,q2⟩=>hm pins s2 σ H2 x vs v us Q I2 r1 r2 q2
end
end L2
namespace L2
open PySem PySem.Spec PyProof.Rows
def MtM (X:Cx) (id:String) (r:V→List V→Hp→VK→Prop):Prop :=
 ∀ (pins:List (Addr × Obj)) (s:Shared) (σ:St) (H:Hp) (x:V) (xs:List V) (v:Value) (us:List Value) (Q:VK),Inv X pins σ H s→RelV x v→Vals xs us→r x xs H Q →
  wpAny (model X.prog X.w) X.A (call (.builtin id) (v :: us)) (EP X pins σ Q) X.xe s
theorem Vals.one:∀ {x:V} {us:List Value},Vals [x] us→∃ u,us=[u]∧RelV x u
 | _,_,.cons r .nil=>⟨_,rfl,r⟩
theorem Vals.zero:∀ {us:List Value},Vals [] us→us=[]
 | _,.nil=>rfl
theorem Vals.dropLast {xs:List V} {us:List Value} (h:Vals xs us):Vals xs.dropLast us.dropLast:=by
 induction h with
 | nil=>exact .nil
 | cons r t ih =>
  cases t with
  | nil=>exact .nil
  | cons q t'=>exact .cons r ih
theorem WS {α:Type} (l:List α):l.eraseIdx (l.length - 1)=l.dropLast:=by
 induction l with
 | nil=>rfl
 | cons a r ih =>
  cases r with
  | nil=>rfl
  | cons b r =>
   have e:(a :: b :: r).length - 1=((b :: r).length - 1) + 1:=rfl
   rw [e,List.eraseIdx_cons_succ,ih]
   all_goals rfl
section
variable {X:Cx} {pins:List (Addr × Obj)} {σ:St} {H:Hp} {s:Shared} {l b:Addr} {xs ys zs:List V}
theorem Inv.lset {its its':List Value} {n:Nat} {f:Array Value→Array Value} {t':Nat} (I:Inv X pins σ H s) (hH:H l=some (.lst xs))
  (e:s.heap.get? l=some { cls:=.type "list",data:=.seq its.toArray n }) (hf:f its.toArray=its'.toArray) (hv:Vals ys its') (hz:ys.length≤sizeLine) :
  Inv X pins σ (upd H l (.lst ys)) { s with heap:=s.heap.update l (Obj.mapSeq f),toks:=t' }:=by
 have q:=PySem.IsL.update e f
 rw [hf] at q
 refine I.write (x:=l) (e:=l) (by rw [hH];exact trivial) (.inl rfl) (fun b' u hb hu=>(Heap.get?_update_other s.heap (Obj.mapSeq f) (Ne.symm hb)).trans hu) ⟨_,q⟩ ?_
 exact ⟨hz,its',_,hv,q⟩
theorem Inv.lnew {its:List Value} {t':Nat} (I:Inv X pins σ H s) (hv:Vals ys its) (hz:ys.length≤sizeLine) :
  Inv X pins σ (upd H s.heap.objs.size (.lst ys)) { s with heap:=s.heap.push { cls:=.type "list",data:=.seq its.toArray },toks:=t' } :=
 I.laid (fun _ _ q=>Heap.get?_push_of_some _ q) (Nat.le_refl _) ⟨hz,its,0,hv,Heap.get?_push_size _ rfl⟩
theorem Inv.fresh (I:Inv X pins σ H s):H s.heap.objs.size=none:=I.hok.fresh (Nat.le_refl _)
theorem Inv.lstM (I:Inv X pins σ H s) (hH:H l=some (.lst xs)):xs.length≤sizeLine∧∃ (its:List Value) (n:Nat),Vals xs its∧xs.length=its.length∧s.heap.get? l=some { cls:=.type "list",data:=.seq its.toArray n }:=by
 obtain ⟨z,its,n,r,e⟩:=I.hok l _ hH
 exact ⟨z,its,n,r,r.length,e⟩
end
section
variable {X:Cx}
def yj:V→List V→Hp→VK→Prop:=fun x vs H Q=>∃ l xs y,x=.ref l∧vs=[y]∧H l=some (.lst xs)∧xs.length < sizeLine∧Q .non (upd H l (.lst (xs ++ [y])))
theorem xo:MtM X "list.append" yj:=by
 intro pins s σ H x vs v us Q I rx rv h
 obtain ⟨l,xs,y,rfl,rfl,hH,hz,q⟩:=h
 cases rx
 obtain ⟨u,rfl,ru⟩:=rv.one
 obtain ⟨z,its,n,r,hl,e⟩:=I.lstM hH
 refine call_meets F.slot_list_append ⟨_,e,rfl⟩ F.entry_list_append (F.args_list_append_2 _ _) (PySem.list_append l its.toArray n u (by rw [List.size_toArray];omega)) ⟨e,?_⟩
 refine ⟨.non,_,I.lset (its':=its ++ [u]) hH e (by simp) (r.append (.cons ru .nil)) ?_,rfl,q⟩
 rw [List.length_append,List.length_singleton]
 omega
def Qx:V→List V→Hp→VK→Prop:=fun x vs H Q=>∃ l b xs zs,x=.ref l∧vs=[.ref b]∧H l=some (.lst xs)∧H b=some (.lst zs)∧xs.length + zs.length≤sizeLine∧Q .non (upd H l (.lst (xs ++ zs)))
def JY:V→List V→Hp→VK→Prop:=fun x vs H Q=>∃ l xs y,x=.ref l∧vs=[]∧H l=some (.lst xs)∧xs[xs.length - 1]?=some y∧Q y (upd H l (.lst xs.dropLast))
theorem WT:MtM X "list.pop" JY:=by
 intro pins s σ H x vs v us Q I rx rv h
 obtain ⟨l,xs,y,rfl,rfl,hH,hy,q⟩:=h
 cases rx
 have hus:=rv.zero
 subst hus
 obtain ⟨z,its,n,r,hl,e⟩:=I.lstM hH
 obtain ⟨u,hu,ru⟩:=r.get hy
 have hy':its.toArray[its.toArray.size - 1]?=some u:=by
  show its.toArray[its.length - 1]?=some u
  rw [← Array.getElem?_toList,← hl]
  exact hu
 refine call_meets F.slot_list_pop ⟨_,e,rfl⟩ F.entry_list_pop (F.args_list_pop_1 _) (MeetsSeq.list_pop_last l its.toArray n u hy' (by rw [List.size_toArray];omega)) ⟨e,?_⟩
 refine ⟨y,_,I.lset (its':=its.dropLast) hH e ?_ r.dropLast ?_,ru,q⟩
 ·show its.toArray.eraseIdxIfInBounds (its.toArray.size - 1)=its.dropLast.toArray
  rw [List.size_toArray,List.eraseIdxIfInBounds_toArray,WS]
 ·rw [List.length_dropLast]
  omega
def zaF:V→List V→Hp→VK→Prop:=fun x vs H Q=>∃ l xs,x=.ref l∧vs=[]∧H l=some (.lst xs)∧Q .non (upd H l (.lst []))
def zcF:R2:=fun x y H Q=>∃ l b xs zs,x=.ref l∧y=.ref b∧H l=some (.lst xs)∧H b=some (.lst zs)∧xs.length + zs.length≤sizeLine∧∀ p,H p=none→Q (.ref p) (upd H p (.lst (xs ++ zs)))
def zcG:R2:=fun x y H Q=>∃ l k xs,x=.ref l∧y=.int k∧H l=some (.lst xs)∧-(2 ^ 63)≤k∧k < 2 ^ 63∧xs.length * k.toNat≤sizeLine ∧
 ∀ p,H p=none→Q (.ref p) (upd H p (.lst (List.replicate k.toNat xs).flatten))
end
section
variable {prog:Program} {w:World} {A:Around} {E:Value→Shared→Prop} {s:Shared}
set_option maxRecDepth 100000 in
end
section
variable {X:Cx}
end
end L2
namespace L2
open PySem PySem.Spec PyProof.Rows
section
variable {κ:Type} [DecidableEq κ]
def yf (kvs:List (κ × V)) (k:κ):Option V:=(kvs.find? fun kv=>decide (kv.1=k)).map (·.2)
def yA (kvs:List (κ × V)) (k:κ) (v:V):List (κ × V) :=
 if (kvs.any fun kv=>decide (kv.1=k))=true then kvs.map (fun kv=>if kv.1=k then (kv.1,v) else kv) else kvs ++ [(k,v)]
def Yl (kvs:List (κ × V)) (k:κ):List (κ × V):=kvs.filter fun kv=>decide (kv.1≠k)
theorem qR {k:κ}:yf ([]:List (κ × V)) k=none:=rfl
theorem yJ {p:κ × V} {r:List (κ × V)} {k:κ} (e:p.1=k):yf (p :: r) k=some p.2:=by simp [yf,List.find?_cons,e]
theorem yK {p:κ × V} {r:List (κ × V)} {k:κ} (e:¬ p.1=k):yf (p :: r) k=yf r k:=by simp [yf,List.find?_cons,e]
theorem x5 (k:κ):∀ kvs:List (κ × V),(kvs.any fun kv=>decide (kv.1=k))=(yf kvs k).isSome
 | []=>rfl
 | p :: r=>by
  rw [List.any_cons]
  by_cases e:p.1=k
  ·simp only [yJ e,decide_eq_true e,Bool.true_or,Option.isSome_some]
  ·rw [yK e,decide_eq_false e,Bool.false_or];exact x5 k r
theorem Xy (k j:κ) (y:V):∀ kvs:List (κ × V),yf (kvs.map fun kv=>if kv.1=k then (kv.1,y) else kv) j=(yf kvs j).map fun x=>if j=k then y else x
 | []=>rfl
 | p :: r=>by
  have ih:=Xy k j y r
  rw [List.map_cons]
  by_cases h:p.1=k
  ·rw [if_pos h]
   by_cases e:p.1=j
   ·rw [yJ (p:=(p.1,y)) e,yJ e,Option.map_some,if_pos (e.symm.trans h)]
   ·rw [yK (p:=(p.1,y)) e,yK e,ih]
  ·rw [if_neg h]
   by_cases e:p.1=j
   ·rw [yJ (p:=p) e,yJ e,Option.map_some,if_neg (fun z=>h (e.trans z))]
   ·rw [yK (p:=p) e,yK e,ih]
theorem Ym (k j:κ) (y:V):∀ kvs:List (κ × V),yf kvs k=none→yf (kvs ++ [(k,y)]) j=if j=k then some y else yf kvs j
 | [],_=>by
  by_cases e:k=j
  ·rw [if_pos e.symm];exact yJ (p:=(k,y)) e
  ·rw [if_neg (fun z=>e z.symm)];exact yK (p:=(k,y)) e
 | p :: r,hn=>by
  rw [List.cons_append]
  have hk:¬ p.1=k:=fun z=>by rw [yJ z] at hn;cases hn
  rw [yK hk] at hn
  have ih:=Ym k j y r hn
  by_cases e:p.1=j
  ·rw [yJ e,yJ e,if_neg (fun z=>hk (e.trans z))]
  ·rw [yK e,yK e,ih]
theorem qS (kvs:List (κ × V)) (k j:κ) (y:V):yf (yA kvs k y) j=if j=k then some y else yf kvs j:=by
 unfold yA
 by_cases a:(kvs.any fun kv=>decide (kv.1=k))=true
 ·rw [if_pos a,Xy]
  rw [x5] at a
  by_cases e:j=k
  ·obtain ⟨x,hx⟩:=Option.isSome_iff_exists.mp a
   rw [if_pos e,e,hx,Option.map_some,if_pos rfl]
  ·rw [if_neg e]
   cases yf kvs j with
   | none=>rfl
   | some x=>rw [Option.map_some,if_neg e]
 ·rw [if_neg a]
  refine Ym k j y kvs ?_
  rw [x5] at a
  cases q:yf kvs k with
  | none=>rfl
  | some x=>rw [q] at a;exact (a rfl).elim
theorem yT (kvs:List (κ × V)) (k:κ) (v:V):(yA kvs k v).length≤kvs.length + 1:=by
 unfold yA
 split
 ·rw [List.length_map];omega
 ·rw [List.length_append,List.length_cons,List.length_nil];omega
theorem Xz {kvs:List (κ × V)} {k:κ} (v:V) (h:yf kvs k=none):yA kvs k v=kvs ++ [(k,v)]:=by
 unfold yA
 rw [x5,h]
 exact if_neg (by decide)
theorem RelO.isSome_eq {o:Option V} {u:Option Value} (r:RelO o u):o.isSome=u.isSome:=by
 cases o with
 | none=>cases u with
  | none=>rfl
  | some _=>exact (show False from r).elim
 | some _=>cases u with
  | none=>exact (show False from r).elim
  | some _=>rfl
theorem RelO.getD {o:Option V} {u:Option Value} {d:V} {d':Value} (r:RelO o u) (rd:RelV d d'):RelV (o.getD d) (u.getD d'):=by
 cases o with
 | none=>cases u with
  | none=>exact rd
  | some _=>exact (show False from r).elim
 | some _=>cases u with
  | none=>exact (show False from r).elim
  | some _=>exact r
theorem KV.val {kvs:List (κ × V)} {vs:List (κ × Value)} (r:KV kvs vs) (k:κ):RelO (yf kvs k) (valueAt vs k):=by
 unfold KV at r
 induction r with
 | nil=>exact True.intro
 | @cons p q ps qs h t ih =>
  obtain ⟨h1,h2⟩:=h
  by_cases e:p.1=k
  ·have e':q.1=k:=h1.symm.trans e
   have b:valueAt (q :: qs) k=some q.2:=by simp [valueAt,List.find?_cons,e']
   rw [yJ e,b];exact h2
  ·have e':¬ q.1=k:=fun z=>e (h1.trans z)
   have b:valueAt (q :: qs) k=valueAt qs k:=by simp [valueAt,List.find?_cons,e']
   rw [yK e,b];exact ih
theorem KV.any {kvs:List (κ × V)} {vs:List (κ × Value)} (r:KV kvs vs) (k:κ):(kvs.any fun kv=>decide (kv.1=k))=vs.any fun kv=>decide (kv.1=k):=by
 unfold KV at r
 induction r with
 | nil=>rfl
 | cons h t ih=>rw [List.any_cons,List.any_cons,ih,h.1]
theorem KV.repl {kvs:List (κ × V)} {vs:List (κ × Value)} (r:KV kvs vs) (k:κ) {y:V} {u:Value} (ry:RelV y u) :
  KV (kvs.map fun kv=>if kv.1=k then (kv.1,y) else kv) (vs.map fun kv=>if kv.1=k then (kv.1,u) else kv):=by
 unfold KV at r ⊢
 induction r with
 | nil=>exact .nil
 | @cons p q ps qs h t ih =>
  rw [List.map_cons,List.map_cons]
  refine .cons ?_ ih
  obtain ⟨h1,h2⟩:=h
  by_cases e:p.1=k
  ·rw [if_pos e,if_pos (h1.symm.trans e)];exact ⟨h1,ry⟩
  ·rw [if_neg e,if_neg (fun z=>e (h1.trans z))];exact ⟨h1,h2⟩
theorem KV.put {kvs:List (κ × V)} {vs:List (κ × Value)} (r:KV kvs vs) (k:κ) {y:V} {u:Value} (ry:RelV y u):KV (yA kvs k y) (stored vs k u):=by
 unfold yA stored
 rw [r.any k]
 by_cases e:(vs.any fun kv=>decide (kv.1=k))=true
 ·rw [if_pos e,if_pos e];exact r.repl k ry
 ·rw [if_neg e,if_neg e];exact Paired.snoc r ⟨rfl,ry⟩
theorem KV.length {kvs:List (κ × V)} {vs:List (κ × Value)} (r:KV kvs vs):kvs.length=vs.length:=Paired.length r
end
theorem Vn {P:Program} {w:World} {k:Key} {u:Value} (r:RelV (kV k) u):(yt P w).is k u=true:=by
 cases k with
 | inl i=>obtain ⟨t,e⟩:=(show ∃ t,u=Value.int i t from r);subst e;exact Xp P w i t
 | inr x=>obtain ⟨t,e⟩:=(show ∃ t,u=Value.str x t from r);subst e;exact Xq P w x t
theorem kO {P:Program} {w:World}:∀ {ks:List Key} {us:List Value},Vals (ks.map kV) us→ItemsAre (yt P w) ks us
 | [],_,r=>by rw [List.map_nil] at r;cases r;exact .nil
 | k :: ks,_,r=>by
  rw [List.map_cons] at r
  cases r with
  | cons h t=>exact .cons (Vn h) (kO t)
abbrev KT (H:Hp):List (List Key × V)→List (List Key × Addr × Value)→Prop:=Paired fun p q=>p.1=q.1∧H q.2.1=some (.tup (p.1.map kV))∧RelV p.2 q.2.2
theorem KT.val {H:Hp} {kvs:List (List Key × V)} {xs:List (List Key × Addr × Value)} (r:KT H kvs xs) (k:List Key):RelO (yf kvs k) ((atKey xs k).map (·.2)):=by
 induction r with
 | nil=>exact True.intro
 | @cons p q ps qs h t ih =>
  obtain ⟨h1,_,h2⟩:=h
  by_cases e:p.1=k
  ·have e':q.1=k:=h1.symm.trans e
   have b:atKey (q :: qs) k=some q.2:=by simp [atKey,List.find?_cons,e']
   rw [yJ e,b];exact h2
  ·have e':¬ q.1=k:=fun z=>e (h1.trans z)
   have b:atKey (q :: qs) k=atKey qs k:=by simp [atKey,List.find?_cons,e']
   rw [yK e,b];exact ih
theorem KT.repl {H:Hp} {kvs:List (List Key × V)} {xs:List (List Key × Addr × Value)} (r:KT H kvs xs) (k:List Key) {y:V} {u:Value} (ry:RelV y u) :
  KT H (kvs.map fun kv=>if kv.1=k then (kv.1,y) else kv) (xs.map (putAt k u)):=by
 induction r with
 | nil=>exact .nil
 | @cons p q ps qs h t ih =>
  rw [List.map_cons,List.map_cons]
  refine .cons ?_ ih
  obtain ⟨h1,h2,h3⟩:=h
  unfold putAt
  by_cases e:p.1=k
  ·rw [if_pos e,if_pos (h1.symm.trans e)];exact ⟨h1,h2,ry⟩
  ·rw [if_neg e,if_neg (fun z=>e (h1.trans z))];exact ⟨h1,h2,h3⟩
theorem KT.put {H:Hp} {kvs:List (List Key × V)} {xs:List (List Key × Addr × Value)} (r:KT H kvs xs) (k:List Key) {b:Addr} {y:V} {u:Value} (hb:H b=some (.tup (k.map kV))) (ry:RelV y u) :
  KT H (yA kvs k y) (storedH xs k b u):=by
 have e:(kvs.any fun kv=>decide (kv.1=k))=(atKey xs k).isSome:=by
  rw [x5,(r.val k).isSome_eq,Option.isSome_map]
 unfold yA storedH
 rw [e]
 by_cases q:(atKey xs k).isSome=true
 ·rw [if_pos q,if_pos q];exact r.repl k ry
 ·rw [if_neg q,if_neg q];exact Paired.snoc r ⟨rfl,hb,ry⟩
theorem KT.keeps {H H':Hp} {kvs:List (List Key × V)} {xs:List (List Key × Addr × Value)} (r:KT H kvs xs) (ht:∀ b ys,H b=some (.tup ys)→H' b=some (.tup ys)):KT H' kvs xs :=
 Paired.mapP r fun _ _ z=>⟨z.1,ht _ _ z.2.1,z.2.2⟩
section
variable {P:Program} {w:World} {H:Hp} {h:Heap} {a:Addr}
theorem zah {u:HO} (ok:HOk P w H h) (e:Rd H a u):ObjOk P w H h a u:=e.ok ok
theorem XA {kvs:List (Key × V)} (ok:HOk P w H h) (e:Rd H a (.dK kvs)):kvs.length≤sizeLine∧(a == sysModules)=false∧∃ vs,KV kvs vs∧h.DictOf (yt P w) a vs :=
 show ObjOk P w H h a (.dK kvs) from zah ok e
theorem zbm {kvs:List (Key × V)} (ok:HOk P w H h) (e:H a=some (.dK kvs)):kvs.length≤sizeLine∧(a == sysModules)=false∧∃ vs,KV kvs vs∧h.DictOf (yt P w) a vs:=XA ok (.inl e)
theorem qT {ks:List Key} (ok:HOk P w H h) (e:H a=some (.tup (ks.map kV))):(tupleKind (yt P w)).is h ks a:=by
 obtain ⟨_,its,r,o,h1,h2,n,h3⟩:=(show ObjOk P w H h a (.tup (ks.map kV)) from ok a _ e)
 exact ⟨o,its.toArray,n,h1,h2,h3,by simpa using kO r⟩
theorem XB {kvs:List (List Key × V)} (ok:HOk P w H h) (e:Rd H a (.dT kvs)):kvs.length≤sizeLine∧(a == sysModules)=false ∧
  ∃ xs,KT H kvs xs∧h.DictOfH (tupleKind (yt P w)) a xs:=by
 obtain ⟨z,y,xs,r,o,es,ep,h1,h2,h3,h4,h5⟩:=(show ObjOk P w H h a (.dT kvs) from zah ok e)
 refine ⟨z,y,xs,r,o,es,ep,h1,h2,h3,h4,fun x hx=>?_,h5⟩
 have all:∀ {l:List (List Key × V)} {m:List (List Key × Addr × Value)},KT H l m→∀ x∈m,(tupleKind (yt P w)).is h x.1 x.2.1:=by
  intro l m q
  induction q with
  | nil=>intro x hx;exact nomatch hx
  | @cons p q ps qs hq t ih =>
   intro x hx
   rcases List.mem_cons.mp hx with e | hx
   ·subst e
    exact qT ok (by rw [← hq.1];exact hq.2.1)
   ·exact ih x hx
 exact all r x hx
theorem zai {kvs:List (List Key × V)} (ok:HOk P w H h) (e:H a=some (.dT kvs)):kvs.length≤sizeLine∧(a == sysModules)=false ∧
  ∃ xs,KT H kvs xs∧h.DictOfH (tupleKind (yt P w)) a xs:=XB ok (.inl e)
end
def DGet (H:Hp) (a:Addr) (y:V) (r:Option V):Prop :=
 (∃ kvs k,Rd H a (.dK kvs)∧y=kV k∧r=yf kvs k)∨∃ kvs k b,Rd H a (.dT kvs)∧y=.ref b∧H b=some (.tup (k.map kV))∧r=yf kvs k
def DPut (H:Hp) (a:Addr) (y v:V) (H':Hp):Prop :=
 (∃ kvs k,H a=some (.dK kvs)∧y=kV k∧kvs.length < sizeLine∧H'=upd H a (.dK (yA kvs k v))) ∨
 ∃ kvs k b,H a=some (.dT kvs)∧y=.ref b∧H b=some (.tup (k.map kV))∧kvs.length < sizeLine∧H'=upd H a (.dT (yA kvs k v))
theorem DGet.k {H:Hp} {a:Addr} {kvs:List (Key × V)} {k:Key} (e:H a=some (.dK kvs)):DGet H a (kV k) (yf kvs k):=.inl ⟨kvs,k,.inl e,rfl,rfl⟩
theorem DPut.k {H:Hp} {a:Addr} {kvs:List (Key × V)} {k:Key} {v:V} (e:H a=some (.dK kvs)) (hl:kvs.length < sizeLine):DPut H a (kV k) v (upd H a (.dK (yA kvs k v))):=.inl ⟨kvs,k,e,rfl,hl,rfl⟩
theorem DPut.t {H:Hp} {a b:Addr} {kvs:List (List Key × V)} {k:List Key} {v:V} (e:H a=some (.dT kvs)) (eb:H b=some (.tup (k.map kV))) (hl:kvs.length < sizeLine) :
  DPut H a (.ref b) v (upd H a (.dT (yA kvs k v))):=.inr ⟨kvs,k,b,e,rfl,eb,hl,rfl⟩
section
variable {X:Cx} {pins:List (Addr × Obj)} {σ:St} {H:Hp} {s:Shared} {a:Addr} {y v:V} {u r:Value} {o:Option V} {A:Around} {E:Value→Shared→Prop}
theorem Inv.big (I:Inv X pins σ H s):sysModules < s.heap.objs.size:=by
 have h:mainGlobals < s.heap.objs.size:=(I.mod.glob.keeps I.bk).lt
 exact Nat.lt_trans (by decide) h
theorem Jh {Q:Value→Shared→Prop} (hu:A.units + 1 < cLine) (I:Inv X pins σ H s) (g:DGet H a y (some v)) (ry:RelV y u) (h:∀ w' s',Inv X pins σ H s'→RelV v w'→Q w' s') :
  wpAny (model X.prog X.w) A (getItem (.ref a) u) Q E s:=by
 rcases g with ⟨kvs,k,e,ey,l⟩ | ⟨kvs,k,b,e,ey,eb,l⟩
 ·subst ey
  obtain ⟨z,hd,vs,rel,dd⟩:=XA I.hok e
  obtain ⟨w',hw,rw'⟩:=RelO.some_of (v:=v) (o:=valueAt vs k) (by rw [l];exact rel.val k)
  exact wpAny_getItem_of (Vn ry) dd.mapOf hw (h w' _ (I.tok _) rw')
 ·subst ey
  cases (show u=Value.ref b from ry)
  obtain ⟨z,hd,xs,rel,dd⟩:=XB I.hok e
  obtain ⟨w',hw,rw'⟩:=RelO.some_of (v:=v) (o:=(atKey xs k).map (·.2)) (by rw [l];exact rel.val k)
  obtain ⟨p,hp,hp2⟩:=Option.map_eq_some_iff.mp hw
  refine wpAny_getItem_heap (tupleKind_room_in1 hu) (qT I.hok eb) dd hp ?_
  rw [hp2]
  exact h w' _ (I.tok _) rw'
theorem YW {h':Heap} {t':Nat} {ob:HO} (I:Inv X pins σ H s) (mu:Mut (H a)) (hs:Heap.SameBut a s.heap h') (he:∃ q,h'.get? a=some q) (new:ObjOk X.prog X.w (upd H a ob) h' a ob) :
  Inv X pins σ (upd H a ob) { s with heap:=h',toks:=t' } :=
 I.write (x:=a) (e:=a) mu (.inl rfl) (fun b q hb z=>(hs.2 b hb).trans z) he new
theorem zaG {P:Program} {w:World} {H':Hp} {h':Heap} {kvs:List (Key × V)} {vs:List (Key × Value)} (z:kvs.length≤sizeLine) (hd:(a == sysModules)=false) (rel:KV kvs vs) (dd:h'.DictOf (yt P w) a vs) :
  ObjOk P w H' h' a (.dK kvs):=⟨z,hd,vs,rel,dd⟩
theorem Ji {H':Hp} {Q:Unit→Shared→Prop} (hu:A.units + 1 < cLine) (I:Inv X pins σ H s) (g:DPut H a y v H') (ry:RelV y u) (rv:RelV v r) (h:∀ s',Inv X pins σ H' s'→Q () s') :
  wpAny (model X.prog X.w) A (setItem (.ref a) u r) Q E s:=by
 rcases g with ⟨kvs,k,e,ey,l,eH⟩ | ⟨kvs,k,b,e,ey,eb,l,eH⟩
 ·subst ey eH
  obtain ⟨z,hd,vs,rel,dd⟩:=zbm I.hok e
  have hz:vs.length≤sizeLine:=by rw [← rel.length];exact z
  have hl:(yA kvs k v).length≤sizeLine:=by have:=yT kvs k v;omega
  refine wpAny_setItem_pairs (hsz:=hz) (Vn ry) dd fun h' dd' hs=>h _ ?_
  have he:∃ q,h'.get? a=some q:=let ⟨q,_,_,hq,_⟩:=dd';⟨q,hq⟩
  exact YW I (by rw [e];exact True.intro) hs he (zaG hl hd (rel.put k rv) dd')
 ·subst ey eH
  cases (show u=Value.ref b from ry)
  obtain ⟨z,hd,xs,rel,dd⟩:=zai I.hok e
  have hz:xs.length≤sizeLine:=by rw [← Paired.length rel];exact z
  have hl:(yA kvs k v).length≤sizeLine:=by have:=yT kvs k v;omega
  refine wpAny_setItem_heap (hsz:=hz) (tupleKind_room_in1 hu) (qT I.hok eb) dd fun h' dd' hs=>h _ ?_
  obtain ⟨q,es,ep,hq,h2,h3,h4,_,h5⟩:=dd'
  refine YW I (by rw [e];exact True.intro) hs ⟨q,hq⟩ ⟨hl,hd,_,(rel.put k eb rv).keeps fun c ys ec=>?_,q,es,ep,hq,h2,h3,h4,h5⟩
  rw [zl (yI ec e (fun z=>nomatch z))]
  exact ec
end
section
variable {X:Cx} {pins:List (Addr × Obj)} {σ:St} {H:Hp} {s:Shared} {a:Addr} {kvs:List (Key × V)} {k:Key} {u:Value} {A:Around} {E:Value→Shared→Prop}
end
def zbn (i:Expr):Prop:=∀ ov iv,subscripted i false ov iv=operate [ov,iv] (getItem ov iv)
theorem Qy {prog:Program} {w:World} {A:Around} {E:Value→Shared→Prop} {s:Shared} {env:Env} {value slice:Expr} {pos:Pos} {T id:String} {Q:Value→Shared→Prop}
  (hl:typeLookup (.type T) "__getitem__"=pure (some (.builtin id))) (hs:zbn slice)
  (h:wpAny (model prog w) A (eval value env) (fun o s₁=>wpAny (model prog w) A (eval slice env) (fun i s₂=>s₂.TypeIs o T∧wpAny (model prog w) A (getItem o i) Q E s₂) E s₁) E s) :
  wpAny (model prog w) A (eval (.Subscript value slice pos) env) Q E s:=by
 refine Subscript_ (wpAny_mono h (fun o s₁ h₁=>wpAny_mono h₁ (fun i s₂ h₂=>?_) fun _ _ x=>x) fun _ _ x=>x)
 obtain ⟨hT,h₂⟩:=h₂
 unfold subscriptTail
 refine wpAny_bind ?_
 rw [getitemInPython_of_ne hT.not_modules]
 refine wpAny_bind (wpAny_specialOf hT hl ?_)
 have fin:wpAny (model prog w) A (subscripted slice false o i) (fun r s₃=>wpAny (model prog w) A (letTemporaryGo value o r >>= fun _=>pure r) Q E s₃) E s₂:=by
  rw [hs o i]
  exact wpAny_operating (wpAny_mono h₂ (fun r s₃ h₃=>wpAny_bind (wpAny_letTemporaryGo (wpAny_pure h₃))) fun _ _ x=>x)
 first
  | exact wpAny_pure (wpAny_bind fin)
  | exact wpAny_bind (wpAny_pure (wpAny_bind fin))
  | exact wpAny_bind fin
theorem XC {X:Cx} {pins:List (Addr × Obj)} {σ:St} {H:Hp} {s:Shared} {a:Addr} {y:V} {o:Option V} (I:Inv X pins σ H s) (g:DGet H a y o):s.TypeIs (.ref a) "dict":=by
 rcases g with ⟨kvs,k,e,_,_⟩ | ⟨kvs,k,b,e,_,_,_⟩
 ·obtain ⟨_,_,vs,_,dd⟩:=XA I.hok e
  exact dd.typeIs
 ·obtain ⟨_,_,xs,_,dd⟩:=XB I.hok e
  exact dd.typeIs
def XD (td ty:TE):TE:=fun σ H Q=>td σ H fun x H1=>ty σ H1 fun y H2=>∃ a v,x=.ref a∧DGet H2 a y (some v)∧Q v H2
def xp (td ty tv:TE):TS:=fun D σ H=>tv σ H fun v H1=>td σ H1 fun x H2=>ty σ H2 fun y H3=>∃ a H4,x=.ref a∧DPut H3 a y v H4∧D.nx σ H4
section
variable {X:Cx} {o i e value:Expr} {pos pos' tpos:Pos} {td ty tv:TE}
theorem Vo (hu:X.A.units + 1 < cLine) (ho:PE X o td) (hi:PE X i ty) (hs:zbn i):PE X (.Subscript o i pos) (XD td ty):=by
 intro pins s σ H Q I h
 refine Qy PySem.F.slot_dict_getitem.lookup hs (thn (ho pins s σ H _ I h) fun u s1 ⟨x,H1,I1,rx,q1⟩=>thn (hi pins s1 σ H1 _ I1 q1) fun iv s2 ⟨y,H2,I2,ry,a,v,ex,g,q2⟩=>?_)
 subst ex
 obtain rfl:u=Value.ref a:=rx
 exact ⟨XC I2 g,Jh hu I2 g ry fun w' s3 I3 rw'=>⟨v,H2,I3,rw',q2⟩⟩
theorem wW (hu:X.A.units + 1 < cLine) (ho:PE X o td) (hi:PE X i ty) (hv:PE X value tv) (hs:swapsWith value (some (.Subscript o i pos')) pos.line X.env=pure false) :
  PS X (.Assign [.Subscript o i pos'] value pos) (xp td ty tv):=by
 intro pins s σ H D I h
 refine wpAny_Assign_Subscript (thn (hv pins s σ H _ I h) fun r s1 ⟨v,H1,I1,rv,q1⟩=>thn (ho pins s1 σ H1 _ I1 q1) fun u s2 ⟨x,H2,I2,rx,q2⟩=>thn (hi pins s2 σ H2 _ I2 q2) fun iv s3 ⟨y,H3,I3,ry,a,H4,ex,g,q3⟩=>?_) hs
 subst ex
 obtain rfl:u=Value.ref a:=rx
 exact Ji hu I3 g ry rv fun s4 I4=>⟨σ,H4,I4,q3⟩
end
theorem JZ {P:Program} {w:World} {H:Hp} (h:Heap) (hb:sysModules < h.objs.size):ObjOk P w H (h.push { cls:=.type "dict",data:=.dict #[] }) h.objs.size (.dK []) :=
 ⟨Nat.zero_le _,beq_eq_false_iff_ne.mpr (Ne.symm (Nat.ne_of_lt hb)),[],.nil,Heap.DictOf.new h⟩
theorem XE {P:Program} {w:World} {H:Hp} (h:Heap) (hb:sysModules < h.objs.size):ObjOk P w H (h.push { cls:=.type "dict",data:=.dict #[] }) h.objs.size (.dT []) :=
 ⟨Nat.zero_le _,beq_eq_false_iff_ne.mpr (Ne.symm (Nat.ne_of_lt hb)),[],.nil,_,#[],0,Heap.get?_push_size _ rfl,⟨rfl,rfl,rfl⟩,rfl,rfl,List.nodup_nil⟩
def qU:TE:=fun _ H Q=>∀ p,H p=none→Q (.ref p) (upd H p (.dK []))
def YX:TE:=fun _ H Q=>∀ p,H p=none→Q (.ref p) (upd H p (.dT []))
section
variable {X:Cx} {pos:Pos}
theorem XG:PE X (.Dict [] [] pos) qU:=fun pins s σ H Q I h =>
 wpAny_Dict_empty ⟨.ref s.heap.objs.size,_,I.laid (a:=s.heap.objs.size) (o:=.dK []) (t':=s.toks) (fun _ _ q=>Heap.get?_push_of_some _ q) (Nat.le_refl _) (JZ s.heap I.big),rfl,h _ (I.hok.fresh (Nat.le_refl _))⟩
theorem J1:PE X (.Dict [] [] pos) YX:=fun pins s σ H Q I h =>
 wpAny_Dict_empty ⟨.ref s.heap.objs.size,_,I.laid (a:=s.heap.objs.size) (o:=.dT []) (t':=s.toks) (fun _ _ q=>Heap.get?_push_of_some _ q) (Nat.le_refl _) (XE s.heap I.big),rfl,h _ (I.hok.fresh (Nat.le_refl _))⟩
end
def J2:List (TE × TE)→St→Hp→(List (V × V)→Hp→Prop)→Prop
 | [],_,H,Q=>Q [] H
 | (tk,tv) :: r,σ,H,Q=>tk σ H fun x H1=>tv σ H1 fun y H2=>J2 r σ H2 fun ps H3=>Q ((x,y) :: ps) H3
def zaH (kvs more:List (Key × V)):List (Key × V):=more.foldl (fun acc kv=>yA acc kv.1 kv.2) kvs
def zce (trs:List (TE × TE)):TE:=fun σ H Q=>∀ p,H p=none→J2 trs σ (upd H p (.dK [])) fun ps H2=>H2 p=some (.dK [])∧∃ kvs:List (Key × V),ps=kvs.map (fun kv=>(kV kv.1,kv.2))∧kvs.length≤15∧Q (.ref p) (upd H2 p (.dK (zaH [] kvs)))
structure M1 (X:Cx) (o:Expr) (m:Str) (apos:Pos) (e:Expr) (cpos:Pos):Prop where
 base:attributeBase o m X.env (eval o X.env)=eval o X.env
 few:((backTo cpos (starEach [e] X.env)).all (fun x=>!x.1) && (backToKw cpos (keywordEach [] X.env)).all (fun x=>x.1.isSome)
  && decide (([e]:List Expr).length + ([]:List Keyword).length + (if ([]:List Keyword).isEmpty then 0 else 1) < 30))=true
 line:(apos.endLine == cpos.line)=true
 trees:backTo cpos (starEach [e] X.env)=[(false,eval e X.env)]
structure M2 (X:Cx) (o:Expr) (m:Str) (apos:Pos) (e f:Expr) (cpos:Pos):Prop where
 base:attributeBase o m X.env (eval o X.env)=eval o X.env
 few:((backTo cpos (starEach [e,f] X.env)).all (fun x=>!x.1) && (backToKw cpos (keywordEach [] X.env)).all (fun x=>x.1.isSome)
  && decide (([e,f]:List Expr).length + ([]:List Keyword).length + (if ([]:List Keyword).isEmpty then 0 else 1) < 30))=true
 line:(apos.endLine == cpos.line)=true
 trees:backTo cpos (starEach [e,f] X.env)=[(false,eval e X.env),(false,eval f X.env)]
def IsD (H:Hp) (a:Addr):Prop:=(∃ kvs,Rd H a (.dK kvs))∨∃ kvs,Rd H a (.dT kvs)
theorem WU {X:Cx} {pins:List (Addr × Obj)} {σ:St} {H:Hp} {s:Shared} {a:Addr} (I:Inv X pins σ H s) (d:IsD H a) :
  s.TypeIs (.ref a) "dict"∧(∀ b,Value.ref a=.ref b→∃ ob,s.heap.get? b=some ob∧ob.dict=none)∧(a == sysModules)=false:=by
 rcases d with ⟨kvs,e⟩ | ⟨kvs,e⟩
 ·obtain ⟨_,hd,vs,_,dd⟩:=XA I.hok e
  refine ⟨dd.typeIs,fun b q=>?_,hd⟩
  cases q
  obtain ⟨ob,_,_,h1,h2,_⟩:=dd
  exact ⟨ob,h1,h2.2.1⟩
 ·obtain ⟨_,hd,xs,_,dd⟩:=XB I.hok e
  refine ⟨dd.typeIs,fun b q=>?_,hd⟩
  cases q
  obtain ⟨ob,_,_,h1,h2,_⟩:=dd
  exact ⟨ob,h1,h2.2.1⟩
section
variable {X:Cx} {pins:List (Addr × Obj)} {σ:St} {H:Hp} {s:Shared} {a:Addr} {y d:V} {u r:Value} {o:Option V} {A:Around} {E:Value→Shared→Prop}
theorem zaI {Q:Value→Shared→Prop} (hu:A.units + 1 < cLine) (I:Inv X pins σ H s) (g:DGet H a y o) (ry:RelV y u) (rd:RelV d r) (h:∀ w' s',Inv X pins σ H s'→RelV (o.getD d) w'→Q w' s') :
  wpAny (model X.prog X.w) A (call (.builtin "dict.get") [.ref a,u,r]) Q E s:=by
 rcases g with ⟨kvs,k,e,ey,l⟩ | ⟨kvs,k,b,e,ey,eb,l⟩
 ·subst ey
  obtain ⟨z,hd,vs,rel,dd⟩:=XA I.hok e
  refine call_meetsIn PySem.F.slot_dict_get dd.typeIs PySem.F.entry_dict_get (PySem.F.args_dict_get_3 _ _ _) (meets_dict_get_default (yt X.prog X.w) a (Vn ry) hd r) ⟨_,dd.mapOf,h _ _ (I.tok _) ?_⟩
  rw [l]
  exact (rel.val k).getD rd
 ·subst ey
  cases (show u=Value.ref b from ry)
  obtain ⟨z,hd,xs,rel,dd⟩:=XB I.hok e
  refine call_meetsIn PySem.F.slot_dict_get dd.typeIs PySem.F.entry_dict_get (PySem.F.args_dict_get_3 _ _ _) (meetsH_dict_get_default (tupleKind (yt X.prog X.w)) a b hd r) ⟨tupleKind_room_in1 hu,k,xs,qT I.hok eb,dd,h _ _ (I.tok _) ?_⟩
  rw [l]
  exact (rel.val k).getD rd
end
def z7 (td ty tx:TE):TE:=fun σ H Q=>td σ H fun x H1=>∃ a,x=.ref a∧IsD H1 a∧ty σ H1 fun y H2=>tx σ H2 fun z H3=>∃ o,DGet H3 a y o∧Q (o.getD z) H3
def zbM (td ty tx:TE):TE:=fun σ H Q=>td σ H fun x H1=>∃ a,x=.ref a∧IsD H1 a∧ty σ H1 fun y H2=>tx σ H2 fun z H3=>∃ kvs k,H3 a=some (.dK kvs)∧y=kV k ∧
 (∀ v,yf kvs k=some v→Q v (upd H3 a (.dK (Yl kvs k))))∧(yf kvs k=none→Q z H3)
section
variable {X:Cx} {o e f:Expr} {apos cpos:Pos} {td ty tx:TE}
theorem km (hu:X.A.units + 1 < cLine) (ho:PE X o td) (he:PE X e ty) (hf:PE X f tx) (m:M2 X o "get" apos e f cpos):PE X (.Call (.Attribute o "get" apos) [e,f] [] cpos) (z7 td ty tx):=by
 intro pins s σ H Q I h
 refine wpAny_Call_method m.base m.few m.line PySem.F.plainAttrs_dict PySem.F.slot_dict_get PySem.F.type_dict_get (thn (ho pins s σ H _ I h) fun u s1 ⟨x,H1,I1,rx,a,ex,d,q1⟩=>?_)
 subst ex
 obtain rfl:u=Value.ref a:=rx
 obtain ⟨t1,t2,_⟩:=WU I1 d
 refine ⟨t1,t2,?_⟩
 rw [m.trees]
 refine Calls.callWith_builtin rfl (Calls.evalArgs_plain (Calls.spliced_cons (thn (he pins s1 σ H1 _ I1 q1) fun iv s2 ⟨y,H2,I2,ry,q2⟩ =>
  Calls.spliced_cons (thn (hf pins s2 σ H2 _ I2 q2) fun fv s3 ⟨z,H3,I3,rz,ov,g,q3⟩=>Calls.spliced_nil ?_))))
 exact zaI hu I3 g ry rz fun w' s4 I4 rw'=>⟨_,H3,I4,rw',q3⟩
end
section
variable {X:Cx} {pins:List (Addr × Obj)} {σ:St} {H:Hp} {s:Shared} {a:Addr} {kvs:List (Key × V)} {A:Around} {E:Value→Shared→Prop}
end
section
variable {X:Cx} {pins:List (Addr × Obj)} {σ:St} {H:Hp} {s:Shared} {a:Addr} {y:V} {u:Value} {A:Around} {E:Value→Shared→Prop}
end
end L2
namespace Att
open PySem PySem.W PySem.Calls PyProof.Rows
theorem qp {P:Params} {h:Heap}:∀ (ns:List Int) (vs:List Value),WellAll P h vs (ns.map WData.int)→IntsAre vs ns:=by
 intro ns
 induction ns with
 | nil =>
  intro vs w
  rw [List.map_nil] at w
  cases w
  exact .nil
 | cons n ns ih =>
  intro vs w
  rw [List.map_cons] at w
  cases w with
  | cons a b =>
   cases a
   exact .cons _ _ (ih _ b)
theorem Yn {l:OpenLaw} {n:Nat} (hn:l.most=some n) {P:Params} {h:Heap} {args:List WData} {vals:List Value}
  (hpre:l.row.toRowW.claim.pre args=true) (hwl:WellAll P h vals args) :
  ∃ a vs ns,vals=[Value.ref a]∧args=[WData.list (ns.map WData.int)]∧h.get? a=some { cls:=.type "list",data:=.seq vs.toArray }∧IntsAre vs ns∧ns.length≤n:=by
 have hsh:WShape.hasAll [] args [.list .int]=true:=(pre_splitW hpre).1
 have hc:l.pre.holds [] { args:=args }=true:=(pre_splitW hpre).2
 obtain ⟨d,r,rfl,h1,h2⟩:=hasAllW_cons hsh
 obtain rfl:=hasAllW_nil h2
 obtain ⟨xs,rfl,h3⟩:=hasW_list h1
 obtain ⟨ns,rfl⟩:=items_int h3
 have hlen:ns.length≤n:=by
  unfold OpenLaw.pre at hc
  have h4:(WTm.not (.lt (.lit (.int (n:Int))) (.len (.arg 0)))).holds [] { args:=[.list (ns.map .int)] }=true:=by
   have h4:=(holds_andW hc).1
   rw [hn] at h4
   exact h4
  have h5:=condW_of h4 (w_not (w_lt w_lit (w_len_list (w_arg rfl))))
  rw [List.length_map] at h5
  refine Nat.le_of_not_lt fun q=>?_
  have q':(n:Int) < ((ns.length:Nat):Int):=by omega
  first
   | (rw [decide_eq_true q'] at h5;exact absurd h5 (by decide))
   | (simp at h5;omega)
 cases hwl with
 | cons w1 w2 =>
  cases w2
  cases w1 with
  | list ho hall=>exact ⟨_,_,ns,rfl,rfl,ho,qp ns _ hall,hlen⟩
theorem Yo (l:OpenLaw) (args:List WData):l.row.toRowW.claim.post args (.bool true) args=true :=
 postW_of (r:=l.row.toRowW) (X:=(true == true))
  (show WShape.has [] (.bool true) .bool=true by first | rfl | decide | simp [WShape.has,WShape.arms,WShape.armsAll])
  (show (WTm.eq .res (.lit (.bool true))).value [] { args:=args,res:=some (.bool true),after:=args }=some (.bool (true == true)) from w_eq_bool (w_res rfl) w_lit) rfl
theorem attach_call {l:OpenLaw} {n:Nat} {q:Program} {loose:List Str} {XP:(Str→Option Value)→Heap→Prop} {YP:World→Heap→Prop} {d:DefRec}
  (hn:l.most=some n) (hdf:d.params.defaults=[])
  (call:∀ (w:World) (s₀ s₁:Shared) (mg mb:Str→Option Value) (fa:Addr) (o:Obj) (pm cd doc:Value) (a:Addr) (vs:List Value) (ns:List Int),
   Ground q loose [] XP w s₀ mg mb s₁.heap→YP w s₁.heap →
   s₁.heap.get? fa=some o→o.data=.func (docDef d.name d.params d.body d.scope pm cd doc)→s₁.heap.CodeRec cd d.name→mg d.name=some (.ref fa) →
   s₁.heap.get? a=some { cls:=.type "list",data:=.seq vs.toArray }→IntsAre vs ns→ns.length≤n→s₁.gens=#[] →
   codeAny (model l.prog w) callerA (.call (.ref fa) ⟨[.ref a],[]⟩) (fun r s'=>r=.ok (.ret (.bool true))∧OldK s₁.heap s'.heap∧s'.os=s₁.os∧AllBare s'.gens) s₁) :
  WalkO q loose XP YP l.row.toRowW d [] (fun f vs=>PySem.call f vs):=by
 intro w s₀ s₁ mg mb G Y fa o pm cd doc dV kV ho hd hcd hD hmg hg args vals as hpre hlay hrd hwl hlo
 obtain rfl:dV=.none:=Dflts.none hD hdf
 obtain rfl:kV=.none:=Dflts.noKw hD
 obtain ⟨a,vs,ns,rfl,rfl,hobj,hints,hlen⟩:=Yn hn hpre hwl
 refine enter_call (codeAny_mono (call w s₀ s₁ mg mb fa o pm cd doc a vs ns G Y ho (fd_plain hd) hcd hmg hobj hints hlen hg) fun r s' hq=>?_)
 obtain ⟨rfl,h2,h3,h4⟩:=hq
 exact ⟨.inl ⟨.bool true,.bool true,[],rfl,fun _=>rfl,.bool true,Yo l _,fun _=>⟨List.Pairwise.nil,fun _ hm=>(nomatch hm)⟩⟩,h2,h3,h4⟩
section
variable {prog:Program} {w:World} {A:Around} {E:Value→Shared→Prop} {s:Shared} {K:Frag}
def zbN (h:Heap) (L d:Addr):List (Addr × Obj):=(List.range h.objs.size).filterMap fun a=>if a=L∨a=d then none else (h.get? a).map fun o=>(a,o)
end
end Att
namespace L2
open PySem PySem.Spec PyProof.Rows
theorem Yp:∀ {vs:List Value} {ns:List Int},IntsAre vs ns→Vals (ns.map V.int) vs
 | _,_,.nil=>.nil
 | _,_,.cons n t h=>.cons ⟨t,rfl⟩ (Yp h)
def WV (H:Hp):Prop:=∀ b,H b=none∨∃ o xs,H b=some (.frz o (.lst xs))
theorem XH {P:Program} {w:World} {K:PySem.W.Frag} {mg mb:Str→Option Value} {CX:CXT} {k:Nat} {fa a:Addr} {fd:FuncData} {x:Str} {sp:Sp} {s₁:Shared} {vs:List Value} {ns:List Int}
  (KX:K.In s₁.heap) (hns:s₁.heap.Ns mainGlobals mg) (hb:s₁.heap.Ns builtinsNs mb) (hbb:∀ x:Str,x≠"__name__"→mb x=bootBuiltins x) (hlim:s₁.heap.NoLimit) (hg:s₁.gens=#[])
  (ha:s₁.heap.get? a=some { cls:=.type "list",data:=.seq vs.toArray }) (hi:IntsAre vs ns) (hl:ns.length≤sizeLine) (hr:Room k callerA)
  (F:∀ base:Heap,K.In base→base.Ns mainGlobals mg→FnOk P w K mg base CX k fa fd [x] sp) (hbind:∀ (s:Shared) (u:Value),BindsTo s fd ⟨[u],[]⟩ [(x,u)])
  (hsp:∀ H:Hp,WV H→SqL K H a (ns.map V.int)→sp [.ref a] H (fun v _=>v=.bl true) fun _ _ _=>False)
  (hCX:∀ H e s',CX [] H s₁ (fun _ _ _=>False) e s'→False) :
  codeAny (model P w) callerA (.call (.ref fa) ⟨[.ref a],[]⟩) (fun r s'=>r=.ok (.ret (.bool true))∧OldK s₁.heap s'.heap∧s'.os=s₁.os∧AllBare s'.gens) s₁:=by
 have rv:=Yp hi
 have lenV:=hi.length
 -- from an abstract heap in which nothing but the script may be tracked
 have core:∀ H:Hp,WV H→SqL K H a (ns.map V.int)→HOk P w H s₁.heap→(∀ b,H b≠none→b=a)→(H a≠none→K.lookup a=none) →
   codeAny (model P w) callerA (.call (.ref fa) ⟨[.ref a],[]⟩) (fun r s'=>r=.ok (.ret (.bool true))∧OldK s₁.heap s'.heap∧s'.os=s₁.os∧AllBare s'.gens) s₁:=by
  intro H hO hS hok hA hK
  have base_of:∀ {b:Addr} {o:Obj},s₁.heap.get? b=some o→H b=none→(YO s₁.heap H).get? b=some o:=fun e n=>JE e n
  have noA:∀ {b:Addr} {o:Obj} {es:Array DictEntry} {ep:Nat},s₁.heap.get? b=some o→o.data=.dict es ep→H b=none:=fun {b o es ep} e d=>by
   cases q:H b with
   | none=>rfl
   | some u =>
    have e':b=a:=hA b (by rw [q];simp)
    subst e'
    rw [ha] at e;cases e
    have d':Data.seq vs.toArray _=Data.dict es ep:=d
    cases d'
  have nsK:∀ {b:Addr} {m:Str→Option Value},s₁.heap.Ns b m→(YO s₁.heap H).Ns b m:=fun {b m} ⟨o,es,ep,e,d,r⟩=>⟨o,es,ep,base_of e (noA e d),d,r⟩
  have hKb:K.In (YO s₁.heap H):=fun b o e=>base_of (KX b o e) (by
   cases q:H b with
   | none=>rfl
   | some u =>
    have e':b=a:=hA b (by rw [q];simp)
    subst e'
    rw [hK (by rw [q];simp)] at e;cases e)
  have hM:Mod K mg (YO s₁.heap H):=⟨hKb,nsK hns,⟨mb,nsK hb,hbb⟩,let ⟨mc,h1,h2⟩:=hlim;⟨mc,nsK h1,h2⟩⟩
  have e0:Env0 P w K mg (YO s₁.heap H) callerA [] s₁ H:=⟨rfl,hM,fun b o e=>Ql e,Nat.le_of_eq (V9 _ _),trivial,fun b hb=>absurd (show b∈([]:List Addr) from hb) (by simp),hok,.of_eq hg⟩
  refine codeAny_mono ((F _ hKb (nsK hns)).run callerA [] s₁ H ⟨[.ref a],[]⟩ [.ref a] [.ref a] _ _ hr e0 (hbind s₁ (.ref a)) (.cons rfl .nil) (hsp H hO hS)) fun r s' h=>?_
  cases r with
  | error e=>exact (hCX H e s' h).elim
  | ok fl =>
   cases fl with
   | next=>exact False.elim h
   | brk=>exact False.elim h
   | cont=>exact False.elim h
   | ret u =>
    obtain ⟨v,H',os,bare,un,hok',r',q⟩:=h
    have q':v=.bl true:=q
    subst q'
    obtain rfl:u=Value.bool true:=r'
    refine ⟨rfl,OldK.of_keep fun b o e=>?_,os,bare⟩
    cases q:H b with
    | none=>exact un.keep b o e q (by intro z;exact absurd (show b∈([]:List Addr) from z) (by simp)) (by simp)
    | some u =>
     rcases hO b with z | ⟨ob,xs,z⟩
     ·rw [q] at z;cases z
     ·have z2:=un.frzs b ob _ z
      obtain ⟨e1,_⟩:=hok b _ z
      obtain ⟨e2,_⟩:=hok' b _ z2
      rw [e] at e1;cases e1
      exact e2
 cases hk:K.lookup a with
 | some o =>
  -- the script is one of the module's own objects
  have e:=KX a o hk
  rw [ha] at e
  cases e
  refine core (fun _=>none) (fun _=>.inl rfl) (.inr ⟨_,vs.toArray,_,hk,rfl,rfl,rfl,by rw [List.size_toArray,lenV];exact hl,by simpa using rv⟩) (fun b u z=>by have z':(none:Option HO)=some u:=z;cases z') (fun b z=>absurd rfl z) fun z=>absurd rfl z
 | none =>
  refine core (fun b=>if b=a then some (.frz { cls:=.type "list",data:=.seq vs.toArray } (.lst (ns.map V.int))) else none) (fun b=>?_) (.inl (.inr ⟨{ cls:=.type "list",data:=.seq vs.toArray },if_pos rfl⟩)) (fun b u z=>?_) (fun b z=>?_) fun _=>hk
  ·by_cases hb:b=a
   ·exact .inr ⟨_,_,if_pos hb⟩
   ·exact .inl (if_neg hb)
  ·by_cases hb:b=a
   ·have z':=(if_pos hb).symm.trans z
    cases z'
    subst hb
    exact ⟨ha,by rw [List.length_map];exact hl,vs,_,rv,ha⟩
   ·have z':=(if_neg hb).symm.trans z
    cases z'
  ·by_cases hb:b=a
   ·exact hb
   ·exact absurd (if_neg hb) z
end L2
namespace L2
open PySem PySem.Spec PyProof.Rows
abbrev KOf {K:PySem.W.Frag} {h:Heap} (_:K.In h):PySem.W.Frag:=K
theorem Vp {l:PySem.W.OpenLaw} {n k:Nat} {q:Program} {loose:List Str} {XP:(Str→Option Value)→Heap→Prop} {YP:World→Heap→Prop} {d:DefRec} {K:Params→PySem.W.Frag} {CX:World→CXT} {sp:World→Sp} {x:Str}
  (hn:l.most=some n) (hn2:n≤sizeLine) (hdf:d.params.defaults=[]) (hr:Room k callerA)
  (hY:∀ (w:World) (h:Heap),YP w h→(K w.params).In h)
  (F:∀ (w:World) (mg:Str→Option Value) (fa:Addr) (h:Heap),(K w.params).In h→h.Ns mainGlobals mg→mg d.name=some (.ref fa) →
   ∃ fd:FuncData,(∀ (s:Shared) (u:Value),BindsTo s fd ⟨[u],[]⟩ [(x,u)]) ∧
    ∀ base:Heap,(K w.params).In base→base.Ns mainGlobals mg→FnOk l.prog w (K w.params) mg base (CX w) k fa fd [x] (sp w))
  (hsp:∀ (w:World) (H:Hp) (a:Addr) (ns:List Int),ns.length≤n→WV H→SqL (K w.params) H a (ns.map V.int)→sp w [.ref a] H (fun v _=>v=.bl true) fun _ _ _=>False)
  (hCX:∀ (w:World) (H:Hp) (s:Shared) (e:Value) (s':Shared),CX w [] H s (fun _ _ _=>False) e s'→False) :
  PySem.W.WalkO q loose XP YP l.row.toRowW d [] (fun f vs=>PySem.call f vs):=by
 refine Att.attach_call hn hdf fun w s₀ s₁ mg mb fa o pm cd doc a vs ns G Y ho hd hcd hmg hobj hints hlen hg=>?_
 have KX:=hY w _ Y
 obtain ⟨fd,hb,hF⟩:=F w mg fa _ KX G.T.g hmg
 exact XH KX G.T.g G.T.b G.T.builtins G.T.nolimit hg hobj hints (Nat.le_trans hlen hn2) hr hF hb (fun H hO hS=>hsp w H a ns hlen hO hS) fun H e s'=>hCX w H s₁ e s'
theorem zbo {l:PySem.W.OpenLaw} {n k:Nat} {q:Program} {loose:List Str} {XP:(Str→Option Value)→Heap→Prop} {YP:World→Heap→Prop} {d:DefRec} {K:Params→PySem.W.Frag} {CX:CXT} {sp:PySem.W.Frag→Sp} {x:Str}
  (hn:l.most=some n) (hn2:n≤sizeLine) (hdf:d.params.defaults=[]) (hr:Room k callerA)
  (hY:∀ (w:World) (h:Heap),YP w h→(K w.params).In h)
  (F:∀ (w:World) (mg:Str→Option Value) (fa:Addr) (h:Heap),(K w.params).In h→h.Ns mainGlobals mg→mg d.name=some (.ref fa) →
   ∃ fd:FuncData,(∀ (s:Shared) (u:Value),BindsTo s fd ⟨[u],[]⟩ [(x,u)]) ∧
    ∀ base:Heap,(K w.params).In base→base.Ns mainGlobals mg→FnOk l.prog w (K w.params) mg base CX k fa fd [x] (sp (K w.params)))
  (hsp:∀ (K:PySem.W.Frag) (H:Hp) (a:Addr) (ns:List Int),ns.length≤n→WV H→SqL K H a (ns.map V.int)→sp K [.ref a] H (fun v _=>v=.bl true) fun _ _ _=>False)
  (hCX:∀ (H:Hp) (s:Shared) (e:Value) (s':Shared),CX [] H s (fun _ _ _=>False) e s'→False) :
  PySem.W.WalkO q loose XP YP l.row.toRowW d [] (fun f vs=>PySem.call f vs) :=
 Vp (K:=K) (CX:=fun _=>CX) (sp:=fun w=>sp (K w.params)) hn hn2 hdf hr hY F (fun w H a ns h1 h2 h3=>hsp (K w.params) H a ns h1 h2 h3) fun _ H s e s'=>hCX H s e s'
end L2
namespace L2
open PySem PySem.Spec PyProof.Rows
def qB (s:Stmt) (j:Nat):Stmt:=match s with
 | .ClassDef _ _ _ body _ _ _ _ _ _ _=>body.getD j (.Pass ⟨0,0,0,0⟩)
 | _=>.Pass ⟨0,0,0,0⟩
def zQ (s:Stmt):Arguments:=match s with
 | .FunctionDef _ a _ _ _ _ _ _ _ _=>a
 | _=>{ posonlyargs:=[],args:=[],vararg:=none,kwonlyargs:=[],kw_defaults:=[],kwarg:=none,defaults:=[] }
def zK (s:Stmt):List Stmt:=match s with
 | .FunctionDef _ _ b _ _ _ _ _ _ _=>b
 | _=>[]
def zj (s:Stmt):Scope:=match s with
 | .FunctionDef _ _ _ _ _ _ sc _ _ _=>sc
 | _=>{ kind:=.function,names:=[],isGenerator:=false,isCoroutine:=false }
abbrev CX0:CXT:=fun _ _ _ _ _ _=>False
abbrev E0:XK:=fun _ _ _=>False
structure Fun (K:PySem.W.Frag) (x qual:Str) (st:Stmt) (f:Addr) (fd:FuncData):Prop where
 ex:∃ (oc:Value) (od:Option Addr) (kV doc pm:Value) (an:Option Addr) (cdv ct:Value) (osl:Array (Option Value)),
  fd=PySem.W.fnOf x qual (zQ st) (zK st) (zj st) .none kV doc pm an cdv ct∧K.lookup f=some ⟨oc,od,.func fd,osl⟩∧PySem.W.codeIn K cdv qual=true
 kp:PySem.W.keepIn K (.ref f)=true
section
variable {P:Program} {w:World} {K:PySem.W.Frag} {mg:Str→Option Value} {base:Heap}
theorem Fun.binds {x qual:Str} {st:Stmt} {f:Addr} {fd:FuncData} {ps:List Str} (F:Fun K x qual st f fd)
  (h:∀ (kV doc pm:Value) (an:Option Addr) (cdv ct:Value) (us:List Value),us.length=ps.length→bindArgs (PySem.W.fnOf x qual (zQ st) (zK st) (zj st) .none kV doc pm an cdv ct) ⟨us,[]⟩=pure (ps.zip us)):Binds K fd ps []:=by
 obtain ⟨oc,od,kV,doc,pm,an,cdv,ct,osl,rfl,lk,hcd⟩:=F.ex
 exact .all (h kV doc pm an cdv ct)
theorem yc {x qual:Str} {st:Stmt} {f:Addr} {oc:Value} {od an:Option Addr} {osl:Array (Option Value)} {kV doc pm cdv ct:Value} (l:K.lookup f=some ⟨oc,od,.func (PySem.W.fnOf x qual (zQ st) (zK st) (zj st) .none kV doc pm an cdv ct),osl⟩)
  (c:PySem.W.codeIn K cdv qual=true) (k:PySem.W.keepIn K (.ref f)=true):Fun K x qual st f (PySem.W.fnOf x qual (zQ st) (zK st) (zj st) .none kV doc pm an cdv ct):=⟨⟨oc,od,kV,doc,pm,an,cdv,ct,osl,rfl,l,c⟩,k⟩
end
theorem wX {A:Around} {k:Nat} (hr:Room k A):A.units + 1 < cLine:=Nat.lt_of_le_of_lt (Nat.add_le_add_left (by decide:1≤64) _) hr.units
section
variable {X:Cx}
theorem pv (i:Nat) {x:Str} {pos:Pos} (hN:X.N[i]?=some x:=by rfl) (hv:Vis X.env.scope x:=by first | exact Or.inl rfl | exact Or.inr (Or.inl rfl) | exact Or.inr (Or.inr rfl)) (hd:(x == ("__debug__":Str))=false:=by decide)
  (hcd:(x == ("__classdict__":Str))=false:=by decide):PE X (.Name x pos) (zc i):=zax hN hv hd hcd
end
theorem xB {c A B:Prop} [Decidable c] (h1:c→A) (h2:¬ c→B):if c then A else B:=by
 by_cases h:c
 ·rw [if_pos h]
  exact h1 h
 ·rw [if_neg h]
  exact h2 h
def Same (H H':Hp):Prop:=∀ b o,H b=some o→H' b=some o
theorem Same.refl (H:Hp):Same H H:=fun _ _ h=>h
theorem Same.trans {H H1 H2:Hp} (a:Same H H1) (b:Same H1 H2):Same H H2:=fun c o h=>b c o (a c o h)
end L2
namespace L2
open PySem PySem.Spec PyProof.Rows
section
variable {X:Cx}
end
section
variable {κ:Type} [DecidableEq κ]
theorem J3 {kvs:List (κ × V)} {k:κ} (h:yf kvs k=none):¬ k∈kvs.map (·.1):=by
 intro m
 obtain ⟨p,hp,e⟩:=List.mem_map.mp m
 have q:(kvs.any fun kv=>decide (kv.1=k))=true:=List.any_eq_true.mpr ⟨p,hp,decide_eq_true e⟩
 rw [x5,h] at q
 exact absurd q (by simp)
theorem Qz {kvs:List (κ × V)} {k:κ} {v:V} (h:yf kvs k=some v):k∈kvs.map (·.1):=by
 have q:(kvs.any fun kv=>decide (kv.1=k))=true:=by
  rw [x5,h]
  all_goals rfl
 obtain ⟨p,hp,e⟩:=List.any_eq_true.mp q
 exact List.mem_map.mpr ⟨p,hp,of_decide_eq_true e⟩
theorem Vq:∀ {l:List κ} {k:κ},l.Nodup→¬ k∈l→(l ++ [k]).Nodup
 | [],k,_,_=>by simp
 | a :: r,k,h,hk=>by
  obtain ⟨h1,h2⟩:=List.nodup_cons.mp h
  show (a :: (r ++ [k])).Nodup
  refine List.nodup_cons.mpr ⟨fun m=>?_,Vq h2 fun m=>hk (List.mem_cons.mpr (Or.inr m))⟩
  rcases List.mem_append.mp m with q | q
  ·exact h1 q
  ·exact hk (List.mem_cons.mpr (Or.inl (List.mem_singleton.mp q).symm))
theorem QA {kvs:List (κ × V)} {k:κ} (v:V) (hn:(kvs.map (·.1)).Nodup) (h:yf kvs k=none):((yA kvs k v).map (·.1)).Nodup:=by
 rw [Xz v h,List.map_append]
 exact Vq hn (J3 h)
theorem Jj {p:κ × V} {r:List (κ × V)} {k:κ} (e:¬ p.1=k):Yl (p :: r) k=p :: Yl r k:=by
 unfold Yl
 rw [List.filter_cons,if_pos (by simp [e])]
theorem J4:∀ {kvs:List (κ × V)} {k:κ},¬ k∈kvs.map (·.1)→Yl kvs k=kvs
 | [],_,_=>rfl
 | p :: r,k,h=>by
  have h':¬ k∈r.map (·.1):=fun m=>by
   obtain ⟨q,hq,e⟩:=List.mem_map.mp m
   exact h (List.mem_map.mpr ⟨q,List.mem_cons.mpr (Or.inr hq),e⟩)
  rw [Jj fun e=>h (List.mem_map.mpr ⟨p,List.mem_cons.mpr (Or.inl rfl),e⟩),J4 h']
end
end L2
set_option Elab.async false
set_option linter.all false
set_option maxRecDepth 100000
set_option maxHeartbeats 4000000
namespace L2
open PySem PySem.Spec PyProof.Rows
def Cx.comp (X:Cx) (scope:Scope) (cl:List (Str × Addr)) (C:Addr) (N:List Str) (fp:List Addr) (s:Shared) (H:Hp):Cx :=
 { X with env:=compEnvC scope cl C X.env,N:=N,s₀:=s,H₀:=H,outer:=X.stack,ex:=fp,fn:=fun _=>false,pn:=[],xe:=fun _ _=>False }
structure jy (X:Cx) (scope:Scope) (cl:List (Str × Addr)) (ix:List Nat):Prop where
 clos:closureFor scope X.env=pure cl
 nocell:∀ y∈scope.names,y.2≠.cell
 kind:scope.kind=.function
 names:∀ y∈scope.names,y.2=.local→scope.names.lookup y.1=some .local
 sub:∀ y c,cl.lookup y=some c→X.env.cells.lookup y=some c
 has:∀ y,((relabel scope X.env).names.lookup y=some .cell∨(relabel scope X.env).names.lookup y=some .free)→∃ c,cl.lookup y=some c
 cap:∀ i∈ix,∃ y,X.N[i]?=some y∧(X.env.kindOf y=some .cell∨X.env.kindOf y=some .free)∧((relabel scope X.env).names.lookup y=some .cell∨(relabel scope X.env).names.lookup y=some .free)
def ja (scope:Scope) (env:Env):List (Str × Addr):=scope.names.foldl (fun cs y=>if y.2 == .free then (y.1,(env.cells.lookup y.1).getD 0) :: cs else cs) []
def Vr (osc:Scope) (N:List Str) (sc:Scope) (ix:List Nat):Bool :=
 sc.kind == .function && sc.names.all (fun y=>y.2 != .cell && (y.2 != .local || sc.names.lookup y.1 == some .local) && (y.2 != .free || osc.names.lookup y.1 == some .cell || osc.names.lookup y.1 == some .free)) &&
  ix.all fun i=>match N[i]? with
   | some y=>sc.names.lookup y == some .free
   | none=>false
theorem x6 {l:List (Str × NameKind)} {y:Str} {k:NameKind} (h:l.lookup y=some k):(y,k)∈l:=PySem.mem_of_lookup h
theorem vM {env:Env}:∀ {names:List (Str × NameKind)} {x:Str} {k:NameKind},(names.map fun (n,k)=>if (k == NameKind.free && env.scope.kind == .function && env.kindOf n == some .cell) then (n,NameKind.cell) else (n,k)).lookup x=some k →
  ∃ k',names.lookup x=some k'∧(k'=.free∨k'=k)
 | [],_,_,h=>by simp at h
 | (n,k') :: r,x,k,h=>by
  have ih:=@vM env r x k
  rw [List.map_cons] at h
  cases hx:x == n with
  | true =>
   by_cases hc:(k' == NameKind.free && env.scope.kind == .function && env.kindOf n == some .cell)=true
   ·have e:k'=.free:=by
     have:=(Bool.and_eq_true _ _ ▸ (Bool.and_eq_true _ _ ▸ hc).1).1
     simpa using this
    exact ⟨k',by simp [List.lookup_cons,hx],.inl e⟩
   ·simp only [if_neg hc,List.lookup_cons,hx] at h
    exact ⟨k',by simp [List.lookup_cons,hx],.inr (Option.some.inj h)⟩
  | false =>
   have h':(r.map fun (n,k)=>if (k == NameKind.free && env.scope.kind == .function && env.kindOf n == some .cell) then (n,NameKind.cell) else (n,k)).lookup x=some k:=by
    by_cases hc:(k' == NameKind.free && env.scope.kind == .function && env.kindOf n == some .cell)=true
    ·simp only [if_pos hc,List.lookup_cons,hx] at h;exact h
    ·simp only [if_neg hc,List.lookup_cons,hx] at h;exact h
   obtain ⟨q,e,r'⟩:=ih h'
   exact ⟨q,by simp only [List.lookup_cons,hx];exact e,r'⟩
theorem kn {env:Env}:∀ {names:List (Str × NameKind)} {x:Str},names.lookup x=some .free →
  ((names.map fun (n,k)=>if (k == NameKind.free && env.scope.kind == .function && env.kindOf n == some .cell) then (n,NameKind.cell) else (n,k)).lookup x=some .cell ∨
   (names.map fun (n,k)=>if (k == NameKind.free && env.scope.kind == .function && env.kindOf n == some .cell) then (n,NameKind.cell) else (n,k)).lookup x=some .free)
 | [],_,h=>by simp at h
 | (n,k') :: r,x,h=>by
  have ih:=@kn env r x
  rw [List.map_cons]
  cases hx:x == n with
  | true =>
   simp only [List.lookup_cons,hx] at h
   cases h
   by_cases hc:(NameKind.free == NameKind.free && env.scope.kind == .function && env.kindOf n == some .cell)=true
   ·left;simp only [if_pos hc,List.lookup_cons,hx]
   ·right;simp only [if_neg hc,List.lookup_cons,hx]
  | false =>
   simp only [List.lookup_cons,hx] at h
   by_cases hc:(k' == NameKind.free && env.scope.kind == .function && env.kindOf n == some .cell)=true
   ·simp only [if_pos hc,List.lookup_cons,hx];exact ih h
   ·simp only [if_neg hc,List.lookup_cons,hx];exact ih h
theorem Yq {env:Env}:∀ (l:List (Str × NameKind)) (cs:List (Str × Addr)),(∀ y∈l,y.2=.free→∃ c,env.cells.lookup y.1=some c) →
  (∀ y c,cs.lookup y=some c→env.cells.lookup y=some c)→∀ y c,(l.foldl (fun cs y=>if y.2 == .free then (y.1,(env.cells.lookup y.1).getD 0) :: cs else cs) cs).lookup y=some c→env.cells.lookup y=some c
 | [],_,_,h,y,c,e=>h y c e
 | z :: r,cs,hl,h,y,c,e=>by
  rw [List.foldl_cons] at e
  refine Yq r _ (fun y hy=>hl y (List.mem_cons_of_mem _ hy)) (fun y' c' e'=>?_) y c e
  by_cases hz:z.2=.free
  ·obtain ⟨c0,h0⟩:=hl z List.mem_cons_self hz
   have hb:(z.2 == NameKind.free)=true:=by simpa using hz
   rw [if_pos hb,h0,List.lookup_cons] at e'
   cases hq:y' == z.1 with
   | true =>
    rw [hq] at e'
    have e2:y'=z.1:=by simpa using hq
    cases e'
    rw [e2];exact h0
   | false=>rw [hq] at e';exact h _ _ e'
  ·have hb:(z.2 == NameKind.free)=false:=by simpa using hz
   rw [hb] at e'
   exact h _ _ e'
theorem XI {env:Env}:∀ (l:List (Str × NameKind)) (cs:List (Str × Addr)) (y:Str),((∃ c,cs.lookup y=some c)∨(y,NameKind.free)∈l) →
  ∃ c,(l.foldl (fun cs y=>if y.2 == .free then (y.1,(env.cells.lookup y.1).getD 0) :: cs else cs) cs).lookup y=some c
 | [],_,_,h=>h.elim id fun z=>nomatch z
 | z :: r,cs,y,h=>by
  rw [List.foldl_cons]
  refine XI r _ y ?_
  rcases h with ⟨c,h⟩ | h
  ·left
   by_cases hz:(z.2 == NameKind.free)=true
   ·rw [if_pos hz,List.lookup_cons]
    cases y == z.1 with
    | true=>exact ⟨_,rfl⟩
    | false=>exact ⟨c,h⟩
   ·rw [if_neg hz];exact ⟨c,h⟩
  ·rcases List.mem_cons.mp h with h | h
   ·left
    subst h
    rw [if_pos (by rfl),List.lookup_cons]
    simp
   ·exact .inr h
theorem YY {env:Env}:∀ (l:List (Str × NameKind)) (cs:List (Str × Addr)),(∀ y∈l,y.2=.free→∃ c,env.cells.lookup y.1=some c) →
  forIn (m:=Sem) l cs (fun x r=>match x with | (name,kind)=>if (kind == NameKind.free)=true then do let c ← cellOf env name;pure (ForInStep.yield ((name,c) :: r)) else pure (ForInStep.yield r)) =
   pure (l.foldl (fun cs y=>if y.2 == .free then (y.1,(env.cells.lookup y.1).getD 0) :: cs else cs) cs)
 | [],_,_=>rfl
 | (n,k) :: r,cs,h=>by
  rw [List.forIn_cons,List.foldl_cons]
  by_cases hz:(k == NameKind.free)=true
  ·obtain ⟨c,hc⟩:=h (n,k) List.mem_cons_self (by simpa using hz)
   have e:cellOf env n=pure c:=by unfold cellOf;rw [hc]
   simp only [hz,if_true,e,pure_bind]
   rw [YY r _ fun y hy=>h y (List.mem_cons_of_mem _ hy)]
   simp only [hc,Option.getD_some]
  ·simp only [hz,if_false,pure_bind]
   exact YY r _ fun y hy=>h y (List.mem_cons_of_mem _ hy)
theorem ko {X:Cx} {osc scope:Scope} {N:List Str} {ix:List Nat} (ok:X.Ok) (h:Vr osc N scope ix=true) (hs:X.env.scope=osc) (hN:X.N=N):jy X scope (ja scope X.env) ix:=by
 subst hs hN
 unfold Vr at h
 rw [Bool.and_eq_true,Bool.and_eq_true,List.all_eq_true,List.all_eq_true] at h
 obtain ⟨⟨h1,h2⟩,h3⟩:=h
 have p:∀ y∈scope.names,y.2≠.cell∧(y.2=.local→scope.names.lookup y.1=some .local)∧(y.2=.free→X.env.kindOf y.1=some .cell∨X.env.kindOf y.1=some .free):=fun y hy=>by
  have q:=h2 y hy
  rw [Bool.and_eq_true,Bool.and_eq_true] at q
  obtain ⟨⟨q1,q2⟩,q3⟩:=q
  refine ⟨by simpa using q1,fun e=>?_,fun e=>?_⟩
  ·rw [e] at q2;simpa using q2
  ·rw [e] at q3
   have q3':X.env.scope.names.lookup y.1=some .cell∨X.env.scope.names.lookup y.1=some .free:=by simpa using q3
   exact q3'
 have f:∀ y∈scope.names,y.2=.free→∃ c,X.env.cells.lookup y.1=some c:=fun y hy e=>ok.has y.1 ((p y hy).2.2 e)
 refine ⟨?_,fun y hy=>(p y hy).1,by simpa using h1,fun y hy=>(p y hy).2.1,fun y c e=>Yq scope.names [] f (fun _ _ z=>by simp at z) y c e,fun y hy=>?_,fun i hi=>?_⟩
 ·have e:=YY scope.names [] f
  unfold closureFor ja
  refine Eq.trans (congrArg (fun m=>m >>= fun s=>(pure s:Sem (List (Str × Addr)))) e) ?_
  rw [pure_bind]
 ·refine XI scope.names [] y (.inr ?_)
  rcases hy with hy | hy
  ·obtain ⟨k',e,z | z⟩:=vM hy
   ·subst z;exact x6 e
   ·subst z;exact absurd rfl (p _ (x6 e)).1
  ·obtain ⟨k',e,z | z⟩:=vM hy
   ·subst z;exact x6 e
   ·subst z;exact x6 e
 ·have q:=h3 i hi
  cases hy:X.N[i]? with
  | none=>rw [hy] at q;cases q
  | some y =>
   rw [hy] at q
   have q':scope.names.lookup y=some .free:=by simpa using q
   exact ⟨y,rfl,(p _ (x6 q')).2.2 rfl,kn q'⟩
def wU (ix:List Nat) (σ:St):St:=ix.map fun i=>(σ[i]?).getD none
def vx (ix:List Nat) (N:List Str):List Str:=ix.map fun i=>(N[i]?).getD ""
section
variable {X:Cx} {pins:List (Addr × Obj)} {σ:St} {H:Hp} {s:Shared} {scope:Scope} {cl:List (Str × Addr)} {ix:List Nat} {fp:List Addr} {C:Addr} {xs:List Str}
theorem Inv.compOk (I:Inv X pins σ H s) (S:jy X scope cl ix) (hC:C=s.heap.objs.size) (hf:∀ b∈fp,v0 X pins H b) (hl:∀ b∈fp,b < s.heap.objs.size) (N':List Str) :
  (X.comp scope cl C N' fp s H).Ok where
 mod:=I.ok.mod
 kind:=S.kind
 glob:=I.ok.glob
 blt:=I.ok.blt
 above:=Nat.le_of_eq hC.symm
 inj:=fun x y c h1 h2=>I.ok.inj x y c (S.sub x c h1) (S.sub y c h2)
 has:=fun x hx=>S.has x hx
 cab:=fun x c h1 _=>nomatch h1
 hd:=I.ok.hd
 frames:=I.ok.frames
 stk:=.inl rfl
 exf:=fun b hb=>⟨fun z=>absurd (hl b hb) (by rw [z];show ¬ C < _;rw [hC];exact Nat.lt_irrefl _),fun x c h=>(hf b hb).2.2.2.2.1 x c (S.sub x c h)⟩
 bs:=I.bs
 bsz:=Nat.le_trans I.ok.bsz I.sz
 noex:=fun b o e hb=>by
  rcases (hf b hb).2.2.2.1 with z | z
  ·exact I.ok.noex b o e z
  ·exact absurd (Nat.lt_of_lt_of_le (Heap.lt_size e) (Nat.le_trans I.ok.bsz z)) (Nat.lt_irrefl _)
 exfs:=fun b hb z=>by
  rcases List.mem_cons.mp (I.stkSub b z) with e | e
  ·exact (hf b hb).2.1 e
  ·exact (hf b hb).2.2.1 e
 funs:=I.stack
 frf:=I.stkFree
theorem Inv.comp {h₁:Heap} {m₁:Str→Option Value} {t':Nat} (I:Inv X pins σ H s) (S:jy X scope cl ix) (hC:C=s.heap.objs.size) (hf:∀ b∈fp,v0 X pins H b) (hl:∀ b∈fp,b < s.heap.objs.size)
  (hn:h₁.Ns C m₁) (hk:∀ b o,s.heap.get? b=some o→h₁.get? b=some o) :
  Inv (X.comp scope cl C (xs ++ vx ix X.N) fp s H) [] (List.replicate xs.length none ++ wU ix σ) H { s with heap:=h₁,toks:=t' } where
 ok:=I.compOk S hC hf hl _
 os:=rfl
 bare:=I.bare
 base:=Un.kept hk
 loc:=by
  refine ⟨m₁,hn,fun i y v e1 e2 e3=>?_⟩
  by_cases hi:i < xs.length
  ·rw [List.getElem?_append_left (by simpa using hi),List.getElem?_replicate,if_pos hi] at e2
   cases e2
  ·have e1':(xs ++ vx ix X.N)[i]?=some y:=e1
   rw [List.getElem?_append_right (by omega)] at e1'
   rw [List.getElem?_append_right (by rw [List.length_replicate];omega),List.length_replicate] at e2
   generalize i - xs.length=j at e1' e2
   unfold vx at e1'
   unfold wU at e2
   rw [List.getElem?_map] at e1' e2
   cases hj:ix[j]? with
   | none=>rw [hj] at e1';cases e1'
   | some k =>
    rw [hj] at e1' e2
    obtain ⟨y',c1,c2,c3⟩:=S.cap k (List.mem_of_getElem? hj)
    have ey:y'=y:=by
     have q:(X.N[k]?).getD ""=y:=Option.some.inj e1'
     rw [c1] at q
     exact q
    subst ey
    have ev:σ[k]?=some (some v):=by
     have q:(σ[k]?).getD none=some v:=Option.some.inj e2
     cases hs:σ[k]? with
     | none=>rw [hs] at q;cases q
     | some o=>rw [hs] at q;exact congrArg some q
    obtain ⟨m,hm,hv⟩:=I.loc
    obtain ⟨u,r,l⟩:=hv k y' v c1 ev (c2.elim (fun z=>.inr (.inl z)) fun z=>.inr (.inr z))
    refine ⟨u,r,.inr ⟨c3,?_⟩⟩
    rcases l with ⟨l1,_⟩ | ⟨_,c,lc,⟨o,ho,hd⟩⟩
    ·rcases c2 with z | z <;> (rw [l1] at z;cases z)
    ·obtain ⟨c',hc'⟩:=S.has y' c3
     have e:=S.sub _ _ hc'
     rw [lc] at e
     cases e
     exact ⟨c,hc',o,hk _ _ ho,hd⟩
 cell:=fun x c e=>by
  obtain ⟨v,o,ho,hd⟩:=I.cell x c (S.sub x c e)
  exact ⟨v,o,hk _ _ ho,hd⟩
 free:=I.hok.fresh (Nat.le_of_eq hC.symm)
 freeC:=fun x c e=>I.freeC x c (S.sub x c e)
 pin:=fun p hp=>absurd (show p∈([]:List (Addr × Obj)) from hp) (by simp)
 hok:=I.hok.kept hk
 len:=by
  show (List.replicate xs.length none ++ wU ix σ).length=(xs ++ vx ix X.N).length
  rw [List.length_append,List.length_append,List.length_replicate,wU,vx,List.length_map,List.length_map]
theorem Inv.uncomp {s':Shared} {σ':St} {H':Hp} {N':List Str} {h':Heap} (I:Inv X pins σ H s) (hC:C=s.heap.objs.size) (hf:∀ b∈fp,v0 X pins H b)
  (J:Inv (X.comp scope cl C N' fp s H) [] σ' H' s') (hb:Heap.SameBut C s'.heap h'):Inv X pins σ H' { s' with heap:=h' }:=by
 have lt:∀ b o,s.heap.get? b=some o→b≠C:=fun b o e=>by
  rw [hC];exact Nat.ne_of_lt (Heap.lt_size e)
 have B:Un (frs X.stack) fp H H' s.heap s'.heap:=J.base
 refine I.call' (s':={ s' with heap:=h' }) (ch:=fp) J.os ?_ ?_ J.bare ?_
 ·exact ⟨fun b o e n h1 h2=>(hb.2 b (lt b o e)).trans (B.keep b o e n h1 h2),fun b o e n h1 h2=>by
   obtain ⟨sl,q⟩:=B.slot b o e n h1 h2
   exact ⟨sl,(hb.2 b (lt b o e)).trans q⟩,B.free,fun b o e h1=>by
   obtain ⟨o',q⟩:=B.there b o e h1
   exact ⟨o',(hb.2 b (lt b o e)).trans q⟩,B.tups,B.frzs,B.tbls⟩
 ·intro b o e
  refine (J.hok b o e).stay (fun c u hc q=>(hb.2 c ?_).trans q) (fun _ q=>q) fun _ _ q=>q
  have hC0:H' C=none:=J.free
  rintro rfl
  rcases hc with rfl | hc
  ·rw [hC0] at e;cases e
  ·rw [hC0] at hc;cases hc
 ·intro b hb'
  obtain ⟨f0,f1,f2,f3,f4,f5⟩:=hf b hb'
  exact ⟨f3,f1,f4,f5⟩
end
def PTs (X:Cx) (ifs:List Expr) (t:TT):Prop :=
 ∀ (pins:List (Addr × Obj)) (s:Shared) (σ:St) (H:Hp) (Q:Bool→Hp→Prop),Inv X pins σ H s→t σ H Q →
  wpAny (model X.prog X.w) X.A (forIn ifs true fun c r=>if r=true then do let ok ← isTrue c X.env (eval c X.env);pure (ForInStep.yield ok) else pure (ForInStep.yield r)) (TP X pins σ Q) X.xe s
def qq:TT:=fun _ H Q=>Q true H
theorem Vs {X:Cx}:PTs X [] qq:=fun _ _ _ H _ I h=>wpAny_tests_nil ⟨H,I,h⟩
theorem Vt {X:Cx} {c:Expr} {t:TT} (h:PT X c t):PTs X [c] t:=fun pins s σ H Q I q=>wpAny_tests_one (h pins s σ H Q I q)
section
variable {prog:Program} {w:World} {A:Around} {R:Result→Shared→Prop} {s:Shared}
theorem YZ {elt target iter:Expr} {ifs:List Expr} {scope:Scope} {pos:Pos} {it acc:Value} {env:Env} (W:Nat→Shared→Prop) {EE:Value→Shared→Prop}
  (hE:∀ e s',EE e s'→notedBy (model prog w) A env (fun e s'=>R (.error e) s') e s')
  (turn:∀ n s,W n s→wpAny (model prog w) A (pyNext it) (fun r s₁=>match r with
   | none=>R (.ok .next) s₁
   | some v=>wpAny (model prog w) A (letOwnedTupleGo target it v) (fun _ t₁=>wpAny (model prog w) A (assign target env v) (fun _ s₂ =>
     wpAny (model prog w) A (forIn ifs true fun c r=>if r=true then do let ok ← isTrue c env (eval c env);pure (ForInStep.yield ok) else pure (ForInStep.yield r)) (fun ok s₃ =>
      if ok=true then wpAny (model prog w) A (eval elt env) (fun x s₄=>wpAny (model prog w) A (call (.builtin "list.append") [acc,x]) (fun _ s₅=>∃ m,m < n∧W m s₅) EE s₄) EE s₃
      else ∃ m,m < n∧W m s₃) EE s₂) EE t₁) EE s₁) EE s)
  (n:Nat) (h:W n s):codeAny (model prog w) A (.compLoop (.ListComp elt [⟨target,iter,ifs,0⟩] scope pos) 0 it acc env) R s:=by
 refine codeAny_loop rfl W (fun n s hW=>?_) n h
 show wpAny _ A ((compTurn (.ListComp elt [⟨target,iter,ifs,0⟩] scope pos) 0 it acc env).onRaise (fun x=>do noteFrame x env;theTreesLotGoes x)) _ _ s
 refine wpAny_noted (wpAny_mono ?_ (fun _ _ q=>q) hE)
 rw [compTurn_list]
 refine wpAny_bind (wpAny_standAt (wpAny_bind (thn (turn n s hW) fun r s₁ h₁=>?_)))
 cases r with
 | none=>exact wpAny_pure h₁
 | some v =>
  refine wpAny_bind (thn h₁ fun _ t₁ k₁=>?_)
  refine wpAny_bind (thn k₁ fun _ s₂ h₂=>wpAny_bind (thn h₂ fun ok s₃ h₃=>?_))
  cases ok with
  | false=>exact wpAny_pure ⟨rfl,h₃⟩
  | true=>exact wpAny_bind (wpAny_bind (thn h₃ fun x s₄ h₄=>wpAny_bind (thn h₄ fun _ s₅ h₅=>wpAny_pure (wpAny_pure ⟨rfl,h₅⟩))))
end
def yS (wi:TI) (g:TG) (tt:TT) (te:TE) (k:Nat) (ix:List Nat):TE:=fun σ H Q=>wi σ H fun J H1=>∀ D,H1 D=none →
 ∃ W:Nat→Nat→List V→St→Hp→Prop,(∃ m,W 0 m [] (List.replicate k none ++ wU ix σ) (upd H1 D (.lst [])))∧∀ i m ys τ H,W i m ys τ H→H D=some (.lst ys) ∧
  ((J.stop i H∧Q (.ref D) H)∨(J.go i H∧ys.length < sizeLine∧∃ N:V→St→Hp→Prop,
   (∀ v τ' H',N v τ' H'→H' D=some (.lst ys)∧∃ m',m' < m∧W (i + 1) m' (ys ++ [v]) τ' (upd H' D (.lst (ys ++ [v]))))∧∃ Nf:St→Hp→Prop,(∀ τ' H',Nf τ' H'→∃ m',m' < m∧W (i + 1) m' ys τ' H') ∧
   ∀ x H',J.yld i H x H'→g x τ H' fun τ2 H2=>tt τ2 H2 fun b H3=>if b=true then te τ2 H3 fun v H4=>N v τ2 H4 else Nf τ2 H3))
section
variable {X:Cx} {elt iter tg:Expr} {ifs:List Expr} {scope:Scope} {pos:Pos} {cl:List (Str × Addr)} {ix:List Nat} {xs:List Str} {wi:TI} {g:TG} {tt:TT} {te:TE}
theorem qV (S:jy X scope cl ix) (hc:X.calm=true) (hi:PI X tg iter wi)
  (hg:∀ C fp s H,PG (X.comp scope cl C (xs ++ vx ix X.N) fp s H) tg g) (ht:∀ C fp s H,PTs (X.comp scope cl C (xs ++ vx ix X.N) fp s H) ifs tt)
  (he:∀ C fp s H,PE (X.comp scope cl C (xs ++ vx ix X.N) fp s H) elt te)
  {pins:List (Addr × Obj)} {s:Shared} {σ:St} {H:Hp} {Q:VK} (I:Inv X pins σ H s) (h:yS wi g tt te xs.length ix σ H Q) {RR:Value→Addr→Result→Shared→Prop}
  (hR:∀ v u s' C,RelV v u→(∃ H',Q v H'∧(∃ m,s'.heap.Ns C m)∧(∀ h',Heap.SameBut C s'.heap h'→Inv X pins σ H' { s' with heap:=h' })∧v0 X pins H' C)→RR u C (.ok .next) s') :
  wpAny (model X.prog X.w) X.A (eval iter X.env) (fun x s₁=>wpAny (model X.prog X.w) X.A (pyIter x) (fun it s₂=>wpAny (model X.prog X.w) X.A (newList []) (fun acc s₃ =>
   wpAny (model X.prog X.w) X.A (newFunctionEnv scope X.env.globals cl [] X.env.qual none .none (some X.env)) (fun cenv s₄ =>
    codeAny (model X.prog X.w) X.A (.compStart (.ListComp elt [⟨tg,iter,ifs,0⟩] scope pos) 0 it acc { cenv with scope:=relabel scope X.env }) (RR acc cenv.locals) s₄) X.xe s₃) X.xe s₂) X.xe s₁) X.xe s:=by
 refine thn (hi pins s σ H _ I h) fun v s1 h1=>thn h1 fun itv s2 h2=>?_
 obtain ⟨it,fp,tn,J,H2,e,I2,T,st2,f2,hW⟩:=h2
 subst e
 refine wpAny_newObj_type (wpAny_newFunctionEnv S.nocell (fun y hy=>nomatch hy) (fun h₁ hns₁ hsb₁=>?_) S.kind)
 dsimp only at hns₁ hsb₁ ⊢
 obtain ⟨W,⟨m0,w0⟩,turn⟩:=hW s2.heap.objs.size I2.fresh
 have I3:=I2.lnew (t':=s2.toks) (ys:=[]) (its:=[]) .nil (Nat.zero_le _)
 have hl3:∀ b∈fp,b < s2.heap.objs.size:=fun b hb=>by
  obtain ⟨o,e,_⟩:=T.obj _ _ st2 b hb
  exact Heap.lt_size e
 generalize hs3:({ s2 with heap:=s2.heap.push { cls:=.type "list",data:=.seq ([]:List Value).toArray },toks:=s2.toks }:Shared)=s3 at I3
 have hs3h:s3.heap=s2.heap.push { cls:=.type "list",data:=.seq ([]:List Value).toArray }:=by rw [← hs3]
 have hsz:s3.heap.objs.size=s2.heap.objs.size + 1:=by rw [hs3h,Heap.size_push]
 have f3:∀ b∈fp,v0 X pins (upd H2 s2.heap.objs.size (.lst [])) b:=fun b hb=>by
  obtain ⟨q0,q⟩:=f2 b hb
  exact ⟨by rw [zl (Nat.ne_of_lt (hl3 b hb))];exact q0,q⟩
 have hl3':∀ b∈fp,b < s3.heap.objs.size:=fun b hb=>by rw [hsz];exact Nat.lt_succ_of_lt (hl3 b hb)
 rw [← hs3h] at hns₁ hsb₁ ⊢
 have hk:∀ b o,s3.heap.get? b=some o→h₁.get? b=some o:=fun b o e=>(hsb₁.2 b (Nat.ne_of_lt (Heap.lt_size e))).trans (Heap.get?_push_of_some _ e)
 have hk2:∀ b o,s2.heap.get? b=some o→s3.heap.get? b=some o:=fun b o e=>by rw [hs3h];exact Heap.get?_push_of_some _ e
 have J0:=I3.comp (xs:=xs) (t':=s2.toks) (C:=s3.heap.objs.size) S rfl f3 hl3' hns₁ hk
 have st3:tn 0 h₁:=T.keep _ _ _ st2 fun b _ o e=>hk b o (hk2 b o e)
 have loop:∀ tk,codeAny (model X.prog X.w) X.A (.compLoop (.ListComp elt [⟨tg,iter,ifs,0⟩] scope pos) 0 (.ref it) (.ref s2.heap.objs.size) (compEnvC scope cl s3.heap.objs.size X.env))
   (RR (.ref s2.heap.objs.size) s3.heap.objs.size) { s3 with heap:=h₁,toks:=tk }:=by
  intro tk
  refine YZ (EE:=fun _ _=>False) (fun n s'=>∃ i ys τ H',Inv (X.comp scope cl s3.heap.objs.size (xs ++ vx ix X.N) fp s3 (upd H2 s2.heap.objs.size (.lst []))) [] τ H' s'∧tn i s'.heap∧(∀ b∈fp,H' b=none)∧W i n ys τ H')
   (fun _ _ z=>z.elim) ?_ m0 ⟨0,[],_,_,J0.tok tk,st3,fun b hb=>(f3 b hb).1,w0⟩
  rintro n s' ⟨i,ys,τ,H',I',st',fr',w'⟩
  have stat:∀ {H':Hp},(∀ b∈fp,H' b=none)→∀ b∈fp,v0 (X.comp scope cl s3.heap.objs.size (xs ++ vx ix X.N) fp s3 (upd H2 s2.heap.objs.size (.lst []))) [] H' b:=fun hn b hb =>
   ⟨hn b hb,(I'.ok.exf b hb).1,I'.ok.exfs b hb,.inl hb,(I'.ok.exf b hb).2,fun p hp=>absurd (show p∈([]:List (Addr × Obj)) from hp) (by simp)⟩
  obtain ⟨hD,⟨stop,q⟩ | ⟨go,hz,N,hN,Nf,hNf,step⟩⟩:=turn i n ys τ H' w'
  ·refine thn (T.done (X.comp scope cl s3.heap.objs.size (xs ++ vx ix X.N) fp s3 (upd H2 s2.heap.objs.size (.lst []))) rfl rfl rfl hc i [] s' τ H' _ I' (stat fr') st' stop) fun r s4 ⟨hr,I4⟩=>?_
   subst hr
   refine hR (.ref s2.heap.objs.size) _ s4 _ rfl ⟨H',q,?_,fun h' hb=>I3.uncomp rfl f3 I4 hb,I3.fpOk (Nat.le_refl _) I4.free⟩
   obtain ⟨m,hn,_⟩:=I4.loc
   exact ⟨m,hn⟩
  ·refine thn (T.item (X.comp scope cl s3.heap.objs.size (xs ++ vx ix X.N) fp s3 (upd H2 s2.heap.objs.size (.lst []))) rfl rfl rfl hc i [] s' τ H' _ I' (stat fr') st' go) fun r s4 ⟨u,hr,h4⟩=>?_
   subst hr
   refine thn h4 fun _ s5 ⟨x,H5,I5,r5,y5,st5,fr5⟩=>?_
   have I5':=I5.pinned (stat fr5) (T.obj _ _ st5)
   refine thn (hg _ _ _ _ _ s5 τ H5 x u _ I5' r5 (step x H5 y5)) fun _ s6 ⟨τ6,H6,I6,q6⟩=>?_
   refine thn (ht _ _ _ _ _ s6 τ6 H6 _ I6 q6) fun ok s7 ⟨H7,I7,q7⟩=>?_
   have back:∀ {s8:Shared} {H8:Hp} {m:Nat} {zs:List V},Inv (X.comp scope cl s3.heap.objs.size (xs ++ vx ix X.N) fp s3 (upd H2 s2.heap.objs.size (.lst []))) ([] ++ qL fp s5.heap) τ6 H8 s8→W (i + 1) m zs τ6 H8 →
     ∃ i ys τ H',Inv (X.comp scope cl s3.heap.objs.size (xs ++ vx ix X.N) fp s3 (upd H2 s2.heap.objs.size (.lst []))) [] τ H' s8∧tn i s8.heap∧(∀ b∈fp,H' b=none)∧W i m ys τ H':=fun {s8 H8 m zs} I8 w8=>by
    refine ⟨i + 1,zs,τ6,H8,I8.unpinned,T.keep _ _ _ st5 fun b hb o e=>(I8.pin (b,o) (List.mem_append_right _ (List.mem_append_right _ (vI hb e)))).1,fun b hb=>?_,w8⟩
    obtain ⟨o,e,d⟩:=T.obj _ _ st5 b hb
    exact (I8.pin (b,o) (List.mem_append_right _ (List.mem_append_right _ (vI hb e)))).2.1
   cases ok with
   | false =>
    rw [if_neg Bool.false_ne_true] at q7 ⊢
    obtain ⟨m',hm,w7⟩:=hNf _ _ q7
    exact ⟨m',hm,back I7 w7⟩
   | true =>
    rw [if_pos rfl] at q7 ⊢
    refine thn (he _ _ _ _ _ s7 τ6 H7 _ I7 q7) fun y s8 ⟨v8,H8,I8,r8,n8⟩=>?_
    obtain ⟨hD8,m',hm,w8⟩:=hN _ _ _ n8
    refine thn (xo _ s8 τ6 H8 (.ref s2.heap.objs.size) [v8] (.ref s2.heap.objs.size) [y] (fun _ Hn=>∃ m,m < n∧W (i + 1) m (ys ++ [v8]) τ6 Hn) I8 rfl (.cons r8 .nil) ⟨_,ys,v8,rfl,rfl,hD8,hz,m',hm,w8⟩) fun _ s9 ⟨_,H9,I9,_,m9,hm9,w9⟩=>?_
    exact ⟨m9,hm9,back I9 w9⟩
 have e3:∀ tk,({ s3 with heap:=h₁,toks:=tk }:Shared)={ s2 with heap:=h₁,toks:=tk }:=fun tk=>by rw [← hs3]
 have loop':∀ tk,codeAny (model X.prog X.w) X.A (.compLoop (.ListComp elt [⟨tg,iter,ifs,0⟩] scope pos) 0 (.ref it) (.ref s2.heap.objs.size) (compEnvC scope cl s3.heap.objs.size X.env))
   (RR (.ref s2.heap.objs.size) s3.heap.objs.size) { s2 with heap:=h₁,toks:=tk }:=fun tk=>by rw [← e3];exact loop tk
 exact codeAny_compStart_list (loop' _) (T.self _ 0 _ _ _ st3 (loop' _))
theorem Vu {osc:Scope} {N:List Str} (hc:X.calm=true) (hD:Vr osc N scope ix=true) (hi:PI X tg iter wi)
  (hg:∀ C fp s H,PG (X.comp scope (ja scope X.env) C (xs ++ vx ix X.N) fp s H) tg g) (ht:∀ C fp s H,PTs (X.comp scope (ja scope X.env) C (xs ++ vx ix X.N) fp s H) ifs tt)
  (he:∀ C fp s H,PE (X.comp scope (ja scope X.env) C (xs ++ vx ix X.N) fp s H) elt te) (hsc:X.env.scope=osc:=by rfl) (hN:X.N=N:=by rfl) (hs:∀ x,foldedSetIterable iter X.env x=pure x:=by intro _;rfl) :
  PE X (.ListComp elt [⟨tg,iter,ifs,0⟩] scope pos) (yS wi g tt te xs.length ix):=by
 intro pins s σ H Q I h
 have S:=ko I.ok hD hsc hN
 rw [eval_ListComp]
 refine wpAny_comprehension_free (use:=none) rfl hs S.clos S.kind S.names (qV S hc hi hg ht he I h (RR:=fun acc C=>compPost (model X.prog X.w) X.A X.xe none (EP X pins σ Q) acc C) ?_)
 rintro v u s' C r ⟨H',q,⟨m,hn⟩,hI,_⟩
 exact ⟨m,hn,fun h' hb=>⟨v,H',hI h' hb,r,q⟩⟩
theorem qW {osc:Scope} {N:List Str} {y:Str} {py:Pos} {j:Nat} {spos:Pos} (hNd:X.N.Nodup) (hj:X.N[j]?=some y) (hc:X.calm=true) (hy:Loc X.env.scope y) (hD:Vr osc N scope ix=true) (hi:PI X tg iter wi)
  (hg:∀ C fp s H,PG (X.comp scope (ja scope X.env) C (xs ++ vx ix X.N) fp s H) tg g) (ht:∀ C fp s H,PTs (X.comp scope (ja scope X.env) C (xs ++ vx ix X.N) fp s H) ifs tt)
  (he:∀ C fp s H,PE (X.comp scope (ja scope X.env) C (xs ++ vx ix X.N) fp s H) elt te) (hsc:X.env.scope=osc:=by rfl) (hN:X.N=N:=by rfl)
  (hsw:swapsWith (.ListComp elt [⟨tg,iter,ifs,0⟩] scope pos) (some (.Name y py)) spos.line X.env=pure true:=by rfl)
  (hs:∀ x,foldedSetIterable iter X.env x=pure x:=by intro _;rfl) (hf:X.fn y=true∨X.env.scope.names.lookup y=some .local:=by first | exact .inl rfl | exact .inr rfl | assumption) :
  PS X (.Assign [.Name y py] (.ListComp elt [⟨tg,iter,ifs,0⟩] scope pos) spos) (zN (yS wi g tt te xs.length ix) (zo j)):=by
 intro pins s σ H D I h
 have S:=ko I.ok hD hsc hN
 rw [exec_Assign_Name_used _ _ _ _ hsw]
 refine wpAny_bind (wpAny_standAt (wpAny_bind ?_))
 show wpAny _ X.A (do let _ ← comprehension (.ListComp elt [⟨tg,iter,ifs,0⟩] scope pos) scope X.env _ (newList []) false (eval iter X.env) (some (assign (.Name y py) X.env))) _ _ s
 refine wpAny_bind (thn (wpAny_comprehension_free (use:=some (assign (.Name y py) X.env)) (Q:=fun _ s'=>SP X pins D .next s') rfl hs S.clos S.kind S.names
  (qV S hc hi hg ht he I h (RR:=fun acc C=>compPost (model X.prog X.w) X.A X.xe (some (assign (.Name y py) X.env)) (fun _ s'=>SP X pins D .next s') acc C) ?_)) fun _ s' hq=>wpAny_pure (wpAny_pure hq))
 rintro v u s' C r ⟨H',q,⟨m,hn⟩,hI,f0,f1,f2,f3,f4,f5⟩
 have I':Inv X pins σ H' s':=hI s'.heap (.refl ..)
 show wpAny _ X.A (assign (.Name y py) X.env u) _ _ _
 refine wpAny_assign_Name (Ye I' hNd hj hy r (fun s2 I2 hx=>?_) hf)
 obtain ⟨a,hb,ha⟩:=hx
 have hCa:C≠a:=by
  rcases ha with rfl | ha
  ·exact f1
  ·exact Ne.symm (f4 _ _ ha)
 refine ⟨m,hn.sameBut hb hCa,fun h' hb'=>⟨_,H',?_,q⟩⟩
 exact I2.turned (t':=s2.toks) (fun b o hne e=>(hb'.2 b hne).trans e) f0 f1 f3 f4 f5
end
end L2
namespace L2
open PySem PySem.Spec PyProof.Rows
abbrev jM:R2:=fun x y H Q=>∃ i j,x=.str i∧y=.str j∧i.length + j.length≤sizeLine∧Q (.str (i ++ j)) H
abbrev zcH:R2:=fun x y H Q=>∃ i j,x=.str i∧y=.str j∧Q (.bl (!(Builtin.Str.occurrences j i 0 j.length 1).isEmpty)) H
abbrev zbF:R2:=fun x y H Q=>∃ i j,x=.str i∧y=.str j∧Q (.bl (!(!(Builtin.Str.occurrences j i 0 j.length 1).isEmpty))) H
abbrev zcI:R2:=fun x y H Q=>∃ a b,x=.bl a∧y=.bl b∧Q (.bl (a == b)) H
abbrev zbG:R2:=fun x y H Q=>∃ a b,x=.bl a∧y=.bl b∧Q (.bl (a != b)) H
abbrev zcJ:R2:=fun x y H Q=>y=.non∧Q (.bl (decide (x=.non))) H
abbrev zcf:R2:=fun x y H Q=>y=.non∧Q (.bl (!decide (x=.non))) H
abbrev RC:=List V→Hp→VK→Prop
abbrev kP (K:PySem.W.Frag):RC:=fun xs H Q=>∃ x n,xs=[x]∧ZW K x H n∧Q (.int n) H
abbrev vN (K:PySem.W.Frag):RC:=fun xs H Q=>∃ x c t b,xs=[x,c]∧kg K H x t∧(∃ T,c=.ty T∧PySem.W.kitOne K t (.type T)=some b)∧Q (.bl b) H
abbrev zcK (K:PySem.W.Frag):RC:=fun xs H Q=>∃ (a:Addr) (bs:List Bool),xs=[.ref a]∧SqL K H a (bs.map V.bl)∧Q (.bl (bs.all id)) H
abbrev zcL:RC:=fun xs H Q=>∃ i,xs=[.int i]∧Q (.int (if i < 0 then -i else i)) H
abbrev zcM:RC:=fun xs H Q=>∃ i,xs=[.int i]∧i.natAbs.log2 < 1920∧Q (.str (toString i)) H
abbrev RM:=V→List V→Hp→VK→Prop
abbrev JD:RM:=fun x xs H Q=>∃ a b,x=.str a∧xs=[.str b]∧Q (.bl (0 + b.length≤a.length && Builtin.Str.subAt a b 0)) H
def spP (pre:List V→Hp→Prop) (post:List V→Hp→V→Hp→Prop):Sp:=fun vs H Q _=>pre vs H∧∀ r H',post vs H r H'→Same H H'→Q r H'
abbrev zcN:RC:=fun xs H Q=>∃ (x:Str) (n:Int),xs=[.str x]∧PySem.intText? x=some n∧x.length≤640∧Q (.int n) H
abbrev zaJ:RM:=fun x xs H Q=>∃ a:Str,x=.str a∧xs=[]∧(∀ c∈a.cps.toList,c < 128)∧a.length≤sizeLine∧∀ y:Str,y.length=a.length→Q (.str y) H
theorem qC {H:Hp} {p:Addr} {o:HO} (h:H p=none):∃ H',H'=upd H p o∧Same H H'∧H' p=some o :=
 ⟨_,rfl,fun b u e=>by rw [zl (zG e h)];exact e,zf⟩
theorem isV (p:Addr) {H:Hp} {o:HO} (h:H p=none):Same H (upd H p o):=fun b u e=>by rw [zl (zG e h)];exact e
theorem qX:bootBuiltins "len"=some (.builtin "len"):=by decide +kernel
theorem ym:bootBuiltins "isinstance"=some (.builtin "isinstance"):=by decide +kernel
theorem kQ:bootBuiltins "sorted"=some (.builtin "sorted"):=by decide +kernel
theorem J5:bootBuiltins "str"=some (.type "str"):=by decide +kernel
theorem kR:bootBuiltins "int"=some (.type "int"):=by decide +kernel
theorem Vv:bootBuiltins "bool"=some (.type "bool"):=by decide +kernel
theorem jz:bootBuiltins "list"=some (.type "list"):=by decide +kernel
theorem qY:bootBuiltins "tuple"=some (.type "tuple"):=by decide +kernel
theorem Y0:bootBuiltins "dict"=some (.type "dict"):=by decide +kernel
section
variable {X:Cx}
def big:Int:=10 ^ 200
def XJ (_ j:Int):Prop:=0 < j∧j < big
def CMulB (i j:Int):Prop:=(-big < i∧i < big)∧(-big < j∧j < big)
theorem qZ {j:Int} (h:j.natAbs < 10 ^ 200):j.natAbs.log2 < 700:=by
 by_cases h0:j.natAbs=0
 ·rw [h0];decide
 ·exact (Nat.log2_lt h0).mpr (Nat.lt_of_lt_of_le h (by decide +kernel))
theorem Y1 {j:Int} (h:-big < j∧j < big):j.natAbs < 10 ^ 200:=by
 have e:big=((10 ^ 200:Nat):Int):=by decide +kernel
 rw [e] at h
 omega
theorem CMulB.ok {i j:Int} (h:CMulB i j):IntMulOk i j:=by
 have b:∀ k:Int,(-big < k∧k < big)→Builtin.Int.intBits k≤2 ^ 20:=fun k hk=>by
  have q:=qZ (Y1 hk)
  unfold Builtin.Int.intBits
  split <;> omega
 exact .of_bits (b i h.1) (b j h.2)
theorem xg:OpR X (binaryOp .Mult) (rI CMulB fun i j=>.int (i * j)):=opI fun _ _ _ _ _ _ _ hc q=>mul_int q hc.ok
theorem q8:OpR X (binaryOp .FloorDiv) (rI XJ fun i j=>.int (i / j)):=opI fun i j _ _ _ _ _ hc q=>by
 have h1:(0:Int) < j:=hc.1
 refine floordiv_int (by omega) ?_ (.inl (PyProof.noPylong_of_log2 (Nat.lt_trans (qZ (Y1 ⟨by have:=hc.2;omega,hc.2⟩)) (by decide))))
 rw [Int.fdiv_eq_ediv_of_nonneg i (by omega)]
 exact q
theorem vy:vp X (.builtin "isinstance") (vN X.K):=by
 intro pins s σ H xs us Q I r h
 obtain ⟨x,c,t,b,rfl,ty,⟨T,rfl,e⟩,q⟩:=h
 obtain ⟨u,w',rfl,r1,r2⟩:=zag r
 cases r2
 exact Jf I r1 ty e fun tk=>⟨.bl b,H,I.tok tk,rfl,q⟩
def Its (x:Str):It:=⟨fun i _=>i < x.cps.size,fun i H v H'=>H'=H∧∃ c,x.cps[i]?=some c∧v=.str ⟨#[c]⟩,fun i _=>x.cps.size≤i⟩
def zcO (tl:TE):TI:=fun σ H R=>tl σ H fun x H1=>∃ z,x=.str z∧R (Its z) H1
def q9:V→Option Int→Option Int→Hp→VK→Prop:=fun x lo hi H Q=>∃ z,x=.str z∧z.length≤sizeLine∧Q (.str (Txt.slice z lo hi)) H
theorem Y2:SlR X q9:=by
 intro pins s σ H x v vl vu lo hi sl Q I rx hs pl pu h
 obtain ⟨z,rfl,hz,q⟩:=h
 obtain ⟨t,rfl⟩:=rx
 obtain ⟨o,ho,hc,hd⟩:=hs
 refine ⟨"str",_,F.slot_str_getitem.lookup,typeIs_str _ _ _,?_⟩
 obtain ⟨l,e1,e2⟩:∃ l:Option (Int × Tok),vl=partValue l∧lo=l.map (·.1):=by
  cases pl with
  | none=>exact ⟨none,rfl,rfl⟩
  | int i t=>exact ⟨some (i,t),rfl,rfl⟩
 obtain ⟨u,e3,e4⟩:∃ l:Option (Int × Tok),vu=partValue l∧hi=l.map (·.1):=by
  cases pu with
  | none=>exact ⟨none,rfl,rfl⟩
  | int i t=>exact ⟨some (i,t),rfl,rfl⟩
 subst e1 e2 e3 e4
 exact wpAny_getItem_str_slice (l:=l) (u:=u) (st:=none) ⟨o,ho,hc,hd⟩ rfl
  (post_val_or_str ⟨Nat.le_trans (Txt.slice_le z _ _) hz,fun t' k=>⟨.str (Txt.slice z (l.map (·.1)) (u.map (·.1))),H,I.tok k,⟨t',rfl⟩,q⟩⟩)
end
end L2
namespace L2
open PySem PySem.Spec PyProof.Rows
theorem ObjOk.there {P:Program} {w:World} {H:Hp} {h:Heap} {a:Addr} {o:HO} (x:ObjOk P w H h a o):∃ u,h.get? a=some u:=by
 cases o with
 | lst xs=>obtain ⟨_,_,_,_,e⟩:=x;exact ⟨_,e⟩
 | tup xs=>obtain ⟨_,_,_,o,e,_⟩:=x;exact ⟨_,e⟩
 | dK kvs=>obtain ⟨_,_,_,_,o,_,_,e,_⟩:=x;exact ⟨_,e⟩
 | dT kvs=>obtain ⟨_,_,_,_,o,_,_,e,_⟩:=x;exact ⟨_,e⟩
 | set S n=>obtain ⟨o,_,_,_,e,_⟩:=x;exact ⟨_,e⟩
 | ins C dx fs=>obtain ⟨_,_,_,e,_⟩:=x;exact ⟨_,e⟩
 | own y=>exact x
 | xd fs=>obtain ⟨_,⟨o,_,_,e,_⟩,_⟩:=x;exact ⟨_,e⟩
 | rng lo hi=>obtain ⟨_,_,_,e⟩:=x;exact ⟨_,e⟩
 | frz ob u=>obtain ⟨e,_⟩:=x;exact ⟨_,e⟩
 | tbl ps=>exact ⟨_,(show h.get? a=some _ from x)⟩
 | met f y=>exact ⟨_,(show h.get? a=some _ from x)⟩
 | ext φ=>obtain ⟨_,e,_⟩:=x;exact e
def XF (g h:Heap) (H:Hp) (e:Addr) (cls:Value):Prop :=
 ∃ oe vs a0 T oT ts,h.get? e=some oe∧(oe.cls=cls∧vs[0]?=some a0)∧oe.data=.fields vs∧vs[1]?=some (.ref T)∧T≠e∧h.get? T=some oT∧oT.data=.fields ts∧ts[3]?=some .none ∧
  g.get? e=none∧g.get? T=none∧H e=none∧H T=none
def CX1 (P:Program) (w:World):CXT:=fun outer H s E ev s'=>∃ e cls H',ev=.ref e∧s'.os=s.os∧AllBare s'.gens∧Un (frs outer) [] H H' s.heap s'.heap∧HOk P w H' s'.heap∧XF s.heap s'.heap H' e cls∧E cls none H'
theorem jA {g h:Heap} (k:∀ b o,g.get? b=some o→∃ o',h.get? b=some o') {b:Addr} (e:h.get? b=none):g.get? b=none:=by
 cases q:g.get? b with
 | none=>rfl
 | some o =>
  obtain ⟨o',z⟩:=k b o q
  rw [e] at z;cases z
theorem XF.older {g g' h:Heap} {H:Hp} {e:Addr} {cls:Value} (x:XF g h H e cls) (k:∀ b o,g'.get? b=some o→∃ o',g.get? b=some o'):XF g' h H e cls:=by
 obtain ⟨oe,vs,a0,T,oT,ts,h1,h2,h3,h4,h5,h6,h7,h8,h9,h10,h11,h12⟩:=x
 exact ⟨oe,vs,a0,T,oT,ts,h1,h2,h3,h4,h5,h6,h7,h8,jA k h9,jA k h10,h11,h12⟩
section
variable {X:Cx} {pins:List (Addr × Obj)} {σ:St} {H:Hp} {s:Shared}
theorem Inv.stackFields (J:Inv X pins σ H s) {b:Addr} (hb:b∈frs X.stack):∃ o,s.heap.get? b=some o∧∀ vs,o.data≠.fields vs:=(J.stack.mem hb).2
theorem Inv.there0 (hex:X.ex=[]) (J:Inv X pins σ H s):∀ b o,X.s₀.heap.get? b=some o→∃ o',s.heap.get? b=some o':=fun b o e=>J.base.there b o e (by rw [hex];simp)
theorem Inv.behind {h2:Heap} {cs:List Addr} (hex:X.ex=[]) (J:Inv X pins σ H s) (hcs:∀ b∈cs,H b=none∧X.s₀.heap.get? b=none)
  (hB:∀ b o,s.heap.get? b=some o→b ∉ frs X.stack→b ∉ cs→h2.get? b=some o) (hF:∀ b o,s.heap.get? b=some o→b∈frs X.stack→∃ sl,h2.get? b=some { o with slots:=sl }) :
  Un X.fs [] X.H₀ H X.s₀.heap h2∧HOk X.prog X.w H h2:=by
 have B:Un X.fs [] X.H₀ H X.s₀.heap s.heap:=by have:=J.base;rw [hex] at this;exact this
 have nL:∀ b o,X.s₀.heap.get? b=some o→b≠X.env.locals:=fun b o e=>Nat.ne_of_lt (Nat.lt_of_lt_of_le (Heap.lt_size e) J.ok.above)
 have nC:∀ b o,X.s₀.heap.get? b=some o→b ∉ cs:=fun b o e z=>by rw [(hcs b z).2] at e;cases e
 have any:∀ b o,s.heap.get? b=some o→b ∉ cs→∃ sl,h2.get? b=some { o with slots:=sl }:=fun b o e n=>by
  by_cases hb:b∈frs X.stack
  ·exact hF b o e hb
  ·exact ⟨o.slots,hB b o e hb n⟩
 refine ⟨⟨fun b o e n h1 _=>?_,fun b o e n h1 _=>?_,B.free,fun b o e h1=>?_,B.tups,B.frzs,B.tbls⟩,fun b u e=>?_⟩
 ·refine hB b o (B.keep b o e n h1 (by simp)) (fun z=>?_) (nC b o e)
  rcases List.mem_cons.mp (J.stkSub b z) with q | q
  ·exact nL b o e q
  ·exact h1 q
 ·obtain ⟨sl,q⟩:=B.slot b o e n h1 (by simp)
  obtain ⟨sl',q'⟩:=any b _ q (nC b o e)
  exact ⟨sl',q'⟩
 ·obtain ⟨o',q⟩:=B.there b o e (by simp)
  obtain ⟨sl,q'⟩:=any b o' q (nC b o e)
  exact ⟨_,q'⟩
 ·refine (J.hok b u e).stay (fun c v hc q=>?_) (fun _ q=>q) fun _ _ q=>q
  have hn:H c≠none:=by
   rcases hc with rfl | hc
   ·rw [e];simp
   ·rw [hc];simp
  exact hB c v q (fun z=>hn (J.stkFree c z)) fun z=>hn (hcs c z).1
theorem Inv.flown {B h2:Heap} {cs:List Addr} {e:Addr} {cls a0:Value} (hex:X.ex=[]) (J:Inv X pins σ H s) (hcs:∀ b∈cs,H b=none∧X.s₀.heap.get? b=none)
  (hB:∀ b o,s.heap.get? b=some o→b ∉ frs X.stack→b ∉ cs→B.get? b=some o) (hF:∀ b o,s.heap.get? b=some o→b∈frs X.stack→∃ sl,h2.get? b=some { o with slots:=sl })
  (he:H e=none) (he0:X.s₀.heap.get? e=none) (kb:B.StaysIn h2) (tr:h2.TracedW B e cls a0) :
  Un X.fs [] X.H₀ H X.s₀.heap h2∧HOk X.prog X.w H h2∧XF X.s₀.heap h2 H e cls:=by
 have hk:=J.behind (h2:=h2) hex hcs (fun b o q n1 n2=>kb b o (hB b o q n1 n2)) hF
 refine ⟨hk.1,hk.2,?_⟩
 obtain ⟨oe,vs,T,oT,ts,h1,h2',h3,h4,h5,h6,h7,h8,h9⟩:=tr
 have noT:∀ o,s.heap.get? T=some o→T∈cs:=fun o q=>by
  by_cases hb:T∈frs X.stack
  ·obtain ⟨o',q',nf⟩:=J.stackFields hb
   obtain ⟨sl,z⟩:=hF T o' q' hb
   rw [h7] at z
   have z':oT={ o' with slots:=sl }:=Option.some.inj z
   exact absurd (by rw [← h8,z']) (nf ts)
  ·by_cases hc:T∈cs
   ·exact hc
   ·rw [hB T o q hb hc] at h5;cases h5
 refine ⟨oe,vs,a0,T,oT,ts,h1,h2',h3,h4,h6,h7,h8,h9,he0,?_,he,?_⟩
 ·cases q:X.s₀.heap.get? T with
  | none=>rfl
  | some o =>
   obtain ⟨o',q'⟩:=J.there0 hex T o q
   rw [(hcs T (noT o' q')).2] at q;cases q
 ·cases q:H T with
  | none=>rfl
  | some u =>
   obtain ⟨o,z⟩:=(J.hok T u q).there
   rw [(hcs T (noT o z)).1] at q;cases q
theorem Jk {h':Heap} {e:Addr} {cls:Value} {vs:List Value} {E:XK} {EE:Value→Shared→Prop} (hst:X.stack=X.env :: X.outer∧X.env.frame=some X.env.locals) (hex:X.ex=[]) (J:Inv X pins σ H s) (hx:Heap.MadeExcOf s.heap h' e cls vs) (hE:E cls none H) :
  wpAny (model X.prog X.w) X.A (leaving X.env (.ref e)) (fun _ s2=>CX1 X.prog X.w X.outer X.H₀ X.s₀ E (.ref e) s2) EE { s with heap:=h' }:=by
 have fr:s.heap.FunFrames (PySem.W.hideAll s.heap (frs X.stack)) (X.env :: X.outer):=by
  have q:=PySem.W.funFrames_hide (as:=frs X.stack) J.stack fun env he a ha=>List.mem_filterMap.mpr ⟨env,he,ha⟩
  rw [hst.1] at q ⊢
  exact q
 refine wpAny_leaves_madeW (s:={ s with heap:=h' }) (base:=PySem.W.hideAll s.heap (frs X.stack)) (h:=s.heap) (by rw [J.ok.frames,hst.1]) hst.2 (fun b o q=>PySem.W.of_hideAll _ q) fr hx fun h2 t hfl _ _ hup=>?_
 obtain ⟨f1,f2,f3,f4⟩:=hfl
 have hF:∀ b o,s.heap.get? b=some o→b∈frs X.stack→∃ sl,h2.get? b=some { o with slots:=sl }:=fun b o q hb=>by
  obtain ⟨o',q',nf⟩:=J.stackFields hb
  rw [q] at q';cases q'
  exact hup b o (hx.keeps b o q) nf
 obtain ⟨r1,r2,r3⟩:=J.flown (cs:=[]) hex (fun b z=>nomatch z) (fun b o q n _=>PySem.W.hideAll_get _ q n) hF
  (by
   cases q:H e with
   | none=>rfl
   | some u =>
    obtain ⟨o,z⟩:=(J.hok e u q).there
    rw [hx.new] at z;cases z)
  (jA (J.there0 hex) hx.new) f1 f4
 exact ⟨e,cls,H,rfl,J.os,J.bare,r1,r2,r3,hE⟩
theorem J6 {e:Addr} {cls:Value} {E:XK} {EE:Value→Shared→Prop} (hst:X.stack=X.env :: X.outer∧X.env.frame=some X.env.locals) (hex:X.ex=[]) (J:Inv X pins σ H s) (xf:XF X.s₀.heap s.heap H e cls) (hE:E cls none H) :
  wpAny (model X.prog X.w) X.A (leaving X.env (.ref e)) (fun _ s2=>CX1 X.prog X.w X.outer X.H₀ X.s₀ E (.ref e) s2) EE s:=by
 obtain ⟨oe,vs,a0,T,oT,ts,h1,h2,h3,h4,h5,h6,h7,h8,h9,h10,h11,h12⟩:=id xf
 have fr:s.heap.FunFrames (PySem.W.hideAll s.heap (frs X.stack ++ [e,T])) (X.env :: X.outer):=by
  have q:=PySem.W.funFrames_hide (as:=frs X.stack ++ [e,T]) J.stack fun env he a ha=>List.mem_append_left _ (List.mem_filterMap.mpr ⟨env,he,ha⟩)
  rw [hst.1] at q ⊢
  exact q
 refine wpAny_leaves_onW (base:=PySem.W.hideAll s.heap (frs X.stack ++ [e,T])) (a0:=a0) (by rw [J.ok.frames,hst.1]) hst.2
  ⟨fun b o q=>PySem.W.of_hideAll _ q,PySem.W.hideAll_none _ (List.mem_append_right _ (by simp)),fr,oe,vs,T,oT,ts,h1,h2,h3,h4,PySem.W.hideAll_none _ (List.mem_append_right _ (by simp)),h5,h6,h7,h8⟩ fun h2' hfl hup=>?_
 obtain ⟨f1,f2,f3,f4⟩:=hfl
 have hF:∀ b o,s.heap.get? b=some o→b∈frs X.stack→∃ sl,h2'.get? b=some { o with slots:=sl }:=fun b o q hb=>by
  obtain ⟨o',q',nf⟩:=J.stackFields hb
  rw [q] at q';cases q'
  exact hup b o q nf
 obtain ⟨r1,r2,r3⟩:=J.flown (cs:=[e,T]) hex (fun b z=>by
   have z':b=e∨b=T:=by simpa using z
   rcases z' with rfl | rfl
   ·exact ⟨h11,h9⟩
   ·exact ⟨h12,h10⟩) (fun b o q n n2=>PySem.W.hideAll_get _ q fun z=>(List.mem_append.mp z).elim n n2) hF h11 h9 f1 f4
 exact ⟨e,cls,H,rfl,J.os,J.bare,r1,r2,r3,hE⟩
end
def J7 (X:Cx) (E:XK):Prop:=∀ (pins:List (Addr × Obj)) (σ:St) (H:Hp) (s:Shared) (h':Heap) (e:Addr) (cls:Value) (vs:List Value),Inv X pins σ H s→Heap.MadeExcOf s.heap h' e cls vs→E cls none H→X.xe (.ref e) { s with heap:=h' }
section
variable {P:Program} {w:World} {K:PySem.W.Frag} {mg:Str→Option Value} {base:Heap} {N:List Str} {qual:Str} {scope:Scope} {f:Addr} {cd:Value} {A:Around} {outer:List Env} {s₀:Shared} {H₀:Hp} {E:XK}
theorem wY:jQ (CX1 P w) (jJ (CX1 P w) P w K mg base N qual scope f cd A outer s₀ H₀ E) E:=by
 intro pins σ H s ev s' I hcx
 obtain ⟨e,cls,H',rfl,os,bare,un,hok,xf,hE⟩:=hcx
 have J:=I.call' (ch:=[]) os un hok bare (fun b z=>nomatch z)
 exact J6 (X:=jJ (CX1 P w) P w K mg base N qual scope f cd A outer s₀ H₀ E) ⟨rfl,rfl⟩ rfl J (xf.older (I.there0 rfl)) hE
theorem Vw:J7 (jJ (CX1 P w) P w K mg base N qual scope f cd A outer s₀ H₀ E) E:=by
 intro pins σ H s h' e cls vs I hx hE
 exact Jk (X:=jJ (CX1 P w) P w K mg base N qual scope f cd A outer s₀ H₀ E) ⟨rfl,rfl⟩ rfl I hx hE
theorem zbp:PassesOwn (model P w) (jJ (CX1 P w) P w K mg base N qual scope f cd A outer s₀ H₀ E).A (jJ (CX1 P w) P w K mg base N qual scope f cd A outer s₀ H₀ E).env (jJ (CX1 P w) P w K mg base N qual scope f cd A outer s₀ H₀ E).xe:=PassesOwn.leaving
end
abbrev XL:List Value:=[.type "ValueError",.type "Exception",.type "BaseException",.type "object"]
abbrev kS:String:="ValueError.__new__"
def Za (C:Addr) (ta:TA) (E:XK):TS:=fun _ σ H=>ta σ H fun vs H1=>vs.length≤sizeLine∧E (.ref C) none H1
theorem QB {K:PySem.W.Frag} {h:Heap} {C:Addr} {bmB:List Value} {newId:String} (X:K.In h) (q:PySem.W.excIn K C bmB newId=true) :
  ∃ bm N nm qn bs hdct sn sub ab col dd k0 k1 k2 k3 k5 mN,h.get? C=some (excClassObj nm qn C N bs bm hdct sn sub ab col dd k0 k1 k2 k3 k5 newId)∧h.Ns N mN∧mN "__init__"=none∧OwnTail h bmB bm:=by
 unfold PySem.W.excIn at q
 split at q
 case h_2=>cases q
 rename_i dd cd sl ho
 split at q
 case h_2=>cases q
 rename_i C' bm k0 k1 k2 k3 n k5 hm hs
 rw [Bool.and_eq_true,Bool.and_eq_true,Bool.and_eq_true,Bool.and_eq_true,Bool.and_eq_true] at q
 obtain ⟨⟨⟨⟨⟨q1,q2⟩,q3⟩,q4⟩,q5⟩,q6⟩:=q
 obtain rfl:C'=C:=by simpa using q1
 obtain rfl:n=newId:=by simpa using q2
 obtain ⟨nm,bs,mro,ns,qn,hd,sn,sub,ab,col,del⟩:=cd
 have hdel:del=false:=by simpa using q3
 have hm':mro=.ref C' :: bm:=hm
 subst hdel hm'
 have hsl:sl=#[k0,k1,k2,k3,some (.builtin n),k5]:=by
  apply Array.ext'
  exact hs
 subst hsl
 exact ⟨bm,ns,nm,qn,bs,hd,sn,sub,ab,col,dd,k0,k1,k2,k3,k5,_,X _ _ ho,.of_isNs (PySem.W.isNs_of_in X q5),PySem.W.nsMap_none_of_in X q5 (by simpa using q6),PySem.W.tail_of_in X q4⟩
section
variable {X:Cx} {x:Str} {C:Addr} {np cpos pos:Pos} {e₀:Expr} {rest:List Expr} {ta:TA} {E:XK}
theorem XM (hc:X.calm=true) (q:PySem.W.excIn X.K C XL kS=true) (hr:J7 X E) (hg:Gl X x) (hm:X.mg x=some (.ref C)) (ha:PA X (e₀ :: rest) ta)
  (he:starEach (e₀ :: rest) X.env=(false,eval e₀ X.env) :: starEach rest X.env:=by rfl) (hp:(backTo cpos (starEach rest X.env)).any (·.1)=false:=by rfl) (hd:(x == ("__debug__":Str))=false:=by decide) :
  PS X (.Raise (some (.Call (.Name x np) (e₀ :: rest) [] cpos)) none pos) (Za C ta E):=by
 intro pins s σ H D I h
 obtain ⟨tl,N,nm,qn,bs,hdct,sn,sub,ab,col,dd,k0,k1,k2,k3,k5,mN,hC,hN,hni,T⟩:=QB I.ok.mod.kin q
 refine wpAny_Raise_call_subT (C:=C) (nm:=nm) (q:=qn) (N:=N) (bs:=bs) (bm:=tl) (hdct:=hdct) (sn:=sn) (sub:=sub) (ab:=ab) (col:=col) (dd:=dd) (k0:=k0) (k1:=k1) (k2:=k2) (k3:=k3) (k5:=k5) (newId:=kS)
  PySem.F.excBase_ValueError (mN:=mN) (T.hasType PySem.F.excBase_ValueError.hasBase) (I.ok.hd hc) (by rw [he];exact hp) hni (vH I hg hm ⟨rfl,?_⟩ hd)
 have hA:=ha cpos pins s σ H _ I h
 rw [he] at hA ⊢
 refine Calls.evalArgs_plain (thn hA fun us s2 ⟨vs,H2,I2,r2,z2,q2⟩=>?_)
 exact ⟨rfl,by rw [← r2.length];exact z2,I2.bk _ _ hC,hN.keeps I2.bk,T.keeps I2.bk,fun h' e hm=>hr pins σ H2 s2 h' e _ _ I2 hm q2⟩
end
def Asc (x:Str):Prop:=∀ c∈x.cps.toList,c < 128
section
variable {X:Cx} {e:Expr} {te:TE} {a:Str} {j:Nat} {p1 p2 p3:Pos}
def zcg (te:TE):TE:=fun σ H Q=>te σ H fun v H1=>∃ x:Str,v=.str x∧x.length≤100000∧Asc x∧∀ y:Str,Q (.str y) H1
def XN (te:TE):TE:=fun σ H Q=>te σ H fun v H1=>∃ x:Str,v=.str x∧x.length≤100000∧∀ y:Str,Q (.str y) H1
theorem Vx (he:PE X e te) (hl:a.length≤1000:=by decide +kernel):PE X (.JoinedStr [.FormattedValue e (-1) none p2,.Constant (.str a) j p1] p3) (XN te):=by
 intro pins s σ H Q I h
 refine wpAny_JoinedStr ?_
 show wpAny _ _ (eval (.FormattedValue e (-1) none p2) X.env) _ _ s
 refine wpAny_FormattedValue_plain (thn (he pins _ σ H _ I h) fun v s1 ⟨x,H1,I1,r1,z,ex,hz,q⟩=>?_)
 subst ex
 obtain ⟨t,rfl⟩:=r1
 have hs:sizeLine=16777216:=sizeLine_eq
 have e0:(Str.empty ++ z).length=z.length:=by rw [Str.length_append];simp [Str.empty,Str.length]
 have fin:∀ (t':Tok) (tk:Nat),∃ y u,Value.str z t'=Value.str y u∧(Str.empty ++ y).length≤sizeLine∧Joins (model X.prog X.w) X.A X.xe (evalEach [.Constant (.str a) j p1] X.env) (Str.empty ++ y) (fun out s₁=>out.length≤sizeLine∧EP X pins σ Q (.str out s₁.toks) { s₁ with toks:=s₁.toks + 1 }) { s1 with toks:=tk }:=fun t' tk=>by
  refine ⟨_,_,rfl,by rw [e0];omega,?_⟩
  show wpAny _ _ (eval (.Constant (.str a) j p1) X.env) _ _ _
  have hz2:(Str.empty ++ z ++ a).length≤sizeLine:=by rw [Str.length_append,e0];omega
  refine Calls.Constant_str ⟨a,_,rfl,hz2,hz2,.str _,H1,I1.tok _,⟨_,rfl⟩,q _⟩
 exact wpAny_formatField_str (fin _ _) (fin _ _) (by omega)
end
end L2
namespace L2
open PySem PySem.Spec PyProof.Rows
structure ExC (K:PySem.W.Frag) (C:Addr):Prop where
 ga:PySem.W.findIn K (.ref C) "__getattribute__"=some (some (.builtin "BaseException.__getattribute__"))
 gx:PySem.W.findIn K (.ref C) "__getattr__"=some none
 cl:PySem.W.findIn K (.ref C) "__class__"=some (some (.builtin "object.__class__"))
 ob:PySem.W.mroIn K C (.type "object")=some true
 be:PySem.W.mroIn K C (.type "BaseException")=some true
 ge:PySem.W.specialIn K (.builtin "object.__class__") "__get__"=some (some (.builtin "getset_descriptor.__get__"))
 tk:PySem.W.takesIn K (.builtin "object.__class__")=some true
section
variable {prog:Program} {w:World} {A:Around} {E:Value→Shared→Prop} {K:PySem.W.Frag} {e C:Addr} {s:Shared}
open PySem.Builtin PySem.Builtin.Getset_descriptor in
end
end L2
namespace L2
open PySem PySem.Spec PyProof.Rows
section
variable {X:Cx} {pins:List (Addr × Obj)} {σ:St} {H:Hp} {s:Shared}
theorem Inv.land {h2:Heap} {cs:List Addr} (hex:X.ex=[]) (I:Inv X pins σ H s) (hcs:∀ b∈cs,H b=none∧X.s₀.heap.get? b=none) (hcp:∀ b∈cs,∀ p∈X.pn ++ pins,p.1≠b)
  (hB:∀ b o,s.heap.get? b=some o→b ∉ frs X.stack→b ∉ cs→h2.get? b=some o) (sm:s.heap.UpToSlots h2):Inv X pins σ H { s with heap:=h2 }:=by
 have hF:∀ b o,s.heap.get? b=some o→b∈frs X.stack→∃ sl,h2.get? b=some { o with slots:=sl }:=fun b o q hb=>by
  obtain ⟨o',q',nf⟩:=I.stackFields hb
  rw [q] at q';cases q'
  exact sm b o q nf
 obtain ⟨r1,r2⟩:=I.behind hex hcs hB hF
 have ce:∀ c v,s.heap.IsCell c v→h2.IsCell c v:=fun c v ⟨o,ho,hd⟩=>by
  obtain ⟨sl,q⟩:=sm c o ho fun vs z=>by rw [hd] at z;cases z
  exact ⟨_,q,hd⟩
 refine ⟨I.ok,I.os,I.bare,by rw [hex];exact r1,?_,fun x c e=>?_,I.free,I.freeC,fun p hp=>?_,r2,I.len⟩
 ·obtain ⟨m,hn,hl⟩:=I.loc
  refine ⟨m,sm.ns hn,fun i x v e1 e2 e3=>?_⟩
  obtain ⟨u,r,l⟩:=hl i x v e1 e2 e3
  refine ⟨u,r,?_⟩
  rcases l with l | ⟨k,c,e,z⟩
  ·exact .inl l
  ·exact .inr ⟨k,c,e,ce c _ z⟩
 ·obtain ⟨v,z⟩:=I.cell x c e
  exact ⟨v,ce c v z⟩
 ·obtain ⟨e,n,ne,nf,d⟩:=I.pin p hp
  exact ⟨hB _ _ e (fun z=>(List.mem_cons.mp (I.stkSub _ z)).elim ne nf) fun z=>hcp _ z p hp rfl,n,ne,nf,d⟩
end
def exO (e C:Addr):HO:=.ext fun h=>∃ o,h.get? e=some o∧o.cls=.ref C
abbrev Cx.sub (X:Cx) (e:Addr):Cx:={ X with A:=X.A.mark (some (.ref e)),calm:=false,xe:=fun _ _=>False }
section
variable {X:Cx} {pins:List (Addr × Obj)} {σ:St} {H:Hp} {s:Shared} {e:Addr}
theorem Inv.toSub (I:Inv X pins σ H s):Inv (X.sub e) pins σ H s :=
 ⟨⟨I.ok.mod,I.ok.kind,I.ok.glob,I.ok.blt,I.ok.above,I.ok.inj,I.ok.has,I.ok.cab,(fun z=>nomatch z),I.ok.frames,I.ok.stk,I.ok.exf,I.ok.bs,I.ok.bsz,I.ok.noex,I.ok.exfs,I.ok.funs,I.ok.frf⟩,I.os,I.bare,I.base,I.loc,I.cell,I.free,I.freeC,I.pin,I.hok,I.len⟩
theorem Inv.ofSub {J:Inv X pins σ H s} {σ':St} {H':Hp} {s':Shared} (I:Inv (X.sub e) pins σ' H' s'):Inv X pins σ' H' s' :=
 ⟨J.ok,I.os,I.bare,I.base,I.loc,I.cell,I.free,I.freeC,I.pin,I.hok,I.len⟩
end
abbrev EXK:=Value→St→Hp→Prop
def PX (X:Cx) (pins:List (Addr × Obj)) (EX:EXK):Value→Shared→Prop:=fun ev s'=>∃ e cls σ s1 H1 H',ev=.ref e∧Inv X pins σ H1 s1∧Inv X pins σ H' s'∧XF s1.heap s'.heap H' e cls∧EX cls σ H'
def PEX (X:Cx) (ex:Expr) (t:EXK→TE):Prop :=
 ∀ (pins:List (Addr × Obj)) (s:Shared) (σ:St) (H:Hp) (Q:VK) (EX:EXK),Inv X pins σ H s→t EX σ H Q→wpAny (model X.prog X.w) X.A (eval ex X.env) (EP X pins σ Q) (PX X pins EX) s
def PSX (X:Cx) (st:Stmt) (t:EXK→TS):Prop :=
 ∀ (pins:List (Addr × Obj)) (s:Shared) (σ:St) (H:Hp) (D:ZV) (EX:EXK),Inv X pins σ H s→t EX D σ H→wpAny (model X.prog X.w) X.A (exec st X.env) (SP X pins D) (PX X pins EX) s
section
variable {X:Cx} {k:Nat} {f:Addr} {fd:FuncData} {ps:List Str} {sp:Sp} {x:Str} {p pos:Pos} {e:Expr} {es:List Expr} {t:TA}
def zbO (sp:Sp) (ta:TA) (EX:EXK):TE:=fun σ H Q=>ta σ H fun vs H1=>sp (vs ++ []) H1 Q fun cls _ H2=>EX cls σ H2
end
section
variable {X:Cx} {ex:Expr} {tx:EXK→TE} {pos p1:Pos} {i:Nat} {y:Str}
def zbP (tx:EXK→TE) (EX:EXK):TS:=fun D σ H=>tx EX σ H fun _ H1=>D.nx σ H1
def zch (tx:EXK→TE) (EX:EXK):TS:=fun D σ H=>tx EX σ H D.rt
def Vy (tx:EXK→TE) (i:Nat) (EX:EXK):TS:=fun D σ H=>tx EX σ H fun v H1=>D.nx (σ.set i (some v)) H1
theorem QC {pos':Pos} (hN:X.N.Nodup) (hi:X.N[i]?=some y) (hx:Loc X.env.scope y) (he:PEX X ex tx) (hs:swapsWith ex (some (.Name y pos')) pos.line X.env=pure false:=by rfl) (hf:X.fn y=true∨X.env.scope.names.lookup y=some .local:=by first | exact .inl rfl | exact .inr rfl | assumption) :
  PSX X (.Assign [.Name y pos'] ex pos) (Vy tx i):=by
 intro pins s σ H D EX I h
 refine wpAny_Assign_Name (thn (he pins s σ H _ EX I h) fun v s1 ⟨x,H1,I1,r1,q1⟩=>?_) hs
 exact qJ I1 hN hi hx r1 (fun s2 I2=>⟨_,H1,I2,q1⟩) hf
end
structure ExK (K:PySem.W.Frag) (C:Addr):Prop extends ExC K C where
 has:(PySem.W.clsIn K C).isSome=true
def zbQ (i:Nat) (D:ZV):ZV:={ nx:=fun σ H=>D.nx (σ.set i none) H,rt:=D.rt,bk:=fun σ H=>D.bk (σ.set i none) H,ct:=fun σ H=>D.ct (σ.set i none) H }
def zcP (K:PySem.W.Frag) (tb:EXK→TS) (C0:Addr) (i:Nat) (th:TS):TS:=fun D σ H=>tb (fun cls σ1 H1=>∃ C,cls=.ref C∧ExK K C∧PySem.W.exmOne K (.ref C) (.ref C0)=some true ∧
 ∀ e,H1 e=none→th (zbQ i D) (σ1.set i (some (.ref e))) (upd H1 e (exO e C))) D σ H
section
variable {X:Cx} {st b₀:Stmt} {suite:List Stmt} {tb:EXK→TS} {th:TS} {c n:Str} {C0:Addr} {i:Nat} {np hpos pos:Pos}
end
end L2
namespace L2
open PySem PySem.Spec PyProof.Rows
def zbR:V→Option Value
 | .ty T=>some (.type T)
 | .ref D=>some (.ref D)
 | _=>none
abbrev zcQ (K:PySem.W.Frag):RC:=fun xs H Q=>∃ a C c cv b,xs=[.ref a,c]∧H a=some (exO a C)∧ExK K C∧zbR c=some cv∧PySem.W.kitOne K (.ref C) cv=some b∧Q (.bl b) H
abbrev zci (K:PySem.W.Frag):RC:=fun xs H Q=>∃ a C p,∃ cs:List Addr,∃ b,xs=[.ref a,.ref p]∧H a=some (exO a C)∧ExK K C∧H p=some (.tup (cs.map V.ref))∧PySem.W.kitAny K (.ref C) (cs.map Value.ref)=some b∧Q (.bl b) H
section
variable {X:Cx}
end
theorem zy {P:Program} {w:World} {X:Cx}:jQ (CX1 P w) X E0:=fun _ _ _ _ _ _ _ h=>by
 obtain ⟨_,_,_,_,_,_,_,_,_,z⟩:=h
 exact z.elim
section
variable {P:Program} {w:World} {K:PySem.W.Frag} {mg:Str→Option Value} {base:Heap}
theorem Fun.ok1 {x qual:Str} {st:Stmt} {f:Addr} {fd:FuncData} {N ps:List Str} {k:Nat} {sp:Sp} (F:Fun K x qual st f fd) (S:zM N ps (zj st)) (len:∀ vs H Q E,sp vs H Q E→vs.length=ps.length)
  (hbody:∀ (cdv:Value) (A:Around) (outer:List Env) (s:Shared) (H:Hp) (vs:List V) (Q:VK) (E:XK),Room k (A.deeper (envOfC qual (zj st) s.heap.objs.size f cdv))→sp vs H Q E →
   ∃ t,PSs (jJ (CX1 P w) P w K mg base N qual (zj st) f cdv A outer s H E) (zK st) t∧t { nx:=fun _ H'=>Q .non H',rt:=Q } (start N vs) H):FnOk P w K mg base (CX1 P w) (k + 1) f fd ps sp:=by
 obtain ⟨oc,od,kV,doc,pm,an,cdv,ct,osl,rfl,lk,hcd⟩:=F.ex
 exact zbk lk hcd S len fun A outer s H vs Q E hr hsp=>hbody cdv A outer s H vs Q E hr hsp
theorem Fun.ok0 {x qual:Str} {st:Stmt} {f:Addr} {fd:FuncData} {N ps:List Str} {k:Nat} {sp:Sp} (F:Fun K x qual st f fd) (S:zM N ps (zj st)) (len:∀ vs H Q E,sp vs H Q E→vs.length=ps.length)
  (hbody:∀ (cdv:Value) (A:Around) (outer:List Env) (s:Shared) (H:Hp) (vs:List V) (Q:VK) (E:XK),Room k (A.deeper (envOfC qual (zj st) s.heap.objs.size f cdv))→sp vs H Q E →
   ∃ t,PSs (jJ (CX1 P w) P w K mg base N qual (zj st) f cdv A outer s H E).nox (zK st) t∧t { nx:=fun _ H'=>Q .non H',rt:=Q } (start N vs) H):FnOk P w K mg base (CX1 P w) (k + 1) f fd ps sp :=
 F.ok1 S len fun cdv A outer s H vs Q E hr h=>let ⟨t,a,b⟩:=hbody cdv A outer s H vs Q E hr h;⟨t,a.nox,b⟩
end
theorem walk_ofX {l:PySem.W.OpenLaw} {n k:Nat} {q:Program} {loose:List Str} {XP:(Str→Option Value)→Heap→Prop} {YP:World→Heap→Prop} {d:DefRec} {K:Params→PySem.W.Frag} {sp:PySem.W.Frag→Sp} {x:Str}
  (hn:l.most=some n) (hn2:n≤sizeLine) (hdf:d.params.defaults=[]) (hr:Room k callerA)
  (hY:∀ (w:World) (h:Heap),YP w h→(K w.params).In h)
  (F:∀ (w:World) (mg:Str→Option Value) (fa:Addr) (h:Heap),(K w.params).In h→h.Ns mainGlobals mg→mg d.name=some (.ref fa) →
   ∃ fd:FuncData,(∀ (s:Shared) (u:Value),BindsTo s fd ⟨[u],[]⟩ [(x,u)]) ∧
    ∀ base:Heap,(K w.params).In base→base.Ns mainGlobals mg→FnOk l.prog w (K w.params) mg base (CX1 l.prog w) k fa fd [x] (sp (K w.params)))
  (hsp:∀ (K:PySem.W.Frag) (H:Hp) (a:Addr) (ns:List Int),ns.length≤n→WV H→SqL K H a (ns.map V.int)→sp K [.ref a] H (fun v _=>v=.bl true) fun _ _ _=>False) :
  PySem.W.WalkO q loose XP YP l.row.toRowW d [] (fun f vs=>PySem.call f vs) :=
 Vp (K:=K) (CX:=fun w=>CX1 l.prog w) (sp:=fun w=>sp (K w.params)) hn hn2 hdf hr hY F (fun w H a ns h1 h2 h3=>hsp (K w.params) H a ns h1 h2 h3) fun _ _ _ _ _ z=>by
  obtain ⟨_,_,_,_,_,_,_,_,_,y⟩:=z
  exact y
end L2
namespace L2
open PySem
section
variable {σ:St} {H:Hp} {nx:St→Hp→Prop} {B:V→St→Hp→(St→Hp→Prop)→Prop}
theorem jR {lo:Int} {n:Nat} (Pv:Nat→St→Hp→Prop) (h0:Pv 0 σ H) (hs:∀ i σ H,i < n→Pv i σ H→B (.int (lo + i)) σ H (Pv (i + 1))) (hd:∀ σ H,Pv n σ H→nx σ H) :
  ∃ W:Nat→Nat→St→Hp→Prop,(∃ m,W 0 m σ H)∧∀ i m σ H,W i m σ H→((Itr lo n).stop i H∧nx σ H)∨((Itr lo n).go i H∧∃ N:St→Hp→Prop,(∀ σ' H',N σ' H'→∃ m',m' < m∧W (i + 1) m' σ' H')∧∀ x H',(Itr lo n).yld i H x H'→B x σ H' N):=by
 refine ⟨fun i m σ H=>m=n - i∧i≤n∧Pv i σ H,⟨n,by simp,Nat.zero_le _,h0⟩,?_⟩
 rintro i m σ H ⟨rfl,hi,p⟩
 by_cases hlt:i < n
 ·refine .inr ⟨hlt,Pv (i + 1),fun σ' H' p'=>⟨n - (i + 1),by omega,rfl,hlt,p'⟩,?_⟩
  rintro x H' ⟨rfl,rfl⟩
  exact hs i σ _ hlt p
 ·obtain rfl:i=n:=by omega
  exact .inl ⟨Nat.le_refl _,hd σ H p⟩
theorem kT {K:PySem.W.Frag} {a:Addr} (xs:List V) (Pv:Nat→St→Hp→Prop) (h0:Pv 0 σ H) (hl:∀ i σ H,Pv i σ H→SqL K H a xs) (hs:∀ i x σ H,xs[i]?=some x→Pv i σ H→B x σ H (Pv (i + 1))) (hd:∀ σ H,Pv xs.length σ H→nx σ H) :
  ∃ W:Nat→Nat→St→Hp→Prop,(∃ m,W 0 m σ H)∧∀ i m σ H,W i m σ H→((Itl K a).stop i H∧nx σ H)∨((Itl K a).go i H∧∃ N:St→Hp→Prop,(∀ σ' H',N σ' H'→∃ m',m' < m∧W (i + 1) m' σ' H')∧∀ x H',(Itl K a).yld i H x H'→B x σ H' N):=by
 refine ⟨fun i m σ H=>m=xs.length - i∧i≤xs.length∧Pv i σ H,⟨xs.length,by simp,Nat.zero_le _,h0⟩,?_⟩
 rintro i m σ H ⟨rfl,hi,p⟩
 have q:=hl i σ H p
 by_cases hlt:i < xs.length
 ·refine .inr ⟨⟨xs,xs[i],q,by simp [hlt]⟩,Pv (i + 1),fun σ' H' p'=>⟨xs.length - (i + 1),by omega,rfl,hlt,p'⟩,?_⟩
  rintro x H' ⟨rfl,y⟩
  exact hs i x σ _ (y xs q) p
 ·obtain rfl:i=xs.length:=by omega
  exact .inl ⟨⟨xs,q,Nat.le_refl _⟩,hd σ H p⟩
theorem kq {K:PySem.W.Frag} {a:Addr} (xs:List V) (Pv:Nat→St→Hp→Prop) (h0:Pv 0 σ H) (hl:∀ i σ H,Pv i σ H→SqT K H a xs) (hs:∀ i x σ H,xs[i]?=some x→Pv i σ H→B x σ H (Pv (i + 1))) (hd:∀ σ H,Pv xs.length σ H→nx σ H) :
  ∃ W:Nat→Nat→St→Hp→Prop,(∃ m,W 0 m σ H)∧∀ i m σ H,W i m σ H→((Itt K a).stop i H∧nx σ H)∨((Itt K a).go i H∧∃ N:St→Hp→Prop,(∀ σ' H',N σ' H'→∃ m',m' < m∧W (i + 1) m' σ' H')∧∀ x H',(Itt K a).yld i H x H'→B x σ H' N):=by
 refine ⟨fun i m σ H=>m=xs.length - i∧i≤xs.length∧Pv i σ H,⟨xs.length,by simp,Nat.zero_le _,h0⟩,?_⟩
 rintro i m σ H ⟨rfl,hi,p⟩
 have q:=hl i σ H p
 by_cases hlt:i < xs.length
 ·refine .inr ⟨⟨xs,xs[i],q,by simp [hlt]⟩,Pv (i + 1),fun σ' H' p'=>⟨xs.length - (i + 1),by omega,rfl,hlt,p'⟩,?_⟩
  rintro x H' ⟨rfl,y⟩
  exact hs i x σ _ (y xs q) p
 ·obtain rfl:i=xs.length:=by omega
  exact .inl ⟨⟨xs,q,Nat.le_refl _⟩,hd σ H p⟩
end
theorem J8 {J:It} {D:Addr} {τ₀:St} {H1:Hp} {Q:Hp→Prop} {B:V→St→Hp→(V→St→Hp→Prop)→(St→Hp→Prop)→Prop} (n:Nat) (hn:n≤1000000) (C:St→Prop) (R:Nat→V→Prop) (hC:C τ₀)
  (go:∀ i H,Same H1 H→i < n→J.go i H) (stop:∀ H,Same H1 H→J.stop n H) (hD:H1 D=none)
  (hs:∀ i x τ H H',C τ→Same H1 H→i < n→J.yld i H x H'→B x τ H' (fun v τ' H4=>C τ'∧R i v∧Same H H4) (fun _ _=>False))
  (hd:∀ ys H,ys.length=n→(∀ i v,ys[i]?=some v→R i v)→Same H1 H→H D=some (.lst ys)→Q H) :
  ∃ W:Nat→Nat→List V→St→Hp→Prop,(∃ m,W 0 m [] τ₀ (upd H1 D (.lst [])))∧∀ i m ys τ H,W i m ys τ H→H D=some (.lst ys) ∧
  ((J.stop i H∧Q H)∨(J.go i H∧ys.length < sizeLine∧∃ N:V→St→Hp→Prop,
   (∀ v τ' H',N v τ' H'→H' D=some (.lst ys)∧∃ m',m' < m∧W (i + 1) m' (ys ++ [v]) τ' (upd H' D (.lst (ys ++ [v]))))∧∃ Nf:St→Hp→Prop,(∀ τ' H',Nf τ' H'→∃ m',m' < m∧W (i + 1) m' ys τ' H') ∧
   ∀ x H',J.yld i H x H'→B x τ H' N Nf)):=by
 have ext:∀ {H:Hp} {o:HO},Same H1 H→Same H1 (upd H D o):=fun {H o} h b u e=>by
  rw [zl (zG e hD)];exact h b u e
 refine ⟨fun i m ys τ H=>m=n - i∧i≤n∧ys.length=i∧(∀ j v,ys[j]?=some v→R j v)∧Same H1 H∧H D=some (.lst ys)∧C τ,⟨n,by simp,Nat.zero_le _,rfl,by simp,ext (Same.refl _),zf,hC⟩,?_⟩
 rintro i m ys τ H ⟨rfl,hi,hl,hR,hS,hy,hc⟩
 refine ⟨hy,?_⟩
 by_cases hlt:i < n
 ·refine .inr ⟨go i H hS hlt,Nat.lt_of_le_of_lt (by omega:ys.length≤1000000) (by decide),(fun v τ' H4=>C τ'∧R i v∧Same H H4),?_,(fun _ _=>False),fun _ _ z=>z.elim,fun x H' y=>hs i x τ H H' hc hS hlt y⟩
  rintro v τ' H4 ⟨c4,r4,s4⟩
  refine ⟨s4 _ _ hy,n - (i + 1),by omega,rfl,hlt,by simp [hl],fun j u hj=>?_,ext (hS.trans s4),zf,c4⟩
  rcases Nat.lt_trichotomy j ys.length with h | h | h
  ·exact hR j u (by rwa [List.getElem?_append_left h] at hj)
  ·subst h
   simp at hj
   subst hj
   rw [hl];exact r4
  ·rw [List.getElem?_eq_none (by simp;omega)] at hj;cases hj
 ·obtain rfl:i=n:=by omega
  exact .inl ⟨stop H hS,hd ys H hl hR hS hy⟩
theorem Y3 (n d:Nat) (v:Int):max (0:Int) (min (if v < 0 then v + n else v) n)=((HT.sIx n d (some v):Nat):Int):=by
 show _=(((if v < 0 then (v + (n:Int)).toNat else min v.toNat n):Nat):Int)
 by_cases hv:v < 0
 ·simp only [if_pos hv];omega
 ·simp only [if_neg hv];omega
theorem QD (a b:Nat):sliceRange (a:Int) (b:Int) 1=(List.range (b - a)).map fun k=>a + k:=by
 simp only [sliceRange,show ((1:Int) > 0)=True from by simp,if_true]
 by_cases hlt:(a:Int) < b
 ·have e3:(((b:Int) - a + 1 - 1) / 1).toNat=b - a:=by rw [Int.ediv_one];omega
  simp only [hlt,if_true,e3]
  refine List.map_congr_left fun k _=>?_
  omega
 ·have:b - a=0:=by omega
  simp [hlt,this]
theorem J9 (lo hi:Option Int) (n:Nat):Builtin.Str.strSliceIndices lo hi 1 n=(List.range (HT.sIx n n hi - HT.sIx n 0 lo)).map fun k=>HT.sIx n 0 lo + k:=by
 rw [← QD]
 unfold Builtin.Str.strSliceIndices
 simp only [show ((1:Int) > 0)=True from by simp,if_true]
 cases lo with
 | none =>
  cases hi with
  | none=>rfl
  | some v=>simp only [Y3 n n v];rfl
 | some u =>
  cases hi with
  | none=>simp only [Y3 n 0 u];rfl
  | some v=>simp only [Y3 n n v,Y3 n 0 u]
theorem Yr (x:Str) (lo hi:Option Int):(Txt.slice x lo hi).cps.toList=(x.cps.toList.drop (HT.sIx x.length 0 lo)).take (HT.sIx x.length x.length hi - HT.sIx x.length 0 lo):=by
 have hb:=HT.sIx_le x.length x.length (Nat.le_refl _) hi
 have hn:x.cps.toList.length=x.length:=by simp [Str.length]
 unfold Txt.slice
 rw [J9]
 split
 ·rename_i h
  have h':HT.sIx x.length x.length hi - HT.sIx x.length 0 lo=x.length:=by simpa using h
  have e0:HT.sIx x.length 0 lo=0∨x.length=0:=by omega
  rcases e0 with e0 | e0
  ·rw [e0,List.drop_zero,List.take_of_length_le]
   omega
  ·rw [List.eq_nil_of_length_eq_zero (by omega:x.cps.toList.length=0)];simp
 ·by_cases hab:HT.sIx x.length 0 lo≤HT.sIx x.length x.length hi
  ·have h:=StrLaws.picks x.cps.toList (HT.sIx x.length x.length hi - HT.sIx x.length 0 lo) (HT.sIx x.length 0 lo) (by omega)
   simpa using h
  ·have:HT.sIx x.length x.length hi - HT.sIx x.length 0 lo=0:=by omega
   rw [this];simp
theorem Zb (x:Str) (k:Nat):(Txt.slice x (some (k:Int)) none).cps.toList=x.cps.toList.drop k:=by
 rw [Yr,HT.sIx_none,HT.sIx_nat]
 have hn:x.cps.toList.length=x.length:=by simp [Str.length]
 by_cases h:k≤x.length
 ·rw [Nat.min_eq_left h,List.take_of_length_le (by rw [List.length_drop];omega)]
 ·rw [List.drop_eq_nil_of_le (by omega:x.cps.toList.length≤k),Nat.min_eq_right (by omega),List.drop_eq_nil_of_le (by omega)];simp
theorem XO (x:Str) (k:Nat):(Txt.slice x none (some (k:Int))).cps.toList=x.cps.toList.take k:=by
 rw [Yr,HT.sIx_none,HT.sIx_nat,List.drop_zero,Nat.sub_zero]
 have hn:x.cps.toList.length=x.length:=by simp [Str.length]
 by_cases h:k≤x.length
 ·rw [Nat.min_eq_left h]
 ·rw [Nat.min_eq_right (by omega),List.take_of_length_le (by omega),List.take_of_length_le (by omega)]
theorem QE {x y:Str} (h:x.cps.toList=y.cps.toList):x=y:=by
 obtain ⟨a⟩:=x
 obtain ⟨b⟩:=y
 have:a=b:=Array.toList_inj.mp h
 rw [this]
theorem QF (x y:Str):(x ++ y).cps.toList=x.cps.toList ++ y.cps.toList:=by
 show (x.cps ++ y.cps).toList=_
 simp
open PySem.NumText in
section
def zbS (w:Int):Str:=Str.ofString (toString w)
theorem qD (x:Str):x.length=x.cps.toList.length:=by simp [Str.length]
def inF (c:Nat):Bool:=!(Builtin.Str.occurrences "0123456789" ⟨#[c]⟩ 0 (Str.length "0123456789") 1).isEmpty
def zbq (x:Str):Bool:=!decide (x="") && x.cps.toList.all inF
def inW (i:Int):Bool:=decide (-1000000000000000000000000000000≤i∧i≤1000000000000000000000000000000)
def zaj (x:Str):Str:=if (x.cps.toList.take 1 == [45])=true then Txt.slice x (some 1) none else x
def Ka (x:Str):Int:=(intText? x).getD 0
def zbr (x:Str):Bool:=!(decide (31 < (zaj x).length) || !zbq (zaj x)) && (inW (Ka x) && decide (zbS (Ka x)=x))
end
end L2
namespace L2
open PySem PySem.Spec PyProof.Rows
def zbs (x y:Str):Int:=match Builtin.Str.occurrences x y 0 x.length 1 with | i :: _=>(i:Int) | []=>-1
abbrev zbf:RM:=fun x xs H Q=>∃ a b,x=.str a∧xs=[.str b]∧Q (.int (zbs a b)) H
def zbt (sep:Str):List Str→Str
 | [p]=>p
 | l=>Builtin.Str.glued sep l
def zbT (sep:Str) (ls:List Str):Nat:=ls.foldl (fun n p=>n + p.length + sep.length) 0
abbrev zbg (K:PySem.W.Frag):RM:=fun x xs H Q=>∃ sep a ls,x=.str sep∧xs=[.ref a]∧SqL K H a (ls.map V.str)∧zbT sep ls≤sizeLine∧Q (.str (zbt sep ls)) H
def zbU (x:Str) (n:Int):Str:=if n < 1 then Str.empty else if (n == 1 || x.length == 0)=true then x else ⟨(List.replicate n.toNat x.cps).foldl (· ++ ·) #[]⟩
abbrev zcj:R2:=fun x y H Q=>∃ a n,x=.str a∧y=.int n∧(n < 1000000∧-1000000 < n∧a.length * n.toNat≤1000000)∧Q (.str (zbU a n)) H
section
variable {X:Cx}
end
theorem jB (x y:Str):(x ++ y).length=x.length + y.length:=Str.length_append x y
end L2
namespace L2
open PySem PySem.Spec PyProof.Rows
section
open PySem.NumText
end
end L2
namespace L2
open PySem PySem.Spec PyProof.Rows
def Vz (_ j:Int):Prop:=j≠0∧-big < j∧j < big
section
variable {X:Cx}
theorem Zc:OpR X (binaryOp .FloorDiv) (rI Vz fun i j=>.int (i.fdiv j)):=opI fun i j _ _ _ _ _ hc q =>
 floordiv_int hc.1 q (.inl (PyProof.noPylong_of_log2 (Nat.lt_trans (qZ (Y1 hc.2)) (by decide))))
abbrev Zd:RC:=fun xs H Q=>∃ b:Bool,xs=[.bl b]∧Q (.int (if b then 1 else 0)) H
theorem jb:vp X (.type "int") Zd:=by
 intro pins s σ H xs us Q I r h
 obtain ⟨b,rfl,q⟩:=h
 obtain ⟨u,rfl,r1⟩:=kc r
 cases r1
 exact call_int_bool ⟨.int _,H,I.tok _,⟨_,rfl⟩,q⟩
end
theorem Kb {k:Nat} {A:Around} (r:Room k A):A.units + 64 < cLine:=by have:=r.un;omega
def zcR:V→PyData
 | .non=>.none
 | .bl b=>.bool b
 | .int i=>.int i
 | .str x=>.str x
 | _=>.none
def Y4:V→Bool
 | .non=>true
 | .bl _=>true
 | .int _=>true
 | .str x=>PyData.strOk x
 | _=>false
theorem Asc.flat {x:Str} (h:Asc x):Y4 (.str x)=true:=by
 unfold Y4 PyData.strOk
 rw [Array.all_eq_true]
 intro i hi
 have:=h x.cps[i] (by simp)
 exact decide_eq_true (by omega)
def zbV:V→V→Bool
 | .bl _,.int _=>false
 | .int _,.bl _=>false
 | _,_=>true
def Kc:List V→List V→Bool
 | x :: xs,y :: ys=>zbV x y && Kc xs ys
 | _,_=>true
abbrev zcS (K:PySem.W.Frag) (neg:Bool):R2:=fun x y H Q=>∃ a b xs ys,x=.ref a∧y=.ref b∧SqL K H a xs∧SqL K H b ys∧(xs.all Y4=true∧ys.all Y4=true∧Kc xs ys=true)∧Q (.bl (if neg then !decide (xs=ys) else decide (xs=ys))) H
section
variable {X:Cx}
abbrev zbW (K:PySem.W.Frag):R2:=fun x y H Q=>∃ a b xs,x=.ref a∧y=.ref b∧SqL K H a xs∧SqL K H b []∧Q (.bl (decide (xs=[]))) H
end
end L2
namespace L2
open PySem PySem.Spec PyProof.Rows
abbrev zx:RM:=yj
abbrev vz:RM:=JY
def jw:List V:=[.str "plus",.str "minus",.str "times",.str "over",.str "rest",.str "under",.str "same"]
def isJ (v:V):Bool:=inV v jw
inductive Er where
 | nought | great | stuck
 deriving DecidableEq
def yd (w:Str) (a b:Int):Int :=
 if w="plus" then a + b else if w="minus" then a - b else if w="times" then a * b else if w="under" then (if a < b then 1 else 0) else if w="same" then (if a=b then 1 else 0) else if w="over" then a.fdiv b else a.fmod b
def kr (w:Str):Prop:=¬ w="plus"∧¬ w="minus"∧¬ w="times"∧¬ w="under"∧¬ w="same"
instance (w:Str):Decidable (kr w):=by unfold kr;infer_instance
def xC (w:Str) (a b:Int):Except Er Int:=if kr w∧b=0 then .error .nought else if inW (yd w a b)=true then .ok (yd w a b) else .error .great
def vA (kvs:List (Key × V)):V→Int
 | .int i=>i
 | .str x=>(match yf kvs (.inr x) with | some (.int i)=>i | _=>0)
 | _=>0
def xL (kvs:List (Key × V)) (st:List Int) (v:V):Except Er (List Int) :=
 if isJ v=true then (match v,st.reverse with | .str w,b :: a :: r=>(match xC w a b with | .ok c=>.ok (r.reverse ++ [c]) | .error e=>.error e) | _,_=>.error .stuck) else .ok (st ++ [vA kvs v])
def x8 (kvs:List (Key × V)):List V→List Int→Except Er (List Int)
 | [],st=>.ok st
 | v :: r,st=>match xL kvs st v with | .ok st'=>x8 kvs r st' | .error e=>.error e
section
variable {kvs:List (Key × V)}
theorem jc:∀ (p q:List V) (st:List Int),x8 kvs (p ++ q) st=match x8 kvs p st with | .ok st'=>x8 kvs q st' | .error e=>.error e
 | [],q,st=>rfl
 | v :: r,q,st=>by
  show (match xL kvs st v with | .ok st'=>x8 kvs (r ++ q) st' | .error e=>.error e)=match (match xL kvs st v with | .ok st'=>x8 kvs r st' | .error e=>.error e) with | .ok st'=>x8 kvs q st' | .error e=>.error e
  cases xL kvs st v with
  | error e=>rfl
  | ok st'=>exact jc r q st'
def Good (kvs:List (Key × V)) (ps:List V) (r:Except Er Int):Prop:=(∀ st,x8 kvs ps st=match r with | .ok i=>.ok (st ++ [i]) | .error e=>.error e)∧r≠.error .stuck
theorem wA {v:V} (h:isJ v=false):Good kvs [v] (.ok (vA kvs v)):=by
 refine ⟨fun st=>?_,fun z=>nomatch z⟩
 unfold x8 xL
 rw [h,if_neg (by decide)]
 rfl
def zak (w:Str) (r1 r2:Except Er Int):Except Er Int:=match r1 with | .error e=>.error e | .ok a=>match r2 with | .error e=>.error e | .ok b=>xC w a b
theorem Kd (w:Str) (a b:Int):xC w a b≠.error .stuck:=by
 unfold xC
 split
 ·exact fun z=>nomatch z
 ·split <;> exact fun z=>nomatch z
theorem Ys {w:Str} {p1 p2:List V} {r1 r2:Except Er Int} (hw:isJ (.str w)=true) (g1:Good kvs p1 r1) (g2:Good kvs p2 r2):Good kvs (p1 ++ p2 ++ [.str w]) (zak w r1 r2):=by
 refine ⟨fun st=>?_,?_⟩
 ·rw [jc,jc,g1.1]
  cases r1 with
  | error e=>rfl
  | ok a =>
   show (match x8 kvs p2 (st ++ [a]) with | .ok st'=>x8 kvs [.str w] st' | .error e=>.error e)=_
   rw [g2.1]
   cases r2 with
   | error e=>rfl
   | ok b =>
    show x8 kvs [.str w] (st ++ [a] ++ [b])=match xC w a b with | .ok i=>.ok (st ++ [i]) | .error e=>.error e
    unfold x8 xL
    rw [hw,if_pos rfl]
    simp only [List.reverse_append,List.reverse_cons,List.reverse_nil,List.nil_append,List.cons_append,List.append_assoc]
    cases xC w a b with
    | error e=>rfl
    | ok c=>simp [x8]
 ·unfold zak
  cases r1 with
  | error e=>exact g1.2
  | ok a =>
   cases r2 with
   | error e=>exact g2.2
   | ok b=>exact Kd w a b
theorem VA {ps:List V} {i:Nat} {st:List Int} {e:Er} (h:x8 kvs (ps.take i) st=.error e):x8 kvs ps st=.error e:=by
 have:=jc (kvs:=kvs) (ps.take i) (ps.drop i) st
 rw [List.take_append_drop,h] at this
 exact this
theorem QG {ps:List V} {i:Nat} {st st0:List Int} {v:V} (h:x8 kvs (ps.take i) st0=.ok st) (hv:ps[i]?=some v):x8 kvs (ps.take (i + 1)) st0=xL kvs st v:=by
 rw [List.take_add_one,hv]
 show x8 kvs (ps.take i ++ [v]) st0=_
 rw [jc,h]
 show (match xL kvs st v with | .ok st'=>x8 kvs [] st' | .error e=>.error e)=_
 cases xL kvs st v <;> rfl
end
def xM (v:V):Prop:=(∃ i,v=.int i∧inW i=true)∨∃ x:Str,v=.str x∧x.length≤1000
def xD (kvs:List (Key × V)):Prop:=∀ k v,yf kvs k=some v→∃ i,v=.int i∧inW i=true
theorem XQ {kvs:List (Key × V)} (h:xD kvs) {v:V} (hv:xM v):inW (vA kvs v)=true:=by
 rcases hv with ⟨i,rfl,hi⟩ | ⟨x,rfl,_⟩
 ·exact hi
 ·show inW (match yf kvs (.inr x) with | some (.int i)=>i | _=>0)=true
  cases e:yf kvs (.inr x) with
  | none=>rfl
  | some u =>
   obtain ⟨i,rfl,hi⟩:=h _ _ e
   exact hi
theorem inW_iff {i:Int}:inW i=true↔-1000000000000000000000000000000≤i∧i≤1000000000000000000000000000000:=by unfold inW;rw [decide_eq_true_eq]
theorem qE {i:Int} (h:inW i=true):-big < i∧i < big:=by
 have:=inW_iff.mp h
 have hb:(1000000000000000000000000000001:Int) < big:=by decide +kernel
 omega
theorem Ke {a b:Int} (ha:inW a=true) (hb:b≠0):inW (a.fdiv b)=true:=by
 have:=inW_iff.mp ha
 refine inW_iff.mpr ?_
 have h1:(a.fdiv b).natAbs≤a.natAbs:=by
  rcases Int.lt_or_gt_of_ne hb with h | h
  ·rw [← Int.neg_fdiv_neg,Int.fdiv_eq_ediv_of_nonneg _ (by omega)]
   have:=Int.natAbs_ediv_le_natAbs (-a) (-b)
   omega
  ·rw [Int.fdiv_eq_ediv_of_nonneg _ (by omega)]
   exact Int.natAbs_ediv_le_natAbs a b
 omega
end L2
namespace L2
open PySem PySem.Spec PyProof.Rows
def Itv (K:PySem.W.Frag) (a:Addr) (xs:List V):It:=⟨fun i H=>i < xs.length∧SqL K H a xs,fun i H x H'=>H'=H∧xs[xs.length - 1 - i]?=some x,fun i _=>xs.length≤i⟩
def zcT (K:PySem.W.Frag) (ta:TA):TI:=fun σ H R=>ta σ H fun vs H1=>∃ a xs,vs=[.ref a]∧SqL K H1 a xs∧R (Itv K a xs) H1
section
variable {X:Cx} {tg:Expr}
end
section
variable {σ:St} {H:Hp} {nx:St→Hp→Prop} {B:V→St→Hp→(St→Hp→Prop)→Prop}
end
end L2
namespace L2
open PySem PySem.Spec PyProof.Rows
abbrev XR (K:PySem.W.Frag):RC:=fun xs H Q=>∃ p ys,xs=[.ref p]∧(SqL K H p ys∨SqT K H p ys)∧∀ l,H l=none→Q (.ref l) (upd H l (.lst ys))
abbrev zcU:RC:=fun xs H Q=>∃ i j,xs=[.int i,.int j]∧Q (.int (if j < i then j else i)) H
def inL (c:Nat):Bool:=!(Builtin.Str.occurrences "abcdefghijklmnopqrstuvwxyz" ⟨#[c]⟩ 0 (Str.length "abcdefghijklmnopqrstuvwxyz") 1).isEmpty
def wl:List V:=[.str "take",.str "give",.str "let",.str "say",.str "off",.str "if",.str "else",.str "end",.str "as"]
def ye (x:Str):Bool:=!(decide (x="") || decide (6 < x.length)) && !(inV (.str x) jw || inV (.str x) wl) && x.cps.toList.all inL
theorem QH (c:Nat):inL c=true→97≤c∧c≤122:=by
 unfold inL
 rw [StrLaws.found_one]
 have e:(Str.ofString "abcdefghijklmnopqrstuvwxyz").cps.toList=[97,98,99,100,101,102,103,104,105,106,107,108,109,110,111,112,113,114,115,116,117,118,119,120,121,122]:=by decide +kernel
 rw [e]
 simp only [decide_eq_true_eq,List.mem_cons,List.not_mem_nil,or_false]
 omega
theorem kt {x:Str} (h:ye x=true):x.cps.toList≠[]∧x.length≤6∧isJ (.str x)=false∧x.cps.toList.all inL=true:=by
 unfold ye at h
 rw [Bool.and_eq_true,Bool.and_eq_true,Bool.not_eq_true',Bool.not_eq_true',Bool.or_eq_false_iff,Bool.or_eq_false_iff,decide_eq_false_iff_not,decide_eq_false_iff_not] at h
 refine ⟨fun z=>h.1.1.1 (QE (by rw [z];decide +kernel)),by omega,h.1.2.1,h.2⟩
def Kf (w:Str):Option V:=if ye w=true then some (.str w) else if zbr w=true then some (.int (Ka w)) else none
inductive Tw where
 | leaf (w:Str) | node (w:Str) (a b:Tw)
def pre:Tw→List Str
 | .leaf w=>[w]
 | .node w a b=>w :: (pre a ++ pre b)
def wfT:Tw→Prop
 | .leaf w=>isJ (.str w)=false
 | .node w a b=>isJ (.str w)=true∧wfT a∧wfT b
def okT:Tw→Bool
 | .leaf w=>(Kf w).isSome
 | .node _ a b=>okT a && okT b
def pvw (w:Str):V:=(Kf w).getD (.str w)
def pst:Tw→List V
 | .leaf w=>[pvw w]
 | .node w a b=>pst a ++ pst b ++ [.str w]
def zbu:List Str→Nat→Option Nat
 | _,0=>some 0
 | [],_ + 1=>none
 | w :: r,d + 1=>(zbu r (if isJ (.str w)=true then d + 2 else d)).map (· + 1)
def VB (st:List (List V)) (w:Str):Except Bool (List (List V)) :=
 if isJ (.str w)=true then (match st.reverse with | a :: b :: r=>.ok (r.reverse ++ [a ++ b ++ [.str w]]) | _=>.error false) else (match Kf w with | some v=>.ok (st ++ [[v]]) | none=>.error true)
def WW:List Str→List (List V)→Except Bool (List (List V))
 | [],st=>.ok st
 | w :: r,st=>match VB st w with | .ok st'=>WW r st' | .error e=>.error e
theorem Kg:∀ (p q:List Str) (st:List (List V)),WW (p ++ q) st=match WW p st with | .ok st'=>WW q st' | .error e=>.error e
 | [],q,st=>rfl
 | v :: r,q,st=>by
  show (match VB st v with | .ok st'=>WW (r ++ q) st' | .error e=>.error e)=match (match VB st v with | .ok st'=>WW r st' | .error e=>.error e) with | .ok st'=>WW q st' | .error e=>.error e
  cases VB st v with
  | error e=>rfl
  | ok st'=>exact Kg r q st'
end L2
namespace L2
open PySem PySem.Spec PyProof.Rows
abbrev zcV:RC:=fun xs H Q=>∃ a kvs,xs=[.ref a]∧H a=some (.dK kvs)∧∀ p,H p=none→Q (.ref p) (upd H p (.dK kvs))
abbrev zcW:R2:=fun x y H Q=>∃ a b kvs,x=.ref a∧y=.ref b∧H a=some (.dK kvs)∧H b=some (.dK kvs)∧(∀ p∈kvs,∃ i,p.2=V.int i)∧Q (.bl false) H
section
variable {X:Cx}
end
theorem Kh {x:Str} (h:ye x=true):Asc x:=fun c hc=>by
 have:=QH c (List.all_eq_true.mp (kt h).2.2.2 c hc)
 omega
end L2
namespace L2
open PySem PySem.Spec PyProof.Rows
section
variable {P:Program} {w:World} {A:Around} {E:Value→Shared→Prop} {s:Shared}
end
section
variable {P:Program} {w:World} {A:Around} {E:Value→Shared→Prop} {s:Shared}
end
section
variable {P:Program} {w:World} {A:Around} {E:Value→Shared→Prop} {s:Shared}
end
theorem Inv.turnedL {X:Cx} {pins:List (Addr × Obj)} {σ:St} {H:Hp} {s:Shared} {h':Heap} {t':Nat} {ch:List Addr} (I:Inv X pins σ H s) (k:∀ b o,b ∉ ch→s.heap.get? b=some o→h'.get? b=some o) (hf:∀ b∈ch,v0 X pins H b) :
  Inv X pins σ H { s with heap:=h',toks:=t' }:=by
 have nit:∀ b u,H b=some u→b ∉ ch:=fun b u e z=>by rw [(hf b z).1] at e;cases e
 refine I.step (g':=s.gens) (d':=s.drawn) (ch:=ch) (fun b hb=>?_) (fun b o _ _ hc e _=>k b o hc e) (fun b o _ _ hc e _=>⟨o.slots,k b o hc e⟩) (fun _ _ _ _ n=>n) (fun b o hc e=>⟨o,k b o hc e⟩) (fun _ _ e=>e) (fun _ _ _ e=>e) (fun b ps e=>⟨#[],by rw [e];simp⟩) (fun m hm=>?_) (fun b u e=>?_) I.bare
 ·obtain ⟨f0,f1,f2,f3,f4,f5⟩:=hf b hb
  exact ⟨f3,f1,f4,f5⟩
 ·obtain ⟨o,es,ep,ho,r⟩:=hm
  exact ⟨o,es,ep,k _ o (fun z=>(hf _ z).2.1 rfl) ho,r⟩
 ·refine (I.hok b u e).stay (fun c v hc q=>k c v ?_ q) (fun _ q=>q) fun _ _ q=>q
  rcases hc with z | z
  ·rw [z];exact nit b u e
  ·exact nit c _ z
def Itz (K:PySem.W.Frag) (p q:Addr) (xs ys:List V):It:=⟨fun i H=>i < xs.length∧SqT K H p xs∧SqT K H q ys,fun i H x H'=>∃ T u v,x=.ref T∧H T=none∧H'=upd H T (.tup [u,v])∧xs[i]?=some u∧ys[i]?=some v,fun i H=>xs.length≤i∧SqT K H p xs∧SqT K H q ys⟩
def zcX (K:PySem.W.Frag) (ta:TA):TI:=fun σ H R=>ta σ H fun vs H1=>∃ p q xs ys,vs=[.ref p,.ref q]∧SqT K H1 p xs∧SqT K H1 q ys∧xs.length=ys.length∧R (Itz K p q xs ys) H1
section
variable {X:Cx}
end
section
variable {σ:St} {H:Hp} {nx:St→Hp→Prop} {B:V→St→Hp→(St→Hp→Prop)→Prop}
end
abbrev qt (K:PySem.W.Frag):RC:=fun xs H Q=>∃ p ys,xs=[.ref p]∧((SqL K H p ys∧∀ l,H l=none→Q (.ref l) (upd H l (.tup ys)))∨(SqT K H p ys∧Q (.ref p) H))
def VC (st:List (List V)) (v:V):Option (List (List V)):=if isJ v=true then (match st.reverse with | b :: a :: r=>some (r.reverse ++ [v :: (a ++ b)]) | _=>none) else some (st ++ [[v]])
def WX:List V→List (List V)→Option (List (List V))
 | [],st=>some st
 | v :: r,st=>(VC st v).bind (WX r)
theorem Ki:∀ (p q:List V) (st:List (List V)),WX (p ++ q) st=(WX p st).bind (WX q)
 | [],q,st=>rfl
 | v :: r,q,st=>by
  show (VC st v).bind (WX (r ++ q))=((VC st v).bind (WX r)).bind (WX q)
  cases VC st v with
  | none=>rfl
  | some st'=>exact Ki r q st'
end L2
namespace L2
open PySem PySem.W PyProof.Rows
section
variable {α β:Type} {lt:Nat→Nat→Bool} {n:Nat}
def kOk (lt:Nat→Nat→Bool) (n:Nat):KasT α→(α→Prop)→Prop
 | .ret a,R=>R a
 | .ask i j k,R=>i < n∧j < n∧i≠j∧kOk lt n (k (lt i j)) R
theorem Kj:∀ {t:KasT α} {f:α→KasT β} {R:β→Prop},kOk lt n t (fun a=>kOk lt n (f a) R)→kOk lt n (t.bind f) R
 | .ret _,_,_,h=>h
 | .ask _ _ _,_,_,h=>⟨h.1,h.2.1,h.2.2.1,Kj h.2.2.2⟩
theorem Kk:∀ {t:KasT α} {R R':α→Prop},kOk lt n t R→(∀ a,R a→R' a)→kOk lt n t R'
 | .ret _,_,_,h,m=>m _ h
 | .ask _ _ _,_,_,h,m=>⟨h.1,h.2.1,h.2.2.1,Kk h.2.2.2 m⟩
structure SO (lt:Nat→Nat→Bool) (n:Nat):Prop where
 irr:∀ i,i < n→lt i i=false
 trans:∀ i j k,i < n→j < n→k < n→lt i j=true→lt j k=true→lt i k=true
 tot:∀ i j,i < n→j < n→i≠j→lt i j=false→lt j i=true
def PP (n:Nat) (p:Array Nat):Prop:=p.Perm (List.range n).toArray
def gt (p:Array Nat) (k:Nat):Nat:=p.getD k 0
theorem x9 {p:Array Nat} {k:Nat} (h:k < p.size):p[k]?=some (gt p k):=by
 unfold gt
 rw [Array.getD_eq_getD_getElem?,Array.getElem?_eq_getElem h]
 rfl
theorem PP.size {p:Array Nat} (h:PP n p):p.size=n:=by
 have:=h.size_eq
 simpa using this
theorem PP.blt {p:Array Nat} (h:PP n p) {k:Nat} (hk:k < n):gt p k < n:=by
 have hs:=h.size
 have m:gt p k∈p:=Array.mem_of_getElem? (x9 (by omega))
 have m2:gt p k∈(List.range n).toArray:=(Array.Perm.mem_iff h).mp m
 simpa using m2
theorem PP.inj {p:Array Nat} (h:PP n p) {i j:Nat} (hi:i < n) (hj:j < n) (e:gt p i=gt p j):i=j:=by
 have hs:=h.size
 have nd:p.toList.Nodup:=by
  have:p.toList.Perm (List.range n):=by
   have:=Array.perm_iff_toList_perm.mp h
   simpa using this
  exact this.nodup_iff.mpr List.nodup_range
 have e1:=x9 (p:=p) (k:=i) (by omega)
 have e2:=x9 (p:=p) (k:=j) (by omega)
 rw [← e] at e2
 have e1':p.toList[i]?=some (gt p i):=by simpa using e1
 have e2':p.toList[j]?=some (gt p i):=by simpa using e2
 obtain ⟨a1,b1⟩:=List.getElem?_eq_some_iff.mp e1'
 obtain ⟨a2,b2⟩:=List.getElem?_eq_some_iff.mp e2'
 exact (List.getElem_inj nd).mp (b1.trans b2.symm)
def Ze (lt:Nat→Nat→Bool) (p:Array Nat) (m:Nat):Prop:=∀ i j,i < j→j < m→lt (gt p i) (gt p j)=true
theorem XS (S:SO lt n) {p:Array Nat} (hp:PP n p) {k:Nat} (hk:k < n) (hr:Ze lt p k):∀ (f l r:Nat),l≤r→r≤k→r - l≤f→(∀ i,i < l→lt (gt p i) (gt p k)=true)→(∀ i,r≤i→i < k→lt (gt p k) (gt p i)=true) →
  kOk lt n (kas_place p k f l r) fun m=>m≤k∧(∀ i,i < m→lt (gt p i) (gt p k)=true)∧∀ i,m≤i→i < k→lt (gt p k) (gt p i)=true
 | 0,l,r,h1,h2,h3,h4,h5=>⟨by omega,h4,fun i hi hik=>h5 i (by omega) hik⟩
 | f + 1,l,r,h1,h2,h3,h4,h5=>by
  unfold kas_place
  by_cases c:l ≥ r
  ·rw [if_pos c]
   exact ⟨by omega,h4,fun i hi hik=>h5 i (by omega) hik⟩
  ·rw [if_neg c]
   refine ⟨hp.blt (by omega),hp.blt (by omega),(fun z=>by have:=hp.inj (by omega) (by omega) z;omega),?_⟩
   show kOk lt n (if lt (gt p k) (gt p ((l + r) / 2))=true then _ else _) _
   by_cases d:lt (gt p k) (gt p ((l + r) / 2))=true
   ·rw [if_pos d]
    refine XS S hp hk hr f l ((l + r) / 2) (by omega) (by omega) (by omega) h4 fun i hi hik=>?_
    by_cases e:i=(l + r) / 2
    ·rw [e];exact d
    ·exact S.trans _ _ _ (hp.blt (by omega)) (hp.blt (by omega)) (hp.blt (by omega)) d (hr _ i (by omega) hik)
   ·rw [if_neg d]
    have up:lt (gt p ((l + r) / 2)) (gt p k)=true:=S.tot _ _ (hp.blt (by omega)) (hp.blt (by omega)) (fun z=>by have:=hp.inj (by omega) (by omega) z;omega) (Bool.eq_false_iff.mpr d)
    refine XS S hp hk hr f ((l + r) / 2 + 1) r (by omega) (by omega) (by omega) (fun i hi=>?_) h5
    by_cases e:i=(l + r) / 2
    ·rw [e];exact up
    ·exact S.trans _ _ _ (hp.blt (by omega)) (hp.blt (by omega)) (hp.blt (by omega)) (hr i _ (by omega) (by omega)) up
theorem zaK {p:Array Nat} {k d j:Nat} (hk:k < p.size) (hd:d≤k) (hj:j < p.size):gt (bubble p k d) j=if j=k - d then gt p k else if k - d < j∧j≤k then gt p (j - 1) else gt p j:=by
 have e:=getElem?_bubble hk d hd j
 rw [x9 (p:=bubble p k d) (k:=j) (by rw [bubble_size];exact hj)] at e
 by_cases h1:j=k - d
 ·rw [if_pos h1,x9 hk] at e
  rw [if_pos h1];exact Option.some.inj e
 ·rw [if_neg h1] at e ⊢
  by_cases h2:k - d < j∧j≤k
  ·rw [if_pos h2,x9 (by omega)] at e
   rw [if_pos h2];exact Option.some.inj e
  ·rw [if_neg h2,x9 hj] at e
   rw [if_neg h2];exact Option.some.inj e
end
end L2
namespace L2
open PySem PySem.W PyProof.Rows
abbrev SMZ:=StateT SortSt Sem
def vB:Bool→Keyed→Array Keyed→Nat→Nat→Nat→SMZ (Option Nat):=sortPriv% PySem.Builtin.gallop
def Jl:Array Keyed→Array Keyed→SMZ (Array Keyed):=sortPriv% PySem.Builtin.mergeLo
def Jm:Array Keyed→Array Keyed→SMZ (Array Keyed):=sortPriv% PySem.Builtin.mergeHi
def VD (g:Nat):SMZ Unit:=(sortPriv% PySem.Builtin.setMinGallop) g
def VE (left:Bool) (key:Keyed) (arr:Array Keyed) (base:Nat) (i:Nat):SMZ (Option Bool):=do
 let x ← elem' arr (base + i)
 if left then lt' x key else return (← lt' key x).map (!·)
def gBZ (bf:Nat→SMZ (Option Bool)) (n lo hi:Nat):SMZ (Option (Option Nat) × Nat × Nat) :=
 forIn [:n] (none,lo,hi) fun _ z=>if z.2.1 ≥ z.2.2 then pure (.done (none,z.2.1,z.2.2)) else do
  match ← bf (z.2.1 + (z.2.2 - z.2.1) / 2) with
  | some m=>if m=true then pure (.yield (none,z.2.1 + (z.2.2 - z.2.1) / 2 + 1,z.2.2)) else pure (.yield (none,z.2.1,z.2.1 + (z.2.2 - z.2.1) / 2))
  | _=>pure (.done (some none,z.2.1,z.2.2))
def gEZ (bf:Nat→SMZ (Option Bool)) (n lo hi:Nat):SMZ (Option Nat):=do
 let z ← gBZ bf n lo hi
 match z.1 with
 | some r=>pure r
 | none=>pure (some z.2.2)
def gRZ (bf:Nat→SMZ (Option Bool)) (n hint mx:Nat):SMZ (Option (Option Nat) × Nat × Nat) :=
 forIn [:n] (none,0,1) fun _ z=>if z.2.2 ≥ mx then pure (.done (none,z.2.1,z.2.2)) else do
  match ← bf (hint + z.2.2) with
  | some m=>if (!m)=true then pure (.done (none,z.2.1,z.2.2)) else pure (.yield (none,z.2.2,2 * z.2.2 + 1))
  | _=>pure (.done (some none,z.2.1,z.2.2))
def gLZ (bf:Nat→SMZ (Option Bool)) (n hint mx:Nat):SMZ (Option (Option Nat) × Nat × Nat) :=
 forIn [:n] (none,0,1) fun _ z=>if z.2.2 ≥ mx then pure (.done (none,z.2.1,z.2.2)) else do
  match ← bf (hint - z.2.2) with
  | some m=>if m=true then pure (.done (none,z.2.1,z.2.2)) else pure (.yield (none,z.2.2,2 * z.2.2 + 1))
  | _=>pure (.done (some none,z.2.1,z.2.2))
def VF (bf:Nat→SMZ (Option Bool)) (n hint:Nat):SMZ (Option Nat):=do
 match ← bf hint with
 | some r=>if r=true then (do
   let z ← gRZ bf n hint (n - hint)
   match z.1 with
   | some r=>pure r
   | none=>gEZ bf n (hint + z.2.1 + 1) (hint + min z.2.2 (n - hint))) else (do
   let z ← gLZ bf n hint (hint + 1)
   match z.1 with
   | some r=>pure r
   | none=>gEZ bf n (hint + 1 - min z.2.2 (hint + 1)) (hint - z.2.1))
 | _=>pure none
theorem XT (left:Bool) (key:Keyed) (arr:Array Keyed) (base n hint:Nat):vB left key arr base n hint=VF (VE left key arr base) n hint:=by
 have tl:∀ (lo hi:Nat) (f:Option (Option Nat) × Nat × Nat→SMZ (Option Nat)),(∀ z,f z=match z.1 with | some r=>pure r | none=>pure (some z.2.2))→(gBZ (VE left key arr base) n lo hi >>= f)=gEZ (VE left key arr base) n lo hi:=fun lo hi f h=>by
  unfold gEZ
  congr 1
  exact funext h
 unfold VF
 show bind _ _=bind _ _
 congr 1
 funext z
 cases z with
 | none=>rfl
 | some r =>
  show ite _ _ _=ite _ _ _
  congr 1
  ·show bind _ _=bind _ _
   congr 1
   funext z
   obtain ⟨z1,z2,z3⟩:=z
   cases z1 with
   | some r=>rfl
   | none =>
    refine tl _ _ _ fun z=>?_
    obtain ⟨z1,z2,z3⟩:=z
    cases z1 <;> rfl
  ·show bind _ _=bind _ _
   congr 1
   funext z
   obtain ⟨z1,z2,z3⟩:=z
   cases z1 with
   | some r=>rfl
   | none =>
    refine tl _ _ _ fun z=>?_
    obtain ⟨z1,z2,z3⟩:=z
    cases z1 <;> rfl
section
variable {prog:Program} {w:World} {A:Around} {E:Value→Shared→Prop} {s:Shared}
def zal (M:Model) (A:Around) (E:Value→Shared→Prop) (s:Shared) (st:SortSt) (bf:Nat→SMZ (Option Bool)) (b:Nat→Bool) (n:Nat):Prop:=∀ i,i < n→∀ Q:Option Bool→SortSt→Prop,Q (some (b i)) st→wpS M A E s (bf i) Q st
structure zaL (b:Nat→Bool) (n k:Nat):Prop where
 le:k≤n
 lo:∀ i,i < k→b i=true
 hi:∀ i,k≤i→i < n→b i=false
variable {M:Model} {st:SortSt} {bf:Nat→SMZ (Option Bool)} {b:Nat→Bool} {n:Nat}
theorem VG {lo hi:Nat} {Q:Option Nat→SortSt→Prop} (ha:zal M A E s st bf b n) (mono:∀ i j,i≤j→j < n→b j=true→b i=true) (h1:lo≤hi) (h2:hi≤n) (hl:∀ i,i < lo→b i=true) (hh:∀ i,hi≤i→i < n→b i=false) (q:∀ k,zaL b n k→Q (some k) st) :
  wpS M A E s (gEZ bf n lo hi) Q st:=by
 unfold gEZ
 refine wpS_bind (wpS_mono (show wpS M A E s (gBZ bf n lo hi) (fun z st'=>st=st'∧z.1=none∧zaL b n z.2.2) st from ?_) ?_)
 ·unfold gBZ
  refine wpS_forRange (fun x z st'=>st=st'∧z.1=none∧z.2.1≤z.2.2∧z.2.2≤n∧(∀ i,i < z.2.1→b i=true)∧(∀ i,z.2.2≤i→i < n→b i=false)∧z.2.2 - z.2.1≤n - x) ?_ ?_ ⟨rfl,rfl,h1,h2,hl,hh,by dsimp only;omega⟩
  ·rintro x ⟨r,l,h⟩ st' _ hx ⟨rfl,rfl,a1,a2,a3,a4,a5⟩
   dsimp only at *
   by_cases c:l ≥ h
   ·rw [if_pos c]
    exact wpS_pure ⟨rfl,rfl,a2,fun i hi=>a3 i (by dsimp only at hi;omega),a4⟩
   ·rw [if_neg c]
    refine wpS_bind (ha _ (by omega) _ ?_)
    dsimp only
    cases e:b (l + (h - l) / 2) with
    | true =>
     rw [if_pos rfl]
     refine wpS_pure ⟨rfl,rfl,by dsimp only;omega,a2,fun i hi=>?_,a4,by dsimp only;omega⟩
     dsimp only at hi
     exact mono i _ (by omega) (by omega) e
    | false =>
     rw [if_neg (by decide)]
     refine wpS_pure ⟨rfl,rfl,by dsimp only;omega,by dsimp only;omega,a3,fun i h1 h2=>?_,by dsimp only;omega⟩
     dsimp only at h1
     cases e2:b i with
     | false=>rfl
     | true=>rw [mono _ i h1 h2 e2] at e;cases e
  ·rintro ⟨r,l,h⟩ st' ⟨rfl,rfl,a1,a2,a3,a4,a5⟩
   dsimp only at *
   have:max 0 n=n:=by omega
   exact ⟨rfl,rfl,a2,fun i hi=>a3 i (by omega),a4⟩
 ·rintro ⟨r,l,h⟩ st' ⟨rfl,rfl,c⟩
  exact wpS_pure (q _ c)
theorem Jn {hint:Nat} {Q:Option Nat→SortSt→Prop} (ha:zal M A E s st bf b n) (mono:∀ i j,i≤j→j < n→b j=true→b i=true) (hn:hint < n) (q:∀ k,zaL b n k→Q (some k) st) :
  wpS M A E s (VF bf n hint) Q st:=by
 unfold VF
 refine wpS_bind (ha _ hn _ ?_)
 dsimp only
 cases e:b hint with
 | true =>
  rw [if_pos rfl]
  refine wpS_bind (wpS_mono (show wpS M A E s (gRZ bf n hint (n - hint)) (fun z st'=>st=st'∧z.1=none∧hint + z.2.1 < n∧b (hint + z.2.1)=true∧z.2.1 < z.2.2∧(z.2.2 < n - hint→b (hint + z.2.2)=false)) st from ?_) ?_)
  ·unfold gRZ
   refine wpS_forRange (fun x z st'=>st=st'∧z.1=none∧hint + z.2.1 < n∧b (hint + z.2.1)=true∧z.2.1 < z.2.2∧x < z.2.2) ?_ ?_ ⟨rfl,rfl,hn,by simpa using e,by dsimp only;omega,by dsimp only;omega⟩
   ·rintro x ⟨r,l,o⟩ st' _ hx ⟨rfl,rfl,a1,a2,a3,a4⟩
    dsimp only at *
    by_cases c:o ≥ n - hint
    ·rw [if_pos c]
     exact wpS_pure ⟨rfl,rfl,a1,a2,a3,fun z=>by dsimp only at z;omega⟩
    ·rw [if_neg c]
     refine wpS_bind (ha _ (by omega) _ ?_)
     dsimp only
     cases e2:b (hint + o) with
     | true =>
      rw [if_neg (by decide)]
      exact wpS_pure ⟨rfl,rfl,by dsimp only;omega,e2,by dsimp only;omega,by dsimp only;omega⟩
     | false =>
      rw [if_pos (by decide)]
      exact wpS_pure ⟨rfl,rfl,a1,a2,a3,fun _=>e2⟩
   ·rintro ⟨r,l,o⟩ st' ⟨rfl,rfl,a1,a2,a3,a4⟩
    dsimp only at *
    exact ⟨rfl,rfl,a1,a2,a3,fun z=>by omega⟩
  ·rintro ⟨r,l,o⟩ st' ⟨rfl,rfl,a1,a2,a3,a4⟩
   dsimp only at *
   refine VG ha mono (by omega) (by omega) (fun i hi=>mono i _ (by omega) a1 a2) (fun i h1 h2=>?_) q
   have f:=a4 (by omega)
   cases e2:b i with
   | false=>rfl
   | true=>rw [mono (hint + o) i (by omega) h2 e2] at f;cases f
 | false =>
  rw [if_neg (by decide)]
  refine wpS_bind (wpS_mono (show wpS M A E s (gLZ bf n hint (hint + 1)) (fun z st'=>st=st'∧z.1=none∧z.2.1≤hint∧b (hint - z.2.1)=false∧z.2.1 < z.2.2∧(z.2.2 < hint + 1→b (hint - z.2.2)=true)) st from ?_) ?_)
  ·unfold gLZ
   refine wpS_forRange (fun x z st'=>st=st'∧z.1=none∧z.2.1≤hint∧b (hint - z.2.1)=false∧z.2.1 < z.2.2∧x < z.2.2) ?_ ?_ ⟨rfl,rfl,by dsimp only;omega,by simpa using e,by dsimp only;omega,by dsimp only;omega⟩
   ·rintro x ⟨r,l,o⟩ st' _ hx ⟨rfl,rfl,a1,a2,a3,a4⟩
    dsimp only at *
    by_cases c:o ≥ hint + 1
    ·rw [if_pos c]
     exact wpS_pure ⟨rfl,rfl,a1,a2,a3,fun z=>by dsimp only at z;omega⟩
    ·rw [if_neg c]
     refine wpS_bind (ha _ (by omega) _ ?_)
     dsimp only
     cases e2:b (hint - o) with
     | false =>
      rw [if_neg (by decide)]
      exact wpS_pure ⟨rfl,rfl,by dsimp only;omega,e2,by dsimp only;omega,by dsimp only;omega⟩
     | true =>
      rw [if_pos rfl]
      exact wpS_pure ⟨rfl,rfl,a1,a2,a3,fun _=>e2⟩
   ·rintro ⟨r,l,o⟩ st' ⟨rfl,rfl,a1,a2,a3,a4⟩
    dsimp only at *
    exact ⟨rfl,rfl,a1,a2,a3,fun z=>by omega⟩
  ·rintro ⟨r,l,o⟩ st' ⟨rfl,rfl,a1,a2,a3,a4⟩
   dsimp only at *
   refine VG ha mono (by omega) (by omega) (fun i hi=>?_) (fun i h1 h2=>?_) q
   ·by_cases c:o < hint + 1
    ·exact mono i _ (by omega) (by omega) (a4 c)
    ·omega
   ·cases e2:b i with
    | false=>rfl
    | true=>rw [mono (hint - l) i (by omega) h2 e2] at a2;cases a2
end
def imZ (it:Nat→Keyed) (p:List Nat):Array Keyed:=(p.map it).toArray
section
variable {it:Nat→Keyed}
theorem xE (p:List Nat):(imZ it p).size=p.length:=by simp [imZ]
theorem yb {p:List Nat} {i x:Nat} (h:p[i]?=some x):(imZ it p)[i]?=some (it x):=by simp [imZ,h]
theorem jd (p:List Nat) (x:Nat):(imZ it p).push (it x)=imZ it (p ++ [x]):=by simp [imZ]
theorem zH (p q:List Nat):imZ it p ++ imZ it q=imZ it (p ++ q):=by simp [imZ]
theorem wZ (p:List Nat) (i j:Nat):(imZ it p).extract i j=imZ it ((p.drop i).take (j - i)):=by simp [imZ,List.map_take,List.map_drop]
theorem vC (p:List Nat) (i:Nat):(imZ it p).extract i (imZ it p).size=imZ it (p.drop i):=by
 rw [wZ,xE,List.take_of_length_le (by rw [List.length_drop];omega)]
end
theorem Yt {it:Nat→Keyed} (p:List Nat) (i:Nat):(imZ it p).extract i p.length=imZ it (p.drop i):=by
 rw [wZ,List.take_of_length_le (by rw [List.length_drop];omega)]
structure MIZ (lt:Nat→Nat→Bool) (a b o P Q:List Nat):Prop where
 so:o.Pairwise fun x y=>lt x y=true
 pe:(o ++ P ++ Q).Perm (a ++ b)
 be:∀ x∈o,∀ y∈P ++ Q,lt x y=true
 sp:P.Pairwise fun x y=>lt x y=true
 sq:Q.Pairwise fun x y=>lt x y=true
structure kU (lt:Nat→Nat→Bool) (a b m:List Nat):Prop where
 pe:m.Perm (a ++ b)
 so:m.Pairwise fun x y=>lt x y=true
section
variable {lt:Nat→Nat→Bool} {a b o P Q c:List Nat}
theorem MIZ.left (h:MIZ lt a b o (c ++ P) Q) (k:∀ x∈c,∀ y∈Q,lt x y=true):MIZ lt a b (o ++ c) P Q:=by
 have sp:=List.pairwise_append.mp h.sp
 refine ⟨List.pairwise_append.mpr ⟨h.so,sp.1,fun x hx y hy=>h.be x hx y (by simp [hy])⟩,?_,fun x hx y hy=>?_,sp.2.1,h.sq⟩
 ·have:=h.pe
  simpa [List.append_assoc] using this
 ·rcases List.mem_append.mp hx with hx | hx
  ·exact h.be x hx y (by rcases List.mem_append.mp hy with hy | hy <;> simp [hy])
  ·rcases List.mem_append.mp hy with hy | hy
   ·exact sp.2.2 x hx y hy
   ·exact k x hx y hy
theorem MIZ.right (h:MIZ lt a b o P (c ++ Q)) (k:∀ x∈c,∀ y∈P,lt x y=true):MIZ lt a b (o ++ c) P Q:=by
 have sq:=List.pairwise_append.mp h.sq
 refine ⟨List.pairwise_append.mpr ⟨h.so,sq.1,fun x hx y hy=>h.be x hx y (by simp [hy])⟩,?_,fun x hx y hy=>?_,h.sp,sq.2.1⟩
 ·refine List.Perm.trans ?_ h.pe
  rw [List.append_assoc,List.append_assoc,List.append_assoc]
  refine List.Perm.append_left _ ?_
  rw [← List.append_assoc,← List.append_assoc]
  exact List.Perm.append_right _ List.perm_append_comm
 ·rcases List.mem_append.mp hx with hx | hx
  ·exact h.be x hx y (by rcases List.mem_append.mp hy with hy | hy <;> simp [hy])
  ·rcases List.mem_append.mp hy with hy | hy
   ·exact k x hx y hy
   ·exact sq.2.2 x hx y hy
theorem MIZ.len (h:MIZ lt a b o P Q):o.length + P.length + Q.length=a.length + b.length:=by
 have:=h.pe.length_eq
 simp only [List.length_append] at this
 omega
theorem MIZ.end (h:MIZ lt a b o P Q) (k:∀ x∈P,∀ y∈Q,lt x y=true):kU lt a b (o ++ P ++ Q) :=
 ⟨h.pe,List.pairwise_append.mpr ⟨List.pairwise_append.mpr ⟨h.so,h.sp,fun x hx y hy=>h.be x hx y (by simp [hy])⟩,h.sq,fun x hx y hy=>by
  rcases List.mem_append.mp hx with hx | hx
  ·exact h.be x hx y (by simp [hy])
  ·exact k x hx y hy⟩⟩
theorem MIZ.end' (h:MIZ lt a b o P Q) (k:∀ x∈Q,∀ y∈P,lt x y=true):kU lt a b (o ++ Q ++ P):=by
 refine ⟨?_,List.pairwise_append.mpr ⟨List.pairwise_append.mpr ⟨h.so,h.sq,fun x hx y hy=>h.be x hx y (by simp [hy])⟩,h.sp,fun x hx y hy=>?_⟩⟩
 ·refine List.Perm.trans ?_ h.pe
  rw [List.append_assoc,List.append_assoc]
  exact List.Perm.append_left _ List.perm_append_comm
 ·rcases List.mem_append.mp hx with hx | hx
  ·exact h.be x hx y (by simp [hy])
  ·exact k x hx y hy
theorem MIZ.start (ha:a.Pairwise fun x y=>lt x y=true) (hb:b.Pairwise fun x y=>lt x y=true):MIZ lt a b [] a b:=⟨.nil,by simp,(fun x h=>nomatch h),ha,hb⟩
end
section
variable {prog:Program} {w:World} {A:Around} {E:Value→Shared→Prop} {s:Shared} {κ:SortKind} {it:Nat→Keyed} {lt:Nat→Nat→Bool} {N:Nat}
def xF (prog:Program) (w:World) (A:Around) (s:Shared) (κ:SortKind) (it:Nat→Keyed) (lt:Nat→Nat→Bool) (N:Nat):Prop:=∀ i j (C:Bool→Shared→Prop),i < N→j < N→i≠j→C (lt i j) s→wpAny (model prog w) A (keyLt' κ (it i).1 (it j).1) C (fun _ _=>False) s
structure xi (κ:SortKind) (st0 st:SortSt):Prop where
 k:kindOf st=κ
 f:failedOf st=none
 a:arrOf st=arrOf st0
 p:pendingOf st=pendingOf st0
theorem je {st:SortSt} {i j:Nat} {Q:Option Bool→SortSt→Prop} (hc:xF prog w A s κ it lt N) (hk:kindOf st=κ) (hi:i < N) (hj:j < N) (hij:i≠j) (q:Q (some (lt i j)) st):wpS (model prog w) A E s (lt' (it i) (it j)) Q st:=by
 rw [lt'_eq]
 refine wpS_bind (wpS_get ?_)
 rw [hk]
 refine wpS_bind (wpS_lift (wpAny_attempt (wpAny_mono (hc i j (fun b s'=>s'=s∧b=lt i j) hi hj hij ⟨rfl,rfl⟩) (fun b s' h=>?_) fun _ _ h=>h.elim)))
 obtain ⟨rfl,rfl⟩:=h
 exact ⟨rfl,wpS_pure q⟩
theorem zL {M:Model} {st:SortSt} {arr:Array Keyed} {i:Nat} {x:Keyed} {Q:Keyed→SortSt→Prop} (h:arr[i]?=some x) (q:Q x st):wpS M A E s (elem' arr i) Q st:=by
 rw [elem'_eq,h]
 exact wpS_pure q
theorem Kl (S:SO lt N) {i j:Nat} (hi:i < N) (hj:j < N) (hij:i≠j):(!lt i j)=lt j i:=by
 cases e:lt i j with
 | false=>rw [S.tot i j hi hj hij e];rfl
 | true =>
  cases e2:lt j i with
  | false=>rfl
  | true =>
   have:=S.trans i j i hi hj hi e e2
   rw [S.irr i hi] at this;cases this
theorem xq {st:SortSt} {left:Bool} {kx base n hint:Nat} {a:List Nat} {Q:Option Nat→SortSt→Prop} (S:SO lt N) (hc:xF prog w A s κ it lt N) (hk:kindOf st=κ) (kN:kx < N) (h1:∀ x∈(a.drop base).take n,x < N∧x≠kx) (srt:((a.drop base).take n).Pairwise fun x y=>lt x y=true) (len:base + n≤a.length) (hh:hint < n)
  (q:∀ k,k≤n→(∀ x∈(a.drop base).take k,lt x kx=true)→(∀ x∈((a.drop base).take n).drop k,lt kx x=true)→Q (some k) st) :
  wpS (model prog w) A E s (vB left (it kx) (imZ it a) base n hint) Q st:=by
 rw [XT]
 have g:∀ i,i < n→∃ x,a[base + i]?=some x∧x < N∧x≠kx∧((a.drop base).take n)[i]?=some x:=fun i hi=>by
  have e:a[base + i]?=some a[base + i]:=List.getElem?_eq_getElem (by omega)
  have e2:((a.drop base).take n)[i]?=some a[base + i]:=by rw [List.getElem?_take_of_lt hi,List.getElem?_drop,e]
  exact ⟨_,e,(h1 _ (List.mem_of_getElem? e2)).1,(h1 _ (List.mem_of_getElem? e2)).2,e2⟩
 refine Jn (b:=fun i=>lt (a.getD (base + i) 0) kx) (fun i hi Q' q'=>?_) (fun i j hij hj hb=>?_) hh fun k c=>?_
 ·obtain ⟨x,e,xN,xk,_⟩:=g i hi
  have ed:a.getD (base + i) 0=x:=by rw [List.getD_eq_getElem?_getD,e];rfl
  dsimp only at q'
  rw [ed] at q'
  unfold VE
  refine wpS_bind (zL (yb e) ?_)
  cases left with
  | true =>
   rw [if_pos rfl]
   exact je hc hk xN kN xk q'
  | false =>
   rw [if_neg (by decide)]
   refine wpS_bind (je hc hk kN xN (Ne.symm xk) (wpS_pure ?_))
   show Q' (some (!lt kx x)) st
   rw [Kl S kN xN (Ne.symm xk)]
   exact q'
 ·obtain ⟨x,e,xN,xk,ex⟩:=g i (by omega)
  obtain ⟨y,e',yN,yk,ey⟩:=g j hj
  have ed:a.getD (base + i) 0=x:=by rw [List.getD_eq_getElem?_getD,e];rfl
  have ed':a.getD (base + j) 0=y:=by rw [List.getD_eq_getElem?_getD,e'];rfl
  rw [ed'] at hb
  rw [ed]
  by_cases c:i=j
  ·subst c;rw [e] at e';cases e';exact hb
  ·have l:=(List.getElem?_eq_some_iff.mp ex)
   have l':=(List.getElem?_eq_some_iff.mp ey)
   have:=List.pairwise_iff_getElem.mp srt i j l.1 l'.1 (by omega)
   rw [l.2,l'.2] at this
   exact S.trans _ _ _ xN yN kN this hb
 ·refine q k c.le (fun x hx=>?_) fun x hx=>?_
  ·obtain ⟨i,hi⟩:=List.getElem?_of_mem hx
   have il:=(List.getElem?_eq_some_iff.mp hi).1
   rw [List.length_take] at il
   rw [List.getElem?_take_of_lt (by omega),List.getElem?_drop] at hi
   have:=c.lo i (by omega)
   rw [List.getD_eq_getElem?_getD,hi] at this
   exact this
  ·obtain ⟨i,hi⟩:=List.getElem?_of_mem hx
   rw [List.getElem?_drop] at hi
   have il:=(List.getElem?_eq_some_iff.mp hi).1
   have kl:=c.le
   rw [List.length_take,List.length_drop] at il
   obtain ⟨y,e,yN,yk,ey⟩:=g (k + i) (by omega)
   rw [ey] at hi
   cases hi
   have:=c.hi (k + i) (by omega) (by omega)
   rw [List.getD_eq_getElem?_getD,e] at this
   exact S.tot x kx yN kN yk this
end
end L2
namespace L2
open PySem PySem.W PyProof.Rows
section
variable {prog:Program} {w:World} {A:Around} {E:Value→Shared→Prop} {s:Shared} {κ:SortKind} {it:Nat→Keyed} {lt:Nat→Nat→Bool} {N:Nat}
structure MPreZ (lt:Nat→Nat→Bool) (N:Nat) (a b:List Nat):Prop where
 sa:a.Pairwise fun x y=>lt x y=true
 sb:b.Pairwise fun x y=>lt x y=true
 nA:∀ x∈a,x < N
 nB:∀ x∈b,x < N
 dj:∀ x∈a,∀ y∈b,x≠y
 la:0 < a.length
 lb:0 < b.length
 hd:∀ y∈a,lt (b.getD 0 0) y=true
 tl:∀ x∈b,lt x (a.getD (a.length - 1) 0)=true
variable {a b:List Nat}
theorem yE {l:List Nat} {i x:Nat} (h:l[i]?=some x):l.drop i=[x] ++ l.drop (i + 1):=by
 obtain ⟨hl,rfl⟩:=List.getElem?_eq_some_iff.mp h
 rw [List.drop_eq_getElem_cons hl];rfl
theorem Zf {l:List Nat} (i k:Nat):l.drop i=(l.drop i).take k ++ l.drop (i + k):=by
 rw [← List.drop_drop,List.take_append_drop]
theorem xr {l:List Nat} {i x:Nat} (h:x∈l.drop i):x∈l:=List.mem_of_mem_drop h
theorem MPreZ.last (P:MPreZ lt N a b) {ia ib:Nat} (h:ia + 1=a.length):∀ x∈b.drop ib,∀ y∈a.drop ia,lt x y=true:=by
 intro x hx y hy
 have e:a.drop ia=[a.getD (a.length - 1) 0]:=by
  have g:a[ia]?=some a[ia]:=List.getElem?_eq_getElem (by omega)
  rw [yE g,List.drop_eq_nil_of_le (by omega)]
  have:a.getD (a.length - 1) 0=a[ia]:=by rw [List.getD_eq_getElem?_getD,show a.length - 1=ia by omega,g];rfl
  rw [this];rfl
 rw [e,List.mem_singleton] at hy
 rw [hy]
 exact P.tl x (xr hx)
theorem xt (S:SO lt N) {l:List Nat} {i x y:Nat} (sl:l.Pairwise fun x y=>lt x y=true) (nl:∀ x∈l,x < N) (hx:l[i]?=some x) (yN:y < N) (h:lt y x=true):∀ z∈l.drop i,lt y z=true:=by
 intro z hz
 rw [yE hx] at hz
 rcases List.mem_append.mp hz with hz | hz
 ·rw [List.mem_singleton.mp hz];exact h
 ·have xl:=List.mem_of_getElem? hx
  refine S.trans y x z yN (nl x xl) (nl z (xr hz)) h ?_
  obtain ⟨k,hk⟩:=List.getElem?_of_mem hz
  rw [List.getElem?_drop] at hk
  obtain ⟨l1,e1⟩:=List.getElem?_eq_some_iff.mp hx
  obtain ⟨l2,e2⟩:=List.getElem?_eq_some_iff.mp hk
  have:=List.pairwise_iff_getElem.mp sl i (i + 1 + k) l1 l2 (by omega)
  rw [e1,e2] at this
  exact this
structure WayZ (lt:Nat→Nat→Bool) (a b o:List Nat) (ia ib:Nat):Prop where
 m:MIZ lt a b o (a.drop ia) (b.drop ib)
 ha:ia + 1 < a.length
 hb:ib < b.length
theorem WayZ.len {o:List Nat} {ia ib:Nat} (W:WayZ lt a b o ia ib):o.length < a.length + b.length:=by
 have:=W.m.len
 have h1:=W.ha
 have h2:=W.hb
 rw [List.length_drop,List.length_drop] at this
 omega
def ZY (κ:SortKind) (it:Nat→Keyed) (lt:Nat→Nat→Bool) (a b:List Nat) (st0:SortSt) (r:Option (Array Keyed)) (st:SortSt):Prop:=∃ m,r=some (imZ it m)∧kU lt a b m∧xi κ st0 st
abbrev QI:=Option (Array Keyed) × Array Keyed × Nat × Nat × Nat × Nat × Nat
def VH (a b:Array Keyed) (mg ac bc:Nat) (out:Array Keyed) (ia ib:Nat):SMZ (ForInStep QI):=do
 let x ← elem' a ia
 if (ia + 1 + 1 == a.size)=true then pure (.done (some (out.push x ++ b.extract ib b.size ++ a.extract (ia + 1) a.size),out.push x,ia + 1,ib,mg,ac,bc))
 else if (decide (ac < 7) && decide (bc < 7))=true then pure (.done (none,out.push x,ia + 1,ib,mg,ac,bc))
 else pure (.yield (none,out.push x,ia + 1,ib,mg,ac,bc))
def VI (a b:Array Keyed) (mg ac bc:Nat) (out:Array Keyed) (ia ib:Nat):SMZ (ForInStep QI):=do
 let x ← elem' b ib
 if (ib + 1 == b.size)=true then pure (.done (some (out.push x ++ a.extract ia a.size ++ b.extract (ib + 1) b.size),out.push x,ia,ib + 1,mg,ac,bc))
 else do
  let y ← elem' a ia
  match ← vB true y b (ib + 1) (b.size - (ib + 1)) 0 with
  | some k=>if k > 0 then (if (ib + 1 + k == b.size)=true then pure (.done (some (out.push x ++ b.extract (ib + 1) (ib + 1 + k) ++ a.extract ia a.size ++ b.extract (ib + 1 + k) b.size),out.push x ++ b.extract (ib + 1) (ib + 1 + k),ia,ib + 1 + k,mg,ac,k)) else VH a b mg ac k (out.push x ++ b.extract (ib + 1) (ib + 1 + k)) ia (ib + 1 + k)) else VH a b mg ac k (out.push x) ia (ib + 1)
  | _=>pure (.done (some (out.push x ++ a.extract ia a.size ++ b.extract (ib + 1) b.size),out.push x,ia,ib + 1,mg,ac,bc))
def Km (κ:SortKind) (it:Nat→Keyed) (lt:Nat→Nat→Bool) (a b:List Nat) (st0:SortSt) (n:Nat) (r:ForInStep QI) (st:SortSt):Prop:=match r with
 | .done c=>ZY κ it lt a b st0 c.1 st∨∃ o ia ib mg ac bc,c=(none,imZ it o,ia,ib,mg,ac,bc)∧WayZ lt a b o ia ib∧n < o.length∧xi κ st0 st
 | .yield c=>∃ o ia ib mg ac bc,c=(none,imZ it o,ia,ib,mg,ac,bc)∧WayZ lt a b o ia ib∧n < o.length∧xi κ st0 st
theorem Yu {st0 st:SortSt} {mg ac bc ia ib n xa xb:Nat} {o:List Nat} (S:SO lt N) (P:MPreZ lt N a b) (k:xi κ st0 st) (m:MIZ lt a b o (a.drop ia) (b.drop ib)) (ha:ia + 1 < a.length) (ga:a[ia]?=some xa) (gb:b[ib]?=some xb) (e:lt xa xb=true) (hn:n≤o.length) :
  wpS (model prog w) A E s (VH (imZ it a) (imZ it b) mg ac bc (imZ it o) ia ib) (Km κ it lt a b st0 n) st:=by
 have mb:=List.mem_of_getElem? gb
 have ma:=List.mem_of_getElem? ga
 have lb:=(List.getElem?_eq_some_iff.mp gb).1
 unfold VH
 refine wpS_bind (zL (yb ga) ?_)
 rw [jd,vC,vC]
 have M2:MIZ lt a b (o ++ [xa]) (a.drop (ia + 1)) (b.drop ib):=by
  rw [yE ga] at m
  exact m.left fun x hx z hz=>by rw [List.mem_singleton.mp hx];exact xt S P.sb P.nB gb (P.nA _ ma) e z hz
 by_cases d1:(ia + 1 + 1 == (imZ it a).size)=true
 ·rw [if_pos d1]
  rw [xE] at d1
  refine wpS_pure (.inl ⟨_,?_,M2.end' (P.last (by simpa using d1)),k⟩)
  rw [zH,zH]
 ·rw [if_neg d1]
  rw [xE] at d1
  have d1':ia + 1 + 1≠a.length:=by simpa using d1
  have W2:WayZ lt a b (o ++ [xa]) (ia + 1) ib:=⟨M2,by omega,lb⟩
  by_cases d2:(decide (ac < 7) && decide (bc < 7))=true
  ·rw [if_pos d2]
   exact wpS_pure (.inr ⟨_,_,_,_,_,_,rfl,W2,by simp;omega,k⟩)
  ·rw [if_neg d2]
   exact wpS_pure ⟨_,_,_,_,_,_,rfl,W2,by simp;omega,k⟩
theorem Yv {st0 st:SortSt} {mg ac bc ia ib n xa xb:Nat} {o:List Nat} (S:SO lt N) (hc:xF prog w A s κ it lt N) (P:MPreZ lt N a b) (k:xi κ st0 st) (m:MIZ lt a b o (a.drop ia) (b.drop ib)) (ha:ia + 1 < a.length) (ga:a[ia]?=some xa) (gb:b[ib]?=some xb) (e:lt xb xa=true) (hn:n≤o.length) :
  wpS (model prog w) A E s (VI (imZ it a) (imZ it b) mg ac bc (imZ it o) ia ib) (Km κ it lt a b st0 n) st:=by
 have mb:=List.mem_of_getElem? gb
 have ma:=List.mem_of_getElem? ga
 have lb:=(List.getElem?_eq_some_iff.mp gb).1
 unfold VI
 refine wpS_bind (zL (yb gb) ?_)
 rw [jd,vC,vC,xE]
 have M2:MIZ lt a b (o ++ [xb]) (a.drop ia) (b.drop (ib + 1)):=by
  rw [yE gb] at m
  exact m.right fun x hx z hz=>by rw [List.mem_singleton.mp hx];exact xt S P.sa P.nA ga (P.nB _ mb) e z hz
 by_cases d1:(ib + 1 == b.length)=true
 ·rw [if_pos d1]
  have d1':ib + 1=b.length:=by simpa using d1
  refine wpS_pure (.inl ⟨_,?_,M2.end (fun x _ y hy=>by rw [d1',List.drop_length] at hy;cases hy),k⟩)
  rw [zH,zH]
 ·rw [if_neg d1]
  have d1':ib + 1≠b.length:=by simpa using d1
  refine wpS_bind (zL (yb ga) ?_)
  have tk:(b.drop (ib + 1)).take (b.length - (ib + 1))=b.drop (ib + 1):=List.take_of_length_le (by rw [List.length_drop];omega)
  refine wpS_bind (xq S hc k.k (P.nA _ ma) (fun x hx=>?_) ?_ (by omega) (by omega) fun j hj lo hi=>?_)
  ·rw [tk] at hx;exact ⟨P.nB _ (xr hx),Ne.symm (P.dj _ ma _ (xr hx))⟩
  ·rw [tk];exact M2.sq
  ·rw [tk] at hi
   dsimp only
   -- what is taken of b
   have M3:MIZ lt a b (o ++ [xb] ++ (b.drop (ib + 1)).take j) (a.drop ia) (b.drop (ib + 1 + j)):=by
    rw [Zf (ib + 1) j] at M2
    exact M2.right fun x hx z hz=>xt S P.sa P.nA ga (P.nB _ (xr (List.mem_of_mem_take hx))) (lo x hx) z hz
   have nx:ib + 1 + j < b.length→∃ y,b[ib + 1 + j]?=some y∧lt xa y=true:=fun h=>by
    refine ⟨b[ib + 1 + j],List.getElem?_eq_getElem h,hi _ ?_⟩
    rw [List.drop_drop]
    have g:b[ib + 1 + j]?=some b[ib + 1 + j]:=List.getElem?_eq_getElem h
    rw [yE g];exact List.mem_append_left _ (List.mem_singleton_self _)
   by_cases z:j > 0
   ·rw [if_pos z,wZ,show ib + 1 + j - (ib + 1)=j by omega,zH]
    by_cases d2:(ib + 1 + j == b.length)=true
    ·rw [if_pos d2]
     have d2':ib + 1 + j=b.length:=by simpa using d2
     refine wpS_pure (.inl ⟨_,?_,M3.end (fun x _ y hy=>by rw [d2',List.drop_length] at hy;cases hy),k⟩)
     rw [Yt,zH,zH]
    ·rw [if_neg d2]
     have d2':ib + 1 + j≠b.length:=by simpa using d2
     obtain ⟨y,gy,ly⟩:=nx (by omega)
     exact Yu S P k M3 ha ga gy ly (by simp;omega)
   ·rw [if_neg z]
    obtain rfl:j=0:=by omega
    obtain ⟨y,gy,ly⟩:=nx (by omega)
    exact Yu S P k M2 ha ga gy ly (by simp;omega)
theorem Y5 {st:SortSt} {Q:Array Keyed→SortSt→Prop} (S:SO lt N) (hc:xF prog w A s κ it lt N) (hk:xi κ st st) (P:MPreZ lt N a b) (q:∀ m st',kU lt a b m→xi κ st st'→Q (imZ it m) st') :
  wpS (model prog w) A E s (Jl (imZ it a) (imZ it b)) Q st:=by
 refine wpS_bind (wpS_lift (wpAny_rule ⟨rfl,?_⟩))
 have b0:b[0]?=some (b.getD 0 0):=by rw [List.getD_eq_getElem?_getD,List.getElem?_eq_getElem P.lb];rfl
 refine wpS_bind (zL (yb b0) ?_)
 have M0:MIZ lt a b [b.getD 0 0] a (b.drop 1):=by
  have:=MIZ.start P.sa P.sb
  have e:=yE b0
  rw [List.drop_zero] at e
  have h2:MIZ lt a b [] a ([b.getD 0 0] ++ b.drop 1):=by rw [← e];exact this
  exact h2.right fun x hx y hy=>by rw [List.mem_singleton.mp hx];exact P.hd y hy
 have o0:(#[it (b.getD 0 0)]:Array Keyed)=imZ it [b.getD 0 0]:=rfl
 rw [o0]
 have eA:∀ i,(imZ it a).extract i (imZ it a).size=imZ it (a.drop i):=vC a
 have eB:∀ i,(imZ it b).extract i (imZ it b).size=imZ it (b.drop i):=vC b
 have sA:=xE (it:=it) a
 have sB:=xE (it:=it) b
 -- the ways in which it may end
 have endB:∀ {o:List Nat} {ia ib:Nat},MIZ lt a b o (a.drop ia) (b.drop ib)→ib=b.length→kU lt a b (o ++ a.drop ia ++ b.drop ib):=fun m e=>m.end fun x hx y hy=>by rw [e,List.drop_length] at hy;cases hy
 have endA:∀ {o:List Nat} {ia ib:Nat},MIZ lt a b o (a.drop ia) (b.drop ib)→ia=a.length→kU lt a b (o ++ a.drop ia ++ b.drop ib):=fun m e=>m.end fun x hx y hy=>by rw [e,List.drop_length] at hx;cases hx
 have endL:∀ {o:List Nat} {ia ib:Nat},MIZ lt a b o (a.drop ia) (b.drop ib)→ia + 1=a.length→kU lt a b (o ++ b.drop ib ++ a.drop ia):=fun m e=>m.end' (P.last e)
 have big:∀ {o:List Nat} {ia ib:Nat},imZ it o ++ imZ it (a.drop ia) ++ imZ it (b.drop ib)=imZ it (o ++ a.drop ia ++ b.drop ib):=by intros;rw [zH,zH]
 have big':∀ {o:List Nat} {ia ib:Nat},imZ it o ++ imZ it (b.drop ib) ++ imZ it (a.drop ia)=imZ it (o ++ b.drop ib ++ a.drop ia):=by intros;rw [zH,zH]
 have M0':MIZ lt a b [b.getD 0 0] (a.drop 0) (b.drop 1):=by rw [List.drop_zero];exact M0
 by_cases c1:(1 == (imZ it b).size)=true
 ·rw [if_pos c1]
  refine wpS_pure ?_
  dsimp only
  rw [eA,eB,big]
  exact q _ _ (endB M0' (by rw [← sB];simpa using c1)) hk
 ·rw [if_neg c1]
  by_cases c2:(0 + 1 == (imZ it a).size)=true
  ·rw [if_pos c2]
   refine wpS_pure ?_
   dsimp only
   rw [eA,eB,big']
   exact q _ _ (endL M0' (by rw [← sA];simpa using c2)) hk
  ·rw [if_neg c2]
   have n1:1≠b.length:=by rw [← sB];simpa using c1
   have n2:1≠a.length:=by rw [← sA];simpa using c2
   have W0:WayZ lt a b [b.getD 0 0] 0 1:=⟨M0',by have:=P.la;omega,by have:=P.lb;omega⟩
   refine wpS_bind (wpS_get ?_)
   refine wpS_bind (wpS_mono (wpS_forRange (fun x c st'=>∃ o ia ib mg,c=(none,imZ it o,ia,ib,mg)∧WayZ lt a b o ia ib∧x < o.length∧xi κ st st') (Q:=fun c st'=>ZY κ it lt a b st c.1 st') ?step ?fin ⟨[b.getD 0 0],0,1,_,rfl,W0,by simp,hk⟩) ?post)
   case post =>
    rintro c st' ⟨m,e,r,k⟩
    obtain ⟨r1,c⟩:=c
    dsimp only at e
    subst e
    exact wpS_pure (q m st' r k)
   case fin =>
    rintro c st' ⟨o,ia,ib,mg,rfl,W,hx,k⟩
    have:=W.len
    rw [sA,sB] at hx
    omega
   case step =>
    rintro x c st' _ hx ⟨o,ia,ib,mg,rfl,W,hxo,k⟩
    dsimp only
    refine wpS_bind (wpS_mono (wpS_forRange (fun y c st2=>∃ o' ia' ib' ac bc,c=(none,imZ it o',ia',ib',ac,bc)∧WayZ lt a b o' ia' ib'∧o.length + y≤o'.length∧xi κ st st2) (Q:=fun c st2=>ZY κ it lt a b st c.1 st2∨∃ o' ia' ib' ac bc,c=(none,imZ it o',ia',ib',ac,bc)∧WayZ lt a b o' ia' ib'∧o.length + 1≤o'.length∧xi κ st st2) ?step1 ?fin1 ⟨o,ia,ib,0,0,rfl,W,Nat.le_refl _,k⟩) ?post1)
    case fin1 =>
     rintro c st2 ⟨o',ia',ib',ac,bc,rfl,W',hl,k'⟩
     have:=W'.len
     rw [sA,sB] at hl
     omega
    case step1 =>
     rintro y c st2 _ hy ⟨o',ia',ib',ac,bc,rfl,W',hl,k'⟩
     dsimp only
     obtain ⟨xb,gb⟩:∃ xb,b[ib']?=some xb:=⟨_,List.getElem?_eq_getElem W'.hb⟩
     obtain ⟨xa,ga⟩:∃ xa,a[ia']?=some xa:=⟨_,List.getElem?_eq_getElem (by have:=W'.ha;omega)⟩
     have mb:=List.mem_of_getElem? gb
     have ma:=List.mem_of_getElem? ga
     refine wpS_bind (zL (yb gb) (wpS_bind (zL (yb ga) (wpS_bind (je hc k'.k (P.nB _ mb) (P.nA _ ma) (Ne.symm (P.dj _ ma _ mb)) ?_)))))
     have M1:=W'.m
     cases e:lt xb xa with
     | true =>
      dsimp only
      rw [if_pos rfl]
      refine wpS_bind (zL (yb gb) ?_)
      rw [jd]
      have M2:MIZ lt a b (o' ++ [xb]) (a.drop ia') (b.drop (ib' + 1)):=by
       rw [yE gb] at M1
       exact M1.right fun x hx z hz=>by rw [List.mem_singleton.mp hx];exact xt S P.sa P.nA ga (P.nB _ mb) e z hz
      by_cases d1:(ib' + 1 == (imZ it b).size)=true
      ·rw [if_pos d1]
       refine wpS_pure (.inl ⟨_,?_,endB M2 (by rw [← sB];simpa using d1),k'⟩)
       rw [eA,eB,big]
      ·rw [if_neg d1]
       have d1':ib' + 1≠b.length:=by rw [← sB];simpa using d1
       have hb':=W'.hb
       have W2:WayZ lt a b (o' ++ [xb]) ia' (ib' + 1):=⟨M2,W'.ha,by omega⟩
       by_cases d2:bc + 1 ≥ mg
       ·rw [if_pos d2]
        exact wpS_pure (.inr ⟨_,_,_,_,_,rfl,W2,by simp;omega,k'⟩)
       ·rw [if_neg d2]
        exact wpS_pure ⟨_,_,_,_,_,rfl,W2,by simp;omega,k'⟩
     | false =>
      dsimp only
      rw [if_neg (by decide)]
      refine wpS_bind (zL (yb ga) ?_)
      rw [jd]
      have e':=S.tot _ _ (P.nB _ mb) (P.nA _ ma) (Ne.symm (P.dj _ ma _ mb)) e
      have M2:MIZ lt a b (o' ++ [xa]) (a.drop (ia' + 1)) (b.drop ib'):=by
       rw [yE ga] at M1
       exact M1.left fun x hx z hz=>by rw [List.mem_singleton.mp hx];exact xt S P.sb P.nB gb (P.nA _ ma) e' z hz
      by_cases d1:(ia' + 1 + 1 == (imZ it a).size)=true
      ·rw [if_pos d1]
       refine wpS_pure (.inl ⟨_,?_,endL M2 (by rw [← sA];simpa using d1),k'⟩)
       rw [eA,eB,big']
      ·rw [if_neg d1]
       have d1':ia' + 1 + 1≠a.length:=by rw [← sA];simpa using d1
       have ha':=W'.ha
       have W2:WayZ lt a b (o' ++ [xa]) (ia' + 1) ib':=⟨M2,by omega,W'.hb⟩
       by_cases d2:ac + 1 ≥ mg
       ·rw [if_pos d2]
        exact wpS_pure (.inr ⟨_,_,_,_,_,rfl,W2,by simp;omega,k'⟩)
       ·rw [if_neg d2]
        exact wpS_pure ⟨_,_,_,_,_,rfl,W2,by simp;omega,k'⟩
    case post1 =>
     rintro c st2 (⟨m,e,r,k'⟩ | ⟨o',ia',ib',ac,bc,rfl,W',hl,k'⟩)
     ·obtain ⟨r1,c⟩:=c
      dsimp only at e
      subst e
      exact wpS_pure ⟨m,rfl,r,k'⟩
     ·dsimp only
      refine wpS_bind (wpS_lift (wpAny_rule ⟨rfl,?_⟩))
      refine wpS_bind (wpS_mono (wpS_forRange (fun y c st3=>∃ o2 ia2 ib2 mg2 ac2 bc2,c=(none,imZ it o2,ia2,ib2,mg2,ac2,bc2)∧WayZ lt a b o2 ia2 ib2∧o.length + 1 + y≤o2.length∧xi κ st st3) (Q:=fun c st3=>ZY κ it lt a b st c.1 st3∨∃ o2 ia2 ib2 mg2 ac2 bc2,c=(none,imZ it o2,ia2,ib2,mg2,ac2,bc2)∧WayZ lt a b o2 ia2 ib2∧o.length < o2.length∧xi κ st st3) ?step2 ?fin2 ⟨o',ia',ib',_,ac,bc,rfl,W',hl,k'⟩) ?post2)
      case fin2 =>
       rintro c st3 ⟨o2,ia2,ib2,mg2,ac2,bc2,rfl,W2,hl2,k2⟩
       have:=W2.len
       rw [sA,sB] at hl2
       omega
      case step2 =>
       rintro y c st3 _ hy ⟨o2,ia2,ib2,mg2,ac2,bc2,rfl,W2,hl2,k2⟩
       dsimp only
       obtain ⟨xb,gb⟩:∃ xb,b[ib2]?=some xb:=⟨_,List.getElem?_eq_getElem W2.hb⟩
       have mb:=List.mem_of_getElem? gb
       have ha2:=W2.ha
       have go:∀ g:Nat,wpS (model prog w) A E s (do
         VD g
         let u ← elem' (imZ it b) ib2
         match ← vB false u (imZ it a) ia2 ((imZ it a).size - ia2) 0 with
         | some k=>if k > 0 then (if (ia2 + k + 1 == (imZ it a).size)=true then pure (.done (some (imZ it o2 ++ (imZ it a).extract ia2 (ia2 + k) ++ (imZ it b).extract ib2 (imZ it b).size ++ (imZ it a).extract (ia2 + k) (imZ it a).size),imZ it o2 ++ (imZ it a).extract ia2 (ia2 + k),ia2 + k,ib2,g,k,bc2)) else if (ia2 + k == (imZ it a).size)=true then pure (.done (some (imZ it o2 ++ (imZ it a).extract ia2 (ia2 + k) ++ (imZ it a).extract (ia2 + k) (imZ it a).size ++ (imZ it b).extract ib2 (imZ it b).size),imZ it o2 ++ (imZ it a).extract ia2 (ia2 + k),ia2 + k,ib2,g,k,bc2)) else VI (imZ it a) (imZ it b) g k bc2 (imZ it o2 ++ (imZ it a).extract ia2 (ia2 + k)) (ia2 + k) ib2) else VI (imZ it a) (imZ it b) g k bc2 (imZ it o2) ia2 ib2
         | _=>pure (.done (some (imZ it o2 ++ (imZ it a).extract ia2 (imZ it a).size ++ (imZ it b).extract ib2 (imZ it b).size),imZ it o2,ia2,ib2,g,ac2,bc2)):SMZ (ForInStep QI)) (Km κ it lt a b st (o.length + 1 + y)) st3:=by
        intro g
        refine wpS_bind (wpS_modify ?_)
        have k3:xi κ st (SortSt.mk' (kindOf st3) (arrOf st3) (pendingOf st3) g (failedOf st3)):=⟨k2.k,k2.f,k2.a,k2.p⟩
        refine wpS_bind (zL (yb gb) ?_)
        rw [xE]
        have tk:(a.drop ia2).take (a.length - ia2)=a.drop ia2:=List.take_of_length_le (by rw [List.length_drop];omega)
        refine wpS_bind (xq S hc k3.k (P.nB _ mb) (fun x hx=>?_) ?_ (by omega) (by omega) fun j hj lo hi=>?_)
        ·rw [tk] at hx;exact ⟨P.nA _ (xr hx),P.dj _ (xr hx) _ mb⟩
        ·rw [tk];exact W2.m.sp
        ·rw [tk] at hi
         dsimp only
         have M3:MIZ lt a b (o2 ++ (a.drop ia2).take j) (a.drop (ia2 + j)) (b.drop ib2):=by
          have m:=W2.m
          rw [Zf ia2 j] at m
          exact m.left fun x hx z hz=>xt S P.sb P.nB gb (P.nA _ (xr (List.mem_of_mem_take hx))) (lo x hx) z hz
         have nx:ia2 + j < a.length→∃ z,a[ia2 + j]?=some z∧lt xb z=true:=fun h=>by
          refine ⟨a[ia2 + j],List.getElem?_eq_getElem h,hi _ ?_⟩
          rw [List.drop_drop]
          have g:a[ia2 + j]?=some a[ia2 + j]:=List.getElem?_eq_getElem h
          rw [yE g];exact List.mem_append_left _ (List.mem_singleton_self _)
         by_cases z:j > 0
         ·rw [if_pos z,wZ,show ia2 + j - ia2=j by omega,zH,Yt,eB]
          by_cases d1:(ia2 + j + 1 == a.length)=true
          ·rw [if_pos d1]
           refine wpS_pure (.inl ⟨_,?_,endL M3 (by simpa using d1),k3⟩)
           rw [zH,zH]
          ·rw [if_neg d1]
           have d1':ia2 + j + 1≠a.length:=by simpa using d1
           by_cases d2:(ia2 + j == a.length)=true
           ·rw [if_pos d2]
            refine wpS_pure (.inl ⟨_,?_,endA M3 (by simpa using d2),k3⟩)
            rw [zH,zH]
           ·rw [if_neg d2]
            have d2':ia2 + j≠a.length:=by simpa using d2
            obtain ⟨z,gz,lz⟩:=nx (by omega)
            exact Yv S hc P k3 M3 (by omega) gz gb lz (by simp;omega)
         ·rw [if_neg z]
          obtain rfl:j=0:=by omega
          obtain ⟨z,gz,lz⟩:=nx (by omega)
          exact Yv S hc P k3 W2.m ha2 gz gb lz (by omega)
       have fitD:∀ c' st4,Km κ it lt a b st (o.length + 1 + y) (.done c') st4→ZY κ it lt a b st c'.1 st4∨∃ o2 ia2 ib2 mg2 ac2 bc2,c'=(none,imZ it o2,ia2,ib2,mg2,ac2,bc2)∧WayZ lt a b o2 ia2 ib2∧o.length < o2.length∧xi κ st st4:=by
        intro c st4 h
        rcases h with h | ⟨o3,ia3,ib3,mg3,ac3,bc3,e,W3,l3,k4⟩
        ·exact .inl h
        ·exact .inr ⟨o3,ia3,ib3,mg3,ac3,bc3,e,W3,by omega,k4⟩
       have fitY:∀ c' st4,Km κ it lt a b st (o.length + 1 + y) (.yield c') st4→∃ o2 ia2 ib2 mg2 ac2 bc2,c'=(none,imZ it o2,ia2,ib2,mg2,ac2,bc2)∧WayZ lt a b o2 ia2 ib2∧o.length + 1 + (y + 1)≤o2.length∧xi κ st st4:=by
        intro c st4 h
        obtain ⟨o3,ia3,ib3,mg3,ac3,bc3,e,W3,l3,k4⟩:=h
        exact ⟨o3,ia3,ib3,mg3,ac3,bc3,e,W3,by omega,k4⟩
       by_cases d:mg2 > 1
       ·rw [if_pos d]
        exact wpS_mono (go (mg2 - 1)) fun r st4 h=>by cases r with | done c=>exact fitD _ _ h | yield c=>exact fitY _ _ h
       ·rw [if_neg d]
        exact wpS_mono (go mg2) fun r st4 h=>by cases r with | done c=>exact fitD _ _ h | yield c=>exact fitY _ _ h
      case post2 =>
       rintro c st3 (⟨m,e,r,k2⟩ | ⟨o2,ia2,ib2,mg2,ac2,bc2,rfl,W2,hl2,k2⟩)
       ·obtain ⟨r1,c⟩:=c
        dsimp only at e
        subst e
        exact wpS_pure ⟨m,rfl,r,k2⟩
       ·dsimp only
        refine wpS_bind (wpS_modify (wpS_pure ⟨o2,ia2,ib2,_,rfl,W2,by omega,?_⟩))
        exact ⟨k2.k,k2.f,k2.a,k2.p⟩
end
end L2
namespace L2
open PySem PySem.W PyProof.Rows
structure MJZ (lt:Nat→Nat→Bool) (a b o P Q:List Nat):Prop where
 so:o.Pairwise fun x y=>lt x y=true
 pe:(P ++ Q ++ o).Perm (a ++ b)
 be:∀ x∈P ++ Q,∀ y∈o,lt x y=true
 sp:P.Pairwise fun x y=>lt x y=true
 sq:Q.Pairwise fun x y=>lt x y=true
section
variable {lt:Nat→Nat→Bool} {a b o P Q c:List Nat}
theorem MJZ.left (h:MJZ lt a b o (P ++ c) Q) (k:∀ x∈c,∀ y∈Q,lt y x=true):MJZ lt a b (c ++ o) P Q:=by
 have sp:=List.pairwise_append.mp h.sp
 refine ⟨List.pairwise_append.mpr ⟨sp.2.1,h.so,fun x hx y hy=>h.be x (by simp [hx]) y hy⟩,?_,fun x hx y hy=>?_,sp.1,h.sq⟩
 ·refine List.Perm.trans ?_ h.pe
  rw [← List.append_assoc,List.append_assoc P Q c,List.append_assoc P c Q]
  exact List.Perm.append_right _ (List.Perm.append_left _ List.perm_append_comm)
 ·rcases List.mem_append.mp hy with hy | hy
  ·rcases List.mem_append.mp hx with hx | hx
   ·exact sp.2.2 x hx y hy
   ·exact k y hy x hx
  ·exact h.be x (by rcases List.mem_append.mp hx with hx | hx <;> simp [hx]) y hy
theorem MJZ.right (h:MJZ lt a b o P (Q ++ c)) (k:∀ x∈c,∀ y∈P,lt y x=true):MJZ lt a b (c ++ o) P Q:=by
 have sq:=List.pairwise_append.mp h.sq
 refine ⟨List.pairwise_append.mpr ⟨sq.2.1,h.so,fun x hx y hy=>h.be x (by simp [hx]) y hy⟩,?_,fun x hx y hy=>?_,h.sp,sq.1⟩
 ·have:=h.pe
  simpa [List.append_assoc] using this
 ·rcases List.mem_append.mp hy with hy | hy
  ·rcases List.mem_append.mp hx with hx | hx
   ·exact k y hy x hx
   ·exact sq.2.2 x hx y hy
  ·exact h.be x (by rcases List.mem_append.mp hx with hx | hx <;> simp [hx]) y hy
theorem MJZ.len (h:MJZ lt a b o P Q):o.length + P.length + Q.length=a.length + b.length:=by
 have:=h.pe.length_eq
 simp only [List.length_append] at this
 omega
theorem MJZ.end (h:MJZ lt a b o P Q) (k:∀ x∈P,∀ y∈Q,lt x y=true):kU lt a b (P ++ Q ++ o) :=
 ⟨h.pe,List.pairwise_append.mpr ⟨List.pairwise_append.mpr ⟨h.sp,h.sq,k⟩,h.so,h.be⟩⟩
theorem MJZ.end' (h:MJZ lt a b o P Q) (k:∀ x∈Q,∀ y∈P,lt x y=true):kU lt a b (Q ++ P ++ o) :=
 ⟨List.Perm.trans (List.Perm.append_right _ List.perm_append_comm) h.pe,List.pairwise_append.mpr ⟨List.pairwise_append.mpr ⟨h.sq,h.sp,k⟩,h.so,fun x hx y hy=>h.be x (by rcases List.mem_append.mp hx with hx | hx <;> simp [hx]) y hy⟩⟩
theorem MJZ.start (ha:a.Pairwise fun x y=>lt x y=true) (hb:b.Pairwise fun x y=>lt x y=true):MJZ lt a b [] a b:=⟨.nil,by simp,(fun x _ y h=>nomatch h),ha,hb⟩
theorem yF {l:List Nat} {i x:Nat} (h:l[i]?=some x):l.take (i + 1)=l.take i ++ [x]:=by rw [List.take_add_one,h];rfl
theorem Zg {l:List Nat} {i j:Nat} (h:i≤j):l.take j=l.take i ++ (l.take j).drop i:=by
 have:=(List.take_append_drop i (l.take j)).symm
 rwa [List.take_take,Nat.min_eq_left h] at this
theorem xu {l:List Nat} {i x:Nat} (h:x∈l.take i):x∈l:=List.mem_of_mem_take h
end
section
variable {it:Nat→Keyed}
theorem jS (p:List Nat) (i:Nat):(imZ it p).extract 0 i=imZ it (p.take i):=by rw [wZ];simp
theorem VJ (p:List Nat):(imZ it p).reverse=imZ it p.reverse:=by simp [imZ]
theorem qF (p:List Nat) (x:Nat):(imZ it p.reverse).push (it x)=imZ it ([x] ++ p).reverse:=by rw [jd];simp
theorem VL {p:List Nat} {i j:Nat} (h:i≤j):(imZ it p).extract i j=imZ it ((p.take j).drop i):=by
 rw [wZ]
 congr 1
 rw [List.drop_take]
theorem XU (p c:List Nat):imZ it p.reverse ++ (imZ it c).reverse=imZ it (c ++ p).reverse:=by rw [VJ,zH];simp
end
section
variable {prog:Program} {w:World} {A:Around} {E:Value→Shared→Prop} {s:Shared} {κ:SortKind} {it:Nat→Keyed} {lt:Nat→Nat→Bool} {N:Nat} {a b:List Nat}
theorem xv (S:SO lt N) {l:List Nat} {i x y:Nat} (sl:l.Pairwise fun x y=>lt x y=true) (nl:∀ x∈l,x < N) (hx:l[i]?=some x) (yN:y < N) (h:lt x y=true):∀ z∈l.take (i + 1),lt z y=true:=by
 intro z hz
 rw [yF hx] at hz
 rcases List.mem_append.mp hz with hz | hz
 ·have xl:=List.mem_of_getElem? hx
  refine S.trans z x y (nl z (xu hz)) (nl x xl) yN ?_ h
  obtain ⟨k,hk⟩:=List.getElem?_of_mem hz
  have kl:=(List.getElem?_eq_some_iff.mp hk).1
  rw [List.length_take] at kl
  rw [List.getElem?_take_of_lt (by omega)] at hk
  obtain ⟨l1,e1⟩:=List.getElem?_eq_some_iff.mp hx
  obtain ⟨l2,e2⟩:=List.getElem?_eq_some_iff.mp hk
  have:=List.pairwise_iff_getElem.mp sl k i l2 l1 (by omega)
  rw [e1,e2] at this
  exact this
 ·rw [List.mem_singleton.mp hz];exact h
theorem MPreZ.first (P:MPreZ lt N a b) {na:Nat}:∀ x∈b.take 1,∀ y∈a.take na,lt x y=true:=by
 intro x hx y hy
 have e:b.take 1=[b.getD 0 0]:=by
  have plb:=P.lb
  have g:b[0]?=some b[0]:=List.getElem?_eq_getElem plb
  have t:=yF g
  rw [t,List.getD_eq_getElem?_getD,g];rfl
 rw [e,List.mem_singleton] at hx
 rw [hx]
 exact P.hd y (xu hy)
structure WayHZ (lt:Nat→Nat→Bool) (a b o:List Nat) (na nb:Nat):Prop where
 m:MJZ lt a b o (a.take na) (b.take nb)
 ha:0 < na
 la:na≤a.length
 hb:1 < nb
 lb:nb≤b.length
theorem WayHZ.len {o:List Nat} {na nb:Nat} (W:WayHZ lt a b o na nb):o.length < a.length + b.length:=by
 have:=W.m.len
 have h1:=W.ha
 have h2:=W.hb
 have h3:=W.la
 have h4:=W.lb
 rw [List.length_take,List.length_take] at this
 omega
abbrev QJ:=Option (Array Keyed) × Nat × Nat × Array Keyed × Nat × Nat × Nat
def VM (a b:Array Keyed) (mg ac bc:Nat) (na nb:Nat) (out:Array Keyed):SMZ (ForInStep QJ):=do
 let x ← elem' a (na - 1)
 if (na - 1 == 0)=true then pure (.done (some (a.extract 0 (na - 1) ++ b.extract 0 nb ++ (out.push x).reverse),na - 1,nb,out.push x,mg,ac,bc))
 else if (decide (ac < 7) && decide (bc < 7))=true then pure (.done (none,na - 1,nb,out.push x,mg,ac,bc))
 else pure (.yield (none,na - 1,nb,out.push x,mg,ac,bc))
def VN (a b:Array Keyed) (mg ac bc:Nat) (na nb:Nat) (out:Array Keyed):SMZ (ForInStep QJ):=do
 let x ← elem' b (nb - 1)
 if (nb - 1 == 1)=true then pure (.done (some (b.extract 0 (nb - 1) ++ a.extract 0 na ++ (out.push x).reverse),na,nb - 1,out.push x,mg,ac,bc))
 else do
  let y ← elem' a (na - 1)
  match ← vB true y b 0 (nb - 1) (nb - 1 - 1) with
  | some k=>if nb - 1 - k > 0 then (if (k == 1)=true then pure (.done (some (b.extract 0 k ++ a.extract 0 na ++ (out.push x ++ (b.extract k (nb - 1)).reverse).reverse),na,k,out.push x ++ (b.extract k (nb - 1)).reverse,mg,ac,nb - 1 - k)) else if (k == 0)=true then pure (.done (some (a.extract 0 na ++ b.extract 0 k ++ (out.push x ++ (b.extract k (nb - 1)).reverse).reverse),na,k,out.push x ++ (b.extract k (nb - 1)).reverse,mg,ac,nb - 1 - k)) else VM a b mg ac (nb - 1 - k) na k (out.push x ++ (b.extract k (nb - 1)).reverse)) else VM a b mg ac (nb - 1 - k) na (nb - 1) (out.push x)
  | _=>pure (.done (some (a.extract 0 na ++ b.extract 0 (nb - 1) ++ (out.push x).reverse),na,nb - 1,out.push x,mg,ac,bc))
def Kn (κ:SortKind) (it:Nat→Keyed) (lt:Nat→Nat→Bool) (a b:List Nat) (st0:SortSt) (n:Nat) (r:ForInStep QJ) (st:SortSt):Prop:=match r with
 | .done c=>ZY κ it lt a b st0 c.1 st∨∃ o na nb mg ac bc,c=(none,na,nb,imZ it o.reverse,mg,ac,bc)∧WayHZ lt a b o na nb∧n < o.length∧xi κ st0 st
 | .yield c=>∃ o na nb mg ac bc,c=(none,na,nb,imZ it o.reverse,mg,ac,bc)∧WayHZ lt a b o na nb∧n < o.length∧xi κ st0 st
theorem qh (o:List Nat):(imZ it o.reverse).reverse=imZ it o:=by rw [VJ,List.reverse_reverse]
theorem Yw {st0 st:SortSt} {mg ac bc na nb n xa xb:Nat} {o:List Nat} (S:SO lt N) (P:MPreZ lt N a b) (k:xi κ st0 st) (m:MJZ lt a b o (a.take na) (b.take nb)) (ha:0 < na) (la:na≤a.length) (hb:1 < nb) (lb:nb≤b.length) (ga:a[na - 1]?=some xa) (gb:b[nb - 1]?=some xb) (e:lt xb xa=true) (hn:n≤o.length) :
  wpS (model prog w) A E s (VM (imZ it a) (imZ it b) mg ac bc na nb (imZ it o.reverse)) (Kn κ it lt a b st0 n) st:=by
 have mb:=List.mem_of_getElem? gb
 have ma:=List.mem_of_getElem? ga
 unfold VM
 refine wpS_bind (zL (yb ga) ?_)
 rw [qF,qh,jS,jS]
 have M2:MJZ lt a b ([xa] ++ o) (a.take (na - 1)) (b.take nb):=by
  have t:=yF ga
  rw [show na - 1 + 1=na by omega] at t
  rw [t] at m
  refine m.left fun x hx z hz=>?_
  rw [List.mem_singleton.mp hx]
  have:=xv S P.sb P.nB gb (P.nA _ ma) e
  rw [show nb - 1 + 1=nb by omega] at this
  exact this z hz
 by_cases d1:(na - 1 == 0)=true
 ·rw [if_pos d1]
  have d1':na - 1=0:=by simpa using d1
  refine wpS_pure (.inl ⟨_,?_,M2.end (fun x hx y hy=>by rw [d1',List.take_zero] at hx;cases hx),k⟩)
  rw [zH,zH]
 ·rw [if_neg d1]
  have d1':na - 1≠0:=by simpa using d1
  have W2:WayHZ lt a b ([xa] ++ o) (na - 1) nb:=⟨M2,by omega,by omega,hb,lb⟩
  by_cases d2:(decide (ac < 7) && decide (bc < 7))=true
  ·rw [if_pos d2]
   exact wpS_pure (.inr ⟨_,_,_,_,_,_,rfl,W2,by simp;omega,k⟩)
  ·rw [if_neg d2]
   exact wpS_pure ⟨_,_,_,_,_,_,rfl,W2,by simp;omega,k⟩
theorem Yx {st0 st:SortSt} {mg ac bc na nb n xa xb:Nat} {o:List Nat} (S:SO lt N) (hc:xF prog w A s κ it lt N) (P:MPreZ lt N a b) (k:xi κ st0 st) (m:MJZ lt a b o (a.take na) (b.take nb)) (ha:0 < na) (la:na≤a.length) (hb:1 < nb) (lb:nb≤b.length) (ga:a[na - 1]?=some xa) (gb:b[nb - 1]?=some xb) (e:lt xa xb=true) (hn:n≤o.length) :
  wpS (model prog w) A E s (VN (imZ it a) (imZ it b) mg ac bc na nb (imZ it o.reverse)) (Kn κ it lt a b st0 n) st:=by
 have mb:=List.mem_of_getElem? gb
 have ma:=List.mem_of_getElem? ga
 unfold VN
 refine wpS_bind (zL (yb gb) ?_)
 rw [qF,qh,jS,jS]
 have M2:MJZ lt a b ([xb] ++ o) (a.take na) (b.take (nb - 1)):=by
  have t:=yF gb
  rw [show nb - 1 + 1=nb by omega] at t
  rw [t] at m
  refine m.right fun x hx z hz=>?_
  rw [List.mem_singleton.mp hx]
  have:=xv S P.sa P.nA ga (P.nB _ mb) e
  rw [show na - 1 + 1=na by omega] at this
  exact this z hz
 by_cases d1:(nb - 1 == 1)=true
 ·rw [if_pos d1]
  have d1':nb - 1=1:=by simpa using d1
  refine wpS_pure (.inl ⟨_,?_,M2.end' (by rw [d1'];exact P.first),k⟩)
  rw [zH,zH]
 ·rw [if_neg d1]
  have d1':nb - 1≠1:=by simpa using d1
  refine wpS_bind (zL (yb ga) ?_)
  refine wpS_bind (xq S hc k.k (P.nA _ ma) (fun x hx=>?_) ?_ (by omega) (by omega) fun j hj lo hi=>?_)
  ·rw [List.drop_zero] at hx;exact ⟨P.nB _ (xu hx),Ne.symm (P.dj _ ma _ (xu hx))⟩
  ·rw [List.drop_zero];exact M2.sq
  ·rw [List.drop_zero] at lo hi
   dsimp only
   rw [jS,VL hj,XU,qh]
   have M3:MJZ lt a b ((b.take (nb - 1)).drop j ++ ([xb] ++ o)) (a.take na) (b.take j):=by
    rw [Zg hj] at M2
    refine M2.right fun x hx z hz=>?_
    have xb':x∈b:=xu (List.mem_of_mem_drop hx)
    have h:=hi x hx
    have:=xv S P.sa P.nA ga (P.nB _ xb') h
    rw [show na - 1 + 1=na by omega] at this
    exact this z hz
   have nx:0 < j→∃ y,b[j - 1]?=some y∧lt y xa=true:=fun h=>by
    have g:b[j - 1]?=some b[j - 1]:=List.getElem?_eq_getElem (by omega)
    refine ⟨b[j - 1],g,lo _ ?_⟩
    have t:=yF g
    rw [show j - 1 + 1=j by omega] at t
    rw [t];exact List.mem_append_right _ (List.mem_singleton_self _)
   by_cases z:nb - 1 - j > 0
   ·rw [if_pos z]
    by_cases d2:(j == 1)=true
    ·rw [if_pos d2]
     have d2':j=1:=by simpa using d2
     refine wpS_pure (.inl ⟨_,?_,M3.end' (by rw [d2'];exact P.first),k⟩)
     rw [zH,zH]
    ·rw [if_neg d2]
     have d2':j≠1:=by simpa using d2
     by_cases d3:(j == 0)=true
     ·rw [if_pos d3]
      have d3':j=0:=by simpa using d3
      refine wpS_pure (.inl ⟨_,?_,M3.end (fun x _ y hy=>by rw [d3',List.take_zero] at hy;cases hy),k⟩)
      rw [zH,zH]
     ·rw [if_neg d3]
      have d3':j≠0:=by simpa using d3
      obtain ⟨y,gy,ly⟩:=nx (by omega)
      exact Yw S P k M3 ha la (by omega) (by omega) ga gy ly (by simp;omega)
   ·rw [if_neg z]
    obtain rfl:j=nb - 1:=by omega
    obtain ⟨y,gy,ly⟩:=nx (by omega)
    exact Yw S P k M2 ha la (by omega) (by omega) ga gy ly (by simp;omega)
theorem Y6 {st:SortSt} {Q:Array Keyed→SortSt→Prop} (S:SO lt N) (hc:xF prog w A s κ it lt N) (hk:xi κ st st) (P:MPreZ lt N a b) (q:∀ m st',kU lt a b m→xi κ st st'→Q (imZ it m) st') :
  wpS (model prog w) A E s (Jm (imZ it a) (imZ it b)) Q st:=by
 have pla:=P.la
 have plb:=P.lb
 refine wpS_bind (wpS_lift (wpAny_rule ⟨rfl,?_⟩))
 have sA:=xE (it:=it) a
 have sB:=xE (it:=it) b
 have a0:a[a.length - 1]?=some (a.getD (a.length - 1) 0):=by rw [List.getD_eq_getElem?_getD,List.getElem?_eq_getElem (by omega)];rfl
 refine wpS_bind (zL (x:=it (a.getD (a.length - 1) 0)) (by rw [sA];exact yb a0) ?_)
 have M0:MJZ lt a b [a.getD (a.length - 1) 0] (a.take (a.length - 1)) (b.take b.length):=by
  have:=MJZ.start P.sa P.sb
  have t:=yF a0
  rw [show a.length - 1 + 1=a.length by omega,List.take_length] at t
  have h2:MJZ lt a b [] (a.take (a.length - 1) ++ [a.getD (a.length - 1) 0]) b:=by rw [← t];exact this
  rw [List.take_length]
  exact h2.left fun x hx y hy=>by rw [List.mem_singleton.mp hx];exact P.tl y hy
 have o0:(#[it (a.getD (a.length - 1) 0)]:Array Keyed)=imZ it [a.getD (a.length - 1) 0].reverse:=rfl
 rw [o0,sA,sB]
 have eA:∀ i,(imZ it a).extract 0 i=imZ it (a.take i):=jS a
 have eB:∀ i,(imZ it b).extract 0 i=imZ it (b.take i):=jS b
 have endA:∀ {o:List Nat} {na nb:Nat},MJZ lt a b o (a.take na) (b.take nb)→na=0→kU lt a b (a.take na ++ b.take nb ++ o):=fun m e=>m.end fun x hx y hy=>by rw [e,List.take_zero] at hx;cases hx
 have endF:∀ {o:List Nat} {na nb:Nat},MJZ lt a b o (a.take na) (b.take nb)→nb=1→kU lt a b (b.take nb ++ a.take na ++ o):=fun m e=>m.end' (by rw [e];exact P.first)
 by_cases c1:(a.length - 1 == 0)=true
 ·rw [if_pos c1]
  refine wpS_pure ?_
  dsimp only
  rw [eA,eB,qh,zH,zH]
  exact q _ _ (endA M0 (by simpa using c1)) hk
 ·rw [if_neg c1]
  by_cases c2:(b.length == 1)=true
  ·rw [if_pos c2]
   refine wpS_pure ?_
   dsimp only
   rw [eA,eB,qh,zH,zH]
   exact q _ _ (endF M0 (by simpa using c2)) hk
  ·rw [if_neg c2]
   have n1:a.length - 1≠0:=by simpa using c1
   have n2:b.length≠1:=by simpa using c2
   have W0:WayHZ lt a b [a.getD (a.length - 1) 0] (a.length - 1) b.length:=⟨M0,by omega,by omega,by omega,by omega⟩
   refine wpS_bind (wpS_get ?_)
   refine wpS_bind (wpS_mono (wpS_forRange (fun x c st'=>∃ o na nb mg,c=(none,na,nb,imZ it o.reverse,mg)∧WayHZ lt a b o na nb∧x < o.length∧xi κ st st') (Q:=fun c st'=>ZY κ it lt a b st c.1 st') ?step ?fin ⟨[a.getD (a.length - 1) 0],_,_,_,rfl,W0,by simp,hk⟩) ?post)
   case post =>
    rintro c st' ⟨m,e,r,k⟩
    obtain ⟨r1,c⟩:=c
    dsimp only at e
    subst e
    exact wpS_pure (q m st' r k)
   case fin =>
    rintro c st' ⟨o,na,nb,mg,rfl,W,hx,k⟩
    have:=W.len
    omega
   case step =>
    rintro x c st' _ hx ⟨o,na,nb,mg,rfl,W,hxo,k⟩
    dsimp only
    refine wpS_bind (wpS_mono (wpS_forRange (fun y c st2=>∃ o' na' nb' ac bc,c=(none,na',nb',imZ it o'.reverse,ac,bc)∧WayHZ lt a b o' na' nb'∧o.length + y≤o'.length∧xi κ st st2) (Q:=fun c st2=>ZY κ it lt a b st c.1 st2∨∃ o' na' nb' ac bc,c=(none,na',nb',imZ it o'.reverse,ac,bc)∧WayHZ lt a b o' na' nb'∧o.length + 1≤o'.length∧xi κ st st2) ?step1 ?fin1 ⟨o,na,nb,0,0,rfl,W,Nat.le_refl _,k⟩) ?post1)
    case fin1 =>
     rintro c st2 ⟨o',na',nb',ac,bc,rfl,W',hl,k'⟩
     have:=W'.len
     omega
    case step1 =>
     rintro y c st2 _ hy ⟨o',na',nb',ac,bc,rfl,W',hl,k'⟩
     dsimp only
     have w1:=W'.ha
     have w2:=W'.la
     have w3:=W'.hb
     have w4:=W'.lb
     obtain ⟨xb,gb⟩:∃ xb,b[nb' - 1]?=some xb:=⟨_,List.getElem?_eq_getElem (by omega)⟩
     obtain ⟨xa,ga⟩:∃ xa,a[na' - 1]?=some xa:=⟨_,List.getElem?_eq_getElem (by omega)⟩
     have mb:=List.mem_of_getElem? gb
     have ma:=List.mem_of_getElem? ga
     refine wpS_bind (zL (yb gb) (wpS_bind (zL (yb ga) (wpS_bind (je hc k'.k (P.nB _ mb) (P.nA _ ma) (Ne.symm (P.dj _ ma _ mb)) ?_)))))
     have M1:=W'.m
     cases e:lt xb xa with
     | true =>
      dsimp only
      rw [if_pos rfl]
      refine wpS_bind (zL (yb ga) ?_)
      rw [qF]
      have M2:MJZ lt a b ([xa] ++ o') (a.take (na' - 1)) (b.take nb'):=by
       have t:=yF ga
       rw [show na' - 1 + 1=na' by omega] at t
       rw [t] at M1
       refine M1.left fun x hx z hz=>?_
       rw [List.mem_singleton.mp hx]
       have:=xv S P.sb P.nB gb (P.nA _ ma) e
       rw [show nb' - 1 + 1=nb' by omega] at this
       exact this z hz
      by_cases d1:(na' - 1 == 0)=true
      ·rw [if_pos d1]
       refine wpS_pure (.inl ⟨_,?_,endA M2 (by simpa using d1),k'⟩)
       rw [eA,eB,qh,zH,zH]
      ·rw [if_neg d1]
       have d1':na' - 1≠0:=by simpa using d1
       have W2:WayHZ lt a b ([xa] ++ o') (na' - 1) nb':=⟨M2,by omega,by omega,w3,w4⟩
       by_cases d2:ac + 1 ≥ mg
       ·rw [if_pos d2]
        exact wpS_pure (.inr ⟨_,_,_,_,_,rfl,W2,by simp;omega,k'⟩)
       ·rw [if_neg d2]
        exact wpS_pure ⟨_,_,_,_,_,rfl,W2,by simp;omega,k'⟩
     | false =>
      dsimp only
      rw [if_neg (by decide)]
      refine wpS_bind (zL (yb gb) ?_)
      rw [qF]
      have e':=S.tot _ _ (P.nB _ mb) (P.nA _ ma) (Ne.symm (P.dj _ ma _ mb)) e
      have M2:MJZ lt a b ([xb] ++ o') (a.take na') (b.take (nb' - 1)):=by
       have t:=yF gb
       rw [show nb' - 1 + 1=nb' by omega] at t
       rw [t] at M1
       refine M1.right fun x hx z hz=>?_
       rw [List.mem_singleton.mp hx]
       have:=xv S P.sa P.nA ga (P.nB _ mb) e'
       rw [show na' - 1 + 1=na' by omega] at this
       exact this z hz
      by_cases d1:(nb' - 1 == 1)=true
      ·rw [if_pos d1]
       refine wpS_pure (.inl ⟨_,?_,endF M2 (by simpa using d1),k'⟩)
       rw [eA,eB,qh,zH,zH]
      ·rw [if_neg d1]
       have d1':nb' - 1≠1:=by simpa using d1
       have W2:WayHZ lt a b ([xb] ++ o') na' (nb' - 1):=⟨M2,w1,w2,by omega,by omega⟩
       by_cases d2:bc + 1 ≥ mg
       ·rw [if_pos d2]
        exact wpS_pure (.inr ⟨_,_,_,_,_,rfl,W2,by simp;omega,k'⟩)
       ·rw [if_neg d2]
        exact wpS_pure ⟨_,_,_,_,_,rfl,W2,by simp;omega,k'⟩
    case post1 =>
     rintro c st2 (⟨m,e,r,k'⟩ | ⟨o',na',nb',ac,bc,rfl,W',hl,k'⟩)
     ·obtain ⟨r1,c⟩:=c
      dsimp only at e
      subst e
      exact wpS_pure ⟨m,rfl,r,k'⟩
     ·dsimp only
      refine wpS_bind (wpS_lift (wpAny_rule ⟨rfl,?_⟩))
      refine wpS_bind (wpS_mono (wpS_forRange (fun y c st3=>∃ o2 na2 nb2 mg2 ac2 bc2,c=(none,na2,nb2,imZ it o2.reverse,mg2,ac2,bc2)∧WayHZ lt a b o2 na2 nb2∧o.length + 1 + y≤o2.length∧xi κ st st3) (Q:=fun c st3=>ZY κ it lt a b st c.1 st3∨∃ o2 na2 nb2 mg2 ac2 bc2,c=(none,na2,nb2,imZ it o2.reverse,mg2,ac2,bc2)∧WayHZ lt a b o2 na2 nb2∧o.length < o2.length∧xi κ st st3) ?step2 ?fin2 ⟨o',na',nb',_,ac,bc,rfl,W',hl,k'⟩) ?post2)
      case fin2 =>
       rintro c st3 ⟨o2,na2,nb2,mg2,ac2,bc2,rfl,W2,hl2,k2⟩
       have:=W2.len
       omega
      case step2 =>
       rintro y c st3 _ hy ⟨o2,na2,nb2,mg2,ac2,bc2,rfl,W2,hl2,k2⟩
       dsimp only
       have w1:=W2.ha
       have w2:=W2.la
       have w3:=W2.hb
       have w4:=W2.lb
       obtain ⟨xb,gb⟩:∃ xb,b[nb2 - 1]?=some xb:=⟨_,List.getElem?_eq_getElem (by omega)⟩
       have mb:=List.mem_of_getElem? gb
       have go:∀ g:Nat,wpS (model prog w) A E s (do
         VD g
         let u ← elem' (imZ it b) (nb2 - 1)
         match ← vB false u (imZ it a) 0 na2 (na2 - 1) with
         | some k=>if na2 - k > 0 then (if (k == 0)=true then pure (.done (some ((imZ it a).extract 0 k ++ (imZ it b).extract 0 nb2 ++ (imZ it o2.reverse ++ ((imZ it a).extract k na2).reverse).reverse),k,nb2,imZ it o2.reverse ++ ((imZ it a).extract k na2).reverse,g,na2 - k,bc2)) else VN (imZ it a) (imZ it b) g (na2 - k) bc2 k nb2 (imZ it o2.reverse ++ ((imZ it a).extract k na2).reverse)) else VN (imZ it a) (imZ it b) g (na2 - k) bc2 na2 nb2 (imZ it o2.reverse)
         | _=>pure (.done (some ((imZ it a).extract 0 na2 ++ (imZ it b).extract 0 nb2 ++ (imZ it o2.reverse).reverse),na2,nb2,imZ it o2.reverse,g,ac2,bc2)):SMZ (ForInStep QJ)) (Kn κ it lt a b st (o.length + 1 + y)) st3:=by
        intro g
        refine wpS_bind (wpS_modify ?_)
        have k3:xi κ st (SortSt.mk' (kindOf st3) (arrOf st3) (pendingOf st3) g (failedOf st3)):=⟨k2.k,k2.f,k2.a,k2.p⟩
        refine wpS_bind (zL (yb gb) ?_)
        refine wpS_bind (xq S hc k3.k (P.nB _ mb) (fun x hx=>?_) ?_ (by omega) (by omega) fun j hj lo hi=>?_)
        ·rw [List.drop_zero] at hx;exact ⟨P.nA _ (xu hx),P.dj _ (xu hx) _ mb⟩
        ·rw [List.drop_zero];exact W2.m.sp
        ·rw [List.drop_zero] at lo hi
         dsimp only
         rw [VL hj,XU,qh,eA,eB]
         have M3:MJZ lt a b ((a.take na2).drop j ++ o2) (a.take j) (b.take nb2):=by
          have m:=W2.m
          rw [Zg hj] at m
          refine m.left fun x hx z hz=>?_
          have xa':x∈a:=xu (List.mem_of_mem_drop hx)
          have:=xv S P.sb P.nB gb (P.nA _ xa') (hi x hx)
          rw [show nb2 - 1 + 1=nb2 by omega] at this
          exact this z hz
         have nx:0 < j→∃ z,a[j - 1]?=some z∧lt z xb=true:=fun h=>by
          have g:a[j - 1]?=some a[j - 1]:=List.getElem?_eq_getElem (by omega)
          refine ⟨a[j - 1],g,lo _ ?_⟩
          have t:=yF g
          rw [show j - 1 + 1=j by omega] at t
          rw [t];exact List.mem_append_right _ (List.mem_singleton_self _)
         by_cases z:na2 - j > 0
         ·rw [if_pos z]
          by_cases d1:(j == 0)=true
          ·rw [if_pos d1]
           refine wpS_pure (.inl ⟨_,?_,endA M3 (by simpa using d1),k3⟩)
           rw [zH,zH]
          ·rw [if_neg d1]
           have d1':j≠0:=by simpa using d1
           obtain ⟨z,gz,lz⟩:=nx (by omega)
           exact Yx S hc P k3 M3 (by omega) (by omega) w3 w4 gz gb lz (by simp;omega)
         ·rw [if_neg z]
          obtain rfl:j=na2:=by omega
          obtain ⟨z,gz,lz⟩:=nx (by omega)
          exact Yx S hc P k3 W2.m w1 w2 w3 w4 gz gb lz (by omega)
       have fitD:∀ c' st4,Kn κ it lt a b st (o.length + 1 + y) (.done c') st4→ZY κ it lt a b st c'.1 st4∨∃ o2 na2 nb2 mg2 ac2 bc2,c'=(none,na2,nb2,imZ it o2.reverse,mg2,ac2,bc2)∧WayHZ lt a b o2 na2 nb2∧o.length < o2.length∧xi κ st st4:=by
        intro c st4 h
        rcases h with h | ⟨o3,na3,nb3,mg3,ac3,bc3,e,W3,l3,k4⟩
        ·exact .inl h
        ·exact .inr ⟨o3,na3,nb3,mg3,ac3,bc3,e,W3,by omega,k4⟩
       have fitY:∀ c' st4,Kn κ it lt a b st (o.length + 1 + y) (.yield c') st4→∃ o2 na2 nb2 mg2 ac2 bc2,c'=(none,na2,nb2,imZ it o2.reverse,mg2,ac2,bc2)∧WayHZ lt a b o2 na2 nb2∧o.length + 1 + (y + 1)≤o2.length∧xi κ st st4:=by
        intro c st4 h
        obtain ⟨o3,na3,nb3,mg3,ac3,bc3,e,W3,l3,k4⟩:=h
        exact ⟨o3,na3,nb3,mg3,ac3,bc3,e,W3,by omega,k4⟩
       by_cases d:mg2 > 1
       ·rw [if_pos d]
        exact wpS_mono (go (mg2 - 1)) fun r st4 h=>by cases r with | done c=>exact fitD _ _ h | yield c=>exact fitY _ _ h
       ·rw [if_neg d]
        exact wpS_mono (go mg2) fun r st4 h=>by cases r with | done c=>exact fitD _ _ h | yield c=>exact fitY _ _ h
      case post2 =>
       rintro c st3 (⟨m,e,r,k2⟩ | ⟨o2,na2,nb2,mg2,ac2,bc2,rfl,W2,hl2,k2⟩)
       ·obtain ⟨r1,c⟩:=c
        dsimp only at e
        subst e
        exact wpS_pure ⟨m,rfl,r,k2⟩
       ·dsimp only
        refine wpS_bind (wpS_modify (wpS_pure ⟨o2,na2,nb2,_,rfl,W2,by omega,?_⟩))
        exact ⟨k2.k,k2.f,k2.a,k2.p⟩
end
end L2
namespace L2
open PySem PySem.W PyProof.Rows
section
variable {prog:Program} {w:World} {A:Around} {E:Value→Shared→Prop} {s:Shared} {κ:SortKind} {it:Nat→Keyed} {lt:Nat→Nat→Bool} {N:Nat}
def RiseSZ (lt:Nat→Nat→Bool) (p:Array Nat) (lo m:Nat):Prop:=∀ i j,i < j→j < m→lt (gt p (lo + i)) (gt p (lo + j))=true
structure SAZ (κ:SortKind) (it:Nat→Keyed) (N:Nat) (p:Array Nat) (st:SortSt):Prop where
 k:kindOf st=κ
 f:failedOf st=none
 a:arrOf st=p.map it
 pp:PP N p
theorem SAZ.set {p p':Array Nat} {st:SortSt} (h:SAZ κ it N p st) (hp:PP N p'):SAZ κ it N p' (setArr st (p'.map it)):=⟨h.k,h.f,rfl,hp⟩
theorem jC {st:SortSt} {p:Array Nat} {i j:Nat} {Q:Option Bool→SortSt→Prop} (hc:xF prog w A s κ it lt N) (h:SAZ κ it N p st) (hi:i < N) (hj:j < N) (hij:i≠j) (q:Q (some (lt (gt p i) (gt p j))) st):wpS (model prog w) A E s (ltAt' i j) Q st:=by
 rw [ltAt'_eq]
 refine wpS_bind (wpS_get ?_)
 have sz:=h.pp.size
 have gi:(arrOf st)[i]?=some (it (gt p i)):=by rw [h.a,Array.getElem?_map,x9 (by omega)];rfl
 have gj:(arrOf st)[j]?=some (it (gt p j)):=by rw [h.a,Array.getElem?_map,x9 (by omega)];rfl
 exact wpS_bind (zL gi (wpS_bind (zL gj (je hc h.k (h.pp.blt hi) (h.pp.blt hj) (fun z=>hij (h.pp.inj hi hj z)) q))))
theorem Zh (S:SO lt N) {p:Array Nat} {lo m:Nat} (hp:PP N p) (h:RiseSZ lt p lo m) (h1:1≤m) (hm:lo + m < N) (c:lt (gt p (lo + m)) (gt p (lo + m - 1))=false):RiseSZ lt p lo (m + 1):=by
 have up:lt (gt p (lo + m - 1)) (gt p (lo + m))=true:=S.tot _ _ (hp.blt hm) (hp.blt (by omega)) (fun z=>by have:=hp.inj hm (by omega) z;omega) c
 intro i j hij hj
 by_cases e:j < m
 ·exact h i j hij e
 ·obtain rfl:j=m:=by omega
  by_cases e2:i=j - 1
  ·rw [e2,show lo + (j - 1)=lo + j - 1 by omega];exact up
  ·refine S.trans _ (gt p (lo + j - 1)) _ (hp.blt (by omega)) (hp.blt (by omega)) (hp.blt hm) ?_ up
   have:=h i (j - 1) (by omega) (by omega)
   rwa [show lo + (j - 1)=lo + j - 1 by omega] at this
theorem XV (p:Array Nat) (i j d:Nat):mirror (p.map it) i j d=(mirror p i j d).map it:=kas_swaps_map it (fun k=>i + k) (fun k=>j - 1 - k) _ p
theorem XW (p:Array Nat) (i d:Nat):bubble (p.map it) i d=(bubble p i d).map it:=kas_swaps_map it (fun k=>i - k) (fun k=>i - k - 1) _ p
theorem QK {p:Array Nat} {i j k:Nat} (hj:j≤p.size) (hk:k < p.size):gt (mirror p i j ((j - i) / 2)) k=if i≤k∧k < j then gt p (i + j - 1 - k) else gt p k:=by
 have e:=getElem?_mirror_all (xs:=p) (i:=i) (j:=j) hj k
 have e1:=x9 (p:=mirror p i j ((j - i) / 2)) (k:=k) (by rw [mirror_size];exact hk)
 rw [e] at e1
 by_cases c:i≤k∧k < j
 ·rw [if_pos c] at e1 ⊢
  rw [x9 (by omega)] at e1
  exact (Option.some.inj e1).symm
 ·rw [if_neg c] at e1 ⊢
  rw [x9 hk] at e1
  exact (Option.some.inj e1).symm
theorem WY {st:SortSt} {p:Array Nat} {lo nrem:Nat} {Q:Option Nat→SortSt→Prop} (S:SO lt N) (hc:xF prog w A s κ it lt N) (h:SAZ κ it N p st) (h1:1≤nrem) (h2:lo + nrem≤N)
  (q:∀ m p',1≤m→m≤nrem→SAZ κ it N p' (setArr st (p'.map it))→(∀ i,i < lo→gt p' i=gt p i)→RiseSZ lt p' lo m→Q (some m) (setArr st (p'.map it))) :
  wpS (model prog w) A E s (countRun' lo nrem) Q st:=by
 have sz:=h.pp.size
 have st0:setArr st (p.map it)=st:=by rw [← h.a]
 refine wpS_bind (wpS_mono (wpS_forRange (fun x c st'=>st=st'∧c=(none,x)∧RiseSZ lt p lo x) (Q:=fun c st'=>st=st'∧∃ m,c=(none,m)∧1≤m∧m≤nrem∧RiseSZ lt p lo m∧(m < nrem→lt (gt p (lo + m)) (gt p (lo + m - 1))=true)) ?step ?fin ⟨rfl,rfl,fun i j hij hj=>by omega⟩) ?post)
 case step =>
  rintro x c st' hx1 hx ⟨rfl,rfl,r⟩
  dsimp only
  refine wpS_bind (jC hc h (by omega) (by omega) (by omega) ?_)
  dsimp only
  cases e:lt (gt p (lo + x)) (gt p (lo + x - 1)) with
  | true =>
   rw [if_pos rfl]
   exact wpS_pure ⟨rfl,x,rfl,hx1,by omega,r,fun _=>e⟩
  | false =>
   rw [if_neg (by decide)]
   exact wpS_pure ⟨rfl,rfl,Zh S h.pp r hx1 (by omega) e⟩
 case fin =>
  rintro c st' ⟨rfl,rfl,r⟩
  exact ⟨rfl,_,rfl,by omega,by omega,r,fun z=>by omega⟩
 case post =>
  rintro c st' ⟨rfl,m,rfl,m1,m2,r,tn⟩
  dsimp only
  by_cases c1:(m == nrem)=true
  ·rw [if_pos c1]
   refine wpS_pure ?_
   have:=q m p m1 m2 (h.set h.pp) (fun _ _=>rfl) r
   rw [st0] at this
   exact this
  ·rw [if_neg c1]
   have c1':m≠nrem:=by simpa using c1
   by_cases c2:m > 1
   ·rw [if_pos c2]
    refine wpS_bind (jC hc h (by omega) (by omega) (by omega) ?_)
    dsimp only
    have ro:=r 0 (m - 1) (by omega) (by omega)
    rw [Nat.add_zero,show lo + (m - 1)=lo + m - 1 by omega] at ro
    rw [ro,if_pos rfl]
    refine wpS_pure ?_
    have:=q m p m1 m2 (h.set h.pp) (fun _ _=>rfl) r
    rw [st0] at this
    exact this
   ·rw [if_neg c2]
    obtain rfl:m=1:=by omega
    have dn:=tn (by omega)
    refine wpS_bind (wpS_lift (wpAny_rule ⟨rfl,?_⟩))
    -- the part that falls
    refine wpS_bind (wpS_mono (wpS_forRange (fun x c st'=>st=st'∧c=(none,x,0)∧∀ i j,i < j→j < x→lt (gt p (lo + j)) (gt p (lo + i))=true) (Q:=fun c st'=>st=st'∧∃ x,c=(none,x,0)∧2≤x∧x≤nrem∧∀ i j,i < j→j < x→lt (gt p (lo + j)) (gt p (lo + i))=true) ?step2 ?fin2 ⟨rfl,rfl,fun i j hij hj=>(by
     obtain rfl:j=1:=by omega
     obtain rfl:i=0:=by omega
     exact dn)⟩) ?post2)
    case step2 =>
     rintro x c st' hx1 hx ⟨rfl,rfl,f⟩
     dsimp only
     refine wpS_bind (jC hc h (by omega) (by omega) (by omega) ?_)
     dsimp only
     cases e:lt (gt p (lo + x)) (gt p (lo + x - 1)) with
     | true =>
      rw [if_pos rfl,if_neg (by decide)]
      refine wpS_pure ⟨rfl,rfl,fun i j hij hj=>?_⟩
      by_cases e1:j < x
      ·exact f i j hij e1
      ·obtain rfl:j=x:=by omega
       by_cases e2:i=j - 1
       ·rw [e2,show lo + (j - 1)=lo + j - 1 by omega];exact e
       ·refine S.trans _ (gt p (lo + j - 1)) _ (h.pp.blt (by omega)) (h.pp.blt (by omega)) (h.pp.blt (by omega)) e ?_
        have:=f i (j - 1) (by omega) (by omega)
        rwa [show lo + (j - 1)=lo + j - 1 by omega] at this
     | false =>
      rw [if_neg (by decide)]
      refine wpS_bind (jC hc h (by omega) (by omega) (by omega) ?_)
      dsimp only
      have up:lt (gt p (lo + x - 1)) (gt p (lo + x))=true:=S.tot _ _ (h.pp.blt (by omega)) (h.pp.blt (by omega)) (fun z=>by have:=h.pp.inj (by omega) (by omega) z;omega) e
      rw [up,if_pos rfl]
      exact wpS_pure ⟨rfl,x,rfl,hx1,by omega,f⟩
    case fin2 =>
     rintro c st' ⟨rfl,rfl,f⟩
     exact ⟨rfl,_,rfl,by omega,by omega,f⟩
    case post2 =>
     rintro c st' ⟨rfl,x,rfl,x2,xn,f⟩
     dsimp only
     rw [if_neg (by decide)]
     refine wpS_bind (wpS_modify ?_)
     have es:(fun s=>setArr s (mirror (arrOf s) lo (lo + x) ((lo + x - lo) / 2))) st=setArr st ((mirror p lo (lo + x) ((lo + x - lo) / 2)).map it):=by
      show setArr st (mirror (arrOf st) lo (lo + x) ((lo + x - lo) / 2))=_
      rw [h.a,XV]
     have hp':PP N (mirror p lo (lo + x) ((lo + x - lo) / 2)):=Array.Perm.trans (mirror_perm _ _ _ _) h.pp
     have g':∀ k,k < N→gt (mirror p lo (lo + x) ((lo + x - lo) / 2)) k=if lo≤k∧k < lo + x then gt p (lo + (lo + x) - 1 - k) else gt p k:=fun k hk=>QK (by omega) (by omega)
     show wpS (model prog w) A E s _ Q ((fun s=>setArr s (mirror (arrOf s) lo (lo + x) ((lo + x - lo) / 2))) st)
     rw [es]
     generalize mirror p lo (lo + x) ((lo + x - lo) / 2)=p' at *
     have h':=h.set hp'
     have r':RiseSZ lt p' lo x:=fun i j hij hj=>by
      rw [g' _ (by omega),g' _ (by omega),if_pos ⟨by omega,by omega⟩,if_pos ⟨by omega,by omega⟩]
      have:=f (x - 1 - j) (x - 1 - i) (by omega) (by omega)
      rwa [show lo + (x - 1 - i)=lo + (lo + x) - 1 - (lo + i) by omega,show lo + (x - 1 - j)=lo + (lo + x) - 1 - (lo + j) by omega] at this
     have kp:∀ i,i < lo→gt p' i=gt p i:=fun i hi=>by rw [g' i (by omega),if_neg (by omega)]
     refine wpS_bind (wpS_mono (wpS_forRange (fun y c st'=>setArr st (p'.map it)=st'∧c=(none,y)∧RiseSZ lt p' lo y) (Q:=fun c st'=>setArr st (p'.map it)=st'∧∃ m,c=(none,m)∧1≤m∧m≤nrem∧RiseSZ lt p' lo m) ?step3 ?fin3 ⟨rfl,rfl,r'⟩) ?post3)
     case step3 =>
      rintro y c st' hy1 hy ⟨rfl,rfl,r⟩
      dsimp only
      refine wpS_bind (jC hc h' (by omega) (by omega) (by omega) ?_)
      dsimp only
      cases e:lt (gt p' (lo + y)) (gt p' (lo + y - 1)) with
      | true =>
       rw [if_pos rfl]
       exact wpS_pure ⟨rfl,y,rfl,by omega,by omega,r⟩
      | false =>
       rw [if_neg (by decide)]
       exact wpS_pure ⟨rfl,rfl,Zh S hp' r (by omega) (by omega) e⟩
     case fin3 =>
      rintro c st' ⟨rfl,rfl,r⟩
      exact ⟨rfl,_,rfl,by omega,by omega,r⟩
     case post3 =>
      rintro c st' ⟨rfl,m,rfl,m1,m2,r⟩
      exact wpS_pure (q m p' m1 m2 h' kp r)
theorem Ko {st:SortSt} {p:Array Nat} {lo n ok:Nat} {Q:Bool→SortSt→Prop} (S:SO lt N) (hc:xF prog w A s κ it lt N) (h:SAZ κ it N p st) (h1:1≤ok) (h2:ok≤n) (h3:lo + n≤N) (r:RiseSZ lt p lo ok)
  (q:∀ p',SAZ κ it N p' (setArr st (p'.map it))→(∀ i,i < lo→gt p' i=gt p i)→RiseSZ lt p' lo n→Q true (setArr st (p'.map it))) :
  wpS (model prog w) A E s (binarySort' lo n ok) Q st:=by
 have sz:=h.pp.size
 refine wpS_bind (wpS_mono (wpS_forRange (fun x c st'=>∃ p',setArr st (p'.map it)=st'∧c=(none,())∧PP N p'∧(∀ i,i < lo→gt p' i=gt p i)∧RiseSZ lt p' lo x) (Q:=fun c st'=>∃ p',setArr st (p'.map it)=st'∧c=(none,())∧PP N p'∧(∀ i,i < lo→gt p' i=gt p i)∧RiseSZ lt p' lo n) ?step ?fin ⟨p,by rw [← h.a],rfl,h.pp,fun _ _=>rfl,by rw [Nat.max_eq_left h1];exact r⟩) ?post)
 case fin =>
  rintro c st' ⟨p',rfl,rfl,hp,kp,r⟩
  exact ⟨p',rfl,rfl,hp,kp,by rw [show max (max ok 1) n=n by omega] at r;exact r⟩
 case post =>
  rintro c st' ⟨p',rfl,rfl,hp,kp,r⟩
  exact wpS_pure (q p' (h.set hp) kp r)
 case step =>
  rintro x c st' hx1 hx ⟨p',rfl,rfl,hp,kp,r⟩
  dsimp only
  have h':=h.set hp
  have sz':=hp.size
  refine wpS_bind (wpS_mono (wpS_forRange (fun y c st2=>setArr st (p'.map it)=st2∧∃ l u,c=(none,l,u)∧l≤u∧u≤x∧u - l≤x - y∧(∀ i,i < l→lt (gt p' (lo + i)) (gt p' (lo + x))=true)∧(∀ i,u≤i→i < x→lt (gt p' (lo + x)) (gt p' (lo + i))=true)) (Q:=fun c st2=>setArr st (p'.map it)=st2∧∃ l u,c=(none,l,u)∧l≤x∧(∀ i,i < l→lt (gt p' (lo + i)) (gt p' (lo + x))=true)∧(∀ i,l≤i→i < x→lt (gt p' (lo + x)) (gt p' (lo + i))=true)) ?step1 ?fin1 ⟨rfl,0,x,rfl,by omega,by omega,by omega,fun i hi=>by omega,fun i h1 h2=>by omega⟩) ?post1)
  case fin1 =>
   rintro c st2 ⟨rfl,l,u,rfl,a1,a2,a3,a4,a5⟩
   have:l=u:=by omega
   subst this
   exact ⟨rfl,l,l,rfl,a2,a4,a5⟩
  case step1 =>
   rintro y c st2 _ hy ⟨rfl,l,u,rfl,a1,a2,a3,a4,a5⟩
   dsimp only
   by_cases c1:l ≥ u
   ·rw [if_pos c1]
    have:l=u:=by omega
    subst this
    exact wpS_pure ⟨rfl,l,l,rfl,a2,a4,a5⟩
   ·rw [if_neg c1]
    refine wpS_bind (jC hc h' (by omega) (by omega) (by omega) ?_)
    dsimp only
    cases e:lt (gt p' (lo + x)) (gt p' (lo + (l + u) / 2)) with
    | true =>
     rw [if_pos rfl]
     refine wpS_pure ⟨rfl,l,(l + u) / 2,rfl,by omega,by omega,by omega,a4,fun i h1 h2=>?_⟩
     by_cases d:i=(l + u) / 2
     ·rw [d];exact e
     ·exact S.trans _ _ _ (hp.blt (by omega)) (hp.blt (by omega)) (hp.blt (by omega)) e (r _ _ (by omega) h2)
    | false =>
     rw [if_neg (by decide)]
     have up:=S.tot _ _ (hp.blt (by omega)) (hp.blt (by omega)) (fun z=>by have:=hp.inj (by omega) (by omega) z;omega) e
     refine wpS_pure ⟨rfl,(l + u) / 2 + 1,u,rfl,by omega,a2,by omega,fun i hi=>?_,a5⟩
     by_cases d:i=(l + u) / 2
     ·rw [d];exact up
     ·exact S.trans _ _ _ (hp.blt (by omega)) (hp.blt (by omega)) (hp.blt (by omega)) (r _ _ (by omega) (by omega)) up
  case post1 =>
   rintro c st2 ⟨rfl,l,u,rfl,a1,a2,a3⟩
   dsimp only
   refine wpS_bind (wpS_modify ?_)
   have es:(fun s=>setArr s (bubble (arrOf s) (lo + x) (lo + x - (lo + l)))) (setArr st (p'.map it))=setArr st ((bubble p' (lo + x) (lo + x - (lo + l))).map it):=by
    show setArr _ (bubble (p'.map it) _ _)=_
    rw [XW]
   show wpS (model prog w) A E s _ _ ((fun s=>setArr s (bubble (arrOf s) (lo + x) (lo + x - (lo + l)))) (setArr st (p'.map it)))
   rw [es]
   have g':∀ j,j < N→gt (bubble p' (lo + x) (lo + x - (lo + l))) j=if j=lo + l then gt p' (lo + x) else if lo + l < j∧j≤lo + x then gt p' (j - 1) else gt p' j:=fun j hj=>by
    have:=zaK (p:=p') (k:=lo + x) (d:=lo + x - (lo + l)) (j:=j) (by omega) (by omega) (by omega)
    rwa [show lo + x - (lo + x - (lo + l))=lo + l by omega] at this
   have hp':PP N (bubble p' (lo + x) (lo + x - (lo + l))):=Array.Perm.trans (bubble_perm _ _ _) hp
   generalize bubble p' (lo + x) (lo + x - (lo + l))=p2 at *
   refine wpS_pure ⟨p2,rfl,rfl,hp',fun i hi=>?_,fun i j hij hj=>?_⟩
   ·rw [g' i (by omega),if_neg (by omega),if_neg (by omega)];exact kp i hi
   ·rw [g' _ (by omega),g' _ (by omega)]
    by_cases c1:i=l
    ·rw [if_pos (by omega),if_neg (by omega),if_pos (by omega),show lo + j - 1=lo + (j - 1) by omega]
     exact a3 _ (by omega) (by omega)
    ·rw [if_neg (by omega)]
     by_cases c2:l < i∧i≤x
     ·rw [if_pos (by omega),if_neg (by omega),if_pos (by omega),show lo + j - 1=lo + (j - 1) by omega,show lo + i - 1=lo + (i - 1) by omega]
      exact r _ _ (by omega) (by omega)
     ·rw [if_neg (by omega)]
      by_cases c3:j=l
      ·rw [if_pos (by omega)];exact a2 _ (by omega)
      ·rw [if_neg (by omega)]
       by_cases c4:l < j∧j≤x
       ·rw [if_pos (by omega),show lo + j - 1=lo + (j - 1) by omega]
        exact r _ _ (by omega) (by omega)
       ·rw [if_neg (by omega)]
        exact r _ _ hij (by omega)
end
end L2
namespace L2
open PySem PySem.W PyProof.Rows
theorem Yy {α:Type} (off:Nat):∀ (l:List α) (arr:Array α) (j:Nat),off + j + l.length≤arr.size→(l.zipIdx j).foldl (fun a x=>match x with | (p,j)=>a.setIfInBounds (off + j) p) arr=(arr.toList.take (off + j) ++ l ++ arr.toList.drop (off + j + l.length)).toArray
 | [],arr,j,h=>by simp
 | x :: t,arr,j,h=>by
  rw [List.length_cons] at h
  rw [List.zipIdx_cons,List.foldl_cons]
  have e:=Yy off t (arr.setIfInBounds (off + j) x) (j + 1) (by simp;omega)
  dsimp only at e ⊢
  rw [e]
  congr 1
  have es:(arr.setIfInBounds (off + j) x).toList=arr.toList.take (off + j) ++ x :: arr.toList.drop (off + j + 1):=by
   rw [Array.toList_setIfInBounds,List.set_eq_take_append_cons_drop,if_pos (by simp;omega)]
  have lt:(arr.toList.take (off + j)).length=off + j:=by rw [List.length_take,Array.length_toList];omega
  have a1:∀ (U D:List α) (n:Nat),U.length=n→(U ++ x :: D).take (n + 1)=U ++ [x]:=fun U D n h=>by
   rw [List.take_append,List.take_of_length_le (by omega),show n + 1 - U.length=1 by omega];rfl
  have a2:∀ (U D:List α) (n k:Nat),U.length=n→(U ++ x :: D).drop (n + 1 + k)=D.drop k:=fun U D n k h=>by
   rw [List.drop_append,List.drop_eq_nil_of_le (by omega),show n + 1 + k - U.length=k + 1 by omega];rfl
  rw [es,show off + (j + 1)=(off + j) + 1 by omega,a1 _ _ _ lt,a2 _ _ _ _ lt,List.drop_drop,List.length_cons,show off + j + 1 + t.length=off + j + (t.length + 1) by omega]
  simp
section
variable {prog:Program} {w:World} {A:Around} {E:Value→Shared→Prop} {s:Shared} {κ:SortKind} {it:Nat→Keyed} {lt:Nat→Nat→Bool} {N:Nat}
theorem Y7 (p:Array Nat):p.map it=imZ it p.toList:=by apply Array.toList_inj.mp;simp [imZ]
theorem Kq {M:Model} {st st':SortSt} {Q:PUnit→SortSt→Prop} (q:Q ⟨⟩ st'):wpS M A E s (set st':SMZ PUnit) Q st:=by
 unfold wpS
 exact wpAny_pure ⟨rfl,q⟩
theorem jf {p:Array Nat} {k:Nat} (h:k < p.size):p.toList[k]?=some (gt p k):=by
 rw [Array.getElem?_toList];exact x9 h
theorem wc {p:Array Nat} {lo m i:Nat} (h:lo + m≤p.size) (hi:i < m):((p.toList.drop lo).take m)[i]?=some (gt p (lo + i)):=by
 rw [List.getElem?_take_of_lt hi,List.getElem?_drop,jf (by omega)]
theorem ku {p:Array Nat} {lo m:Nat} (h:lo + m≤p.size):((p.toList.drop lo).take m).length=m:=by
 rw [List.length_take,List.length_drop,Array.length_toList];omega
theorem y9 {p:Array Nat} {lo m x:Nat} (h:lo + m≤p.size) (hx:x∈(p.toList.drop lo).take m):∃ i,i < m∧x=gt p (lo + i):=by
 obtain ⟨i,hi⟩:=List.getElem?_of_mem hx
 have il:=(List.getElem?_eq_some_iff.mp hi).1
 rw [ku h] at il
 rw [wc h il] at hi
 exact ⟨i,il,(Option.some.inj hi).symm⟩
theorem VO {p:Array Nat} {lo m i:Nat} (h:lo + m≤p.size) (hi:i < m):gt p (lo + i)∈(p.toList.drop lo).take m:=List.mem_of_getElem? (wc h hi)
theorem jD {p:Array Nat} {lo m:Nat} (h:lo + m≤p.size) (r:RiseSZ lt p lo m):((p.toList.drop lo).take m).Pairwise fun x y=>lt x y=true:=by
 rw [List.pairwise_iff_getElem]
 intro i j hi hj hij
 rw [ku h] at hi hj
 have gi:=List.getElem?_eq_some_iff.mp (wc h hi)
 have gj:=List.getElem?_eq_some_iff.mp (wc h hj)
 rw [gi.2,gj.2]
 exact r i j hij hj
theorem RiseSZ.sub {p:Array Nat} {lo m k n:Nat} (r:RiseSZ lt p lo m) (h:k + n≤m):RiseSZ lt p (lo + k) n:=fun i j hij hj=>by
 have:=r (k + i) (k + j) (by omega) (by omega)
 rwa [← Nat.add_assoc,← Nat.add_assoc] at this
theorem RiseSZ.same {p p':Array Nat} {lo m:Nat} (r:RiseSZ lt p lo m) (h:∀ i,i < m→gt p' (lo + i)=gt p (lo + i)):RiseSZ lt p' lo m:=fun i j hij hj=>by
 rw [h i (by omega),h j hj];exact r i j hij hj
def xX (p:Array Nat) (off:Nat) (m:List Nat):Array Nat:=(p.toList.take off ++ m ++ p.toList.drop (off + m.length)).toArray
theorem QL {p:Array Nat} {off:Nat} {m:List Nat} (h:off + m.length≤p.size) {k:Nat} (hk:k < p.size):gt (xX p off m) k=if off≤k∧k < off + m.length then m.getD (k - off) 0 else gt p k:=by
 have lt:(p.toList.take off).length=off:=by rw [List.length_take,Array.length_toList];omega
 have e:gt (xX p off m) k=((p.toList.take off ++ m ++ p.toList.drop (off + m.length))[k]?).getD 0:=by
  unfold gt xX
  rw [Array.getD_eq_getD_getElem?]
  simp
 rw [e]
 by_cases c1:k < off
 ·rw [if_neg (by omega),List.append_assoc,List.getElem?_append_left (by omega),List.getElem?_take_of_lt c1,jf hk];rfl
 ·by_cases c2:k < off + m.length
  ·rw [if_pos ⟨by omega,c2⟩,List.append_assoc,List.getElem?_append_right (by omega),lt,List.getElem?_append_left (by omega),List.getD_eq_getElem?_getD]
  ·rw [if_neg (by omega),List.append_assoc,List.getElem?_append_right (by omega),lt,List.getElem?_append_right (by omega),List.getElem?_drop,show off + m.length + (k - off - m.length)=k by omega,jf hk];rfl
theorem Jo {p:Array Nat} {off:Nat} {m:List Nat} (hp:PP N p) (h:m.Perm ((p.toList.drop off).take m.length)):PP N (xX p off m):=by
 refine Array.Perm.trans ?_ hp
 rw [Array.perm_iff_toList_perm]
 unfold xX
 show (p.toList.take off ++ m ++ p.toList.drop (off + m.length)).Perm p.toList
 have e:p.toList=p.toList.take off ++ (p.toList.drop off).take m.length ++ p.toList.drop (off + m.length):=by
  rw [List.append_assoc,← List.drop_drop,List.take_append_drop,List.take_append_drop]
 conv=>rhs;rw [e]
 exact List.Perm.append_right _ (List.Perm.append_left _ h)
theorem Y8 {st:SortSt} {p:Array Nat} {pre post:List (Nat × Nat × Nat)} {sa na pw sb nb pw2 i:Nat} {Q:Bool→SortSt→Prop} (S:SO lt N) (hc:xF prog w A s κ it lt N) (h:SAZ κ it N p st) (hpd:pendingOf st=(pre ++ (sa,na,pw) :: (sb,nb,pw2) :: post).toArray) (hi:i=pre.length) (e:sb=sa + na) (r1:RiseSZ lt p sa na) (r2:RiseSZ lt p sb nb) (n1:0 < na) (n2:0 < nb) (hN:sb + nb≤N)
  (q:∀ p' st',SAZ κ it N p' st'→pendingOf st'=(pre ++ (sa,na + nb,pw) :: post).toArray→(∀ k,k < N→k < sa∨sa + na + nb≤k→gt p' k=gt p k)→RiseSZ lt p' sa (na + nb)→Q true st') :
  wpS (model prog w) A E s (mergeAt' i) Q st:=by
 subst hi
 have sz:=h.pp.size
 refine wpS_bind (wpS_get ?_)
 have g1:(pendingOf st)[pre.length]?=some (sa,na,pw):=by rw [hpd];simp
 have g2:(pendingOf st)[pre.length + 1]?=some (sb,nb,pw2):=by rw [hpd];simp
 have pd':((pendingOf st).setIfInBounds pre.length (sa,na + nb,pw)).eraseIdxIfInBounds (pre.length + 1)=(pre ++ (sa,na + nb,pw) :: post).toArray:=by
  rw [hpd]
  apply Array.toList_inj.mp
  simp only [List.setIfInBounds_toArray,List.eraseIdxIfInBounds_toArray]
  rw [List.set_append_right _ _ (Nat.le_refl _),Nat.sub_self,List.set_cons_zero,List.eraseIdx_append_of_length_le (by omega),show pre.length + 1 - pre.length=1 by omega]
  rfl
 rw [g1,g2]
 dsimp only
 refine wpS_bind (Kq ?_)
 rw [pd']
 have hA:arrOf st=imZ it p.toList:=by rw [h.a,Y7]
 have gb0:=h.pp.blt (k:=sb) (by omega)
 have inj:∀ {k l:Nat},k < N→l < N→k≠l→gt p k≠gt p l:=fun hk hl n z=>n (h.pp.inj hk hl z)
 have hA':(sortPriv% PySem.Builtin.SortState.a) st=imZ it p.toList:=hA
 rw [hA']
 refine wpS_bind (zL (yb (jf (k:=sb) (by omega))) ?_)
 show wpS (model prog w) A E s _ Q (SortSt.mk' (kindOf st) (imZ it p.toList) (pre ++ (sa,na + nb,pw) :: post).toArray (gallopOf st) (failedOf st))
 generalize est:SortSt.mk' (kindOf st) (imZ it p.toList) (pre ++ (sa,na + nb,pw) :: post).toArray (gallopOf st) (failedOf st)=st1
 have h1:SAZ κ it N p st1:=by rw [← est];exact ⟨h.k,h.f,(Y7 p).symm,h.pp⟩
 have hp1:pendingOf st1=(pre ++ (sa,na + nb,pw) :: post).toArray:=by rw [← est]
 refine wpS_bind (xq S hc h1.k gb0 (fun x hx=>?_) (jD (by omega) r1) (by rw [Array.length_toList];omega) n1 fun k hk lo hi=>?_)
 ·obtain ⟨j,hj,rfl⟩:=y9 (by omega) hx
  exact ⟨h.pp.blt (by omega),inj (by omega) (by omega) (by omega)⟩
 dsimp only
 -- the first part's ones ahead of all of the second part's
 have loA:∀ j,j < k→lt (gt p (sa + j)) (gt p sb)=true:=fun j hj=>lo _ (VO (by omega) hj)
 have hiA:∀ j,k≤j→j < na→lt (gt p sb) (gt p (sa + j))=true:=fun j h1 h2=>by
  refine hi _ ?_
  refine List.mem_of_getElem? (i:=j - k) ?_
  rw [List.getElem?_drop,show k + (j - k)=j by omega,wc (by omega) h2]
 have below:∀ j l,j < k→l < nb→lt (gt p (sa + j)) (gt p (sb + l))=true:=fun j l hj hl=>by
  by_cases c:l=0
  ·rw [c];exact loA j hj
  ·have:=r2 0 l (by omega) hl
   exact S.trans _ (gt p sb) _ (h.pp.blt (by omega)) gb0 (h.pp.blt (by omega)) (loA j hj) this
 by_cases c1:(na - k == 0)=true
 ·rw [if_pos c1]
  have c1':na - k=0:=by simpa using c1
  refine wpS_pure (q p st1 h1 hp1 (fun _ _ _=>rfl) fun i j hij hj=>?_)
  by_cases d1:j < na
  ·exact r1 i j hij d1
  ·have ej:sa + j=sb + (j - na):=by omega
   by_cases d2:i < na
   ·rw [ej];exact below i (j - na) (by omega) (by omega)
   ·rw [ej,show sa + i=sb + (i - na) by omega]
    exact r2 _ _ (by omega) (by omega)
 ·rw [if_neg c1]
  have c1':na - k≠0:=by simpa using c1
  have el:sa + k + (na - k) - 1=sb - 1:=by omega
  rw [el]
  refine wpS_bind (zL (yb (jf (k:=sb - 1) (by omega))) ?_)
  refine wpS_bind (xq S hc h1.k (h.pp.blt (k:=sb - 1) (by omega)) (fun x hx=>?_) (jD (by omega) r2) (by rw [Array.length_toList];omega) (by omega) fun l hl lo2 hi2=>?_)
  ·obtain ⟨j,hj,rfl⟩:=y9 (by omega) hx
   exact ⟨h.pp.blt (by omega),inj (by omega) (by omega) (by omega)⟩
  dsimp only
  have loB:∀ j,j < l→lt (gt p (sb + j)) (gt p (sb - 1))=true:=fun j hj=>lo2 _ (VO (by omega) hj)
  have hiB:∀ j,l≤j→j < nb→lt (gt p (sb - 1)) (gt p (sb + j))=true:=fun j h1 h2=>by
   refine hi2 _ ?_
   refine List.mem_of_getElem? (i:=j - l) ?_
   rw [List.getElem?_drop,show l + (j - l)=j by omega,wc (by omega) h2]
  have above:∀ j i,l≤j→j < nb→i < na→lt (gt p (sa + i)) (gt p (sb + j))=true:=fun j i h1 h2 h3=>by
   by_cases c:i=na - 1
   ·rw [c,show sa + (na - 1)=sb - 1 by omega];exact hiB j h1 h2
   ·have:=r1 i (na - 1) (by omega) (by omega)
    rw [show sa + (na - 1)=sb - 1 by omega] at this
    exact S.trans _ (gt p (sb - 1)) _ (h.pp.blt (by omega)) (h.pp.blt (by omega)) (h.pp.blt (by omega)) this (hiB j h1 h2)
  by_cases c2:(l == 0)=true
  ·rw [if_pos c2]
   have c2':l=0:=by simpa using c2
   refine wpS_pure (q p st1 h1 hp1 (fun _ _ _=>rfl) fun i j hij hj=>?_)
   by_cases d1:j < na
   ·exact r1 i j hij d1
   ·have ej:sa + j=sb + (j - na):=by omega
    by_cases d2:i < na
    ·rw [ej];exact above (j - na) i (by omega) (by omega) d2
    ·rw [ej,show sa + i=sb + (i - na) by omega]
     exact r2 _ _ (by omega) (by omega)
  ·rw [if_neg c2]
   have c2':l≠0:=by simpa using c2
   rw [wZ,wZ,show sb - (sa + k)=na - k by omega,show sb + l - sb=l by omega]
   have rA:RiseSZ lt p (sa + k) (na - k):=r1.sub (by omega)
   have rB:RiseSZ lt p sb l:=fun i j hij hj=>r2 i j hij (by omega)
   have lA:=ku (p:=p) (lo:=sa + k) (m:=na - k) (by omega)
   have lB:=ku (p:=p) (lo:=sb) (m:=l) (by omega)
   have P:MPreZ lt N ((p.toList.drop (sa + k)).take (na - k)) ((p.toList.drop sb).take l):=by
    refine ⟨jD (by omega) rA,jD (by omega) rB,fun x hx=>?_,fun x hx=>?_,fun x hx y hy=>?_,by omega,by omega,fun y hy=>?_,fun x hx=>?_⟩
    ·obtain ⟨j,hj,rfl⟩:=y9 (by omega) hx
     exact h.pp.blt (by omega)
    ·obtain ⟨j,hj,rfl⟩:=y9 (by omega) hx
     exact h.pp.blt (by omega)
    ·obtain ⟨j,hj,rfl⟩:=y9 (by omega) hx
     obtain ⟨j',hj',rfl⟩:=y9 (by omega) hy
     exact inj (by omega) (by omega) (by omega)
    ·obtain ⟨j,hj,rfl⟩:=y9 (by omega) hy
     have eb:((p.toList.drop sb).take l).getD 0 0=gt p sb:=by rw [List.getD_eq_getElem?_getD,wc (by omega) (by omega)];rfl
     rw [eb,show sa + k + j=sa + (k + j) by omega]
     exact hiA _ (by omega) (by omega)
    ·obtain ⟨j,hj,rfl⟩:=y9 (by omega) hx
     have ea:((p.toList.drop (sa + k)).take (na - k)).getD (((p.toList.drop (sa + k)).take (na - k)).length - 1) 0=gt p (sb - 1):=by
      rw [lA,List.getD_eq_getElem?_getD,wc (by omega) (by omega),show sa + k + (na - k - 1)=sb - 1 by omega];rfl
     rw [ea]
     exact loB j hj
   have fin:∀ m st',kU lt ((p.toList.drop (sa + k)).take (na - k)) ((p.toList.drop sb).take l) m→xi κ st1 st'→wpS (model prog w) A E s (do
     modify fun z=>setArr z ((imZ it m).toList.zipIdx.foldl (fun a x=>match x with | (p,j)=>a.setIfInBounds (sa + k + j) p) (arrOf z))
     let z ← get
     pure (failedOf z).isNone:SMZ Bool) Q st':=by
    intro m st' R T
    have lm:m.length=na - k + l:=by have:=R.pe.length_eq;rw [List.length_append,lA,lB] at this;exact this
    have ea:arrOf st'=imZ it p.toList:=by rw [T.a,h1.a,Y7]
    refine wpS_bind (wpS_modify (wpS_bind (wpS_get (wpS_pure ?_))))
    have ef:(imZ it m).toList.zipIdx.foldl (fun a x=>match x with | (p,j)=>a.setIfInBounds (sa + k + j) p) (arrOf st')=(xX p (sa + k) m).map it:=by
     rw [ea]
     have:=Yy (sa + k) (imZ it m).toList (imZ it p.toList) 0 (by
      have e1:(imZ it m).toList.length=m.length:=by simp [imZ]
      have e2:(imZ it p.toList).size=p.size:=by simp [imZ]
      omega)
     rw [this]
     unfold xX
     simp [imZ,List.map_take,List.map_drop]
    show Q (failedOf (setArr st' ((imZ it m).toList.zipIdx.foldl (fun a x=>match x with | (p,j)=>a.setIfInBounds (sa + k + j) p) (arrOf st')))).isNone (setArr st' ((imZ it m).toList.zipIdx.foldl (fun a x=>match x with | (p,j)=>a.setIfInBounds (sa + k + j) p) (arrOf st')))
    rw [ef]
    have en:(failedOf (setArr st' ((xX p (sa + k) m).map it))).isNone=true:=by show (failedOf st').isNone=true;rw [T.f];rfl
    rw [en]
    have ab:(p.toList.drop (sa + k)).take (na - k) ++ (p.toList.drop sb).take l=(p.toList.drop (sa + k)).take m.length:=by
     rw [lm,List.take_add,List.drop_drop,show sa + k + (na - k)=sb by omega]
    have pp':PP N (xX p (sa + k) m):=Jo h.pp (by rw [← ab];exact R.pe)
    have gp:∀ j,j < N→gt (xX p (sa + k) m) j=if sa + k≤j∧j < sa + k + m.length then m.getD (j - (sa + k)) 0 else gt p j:=fun j hj=>QL (by omega) (by omega)
    -- what lies in m
    have mm:∀ j,j < m.length→(∃ i,k≤i∧i < na∧m.getD j 0=gt p (sa + i))∨∃ i,i < l∧m.getD j 0=gt p (sb + i):=fun j hj=>by
     have gm:m[j]?=some (m.getD j 0):=by rw [List.getD_eq_getElem?_getD,List.getElem?_eq_getElem hj];rfl
     have:=R.pe.mem_iff.mp (List.mem_of_getElem? gm)
     rcases List.mem_append.mp this with z | z
     ·obtain ⟨i,hi,e⟩:=y9 (by omega) z
      exact .inl ⟨k + i,by omega,by omega,by rw [e,show sa + k + i=sa + (k + i) by omega]⟩
     ·obtain ⟨i,hi,e⟩:=y9 (by omega) z
      exact .inr ⟨i,hi,e⟩
    refine q _ _ ⟨T.k,T.f,rfl,pp'⟩ (by show pendingOf st'=_;rw [T.p,hp1]) (fun j hj hc=>?_) fun i j hij hj=>?_
    ·rw [gp j hj,if_neg (by omega)]
    ·rw [gp _ (by omega),gp _ (by omega)]
     by_cases i1:i < k
     ·rw [if_neg (by omega)]
      by_cases j1:j < k
      ·rw [if_neg (by omega)];exact r1 i j hij (by omega)
      ·by_cases j2:j < na + l
       ·rw [if_pos ⟨by omega,by omega⟩]
        rcases mm (sa + j - (sa + k)) (by omega) with ⟨u,u1,u2,eu⟩ | ⟨u,u1,eu⟩
        ·rw [eu];exact r1 i u (by omega) u2
        ·rw [eu];exact below i u i1 (by omega)
       ·rw [if_neg (by omega),show sa + j=sb + (j - na) by omega]
        exact below i _ i1 (by omega)
     ·by_cases i2:i < na + l
      ·rw [if_pos ⟨by omega,by omega⟩]
       by_cases j2:j < na + l
       ·rw [if_pos ⟨by omega,by omega⟩]
        have a1:sa + i - (sa + k) < m.length:=by omega
        have a2:sa + j - (sa + k) < m.length:=by omega
        rw [List.getD_eq_getElem?_getD,List.getD_eq_getElem?_getD,List.getElem?_eq_getElem a1,List.getElem?_eq_getElem a2]
        exact List.pairwise_iff_getElem.mp R.so _ _ a1 a2 (by omega)
       ·rw [if_neg (by omega),show sa + j=sb + (j - na) by omega]
        rcases mm (sa + i - (sa + k)) (by omega) with ⟨u,u1,u2,eu⟩ | ⟨u,u1,eu⟩
        ·rw [eu];exact above _ u (by omega) (by omega) u2
        ·rw [eu];exact r2 u _ (by omega) (by omega)
      ·rw [if_neg (by omega),if_neg (by omega),show sa + j=sb + (j - na) by omega,show sa + i=sb + (i - na) by omega]
       exact r2 _ _ (by omega) (by omega)
   have k1:xi κ st1 st1:=⟨h1.k,h1.f,rfl,rfl⟩
   by_cases c3:na - k≤l
   ·rw [if_pos c3]
    exact wpS_bind (Y5 S hc k1 P fin)
   ·rw [if_neg c3]
    exact wpS_bind (Y6 S hc k1 P fin)
end
end L2
namespace L2
open PySem PySem.W PyProof.Rows
abbrev RnZ:=Nat × Nat × Nat
def RunsZ (lt:Nat→Nat→Bool) (p:Array Nat):List RnZ→Nat→Nat→Prop
 | [],a,b=>a=b
 | x :: r,a,b=>x.1=a∧0 < x.2.1∧RiseSZ lt p a x.2.1∧RunsZ lt p r (a + x.2.1) b
section
variable {lt:Nat→Nat→Bool} {p p':Array Nat}
theorem RunsZ.app:∀ {L M:List RnZ} {a b:Nat},RunsZ lt p (L ++ M) a b↔∃ c,RunsZ lt p L a c∧RunsZ lt p M c b
 | [],M,a,b=>⟨fun h=>⟨a,rfl,h⟩,fun ⟨c,e,h⟩=>by cases e;exact h⟩
 | x :: L,M,a,b=>by
  constructor
  ·rintro ⟨h1,h2,h3,h4⟩
   obtain ⟨c,h5,h6⟩:=RunsZ.app.mp h4
   exact ⟨c,⟨h1,h2,h3,h5⟩,h6⟩
  ·rintro ⟨c,⟨h1,h2,h3,h5⟩,h6⟩
   exact ⟨h1,h2,h3,RunsZ.app.mpr ⟨c,h5,h6⟩⟩
theorem RunsZ.len:∀ {L:List RnZ} {a b:Nat},RunsZ lt p L a b→a + L.length≤b
 | [],a,b,h=>by have h:a=b:=h;simp;omega
 | x :: L,a,b,⟨h1,h2,h3,h4⟩=>by have:=RunsZ.len h4;simp;omega
theorem RunsZ.same:∀ {L:List RnZ} {a b:Nat},RunsZ lt p L a b→(∀ k,a≤k→k < b→gt p' k=gt p k)→RunsZ lt p' L a b
 | [],a,b,h,_=>h
 | x :: L,a,b,⟨h1,h2,h3,h4⟩,k=>by
  have:=RunsZ.len h4
  exact ⟨h1,h2,h3.same fun i hi=>k _ (by omega) (by omega),RunsZ.same h4 fun j h5 h6=>k j (by omega) h6⟩
theorem RunsZ.power {pw:Nat}:∀ {L:List RnZ} {a b:Nat} (k:Nat),RunsZ lt p L a b→RunsZ lt p (L.modify k fun x=>(x.1,x.2.1,pw)) a b
 | [],a,b,k,h=>by cases k <;> exact h
 | x :: L,a,b,0,⟨h1,h2,h3,h4⟩=>⟨h1,h2,h3,h4⟩
 | x :: L,a,b,k + 1,⟨h1,h2,h3,h4⟩=>⟨h1,h2,h3,RunsZ.power k h4⟩
end
section
variable {prog:Program} {w:World} {A:Around} {E:Value→Shared→Prop} {s:Shared} {κ:SortKind} {it:Nat→Keyed} {lt:Nat→Nat→Bool} {N:Nat}
structure SRZ (κ:SortKind) (it:Nat→Keyed) (lt:Nat→Nat→Bool) (N lo:Nat) (p:Array Nat) (L:List RnZ) (st:SortSt):Prop where
 h:SAZ κ it N p st
 d:pendingOf st=L.toArray
 r:RunsZ lt p L 0 lo
 l:lo≤N
theorem Zi {st:SortSt} {p:Array Nat} {L:List RnZ} {lo i:Nat} {Q:Bool→SortSt→Prop} (S:SO lt N) (hc:xF prog w A s κ it lt N) (h:SRZ κ it lt N lo p L st) (hi:i + 2≤L.length)
  (q:∀ p' L' st',SRZ κ it lt N lo p' L' st'→L'.length + 1=L.length→(∀ k,lo≤k→k < N→gt p' k=gt p k)→Q true st'):wpS (model prog w) A E s (mergeAt' i) Q st:=by
 obtain ⟨x,hx⟩:∃ x,L[i]?=some x:=⟨_,List.getElem?_eq_getElem (by omega)⟩
 obtain ⟨y,hy⟩:∃ y,L[i + 1]?=some y:=⟨_,List.getElem?_eq_getElem (by omega)⟩
 have e:L=L.take i ++ x :: y :: L.drop (i + 2):=by
  obtain ⟨l1,rfl⟩:=List.getElem?_eq_some_iff.mp hx
  obtain ⟨l2,rfl⟩:=List.getElem?_eq_some_iff.mp hy
  rw [← List.drop_eq_getElem_cons l2,← List.drop_eq_getElem_cons l1,List.take_append_drop]
 have lp:(L.take i).length=i:=by rw [List.length_take];omega
 have r:=h.r
 have hd:=h.d
 rw [e] at r hd
 obtain ⟨c,r1,x1,x2,x3,y1,y2,y3,r2⟩:=RunsZ.app.mp r
 obtain ⟨sa,na,pw⟩:=x
 obtain ⟨sb,nb,pw2⟩:=y
 dsimp only at *
 subst x1
 subst y1
 have:=r2.len
 have hl:=h.l
 refine Y8 S hc h.h hd lp.symm rfl x3 y3 x2 y2 (by omega) fun p' st' h' d' kp r'=>?_
 refine q p' (L.take i ++ (sa,na + nb,pw) :: L.drop (i + 2)) st' ⟨h',d',?_,hl⟩ ?_ fun k h1 h2=>kp k h2 (by omega)
 ·refine RunsZ.app.mpr ⟨sa,r1.same fun k h1 h2=>kp k (by omega) (by omega),rfl,by dsimp only;omega,r',?_⟩
  dsimp only
  rw [← Nat.add_assoc]
  exact r2.same fun k h1 h2=>kp k (by omega) (by omega)
 ·have e2:=congrArg List.length e
  simp only [List.length_append,List.length_cons] at e2 ⊢
  omega
def zbv (size pw:Nat):SMZ (Option Unit × Unit) :=
 forIn [:size] (none,()) fun _ _=>do
  let z ← get
  match (if (pendingOf z).size > 1 then (pendingOf z)[(pendingOf z).size - 2]? else none) with
  | some (_,_,older)=>if older≤pw then pure (.done (none,())) else do
    let ok ← mergeAt' ((pendingOf z).size - 2)
    if (!ok)=true then pure (.done (some (),())) else pure (.yield (none,()))
  | _=>pure (.done (none,()))
theorem XX {st:SortSt} {p:Array Nat} {L:List RnZ} {size lo n pw:Nat} {Q:Option Unit × Unit→SortSt→Prop} (S:SO lt N) (hc:xF prog w A s κ it lt N) (h:SRZ κ it lt N lo p L st) (n2:lo + n≤N) (r:RiseSZ lt p lo n) (q:∀ p' L' st',SRZ κ it lt N lo p' L' st'→RiseSZ lt p' lo n→Q (none,()) st'):wpS (model prog w) A E s (zbv size pw) Q st:=by
 unfold zbv
 refine wpS_forRange (fun _ c st'=>∃ p' L',c=(none,())∧SRZ κ it lt N lo p' L' st'∧RiseSZ lt p' lo n) ?_ ?_ ⟨p,L,rfl,h,r⟩
 ·rintro x c st' _ hx ⟨p',L',rfl,h',r'⟩
  refine wpS_bind (wpS_get ?_)
  by_cases c1:(pendingOf st').size > 1
  ·rw [if_pos c1]
   rw [h'.d,List.size_toArray] at c1
   obtain ⟨⟨a1,a2,a3⟩,ha⟩:∃ y,(pendingOf st')[(pendingOf st').size - 2]?=some y:=⟨_,by rw [h'.d];exact Array.getElem?_eq_getElem (by simp;omega)⟩
   rw [ha]
   dsimp only
   by_cases c2:a3≤pw
   ·rw [if_pos c2]
    exact wpS_pure (q p' L' st' h' r')
   ·rw [if_neg c2]
    refine wpS_bind (Zi S hc h' (by rw [h'.d,List.size_toArray];omega) fun p2 L2 st2 h2 _ kp=>?_)
    rw [if_neg (by decide)]
    exact wpS_pure ⟨p2,L2,rfl,h2,r'.same fun i hi=>kp _ (by omega) (by omega)⟩
  ·rw [if_neg c1]
   exact wpS_pure (q p' L' st' h' r')
 ·rintro c st' ⟨p',L',rfl,h',r'⟩
  exact q p' L' st' h' r'
theorem Jp {st:SortSt} {p:Array Nat} {Q:Unit→SortSt→Prop} (S:SO lt N) (hc:xF prog w A s κ it lt N) (h:SAZ κ it N p st) (hd:pendingOf st=#[]) (hN:1≤N) (q:∀ p' st',SAZ κ it N p' st'→Ze lt p' N→Q () st'):wpS (model prog w) A E s sortRuns' Q st:=by
 have sz:=h.pp.size
 have size:(arrOf st).size=N:=by rw [h.a,Array.size_map,sz]
 refine wpS_bind (wpS_get ?_)
 have size':((sortPriv% PySem.Builtin.SortState.a) st).size=N:=size
 rw [size']
 refine wpS_bind (wpS_mono (wpS_forRange (fun x c st'=>∃ p L lo,c=(none,lo)∧SRZ κ it lt N lo p L st'∧x≤lo) (Q:=fun c st'=>∃ p L,c=(none,N)∧SRZ κ it lt N N p L st') ?step ?fin ⟨p,[],0,rfl,⟨h,hd,rfl,by omega⟩,Nat.le_refl _⟩) ?post)
 case fin =>
  rintro c st' ⟨p,L,lo,rfl,h,hx⟩
  have:=h.l
  obtain rfl:lo=N:=by omega
  exact ⟨p,L,rfl,h⟩
 case step =>
  rintro x c st' _ hx ⟨p,L,lo,rfl,h,hxl⟩
  dsimp only
  have hl:=h.l
  by_cases c1:lo ≥ N
  ·rw [if_pos c1]
   obtain rfl:lo=N:=by omega
   exact wpS_pure ⟨p,L,rfl,h⟩
  ·rw [if_neg c1]
   refine wpS_bind (WY S hc h.h (by omega) (by omega) fun m p' m1 m2 h' kp r=>?_)
   dsimp only
   have R:SRZ κ it lt N lo p' L (setArr st' (p'.map it)):=⟨h',h.d,h.r.same fun k h1 h2=>kp k h2,hl⟩
   have fin:∀ {n:Nat} {p3:Array Nat} {L3:List RnZ} {st3:SortSt},0 < n→lo + n≤N→SRZ κ it lt N lo p3 L3 st3→RiseSZ lt p3 lo n→∃ p L lo',((none,lo + n):Option Unit × Nat)=(none,lo')∧SRZ κ it lt N lo' p L (setPending st3 ((pendingOf st3).push (lo,n,0)))∧x + 1≤lo':=fun {n p3 L3 st3} n1 n2 h3 r3=>by
    refine ⟨p3,L3 ++ [(lo,n,0)],lo + n,rfl,⟨⟨h3.h.k,h3.h.f,h3.h.a,h3.h.pp⟩,?_,RunsZ.app.mpr ⟨lo,h3.r,rfl,n1,r3,rfl⟩,n2⟩,by omega⟩
    show (pendingOf st3).push (lo,n,0)=_
    rw [h3.d];simp
   have hpw:∀ {pw:Nat} {p3:Array Nat} {L3:List RnZ} {st3:SortSt},SRZ κ it lt N lo p3 L3 st3→SRZ κ it lt N lo p3 (L3.modify (L3.length - 1) fun x=>(x.1,x.2.1,pw)) (setPending st3 ((pendingOf st3).modify ((pendingOf st3).size - 1) fun x=>(x.1,x.2.1,pw))):=fun {pw p3 L3 st3} h3=>by
    refine ⟨⟨h3.h.k,h3.h.f,h3.h.a,h3.h.pp⟩,?_,RunsZ.power _ h3.r,h3.l⟩
    have pe:∀ x,pendingOf (setPending st3 x)=x:=fun _=>rfl
    rw [pe,h3.d]
    simp
   generalize hmr:(sortPriv% PySem.Builtin.minRun) N N 0=mr
   by_cases c2:m < mr
   ·rw [if_pos c2]
    refine wpS_bind (wpS_lift (wpAny_rule ⟨rfl,?_⟩))
    refine wpS_bind (Ko S hc h' m1 (by omega) (by omega) r fun p2 h2 kp2 r2=>?_)
    rw [if_neg (by decide)]
    have R2:SRZ κ it lt N lo p2 L (setArr (setArr st' (p'.map it)) (p2.map it)):=⟨h2,h.d,R.r.same fun k h1 h2=>kp2 k h2,hl⟩
    refine wpS_bind (wpS_get ?_)
    generalize ebk:((sortPriv% PySem.Builtin.SortState.pending) (setArr (setArr st' (p'.map it)) (p2.map it))).back?=bk
    cases bk with
    | none =>
     refine wpS_bind (wpS_modify (wpS_pure ?_))
     exact fin (by omega) (by omega) R2 r2
    | some y =>
     obtain ⟨s1,u1,u⟩:=y
     refine wpS_bind (XX S hc R2 (by omega) r2 fun p3 L3 st3 h3 r3=>?_)
     refine wpS_bind (wpS_modify (wpS_bind (wpS_modify (wpS_pure ?_))))
     exact fin (by omega) (by omega) (hpw h3) r3
   ·rw [if_neg c2]
    refine wpS_bind (wpS_get ?_)
    generalize ebk:((sortPriv% PySem.Builtin.SortState.pending) (setArr st' (p'.map it))).back?=bk
    cases bk with
    | none =>
     refine wpS_bind (wpS_modify (wpS_pure ?_))
     exact fin (by omega) (by omega) R r
    | some y =>
     obtain ⟨s1,u1,u⟩:=y
     refine wpS_bind (XX S hc R (by omega) r fun p3 L3 st3 h3 r3=>?_)
     refine wpS_bind (wpS_modify (wpS_bind (wpS_modify (wpS_pure ?_))))
     exact fin (by omega) (by omega) (hpw h3) r3
 case post =>
  rintro c st' ⟨p,L,rfl,h⟩
  dsimp only
  refine wpS_bind (wpS_mono (wpS_forRange (fun x c st'=>∃ p L,c=(none,())∧SRZ κ it lt N N p L st'∧L.length + x≤N + 1) (Q:=fun c st'=>∃ p L,c=(none,())∧SRZ κ it lt N N p L st'∧L.length≤1) ?step2 ?fin2 ⟨p,L,rfl,h,by have:=h.r.len;omega⟩) ?post2)
  case fin2 =>
   rintro c st' ⟨p,L,rfl,h,hl⟩
   exact ⟨p,L,rfl,h,by omega⟩
  case step2 =>
   rintro x c st' _ hx ⟨p,L,rfl,h,hl⟩
   refine wpS_bind (wpS_get ?_)
   have ps:(pendingOf st').size=L.length:=by rw [h.d,List.size_toArray]
   have ps':((sortPriv% PySem.Builtin.SortState.pending) st').size=L.length:=ps
   rw [ps']
   by_cases c1:L.length≤1
   ·rw [if_pos c1]
    exact wpS_pure ⟨p,L,rfl,h,c1⟩
   ·rw [if_neg c1]
    refine wpS_bind (Zi S hc h ?_ fun p2 L2 st2 h2 l2 _=>?_)
    ·have hh:∀ b:Bool,(if b=true then L.length - 2 - 1 else L.length - 2) + 2≤L.length:=fun b=>by cases b <;> simp <;> omega
     exact hh _
    ·rw [if_neg (by decide)]
     exact wpS_pure ⟨p2,L2,rfl,h2,by omega⟩
  case post2 =>
   rintro c st' ⟨p,L,rfl,h,hl⟩
   refine wpS_pure (q p st' h.h ?_)
   have r:=h.r
   match L,r,hl with
   | [],r,_=>exact absurd (show (0:Nat)=N from r) (by omega)
   | [x],⟨x1,x2,x3,x4⟩,_ =>
    have x4:0 + x.2.1=N:=x4
    intro i j hij hj
    have:=x3 i j hij (by omega)
    rwa [Nat.zero_add,Nat.zero_add] at this
end
end L2
namespace L2
open PySem PySem.W PyProof.Rows
def Kp (a:Addr) (h h':Heap):Prop:=∀ b o,b≠a→h.get? b=some o→h'.get? b=some o
def we (vs:List Value) (p:Array Nat):List Value:=p.toList.map fun i=>vs.getD i Value.none
theorem XY (vs:List Value):we vs (List.toArray (List.range vs.length))=vs:=by
 unfold we
 apply List.ext_getElem?
 intro i
 simp only [List.getElem?_map]
 by_cases h:i < vs.length
 ·rw [List.getElem?_eq_getElem (l:=vs) h]
  simp [List.getElem?_range h,h]
 ·rw [List.getElem?_eq_none (by omega:vs.length≤i)]
  simp
  omega
section
variable {P:Program} {w:World} {A:Around} {E:Value→Shared→Prop} {s:Shared}
theorem QM {vs:List Value} {κ:SortKind} {lt:Nat→Nat→Bool} {Q:SortSt→Shared→Prop} (h1:1≤vs.length) (S:SO lt vs.length) (hc:∀ i j C,i < vs.length→j < vs.length→i≠j→C (lt i j) s→kas_ask P w A κ vs i j C s)
  (q:∀ p st,arrOf st=p.map (kas_item (vs.toArray.zip vs.toArray))→failedOf st=none→PP vs.length p→Ze lt p vs.length→Q st s):wpAny (model P w) A ((sortRuns').run (SortSt.mk' κ (vs.toArray.zip vs.toArray) #[] 7 none)) (fun r s'=>Q r.2 s') E s:=by
 have e:=kas_range (vs.toArray.zip vs.toArray)
 rw [show (vs.toArray.zip vs.toArray).size=vs.length by simp] at e
 have hA:SAZ κ (kas_item (vs.toArray.zip vs.toArray)) vs.length (List.toArray (List.range vs.length)) (SortSt.mk' κ (vs.toArray.zip vs.toArray) #[] 7 none):=⟨rfl,rfl,e.symm,Array.Perm.refl _⟩
 have C:xF P w A s κ (kas_item (vs.toArray.zip vs.toArray)) lt vs.length:=fun i j C hi hj hij h=>by
  have:=hc i j C hi hj hij h
  rw [kat_ask_eq (vs:=vs) rfl] at this
  exact this
 exact wpAny_mono (Jp (E:=E) S C hA rfl h1 (Q:=fun _ st=>Q st s) fun p st h r=>q p st h.a h.f h.pp r) (fun r s' h=>by obtain ⟨rfl,h⟩:=h;exact h) fun _ _ e=>e
end
section
variable {P:Program} {w:World} {A:Around} {E:Value→Shared→Prop} {s:Shared}
theorem Zj {a:Addr} {vs:List Value} {n:Nat} {κ:SortKind} {lt:Nat→Nat→Bool} {R:PySem.Fin→Shared→Prop} (ho:s.heap.get? a=some (seqObj "list" vs.toArray n)) (h64:vs.length < 1000)
  (hk:2≤vs.length→∀ (h:Heap) (Q:SortKind→Shared→Prop),Kp a s.heap h→Q κ { s with heap:=h }→wpAny (model P w) A (keyKind' vs.toArray) Q (fun _ _=>False) { s with heap:=h })
  (hc:∀ (h:Heap) i j C,Kp a s.heap h→i < vs.length→j < vs.length→i≠j→C (lt i j) { s with heap:=h }→kas_ask P w A κ vs i j C { s with heap:=h }) (S:SO lt vs.length)
  (fin:∀ h p c,Kp a s.heap h→h.get? a=some (seqObj "list" (we vs p).toArray c)→PP vs.length p→Ze lt p vs.length→R (.done (.ret .none)) { s with heap:=h }) :
  wpAny (model P w) A (Builtin.«list.sort» ⟨[.ref a],[]⟩) R E s:=by
 have ha:a < s.heap.objs.size:=Heap.lt_size ho
 obtain ⟨e1,o1⟩:∃ e1,(s.heap.update a (Obj.mapSeq fun _=>(#[]:Array Value))).get? a=some (seqObj "list" #[] e1):=⟨_,get?_update_seq ho fun _=>#[]⟩
 have k1:Kp a s.heap (((s.heap.update a (Obj.mapSeq fun _=>(#[]:Array Value))).push (seqObj "tuple" vs.toArray 0)).push (seqObj "list" #[] 0)):=fun b o hb e =>
  Heap.get?_push_of_some _ (Heap.get?_push_of_some _ ((Heap.get?_update_other _ _ (Ne.symm hb)).trans e))
 have o3:(((s.heap.update a (Obj.mapSeq fun _=>(#[]:Array Value))).push (seqObj "tuple" vs.toArray 0)).push (seqObj "list" #[] 0)).get? a=some (seqObj "list" #[] e1):=Heap.get?_push_of_some _ (Heap.get?_push_of_some _ o1)
 have last:∀ out:List Value,out.length=vs.length→∃ c,((((s.heap.update a (Obj.mapSeq fun _=>(#[]:Array Value))).push (seqObj "tuple" vs.toArray 0)).push (seqObj "list" #[] 0)).update a (Obj.mapSeq fun _=>out.toArray)).get? a=some (seqObj "list" out.toArray c):=fun out _=>⟨_,get?_update_seq o3 fun _=>out.toArray⟩
 have keep2:∀ out:List Value,Kp a s.heap ((((s.heap.update a (Obj.mapSeq fun _=>(#[]:Array Value))).push (seqObj "tuple" vs.toArray 0)).push (seqObj "list" #[] 0)).update a (Obj.mapSeq fun _=>out.toArray)):=fun out b o hb e =>
  (Heap.get?_update_other _ _ (Ne.symm hb)).trans (k1 b o hb e)
 rw [list_sort_plain];refine wpAny_bind (listItems_at ho rfl ?_)
 refine wpAny_bind (listUpdate_at ho rfl ?_ (by rw [List.size_toArray,sizeLine_eq];omega) (Nat.zero_le _));refine wpAny_bind (seqEpoch_at o1 rfl ?_)
 refine wpAny_bind (wpAny_newTuple ?_ (by show vs.length≤_;rw [sizeLine_eq];omega));refine wpAny_bind (wpAny_newList ?_ (Nat.zero_le _));refine wpAny_holding ?_
 show wpAny (model P w) A _ R E { s with heap:=((s.heap.update a (Obj.mapSeq fun _=>(#[]:Array Value))).push (seqObj "tuple" vs.toArray 0)).push (seqObj "list" #[] 0) }
 generalize hH:((s.heap.update a (Obj.mapSeq fun _=>(#[]:Array Value))).push (seqObj "tuple" vs.toArray 0)).push (seqObj "list" #[] 0)=g at *
 dsimp only
 have up:∀ out:List Value,out.length=vs.length→∀ p,out=we vs p→PP vs.length p→Ze lt p vs.length→R (.done (.ret .none)) { s with heap:=g.update a (Obj.mapSeq fun _=>out.toArray) }:=fun out hl p e hp hr=>by
  obtain ⟨c,hcc⟩:=last out hl
  refine fin _ p c (keep2 out) ?_ hp hr
  rw [← e];exact hcc
 by_cases h2:vs.toArray.size < 2
 ·have hl2:vs.length < 2:=by simpa using h2
  rw [if_pos h2,if_pos h2];refine wpAny_bind (wpAny_pure ?_);rw [StateT.run_pure];refine wpAny_bind (wpAny_pure ?_)
  dsimp only
  have ez:((vs.toArray.zip vs.toArray).map (·.2))=vs.toArray:=by
   apply Array.toList_inj.mp
   rw [Array.toList_map,Array.toList_zip]
   simp [List.map_snd_zip]
  refine wpAny_bind (seqEpoch_at o3 rfl ?_)
  rw [show (arrOf (SortSt.mk' general' (vs.toArray.zip vs.toArray) #[] 7 none))=vs.toArray.zip vs.toArray from rfl,ez]
  refine wpAny_bind (listUpdate_at o3 rfl ?_ (Nat.zero_le _) (by rw [List.size_toArray,sizeLine_eq];omega))
  simp only [bne_self_eq_false,Bool.false_eq_true,if_false]
  exact wpAny_pure (up vs rfl _ (XY vs).symm (Array.Perm.refl _) fun i j hij hj=>by omega)
 ·have hl2:2≤vs.length:=by simpa using h2
  rw [if_neg h2,if_neg h2];refine wpAny_bind (wpAny_mono (hk hl2 g (fun κ' s'=>κ'=κ∧s'={ s with heap:=g }) k1 ⟨rfl,rfl⟩) (fun κ' s' hs=>?_) fun _ _ x=>x.elim)
  obtain ⟨rfl,rfl⟩:=hs
  refine wpAny_bind (wpAny_mono (QM (s:={ s with heap:=g }) (vs:=vs) (κ:=κ') (lt:=lt) (Q:=fun st s'=>∃ p:Array Nat,arrOf st=p.map (kas_item (vs.toArray.zip vs.toArray))∧failedOf st=none∧s'={ s with heap:=g }∧PP vs.length p∧Ze lt p vs.length) (by omega) S (fun i j C hi hj hij hC=>hc g i j C k1 hi hj hij hC) fun p st a2 a3 a4 a5=>⟨p,a2,a3,rfl,a4,a5⟩) ?_ fun _ _ e=>e)
  rintro ⟨⟨⟩,st⟩ s' ⟨p,har,hf,rfl,hp,hr⟩
  dsimp only
  have out:=kat_snds (ks:=vs) rfl har
  have ol:(we vs p).length=vs.length:=by unfold we;rw [List.length_map,Array.length_toList,hp.size]
  rw [out];refine wpAny_bind (seqEpoch_at o3 rfl ?_)
  refine wpAny_bind (listUpdate_at o3 rfl ?_ (Nat.zero_le _) (by show (List.toArray (we vs p)).size≤_;rw [List.size_toArray,ol,sizeLine_eq];omega));rw [hf]
  simp only [bne_self_eq_false,Bool.false_eq_true,if_false]
  exact wpAny_pure (up (we vs p) ol p rfl hp hr)
theorem qi {l:Addr} {vs:List Value} {κ:SortKind} {lt:Nat→Nat→Bool} {Q:Value→Shared→Prop} (h64:vs.length < 1000) (S:SO lt vs.length)
  (coll:∀ R:List Value→Shared→Prop,(∀ (h:Heap) (tk:Nat),(∀ b o,s.heap.get? b=some o→h.get? b=some o)→R vs { s with heap:=h,toks:=tk })→wpAny (model P w) A.in1 (collect (.ref l)) R E s)
  (hk:2≤vs.length→∀ (h:Heap) (tk:Nat) (Q:SortKind→Shared→Prop),(∀ b o,s.heap.get? b=some o→h.get? b=some o)→Q κ { s with heap:=h,toks:=tk }→wpAny (model P w) A.in1.in1 (keyKind' vs.toArray) Q (fun _ _=>False) { s with heap:=h,toks:=tk })
  (hc:∀ (h:Heap) (tk:Nat) i j C,(∀ b o,s.heap.get? b=some o→h.get? b=some o)→i < vs.length→j < vs.length→i≠j→C (lt i j) { s with heap:=h,toks:=tk }→kas_ask P w A.in1.in1 κ vs i j C { s with heap:=h,toks:=tk })
  (fin:∀ (h:Heap) (tk:Nat) (h':Heap) (p:Array Nat) (c:Nat),(∀ b o,s.heap.get? b=some o→h.get? b=some o)→(∀ b o,h.get? b=some o→h'.get? b=some o)→h'.get? h.objs.size=some (seqObj "list" (we vs p).toArray c)→PP vs.length p→Ze lt p vs.length→Q (.ref h.objs.size) { s with heap:=h',toks:=tk }) :
  wpAny (model P w) A (call (.builtin "sorted") [.ref l]) Q E s:=by
 refine Calls.call_function_entry kind_sorted plain_sorted entry_sorted (args_sorted1 _) ?_;unfold Builtin.«sorted»
 refine wpAny_bind (m:=checkCount "sorted" 1 1 _) (wpAny_pure ?_);refine wpAny_bind (coll _ fun h tk hk1=>?_)
 refine wpAny_bind (wpAny_newList ?_ (by rw [sizeLine_eq];omega))
 have hoL:(h.push (seqObj "list" vs.toArray 0)).get? h.objs.size=some (seqObj "list" vs.toArray 0):=Heap.get?_push_size _ rfl
 have kept:∀ h',Kp h.objs.size (h.push (seqObj "list" vs.toArray 0)) h'→∀ b o,h.get? b=some o→h'.get? b=some o:=fun h' k b o e=>k b o (Nat.ne_of_lt (Heap.lt_size e)) (Heap.get?_push_of_some _ e)
 refine wpAny_bind (wpAny_holding (wpAny_call_entry slot_list_sort ⟨_,hoL,rfl⟩ entry_list_sort (Zj (s:={ s with heap:=h.push (seqObj "list" vs.toArray 0),toks:=tk }) hoL h64 (κ:=κ) (lt:=lt) (fun h2 h' Q' k q=>?_) (fun h' i j C k hi hj hij q=>?_) S fun h' p c k ho hp hr=>?_) (args_list_sort _)))
 ·exact hk h2 h' tk Q' (fun b o e=>kept h' k b o (hk1 b o e)) q
 ·exact hc h' tk i j C (fun b o e=>kept h' k b o (hk1 b o e)) hi hj hij q
 ·exact ⟨_,rfl,wpAny_pure ⟨_,rfl,fin h tk h' p c hk1 (kept h' k) ho hp hr⟩⟩
end
end L2
namespace L2
open PySem PySem.W PyProof.Rows
def zT (a b:Str × Int):Bool:=if a.1=b.1 then decide (a.2 < b.2) else decide (a.1.cps.toList < b.1.cps.toList)
def PlAt (h:Heap) (v:Value) (q:Str × Int):Prop:=∃ a o t u n,v=.ref a∧h.get? a=some o∧o.cls=.type "tuple"∧o.data=.seq #[.str q.1 t,.int q.2 u] n
section
variable {P:Program} {w:World} {A:Around} {E:Value→Shared→Prop} {s:Shared}
theorem QN {a c:Str} {t u:Tok} {Q:Bool→Shared→Prop} (h:Q (decide (a.cps.toList < c.cps.toList)) s):wpAny (model P w) A (oneLt' true (.str a t) (.str c u)) Q E s:=by
 rw [← keyLt'_oneType]
 exact kas_lt_str h
theorem QO {a c:Int} {t u:Tok} {Q:Bool→Shared→Prop} (h:Q (decide (a < c)) s):wpAny (model P w) A (oneLt' false (.int a t) (.int c u)) Q E s :=
 kat_one _ _ (PyProof.Rows.lt_int (show PySem.W.BoolBack Q (.bool (decide (a < c))) s from h))
theorem Jq {x y:Value} {a b:Str × Int} {Q:Bool→Shared→Prop} (hx:PlAt s.heap x a) (hy:PlAt s.heap y b) (h:Q (zT a b) s) (hn:a≠b):wpAny (model P w) A (keyLt' (tuples' true) x y) Q E s:=by
 obtain ⟨p,o,t,u,n,rfl,ho,hc,hd⟩:=hx
 obtain ⟨p2,o2,t2,u2,n2,rfl,ho2,hc2,hd2⟩:=hy
 refine kat_lt ho hd ho2 hd2 (kat_cons (wpAny_eqBool_str (kat_go (fun e=>kat_yes (kat_cons (wpAny_eqBool_int (kat_go (fun e2=>?_) fun e2=>kat_no ?_)))) fun e=>kat_no ?_)))
 ·exact absurd (Prod.ext (of_decide_eq_true e) (by simpa using e2)) hn
 ·have e:=of_decide_eq_true e
  unfold zT at h
  rw [if_pos e] at h
  exact QO h
 ·have e:=of_decide_eq_false e
  unfold zT at h
  rw [if_neg e] at h
  exact QN h
theorem WZ {vs:List Value} {qs:List (Str × Int)} {Q:SortKind→Shared→Prop} (hl:vs.length=qs.length) (hv:∀ (i:Nat) (v:Value) (q:Str × Int),vs[i]?=some v→qs[i]?=some q→PlAt s.heap v q) (h2:0 < vs.length) (h:Q (tuples' true) s) :
  wpAny (model P w) A (keyKind' vs.toArray) Q E s:=by
 have T:∀ (vs:List Value) (qs:List (Str × Int)),vs.length=qs.length→(∀ (i:Nat) (v:Value) (q:Str × Int),vs[i]?=some v→qs[i]?=some q→PlAt s.heap v q)→∃ fs,KatTups s.heap vs fs∧fs.length=vs.length∧∀ v∈fs,∃ x t,v=Value.str x t:=by
  intro vs
  induction vs with
  | nil=>exact fun qs _ _=>⟨[],trivial,rfl,fun _ z=>nomatch z⟩
  | cons v r ih =>
   intro qs hl hv
   match qs,hl with
   | q :: qr,hl =>
    obtain ⟨fs,k,kl,kf⟩:=ih qr (by simpa using hl) fun i v' q' e1 e2=>hv (i + 1) v' q' (by simpa using e1) (by simpa using e2)
    obtain ⟨a,o,t,u,n,rfl,ho,hc,hd⟩:=hv 0 v q rfl rfl
    refine ⟨.str q.1 t :: fs,KatTups.cons ho hc hd rfl k,by simp [kl],fun z hz=>?_⟩
    rcases List.mem_cons.mp hz with rfl | hz
    ·exact ⟨_,_,rfl⟩
    ·exact kf z hz
 obtain ⟨fs,k,kl,kf⟩:=T vs qs hl hv
 refine kat_kind (T:=.type "str") k (by omega) (fun v hv=>?_) (by decide) h
 obtain ⟨x,t,rfl⟩:=kf v hv
 exact Looks.of_pure rfl
end
theorem XZ {x y:Str} (h:x.cps.toList=y.cps.toList):x=y:=by
 obtain ⟨a⟩:=x
 obtain ⟨b⟩:=y
 have:a=b:=Array.toList_inj.mp h
 rw [this]
theorem jT {qs:List (Str × Int)} (hn:qs.Nodup):SO (fun i j=>zT (qs.getD i ("",0)) (qs.getD j ("",0))) qs.length where
 irr:=fun i _=>by
  unfold zT
  rw [if_pos rfl]
  exact decide_eq_false (by omega)
 trans:=fun i j k _ _ _ h1 h2=>by
  generalize qs.getD i ("",0)=a at *
  generalize qs.getD j ("",0)=b at *
  generalize qs.getD k ("",0)=c at *
  unfold zT at *
  by_cases e1:a.1=b.1
  ·rw [if_pos e1] at h1
   by_cases e2:b.1=c.1
   ·rw [if_pos e2] at h2
    rw [if_pos (e1.trans e2)]
    have h1:=of_decide_eq_true h1
    have h2:=of_decide_eq_true h2
    exact decide_eq_true (by omega)
   ·rw [if_neg e2] at h2
    rw [if_neg (by rw [e1];exact e2),e1]
    exact h2
  ·rw [if_neg e1] at h1
   have h1:=of_decide_eq_true h1
   by_cases e2:b.1=c.1
   ·rw [if_neg (by rw [← e2];exact e1),← e2]
    exact decide_eq_true h1
   ·rw [if_neg e2] at h2
    have h2:=of_decide_eq_true h2
    have h3:=List.lt_trans h1 h2
    rw [if_neg (fun z=>by rw [z] at h3;exact List.lt_irrefl _ h3)]
    exact decide_eq_true h3
 tot:=fun i j hi hj hij h=>by
  have ne:qs.getD i ("",0)≠qs.getD j ("",0):=fun z=>hij (by
   rw [List.getD_eq_getElem?_getD,List.getD_eq_getElem?_getD,List.getElem?_eq_getElem hi,List.getElem?_eq_getElem hj] at z
   exact (List.getElem_inj hn).mp z)
  generalize qs.getD i ("",0)=a at *
  generalize qs.getD j ("",0)=b at *
  unfold zT at *
  by_cases e:a.1=b.1
  ·rw [if_pos e] at h
   rw [if_pos e.symm]
   have h:=of_decide_eq_false h
   have:a.2≠b.2:=fun z=>ne (Prod.ext e z)
   exact decide_eq_true (by omega)
  ·rw [if_neg e] at h
   rw [if_neg (fun z=>e z.symm)]
   have h:=of_decide_eq_false h
   refine decide_eq_true ?_
   rcases List.le_iff_lt_or_eq.mp (List.not_lt.mp h) with z | z
   ·exact z
   ·exact absurd (XZ z.symm) e
end L2
namespace L2
open PySem
def RawD (h:Heap) (d:Addr) (es:Array DictEntry) (ep:Nat):Prop:=∃ o,h.get? d=some o∧o.ExactDict∧o.data=.dict es ep
section
variable {P:Program} {w:World} {A:Around} {E:Value→Shared→Prop} {s:Shared}
theorem RawD.type {d:Addr} {es:Array DictEntry} {ep:Nat} (x:RawD s.heap d es ep):s.TypeIs (.ref d) "dict":=let ⟨o,ho,hc,_⟩:=x;⟨o,ho,hc.1⟩
theorem RawD.at {h h':Heap} {d:Addr} {es:Array DictEntry} {ep:Nat} (x:RawD h d es ep) (e:∀ o,h.get? d=some o→h'.get? d=some o):RawD h' d es ep:=let ⟨o,ho,r⟩:=x;⟨o,e _ ho,r⟩
theorem Kr {d:Addr} {es:Array DictEntry} {ep:Nat} {Q:Value→Shared→Prop} (lo:(d == sysModules)=false) (hm:RawD s.heap d es ep)
  (q:Q (.ref s.heap.objs.size) { s with heap:=s.heap.push { cls:=.type "dict_keyiterator",data:=.fields #[.ref d,.int 0 0,.int es.size 0,.int ep 0] } }):wpAny (model P w) A (pyIter (.ref d)) Q E s:=by
 have T:=hm.type
 obtain ⟨o,ho,hc,hd⟩:=id hm
 refine wpAny_pyIter_slot T F.slot_dict_iter (wpAny_call_entry F.slot_dict_iter T F.entry_dict_iter ?_ (F.args_dict_iter_1 _));unfold Builtin.«dict.__iter__»
 refine wpAny_bind ?_;unfold Builtin.Dict.dictSlotNone;refine wpAny_bind (wpAny_notOrdered_dict T ?_)
 show wpAny _ _ (pure (Value.ref d)) _ _ s;refine wpAny_pure ?_
 show wpAny _ _ (Builtin.Dict.showsAll d >>= _) _ _ s;unfold Builtin.Dict.showsAll
 rw [if_neg (by rw [lo];exact Bool.false_ne_true)];refine wpAny_bind (wpAny_pure ?_)
 refine wpAny_bind (wpAny_dictEntries ho hd ?_);refine wpAny_bind (wpAny_dictEpoch ho hd ?_)
 refine wpAny_bind (wpAny_newObj_type (wpAny_pure ⟨_,rfl,"dict_keyiterator",_,⟨_,Heap.get?_push_size _ rfl,rfl⟩,F.slot_dict_keyiterator_next.lookup,?_⟩));simpa [rawInt] using q
theorem Ks {it d:Addr} {i ep:Nat} {es:Array DictEntry} {e:DictEntry} {Q:Option Value→Shared→Prop} (hit:s.heap.IsKeyIter it d i es.size ep) (hm:RawD s.heap d es ep) (hx:es[i]?=some e)
  (q:∀ h,h.IsKeyIter it d (i + 1) es.size ep→Heap.SameBut it s.heap h→Q (some e.key) { s with heap:=h }):wpAny (model P w) A (pyNext (.ref it)) Q E s:=by
 obtain ⟨o,ho,hc,hd⟩:=id hit
 obtain ⟨od,hod,hcd,hdd⟩:=id hm
 have lt:i < es.size:=by
  rcases Nat.lt_or_ge i es.size with h | h
  ·exact h
  ·rw [Array.getElem?_eq_none h] at hx;cases hx
 unfold pyNext
 refine wpAny_bind (wpAny_attempt (wpAny_callSpecial?_slot (name:=Str.ofString "__next__") hit.typeIs F.slot_dict_keyiterator_next (wpAny_call_entry F.slot_dict_keyiterator_next hit.typeIs F.entry_dict_keyiterator_next ?_ (F.args_dict_keyiterator_next_1 _))))
 refine wpAny_bind (wpAny_pure ?_);refine wpAny_bind ?_;refine wpAny_bind ?_
 first | (refine wpAny_bind (wpAny_typeNameOfWhole_keyiter hit.typeIs (wpAny_pure ?_))) | (refine wpAny_bind (wpAny_typeNameOf_keyiter hit.typeIs (wpAny_pure ?_)))
 refine wpAny_bind (wpAny_fieldsOf ho hd ?_);have own:Builtin.Dict_items.ownsTuple "dict_keyiterator"=false:=by decide
 simp only [own,Bool.false_eq_true,if_false];show wpAny _ _ (if (Value.ref d == Value.none)=true then _ else _) _ _ s
 rw [if_neg (show ¬ ((Value.ref d == Value.none)=true) from Bool.false_ne_true)];refine wpAny_bind (wpAny_pure ?_);refine wpAny_bind (wpAny_dictEntries hod hdd ?_)
 rw [if_neg (by simp)];refine wpAny_bind (wpAny_pure ?_);refine wpAny_bind (wpAny_dictEpoch hod hdd ?_);rw [if_neg (by simp)];refine wpAny_pure ?_
 simp only [show ¬ ((i:Int) < 0) from by omega,if_false,Int.toNat_natCast,hx]
 refine wpAny_bind ?_
 first | (refine wpAny_bind (wpAny_typeNameOfWhole_keyiter hit.typeIs (wpAny_pure ?_))) | (refine wpAny_bind (wpAny_typeNameOf_keyiter hit.typeIs (wpAny_pure ?_)))
 refine wpAny_bind (wpAny_isOneOf_keyiter hit.typeIs ?_);show wpAny _ _ (setField (.ref it) 1 (rawInt ((i:Int) + 1)) >>= _) _ _ s
 refine wpAny_bind (wpAny_setField ho hd (by simp) ?_)
 have next:(s.heap.update it (Obj.mapFields (·.setIfInBounds 1 (rawInt ((i:Int) + 1))))).IsKeyIter it d (i + 1) es.size ep:=by
  refine ⟨_,Heap.get?_update_self _ ho (Obj.isFreed_of_fields (Obj.data_mapFields hd _)),(Obj.cls_mapFields ..).trans hc,?_⟩;rw [Obj.data_mapFields hd];simp [rawInt]
 refine wpAny_bind (wpAny_holding ?_)
 refine wpAny_bind (wpAny_isOneOf_keyiter (s:={ s with heap:=s.heap.update it (Obj.mapFields (·.setIfInBounds 1 (rawInt ((i:Int) + 1)))) }) next.typeIs ?_);show wpAny _ _ (pure e.key) _ _ _
 exact wpAny_pure (wpAny_pure ⟨_,rfl,wpAny_pure (q _ next (Heap.SameBut.update ..))⟩)
theorem QP {it d:Addr} {i ep:Nat} {es:Array DictEntry} {Q:Option Value→Shared→Prop} (hh:A.handled=none) (hit:s.heap.IsKeyIter it d i es.size ep) (hm:RawD s.heap d es ep) (hx:es.size≤i)
  (q:∀ h,Heap.ExtBut it s.heap h→Q none { s with heap:=h }):wpAny (model P w) A (pyNext (.ref it)) Q E s:=by
 obtain ⟨o,ho,hc,hd⟩:=id hit
 obtain ⟨od,hod,hcd,hdd⟩:=id hm
 unfold pyNext
 refine wpAny_bind (wpAny_attempt (wpAny_callSpecial?_slot (name:=Str.ofString "__next__") hit.typeIs F.slot_dict_keyiterator_next (wpAny_call_entry F.slot_dict_keyiterator_next hit.typeIs F.entry_dict_keyiterator_next ?_ (F.args_dict_keyiterator_next_1 _))))
 refine wpAny_bind (wpAny_pure ?_);refine wpAny_bind ?_;refine wpAny_bind ?_
 first | (refine wpAny_bind (wpAny_typeNameOfWhole_keyiter hit.typeIs (wpAny_pure ?_))) | (refine wpAny_bind (wpAny_typeNameOf_keyiter hit.typeIs (wpAny_pure ?_)))
 refine wpAny_bind (wpAny_fieldsOf ho hd ?_);have own:Builtin.Dict_items.ownsTuple "dict_keyiterator"=false:=by decide
 simp only [own,Bool.false_eq_true,if_false];show wpAny _ _ (if (Value.ref d == Value.none)=true then _ else _) _ _ s
 rw [if_neg (show ¬ ((Value.ref d == Value.none)=true) from Bool.false_ne_true)];refine wpAny_bind (wpAny_pure ?_);refine wpAny_bind (wpAny_dictEntries hod hdd ?_)
 rw [if_neg (by simp)];refine wpAny_bind (wpAny_pure ?_);refine wpAny_bind (wpAny_dictEpoch hod hdd ?_);rw [if_neg (by simp)];refine wpAny_pure ?_
 simp only [show ¬ ((i:Int) < 0) from by omega,if_false,Int.toNat_natCast,Array.getElem?_eq_none hx]
 refine wpAny_bind ?_
 first | (refine wpAny_bind (wpAny_typeNameOfWhole_keyiter hit.typeIs (wpAny_pure ?_))) | (refine wpAny_bind (wpAny_typeNameOf_keyiter hit.typeIs (wpAny_pure ?_)))
 show wpAny _ _ (setField (.ref it) 0 .none >>= _) _ _ s;refine wpAny_bind (wpAny_setField ho hd (by simp) ?_)
 show wpAny _ _ (newExc (.type "StopIteration") [] >>= _) _ _ _;refine wpAny_bind ?_;simp only [newExc,newTuple]
 refine wpAny_bind (wpAny_newObj_type ?_ (by size_fits));refine wpAny_bind (m:=firstArgMember _ _) (wpAny_of_eq (a:=Value.none) (by first | rfl | (simp only [firstArgMember];rfl)) ?_)
 refine wpAny_newObj_type ?_ (by size_fits);simp only [raiseNew]
 refine wpAny_bind (wpAny_handled ?_);rw [show A.in1.handled=none from hh];refine wpAny_bind (wpAny_pure (wpAny_throw ?_))
 exact wpAny_bind (wpAny_isInstance (T:="StopIteration") (b:=true) ⟨_,Heap.get?_push_size _ rfl,rfl⟩ isSubtype_stop (wpAny_pure (q _ (((Heap.SameBut.update ..).extBut.push _).push _))))
theorem Jr (hh:A.handled=none) (I d:Addr) (hne:d≠I) (es:Array DictEntry) (ep:Nat) :
  Walks P w A I [I,d] [I] es.size (fun i v=>∃ e,es[i]?=some e∧v=e.key) (fun i h=>h.IsKeyIter I d i es.size ep∧RawD h d es ep) where
 sub:=fun b hb=>by simp at hb;simp [hb]
 frame:=fun _ _ _ st hk=>⟨st.1.at fun o e=>hk I (by simp) o e,st.2.at fun o e=>hk d (by simp) o e⟩
 item:=fun i s Q E hi st hQ=>by
  refine Ks st.1 st.2 (Array.getElem?_eq_getElem hi) fun h' hit' hs'=>?_
  exact hQ _ h' s.toks ⟨_,Array.getElem?_eq_getElem hi,rfl⟩ ⟨hit',st.2.at fun o e=>hs'.extBut d o hne e⟩ fun b o hb e=>hs'.extBut b o (fun h=>hb (by simp [h])) e
 done:=fun s Q E st hQ=>QP hh st.1 st.2 (Nat.le_refl _) fun h' he'=>hQ h' s.toks fun b o hb e=>he' b o (fun h=>hb (by simp [h])) e
 self:=fun _ _ _ _ st hQ=>wpAny_pyIter_keyiter st.1 hQ
end
end L2
namespace L2
open PySem PySem.Spec PyProof.Rows
section
open PySem.SeqAt
open PySem.AutoSeq1 (wpAny_loadPart')
open PySem.MeetsSeq PySem.MeetsSeq2 PySem.MeetsSeq3
theorem Zk (l b:Addr) (x y:Str) (i j:Int) (t u t2 u2:Tok) (n n2:Nat) (dd dd2:Option Addr) (sl sl2:Array (Option Value)) :
  Meets (Builtin.«tuple.__lt__» ⟨[.ref l,.ref b],[]⟩) (fun _ R s=>s.heap.get? l=some { cls:=.type "tuple",dict:=dd,data:=.seq #[.str x t,.int i u] n,slots:=sl } ∧
   s.heap.get? b=some { cls:=.type "tuple",dict:=dd2,data:=.seq #[.str y t2,.int j u2] n2,slots:=sl2 }∧R (.ok (.ret (.bool (zT (x,i) (y,j))))) s) :=
 .of_wp fun prog w A R s h=>by
  obtain ⟨hp,g,d,tk,os⟩:=s;obtain ⟨hl,hb,h⟩:=h
  have f2:=AutoSeq1.sub_tuple_tuple
  have lt1:∀ (E:Value→Shared→Prop) (Q:Value→Shared→Prop) (s:Shared),Q (.bool (decide (x.cps.toList < y.cps.toList))) s→wpAny (model prog w) A.in1 (richCompare .Lt (.str x t) (.str y t2)) Q E s:=fun E Q s q=>(PyProof.Rows.lt_str q:wpAny (model prog w) A.in1 (compareOp .Lt (.str x t) (.str y t2)) Q E s)
  have lt2:=HT.rcLt_int A.in1 ⟨hp,g,d,tk,os⟩ i u j u2 prog w
  by_cases e:x=y
  ·subst e
   have eq1:=SeqAt.EqAt.str_str (A:=A.in1) (s:=⟨hp,g,d,tk,os⟩) x t x t2 prog w
   rw [beq_self_eq_true] at eq1
   unfold zT at h
   rw [if_pos rfl] at h
   by_cases e2:i=j
   ·subst e2
    have eq2:=SeqAt.EqAt.int_int (A:=A.in1) (s:=⟨hp,g,d,tk,os⟩) i u i u2 prog w
    rw [beq_self_eq_true] at eq2
    wp_walk using wpAny_loadPart' hl,wpAny_loadPart' hb,eq1,eq2
    exact ⟨_,rfl,by simpa [Builtin.Tuple.tupleCompareSizes] using h⟩
   ·have eq2:=SeqAt.EqAt.int_int (A:=A.in1) (s:=⟨hp,g,d,tk,os⟩) i u j u2 prog w
    rw [show (i == j)=false from by simpa using e2] at eq2
    wp_walk using wpAny_loadPart' hl,wpAny_loadPart' hb,eq1,eq2,lt2
    exact ⟨_,rfl,by simpa using h⟩
  ·have eq1:=SeqAt.EqAt.str_str (A:=A.in1) (s:=⟨hp,g,d,tk,os⟩) x t y t2 prog w
   rw [show (x == y)=false from by simpa using e] at eq1
   unfold zT at h
   rw [if_neg e] at h
   wp_walk using wpAny_loadPart' hl,wpAny_loadPart' hb,eq1,lt1
   exact ⟨_,rfl,by simpa using h⟩
end
end L2
namespace L2
open PySem PySem.Spec PyProof.Rows
section
variable {P:Program} {w:World} {A:Around} {E:Value→Shared→Prop} {s:Shared}
theorem RawD.lt {h:Heap} {d:Addr} {es:Array DictEntry} {ep:Nat} (x:RawD h d es ep):d < h.objs.size:=let ⟨_,ho,_⟩:=x;Heap.lt_size ho
theorem QQ {d:Addr} {es:Array DictEntry} {ep:Nat} (lo:(d == sysModules)=false):PySem.W.KdlSrc P w "dict" d d es.size (fun i v=>∃ e,es[i]?=some e∧v=e.key) (fun h=>RawD h d es ep) where
 type:=fun _ hm=>hm.type
 there:=fun _ hm=>⟨hm.lt,hm.lt⟩
 keep:=fun _ _ hm hk=>hm.at fun o e=>hk d (.inl rfl) o e
 notList:=by decide
 notTuple:=by decide
 hint:=fun _ _ _ _ hm hq=>PySem.W.kdl_hint_dict hm.type hq
 iter:=fun _ _ hh hm=>⟨_,_,(fun _ _ hq=>Kr lo hm hq),Jr hh _ d (Nat.ne_of_lt hm.lt) es ep,⟨⟨_,Heap.get?_push_size _ rfl,rfl,rfl⟩,hm.at fun o e=>Heap.get?_push_of_some _ e⟩⟩
theorem X0 {T:String} {r d:Addr} {n:Nat} {G:Nat→Value→Prop} {OK:Heap→Prop} {R:List Value→Shared→Prop} (K:PySem.W.KdlSrc P w T r d n G OK) (hh:A.handled=none) (hok:OK s.heap) (hn:n≤sizeLine)
  (h:∀ (h':Heap) (tk:Nat) (vs:List Value),(∀ b o,s.heap.get? b=some o→h'.get? b=some o)→vs.length=n→(∀ j v,vs[j]?=some v→G j v)→R vs { s with heap:=h',toks:=tk }) :
  wpAny (model P w) A (collect (.ref r)) R E s:=by
 obtain ⟨lr,ld⟩:=K.there _ hok
 unfold collect
 refine wpAny_bind (wpAny_runValue (codeAny_builtin entry_proto_collect' ?_));rw [Around.under_plainId PySem.F.plain_proto_collect _]
 show wpAny _ A.in1 (newList [] >>= fun l=>again (.builtin "list.__iadd__" ⟨[l,.ref r],[]⟩)) _ _ s;refine wpAny_bind (wpAny_newObj_type ?_)
 refine wpAny_pure ⟨plainId_quiet PySem.F.plain_list_iadd _,codeAny_builtin entry_list_iadd' ?_⟩;rw [Around.under_plainId PySem.F.plain_list_iadd _]
 have hS:(s.heap.push { cls:=.type "list",data:=.seq ([]:List Value).toArray }).get? s.heap.objs.size=some { cls:=.type "list",data:=.seq #[] }:=Heap.get?_push_size _ rfl
 show wpAny _ A.in1 (Builtin.List.listExtendWith (.ref s.heap.objs.size) (.ref r) (.ref s.heap.objs.size)) _ _ _
 have key:=PySem.W.kdl_extend (A:=A) (s:={ s with heap:=s.heap.push { cls:=.type "list",data:=.seq ([]:List Value).toArray } }) (R:=fun (q:Result) (s':Shared)=>∃ (h':Heap) (tk:Nat) (acc:Array Value) (c:Nat),q=.ok (.ret (.ref s.heap.objs.size))∧s'={ s with heap:=h',toks:=tk } ∧
   (∀ b o,s.heap.get? b=some o→h'.get? b=some o)∧h'.get? s.heap.objs.size=some { cls:=.type "list",dict:=none,data:=.seq acc c,slots:=#[] }∧ItemsOf G acc n) K hh (K.keep _ _ hok fun b _ o e=>Heap.get?_push_of_some _ e) s.heap.objs.size (Nat.ne_of_gt lr) (Nat.ne_of_gt ld) (.ref s.heap.objs.size) 0 hS
  (fun h' tk acc c hk hS' hacc=>⟨h',tk,acc,c,rfl,rfl,fun b o e=>hk b o (Nat.ne_of_lt (Heap.lt_size e)) (Heap.get?_push_of_some _ e),hS',hacc⟩) hn
 refine wpAny_mono key (fun fin s' x=>?_) fun e s' x=>?_
 ·cases fin with
  | done f =>
   obtain ⟨h',tk,acc,c,e,rfl,hk,hS',hacc⟩:=x
   cases e
   show wpAny _ A (load s.heap.objs.size >>= _) _ _ _;refine wpAny_bind (wpAny_load hS' ?_)
   exact wpAny_pure (h h' tk acc.toList hk (by rw [Array.length_toList];exact hacc.1) fun j v e=>hacc.2 j v (by rw [← Array.getElem?_toList];exact e))
  | again c =>
   refine ⟨x.1,codeAny_mono x.2 fun q s' x=>?_⟩
   obtain ⟨h',tk,acc,c,rfl,rfl,hk,hS',hacc⟩:=x
   show wpAny _ A (load s.heap.objs.size >>= _) _ _ _;refine wpAny_bind (wpAny_load hS' ?_)
   exact wpAny_pure (h h' tk acc.toList hk (by rw [Array.length_toList];exact hacc.1) fun j v e=>hacc.2 j v (by rw [← Array.getElem?_toList];exact e))
 ·obtain ⟨h',tk,acc,c,e',_⟩:=x
  cases e'
end
end L2
namespace L2
open PySem PySem.Spec PyProof.Rows
def zI (q:Str × Int):List Key:=[.inr q.1,.inl q.2]
abbrev VP:RC:=fun xs H Q=>∃ (a:Addr) (kvs:List (List Key × V)) (qs:List (Str × Int)),xs=[.ref a]∧H a=some (.dT kvs)∧kvs.map (·.1)=qs.map zI∧kvs.length < 1000 ∧
 ∀ (l:Addr) (ps:List (Addr × (Str × Int))),H l=none→(ps.map (·.2)).Perm qs→(ps.map (·.2)).Pairwise (fun a b=>zT a b=true)→(∀ n∈ps,H n.1=some (.tup [.str n.2.1,.int n.2.2]))→Q (.ref l) (upd H l (.lst (ps.map fun n=>V.ref n.1)))
theorem yv {α β:Type} {F:α→β→Prop}:∀ {l₁:List α} {l₂:List β},Paired F l₁ l₂→∀ {i:Nat} {a:α} {b:β},l₁[i]?=some a→l₂[i]?=some b→F a b
 | _,_,.nil,i,a,b,h,_=>by simp at h
 | _,_,.cons x r,0,a,b,h1,h2=>by
  simp only [List.getElem?_cons_zero,Option.some.injEq] at h1 h2
  subst h1 h2
  exact x
 | _,_,.cons x r,i + 1,a,b,h1,h2=>yv r (by simpa using h1) (by simpa using h2)
theorem PlAt.keep {h h':Heap} {v:Value} {q:Str × Int} (x:PlAt h v q) (k:∀ b o,h.get? b=some o→h'.get? b=some o):PlAt h' v q:=by
 obtain ⟨a,o,t,u,n,e,ho,r⟩:=x
 exact ⟨a,o,t,u,n,e,k _ _ ho,r⟩
section
variable {X:Cx}
theorem X1 {pins:List (Addr × Obj)} {σ:St} {H:Hp} {s:Shared} {a:Addr} {q:Str × Int} (I:Inv X pins σ H s) (h:H a=some (.tup [.str q.1,.int q.2])):PlAt s.heap (.ref a) q:=by
 obtain ⟨its,rv,⟨o,ho,hc,n,hd⟩,_⟩:=I.tuple (SqT.of h)
 cases rv with
 | cons r1 rr =>
  cases rr with
  | cons r2 rn =>
   cases rn
   obtain ⟨t,rfl⟩:=r1
   obtain ⟨u,rfl⟩:=r2
   exact ⟨a,o,t,u,n,rfl,ho,hc,hd⟩
theorem xc {α β:Type} {f:α→β}:∀ {l:List α},(l.map f).Nodup→l.Nodup
 | [],_=>List.nodup_nil
 | a :: r,h=>by
  rw [List.map_cons,List.nodup_cons] at h
  exact List.nodup_cons.mpr ⟨fun z=>h.1 (List.mem_map_of_mem z),xc h.2⟩
theorem Y9 (hc:X.calm=true):vp X (.builtin "sorted") VP:=by
 intro pins s σ H xs us Q I r h
 obtain ⟨a,kvs,qs,rfl,ha,hk,h64,q⟩:=h
 obtain ⟨u,rfl,ru⟩:=kc r
 cases ru
 obtain ⟨hz,lo,xs,rel,o,es,ep,ho,hx,hd,he,hn⟩:=(show ObjOk X.prog X.w H s.heap a (.dT kvs) from I.hok a _ ha)
 have hh:X.A.handled=none:=I.ok.hd hc
 have lk:kvs.length=qs.length:=by have:=congrArg List.length hk;simpa using this
 have lx:kvs.length=xs.length:=Paired.length rel
 have les:es.size=xs.length:=by rw [← Array.length_toList,he,List.length_map]
 -- the keys in their order
 have key:∀ (i:Nat) (x:List Key × Addr × Value),xs[i]?=some x→∃ q,qs[i]?=some q∧x.1=zI q∧H x.2.1=some (.tup [.str q.1,.int q.2]):=fun i x hx=>by
  have hi:=(List.getElem?_eq_some_iff.mp hx).1
  obtain ⟨kv,hkv⟩:∃ kv,kvs[i]?=some kv:=⟨_,List.getElem?_eq_getElem (by omega)⟩
  obtain ⟨q,hq⟩:∃ q,qs[i]?=some q:=⟨_,List.getElem?_eq_getElem (by omega)⟩
  have rl:=yv rel hkv hx
  have e1:kv.1=zI q:=by
   have e1:(kvs.map (·.1))[i]?=some kv.1:=by rw [List.getElem?_map,hkv];rfl
   have e2:(qs.map zI)[i]?=some (zI q):=by rw [List.getElem?_map,hq];rfl
   rw [hk,e2] at e1
   exact (Option.some.inj e1).symm
  refine ⟨q,hq,by rw [← rl.1,e1],?_⟩
  have:=rl.2.1
  rw [e1] at this
  exact this
 have nq:qs.Nodup:=by
  refine xc (f:=zI) ?_
  have e:xs.map (·.1)=qs.map zI:=by
   rw [← hk]
   apply List.ext_getElem?
   intro i
   rw [List.getElem?_map,List.getElem?_map]
   cases hx:xs[i]? with
   | none =>
    have:xs.length≤i:=by simpa using hx
    rw [List.getElem?_eq_none (by omega:kvs.length≤i)]
    rfl
   | some x =>
    have hi:=(List.getElem?_eq_some_iff.mp hx).1
    have hkv:kvs[i]?=some kvs[i]:=List.getElem?_eq_getElem (by omega)
    rw [hkv]
    have:=(yv rel hkv hx).1
    simp [this]
  rw [← e];exact hn
 have vv:∀ (i:Nat) (v:Value) (q:Str × Int),(xs.map fun x=>Value.ref x.2.1)[i]?=some v→qs[i]?=some q→PlAt s.heap v q:=fun i v q hv hq=>by
  rw [List.getElem?_map] at hv
  obtain ⟨x,hx,rfl⟩:=Option.map_eq_some_iff.mp hv
  obtain ⟨q',hq',_,hH⟩:=key i x hx
  rw [hq] at hq'
  cases hq'
  exact X1 I hH
 have lv:(xs.map fun x=>Value.ref x.2.1).length=qs.length:=by rw [List.length_map];omega
 have vat:∀ i,i < qs.length→PlAt s.heap ((xs.map fun x=>Value.ref x.2.1).getD i Value.none) (qs.getD i ("",0)):=fun i hi=>by
  refine vv i _ _ ?_ ?_
  ·rw [List.getD_eq_getElem?_getD,List.getElem?_eq_getElem (by rw [lv];exact hi)];rfl
  ·rw [List.getD_eq_getElem?_getD,List.getElem?_eq_getElem hi];rfl
 have S:=jT nq
 rw [← lv] at S
 refine qi (vs:=xs.map fun x=>Value.ref x.2.1) (κ:=tuples' true) (by rw [List.length_map];omega) S (fun R hR=>?_) (fun h2 h tk Q' kp q'=>?_) (fun h tk i j C kp hi hj hij q'=>?_) fun h tk h' p c k1 k2 hD hp hr=>?_
 ·refine X0 (QQ (ep:=ep) (es:=es) lo) hh ⟨o,ho,hx,hd⟩ (by rw [les];omega) fun h' tk vs kp hl hG=>?_
  have ev:vs=xs.map fun x=>Value.ref x.2.1:=by
   apply List.ext_getElem?
   intro i
   by_cases hi:i < vs.length
   ·obtain ⟨e,hes,ek⟩:=hG i vs[i] (List.getElem?_eq_getElem hi)
    have e2:es.toList[i]?=some e:=by rw [Array.getElem?_toList];exact hes
    rw [he,List.getElem?_map] at e2
    obtain ⟨x,hxx,ex⟩:=Option.map_eq_some_iff.mp e2
    rw [List.getElem?_eq_getElem hi,ek,List.getElem?_map,hxx,← ex]
    rfl
   ·rw [List.getElem?_eq_none (by omega),List.getElem?_eq_none (by rw [List.length_map];omega)]
  rw [ev]
  exact hR h' tk kp
 ·exact WZ (s:={ s with heap:=h,toks:=tk }) lv (fun i v q hv hq=>(vv i v q hv hq).keep kp) (by omega) q'
 ·rw [lv] at hi hj
  refine Jq (s:={ s with heap:=h,toks:=tk }) ((vat i hi).keep kp) ((vat j hj).keep kp) q' fun z=>hij ?_
  rw [List.getD_eq_getElem?_getD,List.getD_eq_getElem?_getD,List.getElem?_eq_getElem hi,List.getElem?_eq_getElem hj] at z
  exact (List.getElem_inj nq).mp z
 ·have I1:Inv X pins σ H { s with heap:=h,toks:=tk }:=I.kept k1
  have ps:∃ ps:List (Addr × (Str × Int)),ps.map (fun n=>Value.ref n.1)=we (xs.map fun x=>Value.ref x.2.1) p∧ps.map (·.2)=p.toList.map (fun i=>qs.getD i ("",0))∧∀ n∈ps,H n.1=some (.tup [.str n.2.1,.int n.2.2]):=by
   have pl:∀ i∈p.toList,i < xs.length:=fun i hi=>by
    have:i∈p:=by simpa using hi
    have:=(Array.Perm.mem_iff hp).mp this
    rw [List.length_map] at this
    simpa using this
   refine ⟨p.toList.map fun i=>((xs.getD i ([],0,.none)).2.1,qs.getD i ("",0)),?_,by rw [List.map_map];rfl,fun n hn=>?_⟩
   ·unfold we
    rw [List.map_map]
    refine List.map_congr_left fun i hi=>?_
    have:=pl i hi
    simp [List.getD_eq_getElem?_getD,List.getElem?_map,List.getElem?_eq_getElem this]
   ·obtain ⟨i,hi,rfl⟩:=List.mem_map.mp hn
    have hl:=pl i hi
    obtain ⟨q,hq,_,hH⟩:=key i xs[i] (List.getElem?_eq_getElem hl)
    have e1:xs.getD i ([],0,.none)=xs[i]:=by rw [List.getD_eq_getElem?_getD,List.getElem?_eq_getElem hl];rfl
    have e2:qs.getD i ("",0)=q:=by rw [List.getD_eq_getElem?_getD,hq];rfl
    show H (xs.getD i ([],0,.none)).2.1=some (.tup [.str (qs.getD i ("",0)).1,.int (qs.getD i ("",0)).2])
    rw [e1,e2]
    exact hH
  obtain ⟨ps,e1,e2,hps⟩:=ps
  have vr:Vals (ps.map fun n=>V.ref n.1) (ps.map fun n=>Value.ref n.1):=by
   clear e1 e2 hps
   induction ps with
   | nil=>exact .nil
   | cons n r ih=>exact .cons rfl ih
  have psz:p.size=xs.length:=by have:=hp.size;rw [List.length_map] at this;exact this
  have pln:ps.length=xs.length:=by have:=congrArg List.length e1;unfold we at this;simpa [psz] using this
  have I2:Inv X pins σ (upd H h.objs.size (.lst (ps.map fun n=>V.ref n.1))) { s with heap:=h',toks:=tk }:=I1.laid (s:={ s with heap:=h,toks:=tk }) (a:=h.objs.size) (o:=.lst (ps.map fun n=>V.ref n.1)) (t':=tk) k2 (Nat.le_refl _)
   ⟨by rw [List.length_map];omega,ps.map fun n=>Value.ref n.1,c,vr,by rw [e1];exact hD⟩
  refine ⟨.ref h.objs.size,_,I2,rfl,q _ ps (I1.hok.fresh (Nat.le_refl _)) ?_ ?_ hps⟩
  ·rw [e2]
   have pr:p.toList.Perm (List.range qs.length):=by
    have:=Array.perm_iff_toList_perm.mp hp
    rw [lv] at this
    simpa using this
   refine (pr.map _).trans ?_
   have:(List.range qs.length).map (fun i=>qs.getD i ("",0))=qs:=by
    apply List.ext_getElem?
    intro i
    rw [List.getElem?_map]
    by_cases hi:i < qs.length
    ·rw [List.getElem?_range hi,List.getElem?_eq_getElem hi]
     simp [List.getD_eq_getElem?_getD,List.getElem?_eq_getElem hi]
    ·rw [List.getElem?_eq_none (by simpa using hi),List.getElem?_eq_none (by omega)]
     rfl
   rw [this]
  ·rw [e2,List.pairwise_map,List.pairwise_iff_getElem]
   intro i j hi hj hij
   rw [Array.length_toList] at hi hj
   have g1:=x9 hi
   have g2:=x9 hj
   have r:=hr i j hij (by rw [List.length_map];omega)
   have x1:p.toList[i]=gt p i:=by
    rw [Array.getElem?_eq_getElem hi] at g1
    simpa using g1
   have x2:p.toList[j]=gt p j:=by
    rw [Array.getElem?_eq_getElem hj] at g2
    simpa using g2
   rw [x1,x2]
   exact r
end
end L2
namespace L2
open PySem PySem.Spec PyProof.Rows
def Itd (a:Addr) (o:Obj) (kvs:List (List Key × V)):It :=
 ⟨fun i H=>H a=some (.frz o (.dT kvs))∧i < kvs.length,fun i H x H'=>H'=H∧∃ k v p,kvs[i]?=some (k,v)∧x=.ref p∧H p=some (.tup (k.map kV)),fun i H=>H a=some (.frz o (.dT kvs))∧kvs.length≤i⟩
section
variable {X:Cx}
def iDT (tl:TE):TI:=fun σ H R=>tl σ H fun x H1=>∃ a o kvs,x=.ref a∧H1 a=some (.frz o (.dT kvs))∧R (Itd a o kvs) H1
def Kt:HO→Prop
 | .tup _=>False
 | .own _=>False
 | .tbl _=>False
 | _=>True
theorem Inv.relab {pins:List (Addr × Obj)} {σ:St} {H:Hp} {s:Shared} {a:Addr} {u u':HO} (I:Inv X pins σ H s) (ha:H a=some u) (hp:Kt u) (hf:∀ o z,X.H₀ a≠some (.frz o z)) (ho:ObjOk X.prog X.w (upd H a u') s.heap a u'):Inv X pins σ (upd H a u') s:=by
 have nn:∀ b,H b=none→b≠a:=fun b n z=>by subst z;rw [n] at ha;cases ha
 have ntup:∀ b xs,H b=some (.tup xs)→b≠a:=fun b xs q z=>by subst z;rw [ha] at q;cases q;exact hp
 have nown:∀ b y,H b=some (.own y)→b≠a:=fun b y q z=>by subst z;rw [ha] at q;cases q;exact hp
 have ntbl:∀ b y,H b=some (.tbl y)→b≠a:=fun b y q z=>by subst z;rw [ha] at q;cases q;exact hp
 refine ⟨I.ok,I.os,I.bare,⟨I.base.keep,I.base.slot,fun b o q n hb=>?_,I.base.there,fun b xs q=>?_,fun b o z q=>?_,fun b ps q=>?_⟩,I.loc,I.cell,?_,fun x c e=>?_,fun p hp=>?_,fun b v q=>?_,I.len⟩
 ·have:=I.base.free b o q n hb
  rw [zl (nn b this)];exact this
 ·have:=I.base.tups b xs q
  rw [zl (ntup b xs this)];exact this
 ·have:=I.base.frzs b o z q
  rw [zl (fun e=>hf o z (by rw [← e];exact q))];exact this
 ·obtain ⟨m,e⟩:=I.base.tbls b ps q
  exact ⟨m,by rw [zl (ntbl b _ e)];exact e⟩
 ·rw [zl (nn _ I.free)];exact I.free
 ·have:=I.freeC x c e
  rw [zl (nn _ this)];exact this
 ·obtain ⟨h1,h2,h3⟩:=I.pin p hp
  exact ⟨h1,by rw [zl (nn _ h2)];exact h2,h3⟩
 ·by_cases hb:b=a
  ·subst hb
   rw [zf] at q;cases q;exact ho
  ·rw [zl hb] at q
   exact (I.hok b v q).stay (fun _ _ _ r=>r) (fun c r=>by rw [zl (nown c b r)];exact r) fun c xs r=>by rw [zl (ntup c xs r)];exact r
def zbw (t:TS):TS:=fun D σ H=>∃ a u0 kvs,H a=some u0∧(u0=.dT kvs∨∃ o,u0=.frz o (.dT kvs))∧∀ o,t
 ⟨fun σ' H'=>H' a=some (.frz o (.dT kvs))∧D.nx σ' (upd H' a u0),fun v H'=>H' a=some (.frz o (.dT kvs))∧D.rt v (upd H' a u0),fun σ' H'=>H' a=some (.frz o (.dT kvs))∧D.bk σ' (upd H' a u0),fun σ' H'=>H' a=some (.frz o (.dT kvs))∧D.ct σ' (upd H' a u0)⟩ σ (upd H a (.frz o (.dT kvs)))
theorem ObjOk.upd_dT {P:Program} {w:World} {H:Hp} {h:Heap} {a:Addr} {kvs:List (List Key × V)} {u u':HO} (ha:H a=some u) (hp:Kt u) (x:ObjOk P w H h a (.dT kvs)):ObjOk P w (upd H a u') h a (.dT kvs):=by
 refine x.stay (fun _ _ _ r=>r) (fun c r=>?_) fun c xs r=>?_
 ·rw [zl fun z=>by subst z;rw [ha] at r;cases r;exact hp];exact r
 ·rw [zl fun z=>by subst z;rw [ha] at r;cases r;exact hp];exact r
theorem zaM {st:Stmt} {t:TS} (hst:PS X st t):PS X st (zbw t):=by
 rintro pins s σ H D I ⟨a,u0,kvs,ha,hu,h⟩
 have pl:Kt u0:=by rcases hu with rfl | ⟨o,rfl⟩ <;> trivial
 -- the object as it stands
 have ob:∃ o,s.heap.get? a=some o∧(u0=.dT kvs∨u0=.frz o (.dT kvs)):=by
  rcases hu with rfl | ⟨o,rfl⟩
  ·obtain ⟨hz,lo,xs,rel,o,es,ep,ho,_⟩:=(show ObjOk X.prog X.w H s.heap a (.dT kvs) from I.hok a _ ha)
   exact ⟨o,ho,.inl rfl⟩
  ·exact ⟨o,(show ObjOk X.prog X.w H s.heap a (.frz o (.dT kvs)) from I.hok a _ ha).1,.inr rfl⟩
 obtain ⟨o,ho,hu⟩:=ob
 have I1:Inv X pins σ (upd H a (.frz o (.dT kvs))) s:=by
  rcases hu with rfl | rfl
  ·refine I.relab ha trivial (fun o' z q=>?_) ⟨ho,ObjOk.upd_dT ha trivial (I.hok a _ ha)⟩
   have:=I.base.frzs a o' z q
   rw [ha] at this;cases this
  ·have e:upd H a (.frz o (.dT kvs))=H:=by
    funext b;unfold upd;split
    ·next z=>rw [z];exact ha.symm
    ·rfl
   rw [e];exact I
 have back:∀ {σ':St} {H':Hp} {s':Shared},Inv X pins σ' H' s'→H' a=some (.frz o (.dT kvs))→Inv X pins σ' (upd H' a u0) s':=fun {σ' H' s'} I' ha'=>by
  rcases hu with rfl | rfl
  ·refine I'.relab ha' trivial (fun o' z q=>?_) (ObjOk.upd_dT ha' trivial (show ObjOk X.prog X.w H' s'.heap a (.frz o (.dT kvs)) from I'.hok a _ ha').2)
   have:=I.base.frzs a o' z q
   rw [ha] at this;cases this
  ·have e:upd H' a (.frz o (.dT kvs))=H':=by
    funext b;unfold upd;split
    ·next z=>rw [z];exact ha'.symm
    ·rfl
   rw [e];exact I'
 refine thn (hst pins s σ _ _ I1 (h o)) fun f s' q=>?_
 cases f with
 | next=>obtain ⟨σ',H',I',ha',q⟩:=q;exact ⟨σ',_,back I' ha',q⟩
 | brk=>obtain ⟨σ',H',I',ha',q⟩:=q;exact ⟨σ',_,back I' ha',q⟩
 | cont=>obtain ⟨σ',H',I',ha',q⟩:=q;exact ⟨σ',_,back I' ha',q⟩
 | ret v=>obtain ⟨x,σ',H',I',r,ha',q⟩:=q;exact ⟨x,σ',_,back I' ha',r,q⟩
end
section
variable {σ:St} {H:Hp} {nx:St→Hp→Prop} {B:V→St→Hp→(St→Hp→Prop)→Prop}
end
end L2
namespace L2
open PySem PySem.Spec PyProof.Rows
mutual
inductive Dat (K:PySem.W.Frag) (H:Hp):V→PyData→Prop
 | non:Dat K H .non .none
 | bl (b:Bool):Dat K H (.bl b) (.bool b)
 | int (i:Int):Dat K H (.int i) (.int i)
 | str (x:Str):Dat K H (.str x) (.str x)
 | lst {a:Addr} {xs:List V} {ds:List PyData}:SqL K H a xs→DatAll K H xs ds→Dat K H (.ref a) (.list ds)
 | tup {a:Addr} {xs:List V} {ds:List PyData}:SqT K H a xs→DatAll K H xs ds→Dat K H (.ref a) (.tuple ds)
inductive DatAll (K:PySem.W.Frag) (H:Hp):List V→List PyData→Prop
 | nil:DatAll K H [] []
 | cons {x:V} {d:PyData} {xs:List V} {ds:List PyData}:Dat K H x d→DatAll K H xs ds→DatAll K H (x :: xs) (d :: ds)
end
section
variable {X:Cx} {pins:List (Addr × Obj)} {σ:St} {H:Hp} {s:Shared}
mutual
theorem Dat.reads (I:Inv X pins σ H s):∀ {x:V} {d:PyData} {u:Value},Dat X.K H x d→RelV x u→∃ as,Reads s.heap u d as
 | _,_,_,.non,r=>by cases r;exact ⟨_,.none⟩
 | _,_,_,.bl b,r=>by cases r;exact ⟨_,.bool b⟩
 | _,_,_,.int i,r=>by obtain ⟨t,rfl⟩:=r;exact ⟨_,.int i t⟩
 | _,_,_,.str x,r=>by obtain ⟨t,rfl⟩:=r;exact ⟨_,.str x t⟩
 | _,_,_,.lst hq ha,r=>by
  cases r
  obtain ⟨its,rv,⟨o,n,e,c,_,d⟩,_⟩:=I.list hq
  obtain ⟨as,ra⟩:=DatAll.reads I ha rv
  exact ⟨_,.list e c d (by simpa using ra)⟩
 | _,_,_,.tup hq ha,r=>by
  cases r
  obtain ⟨its,rv,⟨o,e,c,n,d⟩,_⟩:=I.tuple hq
  obtain ⟨as,ra⟩:=DatAll.reads I ha rv
  exact ⟨_,.tuple e c d (by simpa using ra)⟩
theorem DatAll.reads (I:Inv X pins σ H s):∀ {xs:List V} {ds:List PyData} {us:List Value},DatAll X.K H xs ds→Vals xs us→∃ as,ReadsAll s.heap us ds as
 | _,_,_,.nil,r=>by cases r;exact ⟨_,.nil⟩
 | _,_,_,.cons hx ht,r=>by
  cases r with
  | cons r1 rr =>
   obtain ⟨as,ra⟩:=Dat.reads I hx r1
   obtain ⟨bs,rb⟩:=DatAll.reads I ht rr
   exact ⟨_,.cons ra rb⟩
end
end
section
variable {K:PySem.W.Frag} {H H':Hp}
theorem SqL.mono {a:Addr} {xs:List V} (k:Same H H') (h:SqL K H a xs):SqL K H' a xs:=by
 rcases h with (h | ⟨o,h⟩) | h
 ·exact .inl (.inl (k _ _ h))
 ·exact .inl (.inr ⟨o,k _ _ h⟩)
 ·exact .inr h
theorem DatAll.of {α:Type} {f:α→V} {g:α→PyData}:∀ {l:List α},(∀ a∈l,Dat K H (f a) (g a))→DatAll K H (l.map f) (l.map g)
 | [],_=>.nil
 | a :: r,h=>.cons (h a List.mem_cons_self) (DatAll.of fun b hb=>h b (List.mem_cons_of_mem _ hb))
end
section
variable {X:Cx} {pins:List (Addr × Obj)} {σ:St} {H:Hp} {s:Shared}
end
mutual
def zB:PyData→Bool
 | .none=>true
 | .int _=>true
 | .str x=>PyData.strOk x
 | .list xs=>zR xs
 | .tuple xs=>zR xs
 | .bool _=>false
 | .dict _=>false
def zR:List PyData→Bool
 | []=>true
 | x :: xs=>zB x && zR xs
end
mutual
theorem Yz:∀ {d:PyData},zB d=true→d.canLay0=true
 | .none,_=>by simp [PyData.canLay0]
 | .int _,_=>by simp [PyData.canLay0]
 | .str x,h=>by simpa [PyData.canLay0,zB] using h
 | .list xs,h=>by rw [PyData.canLay0];exact jU (by simpa [zB] using h)
 | .tuple xs,h=>by rw [PyData.canLay0];exact jU (by simpa [zB] using h)
 | .bool _,h=>by simp [zB] at h
 | .dict _,h=>by simp [zB] at h
theorem jU:∀ {ds:List PyData},zR ds=true→PyData.canLayAll0 ds=true
 | [],_=>by simp [PyData.canLayAll0]
 | x :: xs,h=>by
  rw [zR,Bool.and_eq_true] at h
  rw [PyData.canLayAll0,Yz h.1,jU h.2];rfl
end
mutual
theorem kW:∀ {d e:PyData},zB d=true→zB e=true→(PyData.eqv d e=true↔d=e)
 | .list xs,.list ys,h,h'=>by
  rw [PyData.eqv,jV (by simpa [zB] using h) (by simpa [zB] using h'),PyData.list.injEq]
 | .tuple xs,.tuple ys,h,h'=>by
  rw [PyData.eqv,jV (by simpa [zB] using h) (by simpa [zB] using h'),PyData.tuple.injEq]
 | .bool _,_,h,_=>by simp [zB] at h
 | .dict _,_,h,_=>by simp [zB] at h
 | .none,.bool _,_,h=>by simp [zB] at h
 | .int _,.bool _,_,h=>by simp [zB] at h
 | .str _,.bool _,_,h=>by simp [zB] at h
 | .list _,.bool _,_,h=>by simp [zB] at h
 | .tuple _,.bool _,_,h=>by simp [zB] at h
 | .none,.dict _,_,h=>by simp [zB] at h
 | .int _,.dict _,_,h=>by simp [zB] at h
 | .str _,.dict _,_,h=>by simp [zB] at h
 | .list _,.dict _,_,h=>by simp [zB] at h
 | .tuple _,.dict _,_,h=>by simp [zB] at h
 | .none,.none,_,_ | .none,.int _,_,_ | .none,.str _,_,_ | .none,.list _,_,_ | .none,.tuple _,_,_=>by simp [PyData.eqv]
 | .int _,.none,_,_ | .int _,.int _,_,_ | .int _,.str _,_,_ | .int _,.list _,_,_ | .int _,.tuple _,_,_=>by simp [PyData.eqv]
 | .str _,.none,_,_ | .str _,.int _,_,_ | .str _,.str _,_,_ | .str _,.list _,_,_ | .str _,.tuple _,_,_=>by simp [PyData.eqv]
 | .list _,.none,_,_ | .list _,.int _,_,_ | .list _,.str _,_,_ | .list _,.tuple _,_,_=>by simp [PyData.eqv]
 | .tuple _,.none,_,_ | .tuple _,.int _,_,_ | .tuple _,.str _,_,_ | .tuple _,.list _,_,_=>by simp [PyData.eqv]
theorem jV:∀ {xs ys:List PyData},zR xs=true→zR ys=true→(PyData.eqvAll xs ys=true↔xs=ys)
 | [],[],_,_=>by simp [PyData.eqvAll]
 | [],_ :: _,_,_=>by simp [PyData.eqvAll]
 | _ :: _,[],_,_=>by simp [PyData.eqvAll]
 | x :: xs,y :: ys,h,h'=>by
  rw [zR,Bool.and_eq_true] at h h'
  rw [PyData.eqvAll,Bool.and_eq_true,kW h.1 h'.1,jV h.2 h'.2,List.cons.injEq]
end
abbrev kX (K:PySem.W.Frag) (neg:Bool):R2:=fun x y H Q=>∃ d e,Dat K H x d∧Dat K H y e∧(zB d=true∧zB e=true∧d.depth≤64∧e.depth≤64)∧∀ b:Bool,(b=true↔d=e)→Q (.bl (if neg then !b else b)) H
section
variable {X:Cx}
theorem ww {d:PyData} (h:zB d=true) (h':d.depth≤64):SeqAt.shaped d=true:=by
 unfold SeqAt.shaped
 rw [Yz h,decide_eq_true h'];rfl
theorem Ku (hu:X.A.units + 64 < cLine):OpR X (compareOp .Eq) (kX X.K false):=by
 intro pins s σ H x y v u Q I rx ry h
 obtain ⟨d,e,hd,he,⟨p1,p2,l1,l2⟩,q⟩:=h
 obtain ⟨as,ra⟩:=hd.reads I rx
 obtain ⟨bs,rb⟩:=he.reads I ry
 exact eq_dataH ra rb (ww p1 l1) (ww p2 l2) hu ⟨.bl _,H,I,rfl,q _ (kW p1 p2)⟩
theorem Zl (hu:X.A.units + 64 < cLine):OpR X (compareOp .NotEq) (kX X.K true):=by
 intro pins s σ H x y v u Q I rx ry h
 obtain ⟨d,e,hd,he,⟨p1,p2,l1,l2⟩,q⟩:=h
 obtain ⟨as,ra⟩:=hd.reads I rx
 obtain ⟨bs,rb⟩:=he.reads I ry
 exact ne_dataH ra rb (ww p1 l1) (ww p2 l2) hu ⟨.bl _,H,I,rfl,q _ (kW p1 p2)⟩
end
end L2
namespace L2
open PySem PySem.Spec PyProof.Rows
abbrev zcY:R2:=fun x y H Q=>∃ i j,x=.str i∧y=.str j∧Q (.bl (decide (j.cps.toList < i.cps.toList))) H
abbrev zcZ (neg:Bool):R2:=fun x y H Q=>∃ a o,y=.ref a∧DGet H a x o∧Q (.bl (if neg then !o.isSome else o.isSome)) H
section
variable {X:Cx}
end
end L2
namespace L2
open PySem
abbrev Pl:=Str × Int
abbrev Row:=Pl × Int
def zP:List Row→Pl→Option Int
 | [],_=>none
 | r :: t,p=>(zP t p).or (if r.1=p then some r.2 else none)
def Zm (kvs:List (List Key × V)) (q:Row):List (List Key × V):=yA kvs (zI q.1) (.int q.2)
def dOf (rows:List Row):List (List Key × V):=rows.foldl Zm []
theorem xw {p q:Pl} (h:zI p=zI q):p=q:=by
 unfold zI at h
 simp only [List.cons.injEq,Sum.inr.injEq,Sum.inl.injEq,and_true] at h
 exact Prod.ext h.1 h.2
theorem X2:∀ (rows:List Row) (kvs:List (List Key × V)) (p:Pl),yf (rows.foldl Zm kvs) (zI p)=((zP rows p).map V.int).or (yf kvs (zI p))
 | [],_,_=>rfl
 | r :: t,kvs,p=>by
  rw [List.foldl_cons,X2 t,zP]
  show _=_
  rw [Zm,qS]
  cases zP t p with
  | some w=>rfl
  | none =>
   by_cases e:r.1=p
   ·subst e;simp
   ·rw [if_neg (fun z=>e (xw z).symm)];simp [e]
theorem ky (rows:List Row) (p:Pl):yf (dOf rows) (zI p)=(zP rows p).map V.int:=by
 unfold dOf
 rw [X2,qR]
 cases zP rows p <;> rfl
theorem kz (rows:List Row) (q:Row):dOf (rows ++ [q])=yA (dOf rows) (zI q.1) (.int q.2):=by
 unfold dOf
 rw [List.foldl_append];rfl
def OkKv (kvs:List (List Key × V)):Prop:=(kvs.map (·.1)).Nodup∧∀ kv∈kvs,∃ (p:Pl) (w:Int),kv=(zI p,.int w)
theorem OkKv.put {kvs:List (List Key × V)} (h:OkKv kvs) (p:Pl) (w:Int):OkKv (yA kvs (zI p) (.int w)):=by
 cases e:yf kvs (zI p) with
 | none =>
  refine ⟨QA _ h.1 e,fun kv hk=>?_⟩
  rw [Xz _ e] at hk
  rcases List.mem_append.mp hk with hk | hk
  ·exact h.2 kv hk
  ·exact ⟨p,w,List.mem_singleton.mp hk⟩
 | some v =>
  have q:(kvs.any fun kv=>decide (kv.1=zI p))=true:=by rw [x5,e];rfl
  unfold yA
  rw [if_pos q]
  constructor
  ·rw [List.map_map]
   have:((fun x:List Key × V=>x.1) ∘ fun kv:List Key × V=>if kv.1=zI p then (kv.1,V.int w) else kv)=fun x=>x.1:=by
    funext kv
    show (if kv.1=zI p then (kv.1,V.int w) else kv).1=kv.1
    split <;> rfl
   rw [this];exact h.1
  ·intro kv hk
   obtain ⟨z,hz,rfl⟩:=List.mem_map.mp hk
   by_cases e:z.1=zI p
   ·exact ⟨p,w,by rw [if_pos e,e]⟩
   ·rw [if_neg e];exact h.2 z hz
theorem YA:∀ (rows:List Row) (kvs:List (List Key × V)),OkKv kvs→OkKv (rows.foldl Zm kvs)
 | [],_,h=>h
 | r :: t,kvs,h=>YA t _ (h.put r.1 r.2)
theorem wH (rows:List Row):OkKv (dOf rows):=YA rows [] ⟨List.nodup_nil,fun _ h=>nomatch h⟩
theorem QR (kvs:List (List Key × V)) (k:List Key) (v:V):(yA kvs k v).length≤kvs.length + 1:=by
 unfold yA
 split
 ·rw [List.length_map];omega
 ·rw [List.length_append];simp
theorem X3:∀ (rows:List Row) (kvs:List (List Key × V)),(rows.foldl Zm kvs).length≤kvs.length + rows.length
 | [],_=>by simp
 | r :: t,kvs=>by
  have:=X3 t (Zm kvs r)
  have:=QR kvs (zI r.1) (.int r.2)
  rw [List.foldl_cons,List.length_cons]
  unfold Zm at *
  omega
theorem wx (rows:List Row):(dOf rows).length≤rows.length:=by have:=X3 rows [];simpa [dOf] using this
theorem VQ {kvs:List (List Key × V)}:(kvs.map (·.1)).Nodup→∀ kv∈kvs,yf kvs kv.1=some kv.2:=by
 induction kvs with
 | nil=>exact fun _ kv h=>nomatch h
 | cons a r ih =>
  intro hn kv hk
  rw [List.map_cons,List.nodup_cons] at hn
  rcases List.mem_cons.mp hk with rfl | hk
  ·exact yJ rfl
  ·rw [yK fun z=>hn.1 (by rw [z];exact List.mem_map_of_mem hk)]
   exact ih hn.2 kv hk
theorem mem_dOf {rows:List Row} {kv:List Key × V}:kv∈dOf rows↔∃ p w,kv=(zI p,.int w)∧zP rows p=some w:=by
 constructor
 ·intro h
  obtain ⟨p,w,rfl⟩:=(wH rows).2 kv h
  have:=VQ (wH rows).1 _ h
  rw [ky] at this
  obtain ⟨w',e1,e2⟩:=Option.map_eq_some_iff.mp this
  cases e2
  exact ⟨p,w,rfl,e1⟩
 ·rintro ⟨p,w,rfl,h⟩
  have e:yf (dOf rows) (zI p)=some (.int w):=by rw [ky,h];rfl
  obtain ⟨kv,hk,e1⟩:=List.mem_map.mp (Qz e)
  have:=VQ (wH rows).1 _ hk
  rw [e1,e] at this
  have e2:kv=(zI p,V.int w):=Prod.ext e1 (Option.some.inj this).symm
  rw [← e2];exact hk
theorem w5 (a:Pl):zT a a=false:=by
 unfold zT
 rw [if_pos rfl]
 exact decide_eq_false (by omega)
theorem ZZ {a b c:Pl} (h1:zT a b=true) (h2:zT b c=true):zT a c=true:=by
 unfold zT at *
 by_cases e1:a.1=b.1
 ·rw [if_pos e1] at h1
  by_cases e2:b.1=c.1
  ·rw [if_pos e2] at h2
   rw [if_pos (e1.trans e2)]
   have h1:=of_decide_eq_true h1
   have h2:=of_decide_eq_true h2
   exact decide_eq_true (by omega)
  ·rw [if_neg e2] at h2
   rw [if_neg (by rw [e1];exact e2),e1]
   exact h2
 ·rw [if_neg e1] at h1
  have h1:=of_decide_eq_true h1
  by_cases e2:b.1=c.1
  ·rw [if_neg (by rw [← e2];exact e1),← e2]
   exact decide_eq_true h1
  ·rw [if_neg e2] at h2
   have h2:=of_decide_eq_true h2
   have h3:=List.lt_trans h1 h2
   rw [if_neg (fun z=>by rw [z] at h3;exact List.lt_irrefl _ h3)]
   exact decide_eq_true h3
def Rising (l:List Row):Prop:=l.Pairwise fun a b=>zT a.1 b.1=true
def wI (rows out:List Row):Prop:=Rising out∧∀ p w,(p,w)∈out↔zP rows p=some w∧w≠0
theorem Rising.nd {l:List Row} (h:Rising l):(l.map (·.1)).Nodup:=by
 unfold List.Nodup
 rw [List.pairwise_map]
 exact List.Pairwise.imp (fun {a b} h z=>by rw [z,w5] at h;cases h) h
theorem YB {p:Pl}:∀ {l:List Row},(∀ r∈l,r.1≠p)→zP l p=none
 | [],_=>rfl
 | r :: t,h=>by
  rw [zP,YB fun r hr=>h r (List.mem_cons_of_mem _ hr),if_neg (h r List.mem_cons_self)];rfl
theorem VR {p:Pl} {w:Int}:∀ {l:List Row},(l.map (·.1)).Nodup→(zP l p=some w↔(p,w)∈l)
 | [],_=>by simp [zP]
 | r :: t,hn=>by
  rw [List.map_cons,List.nodup_cons] at hn
  have ih:=VR (p:=p) (w:=w) hn.2
  by_cases e:r.1=p
  ·have z:zP t p=none:=YB fun q hq zz=>hn.1 (by rw [e,← zz];exact List.mem_map_of_mem hq)
   rw [zP,z,if_pos e]
   constructor
   ·intro h
    have:r.2=w:=by simpa using h
    rw [← e,← this];exact List.mem_cons_self
   ·intro h
    rcases List.mem_cons.mp h with h | h
    ·rw [← h];rfl
    ·exact absurd (List.mem_map_of_mem (f:=(·.1)) h) (by rw [← e];exact hn.1)
  ·rw [zP,if_neg e,Option.or_none,ih,List.mem_cons]
   constructor
   ·exact .inr
   ·rintro (h | h)
    ·exact absurd (by rw [← h]) e
    ·exact h
theorem Zn:∀ {a b:List Row},Rising a→Rising b→(∀ x,x∈a↔x∈b)→a=b
 | [],[],_,_,_=>rfl
 | [],y :: _,_,_,h=>absurd ((h y).mpr List.mem_cons_self) (by simp)
 | x :: _,[],_,_,h=>absurd ((h x).mp List.mem_cons_self) (by simp)
 | x :: a,y :: b,ha,hb,h=>by
  unfold Rising at ha hb
  rw [List.pairwise_cons] at ha hb
  have e:x=y:=by
   rcases List.mem_cons.mp ((h x).mp List.mem_cons_self) with e | e
   ·exact e
   ·rcases List.mem_cons.mp ((h y).mpr List.mem_cons_self) with e' | e'
    ·exact e'.symm
    ·have:=ZZ (ha.1 y e') (hb.1 x e)
     rw [w5] at this;cases this
  subst e
  have nx:x ∉ a:=fun z=>by have:=ha.1 x z;rw [w5] at this;cases this
  have ny:x ∉ b:=fun z=>by have:=hb.1 x z;rw [w5] at this;cases this
  rw [Zn ha.2 hb.2 fun z=>?_]
  constructor
  ·intro hz
   rcases List.mem_cons.mp ((h z).mp (List.mem_cons_of_mem _ hz)) with e | e
   ·subst e;exact absurd hz nx
   ·exact e
  ·intro hz
   rcases List.mem_cons.mp ((h z).mpr (List.mem_cons_of_mem _ hz)) with e | e
   ·subst e;exact absurd hz ny
   ·exact e
theorem Kv {rows a b:List Row} (ha:wI rows a) (hb:wI rows b):a=b :=
 Zn ha.1 hb.1 fun x=>(ha.2 x.1 x.2).trans (hb.2 x.1 x.2).symm
theorem kY {α:Type} [DecidableEq α]:∀ {a b:List α},a.Nodup→(∀ x∈a,x∈b)→a.length≤b.length
 | [],_,_,_=>Nat.zero_le _
 | x :: a,b,hn,h=>by
  rw [List.nodup_cons] at hn
  have hx:=h x List.mem_cons_self
  have:=kY (a:=a) (b:=b.erase x) hn.2 fun y hy=>(List.mem_erase_of_ne fun z=>hn.1 (by rw [← z];exact hy)).mpr (h y (List.mem_cons_of_mem _ hy))
  rw [List.length_erase_of_mem hx] at this
  have:0 < b.length:=List.length_pos_of_mem hx
  rw [List.length_cons];omega
end L2
namespace L2
open PySem PySem.Spec PyProof.Rows
def zbx (K:PySem.W.Frag) (p q:Addr) (xs ys:List V):It:=⟨fun i H=>i < xs.length∧SqL K H p xs∧SqL K H q ys,fun i H x H'=>∃ T u v,x=.ref T∧H T=none∧H'=upd H T (.tup [u,v])∧xs[i]?=some u∧ys[i]?=some v,fun i H=>xs.length≤i∧SqL K H p xs∧SqL K H q ys⟩
def zck (K:PySem.W.Frag) (ta:TA):TI:=fun σ H R=>ta σ H fun vs H1=>∃ p q xs ys,vs=[.ref p,.ref q]∧SqL K H1 p xs∧SqL K H1 q ys∧xs.length=ys.length∧R (zbx K p q xs ys) H1
section
variable {X:Cx}
end
section
variable {σ:St} {H:Hp} {nx:St→Hp→Prop} {B:V→St→Hp→(St→Hp→Prop)→Prop}
end
end L2
namespace L2
open PySem PySem.Spec PyProof.Rows
theorem jE:plainId "dict.update.loop"=true:=by decide +kernel
theorem YC:entryFor table "dict.update.loop"=some Builtin.«dict.update.loop»:=entryFor_of_fast (by kernel_rfl)
section
variable {X:Cx} {A:Around} {R:Result→Shared→Prop}
def vO (H:Hp) (v:V) (q:Row):Prop:=∃ r p,v=.ref r∧H r=some (.tup [.ref p,.int q.2])∧H p=some (.tup [.str q.1.1,.int q.1.2])
theorem Js {pins:List (Addr × Obj)} {σ:St} {H:Hp} {s:Shared} {d b:Addr} {kvs:List (List Key × V)} {k:List Key} {v:V} {u:Value} {E:Value→Shared→Prop} {Q:Unit→Shared→Prop} (hu:A.units + 1 < cLine) (I:Inv X pins σ H s) (e:H d=some (.dT kvs)) (eb:H b=some (.tup (k.map kV))) (l:kvs.length < sizeLine) (rv:RelV v u)
  (h:∀ h' tk,Inv X pins σ (upd H d (.dT (yA kvs k v))) { s with heap:=h',toks:=tk }→Heap.SameBut d s.heap h'→Q () { s with heap:=h',toks:=tk }):wpAny (model X.prog X.w) A.in1 (dictSet d (.ref b) u) Q E s:=by
 obtain ⟨z,hd,xs,rel,dd⟩:=zai I.hok e
 have hz:xs.length≤sizeLine:=by rw [← Paired.length rel];exact z
 have hl:(yA kvs k v).length≤sizeLine:=by have:=yT kvs k v;omega
 refine wpAny_dictSet_heap (hsz:=hz) (tupleKind_room_in1 hu) (qT I.hok eb) dd fun h' dd' hs=>h _ _ ?_ hs
 obtain ⟨q,es,ep,hq,h2,h3,h4,_,h5⟩:=dd'
 refine YW I (by rw [e];exact True.intro) hs ⟨q,hq⟩ ⟨hl,hd,_,(rel.put k eb rv).keeps fun c ys ec=>?_,q,es,ep,hq,h2,h3,h4,h5⟩
 rw [zl (yI ec e (fun z=>nomatch z))]
 exact ec
theorem Kw {pins:List (Addr × Obj)} {σ:St} {H:Hp} {d it l:Addr} {xs:List V} {rows:List Row} {res:Value} (hu:A.units + 1 < cLine) (hh:A.handled=none) (hd:H d=none) (hl:H l=some (.lst xs)) (hr:Paired (vO H) xs rows) (h63:rows.length≤1000) (dit:it≠d) (lit:l≠it) :
  ∀ (k i:Nat) (s:Shared),rows.length - i=k→i≤rows.length→Inv X pins σ (upd H d (.dT (dOf (rows.take i)))) s→s.heap.IsListIter it l i→(∀ u,v0 X pins (upd H d u) it) →
  (∀ s',Inv X pins σ (upd H d (.dT (dOf rows))) s'→R (.ok (.ret res)) s') →
  codeAny (model X.prog X.w) A (.builtin "dict.update.loop" ⟨[.ref d,.ref it,rawInt i,res],[]⟩) R s:=by
 have lx:xs.length=rows.length:=Paired.length hr
 have S:∀ u:HO,Same H (upd H d u):=fun u=>isV (o:=u) d hd
 intro k
 induction k with
 | zero =>
  intro i s hk hi I st hf fin
  have e:i=rows.length:=by omega
  subst e
  refine codeAny_builtin YC ?_
  rw [Around.under_plainId jE _]
  show wpAny _ A.in1 (pyNext (.ref it) >>= _) _ _ s
  obtain ⟨its,rv,p,hz⟩:=I.list (SqL.of (S _ _ _ hl))
  obtain ⟨f0,f1,f2,f3,f4,f5⟩:=hf (.dT (dOf (rows.take rows.length)))
  have hl2:=rv.length
  refine wpAny_bind (wpAny_pyNext_list_end hh st p.isList (by simp;omega) fun h' eb=>?_)
  have I1:=I.turned (t':=s.toks) (fun b o hb e=>eb b o hb e) f0 f1 f3 f4 f5
  rw [List.take_length] at I1
  show wpAny _ A.in1 (Builtin.Dict.addKeywords d [] >>= _) _ _ _
  exact wpAny_bind (wpAny_pure (wpAny_pure (fin _ I1)))
 | succ k ih =>
  intro i s hk hi I st hf fin
  have hlt:i < rows.length:=by omega
  refine codeAny_builtin YC ?_
  rw [Around.under_plainId jE _]
  show wpAny _ A.in1 (pyNext (.ref it) >>= _) _ _ s
  obtain ⟨its,rv,p,hz⟩:=I.list (SqL.of (S _ _ _ hl))
  obtain ⟨f0,f1,f2,f3,f4,f5⟩:=hf (.dT (dOf (rows.take i)))
  have hx:xs[i]?=some xs[i]:=List.getElem?_eq_getElem (by omega)
  have hq:rows[i]?=some rows[i]:=List.getElem?_eq_getElem hlt
  obtain ⟨r,pl,e1,t1,u1⟩:=yv hr hx hq
  obtain ⟨u,hu',ru⟩:=rv.get hx
  rw [e1] at ru
  cases ru
  refine wpAny_bind (wpAny_pyNext_list_item st p.isList (x:=.ref r) (by simpa using hu') fun h' st' sb=>?_)
  have I1:=I.turned (t':=s.toks) (fun b o hb e=>(sb.2 b hb).trans e) f0 f1 f3 f4 f5
  obtain ⟨tis,tv,⟨o,ho,hc,n,hdt⟩,_⟩:=I1.tuple (SqT.of (S _ _ _ t1))
  cases tv with
  | cons r1 rr =>
   cases rr with
   | cons r2 rn =>
    cases rn
    cases r1
    obtain ⟨tk,rfl⟩:=r2
    refine wpAny_bind (wpAny_holding ?_)
    have T:({ s with heap:=h' }:Shared).TypeIs (.ref r) "tuple":=⟨o,ho,hc⟩
    refine wpAny_bind (wpAny_tryCatch ?_)
    unfold Builtin.Dict.pairItems
    refine wpAny_bind (wpAny_typeOf T ?_)
    rw [if_pos (by decide)]
    refine wpAny_bind ?_
    unfold seqItems?
    refine wpAny_bind (wpAny_load ho ?_)
    rw [hdt]
    refine wpAny_pure (wpAny_pure ?_)
    show wpAny _ _ (holding [.ref pl,.int rows[i].2 tk] (dictSet d (.ref pl) (.int rows[i].2 tk))) _ _ _
    refine wpAny_holding ?_
    have tk2:dOf (rows.take (i + 1))=yA (dOf (rows.take i)) (zI rows[i].1) (.int rows[i].2):=by rw [List.take_add_one,hq,← kz];rfl
    have l2:(dOf (rows.take i)).length < sizeLine:=by
     have h1:=wx (rows.take i)
     have h2:=List.length_take_le' i rows
     exact Nat.lt_of_le_of_lt (by omega:_≤1000) (by decide)
    refine Js (k:=zI rows[i].1) (v:=.int rows[i].2) hu I1 zf (S _ _ _ u1) l2 ⟨tk,rfl⟩ fun h2 tk3 I2 sb2=>?_
    rw [qy,← tk2] at I2
    refine wpAny_pure ⟨plainId_quiet jE _,ih (i + 1) _ (by omega) hlt I2 (st'.at fun o e=>(sb2.2 it dit).trans e) hf fin⟩
end
end L2
namespace L2
open PySem PySem.Spec PyProof.Rows
theorem Xa:typeLookup (.type "list") "keys"=pure none:=by rw [typeLookup_type,builtinLookup_eq_fast];kernel_rfl
section
variable {prog:Program} {w:World} {A:Around} {E:Value→Shared→Prop} {s:Shared} {a:Addr} {o:Obj} {xs:Array Value} {k:Nat}
theorem Zo {Q:Option Value→Shared→Prop} (hx:s.heap.get? a=some o) (hc:o.cls=.type "list") (hdat:o.data=.seq xs k) (hd:o.dict=none) (hA:A.handled=none)
  (h:∀ h' tk,(∀ b ob,s.heap.get? b=some ob→h'.get? b=some ob)→Q none { s with heap:=h',toks:=tk }):wpAny (model prog w) A (getAttr? (.ref a) "keys") Q E s:=by
 obtain ⟨c,dct,dat,sl⟩:=o;simp only at hc hdat hd;subst hc hdat hd
 obtain ⟨hp,g,d,tk,os⟩:=s;have hT:∀ tk',(⟨hp,g,d,tk',os⟩:Shared).TypeIs (.ref a) "list":=fun _=>⟨_,hx,rfl⟩
 have f1:=sub_AttributeError;have f3:=F.slot_list_getattribute.lookup;have f4:=F.slot_list_getattribute.bind (.ref a);have f5:=am_list_getattr_none
 unfold getAttr? getAttrBy? getAttrBy
 repeat (any_goals (first | assumption | exact hT _ | ((with_reducible show wpAny _ _ (call (Value.builtin "list.__getattribute__") _ _) _ _ _);refine call_meets F.slot_list_getattribute (hT _) am_entry_list_getattribute (F.args_list_getattribute_2 _ _) (meets_getattribute_miss_list a xs k sl "keys" _ Xa (by decide +kernel) (by decide +kernel)) ⟨hx,hA,fun h' tk' e hx'=>?_⟩) | wp_step))
 obtain ⟨t',u',he⟩:=hx'.there;have kp:=hx'.keeps
 show wpAny _ _ (getattributeRaised _ _ _ _ _ _ _) _ _ _;unfold getattributeRaised
 repeat (any_goals (first | assumption | wp_step))
 all_goals exact h _ _ fun b ob e=>kp b ob e
end
theorem hu3 {k:Nat} {A:Around} (r:Room k A):A.units + 3 < cLine:=by have:=Kb r;omega
abbrev qj:RC:=fun vs H Q=>∃ (a:Addr) (xs:List V) (rows:List Row),vs=[.ref a]∧H a=some (.lst xs)∧Paired (vO H) xs rows∧rows.length≤1000∧∀ p,H p=none→Q (.ref p) (upd H p (.dT (dOf rows)))
section
variable {X:Cx}
theorem wg (hc:X.calm=true) (hu:X.A.units + 3 < cLine):vp X (.type "dict") qj:=by
 intro pins s σ H vs us Q I r h
 obtain ⟨a,xs,rows,rfl,ha,hr,hl,q⟩:=h
 obtain ⟨u,rfl,ru⟩:=kc r
 cases ru
 have hh:X.A.handled=none:=I.ok.hd hc
 refine callType_codes (Q₁:=fun obj s₁=>obj=.ref s.heap.objs.size∧s₁={ s with heap:=s.heap.push { cls:=.type "dict",data:=.dict #[] } }) F.kt_called_dict (F.kt_typeCall_dict_1 _) F.entry_dict_init (kt_code_dict_new _ ⟨rfl,rfl⟩) ?_;rintro obj s₁ ⟨rfl,rfl⟩
 have T0:({ s with heap:=s.heap.push { cls:=.type "dict",data:=.dict #[] } }:Shared).TypeIs (.ref s.heap.objs.size) "dict":=⟨_,Heap.get?_push_size _ rfl,rfl⟩
 refine ⟨T0,F.args_dict_init_2 _ _,?_⟩;unfold Builtin.«dict.__init__»;refine wpAny_bind ?_;unfold Builtin.Dict.selfAndRest
 refine wpAny_bind (wpAny_notOrdered_dict T0 ?_);show wpAny _ _ (pure (s.heap.objs.size,[Value.ref a])) _ _ _;refine wpAny_pure ?_
 show wpAny _ _ (Builtin.Dict.updateFrom "dict.__init__" s.heap.objs.size (.ref a) [] .none) _ _ _;unfold Builtin.Dict.updateFrom
 have hn:H s.heap.objs.size=none:=I.hok.fresh (Nat.le_refl _)
 have S:∀ u:HO,Same H (upd H s.heap.objs.size u):=fun u=>isV (o:=u) _ hn
 have I1:Inv X pins σ (upd H s.heap.objs.size (.dT [])) { s with heap:=s.heap.push { cls:=.type "dict",data:=.dict #[] } } :=
  I.laid (a:=s.heap.objs.size) (o:=.dT []) (t':=s.toks) (fun b o z=>Heap.get?_push_of_some _ z) (Nat.le_refl _) (XE s.heap I.big)
 obtain ⟨its,rv,pl,_⟩:=I1.list (SqL.of (S _ _ _ ha))
 obtain ⟨o,n,ho,oc,od,odat⟩:=id pl
 have T1:({ s with heap:=s.heap.push { cls:=.type "dict",data:=.dict #[] } }:Shared).TypeIs (.ref a) "list":=⟨o,ho,oc⟩
 refine wpAny_bind (wpAny_typeOf T1 ?_);rw [if_pos (by decide)]
 refine wpAny_bind (Zo ho oc odat od (by exact hh) fun h2 tk2 k2=>?_);rw [if_pos (show (none:Option Value).isNone=true from rfl)]
 refine wpAny_bind (wpAny_rule ?_)
 have I2:Inv X pins σ (upd H s.heap.objs.size (.dT [])) { s with heap:=h2,toks:=tk2 }:=I1.kept k2
 obtain ⟨its2,rv2,pl2,_⟩:=I2.list (SqL.of (S _ _ _ ha))
 refine wpAny_bind (wpAny_pyIter_list pl2.isList ?_)
 have I3:Inv X pins σ (upd H s.heap.objs.size (.dT (dOf (rows.take 0)))) { s with heap:=h2.push { cls:=.type "list_iterator",data:=.fields #[.ref a,.int 0 0] },toks:=tk2 }:=I2.kept (t':=tk2) fun b o e=>Heap.get?_push_of_some _ e
 refine wpAny_pure ⟨plainId_quiet jE _,?_⟩
 have lt:s.heap.objs.size < h2.objs.size:=Heap.lt_size (k2 s.heap.objs.size _ (Heap.get?_push_size _ rfl))
 have la:a < h2.objs.size:=by obtain ⟨_,_,z,_⟩:=pl2;exact Heap.lt_size z
 refine Kw (A:=X.A.in1) (H:=H) (d:=s.heap.objs.size) (it:=h2.objs.size) (l:=a) (xs:=xs) (rows:=rows) (res:=.none) ?_ hh hn ha hr hl (Nat.ne_of_gt lt) (Nat.ne_of_lt la) rows.length 0 _ (by omega) (Nat.zero_le _) I3 ⟨_,Heap.get?_push_size _ rfl,rfl,rfl⟩ (fun u=>?_) fun s' I'=>⟨rfl,.ref s.heap.objs.size,_,I',rfl,q _ hn⟩
 ·have e:X.A.in1.units=X.A.units + 1:=rfl
  omega
 ·refine I2.fpOk (Nat.le_refl _) ?_
  rw [zl (Nat.ne_of_gt lt)]
  have:=I2.hok.fresh (Nat.le_refl h2.objs.size)
  rw [zl (Nat.ne_of_gt lt)] at this
  exact this
end
end L2
namespace L2
open PySem PySem.Spec PyProof.Rows
section
variable {X:Cx} {k:Nat} {f C:Addr} {fd:FuncData} {ps:List Str} {sp:Sp} {m:Str} {pos apos:Pos} {e o:Expr} {es:List Expr} {ta:TE} {t:TA}
def Xb (C:Addr) (m:Str) (sp:Sp) (ta:TE) (t:TA) (EX:EXK):TE:=fun σ H Q=>ta σ H fun x H1=>∃ a dx fs,x=.ref a∧H1 a=some (.ins C dx fs)∧fs.lookup m=none ∧
 t σ H1 fun vs H2=>sp (x :: (vs ++ [])) H2 Q fun cls _ H3=>EX cls σ H3
theorem Kx {pl:Sem Bool} (he:PE X.nox o ta) (c:Cls X.K C) (hm:Jd X.K C m f) (F:FnOk X.prog X.w X.K X.mg X.base (CX1 X.prog X.w) k f fd ps sp) (hr:Room k X.A) (hb:Binds X.K fd ps []) (ha:PA X.nox (e :: es) t)
  (hst:starEach (e :: es) X.env=(false,eval e X.env) :: starEach es X.env:=by rfl) (hpl:(backTo pos (starEach es X.env)).any (·.1)=false:=by rfl)
  (ht:eval (.Call (.Attribute o m apos) (e :: es) [] pos) X.env=(do
   let ov ← eval o X.env
   standAt apos.atName
   let (f,first) ← holding [ov] (getMethod ov m pl)
   callWith pos f first (backTo pos (starEach (e :: es) X.env)) (backToKw pos (keywordEach [] X.env))):=by rfl) :
  PEX X (.Call (.Attribute o m apos) (e :: es) [] pos) (Xb C m sp ta t):=by
 intro pins s σ H Q EX I h
 refine PySem.W.methodCall_KW (pl:=pl) (wpAny_mono (he pins s σ H _ (I.wish _) h) (fun u s1 ⟨x,H1,I1',rx,a,dx,fs,ex,ea,l,q⟩=>?_) fun _ _ z=>False.elim z) ht
 subst ex
 obtain rfl:u=Value.ref a:=rx
 have I1:=I1'.unwish
 refine qN I1 ea c hm l ?_
 refine PySem.W.callWith_K (first:=[.ref a]) (h₀:=X.base) I.ok.mod.kin hm.kp (wpAny_mono (ha pos pins s1 σ H1 _ (I1.wish _) q) (fun us s2 ⟨vs,H2,I2',r,q2⟩=>⟨I2'.kIn,?_⟩) fun _ _ z=>False.elim z) hst hpl
 have I2:=I2'.unwish
 have r2:Vals (V.ref a :: (vs ++ [])) (Value.ref a :: (us ++ [])):=.cons rfl (r.append .nil)
 have hl:((Value.ref a :: us) ++ []).length=ps.length:=by
  have e:=r2.length
  rw [F.len _ _ _ _ q2] at e
  exact e.symm
 refine wpAny_call (codeAny_mono (F.run X.A X.stack s2 H2 ⟨.ref a :: us,[]⟩ ((.ref a :: us) ++ []) (.ref a :: (vs ++ [])) _ _ hr I2.env0 (hb s2 (.ref a :: us) I2.kIn hl) r2 q2) fun r s' hq=>?_)
 cases r with
 | error ev =>
  obtain ⟨e,cls,H',rfl,os,bare,un,hok,xf,hE⟩:=hq
  exact ⟨e,cls,σ,s2,H2,H',rfl,I2,I2.call' (ch:=[]) os un hok bare (fun b z=>nomatch z),xf,hE⟩
 | ok fl =>
  cases fl with
  | ret u=>exact I2.after hq
  | next=>exact False.elim hq
  | brk=>exact False.elim hq
  | cont=>exact False.elim hq
end
def zcl (K:PySem.W.Frag) (tb:EXK→TS) (C1:Addr) (th1:TS):TS:=fun D σ H=>tb (fun cls σ1 H1=>∃ C,cls=.ref C∧PySem.W.exmOne K (.ref C) (.ref C1)=some true∧th1 D σ1 H1) D σ H
def Xc (K:PySem.W.Frag) (tb:EXK→TS) (C1:Addr) (th1:TS) (C2:Addr) (th2:TS):TS:=fun D σ H=>tb (fun cls σ1 H1=>∃ C,cls=.ref C ∧
 ((PySem.W.exmOne K (.ref C) (.ref C1)=some true∧th1 D σ1 H1)∨(PySem.W.exmOne K (.ref C) (.ref C1)=some false∧PySem.W.exmOne K (.ref C) (.ref C2)=some true∧th2 D σ1 H1))) D σ H
section
variable {X:Cx} {st b₀ b₁:Stmt} {suite suite1:List Stmt} {tb:EXK→TS} {th1 th2:TS} {c1 c2:Str} {C1 C2:Addr} {np hpos np2 hpos2 pos:Pos}
theorem Ky (hst:X.stack=X.env :: X.outer∧X.env.frame=some X.env.locals) (hex:X.ex=[]) (hb:PSX X st tb) (hg1:Gl X c1) (hm1:X.mg c1=some (.ref C1)) (hg2:Gl X c2) (hm2:X.mg c2=some (.ref C2))
  (hs1:∀ e,PSs (X.sub e) (b₀ :: suite) th1) (hs2:∀ e,PSs (X.sub e) (b₁ :: suite1) th2) (hdb1:(c1 == ("__debug__":Str))=false:=by decide) (hdb2:(c2 == ("__debug__":Str))=false:=by decide) :
  PS X (.Try [st] [.ExceptHandler (some (.Name c1 np)) none (b₀ :: suite) hpos,.ExceptHandler (some (.Name c2 np2)) none (b₁ :: suite1) hpos2] [] [] pos) (Xc X.K tb C1 th1 C2 th2):=by
 intro pins s σ H D I h
 refine wpAny_Try_except (wpAny_execs_cons (wpAny_mono (hb pins s σ H D _ I h) (fun f s1 q=>?_) fun ev s1 q=>?_))
 ·cases f with
  | next=>exact wpAny_execs_nil (wpAny_execs_nil q)
  | ret v=>exact q
  | brk=>exact q
  | cont=>exact q
 obtain ⟨e,cls,σ1,s0,H0,H1,rfl,I0,I1,xf,C,rfl,hth⟩:=q
 obtain ⟨oe,vs,a0,T,oT,ts,h1,h2,h3,h4,h5,h6,h7,h8,h9,h10,h11,h12⟩:=xf
 have fr:s1.heap.FunFrames (PySem.W.hideAll s1.heap (frs X.stack ++ [e,T])) (X.env :: X.outer):=by
  have q:=PySem.W.funFrames_hide (as:=frs X.stack ++ [e,T]) I1.stack fun env he a ha=>List.mem_append_left _ (List.mem_filterMap.mpr ⟨env,he,ha⟩)
  rw [hst.1] at q ⊢
  exact q
 have two:∀ b∈[e,T],s0.heap.get? b=none∧H1 b=none:=fun b z=>by
  have z':b=e∨b=T:=by simpa using z
  rcases z' with rfl | rfl
  ·exact ⟨h9,h11⟩
  ·exact ⟨h10,h12⟩
 have hcs:∀ b∈[e,T],H1 b=none∧X.s₀.heap.get? b=none:=fun b z=>⟨(two b z).2,jA (I0.there0 hex) (two b z).1⟩
 have hcp:∀ b∈[e,T],∀ p∈X.pn ++ pins,p.1≠b:=fun b z p hp q=>by
  have:=(I0.pin p hp).1
  rw [q,(two b z).1] at this;cases this
 refine wpAny_looks_onW (base:=PySem.W.hideAll s1.heap (frs X.stack ++ [e,T])) (a0:=a0) (cls:=.ref C) (by rw [I1.ok.frames,hst.1]) hst.2
  ⟨fun b o q=>PySem.W.of_hideAll _ q,PySem.W.hideAll_none _ (List.mem_append_right _ (by simp)),fr,oe,vs,T,oT,ts,h1,h2,h3,h4,PySem.W.hideAll_none _ (List.mem_append_right _ (by simp)),h5,h6,h7,h8⟩ fun g4 held4 sm4=>?_
 refine wpAny_landsW held4 fun g5 fly5 sm5=>?_
 have hB:∀ {g:Heap},(PySem.W.hideAll s1.heap (frs X.stack ++ [e,T])).StaysIn g→∀ b o,s1.heap.get? b=some o→b ∉ frs X.stack→b ∉ [e,T]→g.get? b=some o :=
  fun {g} k b o q n1 n2=>k b o (PySem.W.hideAll_get _ q fun z=>(List.mem_append.mp z).elim n1 n2)
 have I5:Inv X pins σ1 H1 { s1 with heap:=g5 }:=I1.land hex hcs hcp (hB fly5.1) (sm4.trans sm5)
 have K5:=I5.kIn
 have ty5:PySem.W.Looks (model X.prog X.w) g5 (typeOf (.ref e)) (.ref C):=by
  obtain ⟨o,p1,p2⟩:=fly5.there
  exact p2 ▸ (PySem.W.Looks.ld p1).andThen .now
 have run:∀ {b₂:Stmt} {su:List Stmt} {th:TS} {hp:Pos} {R:Result→Shared→Prop},(∀ e,PSs (X.sub e) (b₂ :: su) th)→th D σ1 H1→(∀ f s',SP X pins D f s'→R (.ok f) s') →
   codeAny (model X.prog X.w) (X.A.mark (some (.ref e))) (.handlers (.ref e) [.ExceptHandler none none (b₂ :: su) hp] X.env) R { s1 with heap:=g5 }:=fun {b₂ su th hp R} hs hth hR=>by
  refine codeAny_handlers_suite (lands_againW fly5 fun g6 fly6 sm6=>?_)
  have I6:Inv X pins σ1 H1 { s1 with heap:=g6 }:=I1.land hex hcs hcp (hB fly6.1) ((sm4.trans sm5).trans sm6)
  refine wpAny_mono (hs e pins _ σ1 H1 D I6.toSub hth) (fun f s9 q=>hR f s9 ?_) fun _ _ z=>False.elim z
  cases f with
  | next=>obtain ⟨σ9,H9,J,z⟩:=q;exact ⟨σ9,H9,Inv.ofSub (J:=I) J,z⟩
  | brk=>obtain ⟨σ9,H9,J,z⟩:=q;exact ⟨σ9,H9,Inv.ofSub (J:=I) J,z⟩
  | cont=>obtain ⟨σ9,H9,J,z⟩:=q;exact ⟨σ9,H9,Inv.ofSub (J:=I) J,z⟩
  | ret u=>obtain ⟨v,σ9,H9,J,r,z⟩:=q;exact ⟨v,σ9,H9,Inv.ofSub (J:=I) J,r,z⟩
 refine wpAny_handleBy_cons (codeAny_handlers_test ?_) (by intro q;cases q)
 refine vH (X:=X.sub e) (I5.toSub (e:=e)) hg1 hm1 ?_ hdb1
 rcases hth with ⟨hx,ht⟩ | ⟨hx,hx2,ht⟩
 ·refine (PySem.W.exm_one K5 ty5 hx).here ?_
  exact run hs1 ht fun f s' q=>q
 ·refine (PySem.W.exm_one K5 ty5 hx).here ?_
  show wpAny _ _ (handleBy (.ref e) X.env _) _ _ _
  refine wpAny_handleBy_cons (codeAny_handlers_test ?_) (by intro q;cases q)
  refine vH (X:=X.sub e) (I5.toSub (e:=e)) hg2 hm2 ?_ hdb2
  refine (PySem.W.exm_one K5 ty5 hx2).here ?_
  exact run hs2 ht fun f s' q=>q
end
structure RoomH (k:Nat) (A:Around):Prop where
 dp:A.depth + 3 * k + 5 < recursionLimit
 un:A.units + 16 * k + 200 < cLine
theorem zam {k:Nat} {A:Around} {v:Option Value} (r:Room k A):RoomH k (A.mark v):=⟨r.dp,r.un⟩
theorem RoomH.deeper {k:Nat} {A:Around} (r:RoomH (k + 1) A) (env:Env):RoomH k (A.deeper env) :=
 ⟨by have:=r.dp;show A.depth + 1 + 3 * k + 5 < _;omega,by have:=r.un;show A.units + 3 + 16 * k + 200 < _;omega⟩
theorem RoomH.mono {j k:Nat} {A:Around} (r:RoomH k A) (h:j≤k):RoomH j A:=⟨by have:=r.dp;omega,by have:=r.un;omega⟩
structure FnOkH (P:Program) (w:World) (K:PySem.W.Frag) (mg:Str→Option Value) (base:Heap) (k:Nat) (f:Addr) (fd:FuncData) (ps:List Str) (sp:Sp):Prop where
 len:∀ vs H Q E,sp vs H Q E→vs.length=ps.length
 run:∀ (A:Around) (outer:List Env) (s:Shared) (H:Hp) (args:Args) (us:List Value) (vs:List V) (Q:VK) (E:XK),RoomH k A→Env0 P w K mg base A outer s H→BindsTo s fd args (ps.zip us)→Vals vs us→sp vs H Q E →
  codeAny (model P w) A (.call (.ref f) args) (CR CX0 outer P w H s Q E) s
theorem FnOkH.toFn {P:Program} {w:World} {K:PySem.W.Frag} {mg:Str→Option Value} {base:Heap} {CX:CXT} {k:Nat} {f:Addr} {fd:FuncData} {ps:List Str} {sp:Sp} (F:FnOkH P w K mg base k f fd ps sp):FnOk P w K mg base CX k f fd ps sp :=
 ⟨F.len,fun A outer s H args us vs Q E hr he hb hv hs=>codeAny_mono (F.run A outer s H args us vs Q E ⟨hr.dp,hr.un⟩ he hb hv hs) fun r s' q=>by
  cases r with
  | error e=>exact False.elim q
  | ok fl=>cases fl <;> exact q⟩
abbrev cxH (P:Program) (w:World) (K:PySem.W.Frag) (mg:Str→Option Value) (base:Heap) (N:List Str) (qual:Str) (scope:Scope) (f:Addr) (cd:Value) (A:Around) (outer:List Env) (s:Shared) (H:Hp):Cx :=
 { jJ CX0 P w K mg base N qual scope f cd A outer s H E0 with calm:=false,xe:=fun _ _=>False }
theorem zaN {P:Program} {w:World} {K:PySem.W.Frag} {mg:Str→Option Value} {base:Heap} {k:Nat} {f:Addr} {name qual:Str} {params:Arguments} {body:List Stmt} {scope:Scope} {dV kV doc pm cdv ct oc:Value} {an od:Option Addr}
  {osl:Array (Option Value)} {N ps:List Str} {sp:Sp} (lk:K.lookup f=some ⟨oc,od,.func (PySem.W.fnOf name qual params body scope dV kV doc pm an cdv ct),osl⟩) (hcd:PySem.W.codeIn K cdv qual=true) (S:zM N ps scope)
  (len:∀ vs H Q E,sp vs H Q E→vs.length=ps.length)
  (hbody:∀ (A:Around) (outer:List Env) (s:Shared) (H:Hp) (vs:List V) (Q:VK) (E:XK),RoomH k (A.deeper (envOfC qual scope s.heap.objs.size f cdv))→sp vs H Q E →
   ∃ t,PSs (cxH P w K mg base N qual scope f cdv A outer s H) body t∧t { nx:=fun _ H'=>Q .non H',rt:=Q } (start N vs) H) :
  FnOkH P w K mg base (k + 1) f (PySem.W.fnOf name qual params body scope dV kV doc pm an cdv ct) ps sp:=by
 refine ⟨len,fun A outer s H args us vs Q E hr e0 hb r hsp=>?_⟩
 have hl:=len _ _ _ _ hsp
 have KX:K.In s.heap:=e0.mod.kin.keeps fun b o e=>(e0.bs b o e).1
 have lim:s.heap.NoLimit:=e0.mod.nolimit.keeps fun b o e=>(e0.bs b o e).1
 have hkind:∀ y∈ps.zip us,scope.names.lookup y.1=some .local∨(scope.names.lookup y.1=some .cell∧((cellsFrom (s.heap.objs.size + 1) scope.names []).lookup y.1).isSome=true):=fun ⟨n,v⟩ hy=>by
  rcases S.par n (List.of_mem_zip hy).1 with q | q
  ·exact .inl q
  ·exact .inr ⟨q,PySem.W.cellsFrom_some _ _ _ (.inl q)⟩
 refine codeAny_call_function (by have:=hr.dp;omega) (KX _ _ lk) rfl S.co S.gen rfl (PySem.W.codeRec_of KX hcd) (hb _ _ _ _ ?_)
 refine wpAny_newFunctionEnv_cells S.kind hkind fun env he s1 x=>?_
 subst he
 refine ⟨lim.keeps x.toInCall.keep,codeAny_func ?_⟩
 obtain ⟨t,ht,hq⟩:=hbody A outer s H vs Q E (hr.deeper _) hsp
 have e1:Env0 P w K mg base { A with handled:=none } outer s H:=⟨e0.frames,e0.mod,e0.bs,e0.bsz,e0.funs,e0.frf,e0.hok,e0.bare⟩
 have I0:Inv (jJ CX0 P w K mg base N qual scope f cdv { A with handled:=none } outer s H E0) [] (start N vs) H s1:=Yk S rfl e1 hl r x
 have I:Inv (cxH P w K mg base N qual scope f cdv A outer s H) [] (start N vs) H s1 :=
  ⟨⟨I0.ok.mod,I0.ok.kind,I0.ok.glob,I0.ok.blt,I0.ok.above,I0.ok.inj,I0.ok.has,I0.ok.cab,(fun z=>nomatch z),Around.frames_deeper e0.frames,I0.ok.stk,I0.ok.exf,I0.ok.bs,I0.ok.bsz,I0.ok.noex,I0.ok.exfs,I0.ok.funs,I0.ok.frf⟩,I0.os,I0.bare,I0.base,I0.loc,I0.cell,I0.free,I0.freeC,I0.pin,I0.hok,I0.len⟩
 refine wpAny_mono (ht [] s1 (start N vs) H _ I hq) (fun fl s' hs=>?_) fun e s' hs=>False.elim hs
 have fin:∀ {σ':St} {H':Hp} {v:V} {u:Value},Inv (cxH P w K mg base N qual scope f cdv A outer s H) [] σ' H' s'→RelV v u→Q v H'→CE outer P w H s Q u s' :=
  fun {σ' H' v u} J rv q=>⟨v,H',J.os,J.bare,J.base,J.hok,rv,q⟩
 cases fl with
 | ret u =>
  obtain ⟨v,σ',H',J,rv,q⟩:=hs
  exact fin J rv q
 | next =>
  obtain ⟨σ',H',J,q⟩:=hs
  exact fin (v:=V.non) (u:=Value.none) J rfl q
 | brk =>
  obtain ⟨_,_,_,q⟩:=hs
  exact False.elim q
 | cont =>
  obtain ⟨_,_,_,q⟩:=hs
  exact False.elim q
theorem Fun.okH {P:Program} {w:World} {K:PySem.W.Frag} {mg:Str→Option Value} {base:Heap} {x qual:Str} {st:Stmt} {f:Addr} {fd:FuncData} {N ps:List Str} {k:Nat} {sp:Sp} (F:Fun K x qual st f fd) (S:zM N ps (zj st)) (len:∀ vs H Q E,sp vs H Q E→vs.length=ps.length)
  (hbody:∀ (cdv:Value) (A:Around) (outer:List Env) (s:Shared) (H:Hp) (vs:List V) (Q:VK) (E:XK),RoomH k (A.deeper (envOfC qual (zj st) s.heap.objs.size f cdv))→sp vs H Q E →
   ∃ t,PSs (cxH P w K mg base N qual (zj st) f cdv A outer s H) (zK st) t∧t { nx:=fun _ H'=>Q .non H',rt:=Q } (start N vs) H):FnOkH P w K mg base (k + 1) f fd ps sp:=by
 obtain ⟨oc,od,kV,doc,pm,an,cdv,ct,osl,rfl,lk,hcd⟩:=F.ex
 exact zaN lk hcd S len fun A outer s H vs Q E hr hsp=>hbody cdv A outer s H vs Q E hr hsp
section
variable {X:Cx} {k:Nat} {f:Addr} {fd:FuncData} {ps:List Str} {sp:Sp} {x:Str} {p pos:Pos} {e:Expr} {es:List Expr} {t:TA}
theorem X4 (F:FnOkH X.prog X.w X.K X.mg X.base k f fd ps sp) (hr:RoomH k X.A) (hg:Gl X x) (hm:X.mg x=some (.ref f)) (hk:PySem.W.keepIn X.K (.ref f)=true) (hb:Binds X.K fd ps [])
  (ha:PA X (e :: es) t) (hdb:(x == ("__debug__":Str))=false:=by decide) (he:starEach (e :: es) X.env=(false,eval e X.env) :: starEach es X.env:=by rfl) (hpl:(backTo pos (starEach es X.env)).any (·.1)=false:=by rfl) :
  PE X (.Call (.Name x p) (e :: es) [] pos) (zn sp [] E0 t):=by
 intro pins s σ H Q I h
 refine wpAny_Call_Name_kw (vH I hg hm ?_ hdb)
 refine PySem.W.callWith_K (h₀:=X.base) I.ok.mod.kin hk (thn (ha pos pins s σ H _ I h) fun us s1 ⟨vs,H1,I1,r,q⟩=>⟨I1.kIn,?_⟩) he hpl
 have r2:Vals (vs ++ []) (us ++ []):=r.append .nil
 have hl:(us ++ []).length=ps.length:=by rw [← r2.length];exact F.len _ _ _ _ q
 refine wpAny_call (codeAny_mono (F.run X.A X.stack s1 H1 ⟨us,[]⟩ (us ++ []) (vs ++ []) Q E0 hr I1.env0 (hb s1 us I1.kIn hl) r2 q) fun r s' hq=>?_)
 cases r with
 | error e=>exact False.elim hq
 | ok fl =>
  cases fl with
  | ret u=>exact I1.after hq
  | next=>exact False.elim hq
  | brk=>exact False.elim hq
  | cont=>exact False.elim hq
end
end L2
namespace L2
open PySem
def rk (kvs:List (Key × V)) (ps:List V):Except Er Int:=match x8 kvs ps [] with
 | .ok [i]=>.ok i
 | .ok _=>.error .stuck
 | .error e=>.error e
theorem Good.rk {kvs:List (Key × V)} {ps:List V} {r:Except Er Int} (h:Good kvs ps r):L2.rk kvs ps=r:=by
 unfold L2.rk
 rw [h.1 []]
 cases r <;> rfl
theorem Kz {kvs:List (Key × V)} (hs:xD kvs) {v:V} (hv:xM v) {st st':List Int} (h:∀ x∈st,inW x=true) (e:xL kvs st v=.ok st'):∀ x∈st',inW x=true:=by
 unfold xL at e
 split at e
 ·split at e
  ·rename_i w b a r hr hj
   unfold xC at e
   by_cases c1:kr w∧b=0
   ·rw [if_pos c1] at e;cases e
   ·rw [if_neg c1] at e
    by_cases c2:inW (yd w a b)=true
    ·rw [if_pos c2] at e
     cases e
     intro x hx
     rcases List.mem_append.mp hx with hx | hx
     ·refine h x (List.mem_reverse.mp ?_)
      rw [hr]
      exact List.mem_cons_of_mem _ (List.mem_cons_of_mem _ (List.mem_reverse.mp hx))
     ·rw [List.mem_singleton.mp hx];exact c2
    ·rw [if_neg c2] at e;cases e
  ·cases e
 ·cases e
  intro x hx
  rcases List.mem_append.mp hx with hx | hx
  ·exact h x hx
  ·rw [List.mem_singleton.mp hx];exact XQ hs hv
theorem VS {kvs:List (Key × V)} (hs:xD kvs):∀ {ps:List V} {st st':List Int},(∀ v∈ps,xM v)→(∀ x∈st,inW x=true)→x8 kvs ps st=.ok st'→∀ x∈st',inW x=true
 | [],st,st',_,h,e=>by cases e;exact h
 | v :: r,st,st',hp,h,e=>by
  unfold x8 at e
  split at e
  ·rename_i st1 e1
   exact VS hs (fun v hv=>hp v (List.mem_cons_of_mem _ hv)) (Kz hs (hp v List.mem_cons_self) h e1) e
  ·cases e
theorem KA {kvs:List (Key × V)} (hs:xD kvs) {ps:List V} (hp:∀ v∈ps,xM v) {i:Int} (e:rk kvs ps=.ok i):inW i=true:=by
 unfold rk at e
 split at e
 ·rename_i j hj
  cases e
  exact VS hs hp (fun _ z=>absurd z List.not_mem_nil) hj i List.mem_cons_self
 ·cases e
 ·cases e
def TermOk (e:List V):Prop:=(∀ kvs,∃ r,Good kvs e r)∧(∀ v∈e,xM v)∧e.length≤1000
theorem TermOk.good {e:List V} (h:TermOk e) (kvs:List (Key × V)):Good kvs e (rk kvs e):=by
 obtain ⟨r,g⟩:=h.1 kvs
 rw [g.rk];exact g
mutual
inductive Rw where
 | take (sh:Str) (e:List V) (sl:Str)
 | give (sh:Str) (e f:List V)
 | lt (sl:Str) (e:List V)
 | say (e:List V)
 | off (e:List V)
 | iff (e:List V) (a b:Rws)
inductive Rws where
 | nil
 | cons (r:Rw) (rs:Rws)
end
set_option genSizeOf false in
set_option genInjectivity false in
structure Sta where
 sl:List (Key × V)
 wo:List Row
 sa:List Int
inductive Res where
 | go (s:Sta)
 | off
 | er (e:Er)
mutual
def goR:Rw→Sta→Res
 | .take sh e sl,s=>match rk s.sl e with
  | .ok n=>.go { s with sl:=yA s.sl (.inr sl) (.int ((zP s.wo (sh,n)).getD 0)) }
  | .error x=>.er x
 | .give sh e f,s=>match rk s.sl e with
  | .ok n=>(match rk s.sl f with
   | .ok w=>.go { s with wo:=s.wo ++ [((sh,n),w)] }
   | .error x=>.er x)
  | .error x=>.er x
 | .lt sl e,s=>match rk s.sl e with
  | .ok n=>.go { s with sl:=yA s.sl (.inr sl) (.int n) }
  | .error x=>.er x
 | .say e,s=>match rk s.sl e with
  | .ok n=>.go { s with sa:=s.sa ++ [n] }
  | .error x=>.er x
 | .off e,s=>match rk s.sl e with
  | .ok n=>if n=0 then .go s else .off
  | .error x=>.er x
 | .iff e a b,s=>match rk s.sl e with
  | .ok n=>if n=0 then yw b s else yw a s
  | .error x=>.er x
def yw:Rws→Sta→Res
 | .nil,s=>.go s
 | .cons r rs,s=>match goR r s with
  | .go s'=>yw rs s'
  | x=>x
end
mutual
def RwAt (F:Addr→Prop) (H:Hp) (v:V):Rw→Prop
 | .take sh e sl=>∃ r te,v=.ref r∧F r∧F te∧H r=some (.tup [.str "take",.str sh,.ref te,.str sl])∧H te=some (.tup e)
 | .give sh e f=>∃ r te tf,v=.ref r∧F r∧F te∧F tf∧H r=some (.tup [.str "give",.str sh,.ref te,.ref tf])∧H te=some (.tup e)∧H tf=some (.tup f)
 | .lt sl e=>∃ r te,v=.ref r∧F r∧F te∧H r=some (.tup [.str "let",.str sl,.ref te])∧H te=some (.tup e)
 | .say e=>∃ r te,v=.ref r∧F r∧F te∧H r=some (.tup [.str "say",.ref te])∧H te=some (.tup e)
 | .off e=>∃ r te,v=.ref r∧F r∧F te∧H r=some (.tup [.str "off",.ref te])∧H te=some (.tup e)
 | .iff e a b=>∃ r te la lb xs ys,v=.ref r∧F r∧F te∧F la∧F lb∧H r=some (.tup [.str "if",.ref te,.ref la,.ref lb])∧H te=some (.tup e)∧H la=some (.lst xs)∧RwsAt F H xs a∧H lb=some (.lst ys)∧RwsAt F H ys b
def RwsAt (F:Addr→Prop) (H:Hp) (vs:List V):Rws→Prop
 | .nil=>vs=[]
 | .cons r rs=>∃ v ws,vs=v :: ws∧RwAt F H v r∧RwsAt F H ws rs
end
mutual
theorem RwAt.to_ {F G:Addr→Prop} {H H':Hp} (g:∀ b o,F b→H b=some o→G b) (s:∀ b o,F b→H b=some o→H' b=some o):∀ {v:V} (r:Rw),RwAt F H v r→RwAt G H' v r
 | v,.take sh e sl,h=>by
  unfold RwAt at h ⊢
  obtain ⟨r,te,e1,f1,f2,e2,e3⟩:=h
  exact ⟨r,te,e1,g _ _ f1 e2,g _ _ f2 e3,s _ _ f1 e2,s _ _ f2 e3⟩
 | v,.give sh e f,h=>by
  unfold RwAt at h ⊢
  obtain ⟨r,te,tf,e1,f1,f2,f3,e2,e3,e4⟩:=h
  exact ⟨r,te,tf,e1,g _ _ f1 e2,g _ _ f2 e3,g _ _ f3 e4,s _ _ f1 e2,s _ _ f2 e3,s _ _ f3 e4⟩
 | v,.lt sl e,h=>by
  unfold RwAt at h ⊢
  obtain ⟨r,te,e1,f1,f2,e2,e3⟩:=h
  exact ⟨r,te,e1,g _ _ f1 e2,g _ _ f2 e3,s _ _ f1 e2,s _ _ f2 e3⟩
 | v,.say e,h=>by
  unfold RwAt at h ⊢
  obtain ⟨r,te,e1,f1,f2,e2,e3⟩:=h
  exact ⟨r,te,e1,g _ _ f1 e2,g _ _ f2 e3,s _ _ f1 e2,s _ _ f2 e3⟩
 | v,.off e,h=>by
  unfold RwAt at h ⊢
  obtain ⟨r,te,e1,f1,f2,e2,e3⟩:=h
  exact ⟨r,te,e1,g _ _ f1 e2,g _ _ f2 e3,s _ _ f1 e2,s _ _ f2 e3⟩
 | v,.iff e a b,h=>by
  unfold RwAt at h ⊢
  obtain ⟨r,te,la,lb,xs,ys,e1,f1,f2,f3,f4,e2,e3,e4,e5,e6,e7⟩:=h
  exact ⟨r,te,la,lb,xs,ys,e1,g _ _ f1 e2,g _ _ f2 e3,g _ _ f3 e4,g _ _ f4 e6,s _ _ f1 e2,s _ _ f2 e3,s _ _ f3 e4,RwsAt.to_ g s a e5,s _ _ f4 e6,RwsAt.to_ g s b e7⟩
theorem RwsAt.to_ {F G:Addr→Prop} {H H':Hp} (g:∀ b o,F b→H b=some o→G b) (s:∀ b o,F b→H b=some o→H' b=some o):∀ {vs:List V} (r:Rws),RwsAt F H vs r→RwsAt G H' vs r
 | vs,.nil,h=>by
  unfold RwsAt at h ⊢
  exact h
 | vs,.cons r rs,h=>by
  unfold RwsAt at h ⊢
  obtain ⟨v,ws,e1,e2,e3⟩:=h
  exact ⟨v,ws,e1,RwAt.to_ g s r e2,RwsAt.to_ g s rs e3⟩
end
def RlAt (F:Addr→Prop) (H:Hp) (v:V) (r:Rws):Prop:=∃ a xs,v=.ref a∧F a∧H a=some (.lst xs)∧RwsAt F H xs r
abbrev jW:Addr→Prop:=fun _=>True
mutual
def jX:Rw→Prop
 | .take _ e _=>TermOk e
 | .give _ e f=>TermOk e∧TermOk f
 | .lt _ e=>TermOk e
 | .say e=>TermOk e
 | .off e=>TermOk e
 | .iff e a b=>TermOk e∧jg a∧jg b
def jg:Rws→Prop
 | .nil=>True
 | .cons r rs=>jX r∧jg rs
end
mutual
def Rw.deep:Rw→Nat
 | .iff _ a b=>max a.deep b.deep + 1
 | _=>0
def Rws.deep:Rws→Nat
 | .nil=>0
 | .cons r rs=>max r.deep rs.deep
end
mutual
def Rw.cnt:Rw→Nat
 | .iff _ a b=>max a.cnt b.cnt + 1
 | _=>1
def Rws.cnt:Rws→Nat
 | .nil=>0
 | .cons r rs=>r.cnt + rs.cnt
end
end L2
namespace L2
open PySem
abbrev ItA (h:Heap) (it d:Addr) (i n ep:Nat) (o0:Value) (f:Bool) (ok ov:Value):Prop :=
 h.get? it=some { cls:=.type "dict_itemiterator",dict:=none,data:=.fields #[o0,.bool f,.ref d,.int i 0,.int n 0,.int ep 0,ok,ov],slots:=#[] }
section
variable {P:Program} {w:World} {A:Around} {E:Value→Shared→Prop} {s:Shared}
theorem X5 {v d:Addr} {es:Array DictEntry} {ep:Nat} {Q:Value→Shared→Prop} (hv:s.heap.IsItemsView v d) (hm:RawD s.heap d es ep)
  (q:Q (.ref s.heap.objs.size) { s with heap:=s.heap.push { cls:=.type "dict_itemiterator",data:=.fields #[.none,.bool false,.ref d,.int 0 0,.int es.size 0,.int ep 0,.none,.none] } }):wpAny (model P w) A (pyIter (.ref v)) Q E s:=by
 obtain ⟨ov,hov,hcv,hdv⟩:=id hv;obtain ⟨o,ho,hc,hdat⟩:=id hm
 refine wpAny_pyIter_slot hv.typeIs F.slot_dict_items_iter (wpAny_call_entry F.slot_dict_items_iter hv.typeIs F.entry_dict_items_iter ?_ (F.args_dict_items_iter_1 _));unfold Builtin.«dict_items.__iter__»
 refine wpAny_bind (wpAny_pure ?_);refine wpAny_bind ?_;unfold Builtin.Dict_items.dictOf
 refine wpAny_bind (wpAny_field hov hdv (x:=.ref d) rfl (wpAny_pure ?_));refine wpAny_bind ?_;unfold Builtin.Dict_items.newIterator
 refine wpAny_bind (wpAny_dictEntries ho hdat ?_);refine wpAny_bind (wpAny_dictEpoch ho hdat ?_)
 have own:Builtin.Dict_items.ownsTuple "dict_itemiterator"=true:=by decide
 simp only [own,if_true];refine wpAny_newObj_type (wpAny_pure ⟨_,rfl,"dict_itemiterator",_,⟨_,Heap.get?_push_size _ rfl,rfl⟩,F.slot_dict_itemiterator_next.lookup,?_⟩) (by simp only [sizeOk,Builtin.Dict_items.ownedTupleFields,List.size_toArray,List.length_append,List.length_cons,List.length_nil,sizeLine_eq];omega)
 simpa [rawInt,Builtin.Dict_items.ownedTupleFields] using q
theorem KB {it d:Addr} {i ep:Nat} {es:Array DictEntry} {e:DictEntry} {o0 ok ov:Value} {f:Bool} {Q:Option Value→Shared→Prop} (hit:ItA s.heap it d i es.size ep o0 f ok ov) (hm:RawD s.heap d es ep) (hx:es[i]?=some e)
  (ho0:(o0=.none∧f=false)∨∃ (a:Addr) (oa:Obj),o0=rawInt (a:Nat)∧s.heap.get? a=some oa∧a≠it)
  (q:∀ h' o1 f1 k1 v1,ItA h' it d (i + 1) es.size ep o1 f1 k1 v1→((o1=.none∧f1=false)∨∃ (a:Addr) (oa:Obj),o1=rawInt (a:Nat)∧h'.get? a=some oa∧a≠it)→h'.get? s.heap.objs.size=some { cls:=.type "tuple",data:=.seq #[e.key,e.val] }→h'.objs.size=s.heap.objs.size + 1 →
   (∀ b o,b≠it→s.heap.get? b=some o→h'.get? b=some o)→(∀ a:Addr,o1=rawInt (a:Nat)→a=s.heap.objs.size∨o0=rawInt (a:Nat))→Q (some (.ref s.heap.objs.size)) { s with heap:=h' }):wpAny (model P w) A (pyNext (.ref it)) Q E s:=by
 obtain ⟨hp,g,dr,tk,os⟩:=s;obtain ⟨od,hod,hcd,hdd⟩:=id hm
 have T:Shared.TypeIs ⟨hp,g,dr,tk,os⟩ (.ref it) "dict_itemiterator":=⟨_,hit,rfl⟩
 unfold pyNext;refine wpAny_bind (wpAny_attempt (wpAny_callSpecial?_slot (name:=Str.ofString "__next__") T F.slot_dict_itemiterator_next (wpAny_call_entry F.slot_dict_itemiterator_next T F.entry_dict_itemiterator_next ?_ (F.args_dict_itemiterator_next_1 _))))
 refine wpAny_bind (wpAny_pure ?_);refine wpAny_bind ?_;refine wpAny_bind ?_
 first | (refine wpAny_bind (wpAny_typeNameOfWhole_itemiter T (wpAny_pure ?_))) | (refine wpAny_bind (wpAny_typeNameOf_itemiter T (wpAny_pure ?_)))
 refine wpAny_bind (wpAny_fieldsOf hit rfl ?_);have own:Builtin.Dict_items.ownsTuple "dict_itemiterator"=true:=by decide
 simp only [own,if_true];show wpAny _ _ (if (Value.ref d == Value.none)=true then _ else _) _ _ _
 rw [if_neg (show ¬ ((Value.ref d == Value.none)=true) from Bool.false_ne_true)];refine wpAny_bind (wpAny_pure ?_);refine wpAny_bind (wpAny_dictEntries hod hdd ?_)
 rw [if_neg (by simp)];refine wpAny_bind (wpAny_pure ?_);refine wpAny_bind (wpAny_dictEpoch hod hdd ?_);rw [if_neg (by simp)];refine wpAny_pure ?_
 simp only [show ¬ ((i:Int) < 0) from by omega,if_false,Int.toNat_natCast,hx];refine wpAny_bind ?_
 first | (refine wpAny_bind (wpAny_typeNameOfWhole_itemiter T (wpAny_pure ?_))) | (refine wpAny_bind (wpAny_typeNameOf_itemiter T (wpAny_pure ?_)))
 refine wpAny_bind (wpAny_isOneOf_itemiter T ?_);show wpAny _ _ (setField (.ref it) 3 (rawInt ((i:Int) + 1)) >>= _) _ _ ⟨hp,g,dr,tk,os⟩
 refine wpAny_bind (wpAny_setField_rec hit (by simp) fun h₁ e1 s1=>?_)
 replace s1:Heap.SameBut it hp h₁:=s1
 replace e1:ItA h₁ it d (i + 1) es.size ep o0 f ok ov:=by
  have z:((i + 1:Nat):Int)=(i:Int) + 1:=by omega
  unfold ItA;rw [z];simpa [rawInt] using e1
 have T1:Shared.TypeIs ⟨h₁,g,dr,tk,os⟩ (.ref it) "dict_itemiterator":=⟨_,e1,rfl⟩
 refine wpAny_bind (wpAny_holding ?_);refine wpAny_bind (wpAny_isOneOf_itemiter T1 ?_);refine wpAny_bind (wpAny_isOneOf_itemiter T1 ?_)
 show wpAny _ _ (Builtin.Dict_items.pairFromOwner (.ref it) 6 e.key e.val) _ _ ⟨h₁,g,dr,tk,os⟩
 unfold Builtin.Dict_items.pairFromOwner;refine wpAny_bind (wpAny_newTuple ?_)
 have e2:ItA (h₁.push { cls:=.type "tuple",data:=.seq #[e.key,e.val] }) it d (i + 1) es.size ep o0 f ok ov:=Heap.get?_push_of_some _ e1
 generalize hg:h₁.push { cls:=.type "tuple",data:=.seq #[e.key,e.val] }=h₂ at e2
 have z1:h₁.objs.size=hp.objs.size:=s1.1;have il:it < hp.objs.size:=Heap.lt_size hit
 have t2:h₂.get? hp.objs.size=some { cls:=.type "tuple",data:=.seq #[e.key,e.val] }:=by rw [← hg,← z1];exact Heap.get?_push_size _ rfl
 have z2:h₂.objs.size=hp.objs.size + 1:=by rw [← hg,Heap.size_push,z1]
 have k2:∀ b o,b≠it→hp.get? b=some o→h₂.get? b=some o:=fun b o hb z=>by rw [← hg];exact Heap.get?_push_of_some _ (s1.extBut b o hb z)
 show wpAny _ _ (Builtin.Dict_items.ownedTupleIsFree (.ref it) >>= _) _ _ ⟨h₂,g,dr,tk,os⟩;rw [z1]
 clear hg e1 s1 T1 z1 h₁;refine wpAny_bind ?_;unfold Builtin.Dict_items.ownedTupleIsFree
 rcases ho0 with ⟨rfl,rfl⟩ | ⟨a,oa,rfl,ha,hai⟩
 ·refine wpAny_bind (wpAny_field e2 rfl (x:=.none) rfl (wpAny_pure ?_));simp only [if_true]
  refine wpAny_bind (wpAny_field e2 rfl (x:=ok) rfl ?_);refine wpAny_bind (wpAny_field e2 rfl (x:=ov) rfl ?_)
  refine wpAny_bind (wpAny_setField_rec e2 (by simp) fun h₃ e3 s3=>?_);replace s3:Heap.SameBut it h₂ h₃:=s3;replace e3:ItA h₃ it d (i + 1) es.size ep .none false e.key ov:=e3
  refine wpAny_bind (wpAny_setField_rec e3 (by simp) fun h₄ e4 s4=>?_);replace s4:Heap.SameBut it h₃ h₄:=s4;replace e4:ItA h₄ it d (i + 1) es.size ep .none false e.key e.val:=e4
  refine wpAny_bind (wpAny_setField_rec e4 (by simp) fun h₅ e5 s5=>?_);replace s5:Heap.SameBut it h₄ h₅:=s5;replace e5:ItA h₅ it d (i + 1) es.size ep (rawInt (hp.objs.size:Nat)) false e.key e.val:=e5
  refine wpAny_bind (wpAny_setField_rec e5 (by simp) fun h₆ e6 s6=>?_);replace s6:Heap.SameBut it h₅ h₆:=s6;replace e6:ItA h₆ it d (i + 1) es.size ep (rawInt (hp.objs.size:Nat)) false e.key e.val:=e6
  have k6:∀ b o,b≠it→h₂.get? b=some o→h₆.get? b=some o:=fun b o hb z=>s6.extBut b o hb (s5.extBut b o hb (s4.extBut b o hb (s3.extBut b o hb z)))
  have t6:=k6 _ _ (Nat.ne_of_gt il) t2
  refine wpAny_bind (wpAny_letGo (wpAny_pure (wpAny_pure ⟨_,rfl,wpAny_pure (q h₆ _ _ _ _ e6 (.inr ⟨_,_,rfl,t6,Nat.ne_of_gt il⟩) t6 ?_ (fun b o hb z=>k6 b o hb (k2 b o hb z)) fun a z=>?_)⟩)))
  ·show h₆.objs.size=hp.objs.size + 1;rw [s6.1,s5.1,s4.1,s3.1,z2]
  ·refine .inl ?_
   have z':(Value.int (hp.objs.size:Nat) 0:Value)=Value.int (a:Nat) 0:=z
   have z'':((hp.objs.size:Nat):Int)=((a:Nat):Int):=by injection z'
   exact (Int.ofNat.inj z'').symm
 ·refine wpAny_bind (wpAny_field e2 rfl (x:=rawInt (a:Nat)) rfl ?_);show wpAny _ _ (loadIfAlive (((a:Nat):Int).toNat) >>= _) _ _ _;rw [Int.toNat_natCast]
  have a2:h₂.get? a=some oa:=k2 a oa hai ha
  refine wpAny_bind (PySem.W.kdx_alive a2 ?_);simp only [Option.isNone_some,Bool.false_eq_true,if_false];refine wpAny_bind (wpAny_field e2 rfl (x:=.bool f) rfl ?_)
  cases f with
  | true =>
   rw [if_neg (show ¬ ((Value.bool true != Value.bool true)=true) from Bool.false_ne_true)];refine wpAny_pure ?_;simp only [Bool.false_eq_true,if_false]
   exact wpAny_pure (wpAny_pure ⟨_,rfl,wpAny_pure (q h₂ _ _ _ _ e2 (.inr ⟨_,_,rfl,a2,hai⟩) t2 z2 k2 fun a z=>.inr z)⟩)
  | false =>
   rw [if_pos (show (Value.bool false != Value.bool true)=true from rfl)];refine wpAny_bind (wpAny_setField_rec e2 (by simp) fun h₃ e3 s3=>?_)
   replace s3:Heap.SameBut it h₂ h₃:=s3;replace e3:ItA h₃ it d (i + 1) es.size ep (rawInt (a:Nat)) true ok ov:=e3
   refine wpAny_pure ?_;simp only [Bool.false_eq_true,if_false]
   exact wpAny_pure (wpAny_pure ⟨_,rfl,wpAny_pure (q h₃ _ _ _ _ e3 (.inr ⟨_,_,rfl,s3.extBut _ _ hai a2,hai⟩) (s3.extBut _ _ (Nat.ne_of_gt il) t2) (by show h₃.objs.size=_;rw [s3.1,z2]) (fun b o hb z=>s3.extBut b o hb (k2 b o hb z)) fun a z=>.inr z)⟩)
theorem VT {it d:Addr} {i ep:Nat} {es:Array DictEntry} {o0 ok ov:Value} {f:Bool} {Q:Option Value→Shared→Prop} (hh:A.handled=none) (hit:ItA s.heap it d i es.size ep o0 f ok ov) (hm:RawD s.heap d es ep) (hx:es.size≤i)
  (q:∀ h',Heap.ExtBut it s.heap h'→Q none { s with heap:=h' }):wpAny (model P w) A (pyNext (.ref it)) Q E s:=by
 obtain ⟨od,hod,hcd,hdd⟩:=id hm;have T:s.TypeIs (.ref it) "dict_itemiterator":=⟨_,hit,rfl⟩
 unfold pyNext;refine wpAny_bind (wpAny_attempt (wpAny_callSpecial?_slot (name:=Str.ofString "__next__") T F.slot_dict_itemiterator_next (wpAny_call_entry F.slot_dict_itemiterator_next T F.entry_dict_itemiterator_next ?_ (F.args_dict_itemiterator_next_1 _))))
 refine wpAny_bind (wpAny_pure ?_);refine wpAny_bind ?_;refine wpAny_bind ?_
 first | (refine wpAny_bind (wpAny_typeNameOfWhole_itemiter T (wpAny_pure ?_))) | (refine wpAny_bind (wpAny_typeNameOf_itemiter T (wpAny_pure ?_)))
 refine wpAny_bind (wpAny_fieldsOf hit rfl ?_);have own:Builtin.Dict_items.ownsTuple "dict_itemiterator"=true:=by decide
 simp only [own,if_true];show wpAny _ _ (if (Value.ref d == Value.none)=true then _ else _) _ _ s
 rw [if_neg (show ¬ ((Value.ref d == Value.none)=true) from Bool.false_ne_true)];refine wpAny_bind (wpAny_pure ?_);refine wpAny_bind (wpAny_dictEntries hod hdd ?_)
 rw [if_neg (by simp)];refine wpAny_bind (wpAny_pure ?_);refine wpAny_bind (wpAny_dictEpoch hod hdd ?_);rw [if_neg (by simp)];refine wpAny_pure ?_
 simp only [show ¬ ((i:Int) < 0) from by omega,if_false,Int.toNat_natCast,Array.getElem?_eq_none hx];refine wpAny_bind ?_
 first | (refine wpAny_bind (wpAny_typeNameOfWhole_itemiter T (wpAny_pure ?_))) | (refine wpAny_bind (wpAny_typeNameOf_itemiter T (wpAny_pure ?_)))
 show wpAny _ _ (setField (.ref it) 2 .none >>= _) _ _ s;refine wpAny_bind (wpAny_setField hit rfl (by simp) ?_)
 show wpAny _ _ (newExc (.type "StopIteration") [] >>= _) _ _ _;refine wpAny_bind ?_;simp only [newExc,newTuple];refine wpAny_bind (wpAny_newObj_type ?_ (by size_fits))
 refine wpAny_bind (m:=firstArgMember _ _) (wpAny_of_eq (a:=Value.none) (by first | rfl | (simp only [firstArgMember];rfl)) ?_);refine wpAny_newObj_type ?_ (by size_fits)
 simp only [raiseNew];refine wpAny_bind (wpAny_handled ?_);rw [show A.in1.handled=none from hh];refine wpAny_bind (wpAny_pure (wpAny_throw ?_))
 refine wpAny_bind (wpAny_isInstance (T:="StopIteration") (b:=true) ⟨_,Heap.get?_push_size _ rfl,rfl⟩ isSubtype_stop ?_);exact wpAny_pure (q _ (((Heap.SameBut.update ..).extBut.push _).push _))
end
end L2
namespace L2
open PySem PySem.Spec PyProof.Rows
def jN (r d:Addr):HO:=.ext fun h=>h.IsItemsView r d
def wJ (td:TE):TE:=fun σ H Q=>td σ H fun x H1=>∃ d kvs,x=.ref d∧H1 d=some (.dT kvs)∧∀ r,H1 r=none→Q (.ref r) (upd H1 r (jN r d))
section
variable {X:Cx} {o:Expr} {apos cpos:Pos} {td:TE}
theorem X6 (ho:PE X o td) (hbase:attributeBase o "items" X.env (eval o X.env)=eval o X.env:=by rfl) (hline:(apos.endLine == cpos.line)=true:=by rfl):PE X (.Call (.Attribute o "items" apos) [] [] cpos) (wJ td):=by
 intro pins s σ H Q I h
 refine wpAny_Call_method0_late hbase hline (thn (ho pins s σ H _ I h) fun v s1 ⟨x,H1,I1,r1,d,kvs,ex,hd,q1⟩=>?_)
 subst ex
 obtain rfl:v=Value.ref d:=r1
 obtain ⟨t1,t2,t3⟩:=WU I1 (.inr ⟨kvs,.inl hd⟩)
 refine ⟨"dict","dict.items",PySem.F.plainAttrs_dict,PySem.F.slot_dict_items,PySem.F.type_dict_items,t1,t2,Calls.callWith_builtin rfl (PySem.evalArgs_none ?_)⟩
 refine wpAny_call_entry PySem.F.slot_dict_items t1 PySem.F.entry_dict_items ?_ (PySem.F.args_dict_items_1 _)
 unfold Builtin.«dict.items»;refine wpAny_bind ?_;unfold Builtin.Dict.noArgs;refine wpAny_bind (wpAny_notOrdered_dict t1 ?_)
 show wpAny _ _ (pure d) _ _ s1;refine wpAny_pure ?_
 show wpAny _ _ (Builtin.Dict.showsAll d >>= _) _ _ s1;unfold Builtin.Dict.showsAll
 rw [if_neg (by rw [t3];exact Bool.false_ne_true)];refine wpAny_bind (wpAny_pure ?_)
 refine wpAny_bind (wpAny_newObj_type (wpAny_pure ⟨_,rfl,?_⟩))
 have hn:H1 s1.heap.objs.size=none:=I1.hok.fresh (Nat.le_refl _)
 have at0:(s1.heap.push { cls:=.type "dict_items",data:=.fields #[.ref d] }).get? s1.heap.objs.size=some { cls:=.type "dict_items",data:=.fields #[.ref d] }:=Heap.get?_push_size _ rfl
 refine ⟨.ref s1.heap.objs.size,_,I1.laid (a:=s1.heap.objs.size) (o:=jN s1.heap.objs.size d) (t':=s1.toks) (fun b u e=>Heap.get?_push_of_some _ e) (Nat.le_refl _) ?_,rfl,q1 _ hn⟩
 exact ⟨⟨_,at0,rfl,rfl⟩,⟨_,at0⟩,fun h1 h2 ⟨o,e1,e2⟩ k=>⟨o,k o e1,e2⟩⟩
end
def kA (H:Hp) (v:V) (kv:List Key × V):Prop:=∃ r p,v=.ref r∧H r=some (.tup [.ref p,kv.2])∧H p=some (.tup (kv.1.map kV))
theorem X7 {H H':Hp} (s:∀ b ys,H b=some (.tup ys)→H' b=some (.tup ys)):∀ {vs:List V} {kvs:List (List Key × V)},Paired (kA H) vs kvs→Paired (kA H') vs kvs
 | _,_,.nil=>.nil
 | _,_,.cons ⟨r,p,e,h1,h2⟩ t=>.cons ⟨r,p,e,s _ _ h1,s _ _ h2⟩ (X7 s t)
theorem X8 {H:Hp} {v:V} {q:List Key × V}:∀ {ys:List V} {kvs:List (List Key × V)},Paired (kA H) ys kvs→kA H v q→Paired (kA H) (ys ++ [v]) (kvs ++ [q])
 | _,_,.nil,h=>.cons h .nil
 | _,_,.cons a r,h=>.cons a (X8 r h)
section
variable {X:Cx} {A:Around} {R:Result→Shared→Prop}
theorem KC {pins:List (Addr × Obj)} {σ:St} {H:Hp} {S it d:Addr} {kvs:List (List Key × V)} {es:Array DictEntry} {ep:Nat} {res:Value} (hh:A.handled=none) (hS:H S=none) (hd:H d=some (.dT kvs)) (Sit:S≠it) (dit:d≠it) (hz:kvs.length≤1000)
  (hes:es.size=kvs.length) (hen:∀ (i:Nat) (e:DictEntry) (kv:List Key × V),es[i]?=some e→kvs[i]?=some kv→∃ p,e.key=.ref p∧H p=some (.tup (kv.1.map kV))∧RelV kv.2 e.val) (fin:∀ s' H' ys,Inv X pins σ H' s'→Same H H'→H' S=some (.lst ys)→Paired (kA H') ys kvs→R (.ok (.ret res)) s') :
  ∀ (k i:Nat) (s:Shared) (Hi:Hp) (ys:List V) (o0 ok ov:Value) (f:Bool),kvs.length - i=k→i≤kvs.length→Inv X pins σ Hi s→Same H Hi→Hi S=some (.lst ys)→Paired (kA Hi) ys (kvs.take i)→RawD s.heap d es ep→ItA s.heap it d i es.size ep o0 f ok ov →
  ((o0=.none∧f=false)∨∃ (a:Addr) (oa:Obj),o0=rawInt (a:Nat)∧s.heap.get? a=some oa∧a≠it∧a≠S)→v0 X pins Hi it →
  codeAny (model X.prog X.w) A (.builtin "list.extend.loop" ⟨[.ref S,.ref it,res],[]⟩) R s:=by
 intro k
 induction k with
 | zero =>
  intro i s Hi ys o0 ok ov f hk hi I sm hy pr rd hit ho0 hf
  have e:i=kvs.length:=by omega
  subst e
  refine codeAny_builtin PySem.F.entry_extend_loop ?_;rw [Around.under_plainId PySem.F.plain_extend_loop _]
  show wpAny _ A.in1 (pyNext (.ref it) >>= _) _ _ s
  obtain ⟨f0,f1,f2,f3,f4,f5⟩:=hf
  refine wpAny_bind (VT (A:=A.in1) hh hit rd (by omega) fun h' eb=>?_)
  have I1:=I.turned (t':=s.toks) (fun b o hb e=>eb b o hb e) f0 f1 f3 f4 f5
  rw [List.take_length] at pr
  exact wpAny_pure (fin _ Hi ys I1 sm hy pr)
 | succ k ih =>
  intro i s Hi ys o0 ok ov f hk hi I sm hy pr rd hit ho0 hf
  have hlt:i < kvs.length:=by omega
  have hx:es[i]?=some es[i]:=Array.getElem?_eq_getElem (by omega)
  have hkv:kvs[i]?=some kvs[i]:=List.getElem?_eq_getElem hlt
  obtain ⟨p,ek,hp,rv⟩:=hen i _ _ hx hkv
  refine codeAny_builtin PySem.F.entry_extend_loop ?_;rw [Around.under_plainId PySem.F.plain_extend_loop _]
  show wpAny _ A.in1 (pyNext (.ref it) >>= _) _ _ s
  obtain ⟨f0,f1,f2,f3,f4,f5⟩:=id hf
  have ho0':(o0=.none∧f=false)∨∃ (a:Addr) (oa:Obj),o0=rawInt (a:Nat)∧s.heap.get? a=some oa∧a≠it:=by
   rcases ho0 with z | ⟨a,oa,z1,z2,z3,_⟩
   ·exact .inl z
   ·exact .inr ⟨a,oa,z1,z2,z3⟩
  refine wpAny_bind (KB (A:=A.in1) hit rd hx ho0' fun h' o1 f1' k1 v1 hit' ho1 ht hz' kp own=>?_)
  have Sl:S < s.heap.objs.size:=by
   obtain ⟨_,_,_,_,e⟩:=(show ObjOk X.prog X.w Hi s.heap S (.lst ys) from I.hok S _ hy)
   exact Heap.lt_size e
  have tn:s.heap.objs.size≠it:=Nat.ne_of_gt (Heap.lt_size hit)
  have hTn:Hi s.heap.objs.size=none:=I.hok.fresh (Nat.le_refl _)
  have STn:S≠s.heap.objs.size:=Nat.ne_of_lt Sl
  generalize hT:s.heap.objs.size=T at *
  have I6:Inv X pins σ (upd Hi T (.tup [.ref p,kvs[i].2])) { s with heap:=s.heap.push { cls:=.type "tuple",data:=.seq #[es[i].key,es[i].val] } } :=
   I.laid (a:=T) (o:=.tup [.ref p,kvs[i].2]) (t':=s.toks) (fun b u e=>Heap.get?_push_of_some _ e) (by rw [hT];exact Nat.le_refl _) ⟨by show 2≤sizeLine;decide,[es[i].key,es[i].val],.cons (by rw [ek];exact rfl) (.cons rv .nil),⟨_,by rw [← hT];exact Heap.get?_push_size _ rfl,rfl,_,rfl⟩⟩
  have S6:Same Hi (upd Hi T (.tup [.ref p,kvs[i].2])):=isV T hTn
  have I7:Inv X pins σ (upd Hi T (.tup [.ref p,kvs[i].2])) { s with heap:=h' }:=I6.turned (s:={ s with heap:=s.heap.push { cls:=.type "tuple",data:=.seq #[es[i].key,es[i].val] } }) (t':=s.toks) (fun b o hb e=>by
   rcases Heap.get?_push_cases (show (s.heap.push { cls:=.type "tuple",data:=.seq #[es[i].key,es[i].val] }).get? b=some o from e) with ⟨rfl,rfl⟩ | e
   ·rw [hT];exact ht
   ·exact kp b o hb e) (by rw [zl (Ne.symm tn)];exact f0) f1 f3 f4 f5
  have hy7:(upd Hi T (.tup [.ref p,kvs[i].2])) S=some (.lst ys):=S6 _ _ hy
  obtain ⟨z,its,n,r,hl,e⟩:=I7.lstM hy7
  have yl:ys.length=i:=by
   have:=Paired.length pr
   rw [List.length_take] at this
   omega
  show wpAny _ A.in1 (updateSeq S (·.push (Value.ref T)) >>= _) _ _ _
  have e':h'.get? S=some { cls:=.type "list",data:=.seq its.toArray n }:=e
  refine wpAny_bind (wpAny_updateSeq (s:={ s with heap:=h' }) e' rfl ?_ (by rw [List.size_toArray,← r.length,yl];exact Nat.le_trans (by omega:i≤1000) (by decide)) (by rw [Array.size_push,List.size_toArray,← r.length,yl];exact Nat.le_trans (by omega:i + 1≤1001) (by decide)))
  have I8:=I7.lset (f:=fun xs=>xs.push (Value.ref T)) (t':=s.toks) (its':=its ++ [Value.ref T]) hy7 e' (by simp) (r.append (.cons (show RelV (.ref T) (.ref T) from rfl) .nil)) (by rw [List.length_append,yl];exact Nat.le_trans (by show i + 1≤1001;omega) (by decide))
  have up:∀ b o,b≠S→h'.get? b=some o→(h'.update S (Obj.mapSeq (·.push (Value.ref T)))).get? b=some o:=fun b o hb z=>(Heap.get?_update_other _ _ (Ne.symm hb)).trans z
  have dS:d≠S:=zG hd hS
  have tS:∀ b zs,Hi b=some (.tup zs)→(upd (upd Hi T (.tup [.ref p,kvs[i].2])) S (.lst (ys ++ [.ref T]))) b=some (.tup zs):=fun b zs z=>by
   rw [zl (yI z hy (by intro z;cases z))];exact S6 _ _ z
  have ri:∀ {a b:Nat},(rawInt (a:Int):Value)=rawInt (b:Int)→a=b:=fun {a b} z=>by
   have z':(Value.int (a:Int) 0:Value)=Value.int (b:Int) 0:=z
   have z'':(a:Int)=(b:Int):=by injection z'
   exact Int.ofNat.inj z''
  refine wpAny_pure ⟨plainId_quiet PySem.F.plain_extend_loop _,ih (i + 1) _ _ (ys ++ [.ref T]) o1 k1 v1 f1' (by omega) hlt I8 (fun b o z=>?_) zf ?_ (rd.at fun o z=>up d o dS (kp d o dit z)) (up it _ (Ne.symm Sit) hit') ?_ ⟨?_,f1,f2,f3,f4,f5⟩⟩
  ·rw [zl (zG z hS)];exact S6 _ _ (sm _ _ z)
  ·rw [List.take_add_one,hkv]
   exact X8 (X7 tS pr) ⟨T,p,rfl,by rw [zl (Ne.symm STn),zf],tS _ _ (sm _ _ hp)⟩
  ·rcases ho1 with z | ⟨a,oa,z1,z2,z3⟩
   ·exact .inl z
   ·have aS:a≠S:=by
     rcases own a z1 with z | z
     ·rw [z];exact Ne.symm STn
     ·rcases ho0 with ⟨y1,_⟩ | ⟨a',oa',y1,_,_,y4⟩
      ·rw [y1] at z;cases z
      ·rw [y1] at z
       rw [← ri z];exact y4
    exact .inr ⟨a,oa,z1,up a _ aS z2,z3,aS⟩
  ·rw [zl (Ne.symm Sit),zl (Ne.symm tn)];exact f0
end
end L2
namespace L2
open PySem PySem.Spec PyProof.Rows
abbrev X9:RC:=fun vs H Q=>∃ r d kvs,vs=[.ref r]∧H r=some (jN r d)∧H d=some (.dT kvs)∧kvs.length≤1000∧∀ l ys H',Same H H'→H l=none→H' l=some (.lst ys)→Paired (kA H') ys kvs→Q (.ref l) H'
theorem QS {P:Program} {w:World} {H:Hp} {h:Heap} {r d:Addr} (k:HOk P w H h) (e:H r=some (jN r d)):h.IsItemsView r d:=(k r _ e).1
theorem QT {H:Hp}:∀ {kvs:List (List Key × V)} {xs:List (List Key × Addr × Value)},Paired (fun (p:List Key × V) (q:List Key × Addr × Value)=>p.1=q.1∧H q.2.1=some (.tup (p.1.map kV))∧RelV p.2 q.2.2) kvs xs→∀ {i:Nat} {kv:List Key × V} {x:List Key × Addr × Value},kvs[i]?=some kv→xs[i]?=some x→H x.2.1=some (.tup (kv.1.map kV))∧RelV kv.2 x.2.2 :=
 fun {_ _} h {_ _ _} e1 e2=>(yv h e1 e2).2
section
variable {X:Cx}
theorem zaO {pins:List (Addr × Obj)} {σ:St} {H:Hp} {s:Shared} {d:Addr} {kvs:List (List Key × V)} (I:Inv X pins σ H s) (e:H d=some (.dT kvs)):∃ es ep,RawD s.heap d es ep∧es.size=kvs.length ∧
  ∀ (i:Nat) (en:DictEntry) (kv:List Key × V),es[i]?=some en→kvs[i]?=some kv→∃ p,en.key=.ref p∧H p=some (.tup (kv.1.map kV))∧RelV kv.2 en.val:=by
 obtain ⟨z,hd,xs,rel,o,es,ep,h1,h2,h3,h4,_⟩:=(show ObjOk X.prog X.w H s.heap d (.dT kvs) from I.hok d _ e)
 have l1:es.size=xs.length:=by rw [← Array.length_toList,h4,List.length_map]
 refine ⟨es,ep,⟨o,h1,h2,h3⟩,by rw [l1,← Paired.length rel],fun i en kv e1 e2=>?_⟩
 have e3:es.toList[i]?=some en:=by rw [Array.getElem?_toList];exact e1
 rw [h4,List.getElem?_map] at e3
 obtain ⟨x,hx,rfl⟩:=Option.map_eq_some_iff.mp e3
 obtain ⟨g1,g2⟩:=QT rel e2 hx
 exact ⟨x.2.1,rfl,g1,g2⟩
theorem YD {A:Around} {R:Result→Shared→Prop} {pins:List (Addr × Obj)} {σ:St} {H:Hp} {s:Shared} {S r d:Addr} {kvs:List (List Key × V)} {res:Value} {c:Nat} (hh:A.handled=none) (hS:H S=none) (hr:H r=some (jN r d)) (hd:H d=some (.dT kvs)) (hl:kvs.length≤1000)
  (I2:Inv X pins σ (upd H S (.lst [])) s) (T2:s.heap.get? S=some { cls:=.type "list",data:=.seq #[] c }) (hR:∀ s' H' ys,Inv X pins σ H' s'→Same H H'→H' S=some (.lst ys)→Paired (kA H') ys kvs→R (.ok (.ret res)) s') :
  wpAny (model X.prog X.w) A.in1 (Builtin.List.listExtendWith (.ref S) (.ref r) res) (fun fin s'=>match fin with | .done f=>R (.ok f) s' | .again c'=>c'.quiet=true∧codeAny (model X.prog X.w) A c' R s') (fun e s'=>R (.error e) s') s:=by
 have Sr:r≠S:=zG hr hS
 have Sd:d≠S:=zG hd hS
 have SS:Same H (upd H S (.lst [])):=isV S hS
 obtain ⟨es,ep,rd,hes,hen0⟩:=zaO I2 (SS _ _ hd)
 have hen:∀ (i:Nat) (en:DictEntry) (kv:List Key × V),es[i]?=some en→kvs[i]?=some kv→∃ p,en.key=.ref p∧H p=some (.tup (kv.1.map kV))∧RelV kv.2 en.val:=fun i en kv e1 e2=>by
  obtain ⟨p,g1,g2,g3⟩:=hen0 i en kv e1 e2
  refine ⟨p,g1,?_,g3⟩
  by_cases hp:p=S
  ·rw [hp,zf] at g2;cases g2
  ·rwa [zl hp] at g2
 have vw:=QS I2.hok (SS _ _ hr)
 unfold Builtin.List.listExtendWith
 refine wpAny_bind (wpAny_typeOf (T:="dict_items") vw.typeIs ?_)
 have c1:Builtin.List.listSameRef (.ref S) (.ref r)=false:=by simp [Builtin.List.listSameRef,Ne.symm Sr]
 have c2:(Value.type "dict_items" == Value.type "list")=false:=by decide
 have c3:(Value.type "dict_items" == Value.type "tuple")=false:=by decide
 simp only [c1,c2,c3,Bool.or_false,Bool.false_eq_true,if_false]
 refine wpAny_bind (X5 vw rd ?_)
 have ni:(upd H S (.lst [])) s.heap.objs.size=none:=I2.hok.fresh (Nat.le_refl _)
 have fp:v0 X pins (upd H S (.lst [])) s.heap.objs.size:=I2.fpOk (Nat.le_refl _) ni
 have Si:S≠s.heap.objs.size:=Nat.ne_of_lt (Heap.lt_size T2)
 have di:d≠s.heap.objs.size:=Nat.ne_of_lt rd.lt
 have I3:Inv X pins σ (upd H S (.lst [])) { s with heap:=s.heap.push { cls:=.type "dict_itemiterator",data:=.fields #[.none,.bool false,.ref d,.int 0 0,.int es.size 0,.int ep 0,.none,.none] } }:=I2.kept (t':=s.toks) fun b o e=>Heap.get?_push_of_some _ e
 have T3:=Heap.get?_push_of_some { cls:=.type "dict_itemiterator",data:=.fields #[.none,.bool false,.ref d,.int 0 0,.int es.size 0,.int ep 0,.none,.none] } T2
 have it3:ItA (s.heap.push { cls:=.type "dict_itemiterator",data:=.fields #[.none,.bool false,.ref d,.int 0 0,.int es.size 0,.int ep 0,.none,.none] }) s.heap.objs.size d 0 es.size ep .none false .none .none:=Heap.get?_push_size _ rfl
 have rd3:RawD (s.heap.push { cls:=.type "dict_itemiterator",data:=.fields #[.none,.bool false,.ref d,.int 0 0,.int es.size 0,.int ep 0,.none,.none] }) d es ep:=rd.at fun o e=>Heap.get?_push_of_some _ e
 have vw3:(s.heap.push { cls:=.type "dict_itemiterator",data:=.fields #[.none,.bool false,.ref d,.int 0 0,.int es.size 0,.int ep 0,.none,.none] }).IsItemsView r d:=let ⟨o,ho,x⟩:=vw;⟨o,Heap.get?_push_of_some _ ho,x⟩
 generalize hh3:s.heap.push { cls:=.type "dict_itemiterator",data:=.fields #[.none,.bool false,.ref d,.int 0 0,.int es.size 0,.int ep 0,.none,.none] }=h3 at *
 generalize s.heap.objs.size=it at *
 refine wpAny_bind (wpAny_holding (PySem.W.kdx_hint vw3.typeIs ?_))
 have fin:∀ (h4:Heap) (tk:Nat) (R:Result→Shared→Prop),(∀ s' H' ys,Inv X pins σ H' s'→Same H H'→H' S=some (.lst ys)→Paired (kA H') ys kvs→R (.ok (.ret res)) s')→Inv X pins σ (upd H S (.lst [])) { s with heap:=h4,toks:=tk }→RawD h4 d es ep→ItA h4 it d 0 es.size ep .none false .none .none →
   codeAny (model X.prog X.w) A (.builtin "list.extend.loop" ⟨[.ref S,.ref it,res],[]⟩) R { s with heap:=h4,toks:=tk }:=fun h4 tk R hR I4 rd4 it4 =>
  KC (A:=A) (H:=H) (es:=es) (ep:=ep) hh hS hd Si di hl hes hen hR kvs.length 0 _ (upd H S (.lst [])) [] .none .none .none false (Nat.sub_zero _) (Nat.zero_le _) I4 SS zf .nil rd4 it4 (.inl ⟨rfl,rfl⟩) fp
 refine wpAny_ite_split (fun _=>?_) (fun _=>wpAny_pure ⟨plainId_quiet PySem.F.plain_extend_loop _,fin h3 s.toks _ hR I3 rd3 it3⟩)
 refine wpAny_bind (wpAny_rule ?_);refine wpAny_bind ?_
 show wpAny _ _ (updateSeq S (·.push .none) >>= fun _=>updateSeq S (·.pop)) _ _ _;refine wpAny_bind (wpAny_updateSeq T3 rfl ?_)
 have T4:=Heap.get?_update_self (Obj.mapSeq (·.push Value.none)) T3 rfl
 refine wpAny_updateSeq (hz:=by seq_fits) T4 rfl ?_
 have I4:=I3.lset (f:=fun xs=>xs.push Value.none) (its:=[]) (its':=[Value.none]) (ys:=[V.non]) (t':=s.toks) zf T3 rfl (.cons rfl .nil) (by show 1≤sizeLine;decide)
 have I5:=I4.lset (f:=fun xs=>xs.pop) (its:=[Value.none]) (its':=[]) (ys:=[]) (t':=s.toks) zf T4 rfl .nil (Nat.zero_le _)
 rw [qy,qy] at I5
 have oth:∀ b o,b≠S→h3.get? b=some o→((h3.update S (Obj.mapSeq (·.push Value.none))).update S (Obj.mapSeq (·.pop))).get? b=some o:=fun b o hb e=>(Heap.get?_update_other _ _ (Ne.symm hb)).trans ((Heap.get?_update_other _ _ (Ne.symm hb)).trans e)
 exact wpAny_pure ⟨plainId_quiet PySem.F.plain_extend_loop _,fin _ s.toks _ hR I5 (rd3.at fun o e=>oth d o Sd e) (oth it _ (Ne.symm Si) it3)⟩
theorem qu (hc:X.calm=true):vp X (.type "list") X9:=by
 intro pins s σ H vs us Q I r0 h
 obtain ⟨r,d,kvs,rfl,hr,hd,hl,q⟩:=h
 obtain ⟨u,rfl,ru⟩:=kc r0
 cases ru
 have hh:X.A.handled=none:=I.ok.hd hc
 refine callType_codes (Q₁:=fun obj s₁=>obj=.ref s.heap.objs.size∧s₁={ s with heap:=s.heap.push { cls:=.type "list",data:=.seq #[] } }) PySem.F.called_list (PySem.F.typeCall_list_1 _) PySem.F.entry_list_init (code_list_new _ ⟨rfl,rfl⟩) ?_;rintro obj s₁ ⟨rfl,rfl⟩
 have hS:H s.heap.objs.size=none:=I.hok.fresh (Nat.le_refl _)
 have I1:Inv X pins σ (upd H s.heap.objs.size (.lst [])) { s with heap:=s.heap.push { cls:=.type "list",data:=.seq #[] } }:=I.lnew (its:=[]) (t':=s.toks) .nil (Nat.zero_le _)
 have T0:(s.heap.push { cls:=.type "list",data:=.seq #[] }).get? s.heap.objs.size=some { cls:=.type "list",data:=.seq #[] }:=Heap.get?_push_size _ rfl
 generalize hT:s.heap.objs.size=S at *
 refine ⟨⟨_,T0,rfl⟩,PySem.F.args_list_init_2 _ _,?_⟩
 show wpAny _ _ (do let old ← Builtin.List.listItems (.ref S);Builtin.List.listUpdate (.ref S) (fun _=>#[]);letGo old.toList.reverse;Builtin.List.listExtendWith (.ref S) (.ref r) .none) _ _ _
 refine wpAny_bind ?_;unfold Builtin.List.listItems;refine wpAny_bind (wpAny_seqItems T0 rfl (wpAny_pure ?_))
 show wpAny _ _ (updateSeq S (fun _=>#[]) >>= fun _=>letGo (#[]:Array Value).toList.reverse >>= fun _=>Builtin.List.listExtendWith (.ref S) (.ref r) .none) _ _ _
 refine wpAny_bind (wpAny_updateSeq T0 rfl ?_)
 have I2:=I1.lset (f:=fun _=>(#[]:Array Value)) (its:=[]) (its':=[]) (ys:=[]) (t':=s.toks) zf T0 rfl .nil (Nat.zero_le _)
 rw [qy] at I2
 have T2:=Heap.get?_update_self (Obj.mapSeq (fun _=>(#[]:Array Value))) T0 rfl
 refine wpAny_bind (wpAny_letGo ?_)
 generalize hh2:(s.heap.push { cls:=.type "list",data:=.seq #[] }).update S (Obj.mapSeq (fun _=>(#[]:Array Value)))=h2 at *
 exact YD (A:=X.A.in1) (H:=H) hh hS hr hd hl I2 T2 fun s' H' ys I' sm hy pr=>⟨rfl,.ref S,H',I',rfl,q S ys H' sm hS hy pr⟩
end
end L2
namespace L2
open PySem PySem.Spec PyProof.Rows PySem.W
section
variable {X:Cx}
theorem W1 {A:Around} {E:Value→Shared→Prop} {R:List Value→Shared→Prop} {pins:List (Addr × Obj)} {σ:St} {H:Hp} {s:Shared} {r d:Addr} {kvs:List (List Key × V)} (hh:A.handled=none) (hr:H r=some (jN r d)) (hd:H d=some (.dT kvs)) (hl:kvs.length≤1000) (I:Inv X pins σ H s)
  (h:∀ s1 H' ys us,Inv X pins σ H' s1→Same H H'→Paired (kA H') ys kvs→Vals ys us→R us s1):wpAny (model X.prog X.w) A (collect (.ref r)) R E s:=by
 have hS:H s.heap.objs.size=none:=I.hok.fresh (Nat.le_refl _)
 have I1:Inv X pins σ (upd H s.heap.objs.size (.lst [])) { s with heap:=s.heap.push { cls:=.type "list",data:=.seq ([]:List Value).toArray } }:=I.lnew (its:=[]) (t':=s.toks) .nil (Nat.zero_le _)
 have T1:(s.heap.push { cls:=.type "list",data:=.seq ([]:List Value).toArray }).get? s.heap.objs.size=some { cls:=.type "list",data:=.seq #[] }:=Heap.get?_push_size _ rfl
 unfold collect;refine wpAny_bind (wpAny_runValue (codeAny_builtin entry_proto_collect' ?_));rw [Around.under_plainId PySem.F.plain_proto_collect _]
 show wpAny _ A.in1 (newList [] >>= fun l=>again (.builtin "list.__iadd__" ⟨[l,.ref r],[]⟩)) _ _ s;refine wpAny_bind (wpAny_newObj_type ?_)
 refine wpAny_pure ⟨plainId_quiet PySem.F.plain_list_iadd _,codeAny_builtin entry_list_iadd' ?_⟩;rw [Around.under_plainId PySem.F.plain_list_iadd _]
 generalize s.heap.objs.size=S at *
 show wpAny _ A.in1 (Builtin.List.listExtendWith (.ref S) (.ref r) (.ref S)) _ _ _
 have key:=YD (A:=A) (R:=fun (q:Result) (s':Shared)=>∃ H' ys,q=.ok (.ret (.ref S))∧Inv X pins σ H' s'∧Same H H'∧H' S=some (.lst ys)∧Paired (kA H') ys kvs) (res:=.ref S) hh hS hr hd hl I1 T1 fun s' H' ys I' sm hy pr=>⟨H',ys,rfl,I',sm,hy,pr⟩
 have fin:∀ s':Shared,(∃ H' ys,Inv X pins σ H' s'∧Same H H'∧H' S=some (.lst ys)∧Paired (kA H') ys kvs)→wpAny (model X.prog X.w) A (load S >>= fun o=>match o.data with | .seq xs _=>pure xs.toList | _=>unsupported "internal:collect") R E s':=fun s' ⟨H',ys,I',sm,hy,pr⟩=>by
  obtain ⟨z,its,n,rv,hl',e⟩:=I'.lstM hy
  refine wpAny_bind (wpAny_load e ?_)
  refine wpAny_pure ?_
  exact h s' H' ys its I' sm pr rv
 refine wpAny_mono key (fun f s' x=>?_) fun e s' x=>?_
 ·cases f with
  | done f =>
   obtain ⟨H',ys,e,x⟩:=x
   cases e
   exact fin s' ⟨H',ys,x⟩
  | again c₁ =>
   refine ⟨x.1,codeAny_mono x.2 fun q s₂ y=>?_⟩
   obtain ⟨H',ys,rfl,y⟩:=y
   exact fin s₂ ⟨H',ys,y⟩
 ·obtain ⟨_,_,e',_⟩:=x
  cases e'
end
section
variable {P:Program} {w:World} {A:Around} {E:Value→Shared→Prop} {s:Shared}
theorem KD {x y:Addr} {a b:Str × Int} {Q:Bool→Shared→Prop} (hu:A.units < cLine) (hx:PlAt s.heap (.ref x) a) (hy:PlAt s.heap (.ref y) b) (h:Q (zT a b) s):wpAny (model P w) A (oneLt' false (.ref x) (.ref y)) Q E s:=by
 obtain ⟨p,o,t,u,n,e1,ho,hc,hd⟩:=hx
 obtain ⟨p2,o2,t2,u2,n2,e2,ho2,hc2,hd2⟩:=hy
 cases e1
 cases e2
 obtain ⟨c,dd,dat,sl⟩:=o
 obtain ⟨c2,dd2,dat2,sl2⟩:=o2
 simp only at hc hd hc2 hd2
 subst hc hd hc2 hd2
 have T1:s.TypeIs (.ref x) "tuple":=⟨_,ho,rfl⟩
 have T2:s.TypeIs (.ref y) "tuple":=⟨_,ho2,rfl⟩
 refine kat_one _ _ ?_
 show wpAny _ _ (richCompare .Lt (.ref x) (.ref y)) _ _ _
 refine wpAny_richCompare_same_room T1 T2 PySem.F.slot_tuple_lt ?_ hu
 exact call_meets PySem.F.slot_tuple_lt T1 PySem.F.entry_tuple_lt (PySem.F.args_tuple_lt_2 _ _) (Zk x y a.1 b.1 a.2 b.2 t u t2 u2 n n2 dd dd2 sl sl2) ⟨ho,ho2,by simp,h⟩
theorem KG {h:Heap} {x:Addr} {a:Str × Int} (hx:PlAt h (.ref x) a):IsTupleKey (yt P w) h (zI a) x:=by
 obtain ⟨p,o,t,u,n,e1,ho,hc,hd⟩:=hx
 cases e1
 exact ⟨o,_,n,ho,hc,hd,kO (ks:=zI a) (.cons ⟨t,rfl⟩ (.cons ⟨u,rfl⟩ .nil))⟩
def RvAt (h:Heap) (v:Value) (q:Row):Prop:=∃ a o p t n,v=.ref a∧h.get? a=some o∧o.cls=.type "tuple"∧o.data=.seq #[.ref p,.int q.2 t] n∧PlAt h (.ref p) q.1
theorem RvAt.keep {h h':Heap} {v:Value} {q:Row} (x:RvAt h v q) (k:∀ b o,h.get? b=some o→h'.get? b=some o):RvAt h' v q:=by
 obtain ⟨a,o,p,t,n,e,ho,hc,hd,hp⟩:=x
 exact ⟨a,o,p,t,n,e,k _ _ ho,hc,hd,hp.keep k⟩
theorem VU {x y:Value} {a b:Row} {Q:Bool→Shared→Prop} (hu:A.units < cLine) (hx:RvAt s.heap x a) (hy:RvAt s.heap y b) (h:Q (zT a.1 b.1) s) (hn:a.1≠b.1):wpAny (model P w) A (keyLt' (tuples' false) x y) Q E s:=by
 obtain ⟨p,o,pp,t,n,rfl,ho,hc,hd,hp⟩:=hx
 obtain ⟨p2,o2,pp2,t2,n2,rfl,ho2,hc2,hd2,hp2⟩:=hy
 refine kat_lt ho hd ho2 hd2 (kat_cons (wpAny_eqBool_tuple (knd:=yt P w) hu (KG hp) (KG hp2) (kat_go (fun e=>?_) fun e=>kat_no ?_)))
 ·exact absurd (xw (of_decide_eq_true e)) hn
 ·exact KD hu hp hp2 h
theorem Wa {vs:List Value} {qs:List Row} {Q:SortKind→Shared→Prop} (hl:vs.length=qs.length) (hv:∀ (i:Nat) (v:Value) (q:Row),vs[i]?=some v→qs[i]?=some q→RvAt s.heap v q) (h2:0 < vs.length) (h:Q (tuples' false) s) :
  wpAny (model P w) A (keyKind' vs.toArray) Q E s:=by
 have T:∀ (vs:List Value) (qs:List Row),vs.length=qs.length→(∀ (i:Nat) (v:Value) (q:Row),vs[i]?=some v→qs[i]?=some q→RvAt s.heap v q)→∃ fs,KatTups s.heap vs fs∧fs.length=vs.length∧∀ v∈fs,∃ p o,v=Value.ref p∧s.heap.get? p=some o∧o.cls=.type "tuple":=by
  intro vs
  induction vs with
  | nil=>exact fun qs _ _=>⟨[],trivial,rfl,fun _ z=>nomatch z⟩
  | cons v r ih =>
   intro qs hl hv
   match qs,hl with
   | q :: qr,hl =>
    obtain ⟨fs,k,kl,kf⟩:=ih qr (by simpa using hl) fun i v' q' e1 e2=>hv (i + 1) v' q' (by simpa using e1) (by simpa using e2)
    obtain ⟨a,o,p,t,n,rfl,ho,hc,hd,hp⟩:=hv 0 v q rfl rfl
    refine ⟨.ref p :: fs,KatTups.cons ho hc hd rfl k,by simp [kl],fun z hz=>?_⟩
    rcases List.mem_cons.mp hz with rfl | hz
    ·obtain ⟨p',o',_,_,_,e,g1,g2,_⟩:=hp
     cases e
     exact ⟨_,o',rfl,g1,g2⟩
    ·exact kf z hz
 obtain ⟨fs,k,kl,kf⟩:=T vs qs hl hv
 refine kat_kind (T:=.type "tuple") k (by omega) (fun v hv=>?_) (by decide) h
 obtain ⟨p,o,rfl,g1,g2⟩:=kf v hv
 exact g2 ▸ (PySem.W.Looks.ld g1).andThen .now
theorem Xd {l:Addr} {κ:SortKind} {Q:Value→Shared→Prop} (G:List Value→(Nat→Nat→Bool)→Shared→Prop)
  (coll:∀ R:List Value→Shared→Prop,(∀ vs lt s1,G vs lt s1→R vs s1)→wpAny (model P w) A.in1 (collect (.ref l)) R E s)
  (h64:∀ vs lt s1,G vs lt s1→vs.length < 1000∧SO lt vs.length)
  (hk:∀ vs lt s1,G vs lt s1→2≤vs.length→∀ (h:Heap) (Q:SortKind→Shared→Prop),(∀ b o,s1.heap.get? b=some o→h.get? b=some o)→Q κ { s1 with heap:=h }→wpAny (model P w) A.in1.in1 (keyKind' vs.toArray) Q (fun _ _=>False) { s1 with heap:=h })
  (hc:∀ vs lt s1,G vs lt s1→∀ (h:Heap) i j C,(∀ b o,s1.heap.get? b=some o→h.get? b=some o)→i < vs.length→j < vs.length→i≠j→C (lt i j) { s1 with heap:=h }→kas_ask P w A.in1.in1 κ vs i j C { s1 with heap:=h })
  (fin:∀ vs lt s1,G vs lt s1→∀ (h':Heap) (p:Array Nat) (c:Nat),(∀ b o,s1.heap.get? b=some o→h'.get? b=some o)→h'.get? s1.heap.objs.size=some (seqObj "list" (we vs p).toArray c)→PP vs.length p→Ze lt p vs.length→Q (.ref s1.heap.objs.size) { s1 with heap:=h' }) :
  wpAny (model P w) A (call (.builtin "sorted") [.ref l]) Q E s:=by
 refine Calls.call_function_entry kind_sorted plain_sorted entry_sorted (args_sorted1 _) ?_;unfold Builtin.«sorted»
 refine wpAny_bind (m:=checkCount "sorted" 1 1 _) (wpAny_pure ?_);refine wpAny_bind (coll _ fun vs lt s1 g=>?_)
 obtain ⟨l64,S⟩:=h64 vs lt s1 g
 refine wpAny_bind (wpAny_newList ?_ (by rw [sizeLine_eq];omega))
 have hoL:(s1.heap.push (seqObj "list" vs.toArray 0)).get? s1.heap.objs.size=some (seqObj "list" vs.toArray 0):=Heap.get?_push_size _ rfl
 have kept:∀ h',Kp s1.heap.objs.size (s1.heap.push (seqObj "list" vs.toArray 0)) h'→∀ b o,s1.heap.get? b=some o→h'.get? b=some o:=fun h' k b o e=>k b o (Nat.ne_of_lt (Heap.lt_size e)) (Heap.get?_push_of_some _ e)
 refine wpAny_bind (wpAny_holding (wpAny_call_entry slot_list_sort ⟨_,hoL,rfl⟩ entry_list_sort (Zj (s:={ s1 with heap:=s1.heap.push (seqObj "list" vs.toArray 0) }) hoL l64 (κ:=κ) (lt:=lt) (fun h2 h' Q' k q=>?_) (fun h' i j C k hi hj hij q=>?_) S fun h' p c k ho hp hr=>?_) (args_list_sort _)))
 ·exact hk vs lt s1 g h2 h' Q' (kept h' k) q
 ·exact hc vs lt s1 g h' i j C (kept h' k) hi hj hij q
 ·exact ⟨_,rfl,wpAny_pure ⟨_,rfl,fin vs lt s1 g h' p c (kept h' k) ho hp hr⟩⟩
end
end L2
namespace L2
open PySem PySem.Spec PyProof.Rows PySem.W
def d0:Row:=(("",0),0)
theorem KH (rows:List Row):∃ its:List Row,dOf rows=its.map (fun q=>(zI q.1,V.int q.2))∧(its.map (·.1)).Nodup∧∀ p w,(p,w)∈its↔zP rows p=some w:=by
 have h:=wH rows
 have:∀ (kvs:List (List Key × V)),(∀ kv∈kvs,∃ (p:Pl) (w:Int),kv=(zI p,.int w))→∃ its:List Row,kvs=its.map (fun q=>(zI q.1,V.int q.2)):=fun kvs=>by
  induction kvs with
  | nil=>exact fun _=>⟨[],rfl⟩
  | cons kv r ih =>
   intro hk
   obtain ⟨qs,e⟩:=ih fun z hz=>hk z (List.mem_cons_of_mem _ hz)
   obtain ⟨p,w,e2⟩:=hk kv List.mem_cons_self
   exact ⟨(p,w) :: qs,by rw [List.map_cons,← e,e2]⟩
 obtain ⟨its,e⟩:=this _ h.2
 refine ⟨its,e,?_,fun p w=>?_⟩
 ·have:=h.1
  rw [e,List.map_map] at this
  refine xc (f:=zI) ?_
  rw [List.map_map]
  exact this
 ·have m:=mem_dOf (rows:=rows) (kv:=(zI p,V.int w))
  constructor
  ·intro hm
   obtain ⟨p',w',e1,e2⟩:=m.mp (by rw [e];exact List.mem_map.mpr ⟨_,hm,rfl⟩)
   have e3:=xw (Prod.mk.inj e1).1
   have e4:=V.int.inj (Prod.mk.inj e1).2
   rw [e3,e4];exact e2
  ·intro hw
   have hm:=m.mpr ⟨p,w,rfl,hw⟩
   rw [e] at hm
   obtain ⟨q,hq,e1⟩:=List.mem_map.mp hm
   have e3:=xw (Prod.mk.inj e1).1
   have e4:=V.int.inj (Prod.mk.inj e1).2
   rw [← e3,← e4];exact hq
theorem Zp {α:Type} (l:List α) (d:α):(List.range l.length).map (fun i=>l.getD i d)=l:=by
 apply List.ext_getElem?
 intro i
 rw [List.getElem?_map]
 by_cases hi:i < l.length
 ·rw [List.getElem?_range hi,List.getElem?_eq_getElem hi]
  simp [List.getD_eq_getElem?_getD,List.getElem?_eq_getElem hi]
 ·rw [List.getElem?_eq_none (by simpa using hi),List.getElem?_eq_none (by omega)]
  rfl
theorem PP.list {n:Nat} {p:Array Nat} (h:PP n p):p.toList.Perm (List.range n):=by
 have:=Array.perm_iff_toList_perm.mp h
 simpa using this
theorem PP.lt {n:Nat} {p:Array Nat} (h:PP n p):∀ i∈p.toList,i < n:=fun i hi=>by
 have:=h.list.mem_iff.mp hi
 simpa using this
theorem Zq {α:Type} {F:α→α→Bool} {l:List α} {d:α} {n:Nat} {p:Array Nat} (hp:PP n p) (hr:Ze (fun i j=>F (l.getD i d) (l.getD j d)) p n):(p.toList.map fun i=>l.getD i d).Pairwise fun a b=>F a b=true:=by
 rw [List.pairwise_map,List.pairwise_iff_getElem]
 intro i j hi hj hij
 rw [Array.length_toList] at hi hj
 have g1:=x9 hi
 have g2:=x9 hj
 have sz:=hp.size
 have r:=hr i j hij (by omega)
 have x1:p.toList[i]=gt p i:=by
  rw [Array.getElem?_eq_getElem hi] at g1
  simpa using g1
 have x2:p.toList[j]=gt p j:=by
  rw [Array.getElem?_eq_getElem hj] at g2
  simpa using g2
 rw [x1,x2];exact r
theorem wf {α β:Type} {F:α→β→Prop} {l₁:List α} {l₂:List β} (h:Paired F l₁ l₂) (a:α) (b:β):∀ {is:List Nat},(∀ i∈is,i < l₁.length)→Paired F (is.map fun i=>l₁.getD i a) (is.map fun i=>l₂.getD i b)
 | [],_=>.nil
 | i :: r,hi=>by
  have l:=Paired.length h
  have h1:=hi i List.mem_cons_self
  refine .cons ?_ (wf h a b fun j hj=>hi j (List.mem_cons_of_mem _ hj))
  show F (l₁.getD i a) (l₂.getD i b)
  have e1:=List.getElem?_eq_getElem h1
  have e2:l₂[i]?=some l₂[i]:=List.getElem?_eq_getElem (by omega)
  rw [List.getD_eq_getElem?_getD,List.getD_eq_getElem?_getD,e1,e2]
  exact yv h e1 e2
abbrev Zr:RC:=fun vs H Q=>∃ r d rows,vs=[.ref r]∧H r=some (jN r d)∧H d=some (.dT (dOf rows))∧(dOf rows).length < 1000 ∧
 ∀ l ys srt H',Same H H'→H l=none→H' l=some (.lst ys)→Paired (vO H') ys srt→Rising srt→(∀ p w,(p,w)∈srt↔zP rows p=some w)→Q (.ref l) H'
theorem KI {H:Hp}:∀ {ys:List V} {its:List Row},Paired (kA H) ys (its.map fun q=>(zI q.1,V.int q.2))→Paired (vO H) ys its
 | _,[],h=>by cases h;exact .nil
 | _,q :: r,h=>by
  rw [List.map_cons] at h
  cases h with
  | cons a t=>exact .cons a (KI t)
section
variable {X:Cx}
theorem zan {pins:List (Addr × Obj)} {σ:St} {H:Hp} {s:Shared} {v:V} {u:Value} {q:Row} (I:Inv X pins σ H s) (h:vO H v q) (r:RelV v u):RvAt s.heap u q:=by
 obtain ⟨a,p,rfl,h1,h2⟩:=h
 cases r
 obtain ⟨_,its,rv,o,o1,o2,n,o3⟩:=(show ObjOk X.prog X.w H s.heap a (.tup [.ref p,.int q.2]) from I.hok a _ h1)
 cases rv with
 | cons r1 rr =>
  cases rr with
  | cons r2 rn =>
   cases rn
   cases r1
   obtain ⟨t,rfl⟩:=r2
   exact ⟨a,o,p,t,n,rfl,o1,o2,o3,X1 I h2⟩
theorem kB (hc:X.calm=true) (hu:X.A.units + 3 < cLine):vp X (.builtin "sorted") Zr:=by
 intro pins s σ H vs us Q I r0 h
 obtain ⟨r,d,rows,rfl,hr,hd,h64,q⟩:=h
 obtain ⟨u,rfl,ru⟩:=kc r0
 cases ru
 have hh:X.A.handled=none:=I.ok.hd hc
 obtain ⟨its,ei,nd,mi⟩:=KH rows
 have li:(dOf rows).length=its.length:=by rw [ei,List.length_map]
 have so:=jT nd
 have vat:∀ {s1:Shared} {H':Hp} {ys:List V} {vs:List Value},Inv X pins σ H' s1→Paired (vO H') ys its→Vals ys vs→∀ (i:Nat) (q:Row),its[i]?=some q→∃ v,vs[i]?=some v∧RvAt s1.heap v q:=fun {s1 H' ys vs} I' pr rv i q hq=>by
  have hi:=(List.getElem?_eq_some_iff.mp hq).1
  have l1:=Paired.length pr
  obtain ⟨y,hy⟩:∃ y,ys[i]?=some y:=⟨_,List.getElem?_eq_getElem (by omega)⟩
  obtain ⟨u,hu',ru⟩:=rv.get hy
  exact ⟨u,hu',zan I' (yv pr hy hq) ru⟩
 refine Xd (κ:=tuples' false) (fun vs lt s1=>∃ H' ys,Inv X pins σ H' s1∧Same H H'∧Paired (vO H') ys its∧Vals ys vs∧lt=fun i j=>zT ((its.map (·.1)).getD i (("",0):Pl)) ((its.map (·.1)).getD j (("",0):Pl)))
  (fun R hR=>W1 (A:=X.A.in1) hh hr hd (by omega) I fun s1 H' ys us I' sm pr rv=>hR us _ s1 ⟨H',ys,I',sm,KI (by rw [← ei];exact pr),rv,rfl⟩) ?_ ?_ ?_ ?_
 ·rintro vs lt s1 ⟨H',ys,I',sm,pr,rv,rfl⟩
  have l1:=Paired.length pr
  have l2:=rv.length
  refine ⟨by omega,?_⟩
  rw [show vs.length=(its.map (·.1)).length by rw [List.length_map];omega]
  exact so
 ·rintro vs lt s1 ⟨H',ys,I',sm,pr,rv,rfl⟩ h2 h Q' k q'
  have l1:=Paired.length pr
  have l2:=rv.length
  refine Wa (s:={ s1 with heap:=h }) (qs:=its) (by omega) (fun i v q hv hq=>?_) (by omega) q'
  obtain ⟨v',hv',rr⟩:=vat I' pr rv i q hq
  rw [hv] at hv'
  cases hv'
  exact rr.keep k
 ·rintro vs lt s1 ⟨H',ys,I',sm,pr,rv,rfl⟩ h i j C k hi hj hij q'
  have l1:=Paired.length pr
  have l2:=rv.length
  have e1:its[i]?=some its[i]:=List.getElem?_eq_getElem (by omega)
  have e2:its[j]?=some its[j]:=List.getElem?_eq_getElem (by omega)
  obtain ⟨v1,g1,r1⟩:=vat I' pr rv i _ e1
  obtain ⟨v2,g2,r2⟩:=vat I' pr rv j _ e2
  have n1:(its.map (·.1)).getD i (("",0):Pl)=its[i].1:=by rw [List.getD_eq_getElem?_getD,List.getElem?_map,e1];rfl
  have n2:(its.map (·.1)).getD j (("",0):Pl)=its[j].1:=by rw [List.getD_eq_getElem?_getD,List.getElem?_map,e2];rfl
  have m1:vs.getD i Value.none=v1:=by rw [List.getD_eq_getElem?_getD,g1];rfl
  have m2:vs.getD j Value.none=v2:=by rw [List.getD_eq_getElem?_getD,g2];rfl
  simp only [n1,n2] at q'
  have key:=VU (P:=X.prog) (w:=X.w) (A:=X.A.in1.in1) (E:=fun _ _=>False) (s:={ s1 with heap:=h }) (Q:=C) (by have e:X.A.in1.in1.units=X.A.units + 2:=rfl;omega) (r1.keep k) (r2.keep k) q' fun z=>hij (by
   have e3:(its.map (·.1))[i]?=some its[i].1:=by rw [List.getElem?_map,e1];rfl
   have e4:(its.map (·.1))[j]?=some its[j].1:=by rw [List.getElem?_map,e2];rfl
   rw [z] at e3
   exact (List.getElem?_inj (by rw [List.length_map];omega) nd).mp (e3.trans e4.symm))
  rw [← m1,← m2] at key
  exact key
 ·rintro vs lt s1 ⟨H',ys,I',sm,pr,rv,rfl⟩ h' p c k hD hp hr
  have l1:=Paired.length pr
  have l2:=rv.length
  have hp':PP its.length p:=by rw [show its.length=vs.length by omega];exact hp
  have fr:H' s1.heap.objs.size=none:=I'.hok.fresh (Nat.le_refl _)
  have sz:=hp'.size
  have pk:=wf pr V.non d0 (is:=p.toList) fun i hi=>by have:=hp'.lt i hi;omega
  have vk:Vals (p.toList.map fun i=>ys.getD i V.non) (we vs p):=wf rv V.non Value.none (is:=p.toList) fun i hi=>by have:=hp'.lt i hi;omega
  have I2:Inv X pins σ (upd H' s1.heap.objs.size (.lst (p.toList.map fun i=>ys.getD i V.non))) { s1 with heap:=h' }:=I'.laid (a:=s1.heap.objs.size) (o:=.lst (p.toList.map fun i=>ys.getD i V.non)) (t':=s1.toks) k (Nat.le_refl _)
   ⟨by rw [List.length_map,Array.length_toList];exact Nat.le_trans (by omega:_≤1000) (by decide),we vs p,c,vk,hD⟩
  have S2:Same H' (upd H' s1.heap.objs.size (.lst (p.toList.map fun i=>ys.getD i V.non))):=isV _ fr
  have hn:H s1.heap.objs.size=none:=by
   cases e:H s1.heap.objs.size with
   | none=>rfl
   | some o=>rw [sm _ _ e] at fr;cases fr
  have mono:∀ {us:List V} {ws:List Row},Paired (vO H') us ws→Paired (vO (upd H' s1.heap.objs.size (.lst (p.toList.map fun i=>ys.getD i V.non)))) us ws:=fun {us ws} h=>by
   induction h with
   | nil=>exact .nil
   | cons a _ ih =>
    obtain ⟨r,p,e,h1,h2⟩:=a
    exact .cons ⟨r,p,e,S2 _ _ h1,S2 _ _ h2⟩ ih
  refine ⟨.ref s1.heap.objs.size,_,I2,rfl,q _ _ (p.toList.map fun i=>its.getD i d0) _ (sm.trans S2) hn zf (mono pk) ?_ fun pl wv=>?_⟩
  ·have hr':Ze (fun i j=>zT ((its.map (·.1)).getD i (("",0):Pl)) ((its.map (·.1)).getD j (("",0):Pl))) p its.length:=by rw [show its.length=vs.length by omega];exact hr
   have pw:=Zq (F:=zT) hp' hr'
   have eq:(p.toList.map fun i=>its.getD i d0).map (·.1)=p.toList.map fun i=>(its.map (·.1)).getD i (("",0):Pl):=by
    rw [List.map_map]
    refine List.map_congr_left fun i hi=>?_
    have hi:=hp'.lt i hi
    simp [List.getD_eq_getElem?_getD,List.getElem?_map,List.getElem?_eq_getElem hi]
   rw [← eq,List.pairwise_map] at pw
   exact pw
  ·have pm:(p.toList.map fun i=>its.getD i d0).Perm its:=by
    refine (hp'.list.map _).trans ?_
    rw [Zp]
   rw [pm.mem_iff]
   exact mi pl wv
end
end L2
namespace L2
open PySem PySem.Spec PyProof.Rows
def zbX (lo c:Int) (n:Nat):It:=⟨fun i _=>i < n,fun i H x H'=>H'=H∧x=.int (lo + i * c),fun i _=>n≤i⟩
def zbY (i j c:Int):Nat:=if i < j then ((j - i - 1) / c + 1).toNat else 0
def zcm (ta:TA):TI:=fun σ H R=>ta σ H fun vs H1=>∃ i j c:Int,vs=[.int i,.int j,.int c]∧(0≤i∧i < 1073741824∧0≤j∧j < 1073741824∧0 < c∧c < 1073741824)∧R (zbX i c (zbY i j c)) H1
section
variable {X:Cx} {tg:Expr}
end
end L2
namespace L2
open PySem
structure StOk (n:Nat) (s:Sta):Prop where
 so:xD s.sl
 wo:∀ r∈s.wo,inW r.2=true
 l1:s.sl.length≤n
 l2:s.wo.length≤n
 l3:s.sa.length≤n
theorem StOk.mono {n m:Nat} {s:Sta} (h:StOk n s) (l:n≤m):StOk m s:=⟨h.so,h.wo,Nat.le_trans h.l1 l,Nat.le_trans h.l2 l,Nat.le_trans h.l3 l⟩
theorem YE {kvs:List (Key × V)} (h:xD kvs) (k:Key) {i:Int} (hi:inW i=true):xD (yA kvs k (.int i)):=fun k' v e=>by
 rw [qS] at e
 by_cases c:k'=k
 ·rw [if_pos c] at e
  exact ⟨i,(Option.some.inj e).symm,hi⟩
 ·rw [if_neg c] at e
  exact h k' v e
theorem VV {P:Row→Prop} {p:Pl} {w:Int}:∀ {l:List Row},(∀ r∈l,P r)→zP l p=some w→P (p,w)
 | [],_,h=>by cases h
 | r :: t,hp,h=>by
  rw [zP] at h
  cases e:zP t p with
  | some w' =>
   rw [e] at h
   have:w'=w:=by simpa using h
   subst this
   exact VV (fun r hr=>hp r (List.mem_cons_of_mem _ hr)) e
  | none =>
   rw [e] at h
   by_cases c:r.1=p
   ·rw [if_pos c] at h
    have:r.2=w:=by simpa using h
    rw [← c,← this];exact hp r List.mem_cons_self
   ·rw [if_neg c] at h;cases h
theorem KJ {l:List Row} (h:∀ r∈l,inW r.2=true) (p:Pl):inW ((zP l p).getD 0)=true:=by
 cases e:zP l p with
 | none=>rfl
 | some w=>exact VV (P:=fun r=>inW r.2=true) h e
theorem QU {n:Nat} {s:Sta} (h:StOk n s) (x:Str) (p:Pl):StOk (n + 1) { s with sl:=yA s.sl (.inr x) (.int ((zP s.wo p).getD 0)) } :=
 ⟨YE h.so _ (KJ h.wo p),h.wo,Nat.le_trans (yT _ _ _) (Nat.succ_le_succ h.l1),Nat.le_succ_of_le h.l2,Nat.le_succ_of_le h.l3⟩
theorem QV {n:Nat} {s:Sta} (h:StOk n s) (p:Pl) {w:Int} (hw:inW w=true):StOk (n + 1) { s with wo:=s.wo ++ [(p,w)] } :=
 ⟨h.so,fun r hr=>by
  rcases List.mem_append.mp hr with hr | hr
  ·exact h.wo r hr
  ·rw [List.mem_singleton.mp hr];exact hw,Nat.le_succ_of_le h.l1,by show (s.wo ++ [(p,w)]).length≤n + 1;rw [List.length_append];exact Nat.succ_le_succ h.l2,Nat.le_succ_of_le h.l3⟩
theorem zaP {n:Nat} {s:Sta} (h:StOk n s) (x:Str) {w:Int} (hw:inW w=true):StOk (n + 1) { s with sl:=yA s.sl (.inr x) (.int w) } :=
 ⟨YE h.so _ hw,h.wo,Nat.le_trans (yT _ _ _) (Nat.succ_le_succ h.l1),Nat.le_succ_of_le h.l2,Nat.le_succ_of_le h.l3⟩
theorem zaQ {n:Nat} {s:Sta} (h:StOk n s) (w:Int):StOk (n + 1) { s with sa:=s.sa ++ [w] } :=
 ⟨h.so,h.wo,Nat.le_succ_of_le h.l1,Nat.le_succ_of_le h.l2,by show (s.sa ++ [w]).length≤n + 1;rw [List.length_append];exact Nat.succ_le_succ h.l3⟩
mutual
theorem KK:∀ (r:Rw) {n:Nat} {s s':Sta},StOk n s→jX r→goR r s=.go s'→StOk (n + r.cnt) s'
 | .take sh e sl,n,s,s',h,k,g=>by
  unfold goR at g
  unfold jX at k
  split at g
  ·cases g;exact QU h _ _
  ·cases g
 | .give sh e f,n,s,s',h,k,g=>by
  unfold goR at g
  unfold jX at k
  split at g
  ·split at g
   ·rename_i w hw
    cases g
    exact QV h _ (KA h.so k.2.2.1 hw)
   ·cases g
  ·cases g
 | .lt sl e,n,s,s',h,k,g=>by
  unfold goR at g
  unfold jX at k
  split at g
  ·rename_i w hw
   cases g
   exact zaP h _ (KA h.so k.2.1 hw)
  ·cases g
 | .say e,n,s,s',h,k,g=>by
  unfold goR at g
  split at g
  ·cases g;exact zaQ h _
  ·cases g
 | .off e,n,s,s',h,k,g=>by
  unfold goR at g
  split at g
  ·split at g
   ·cases g;exact h.mono (Nat.le_add_right _ _)
   ·cases g
  ·cases g
 | .iff e a b,n,s,s',h,k,g=>by
  unfold goR at g
  unfold jX at k
  have c:(Rw.iff e a b).cnt=max a.cnt b.cnt + 1:=by rw [Rw.cnt]
  rw [c]
  split at g
  ·split at g
   ·exact (jF b h k.2.2 g).mono (by omega)
   ·exact (jF a h k.2.1 g).mono (by omega)
  ·cases g
theorem jF:∀ (r:Rws) {n:Nat} {s s':Sta},StOk n s→jg r→yw r s=.go s'→StOk (n + r.cnt) s'
 | .nil,n,s,s',h,k,g=>by
  unfold yw at g
  cases g
  exact h.mono (Nat.le_add_right _ _)
 | .cons r rs,n,s,s',h,k,g=>by
  unfold yw at g
  unfold jg at k
  have c:(Rws.cons r rs).cnt=r.cnt + rs.cnt:=by rw [Rws.cnt]
  rw [c]
  split at g
  ·rename_i s1 e1
   exact (jF rs (KK r h k.1 e1) k.2 g).mono (by omega)
  ·rename_i x hx
   exact absurd g (hx s')
end
mutual
def Jt (P:Pl→Prop):Rw→Prop
 | .give sh e _=>∀ kvs n,rk kvs e=.ok n→P (sh,n)
 | .iff _ a b=>qk P a∧qk P b
 | _=>True
def qk (P:Pl→Prop):Rws→Prop
 | .nil=>True
 | .cons r rs=>Jt P r∧qk P rs
end
mutual
theorem zaR {P:Pl→Prop}:∀ (r:Rw) {s s':Sta},(∀ q∈s.wo,P q.1)→Jt P r→goR r s=.go s'→∀ q∈s'.wo,P q.1
 | .take sh e sl,s,s',h,k,g=>by
  unfold goR at g
  split at g
  ·cases g;exact h
  ·cases g
 | .give sh e f,s,s',h,k,g=>by
  unfold goR at g
  unfold Jt at k
  split at g
  ·rename_i n hn
   split at g
   ·cases g
    intro q hq
    rcases List.mem_append.mp hq with hq | hq
    ·exact h q hq
    ·rw [List.mem_singleton.mp hq];exact k _ _ hn
   ·cases g
  ·cases g
 | .lt sl e,s,s',h,k,g=>by
  unfold goR at g
  split at g
  ·cases g;exact h
  ·cases g
 | .say e,s,s',h,k,g=>by
  unfold goR at g
  split at g
  ·cases g;exact h
  ·cases g
 | .off e,s,s',h,k,g=>by
  unfold goR at g
  split at g
  ·split at g
   ·cases g;exact h
   ·cases g
  ·cases g
 | .iff e a b,s,s',h,k,g=>by
  unfold goR at g
  unfold Jt at k
  split at g
  ·split at g
   ·exact qG b h k.2 g
   ·exact qG a h k.1 g
  ·cases g
theorem qG {P:Pl→Prop}:∀ (r:Rws) {s s':Sta},(∀ q∈s.wo,P q.1)→qk P r→yw r s=.go s'→∀ q∈s'.wo,P q.1
 | .nil,s,s',h,k,g=>by
  unfold yw at g
  cases g
  exact h
 | .cons r rs,s,s',h,k,g=>by
  unfold yw at g
  unfold qk at k
  split at g
  ·rename_i s1 e1
   exact qG rs (zaR r h k.1 e1) k.2 g
  ·rename_i x hx
   exact absurd g (hx s')
end
inductive Oc where
 | done (sa:List Int)
 | off (why:Str)
def zby:Er→Str
 | .great=>"great"
 | _=>"nought"
def wK (rws:Rws) (tab:List Row) (oc:Oc) (out:List Row):Prop:=match yw rws ⟨[],tab,[]⟩ with
 | .go s=>oc=.done s.sa∧wI s.wo out
 | .off=>oc=.off "told"∧out=tab
 | .er e=>oc=.off (zby e)∧out=tab
inductive zaS:List Rws→List Row→List Oc→List Row→Prop
 | nil {tab:List Row}:zaS [] tab [] tab
 | cons {d:Rws} {ds:List Rws} {tab mid out:List Row} {oc:Oc} {ocs:List Oc}:wK d tab oc mid→zaS ds mid ocs out→zaS (d :: ds) tab (oc :: ocs) out
theorem QW {rows its out:List Row} (nd:(its.map (·.1)).Nodup) (hi:∀ p w,(p,w)∈its↔zP rows p=some w) (t:wI its out):wI rows out:=by
 refine ⟨t.1,fun p w=>(t.2 p w).trans ?_⟩
 rw [VR nd,hi]
def ql:V→PyData
 | .int i=>.int i
 | .str x=>.str x
 | _=>.none
def plV (v:V):Prop:=(∃ i,v=.int i)∨∃ x,v=.str x∧PyData.strOk x=true
def vV (e:List V):PyData:=.tuple (e.map ql)
mutual
def rwD:Rw→PyData
 | .take sh e sl=>.tuple [.str "take",.str sh,vV e,.str sl]
 | .give sh e f=>.tuple [.str "give",.str sh,vV e,vV f]
 | .lt sl e=>.tuple [.str "let",.str sl,vV e]
 | .say e=>.tuple [.str "say",vV e]
 | .off e=>.tuple [.str "off",vV e]
 | .iff e a b=>.tuple [.str "if",vV e,.list (jY a),.list (jY b)]
def jY:Rws→List PyData
 | .nil=>[]
 | .cons r rs=>rwD r :: jY rs
end
def tmP (e:List V):Prop:=∀ v∈e,plV v
mutual
def jK:Rw→Prop
 | .take sh e sl=>PyData.strOk sh=true∧tmP e∧PyData.strOk sl=true
 | .give sh e f=>PyData.strOk sh=true∧tmP e∧tmP f
 | .lt sl e=>PyData.strOk sl=true∧tmP e
 | .say e=>tmP e
 | .off e=>tmP e
 | .iff e a b=>tmP e∧kC a∧kC b
def kC:Rws→Prop
 | .nil=>True
 | .cons r rs=>jK r∧kC rs
end
section
variable {K:PySem.W.Frag} {H:Hp} {F:Addr→Prop}
theorem KL {v:V} (h:plV v):Dat K H v (ql v):=by
 rcases h with ⟨i,rfl⟩ | ⟨x,rfl,_⟩
 ·exact .int i
 ·exact .str x
theorem YF:∀ {e:List V},tmP e→DatAll K H e (e.map ql)
 | [],_=>.nil
 | v :: r,h=>.cons (KL (h v List.mem_cons_self)) (YF fun u hu=>h u (List.mem_cons_of_mem _ hu))
theorem wL {a:Addr} {e:List V} (h:H a=some (.tup e)) (p:tmP e):Dat K H (.ref a) (vV e):=.tup (SqT.of h) (YF p)
mutual
theorem zaT:∀ (r:Rw) {v:V},RwAt F H v r→jK r→Dat K H v (rwD r)
 | .take sh e sl,v,h,p=>by
  unfold RwAt at h
  unfold jK at p
  obtain ⟨r,te,rfl,f1,f2,e2,e3⟩:=h
  rw [rwD]
  exact .tup (SqT.of e2) (.cons (.str _) (.cons (.str _) (.cons (wL e3 p.2.1) (.cons (.str _) .nil))))
 | .give sh e f,v,h,p=>by
  unfold RwAt at h
  unfold jK at p
  obtain ⟨r,te,tf,rfl,f1,f2,f3,e2,e3,e4⟩:=h
  rw [rwD]
  exact .tup (SqT.of e2) (.cons (.str _) (.cons (.str _) (.cons (wL e3 p.2.1) (.cons (wL e4 p.2.2) .nil))))
 | .lt sl e,v,h,p=>by
  unfold RwAt at h
  unfold jK at p
  obtain ⟨r,te,rfl,f1,f2,e2,e3⟩:=h
  rw [rwD]
  exact .tup (SqT.of e2) (.cons (.str _) (.cons (.str _) (.cons (wL e3 p.2) .nil)))
 | .say e,v,h,p=>by
  unfold RwAt at h
  unfold jK at p
  obtain ⟨r,te,rfl,f1,f2,e2,e3⟩:=h
  rw [rwD]
  exact .tup (SqT.of e2) (.cons (.str _) (.cons (wL e3 p) .nil))
 | .off e,v,h,p=>by
  unfold RwAt at h
  unfold jK at p
  obtain ⟨r,te,rfl,f1,f2,e2,e3⟩:=h
  rw [rwD]
  exact .tup (SqT.of e2) (.cons (.str _) (.cons (wL e3 p) .nil))
 | .iff e a b,v,h,p=>by
  unfold RwAt at h
  unfold jK at p
  obtain ⟨r,te,la,lb,xs,ys,rfl,f1,f2,f3,f4,e2,e3,e4,e5,e6,e7⟩:=h
  rw [rwD]
  exact .tup (SqT.of e2) (.cons (.str _) (.cons (wL e3 p.1) (.cons (.lst (SqL.of e4) (qH a e5 p.2.1)) (.cons (.lst (SqL.of e6) (qH b e7 p.2.2)) .nil))))
theorem qH:∀ (r:Rws) {vs:List V},RwsAt F H vs r→kC r→DatAll K H vs (jY r)
 | .nil,vs,h,p=>by
  unfold RwsAt at h
  subst h
  rw [jY];exact .nil
 | .cons r rs,vs,h,p=>by
  unfold RwsAt at h
  unfold kC at p
  obtain ⟨v,ws,rfl,e2,e3⟩:=h
  rw [jY]
  exact .cons (zaT r e2 p.1) (qH rs e3 p.2)
end
theorem RlAt.dat {v:V} {r:Rws} (h:RlAt F H v r) (p:kC r):Dat K H v (.list (jY r)):=by
 obtain ⟨a,xs,rfl,f,e1,e2⟩:=h
 exact .lst (SqL.of e1) (qH r e2 p)
end
theorem qm:∀ {e:List V},tmP e→zR (e.map ql)=true
 | [],_=>by simp [zR]
 | v :: r,h=>by
  rw [List.map_cons,zR,qm fun u hu=>h u (List.mem_cons_of_mem _ hu),Bool.and_true]
  rcases h v List.mem_cons_self with ⟨i,rfl⟩ | ⟨x,rfl,hx⟩
  ·rw [ql,zB]
  ·rw [ql,zB];exact hx
theorem xj {e:List V} (h:tmP e):zB (vV e)=true:=by rw [vV,zB];exact qm h
theorem Zs:∀ (e:List V),PyData.depthAll (e.map ql)=0
 | []=>by simp [PyData.depthAll]
 | v :: r=>by
  rw [List.map_cons,PyData.depthAll,Zs r]
  cases v <;> simp [ql,PyData.depth]
theorem xO (e:List V):(vV e).depth≤1:=by rw [vV,PyData.depth,Zs];omega
theorem KM:PyData.strOk "take"=true:=by decide +kernel
theorem KN:PyData.strOk "give"=true:=by decide +kernel
theorem QX:PyData.strOk "let"=true:=by decide +kernel
theorem QY:PyData.strOk "say"=true:=by decide +kernel
theorem VW:PyData.strOk "off"=true:=by decide +kernel
theorem zaU:PyData.strOk "if"=true:=by decide +kernel
mutual
theorem KO:∀ (r:Rw),jK r→zB (rwD r)=true
 | .take sh e sl,p=>by unfold jK at p;rw [rwD];simp [zB,zR,KM,xj p.2.1,p.1,p.2.2]
 | .give sh e f,p=>by unfold jK at p;rw [rwD];simp [zB,zR,KN,xj p.2.1,p.1,xj p.2.2]
 | .lt sl e,p=>by unfold jK at p;rw [rwD];simp [zB,zR,QX,xj p.2,p.1]
 | .say e,p=>by unfold jK at p;rw [rwD];simp [zB,zR,QY,xj p]
 | .off e,p=>by unfold jK at p;rw [rwD];simp [zB,zR,VW,xj p]
 | .iff e a b,p=>by unfold jK at p;rw [rwD];simp [zB,zR,zaU,xj p.1,jG a p.2.1,jG b p.2.2]
theorem jG:∀ (r:Rws),kC r→zR (jY r)=true
 | .nil,_=>by rw [jY,zR]
 | .cons r rs,p=>by unfold kC at p;rw [jY,zR,KO r p.1,jG rs p.2];rfl
end
mutual
theorem QZ:∀ (r:Rw),(rwD r).depth≤2 * r.deep + 2
 | .take sh e sl=>by have:=xO e;rw [rwD];simp [PyData.depth,PyData.depthAll];omega
 | .give sh e f=>by have:=xO e;have:=xO f;rw [rwD];simp [PyData.depth,PyData.depthAll];omega
 | .lt sl e=>by have:=xO e;rw [rwD];simp [PyData.depth,PyData.depthAll];omega
 | .say e=>by have:=xO e;rw [rwD];simp [PyData.depth,PyData.depthAll];omega
 | .off e=>by have:=xO e;rw [rwD];simp [PyData.depth,PyData.depthAll];omega
 | .iff e a b=>by
  have:=xO e
  have h1:=kD a
  have h2:=kD b
  have c:(Rw.iff e a b).deep=max a.deep b.deep + 1:=by rw [Rw.deep]
  rw [rwD,c];simp [PyData.depth,PyData.depthAll];omega
theorem kD:∀ (r:Rws),PyData.depthAll (jY r)≤2 * r.deep + 2
 | .nil=>by rw [jY];simp [PyData.depthAll]
 | .cons r rs=>by
  have h1:=QZ r
  have h2:=kD rs
  have c:(Rws.cons r rs).deep=max r.deep rs.deep:=by rw [Rws.deep]
  rw [jY,c,PyData.depthAll];omega
end
def Rws.snoc:Rws→Rw→Rws
 | .nil,x=>.cons x .nil
 | .cons r rs,x=>.cons r (rs.snoc x)
def Rws.app:Rws→Rws→Rws
 | .nil,x=>x
 | .cons r rs,x=>.cons r (rs.app x)
theorem RwsAt.get {F:Addr→Prop} {H:Hp}:∀ {r:Rws} {vs:List V} {i:Nat} {v:V},RwsAt F H (vs.drop i) r→vs[i]?=some v→∃ x rs,r=.cons x rs∧RwAt F H v x∧RwsAt F H (vs.drop (i + 1)) rs
 | .nil,vs,i,v,h,e=>by
  unfold RwsAt at h
  have:=(List.getElem?_eq_some_iff.mp e).1
  have:=congrArg List.length h
  rw [List.length_drop] at this
  simp at this
  omega
 | .cons x rs,vs,i,v,h,e=>by
  unfold RwsAt at h
  obtain ⟨u,ws,e1,e2,e3⟩:=h
  have hi:=(List.getElem?_eq_some_iff.mp e).1
  have d:=List.drop_eq_getElem_cons hi
  rw [e1] at d
  have e4:vs[i]=v:=(List.getElem?_eq_some_iff.mp e).2
  rw [e4] at d
  injection d with d1 d2
  subst d1 d2
  exact ⟨x,rs,rfl,e2,e3⟩
theorem RwsAt.none {F:Addr→Prop} {H:Hp} {r:Rws} {vs:List V} (h:RwsAt F H (vs.drop vs.length) r):r=.nil:=by
 rw [List.drop_length] at h
 cases r with
 | nil=>rfl
 | cons x rs =>
  unfold RwsAt at h
  obtain ⟨_,_,e,_⟩:=h
  cases e
theorem KP {v:V} (h:xM v) (j:isJ v=false):TermOk [v] :=
 ⟨fun kvs=>⟨_,wA j⟩,fun u hu=>by rw [List.mem_singleton.mp hu];exact h,by simp⟩
theorem KQ {u v:V} {w:Str} (hu:xM u) (ju:isJ u=false) (hv:xM v) (jv:isJ v=false) (hw:isJ (.str w)=true) (lw:w.length≤1000):TermOk [u,v,.str w] :=
 ⟨fun kvs=>⟨_,Ys (p1:=[u]) (p2:=[v]) hw (wA ju) (wA jv)⟩,fun z hz=>by
  simp only [List.mem_cons,List.not_mem_nil,or_false] at hz
  rcases hz with rfl | rfl | rfl
  ·exact hu
  ·exact hv
  ·exact .inr ⟨w,rfl,lw⟩,by simp⟩
theorem Paired.snocP {α β:Type} {F:α→β→Prop} {x:α} {y:β}:∀ {a:List α} {b:List β},Paired F a b→F x y→Paired F (a ++ [x]) (b ++ [y])
 | _,_,.nil,h=>.cons h .nil
 | _,_,.cons a r,h=>.cons a (Paired.snocP r h)
theorem Paired.getP {α β:Type} {F:α→β→Prop} {a:List α} {b:List β} {i:Nat} {x:α} (h:Paired F a b) (e:a[i]?=some x):∃ y,b[i]?=some y∧F x y:=by
 have hi:=(List.getElem?_eq_some_iff.mp e).1
 have l:=Paired.length h
 exact ⟨b[i],List.getElem?_eq_getElem (by omega),yv h e (List.getElem?_eq_getElem (by omega))⟩
theorem FnOkH.mono {P:Program} {w:World} {K:PySem.W.Frag} {mg:Str→Option Value} {base:Heap} {j k:Nat} {f:Addr} {fd:FuncData} {ps:List Str} {sp:Sp} (F:FnOkH P w K mg base j f fd ps sp) (h:j≤k):FnOkH P w K mg base k f fd ps sp :=
 ⟨F.len,fun A outer s H args us vs Q E hr he hb hv hs=>F.run A outer s H args us vs Q E (hr.mono h) he hb hv hs⟩
end L2
namespace L2
open PySem PySem.Spec PyProof.Rows
abbrev zaV:RM:=fun x xs H Q=>∃ a b,x=.str a∧xs=[.str b]∧(b.length == 0)=false∧a.length≤100000∧(Txt.split a b).length≤100000∧∀ l,H l=none→Q (.ref l) (upd H l (.lst ((Txt.split a b).map V.str)))
section
variable {X:Cx}
end
def zbZ (K:PySem.W.Frag) (p:Addr) (xs:List V):It:=⟨fun i H=>i < xs.length∧SqL K H p xs,fun i H x H'=>∃ T u,x=.ref T∧H T=none∧H'=upd H T (.tup [.int i,u])∧xs[i]?=some u,fun i H=>xs.length≤i∧SqL K H p xs⟩
def zc0 (K:PySem.W.Frag) (ta:TA):TI:=fun σ H R=>ta σ H fun vs H1=>∃ p xs,vs=[.ref p]∧SqL K H1 p xs∧R (zbZ K p xs) H1
section
variable {X:Cx}
end
section
variable {σ:St} {H:Hp} {nx:St→Hp→Prop} {B:V→St→Hp→(St→Hp→Prop)→Prop}
end
end L2
namespace L2
open PySem PySem.Spec PyProof.Rows
theorem zaW {c:Nat}:∀ {a b r s:List Nat},c ∉ a→c ∉ b→a ++ c :: r=b ++ c :: s→a=b∧r=s
 | [],[],r,s,_,_,h=>by simpa using h
 | [],y :: b,r,s,_,hb,h=>by
  simp only [List.nil_append,List.cons_append,List.cons.injEq] at h
  exact absurd h.1 (fun z=>hb (by rw [z];exact List.mem_cons_self))
 | x :: a,[],r,s,ha,_,h=>by
  simp only [List.nil_append,List.cons_append,List.cons.injEq] at h
  exact absurd h.1.symm (fun z=>ha (by rw [z];exact List.mem_cons_self))
 | x :: a,y :: b,r,s,ha,hb,h=>by
  simp only [List.cons_append,List.cons.injEq] at h
  obtain ⟨e1,e2⟩:=zaW (fun z=>ha (List.mem_cons_of_mem _ z)) (fun z=>hb (List.mem_cons_of_mem _ z)) h.2
  exact ⟨by rw [h.1,e1],e2⟩
end L2
namespace L2
open PySem PySem.Spec PyProof.Rows
abbrev VX (K:PySem.W.Frag):RC:=fun xs H Q=>∃ (x:V) (p:Addr) (t:Value) (Ts:List String) (b:Bool),xs=[x,.ref p]∧kg K H x t∧H p=some (.tup (Ts.map V.ty))∧PySem.W.kitAny K t (Ts.map Value.type)=some b∧Q (.bl b) H
theorem Wb:∀ {Ts:List String} {us:List Value},Vals (Ts.map V.ty) us→us=Ts.map Value.type
 | [],_,h=>by cases h;rfl
 | T :: r,_,h=>by
  cases h with
  | cons a t =>
   have a:_=Value.type T:=a
   rw [a,Wb t];rfl
section
variable {X:Cx}
theorem YG:vp X (.builtin "isinstance") (VX X.K):=by
 intro pins s σ H xs us Q I r h
 obtain ⟨x,p,t,Ts,b,rfl,ty,hp,e,q⟩:=h
 obtain ⟨u,w',rfl,rx,r2⟩:=zag r
 cases r2
 obtain ⟨_,its,rv,o,o1,o2,n,o3⟩:=(show ObjOk X.prog X.w H s.heap p (.tup (Ts.map V.ty)) from I.hok p _ hp)
 obtain rfl:=Wb rv
 obtain ⟨oc,od,oda,osl⟩:=o
 obtain rfl:oc=.type "tuple":=o2
 obtain rfl:oda=.seq (Ts.map Value.type).toArray n:=o3
 have fin:∀ tk,EP X pins σ Q (.bool b) { s with toks:=tk }:=fun tk=>⟨.bl b,H,I.tok tk,rfl,q⟩
 cases ty with
 | non=>cases (show u=Value.none from rx);exact PySem.W.kia_tup PySem.W.kitx_none I.kIn True.intro o1 e (fun z=>nomatch z) fin
 | bl y=>cases (show u=Value.bool y from rx);exact PySem.W.kia_tup PySem.W.kitx_bool I.kIn True.intro o1 e (fun z=>nomatch z) fin
 | int i=>obtain ⟨t,q⟩:=(show ∃ t,u=Value.int i t from rx);cases q;exact PySem.W.kia_tup PySem.W.kitx_int I.kIn True.intro o1 e (fun z=>nomatch z) fin
 | str y=>obtain ⟨t,q⟩:=(show ∃ t,u=Value.str y t from rx);cases q;exact PySem.W.kia_tup PySem.W.kitx_str I.kIn True.intro o1 e (fun z=>nomatch z) fin
 | flt y=>obtain ⟨t,q⟩:=(show ∃ t,u=Value.float y t from rx);cases q;exact PySem.W.kia_tup PySem.W.kitx_float I.kIn True.intro o1 e (fun z=>nomatch z) fin
 | @lst a xs ea =>
  cases (show u=Value.ref a from rx)
  obtain ⟨_,_,n,_,h1⟩:=(show ObjOk X.prog X.w H s.heap a (.lst xs) from I.hok a _ ea)
  exact PySem.W.kia_tup PySem.W.kitx_list I.kIn ⟨_,h1,rfl⟩ o1 e (fun z=>nomatch z) fin
 | @frz a ob xs ea =>
  cases (show u=Value.ref a from rx)
  obtain ⟨h1,h2⟩:=(show ObjOk X.prog X.w H s.heap a (.frz ob (.lst xs)) from I.hok a _ ea)
  obtain ⟨_,_,n,_,h1⟩:=h2
  exact PySem.W.kia_tup PySem.W.kitx_list I.kIn ⟨_,h1,rfl⟩ o1 e (fun z=>nomatch z) fin
 | @tup a xs ea =>
  cases (show u=Value.ref a from rx)
  obtain ⟨_,its,_,o,h1,h2,_⟩:=(show ObjOk X.prog X.w H s.heap a (.tup xs) from I.hok a _ ea)
  exact PySem.W.kia_tup PySem.W.kitx_tuple I.kIn ⟨_,h1,h2⟩ o1 e (fun z=>nomatch z) fin
 | @dK a kvs ea =>
  cases (show u=Value.ref a from rx)
  obtain ⟨_,_,vs,_,p⟩:=(show ObjOk X.prog X.w H s.heap a (.dK kvs) from I.hok a _ ea)
  obtain ⟨o,es,ep,h1,h2,_⟩:=p
  exact PySem.W.kia_tup PySem.W.kitx_dict I.kIn ⟨o,h1,h2.1⟩ o1 e (fun z=>nomatch z) fin
 | @dT a kvs ea =>
  cases (show u=Value.ref a from rx)
  obtain ⟨_,_,xs,_,o,es,ep,h1,h2,_⟩:=(show ObjOk X.prog X.w H s.heap a (.dT kvs) from I.hok a _ ea)
  exact PySem.W.kia_tup PySem.W.kitx_dict I.kIn ⟨o,h1,h2.1⟩ o1 e (fun z=>nomatch z) fin
 | @ins a C dx fs ea cl ha hn htk hm =>
  cases (show u=Value.ref a from rx)
  obtain ⟨mA,O,_⟩:=ke I.hok ea
  obtain ⟨od,J,_⟩:=O.look
  exact PySem.W.kia_tup (PySem.W.kitx_own (cl.get _) cl.hd ha hn htk hm) I.kIn J o1 e (fun z=>nomatch z) fin
end
section
variable {prog:Program} {w:World} {A:Around} {E:Value→Shared→Prop} {s:Shared}
end
def zcn (td ty tv:TE):TS:=fun D σ H=>tv σ H fun v H1=>td σ H1 fun x H2=>ty σ H2 fun y H3=>∃ a xs i j,x=.ref a∧y=.int i∧H3 a=some (.lst xs)∧ixN xs.length i=some j∧(-1000≤i∧i≤1000)∧D.nx σ (upd H3 a (.lst (xs.set j v)))
section
variable {X:Cx} {o i value:Expr} {pos pos':Pos} {td ty tv:TE}
end
section
variable {X:Cx} {st:Stmt} {hs:List ExceptHandler} {pos:Pos} {tb:TS}
end
end L2
namespace L2
open PySem PySem.Spec PyProof.Rows
def zco (K:PySem.W.Frag) (ta:TA):TI:=fun σ H R=>ta σ H fun vs H1=>∃ p q xs ys,vs=[.ref p,.ref q]∧xs.length=ys.length∧((SqL K H1 p xs∧SqL K H1 q ys∧R (zbx K p q xs ys) H1)∨(SqT K H1 p xs∧SqT K H1 q ys∧R (Itz K p q xs ys) H1))
section
variable {X:Cx}
abbrev zb0 (K:PySem.W.Frag):R2:=fun x y H Q=>∃ a b xs,x=.ref a∧y=.ref b∧SqL K H a xs∧SqL K H b []∧Q (.bl (!decide (xs=[]))) H
end
mutual
inductive KR (H:Hp):V→PyData→Prop
 | int (i:Int):KR H (.int i) (.int i)
 | str (x:Str):KR H (.str x) (.str x)
 | lst {a:Addr} {xs:List V} {ds:List PyData}:H a=some (.lst xs)→Wc H xs ds→KR H (.ref a) (.list ds)
 | tup {a:Addr} {xs:List V} {ds:List PyData}:H a=some (.tup xs)→Wc H xs ds→KR H (.ref a) (.tuple ds)
inductive Wc (H:Hp):List V→List PyData→Prop
 | nil:Wc H [] []
 | cons {x:V} {d:PyData} {xs:List V} {ds:List PyData}:KR H x d→Wc H xs ds→Wc H (x :: xs) (d :: ds)
end
end L2
namespace L2
open PySem
end L2
namespace L2
open PySem
abbrev zao:RM:=Qx
end L2
namespace L2
open PySem PySem.Spec PyProof.Rows
abbrev zaX:RM:=zaF
abbrev zcp (K:PySem.W.Frag):RC:=fun xs H Q=>∃ a,∃ ns:List Int,xs=[.ref a]∧SqL K H a (ns.map V.int)∧Q (.int ns.sum) H
abbrev zcq (K:PySem.W.Frag):RC:=fun xs H Q=>∃ a,∃ ns:List Int,xs=[.ref a]∧SqL K H a (ns.map V.int)∧0 < ns.length∧∀ M,M∈ns→(∀ x∈ns,x≤M)→Q (.int M) H
section
variable {X:Cx}
end
end L2
namespace L2
open PySem PySem.Spec PyProof.Rows
abbrev zcr:RC:=fun xs H Q=>∃ i j,xs=[.int i,.int j]∧Q (.int (if j > i then j else i)) H
abbrev zc1 (K:PySem.W.Frag) (neg:Bool):R2:=fun x y H Q=>∃ (p:Addr) (xs:List V) (d:PyData) (ds:List PyData),y=.ref p∧(SqL K H p xs∨SqT K H p xs)∧Dat K H x d∧DatAll K H xs ds∧(zB d=true∧d.depth≤50∧∀ e∈ds,zB e=true) ∧
 ∀ b:Bool,(b=true↔d∈ds)→Q (.bl (if neg then !b else b)) H
section
variable {X:Cx}
open Classical in
noncomputable def zc2 (K:PySem.W.Frag) (H:Hp) (d:PyData) (u:Value):Bool:=decide (∃ x,RelV x u∧Dat K H x d)
open Classical in
end
abbrev kE (K:PySem.W.Frag):RC:=fun vs H Q=>∃ r xs its,vs=[.ref r]∧SqL K H r xs∧Paired (vO H) xs its∧(its.map (·.1)).Nodup∧its.length < 1000 ∧
 ∀ l ys srt H',Same H H'→H l=none→H' l=some (.lst ys)→Paired (vO H') ys srt→Rising srt→srt.Perm its→Q (.ref l) H'
section
variable {X:Cx}
theorem Xe (hc:X.calm=true) (hu:X.A.units + 3 < cLine):vp X (.builtin "sorted") (kE X.K):=by
 intro pins s σ H vs us Q I r0 h
 obtain ⟨r,xs,its,rfl,hq,pr,nd,h64,q⟩:=h
 obtain ⟨u,rfl,ru⟩:=kc r0
 cases ru
 obtain ⟨vs,rv,⟨o,n,ho,oc,_,od⟩,hz⟩:=I.list hq
 have so:=jT nd
 have l1:=Paired.length pr
 have l2:=rv.length
 have vat:∀ {h:Heap},(∀ b o,s.heap.get? b=some o→h.get? b=some o)→∀ (i:Nat) (q:Row),its[i]?=some q→∃ v,vs[i]?=some v∧RvAt h v q:=fun {h} k i q hq=>by
  have hi:=(List.getElem?_eq_some_iff.mp hq).1
  obtain ⟨y,hy⟩:∃ y,xs[i]?=some y:=⟨_,List.getElem?_eq_getElem (by omega)⟩
  obtain ⟨u,hu',ru⟩:=rv.get hy
  exact ⟨u,hu',(zan I (yv pr hy hq) ru).keep k⟩
 refine qi (vs:=vs) (κ:=tuples' false) (lt:=fun i j=>zT ((its.map (·.1)).getD i (("",0):Pl)) ((its.map (·.1)).getD j (("",0):Pl))) (by omega) (by rw [show vs.length=(its.map (·.1)).length by rw [List.length_map];omega];exact so) (fun R hR=>?_) (fun h2 h tk Q' k q'=>?_) (fun h tk i j C k hi hj hij q'=>?_) fun h tk h' p c k1 k2 hD hp hr=>?_
 ·refine wpAny_collect_seq r (.inl rfl) ho oc od (fun h' k=>?_) (by rw [List.size_toArray];exact Nat.le_trans (by omega:_≤1000) (by decide))
  have e:({ s with heap:=h' }:Shared)={ s with heap:=h',toks:=s.toks }:=rfl
  rw [e]
  exact hR h' s.toks k
 ·refine Wa (s:={ s with heap:=h,toks:=tk }) (qs:=its) (by omega) (fun i v q hv hq=>?_) (by omega) q'
  obtain ⟨v',hv',rr⟩:=vat k i q hq
  rw [hv] at hv'
  cases hv'
  exact rr
 ·have e1:its[i]?=some its[i]:=List.getElem?_eq_getElem (by omega)
  have e2:its[j]?=some its[j]:=List.getElem?_eq_getElem (by omega)
  obtain ⟨v1,g1,r1⟩:=vat k i _ e1
  obtain ⟨v2,g2,r2⟩:=vat k j _ e2
  have n1:(its.map (·.1)).getD i (("",0):Pl)=its[i].1:=by rw [List.getD_eq_getElem?_getD,List.getElem?_map,e1];rfl
  have n2:(its.map (·.1)).getD j (("",0):Pl)=its[j].1:=by rw [List.getD_eq_getElem?_getD,List.getElem?_map,e2];rfl
  have m1:vs.getD i Value.none=v1:=by rw [List.getD_eq_getElem?_getD,g1];rfl
  have m2:vs.getD j Value.none=v2:=by rw [List.getD_eq_getElem?_getD,g2];rfl
  simp only [n1,n2] at q'
  have key:=VU (P:=X.prog) (w:=X.w) (A:=X.A.in1.in1) (E:=fun _ _=>False) (s:={ s with heap:=h,toks:=tk }) (Q:=C) (by have e:X.A.in1.in1.units=X.A.units + 2:=rfl;omega) r1 r2 q' fun z=>hij (by
   have e3:(its.map (·.1))[i]?=some its[i].1:=by rw [List.getElem?_map,e1];rfl
   have e4:(its.map (·.1))[j]?=some its[j].1:=by rw [List.getElem?_map,e2];rfl
   rw [z] at e3
   exact (List.getElem?_inj (by rw [List.length_map];omega) nd).mp (e3.trans e4.symm))
  rw [← m1,← m2] at key
  exact key
 ·have I1:Inv X pins σ H { s with heap:=h,toks:=tk }:=I.kept k1
  have hp':PP its.length p:=by rw [show its.length=vs.length by omega];exact hp
  have fr:H h.objs.size=none:=I1.hok.fresh (Nat.le_refl _)
  have sz:=hp'.size
  have pk:=wf pr V.non d0 (is:=p.toList) fun i hi=>by have:=hp'.lt i hi;omega
  have vk:Vals (p.toList.map fun i=>xs.getD i V.non) (we vs p):=wf rv V.non Value.none (is:=p.toList) fun i hi=>by have:=hp'.lt i hi;omega
  have I2:Inv X pins σ (upd H h.objs.size (.lst (p.toList.map fun i=>xs.getD i V.non))) { s with heap:=h',toks:=tk }:=I1.laid (s:={ s with heap:=h,toks:=tk }) (a:=h.objs.size) (o:=.lst (p.toList.map fun i=>xs.getD i V.non)) (t':=tk) k2 (Nat.le_refl _)
   ⟨by rw [List.length_map,Array.length_toList];exact Nat.le_trans (by omega:_≤1000) (by decide),we vs p,c,vk,hD⟩
  have S2:Same H (upd H h.objs.size (.lst (p.toList.map fun i=>xs.getD i V.non))):=isV _ fr
  have mono:∀ {us:List V} {ws:List Row},Paired (vO H) us ws→Paired (vO (upd H h.objs.size (.lst (p.toList.map fun i=>xs.getD i V.non)))) us ws:=fun {us ws} h=>by
   induction h with
   | nil=>exact .nil
   | cons a _ ih =>
    obtain ⟨r,p,e,h1,h2⟩:=a
    exact .cons ⟨r,p,e,S2 _ _ h1,S2 _ _ h2⟩ ih
  refine ⟨.ref h.objs.size,_,I2,rfl,q _ _ (p.toList.map fun i=>its.getD i d0) _ S2 fr zf (mono pk) ?_ ?_⟩
  ·have hr':Ze (fun i j=>zT ((its.map (·.1)).getD i (("",0):Pl)) ((its.map (·.1)).getD j (("",0):Pl))) p its.length:=by rw [show its.length=vs.length by omega];exact hr
   have pw:=Zq (F:=zT) hp' hr'
   have eq:(p.toList.map fun i=>its.getD i d0).map (·.1)=p.toList.map fun i=>(its.map (·.1)).getD i (("",0):Pl):=by
    rw [List.map_map]
    refine List.map_congr_left fun i hi=>?_
    have hi:=hp'.lt i hi
    simp [List.getD_eq_getElem?_getD,List.getElem?_map,List.getElem?_eq_getElem hi]
   rw [← eq,List.pairwise_map] at pw
   exact pw
  ·refine (hp'.list.map _).trans ?_
   rw [Zp]
end
def Cb (i:Int):Prop:=Builtin.Int.intBits i≤1048576
section
variable {X:Cx}
end
open Att PySem.W PySem.Calls in
theorem KS {l:PySem.W.OpenLaw} {n k:Nat} {q:Program} {loose:List Str} {XP:(Str→Option Value)→Heap→Prop} {YP:World→Heap→Prop} {d:DefRec} {K:Params→PySem.W.Frag} {CX:World→CXT} {sp:World→Sp} {x:Str}
  (hn:l.most=some n) (hn2:n≤sizeLine) (hdf:d.params.defaults=[]) (hr:Room k callerA) (hY:∀ (w:World) (h:Heap),YP w h→(K w.params).In h)
  (F:∀ (w:World) (mg:Str→Option Value) (fa:Addr) (h:Heap),(K w.params).In h→h.Ns mainGlobals mg→mg d.name=some (.ref fa) →
   ∃ fd:FuncData,(∀ (s:Shared) (u:Value),BindsTo s fd ⟨[u],[]⟩ [(x,u)]) ∧
    ∀ base:Heap,(K w.params).In base→base.Ns mainGlobals mg→FnOk l.prog w (K w.params) mg base (CX w) k fa fd [x] (sp w))
  (hsp:∀ (w:World) (H:Hp) (a:Addr) (ns:List Int),ns.length≤n→(∀ i∈ns,Cb i)→WV H→SqL (K w.params) H a (ns.map V.int)→sp w [.ref a] H (fun v _=>v=.bl true) fun _ _ _=>False)
  (hCX:∀ (w:World) (H:Hp) (s:Shared) (e:Value) (s':Shared),CX w [] H s (fun _ _ _=>False) e s'→False) :
  PySem.W.WalkO q loose XP YP l.row.toRowW d [] (fun f vs=>PySem.call f vs):=by
 intro w s₀ s₁ mg mb G Y fa o pm cd doc dV kV ho hd hcd hD hmg hg args vals as hpre hlay hrd hwl hlo
 obtain rfl:dV=.none:=Dflts.none hD hdf
 obtain rfl:kV=.none:=Dflts.noKw hD
 obtain ⟨a,vs,ns,rfl,rfl,hobj,hints,hlen⟩:=Yn hn hpre hwl
 have hb:∀ i∈ns,Cb i:=fun i hi=>intBits_le_of_layable (layable_of_mem (lay0_int (layableW_item (layableW_arg hlay _ List.mem_cons_self) _ (List.mem_map.mpr ⟨i,hi,rfl⟩))) List.mem_cons_self)
 have KX:=hY w _ Y
 obtain ⟨fd,hbd,hF⟩:=F w mg fa _ KX G.T.g hmg
 refine enter_call (codeAny_mono (XH KX G.T.g G.T.b G.T.builtins G.T.nolimit hg hobj hints (Nat.le_trans hlen hn2) hr hF hbd (fun H hO hS=>hsp w H a ns hlen hb hO hS) fun H e s'=>hCX w H s₁ e s') fun r s' hq=>?_)
 obtain ⟨rfl,h2,h3,h4⟩:=hq
 exact ⟨.inl ⟨.bool true,.bool true,[],rfl,fun _=>rfl,.bool true,Yo l _,fun _=>⟨List.Pairwise.nil,fun _ hm=>(nomatch hm)⟩⟩,h2,h3,h4⟩
theorem zbh {l:PySem.W.OpenLaw} {n k:Nat} {q:Program} {loose:List Str} {XP:(Str→Option Value)→Heap→Prop} {YP:World→Heap→Prop} {d:DefRec} {K:Params→PySem.W.Frag} {sp:PySem.W.Frag→Sp} {x:Str}
  (hn:l.most=some n) (hn2:n≤sizeLine) (hdf:d.params.defaults=[]) (hr:Room k callerA) (hY:∀ (w:World) (h:Heap),YP w h→(K w.params).In h)
  (F:∀ (w:World) (mg:Str→Option Value) (fa:Addr) (h:Heap),(K w.params).In h→h.Ns mainGlobals mg→mg d.name=some (.ref fa) →
   ∃ fd:FuncData,(∀ (s:Shared) (u:Value),BindsTo s fd ⟨[u],[]⟩ [(x,u)]) ∧
    ∀ base:Heap,(K w.params).In base→base.Ns mainGlobals mg→FnOk l.prog w (K w.params) mg base (CX1 l.prog w) k fa fd [x] (sp (K w.params)))
  (hsp:∀ (K:PySem.W.Frag) (H:Hp) (a:Addr) (ns:List Int),ns.length≤n→(∀ i∈ns,Cb i)→WV H→SqL K H a (ns.map V.int)→sp K [.ref a] H (fun v _=>v=.bl true) fun _ _ _=>False) :
  PySem.W.WalkO q loose XP YP l.row.toRowW d [] (fun f vs=>PySem.call f vs) :=
 KS (K:=K) (CX:=fun w=>CX1 l.prog w) (sp:=fun w=>sp (K w.params)) hn hn2 hdf hr hY F (fun w H a ns h1 hb h2 h3=>hsp (K w.params) H a ns h1 hb h2 h3) fun _ _ _ _ _ z=>by
  obtain ⟨_,_,_,_,_,_,_,_,_,y⟩:=z
  exact y
end L2
namespace L2
open PySem PySem.Spec PyProof.Rows
def Itk (a:Addr) (o:Obj) (kvs:List (Key × V)):It :=
 ⟨fun i H=>H a=some (.frz o (.dK kvs))∧i < kvs.length,fun i H x H'=>H'=H∧∃ k v,kvs[i]?=some (k,v)∧x=kV k,fun i H=>H a=some (.frz o (.dK kvs))∧kvs.length≤i⟩
section
variable {X:Cx}
def iDK (tl:TE):TI:=fun σ H R=>tl σ H fun x H1=>∃ a o kvs,x=.ref a∧H1 a=some (.frz o (.dK kvs))∧R (Itk a o kvs) H1
end
section
variable {σ:St} {H:Hp} {nx:St→Hp→Prop} {B:V→St→Hp→(St→Hp→Prop)→Prop}
end
end L2
namespace L2
open PySem PySem.Spec PyProof.Rows
def zbz (H:Hp) (v:V) (q:Pl):Prop:=∃ p,v=.ref p∧H p=some (.tup [.str q.1,.int q.2])
abbrev zcs (K:PySem.W.Frag):RC:=fun vs H Q=>∃ r xs its,vs=[.ref r]∧SqL K H r xs∧Paired (zbz H) xs its∧its.Nodup∧its.length < 1000 ∧
 ∀ l ys srt H',Same H H'→H l=none→H' l=some (.lst ys)→Paired (zbz H') ys srt→srt.Pairwise (fun a b=>zT a b=true)→srt.Perm its→Q (.ref l) H'
section
variable {X:Cx}
end
end L2
namespace L2
open PySem PySem.Spec PyProof.Rows
section
variable {K:Type} [DecidableEq K]
end
section
variable {prog:Program} {w:World} {K:Type} [DecidableEq K] {knd:HeapKind prog w K} {A:Around} {E:Value→Shared→Prop} {s:Shared} {d a:Addr} {xs:List (K × Addr × Value)} {k:K}
end
section
variable {X:Cx} {pins:List (Addr × Obj)} {σ:St} {H:Hp} {s:Shared} {a b:Addr} {kvs:List (List Key × V)} {k:List Key} {A:Around} {E:Value→Shared→Prop}
end
def zb1 (td ty:TE):TE:=fun σ H Q=>td σ H fun x H1=>∃ a,x=.ref a∧IsD H1 a∧ty σ H1 fun y H2=>∃ kvs k b v,H2 a=some (.dT kvs)∧y=.ref b∧H2 b=some (.tup (k.map kV))∧yf kvs k=some v∧Q v (upd H2 a (.dT (Yl kvs k)))
def zb2 (td ty tx:TE):TE:=fun σ H Q=>td σ H fun x H1=>∃ a,x=.ref a∧IsD H1 a∧ty σ H1 fun y H2=>tx σ H2 fun z H3=>∃ kvs k b,H3 a=some (.dT kvs)∧y=.ref b∧H3 b=some (.tup (k.map kV))∧kvs.length < sizeLine ∧
 (∀ v,yf kvs k=some v→Q v H3)∧(yf kvs k=none→Q z (upd H3 a (.dT (yA kvs k z))))
section
variable {X:Cx} {o e f:Expr} {apos cpos:Pos} {td ty tx:TE}
end
abbrev zap:RM:=fun x vs H Q=>∃ (l:Addr) (xs:List V) (k:Nat) (y:V),x=.ref l∧vs=[.int k,y]∧H l=some (.lst xs)∧k≤xs.length∧xs.length < 1000000∧Q .non (upd H l (.lst (xs.take k ++ y :: xs.drop k)))
abbrev zaq:RM:=fun x vs H Q=>∃ (l:Addr) (ns:List Int) (i:Int),x=.ref l∧vs=[.int i]∧H l=some (.lst (ns.map V.int))∧i∈ns∧Q .non (upd H l (.lst ((ns.erase i).map V.int)))
section
variable {X:Cx}
end
def zb3 (H:Hp) (y:V) (kv:List Key × V):Prop:=∃ p,y=.ref p∧H p=some (.tup (kv.1.map kV))
abbrev zct:RC:=fun vs H Q=>∃ a kvs,vs=[.ref a]∧H a=some (.dT kvs)∧∀ l ys,H l=none→Paired (zb3 H) ys kvs→Q (.ref l) (upd H l (.lst ys))
abbrev zcu:RC:=fun vs H Q=>∃ a kvs,vs=[.ref a]∧H a=some (.dT kvs)∧Q (.int (kvs.length:Nat)) H
section
variable {X:Cx}
end
end L2
namespace L2
open PySem PySem.Spec PyProof.Rows
section
variable {X:Cx} {c:Expr} {s₁ s₂:Stmt} {tc:TT} {t1 t2:EXK→TS} {pos:Pos}
end
section
variable {X:Cx} {e:Expr} {te:TE} {a b:Str} {j k:Nat} {p1 p2 p3 p4:Pos}
end
end L2
namespace L2
open PySem PySem.Spec PyProof.Rows
section
variable {P:Program} {w:World} {K:PySem.W.Frag} {mg:Str→Option Value} {base:Heap} {x qual:Str} {st:Stmt} {f:Addr} {fd:FuncData} {N ps:List Str} {k:Nat} {sp:Sp}
end
section
variable {X:Cx} {o value:Expr} {f:Str} {pos pos':Pos} {ta:TE} {tx:EXK→TE}
def zcv (K:PySem.W.Frag) (ta:TE) (tx:EXK→TE) (f:Str) (EX:EXK):TS:=Je K ta (tx EX) f
end
def zcw (K:PySem.W.Frag) (tb:EXK→TS) (C1 C2:Addr) (th:TS):TS:=fun D σ H=>tb (fun cls σ1 H1=>∃ C,cls=.ref C∧PySem.W.exmAny K (.ref C) [.ref C1,.ref C2]=some true∧th D σ1 H1) D σ H
section
variable {X:Cx} {st b₀:Stmt} {suite:List Stmt} {tb:EXK→TS} {th:TS} {c1 c2:Str} {C1 C2:Addr} {np np2 hpos tpos pos:Pos} {x1:Nat}
end
section
variable {X:Cx} {CX:CXT} {k:Nat} {f C:Addr} {fd:FuncData} {ps:List Str} {sp:Sp} {dvs:List V} {E:XK} {m:Str} {pos apos:Pos} {o:Expr} {ta:TE}
end
end L2
namespace L2
open PySem PySem.Spec PyProof.Rows
abbrev zc3:R2:=fun x y H Q=>∃ a b p r,x=.ref a∧y=.ref b∧H a=some (.tup [.str p.1,.int p.2])∧H b=some (.tup [.str r.1,.int r.2])∧Q (.bl (zT p r)) H
section
variable {X:Cx}
open PySem.SeqAt
open PySem.AutoSeq1 (wpAny_loadPart')
open PySem.MeetsSeq PySem.MeetsSeq2 PySem.MeetsSeq3
end
end L2
namespace L2
open PySem PySem.Spec PyProof.Rows
def zb4 (C:Addr):TE:=fun _ H Q=>∀ x dx,H x=none→H dx=none→dx≠x→Q (.ref x) (upd (upd H dx (.own x)) x (.ins C dx []))
section
variable {X:Cx} {C:Addr} {x:Str} {p pos:Pos}
end
def zb5 (L:List (Addr × Sp)) (m:Str) (E:XK) (ta:TE) (t:TA):TE:=fun σ H Q=>ta σ H fun x H1=>∃ a dx fs C sp,x=.ref a∧H1 a=some (.ins C dx fs)∧fs.lookup m=none∧(C,sp)∈L∧t σ H1 fun vs H2=>sp (x :: vs) H2 Q E
section
variable {X:Cx} {CX:CXT} {E:XK} {m:Str} {pos apos:Pos} {e o:Expr} {es:List Expr} {ta:TE} {t:TA} {L:List (Addr × Sp)} {C:Addr} {sp:Sp}
end
structure zb6 (K:PySem.W.Frag) (C:Addr):Prop where
 cl:Cls K C
 ha:PySem.W.findIn K (.ref C) "__class__"=some (some (.builtin "object.__class__"))
 hn:PySem.W.specialIn K (.builtin "object.__class__") "__get__"=some (some (.builtin "getset_descriptor.__get__"))
 tk:PySem.W.takesIn K (.builtin "object.__class__")=some true
 hm:PySem.W.mroIn K C (.type "object")=some true
abbrev zc4 (K:PySem.W.Frag):RC:=fun xs H Q=>∃ a C dx fs D b,xs=[.ref a,.ref D]∧H a=some (.ins C dx fs)∧zb6 K C∧PySem.W.kitOne K (.ref C) (.ref D)=some b∧Q (.bl b) H
section
variable {X:Cx}
end
end L2
namespace L2
open PySem PySem.Spec PyProof.Rows
abbrev zc5 (K:PySem.W.Frag):RC:=fun xs H Q=>∃ (a:Addr) (bs:List Bool),xs=[.ref a]∧SqL K H a (bs.map V.bl)∧Q (.bl (bs.any id)) H
section
variable {X:Cx}
end
def zcx (te ts:TE):TE:=fun σ H Q=>te σ H fun x H1=>ts σ H1 fun k H2=>∃ z y,x=.str z∧k=.int (-1)∧z.length≤sizeLine∧(∀ u,Txt.sliceBy z none none (-1,u)=y)∧Q (.str y) H2
section
variable {X:Cx} {e st:Expr} {p2 pos:Pos} {te ts:TE}
end
section
variable {P:Program} {w:World} {A:Around} {E:Value→Shared→Prop} {s:Shared}
end
def zcy (K:PySem.W.Frag) (ta:TA):TE:=fun σ H Q=>ta σ H fun vs H1=>∃ a xs,vs=[.ref a]∧SqL K H1 a xs∧∀ l,H1 l=none→Q (.ref l) (upd H1 l (.lst xs.reverse))
section
variable {X:Cx} {a:Expr} {ta:TA} {p p2 pos pos2:Pos}
end
end L2
namespace L2
open PySem PySem.Spec PyProof.Rows
abbrev zcz:RC:=fun vs H Q=>∃ a kvs,vs=[.ref a]∧H a=some (.dK kvs)∧Q (.int (kvs.length:Nat)) H
section
variable {X:Cx}
end
end L2
namespace L2
open PySem PySem.Spec PyProof.Rows
section
variable {X:Cx} {CX:CXT} {k:Nat} {f C:Addr} {fd:FuncData} {ps:List Str} {sp:Sp} {dvs:List V} {E:XK} {x:Str} {p pos:Pos} {e:Expr} {es:List Expr} {t:TA}
end
section
variable {X:Cx} {e:Expr} {te:TE} {a:Str} {j:Nat} {p1 p2 p3:Pos}
end
section
variable {X:Cx} {st b₀:Stmt} {suite:List Stmt} {tb:EXK→TS} {th1:TS} {c1:Str} {C1:Addr} {np hpos pos:Pos}
end
end L2
namespace L2
open PySem PySem.Spec PyProof.Rows
section
variable {X:Cx} {tg:Expr}
def zaY (K:PySem.W.Frag) (tl:TE):TI:=fun σ H R=>tl σ H fun x H1=>∃ a,x=.ref a∧(((∃ xs,SqL K H1 a xs)∧R (Itl K a) H1)∨((∃ xs,SqT K H1 a xs)∧R (Itt K a) H1))
theorem zaZ {l:Expr} {tl:TE} (hl:PE X l tl):PI X tg l (zaY X.K tl):=by
 intro pins s σ H R I h
 refine thn (hl pins s σ H _ I h) fun v s1 ⟨x,H1,I1,r1,q1⟩=>?_
 obtain ⟨a,e,q⟩:=q1
 subst e
 cases r1
 rcases q with ⟨⟨xs,hq⟩,q⟩ | ⟨⟨xs,hq⟩,q⟩
 ·obtain ⟨its,rv,p,hz⟩:=I1.list hq
  refine wpAny_pyIter_list p.isList ?_
  refine ⟨s1.heap.objs.size,[s1.heap.objs.size],_,_,H1,rfl,I1.kept (t':=s1.toks) fun b o e=>Heap.get?_push_of_some _ e,Yf a _,⟨_,Heap.get?_push_size _ rfl,rfl,rfl⟩,fun b hb=>?_,q⟩
  have e:b=s1.heap.objs.size:=by simpa using hb
  subst e
  exact I1.fpOk (Nat.le_refl _) (I1.hok.fresh (Nat.le_refl _))
 ·obtain ⟨its,rv,p,hz⟩:=I1.tuple hq
  refine wpAny_pyIter_tuple (show s1.heap.IsTuple a its.toArray from p) ?_
  refine ⟨s1.heap.objs.size,[s1.heap.objs.size],_,_,H1,rfl,I1.kept (t':=s1.toks) fun b o e=>Heap.get?_push_of_some _ e,qK a _,⟨_,Heap.get?_push_size _ rfl,rfl,rfl⟩,fun b hb=>?_,q⟩
  have e:b=s1.heap.objs.size:=by simpa using hb
  subst e
  exact I1.fpOk (Nat.le_refl _) (I1.hok.fresh (Nat.le_refl _))
end
end L2
namespace HT
open PySem PySem.Spec PyProof.Rows
section
variable {prog:Program} {w:World} {A:Around} {E:Value→Shared→Prop} {s:Shared}
theorem getItem_tuple_all {t sl:Addr} {items:Array Value} {vl vu:Value} {lo hi:Option Int} {Q:Value→Shared→Prop} (ht:IsTup s.heap t items) (hs:s.heap.IsSliceOf sl vl vu .none) (pl:IsPart vl lo) (pu:IsPart vu hi)
  (hw:sIx items.size 0 lo=0∧sIx items.size items.size hi=items.size) (h:Q (.ref t) s):wpAny (model prog w) A (getItem (.ref t) (.ref sl)) Q E s:=by
 obtain ⟨os,hos,hcs,hds⟩:=id hs
 have hTs:s.TypeIs (.ref sl) "slice":=⟨os,hos,hcs⟩
 unfold getItem
 try with_reducible refine wpAny_holding ?_
 first | refine wpAny_bind (wpAny_pure ?_) | skip
 refine wpAny_bind (wpAny_sequenceKey ht.typeIs (by decide) ?_)
 refine wpAny_bind (wpAny_callSpecial?_slot (name:=Str.ofString "__getitem__") ht.typeIs PyProof.Rows.slot_tuple_getitem
  (wpAny_call_entry PyProof.Rows.slot_tuple_getitem ht.typeIs entry_tuple_getitem ?_ (args_tuple_getitem _ _)))
 show wpAny _ _ (Builtin.Tuple.tupleItemsOf (.ref t) >>= _) _ _ s
 refine wpAny_bind (tupleItemsOf_ ht ?_)
 refine wpAny_bind (wpAny_typeOf hTs ?_)
 rw [if_pos (by decide)]
 refine wpAny_bind (vq hs pl pu ?_)
 have hyes:(((sIx items.size 0 lo:Nat):Int) == 0 && (1:Int) == 1 && (sIx items.size items.size hi - sIx items.size 0 lo) == items.size)=true:=by
  rw [hw.1,hw.2]
  simp
 show wpAny _ _ (if (((sIx items.size 0 lo:Nat):Int) == 0 && (1:Int) == 1 && (sIx items.size items.size hi - sIx items.size 0 lo) == items.size)=true then _ else _) _ _ s
 rw [if_pos hyes]
 unfold Builtin.Tuple.tupleIsExact
 refine wpAny_bind (wpAny_bind (wpAny_typeOf ht.typeIs (wpAny_pure ?_)))
 rw [if_pos (by decide)]
 exact wpAny_bind (wpAny_rule (wpAny_pure ⟨_,rfl,wpAny_pure h⟩))
end
end HT
namespace L2
open PySem PySem.Spec PyProof.Rows
section
variable {X:Cx}
def KU (K:PySem.W.Frag):V→Option Int→Option Int→Hp→VK→Prop:=fun x lo hi H Q=>∃ a xs,x=.ref a∧SqT K H a xs ∧
 ((HT.sIx xs.length 0 lo=0∧HT.sIx xs.length xs.length hi=xs.length)→Q (.ref a) H)∧(¬ (HT.sIx xs.length 0 lo=0∧HT.sIx xs.length xs.length hi=xs.length)→∀ p,H p=none→Q (.ref p) (upd H p (.tup (ki xs lo hi))))
theorem Q0:SlR X (KU X.K):=by
 intro pins s σ H x v vl vu lo hi sl Q I rx hs pl pu h
 obtain ⟨a,xs,rfl,hx,q1,q2⟩:=h
 by_cases hw:HT.sIx xs.length 0 lo=0∧HT.sIx xs.length xs.length hi=xs.length
 ·cases rx
  obtain ⟨its,r,ht,hz⟩:=I.tuple hx
  have hlen:its.toArray.size=xs.length:=by rw [List.size_toArray];exact r.length.symm
  refine ⟨"tuple",_,PyProof.Rows.slot_tuple_getitem.lookup,ht.typeIs,?_⟩
  exact HT.getItem_tuple_all ht hs pl pu (by rw [hlen];exact hw) ⟨.ref a,H,I,rfl,q1 hw⟩
 ·exact zaD pins s σ H _ v vl vu lo hi sl Q I rx hs pl pu ⟨a,xs,rfl,hx,hw,q2 hw⟩
end
end L2
namespace L2
open PySem PySem.Spec PyProof.Rows
def zb7 (K:PySem.W.Frag) (te ts:TE):TE:=fun σ H Q=>te σ H fun x H1=>ts σ H1 fun k H2=>∃ a xs,x=.ref a∧k=.int (-1)∧SqL K H2 a xs∧∀ p,H2 p=none→Q (.ref p) (upd H2 p (.lst xs.reverse))
section
variable {X:Cx} {e st:Expr} {p2 pos:Pos} {te ts:TE}
end
end L2
namespace L2
open PySem PySem.Spec PySem.W PyProof.Rows
abbrev zcA:RC:=fun xs H Q=>∃ (a:Addr) (kvs:List (Key × V)) (rs:List Int),xs=[.ref a]∧H a=some (.dK kvs)∧kvs.map (·.1)=rs.map Sum.inl∧kvs.length < 1000 ∧
 ∀ (l:Addr) (srt:List Int),H l=none→srt.Perm rs→srt.Pairwise (· < ·)→Q (.ref l) (upd H l (.lst (srt.map V.int)))
section
variable {X:Cx}
end
end L2
namespace L2
open PySem
section
variable {P:Program} {w:World} {A:Around} {E:Value→Shared→Prop} {s:Shared}
theorem Ju {it d:Addr} {i ep:Nat} {es:Array DictEntry} {e:DictEntry} {ok ov:Value} {Q:Option Value→Shared→Prop} (hit:ItA s.heap it d i es.size ep .none false ok ov) (hm:RawD s.heap d es ep) (hx:es[i]?=some e)
  (q:∀ h',IsItemIterOut h' it d (i + 1) es.size ep e.key e.val s.heap.objs.size→h'.get? s.heap.objs.size=some { cls:=.type "tuple",data:=.seq #[e.key,e.val] }→h'.objs.size=s.heap.objs.size + 1 →
   (∀ b o,b≠it→s.heap.get? b=some o→h'.get? b=some o)→Q (some (.ref s.heap.objs.size)) { s with heap:=h' }):wpAny (model P w) A (pyNext (.ref it)) Q E s:=by
 obtain ⟨hp,g,dr,tk,os⟩:=s;obtain ⟨od,hod,hcd,hdd⟩:=id hm
 have T:Shared.TypeIs ⟨hp,g,dr,tk,os⟩ (.ref it) "dict_itemiterator":=⟨_,hit,rfl⟩
 unfold pyNext;refine wpAny_bind (wpAny_attempt (wpAny_callSpecial?_slot (name:=Str.ofString "__next__") T F.slot_dict_itemiterator_next (wpAny_call_entry F.slot_dict_itemiterator_next T F.entry_dict_itemiterator_next ?_ (F.args_dict_itemiterator_next_1 _))))
 refine wpAny_bind (wpAny_pure ?_);refine wpAny_bind ?_;refine wpAny_bind ?_
 first | (refine wpAny_bind (wpAny_typeNameOfWhole_itemiter T (wpAny_pure ?_))) | (refine wpAny_bind (wpAny_typeNameOf_itemiter T (wpAny_pure ?_)))
 refine wpAny_bind (wpAny_fieldsOf hit rfl ?_);have own:Builtin.Dict_items.ownsTuple "dict_itemiterator"=true:=by decide
 simp only [own,if_true];show wpAny _ _ (if (Value.ref d == Value.none)=true then _ else _) _ _ _
 rw [if_neg (show ¬ ((Value.ref d == Value.none)=true) from Bool.false_ne_true)];refine wpAny_bind (wpAny_pure ?_);refine wpAny_bind (wpAny_dictEntries hod hdd ?_)
 rw [if_neg (by simp)];refine wpAny_bind (wpAny_pure ?_);refine wpAny_bind (wpAny_dictEpoch hod hdd ?_);rw [if_neg (by simp)];refine wpAny_pure ?_
 simp only [show ¬ ((i:Int) < 0) from by omega,if_false,Int.toNat_natCast,hx];refine wpAny_bind ?_
 first | (refine wpAny_bind (wpAny_typeNameOfWhole_itemiter T (wpAny_pure ?_))) | (refine wpAny_bind (wpAny_typeNameOf_itemiter T (wpAny_pure ?_)))
 refine wpAny_bind (wpAny_isOneOf_itemiter T ?_);show wpAny _ _ (setField (.ref it) 3 (rawInt ((i:Int) + 1)) >>= _) _ _ ⟨hp,g,dr,tk,os⟩
 refine wpAny_bind (wpAny_setField_rec hit (by simp) fun h₁ e1 s1=>?_)
 replace s1:Heap.SameBut it hp h₁:=s1
 replace e1:ItA h₁ it d (i + 1) es.size ep .none false ok ov:=by
  have z:((i + 1:Nat):Int)=(i:Int) + 1:=by omega
  unfold ItA;rw [z];simpa [rawInt] using e1
 have T1:Shared.TypeIs ⟨h₁,g,dr,tk,os⟩ (.ref it) "dict_itemiterator":=⟨_,e1,rfl⟩
 refine wpAny_bind (wpAny_holding ?_);refine wpAny_bind (wpAny_isOneOf_itemiter T1 ?_);refine wpAny_bind (wpAny_isOneOf_itemiter T1 ?_)
 show wpAny _ _ (Builtin.Dict_items.pairFromOwner (.ref it) 6 e.key e.val) _ _ ⟨h₁,g,dr,tk,os⟩
 unfold Builtin.Dict_items.pairFromOwner;refine wpAny_bind (wpAny_newTuple ?_)
 have e2:ItA (h₁.push { cls:=.type "tuple",data:=.seq #[e.key,e.val] }) it d (i + 1) es.size ep .none false ok ov:=Heap.get?_push_of_some _ e1
 generalize hg:h₁.push { cls:=.type "tuple",data:=.seq #[e.key,e.val] }=h₂ at e2
 have z1:h₁.objs.size=hp.objs.size:=s1.1;have il:it < hp.objs.size:=Heap.lt_size hit
 have t2:h₂.get? hp.objs.size=some { cls:=.type "tuple",data:=.seq #[e.key,e.val] }:=by rw [← hg,← z1];exact Heap.get?_push_size _ rfl
 have z2:h₂.objs.size=hp.objs.size + 1:=by rw [← hg,Heap.size_push,z1]
 have k2:∀ b o,b≠it→hp.get? b=some o→h₂.get? b=some o:=fun b o hb z=>by rw [← hg];exact Heap.get?_push_of_some _ (s1.extBut b o hb z)
 show wpAny _ _ (Builtin.Dict_items.ownedTupleIsFree (.ref it) >>= _) _ _ ⟨h₂,g,dr,tk,os⟩;rw [z1]
 clear hg e1 s1 T1 z1 h₁;refine wpAny_bind ?_;unfold Builtin.Dict_items.ownedTupleIsFree
 refine wpAny_bind (wpAny_field e2 rfl (x:=.none) rfl (wpAny_pure ?_));simp only [if_true]
 refine wpAny_bind (wpAny_field e2 rfl (x:=ok) rfl ?_);refine wpAny_bind (wpAny_field e2 rfl (x:=ov) rfl ?_)
 refine wpAny_bind (wpAny_setField_rec e2 (by simp) fun h₃ e3 s3=>?_);replace s3:Heap.SameBut it h₂ h₃:=s3;replace e3:ItA h₃ it d (i + 1) es.size ep .none false e.key ov:=e3
 refine wpAny_bind (wpAny_setField_rec e3 (by simp) fun h₄ e4 s4=>?_);replace s4:Heap.SameBut it h₃ h₄:=s4;replace e4:ItA h₄ it d (i + 1) es.size ep .none false e.key e.val:=e4
 refine wpAny_bind (wpAny_setField_rec e4 (by simp) fun h₅ e5 s5=>?_);replace s5:Heap.SameBut it h₄ h₅:=s5;replace e5:ItA h₅ it d (i + 1) es.size ep (rawInt (hp.objs.size:Nat)) false e.key e.val:=e5
 refine wpAny_bind (wpAny_setField_rec e5 (by simp) fun h₆ e6 s6=>?_);replace s6:Heap.SameBut it h₅ h₆:=s6;replace e6:ItA h₆ it d (i + 1) es.size ep (rawInt (hp.objs.size:Nat)) false e.key e.val:=e6
 have k6:∀ b o,b≠it→h₂.get? b=some o→h₆.get? b=some o:=fun b o hb z=>s6.extBut b o hb (s5.extBut b o hb (s4.extBut b o hb (s3.extBut b o hb z)))
 have t6:=k6 _ _ (Nat.ne_of_gt il) t2
 refine wpAny_bind (wpAny_letGo (wpAny_pure (wpAny_pure ⟨_,rfl,wpAny_pure (q h₆ e6 t6 ?_ (fun b o hb z=>k6 b o hb (k2 b o hb z)))⟩)))
 show h₆.objs.size=hp.objs.size + 1;rw [s6.1,s5.1,s4.1,s3.1,z2]
theorem Zt:entryFor table "dict_itemiterator.__iter__"=some Builtin.«dict_keyiterator.__iter__» :=
 entryFor_alias (id':="dict_keyiterator.__iter__") (by kernel_rfl) rfl (by decide +kernel) (by kernel_rfl)
theorem W4 {it d:Addr} {i n ep:Nat} {ok ov:Value} {Q:Value→Shared→Prop} (hit:IsItemIter s.heap it d i n ep ok ov) (h:Q (.ref it) s):wpAny (model P w) A (pyIter (.ref it)) Q E s:=by
 have T:s.TypeIs (.ref it) "dict_itemiterator":=⟨_,hit,rfl⟩
 refine wpAny_pyIter_slot T F.slot_dict_itemiterator_iter (wpAny_call_entry F.slot_dict_itemiterator_iter T Zt ?_ (F.args_dict_itemiterator_iter_1 _))
 show wpAny _ _ (ret (.ref it)) _ _ s
 exact wpAny_pure ⟨_,rfl,"dict_itemiterator",_,T,F.slot_dict_itemiterator_next.lookup,h⟩
end
end L2
namespace L2
open PySem PySem.Spec PyProof.Rows
def Itm (a:Addr) (o:Obj) (kvs:List (List Key × V)):It :=
 ⟨fun i H=>H a=some (.frz o (.dT kvs))∧i < kvs.length,fun i H x H'=>∃ T k v p,kvs[i]?=some (k,v)∧x=.ref T∧H T=none∧H p=some (.tup (k.map kV))∧H'=upd H T (.tup [.ref p,v]),fun i H=>H a=some (.frz o (.dT kvs))∧kvs.length≤i⟩
section
variable {X:Cx}
theorem Zu {pins:List (Addr × Obj)} {σ:St} {H:Hp} {s:Shared} {a:Addr} {o:Obj} {kvs:List (List Key × V)} (I:Inv X pins σ H s) (ha:H a=some (.frz o (.dT kvs))) :
  (a == sysModules)=false∧∃ (es:Array DictEntry) (ep:Nat),o.data=.dict es ep∧RawD s.heap a es ep∧es.size=kvs.length∧∀ (i:Nat) (e:DictEntry),es[i]?=some e→∃ (k:List Key) (v:V) (p:Addr),kvs[i]?=some (k,v)∧e.key=Value.ref p∧H p=some (.tup (k.map kV))∧RelV v e.val:=by
 obtain ⟨hg,hz,lo,xs,rel,o',es,ep,ho,hx,hd,he,hn⟩:=(show ObjOk X.prog X.w H s.heap a (.frz o (.dT kvs)) from I.hok a _ ha)
 rw [hg] at ho
 cases ho
 have lx:kvs.length=xs.length:=Paired.length rel
 have les:es.size=xs.length:=by rw [← Array.length_toList,he,List.length_map]
 refine ⟨lo,es,ep,hd,⟨o,hg,hx,hd⟩,by omega,fun i e hi=>?_⟩
 have e2:es.toList[i]?=some e:=by rw [Array.getElem?_toList];exact hi
 rw [he,List.getElem?_map] at e2
 obtain ⟨x,hxx,ex⟩:=Option.map_eq_some_iff.mp e2
 have hl:=(List.getElem?_eq_some_iff.mp hxx).1
 have hk:kvs[i]?=some kvs[i]:=List.getElem?_eq_getElem (by omega)
 have rl:=yv rel hk hxx
 refine ⟨kvs[i].1,kvs[i].2,x.2.1,hk,by rw [← ex];rfl,rl.2.1,by rw [← ex];exact rl.2.2⟩
theorem W5 {P:Program} {w:World} {K:PySem.W.Frag} {elts:List Expr} {x1} {pos:Pos} {a it:Addr} {o:Obj} {kvs:List (List Key × V)} {es:Array DictEntry} {ep:Nat} (hd:o.data=.dict es ep) :
  JH P w K (.Tuple elts x1 pos) (Itm a o kvs) [it] it (fun i h=>∃ ok ov,IsItemIter h it a i es.size ep ok ov) where
 mem:=by simp
 obj:=fun i h st b hb=>by
  have e:b=it:=by simpa using hb
  subst e
  obtain ⟨ok,ov,st⟩:=st
  exact ⟨_,st,fun v z=>by cases z⟩
 keep:=fun i h h' ⟨ok,ov,st⟩ k=>⟨ok,ov,k it (by simp) _ st⟩
 item:=by
  intro X hP hw hK hc i pins s σ H E I hf st hg
  subst hP hw hK
  obtain ⟨ha,hi⟩:=hg
  obtain ⟨lo,es',ep',hd',raw,hs,key⟩:=Zu I ha
  rw [hd] at hd'
  cases hd'
  obtain ⟨ok,ov,st⟩:=st
  have hx:es[i]?=some es[i]:=Array.getElem?_eq_getElem (by omega)
  obtain ⟨k,v,p,hk,ek,hp,rv⟩:=key i _ hx
  refine Ju st raw hx fun h e8 t8 sz k8=>?_
  have I6:Inv X pins σ (upd H s.heap.objs.size (.tup [.ref p,v])) { s with heap:=s.heap.push { cls:=.type "tuple",data:=.seq #[es[i].key,es[i].val] } } :=
   I.laid (a:=s.heap.objs.size) (o:=.tup [.ref p,v]) (t':=s.toks) (fun b u e=>Heap.get?_push_of_some _ e) (Nat.le_refl _) ⟨by show 2≤sizeLine;decide,[es[i].key,es[i].val],.cons (by rw [ek];rfl) (.cons rv .nil),⟨_,Heap.get?_push_size _ rfl,rfl,_,rfl⟩⟩
  have old:∀ c∈[it],c≠s.heap.objs.size:=fun c hc=>by
   rw [List.mem_singleton.mp hc];exact Nat.ne_of_lt (Heap.lt_size st)
  have free:∀ c∈[it],upd H s.heap.objs.size (HO.tup [.ref p,v]) c=none:=fun c hc=>by rw [zl (old c hc)];exact (hf c hc).1
  have fz:∀ c∈[it],v0 X pins (upd H s.heap.objs.size (HO.tup [.ref p,v])) c:=fun c hc=>⟨free c hc,(hf c hc).2⟩
  refine ⟨.ref s.heap.objs.size,rfl,wpAny_letOwnedTupleGo_items e8 fun h2 z9 sb2=>?_⟩
  have up:∀ c o,c≠it→h.get? c=some o→h2.get? c=some o:=fun c o hc e=>by
   rw [show h2.get? c=h.get? c from sb2.2 c hc];exact e
  have I7:Inv X pins σ (upd H s.heap.objs.size (.tup [.ref p,v])) { s with heap:=h2 }:=I6.turnedL (s:={ s with heap:=s.heap.push { cls:=.type "tuple",data:=.seq #[es[i].key,es[i].val] } }) (t':=s.toks) (ch:=[it]) (fun c o hc e=>by
   have hc:c≠it:=fun z=>hc (List.mem_singleton.mpr z)
   refine up c o hc ?_
   rcases Heap.get?_push_cases (show (s.heap.push { cls:=.type "tuple",data:=.seq #[es[i].key,es[i].val] }).get? c=some o from e) with ⟨rfl,rfl⟩ | e
   ·exact t8
   ·exact k8 c o hc e) fun c hc=>fz c hc
  exact ⟨.ref s.heap.objs.size,_,I7,rfl,⟨_,k,v,p,hk,rfl,I.hok.fresh (Nat.le_refl _),hp,rfl⟩,⟨_,_,z9⟩,free⟩
 done:=by
  intro X hP hw hK hc i pins s σ H E I hf st hg
  subst hP hw hK
  obtain ⟨ha,hi⟩:=hg
  obtain ⟨lo,es',ep',hd',raw,hs,key⟩:=Zu I ha
  rw [hd] at hd'
  cases hd'
  obtain ⟨ok,ov,st⟩:=st
  obtain ⟨f0,f1,f2,f3,f4,f5⟩:=hf it (by simp)
  exact VT (I.ok.hd hc) st raw (by omega) fun h' eb=>⟨rfl,I.turned (t':=s.toks) (fun b o hb e=>eb b o hb e) f0 f1 f3 f4 f5⟩
 self:=fun _ _ _ _ _ st h=>by
  obtain ⟨ok,ov,st⟩:=st
  exact W4 st h
def Wd (td:TE):TI:=fun σ H R=>td σ H fun x H1=>∃ a o kvs,x=.ref a∧H1 a=some (.frz o (.dT kvs))∧R (Itm a o kvs) H1
theorem KW {elts:List Expr} {x1} {tp:Pos} {o:Expr} {apos cpos:Pos} {td:TE} (ho:PE X o td) (hbase:attributeBase o "items" X.env (eval o X.env)=eval o X.env:=by rfl) (hline:(apos.endLine == cpos.line)=true:=by rfl):PI X (.Tuple elts x1 tp) (.Call (.Attribute o "items" apos) [] [] cpos) (Wd td):=by
 intro pins s σ H R I h
 refine wpAny_Call_method0_late hbase hline (thn (ho pins s σ H _ I h) fun v s1 ⟨x,H1,I1,r1,d,ob,kvs,ex,hd,q1⟩=>?_)
 subst ex
 obtain rfl:v=Value.ref d:=r1
 obtain ⟨lo,es,ep,hdd,raw,hs,key⟩:=Zu I1 hd
 obtain ⟨t1,t2,t3⟩:=WU I1 (.inr ⟨kvs,.inr ⟨ob,hd⟩⟩)
 refine ⟨"dict","dict.items",PySem.F.plainAttrs_dict,PySem.F.slot_dict_items,PySem.F.type_dict_items,t1,t2,Calls.callWith_builtin rfl (PySem.evalArgs_none ?_)⟩
 refine wpAny_call_entry PySem.F.slot_dict_items t1 PySem.F.entry_dict_items ?_ (PySem.F.args_dict_items_1 _)
 unfold Builtin.«dict.items»;refine wpAny_bind ?_;unfold Builtin.Dict.noArgs;refine wpAny_bind (wpAny_notOrdered_dict t1 ?_)
 show wpAny _ _ (pure d) _ _ s1;refine wpAny_pure ?_
 show wpAny _ _ (Builtin.Dict.showsAll d >>= _) _ _ s1;unfold Builtin.Dict.showsAll
 rw [if_neg (by rw [t3];exact Bool.false_ne_true)];refine wpAny_bind (wpAny_pure ?_)
 refine wpAny_bind (wpAny_newObj_type (wpAny_pure ⟨_,rfl,?_⟩))
 have at0:(s1.heap.push { cls:=.type "dict_items",data:=.fields #[.ref d] }).get? s1.heap.objs.size=some { cls:=.type "dict_items",data:=.fields #[.ref d] }:=Heap.get?_push_size _ rfl
 have I2:Inv X pins σ H1 { s1 with heap:=s1.heap.push { cls:=.type "dict_items",data:=.fields #[.ref d] } }:=I1.kept (t':=s1.toks) fun b u e=>Heap.get?_push_of_some _ e
 have raw2:RawD (s1.heap.push { cls:=.type "dict_items",data:=.fields #[.ref d] }) d es ep:=raw.at fun o e=>Heap.get?_push_of_some _ e
 refine X5 (s:={ s1 with heap:=s1.heap.push { cls:=.type "dict_items",data:=.fields #[.ref d] } }) ⟨_,at0,rfl,rfl⟩ raw2 ?_
 generalize hg:(s1.heap.push { cls:=.type "dict_items",data:=.fields #[.ref d] }:Heap)=h2 at *
 refine ⟨h2.objs.size,[h2.objs.size],_,_,H1,rfl,I2.kept (s:={ s1 with heap:=h2 }) (t':=s1.toks) fun b o e=>Heap.get?_push_of_some _ e,W5 hdd,⟨.none,.none,Heap.get?_push_size _ rfl⟩,fun b hb=>?_,q1⟩
 have e:b=h2.objs.size:=by simpa using hb
 subst e
 exact I2.fpOk (Nat.le_refl _) (I2.hok.fresh (Nat.le_refl _))
end
end L2
namespace K21
open PySem L2
def top (i:Nat):Stmt:=PySem.Challenge.pw_forerun_k21_straight_rows.main.body.getD i (.Pass ⟨0,0,0,0⟩)
abbrev xx:Stmt:=top 20
abbrev yG:Stmt:=top 21
abbrev yM:Stmt:=top 22
abbrev yX:Stmt:=top 27
abbrev xP:Stmt:=top 28
abbrev yY:Stmt:=top 29
abbrev yx:Stmt:=top 30
abbrev yZ:Stmt:=qB (top 15) 0
abbrev wB:Stmt:=top 10
abbrev wC:Stmt:=top 11
abbrev xQ:Stmt:=top 7
abbrev vD:Stmt:=top 12
abbrev xR:Stmt:=top 13
abbrev yn:Stmt:=qB (top 15) 1
abbrev y0:Stmt:=qB (top 15) 3
abbrev z4:Stmt:=qB (top 15) 2
abbrev y6:Stmt:=top 16
abbrev xm:Stmt:=top 5
abbrev jH:Stmt:=top 17
abbrev yB:Stmt:=top 19
abbrev xy:Stmt:=top 23
abbrev xz:Stmt:=top 24
abbrev xA:Stmt:=top 25
abbrev xS:Stmt:=top 26
abbrev y7:Stmt:=top 31
abbrev Zv:Stmt:=top 32
theorem sc__law_draw:zM ["cell","j","far"] ["cell","j"] (zj xx):=⟨rfl,rfl,rfl,by decide +kernel,rfl,by decide +kernel,by decide +kernel⟩
theorem sc__law_names:zM ["cell","many","size","signs","stem","k","at","turn"] ["cell","many"] (zj yG):=⟨rfl,rfl,rfl,by decide +kernel,rfl,by decide +kernel,by decide +kernel⟩
theorem sc__law_number:zM ["cell","j","way"] ["cell","j"] (zj yM):=⟨rfl,rfl,rfl,by decide +kernel,rfl,by decide +kernel,by decide +kernel⟩
theorem sc__law_table:zM ["cell","shelves","worths","k","worth"] ["cell","shelves"] (zj yX):=⟨rfl,rfl,rfl,by decide +kernel,rfl,by decide +kernel,by decide +kernel⟩
theorem We:zM ["one","other","word"] ["one","other","word"] (zj xP):=⟨rfl,rfl,rfl,by decide +kernel,rfl,by decide +kernel,by decide +kernel⟩
theorem sc__law_worth:zM ["term","slots","parts","part"] ["term","slots"] (zj yY):=⟨rfl,rfl,rfl,by decide +kernel,rfl,by decide +kernel,by decide +kernel⟩
theorem sc__law_walked:zM ["rows","table","slots","stands_now","said","row","place","behind"] ["rows","table"] (zj yx):=⟨rfl,rfl,rfl,by decide +kernel,rfl,by decide +kernel,by decide +kernel⟩
theorem Z0:zM ["self","table"] ["self","table"] (zj yZ):=⟨rfl,rfl,rfl,by decide +kernel,rfl,by decide +kernel,by decide +kernel⟩
theorem W6:zM ["word","first","second"] ["word","first","second"] (zj wB):=⟨rfl,rfl,rfl,by decide +kernel,rfl,by decide +kernel,by decide +kernel⟩
theorem W7:zM ["word","first","second"] ["word","first","second"] (zj wC):=⟨rfl,rfl,rfl,by decide +kernel,rfl,by decide +kernel,by decide +kernel⟩
theorem Wf:zM ["thing"] ["thing"] (zj xQ):=⟨rfl,rfl,rfl,by decide +kernel,rfl,by decide +kernel,by decide +kernel⟩
theorem sc_joined:zM ["word","first","second","worth"] ["word","first","second"] (zj vD):=⟨rfl,rfl,rfl,by decide +kernel,rfl,by decide +kernel,by decide +kernel⟩
theorem sc_reckoned:zM ["term","slots","worths","part","second","first"] ["term","slots"] (zj xR):=⟨rfl,rfl,rfl,by decide +kernel,rfl,by decide +kernel,by decide +kernel⟩
theorem kF:zM ["self","term"] ["self","term"] (zj yn):=⟨rfl,rfl,rfl,by decide +kernel,rfl,by decide +kernel,by decide +kernel⟩
theorem sc_Doing_does:zM ["self","row","place"] ["self","row"] (zj y0):=⟨rfl,rfl,rfl,by decide +kernel,rfl,by decide +kernel,by decide +kernel⟩
theorem sc_Doing_goes_through:zM ["self","rows","row"] ["self","rows"] (zj z4):=⟨rfl,rfl,rfl,by decide +kernel,rfl,by decide +kernel,by decide +kernel⟩
theorem Z1:zM ["why","table"] ["why","table"] (zj y6):=⟨rfl,rfl,rfl,by decide +kernel,rfl,by decide +kernel,by decide +kernel⟩
theorem sc_table_of:zM ["rows","worths"] ["rows"] (zj xm):=⟨rfl,rfl,rfl,by decide +kernel,rfl,by decide +kernel,by decide +kernel⟩
theorem sc_alone:zM ["rows","table","doing","came_through"] ["rows","table"] (zj jH):=⟨rfl,rfl,rfl,by decide +kernel,rfl,by decide +kernel,by decide +kernel⟩
theorem qv:zM ["script","k"] ["script","k"] (zj yB):=⟨rfl,rfl,rfl,by decide +kernel,rfl,by decide +kernel,by decide +kernel⟩
theorem Xf:zM ["cell","j","slots"] ["cell","j","slots"] (zj xy):=⟨rfl,rfl,rfl,by decide +kernel,rfl,by decide +kernel,by decide +kernel⟩
theorem sc__law_term:zM ["cell","j","slots","kind","one","other","words"] ["cell","j","slots"] (zj xz):=⟨rfl,rfl,rfl,by decide +kernel,rfl,by decide +kernel,by decide +kernel⟩
theorem Xg:zM ["cell","j","slots"] ["cell","j","slots"] (zj xA):=⟨rfl,rfl,rfl,by decide +kernel,rfl,by decide +kernel,by decide +kernel⟩
theorem sc__law_row:zM ["cell","slots","shelves","kind","shelf","slot"] ["cell","slots","shelves"] (zj xS):=⟨rfl,rfl,rfl,by decide +kernel,rfl,by decide +kernel,by decide +kernel⟩
theorem sc__law_plain:zM ["found","part"] ["found"] (zj y7):=⟨rfl,rfl,rfl,by decide +kernel,rfl,by decide +kernel,by decide +kernel⟩
theorem sc_law:zM ["script","slots","shelves","table","rows","due","handed","told"] ["script"] (zj Zv):=⟨rfl,rfl,rfl,by decide +kernel,rfl,by decide +kernel,by decide +kernel⟩
set_option genSizeOf false in
set_option genInjectivity false in
structure Adr where
 a__law_draw:Addr
 d__law_draw:FuncData
 a__law_names:Addr
 d__law_names:FuncData
 a__law_number:Addr
 d__law_number:FuncData
 a__law_table:Addr
 d__law_table:FuncData
 a__law_two:Addr
 d__law_two:FuncData
 a__law_worth:Addr
 d__law_worth:FuncData
 a__law_walked:Addr
 d__law_walked:FuncData
 a_Doing_init:Addr
 d_Doing_init:FuncData
 a_divided:Addr
 d_divided:FuncData
 a_come_to:Addr
 d_come_to:FuncData
 a_is_worth:Addr
 d_is_worth:FuncData
 a_joined:Addr
 d_joined:FuncData
 a_reckoned:Addr
 d_reckoned:FuncData
 a_Doing_worth_of:Addr
 d_Doing_worth_of:FuncData
 a_Doing_does:Addr
 d_Doing_does:FuncData
 a_Doing_goes_through:Addr
 d_Doing_goes_through:FuncData
 a_broken_off:Addr
 d_broken_off:FuncData
 a_table_of:Addr
 d_table_of:FuncData
 a_alone:Addr
 d_alone:FuncData
 a__law_cell_at:Addr
 d__law_cell_at:FuncData
 a__law_part:Addr
 d__law_part:FuncData
 a__law_term:Addr
 d__law_term:FuncData
 a__law_spot:Addr
 d__law_spot:FuncData
 a__law_row:Addr
 d__law_row:FuncData
 a__law_plain:Addr
 d__law_plain:FuncData
 a_law:Addr
 d_law:FuncData
 c_JOINING:Addr
 c_Doing:Addr
 c_Great:Addr
 c_Nought:Addr
structure Txt (K:PySem.W.Frag) (mg:Str→Option Value) (t:Adr):Prop where
 f__law_draw:Fun K "_law_draw" "_law_draw" xx t.a__law_draw t.d__law_draw
 b__law_draw:Binds K t.d__law_draw ["cell","j"] []
 m__law_draw:mg "_law_draw"=some (.ref t.a__law_draw)
 f__law_names:Fun K "_law_names" "_law_names" yG t.a__law_names t.d__law_names
 b__law_names:Binds K t.d__law_names ["cell","many"] []
 m__law_names:mg "_law_names"=some (.ref t.a__law_names)
 f__law_number:Fun K "_law_number" "_law_number" yM t.a__law_number t.d__law_number
 b__law_number:Binds K t.d__law_number ["cell","j"] []
 m__law_number:mg "_law_number"=some (.ref t.a__law_number)
 f__law_table:Fun K "_law_table" "_law_table" yX t.a__law_table t.d__law_table
 b__law_table:Binds K t.d__law_table ["cell","shelves"] []
 m__law_table:mg "_law_table"=some (.ref t.a__law_table)
 f__law_two:Fun K "_law_two" "_law_two" xP t.a__law_two t.d__law_two
 b__law_two:Binds K t.d__law_two ["one","other","word"] []
 m__law_two:mg "_law_two"=some (.ref t.a__law_two)
 f__law_worth:Fun K "_law_worth" "_law_worth" yY t.a__law_worth t.d__law_worth
 b__law_worth:Binds K t.d__law_worth ["term","slots"] []
 m__law_worth:mg "_law_worth"=some (.ref t.a__law_worth)
 f__law_walked:Fun K "_law_walked" "_law_walked" yx t.a__law_walked t.d__law_walked
 b__law_walked:Binds K t.d__law_walked ["rows","table"] []
 m__law_walked:mg "_law_walked"=some (.ref t.a__law_walked)
 f_Doing_init:Fun K "__init__" "Doing.__init__" yZ t.a_Doing_init t.d_Doing_init
 b_Doing_init:Binds K t.d_Doing_init ["self","table"] []
 f_divided:Fun K "divided" "divided" wB t.a_divided t.d_divided
 b_divided:Binds K t.d_divided ["word","first","second"] []
 m_divided:mg "divided"=some (.ref t.a_divided)
 f_come_to:Fun K "come_to" "come_to" wC t.a_come_to t.d_come_to
 b_come_to:Binds K t.d_come_to ["word","first","second"] []
 m_come_to:mg "come_to"=some (.ref t.a_come_to)
 f_is_worth:Fun K "is_worth" "is_worth" xQ t.a_is_worth t.d_is_worth
 b_is_worth:Binds K t.d_is_worth ["thing"] []
 m_is_worth:mg "is_worth"=some (.ref t.a_is_worth)
 f_joined:Fun K "joined" "joined" vD t.a_joined t.d_joined
 b_joined:Binds K t.d_joined ["word","first","second"] []
 m_joined:mg "joined"=some (.ref t.a_joined)
 f_reckoned:Fun K "reckoned" "reckoned" xR t.a_reckoned t.d_reckoned
 b_reckoned:Binds K t.d_reckoned ["term","slots"] []
 m_reckoned:mg "reckoned"=some (.ref t.a_reckoned)
 f_Doing_worth_of:Fun K "worth_of" "Doing.worth_of" yn t.a_Doing_worth_of t.d_Doing_worth_of
 b_Doing_worth_of:Binds K t.d_Doing_worth_of ["self","term"] []
 me_Doing_worth_of:Jd K t.c_Doing "worth_of" t.a_Doing_worth_of
 f_Doing_does:Fun K "does" "Doing.does" y0 t.a_Doing_does t.d_Doing_does
 b_Doing_does:Binds K t.d_Doing_does ["self","row"] []
 me_Doing_does:Jd K t.c_Doing "does" t.a_Doing_does
 f_Doing_goes_through:Fun K "goes_through" "Doing.goes_through" z4 t.a_Doing_goes_through t.d_Doing_goes_through
 b_Doing_goes_through:Binds K t.d_Doing_goes_through ["self","rows"] []
 me_Doing_goes_through:Jd K t.c_Doing "goes_through" t.a_Doing_goes_through
 f_broken_off:Fun K "broken_off" "broken_off" y6 t.a_broken_off t.d_broken_off
 b_broken_off:Binds K t.d_broken_off ["why","table"] []
 m_broken_off:mg "broken_off"=some (.ref t.a_broken_off)
 f_table_of:Fun K "table_of" "table_of" xm t.a_table_of t.d_table_of
 b_table_of:Binds K t.d_table_of ["rows"] []
 m_table_of:mg "table_of"=some (.ref t.a_table_of)
 f_alone:Fun K "alone" "alone" jH t.a_alone t.d_alone
 b_alone:Binds K t.d_alone ["rows","table"] []
 m_alone:mg "alone"=some (.ref t.a_alone)
 f__law_cell_at:Fun K "_law_cell_at" "_law_cell_at" yB t.a__law_cell_at t.d__law_cell_at
 b__law_cell_at:Binds K t.d__law_cell_at ["script","k"] []
 m__law_cell_at:mg "_law_cell_at"=some (.ref t.a__law_cell_at)
 f__law_part:Fun K "_law_part" "_law_part" xy t.a__law_part t.d__law_part
 b__law_part:Binds K t.d__law_part ["cell","j","slots"] []
 m__law_part:mg "_law_part"=some (.ref t.a__law_part)
 f__law_term:Fun K "_law_term" "_law_term" xz t.a__law_term t.d__law_term
 b__law_term:Binds K t.d__law_term ["cell","j","slots"] []
 m__law_term:mg "_law_term"=some (.ref t.a__law_term)
 f__law_spot:Fun K "_law_spot" "_law_spot" xA t.a__law_spot t.d__law_spot
 b__law_spot:Binds K t.d__law_spot ["cell","j","slots"] []
 m__law_spot:mg "_law_spot"=some (.ref t.a__law_spot)
 f__law_row:Fun K "_law_row" "_law_row" xS t.a__law_row t.d__law_row
 b__law_row:Binds K t.d__law_row ["cell","slots","shelves"] []
 m__law_row:mg "_law_row"=some (.ref t.a__law_row)
 f__law_plain:Fun K "_law_plain" "_law_plain" y7 t.a__law_plain t.d__law_plain
 b__law_plain:Binds K t.d__law_plain ["found"] []
 m__law_plain:mg "_law_plain"=some (.ref t.a__law_plain)
 f_law:Fun K "law" "law" Zv t.a_law t.d_law
 b_law:Binds K t.d_law ["script"] []
 m_law:mg "law"=some (.ref t.a_law)
 w_law:∀ (s:Shared) (v:Value),BindsTo s t.d_law ⟨[v],[]⟩ [("script",v)]
 b_bool:mg "bool"=none
 b_dict:mg "dict"=none
 b_int:mg "int"=none
 b_isinstance:mg "isinstance"=none
 b_len:mg "len"=none
 b_list:mg "list"=none
 b_range:mg "range"=none
 b_sorted:mg "sorted"=none
 b_str:mg "str"=none
 b_tuple:mg "tuple"=none
 g_JOINING:mg "JOINING"=some (.ref t.c_JOINING)
 v_JOINING:∀ H:Hp,SqT K H t.c_JOINING [.str "plus",.str "minus",.str "times",.str "over",.str "rest",.str "under",.str "same"]
 g_Doing:mg "Doing"=some (.ref t.c_Doing)
 g_Great:mg "Great"=some (.ref t.c_Great)
 g_Nought:mg "Nought"=some (.ref t.c_Nought)
 cl_Doing:Cls K t.c_Doing
 mk_Doing:Mk K t.c_Doing t.a_Doing_init
 na_Doing_sayings:NoAttr K t.c_Doing "sayings"
 na_Doing_slots:NoAttr K t.c_Doing "slots"
 na_Doing_worths:NoAttr K t.c_Doing "worths"
 x_Nought:PySem.W.excIn K t.c_Nought XL kS=true
 y_Nought:ExK K t.c_Nought
 e_Nought_Great:PySem.W.exmOne K (.ref t.c_Nought) (.ref t.c_Great)=some false
 e_Nought_Nought:PySem.W.exmOne K (.ref t.c_Nought) (.ref t.c_Nought)=some true
 x_Great:PySem.W.excIn K t.c_Great XL kS=true
 y_Great:ExK K t.c_Great
 e_Great_Great:PySem.W.exmOne K (.ref t.c_Great) (.ref t.c_Great)=some true
 e_Great_Nought:PySem.W.exmOne K (.ref t.c_Great) (.ref t.c_Nought)=some false
theorem txt_mk {K:PySem.W.Frag} {h:Heap} {mg:Str→Option Value} (X:K.In h) (G:h.Ns mainGlobals mg)
  {f0:Addr} {od0 an0:Option Addr} {sl0:Array (Option Value)} {oc0 kV0 dc0 pm0 cd0 ct0:Value}
  {f1:Addr} {od1 an1:Option Addr} {sl1:Array (Option Value)} {oc1 kV1 dc1 pm1 cd1 ct1:Value}
  {f2:Addr} {od2 an2:Option Addr} {sl2:Array (Option Value)} {oc2 kV2 dc2 pm2 cd2 ct2:Value}
  {f3:Addr} {od3 an3:Option Addr} {sl3:Array (Option Value)} {oc3 kV3 dc3 pm3 cd3 ct3:Value}
  {f4:Addr} {od4 an4:Option Addr} {sl4:Array (Option Value)} {oc4 kV4 dc4 pm4 cd4 ct4:Value}
  {f5:Addr} {od5 an5:Option Addr} {sl5:Array (Option Value)} {oc5 kV5 dc5 pm5 cd5 ct5:Value}
  {f6:Addr} {od6 an6:Option Addr} {sl6:Array (Option Value)} {oc6 kV6 dc6 pm6 cd6 ct6:Value}
  {f7:Addr} {od7 an7:Option Addr} {sl7:Array (Option Value)} {oc7 kV7 dc7 pm7 cd7 ct7:Value}
  {f8:Addr} {od8 an8:Option Addr} {sl8:Array (Option Value)} {oc8 kV8 dc8 pm8 cd8 ct8:Value}
  {f9:Addr} {od9 an9:Option Addr} {sl9:Array (Option Value)} {oc9 kV9 dc9 pm9 cd9 ct9:Value}
  {f10:Addr} {od10 an10:Option Addr} {sl10:Array (Option Value)} {oc10 kV10 dc10 pm10 cd10 ct10:Value}
  {f11:Addr} {od11 an11:Option Addr} {sl11:Array (Option Value)} {oc11 kV11 dc11 pm11 cd11 ct11:Value}
  {f12:Addr} {od12 an12:Option Addr} {sl12:Array (Option Value)} {oc12 kV12 dc12 pm12 cd12 ct12:Value}
  {f13:Addr} {od13 an13:Option Addr} {sl13:Array (Option Value)} {oc13 kV13 dc13 pm13 cd13 ct13:Value}
  {f14:Addr} {od14 an14:Option Addr} {sl14:Array (Option Value)} {oc14 kV14 dc14 pm14 cd14 ct14:Value}
  {f15:Addr} {od15 an15:Option Addr} {sl15:Array (Option Value)} {oc15 kV15 dc15 pm15 cd15 ct15:Value}
  {f16:Addr} {od16 an16:Option Addr} {sl16:Array (Option Value)} {oc16 kV16 dc16 pm16 cd16 ct16:Value}
  {f17:Addr} {od17 an17:Option Addr} {sl17:Array (Option Value)} {oc17 kV17 dc17 pm17 cd17 ct17:Value}
  {f18:Addr} {od18 an18:Option Addr} {sl18:Array (Option Value)} {oc18 kV18 dc18 pm18 cd18 ct18:Value}
  {f19:Addr} {od19 an19:Option Addr} {sl19:Array (Option Value)} {oc19 kV19 dc19 pm19 cd19 ct19:Value}
  {f20:Addr} {od20 an20:Option Addr} {sl20:Array (Option Value)} {oc20 kV20 dc20 pm20 cd20 ct20:Value}
  {f21:Addr} {od21 an21:Option Addr} {sl21:Array (Option Value)} {oc21 kV21 dc21 pm21 cd21 ct21:Value}
  {f22:Addr} {od22 an22:Option Addr} {sl22:Array (Option Value)} {oc22 kV22 dc22 pm22 cd22 ct22:Value}
  {f23:Addr} {od23 an23:Option Addr} {sl23:Array (Option Value)} {oc23 kV23 dc23 pm23 cd23 ct23:Value}
  {f24:Addr} {od24 an24:Option Addr} {sl24:Array (Option Value)} {oc24 kV24 dc24 pm24 cd24 ct24:Value}
  {f25:Addr} {od25 an25:Option Addr} {sl25:Array (Option Value)} {oc25 kV25 dc25 pm25 cd25 ct25:Value}
  {ga0:Addr} {gn0:Nat} {gt0_0:Tok} {gt0_1:Tok} {gt0_2:Tok} {gt0_3:Tok} {gt0_4:Tok} {gt0_5:Tok} {gt0_6:Tok}
  {ca0:Addr}
  {ca1:Addr}
  {ca2:Addr}
  {cl0:ClassData}
  {cl1:ClassData}
  (qa0:PySem.W.nsIn K mainGlobals "_law_draw"=some (some (.ref f0))) (ql0:K.lookup f0=some ⟨oc0,od0,.func (PySem.W.fnOf "_law_draw" "_law_draw" (zQ xx) (zK xx) (zj xx) .none kV0 dc0 pm0 an0 cd0 ct0),sl0⟩) (qc0:PySem.W.codeIn K cd0 "_law_draw"=true) (qk0:PySem.W.keepIn K (.ref f0)=true)
  (qa1:PySem.W.nsIn K mainGlobals "_law_names"=some (some (.ref f1))) (ql1:K.lookup f1=some ⟨oc1,od1,.func (PySem.W.fnOf "_law_names" "_law_names" (zQ yG) (zK yG) (zj yG) .none kV1 dc1 pm1 an1 cd1 ct1),sl1⟩) (qc1:PySem.W.codeIn K cd1 "_law_names"=true) (qk1:PySem.W.keepIn K (.ref f1)=true)
  (qa2:PySem.W.nsIn K mainGlobals "_law_number"=some (some (.ref f2))) (ql2:K.lookup f2=some ⟨oc2,od2,.func (PySem.W.fnOf "_law_number" "_law_number" (zQ yM) (zK yM) (zj yM) .none kV2 dc2 pm2 an2 cd2 ct2),sl2⟩) (qc2:PySem.W.codeIn K cd2 "_law_number"=true) (qk2:PySem.W.keepIn K (.ref f2)=true)
  (qa3:PySem.W.nsIn K mainGlobals "_law_table"=some (some (.ref f3))) (ql3:K.lookup f3=some ⟨oc3,od3,.func (PySem.W.fnOf "_law_table" "_law_table" (zQ yX) (zK yX) (zj yX) .none kV3 dc3 pm3 an3 cd3 ct3),sl3⟩) (qc3:PySem.W.codeIn K cd3 "_law_table"=true) (qk3:PySem.W.keepIn K (.ref f3)=true)
  (qa4:PySem.W.nsIn K mainGlobals "_law_two"=some (some (.ref f4))) (ql4:K.lookup f4=some ⟨oc4,od4,.func (PySem.W.fnOf "_law_two" "_law_two" (zQ xP) (zK xP) (zj xP) .none kV4 dc4 pm4 an4 cd4 ct4),sl4⟩) (qc4:PySem.W.codeIn K cd4 "_law_two"=true) (qk4:PySem.W.keepIn K (.ref f4)=true)
  (qa5:PySem.W.nsIn K mainGlobals "_law_worth"=some (some (.ref f5))) (ql5:K.lookup f5=some ⟨oc5,od5,.func (PySem.W.fnOf "_law_worth" "_law_worth" (zQ yY) (zK yY) (zj yY) .none kV5 dc5 pm5 an5 cd5 ct5),sl5⟩) (qc5:PySem.W.codeIn K cd5 "_law_worth"=true) (qk5:PySem.W.keepIn K (.ref f5)=true)
  (qa6:PySem.W.nsIn K mainGlobals "_law_walked"=some (some (.ref f6))) (ql6:K.lookup f6=some ⟨oc6,od6,.func (PySem.W.fnOf "_law_walked" "_law_walked" (zQ yx) (zK yx) (zj yx) .none kV6 dc6 pm6 an6 cd6 ct6),sl6⟩) (qc6:PySem.W.codeIn K cd6 "_law_walked"=true) (qk6:PySem.W.keepIn K (.ref f6)=true)
  (qa7:PySem.W.findIn K (.ref ca0) "__init__"=some (some (.ref f7))) (qi7:PySem.W.isFn K (.ref f7)=true) (ql7:K.lookup f7=some ⟨oc7,od7,.func (PySem.W.fnOf "__init__" "Doing.__init__" (zQ yZ) (zK yZ) (zj yZ) .none kV7 dc7 pm7 an7 cd7 ct7),sl7⟩) (qc7:PySem.W.codeIn K cd7 "Doing.__init__"=true) (qk7:PySem.W.keepIn K (.ref f7)=true)
  (qa8:PySem.W.nsIn K mainGlobals "divided"=some (some (.ref f8))) (ql8:K.lookup f8=some ⟨oc8,od8,.func (PySem.W.fnOf "divided" "divided" (zQ wB) (zK wB) (zj wB) .none kV8 dc8 pm8 an8 cd8 ct8),sl8⟩) (qc8:PySem.W.codeIn K cd8 "divided"=true) (qk8:PySem.W.keepIn K (.ref f8)=true)
  (qa9:PySem.W.nsIn K mainGlobals "come_to"=some (some (.ref f9))) (ql9:K.lookup f9=some ⟨oc9,od9,.func (PySem.W.fnOf "come_to" "come_to" (zQ wC) (zK wC) (zj wC) .none kV9 dc9 pm9 an9 cd9 ct9),sl9⟩) (qc9:PySem.W.codeIn K cd9 "come_to"=true) (qk9:PySem.W.keepIn K (.ref f9)=true)
  (qa10:PySem.W.nsIn K mainGlobals "is_worth"=some (some (.ref f10))) (ql10:K.lookup f10=some ⟨oc10,od10,.func (PySem.W.fnOf "is_worth" "is_worth" (zQ xQ) (zK xQ) (zj xQ) .none kV10 dc10 pm10 an10 cd10 ct10),sl10⟩) (qc10:PySem.W.codeIn K cd10 "is_worth"=true) (qk10:PySem.W.keepIn K (.ref f10)=true)
  (qa11:PySem.W.nsIn K mainGlobals "joined"=some (some (.ref f11))) (ql11:K.lookup f11=some ⟨oc11,od11,.func (PySem.W.fnOf "joined" "joined" (zQ vD) (zK vD) (zj vD) .none kV11 dc11 pm11 an11 cd11 ct11),sl11⟩) (qc11:PySem.W.codeIn K cd11 "joined"=true) (qk11:PySem.W.keepIn K (.ref f11)=true)
  (qa12:PySem.W.nsIn K mainGlobals "reckoned"=some (some (.ref f12))) (ql12:K.lookup f12=some ⟨oc12,od12,.func (PySem.W.fnOf "reckoned" "reckoned" (zQ xR) (zK xR) (zj xR) .none kV12 dc12 pm12 an12 cd12 ct12),sl12⟩) (qc12:PySem.W.codeIn K cd12 "reckoned"=true) (qk12:PySem.W.keepIn K (.ref f12)=true)
  (qa13:PySem.W.findIn K (.ref ca0) "worth_of"=some (some (.ref f13))) (qi13:PySem.W.isFn K (.ref f13)=true) (ql13:K.lookup f13=some ⟨oc13,od13,.func (PySem.W.fnOf "worth_of" "Doing.worth_of" (zQ yn) (zK yn) (zj yn) .none kV13 dc13 pm13 an13 cd13 ct13),sl13⟩) (qc13:PySem.W.codeIn K cd13 "Doing.worth_of"=true) (qk13:PySem.W.keepIn K (.ref f13)=true)
  (qa14:PySem.W.findIn K (.ref ca0) "does"=some (some (.ref f14))) (qi14:PySem.W.isFn K (.ref f14)=true) (ql14:K.lookup f14=some ⟨oc14,od14,.func (PySem.W.fnOf "does" "Doing.does" (zQ y0) (zK y0) (zj y0) .none kV14 dc14 pm14 an14 cd14 ct14),sl14⟩) (qc14:PySem.W.codeIn K cd14 "Doing.does"=true) (qk14:PySem.W.keepIn K (.ref f14)=true)
  (qa15:PySem.W.findIn K (.ref ca0) "goes_through"=some (some (.ref f15))) (qi15:PySem.W.isFn K (.ref f15)=true) (ql15:K.lookup f15=some ⟨oc15,od15,.func (PySem.W.fnOf "goes_through" "Doing.goes_through" (zQ z4) (zK z4) (zj z4) .none kV15 dc15 pm15 an15 cd15 ct15),sl15⟩) (qc15:PySem.W.codeIn K cd15 "Doing.goes_through"=true) (qk15:PySem.W.keepIn K (.ref f15)=true)
  (qa16:PySem.W.nsIn K mainGlobals "broken_off"=some (some (.ref f16))) (ql16:K.lookup f16=some ⟨oc16,od16,.func (PySem.W.fnOf "broken_off" "broken_off" (zQ y6) (zK y6) (zj y6) .none kV16 dc16 pm16 an16 cd16 ct16),sl16⟩) (qc16:PySem.W.codeIn K cd16 "broken_off"=true) (qk16:PySem.W.keepIn K (.ref f16)=true)
  (qa17:PySem.W.nsIn K mainGlobals "table_of"=some (some (.ref f17))) (ql17:K.lookup f17=some ⟨oc17,od17,.func (PySem.W.fnOf "table_of" "table_of" (zQ xm) (zK xm) (zj xm) .none kV17 dc17 pm17 an17 cd17 ct17),sl17⟩) (qc17:PySem.W.codeIn K cd17 "table_of"=true) (qk17:PySem.W.keepIn K (.ref f17)=true)
  (qa18:PySem.W.nsIn K mainGlobals "alone"=some (some (.ref f18))) (ql18:K.lookup f18=some ⟨oc18,od18,.func (PySem.W.fnOf "alone" "alone" (zQ jH) (zK jH) (zj jH) .none kV18 dc18 pm18 an18 cd18 ct18),sl18⟩) (qc18:PySem.W.codeIn K cd18 "alone"=true) (qk18:PySem.W.keepIn K (.ref f18)=true)
  (qa19:PySem.W.nsIn K mainGlobals "_law_cell_at"=some (some (.ref f19))) (ql19:K.lookup f19=some ⟨oc19,od19,.func (PySem.W.fnOf "_law_cell_at" "_law_cell_at" (zQ yB) (zK yB) (zj yB) .none kV19 dc19 pm19 an19 cd19 ct19),sl19⟩) (qc19:PySem.W.codeIn K cd19 "_law_cell_at"=true) (qk19:PySem.W.keepIn K (.ref f19)=true)
  (qa20:PySem.W.nsIn K mainGlobals "_law_part"=some (some (.ref f20))) (ql20:K.lookup f20=some ⟨oc20,od20,.func (PySem.W.fnOf "_law_part" "_law_part" (zQ xy) (zK xy) (zj xy) .none kV20 dc20 pm20 an20 cd20 ct20),sl20⟩) (qc20:PySem.W.codeIn K cd20 "_law_part"=true) (qk20:PySem.W.keepIn K (.ref f20)=true)
  (qa21:PySem.W.nsIn K mainGlobals "_law_term"=some (some (.ref f21))) (ql21:K.lookup f21=some ⟨oc21,od21,.func (PySem.W.fnOf "_law_term" "_law_term" (zQ xz) (zK xz) (zj xz) .none kV21 dc21 pm21 an21 cd21 ct21),sl21⟩) (qc21:PySem.W.codeIn K cd21 "_law_term"=true) (qk21:PySem.W.keepIn K (.ref f21)=true)
  (qa22:PySem.W.nsIn K mainGlobals "_law_spot"=some (some (.ref f22))) (ql22:K.lookup f22=some ⟨oc22,od22,.func (PySem.W.fnOf "_law_spot" "_law_spot" (zQ xA) (zK xA) (zj xA) .none kV22 dc22 pm22 an22 cd22 ct22),sl22⟩) (qc22:PySem.W.codeIn K cd22 "_law_spot"=true) (qk22:PySem.W.keepIn K (.ref f22)=true)
  (qa23:PySem.W.nsIn K mainGlobals "_law_row"=some (some (.ref f23))) (ql23:K.lookup f23=some ⟨oc23,od23,.func (PySem.W.fnOf "_law_row" "_law_row" (zQ xS) (zK xS) (zj xS) .none kV23 dc23 pm23 an23 cd23 ct23),sl23⟩) (qc23:PySem.W.codeIn K cd23 "_law_row"=true) (qk23:PySem.W.keepIn K (.ref f23)=true)
  (qa24:PySem.W.nsIn K mainGlobals "_law_plain"=some (some (.ref f24))) (ql24:K.lookup f24=some ⟨oc24,od24,.func (PySem.W.fnOf "_law_plain" "_law_plain" (zQ y7) (zK y7) (zj y7) .none kV24 dc24 pm24 an24 cd24 ct24),sl24⟩) (qc24:PySem.W.codeIn K cd24 "_law_plain"=true) (qk24:PySem.W.keepIn K (.ref f24)=true)
  (qa25:PySem.W.nsIn K mainGlobals "law"=some (some (.ref f25))) (ql25:K.lookup f25=some ⟨oc25,od25,.func (PySem.W.fnOf "law" "law" (zQ Zv) (zK Zv) (zj Zv) .none kV25 dc25 pm25 an25 cd25 ct25),sl25⟩) (qc25:PySem.W.codeIn K cd25 "law"=true) (qk25:PySem.W.keepIn K (.ref f25)=true)
  (qz0:PySem.W.nsIn K mainGlobals "bool"=some none)
  (qz1:PySem.W.nsIn K mainGlobals "dict"=some none)
  (qz2:PySem.W.nsIn K mainGlobals "int"=some none)
  (qz3:PySem.W.nsIn K mainGlobals "isinstance"=some none)
  (qz4:PySem.W.nsIn K mainGlobals "len"=some none)
  (qz5:PySem.W.nsIn K mainGlobals "list"=some none)
  (qz6:PySem.W.nsIn K mainGlobals "range"=some none)
  (qz7:PySem.W.nsIn K mainGlobals "sorted"=some none)
  (qz8:PySem.W.nsIn K mainGlobals "str"=some none)
  (qz9:PySem.W.nsIn K mainGlobals "tuple"=some none)
  (qg0:PySem.W.nsIn K mainGlobals "JOINING"=some (some (.ref ga0))) (qh0:K.lookup ga0=some ⟨.type "tuple",none,.seq #[.str "plus" gt0_0,.str "minus" gt0_1,.str "times" gt0_2,.str "over" gt0_3,.str "rest" gt0_4,.str "under" gt0_5,.str "same" gt0_6] gn0,#[]⟩)
  (qv0:PySem.W.nsIn K mainGlobals "Doing"=some (some (.ref ca0)))
  (qv1:PySem.W.nsIn K mainGlobals "Great"=some (some (.ref ca1)))
  (qv2:PySem.W.nsIn K mainGlobals "Nought"=some (some (.ref ca2)))
  (pg0:PySem.W.plainGet K ca0 Str.empty=true) (pd0:PySem.W.hasDictIn K ca0=true) (po0:PySem.W.plainOver K ca0=true) (pe0:PySem.W.findIn K (.ref ca0) "__setattr__"=some (some (.builtin "object.__setattr__"))) (pm0_:PySem.W.makesIn K ca0=true) (pk0:PySem.W.keepIn K (.ref ca0)=true)
  (pn0_0:PySem.W.findIn K (.ref ca0) "sayings"=some none)
  (pn0_1:PySem.W.findIn K (.ref ca0) "slots"=some none)
  (pn0_2:PySem.W.findIn K (.ref ca0) "worths"=some none)
  (rx0:PySem.W.excIn K ca2 XL kS=true)
  (ry0_0:PySem.W.findIn K (.ref ca2) "__getattribute__"=some (some (.builtin "BaseException.__getattribute__")))
  (ry0_1:PySem.W.findIn K (.ref ca2) "__getattr__"=some none)
  (ry0_2:PySem.W.findIn K (.ref ca2) "__class__"=some (some (.builtin "object.__class__")))
  (ry0_3:PySem.W.mroIn K ca2 (.type "object")=some true)
  (ry0_4:PySem.W.mroIn K ca2 (.type "BaseException")=some true)
  (ry0_5:PySem.W.specialIn K (.builtin "object.__class__") "__get__"=some (some (.builtin "getset_descriptor.__get__")))
  (ry0_6:PySem.W.takesIn K (.builtin "object.__class__")=some true)
  (ry0_7:PySem.W.clsIn K ca2=some cl0)
  (re0_0:PySem.W.exmOne K (.ref ca2) (.ref ca1)=some false)
  (re0_1:PySem.W.exmOne K (.ref ca2) (.ref ca2)=some true)
  (rx1:PySem.W.excIn K ca1 XL kS=true)
  (ry1_0:PySem.W.findIn K (.ref ca1) "__getattribute__"=some (some (.builtin "BaseException.__getattribute__")))
  (ry1_1:PySem.W.findIn K (.ref ca1) "__getattr__"=some none)
  (ry1_2:PySem.W.findIn K (.ref ca1) "__class__"=some (some (.builtin "object.__class__")))
  (ry1_3:PySem.W.mroIn K ca1 (.type "object")=some true)
  (ry1_4:PySem.W.mroIn K ca1 (.type "BaseException")=some true)
  (ry1_5:PySem.W.specialIn K (.builtin "object.__class__") "__get__"=some (some (.builtin "getset_descriptor.__get__")))
  (ry1_6:PySem.W.takesIn K (.builtin "object.__class__")=some true)
  (ry1_7:PySem.W.clsIn K ca1=some cl1)
  (re1_0:PySem.W.exmOne K (.ref ca1) (.ref ca1)=some true)
  (re1_1:PySem.W.exmOne K (.ref ca1) (.ref ca2)=some false):∃ t,Txt K mg t:=by
 have F0:=yc (st:=xx) ql0 qc0 qk0
 have F1:=yc (st:=yG) ql1 qc1 qk1
 have F2:=yc (st:=yM) ql2 qc2 qk2
 have F3:=yc (st:=yX) ql3 qc3 qk3
 have F4:=yc (st:=xP) ql4 qc4 qk4
 have F5:=yc (st:=yY) ql5 qc5 qk5
 have F6:=yc (st:=yx) ql6 qc6 qk6
 have F7:=yc (st:=yZ) ql7 qc7 qk7
 have F8:=yc (st:=wB) ql8 qc8 qk8
 have F9:=yc (st:=wC) ql9 qc9 qk9
 have F10:=yc (st:=xQ) ql10 qc10 qk10
 have F11:=yc (st:=vD) ql11 qc11 qk11
 have F12:=yc (st:=xR) ql12 qc12 qk12
 have F13:=yc (st:=yn) ql13 qc13 qk13
 have F14:=yc (st:=y0) ql14 qc14 qk14
 have F15:=yc (st:=z4) ql15 qc15 qk15
 have F16:=yc (st:=y6) ql16 qc16 qk16
 have F17:=yc (st:=xm) ql17 qc17 qk17
 have F18:=yc (st:=jH) ql18 qc18 qk18
 have F19:=yc (st:=yB) ql19 qc19 qk19
 have F20:=yc (st:=xy) ql20 qc20 qk20
 have F21:=yc (st:=xz) ql21 qc21 qk21
 have F22:=yc (st:=xA) ql22 qc22 qk22
 have F23:=yc (st:=xS) ql23 qc23 qk23
 have F24:=yc (st:=y7) ql24 qc24 qk24
 have F25:=yc (st:=Zv) ql25 qc25 qk25
 exact ⟨⟨f0,_,f1,_,f2,_,f3,_,f4,_,f5,_,f6,_,f7,_,f8,_,f9,_,f10,_,f11,_,f12,_,f13,_,f14,_,f15,_,f16,_,f17,_,f18,_,f19,_,f20,_,f21,_,f22,_,f23,_,f24,_,f25,_,ga0,ca0,ca1,ca2⟩,⟨F0,F0.binds (ps:=["cell","j"]) (fun _ _ _ _ _ _ us hl=>match us,hl with | [_,_],_=>rfl),PySem.W.mg_of X G qa0,
  F1,F1.binds (ps:=["cell","many"]) (fun _ _ _ _ _ _ us hl=>match us,hl with | [_,_],_=>rfl),PySem.W.mg_of X G qa1,
  F2,F2.binds (ps:=["cell","j"]) (fun _ _ _ _ _ _ us hl=>match us,hl with | [_,_],_=>rfl),PySem.W.mg_of X G qa2,
  F3,F3.binds (ps:=["cell","shelves"]) (fun _ _ _ _ _ _ us hl=>match us,hl with | [_,_],_=>rfl),PySem.W.mg_of X G qa3,
  F4,F4.binds (ps:=["one","other","word"]) (fun _ _ _ _ _ _ us hl=>match us,hl with | [_,_,_],_=>rfl),PySem.W.mg_of X G qa4,
  F5,F5.binds (ps:=["term","slots"]) (fun _ _ _ _ _ _ us hl=>match us,hl with | [_,_],_=>rfl),PySem.W.mg_of X G qa5,
  F6,F6.binds (ps:=["rows","table"]) (fun _ _ _ _ _ _ us hl=>match us,hl with | [_,_],_=>rfl),PySem.W.mg_of X G qa6,
  F7,F7.binds (ps:=["self","table"]) (fun _ _ _ _ _ _ us hl=>match us,hl with | [_,_],_=>rfl),
  F8,F8.binds (ps:=["word","first","second"]) (fun _ _ _ _ _ _ us hl=>match us,hl with | [_,_,_],_=>rfl),PySem.W.mg_of X G qa8,
  F9,F9.binds (ps:=["word","first","second"]) (fun _ _ _ _ _ _ us hl=>match us,hl with | [_,_,_],_=>rfl),PySem.W.mg_of X G qa9,
  F10,F10.binds (ps:=["thing"]) (fun _ _ _ _ _ _ us hl=>match us,hl with | [_],_=>rfl),PySem.W.mg_of X G qa10,
  F11,F11.binds (ps:=["word","first","second"]) (fun _ _ _ _ _ _ us hl=>match us,hl with | [_,_,_],_=>rfl),PySem.W.mg_of X G qa11,
  F12,F12.binds (ps:=["term","slots"]) (fun _ _ _ _ _ _ us hl=>match us,hl with | [_,_],_=>rfl),PySem.W.mg_of X G qa12,
  F13,F13.binds (ps:=["self","term"]) (fun _ _ _ _ _ _ us hl=>match us,hl with | [_,_],_=>rfl),⟨qa13,qi13,qk13⟩,
  F14,F14.binds (ps:=["self","row"]) (fun _ _ _ _ _ _ us hl=>match us,hl with | [_,_],_=>rfl),⟨qa14,qi14,qk14⟩,
  F15,F15.binds (ps:=["self","rows"]) (fun _ _ _ _ _ _ us hl=>match us,hl with | [_,_],_=>rfl),⟨qa15,qi15,qk15⟩,
  F16,F16.binds (ps:=["why","table"]) (fun _ _ _ _ _ _ us hl=>match us,hl with | [_,_],_=>rfl),PySem.W.mg_of X G qa16,
  F17,F17.binds (ps:=["rows"]) (fun _ _ _ _ _ _ us hl=>match us,hl with | [_],_=>rfl),PySem.W.mg_of X G qa17,
  F18,F18.binds (ps:=["rows","table"]) (fun _ _ _ _ _ _ us hl=>match us,hl with | [_,_],_=>rfl),PySem.W.mg_of X G qa18,
  F19,F19.binds (ps:=["script","k"]) (fun _ _ _ _ _ _ us hl=>match us,hl with | [_,_],_=>rfl),PySem.W.mg_of X G qa19,
  F20,F20.binds (ps:=["cell","j","slots"]) (fun _ _ _ _ _ _ us hl=>match us,hl with | [_,_,_],_=>rfl),PySem.W.mg_of X G qa20,
  F21,F21.binds (ps:=["cell","j","slots"]) (fun _ _ _ _ _ _ us hl=>match us,hl with | [_,_,_],_=>rfl),PySem.W.mg_of X G qa21,
  F22,F22.binds (ps:=["cell","j","slots"]) (fun _ _ _ _ _ _ us hl=>match us,hl with | [_,_,_],_=>rfl),PySem.W.mg_of X G qa22,
  F23,F23.binds (ps:=["cell","slots","shelves"]) (fun _ _ _ _ _ _ us hl=>match us,hl with | [_,_,_],_=>rfl),PySem.W.mg_of X G qa23,
  F24,F24.binds (ps:=["found"]) (fun _ _ _ _ _ _ us hl=>match us,hl with | [_],_=>rfl),PySem.W.mg_of X G qa24,
  F25,F25.binds (ps:=["script"]) (fun _ _ _ _ _ _ us hl=>match us,hl with | [_],_=>rfl),PySem.W.mg_of X G qa25,
  fun s v=>.of_eq rfl,
  PySem.W.mg_none_of X G qz0,
  PySem.W.mg_none_of X G qz1,
  PySem.W.mg_none_of X G qz2,
  PySem.W.mg_none_of X G qz3,
  PySem.W.mg_none_of X G qz4,
  PySem.W.mg_none_of X G qz5,
  PySem.W.mg_none_of X G qz6,
  PySem.W.mg_none_of X G qz7,
  PySem.W.mg_none_of X G qz8,
  PySem.W.mg_none_of X G qz9,
  PySem.W.mg_of X G qg0,fun _=>.inr ⟨_,_,_,qh0,rfl,rfl,(by show 7≤sizeLine;decide),(.cons ⟨_,rfl⟩ (.cons ⟨_,rfl⟩ (.cons ⟨_,rfl⟩ (.cons ⟨_,rfl⟩ (.cons ⟨_,rfl⟩ (.cons ⟨_,rfl⟩ (.cons ⟨_,rfl⟩ .nil)))))))⟩,
  PySem.W.mg_of X G qv0,
  PySem.W.mg_of X G qv1,
  PySem.W.mg_of X G qv2,
  ⟨pg0,pd0,po0,pe0⟩,
  ⟨pm0_,qa7,qi7,pk0⟩,
  pn0_0,
  pn0_1,
  pn0_2,
  rx0,
  ⟨⟨ry0_0,ry0_1,ry0_2,ry0_3,ry0_4,ry0_5,ry0_6⟩,by rw [ry0_7];rfl⟩,
  re0_0,
  re0_1,
  rx1,
  ⟨⟨ry1_0,ry1_1,ry1_2,ry1_3,ry1_4,ry1_5,ry1_6⟩,by rw [ry1_7];rfl⟩,
  re1_0,
  re1_1⟩⟩
structure KF (K:PySem.W.Frag):Prop where
 i_b:PySem.W.kitOne K (.type "int") (.type "bool")=some false
 i_s:PySem.W.kitOne K (.type "int") (.type "str")=some false
 s_i:PySem.W.kitOne K (.type "str") (.type "int")=some false
 s_b:PySem.W.kitOne K (.type "str") (.type "bool")=some false
 a1:PySem.W.kitAny K (.type "tuple") [.type "list",.type "tuple"]=some true
 a2:PySem.W.kitAny K (.type "list") [.type "list",.type "tuple"]=some true
 a3:PySem.W.kitAny K (.type "int") [.type "list",.type "tuple"]=some false
 a4:PySem.W.kitAny K (.type "str") [.type "list",.type "tuple"]=some false
 a5:PySem.W.kitAny K (.type "int") [.type "int",.type "str"]=some true
 a6:PySem.W.kitAny K (.type "str") [.type "int",.type "str"]=some true
def Q1 (K:PySem.W.Frag):Prop:=PySem.W.kitOne K (.type "int") (.type "bool")=some false
def fin (t:Adr) (r:Except Er Int) (Q:VK) (E:XK) (H:Hp):Prop:=match r with
 | .ok i=>Q (.int i) H
 | .error .nought=>E (.ref t.c_Nought) none H
 | .error .great=>E (.ref t.c_Great) none H
 | .error .stuck=>True
def KY (t:Adr) (e:Er) (E:XK) (H:Hp):Prop:=match e with
 | .nought=>E (.ref t.c_Nought) none H
 | .great=>E (.ref t.c_Great) none H
 | .stuck=>True
def RowAt (H:Hp) (v:V) (q:Row):Prop:=∃ r p,v=.ref r∧H r=some (.tup [.ref p,.int q.2])∧H p=some (.tup [.str q.1.1,.int q.1.2])
def wM (H:Hp) (vs:List V) (rows:List Row):Prop:=Paired (RowAt H) vs rows
def KZ (q:Row):Prop:=ye q.1.1=true
def LsAt (H:Hp) (a:Addr) (rows:List Row):Prop:=∃ xs,H a=some (.lst xs)∧wM H xs rows
def NamesAt (H:Hp) (nm:Addr) (ws:List Str):Prop:=H nm=some (.lst (ws.map V.str))∧∀ w∈ws,ye w=true
structure DoF (K:PySem.W.Frag) (t:Adr):Prop where
 cl:Cls K t.c_Doing
 n1:NoAttr K t.c_Doing "slots"
 n2:NoAttr K t.c_Doing "worths"
 n3:NoAttr K t.c_Doing "sayings"
structure DoAt (t:Adr) (H0 H:Hp) (x dx sl wo sa:Addr) (s:Sta):Prop where
 sm:Same H0 H
 f1:H0 sl=none
 f2:H0 wo=none
 f3:H0 sa=none
 ix:H x=some (.ins t.c_Doing dx [("slots",.ref sl),("worths",.ref wo),("sayings",.ref sa)])
 hs:H sl=some (.dK s.sl)
 hw:H wo=some (.dT (dOf s.wo))
 ha:H sa=some (.lst (s.sa.map V.int))
def vX (H:Hp) (v:V):Oc→Prop
 | .done sa=>∃ o y,v=.ref o∧H o=some (.tup [.str "done",.ref y])∧H y=some (.tup (sa.map V.int))
 | .off w=>∃ o,v=.ref o∧H o=some (.tup [.str "off",.str w])
structure Wg (rws:Rws) (tab:List Row):Prop where
 ok:jg rws
 dp:rws.deep < 6
 iw:∀ r∈tab,inW r.2=true
 ln:tab.length + rws.cnt≤500
 fw:∀ s,yw rws ⟨[],tab,[]⟩=.go s→(dOf s.wo).length≤900
def Zw:Rw→Prop
 | .off _=>False
 | .iff _ _ _=>False
 | _=>True
def jh:Sp:=fun vs H Q _=>∃ i,vs=[.int i]∧∀ H',Same H H'→Q (.bl (inW i)) H'
def jZ (t:Adr):Sp:=fun vs H Q E=>∃ w a b,vs=[.str w,.int a,.int b]∧w.length≤1000∧inW a=true∧inW b=true∧∀ H',Same H H'→if b=0 then E (.ref t.c_Nought) none H' else Q (.int (if w="over" then a.fdiv b else a.fmod b)) H'
def j0 (t:Adr):Sp:=fun vs H Q E=>∃ w a b,vs=[.str w,.int a,.int b]∧w.length≤1000∧inW a=true∧inW b=true∧∀ H',Same H H'→if kr w∧b=0 then E (.ref t.c_Nought) none H' else Q (.int (yd w a b)) H'
def kZ (t:Adr):Sp:=fun vs H Q E=>∃ w a b,vs=[.str w,.int a,.int b]∧w.length≤1000∧inW a=true∧inW b=true∧∀ H',Same H H'→fin t (xC w a b) Q E H'
def ji (t:Adr):Sp:=fun vs H Q E=>∃ kvs tm sl ps r,vs=[.ref tm,.ref sl]∧H tm=some (.tup ps)∧H sl=some (.dK kvs)∧Good kvs ps r∧(∀ v∈ps,xM v)∧ps.length≤1000∧xD kvs∧∀ H',Same H H'→fin t r Q E H'
def vc (t:Adr):Sp:=fun vs H Q _=>∃ x a tab H0 dx,vs=[.ref x,.ref a]∧Same H0 H∧H0 x=none∧H x=some (.ins t.c_Doing dx [])∧LsAt H0 a tab∧tab.length≤500 ∧
 ∀ H' sl wo sa,DoAt t H0 H' x dx sl wo sa ⟨[],tab,[]⟩→Q .non H'
def zC (t:Adr):Sp:=fun vs H Q E=>∃ x tm e H0 dx sl wo sa s,vs=[.ref x,.ref tm]∧DoAt t H0 H x dx sl wo sa s∧xD s.sl∧H tm=some (.tup e)∧TermOk e∧∀ H',Same H H'→fin t (rk s.sl e) Q E H'
def vd (t:Adr):Sp:=fun vs H Q E=>∃ x v r m H0 dx sl wo sa s,vs=[.ref x,v]∧DoAt t H0 H x dx sl wo sa s∧RwAt jW H0 v r∧Zw r∧jX r∧StOk m s∧m≤900 ∧
 (∀ H' s',goR r s=.go s'→DoAt t H0 H' x dx sl wo sa s'→Q .non H')∧∀ H' e,goR r s=.er e→Same H0 H'→KY t e E H'
def zW (t:Adr) (n:Nat):Sp:=fun vs H Q E=>∃ x l xs rws m H0 dx sl wo sa s,vs=[.ref x,.ref l]∧DoAt t H0 H x dx sl wo sa s∧H0 l=some (.lst xs)∧RwsAt jW H0 xs rws∧jg rws∧rws.deep < n∧StOk m s∧m + rws.cnt≤900 ∧
 (∀ H' s',yw rws s=.go s'→DoAt t H0 H' x dx sl wo sa s'→Q (.bl true) H')∧(∀ H',yw rws s=.off→Same H0 H'→Q (.bl false) H')∧∀ H' e,yw rws s=.er e→Same H0 H'→KY t e E H'
def yy:Sp:=fun vs H Q _=>∃ (w:Str) (a:Addr) (tab:List Row),vs=[.str w,.ref a]∧LsAt H a tab∧∀ r o l H',Same H H'→H l=none→H' r=some (.tup [o,.ref l])→vX H' o (.off w)→LsAt H' l tab→Q (.ref r) H'
def jj:Sp:=fun vs H Q _=>∃ a rows,vs=[.ref a]∧LsAt H a rows∧(dOf rows).length≤900∧rows.length≤1000∧∀ l out H',Same H H'→H l=none→LsAt H' l out→wI rows out→Q (.ref l) H'
def jk:Sp:=fun vs H Q _=>∃ v a rws tab,vs=[v,.ref a]∧RlAt jW H v rws∧LsAt H a tab∧Wg rws tab∧∀ r o l oc out H',Same H H'→H l=none→H' r=some (.tup [o,.ref l])→vX H' o oc→LsAt H' l out→wK rws tab oc out→Q (.ref r) H'
def yL (K:PySem.W.Frag):Sp:=fun vs H Q _=>∃ (a:Addr) (ns:List Int) (k:Nat),vs=[.ref a,.int k]∧SqL K H a (ns.map V.int)∧ns.length≤63∧∀ c H',Same H H'→Q (.int c) H'
def zk:Sp:=fun vs H Q _=>∃ c j,vs=[.int c,.int j]∧0≤j∧j≤1000∧∀ r H',0≤r→r < 2147483648→Same H H'→Q (.int r) H'
def xY:Sp:=fun vs H Q _=>∃ c m,vs=[.int c,.int m]∧0≤m∧m≤6∧∀ nm ws H',Same H H'→NamesAt H' nm ws→(ws.length:Int)=m→Q (.ref nm) H'
def smI (i:Int):Prop:=-100000000000000000≤i∧i≤100000000000000000
def lfB (v:V):Prop:=(∃ i,v=.int i∧smI i)∨∃ x,v=.str x∧ye x=true
def wdB (w:Str) (v:V):Prop:=(w=Str.ofString "times"∧∃ k:Int,v=.int k∧-2≤k∧k≤2)∨((w=Str.ofString "over"∨w=Str.ofString "rest")∧∃ k:Int,v=.int k∧k≠0∧-1000000007≤k∧k≤1000000007)∨w=Str.ofString "plus"∨w=Str.ofString "minus"∨w=Str.ofString "under"∨w=Str.ofString "same"
def TmB (e:List V):Prop:=(∃ u,e=[u]∧lfB u)∨∃ u v w,e=[u,v,.str w]∧lfB u∧lfB v∧wdB w v
def RwB:Rw→Prop
 | .take sh e x=>ye sh=true∧ye x=true∧TmB e
 | .give sh e f=>ye sh=true∧TmB e∧TmB f
 | .lt x e=>ye x=true∧TmB e
 | .say e=>TmB e
 | _=>False
def yC:Sp:=fun vs H Q _=>∃ c j,vs=[.int c,.int j]∧0≤j∧j≤900∧∀ w H',smI w→Same H H'→Q (.int w) H'
def y8:Sp:=fun vs H Q _=>∃ c j a ws,vs=[.int c,.int j,.ref a]∧0≤j∧j≤800∧NamesAt H a ws∧ws.length=3∧∀ v H',lfB v→Same H H'→Q v H'
def yH:Sp:=fun vs H Q _=>∃ c j a ws,vs=[.int c,.int j,.ref a]∧0≤j∧j≤700∧NamesAt H a ws∧ws.length=3∧∀ p e H',Same H H'→H p=none→H' p=some (.tup e)→TmB e→Q (.ref p) H'
def wy:Sp:=fun vs H Q _=>∃ c j a ws,vs=[.int c,.int j,.ref a]∧0≤j∧j≤600∧NamesAt H a ws∧ws.length=3∧∀ p e H',Same H H'→H p=none→H' p=some (.tup e)→TmB e→Q (.ref p) H'
def SlB (B:Int) (kvs:List (Key × V)):Prop:=∀ k v,yf kvs k=some v→∃ i,v=.int i∧-B≤i∧i≤B
structure Wh (B:Int):Prop where
 lo:100000000000000000≤B
 hi:B≤500000000000000000000000000000
def VY (w:Str) (a b:Int):Prop:=isJ (.str w)=true∧(kr w→b≠0)∧inW a=true∧inW b=true
def jl:Sp:=fun vs H Q _=>∃ a b w,vs=[.int a,.int b,.str w]∧VY w a b∧∀ H',Same H H'→Q (.int (yd w a b)) H'
def yz:Sp:=fun vs H Q _=>∃ tm sl e kvs B,vs=[.ref tm,.ref sl]∧H tm=some (.tup e)∧H sl=some (.dK kvs)∧TmB e∧SlB B kvs∧Wh B∧∀ i H',rk kvs e=.ok i→-(2 * B)≤i→i≤2 * B→Same H H'→Q (.int i) H'
def Bdk (k:Nat):Int:=100000000000000000 * 2 ^ k
inductive PlV (H:Hp):Nat→V→Prop
 | int {n:Nat} (i:Int):PlV H (n + 1) (.int i)
 | str {n:Nat} (x:Str):PlV H (n + 1) (.str x)
 | lst {n:Nat} {a:Addr} {xs:List V}:H a=some (.lst xs)→(∀ x∈xs,PlV H n x)→PlV H (n + 1) (.ref a)
 | tup {n:Nat} {a:Addr} {xs:List V}:H a=some (.tup xs)→(∀ x∈xs,PlV H n x)→PlV H (n + 1) (.ref a)
def yO (n:Nat):Sp:=fun vs H Q _=>∃ (v:V),vs=[v]∧PlV H n v∧∀ H',Same H H'→Q (.bl true) H'
def zb8:Rw→Prop
 | .iff _ _ _=>False
 | _=>True
def ofL:List Rw→Rws
 | []=>.nil
 | r :: t=>.cons r (ofL t)
def Zx (H:Hp) (xs:List V) (rs:List Rw):Prop:=Paired (fun v r=>RwAt jW H v r) xs rs
structure TaB (tab:List Row):Prop where
 ri:Rising tab
 nm:∀ r∈tab,ye r.1.1=true∧smI r.2
 le:tab.length≤250
def w6:Sp:=fun vs H Q _=>∃ c a b ws us,vs=[.int c,.ref a,.ref b]∧NamesAt H a ws∧ws.length=3∧NamesAt H b us∧us.length=2∧∀ v r H',Same H H'→RwAt jW H' v r→RwB r→Q v H'
def ve:Sp:=fun vs H Q _=>∃ c b us,vs=[.int c,.ref b]∧NamesAt H b us∧us.length=2∧∀ l tab H',Same H H'→H l=none→LsAt H' l tab→TaB tab→Q (.ref l) H'
def wN:Sp:=fun vs H Q _=>∃ (rl tl:Addr) (xs:List V) (rs:List Rw) (tab:List Row),vs=[.ref rl,.ref tl]∧H rl=some (.lst xs)∧Zx H xs rs∧(∀ r∈rs,RwB r)∧rs.length≤40∧LsAt H tl tab∧TaB tab∧∀ r o l s out H',Same H H'→H' r=some (.tup [o,.ref l])→vX H' o (.done s.sa)→LsAt H' l out→yw (ofL rs) ⟨[],tab,[]⟩=.go s→wI s.wo out→Q (.ref r) H'
def sp_law (K:PySem.W.Frag):Sp:=fun vs H Q _=>∃ (a:Addr) (ns:List Int),vs=[.ref a]∧SqL K H a (ns.map V.int)∧ns.length≤63∧∀ H',Q (.bl true) H'
def vP (K:PySem.W.Frag) (t:Adr):TS:=(zq (zN (tOp (rI (fun _ j=>0 < j) fun i j=>.int (i % j)) (tOp (rI0 fun i j=>.int (i + j)) (tOp (rI CMulB fun i j=>.int (i * j)) (tOp (rI (fun _ j=>0 < j) fun i j=>.int (i % j)) (zc 0) (tC (.int 1000000007))) (tC (.int 6700417))) (tOp (rI CMulB fun i j=>.int (i * j)) (tOp (rI CMulB fun i j=>.int (i * j)) (tOp (rI0 fun i j=>.int (i + j)) (zc 1) (tC (.int 1))) (tC (.int 104729))) (tC (.int 65537)))) (tC (.int 1000000009))) (zo 2))
  (zv (tOp (rI XJ fun i j=>.int (i / j)) (tOp (rI (fun _ j=>0 < j) fun i j=>.int (i % j)) (tOp (rI CMulB fun i j=>.int (i * j)) (tOp (rI (fun _ j=>0 < j) fun i j=>.int (i % j)) (tOp (rI CMulB fun i j=>.int (i * j)) (zc 2) (zc 2)) (tC (.int 1000000009))) (zc 2)) (tC (.int 1000000009))) (tC (.int 32)))))
def wj (K:PySem.W.Frag) (t:Adr):TS:=(zv (yS (wF (zb (zc 1) zi)) (zo 0) qq (tOp jM (tOp jM (tSl q9 (zc 1) yW (xK (zc 2))) (tOp YT (zc 3) (zc 0))) (tSl q9 (zc 1) (xK (tOp (rI0 fun i j=>.int (i + j)) (zc 2) (tC (.int 1)))) yW)) 1 [4,6,3]))
def wk (K:PySem.W.Frag) (t:Adr):TS:=(zq (zN (tOp (rI (fun _ j=>0 < j) fun i j=>.int (i % j)) (zn zk [] E0 (zb (zc 0) (zb (tC (.int 8)) zi))) (zc 2)) (zo 6))
  (zq (zN (tOp (rI (fun _ j=>0 < j) fun i j=>.int (i % j)) (zn zk [] E0 (zb (zc 0) (zb (tC (.int 9)) zi))) (tCB (kP K) (zb (zc 3) zi))) (zo 7))
  (zq (zN (tOp jM (tSl q9 (zc 3) (xK (zc 7)) yW) (tSl q9 (zc 3) yW (xK (zc 7)))) (zo 3))
  (wj K t))))
def wm (K:PySem.W.Frag) (t:Adr):TS:=(zq (zN (tC (.str "")) (zo 4))
  (zq (xI (wF (zb (zc 2) zi)) (zo 5)
    (zN (tOp jM (zc 4) (tOp YT (zc 3) (tOp (rI (fun _ j=>0 < j) fun i j=>.int (i % j)) (zn zk [] E0 (zb (zc 0) (zb (tOp (rI0 fun i j=>.int (i + j)) (tC (.int 2)) (zc 5)) zi))) (tCB (kP K) (zb (zc 3) zi))))) (zo 4)))
  (wk K t)))
def vf (K:PySem.W.Frag) (t:Adr):TS:=(zq (zN (tOp (rI0 fun i j=>.int (i + j)) (tC (.int 1)) (tOp (rI (fun _ j=>0 < j) fun i j=>.int (i % j)) (zn zk [] E0 (zb (zc 0) (zb (tC (.int 1)) zi))) (tC (.int 6)))) (zo 2))
  (zq (zN (tC (.str "zyxwvtsrqpnmlkjhgfdcb")) (zo 3))
  (zq (zE (zr (tOp rEq (zc 2) (tC (.int 6))))
    (zN (tC (.str "zyxwvutsrqponmlkjihgfedcba")) (zo 3))
    zA)
  (wm K t))))
def wO (K:PySem.W.Frag) (t:Adr):TS:=(zq (zN (tOp (rI (fun _ j=>0 < j) fun i j=>.int (i % j)) (zn zk [] E0 (zb (zc 0) (zb (zc 1) zi))) (tC (.int 4))) (zo 2))
  (zq (zE (zr (tOp rEq (zc 2) (tC (.int 0))))
    (zv (tOp (rI0 fun i j=>.int (i - j)) (tOp (rI (fun _ j=>0 < j) fun i j=>.int (i % j)) (tOp (rI0 fun i j=>.int (i + j)) (tOp (rI CMulB fun i j=>.int (i * j)) (tOp (rI CMulB fun i j=>.int (i * j)) (tOp (rI (fun _ j=>0 < j) fun i j=>.int (i % j)) (zc 0) (tOp (rI Xv fun i j=>.int (i ^ j.toNat)) (tC (.int 10)) (tC (.int 20)))) (tOp (rI0 fun i j=>.int (i + j)) (zc 1) (tC (.int 2)))) (tC (.int 1000003))) (zc 1)) (tOp (rI0 fun i j=>.int (i + j)) (tOp (rI CMulB fun i j=>.int (i * j)) (tC (.int 2)) (tOp (rI Xv fun i j=>.int (i ^ j.toNat)) (tC (.int 10)) (tC (.int 17)))) (tC (.int 1)))) (tOp (rI Xv fun i j=>.int (i ^ j.toNat)) (tC (.int 10)) (tC (.int 17)))))
    zA)
  (zv (tOp (rI0 fun i j=>.int (i - j)) (tOp (rI (fun _ j=>0 < j) fun i j=>.int (i % j)) (zn zk [] E0 (zb (zc 0) (zb (tOp (rI0 fun i j=>.int (i + j)) (zc 1) (tC (.int 1))) zi))) (tC (.int 7))) (tC (.int 3))))))
def wn (K:PySem.W.Frag) (t:Adr):TS:=(zv (tCB Zr (zb (wJ (zc 2)) zi)))
def wp (K:PySem.W.Frag) (t:Adr):TS:=(zq (xI (wF (zb (tOp (rI (fun _ j=>0 < j) fun i j=>.int (i % j)) (zn zk [] E0 (zb (zc 0) (zb (tC (.int 20)) zi))) (tC (.int 7))) zi)) (zo 3)
   (zq (zN (zn yC [] E0 (zb (zc 0) (zb (tOp (rI0 fun i j=>.int (i + j)) (tC (.int 30)) (tOp (rI CMulB fun i j=>.int (i * j)) (tC (.int 3)) (zc 3))) zi))) (zo 4))
  (zE (zr (tOp rNe (zc 4) (tC (.int 0))))
   (xp (zc 2) (z0 (zb (tOp (yD K) (zc 1) (tOp (rI (fun _ j=>0 < j) fun i j=>.int (i % j)) (zn zk [] E0 (zb (zc 0) (zb (tOp (rI0 fun i j=>.int (i + j)) (tC (.int 50)) (zc 3)) zi))) (tC (.int 2)))) (zb (tOp (rI0 fun i j=>.int (i - j)) (tOp (rI (fun _ j=>0 < j) fun i j=>.int (i % j)) (zn zk [] E0 (zb (zc 0) (zb (tOp (rI0 fun i j=>.int (i + j)) (tC (.int 60)) (zc 3)) zi))) (tC (.int 4))) (tC (.int 1))) zi))) (zc 4))
   zA)))
  (wn K t))
def vW (K:PySem.W.Frag) (t:Adr):TS:=(zq (zE (zr (tOp rEq (tOp (rI (fun _ j=>0 < j) fun i j=>.int (i % j)) (zn zk [] E0 (zb (zc 0) (zb (tC (.int 19)) zi))) (tC (.int 8))) (tC (.int 0))))
   (xI (wF (zb (tOp (rI (fun _ j=>0 < j) fun i j=>.int (i % j)) (zn zk [] E0 (zb (zc 0) (zb (tC (.int 18)) zi))) (tC (.int 241))) zi)) (zo 3)
   (xp (zc 2) (z0 (zb (tOp (yD K) (zc 1) (tOp (rI (fun _ j=>0 < j) fun i j=>.int (i % j)) (zc 3) (tC (.int 2)))) (zb (tOp (rI0 fun i j=>.int (i + j)) (tC (.int 1000)) (zc 3)) zi))) (tOp (rI0 fun i j=>.int (i + j)) (tOp (rI0 fun i j=>.int (i - j)) (tOp (rI XJ fun i j=>.int (i / j)) (zc 3) (tC (.int 3))) (tC (.int 50))) (tCB Zd (zb (tOp rEq (tOp (rI XJ fun i j=>.int (i / j)) (zc 3) (tC (.int 3))) (tC (.int 50))) zi)))))
   zA)
  (wp K t))
def vg (K:PySem.W.Frag) (t:Adr):TS:=(zq (zN YX (zo 2))
  (vW K t))
def jm (K:PySem.W.Frag) (t:Adr):TS:=(zq (zE (zr (tOp rEq (zc 2) (tC (.str "plus"))))
   (zv (tOp (rI0 fun i j=>.int (i + j)) (zc 0) (zc 1)))
   zA)
  (zq (zE (zr (tOp rEq (zc 2) (tC (.str "minus"))))
    (zv (tOp (rI0 fun i j=>.int (i - j)) (zc 0) (zc 1)))
    zA)
  (zq (zE (zr (tOp rEq (zc 2) (tC (.str "times"))))
    (zv (tOp (rI CMulB fun i j=>.int (i * j)) (zc 0) (zc 1)))
    zA)
  (zq (zE (zr (tOp rEq (zc 2) (tC (.str "over"))))
    (zv (tOp (rI Vz fun i j=>.int (i.fdiv j)) (zc 0) (zc 1)))
    zA)
  (zq (zE (zr (tOp rEq (zc 2) (tC (.str "rest"))))
    (zv (tOp (rI0 fun i j=>.int (i - j)) (zc 0) (tOp (rI CMulB fun i j=>.int (i * j)) (tOp (rI Vz fun i j=>.int (i.fdiv j)) (zc 0) (zc 1)) (zc 1))))
    zA)
  (zq (zE (zr (tOp rEq (zc 2) (tC (.str "under"))))
    (zv (tCB Zd (zb (tOp (rI0 fun i j=>.bl (decide (i < j))) (zc 0) (zc 1)) zi)))
    zA)
  (zv (tCB Zd (zb (tOp rEq (zc 0) (zc 1)) zi)))))))))
def xh (K:PySem.W.Frag) (t:Adr):TS:=(zE (tB (tCB (vN K) (zb (zc 3) (zb (tC (.ty "int")) zi))))
   (yp (tBM K "list" zx (zc 2) (zb (zc 3) zi)))
   (yp (tBM K "list" zx (zc 2) (zb (z7 (zc 1) (zc 3) (tC (.int 0))) zi))))
def wq (K:PySem.W.Frag) (t:Adr):TS:=(zq (zE (zr (tOp rEq (tCB (kP K) (zb (zc 0) zi)) (tC (.int 1))))
   (zv (tOp (yD K) (zc 2) (tC (.int 0))))
   zA)
  (zv (zn jl [] E0 (zb (tOp (yD K) (zc 2) (tC (.int 0))) (zb (tOp (yD K) (zc 2) (tC (.int 1))) (zb (tOp (zV K) (zc 0) (tC (.int 2))) zi))))))
def vh (K:PySem.W.Frag) (t:Adr):TS:=(zq (zN (wG zi) (zo 2))
  (zq (xI (WG K (tSl (KU K) (zc 0) yW (xK (tC (.int 2))))) (zo 3)
    (xh K t))
  (wq K t)))
def xT (K:PySem.W.Frag) (t:Adr):TS:=(zv (z0 (zb (z0 (zb (tC (.str "done")) (zb (tCB (qt K) (zb (zc 4) zi)) zi))) (zb (tCB (kE K) (zb (zc 7) zi)) zi))))
def xU (K:PySem.W.Frag) (t:Adr):TS:=(zq (zbw (zN (yS (Wd (zc 3)) (Xu K 2 (ka (zo 0) (ka (zo 1) Xs))) (zr (tOp rNe (zc 1) (tC (.int 0)))) (z0 (zb (zc 0) (zb (zc 1) zi))) 2 []) (zo 7)))
  (xT K t))
def xV (K:PySem.W.Frag) (t:Adr):TS:=(zq (xI (x0 K (zc 0)) (zo 5)
   (zE (zr (tOp rEq (tOp (zV K) (zc 5) (tC (.int 0))) (tC (.str "say"))))
   (yp (tBM K "list" zx (zc 4) (zb (zn yz [] E0 (zb (tOp (zV K) (zc 5) (tC (.int 1))) (zb (zc 2) zi))) zi)))
   (zE (zr (tOp rEq (tOp (zV K) (zc 5) (tC (.int 0))) (tC (.str "let"))))
   (xp (zc 2) (tOp (zV K) (zc 5) (tC (.int 1))) (zn yz [] E0 (zb (tOp (zV K) (zc 5) (tC (.int 2))) (zb (zc 2) zi))))
   (zq (zN (z0 (zb (tOp (zV K) (zc 5) (tC (.int 1))) (zb (zn yz [] E0 (zb (tOp (zV K) (zc 5) (tC (.int 2))) (zb (zc 2) zi))) zi))) (zo 6))
  (zE (zr (tOp rEq (tOp (zV K) (zc 5) (tC (.int 0))) (tC (.str "take"))))
   (xp (zc 2) (tOp (zV K) (zc 5) (tC (.int 3))) (z7 (zc 3) (zc 6) (tC (.int 0))))
   (xp (zc 3) (zc 6) (zn yz [] E0 (zb (tOp (zV K) (zc 5) (tC (.int 3))) (zb (zc 2) zi)))))))))
  (xU K t))
def wP (K:PySem.W.Frag) (t:Adr):TS:=(zq (zN qU (zo 2))
  (zq (zN (tCB qj (zb (zc 1) zi)) (zo 3))
  (zq (zN (wG zi) (zo 4))
  (xV K t))))
def vi (K:PySem.W.Frag) (t:Adr):TS:=(zq (Je K (zc 0) qU "slots")
  (zq (Je K (zc 0) (tCB qj (zb (zc 1) zi)) "worths")
  (Je K (zc 0) (wG zi) "sayings")))
def j4 (K:PySem.W.Frag) (t:Adr) (E:XK):TS:=(zq (zE (zr (tOp rEq (zc 2) (tC (.int 0))))
   (Za t.c_Nought (zb (XN (zc 0)) zi) E)
   zA)
  (zv (tIf (zr (tOp rEq (zc 0) (tC (.str "over")))) (tOp (rI Vz fun i j=>.int (i.fdiv j)) (zc 1) (zc 2)) (tOp (rI (fun _ j=>j≠0) fun i j=>.int (i.fmod j)) (zc 1) (zc 2)))))
def j5 (K:PySem.W.Frag) (t:Adr) (E:XK):TS:=(zq (zE (zr (tOp rEq (zc 0) (tC (.str "plus"))))
   (zv (tOp (rI0 fun i j=>.int (i + j)) (zc 1) (zc 2)))
   zA)
  (zq (zE (zr (tOp rEq (zc 0) (tC (.str "minus"))))
    (zv (tOp (rI0 fun i j=>.int (i - j)) (zc 1) (zc 2)))
    zA)
  (zq (zE (zr (tOp rEq (zc 0) (tC (.str "times"))))
    (zv (tOp (rI CMulB fun i j=>.int (i * j)) (zc 1) (zc 2)))
    zA)
  (zq (zE (zr (tOp rEq (zc 0) (tC (.str "under"))))
    (zv (tIf (zr (tOp (rI0 fun i j=>.bl (decide (i < j))) (zc 1) (zc 2))) (tC (.int 1)) (tC (.int 0))))
    zA)
  (zq (zE (zr (tOp rEq (zc 0) (tC (.str "same"))))
    (zv (tIf (zr (tOp rEq (zc 1) (zc 2))) (tC (.int 1)) (tC (.int 0))))
    zA)
  (zv (zn (jZ t) [] E (zb (zc 0) (zb (zc 1) (zb (zc 2) zi))))))))))
def jn (K:PySem.W.Frag) (t:Adr):TS:=(zq (zE (tOr (wE (tB (tCB (vN K) (zb (zc 0) (zb (tC (.ty "int")) zi))))) (tB (tCB (vN K) (zb (zc 0) (zb (tC (.ty "bool")) zi)))))
   (zv (tC (.bl false)))
   zA)
  (zv (WI (rI0 fun i j=>.bl (decide (i≤j))) (rI0 fun i j=>.bl (decide (i≤j))) (tUn (rU fun i=>.int (-i)) (tOp (rI Xv fun i j=>.int (i ^ j.toNat)) (tC (.int 10)) (tC (.int 30)))) (zc 0) (tOp (rI Xv fun i j=>.int (i ^ j.toNat)) (tC (.int 10)) (tC (.int 30))))))
def k7 (K:PySem.W.Frag) (t:Adr) (E:XK):TS:=(zq (zN (zn (j0 t) [] E (zb (zc 0) (zb (zc 1) (zb (zc 2) zi)))) (zo 3))
  (zq (zE (wE (tB (zn jh [] E (zb (zc 3) zi))))
    (Za t.c_Great (zb (XN (zc 0)) zi) E)
    zA)
  (zv (zc 3))))
def jo (K:PySem.W.Frag) (t:Adr) (E:XK):TS:=(zq (zN (wG zi) (zo 2))
  (zq (xI (WG K (zc 0)) (zo 3)
    (zE (zr (tOp (rIn K false) (zc 3) (tC (.ref t.c_JOINING))))
    (zq (zN (WQ K "list" vz (zc 2)) (zo 4))
  (zq (zN (WQ K "list" vz (zc 2)) (zo 5))
  (yp (tBM K "list" zx (zc 2) (zb (zn (kZ t) [] E (zb (zc 3) (zb (zc 5) (zb (zc 4) zi)))) zi)))))
   (yp (tBM K "list" zx (zc 2) (zb (tIf (tB (tCB (vN K) (zb (zc 3) (zb (tC (.ty "str")) zi)))) (z7 (zc 1) (zc 3) (tC (.int 0))) (zc 3)) zi)))))
  (zv (WQ K "list" vz (zc 2)))))
def xG (K:PySem.W.Frag) (t:Adr) (E:XK):TS:=(zv (zn (ji t) [] E (zb (zc 1) (zb (v5 K (zc 0) "slots") zi))))
def yP (K:PySem.W.Frag) (t:Adr) (E:XK):TS:=(zE (zr (tOp rEq (tOp (zV K) (zc 1) (tC (.int 0))) (tC (.str "take"))))
   (xp (v5 K (zc 0) "slots") (tOp (zV K) (zc 1) (tC (.int 3))) (z7 (v5 K (zc 0) "worths") (z0 (zb (tOp (zV K) (zc 1) (tC (.int 1))) (zb (xJ t.c_Doing "worth_of" (zC t) [] E (zc 0) (zb (tOp (zV K) (zc 1) (tC (.int 2))) zi)) zi))) (tC (.int 0))))
   (zE (zr (tOp rEq (tOp (zV K) (zc 1) (tC (.int 0))) (tC (.str "give"))))
   (zq (zN (z0 (zb (tOp (zV K) (zc 1) (tC (.int 1))) (zb (xJ t.c_Doing "worth_of" (zC t) [] E (zc 0) (zb (tOp (zV K) (zc 1) (tC (.int 2))) zi)) zi))) (zo 2))
  (xp (v5 K (zc 0) "worths") (zc 2) (xJ t.c_Doing "worth_of" (zC t) [] E (zc 0) (zb (tOp (zV K) (zc 1) (tC (.int 3))) zi))))
   (zE (zr (tOp rEq (tOp (zV K) (zc 1) (tC (.int 0))) (tC (.str "let"))))
   (xp (v5 K (zc 0) "slots") (tOp (zV K) (zc 1) (tC (.int 1))) (xJ t.c_Doing "worth_of" (zC t) [] E (zc 0) (zb (tOp (zV K) (zc 1) (tC (.int 2))) zi)))
   (yp (tBM K "list" zx (v5 K (zc 0) "sayings") (zb (xJ t.c_Doing "worth_of" (zC t) [] E (zc 0) (zb (tOp (zV K) (zc 1) (tC (.int 1))) zi)) zi))))))
def yR (K:PySem.W.Frag) (t:Adr) (n:Nat) (E:XK):TS:=(zq (xI (x0 K (zc 1)) (zo 2)
   (zE (zr (tOp rEq (tOp (zV K) (zc 2) (tC (.int 0))) (tC (.str "off"))))
   (zE (zr (tOp rNe (xJ t.c_Doing "worth_of" (zC t) [] E (zc 0) (zb (tOp (zV K) (zc 2) (tC (.int 1))) zi)) (tC (.int 0))))
   (zv (tC (.bl false)))
   zA)
   (zE (zr (tOp rEq (tOp (zV K) (zc 2) (tC (.int 0))) (tC (.str "if"))))
   (zE (wE (tB (xJ t.c_Doing "goes_through" (zW t n) [] E (zc 0) (zb (tIf (zr (tOp rNe (xJ t.c_Doing "worth_of" (zC t) [] E (zc 0) (zb (tOp (zV K) (zc 2) (tC (.int 1))) zi)) (tC (.int 0)))) (tOp (zV K) (zc 2) (tC (.int 2))) (tOp (zV K) (zc 2) (tC (.int 3)))) zi))))
   (zv (tC (.bl false)))
   zA)
   (yp (xJ t.c_Doing "does" (vd t) [] E (zc 0) (zb (zc 2) zi))))))
  (zv (tC (.bl true))))
def vj (K:PySem.W.Frag) (t:Adr):TS:=(zv (z0 (zb (z0 (zb (tC (.str "off")) (zb (zc 0) zi))) (zb (tCB (XR K) (zb (zc 1) zi)) zi))))
def va (K:PySem.W.Frag) (t:Adr):TS:=(zq (zN (tCB qj (zb (zc 0) zi)) (zo 1))
  (zv (yS (x0 K (tCB VP (zb (zc 1) zi))) (zo 0) (zr (tOp rNe (XD (zc 1) (zc 0)) (tC (.int 0)))) (z0 (zb (zc 0) (zb (XD (zc 1) (zc 0)) zi))) 1 [1])))
def j6 (K:PySem.W.Frag) (t:Adr):TS:=(zq (zE (wE (tB (zc 3)))
   (zv (zn yy [] E0 (zb (tC (.str "told")) (zb (zc 1) zi))))
   zA)
  (zv (z0 (zb (z0 (zb (tC (.str "done")) (zb (tCB (qt K) (zb (v5 K (zc 2) "sayings") zi)) zi))) (zb (zn jj [] E0 (zb (tCB X9 (zb (wJ (v5 K (zc 2) "worths")) zi)) zi)) zi)))))
def j7 (K:PySem.W.Frag) (t:Adr):TS:=(zq (Xc K (Vy (Xb t.c_Doing "goes_through" (zW t 6) (zc 2) (zb (zc 0) zi)) 3) t.c_Great (zv (zn yy [] E0 (zb (tC (.str "great")) (zb (zc 1) zi)))) t.c_Nought (zv (zn yy [] E0 (zb (tC (.str "nought")) (zb (zc 1) zi)))))
  (j6 K t))
def Zy (K:PySem.W.Frag) (t:Adr):TS:=(zq (zN (JQ t.c_Doing (vc t) [] E0 (zb (zc 1) zi)) (zo 2))
  (j7 K t))
def wr (K:PySem.W.Frag) (t:Adr):TS:=(zq (zE (zr (tOp (rI0 fun i j=>.bl (decide (i < j))) (zc 1) (tCB (kP K) (zb (zc 0) zi))))
   (zv (tOp (yD K) (zc 0) (zc 1)))
   zA)
  (zv (tC (.int 0))))
def vQ (K:PySem.W.Frag) (t:Adr):TS:=(zq (zE (zr (tOp rEq (tOp (rI (fun _ j=>0 < j) fun i j=>.int (i % j)) (zn zk [] E0 (zb (zc 0) (zb (tOp (rI0 fun i j=>.int (i + j)) (zc 1) (tC (.int 5))) zi))) (tC (.int 2))) (tC (.int 0))))
   (zv (tOp (yD K) (zc 2) (tOp (rI (fun _ j=>0 < j) fun i j=>.int (i % j)) (zn zk [] E0 (zb (zc 0) (zb (tOp (rI0 fun i j=>.int (i + j)) (zc 1) (tC (.int 6))) zi))) (tCB (kP K) (zb (zc 2) zi)))))
   zA)
  (zv (zn yC [] E0 (zb (zc 0) (zb (zc 1) zi)))))
def wQ (K:PySem.W.Frag) (t:Adr):TS:=(zq (zN (wG (zb (tC (.str "plus")) (zb (tC (.str "minus")) (zb (tC (.str "under")) (zb (tC (.str "same")) (zb (tC (.str "plus")) (zb (tC (.str "minus")) zi))))))) (zo 6))
  (zv (z0 (zb (zc 4) (zb (zn y8 [] E0 (zb (zc 0) (zb (tOp (rI0 fun i j=>.int (i + j)) (zc 1) (tC (.int 9))) (zb (zc 2) zi)))) (zb (tOp (yD K) (zc 6) (tOp (rI0 fun i j=>.int (i + j)) (tOp (rI0 fun i j=>.int (i - j)) (zc 3) (tC (.int 5))) (tOp (rI (fun _ j=>0 < j) fun i j=>.int (i % j)) (zn zk [] E0 (zb (zc 0) (zb (tOp (rI0 fun i j=>.int (i + j)) (zc 1) (tC (.int 4))) zi))) (tC (.int 2))))) zi))))))
def wR (K:PySem.W.Frag) (t:Adr):TS:=(zq (zE (zr (tOp rEq (zc 3) (tC (.int 4))))
   (zq (zN (tOp (yD K) (wG (zb (tC (.int 1)) (zb (tUn (rU fun i=>.int (-i)) (tC (.int 1))) (zb (tC (.int 7)) (zb (tUn (rU fun i=>.int (-i)) (tC (.int 3))) (zb (tOp (rI0 fun i j=>.int (i + j)) (tOp (rI Xv fun i j=>.int (i ^ j.toNat)) (tC (.int 10)) (tC (.int 9))) (tC (.int 7))) zi)))))) (tOp (rI (fun _ j=>0 < j) fun i j=>.int (i % j)) (zn zk [] E0 (zb (zc 0) (zb (tOp (rI0 fun i j=>.int (i + j)) (zc 1) (tC (.int 2))) zi))) (tC (.int 5)))) (zo 5))
  (zv (z0 (zb (zc 4) (zb (zc 5) (zb (tOp (yD K) (wG (zb (tC (.str "over")) (zb (tC (.str "rest")) zi))) (tOp (rI (fun _ j=>0 < j) fun i j=>.int (i % j)) (zn zk [] E0 (zb (zc 0) (zb (tOp (rI0 fun i j=>.int (i + j)) (zc 1) (tC (.int 3))) zi))) (tC (.int 2)))) zi))))))
   zA)
  (wQ K t))
def wS (K:PySem.W.Frag) (t:Adr):TS:=(zq (zE (zr (tOp rEq (zc 3) (tC (.int 3))))
   (zv (z0 (zb (zc 4) (zb (tOp (rI0 fun i j=>.int (i - j)) (tOp (rI (fun _ j=>0 < j) fun i j=>.int (i % j)) (zn zk [] E0 (zb (zc 0) (zb (tOp (rI0 fun i j=>.int (i + j)) (zc 1) (tC (.int 2))) zi))) (tC (.int 5))) (tC (.int 2))) (zb (tC (.str "times")) zi)))))
   zA)
  (wR K t))
def jp (K:PySem.W.Frag) (t:Adr):TS:=(zq (zE (zr (tOp (rI0 fun i j=>.bl (decide (i < j))) (zc 3) (tC (.int 3))))
   (zv (z0 (zb (zc 4) zi)))
   zA)
  (wS K t))
def vR (K:PySem.W.Frag) (t:Adr):TS:=(zq (zN (tOp (rI (fun _ j=>0 < j) fun i j=>.int (i % j)) (zn zk [] E0 (zb (zc 0) (zb (zc 1) zi))) (tC (.int 10))) (zo 3))
  (zq (zN (zn y8 [] E0 (zb (zc 0) (zb (tOp (rI0 fun i j=>.int (i + j)) (zc 1) (tC (.int 1))) (zb (zc 2) zi)))) (zo 4))
  (jp K t)))
def vS (K:PySem.W.Frag) (t:Adr):TS:=(zq (zE (zr (tOp rEq (tOp (rI (fun _ j=>0 < j) fun i j=>.int (i % j)) (zn zk [] E0 (zb (zc 0) (zb (zc 1) zi))) (tC (.int 4))) (tC (.int 0))))
   (zv (zn yH [] E0 (zb (zc 0) (zb (tOp (rI0 fun i j=>.int (i + j)) (zc 1) (tC (.int 1))) (zb (zc 2) zi)))))
   zA)
  (zq (zE (zr (tOp rEq (tOp (rI (fun _ j=>0 < j) fun i j=>.int (i % j)) (zn zk [] E0 (zb (zc 0) (zb (tOp (rI0 fun i j=>.int (i + j)) (zc 1) (tC (.int 3))) zi))) (tC (.int 8))) (tC (.int 0))))
    (zv (z0 (zb (tOp (rI0 fun i j=>.int (i + j)) (tC (.int 1000)) (tOp (rI (fun _ j=>0 < j) fun i j=>.int (i % j)) (zn zk [] E0 (zb (zc 0) (zb (tOp (rI0 fun i j=>.int (i + j)) (zc 1) (tC (.int 2))) zi))) (tC (.int 240)))) zi)))
    zA)
  (zv (z0 (zb (tOp (rI0 fun i j=>.int (i - j)) (tOp (rI (fun _ j=>0 < j) fun i j=>.int (i % j)) (zn zk [] E0 (zb (zc 0) (zb (tOp (rI0 fun i j=>.int (i + j)) (zc 1) (tC (.int 2))) zi))) (tC (.int 4))) (tC (.int 1))) zi)))))
def vm (K:PySem.W.Frag) (t:Adr):TS:=(zq (zE (zr (tOp (rI0 fun i j=>.bl (decide (i < j))) (zc 3) (tC (.int 2))))
   (zv (z0 (zb (tC (.str "take")) (zb (zc 4) (zb (zn wy [] E0 (zb (zc 0) (zb (tC (.int 20)) (zb (zc 1) zi)))) (zb (zc 5) zi))))))
   zA)
  (zq (zE (zr (tOp (rI0 fun i j=>.bl (decide (i < j))) (zc 3) (tC (.int 4))))
    (zv (z0 (zb (tC (.str "give")) (zb (zc 4) (zb (zn wy [] E0 (zb (zc 0) (zb (tC (.int 20)) (zb (zc 1) zi)))) (zb (zn yH [] E0 (zb (zc 0) (zb (tC (.int 40)) (zb (zc 1) zi)))) zi))))))
    zA)
  (zq (zE (zr (tOp (rI0 fun i j=>.bl (decide (i < j))) (zc 3) (tC (.int 6))))
    (zv (z0 (zb (tC (.str "let")) (zb (zc 5) (zb (zn yH [] E0 (zb (zc 0) (zb (tC (.int 40)) (zb (zc 1) zi)))) zi)))))
    zA)
  (zv (z0 (zb (tC (.str "say")) (zb (zn yH [] E0 (zb (zc 0) (zb (tC (.int 40)) (zb (zc 1) zi)))) zi)))))))
def jq (K:PySem.W.Frag) (t:Adr):TS:=(zq (zN (tOp (rI (fun _ j=>0 < j) fun i j=>.int (i % j)) (zn zk [] E0 (zb (zc 0) (zb (tC (.int 0)) zi))) (tC (.int 7))) (zo 3))
  (zq (zN (tOp (yD K) (zc 2) (tOp (rI (fun _ j=>0 < j) fun i j=>.int (i % j)) (zn zk [] E0 (zb (zc 0) (zb (tC (.int 60)) zi))) (tC (.int 2)))) (zo 4))
  (zq (zN (tOp (yD K) (zc 1) (tOp (rI (fun _ j=>0 < j) fun i j=>.int (i % j)) (zn zk [] E0 (zb (zc 0) (zb (tC (.int 61)) zi))) (tC (.int 3)))) (zo 5))
  (vm K t))))
def vn (K:PySem.W.Frag) (t:Adr) (n:Nat):TS:=(zq (zE (tB (tCB (VX K) (zb (zc 0) (zb (z0 (zb (tC (.ty "list")) (zb (tC (.ty "tuple")) zi))) zi))))
   (zq (xI (zaY K (zc 0)) (zo 1)
   (zE (wE (tB (zn (yO  n) [] E0 (zb (zc 1) zi))))
   (zv (tC (.bl false)))
   zA))
  (zv (tC (.bl true))))
   zA)
  (zv (JF (tCB (VX K) (zb (zc 0) (zb (z0 (zb (tC (.ty "int")) (zb (tC (.ty "str")) zi))) zi))) (JG (tCB (vN K) (zb (zc 0) (zb (tC (.ty "bool")) zi)))))))
def k9 (K:PySem.W.Frag) (t:Adr):TS:=(zv (tOp (kX K false) (zn jk [] E0 (zb (tOp (yD K) (zc 6) (tC (.int 0))) (zb (tOp (yD K) (zc 6) (tC (.int 1))) zi))) (zc 5)))
def Zz (K:PySem.W.Frag) (t:Adr):TS:=(zq (zE (tOr (zr (tOp (kX K true) (tOp (yD K) (zc 6) (tC (.int 0))) (zc 4))) (zr (tOp (kX K true) (tOp (yD K) (zc 6) (tC (.int 1))) (zc 3))))
   (zv (tC (.bl false)))
   zA)
  (k9 K t))
def Wi (K:PySem.W.Frag) (t:Adr):TS:=(zq (yp (tBM K "list" zx (tOp (zV K) (zc 7) (tC (.int 1))) (zb (z0 (zb (z0 (zb (tC (.str "z")) (zb (tC (.int 1)) zi))) (zb (tC (.int 5)) zi))) zi)))
  (Zz K t))
def ZA (K:PySem.W.Frag) (t:Adr):TS:=(zq (zE (tOr (wE (tB (zn (yO  6) [] E0 (zb (zc 7) zi)))) (tOr (zr (tOp (kX K true) (zc 7) (zc 5))) (wE (tB (tCB (vN K) (zb (tOp (zV K) (zc 7) (tC (.int 1))) (zb (tC (.ty "list")) zi)))))))
   (zv (tC (.bl false)))
   zA)
  (Wi K t))
def Wj (K:PySem.W.Frag) (t:Adr):TS:=(zq (zN (zn jk [] E0 (zb (tOp (yD K) (zc 6) (tC (.int 0))) (zb (tOp (yD K) (zc 6) (tC (.int 1))) zi))) (zo 7))
  (ZA K t))
def ZB (K:PySem.W.Frag) (t:Adr):TS:=(zq (zN (wG (zb (tCB (XR K) (zb (zc 4) zi)) (zb (tCB (XR K) (zb (zc 3) zi)) zi))) (zo 6))
  (Wj K t))
def Wk (K:PySem.W.Frag) (t:Adr):TS:=(zq (zN (zn wN [] E0 (zb (zc 4) (zb (zc 3) zi))) (zo 5))
  (ZB K t))
def ZC (K:PySem.W.Frag) (t:Adr):TS:=(zq (zN (yS (x0 K (tSl (JV K) (zc 0) (xK (tC (.int 2))) (xK (tC (.int 42))))) (zo 0) qq (zn w6 [] E0 (zb (zc 0) (zb (zc 1) (zb (zc 2) zi)))) 1 [1,2]) (zo 4))
  (Wk K t))
def W8 (K:PySem.W.Frag) (t:Adr):TS:=(zq (zN (zn xY [] E0 (zb (zn (yL K) [] E0 (zb (zc 0) (zb (tC (.int 0)) zi))) (zb (tC (.int 3)) zi))) (zo 1))
  (zq (zN (zn xY [] E0 (zb (zn (yL K) [] E0 (zb (zc 0) (zb (tC (.int 1)) zi))) (zb (tC (.int 2)) zi))) (zo 2))
  (zq (zN (zn ve [] E0 (zb (zn (yL K) [] E0 (zb (zc 0) (zb (tC (.int 2)) zi))) (zb (zc 2) zi))) (zo 3))
  (ZC K t))))
section
variable {K:PySem.W.Frag} {t:Adr} {H:Hp} {Q:VK}
theorem Wl {j:Int} (h0:0≤j) (h1:j≤100):Xv 10 j:=⟨h0,by omega,by decide⟩
theorem yg {n:Nat} (h:n≤100000):n≤sizeLine:=Nat.le_trans h (by decide)
theorem kG (T:String):PySem.W.kitOne K (.type T) (.type T)=some true:=by
 unfold PySem.W.kitOne
 rw [if_pos (by simp)]
theorem kf (K:PySem.W.Frag):KF K:=⟨by with_unfolding_all rfl,by with_unfolding_all rfl,by with_unfolding_all rfl,by with_unfolding_all rfl,by with_unfolding_all rfl,by with_unfolding_all rfl,by with_unfolding_all rfl,by with_unfolding_all rfl,by with_unfolding_all rfl,by with_unfolding_all rfl⟩
theorem dB {i j:Int} (h0:0 < j:=by decide) (h1:j < 10000000000000000000000000000000000000000000000:=by decide):XJ i j:=by
 have hb:(10000000000000000000000000000000000000000000000:Int) < big:=by decide +kernel
 exact ⟨h0,by omega⟩
theorem VZ {α:Type} {xs:List α} {i:Int} (h0:0≤i) (h1:i < xs.length):∃ x,atI xs i=some x∧x∈xs:=by
 obtain ⟨n,rfl⟩:∃ n:Nat,i=(n:Int):=⟨i.toNat,by omega⟩
 have hn:n < xs.length:=by omega
 refine ⟨xs[n],?_,List.getElem_mem hn⟩
 unfold atI ixN
 rw [if_pos h0,if_pos h1]
 simp [hn]
theorem W9 {α:Type} {xs:List α} (e:Int) (n:Nat) (hl:xs.length=n) (hn:0 < (n:Int)):∃ x,atI xs (e % n)=some x∧x∈xs :=
 VZ (Int.emod_nonneg _ (by omega)) (by rw [hl];exact Int.emod_lt_of_pos _ hn)
theorem Xh {i:Int} (hK:Q1 K) (q:∀ H',Same H H'→Q (.bl (inW i)) H') :
  jn K t { nx:=fun _ H'=>Q .non H',rt:=Q } (L2.start ["thing"] [.int i]) H:=by
 simp only [jn,L2.start,zq,zv,zA,tOp,tUn,zc,tC,zb,zi,zE,tOr,wE,tB,tCB,WI,rI,rI0,rU,vN,List.map,List.replicate,List.length,List.append,List.cons_append,List.nil_append,List.append_nil,List.getElem?_cons_zero,List.getElem?_cons_succ,Option.some.injEq,exists_eq_left',exists_eq_left,V.int.injEq,V.ref.injEq,V.str.injEq,V.bl.injEq,V.ty.injEq,List.cons.injEq,and_true,true_and,and_assoc,exists_and_left,List.set_cons_zero,List.set_cons_succ,Nat.reduceSub,Nat.reduceAdd,decide_eq_true_eq,Bool.not_eq_true',decide_eq_false_iff_not,Int.reduceToNat,Int.reducePow,Int.reduceNeg,Int.reduceMul,Int.reduceAdd,if_true,ite_true,Bool.false_eq_true,ite_false,if_false]
 have q:=q H (Same.refl H)
 refine ⟨_,.int i,true,kG _,?_⟩
 rw [if_neg (by decide)]
 refine ⟨_,.int i,false,hK,?_⟩
 rw [if_neg (by decide)]
 refine ⟨Wl (by decide) (by decide),xB (fun c=>⟨Wl (by decide) (by decide),?_⟩) fun c=>?_⟩
 ·have e:inW i=decide (i≤1000000000000000000000000000000):=by
   unfold inW
   by_cases h:i≤1000000000000000000000000000000
   ·rw [decide_eq_true h,decide_eq_true ⟨c,h⟩]
   ·rw [decide_eq_false h,decide_eq_false fun z=>h z.2]
  rw [e] at q
  exact q
 ·have e:inW i=false:=decide_eq_false fun z=>c z.1
  rw [e] at q
  exact q
theorem Wm {E:XK} {w:Str} {a b:Int} (hw:w.length≤1000) (ha:inW a=true) (hb:inW b=true) (q:∀ H',Same H H'→if b=0 then E (.ref t.c_Nought) none H' else Q (.int (if w="over" then a.fdiv b else a.fmod b)) H') :
  j4 K t E { nx:=fun _ H'=>Q .non H',rt:=Q } (L2.start ["word","first","second"] [.str w,.int a,.int b]) H:=by
 simp only [j4,L2.start,Za,XN,zq,zv,zA,tOp,zc,tC,zb,zi,zE,zr,tIf,rEq,rI,yV,List.map,List.replicate,List.length,List.append,List.cons_append,List.nil_append,List.append_nil,List.getElem?_cons_zero,List.getElem?_cons_succ,Option.some.injEq,exists_eq_left',exists_eq_left,V.int.injEq,V.ref.injEq,V.str.injEq,V.bl.injEq,V.ty.injEq,List.cons.injEq,and_true,true_and,and_assoc,exists_and_left,List.set_cons_zero,List.set_cons_succ,Nat.reduceSub,Nat.reduceAdd,decide_eq_true_eq,Bool.not_eq_true',decide_eq_false_iff_not,Int.reduceToNat,Int.reducePow,Int.reduceNeg,Int.reduceMul,Int.reduceAdd,if_true,ite_true,Bool.false_eq_true,ite_false,if_false]
 have q:=q H (Same.refl H)
 have B:=qE hb
 refine xB (fun c=>?_) fun c=>?_
 ·rw [if_pos c] at q
  exact ⟨by omega,fun y=>⟨by decide,q⟩⟩
 ·rw [if_neg c] at q
  refine xB (fun e=>?_) fun e=>?_
  ·rw [if_pos e] at q
   exact ⟨⟨c,B⟩,q⟩
  ·rw [if_neg e] at q
   exact ⟨c,q⟩
theorem Wn {E:XK} {w:Str} {a b:Int} (hw:w.length≤1000) (ha:inW a=true) (hb:inW b=true) (q:∀ H',Same H H'→if kr w∧b=0 then E (.ref t.c_Nought) none H' else Q (.int (yd w a b)) H') :
  j5 K t E { nx:=fun _ H'=>Q .non H',rt:=Q } (L2.start ["word","first","second"] [.str w,.int a,.int b]) H:=by
 simp only [j5,jZ,L2.start,zq,zv,zA,tOp,zc,tC,zb,zi,zE,zr,tIf,zn,rEq,rI,rI0,yV,List.map,List.replicate,List.length,List.append,List.cons_append,List.nil_append,List.append_nil,List.getElem?_cons_zero,List.getElem?_cons_succ,Option.some.injEq,exists_eq_left',exists_eq_left,V.int.injEq,V.ref.injEq,V.str.injEq,V.bl.injEq,V.ty.injEq,List.cons.injEq,and_true,true_and,and_assoc,exists_and_left,List.set_cons_zero,List.set_cons_succ,Nat.reduceSub,Nat.reduceAdd,decide_eq_true_eq,Bool.not_eq_true',decide_eq_false_iff_not,Int.reduceToNat,Int.reducePow,Int.reduceNeg,Int.reduceMul,Int.reduceAdd,if_true,ite_true,Bool.false_eq_true,ite_false,if_false]
 have A:=qE ha
 have B:=qE hb
 have nd:¬ kr w→Q (.int (yd w a b)) H:=fun h=>by
  have q:=q H (Same.refl H)
  rw [if_neg fun z=>h z.1] at q
  exact q
 refine xB (fun c=>?_) fun c1=>xB (fun c=>?_) fun c2=>xB (fun c=>⟨⟨A,B⟩,?_⟩) fun c3=>xB (fun c=>?_) fun c4=>xB (fun c=>?_) fun c5=>⟨hw,ha,hb,fun H' s=>?_⟩
 ·subst c
  have q:=nd fun z=>z.1 rfl
  exact q
 ·subst c
  have q:=nd fun z=>z.2.1 rfl
  rw [show yd "minus" a b=a - b by unfold yd;rw [if_neg c1,if_pos rfl]] at q
  exact q
 ·subst c
  have q:=nd fun z=>z.2.2.1 rfl
  rw [show yd "times" a b=a * b by unfold yd;rw [if_neg c1,if_neg c2,if_pos rfl]] at q
  exact q
 ·subst c
  have q:=nd fun z=>z.2.2.2.1 rfl
  rw [show yd "under" a b=if a < b then 1 else 0 by unfold yd;rw [if_neg c1,if_neg c2,if_neg c3,if_pos rfl]] at q
  refine xB (fun d=>?_) fun d=>?_
  ·rw [if_pos d] at q;exact q
  ·rw [if_neg d] at q;exact q
 ·subst c
  have q:=nd fun z=>z.2.2.2.2 rfl
  rw [show yd "same" a b=if a=b then 1 else 0 by unfold yd;rw [if_neg c1,if_neg c2,if_neg c3,if_neg c4,if_pos rfl]] at q
  refine xB (fun d=>?_) fun d=>?_
  ·rw [if_pos d] at q;exact q
  ·rw [if_neg d] at q;exact q
 ·have q:=q H' s
  have hd:kr w:=⟨c1,c2,c3,c4,c5⟩
  refine xB (fun d=>?_) fun d=>?_
  ·rw [if_pos ⟨hd,d⟩] at q;exact q
  ·rw [if_neg fun z=>d z.2] at q
   unfold yd at q
   rw [if_neg c1,if_neg c2,if_neg c3,if_neg c4,if_neg c5] at q
   exact q
theorem Va {E:XK} {w:Str} {a b:Int} (hw:w.length≤1000) (ha:inW a=true) (hb:inW b=true) (q:∀ H',Same H H'→fin t (xC w a b) Q E H') :
  k7 K t E { nx:=fun _ H'=>Q .non H',rt:=Q } (L2.start ["word","first","second","worth"] [.str w,.int a,.int b]) H:=by
 simp only [k7,j0,jh,L2.start,Za,XN,zq,zN,zo,zv,zA,zc,zb,zi,zE,wE,tB,zn,List.map,List.replicate,List.length,List.append,List.cons_append,List.nil_append,List.append_nil,List.getElem?_cons_zero,List.getElem?_cons_succ,Option.some.injEq,exists_eq_left',exists_eq_left,V.int.injEq,V.ref.injEq,V.str.injEq,V.bl.injEq,V.ty.injEq,List.cons.injEq,and_true,true_and,and_assoc,exists_and_left,List.set_cons_zero,List.set_cons_succ,Nat.reduceSub,Nat.reduceAdd,decide_eq_true_eq,Bool.not_eq_true',decide_eq_false_iff_not,Int.reduceToNat,Int.reducePow,Int.reduceNeg,Int.reduceMul,Int.reduceAdd,if_true,ite_true,Bool.false_eq_true,ite_false,if_false]
 refine ⟨hw,ha,hb,fun H1 s1=>xB (fun c=>?_) fun c H2 s2=>xB (fun d=>?_) fun d=>?_⟩
 ·have q:=q H1 s1
  unfold xC at q
  rw [if_pos c] at q
  exact q
 ·have q:=q H2 (s1.trans s2)
  unfold xC at q
  rw [if_neg c,if_neg (by rw [d];decide)] at q
  exact ⟨by omega,fun y=>⟨by decide,q⟩⟩
 ·have q:=q H2 (s1.trans s2)
  unfold xC at q
  rw [if_neg c,if_pos (by simpa using d)] at q
  exact q
theorem Wo {xs:List V} {y:V}:(xs ++ [y])[(xs ++ [y]).length - 1]?=some y:=by simp
theorem qa {xs:List V} {y:V}:(xs ++ [y]).dropLast=xs:=by simp
theorem yu {H H':Hp} {w:Addr} {o:HO} (s:Same H H') (hw:H w=none):Same H (upd H' w o):=fun b u e=>by rw [zl (zG e hw)];exact s b u e
theorem za0 (st:List Int):(∃ l a b,st=l ++ [a,b])∨∀ kvs v,isJ v=true→xL kvs st v=.error .stuck:=by
 cases h:st.reverse with
 | nil =>
  refine .inr fun kvs v hv=>?_
  unfold xL
  rw [hv,if_pos rfl,h]
  split <;> rename_i e1 e2 <;> first | rfl | cases e2
 | cons b r =>
  cases r with
  | nil =>
   refine .inr fun kvs v hv=>?_
   unfold xL
   rw [hv,if_pos rfl,h]
   split <;> rename_i e1 e2 <;> first | rfl | cases e2
  | cons a r =>
   refine .inl ⟨r.reverse,a,b,?_⟩
   have:=congrArg List.reverse h
   rw [List.reverse_reverse] at this
   rw [this];simp
theorem K0 {kvs:List (Key × V)} {l:List Int} {a b:Int} {w:Str} (hw:isJ (.str w)=true):xL kvs (l ++ [a,b]) (.str w)=match xC w a b with | .ok c=>.ok (l ++ [c]) | .error e=>.error e:=by
 unfold xL
 rw [hw,if_pos rfl]
 simp only [List.reverse_append,List.reverse_cons,List.reverse_nil,List.nil_append,List.cons_append]
 cases xC w a b with
 | error e=>rfl
 | ok c=>simp
def rkI (kvs:List (Key × V)) (ps:List V) (tm sl w:Addr) (H:Hp) (i:Nat) (σ:St) (H':Hp):Prop:=∃ st,(∃ o3 o4 o5,σ=[some (.ref tm),some (.ref sl),some (.ref w),o3,o4,o5])∧x8 kvs (ps.take i) []=.ok st∧(∀ x∈st,inW x=true)∧st.length≤i∧H' w=some (.lst (st.map V.int))∧Same H H'
theorem Xi {E:XK} {kvs:List (Key × V)} {tm sl:Addr} {ps:List V} {r:Except Er Int} (hK:PySem.W.kitOne K (.type "int") (.type "str")=some false) (hJ:∀ H:Hp,SqT K H t.c_JOINING jw) (h1:H tm=some (.tup ps)) (h2:H sl=some (.dK kvs)) (h3:Good kvs ps r) (h4:∀ v∈ps,xM v) (h5:ps.length≤1000) (h6:xD kvs)
  (q:∀ H',Same H H'→fin t r Q E H'):jo K t E { nx:=fun _ H'=>Q .non H',rt:=Q } (L2.start ["term","slots","worths","part","second","first"] [.ref tm,.ref sl]) H:=by
 simp only [jo,kZ,z7,L2.start,z7,zx,vz,yj,JY,zq,zN,zo,zv,yp,tOp,zc,tC,wG,zb,zi,xI,zE,zr,tB,tIf,tCB,tBM,WQ,tyV,zn,WG,rIn,vN,List.map,List.replicate,List.length,List.append,List.cons_append,List.nil_append,List.append_nil,List.getElem?_cons_zero,List.getElem?_cons_succ,Option.some.injEq,exists_eq_left',exists_eq_left,V.int.injEq,V.ref.injEq,V.str.injEq,V.bl.injEq,V.ty.injEq,List.cons.injEq,and_true,true_and,and_assoc,exists_and_left,List.set_cons_zero,List.set_cons_succ,Nat.reduceSub,Nat.reduceAdd,decide_eq_true_eq,Bool.not_eq_true',decide_eq_false_iff_not,Int.reduceToNat,Int.reducePow,Int.reduceNeg,Int.reduceMul,Int.reduceAdd,if_true,ite_true,Bool.false_eq_true,ite_false,if_false]
 refine ⟨by decide,fun w hw=>⟨⟨_,SqT.of ((isV w hw) _ _ h1)⟩,?_⟩⟩
 have run0:=h3.1 []
 have fe:∀ {e:Er} {H':Hp},x8 kvs ps []=.error e→Same H H'→fin t (.error e) Q E H':=fun {e H'} z s=>by
  rw [z] at run0
  cases r with
  | ok i=>cases run0
  | error e' =>
   cases run0
   exact q _ s
 have ns:x8 kvs ps []≠.error .stuck:=fun z=>by
  rw [z] at run0
  cases r with
  | ok i=>cases run0
  | error e' =>
   cases run0
   exact h3.2 rfl
 refine kq ps (rkI kvs ps tm sl w H) ⟨[],⟨_,_,_,rfl⟩,rfl,(fun x z=>nomatch z),Nat.le_refl _,zf,isV w hw⟩ (fun i σ H' ⟨st,a,b,c,d,e,s⟩=>SqT.of (s _ _ h1)) ?_ ?_
 ·rintro i v σ H' hv ⟨st,⟨o3,o4,o5,rfl⟩,hr,hW,hl,hst,hS⟩
  have hi:i < ps.length:=(List.getElem?_eq_some_iff.mp hv).1
  have one:=QG hr hv
  have ok:=h4 v (List.mem_of_getElem? hv)
  have fl:kj v=true:=by rcases ok with ⟨j,rfl,_⟩ | ⟨x,rfl,_⟩ <;> rfl
  simp only [z7,L2.start,z7,zx,vz,yj,JY,zq,zN,zo,zv,yp,tOp,zc,tC,wG,zb,zi,xI,zE,zr,tB,tIf,tCB,tBM,WQ,tyV,zn,WG,rIn,vN,List.map,List.replicate,List.length,List.append,List.cons_append,List.nil_append,List.append_nil,List.getElem?_cons_zero,List.getElem?_cons_succ,Option.some.injEq,exists_eq_left',exists_eq_left,V.int.injEq,V.ref.injEq,V.str.injEq,V.bl.injEq,V.ty.injEq,List.cons.injEq,and_true,true_and,and_assoc,exists_and_left,List.set_cons_zero,List.set_cons_succ,Nat.reduceSub,Nat.reduceAdd,decide_eq_true_eq,Bool.not_eq_true',decide_eq_false_iff_not,Int.reduceToNat,Int.reducePow,Int.reduceNeg,Int.reduceMul,Int.reduceAdd,if_true,ite_true,Bool.false_eq_true,ite_false,if_false]
  refine ⟨jw,.inr (hJ H'),fl,rfl,xB (fun c=>?_) fun c=>?_⟩
  ·rcases za0 st with ⟨l,a,b,rfl⟩ | z
   ·obtain ⟨x,rfl,hx⟩:∃ x:Str,v=.str x∧x.length≤1000:=by
     rcases ok with ⟨j,rfl,_⟩ | h
     ·exact absurd c (by rw [show inV (V.int j) jw=false from rfl];decide)
     ·exact h
    have e1:List.map V.int (l ++ [a,b])=(l.map V.int ++ [.int a]) ++ [.int b]:=by simp
    rw [e1] at hst
    have one':=one.trans (K0 c)
    have wa:=hW a (by simp)
    have wb:=hW b (by simp)
    refine ⟨.inl ⟨_,SqL.of hst⟩,_,hst,_,Wo,.inl ⟨_,SqL.of zf⟩,_,by rw [qa];exact zf,_,Wo,.inl ⟨_,SqL.of zf⟩,x,rfl,a,rfl,b,rfl,hx,wa,wb,fun H2 s2=>?_⟩
    rw [qa,qa] at s2
    have S2:Same H H2:=(yu (yu hS hw) hw).trans s2
    cases e:xC x a b with
    | ok d =>
     rw [e] at one'
     have hd:inW d=true:=by
      unfold xC at e
      split at e
      ·cases e
      ·split at e
       ·rename_i z;cases e;exact z
       ·cases e
     refine ⟨_,s2 _ _ zf,?_,l ++ [d],⟨_,_,_,rfl⟩,one',?_,?_,?_,yu S2 hw⟩
     ·rw [List.length_map]
      have:(l ++ [a,b]).length=l.length + 2:=by simp
      exact Nat.lt_of_le_of_lt (by omega:l.length≤1000) (by decide)
     ·intro y hy
      rcases List.mem_append.mp hy with h | h
      ·exact hW y (List.mem_append_left _ h)
      ·have:y=d:=by simpa using h
       rw [this];exact hd
     ·have:(l ++ [a,b]).length=l.length + 2:=by simp
      rw [List.length_append];show l.length + 1≤i + 1
      omega
     ·rw [List.map_append];exact zf
    | error er =>
     rw [e] at one'
     have:=fe (VA one') S2
     cases er with
     | nought=>exact this
     | great=>exact this
     | stuck=>trivial
   ·exact absurd (VA (one.trans (z kvs v c))) ns
  ·have st1:xL kvs st v=.ok (st ++ [vA kvs v]):=by
    unfold xL
    rw [if_neg (by unfold isJ;exact c)]
   have one':=one.trans st1
   have hwv:=XQ h6 ok
   have fin1:∀ u,u=V.int (vA kvs v)→rkI kvs ps tm sl w H (i + 1) [some (V.ref tm),some (V.ref sl),some (V.ref w),some v,o4,o5] (upd H' w (HO.lst (List.map V.int st ++ [u]))):=fun u hu=>by
    subst hu
    refine ⟨st ++ [vA kvs v],⟨_,_,_,rfl⟩,one',?_,?_,?_,yu hS hw⟩
    ·intro y hy
     rcases List.mem_append.mp hy with h | h
     ·exact hW y h
     ·have:y=vA kvs v:=by simpa using h
      rw [this];exact hwv
    ·rw [List.length_append];show st.length + 1≤i + 1
     omega
    ·rw [List.map_append];exact zf
   have sz:(List.map V.int st).length < sizeLine:=by
    rw [List.length_map]
    exact Nat.lt_of_le_of_lt (by omega:st.length≤1000) (by decide)
   refine ⟨.inl ⟨_,SqL.of hst⟩,?_⟩
   rcases ok with ⟨j,rfl,hj⟩ | ⟨x,rfl,hx⟩
   ·refine ⟨_,.int j,false,hK,?_⟩
    rw [if_neg (by decide)]
    exact ⟨_,hst,sz,fin1 _ rfl⟩
   ·refine ⟨_,.str x,true,kG _,?_⟩
    rw [if_pos rfl]
    refine ⟨.inl ⟨kvs,.inl (hS _ _ h2)⟩,_,DGet.k (k:=.inr x) (hS _ _ h2),_,hst,sz,fin1 _ ?_⟩
    show (yf kvs (.inr x)).getD (V.int 0)=V.int (match yf kvs (.inr x) with | some (.int i)=>i | _=>0)
    cases e:yf kvs (.inr x) with
    | none=>rfl
    | some u =>
     obtain ⟨i,rfl,_⟩:=h6 _ _ e
     rfl
 ·rintro σ H' ⟨st,⟨o3,o4,o5,rfl⟩,hr,hW,hl,hst,hS⟩
  rw [List.take_length] at hr
  simp only [z7,L2.start,z7,zx,vz,yj,JY,zq,zN,zo,zv,yp,tOp,zc,tC,wG,zb,zi,xI,zE,zr,tB,tIf,tCB,tBM,WQ,tyV,zn,WG,rIn,vN,List.map,List.replicate,List.length,List.append,List.cons_append,List.nil_append,List.append_nil,List.getElem?_cons_zero,List.getElem?_cons_succ,Option.some.injEq,exists_eq_left',exists_eq_left,V.int.injEq,V.ref.injEq,V.str.injEq,V.bl.injEq,V.ty.injEq,List.cons.injEq,and_true,true_and,and_assoc,exists_and_left,List.set_cons_zero,List.set_cons_succ,Nat.reduceSub,Nat.reduceAdd,decide_eq_true_eq,Bool.not_eq_true',decide_eq_false_iff_not,Int.reduceToNat,Int.reducePow,Int.reduceNeg,Int.reduceMul,Int.reduceAdd,if_true,ite_true,Bool.false_eq_true,ite_false,if_false]
  rw [hr] at run0
  cases r with
  | error e=>cases run0
  | ok i =>
   have e:st=[i]:=by injection run0
   subst e
   exact ⟨.inl ⟨_,SqL.of hst⟩,_,hst,_,rfl,q _ (yu hS hw)⟩
theorem qb {a:Addr} {ns:List Int} {k:Nat} (hS:SqL K H a (ns.map V.int)) (hl:ns.length≤63) (q:∀ c H',Same H H'→Q (.int c) H') :
  wr K t { nx:=fun _ H'=>Q .non H',rt:=Q } (L2.start ["script","k"] [.ref a,.int k]) H:=by
 simp only [wr,L2.start,zq,zv,zA,tOp,zc,tC,zb,zi,zE,zr,tCB,ZW,yD,rI0,kP,List.map,List.replicate,List.length,List.append,List.cons_append,List.nil_append,List.append_nil,List.getElem?_cons_zero,List.getElem?_cons_succ,Option.some.injEq,exists_eq_left',exists_eq_left,V.int.injEq,V.ref.injEq,V.str.injEq,V.bl.injEq,V.ty.injEq,List.cons.injEq,and_true,true_and,and_assoc,exists_and_left,List.set_cons_zero,List.set_cons_succ,Nat.reduceSub,Nat.reduceAdd,decide_eq_true_eq,Bool.not_eq_true',decide_eq_false_iff_not,Int.reduceToNat,Int.reducePow,Int.reduceNeg,Int.reduceMul,Int.reduceAdd,if_true,ite_true,Bool.false_eq_true,ite_false,if_false]
 refine ⟨_,.inl ⟨_,hS,rfl⟩,xB (fun c=>?_) fun _=>q _ _ (Same.refl H)⟩
 obtain ⟨v,hv,hm⟩:=VZ (xs:=ns.map V.int) (i:=(k:Int)) (by omega) c
 obtain ⟨i,_,rfl⟩:=List.mem_map.mp hm
 exact ⟨_,hS,_,hv,q _ _ (Same.refl H)⟩
theorem kH (c:Nat):({ cps:=#[c] }:Str).length=1:=rfl
theorem RowAt.same {H H':Hp} {v:V} {q:Row} (h:RowAt H v q) (s:Same H H'):RowAt H' v q:=by
 obtain ⟨r,p,e,h1,h2⟩:=h
 exact ⟨r,p,e,s _ _ h1,s _ _ h2⟩
def qo (H H':Hp):Prop:=∀ b ys,H b=some (.tup ys)→H' b=some (.tup ys)
theorem RowAt.tsame {H H':Hp} {v:V} {q:Row} (h:RowAt H v q) (s:qo H H'):RowAt H' v q:=by
 obtain ⟨r,p,e,h1,h2⟩:=h
 exact ⟨r,p,e,s _ _ h1,s _ _ h2⟩
theorem vT {H H':Hp} (s:qo H H'):∀ {vs:List V} {rows:List Row},wM H vs rows→wM H' vs rows
 | _,_,.nil=>.nil
 | _,_,.cons h r=>.cons (h.tsame s) (vT s r)
theorem Same.ts {H H':Hp} (s:Same H H'):qo H H':=fun b ys e=>s _ _ e
theorem ZD {J:It} {D:Addr} {τ₀:St} {H1:Hp} {Q:Hp→Prop} {B:V→St→Hp→(V→St→Hp→Prop)→(St→Hp→Prop)→Prop} (n:Nat) (hn:n≤1000000) (C:St→Prop) (R:Nat→List V→Hp→Prop) (hm:∀ i ys H H',qo H H'→R i ys H→R i ys H') (hC:C τ₀) (h0:R 0 [] H1)
  (go:∀ i H,Same H1 H→i < n→J.go i H) (stop:∀ H,Same H1 H→J.stop n H) (hD:H1 D=none)
  (hs:∀ i x τ ys H H',C τ→Same H1 H→i < n→R i ys H→J.yld i H x H'→B x τ H' (fun v τ' H4=>C τ'∧R (i + 1) (ys ++ [v]) H4∧Same H H4) (fun τ' H4=>C τ'∧R (i + 1) ys H4∧Same H H4))
  (hd:∀ ys H,ys.length≤n→R n ys H→Same H1 H→H D=some (.lst ys)→Q H) :
  ∃ W:Nat→Nat→List V→St→Hp→Prop,(∃ m,W 0 m [] τ₀ (upd H1 D (.lst [])))∧∀ i m ys τ H,W i m ys τ H→H D=some (.lst ys) ∧
  ((J.stop i H∧Q H)∨(J.go i H∧ys.length < sizeLine∧∃ N:V→St→Hp→Prop,
   (∀ v τ' H',N v τ' H'→H' D=some (.lst ys)∧∃ m',m' < m∧W (i + 1) m' (ys ++ [v]) τ' (upd H' D (.lst (ys ++ [v]))))∧∃ Nf:St→Hp→Prop,(∀ τ' H',Nf τ' H'→∃ m',m' < m∧W (i + 1) m' ys τ' H') ∧
   ∀ x H',J.yld i H x H'→B x τ H' N Nf)):=by
 have ext:∀ {H:Hp} {o:HO},Same H1 H→Same H1 (upd H D o):=fun {H o} h b u e=>by
  rw [zl (zG e hD)];exact h b u e
 refine ⟨fun i m ys τ H=>m=n - i∧i≤n∧ys.length≤i∧R i ys H∧Same H1 H∧H D=some (.lst ys)∧C τ,⟨n,by simp,Nat.zero_le _,Nat.le_refl _,hm _ _ _ _ (Same.ts (ext (Same.refl _))) h0,ext (Same.refl _),zf,hC⟩,?_⟩
 rintro i m ys τ H ⟨rfl,hi,hl,hR,hS,hy,hc⟩
 refine ⟨hy,?_⟩
 by_cases hlt:i < n
 ·refine .inr ⟨go i H hS hlt,Nat.lt_of_le_of_lt (by omega:ys.length≤1000000) (by decide),_,?_,_,?_,fun x H' y=>hs i x τ ys H H' hc hS hlt hR y⟩
  ·rintro v τ' H4 ⟨c4,r4,s4⟩
   have y4:=s4 _ _ hy
   exact ⟨y4,n - (i + 1),by omega,rfl,hlt,by simp;omega,hm _ _ _ _ (fun b zs e=>by rw [zl (yI e y4 (by simp))];exact e) r4,ext (hS.trans s4),zf,c4⟩
  ·rintro τ' H4 ⟨c4,r4,s4⟩
   exact ⟨n - (i + 1),by omega,rfl,hlt,by omega,r4,hS.trans s4,s4 _ _ hy,c4⟩
 ·obtain rfl:i=n:=by omega
  exact .inl ⟨stop H hS,hd ys H hl hR hS hy⟩
theorem vE {H H':Hp} (s:Same H H'):∀ {vs:List V} {rows:List Row},wM H vs rows→wM H' vs rows
 | _,_,.nil=>.nil
 | _,_,.cons h r=>.cons (h.same s) (vE s r)
def Z2 (q:Row):PyData:=.tuple [.tuple [.str q.1.1,.int q.1.2],.int q.2]
theorem Q2 {v:V} {q:Row} (h:RowAt H v q):Dat K H v (Z2 q):=by
 obtain ⟨r,p,rfl,h1,h2⟩:=h
 exact .tup (SqT.of h1) (.cons (.tup (SqT.of h2) (.cons (.str _) (.cons (.int _) .nil))) (.cons (.int _) .nil))
theorem Wp:∀ {vs:List V} {rows:List Row},wM H vs rows→DatAll K H vs (rows.map Z2)
 | _,_,.nil=>.nil
 | _,_,.cons h r=>.cons (Q2 h) (Wp r)
theorem jI {x:Str} (h:ye x=true):PyData.strOk x=true:=(Kh h).flat
theorem j8:∀ {rows:List Row},(∀ q∈rows,KZ q)→zR (rows.map Z2)=true
 | [],_=>by simp [zR]
 | q :: r,h=>by
  rw [List.map_cons,zR,j8 fun q hq=>h q (List.mem_cons_of_mem _ hq)]
  have:=jI (h q List.mem_cons_self)
  simp [Z2,zB,zR,this]
theorem qc:∀ (rows:List Row),PyData.depthAll (rows.map Z2)≤2
 | []=>by simp [PyData.depthAll]
 | q :: r=>by
  have:=qc r
  rw [List.map_cons,PyData.depthAll]
  simp [Z2,PyData.depth,PyData.depthAll]
  omega
theorem YH {H:Hp} {v:V} {q:Row}:∀ {ys:List V} {rows:List Row},wM H ys rows→RowAt H v q→wM H (ys ++ [v]) (rows ++ [q])
 | _,_,.nil,h=>.cons h .nil
 | _,_,.cons a r,h=>.cons a (YH r h)
theorem K1 (rows:List Row):∃ qs:List Pl,(dOf rows).map (·.1)=qs.map zI∧qs.Nodup∧∀ p,p∈qs↔(zP rows p).isSome=true:=by
 have h:=wH rows
 have:∀ (kvs:List (List Key × V)),(∀ kv∈kvs,∃ (p:Pl) (w:Int),kv=(zI p,.int w))→∃ qs:List Pl,kvs.map (·.1)=qs.map zI:=fun kvs=>by
  induction kvs with
  | nil=>exact fun _=>⟨[],rfl⟩
  | cons kv r ih =>
   intro hk
   obtain ⟨qs,e⟩:=ih fun z hz=>hk z (List.mem_cons_of_mem _ hz)
   obtain ⟨p,w,e2⟩:=hk kv List.mem_cons_self
   exact ⟨p :: qs,by rw [List.map_cons,List.map_cons,e,e2]⟩
 obtain ⟨qs,e⟩:=this _ h.2
 refine ⟨qs,e,xc (f:=zI) (by rw [← e];exact h.1),fun p=>?_⟩
 constructor
 ·intro hp
  have:zI p∈(dOf rows).map (·.1):=by rw [e];exact List.mem_map_of_mem hp
  obtain ⟨kv,hk,e1⟩:=List.mem_map.mp this
  obtain ⟨p',w,rfl,hw⟩:=mem_dOf.mp hk
  have:=xw e1
  subst this
  rw [hw];rfl
 ·intro hp
  obtain ⟨w,hw⟩:=Option.isSome_iff_exists.mp hp
  have:zI p∈qs.map zI:=by rw [← e];exact List.mem_map_of_mem (f:=(·.1)) (mem_dOf.mpr ⟨p,w,rfl,hw⟩)
  obtain ⟨p',hp',e1⟩:=List.mem_map.mp this
  rw [← xw e1];exact hp'
def YI (rows:List Row) (p:Pl):Option Row:=match zP rows p with
 | some w=>if w=0 then none else some (p,w)
 | none=>none
def za1 (rows:List Row) (qs:List Pl) (i:Nat) (ys:List V) (H:Hp):Prop:=∃ out:List Row,wM H ys out∧out=(qs.take i).filterMap (YI rows)
theorem Q3 {rows:List Row} {qs:List Pl} {i:Nat} {ys:List V} {H H':Hp} (s:qo H H') (h:za1 rows qs i ys H):za1 rows qs i ys H':=by
 obtain ⟨out,h1,h2⟩:=h
 exact ⟨out,vT s h1,h2⟩
theorem toRow_iff {rows:List Row} {p:Pl} {b:Row}:YI rows p=some b↔b.1=p∧zP rows p=some b.2∧b.2≠0:=by
 unfold YI
 obtain ⟨p',w'⟩:=b
 cases e:zP rows p with
 | none=>simp
 | some w =>
  by_cases h:w=0
  ·subst h
   simp only [if_true]
   constructor
   ·intro z;cases z
   ·rintro ⟨_,z,h2⟩
    exact absurd (Option.some.inj z).symm h2
  ·simp only [if_neg h,Option.some.injEq,Prod.mk.injEq]
   constructor
   ·rintro ⟨rfl,rfl⟩;exact ⟨rfl,rfl,h⟩
   ·rintro ⟨rfl,rfl,_⟩;exact ⟨rfl,rfl⟩
theorem za2 {rows:List Row} {ps:List Pl} (hw:ps.Pairwise fun a b=>zT a b=true) (hm:∀ p,p∈ps↔(zP rows p).isSome=true):wI rows (ps.filterMap (YI rows)):=by
 constructor
 ·unfold Rising
  rw [List.pairwise_filterMap]
  refine hw.imp fun {a a'} h b hb b' hb'=>?_
  rw [(toRow_iff.mp hb).1,(toRow_iff.mp hb').1];exact h
 ·intro p w
  rw [List.mem_filterMap]
  constructor
  ·rintro ⟨a,_,h⟩
   obtain ⟨h1,h2,h3⟩:=toRow_iff.mp h
   cases h1
   exact ⟨h2,h3⟩
  ·rintro ⟨h1,h2⟩
   exact ⟨p,(hm p).mpr (by rw [h1];rfl),toRow_iff.mpr ⟨rfl,h1,h2⟩⟩
theorem z5 {H H':Hp} {D:Addr} (s:Same H H') (h:H' D=none):H D=none:=by
 cases e:H D with
 | none=>rfl
 | some o=>rw [s _ _ e] at h;cases h
theorem Z3 {a:Addr} {xs:List V} {rows:List Row} (h1:H a=some (.lst xs)) (h2:wM H xs rows) (h4:(dOf rows).length≤900) (h5:rows.length≤1000) (q:∀ l ys out H',Same H H'→H l=none→H' l=some (.lst ys)→wM H' ys out→wI rows out→Q (.ref l) H') :
  va K t { nx:=fun _ H'=>Q .non H',rt:=Q } (L2.start ["rows","worths"] [.ref a]) H:=by
 simp only [va,XD,VP,qj,L2.start,zq,zN,zo,zv,tOp,zc,tC,z0,zb,zi,zr,tCB,yS,wU,x0,rNe,yV,List.map,List.replicate,List.length,List.append,List.cons_append,List.nil_append,List.append_nil,List.getElem?_cons_zero,List.getElem?_cons_succ,Option.some.injEq,exists_eq_left',exists_eq_left,V.int.injEq,V.ref.injEq,V.str.injEq,V.bl.injEq,V.ty.injEq,List.cons.injEq,and_true,true_and,and_assoc,exists_and_left,List.set_cons_zero,List.set_cons_succ,Nat.reduceSub,Nat.reduceAdd,decide_eq_true_eq,Bool.not_eq_true',decide_eq_false_iff_not,Int.reduceToNat,Int.reducePow,Int.reduceNeg,Int.reduceMul,Int.reduceAdd,if_true,ite_true,Bool.false_eq_true,ite_false,if_false]
 refine ⟨xs,h1,rows,h2,h5,fun d hd=>?_⟩
 have S:∀ u:HO,Same H (upd H d u):=fun u=>isV (o:=u) d hd
 obtain ⟨qs,hqs,nqs,mqs⟩:=K1 rows
 have ld:=wx rows
 generalize hH0:upd H d (.dT (dOf rows))=H0
 have S0:Same H H0:=by rw [← hH0];exact S _
 have d0:H0 d=some (.dT (dOf rows)):=by rw [← hH0];exact zf
 refine ⟨dOf rows,d0,qs,hqs,by omega,fun l ps hl0 hperm hpw hps=>?_⟩
 obtain ⟨H1,eH,s1,q1⟩:=qC (o:=HO.lst (ps.map fun n=>V.ref n.1)) hl0
 rw [← eH]
 clear eH
 refine ⟨⟨_,SqL.of q1⟩,fun D hD=>?_⟩
 refine ZD (J:=Itl K l) ps.length (by have:=hperm.length_eq;have:=congrArg List.length hqs;simp at *;omega) (fun τ=>∃ o,τ=[o,some (.ref d)]) (za1 rows (ps.map (·.2))) (fun i ys H H' s h=>Q3 s h) ⟨_,rfl⟩ ⟨[],.nil,rfl⟩ (fun i H s h=>⟨_,_,SqL.of (s _ _ q1),List.getElem?_eq_getElem (by rw [List.length_map];exact h)⟩) (fun H s=>⟨_,SqL.of (s _ _ q1),by rw [List.length_map];exact Nat.le_refl _⟩) hD ?_ ?_
 ·rintro i v τ ys H4 H5 ⟨o,rfl⟩ s4 hi hR ⟨rfl,hv⟩
  have hv:=hv _ (SqL.of (s4 _ _ q1))
  rw [List.getElem?_map] at hv
  obtain ⟨n,hn,rfl⟩:=Option.map_eq_some_iff.mp hv
  have hp:=s4 _ _ (s1 _ _ (hps n (List.mem_of_getElem? hn)))
  simp only [XD,VP,qj,L2.start,zq,zN,zo,zv,tOp,zc,tC,z0,zb,zi,zr,tCB,yS,wU,x0,rNe,yV,List.map,List.replicate,List.length,List.append,List.cons_append,List.nil_append,List.append_nil,List.getElem?_cons_zero,List.getElem?_cons_succ,Option.some.injEq,exists_eq_left',exists_eq_left,V.int.injEq,V.ref.injEq,V.str.injEq,V.bl.injEq,V.ty.injEq,List.cons.injEq,and_true,true_and,and_assoc,exists_and_left,List.set_cons_zero,List.set_cons_succ,Nat.reduceSub,Nat.reduceAdd,decide_eq_true_eq,Bool.not_eq_true',decide_eq_false_iff_not,Int.reduceToNat,Int.reducePow,Int.reduceNeg,Int.reduceMul,Int.reduceAdd,if_true,ite_true,Bool.false_eq_true,ite_false,if_false]
  have hm:n.2∈qs:=hperm.mem_iff.mp (List.mem_map_of_mem (List.mem_of_getElem? hn))
  obtain ⟨w,hw⟩:=Option.isSome_iff_exists.mp ((mqs n.2).mp hm)
  have g:DGet H5 d (.ref n.1) ((zP rows n.2).map V.int):=.inr ⟨dOf rows,zI n.2,n.1,.inl (s4 _ _ (s1 _ _ d0)),rfl,hp,(ky rows n.2).symm⟩
  rw [hw] at g
  have tk:(ps.map (·.2)).take (i + 1)=(ps.map (·.2)).take i ++ [n.2]:=by rw [List.take_add_one,List.getElem?_map,hn];rfl
  obtain ⟨out,hr,ho⟩:=hR
  refine ⟨_,g,rfl,xB (fun c=>⟨_,g,by decide,fun p hp2=>⟨⟨_,rfl⟩,?_,isV p hp2⟩⟩) fun c=>⟨⟨_,rfl⟩,?_,Same.refl _⟩⟩
  ·refine ⟨out ++ [(n.2,w)],YH (vE (isV p hp2) hr) ⟨p,n.1,rfl,zf,isV p hp2 _ _ hp⟩,?_⟩
   have hw0:w≠0:=fun z=>c (by rw [z])
   rw [tk,List.filterMap_append,← ho]
   simp [YI,hw,hw0]
  ·refine ⟨out,hr,?_⟩
   have hw0:w=0:=by simpa using c
   rw [tk,List.filterMap_append,← ho]
   simp [YI,hw,hw0]
 ·rintro ys H4 hly ⟨out,hr,ho⟩ s4 hq
  refine q D ys out H4 (S0.trans (s1.trans s4)) (z5 (S0.trans s1) hD) hq hr ?_
  rw [List.take_of_length_le (by rw [List.length_map];exact Nat.le_refl _)] at ho
  subst ho
  exact za2 hpw fun p=>(hperm.mem_iff.trans (mqs p))
theorem vF {p:Pl} {w:Int}:∀ {l:List Row},zP l p=some w→(p,w)∈l
 | [],h=>by cases h
 | r :: t,h=>by
  rw [zP] at h
  cases e:zP t p with
  | some w' =>
   rw [e] at h
   have:w'=w:=by simpa using h
   subst this
   exact List.mem_cons_of_mem _ (vF e)
  | none =>
   rw [e] at h
   by_cases c:r.1=p
   ·rw [if_pos c] at h
    have:r.2=w:=by simpa using h
    rw [← c,← this];exact List.mem_cons_self
   ·rw [if_neg c] at h;cases h
theorem LsAt.same {H H':Hp} {a:Addr} {rows:List Row} (h:LsAt H a rows) (s:Same H H'):LsAt H' a rows:=by
 obtain ⟨xs,h1,h2⟩:=h
 exact ⟨xs,s _ _ h1,vE s h2⟩
theorem fin_err {t:Adr} {e:Er} {Q:VK} {E:XK} {H:Hp}:fin t (.error e) Q E H↔KY t e E H:=by cases e <;> rfl
theorem fin_ok {t:Adr} {i:Int} {Q:VK} {E:XK} {H:Hp}:fin t (.ok i) Q E H↔Q (.int i) H:=Iff.rfl
theorem Wq {F:Addr→Prop} {v:V} {r:Rw} (h:RwAt F H v r) (d:Zw r):∃ p xs hd,v=.ref p∧H p=some (.tup xs)∧atI xs 0=some (.str hd)∧hd≠"off"∧hd≠"if":=by
 cases r with
 | take sh e sl =>
  unfold RwAt at h
  obtain ⟨r,te,rfl,_,_,e2,e3⟩:=h
  exact ⟨r,_,_,rfl,e2,rfl,by decide +kernel,by decide +kernel⟩
 | give sh e f =>
  unfold RwAt at h
  obtain ⟨r,te,tf,rfl,_,_,_,e2,e3⟩:=h
  exact ⟨r,_,_,rfl,e2,rfl,by decide +kernel,by decide +kernel⟩
 | lt sl e =>
  unfold RwAt at h
  obtain ⟨r,te,rfl,_,_,e2,e3⟩:=h
  exact ⟨r,_,_,rfl,e2,rfl,by decide +kernel,by decide +kernel⟩
 | say e =>
  unfold RwAt at h
  obtain ⟨r,te,rfl,_,_,e2,e3⟩:=h
  exact ⟨r,_,_,rfl,e2,rfl,by decide +kernel,by decide +kernel⟩
 | off e=>exact d.elim
 | iff e a b=>exact d.elim
theorem doF {P:Str→Option Value} (T:Txt K P t):DoF K t:=⟨T.cl_Doing,T.na_Doing_slots,T.na_Doing_worths,T.na_Doing_sayings⟩
theorem DoAt.same {H0 H H':Hp} {x dx sl wo sa:Addr} {s:Sta} (D:DoAt t H0 H x dx sl wo sa s) (k:Same H H'):DoAt t H0 H' x dx sl wo sa s :=
 ⟨D.sm.trans k,D.f1,D.f2,D.f3,k _ _ D.ix,k _ _ D.hs,k _ _ D.hw,k _ _ D.ha⟩
theorem DoAt.putS {H0 H:Hp} {x dx sl wo sa:Addr} {s:Sta} (D:DoAt t H0 H x dx sl wo sa s) (kvs:List (Key × V)):DoAt t H0 (upd H sl (.dK kvs)) x dx sl wo sa { s with sl:=kvs } :=
 ⟨yu D.sm D.f1,D.f1,D.f2,D.f3,by rw [zl (yI D.ix D.hs (fun z=>nomatch z))];exact D.ix,zf,by rw [zl (yI D.hw D.hs (fun z=>nomatch z))];exact D.hw,by rw [zl (yI D.ha D.hs (fun z=>nomatch z))];exact D.ha⟩
theorem DoAt.putW {H0 H:Hp} {x dx sl wo sa:Addr} {s:Sta} (D:DoAt t H0 H x dx sl wo sa s) (rows:List Row):DoAt t H0 (upd H wo (.dT (dOf rows))) x dx sl wo sa { s with wo:=rows } :=
 ⟨yu D.sm D.f2,D.f1,D.f2,D.f3,by rw [zl (yI D.ix D.hw (fun z=>nomatch z))];exact D.ix,by rw [zl (yI D.hs D.hw (fun z=>nomatch z))];exact D.hs,zf,by rw [zl (yI D.ha D.hw (fun z=>nomatch z))];exact D.ha⟩
theorem DoAt.putA {H0 H:Hp} {x dx sl wo sa:Addr} {s:Sta} (D:DoAt t H0 H x dx sl wo sa s) (is:List Int):DoAt t H0 (upd H sa (.lst (is.map V.int))) x dx sl wo sa { s with sa:=is } :=
 ⟨yu D.sm D.f3,D.f1,D.f2,D.f3,by rw [zl (yI D.ix D.ha (fun z=>nomatch z))];exact D.ix,by rw [zl (yI D.hs D.ha (fun z=>nomatch z))];exact D.hs,by rw [zl (yI D.hw D.ha (fun z=>nomatch z))];exact D.hw,zf⟩
theorem ZE {x a:Addr} {tab:List Row} {H0:Hp} {dx:Addr} (F:DoF K t) (h1:Same H0 H) (h2:H0 x=none) (h3:H x=some (.ins t.c_Doing dx [])) (h4:LsAt H0 a tab) (h5:tab.length≤500)
  (q:∀ H' sl wo sa,DoAt t H0 H' x dx sl wo sa ⟨[],tab,[]⟩→Q .non H') :
  vi K t { nx:=fun _ H'=>Q .non H',rt:=Q } (L2.start ["self","table"] [.ref x,.ref a]) H:=by
 simp only [vi,qj,Je,yQ,L2.start,zq,zc,wG,zb,zi,tCB,qU,List.map,List.replicate,List.length,List.append,List.cons_append,List.nil_append,List.append_nil,List.getElem?_cons_zero,List.getElem?_cons_succ,Option.some.injEq,exists_eq_left',exists_eq_left,V.int.injEq,V.ref.injEq,V.str.injEq,V.bl.injEq,V.ty.injEq,List.cons.injEq,and_true,true_and,and_assoc,exists_and_left,List.set_cons_zero,List.set_cons_succ,Nat.reduceSub,Nat.reduceAdd,decide_eq_true_eq,Bool.not_eq_true',decide_eq_false_iff_not,Int.reduceToNat,Int.reducePow,Int.reduceNeg,Int.reduceMul,Int.reduceAdd,if_true,ite_true,Bool.false_eq_true,ite_false,if_false]
 intro sl hsl
 obtain ⟨xs,hx,rx⟩:=h4
 have nsl:x≠sl:=zG h3 hsl
 have fsl:H0 sl=none:=z5 h1 hsl
 refine ⟨_,_,_,(by rw [zl nsl];exact h3),F.cl,F.n1,by decide,?_⟩
 have S2:Same H0 (upd (upd H sl (.dK [])) x (.ins t.c_Doing dx (yQ "slots" (.ref sl) []))):=yu (yu h1 fsl) h2
 have x2:upd (upd H sl (.dK [])) x (.ins t.c_Doing dx (yQ "slots" (.ref sl) [])) x=some (.ins t.c_Doing dx (yQ "slots" (.ref sl) [])):=zf
 have l2:upd (upd H sl (.dK [])) x (.ins t.c_Doing dx (yQ "slots" (.ref sl) [])) sl=some (.dK []):=by rw [zl (Ne.symm nsl),zf]
 generalize upd (upd H sl (.dK [])) x (.ins t.c_Doing dx (yQ "slots" (.ref sl) []))=H2 at *
 refine ⟨xs,S2 _ _ hx,tab,vE S2 rx,by omega,fun wo hwo=>?_⟩
 have nwo:x≠wo:=zG x2 hwo
 have fwo:H0 wo=none:=z5 S2 hwo
 refine ⟨_,_,_,(by rw [zl nwo];exact x2),F.cl,F.n2,(by simp [yQ]),Nat.zero_le _,?_⟩
 have S3:Same H0 (upd (upd H2 wo (.dT (dOf tab))) x (.ins t.c_Doing dx (yQ "worths" (.ref wo) (yQ "slots" (.ref sl) [])))):=yu (yu S2 fwo) h2
 have x3:upd (upd H2 wo (.dT (dOf tab))) x (.ins t.c_Doing dx (yQ "worths" (.ref wo) (yQ "slots" (.ref sl) []))) x=some (.ins t.c_Doing dx (yQ "worths" (.ref wo) (yQ "slots" (.ref sl) []))):=zf
 have l3:upd (upd H2 wo (.dT (dOf tab))) x (.ins t.c_Doing dx (yQ "worths" (.ref wo) (yQ "slots" (.ref sl) []))) sl=some (.dK []):=by rw [zl (Ne.symm nsl),zl (zG l2 hwo)];exact l2
 have w3:upd (upd H2 wo (.dT (dOf tab))) x (.ins t.c_Doing dx (yQ "worths" (.ref wo) (yQ "slots" (.ref sl) []))) wo=some (.dT (dOf tab)):=by rw [zl (Ne.symm nwo),zf]
 generalize upd (upd H2 wo (.dT (dOf tab))) x (.ins t.c_Doing dx (yQ "worths" (.ref wo) (yQ "slots" (.ref sl) [])))=H3 at *
 intro sa hsa
 have nsa:x≠sa:=zG x3 hsa
 refine ⟨_,_,_,(by rw [zl nsa];exact x3),F.cl,F.n3,(by simp [yQ];split <;> simp),q _ sl wo sa ⟨yu (yu S3 (z5 S3 hsa)) h2,fsl,fwo,z5 S3 hsa,zf,?_,?_,?_⟩⟩
 ·rw [zl (Ne.symm nsl),zl (zG l3 hsa)];exact l3
 ·rw [zl (Ne.symm nwo),zl (zG w3 hsa)];exact w3
 ·rw [zl (Ne.symm nsa),zf];rfl
theorem j9 {x tm:Addr} {e:List V} {H0:Hp} {dx sl wo sa:Addr} {s:Sta} {E:XK} (F:DoF K t) (D:DoAt t H0 H x dx sl wo sa s) (h2:xD s.sl) (h3:H tm=some (.tup e)) (h4:TermOk e)
  (q:∀ H',Same H H'→fin t (rk s.sl e) Q E H'):xG K t E { nx:=fun _ H'=>Q .non H',rt:=Q } (L2.start ["self","term"] [.ref x,.ref tm]) H:=by
 simp only [xG,ji,v5,L2.start,zv,zc,zb,zi,zn,List.map,List.replicate,List.length,List.append,List.cons_append,List.nil_append,List.append_nil,List.getElem?_cons_zero,List.getElem?_cons_succ,Option.some.injEq,exists_eq_left',exists_eq_left,V.int.injEq,V.ref.injEq,V.str.injEq,V.bl.injEq,V.ty.injEq,List.cons.injEq,and_true,true_and,and_assoc,exists_and_left,List.set_cons_zero,List.set_cons_succ,Nat.reduceSub,Nat.reduceAdd,decide_eq_true_eq,Bool.not_eq_true',decide_eq_false_iff_not,Int.reduceToNat,Int.reducePow,Int.reduceNeg,Int.reduceMul,Int.reduceAdd,if_true,ite_true,Bool.false_eq_true,ite_false,if_false]
 exact ⟨_,_,_,D.ix,F.cl,F.n1,_,rfl,s.sl,_,rfl,e,h3,D.hs,_,h4.good s.sl,h4.2.1,h4.2.2,h2,q⟩
theorem ZF {x:Addr} {v:V} {r:Rw} {m:Nat} {H0:Hp} {dx sl wo sa:Addr} {s:Sta} {E:XK} (F:DoF K t) (D:DoAt t H0 H x dx sl wo sa s) (h1:RwAt jW H0 v r) (h2:Zw r) (h3:jX r) (h4:StOk m s) (h5:m≤900)
  (q1:∀ H' s',goR r s=.go s'→DoAt t H0 H' x dx sl wo sa s'→Q .non H') (q2:∀ H' e,goR r s=.er e→Same H0 H'→KY t e E H') :
  yP K t E { nx:=fun _ H'=>Q .non H',rt:=Q } (L2.start ["self","row","place"] [.ref x,v]) H:=by
 cases r with
 | take sh e sl' =>
  unfold RwAt at h1
  unfold jX at h3
  obtain ⟨r,te,rfl,_,_,e2,e3⟩:=h1
  have e2:=D.sm _ _ e2
  have e3:=D.sm _ _ e3
  simp only [yP,zC,xp,z7,v5,xJ,L2.start,z7,zx,yj,zV,zq,zN,zo,yp,tOp,zc,tC,z0,zb,zi,zE,zr,tBM,tyV,zV,rEq,yV,List.map,List.replicate,List.length,List.append,List.cons_append,List.nil_append,List.append_nil,List.getElem?_cons_zero,List.getElem?_cons_succ,Option.some.injEq,exists_eq_left',exists_eq_left,V.int.injEq,V.ref.injEq,V.str.injEq,V.bl.injEq,V.ty.injEq,List.cons.injEq,and_true,true_and,and_assoc,exists_and_left,List.set_cons_zero,List.set_cons_succ,Nat.reduceSub,Nat.reduceAdd,decide_eq_true_eq,Bool.not_eq_true',decide_eq_false_iff_not,Int.reduceToNat,Int.reducePow,Int.reduceNeg,Int.reduceMul,Int.reduceAdd,if_true,ite_true,Bool.false_eq_true,ite_false,if_false]
  refine ⟨_,SqT.of e2,_,rfl,rfl,?_⟩
  rw [if_pos rfl]
  refine ⟨_,_,_,D.ix,F.cl,F.n2,_,rfl,_,rfl,.inr ⟨_,.inl D.hw⟩,_,SqT.of e2,_,rfl,?_⟩
  refine ⟨_,_,D.ix,rfl,_,SqT.of e2,_,rfl,_,rfl,e,H0,dx,sl,wo,sa,s,D,h4.so,e3,h3,fun H1 s1=>?_⟩
  cases hk:rk s.sl e with
  | error er=>exact fin_err.mpr (q2 H1 er (by unfold goR;rw [hk]) (D.sm.trans s1))
  | ok n =>
   refine fin_ok.mpr ⟨by decide,fun p hp=>?_⟩
   have s2:=isV (o:=HO.tup [V.str sh,V.int n]) p hp
   have D2:=D.same (s1.trans s2)
   refine ⟨(zP s.wo (sh,n)).map V.int,.inr ⟨dOf s.wo,zI (sh,n),p,.inl D2.hw,rfl,zf,(ky _ _).symm⟩,?_⟩
   have hv:(Option.map V.int (zP s.wo (sh,n))).getD (V.int 0)=V.int ((zP s.wo (sh,n)).getD 0):=by cases zP s.wo (sh,n) <;> rfl
   rw [hv]
   have l1:=h4.l1
   exact ⟨_,_,_,D2.ix,F.cl,F.n1,_,rfl,_,SqT.of ((s1.trans s2) _ _ e2),_,rfl,_,rfl,_,DPut.k (k:=.inr sl') D2.hs (Nat.lt_of_le_of_lt (by omega:_≤900) (by decide)),q1 _ _ (by unfold goR;rw [hk]) (D2.putS _)⟩
 | give sh e f =>
  unfold RwAt at h1
  unfold jX at h3
  obtain ⟨r,te,tf,rfl,_,_,_,e2,e3,e4⟩:=h1
  have e2:=D.sm _ _ e2
  have e3:=D.sm _ _ e3
  have e4:=D.sm _ _ e4
  simp only [yP,zC,xp,z7,v5,xJ,L2.start,z7,zx,yj,zV,zq,zN,zo,yp,tOp,zc,tC,z0,zb,zi,zE,zr,tBM,tyV,zV,rEq,yV,List.map,List.replicate,List.length,List.append,List.cons_append,List.nil_append,List.append_nil,List.getElem?_cons_zero,List.getElem?_cons_succ,Option.some.injEq,exists_eq_left',exists_eq_left,V.int.injEq,V.ref.injEq,V.str.injEq,V.bl.injEq,V.ty.injEq,List.cons.injEq,and_true,true_and,and_assoc,exists_and_left,List.set_cons_zero,List.set_cons_succ,Nat.reduceSub,Nat.reduceAdd,decide_eq_true_eq,Bool.not_eq_true',decide_eq_false_iff_not,Int.reduceToNat,Int.reducePow,Int.reduceNeg,Int.reduceMul,Int.reduceAdd,if_true,ite_true,Bool.false_eq_true,ite_false,if_false]
  refine ⟨_,SqT.of e2,_,rfl,rfl,?_⟩
  rw [if_neg (by decide)]
  refine ⟨_,SqT.of e2,_,rfl,rfl,?_⟩
  rw [if_pos rfl]
  refine ⟨_,SqT.of e2,_,rfl,_,_,D.ix,rfl,_,SqT.of e2,_,rfl,_,rfl,e,H0,dx,sl,wo,sa,s,D,h4.so,e3,h3.1,fun H1 s1=>?_⟩
  cases hk:rk s.sl e with
  | error er=>exact fin_err.mpr (q2 H1 er (by unfold goR;rw [hk]) (D.sm.trans s1))
  | ok n =>
   refine fin_ok.mpr ⟨by decide,fun p hp=>?_⟩
   have s2:=isV (o:=HO.tup [V.str sh,V.int n]) p hp
   have D2:=D.same (s1.trans s2)
   have S2:=s1.trans s2
   refine ⟨_,_,D2.ix,rfl,_,SqT.of (S2 _ _ e2),_,rfl,_,rfl,f,H0,dx,sl,wo,sa,s,D2,h4.so,S2 _ _ e4,h3.2,fun H3 s3=>?_⟩
   cases hk2:rk s.sl f with
   | error er=>exact fin_err.mpr (q2 H3 er (by unfold goR;rw [hk];simp only [hk2]) (D2.sm.trans s3))
   | ok w =>
    have D3:=D2.same s3
    have l2:=h4.l2
    have ld:=wx s.wo
    refine fin_ok.mpr ⟨_,_,_,D3.ix,F.cl,F.n2,_,rfl,_,rfl,_,DPut.t (k:=zI (sh,n)) D3.hw (s3 _ _ zf) (Nat.lt_of_le_of_lt (by omega:_≤900) (by decide)),?_⟩
    rw [show yA (dOf s.wo) (zI (sh,n)) (V.int w)=dOf (s.wo ++ [((sh,n),w)]) from (kz s.wo ((sh,n),w)).symm]
    exact q1 _ _ (by unfold goR;rw [hk];simp only [hk2]) (D3.putW _)
 | lt sl' e =>
  unfold RwAt at h1
  unfold jX at h3
  obtain ⟨r,te,rfl,_,_,e2,e3⟩:=h1
  have e2:=D.sm _ _ e2
  have e3:=D.sm _ _ e3
  simp only [yP,zC,xp,z7,v5,xJ,L2.start,z7,zx,yj,zV,zq,zN,zo,yp,tOp,zc,tC,z0,zb,zi,zE,zr,tBM,tyV,zV,rEq,yV,List.map,List.replicate,List.length,List.append,List.cons_append,List.nil_append,List.append_nil,List.getElem?_cons_zero,List.getElem?_cons_succ,Option.some.injEq,exists_eq_left',exists_eq_left,V.int.injEq,V.ref.injEq,V.str.injEq,V.bl.injEq,V.ty.injEq,List.cons.injEq,and_true,true_and,and_assoc,exists_and_left,List.set_cons_zero,List.set_cons_succ,Nat.reduceSub,Nat.reduceAdd,decide_eq_true_eq,Bool.not_eq_true',decide_eq_false_iff_not,Int.reduceToNat,Int.reducePow,Int.reduceNeg,Int.reduceMul,Int.reduceAdd,if_true,ite_true,Bool.false_eq_true,ite_false,if_false]
  refine ⟨_,SqT.of e2,_,rfl,rfl,?_⟩
  rw [if_neg (by decide)]
  refine ⟨_,SqT.of e2,_,rfl,rfl,?_⟩
  rw [if_neg (by decide)]
  refine ⟨_,SqT.of e2,_,rfl,rfl,?_⟩
  rw [if_pos rfl]
  refine ⟨_,_,D.ix,rfl,_,SqT.of e2,_,rfl,_,rfl,e,H0,dx,sl,wo,sa,s,D,h4.so,e3,h3,fun H1 s1=>?_⟩
  cases hk:rk s.sl e with
  | error er=>exact fin_err.mpr (q2 H1 er (by unfold goR;rw [hk]) (D.sm.trans s1))
  | ok n =>
   have D2:=D.same s1
   have l1:=h4.l1
   exact fin_ok.mpr ⟨_,_,_,D2.ix,F.cl,F.n1,_,rfl,_,SqT.of (s1 _ _ e2),_,rfl,_,rfl,_,DPut.k (k:=.inr sl') D2.hs (Nat.lt_of_le_of_lt (by omega:_≤900) (by decide)),q1 _ _ (by unfold goR;rw [hk]) (D2.putS _)⟩
 | say e =>
  unfold RwAt at h1
  unfold jX at h3
  obtain ⟨r,te,rfl,_,_,e2,e3⟩:=h1
  have e2:=D.sm _ _ e2
  have e3:=D.sm _ _ e3
  simp only [yP,zC,xp,z7,v5,xJ,L2.start,z7,zx,yj,zV,zq,zN,zo,yp,tOp,zc,tC,z0,zb,zi,zE,zr,tBM,tyV,zV,rEq,yV,List.map,List.replicate,List.length,List.append,List.cons_append,List.nil_append,List.append_nil,List.getElem?_cons_zero,List.getElem?_cons_succ,Option.some.injEq,exists_eq_left',exists_eq_left,V.int.injEq,V.ref.injEq,V.str.injEq,V.bl.injEq,V.ty.injEq,List.cons.injEq,and_true,true_and,and_assoc,exists_and_left,List.set_cons_zero,List.set_cons_succ,Nat.reduceSub,Nat.reduceAdd,decide_eq_true_eq,Bool.not_eq_true',decide_eq_false_iff_not,Int.reduceToNat,Int.reducePow,Int.reduceNeg,Int.reduceMul,Int.reduceAdd,if_true,ite_true,Bool.false_eq_true,ite_false,if_false]
  refine ⟨_,SqT.of e2,_,rfl,rfl,?_⟩
  rw [if_neg (by decide)]
  refine ⟨_,SqT.of e2,_,rfl,rfl,?_⟩
  rw [if_neg (by decide)]
  refine ⟨_,SqT.of e2,_,rfl,rfl,?_⟩
  rw [if_neg (by decide)]
  refine ⟨_,_,_,D.ix,F.cl,F.n3,_,rfl,.inl ⟨_,SqL.of D.ha⟩,_,_,D.ix,rfl,_,SqT.of e2,_,rfl,_,rfl,e,H0,dx,sl,wo,sa,s,D,h4.so,e3,h3,fun H1 s1=>?_⟩
  cases hk:rk s.sl e with
  | error er=>exact fin_err.mpr (q2 H1 er (by unfold goR;rw [hk]) (D.sm.trans s1))
  | ok n =>
   have D2:=D.same s1
   have l3:=h4.l3
   have e:s.sa.map V.int ++ [V.int n]=(s.sa ++ [n]).map V.int:=by simp
   refine fin_ok.mpr ⟨_,rfl,_,D2.ha,Nat.lt_of_le_of_lt (by rw [List.length_map];omega:_≤900) (by decide),?_⟩
   rw [e]
   exact q1 _ _ (by unfold goR;rw [hk]) (D2.putA _)
 | off e=>exact h2.elim
 | iff e a b=>exact h2.elim
theorem xH {vs:List V} {H:Hp} {Q:VK} {E:XK} (h:zW t 0 vs H Q E):False:=by
 obtain ⟨_,_,_,_,_,_,_,_,_,_,_,_,_,_,_,_,h,_⟩:=h
 exact Nat.not_lt_zero _ h
def goI (t:Adr) (x l dx sl wo sa:Addr) (xs:List V) (rws:Rws) (s:Sta) (n:Nat) (H0:Hp) (i:Nat) (σ:St) (H':Hp):Prop:=∃ (s':Sta) (rest:Rws) (m:Nat),(∃ o,σ=[some (.ref x),some (.ref l),o])∧DoAt t H0 H' x dx sl wo sa s'∧RwsAt jW H0 (xs.drop i) rest∧jg rest∧rest.deep < n + 1∧StOk m s'∧m + rest.cnt≤900∧yw rws s=yw rest s'
theorem zar {a b c n:Nat} (h:max (max a b + 1) c < n + 1):a < n∧b < n:=by omega
theorem zbA {m a b c:Nat} (h:m + (max a b + 1 + c)≤900):m + a≤900∧m + b≤900:=by omega
theorem vU {x l:Addr} {xs:List V} {rws:Rws} {m n:Nat} {H0:Hp} {dx sl wo sa:Addr} {s:Sta} {E:XK} (F:DoF K t) (D:DoAt t H0 H x dx sl wo sa s) (h1:H0 l=some (.lst xs)) (h2:RwsAt jW H0 xs rws) (h3:jg rws) (h4:rws.deep < n + 1) (h5:StOk m s) (h6:m + rws.cnt≤900)
  (q1:∀ H' s',yw rws s=.go s'→DoAt t H0 H' x dx sl wo sa s'→Q (.bl true) H') (q2:∀ H',yw rws s=.off→Same H0 H'→Q (.bl false) H') (q3:∀ H' e,yw rws s=.er e→Same H0 H'→KY t e E H') :
  yR K t n E { nx:=fun _ H'=>Q .non H',rt:=Q } (L2.start ["self","rows","row"] [.ref x,.ref l]) H:=by
 simp only [yR,zC,vd,zW,xJ,L2.start,zV,zq,zo,zv,yp,zA,tOp,zc,tC,zb,zi,xI,zE,wE,zr,tB,tIf,x0,zV,rEq,rNe,yV,List.map,List.replicate,List.length,List.append,List.cons_append,List.nil_append,List.append_nil,List.getElem?_cons_zero,List.getElem?_cons_succ,Option.some.injEq,exists_eq_left',exists_eq_left,V.int.injEq,V.ref.injEq,V.str.injEq,V.bl.injEq,V.ty.injEq,List.cons.injEq,and_true,true_and,and_assoc,exists_and_left,List.set_cons_zero,List.set_cons_succ,Nat.reduceSub,Nat.reduceAdd,decide_eq_true_eq,Bool.not_eq_true',decide_eq_false_iff_not,Int.reduceToNat,Int.reducePow,Int.reduceNeg,Int.reduceMul,Int.reduceAdd,if_true,ite_true,Bool.false_eq_true,ite_false,if_false]
 refine ⟨⟨_,SqL.of (D.sm _ _ h1)⟩,kT xs (goI t x l dx sl wo sa xs rws s n H0) ⟨s,rws,m,⟨_,rfl⟩,D,by rw [List.drop_zero];exact h2,h3,h4,h5,h6,rfl⟩ (fun i σ H' ⟨s',rest,m,_,D',_⟩=>SqL.of (D'.sm _ _ h1)) ?_ ?_⟩
 ·rintro i v σ H' hv ⟨s',rest,m,⟨o,rfl⟩,D',hr,ok,dp,st,ct,ge⟩
  obtain ⟨r,rs,rfl,rx,rr⟩:=hr.get hv
  unfold jg at ok
  have c1:(Rws.cons r rs).deep=max r.deep rs.deep:=by rw [Rws.deep]
  have c2:(Rws.cons r rs).cnt=r.cnt + rs.cnt:=by rw [Rws.cnt]
  rw [c1] at dp
  rw [c2] at ct
  have go:∀ s'',goR r s'=.go s''→yw rws s=yw rs s'':=fun s'' z=>by rw [ge,yw,z]
  have nx:∀ (s'':Sta) (H'':Hp) (o':Option V),goR r s'=.go s''→DoAt t H0 H'' x dx sl wo sa s''→goI t x l dx sl wo sa xs rws s n H0 (i + 1) [some (.ref x),some (.ref l),o'] H'':=fun s'' H'' o' z D''=>⟨s'',rs,m + r.cnt,⟨_,rfl⟩,D'',rr,ok.2,by omega,KK r st ok.1 z,by omega,go s'' z⟩
  have er:∀ e,goR r s'=.er e→yw rws s=.er e:=fun e z=>by rw [ge,yw,z]
  have of:goR r s'=.off→yw rws s=.off:=fun z=>by rw [ge,yw,z]
  rcases Classical.em (Zw r) with hD | hD
  ·obtain ⟨p,ws,hd,rfl,e2,e3,n1,n2⟩:=Wq rx hD
   have e2:=D'.sm _ _ e2
   simp only [xJ,L2.start,zV,zq,zo,zv,yp,zA,tOp,zc,tC,zb,zi,xI,zE,wE,zr,tB,tIf,x0,zV,rEq,rNe,yV,List.map,List.replicate,List.length,List.append,List.cons_append,List.nil_append,List.append_nil,List.getElem?_cons_zero,List.getElem?_cons_succ,Option.some.injEq,exists_eq_left',exists_eq_left,V.int.injEq,V.ref.injEq,V.str.injEq,V.bl.injEq,V.ty.injEq,List.cons.injEq,and_true,true_and,and_assoc,exists_and_left,List.set_cons_zero,List.set_cons_succ,Nat.reduceSub,Nat.reduceAdd,decide_eq_true_eq,Bool.not_eq_true',decide_eq_false_iff_not,Int.reduceToNat,Int.reducePow,Int.reduceNeg,Int.reduceMul,Int.reduceAdd,if_true,ite_true,Bool.false_eq_true,ite_false,if_false]
   refine ⟨_,SqT.of e2,_,e3,rfl,?_⟩
   rw [if_neg (fun z=>n1 (V.str.inj z))]
   refine ⟨_,SqT.of e2,_,e3,rfl,?_⟩
   rw [if_neg (fun z=>n2 (V.str.inj z))]
   exact ⟨_,_,D'.ix,rfl,r,m,H0,dx,sl,wo,sa,s',D',rx,hD,ok.1,st,by omega,fun H1 s1 z D1=>nx s1 H1 _ z D1,fun H1 e z sm=>q3 H1 e (er e z) sm⟩
  cases r with
  | take sh e sl'=>exact (hD trivial).elim
  | give sh e f=>exact (hD trivial).elim
  | lt sl' e=>exact (hD trivial).elim
  | say e=>exact (hD trivial).elim
  | off e =>
   unfold RwAt at rx
   have ok1:=ok.1
   unfold jX at ok1
   obtain ⟨r,te,rfl,_,_,e2,e3⟩:=rx
   have e2:=D'.sm _ _ e2
   have e3:=D'.sm _ _ e3
   simp only [xJ,L2.start,zV,zq,zo,zv,yp,zA,tOp,zc,tC,zb,zi,xI,zE,wE,zr,tB,tIf,x0,zV,rEq,rNe,yV,List.map,List.replicate,List.length,List.append,List.cons_append,List.nil_append,List.append_nil,List.getElem?_cons_zero,List.getElem?_cons_succ,Option.some.injEq,exists_eq_left',exists_eq_left,V.int.injEq,V.ref.injEq,V.str.injEq,V.bl.injEq,V.ty.injEq,List.cons.injEq,and_true,true_and,and_assoc,exists_and_left,List.set_cons_zero,List.set_cons_succ,Nat.reduceSub,Nat.reduceAdd,decide_eq_true_eq,Bool.not_eq_true',decide_eq_false_iff_not,Int.reduceToNat,Int.reducePow,Int.reduceNeg,Int.reduceMul,Int.reduceAdd,if_true,ite_true,Bool.false_eq_true,ite_false,if_false]
   refine ⟨_,SqT.of e2,_,rfl,rfl,?_⟩
   rw [if_pos rfl]
   refine ⟨_,_,D'.ix,rfl,_,SqT.of e2,_,rfl,_,rfl,e,H0,dx,sl,wo,sa,s',D',st.so,e3,ok1,fun H1 s1=>?_⟩
   cases hk:rk s'.sl e with
   | error x=>exact fin_err.mpr (q3 H1 x (er x (by unfold goR;rw [hk])) (D'.sm.trans s1))
   | ok k =>
    refine fin_ok.mpr ⟨rfl,?_⟩
    by_cases h0:k=0
    ·rw [if_neg (by rw [h0];simp)]
     exact nx s' H1 _ (by unfold goR;rw [hk];simp only [if_pos h0]) (D'.same s1)
    ·rw [if_pos (by simpa using h0)]
     exact q2 H1 (of (by unfold goR;rw [hk];simp only [if_neg h0])) (D'.sm.trans s1)
  | iff e a b =>
   unfold RwAt at rx
   have ok1:=ok.1
   unfold jX at ok1
   obtain ⟨r,te,la,lb,as,bs,rfl,_,_,_,_,e2,e3,e4,e5,e6,e7⟩:=rx
   have e2:=D'.sm _ _ e2
   have e3:=D'.sm _ _ e3
   have c3:(Rw.iff e a b).deep=max a.deep b.deep + 1:=by rw [Rw.deep]
   have c4:(Rw.iff e a b).cnt=max a.cnt b.cnt + 1:=by rw [Rw.cnt]
   rw [c3] at dp
   rw [c4] at ct
   simp only [xJ,L2.start,zV,zq,zo,zv,yp,zA,tOp,zc,tC,zb,zi,xI,zE,wE,zr,tB,tIf,x0,zV,rEq,rNe,yV,List.map,List.replicate,List.length,List.append,List.cons_append,List.nil_append,List.append_nil,List.getElem?_cons_zero,List.getElem?_cons_succ,Option.some.injEq,exists_eq_left',exists_eq_left,V.int.injEq,V.ref.injEq,V.str.injEq,V.bl.injEq,V.ty.injEq,List.cons.injEq,and_true,true_and,and_assoc,exists_and_left,List.set_cons_zero,List.set_cons_succ,Nat.reduceSub,Nat.reduceAdd,decide_eq_true_eq,Bool.not_eq_true',decide_eq_false_iff_not,Int.reduceToNat,Int.reducePow,Int.reduceNeg,Int.reduceMul,Int.reduceAdd,if_true,ite_true,Bool.false_eq_true,ite_false,if_false]
   refine ⟨_,SqT.of e2,_,rfl,rfl,?_⟩
   rw [if_neg (by decide)]
   refine ⟨_,SqT.of e2,_,rfl,rfl,?_⟩
   rw [if_pos rfl]
   refine ⟨_,_,D'.ix,rfl,_,_,D'.ix,rfl,_,SqT.of e2,_,rfl,_,rfl,e,H0,dx,sl,wo,sa,s',D',st.so,e3,ok1.1,fun H1 s1=>?_⟩
   cases hk:rk s'.sl e with
   | error x=>exact fin_err.mpr (q3 H1 x (er x (by unfold goR;rw [hk])) (D'.sm.trans s1))
   | ok k =>
    refine fin_ok.mpr ⟨rfl,?_⟩
    by_cases h0:k=0
    ·have gb:goR (.iff e a b) s'=yw b s':=by rw [goR,hk];simp only [if_pos h0]
     rw [if_neg (by rw [h0];simp)]
     refine ⟨_,SqT.of (s1 _ _ e2),_,rfl,_,rfl,bs,b,m,H0,dx,sl,wo,sa,s',D'.same s1,e6,e7,ok1.2.2,(zar dp).2,st,(zbA ct).2,fun H2 s2 g D2=>?_,fun H2 g sm=>?_,fun H2 x g sm=>q3 H2 x (er x (gb.trans g)) sm⟩
     ·rw [if_neg (by decide)]
      exact nx s2 H2 _ (gb.trans g) D2
     ·exact q2 H2 (of (gb.trans g)) sm
    ·have gb:goR (.iff e a b) s'=yw a s':=by rw [goR,hk];simp only [if_neg h0]
     rw [if_pos (by simpa using h0)]
     refine ⟨_,SqT.of (s1 _ _ e2),_,rfl,_,rfl,as,a,m,H0,dx,sl,wo,sa,s',D'.same s1,e4,e5,ok1.2.1,(zar dp).1,st,(zbA ct).1,fun H2 s2 g D2=>?_,fun H2 g sm=>?_,fun H2 x g sm=>q3 H2 x (er x (gb.trans g)) sm⟩
     ·rw [if_neg (by decide)]
      exact nx s2 H2 _ (gb.trans g) D2
     ·exact q2 H2 (of (gb.trans g)) sm
 ·rintro σ H' ⟨s',rest,m,⟨o,rfl⟩,D',hr,ok,dp,st,ct,ge⟩
  have e:=hr.none
  subst e
  exact q1 H' s' (by rw [ge];unfold yw;rfl) D'
theorem Z4 {c j:Int} (h1:0≤j) (h2:j≤1000) (q:∀ r H',0≤r→r < 2147483648→Same H H'→Q (.int r) H') :
  vP K t { nx:=fun _ H'=>Q .non H',rt:=Q } (L2.start ["cell","j","far"] [.int c,.int j]) H:=by
 simp only [vP,L2.start,zq,zN,zo,zv,tOp,zc,tC,rI,rI0,List.map,List.replicate,List.length,List.append,List.cons_append,List.nil_append,List.append_nil,List.getElem?_cons_zero,List.getElem?_cons_succ,Option.some.injEq,exists_eq_left',exists_eq_left,V.int.injEq,V.ref.injEq,V.str.injEq,V.bl.injEq,V.ty.injEq,List.cons.injEq,and_true,true_and,and_assoc,exists_and_left,List.set_cons_zero,List.set_cons_succ,Nat.reduceSub,Nat.reduceAdd,decide_eq_true_eq,Bool.not_eq_true',decide_eq_false_iff_not,Int.reduceToNat,Int.reducePow,Int.reduceNeg,Int.reduceMul,Int.reduceAdd,if_true,ite_true,Bool.false_eq_true,ite_false,if_false]
 have hb:(10000000000000000000000000000000000000000000000:Int) < big:=by decide +kernel
 have g1:=Int.emod_nonneg c (b:=1000000007) (by decide)
 have g2:=Int.emod_lt_of_pos c (b:=1000000007) (by decide)
 generalize c % 1000000007=a at *
 have g3:=Int.emod_nonneg (a * 6700417 + (j + 1) * 104729 * 65537) (b:=1000000009) (by decide)
 have g4:=Int.emod_lt_of_pos (a * 6700417 + (j + 1) * 104729 * 65537) (b:=1000000009) (by decide)
 generalize hf:(a * 6700417 + (j + 1) * 104729 * 65537) % 1000000009=f at *
 have g5:=Int.emod_nonneg (f * f) (b:=1000000009) (by decide)
 have g6:=Int.emod_lt_of_pos (f * f) (b:=1000000009) (by decide)
 generalize hg:f * f % 1000000009=g at *
 have g7:=Int.emod_nonneg (g * f) (b:=1000000009) (by decide)
 have g8:=Int.emod_lt_of_pos (g * f) (b:=1000000009) (by decide)
 refine ⟨by decide,⟨⟨by omega,by omega⟩,by omega,by omega⟩,⟨⟨by omega,by omega⟩,by omega,by omega⟩,⟨⟨by omega,by omega⟩,by omega,by omega⟩,by decide,?_⟩
 refine ⟨⟨⟨by omega,by omega⟩,by omega,by omega⟩,by decide,⟨⟨by omega,by omega⟩,by omega,by omega⟩,by decide,dB,q _ _ ?_ ?_ (Same.refl H)⟩
 ·exact Int.ediv_nonneg g7 (by decide)
 ·omega
def vo (P:Nat→Bool) (x:Str):Prop:=x.cps.toList.all P=true
theorem kI {P:Nat→Bool} {x y:Str} (h:vo P x) (h':vo P y):vo P (x ++ y):=by
 unfold vo at *
 rw [QF,List.all_append,h,h'];rfl
theorem Wr {P:Nat→Bool} {c:Nat} (h:P c=true):vo P ⟨#[c]⟩:=by
 show [c].all P=true
 rw [List.all_cons,h];rfl
theorem V0 {P:Nat→Bool} {x:Str} (h:vo P x) (k:Nat):vo P (Txt.slice x none (some (k:Int))):=by
 unfold vo at *
 rw [XO]
 rw [List.all_eq_true] at *
 exact fun c hc=>h c (List.mem_of_mem_take hc)
theorem YJ {P:Nat→Bool} {x:Str} (h:vo P x) (k:Nat):vo P (Txt.slice x (some (k:Int)) none):=by
 unfold vo at *
 rw [Zb]
 rw [List.all_eq_true] at *
 exact fun c hc=>h c (List.mem_of_mem_drop hc)
theorem K2 (x:Str) (k:Nat) (h:k≤x.length):(Txt.slice x none (some (k:Int))).length=k:=by
 rw [qD] at *
 rw [XO,List.length_take];omega
theorem Ws (x:Str) (k:Nat):(Txt.slice x (some (k:Int)) none).length=x.length - k:=by
 rw [qD,qD,Zb,List.length_drop]
def inC (c:Nat):Bool:=(Str.ofString "zyxwvtsrqpnmlkjhgfdcb").cps.toList.contains c
theorem zbB:∀ c∈(Str.ofString "zyxwvtsrqpnmlkjhgfdcb").cps.toList,inL c=true:=by decide +kernel
theorem zb9:∀ c∈(Str.ofString "zyxwvtsrqpnmlkjhgfdcb").cps.toList,inC c=true:=fun c hc=>by unfold inC;exact List.contains_iff_mem.mpr hc
theorem zca:∀ c∈(Str.ofString "zyxwvutsrqponmlkjihgfedcba").cps.toList,inL c=true:=by decide +kernel
theorem Jv:∀ v∈jw ++ wl,(match v with | .str w=>decide (w.length≠6) && !(w.cps.toList.all inC) | _=>true)=true:=by decide +kernel
theorem Q4 {x:Str} (h:x.length=6∨vo inC x):(inV (.str x) jw || inV (.str x) wl)=false:=by
 have key:∀ v∈jw ++ wl,eqV v (.str x)=false:=fun v hv=>by
  have w:=Jv v hv
  cases e:eqV v (.str x) with
  | false=>rfl
  | true =>
   cases v <;> simp only [eqV,Bool.false_eq_true] at e
   rename_i y
   have e':y=x:=by simpa using e
   subst e'
   simp only [Bool.and_eq_true,decide_eq_true_eq,Bool.not_eq_true'] at w
   rcases h with h | h
   ·exact absurd h w.1
   ·unfold vo at h;rw [h] at w;exact absurd w.2 (by decide)
 rw [Bool.or_eq_false_iff]
 unfold inV
 constructor
 ·rw [List.any_eq_false]
  exact fun v hv=>by rw [key v (List.mem_append_left _ hv)];decide
 ·rw [List.any_eq_false]
  exact fun v hv=>by rw [key v (List.mem_append_right _ hv)];decide
theorem V1 {x:Str} (h1:1≤x.length) (h2:x.length≤6) (h3:(x.length=6∧vo inL x)∨vo inC x):ye x=true:=by
 have nw:(inV (.str x) jw || inV (.str x) wl)=false:=Q4 (h3.imp (·.1) id)
 have al:x.cps.toList.all inL=true:=by
  rcases h3 with h | h
  ·exact h.2
  ·unfold vo at h
   rw [List.all_eq_true] at *
   exact fun c hc=>zbB c (List.contains_iff_mem.mp (h c hc))
 have ne:decide (x="")=false:=decide_eq_false fun z=>by rw [z] at h1;exact absurd h1 (by decide)
 have nl:decide (6 < x.length)=false:=decide_eq_false (by omega)
 unfold ye
 rw [nw,al,ne,nl];rfl
structure Sgn (P:Nat→Bool) (sz:Nat) (sg:Str):Prop where
 al:vo P sg
 lo:21≤sg.length
 hi:sg.length≤26
 s1:1≤sz
 s6:sz≤6
 nm:∀ x:Str,x.length=sz→vo P x→ye x=true
theorem K3 {P:Nat→Bool} {sz:Nat} {sg:Str} (S:Sgn P sz sg) {i:Int} (h0:0≤i) (h1:i < sg.length):∃ c,atI sg.cps.toList i=some c∧P c=true:=by
 obtain ⟨c,hc,hm⟩:=VZ (xs:=sg.cps.toList) (i:=i) h0 (by rw [← qD];exact h1)
 exact ⟨c,hc,List.all_eq_true.mp S.al c hm⟩
theorem V2 {P:Str→Prop}:∀ {ys:List V},(∀ v∈ys,∃ x,v=.str x∧P x)→∃ ls:List Str,ys=ls.map V.str∧∀ x∈ls,P x
 | [],_=>⟨[],rfl,fun _ z=>nomatch z⟩
 | v :: r,h=>by
  obtain ⟨x,rfl,px⟩:=h v List.mem_cons_self
  obtain ⟨ls,rfl,pl⟩:=V2 (ys:=r) fun u hu=>h u (List.mem_cons_of_mem _ hu)
  exact ⟨x :: ls,rfl,fun y hy=>by
   rcases List.mem_cons.mp hy with rfl | hy
   ·exact px
   ·exact pl y hy⟩
def nmV (v:V):Prop:=∃ x:Str,v=.str x∧ye x=true
theorem Q5 {P:Nat→Bool} {sz:Nat} {sg stem:Str} {c m tn:Int} {o5:Option V} {at_:Nat} (S:Sgn P sz sg) (hs:stem.length=sz) (hp:vo P stem) (ha:at_ < sz) (h1:0≤m) (h2:m≤6) (q:∀ nm ws H',Same H H'→NamesAt H' nm ws→(ws.length:Int)=m→Q (.ref nm) H') :
  wj K t { nx:=fun _ H'=>Q .non H',rt:=Q } [some (.int c),some (.int m),some (.int sz),some (.str sg),some (.str stem),o5,some (.int at_),some (.int tn)] H:=by
 simp only [wj,L2.start,zo,zv,tOp,zc,tC,zb,zi,tSl,xK,yW,yS,qq,wU,wF,YT,rI0,q9,jM,List.map,List.replicate,List.length,List.append,List.cons_append,List.nil_append,List.append_nil,List.getElem?_cons_zero,List.getElem?_cons_succ,Option.some.injEq,exists_eq_left',exists_eq_left,V.int.injEq,V.ref.injEq,V.str.injEq,V.bl.injEq,V.ty.injEq,List.cons.injEq,and_true,true_and,and_assoc,exists_and_left,List.set_cons_zero,List.set_cons_succ,Nat.reduceSub,Nat.reduceAdd,decide_eq_true_eq,Bool.not_eq_true',decide_eq_false_iff_not,Int.reduceToNat,Int.reducePow,Int.reduceNeg,Int.reduceMul,Int.reduceAdd,if_true,ite_true,Bool.false_eq_true,ite_false,if_false]
 have lo:=S.lo
 have hi:=S.hi
 have s6:=S.s6
 refine ⟨by omega,by omega,fun D hD=>?_⟩
 refine J8 (J:=Itr 0 m.toNat) m.toNat (by omega) (fun τ=>∃ o,τ=[o,some (.str stem),some (.int (at_:Int)),some (.str sg)]) (fun i v=>nmV v) ⟨_,rfl⟩ (fun i H _ h=>h) (fun H _=>Nat.le_refl _) hD ?_ ?_
 ·rintro i v τ H2 H' ⟨o,rfl⟩ s hi ⟨rfl,rfl⟩
  simp only [L2.start,zo,zv,tOp,zc,tC,zb,zi,tSl,xK,yW,yS,qq,wU,wF,YT,rI0,q9,jM,List.map,List.replicate,List.length,List.append,List.cons_append,List.nil_append,List.append_nil,List.getElem?_cons_zero,List.getElem?_cons_succ,Option.some.injEq,exists_eq_left',exists_eq_left,V.int.injEq,V.ref.injEq,V.str.injEq,V.bl.injEq,V.ty.injEq,List.cons.injEq,and_true,true_and,and_assoc,exists_and_left,List.set_cons_zero,List.set_cons_succ,Nat.reduceSub,Nat.reduceAdd,decide_eq_true_eq,Bool.not_eq_true',decide_eq_false_iff_not,Int.reduceToNat,Int.reducePow,Int.reduceNeg,Int.reduceMul,Int.reduceAdd,if_true,ite_true,Bool.false_eq_true,ite_false,if_false]
  obtain ⟨d,hd,hP⟩:=K3 S (i:=0 + (i:Int)) (by omega) (by omega)
  have l1:=K2 stem at_ (by omega)
  have l2:=Ws stem (at_ + 1)
  have p1:=V0 hp at_
  have p2:=YJ hp (at_ + 1)
  rw [show ((at_ + 1:Nat):Int)=(at_:Int) + 1 by omega] at l2 p2
  exact ⟨yg (by omega),yg (by omega),d,hd,yg (by rw [kH];omega),yg (by omega),yg (by rw [jB,kH];omega),⟨_,rfl⟩,⟨_,rfl,S.nm _ (by rw [jB,jB,kH];omega) (kI (kI p1 (Wr hP)) p2)⟩,Same.refl _⟩
 ·intro ys H' hly hv s hq
  obtain ⟨ls,rfl,hp⟩:=V2 (P:=fun x=>ye x=true) (ys:=ys) fun v hv2=>by
   obtain ⟨i,hi⟩:=List.getElem?_of_mem hv2
   exact hv i v hi
  rw [List.length_map] at hly
  exact q D ls H' s ⟨hq,hp⟩ (by omega)
theorem Q6 {P:Nat→Bool} {sz:Nat} {sg stem:Str} {c m:Int} {o5:Option V} (S:Sgn P sz sg) (hs:stem.length=sz) (hp:vo P stem) (h1:0≤m) (h2:m≤6) (q:∀ nm ws H',Same H H'→NamesAt H' nm ws→(ws.length:Int)=m→Q (.ref nm) H') :
  wk K t { nx:=fun _ H'=>Q .non H',rt:=Q } [some (.int c),some (.int m),some (.int sz),some (.str sg),some (.str stem),o5,none,none] H:=by
 simp only [wk,zk,L2.start,zq,zN,zo,zv,tOp,zc,tC,zb,zi,tCB,tSl,xK,yW,zn,yS,qq,wU,ZW,wF,YT,rI,rI0,q9,jM,kP,List.map,List.replicate,List.length,List.append,List.cons_append,List.nil_append,List.append_nil,List.getElem?_cons_zero,List.getElem?_cons_succ,Option.some.injEq,exists_eq_left',exists_eq_left,V.int.injEq,V.ref.injEq,V.str.injEq,V.bl.injEq,V.ty.injEq,List.cons.injEq,and_true,true_and,and_assoc,exists_and_left,List.set_cons_zero,List.set_cons_succ,Nat.reduceSub,Nat.reduceAdd,decide_eq_true_eq,Bool.not_eq_true',decide_eq_false_iff_not,Int.reduceToNat,Int.reducePow,Int.reduceNeg,Int.reduceMul,Int.reduceAdd,if_true,ite_true,Bool.false_eq_true,ite_false,if_false]
 have lo:=S.lo
 have hi:=S.hi
 have s1:=S.s1
 have s6:=S.s6
 refine ⟨by decide,by decide,fun r1 H1 a1 b1 s1'=>⟨by omega,by decide,by decide,fun r2 H2 a2 b2 s2'=>⟨yg (by omega),by omega,?_⟩⟩⟩
 obtain ⟨k,ek⟩:∃ k:Nat,r1 % (sz:Int)=k:=⟨_,(Int.toNat_of_nonneg (Int.emod_nonneg _ (by omega))).symm⟩
 have hk:(k:Int) < sz:=by rw [← ek];exact Int.emod_lt_of_pos _ (by omega)
 obtain ⟨u,eu⟩:∃ u:Nat,r2 % (sg.length:Int)=u:=⟨_,(Int.toNat_of_nonneg (Int.emod_nonneg _ (by omega))).symm⟩
 have hu:(u:Int) < sg.length:=by rw [← eu];exact Int.emod_lt_of_pos _ (by omega)
 rw [ek,eu]
 have l1:=K2 sg u (by omega)
 have l2:=Ws sg u
 refine ⟨yg (by omega),yg (by omega),yg (by omega),?_⟩
 have S':Sgn P sz (Txt.slice sg (some (u:Int)) none ++ Txt.slice sg none (some (u:Int))):=⟨kI (YJ S.al u) (V0 S.al u),by rw [jB];omega,by rw [jB];omega,S.s1,S.s6,S.nm⟩
 exact Q5 S' hs hp (by omega) h1 h2 fun nm ws H' s hn hl=>q nm ws H' (s1'.trans (s2'.trans s)) hn hl
def nmI (P:Nat→Bool) (c m:Int) (sz:Nat) (sg:Str) (H:Hp) (i:Nat) (σ:St) (H':Hp):Prop:=(∃ (x:Str) (o:Option V),σ=[some (.int c),some (.int m),some (.int sz),some (.str sg),some (.str x),o,none,none]∧x.length=i∧vo P x)∧Same H H'
theorem V3 {P:Nat→Bool} {sz:Nat} {sg:Str} {c m:Int} (S:Sgn P sz sg) (h1:0≤m) (h2:m≤6) (q:∀ nm ws H',Same H H'→NamesAt H' nm ws→(ws.length:Int)=m→Q (.ref nm) H') :
  wm K t { nx:=fun _ H'=>Q .non H',rt:=Q } [some (.int c),some (.int m),some (.int sz),some (.str sg),none,none,none,none] H:=by
 simp only [wm,zk,L2.start,zq,zN,zo,zv,tOp,zc,tC,zb,zi,xI,tCB,tSl,xK,yW,zn,yS,qq,wU,ZW,wF,YT,rI,rI0,q9,jM,kP,List.map,List.replicate,List.length,List.append,List.cons_append,List.nil_append,List.append_nil,List.getElem?_cons_zero,List.getElem?_cons_succ,Option.some.injEq,exists_eq_left',exists_eq_left,V.int.injEq,V.ref.injEq,V.str.injEq,V.bl.injEq,V.ty.injEq,List.cons.injEq,and_true,true_and,and_assoc,exists_and_left,List.set_cons_zero,List.set_cons_succ,Nat.reduceSub,Nat.reduceAdd,decide_eq_true_eq,Bool.not_eq_true',decide_eq_false_iff_not,Int.reduceToNat,Int.reducePow,Int.reduceNeg,Int.reduceMul,Int.reduceAdd,if_true,ite_true,Bool.false_eq_true,ite_false,if_false]
 have lo:=S.lo
 have hi:=S.hi
 have s1:=S.s1
 have s6:=S.s6
 refine ⟨by omega,by omega,jR (nmI P c m sz sg H) ⟨⟨_,none,rfl,by decide +kernel,by show [].all P=true;rfl⟩,Same.refl H⟩ ?_ ?_⟩
 ·rintro i σ H' hi ⟨⟨x,o,rfl,hx,hp⟩,s⟩
  simp only [L2.start,zq,zN,zo,zv,tOp,zc,tC,zb,zi,xI,tCB,tSl,xK,yW,zn,yS,qq,wU,ZW,wF,YT,rI,rI0,q9,jM,kP,List.map,List.replicate,List.length,List.append,List.cons_append,List.nil_append,List.append_nil,List.getElem?_cons_zero,List.getElem?_cons_succ,Option.some.injEq,exists_eq_left',exists_eq_left,V.int.injEq,V.ref.injEq,V.str.injEq,V.bl.injEq,V.ty.injEq,List.cons.injEq,and_true,true_and,and_assoc,exists_and_left,List.set_cons_zero,List.set_cons_succ,Nat.reduceSub,Nat.reduceAdd,decide_eq_true_eq,Bool.not_eq_true',decide_eq_false_iff_not,Int.reduceToNat,Int.reducePow,Int.reduceNeg,Int.reduceMul,Int.reduceAdd,if_true,ite_true,Bool.false_eq_true,ite_false,if_false]
  refine ⟨by omega,by omega,fun r1 H1 a1 b1 s1'=>⟨yg (by omega),by omega,?_⟩⟩
  obtain ⟨d,hd,hP⟩:=K3 S (i:=r1 % (sg.length:Int)) (Int.emod_nonneg _ (by omega)) (Int.emod_lt_of_pos _ (by omega))
  exact ⟨yg (by omega),d,hd,yg (by rw [kH];omega),⟨_,_,rfl,by rw [jB,kH];omega,kI hp (Wr hP)⟩,s.trans s1'⟩
 ·rintro σ H' ⟨⟨x,o,rfl,hx,hp⟩,s⟩
  exact Q6 S (by omega) hp h1 h2 fun nm ws H2 s2 hn hl=>q nm ws H2 (s.trans s2) hn hl
theorem ZG {c m:Int} (h1:0≤m) (h2:m≤6) (q:∀ nm ws H',Same H H'→NamesAt H' nm ws→(ws.length:Int)=m→Q (.ref nm) H') :
  vf K t { nx:=fun _ H'=>Q .non H',rt:=Q } (L2.start ["cell","many","size","signs","stem","k","at","turn"] [.int c,.int m]) H:=by
 simp only [vf,zk,L2.start,zq,zN,zo,zv,zA,tOp,zc,tC,zb,zi,xI,zE,zr,tCB,tSl,xK,yW,zn,yS,qq,wU,ZW,wF,YT,rEq,rI,rI0,q9,jM,kP,yV,List.map,List.replicate,List.length,List.append,List.cons_append,List.nil_append,List.append_nil,List.getElem?_cons_zero,List.getElem?_cons_succ,Option.some.injEq,exists_eq_left',exists_eq_left,V.int.injEq,V.ref.injEq,V.str.injEq,V.bl.injEq,V.ty.injEq,List.cons.injEq,and_true,true_and,and_assoc,exists_and_left,List.set_cons_zero,List.set_cons_succ,Nat.reduceSub,Nat.reduceAdd,decide_eq_true_eq,Bool.not_eq_true',decide_eq_false_iff_not,Int.reduceToNat,Int.reducePow,Int.reduceNeg,Int.reduceMul,Int.reduceAdd,if_true,ite_true,Bool.false_eq_true,ite_false,if_false]
 refine ⟨by decide,by decide,fun r1 H1 a1 b1 s1'=>⟨by decide,?_⟩⟩
 obtain ⟨k,ek⟩:∃ k:Nat,1 + r1 % 6=k:=⟨(1 + r1 % 6).toNat,by omega⟩
 rw [ek]
 have lc:(Str.ofString "zyxwvtsrqpnmlkjhgfdcb").length=21:=by decide +kernel
 have lz:(Str.ofString "zyxwvutsrqponmlkjihgfedcba").length=26:=by decide +kernel
 refine xB (fun e=>?_) fun e=>?_
 ·have e5:(k:Int)=6:=by simpa using e
  have e6:k=6:=by omega
  exact V3 (P:=inL) (sg:="zyxwvutsrqponmlkjihgfedcba") ⟨List.all_eq_true.mpr zca,by rw [lz];omega,by rw [lz];omega,by omega,by omega,fun x hx hp=>V1 (by omega) (by omega) (.inl ⟨by omega,hp⟩)⟩ h1 h2 fun nm ws H2 s2 hn hl=>q nm ws H2 (s1'.trans s2) hn hl
 ·exact V3 (P:=inC) (sg:="zyxwvtsrqpnmlkjhgfdcb") ⟨List.all_eq_true.mpr zb9,by rw [lc];omega,by rw [lc];omega,by omega,by omega,fun x hx hp=>V1 (by omega) (by omega) (.inr hp)⟩ h1 h2 fun nm ws H2 s2 hn hl=>q nm ws H2 (s1'.trans s2) hn hl
theorem za3 {H:Hp} {R:Addr} {xs ys:List V} (h:H R=some (.lst xs)):qo H (upd H R (.lst ys)):=fun b zs e=>by
 rw [zl (yI e h (fun z=>nomatch z))];exact e
theorem ZH {w:Str} {a:Addr} {tab:List Row} (h1:LsAt H a tab) (q:∀ r o l H',Same H H'→H l=none→H' r=some (.tup [o,.ref l])→vX H' o (.off w)→LsAt H' l tab→Q (.ref r) H') :
  vj K t { nx:=fun _ H'=>Q .non H',rt:=Q } (L2.start ["why","table"] [.str w,.ref a]) H:=by
 simp only [vj,L2.start,XR,zv,zc,tC,z0,zb,zi,tCB,List.map,List.replicate,List.length,List.append,List.cons_append,List.nil_append,List.append_nil,List.getElem?_cons_zero,List.getElem?_cons_succ,Option.some.injEq,exists_eq_left',exists_eq_left,V.int.injEq,V.ref.injEq,V.str.injEq,V.bl.injEq,V.ty.injEq,List.cons.injEq,and_true,true_and,and_assoc,exists_and_left,List.set_cons_zero,List.set_cons_succ,Nat.reduceSub,Nat.reduceAdd,decide_eq_true_eq,Bool.not_eq_true',decide_eq_false_iff_not,Int.reduceToNat,Int.reducePow,Int.reduceNeg,Int.reduceMul,Int.reduceAdd,if_true,ite_true,Bool.false_eq_true,ite_false,if_false]
 obtain ⟨xs,hx,rx⟩:=h1
 refine ⟨by decide,fun o ho=>?_⟩
 have s1:=isV (o:=HO.tup [V.str (Str.ofString "off"),V.str w]) o ho
 refine ⟨xs,.inl (SqL.of (s1 _ _ hx)),fun l hl=>⟨by decide,fun r hr=>?_⟩⟩
 have s2:=isV (o:=HO.lst xs) l hl
 have s3:=isV (o:=HO.tup [V.ref o,V.ref l]) r hr
 have S:=s1.trans (s2.trans s3)
 exact q r (.ref o) l _ S (z5 s1 hl) zf ⟨o,rfl,s3 _ _ (s2 _ _ zf)⟩ ⟨xs,s3 _ _ zf,vE S rx⟩
theorem Xj {a:Addr} {rows:List Row} (h1:LsAt H a rows) (h2:(dOf rows).length≤900) (h3:rows.length≤1000) (q:∀ l out H',Same H H'→H l=none→LsAt H' l out→wI rows out→Q (.ref l) H') :
  va K t { nx:=fun _ H'=>Q .non H',rt:=Q } (L2.start ["rows","worths"] [.ref a]) H:=by
 obtain ⟨xs,hx,rx⟩:=h1
 exact Z3 hx rx h2 h3 fun l ys out H' s fr hy ry ti=>q l out H' s fr ⟨ys,hy,ry⟩ ti
theorem ZI {v:V} {a x dx sl wo sa:Addr} {rws:Rws} {tab:List Row} {H0:Hp} {s:Sta} {b:Bool} (F:DoF K t) (h2:LsAt H0 a tab) (h3:Wg rws tab) (sm:Same H0 H)
  (hb:(b=true∧yw rws ⟨[],tab,[]⟩=.go s∧DoAt t H0 H x dx sl wo sa s)∨(b=false∧yw rws ⟨[],tab,[]⟩=.off))
  (q:∀ r o l oc out H',Same H0 H'→H0 l=none→H' r=some (.tup [o,.ref l])→vX H' o oc→LsAt H' l out→wK rws tab oc out→Q (.ref r) H') :
  j6 K t { nx:=fun _ H'=>Q .non H',rt:=Q } [some v,some (.ref a),some (.ref x),some (.bl b)] H:=by
 simp only [j6,yy,jj,qt,v5,wJ,X9,L2.start,zq,zv,zA,zc,tC,z0,zb,zi,zE,wE,tB,tCB,zn,List.map,List.replicate,List.length,List.append,List.cons_append,List.nil_append,List.append_nil,List.getElem?_cons_zero,List.getElem?_cons_succ,Option.some.injEq,exists_eq_left',exists_eq_left,V.int.injEq,V.ref.injEq,V.str.injEq,V.bl.injEq,V.ty.injEq,List.cons.injEq,and_true,true_and,and_assoc,exists_and_left,List.set_cons_zero,List.set_cons_succ,Nat.reduceSub,Nat.reduceAdd,decide_eq_true_eq,Bool.not_eq_true',decide_eq_false_iff_not,Int.reduceToNat,Int.reducePow,Int.reduceNeg,Int.reduceMul,Int.reduceAdd,if_true,ite_true,Bool.false_eq_true,ite_false,if_false]
 rcases hb with ⟨rfl,hg,D⟩ | ⟨rfl,hg⟩
 ·rw [if_neg (by decide)]
  refine ⟨_,_,_,D.ix,F.cl,F.n3,_,rfl,_,rfl,_,.inl ⟨SqL.of D.ha,fun y hy=>⟨by decide,fun o ho=>?_⟩⟩⟩
  have s1:=isV (o:=HO.tup (s.sa.map V.int)) y hy
  have s2:=isV (o:=HO.tup [V.str (Str.ofString "done"),V.ref y]) o ho
  have y2:=s2 _ _ (show upd H y (HO.tup (s.sa.map V.int)) y=some (.tup (s.sa.map V.int)) from zf)
  have o2:upd (upd H y (HO.tup (s.sa.map V.int))) o (HO.tup [V.str (Str.ofString "done"),V.ref y]) o=some (.tup [V.str (Str.ofString "done"),V.ref y]):=zf
  have D2:=D.same (s1.trans s2)
  have S2:=sm.trans (s1.trans s2)
  generalize upd (upd H y (HO.tup (s.sa.map V.int))) o (HO.tup [V.str (Str.ofString "done"),V.ref y])=H2 at *
  refine ⟨_,_,_,D2.ix,F.cl,F.n2,_,rfl,_,rfl,_,D2.hw,fun r hr=>?_⟩
  have s3:=isV (o:=jN r wo) r hr
  have ok:=jF rws (n:=tab.length) ⟨(fun k v e=>by rw [qR] at e;cases e),h3.iw,Nat.zero_le _,Nat.le_refl _,Nat.zero_le _⟩ h3.ok hg
  have few:=h3.fw s hg
  obtain ⟨its,ei,nd,mi⟩:=KH s.wo
  have li:its.length=(dOf s.wo).length:=by rw [ei,List.length_map]
  have ld:=wx its
  refine ⟨wo,zf,_,s3 _ _ D2.hw,by omega,fun l ys H4 s4 fl hl pr=>?_⟩
  rw [ei] at pr
  have S4:=S2.trans (s3.trans s4)
  refine ⟨its,⟨ys,hl,KI pr⟩,by omega,by omega,fun l2 out H5 s5 fl2 la ti=>⟨by decide,fun rr hrr=>?_⟩⟩
  have s6:=isV (o:=HO.tup [V.ref o,V.ref l2]) rr hrr
  have k6:=s3.trans (s4.trans (s5.trans s6))
  exact q rr (.ref o) l2 (.done s.sa) out _ (S4.trans (s5.trans s6)) (z5 S4 fl2) zf ⟨o,y,rfl,k6 _ _ o2,k6 _ _ y2⟩ (la.same s6) (by unfold wK;rw [hg];exact ⟨rfl,QW nd mi ti⟩)
 ·rw [if_pos rfl]
  exact ⟨tab,h2.same sm,fun r o l H' s' fl hr oa la=>q r o l (.off "told") tab H' (sm.trans s') (z5 sm fl) hr oa la (by unfold wK;rw [hg];exact ⟨rfl,rfl⟩)⟩
theorem Vb {P:Str→Option Value} {v:V} {a x dx sl wo sa:Addr} {rws:Rws} {tab:List Row} {H0:Hp} (T:Txt K P t) (D:DoAt t H0 H x dx sl wo sa ⟨[],tab,[]⟩) (h1:RlAt jW H0 v rws) (h2:LsAt H0 a tab) (h3:Wg rws tab)
  (q:∀ r o l oc out H',Same H0 H'→H0 l=none→H' r=some (.tup [o,.ref l])→vX H' o oc→LsAt H' l out→wK rws tab oc out→Q (.ref r) H') :
  j7 K t { nx:=fun _ H'=>Q .non H',rt:=Q } [some v,some (.ref a),some (.ref x),none] H:=by
 have F:=doF T
 obtain ⟨ra,xs,rfl,_,ha,hx⟩:=h1
 simp only [j7,zW,yy,qt,v5,Xb,Xc,wJ,X9,L2.start,Vy,zq,zv,zA,zc,tC,z0,zb,zi,zE,wE,tB,tCB,zn,List.map,List.replicate,List.length,List.append,List.cons_append,List.nil_append,List.append_nil,List.getElem?_cons_zero,List.getElem?_cons_succ,Option.some.injEq,exists_eq_left',exists_eq_left,V.int.injEq,V.ref.injEq,V.str.injEq,V.bl.injEq,V.ty.injEq,List.cons.injEq,and_true,true_and,and_assoc,exists_and_left,List.set_cons_zero,List.set_cons_succ,Nat.reduceSub,Nat.reduceAdd,decide_eq_true_eq,Bool.not_eq_true',decide_eq_false_iff_not,Int.reduceToNat,Int.reducePow,Int.reduceNeg,Int.reduceMul,Int.reduceAdd,if_true,ite_true,Bool.false_eq_true,ite_false,if_false]
 refine ⟨dx,_,D.ix,rfl,xs,rws,tab.length,H0,dx,sl,wo,sa,⟨[],tab,[]⟩,D,ha,hx,h3.ok,h3.dp,⟨(fun k v e=>by rw [qR] at e;cases e),h3.iw,Nat.zero_le _,Nat.le_refl _,Nat.zero_le _⟩,by have:=h3.ln;omega,fun H' s' g D'=>ZI F h2 h3 D'.sm (.inl ⟨rfl,g,D'⟩) q,fun H' g sm=>ZI (s:=⟨[],[],[]⟩) (dx:=dx) (sl:=sl) (wo:=wo) (sa:=sa) F h2 h3 sm (.inr ⟨rfl,g⟩) q,fun H' e g sm=>?_⟩
 cases e with
 | nought=>exact ⟨t.c_Nought,rfl,.inr ⟨T.e_Nought_Great,T.e_Nought_Nought,tab,h2.same sm,fun r o l H'' s hl hr oa la=>q r o l (.off "nought") tab H'' (sm.trans s) (z5 sm hl) hr oa la (by unfold wK;rw [g];exact ⟨rfl,rfl⟩)⟩⟩
 | great=>exact ⟨t.c_Great,rfl,.inl ⟨T.e_Great_Great,tab,h2.same sm,fun r o l H'' s hl hr oa la=>q r o l (.off "great") tab H'' (sm.trans s) (z5 sm hl) hr oa la (by unfold wK;rw [g];exact ⟨rfl,rfl⟩)⟩⟩
 | stuck=>trivial
theorem Jw {P:Str→Option Value} {v:V} {a:Addr} {rws:Rws} {tab:List Row} (T:Txt K P t) (h1:RlAt jW H v rws) (h2:LsAt H a tab) (h3:Wg rws tab)
  (q:∀ r o l oc out H',Same H H'→H l=none→H' r=some (.tup [o,.ref l])→vX H' o oc→LsAt H' l out→wK rws tab oc out→Q (.ref r) H') :
  Zy K t { nx:=fun _ H'=>Q .non H',rt:=Q } (L2.start ["rows","table","doing","came_through"] [v,.ref a]) H:=by
 simp only [Zy,vc,qt,v5,Xb,JQ,Xc,wJ,X9,L2.start,Vy,zq,zN,zo,zv,zA,zc,tC,z0,zb,zi,zE,wE,tB,tCB,zn,List.map,List.replicate,List.length,List.append,List.cons_append,List.nil_append,List.append_nil,List.getElem?_cons_zero,List.getElem?_cons_succ,Option.some.injEq,exists_eq_left',exists_eq_left,V.int.injEq,V.ref.injEq,V.str.injEq,V.bl.injEq,V.ty.injEq,List.cons.injEq,and_true,true_and,and_assoc,exists_and_left,List.set_cons_zero,List.set_cons_succ,Nat.reduceSub,Nat.reduceAdd,decide_eq_true_eq,Bool.not_eq_true',decide_eq_false_iff_not,Int.reduceToNat,Int.reducePow,Int.reduceNeg,Int.reduceMul,Int.reduceAdd,if_true,ite_true,Bool.false_eq_true,ite_false,if_false]
 intro x dx hx hd n
 have s1:=isV (o:=HO.own x) dx hd
 have hx1:upd H dx (HO.own x) x=none:=by rw [zl (Ne.symm n)];exact hx
 have s2:=isV (o:=HO.ins t.c_Doing dx []) x hx1
 have ln:=h3.ln
 exact ⟨tab,H,s1.trans s2,hx,dx,zf,h2,by omega,fun H' sl wo sa D=>Vb T D h1 h2 h3 q⟩
theorem V4:∀ (kvs:List (List Key × V)),(∀ kv∈kvs,∃ (p:Pl) (w:Int),kv=(zI p,.int w))→∃ its:List Row,kvs=its.map fun q=>(zI q.1,V.int q.2)
 | [],_=>⟨[],rfl⟩
 | kv :: t,h=>by
  obtain ⟨p,w,e⟩:=h kv List.mem_cons_self
  obtain ⟨its,e2⟩:=V4 t fun x hx=>h x (List.mem_cons_of_mem _ hx)
  exact ⟨(p,w) :: its,by rw [List.map_cons,e,← e2]⟩
def TSm (H H':Hp):Prop:=∀ b ys,H b=some (.tup ys)→H' b=some (.tup ys)
theorem za4 {i:Int} (h:inW i=true):xM (.int i)∧isJ (.int i)=false∧plV (.int i):=⟨.inl ⟨i,rfl,h⟩,rfl,.inl ⟨i,rfl⟩⟩
theorem za5 {x:Str} (hx:ye x=true):xM (.str x)∧isJ (.str x)=false∧plV (.str x):=by
 have:=kt hx
 exact ⟨.inr ⟨x,rfl,by omega⟩,this.2.2.1,.inr ⟨x,rfl,jI hx⟩⟩
theorem NamesAt.same {H H':Hp} {nm:Addr} {ws:List Str} (h:NamesAt H nm ws) (s:Same H H'):NamesAt H' nm ws:=⟨s _ _ h.1,h.2⟩
theorem jr {nm:Addr} {ws:List Str} (h:NamesAt H nm ws) (n:Nat) (hl:ws.length=n) (hn:0 < (n:Int)) (e:Int):∃ x,atI (ws.map V.str) (e % n)=some (.str x)∧x∈ws∧ye x=true:=by
 obtain ⟨v,hv,hm⟩:=W9 e n (xs:=ws.map V.str) (by rw [List.length_map,hl]) hn
 obtain ⟨x,hx,rfl⟩:=List.mem_map.mp hm
 exact ⟨x,hv,hx,h.2 x hx⟩
theorem smI.inW {i:Int} (h:smI i):inW i=true:=inW_iff.mpr ⟨by have:=h.1;omega,by have:=h.2;omega⟩
theorem lfB.ok {v:V} (h:lfB v):xM v∧isJ v=false∧plV v:=by
 rcases h with ⟨i,rfl,hi⟩ | ⟨x,rfl,hx⟩
 ·exact za4 hi.inW
 ·exact za5 hx
theorem K4 {a b:Int} (hb:b≠0):(a.fdiv b).natAbs≤a.natAbs:=by
 by_cases h0:b < 0
 ·rw [← Int.neg_fdiv_neg,Int.fdiv_eq_ediv_of_nonneg _ (by omega)]
  exact Nat.le_trans (Int.natAbs_ediv_le_natAbs _ _) (by omega)
 ·rw [Int.fdiv_eq_ediv_of_nonneg _ (by omega)]
  exact Int.natAbs_ediv_le_natAbs _ _
theorem Jx (a b:Int):yd (Str.ofString "plus") a b=a + b:=rfl
theorem ZJ (a b:Int):yd (Str.ofString "minus") a b=a - b:=by unfold yd;rw [if_neg (by decide +kernel),if_pos rfl]
theorem ZK (a b:Int):yd (Str.ofString "times") a b=a * b:=by unfold yd;rw [if_neg (by decide +kernel),if_neg (by decide +kernel),if_pos rfl]
theorem ZL (a b:Int):yd (Str.ofString "under") a b=if a < b then 1 else 0:=by unfold yd;rw [if_neg (by decide +kernel),if_neg (by decide +kernel),if_neg (by decide +kernel),if_pos rfl]
theorem YK (a b:Int):yd (Str.ofString "same") a b=if a=b then 1 else 0:=by unfold yd;rw [if_neg (by decide +kernel),if_neg (by decide +kernel),if_neg (by decide +kernel),if_neg (by decide +kernel),if_pos rfl]
theorem YL (a b:Int):yd (Str.ofString "over") a b=a.fdiv b:=by unfold yd;rw [if_neg (by decide +kernel),if_neg (by decide +kernel),if_neg (by decide +kernel),if_neg (by decide +kernel),if_neg (by decide +kernel),if_pos rfl]
theorem YM (a b:Int):yd (Str.ofString "rest") a b=a.fmod b:=by unfold yd;rw [if_neg (by decide +kernel),if_neg (by decide +kernel),if_neg (by decide +kernel),if_neg (by decide +kernel),if_neg (by decide +kernel),if_neg (by decide +kernel)]
theorem V5 {kvs:List (Key × V)} {B:Int} {u:V} (h:lfB u) (sb:SlB B kvs) (b:Wh B):-B≤vA kvs u∧vA kvs u≤B:=by
 have:=b.lo
 rcases h with ⟨i,rfl,hi⟩ | ⟨x,rfl,hx⟩
 ·have h1:=hi.1
  have h2:=hi.2
  show -B≤i∧i≤B
  omega
 ·show -B≤(match yf kvs (.inr x) with | some (.int i)=>i | _=>0)∧(match yf kvs (.inr x) with | some (.int i)=>i | _=>0)≤B
  cases e:yf kvs (.inr x) with
  | none=>show -B≤(0:Int)∧(0:Int)≤B;omega
  | some v =>
   obtain ⟨i,rfl,h1,h2⟩:=sb _ _ e
   exact ⟨h1,h2⟩
theorem K6 {w:Str} {v:V} {B a:Int} {kvs:List (Key × V)} (h:wdB w v) (lv:lfB v) (sb:SlB B kvs) (b:Wh B) (ha:-B≤a∧a≤B):VY w a (vA kvs v)∧-(2 * B)≤yd w a (vA kvs v)∧yd w a (vA kvs v)≤2 * B:=by
 have hb:=V5 lv sb b
 have lo:=b.lo
 have hi:=b.hi
 have ia:inW a=true:=inW_iff.mpr ⟨by omega,by omega⟩
 have ib:inW (vA kvs v)=true:=inW_iff.mpr ⟨by omega,by omega⟩
 rcases h with ⟨rfl,k,rfl,k1,k2⟩ | ⟨hw,k,rfl,k0,k1,k2⟩ | rfl | rfl | rfl | rfl
 ·rw [ZK]
  refine ⟨⟨by decide +kernel,fun z=>absurd z.2.2.1 (by decide +kernel),ia,ib⟩,?_⟩
  show -(2 * B)≤a * k∧a * k≤2 * B
  have:k=-2∨k=-1∨k=0∨k=1∨k=2:=by omega
  rcases this with rfl | rfl | rfl | rfl | rfl <;> omega
 ·have d:=K4 (a:=a) k0
  have e:=Int.mul_fdiv_add_fmod a k
  rcases hw with rfl | rfl
  ·rw [YL]
   refine ⟨⟨by decide +kernel,fun _=>k0,ia,ib⟩,?_⟩
   show -(2 * B)≤a.fdiv k∧a.fdiv k≤2 * B
   omega
  ·rw [YM]
   refine ⟨⟨by decide +kernel,fun _=>k0,ia,ib⟩,?_⟩
   show -(2 * B)≤a.fmod k∧a.fmod k≤2 * B
   by_cases c:k < 0
   ·have h0:=Int.neg_fmod_neg a k
    have h1:=Int.fmod_nonneg_of_pos (-a) (b:=-k) (by omega)
    have h2:=Int.fmod_lt_of_pos (-a) (b:=-k) (by omega)
    omega
   ·have h1:=Int.fmod_nonneg_of_pos a (b:=k) (by omega)
    have h2:=Int.fmod_lt_of_pos a (b:=k) (by omega)
    omega
 ·rw [Jx]
  exact ⟨⟨by decide +kernel,fun z=>absurd rfl z.1,ia,ib⟩,by omega,by omega⟩
 ·rw [ZJ]
  exact ⟨⟨by decide +kernel,fun z=>absurd rfl z.2.1,ia,ib⟩,by omega,by omega⟩
 ·rw [ZL]
  refine ⟨⟨by decide +kernel,fun z=>absurd rfl z.2.2.2.1,ia,ib⟩,?_⟩
  split <;> omega
 ·rw [YK]
  refine ⟨⟨by decide +kernel,fun z=>absurd rfl z.2.2.2.2,ia,ib⟩,?_⟩
  split <;> omega
theorem Wt {w:Str} {a b B:Int} (h:VY w a b) (bo:Wh B) (l:-(2 * B)≤yd w a b) (u:yd w a b≤2 * B):xC w a b=.ok (yd w a b):=by
 have hi:=bo.hi
 unfold xC
 rw [if_neg (fun z=>h.2.1 z.1 z.2),if_pos (inW_iff.mpr ⟨by omega,by omega⟩)]
theorem za6 {w:Str} {v:V} (h:wdB w v):isJ (.str w)=true∧w.length≤1000∧PyData.strOk w=true:=by
 rcases h with ⟨rfl,_⟩ | ⟨rfl | rfl,_⟩ | rfl | rfl | rfl | rfl <;> exact ⟨by decide +kernel,by decide +kernel,by decide +kernel⟩
theorem Vc {kvs:List (Key × V)} {u:V} (h:isJ u=false):rk kvs [u]=.ok (vA kvs u):=(wA h).rk
theorem K7 {kvs:List (Key × V)} {u v:V} {w:Str} (h:isJ u=false) (h2:isJ v=false) (hw:isJ (.str w)=true):rk kvs [u,v,.str w]=xC w (vA kvs u) (vA kvs v):=(Ys hw (wA h) (wA h2)).rk
theorem za7 {e:List V} {kvs:List (Key × V)} {B:Int} (h:TmB e) (sb:SlB B kvs) (b:Wh B):∃ i,rk kvs e=.ok i∧-(2 * B)≤i∧i≤2 * B:=by
 have lo:=b.lo
 rcases h with ⟨u,rfl,hu⟩ | ⟨u,v,w,rfl,hu,hv,hw⟩
 ·have:=V5 hu sb b
  exact ⟨_,Vc hu.ok.2.1,by omega,by omega⟩
 ·obtain ⟨t1,t2,t3⟩:=K6 hw hv sb b (V5 hu sb b)
  exact ⟨_,by rw [K7 hu.ok.2.1 hv.ok.2.1 (za6 hw).1,Wt t1 b t2 t3],t2,t3⟩
theorem TmB.ok {e:List V} (h:TmB e):TermOk e∧tmP e:=by
 rcases h with ⟨u,rfl,hu⟩ | ⟨u,v,w,rfl,hu,hv,hw⟩
 ·exact ⟨KP hu.ok.1 hu.ok.2.1,fun z hz=>by rw [List.mem_singleton.mp hz];exact hu.ok.2.2⟩
 ·obtain ⟨j1,j2,j3⟩:=za6 hw
  refine ⟨KQ hu.ok.1 hu.ok.2.1 hv.ok.1 hv.ok.2.1 j1 j2,fun z hz=>?_⟩
  simp only [List.mem_cons,List.not_mem_nil,or_false] at hz
  rcases hz with rfl | rfl | rfl
  ·exact hu.ok.2.2
  ·exact hv.ok.2.2
  ·exact .inr ⟨w,rfl,j3⟩
theorem RwB.ok {r:Rw} (h:RwB r):jX r∧jK r∧Zw r∧zb8 r:=by
 cases r with
 | take sh e x=>exact ⟨h.2.2.ok.1,⟨jI h.1,h.2.2.ok.2,jI h.2.1⟩,trivial,trivial⟩
 | give sh e f=>exact ⟨⟨h.2.1.ok.1,h.2.2.ok.1⟩,⟨jI h.1,h.2.1.ok.2,h.2.2.ok.2⟩,trivial,trivial⟩
 | lt x e=>exact ⟨h.2.ok.1,⟨jI h.1,h.2.ok.2⟩,trivial,trivial⟩
 | say e=>exact ⟨TmB.ok h |>.1,TmB.ok h |>.2,trivial,trivial⟩
 | off e=>exact h.elim
 | iff e a b=>exact h.elim
theorem Vd {k:Nat} (h:k≤40):Wh (Bdk k):=by
 have h1:(2:Nat) ^ k≤2 ^ 40:=Nat.pow_le_pow_right (by decide) h
 have h2:1≤(2:Nat) ^ k:=Nat.one_le_two_pow
 have e:Bdk k=100000000000000000 * ((2 ^ k:Nat):Int):=by unfold Bdk;rw [Int.natCast_pow];rfl
 have h4:(2:Nat) ^ 40=1099511627776:=by decide +kernel
 have h3:((2 ^ k:Nat):Int)≤1099511627776:=by omega
 rw [e]
 exact ⟨by omega,by omega⟩
theorem Xk (k:Nat):Bdk (k + 1)=2 * Bdk k:=by unfold Bdk;rw [Int.pow_succ];omega
theorem SlB.mono {B B':Int} {kvs:List (Key × V)} (h:SlB B kvs) (l:B≤B'):SlB B' kvs:=fun k v e=>by
 obtain ⟨i,rfl,h1,h2⟩:=h k v e
 exact ⟨i,rfl,by omega,by omega⟩
theorem SlB.put {B:Int} {kvs:List (Key × V)} (h:SlB B kvs) (k:Key) {i:Int} (h1:-B≤i) (h2:i≤B):SlB B (yA kvs k (.int i)):=fun k' v e=>by
 rw [qS] at e
 by_cases c:k'=k
 ·rw [if_pos c] at e;exact ⟨i,(Option.some.inj e).symm,h1,h2⟩
 ·rw [if_neg c] at e;exact h k' v e
theorem Jy {c j kd:Int} {a:Addr} {ws:List Str} {u:V} {o:Option V} {Hb:Hp} (h1:0≤j) (h2:j≤700) (h3:NamesAt H a ws) (h4:ws.length=3) (k1:5≤kd) (k2:kd≤9) (hu:lfB u) (sb:Same Hb H) (q:∀ p e H',Same Hb H'→Hb p=none→H' p=some (.tup e)→TmB e→Q (.ref p) H') :
  wQ K t { nx:=fun _ H'=>Q .non H',rt:=Q } [some (.int c),some (.int j),some (.ref a),some (.int kd),some u,o,none] H:=by
 simp only [wQ,zk,y8,L2.start,zq,zN,zo,zv,tOp,zc,tC,wG,z0,zb,zi,zn,yD,rI,rI0,List.map,List.replicate,List.length,List.append,List.cons_append,List.nil_append,List.append_nil,List.getElem?_cons_zero,List.getElem?_cons_succ,Option.some.injEq,exists_eq_left',exists_eq_left,V.int.injEq,V.ref.injEq,V.str.injEq,V.bl.injEq,V.ty.injEq,List.cons.injEq,and_true,true_and,and_assoc,exists_and_left,List.set_cons_zero,List.set_cons_succ,Nat.reduceSub,Nat.reduceAdd,decide_eq_true_eq,Bool.not_eq_true',decide_eq_false_iff_not,Int.reduceToNat,Int.reducePow,Int.reduceNeg,Int.reduceMul,Int.reduceAdd,if_true,ite_true,Bool.false_eq_true,ite_false,if_false]
 refine ⟨by decide,fun l hl=>?_⟩
 obtain ⟨H1,eH,s1,q1⟩:=qC (o:=HO.lst [V.str (Str.ofString "plus"),V.str (Str.ofString "minus"),V.str (Str.ofString "under"),V.str (Str.ofString "same"),V.str (Str.ofString "plus"),V.str (Str.ofString "minus")]) hl
 rw [← eH]
 clear eH
 refine ⟨by omega,by omega,ws,h3.same s1,h4,fun v H2 hv s2=>⟨by omega,by omega,fun r H3 a3 b3 s3=>⟨by decide,?_⟩⟩⟩
 obtain ⟨y,hy,hm⟩:=VZ (xs:=[V.str (Str.ofString "plus"),V.str (Str.ofString "minus"),V.str (Str.ofString "under"),V.str (Str.ofString "same"),V.str (Str.ofString "plus"),V.str (Str.ofString "minus")]) (i:=kd - 5 + r % 2) (by omega) (by show kd - 5 + r % 2 < (6:Int);omega)
 obtain ⟨w,rfl,hw⟩:∃ w:Str,y=.str w∧wdB w v:=by
  simp only [List.mem_cons,List.not_mem_nil,or_false] at hm
  rcases hm with rfl | rfl | rfl | rfl | rfl | rfl
  ·exact ⟨_,rfl,.inr (.inr (.inl rfl))⟩
  ·exact ⟨_,rfl,.inr (.inr (.inr (.inl rfl)))⟩
  ·exact ⟨_,rfl,.inr (.inr (.inr (.inr (.inl rfl))))⟩
  ·exact ⟨_,rfl,.inr (.inr (.inr (.inr (.inr rfl))))⟩
  ·exact ⟨_,rfl,.inr (.inr (.inl rfl))⟩
  ·exact ⟨_,rfl,.inr (.inr (.inr (.inl rfl)))⟩
 refine ⟨_,SqL.of ((s2.trans s3) _ _ q1),_,hy,by decide,fun p hp=>?_⟩
 have S:=sb.trans (s1.trans (s2.trans s3))
 exact q p _ _ (S.trans (isV p hp)) (z5 S hp) zf (.inr ⟨u,v,w,rfl,hu,hv,hw⟩)
theorem Jz {c j kd:Int} {a:Addr} {ws:List Str} {u:V} {Hb:Hp} (h1:0≤j) (h2:j≤700) (h3:NamesAt H a ws) (h4:ws.length=3) (k1:4≤kd) (k2:kd≤9) (hu:lfB u) (sb:Same Hb H) (q:∀ p e H',Same Hb H'→Hb p=none→H' p=some (.tup e)→TmB e→Q (.ref p) H') :
  wR K t { nx:=fun _ H'=>Q .non H',rt:=Q } [some (.int c),some (.int j),some (.ref a),some (.int kd),some u,none,none] H:=by
 simp only [wR,zk,y8,L2.start,zq,zN,zo,zv,zA,tOp,tUn,zc,tC,wG,z0,zb,zi,zE,zr,zn,yD,rEq,rI,rI0,rU,yV,List.map,List.replicate,List.length,List.append,List.cons_append,List.nil_append,List.append_nil,List.getElem?_cons_zero,List.getElem?_cons_succ,Option.some.injEq,exists_eq_left',exists_eq_left,V.int.injEq,V.ref.injEq,V.str.injEq,V.bl.injEq,V.ty.injEq,List.cons.injEq,and_true,true_and,and_assoc,exists_and_left,List.set_cons_zero,List.set_cons_succ,Nat.reduceSub,Nat.reduceAdd,decide_eq_true_eq,Bool.not_eq_true',decide_eq_false_iff_not,Int.reduceToNat,Int.reducePow,Int.reduceNeg,Int.reduceMul,Int.reduceAdd,if_true,ite_true,Bool.false_eq_true,ite_false,if_false]
 have P9:=Wl (j:=9) (by decide) (by decide)
 refine xB (fun _=>⟨P9,by decide,fun l hl=>?_⟩) fun e=>Jy h1 h2 h3 h4 (by have:kd≠4:=fun z=>e (by rw [z]);omega) k2 hu sb q
 obtain ⟨H1,eH,s1,q1⟩:=qC (o:=HO.lst [V.int 1,V.int (-1),V.int 7,V.int (-3),V.int 1000000007]) hl
 rw [← eH]
 clear eH
 refine ⟨by omega,by omega,fun r H2 a2 b2 s2=>⟨by decide,?_⟩⟩
 obtain ⟨y,hy,hm⟩:=W9 r 5 (xs:=[V.int 1,V.int (-1),V.int 7,V.int (-3),V.int 1000000007]) rfl (by decide)
 obtain ⟨k,rfl,k0,k1',k2'⟩:∃ k:Int,y=.int k∧k≠0∧-1000000007≤k∧k≤1000000007:=by
  simp only [List.mem_cons,List.not_mem_nil,or_false] at hm
  rcases hm with rfl | rfl | rfl | rfl | rfl <;> exact ⟨_,rfl,by decide,by decide,by decide⟩
 refine ⟨_,SqL.of (s2 _ _ q1),_,hy,by decide,fun l2 hl2=>?_⟩
 obtain ⟨H3,eH,s3,q3⟩:=qC (o:=HO.lst [V.str (Str.ofString "over"),V.str (Str.ofString "rest")]) hl2
 rw [← eH]
 clear eH
 refine ⟨by omega,by omega,fun r2 H4 a4 b4 s4=>⟨by decide,?_⟩⟩
 obtain ⟨y,hy,hm⟩:=W9 r2 2 (xs:=[V.str (Str.ofString "over"),V.str (Str.ofString "rest")]) rfl (by decide)
 obtain ⟨w,rfl,hw⟩:∃ w:Str,y=.str w∧wdB w (.int k):=by
  simp only [List.mem_cons,List.not_mem_nil,or_false] at hm
  rcases hm with rfl | rfl
  ·exact ⟨_,rfl,.inr (.inl ⟨.inl rfl,k,rfl,k0,k1',k2'⟩)⟩
  ·exact ⟨_,rfl,.inr (.inl ⟨.inr rfl,k,rfl,k0,k1',k2'⟩)⟩
 refine ⟨_,SqL.of (s4 _ _ q3),_,hy,by decide,fun p hp=>?_⟩
 have S:=sb.trans (s1.trans (s2.trans (s3.trans s4)))
 exact q p _ _ (S.trans (isV p hp)) (z5 S hp) zf (.inr ⟨u,.int k,w,rfl,hu,.inl ⟨k,rfl,by omega,by omega⟩,hw⟩)
theorem JA {c j kd:Int} {a:Addr} {ws:List Str} {u:V} {Hb:Hp} (h1:0≤j) (h2:j≤700) (h3:NamesAt H a ws) (h4:ws.length=3) (k1:3≤kd) (k2:kd≤9) (hu:lfB u) (sb:Same Hb H) (q:∀ p e H',Same Hb H'→Hb p=none→H' p=some (.tup e)→TmB e→Q (.ref p) H') :
  wS K t { nx:=fun _ H'=>Q .non H',rt:=Q } [some (.int c),some (.int j),some (.ref a),some (.int kd),some u,none,none] H:=by
 simp only [wS,zk,L2.start,zq,zN,zo,zv,zA,tOp,tUn,zc,tC,wG,z0,zb,zi,zE,zr,zn,yD,rEq,rI,rI0,rU,yV,List.map,List.replicate,List.length,List.append,List.cons_append,List.nil_append,List.append_nil,List.getElem?_cons_zero,List.getElem?_cons_succ,Option.some.injEq,exists_eq_left',exists_eq_left,V.int.injEq,V.ref.injEq,V.str.injEq,V.bl.injEq,V.ty.injEq,List.cons.injEq,and_true,true_and,and_assoc,exists_and_left,List.set_cons_zero,List.set_cons_succ,Nat.reduceSub,Nat.reduceAdd,decide_eq_true_eq,Bool.not_eq_true',decide_eq_false_iff_not,Int.reduceToNat,Int.reducePow,Int.reduceNeg,Int.reduceMul,Int.reduceAdd,if_true,ite_true,Bool.false_eq_true,ite_false,if_false]
 refine xB (fun _=>⟨by omega,by omega,fun r H2 a2 b2 s2=>⟨by decide,by decide,fun p hp=>?_⟩⟩) fun e=>Jz h1 h2 h3 h4 (by have:kd≠3:=fun z=>e (by rw [z]);omega) k2 hu sb q
 have S:=sb.trans s2
 exact q p _ _ (S.trans (isV p hp)) (z5 S hp) zf (.inr ⟨u,.int (r % 5 - 2),_,rfl,hu,.inl ⟨_,rfl,by omega,by omega⟩,.inl ⟨rfl,_,rfl,by omega,by omega⟩⟩)
theorem Z5 {c j:Int} {a:Addr} {ws:List Str} (h1:0≤j) (h2:j≤700) (h3:NamesAt H a ws) (h4:ws.length=3) (q:∀ p e H',Same H H'→H p=none→H' p=some (.tup e)→TmB e→Q (.ref p) H') :
  vR K t { nx:=fun _ H'=>Q .non H',rt:=Q } (L2.start ["cell","j","slots","kind","one","other","words"] [.int c,.int j,.ref a]) H:=by
 simp only [vR,jp,zk,y8,L2.start,zq,zN,zo,zv,zA,tOp,tUn,zc,tC,wG,z0,zb,zi,zE,zr,zn,yD,rEq,rI,rI0,rU,yV,List.map,List.replicate,List.length,List.append,List.cons_append,List.nil_append,List.append_nil,List.getElem?_cons_zero,List.getElem?_cons_succ,Option.some.injEq,exists_eq_left',exists_eq_left,V.int.injEq,V.ref.injEq,V.str.injEq,V.bl.injEq,V.ty.injEq,List.cons.injEq,and_true,true_and,and_assoc,exists_and_left,List.set_cons_zero,List.set_cons_succ,Nat.reduceSub,Nat.reduceAdd,decide_eq_true_eq,Bool.not_eq_true',decide_eq_false_iff_not,Int.reduceToNat,Int.reducePow,Int.reduceNeg,Int.reduceMul,Int.reduceAdd,if_true,ite_true,Bool.false_eq_true,ite_false,if_false]
 refine ⟨h1,by omega,fun r1 H1 a1 b1 s1=>⟨by decide,by omega,by omega,ws,h3.same s1,h4,fun u H2 hu s2=>xB (fun _=>⟨by decide,fun p hp=>?_⟩) fun e=>?_⟩⟩
 ·have S:=s1.trans s2
  exact q p _ _ (S.trans (isV p hp)) (z5 S hp) zf (.inl ⟨u,rfl,hu⟩)
 ·have S:=s1.trans s2
  have e':¬ r1 % 10 < 3:=fun z=>e z
  exact JA h1 h2 (h3.same S) h4 (by omega) (by omega) hu S q
theorem K8 {a b:Int} (ha:inW a=true) (hb:inW b=true):CMulB a b:=by
 rw [inW_iff] at ha hb
 have hb':(1000000000000000000000000000000000000000000000000000000000000:Int) < big:=by decide +kernel
 exact ⟨by omega,by omega⟩
theorem Q7 {w:Str} (h:isJ (.str w)=true):w=Str.ofString "plus"∨w=Str.ofString "minus"∨w=Str.ofString "times"∨w=Str.ofString "over"∨w=Str.ofString "rest"∨w=Str.ofString "under"∨w=Str.ofString "same":=by
 unfold isJ inV jw at h
 simp only [List.any_cons,List.any_nil,eqV,Bool.or_false,Bool.or_eq_true,decide_eq_true_eq,beq_iff_eq] at h
 rcases h with h | h | h | h | h | h | h
 ·exact .inl h.symm
 ·exact .inr (.inl h.symm)
 ·exact .inr (.inr (.inl h.symm))
 ·exact .inr (.inr (.inr (.inl h.symm)))
 ·exact .inr (.inr (.inr (.inr (.inl h.symm))))
 ·exact .inr (.inr (.inr (.inr (.inr (.inl h.symm)))))
 ·exact .inr (.inr (.inr (.inr (.inr (.inr h.symm)))))
theorem Xl {a b:Int} {w:Str} (h:VY w a b) (q:∀ H',Same H H'→Q (.int (yd w a b)) H') :
  jm K t { nx:=fun _ H'=>Q .non H',rt:=Q } (L2.start ["one","other","word"] [.int a,.int b,.str w]) H:=by
 simp only [jm,L2.start,Zd,zq,zv,zA,tOp,zc,tC,zb,zi,zE,zr,tCB,rEq,rI,rI0,yV,List.map,List.replicate,List.length,List.append,List.cons_append,List.nil_append,List.append_nil,List.getElem?_cons_zero,List.getElem?_cons_succ,Option.some.injEq,exists_eq_left',exists_eq_left,V.int.injEq,V.ref.injEq,V.str.injEq,V.bl.injEq,V.ty.injEq,List.cons.injEq,and_true,true_and,and_assoc,exists_and_left,List.set_cons_zero,List.set_cons_succ,Nat.reduceSub,Nat.reduceAdd,decide_eq_true_eq,Bool.not_eq_true',decide_eq_false_iff_not,Int.reduceToNat,Int.reducePow,Int.reduceNeg,Int.reduceMul,Int.reduceAdd,if_true,ite_true,Bool.false_eq_true,ite_false,if_false]
 have q:=q H fun _ _ e=>e
 obtain ⟨j,d,ia,ib⟩:=h
 have B:=qE ib
 rcases Q7 j with rfl | rfl | rfl | rfl | rfl | rfl | rfl
 ·rw [if_pos rfl];exact q
 ·rw [if_neg (by decide +kernel),if_pos rfl];rw [ZJ] at q;exact q
 ·rw [if_neg (by decide +kernel),if_neg (by decide +kernel),if_pos rfl];rw [ZK] at q;exact ⟨K8 ia ib,q⟩
 ·have nz:=d (by decide +kernel)
  rw [if_neg (by decide +kernel),if_neg (by decide +kernel),if_neg (by decide +kernel),if_pos rfl];rw [YL] at q;exact ⟨⟨nz,B.1,B.2⟩,q⟩
 ·have nz:=d (by decide +kernel)
  rw [if_neg (by decide +kernel),if_neg (by decide +kernel),if_neg (by decide +kernel),if_neg (by decide +kernel),if_pos rfl]
  rw [YM] at q
  have e:a - a.fdiv b * b=a.fmod b:=by
   have:=Int.mul_fdiv_add_fmod a b
   rw [Int.mul_comm] at this
   omega
  rw [e]
  exact ⟨⟨nz,B.1,B.2⟩,K8 (Ke ia nz) ib,q⟩
 ·rw [if_neg (by decide +kernel),if_neg (by decide +kernel),if_neg (by decide +kernel),if_neg (by decide +kernel),if_neg (by decide +kernel),if_pos rfl];rw [ZL] at q;exact q
 ·rw [if_neg (by decide +kernel),if_neg (by decide +kernel),if_neg (by decide +kernel),if_neg (by decide +kernel),if_neg (by decide +kernel),if_neg (by decide +kernel)];rw [YK] at q;exact q
def woI (e2:List V) (kvs:List (Key × V)) (tm sl l:Addr) (H H1:Hp) (i:Nat) (σ:St) (H':Hp):Prop:=(∃ o,σ=[some (.ref tm),some (.ref sl),some (.ref l),o])∧Same H H'∧H' l=some (.lst ((e2.take i).map fun v=>V.int (vA kvs v)))∧TSm H1 H'
theorem ZM {tm sl l:Addr} {e:List V} {kvs:List (Key × V)} {B:Int} {o:Option V} {H0:Hp} (h1:H tm=some (.tup e)) (hl:H l=some (.lst ((e.take 2).map fun v=>V.int (vA kvs v)))) (h3:TmB e) (h4:SlB B kvs) (h5:Wh B) (S:Same H0 H) (q:∀ i H',rk kvs e=.ok i→-(2 * B)≤i→i≤2 * B→Same H0 H'→Q (.int i) H') :
  wq K t { nx:=fun _ H'=>Q .non H',rt:=Q } [some (.ref tm),some (.ref sl),some (.ref l),o] H:=by
 simp only [wq,jl,L2.start,zV,zq,zv,zA,tOp,zc,tC,zb,zi,zE,zr,tCB,zn,ZW,yD,zV,rEq,kP,yV,List.map,List.replicate,List.length,List.append,List.cons_append,List.nil_append,List.append_nil,List.getElem?_cons_zero,List.getElem?_cons_succ,Option.some.injEq,exists_eq_left',exists_eq_left,V.int.injEq,V.ref.injEq,V.str.injEq,V.bl.injEq,V.ty.injEq,List.cons.injEq,and_true,true_and,and_assoc,exists_and_left,List.set_cons_zero,List.set_cons_succ,Nat.reduceSub,Nat.reduceAdd,decide_eq_true_eq,Bool.not_eq_true',decide_eq_false_iff_not,Int.reduceToNat,Int.reducePow,Int.reduceNeg,Int.reduceMul,Int.reduceAdd,if_true,ite_true,Bool.false_eq_true,ite_false,if_false]
 obtain ⟨i,e1,e2,e3⟩:=za7 h3 h4 h5
 rcases h3 with ⟨u,rfl,hu⟩ | ⟨u,v,w,rfl,hu,hv,hw⟩
 ·refine ⟨1,.inr ⟨_,SqT.of h1,rfl⟩,?_⟩
  rw [if_pos (by rfl)]
  rw [Vc hu.ok.2.1] at e1
  cases e1
  exact ⟨_,SqL.of hl,_,rfl,q _ _ (Vc hu.ok.2.1) e2 e3 S⟩
 ·refine ⟨3,.inr ⟨_,SqT.of h1,rfl⟩,?_⟩
  rw [if_neg (by decide)]
  obtain ⟨t1,t2,t3⟩:=K6 hw hv h4 h5 (V5 hu h4 h5)
  exact ⟨_,SqL.of hl,_,rfl,_,SqL.of hl,_,rfl,_,SqT.of h1,_,rfl,_,rfl,_,rfl,_,rfl,t1,fun H2 s2=>q _ _ (by rw [K7 hu.ok.2.1 hv.ok.2.1 (za6 hw).1,Wt t1 h5 t2 t3]) t2 t3 (S.trans s2)⟩
theorem Q8 {D:ZV} {tm sl l:Addr} {x:V} {ys:List V} {kvs:List (Key × V)} {B:Int} (F:KF K) (hx:lfB x) (hs:H sl=some (.dK kvs)) (sb:SlB B kvs) (hl:H l=some (.lst ys)) (ly:ys.length≤2) (q:D.nx [some (.ref tm),some (.ref sl),some (.ref l),some x] (upd H l (.lst (ys ++ [.int (vA kvs x)])))) :
  xh K t D [some (.ref tm),some (.ref sl),some (.ref l),some x] H:=by
 simp only [xh,z7,L2.start,z7,zx,yj,yp,zc,tC,zb,zi,zE,tB,tCB,tBM,tyV,vN,List.map,List.replicate,List.length,List.append,List.cons_append,List.nil_append,List.append_nil,List.getElem?_cons_zero,List.getElem?_cons_succ,Option.some.injEq,exists_eq_left',exists_eq_left,V.int.injEq,V.ref.injEq,V.str.injEq,V.bl.injEq,V.ty.injEq,List.cons.injEq,and_true,true_and,and_assoc,exists_and_left,List.set_cons_zero,List.set_cons_succ,Nat.reduceSub,Nat.reduceAdd,decide_eq_true_eq,Bool.not_eq_true',decide_eq_false_iff_not,Int.reduceToNat,Int.reducePow,Int.reduceNeg,Int.reduceMul,Int.reduceAdd,if_true,ite_true,Bool.false_eq_true,ite_false,if_false]
 have big:ys.length < sizeLine:=Nat.lt_of_le_of_lt (by omega:_≤900) (by decide)
 rcases hx with ⟨i,rfl,hi⟩ | ⟨z,rfl,hz⟩
 ·refine ⟨_,.int i,true,kG _,?_⟩
  rw [if_pos rfl]
  exact ⟨.inl ⟨_,SqL.of hl⟩,_,hl,big,q⟩
 ·refine ⟨_,.str z,false,F.s_i,?_⟩
  rw [if_neg (by decide)]
  refine ⟨.inl ⟨_,SqL.of hl⟩,.inl ⟨kvs,.inl hs⟩,_,DGet.k (k:=.inr z) hs,_,hl,big,?_⟩
  have e:(yf kvs (.inr z)).getD (V.int 0)=V.int (vA kvs (.str z)):=by
   cases h:yf kvs (.inr z) with
   | none=>show V.int 0=V.int (match yf kvs (.inr z) with | some (.int i)=>i | _=>0);rw [h]
   | some v =>
    obtain ⟨i,rfl,_⟩:=sb _ _ h
    show V.int i=V.int (match yf kvs (.inr z) with | some (.int i)=>i | _=>0);rw [h]
  rw [e]
  exact q
theorem ZN {tm sl:Addr} {e:List V} {kvs:List (Key × V)} {B:Int} (F:KF K) (h1:H tm=some (.tup e)) (h2:H sl=some (.dK kvs)) (h3:TmB e) (h4:SlB B kvs) (h5:Wh B) (q:∀ i H',rk kvs e=.ok i→-(2 * B)≤i→i≤2 * B→Same H H'→Q (.int i) H') :
  vh K t { nx:=fun _ H'=>Q .non H',rt:=Q } (L2.start ["term","slots","parts","part"] [.ref tm,.ref sl]) H:=by
 simp only [vh,z7,KU,L2.start,z7,zx,yj,zV,zq,zN,zo,zv,yp,zA,tOp,zc,tC,wG,zb,zi,xI,zE,zr,tB,tCB,tBM,tyV,tSl,xK,yW,zn,ZW,WG,yD,zV,rEq,kP,vN,yV,List.map,List.replicate,List.length,List.append,List.cons_append,List.nil_append,List.append_nil,List.getElem?_cons_zero,List.getElem?_cons_succ,Option.some.injEq,exists_eq_left',exists_eq_left,V.int.injEq,V.ref.injEq,V.str.injEq,V.bl.injEq,V.ty.injEq,List.cons.injEq,and_true,true_and,and_assoc,exists_and_left,List.set_cons_zero,List.set_cons_succ,Nat.reduceSub,Nat.reduceAdd,decide_eq_true_eq,Bool.not_eq_true',decide_eq_false_iff_not,Int.reduceToNat,Int.reducePow,Int.reduceNeg,Int.reduceMul,Int.reduceAdd,if_true,ite_true,Bool.false_eq_true,ite_false,if_false]
 have s2:HT.sIx e.length e.length (some 2)=min 2 e.length:=HT.sIx_nat _ _ 2
 have lfs:∀ v∈e.take 2,lfB v:=by
  rcases h3 with ⟨u,rfl,hu⟩ | ⟨u,v,w,rfl,hu,hv,hw⟩
  ·intro z hz;rw [show [u].take 2=[u] from rfl,List.mem_singleton] at hz;rw [hz];exact hu
  ·intro z hz
   simp only [List.take_succ_cons,List.take_zero,List.mem_cons,List.not_mem_nil,or_false] at hz
   rcases hz with rfl | rfl
   ·exact hu
   ·exact hv
 have l2:(e.take 2).length≤2:=by rw [List.length_take];omega
 have len3:e.length=1∨e.length=3:=by rcases h3 with ⟨u,rfl,_⟩ | ⟨u,v,w,rfl,_⟩ <;> simp
 have stp:∀ {l:Addr} {H1:Hp} {D:ZV},H l=none→(∀ i,D.nx=woI (e.take 2) kvs tm sl l H H1 (i + 1)→∀ x σ H',(e.take 2)[i]?=some x→woI (e.take 2) kvs tm sl l H H1 i σ H'→xh K t D (σ.set 3 (some x)) H'):=by
  rintro l H1 D hl i eD x σ H' hx ⟨⟨o,rfl⟩,S,hy,T⟩
  refine Q8 F (lfs x (List.mem_of_getElem? hx)) (S _ _ h2) h4 hy (by rw [List.length_map];exact Nat.le_trans (List.length_take_le' _ _) l2) ?_
  rw [eD]
  refine ⟨⟨_,rfl⟩,fun b o e=>by rw [zl (zG e hl)];exact S _ _ e,?_,fun b ys e=>za3 hy _ _ (T _ _ e)⟩
  have:=List.take_add_one (l:=e.take 2) (i:=i)
  rw [this,hx,List.map_append]
  exact zf
 refine ⟨by decide,fun l hl=>⟨e,SqT.of (isV l hl _ _ h1),fun w=>?_,fun w p hp=>?_⟩⟩
 ·have S1:=isV (o:=HO.lst []) l hl
  have hl1:upd H l (HO.lst []) l=some (.lst []):=zf
  have ha:upd H l (HO.lst []) tm=some (.tup (e.take 2)):=by
   rw [List.take_of_length_le (by have:=w.2;rw [s2] at this;omega)];exact S1 _ _ h1
  generalize upd H l (HO.lst [])=H1 at *
  refine ⟨⟨_,SqT.of ha⟩,kq (e.take 2) (woI (e.take 2) kvs tm sl l H H1) ⟨⟨_,rfl⟩,S1,hl1,fun _ _ e=>e⟩ (fun i σ H' z=>SqT.of (z.2.2.2 _ _ ha)) (fun i x σ H' hx z=>stp hl i rfl x σ H' hx z) ?_⟩
  rintro σ H' ⟨⟨o,rfl⟩,S,hy,T⟩
  rw [List.take_length] at hy
  exact ZM (S _ _ h1) hy h3 h4 h5 S q
 ·have S1:=isV (o:=HO.lst []) l hl
  have hl1:upd H l (HO.lst []) l=some (.lst []):=zf
  have S2:=isV (o:=HO.tup (ki e none (some 2))) p hp
  have hc:ki e none (some 2)=e.take 2:=by
   unfold ki
   rw [HT.sIx_none,s2,List.drop_zero]
   rcases len3 with z | z <;> rw [z]
   ·rw [List.take_of_length_le (by omega),List.take_of_length_le (by omega)]
   ·rfl
  have ha:upd (upd H l (HO.lst [])) p (HO.tup (ki e none (some 2))) p=some (.tup (e.take 2)):=by rw [hc];exact zf
  have hl2:=S2 _ _ hl1
  have S3:=S1.trans S2
  generalize upd (upd H l (HO.lst [])) p (HO.tup (ki e none (some 2)))=H1 at *
  refine ⟨⟨_,SqT.of ha⟩,kq (e.take 2) (woI (e.take 2) kvs tm sl l H H1) ⟨⟨_,rfl⟩,S3,hl2,fun _ _ e=>e⟩ (fun i σ H' z=>SqT.of (z.2.2.2 _ _ ha)) (fun i x σ H' hx z=>stp hl i rfl x σ H' hx z) ?_⟩
  rintro σ H' ⟨⟨o,rfl⟩,S,hy,T⟩
  rw [List.take_length] at hy
  exact ZM (S _ _ h1) hy h3 h4 h5 S q
theorem PlV.mono {H H':Hp} {n:Nat} {v:V} (s:Same H H') (h:PlV H n v):PlV H' n v:=by
 induction h with
 | int i=>exact .int i
 | str x=>exact .str x
 | lst e _ ih=>exact .lst (s _ _ e) ih
 | tup e _ ih=>exact .tup (s _ _ e) ih
theorem js {vs:List V} {H:Hp} {Q:VK} {E:XK} (h:yO 0 vs H Q E):False:=by
 obtain ⟨v,_,h,_⟩:=h
 cases h
theorem ZO {n:Nat} {v:V} (F:KF K) (h:PlV H (n + 1) v) (q:∀ H',Same H H'→Q (.bl true) H') :
  vn K t n { nx:=fun _ H'=>Q .non H',rt:=Q } (L2.start ["found","part"] [v]) H:=by
 simp only [vn,yO,VX,zaY,L2.start,zq,zo,zv,zA,zc,tC,z0,zb,zi,xI,zE,wE,tB,JF,JG,tCB,zn,vN,List.map,List.replicate,List.length,List.append,List.cons_append,List.nil_append,List.append_nil,List.getElem?_cons_zero,List.getElem?_cons_succ,Option.some.injEq,exists_eq_left',exists_eq_left,V.int.injEq,V.ref.injEq,V.str.injEq,V.bl.injEq,V.ty.injEq,List.cons.injEq,and_true,true_and,and_assoc,exists_and_left,List.set_cons_zero,List.set_cons_succ,Nat.reduceSub,Nat.reduceAdd,decide_eq_true_eq,Bool.not_eq_true',decide_eq_false_iff_not,Int.reduceToNat,Int.reducePow,Int.reduceNeg,Int.reduceMul,Int.reduceAdd,if_true,ite_true,Bool.false_eq_true,ite_false,if_false]
 refine ⟨by decide,fun p hp=>?_⟩
 have s1:=isV (o:=HO.tup [V.ty "list",V.ty "tuple"]) p hp
 have e1:upd H p (HO.tup [V.ty "list",V.ty "tuple"]) p=some (.tup [V.ty "list",V.ty "tuple"]):=zf
 generalize upd H p (HO.tup [V.ty "list",V.ty "tuple"])=H1 at *
 cases h with
 | int i =>
  refine ⟨_,.int i,["list","tuple"],e1,false,F.a3,?_⟩
  rw [if_neg (by decide)]
  refine ⟨by decide,fun p2 hp2=>⟨_,.int i,["int","str"],zf,true,F.a5,?_⟩⟩
  rw [if_pos rfl]
  exact ⟨_,.int i,false,F.i_b,q _ (s1.trans (isV p2 hp2))⟩
 | str y =>
  refine ⟨_,.str y,["list","tuple"],e1,false,F.a4,?_⟩
  rw [if_neg (by decide)]
  refine ⟨by decide,fun p2 hp2=>⟨_,.str y,["int","str"],zf,true,F.a6,?_⟩⟩
  rw [if_pos rfl]
  exact ⟨_,.str y,false,F.s_b,q _ (s1.trans (isV p2 hp2))⟩
 | @lst _ l xs hl hx =>
  refine ⟨_,.lst (s1 _ _ hl),["list","tuple"],e1,true,F.a2,?_⟩
  rw [if_pos rfl]
  refine ⟨l,rfl,.inl ⟨⟨_,SqL.of (s1 _ _ hl)⟩,kT xs (fun _ σ H'=>(∃ o,σ=[some (.ref l),o])∧Same H H') ⟨⟨_,rfl⟩,s1⟩ (fun i σ H' z=>SqL.of (z.2 _ _ hl)) ?_ ?_⟩⟩
  ·rintro i y σ H' hy ⟨⟨o,rfl⟩,S⟩
   refine ⟨y,rfl,PlV.mono S (hx y (List.mem_of_getElem? hy)),fun H2 s2=>?_⟩
   rw [if_neg (by decide)]
   exact ⟨⟨_,rfl⟩,S.trans s2⟩
  ·rintro σ H' ⟨_,S⟩
   exact q _ S
 | @tup _ l xs hl hx =>
  refine ⟨_,.tup (s1 _ _ hl),["list","tuple"],e1,true,F.a1,?_⟩
  rw [if_pos rfl]
  refine ⟨l,rfl,.inr ⟨⟨_,SqT.of (s1 _ _ hl)⟩,kq xs (fun _ σ H'=>(∃ o,σ=[some (.ref l),o])∧Same H H') ⟨⟨_,rfl⟩,s1⟩ (fun i σ H' z=>SqT.of (z.2 _ _ hl)) ?_ ?_⟩⟩
  ·rintro i y σ H' hy ⟨⟨o,rfl⟩,S⟩
   refine ⟨y,rfl,PlV.mono S (hx y (List.mem_of_getElem? hy)),fun H2 s2=>?_⟩
   rw [if_neg (by decide)]
   exact ⟨⟨_,rfl⟩,S.trans s2⟩
  ·rintro σ H' ⟨_,S⟩
   exact q _ S
theorem qw {c j:Int} (h1:0≤j) (h2:j≤900) (q:∀ w H',smI w→Same H H'→Q (.int w) H') :
  wO K t { nx:=fun _ H'=>Q .non H',rt:=Q } (L2.start ["cell","j","way"] [.int c,.int j]) H:=by
 simp only [wO,zk,L2.start,zq,zN,zo,zv,zA,tOp,zc,tC,zb,zi,zE,zr,zn,rEq,rI,rI0,yV,List.map,List.replicate,List.length,List.append,List.cons_append,List.nil_append,List.append_nil,List.getElem?_cons_zero,List.getElem?_cons_succ,Option.some.injEq,exists_eq_left',exists_eq_left,V.int.injEq,V.ref.injEq,V.str.injEq,V.bl.injEq,V.ty.injEq,List.cons.injEq,and_true,true_and,and_assoc,exists_and_left,List.set_cons_zero,List.set_cons_succ,Nat.reduceSub,Nat.reduceAdd,decide_eq_true_eq,Bool.not_eq_true',decide_eq_false_iff_not,Int.reduceToNat,Int.reducePow,Int.reduceNeg,Int.reduceMul,Int.reduceAdd,if_true,ite_true,Bool.false_eq_true,ite_false,if_false]
 have P17:=Wl (j:=17) (by decide) (by decide)
 have P20:=Wl (j:=20) (by decide) (by decide)
 have hb:(1000000000000000000000000000000000000000000000000000000000000:Int) < big:=by decide +kernel
 refine ⟨h1,by omega,fun r1 H1 a1 b1 s1=>⟨by decide,xB (fun _=>?_) fun _=>⟨by omega,by omega,fun r2 H2 a2 b2 s2=>⟨by decide,q _ _ ?_ (s1.trans s2)⟩⟩⟩⟩
 ·have g1:=Int.emod_nonneg c (b:=100000000000000000000) (by decide)
  have g2:=Int.emod_lt_of_pos c (b:=100000000000000000000) (by decide)
  generalize c % 100000000000000000000=d at *
  have m1:0≤d * (j + 2):=Int.mul_nonneg g1 (by omega)
  have m2:d * (j + 2)≤100000000000000000000 * 1000:=Int.mul_le_mul (by omega) (by omega) (by omega) (by decide)
  generalize d * (j + 2)=f at *
  have g3:=Int.emod_nonneg (f * 1000003 + j) (b:=200000000000000001) (by decide)
  have g4:=Int.emod_lt_of_pos (f * 1000003 + j) (b:=200000000000000001) (by decide)
  exact ⟨P20,by decide,⟨by omega,by omega⟩,⟨by omega,by omega⟩,P17,⟨by omega,by omega⟩,by decide,P17,q _ _ ⟨by omega,by omega⟩ s1⟩
 ·exact ⟨by omega,by omega⟩
theorem Z6 {c j:Int} {a:Addr} {ws:List Str} (h1:0≤j) (h2:j≤800) (h3:NamesAt H a ws) (h4:ws.length=3) (q:∀ v H',lfB v→Same H H'→Q v H') :
  vQ K t { nx:=fun _ H'=>Q .non H',rt:=Q } (L2.start ["cell","j","slots"] [.int c,.int j,.ref a]) H:=by
 simp only [vQ,zk,yC,L2.start,zq,zv,zA,tOp,zc,tC,zb,zi,zE,zr,tCB,zn,ZW,yD,rEq,rI,rI0,kP,yV,List.map,List.replicate,List.length,List.append,List.cons_append,List.nil_append,List.append_nil,List.getElem?_cons_zero,List.getElem?_cons_succ,Option.some.injEq,exists_eq_left',exists_eq_left,V.int.injEq,V.ref.injEq,V.str.injEq,V.bl.injEq,V.ty.injEq,List.cons.injEq,and_true,true_and,and_assoc,exists_and_left,List.set_cons_zero,List.set_cons_succ,Nat.reduceSub,Nat.reduceAdd,decide_eq_true_eq,Bool.not_eq_true',decide_eq_false_iff_not,Int.reduceToNat,Int.reducePow,Int.reduceNeg,Int.reduceMul,Int.reduceAdd,if_true,ite_true,Bool.false_eq_true,ite_false,if_false]
 refine ⟨by omega,by omega,fun r1 H1 a1 b1 s1=>⟨by decide,xB (fun _=>⟨by omega,by omega,fun r2 H2 a2 b2 s2=>?_⟩) fun _=>⟨h1,by omega,fun w H2 hw s2=>q _ _ (.inl ⟨w,rfl,hw⟩) (s1.trans s2)⟩⟩⟩
 obtain ⟨x,hx,_,hn⟩:=jr h3 3 h4 (by decide) r2
 have S:=s1.trans s2
 exact ⟨3,.inl ⟨_,SqL.of (S _ _ h3.1),by rw [List.length_map,h4]⟩,by decide,_,SqL.of (S _ _ h3.1),_,hx,q _ _ (.inr ⟨x,rfl,hn⟩) S⟩
theorem Z7 {c j:Int} {a:Addr} {ws:List Str} (h1:0≤j) (h2:j≤600) (h3:NamesAt H a ws) (h4:ws.length=3) (q:∀ p e H',Same H H'→H p=none→H' p=some (.tup e)→TmB e→Q (.ref p) H') :
  vS K t { nx:=fun _ H'=>Q .non H',rt:=Q } (L2.start ["cell","j","slots"] [.int c,.int j,.ref a]) H:=by
 simp only [vS,zk,yH,L2.start,zq,zv,zA,tOp,zc,tC,z0,zb,zi,zE,zr,zn,rEq,rI,rI0,yV,List.map,List.replicate,List.length,List.append,List.cons_append,List.nil_append,List.append_nil,List.getElem?_cons_zero,List.getElem?_cons_succ,Option.some.injEq,exists_eq_left',exists_eq_left,V.int.injEq,V.ref.injEq,V.str.injEq,V.bl.injEq,V.ty.injEq,List.cons.injEq,and_true,true_and,and_assoc,exists_and_left,List.set_cons_zero,List.set_cons_succ,Nat.reduceSub,Nat.reduceAdd,decide_eq_true_eq,Bool.not_eq_true',decide_eq_false_iff_not,Int.reduceToNat,Int.reducePow,Int.reduceNeg,Int.reduceMul,Int.reduceAdd,if_true,ite_true,Bool.false_eq_true,ite_false,if_false]
 refine ⟨h1,by omega,fun r1 H1 a1 b1 s1=>⟨by decide,xB (fun _=>⟨by omega,by omega,ws,h3.same s1,h4,fun p e H2 s2 fp hp te=>q p e H2 (s1.trans s2) (z5 s1 fp) hp te⟩) fun _=>⟨by omega,by omega,fun r2 H2 a2 b2 s2=>⟨by decide,xB (fun _=>⟨by omega,by omega,fun r3 H3 a3 b3 s3=>⟨by decide,by decide,fun p hp=>?_⟩⟩) fun _=>⟨by omega,by omega,fun r3 H3 a3 b3 s3=>⟨by decide,by decide,fun p hp=>?_⟩⟩⟩⟩⟩⟩
 ·have S:=s1.trans (s2.trans s3)
  exact q p _ _ (S.trans (isV p hp)) (z5 S hp) zf (.inl ⟨_,rfl,.inl ⟨_,rfl,by omega,by omega⟩⟩)
 ·have S:=s1.trans (s2.trans s3)
  exact q p _ _ (S.trans (isV p hp)) (z5 S hp) zf (.inl ⟨_,rfl,.inl ⟨_,rfl,by omega,by omega⟩⟩)
theorem K9 {c kd:Int} {a b:Addr} {ws us:List Str} {sh sl:Str} {Hb:Hp} (h3:NamesAt H a ws) (h4:ws.length=3) (nsh:ye sh=true) (nsl:ye sl=true) (S:Same Hb H)
  (q:∀ v r H',Same Hb H'→RwAt jW H' v r→RwB r→Q v H') :
  vm K t { nx:=fun _ H'=>Q .non H',rt:=Q } [some (.int c),some (.ref a),some (.ref b),some (.int kd),some (.str sh),some (.str sl)] H:=by
 simp only [vm,wy,yH,L2.start,zq,zv,zA,tOp,zc,tC,z0,zb,zi,zE,zr,zn,rI0,List.map,List.replicate,List.length,List.append,List.cons_append,List.nil_append,List.append_nil,List.getElem?_cons_zero,List.getElem?_cons_succ,Option.some.injEq,exists_eq_left',exists_eq_left,V.int.injEq,V.ref.injEq,V.str.injEq,V.bl.injEq,V.ty.injEq,List.cons.injEq,and_true,true_and,and_assoc,exists_and_left,List.set_cons_zero,List.set_cons_succ,Nat.reduceSub,Nat.reduceAdd,decide_eq_true_eq,Bool.not_eq_true',decide_eq_false_iff_not,Int.reduceToNat,Int.reducePow,Int.reduceNeg,Int.reduceMul,Int.reduceAdd,if_true,ite_true,Bool.false_eq_true,ite_false,if_false]
 refine xB (fun _=>⟨by decide,by decide,ws,h3,h4,fun p e H1 s1 fp hp te=>⟨by decide,fun r hr=>?_⟩⟩) fun _=>xB (fun _=>⟨by decide,by decide,ws,h3,h4,fun p e H1 s1 fp hp te=>⟨by decide,by decide,ws,h3.same s1,h4,fun p2 f H2 s2 fp2 hp2 tf=>⟨by decide,fun r hr=>?_⟩⟩⟩) fun _=>xB (fun _=>⟨by decide,by decide,ws,h3,h4,fun p e H1 s1 fp hp te=>⟨by decide,fun r hr=>?_⟩⟩) fun _=>⟨by decide,by decide,ws,h3,h4,fun p e H1 s1 fp hp te=>⟨by decide,fun r hr=>?_⟩⟩
 ·exact q _ (.take sh e sl) _ (S.trans (s1.trans (isV r hr))) ⟨r,p,rfl,trivial,trivial,zf,isV r hr _ _ hp⟩ ⟨nsh,nsl,te⟩
 ·exact q _ (.give sh e f) _ (S.trans (s1.trans (s2.trans (isV r hr)))) ⟨r,p,p2,rfl,trivial,trivial,trivial,zf,(s2.trans (isV r hr)) _ _ hp,isV r hr _ _ hp2⟩ ⟨nsh,te,tf⟩
 ·exact q _ (.lt sl e) _ (S.trans (s1.trans (isV r hr))) ⟨r,p,rfl,trivial,trivial,zf,isV r hr _ _ hp⟩ ⟨nsl,te⟩
 ·exact q _ (.say e) _ (S.trans (s1.trans (isV r hr))) ⟨r,p,rfl,trivial,trivial,zf,isV r hr _ _ hp⟩ te
theorem Xm {c:Int} {a b:Addr} {ws us:List Str} (h1:NamesAt H a ws) (h2:ws.length=3) (h3:NamesAt H b us) (h4:us.length=2) (q:∀ v r H',Same H H'→RwAt jW H' v r→RwB r→Q v H') :
  jq K t { nx:=fun _ H'=>Q .non H',rt:=Q } (L2.start ["cell","slots","shelves","kind","shelf","slot"] [.int c,.ref a,.ref b]) H:=by
 simp only [jq,zk,L2.start,zq,zN,zo,zv,zA,tOp,zc,tC,z0,zb,zi,zE,zr,zn,yD,rI,rI0,List.map,List.replicate,List.length,List.append,List.cons_append,List.nil_append,List.append_nil,List.getElem?_cons_zero,List.getElem?_cons_succ,Option.some.injEq,exists_eq_left',exists_eq_left,V.int.injEq,V.ref.injEq,V.str.injEq,V.bl.injEq,V.ty.injEq,List.cons.injEq,and_true,true_and,and_assoc,exists_and_left,List.set_cons_zero,List.set_cons_succ,Nat.reduceSub,Nat.reduceAdd,decide_eq_true_eq,Bool.not_eq_true',decide_eq_false_iff_not,Int.reduceToNat,Int.reducePow,Int.reduceNeg,Int.reduceMul,Int.reduceAdd,if_true,ite_true,Bool.false_eq_true,ite_false,if_false]
 refine ⟨by decide,by decide,fun r1 H1 a1 b1 s1=>⟨by decide,by decide,by decide,fun r2 H2 a2 b2 s2=>⟨by decide,?_⟩⟩⟩
 obtain ⟨x,hx,_,nx⟩:=jr (h3.same (s1.trans s2)) 2 h4 (by decide) r2
 refine ⟨_,SqL.of ((s1.trans s2) _ _ h3.1),_,hx,by decide,by decide,fun r3 H3 a3 b3 s3=>⟨by decide,?_⟩⟩
 have S:=s1.trans (s2.trans s3)
 obtain ⟨y,hy,_,ny⟩:=jr (h1.same S) 3 h2 (by decide) r3
 exact ⟨_,SqL.of (S _ _ h1.1),_,hy,K9 (us:=us) (h1.same S) h2 nx ny S q⟩
def Qa (us:List Str) (R:List Row) (n:Nat):Prop:=R.length≤n∧∀ r∈R,ye r.1.1=true∧smI r.2
def tbI (σ0:Option V→Option V→St) (wd:Addr) (us:List Str) (H0:Hp) (n i:Nat) (σ:St) (H:Hp):Prop:=(∃ o o',σ=σ0 o o')∧(∀ b u,b≠wd→H0 b=some u→H b=some u)∧∃ R,H wd=some (.dT (dOf R))∧Qa us R (n + i)
theorem Qb {wd pl:Addr} {us:List Str} {R:List Row} {n:Nat} {p:Pl} {w:Int} (hw:H wd=some (.dT (dOf R))) (hi:Qa us R n) (lq:n≤310) (hp:H pl=some (.tup [.str p.1,.int p.2])) (np:ye p.1=true) (sw:smI w):∃ H',DPut H wd (.ref pl) (.int w) H'∧H' wd=some (.dT (dOf (R ++ [(p,w)])))∧Qa us (R ++ [(p,w)]) (n + 1)∧∀ b u,b≠wd→H b=some u→H' b=some u:=by
 have l:=wx R
 have l2:=hi.1
 refine ⟨_,DPut.t (k:=zI p) hw hp (Nat.lt_of_le_of_lt (by omega:_≤900) (by decide)),?_,⟨by rw [List.length_append,List.length_singleton];omega,fun r hr=>?_⟩,fun b u n e=>by rw [zl n];exact e⟩
 ·rw [zf,kz]
 ·rcases List.mem_append.mp hr with hr | hr
  ·exact hi.2 r hr
  ·rw [List.mem_singleton.mp hr];exact ⟨np,sw⟩
section
variable {c:Int} {b wd:Addr} {us:List Str} {H0:Hp} {R:List Row}
theorem Ve {o3 o4:Option V} (hw:H wd=some (.dT (dOf R))) (hi:Qa us R 250) (S:Same H0 H) (q:∀ l tab H',Same H0 H'→H0 l=none→LsAt H' l tab→TaB tab→Q (.ref l) H') :
  wn K t { nx:=fun _ H'=>Q .non H',rt:=Q } [some (.int c),some (.ref b),some (.ref wd),o3,o4] H:=by
 simp only [wn,wJ,Zr,L2.start,zv,zc,zb,zi,tCB,List.map,List.replicate,List.length,List.append,List.cons_append,List.nil_append,List.append_nil,List.getElem?_cons_zero,List.getElem?_cons_succ,Option.some.injEq,exists_eq_left',exists_eq_left,V.int.injEq,V.ref.injEq,V.str.injEq,V.bl.injEq,V.ty.injEq,List.cons.injEq,and_true,true_and,and_assoc,exists_and_left,List.set_cons_zero,List.set_cons_succ,Nat.reduceSub,Nat.reduceAdd,decide_eq_true_eq,Bool.not_eq_true',decide_eq_false_iff_not,Int.reduceToNat,Int.reducePow,Int.reduceNeg,Int.reduceMul,Int.reduceAdd,if_true,ite_true,Bool.false_eq_true,ite_false,if_false]
 have l1:=wx R
 have l2:=hi.1
 refine ⟨_,hw,fun r hr=>⟨wd,zf,R,isV r hr _ _ hw,by omega,fun l zs srt H3 s3 fl hl pz ri mi=>?_⟩⟩
 have S3:=(isV (o:=jN r wd) r hr).trans s3
 refine q l srt H3 (S.trans S3) (z5 (S.trans (isV (o:=jN r wd) r hr)) fl) ⟨zs,hl,pz⟩ ⟨ri,fun x hx=>hi.2 _ (vF ((mi x.1 x.2).mp hx)),?_⟩
 have:=kY ri.nd (b:=R.map (·.1)) fun p hp=>by
  obtain ⟨x,hx,rfl⟩:=List.mem_map.mp hp
  exact List.mem_map_of_mem (f:=(·.1)) (vF ((mi x.1 x.2).mp hx))
 rw [List.length_map,List.length_map] at this
 omega
theorem ZP {o3:Option V} (hb:NamesAt H b us) (lu:us.length=2) (hw:H wd=some (.dT (dOf R))) (hi:Qa us R 241) (S:Same H0 H) (fr:H0 wd=none) (q:∀ l tab H',Same H0 H'→H0 l=none→LsAt H' l tab→TaB tab→Q (.ref l) H') :
  wp K t { nx:=fun _ H'=>Q .non H',rt:=Q } [some (.int c),some (.ref b),some (.ref wd),o3,none] H:=by
 simp only [wp,zk,yC,xp,wJ,Zr,L2.start,zq,zN,zo,zv,zA,tOp,zc,tC,z0,zb,zi,xI,zE,zr,tCB,zn,wF,yD,rNe,rI,rI0,yV,List.map,List.replicate,List.length,List.append,List.cons_append,List.nil_append,List.append_nil,List.getElem?_cons_zero,List.getElem?_cons_succ,Option.some.injEq,exists_eq_left',exists_eq_left,V.int.injEq,V.ref.injEq,V.str.injEq,V.bl.injEq,V.ty.injEq,List.cons.injEq,and_true,true_and,and_assoc,exists_and_left,List.set_cons_zero,List.set_cons_succ,Nat.reduceSub,Nat.reduceAdd,decide_eq_true_eq,Bool.not_eq_true',decide_eq_false_iff_not,Int.reduceToNat,Int.reducePow,Int.reduceNeg,Int.reduceMul,Int.reduceAdd,if_true,ite_true,Bool.false_eq_true,ite_false,if_false]
 have big':(1000000000000000000000000000000000000000000000000000000000000:Int) < big:=by decide +kernel
 refine ⟨by decide,by decide,fun r1 H1 _ _ s1=>⟨by decide,?_⟩⟩
 have g1:=Int.emod_nonneg r1 (b:=7) (by decide)
 have g2:=Int.emod_lt_of_pos r1 (b:=7) (by decide)
 have hw1:=s1 _ _ hw
 have hb1:=hb.same s1
 have ne:∀ {b:Addr} {zs:List V},H1 b=some (.lst zs)→b≠wd:=fun e=>yI e hw1 (fun z=>nomatch z)
 refine ⟨by omega,by omega,jR (tbI (fun o o'=>[some (.int c),some (.ref b),some (.ref wd),o,o']) wd us H1 241) ⟨⟨_,_,rfl⟩,fun b u _ e=>e,R,hw1,hi⟩ ?_ ?_⟩
 ·rintro i σ H2 hil ⟨⟨o,o',rfl⟩,kp,R,hw,hi⟩
  have il:i < 7:=by omega
  simp only [zk,yC,xp,wJ,Zr,L2.start,zq,zN,zo,zv,zA,tOp,zc,tC,z0,zb,zi,xI,zE,zr,tCB,zn,wF,yD,rNe,rI,rI0,yV,List.map,List.replicate,List.length,List.append,List.cons_append,List.nil_append,List.append_nil,List.getElem?_cons_zero,List.getElem?_cons_succ,Option.some.injEq,exists_eq_left',exists_eq_left,V.int.injEq,V.ref.injEq,V.str.injEq,V.bl.injEq,V.ty.injEq,List.cons.injEq,and_true,true_and,and_assoc,exists_and_left,List.set_cons_zero,List.set_cons_succ,Nat.reduceSub,Nat.reduceAdd,decide_eq_true_eq,Bool.not_eq_true',decide_eq_false_iff_not,Int.reduceToNat,Int.reducePow,Int.reduceNeg,Int.reduceMul,Int.reduceAdd,if_true,ite_true,Bool.false_eq_true,ite_false,if_false,Int.zero_add]
  refine ⟨⟨⟨by omega,by omega⟩,by omega,by omega⟩,by omega,by omega,fun w H3 sw s3=>xB (fun _=>?_) fun _=>⟨⟨_,_,rfl⟩,fun b u n e=>s3 _ _ (kp b u n e),R,s3 _ _ hw,Nat.le_trans hi.1 (by omega),hi.2⟩⟩
  have hb3:NamesAt H3 b us:=⟨s3 _ _ (kp _ _ (ne hb1.1) hb1.1),hb1.2⟩
  refine ⟨by omega,by omega,fun r2 H4 _ _ s4=>⟨by decide,?_⟩⟩
  obtain ⟨x,hx,_,hn⟩:=jr (hb3.same s4) 2 lu (by decide) r2
  refine ⟨_,SqL.of (s4 _ _ hb3.1),_,hx,by omega,by omega,fun r3 H5 _ _ s5=>⟨by decide,by decide,fun p1 hp1=>?_⟩⟩
  have s6:=isV (o:=HO.tup [V.str x,V.int (r3 % 4 - 1)]) p1 hp1
  have e6:upd H5 p1 (HO.tup [V.str x,V.int (r3 % 4 - 1)]) p1=some (.tup [.str (x,r3 % 4 - 1).1,.int (x,r3 % 4 - 1).2]):=zf
  generalize upd H5 p1 (HO.tup [V.str x,V.int (r3 % 4 - 1)])=H6 at *
  have T:=s3.trans (s4.trans (s5.trans s6))
  obtain ⟨H7,g1,g2,g3,g4⟩:=Qb (p:=(x,r3 % 4 - 1)) (w:=w) (T _ _ hw) hi (by omega) e6 hn sw
  exact ⟨H7,g1,⟨_,_,rfl⟩,fun b u n e=>g4 b u n (T _ _ (kp b u n e)),_,g2,g3⟩
 ·rintro σ H2 ⟨⟨o,o',rfl⟩,kp,R,hw,hi⟩
  exact Ve (us:=us) (H0:=H0) hw ⟨Nat.le_trans hi.1 (by omega),hi.2⟩ (fun b u e=>kp b u (fun z=>by rw [z,fr] at e;cases e) ((S.trans s1) _ _ e)) q
theorem ZQ (h1:NamesAt H b us) (h2:us.length=2) (q:∀ l tab H',Same H H'→H l=none→LsAt H' l tab→TaB tab→Q (.ref l) H') :
  vg K t { nx:=fun _ H'=>Q .non H',rt:=Q } (L2.start ["cell","shelves","worths","k","worth"] [.int c,.ref b]) H:=by
 simp only [vg,vW,zk,xp,YX,wJ,Zr,L2.start,Zd,zq,zN,zo,zv,zA,tOp,zc,tC,z0,zb,zi,xI,zE,zr,tCB,zn,wF,yD,rEq,rNe,rI,rI0,yV,List.map,List.replicate,List.length,List.append,List.cons_append,List.nil_append,List.append_nil,List.getElem?_cons_zero,List.getElem?_cons_succ,Option.some.injEq,exists_eq_left',exists_eq_left,V.int.injEq,V.ref.injEq,V.str.injEq,V.bl.injEq,V.ty.injEq,List.cons.injEq,and_true,true_and,and_assoc,exists_and_left,List.set_cons_zero,List.set_cons_succ,Nat.reduceSub,Nat.reduceAdd,decide_eq_true_eq,Bool.not_eq_true',decide_eq_false_iff_not,Int.reduceToNat,Int.reducePow,Int.reduceNeg,Int.reduceMul,Int.reduceAdd,if_true,ite_true,Bool.false_eq_true,ite_false,if_false]
 intro wd hwd
 have s0:=isV (o:=HO.dT []) wd hwd
 have hw:upd H wd (HO.dT []) wd=some (.dT (dOf [])):=zf
 generalize upd H wd (HO.dT [])=H0 at *
 refine ⟨by decide,by decide,fun r1 H1 _ _ s1=>⟨by decide,xB (fun _=>⟨by decide,by decide,fun r2 H2 _ _ s2=>⟨by decide,?_⟩⟩) fun _=>ZP (H0:=H) (h1.same (s0.trans s1)) h2 (s1 _ _ hw) ⟨Nat.zero_le _,fun r h=>nomatch h⟩ (s0.trans s1) hwd q⟩⟩
 have g1:=Int.emod_nonneg r2 (b:=241) (by decide)
 have g2:=Int.emod_lt_of_pos r2 (b:=241) (by decide)
 have hw2:=(s1.trans s2) _ _ hw
 have S2:=s0.trans (s1.trans s2)
 have hb2:=h1.same S2
 have ne:∀ {b:Addr} {zs:List V},H2 b=some (.lst zs)→b≠wd:=fun e=>yI e hw2 (fun z=>nomatch z)
 refine ⟨by omega,by omega,jR (tbI (fun o o'=>[some (.int c),some (.ref b),some (.ref wd),o,none]) wd us H2 0) ⟨⟨_,none,rfl⟩,fun b u _ e=>e,[],hw2,Nat.zero_le _,fun r h=>nomatch h⟩ ?_ ?_⟩
 ·rintro i σ H3 hil ⟨⟨o,o',rfl⟩,kp,R,hw,hi⟩
  have il:(i:Int) < 241:=by omega
  simp only [xp,YX,wJ,Zr,L2.start,Zd,zq,zN,zo,zv,zA,tOp,zc,tC,z0,zb,zi,xI,zE,zr,tCB,zn,wF,yD,rEq,rNe,rI,rI0,yV,List.map,List.replicate,List.length,List.append,List.cons_append,List.nil_append,List.append_nil,List.getElem?_cons_zero,List.getElem?_cons_succ,Option.some.injEq,exists_eq_left',exists_eq_left,V.int.injEq,V.ref.injEq,V.str.injEq,V.bl.injEq,V.ty.injEq,List.cons.injEq,and_true,true_and,and_assoc,exists_and_left,List.set_cons_zero,List.set_cons_succ,Nat.reduceSub,Nat.reduceAdd,decide_eq_true_eq,Bool.not_eq_true',decide_eq_false_iff_not,Int.reduceToNat,Int.reducePow,Int.reduceNeg,Int.reduceMul,Int.reduceAdd,if_true,ite_true,Bool.false_eq_true,ite_false,if_false,Int.zero_add]
  obtain ⟨x,hx,_,hn⟩:=jr hb2 2 h2 (by decide) (i:Int)
  refine ⟨dB,dB,by decide,_,SqL.of (kp _ _ (ne hb2.1) hb2.1),_,hx,by decide,fun p1 hp1=>?_⟩
  have s6:=isV (o:=HO.tup [V.str x,V.int (1000 + (i:Int))]) p1 hp1
  have e6:upd H3 p1 (HO.tup [V.str x,V.int (1000 + (i:Int))]) p1=some (.tup [.str (x,1000 + (i:Int)).1,.int (x,1000 + (i:Int)).2]):=zf
  generalize upd H3 p1 (HO.tup [V.str x,V.int (1000 + (i:Int))])=H6 at *
  obtain ⟨H7,g1,g2,g3,g4⟩:=Qb (p:=(x,1000 + (i:Int))) (w:=(i:Int) / 3 - 50 + if (i:Int) / 3=50 then 1 else 0) (s6 _ _ hw) hi (by omega) e6 hn (by unfold smI;split <;> omega)
  exact ⟨H7,g1,⟨_,none,rfl⟩,fun b u n e=>g4 b u n (s6 _ _ (kp b u n e)),_,g2,g3⟩
 ·rintro σ H3 ⟨⟨o,o',rfl⟩,kp,R,hw,hi⟩
  have S3:Same H H3:=fun b u e=>kp b u (fun z=>by rw [z,hwd] at e;cases e) (S2 _ _ e)
  exact ZP (H0:=H) ⟨kp _ _ (ne hb2.1) hb2.1,hb2.2⟩ h2 hw ⟨Nat.le_trans hi.1 (by omega),hi.2⟩ S3 hwd q
end
structure StB (k:Nat) (s:Sta):Prop where
 sl:SlB (Bdk k) s.sl
 wo:∀ r∈s.wo,-(Bdk k)≤r.2∧r.2≤Bdk k
theorem ZR (k:Nat) (hk:k≤40):Bdk k≤Bdk (k + 1):=by
 have:=Xk k
 have b:=(Vd hk).lo
 omega
theorem Qc {k:Nat} {s:Sta} (h:StB k s) (hk:k≤40) (p:Pl):-(Bdk k)≤(zP s.wo p).getD 0∧(zP s.wo p).getD 0≤Bdk k:=by
 have b:=(Vd hk).lo
 cases e:zP s.wo p with
 | none=>exact ⟨by show -(Bdk k)≤0;omega,by show 0≤Bdk k;omega⟩
 | some w=>exact h.wo _ (vF e)
theorem V6 {k:Nat} {s:Sta} (h:StB k s) (hk:k≤40):∀ r∈s.wo,-(Bdk (k + 1))≤r.2∧r.2≤Bdk (k + 1):=fun r hr=>by
 have u:=ZR k hk
 have:=h.wo r hr
 exact ⟨by omega,by omega⟩
theorem Q9 {k:Nat} {s:Sta} (h:StB k s) (hk:k < 40) (x:Str) (p:Pl):StB (k + 1) { s with sl:=yA s.sl (.inr x) (.int ((zP s.wo p).getD 0)) }:=by
 have u:=ZR k (by omega)
 have w:=Qc h (by omega) p
 exact ⟨(h.sl.mono u).put _ (by omega) (by omega),V6 (s:=s) h (by omega)⟩
theorem za8 {k:Nat} {s:Sta} (h:StB k s) (hk:k < 40) (x:Str) {i:Int} (h1:-(2 * Bdk k)≤i) (h2:i≤2 * Bdk k):StB (k + 1) { s with sl:=yA s.sl (.inr x) (.int i) }:=by
 have u:=ZR k (by omega)
 have e:=Xk k
 exact ⟨(h.sl.mono u).put _ (by omega) (by omega),V6 (s:=s) h (by omega)⟩
theorem za9 {k:Nat} {s:Sta} (h:StB k s) (hk:k < 40) (i:Int):StB (k + 1) { s with sa:=s.sa ++ [i] }:=⟨h.sl.mono (ZR k (by omega)),V6 (s:=s) h (by omega)⟩
theorem zaa {k:Nat} {s:Sta} (h:StB k s) (hk:k < 40) (p:Pl) {i:Int} (h1:-(2 * Bdk k)≤i) (h2:i≤2 * Bdk k):StB (k + 1) { s with wo:=s.wo ++ [(p,i)] }:=by
 have e:=Xk k
 refine ⟨h.sl.mono (ZR k (by omega)),fun r hr=>?_⟩
 rcases List.mem_append.mp hr with hr | hr
 ·exact V6 (s:=s) h (by omega) r hr
 ·rw [List.mem_singleton.mp hr];exact ⟨by show -(Bdk (k + 1))≤i;omega,by show i≤Bdk (k + 1);omega⟩
theorem zba {e:List V} {s:Sta} {i:Int} (h:rk s.sl e=.ok i):goR (.say e) s=.go { s with sa:=s.sa ++ [i] }:=by unfold goR;rw [h]
theorem zbb {x:Str} {e:List V} {s:Sta} {i:Int} (h:rk s.sl e=.ok i):goR (.lt x e) s=.go { s with sl:=yA s.sl (.inr x) (.int i) }:=by unfold goR;rw [h]
theorem zab {sh x:Str} {e:List V} {s:Sta} {n:Int} (h:rk s.sl e=.ok n):goR (.take sh e x) s=.go { s with sl:=yA s.sl (.inr x) (.int ((zP s.wo (sh,n)).getD 0)) }:=by unfold goR;rw [h]
theorem zac {sh:Str} {e f:List V} {s:Sta} {n i:Int} (h:rk s.sl e=.ok n) (h2:rk s.sl f=.ok i):goR (.give sh e f) s=.go { s with wo:=s.wo ++ [((sh,n),i)] }:=by unfold goR;rw [h];show (match rk s.sl f with | .ok w=>Res.go { s with wo:=s.wo ++ [((sh,n),w)] } | .error x=>.er x)=_;rw [h2]
theorem Wu:∀ {rs:List Rw},(∀ r∈rs,RwB r)→jg (ofL rs)∧(ofL rs).deep=0∧(ofL rs).cnt=rs.length∧kC (ofL rs)
 | [],_=>⟨trivial,by unfold ofL;rw [Rws.deep],by unfold ofL;rw [Rws.cnt];rfl,trivial⟩
 | r :: rs,h=>by
  obtain ⟨a,b,c,d⟩:=Wu (rs:=rs) fun x hx=>h x (List.mem_cons_of_mem _ hx)
  have hr:=h r List.mem_cons_self
  obtain ⟨k1,k2,k3,_⟩:=hr.ok
  have e1:r.deep=0∧r.cnt=1:=by
   cases r <;> first | exact k3.elim | exact ⟨by simp [Rw.deep],by simp [Rw.cnt]⟩
  unfold ofL
  refine ⟨⟨k1,a⟩,?_,?_,⟨k2,d⟩⟩
  ·rw [Rws.deep,e1.1,b];rfl
  ·rw [Rws.cnt,e1.2,c,List.length_cons];omega
theorem st0 {tab:List Row} (h:TaB tab):StB 0 ⟨[],tab,[]⟩:=⟨fun k v e=>(by cases e),fun r hr=>by
 have:=(h.nm r hr).2
 unfold smI at this
 have e:Bdk 0=100000000000000000:=by decide
 rw [e];exact this⟩
theorem Vf {rs:List Rw} {tab:List Row} (h:∀ r∈rs,RwB r) (l:rs.length≤40) (ht:TaB tab):Wg (ofL rs) tab:=by
 obtain ⟨a,b,c,d⟩:=Wu h
 have le:=ht.le
 have iw:∀ r∈tab,inW r.2=true:=fun r hr=>(ht.nm r hr).2.inW
 refine ⟨a,by omega,iw,by omega,fun s g=>?_⟩
 have S0:StOk tab.length ⟨[],tab,[]⟩:=⟨fun k v e=>(by cases e),iw,Nat.zero_le _,Nat.le_refl _,Nat.zero_le _⟩
 have:=(jF (ofL rs) S0 a g).l2
 have l2:=wx s.wo
 omega
section
variable {rl tl sl wo sa:Addr} {xs:List V} {rs:List Rw} {tab:List Row} {H0 H3:Hp}
structure WkH (H:Hp) (sl wo sa:Addr) (s:Sta) (n i:Nat):Prop where
 hs:H sl=some (.dK s.sl)
 hw:H wo=some (.dT (dOf s.wo))
 ha:H sa=some (.lst (s.sa.map V.int))
 sb:StB i s
 l1:s.sl.length≤i
 l2:s.wo.length≤n + i
 l3:s.sa.length≤i
def wkI (rl tl sl wo sa:Addr) (rs:List Rw) (s0:Sta) (n:Nat) (H3:Hp) (i:Nat) (σ:St) (H:Hp):Prop:=∃ (s:Sta) (o5 o6:Option V),σ=[some (.ref rl),some (.ref tl),some (.ref sl),some (.ref wo),some (.ref sa),o5,o6,none]∧(∀ b u,b≠sl→b≠wo→b≠sa→H3 b=some u→H b=some u)∧WkH H sl wo sa s n i∧yw (ofL rs) s0=yw (ofL (rs.drop i)) s
theorem Qd {α:Type} {l:List α} {i:Nat} {x:α} (h:l[i]?=some x):l.drop i=x :: l.drop (i + 1):=by
 have hi:=(List.getElem?_eq_some_iff.mp h).1
 rw [List.drop_eq_getElem_cons hi,(List.getElem?_eq_some_iff.mp h).2]
theorem vG {H H':Hp} (s:Same H H') {xs:List V} {rows:List Row} (h:Paired (vO H) xs rows):Paired (vO H') xs rows:=Paired.mapP h fun _ _ ⟨r,p,e,h1,h2⟩=>⟨r,p,e,s _ _ h1,s _ _ h2⟩
def cIt (its:List Row) (i:Nat) (ys:List V) (H:Hp):Prop:=Paired (vO H) ys ((its.take i).filter fun r=>decide (r.2≠0))
theorem Wv {o5 o6:Option V} {bl:Addr} {zs:List V} {s:Sta} {its:List Row} (ha:H sa=some (.lst (s.sa.map V.int))) (la:s.sa.length≤900) (hb:H bl=some (.lst zs)) (pz:Paired (vO H) zs its) (nd:(its.map (·.1)).Nodup) (li:its.length≤900) (hm:∀ p w,(p,w)∈its↔zP s.wo p=some w∧w≠0) (S:Same H0 H)
  (q:∀ r o l out H',Same H0 H'→H' r=some (.tup [o,.ref l])→vX H' o (.done s.sa)→LsAt H' l out→wI s.wo out→Q (.ref r) H') :
  xT K t { nx:=fun _ H'=>Q .non H',rt:=Q } [some (.ref rl),some (.ref tl),some (.ref sl),some (.ref wo),some (.ref sa),o5,o6,some (.ref bl)] H:=by
 simp only [xT,qt,kE,L2.start,zv,zc,tC,z0,zb,zi,tCB,List.map,List.replicate,List.length,List.append,List.cons_append,List.nil_append,List.append_nil,List.getElem?_cons_zero,List.getElem?_cons_succ,Option.some.injEq,exists_eq_left',exists_eq_left,V.int.injEq,V.ref.injEq,V.str.injEq,V.bl.injEq,V.ty.injEq,List.cons.injEq,and_true,true_and,and_assoc,exists_and_left,List.set_cons_zero,List.set_cons_succ,Nat.reduceSub,Nat.reduceAdd,decide_eq_true_eq,Bool.not_eq_true',decide_eq_false_iff_not,Int.reduceToNat,Int.reducePow,Int.reduceNeg,Int.reduceMul,Int.reduceAdd,if_true,ite_true,Bool.false_eq_true,ite_false,if_false]
 refine ⟨_,.inl ⟨SqL.of ha,fun y hy=>⟨by decide,fun p hp=>?_⟩⟩⟩
 have s1:=isV (o:=HO.tup (s.sa.map V.int)) y hy
 have s2:=isV (o:=HO.tup [V.str (Str.ofString "done"),V.ref y]) p hp
 have T:=s1.trans s2
 refine ⟨_,SqL.of (T _ _ hb),its,vG T pz,nd,by omega,fun l ys srt H3 s3 fl hl pz' ri pm=>⟨by decide,fun r hr=>?_⟩⟩
 have s4:=isV (o:=HO.tup [V.ref p,V.ref l]) r hr
 refine q r (.ref p) l srt _ (S.trans (T.trans (s3.trans s4))) zf ⟨p,y,rfl,(s3.trans s4) _ _ zf,(s2.trans (s3.trans s4)) _ _ zf⟩ ⟨ys,s4 _ _ hl,vG s4 pz'⟩ ⟨ri,fun p w=>?_⟩
 rw [pm.mem_iff];exact hm p w
theorem Ww {o5 o6:Option V} {s:Sta} {n i:Nat} (h:WkH H sl wo sa s n i) (hn:n + i≤300) (S:Same H0 H) (fr:H0 wo=none)
  (q:∀ r o l out H',Same H0 H'→H' r=some (.tup [o,.ref l])→vX H' o (.done s.sa)→LsAt H' l out→wI s.wo out→Q (.ref r) H') :
  xU K t { nx:=fun _ H'=>Q .non H',rt:=Q } [some (.ref rl),some (.ref tl),some (.ref sl),some (.ref wo),some (.ref sa),o5,o6,none] H:=by
 simp only [xU,qt,kE,Wd,L2.start,zq,zN,zo,Xu,ka,Xs,zv,tOp,zc,tC,z0,zb,zi,zr,tCB,yS,wU,rNe,yV,List.map,List.replicate,List.length,List.append,List.cons_append,List.nil_append,List.append_nil,List.getElem?_cons_zero,List.getElem?_cons_succ,Option.some.injEq,exists_eq_left',exists_eq_left,V.int.injEq,V.ref.injEq,V.str.injEq,V.bl.injEq,V.ty.injEq,List.cons.injEq,and_true,true_and,and_assoc,exists_and_left,List.set_cons_zero,List.set_cons_succ,Nat.reduceSub,Nat.reduceAdd,decide_eq_true_eq,Bool.not_eq_true',decide_eq_false_iff_not,Int.reduceToNat,Int.reducePow,Int.reduceNeg,Int.reduceMul,Int.reduceAdd,if_true,ite_true,Bool.false_eq_true,ite_false,if_false]
 refine ⟨wo,_,dOf s.wo,h.hw,.inl rfl,fun o=>?_⟩
 simp only [qt,kE,Wd,L2.start,zq,zN,zo,Xu,ka,Xs,zv,tOp,zc,tC,z0,zb,zi,zr,tCB,yS,wU,rNe,yV,List.map,List.replicate,List.length,List.append,List.cons_append,List.nil_append,List.append_nil,List.getElem?_cons_zero,List.getElem?_cons_succ,Option.some.injEq,exists_eq_left',exists_eq_left,V.int.injEq,V.ref.injEq,V.str.injEq,V.bl.injEq,V.ty.injEq,List.cons.injEq,and_true,true_and,and_assoc,exists_and_left,List.set_cons_zero,List.set_cons_succ,Nat.reduceSub,Nat.reduceAdd,decide_eq_true_eq,Bool.not_eq_true',decide_eq_false_iff_not,Int.reduceToNat,Int.reducePow,Int.reduceNeg,Int.reduceMul,Int.reduceAdd,if_true,ite_true,Bool.false_eq_true,ite_false,if_false]
 have ld:=wx s.wo
 have l2:=h.l2
 have l3:=h.l3
 obtain ⟨its,ei⟩:=V4 (dOf s.wo) (wH s.wo).2
 have li:its.length=(dOf s.wo).length:=by have:=congrArg List.length ei;rw [List.length_map] at this;exact this.symm
 have hf:upd H wo (.frz o (.dT (dOf s.wo))) wo=some (.frz o (.dT (dOf s.wo))):=zf
 have kf':∀ b u,b≠wo→H b=some u→upd H wo (.frz o (.dT (dOf s.wo))) b=some u:=fun b u n e=>by rw [zl n];exact e
 generalize upd H wo (.frz o (.dT (dOf s.wo)))=HF at *
 have nwa:sa≠wo:=yI h.ha h.hw (fun z=>nomatch z)
 refine ⟨o,dOf s.wo,hf,fun D hD=>?_⟩
 refine ZD (J:=Itm wo o (dOf s.wo)) its.length (by omega) (fun τ=>∃ x y,τ=[x,y]) (cIt its) (fun i ys H H' s h=>vT s h) ⟨_,_,rfl⟩ .nil (fun i H s h=>⟨s _ _ hf,by omega⟩) (fun H s=>⟨s _ _ hf,by omega⟩) hD ?_ ?_
 ·rintro i v τ ys H4 H5 ⟨x,y,rfl⟩ s4 hi hR ⟨T,k,v',p,hk,rfl,hT,hp,rfl⟩
  have hit:its[i]?=some its[i]:=List.getElem?_eq_getElem hi
  rw [ei,List.getElem?_map,hit] at hk
  obtain ⟨ek,ev⟩:=Prod.mk.inj (Option.some.inj hk)
  have s5:=isV (o:=HO.tup [V.ref p,v']) T hT
  simp only [qt,kE,Wd,L2.start,zq,zN,zo,Xu,ka,Xs,zv,tOp,zc,tC,z0,zb,zi,zr,tCB,yS,wU,rNe,yV,List.map,List.replicate,List.length,List.append,List.cons_append,List.nil_append,List.append_nil,List.getElem?_cons_zero,List.getElem?_cons_succ,Option.some.injEq,exists_eq_left',exists_eq_left,V.int.injEq,V.ref.injEq,V.str.injEq,V.bl.injEq,V.ty.injEq,List.cons.injEq,and_true,true_and,and_assoc,exists_and_left,List.set_cons_zero,List.set_cons_succ,Nat.reduceSub,Nat.reduceAdd,decide_eq_true_eq,Bool.not_eq_true',decide_eq_false_iff_not,Int.reduceToNat,Int.reducePow,Int.reduceNeg,Int.reduceMul,Int.reduceAdd,if_true,ite_true,Bool.false_eq_true,ite_false,if_false]
  subst ek ev
  have tk:its.take (i + 1)=its.take i ++ [its[i]]:=by rw [List.take_add_one,hit];rfl
  refine ⟨_,SqT.of zf,rfl,_,_,rfl,_,_,rfl,rfl,rfl,xB (fun c=>⟨by decide,fun p2 hp2=>⟨⟨_,rfl⟩,?_,s5.trans (isV p2 hp2)⟩⟩) fun c=>⟨⟨_,rfl⟩,?_,s5⟩⟩
  ·have hw0:its[i].2≠0:=fun z=>c (by rw [z])
   unfold cIt at hR ⊢
   rw [tk,List.filter_append,show [its[i]].filter (fun r:Row=>decide (r.2≠0))=[its[i]] by rw [List.filter_cons,if_pos (decide_eq_true hw0)];rfl]
   have s6:=s5.trans (isV (o:=HO.tup [V.ref p,V.int its[i].2]) p2 hp2)
   exact Paired.snocP (vG s6 hR) ⟨p2,p,rfl,zf,s6 _ _ hp⟩
  ·have hw0:its[i].2=0:=by simpa using c
   unfold cIt at hR ⊢
   rw [tk,List.filter_append,show [its[i]].filter (fun r:Row=>decide (r.2≠0))=[] by rw [List.filter_cons,if_neg (by rw [decide_eq_true_eq];exact fun z=>z hw0)];rfl,List.append_nil]
   exact vG s5 hR
 ·rintro ys H4 hly hR s4 hq
  have hR:Paired (vO H4) ys (its.filter fun r=>decide (r.2≠0)):=by
   unfold cIt at hR
   rw [List.take_length] at hR;exact hR
  have t5:qo H4 (upd H4 wo (.dT (dOf s.wo))):=fun b us e=>by rw [zl (fun z=>by rw [z,s4 _ _ hf] at e;cases e)];exact e
  have nD:D≠wo:=fun z=>by rw [z,hf] at hD;cases hD
  refine ⟨s4 _ _ hf,Wv (H0:=H0) (s:=s) (its:=its.filter fun r=>decide (r.2≠0)) (by rw [zl nwa];exact s4 _ _ (kf' _ _ nwa h.ha)) (by omega) (by rw [zl nD];exact hq) (vT t5 hR) ?_ ?_ (fun p w=>?_) (fun b u e=>?_) q⟩
  ·refine List.Nodup.sublist ((List.filter_sublist (l:=its)).map _) ?_
   refine xc (f:=zI) ?_
   have:=(wH s.wo).1
   rw [ei,List.map_map] at this
   rw [List.map_map]
   exact this
  ·exact Nat.le_trans (List.length_filter_le _ _) (by omega)
  ·rw [List.mem_filter]
   have m:(p,w)∈its↔zP s.wo p=some w:=by
    constructor
    ·intro hm
     have:(zI p,V.int w)∈dOf s.wo:=by rw [ei];exact List.mem_map_of_mem (f:=fun q:Row=>(zI q.1,V.int q.2)) hm
     obtain ⟨p',w',e1,e2⟩:=mem_dOf.mp this
     have ep:p=p':=xw (congrArg Prod.fst e1)
     have ew:w=w':=V.int.inj (congrArg Prod.snd e1)
     rw [ep,ew];exact e2
    ·intro hm
     have:(zI p,V.int w)∈dOf s.wo:=mem_dOf.mpr ⟨p,w,rfl,hm⟩
     rw [ei] at this
     obtain ⟨x,hx,e1⟩:=List.mem_map.mp this
     have ep:x.1=p:=xw (congrArg Prod.fst e1)
     have ew:x.2=w:=V.int.inj (congrArg Prod.snd e1)
     rw [← ep,← ew];exact hx
   rw [m]
   exact ⟨fun z=>⟨z.1,of_decide_eq_true z.2⟩,fun z=>⟨z.1,decide_eq_true z.2⟩⟩
  ·have nb:b≠wo:=fun z=>by rw [z,fr] at e;cases e
   rw [zl nb]
   exact s4 _ _ (kf' _ _ nb (S _ _ e))
theorem Wx (hn:tab.length≤250) (hx:H3 rl=some (.lst xs)) (hr:Zx H3 xs rs) (rb:∀ r∈rs,RwB r) (lr:rs.length≤40) (W:WkH H3 sl wo sa ⟨[],tab,[]⟩ tab.length 0) (S:Same H0 H3) (f1:H0 sl=none) (f2:H0 wo=none) (f3:H0 sa=none) (nr:rl≠sa)
  (q:∀ r o l s out H',Same H0 H'→H' r=some (.tup [o,.ref l])→vX H' o (.done s.sa)→LsAt H' l out→yw (ofL rs) ⟨[],tab,[]⟩=.go s→wI s.wo out→Q (.ref r) H') :
  xV K t { nx:=fun _ H'=>Q .non H',rt:=Q } [some (.ref rl),some (.ref tl),some (.ref sl),some (.ref wo),some (.ref sa),none,none,none] H3:=by
 simp only [xV,yz,xp,qt,z7,kE,Wd,L2.start,z7,zx,yj,zV,zq,zN,zo,Xu,ka,Xs,zv,yp,tOp,zc,tC,z0,zb,zi,xI,zE,zr,tCB,tBM,tyV,zn,yS,wU,x0,zV,rEq,rNe,yV,List.map,List.replicate,List.length,List.append,List.cons_append,List.nil_append,List.append_nil,List.getElem?_cons_zero,List.getElem?_cons_succ,Option.some.injEq,exists_eq_left',exists_eq_left,V.int.injEq,V.ref.injEq,V.str.injEq,V.bl.injEq,V.ty.injEq,List.cons.injEq,and_true,true_and,and_assoc,exists_and_left,List.set_cons_zero,List.set_cons_succ,Nat.reduceSub,Nat.reduceAdd,decide_eq_true_eq,Bool.not_eq_true',decide_eq_false_iff_not,Int.reduceToNat,Int.reducePow,Int.reduceNeg,Int.reduceMul,Int.reduceAdd,if_true,ite_true,Bool.false_eq_true,ite_false,if_false]
 have lx:=Paired.length hr
 have n1:rl≠sl:=yI hx W.hs (fun z=>nomatch z)
 have n2:rl≠wo:=yI hx W.hw (fun z=>nomatch z)
 have tn:∀ {b:Addr} {zs:List V},H3 b=some (.tup zs)→b≠sl∧b≠wo∧b≠sa:=fun e=>⟨yI e W.hs (fun z=>nomatch z),yI e W.hw (fun z=>nomatch z),yI e W.ha (fun z=>nomatch z)⟩
 have big:∀ {n:Nat},n≤900→n < sizeLine:=fun h=>Nat.lt_of_le_of_lt h (by decide)
 refine ⟨⟨_,SqL.of hx⟩,kT xs (wkI rl tl sl wo sa rs ⟨[],tab,[]⟩ tab.length H3) ⟨_,_,_,rfl,fun b u _ _ _ e=>e,W,by rw [List.drop_zero]⟩ (fun i σ H' ⟨_,_,_,_,kp,_⟩=>SqL.of (kp _ _ n1 n2 nr hx)) ?_ ?_⟩
 ·rintro i v σ H hv ⟨s,o5,o6,rfl,kp,W,ge⟩
  have hi:=(List.getElem?_eq_some_iff.mp hv).1
  obtain ⟨r,hri,rx⟩:=Paired.getP hr hv
  have rb':=rb r (List.mem_of_getElem? hri)
  have ed:=Qd hri
  have B:=Vd (k:=i) (by omega)
  have l1:=W.l1
  have l2:=W.l2
  have l3:=W.l3
  have ld:=wx s.wo
  have nsw:sl≠wo:=yI W.hs W.hw (fun z=>nomatch z)
  have nsa:sl≠sa:=yI W.hs W.ha (fun z=>nomatch z)
  have nwa:wo≠sa:=yI W.hw W.ha (fun z=>nomatch z)
  have tk:∀ {b:Addr} {zs:List V},H3 b=some (.tup zs)→H b=some (.tup zs):=fun e=>kp _ _ (tn e).1 (tn e).2.1 (tn e).2.2 e
  have nxt:∀ s',goR r s=.go s'→yw (ofL rs) ⟨[],tab,[]⟩=yw (ofL (rs.drop (i + 1))) s':=fun s' z=>by
   rw [ge,ed]
   show yw (.cons r (ofL (rs.drop (i + 1)))) s=_
   rw [yw,z]
  obtain ⟨p0,_,_,rfl,_⟩:=Wq rx rb'.ok.2.2.1
  simp only [yz,xp,qt,z7,kE,Wd,L2.start,z7,zx,yj,zV,zq,zN,zo,Xu,ka,Xs,zv,yp,tOp,zc,tC,z0,zb,zi,xI,zE,zr,tCB,tBM,tyV,zn,yS,wU,x0,zV,rEq,rNe,yV,List.map,List.replicate,List.length,List.append,List.cons_append,List.nil_append,List.append_nil,List.getElem?_cons_zero,List.getElem?_cons_succ,Option.some.injEq,exists_eq_left',exists_eq_left,V.int.injEq,V.ref.injEq,V.str.injEq,V.bl.injEq,V.ty.injEq,List.cons.injEq,and_true,true_and,and_assoc,exists_and_left,List.set_cons_zero,List.set_cons_succ,Nat.reduceSub,Nat.reduceAdd,decide_eq_true_eq,Bool.not_eq_true',decide_eq_false_iff_not,Int.reduceToNat,Int.reducePow,Int.reduceNeg,Int.reduceMul,Int.reduceAdd,if_true,ite_true,Bool.false_eq_true,ite_false,if_false]
  cases r with
  | off e=>exact rb'.elim
  | iff e x y=>exact rb'.elim
  | say e =>
   unfold RwAt at rx;obtain ⟨p',te,ep,_,_,e2,e3⟩:=rx
   cases ep
   refine ⟨_,SqT.of (tk e2),_,rfl,rfl,?_⟩
   rw [if_pos (by rfl)]
   refine ⟨.inl ⟨_,SqL.of W.ha⟩,_,SqT.of (tk e2),_,rfl,te,rfl,e,tk e3,_,W.hs,rb',_,W.sb.sl,B,fun j H1 ei _ _ s1=>⟨_,s1 _ _ W.ha,big (by rw [List.length_map];omega),?_⟩⟩
   refine ⟨_,_,_,rfl,fun b u m1 m2 m3 e=>by rw [zl m3];exact s1 _ _ (kp b u m1 m2 m3 e),⟨by rw [zl nsa];exact s1 _ _ W.hs,by rw [zl nwa];exact s1 _ _ W.hw,?_,za9 W.sb (by omega) j,by show s.sl.length≤i + 1;omega,by show s.wo.length≤tab.length + (i + 1);omega,?_⟩,nxt _ (zba ei)⟩
   ·rw [zf,List.map_append];rfl
   ·show (s.sa ++ [j]).length≤i + 1
    rw [List.length_append,List.length_singleton];omega
  | lt x e =>
   unfold RwAt at rx;obtain ⟨p',te,ep,_,_,e2,e3⟩:=rx
   cases ep
   refine ⟨_,SqT.of (tk e2),_,rfl,rfl,?_⟩
   rw [if_neg (fun z=>absurd (V.str.inj z) (by decide +kernel))]
   refine ⟨_,SqT.of (tk e2),_,rfl,rfl,?_⟩
   rw [if_pos (by rfl)]
   refine ⟨_,SqT.of (tk e2),_,rfl,te,rfl,e,tk e3,_,W.hs,rb'.2,_,W.sb.sl,B,fun j H1 ei b1 b2 s1=>⟨_,SqT.of (s1 _ _ (tk e2)),_,rfl,_,DPut.k (k:=.inr x) (s1 _ _ W.hs) (big (by omega)),?_⟩⟩
   have lp:=yT s.sl (.inr x) (V.int j)
   exact ⟨_,_,_,rfl,fun b u m1 m2 m3 e=>by rw [zl m1];exact s1 _ _ (kp b u m1 m2 m3 e),⟨zf,by rw [zl (Ne.symm nsw)];exact s1 _ _ W.hw,by rw [zl (Ne.symm nsa)];exact s1 _ _ W.ha,za8 W.sb (by omega) x b1 b2,by show (yA s.sl (.inr x) (V.int j)).length≤i + 1;omega,by show s.wo.length≤tab.length + (i + 1);omega,by show s.sa.length≤i + 1;omega⟩,nxt _ (zbb ei)⟩
  | take sh e x =>
   unfold RwAt at rx;obtain ⟨p',te,ep,_,_,e2,e3⟩:=rx
   cases ep
   refine ⟨_,SqT.of (tk e2),_,rfl,rfl,?_⟩
   rw [if_neg (fun z=>absurd (V.str.inj z) (by decide +kernel))]
   refine ⟨_,SqT.of (tk e2),_,rfl,rfl,?_⟩
   rw [if_neg (fun z=>absurd (V.str.inj z) (by decide +kernel))]
   refine ⟨_,SqT.of (tk e2),_,rfl,_,SqT.of (tk e2),_,rfl,te,rfl,e,tk e3,_,W.hs,rb'.2.2,_,W.sb.sl,B,fun n H1 en _ _ s1=>⟨by decide,fun q0 hq0=>?_⟩⟩
   have s2:=isV (o:=HO.tup [V.str sh,V.int n]) q0 hq0
   have hq:upd H1 q0 (HO.tup [V.str sh,V.int n]) q0=some (.tup ((zI (sh,n)).map kV)):=zf
   generalize upd H1 q0 (HO.tup [V.str sh,V.int n])=H2 at *
   have T:=s1.trans s2
   refine ⟨_,SqT.of (T _ _ (tk e2)),_,rfl,rfl,?_⟩
   rw [if_pos rfl]
   have g:DGet H2 wo (.ref q0) ((zP s.wo (sh,n)).map V.int):=.inr ⟨dOf s.wo,zI (sh,n),q0,.inl (T _ _ W.hw),rfl,hq,(ky s.wo (sh,n)).symm⟩
   have eg:((zP s.wo (sh,n)).map V.int).getD (V.int 0)=V.int ((zP s.wo (sh,n)).getD 0):=by cases zP s.wo (sh,n) <;> rfl
   refine ⟨.inr ⟨_,.inl (T _ _ W.hw)⟩,_,g,?_⟩
   rw [eg]
   have lp:=yT s.sl (.inr x) (V.int ((zP s.wo (sh,n)).getD 0))
   exact ⟨_,SqT.of (T _ _ (tk e2)),_,rfl,_,DPut.k (k:=.inr x) (T _ _ W.hs) (big (by omega)),_,_,_,rfl,fun b u m1 m2 m3 e=>by rw [zl m1];exact T _ _ (kp b u m1 m2 m3 e),⟨zf,by rw [zl (Ne.symm nsw)];exact T _ _ W.hw,by rw [zl (Ne.symm nsa)];exact T _ _ W.ha,Q9 W.sb (by omega) x _,by show (yA s.sl (.inr x) (V.int ((zP s.wo (sh,n)).getD 0))).length≤i + 1;omega,by show s.wo.length≤tab.length + (i + 1);omega,by show s.sa.length≤i + 1;omega⟩,nxt _ (zab en)⟩
  | give sh e f =>
   unfold RwAt at rx;obtain ⟨p',te,tf,ep,_,_,_,e2,e3,e4⟩:=rx
   cases ep
   refine ⟨_,SqT.of (tk e2),_,rfl,rfl,?_⟩
   rw [if_neg (fun z=>absurd (V.str.inj z) (by decide +kernel))]
   refine ⟨_,SqT.of (tk e2),_,rfl,rfl,?_⟩
   rw [if_neg (fun z=>absurd (V.str.inj z) (by decide +kernel))]
   refine ⟨_,SqT.of (tk e2),_,rfl,_,SqT.of (tk e2),_,rfl,te,rfl,e,tk e3,_,W.hs,rb'.2.1,_,W.sb.sl,B,fun n H1 en _ _ s1=>⟨by decide,fun q0 hq0=>?_⟩⟩
   have s2:=isV (o:=HO.tup [V.str sh,V.int n]) q0 hq0
   have hq:upd H1 q0 (HO.tup [V.str sh,V.int n]) q0=some (.tup ((zI (sh,n)).map kV)):=zf
   generalize upd H1 q0 (HO.tup [V.str sh,V.int n])=H2 at *
   have T:=s1.trans s2
   refine ⟨_,SqT.of (T _ _ (tk e2)),_,rfl,rfl,?_⟩
   rw [if_neg (fun z=>absurd (V.str.inj z) (by decide +kernel))]
   refine ⟨_,SqT.of (T _ _ (tk e2)),_,rfl,tf,rfl,f,T _ _ (tk e4),_,T _ _ W.hs,rb'.2.2,_,W.sb.sl,B,fun j H4 ej b1 b2 s4=>⟨_,DPut.t (k:=zI (sh,n)) ((T.trans s4) _ _ W.hw) (s4 _ _ hq) (big (by omega)),?_⟩⟩
   have U:=T.trans s4
   exact ⟨_,_,_,rfl,fun b u m1 m2 m3 e=>by rw [zl m2];exact U _ _ (kp b u m1 m2 m3 e),⟨by rw [zl nsw];exact U _ _ W.hs,by rw [zf,kz],by rw [zl (Ne.symm nwa)];exact U _ _ W.ha,zaa W.sb (by omega) _ b1 b2,by show s.sl.length≤i + 1;omega,by show (s.wo ++ [((sh,n),j)]).length≤tab.length + (i + 1);rw [List.length_append,List.length_singleton];omega,by show s.sa.length≤i + 1;omega⟩,nxt _ (zac en ej)⟩
 ·rintro σ H ⟨s,o5,o6,rfl,kp,W,ge⟩
  rw [lx,List.drop_length] at ge
  have ge:yw (ofL rs) ⟨[],tab,[]⟩=.go s:=by rw [ge];unfold ofL yw;rfl
  exact Ww (H0:=H0) W (by omega) (fun b u e=>kp b u (fun z=>by rw [z,f1] at e;cases e) (fun z=>by rw [z,f2] at e;cases e) (fun z=>by rw [z,f3] at e;cases e) (S _ _ e)) f2 fun r o l out H' s' h1 h2 h3 h4=>q r o l s out H' s' h1 h2 h3 ge h4
theorem qx (h1:H rl=some (.lst xs)) (h2:Zx H xs rs) (h3:∀ r∈rs,RwB r) (h4:rs.length≤40) (h5:LsAt H tl tab) (h6:TaB tab) (q:∀ r o l s out H',Same H H'→H' r=some (.tup [o,.ref l])→vX H' o (.done s.sa)→LsAt H' l out→yw (ofL rs) ⟨[],tab,[]⟩=.go s→wI s.wo out→Q (.ref r) H') :
  wP K t { nx:=fun _ H'=>Q .non H',rt:=Q } (L2.start ["rows","table","slots","stands_now","said","row","place","behind"] [.ref rl,.ref tl]) H:=by
 obtain ⟨zs,hz,pz⟩:=h5
 have le:=h6.le
 simp only [wP,xp,qt,qj,z7,kE,Wd,L2.start,z7,zx,yj,zV,zq,zN,zo,Xu,ka,Xs,zv,yp,tOp,zc,tC,wG,z0,zb,zi,xI,zE,zr,tCB,tBM,tyV,zn,yS,wU,qU,x0,zV,rEq,rNe,yV,List.map,List.replicate,List.length,List.append,List.cons_append,List.nil_append,List.append_nil,List.getElem?_cons_zero,List.getElem?_cons_succ,Option.some.injEq,exists_eq_left',exists_eq_left,V.int.injEq,V.ref.injEq,V.str.injEq,V.bl.injEq,V.ty.injEq,List.cons.injEq,and_true,true_and,and_assoc,exists_and_left,List.set_cons_zero,List.set_cons_succ,Nat.reduceSub,Nat.reduceAdd,decide_eq_true_eq,Bool.not_eq_true',decide_eq_false_iff_not,Int.reduceToNat,Int.reducePow,Int.reduceNeg,Int.reduceMul,Int.reduceAdd,if_true,ite_true,Bool.false_eq_true,ite_false,if_false]
 intro sl hsl
 have s1:=isV (o:=HO.dK []) sl hsl
 refine ⟨_,s1 _ _ hz,tab,vG s1 pz,by omega,fun wo hwo=>⟨by decide,fun sa hsa=>?_⟩⟩
 have s2:=isV (o:=HO.dT (dOf tab)) wo hwo
 have s3:=isV (o:=HO.lst []) sa hsa
 have T:=s1.trans (s2.trans s3)
 have nr:rl≠sa:=zG ((s1.trans s2) _ _ h1) hsa
 exact Wx (H0:=H) le (T _ _ h1) (Paired.mapP h2 fun _ r z=>RwAt.to_ (fun _ _ f _=>f) (fun b o _ e=>T b o e) r z) h3 h4 ⟨(s2.trans s3) _ _ zf,s3 _ _ zf,zf,st0 h6,Nat.zero_le _,Nat.le_refl _,Nat.zero_le _⟩ T hsl (z5 s1 hwo) (z5 (s1.trans s2) hsa) nr q
end
section
variable {C:List Nat}
theorem Qe:PyData.strOk (Str.ofString "done")=true:=by decide +kernel
def ocD:Oc→PyData
 | .done sa=>.tuple [.str (Str.ofString "done"),.tuple (sa.map PyData.int)]
 | .off w=>.tuple [.str (Str.ofString "off"),.str w]
theorem Xn {H':Hp} {v:V} {oc:Oc} (h:vX H v oc) (s:Same H H'):vX H' v oc:=by
 cases oc with
 | done sa=>obtain ⟨o,y,e1,e2,e3⟩:=h;exact ⟨o,y,e1,s _ _ e2,s _ _ e3⟩
 | off w=>obtain ⟨o,e1,e2⟩:=h;exact ⟨o,e1,s _ _ e2⟩
theorem zbc {v:V} {oc:Oc} (h:vX H v oc):Dat K H v (ocD oc):=by
 cases oc with
 | done sa =>
  obtain ⟨o,y,rfl,e2,e3⟩:=h
  exact .tup (SqT.of e2) (.cons (.str _) (.cons (.tup (SqT.of e3) (DatAll.of fun i _=>.int i)) .nil))
 | off w =>
  obtain ⟨o,rfl,e2⟩:=h
  exact .tup (SqT.of e2) (.cons (.str _) (.cons (.str _) .nil))
theorem ZS:∀ (sa:List Int),zR (sa.map PyData.int)=true
 | []=>rfl
 | i :: t=>by rw [List.map_cons,zR,ZS t];rfl
theorem YN:∀ (sa:List Int),PyData.depthAll (sa.map PyData.int)=0
 | []=>by simp [PyData.depthAll]
 | i :: t=>by rw [List.map_cons,PyData.depthAll,YN t,PyData.depth];rfl
theorem Qf {oc:Oc} (h:∀ w,oc=.off w→PyData.strOk w=true):zB (ocD oc)=true:=by
 cases oc with
 | done sa=>have:=Qe;simp [ocD,zB,zR,ZS,this]
 | off w=>have:=h w rfl;have k:=VW;simp [ocD,zB,zR,this,k]
theorem zad (oc:Oc):(ocD oc).depth≤3:=by
 cases oc with
 | done sa=>simp only [ocD,PyData.depth,PyData.depthAll,YN];omega
 | off w=>simp only [ocD,PyData.depth,PyData.depthAll];omega
end
theorem LsAt.dat {H:Hp} {a:Addr} {rows:List Row} (h:LsAt H a rows):Dat K H (.ref a) (.list (rows.map Z2)):=by
 obtain ⟨xs,h1,h2⟩:=h
 exact .lst (SqL.of h1) (Wp h2)
theorem zbd {rows:List Row} {xs:List V} (h:Paired (vO H) xs rows):∀ v∈xs,PlV H 4 v:=by
 intro v hv
 obtain ⟨i,hi⟩:=List.getElem?_of_mem hv
 obtain ⟨q,_,r,p,rfl,e1,e2⟩:=Paired.getP h hi
 refine .tup e1 fun y hy=>?_
 simp only [List.mem_cons,List.not_mem_nil,or_false] at hy
 rcases hy with rfl | rfl
 ·refine .tup e2 fun y hy=>?_
  simp only [List.mem_cons,List.not_mem_nil,or_false] at hy
  rcases hy with rfl | rfl
  ·exact .str _
  ·exact .int _
 ·exact .int _
theorem ZT {H:Hp}:∀ {xs:List V} {rs:List Rw},Zx H xs rs→RwsAt jW H xs (ofL rs)
 | _,_,.nil=>by rw [ofL,RwsAt]
 | _,_,.cons h t=>by rw [ofL,RwsAt];exact ⟨_,_,rfl,h,ZT t⟩
theorem Xo {H H':Hp} {xs:List V} {rs:List Rw} (s:Same H H') (h:Zx H xs rs):Zx H' xs rs:=Paired.mapP h fun _ r z=>RwAt.to_ (fun _ _ f _=>f) (fun b o _ e=>s b o e) r z
theorem zas:∀ {rs:List Rw},(∀ r∈rs,RwB r)→qk (fun p=>ye p.1=true) (ofL rs)
 | [],_=>by rw [ofL,qk];trivial
 | r :: rs,h=>by
  rw [ofL,qk]
  refine ⟨?_,zas fun x hx=>h x (List.mem_cons_of_mem _ hx)⟩
  have hr:=h r List.mem_cons_self
  cases r with
  | give sh e f=>rw [Jt];exact fun _ _ _=>hr.1
  | iff e a b=>exact hr.elim
  | _=>unfold Jt;trivial
theorem zbC (ns:List Int):∃ ys:List Int,ki (ns.map V.int) (some 2) (some 42)=ys.map V.int∧ys.length≤40:=by
 refine ⟨(ns.drop (HT.sIx ns.length 0 (some 2))).take (HT.sIx ns.length ns.length (some 42) - HT.sIx ns.length 0 (some 2)),?_,?_⟩
 ·unfold ki
  rw [List.map_take,List.map_drop,List.length_map]
 ·have e1:HT.sIx ns.length 0 (some 2)=min 2 ns.length:=HT.sIx_nat _ _ 2
  have e2:HT.sIx ns.length ns.length (some 42)=min 42 ns.length:=HT.sIx_nat _ _ 42
  rw [List.length_take,e1,e2];omega
section
variable {a sa sb tl rl d hd l hr ht:Addr} {o:V} {xs:List V} {rs:List Rw} {tab out:List Row} {s:Sta}
structure LkH (H:Hp) (tl rl d hd l hr ht:Addr) (o:V) (xs:List V) (rs:List Rw) (tab out:List Row) (s:Sta):Prop where
 ht_:LsAt H tl tab
 hr_:H rl=some (.lst xs)
 rr:Zx H xs rs
 hd1:H d=some (.tup [o,.ref l])
 oc:vX H o (.done s.sa)
 ls:LsAt H l out
 hh:H hd=some (.lst [.ref hr,.ref ht])
 h1:H hr=some (.lst xs)
 h2:LsAt H ht tab
structure LkP (rs:List Rw) (tab out:List Row) (s:Sta):Prop where
 rb:∀ r∈rs,RwB r
 lr:rs.length≤40
 ta:TaB tab
 ge:yw (ofL rs) ⟨[],tab,[]⟩=.go s
 ti:wI s.wo out
theorem LkH.same {H':Hp} (L:LkH H tl rl d hd l hr ht o xs rs tab out s) (k:Same H H'):LkH H' tl rl d hd l hr ht o xs rs tab out s :=
 ⟨L.ht_.same k,k _ _ L.hr_,Xo k L.rr,k _ _ L.hd1,Xn L.oc k,L.ls.same k,k _ _ L.hh,k _ _ L.h1,L.h2.same k⟩
theorem LkP.nm (P:LkP rs tab out s):∀ q∈out,KZ q:=fun q hq=>qG (P:=fun p=>ye p.1=true) (ofL rs) (fun q hq=>(P.ta.nm q hq).1) (zas P.rb) P.ge _ (vF ((P.ti.2 q.1 q.2).mp hq).1)
theorem LkP.tn (P:LkP rs tab out s):∀ q∈tab,KZ q:=fun q hq=>(P.ta.nm q hq).1
theorem LkP.lo (P:LkP rs tab out s):out.length≤400:=by
 have h:=(Vf P.rb P.lr P.ta)
 obtain ⟨a,b,c,_⟩:=Wu P.rb
 have le:=P.ta.le
 have lr:=P.lr
 have S0:StOk tab.length ⟨[],tab,[]⟩:=⟨fun k v e=>(by cases e),h.iw,Nat.zero_le _,Nat.le_refl _,Nat.zero_le _⟩
 have l2:=(jF (ofL rs) S0 a P.ge).l2
 have:=kY P.ti.1.nd (b:=s.wo.map (·.1)) fun p hp=>by
  obtain ⟨x,hx,rfl⟩:=List.mem_map.mp hp
  exact List.mem_map_of_mem (f:=(·.1)) (vF ((P.ti.2 x.1 x.2).mp hx).1)
 rw [List.length_map,List.length_map] at this
 omega
theorem LkP.al (P:LkP rs tab out s) {oc:Oc} {out2:List Row} (h:wK (ofL rs) tab oc out2):oc=.done s.sa∧out2=out:=by
 unfold wK at h
 rw [P.ge] at h
 exact ⟨h.1,Kv h.2 P.ti⟩
def Qg (sa:List Int) (out:List Row):PyData:=.tuple [ocD (.done sa),.list (out.map Z2)]
theorem qI {r l:Addr} {o:V} {sa:List Int} (h1:H r=some (.tup [o,.ref l])) (h2:vX H o (.done sa)) (h3:LsAt H l out):Dat K H (.ref r) (Qg sa out):=.tup (SqT.of h1) (.cons (zbc h2) (.cons h3.dat .nil))
theorem LkP.pl (P:LkP rs tab out s):zB (Qg s.sa out)=true∧(Qg s.sa out).depth≤64:=by
 have p1:=Qf (oc:=.done s.sa) (fun w e=>nomatch e)
 have p2:=j8 P.nm
 have d1:=zad (.done s.sa)
 have d2:=qc out
 constructor
 ·unfold Qg;rw [zB,zR,zR,zB,p1,p2];rfl
 ·unfold Qg;simp only [PyData.depth,PyData.depthAll] at d1 d2 ⊢;omega
theorem zbe {r l:Addr} {o:V} {sa:List Int} (h1:H r=some (.tup [o,.ref l])) (h2:vX H o (.done sa)) (h3:LsAt H l out):PlV H 6 (.ref r):=by
 obtain ⟨o',y,rfl,e1,e2⟩:=h2
 obtain ⟨xs,hx,px⟩:=h3
 refine .tup h1 fun z hz=>?_
 simp only [List.mem_cons,List.not_mem_nil,or_false] at hz
 rcases hz with rfl | rfl
 ·refine .tup e1 fun z hz=>?_
  simp only [List.mem_cons,List.not_mem_nil,or_false] at hz
  rcases hz with rfl | rfl
  ·exact .str _
  ·refine .tup e2 fun z hz=>?_
   obtain ⟨i,_,rfl⟩:=List.mem_map.mp hz
   exact .int i
 ·exact .lst hx (zbd px)
theorem JB {v7:V} (L:LkH H tl rl d hd l hr ht o xs rs tab out s) (P:LkP rs tab out s) (q:∀ H',Q (.bl true) H') :
  k9 K t { nx:=fun _ H'=>Q .non H',rt:=Q } [some (.ref a),some (.ref sa),some (.ref sb),some (.ref tl),some (.ref rl),some (.ref d),some (.ref hd),some v7] H:=by
 simp only [k9,jk,kX,L2.start,zv,tOp,zc,tC,zb,zi,zn,yD,List.map,List.replicate,List.length,List.append,List.cons_append,List.nil_append,List.append_nil,List.getElem?_cons_zero,List.getElem?_cons_succ,Option.some.injEq,exists_eq_left',exists_eq_left,V.int.injEq,V.ref.injEq,V.str.injEq,V.bl.injEq,V.ty.injEq,List.cons.injEq,and_true,true_and,and_assoc,exists_and_left,List.set_cons_zero,List.set_cons_succ,Nat.reduceSub,Nat.reduceAdd,decide_eq_true_eq,Bool.not_eq_true',decide_eq_false_iff_not,Int.reduceToNat,Int.reducePow,Int.reduceNeg,Int.reduceMul,Int.reduceAdd,if_true,ite_true,Bool.false_eq_true,ite_false,if_false]
 refine ⟨_,SqL.of L.hh,_,rfl,_,SqL.of L.hh,_,rfl,ht,rfl,ofL rs,⟨hr,xs,rfl,trivial,L.h1,ZT L.rr⟩,tab,L.h2,Vf P.rb P.lr P.ta,fun r o2 l2 oc out2 H1 s1 fl e1 e2 e3 al=>?_⟩
 obtain ⟨z1,z2⟩:=P.al al
 subst z1 z2
 have L1:=L.same s1
 exact ⟨_,qI e1 e2 e3,_,qI L1.hd1 L1.oc L1.ls,P.pl.1,P.pl.1,P.pl.2,P.pl.2,fun b hb=>by rw [hb.mpr rfl];exact q _⟩
theorem Qh {v7:V} (L:LkH H tl rl d hd l hr ht o xs rs tab out s) (P:LkP rs tab out s) (q:∀ H',Q (.bl true) H') :
  Zz K t { nx:=fun _ H'=>Q .non H',rt:=Q } [some (.ref a),some (.ref sa),some (.ref sb),some (.ref tl),some (.ref rl),some (.ref d),some (.ref hd),some v7] H:=by
 simp only [Zz,kX,L2.start,zq,zv,zA,tOp,zc,tC,zb,zi,zE,tOr,zr,zn,yD,List.map,List.replicate,List.length,List.append,List.cons_append,List.nil_append,List.append_nil,List.getElem?_cons_zero,List.getElem?_cons_succ,Option.some.injEq,exists_eq_left',exists_eq_left,V.int.injEq,V.ref.injEq,V.str.injEq,V.bl.injEq,V.ty.injEq,List.cons.injEq,and_true,true_and,and_assoc,exists_and_left,List.set_cons_zero,List.set_cons_succ,Nat.reduceSub,Nat.reduceAdd,decide_eq_true_eq,Bool.not_eq_true',decide_eq_false_iff_not,Int.reduceToNat,Int.reducePow,Int.reduceNeg,Int.reduceMul,Int.reduceAdd,if_true,ite_true,Bool.false_eq_true,ite_false,if_false]
 have pr:=(Wu P.rb).2.2.2
 have dp:=(Wu P.rb).2.1
 have p1:zB (.list (jY (ofL rs)))=true:=by rw [zB];exact jG _ pr
 have d1:(PyData.list (jY (ofL rs))).depth≤64:=by have:=kD (ofL rs);rw [PyData.depth];omega
 have p2:zB (.list (tab.map Z2))=true:=by rw [zB];exact j8 P.tn
 have d2:(PyData.list (tab.map Z2)).depth≤64:=by have:=qc tab;rw [PyData.depth];omega
 have R1:RlAt jW H (.ref hr) (ofL rs):=⟨hr,xs,rfl,trivial,L.h1,ZT L.rr⟩
 have R2:RlAt jW H (.ref rl) (ofL rs):=⟨rl,xs,rfl,trivial,L.hr_,ZT L.rr⟩
 refine ⟨_,SqL.of L.hh,_,rfl,_,R1.dat pr,_,R2.dat pr,p1,p1,d1,d1,fun b hb=>?_⟩
 rw [hb.mpr rfl,if_neg (by decide)]
 refine ⟨_,SqL.of L.hh,_,rfl,_,L.h2.dat,_,L.ht_.dat,p2,p2,d2,d2,fun b hb=>?_⟩
 rw [hb.mpr rfl,if_neg (by decide)]
 exact JB L P q
theorem Qi {r7 l7:Addr} {o7:V} {H0:Hp} (L:LkH H0 tl rl d hd l hr ht o xs rs tab out s) (S:Same H0 H) (fl:H0 l7=none) (P:LkP rs tab out s) (e1:H r7=some (.tup [o7,.ref l7])) (e2:vX H o7 (.done s.sa)) (e3:LsAt H l7 out) (q:∀ H',Q (.bl true) H') :
  ZA K t { nx:=fun _ H'=>Q .non H',rt:=Q } [some (.ref a),some (.ref sa),some (.ref sb),some (.ref tl),some (.ref rl),some (.ref d),some (.ref hd),some (.ref r7)] H:=by
 simp only [ZA,Wi,yO,kX,L2.start,zx,yj,zV,zq,zv,yp,zA,tOp,zc,tC,z0,zb,zi,zE,tOr,wE,zr,tB,tCB,tBM,tyV,zn,yD,zV,vN,List.map,List.replicate,List.length,List.append,List.cons_append,List.nil_append,List.append_nil,List.getElem?_cons_zero,List.getElem?_cons_succ,Option.some.injEq,exists_eq_left',exists_eq_left,V.int.injEq,V.ref.injEq,V.str.injEq,V.bl.injEq,V.ty.injEq,List.cons.injEq,and_true,true_and,and_assoc,exists_and_left,List.set_cons_zero,List.set_cons_succ,Nat.reduceSub,Nat.reduceAdd,decide_eq_true_eq,Bool.not_eq_true',decide_eq_false_iff_not,Int.reduceToNat,Int.reducePow,Int.reduceNeg,Int.reduceMul,Int.reduceAdd,if_true,ite_true,Bool.false_eq_true,ite_false,if_false]
 refine ⟨zbe e1 e2 e3,fun H1 s1=>?_⟩
 rw [if_neg (by decide)]
 have L1:=L.same (S.trans s1)
 refine ⟨_,qI (s1 _ _ e1) (Xn e2 s1) (e3.same s1),_,qI L1.hd1 L1.oc L1.ls,P.pl.1,P.pl.1,P.pl.2,P.pl.2,fun b hb=>?_⟩
 rw [hb.mpr rfl,if_neg (by decide)]
 obtain ⟨zs,hz,pz⟩:=e3
 have lz:=Paired.length pz
 have lo:=P.lo
 refine ⟨_,SqT.of (s1 _ _ e1),_,rfl,_,.lst (s1 _ _ hz),true,kG "list",?_⟩
 rw [if_neg (by decide)]
 refine ⟨_,SqT.of (s1 _ _ e1),_,rfl,.inl ⟨_,SqL.of (s1 _ _ hz)⟩,by decide,fun p hp=>⟨by decide,fun p1 hp1=>?_⟩⟩
 have s2:=isV (o:=HO.tup [V.str (Str.ofString "z"),V.int 1]) p hp
 have s3:=isV (o:=HO.tup [V.ref p,V.int 5]) p1 hp1
 have T:=S.trans (s1.trans (s2.trans s3))
 refine ⟨l7,rfl,zs,(s1.trans (s2.trans s3)) _ _ hz,Nat.lt_of_le_of_lt (by omega:_≤900) (by decide),Qh (L.same fun b u e=>?_) P q⟩
 rw [zl (fun z=>by rw [z,fl] at e;cases e)]
 exact T _ _ e
theorem Qj (L:∀ hd hr ht H',Same H H'→H' hd=some (.lst [.ref hr,.ref ht])→H' hr=some (.lst xs)→LsAt H' ht tab→LkH H' tl rl d hd l hr ht o xs rs tab out s) (hx:H rl=some (.lst xs)) (htl:LsAt H tl tab) (P:LkP rs tab out s) (q:∀ H',Q (.bl true) H') :
  ZB K t { nx:=fun _ H'=>Q .non H',rt:=Q } [some (.ref a),some (.ref sa),some (.ref sb),some (.ref tl),some (.ref rl),some (.ref d),none,none] H:=by
 obtain ⟨zs,hz,pz⟩:=htl
 simp only [ZB,Wj,jk,kX,L2.start,XR,zx,yj,zV,zq,zN,zo,zv,yp,zA,tOp,zc,tC,wG,z0,zb,zi,zE,tOr,wE,zr,tB,tCB,tBM,tyV,zn,yD,zV,vN,List.map,List.replicate,List.length,List.append,List.cons_append,List.nil_append,List.append_nil,List.getElem?_cons_zero,List.getElem?_cons_succ,Option.some.injEq,exists_eq_left',exists_eq_left,V.int.injEq,V.ref.injEq,V.str.injEq,V.bl.injEq,V.ty.injEq,List.cons.injEq,and_true,true_and,and_assoc,exists_and_left,List.set_cons_zero,List.set_cons_succ,Nat.reduceSub,Nat.reduceAdd,decide_eq_true_eq,Bool.not_eq_true',decide_eq_false_iff_not,Int.reduceToNat,Int.reducePow,Int.reduceNeg,Int.reduceMul,Int.reduceAdd,if_true,ite_true,Bool.false_eq_true,ite_false,if_false]
 refine ⟨xs,.inl (SqL.of hx),fun hr hhr=>?_⟩
 have s1:=isV (o:=HO.lst xs) hr hhr
 refine ⟨zs,.inl (SqL.of (s1 _ _ hz)),fun ht hht=>⟨by decide,fun hd hhd=>?_⟩⟩
 have s2:=isV (o:=HO.lst zs) ht hht
 have s3:=isV (o:=HO.lst [V.ref hr,V.ref ht]) hd hhd
 have L0:=L hd hr ht _ (s1.trans (s2.trans s3)) zf ((s2.trans s3) _ _ zf) ⟨zs,s3 _ _ zf,vG (s1.trans (s2.trans s3)) pz⟩
 generalize upd (upd (upd H hr (HO.lst xs)) ht (HO.lst zs)) hd (HO.lst [V.ref hr,V.ref ht])=H3 at *
 refine ⟨_,SqL.of L0.hh,_,rfl,_,SqL.of L0.hh,_,rfl,ht,rfl,ofL rs,⟨hr,xs,rfl,trivial,L0.h1,ZT L0.rr⟩,tab,L0.h2,Vf P.rb P.lr P.ta,fun r o2 l2 oc out2 H4 s4 fl e1 e2 e3 al=>?_⟩
 obtain ⟨z1,z2⟩:=P.al al
 subst z1 z2
 exact Qi L0 s4 fl P e1 e2 e3 q
def rwR (i:Nat) (ys:List V) (H:Hp):Prop:=∃ rs,Zx H ys rs∧(∀ r∈rs,RwB r)∧rs.length=i
theorem zbD {H H':Hp} {xs:List V} {rs:List Rw} (s:qo H H') (rb:∀ r∈rs,RwB r) (h:Zx H xs rs):Zx H' xs rs:=by
 unfold Zx at h ⊢
 induction h with
 | nil=>exact .nil
 | cons h t ih =>
  rename_i v r vs rs
  refine .cons ?_ (ih fun x hx=>rb x (List.mem_cons_of_mem _ hx))
  have hr:=rb r List.mem_cons_self
  cases r with
  | take sh e sl=>unfold RwAt at h ⊢;obtain ⟨a,b,e0,f1,f2,e1,e2⟩:=h;exact ⟨a,b,e0,f1,f2,s _ _ e1,s _ _ e2⟩
  | give sh e f=>unfold RwAt at h ⊢;obtain ⟨a,b,c,e0,f1,f2,f3,e1,e2,e3⟩:=h;exact ⟨a,b,c,e0,f1,f2,f3,s _ _ e1,s _ _ e2,s _ _ e3⟩
  | lt x e=>unfold RwAt at h ⊢;obtain ⟨a,b,e0,f1,f2,e1,e2⟩:=h;exact ⟨a,b,e0,f1,f2,s _ _ e1,s _ _ e2⟩
  | say e=>unfold RwAt at h ⊢;obtain ⟨a,b,e0,f1,f2,e1,e2⟩:=h;exact ⟨a,b,e0,f1,f2,s _ _ e1,s _ _ e2⟩
  | off e=>exact hr.elim
  | iff e x y=>exact hr.elim
theorem Qk {ws us:List Str} {ns:List Int} (hS:SqL K H a (ns.map V.int)) (hn:ns.length≤63) (n1:NamesAt H sa ws) (l1:ws.length=3) (n2:NamesAt H sb us) (l2:us.length=2) (h3:LsAt H tl tab) (ht:TaB tab) (q:∀ H',Q (.bl true) H') :
  ZC K t { nx:=fun _ H'=>Q .non H',rt:=Q } [some (.ref a),some (.ref sa),some (.ref sb),some (.ref tl),none,none,none,none] H:=by
 simp only [ZC,Wk,w6,wN,kX,L2.start,XR,zx,yj,zV,zq,zN,zo,zv,yp,zA,tOp,zc,tC,wG,z0,zb,zi,zE,tOr,wE,zr,tB,tCB,tBM,tyV,tSl,xK,zn,yS,qq,wU,x0,yD,zV,JV,vN,List.map,List.replicate,List.length,List.append,List.cons_append,List.nil_append,List.append_nil,List.getElem?_cons_zero,List.getElem?_cons_succ,Option.some.injEq,exists_eq_left',exists_eq_left,V.int.injEq,V.ref.injEq,V.str.injEq,V.bl.injEq,V.ty.injEq,List.cons.injEq,and_true,true_and,and_assoc,exists_and_left,List.set_cons_zero,List.set_cons_succ,Nat.reduceSub,Nat.reduceAdd,decide_eq_true_eq,Bool.not_eq_true',decide_eq_false_iff_not,Int.reduceToNat,Int.reducePow,Int.reduceNeg,Int.reduceMul,Int.reduceAdd,if_true,ite_true,Bool.false_eq_true,ite_false,if_false]
 refine ⟨_,hS,fun cl hcl=>?_⟩
 obtain ⟨cs,ec,lc⟩:=zbC ns
 rw [ec]
 have s1:=isV (o:=HO.lst (cs.map V.int)) cl hcl
 have hc:upd H cl (HO.lst (cs.map V.int)) cl=some (.lst (cs.map V.int)):=zf
 generalize upd H cl (HO.lst (cs.map V.int))=H1 at *
 have lm:(cs.map V.int).length=cs.length:=List.length_map ..
 refine ⟨⟨_,SqL.of hc⟩,fun D hD=>?_⟩
 refine ZD (J:=Itl K cl) cs.length (by omega) (fun τ=>∃ x,τ=[x,some (.ref sa),some (.ref sb)]) rwR (fun i ys H H' s ⟨rs,h,rb,e⟩=>⟨rs,zbD s rb h,rb,e⟩) ⟨_,rfl⟩ ⟨[],.nil,(fun r h=>nomatch h),rfl⟩ (fun i H s h=>⟨_,_,SqL.of (s _ _ hc),List.getElem?_eq_getElem (by rw [lm];exact h)⟩) (fun H s=>⟨_,SqL.of (s _ _ hc),by rw [lm];exact Nat.le_refl _⟩) hD ?_ ?_
 ·rintro i v τ ys H4 H5 ⟨x,rfl⟩ s4 hi ⟨rs,h,rb,e⟩ ⟨rfl,hv⟩
  have hv:=hv _ (SqL.of (s4 _ _ hc))
  obtain ⟨c,_,rfl⟩:=List.mem_map.mp (List.mem_of_getElem? hv)
  simp only [w6,kX,L2.start,XR,zx,yj,zV,zq,zN,zo,zv,yp,zA,tOp,zc,tC,wG,z0,zb,zi,zE,tOr,wE,zr,tB,tCB,tBM,tyV,tSl,xK,zn,yS,qq,wU,x0,yD,zV,JV,vN,List.map,List.replicate,List.length,List.append,List.cons_append,List.nil_append,List.append_nil,List.getElem?_cons_zero,List.getElem?_cons_succ,Option.some.injEq,exists_eq_left',exists_eq_left,V.int.injEq,V.ref.injEq,V.str.injEq,V.bl.injEq,V.ty.injEq,List.cons.injEq,and_true,true_and,and_assoc,exists_and_left,List.set_cons_zero,List.set_cons_succ,Nat.reduceSub,Nat.reduceAdd,decide_eq_true_eq,Bool.not_eq_true',decide_eq_false_iff_not,Int.reduceToNat,Int.reducePow,Int.reduceNeg,Int.reduceMul,Int.reduceAdd,if_true,ite_true,Bool.false_eq_true,ite_false,if_false]
  have S4:=s1.trans s4
  refine ⟨ws,n1.same S4,l1,us,n2.same S4,l2,fun v r H6 s6 hr rb'=>⟨⟨_,rfl⟩,⟨rs ++ [r],Paired.snocP (Xo s6 h) hr,fun x hx=>?_,by rw [List.length_append,e];rfl⟩,s6⟩⟩
  rcases List.mem_append.mp hx with hx | hx
  ·exact rb x hx
  ·rw [List.mem_singleton.mp hx];exact rb'
 ·rintro ys H4 hly ⟨rs,h,rb,e⟩ s4 hq
  have S4:=s1.trans s4
  refine ⟨ys,hq,rs,h,rb,by omega,tab,h3.same S4,ht,fun r o l s out H6 s6 e1 e2 e3 ge ti=>?_⟩
  exact Qj (l:=l) (o:=o) (fun hd hr ht' H' k h1 h2 h3'=>⟨(h3.same S4).same (s6.trans k),(s6.trans k) _ _ hq,Xo (s6.trans k) h,k _ _ e1,Xn e2 k,e3.same k,h1,h2,h3'⟩) (s6 _ _ hq) ((h3.same S4).same s6) ⟨rb,by omega,ht,ge,ti⟩ q
end
theorem zae {a:Addr} {ns:List Int} (hS:SqL K H a (ns.map V.int)) (hn:ns.length≤63) (q:∀ H',Q (.bl true) H') :
  W8 K t { nx:=fun _ H'=>Q .non H',rt:=Q } (L2.start ["script","slots","shelves","table","rows","due","handed","told"] [.ref a]) H:=by
 simp only [W8,yL,xY,ve,kX,L2.start,XR,zx,yj,zV,zq,zN,zo,zv,yp,zA,tOp,zc,tC,wG,z0,zb,zi,zE,tOr,wE,zr,tB,tCB,tBM,tyV,tSl,xK,zn,yS,qq,wU,x0,yD,zV,JV,vN,List.map,List.replicate,List.length,List.append,List.cons_append,List.nil_append,List.append_nil,List.getElem?_cons_zero,List.getElem?_cons_succ,Option.some.injEq,exists_eq_left',exists_eq_left,V.int.injEq,V.ref.injEq,V.str.injEq,V.bl.injEq,V.ty.injEq,List.cons.injEq,and_true,true_and,and_assoc,exists_and_left,List.set_cons_zero,List.set_cons_succ,Nat.reduceSub,Nat.reduceAdd,decide_eq_true_eq,Bool.not_eq_true',decide_eq_false_iff_not,Int.reduceToNat,Int.reducePow,Int.reduceNeg,Int.reduceMul,Int.reduceAdd,if_true,ite_true,Bool.false_eq_true,ite_false,if_false]
 refine ⟨ns,0,rfl,hS,hn,fun c1 H1 s1=>⟨by decide,by decide,fun sa ws H2 s2 n1 l1=>⟨ns,1,rfl,hS.mono (s1.trans s2),hn,fun c2 H3 s3=>⟨by decide,by decide,fun sb us H4 s4 n2 l2=>⟨ns,2,rfl,hS.mono (s1.trans (s2.trans (s3.trans s4))),hn,fun c3 H5 s5=>?_⟩⟩⟩⟩⟩
 have S5:=s1.trans (s2.trans (s3.trans (s4.trans s5)))
 refine ⟨us,n2.same s5,by omega,fun tl tab H6 s6 _ h3 ht=>?_⟩
 exact Qk (hS.mono (S5.trans s6)) hn (n1.same (s3.trans (s4.trans (s5.trans s6)))) (by omega) (n2.same (s5.trans s6)) (by omega) h3 ht q
end
section
variable {P:Program} {w:World} {K:PySem.W.Frag} {mg:Str→Option Value} {base:Heap} {t:Adr}
theorem zt (T:Txt K mg t):FnOk P w K mg base (CX1 P w) 1 t.a__law_draw t.d__law_draw ["cell","j"] (zk):=by
 refine T.f__law_draw.ok0 sc__law_draw (fun vs H Q E h=>?_) (fun cdv A outer s H vs Q E hr h=>?_)
 ·obtain ⟨c,j,rfl,_⟩:=h;rfl
 obtain ⟨c,j,rfl,h1,h2,q⟩:=h
 exact ⟨vP K t,(zg (zS (i:=2) sc__law_draw.nd rfl (Or.inl rfl) (zm zX (zm zY (zm xg (zm zX (pv 0) (zd (i:=1000000007))) (zd (i:=6700417))) (zm xg (zm xg (zm zY (pv 1) (zd (i:=1))) (zd (i:=104729))) (zd (i:=65537)))) (zd (i:=1000000009))))
  (zh (zw (zm q8 (zm zX (zm xg (zm zX (zm xg (pv 2) (pv 2)) (zd (i:=1000000009))) (pv 2)) (zd (i:=1000000009))) (zd (i:=32)))))),Z4 h1 h2 q⟩
theorem jO (T:Txt K mg t):FnOk P w K mg base (CX1 P w) 2 t.a__law_names t.d__law_names ["cell","many"] (xY):=by
 refine T.f__law_names.ok0 sc__law_names (fun vs H Q E h=>?_) (fun cdv A outer s H vs Q E hr h=>?_)
 ·obtain ⟨c,m,rfl,_⟩:=h;rfl
 obtain ⟨c,m,rfl,h1,h2,q⟩:=h
 exact ⟨vf K t,(zg (zS (i:=2) sc__law_names.nd rfl (Or.inl rfl) (zm zY (zd (i:=1)) (zm zX (zp (FnOk.mono (zt T) (by decide)) hr rfl T.m__law_draw T.f__law_draw.kp T.b__law_draw .nil zy (za (pv 0) (za (zd (i:=1)) ze))) (zd (i:=6)))))
  (zg (zS (i:=3) sc__law_names.nd rfl (Or.inr rfl) (zJ (x:="zyxwvtsrqpnmlkjhgfdcb")))
  (zg (zU (zu yh (pv 2) (zd (i:=6)) (zD _)) (zh (zS (i:=3) sc__law_names.nd rfl (Or.inr rfl) (zJ (x:="zyxwvutsrqponmlkjihgfedcba"))))
    zF)
  (zg (zS (i:=4) sc__law_names.nd rfl (Or.inr rfl) (zJ (x:="")))
  (zg (v3 PassesOwn.never rfl (jx rfl T.b_range (za (pv 2) ze)) (yU (i:=5) sc__law_names.nd rfl (Or.inl rfl)) (zh (zS (i:=4) sc__law_names.nd rfl (Or.inr rfl) (zm vJ (pv 4) (zO JU (pv 3) (zm zX (zp (FnOk.mono (zt T) (by decide)) hr rfl T.m__law_draw T.f__law_draw.kp T.b__law_draw .nil zy (za (pv 0) (za (zm zY (zd (i:=2)) (pv 5)) ze))) (yi v4 rfl T.b_len qX (za (pv 3) ze))) (fun _ _=>rfl))))))
  (zg (zS (i:=6) sc__law_names.nd rfl (Or.inr rfl) (zm zX (zp (FnOk.mono (zt T) (by decide)) hr rfl T.m__law_draw T.f__law_draw.kp T.b__law_draw .nil zy (za (pv 0) (za (zd (i:=8)) ze))) (pv 2)))
  (zg (zS (i:=7) sc__law_names.nd rfl (Or.inl rfl) (zm zX (zp (FnOk.mono (zt T) (by decide)) hr rfl T.m__law_draw T.f__law_draw.kp T.b__law_draw .nil zy (za (pv 0) (za (zd (i:=9)) ze))) (yi v4 rfl T.b_len qX (za (pv 3) ze))))
  (zg (zS (i:=3) sc__law_names.nd rfl (Or.inr rfl) (zm vJ (vt Y2 (pv 3) (vK (pv 7)) kh) (vt Y2 (pv 3) kh (vK (pv 7)))))
  (zh (zw (Vu rfl (osc:=zj yG) (N:=["cell","many","size","signs","stem","k","at","turn"]) (xs:=["k"]) (ix:=[4,6,3]) (by decide +kernel) (jx rfl T.b_range (za (pv 1) ze)) (fun _ _ _ _=>(yU (i:=0) (show List.Nodup (["k","stem","at","signs"]:List Str) from (by decide +kernel)) rfl (Or.inl rfl) (.inr rfl))) (fun _ _ _ _=>Vs) (fun _ _ _ _=>(zm vJ (zm vJ (vt Y2 (pv 1) kh (vK (pv 2))) (zO JU (pv 3) (pv 0) (fun _ _=>rfl))) (vt Y2 (pv 1) (vK (zm zY (pv 2) (zd (i:=1)))) kh)))))))))))))),ZG h1 h2 q⟩
theorem jt (T:Txt K mg t):FnOk P w K mg base (CX1 P w) 2 t.a__law_number t.d__law_number ["cell","j"] (yC):=by
 refine T.f__law_number.ok0 sc__law_number (fun vs H Q E h=>?_) (fun cdv A outer s H vs Q E hr h=>?_)
 ·obtain ⟨c,j,rfl,_⟩:=h;rfl
 obtain ⟨c,j,rfl,h1,h2,q⟩:=h
 exact ⟨wO K t,(zg (zS (i:=2) sc__law_number.nd rfl (Or.inl rfl) (zm zX (zp (FnOk.mono (zt T) (by decide)) hr rfl T.m__law_draw T.f__law_draw.kp T.b__law_draw .nil zy (za (pv 0) (za (pv 1) ze))) (zd (i:=4))))
  (zg (zU (zu yh (pv 2) (zd (i:=0)) (zD _)) (zh (zw (zm vb (zm zX (zm zY (zm xg (zm xg (zm zX (pv 0) (zm kL (zd (i:=10)) (zd (i:=20)))) (zm zY (pv 1) (zd (i:=2)))) (zd (i:=1000003))) (pv 1)) (zm zY (zm xg (zd (i:=2)) (zm kL (zd (i:=10)) (zd (i:=17)))) (zd (i:=1)))) (zm kL (zd (i:=10)) (zd (i:=17))))))
    zF)
  (zh (zw (zm vb (zm zX (zp (FnOk.mono (zt T) (by decide)) hr rfl T.m__law_draw T.f__law_draw.kp T.b__law_draw .nil zy (za (pv 0) (za (zm zY (pv 1) (zd (i:=1))) ze))) (zd (i:=7))) (zd (i:=3))))))),qw h1 h2 q⟩
theorem Z8 (T:Txt K mg t):FnOk P w K mg base (CX1 P w) 3 t.a__law_table t.d__law_table ["cell","shelves"] (ve):=by
 refine T.f__law_table.ok0 sc__law_table (fun vs H Q E h=>?_) (fun cdv A outer s H vs Q E hr h=>?_)
 ·obtain ⟨c,b,us,rfl,_⟩:=h;rfl
 obtain ⟨c,b,us,rfl,h1,h2,q⟩:=h
 exact ⟨vg K t,(zg (zS (i:=2) sc__law_table.nd rfl (Or.inl rfl) J1)
  (zg (zU (zu yh (zm zX (zp (FnOk.mono (zt T) (by decide)) hr rfl T.m__law_draw T.f__law_draw.kp T.b__law_draw .nil zy (za (pv 0) (za (zd (i:=19)) ze))) (zd (i:=8))) (zd (i:=0)) (zD _)) (zh (v3 PassesOwn.never rfl (jx rfl T.b_range (za (zm zX (zp (FnOk.mono (zt T) (by decide)) hr rfl T.m__law_draw T.f__law_draw.kp T.b__law_draw .nil zy (za (pv 0) (za (zd (i:=18)) ze))) (zd (i:=241))) ze)) (yU (i:=3) sc__law_table.nd rfl (Or.inl rfl)) (zh (wW (wX hr) (pv 2) (ya (za (zO yo (pv 1) (zm zX (pv 3) (zd (i:=2))) (fun _ _=>rfl)) (za (zm zY (zd (i:=1000)) (pv 3)) ze))) (zm zY (zm vb (zm q8 (pv 3) (zd (i:=3))) (zd (i:=50))) (yq jb rfl T.b_int kR (za (qA yh (zm q8 (pv 3) (zd (i:=3))) (zd (i:=50)) (zD _)) ze))) rfl))))
    zF)
  (zg (v3 PassesOwn.never rfl (jx rfl T.b_range (za (zm zX (zp (FnOk.mono (zt T) (by decide)) hr rfl T.m__law_draw T.f__law_draw.kp T.b__law_draw .nil zy (za (pv 0) (za (zd (i:=20)) ze))) (zd (i:=7))) ze)) (yU (i:=3) sc__law_table.nd rfl (Or.inl rfl)) (zg (zS (i:=4) sc__law_table.nd rfl (Or.inl rfl) (zp (FnOk.mono (jt T) (by decide)) hr rfl T.m__law_number T.f__law_number.kp T.b__law_number .nil zy (za (pv 0) (za (zm zY (zd (i:=30)) (zm xg (zd (i:=3)) (pv 3))) ze))))
  (zh (zU (zu Xw (pv 4) (zd (i:=0)) (zD _)) (zh (wW (wX hr) (pv 2) (ya (za (zO yo (pv 1) (zm zX (zp (FnOk.mono (zt T) (by decide)) hr rfl T.m__law_draw T.f__law_draw.kp T.b__law_draw .nil zy (za (pv 0) (za (zm zY (zd (i:=50)) (pv 3)) ze))) (zd (i:=2))) (fun _ _=>rfl)) (za (zm vb (zm zX (zp (FnOk.mono (zt T) (by decide)) hr rfl T.m__law_draw T.f__law_draw.kp T.b__law_draw .nil zy (za (pv 0) (za (zm zY (zd (i:=60)) (pv 3)) ze))) (zd (i:=4))) (zd (i:=1))) ze))) (pv 4) rfl))
    zF))))
  (zh (zw (yi (kB rfl (hu3 hr)) rfl T.b_sorted kQ (za (X6 (pv 2)) ze))))))),ZQ h1 h2 q⟩
theorem Wy (T:Txt K mg t):FnOk P w K mg base (CX1 P w) 1 t.a__law_two t.d__law_two ["one","other","word"] (jl):=by
 refine T.f__law_two.ok0 We (fun vs H Q E h=>?_) (fun cdv A outer s H vs Q E hr h=>?_)
 ·obtain ⟨a,b,w,rfl,_⟩:=h;rfl
 obtain ⟨a,b,w,rfl,h1,q⟩:=h
 exact ⟨jm K t,(zg (zU (zu yh (pv 2) (zJ (x:="plus")) (zD _)) (zh (zw (zm zY (pv 0) (pv 1))))
   zF)
  (zg (zU (zu yh (pv 2) (zJ (x:="minus")) (zD _)) (zh (zw (zm vb (pv 0) (pv 1))))
    zF)
  (zg (zU (zu yh (pv 2) (zJ (x:="times")) (zD _)) (zh (zw (zm xg (pv 0) (pv 1))))
    zF)
  (zg (zU (zu yh (pv 2) (zJ (x:="over")) (zD _)) (zh (zw (zm Zc (pv 0) (pv 1))))
    zF)
  (zg (zU (zu yh (pv 2) (zJ (x:="rest")) (zD _)) (zh (zw (zm vb (pv 0) (zm xg (zm Zc (pv 0) (pv 1)) (pv 1)))))
    zF)
  (zg (zU (zu yh (pv 2) (zJ (x:="under")) (zD _)) (zh (zw (yq jb rfl T.b_int kR (za (qA qM (pv 0) (pv 1) (zD _)) ze))))
    zF)
  (zh (zw (yq jb rfl T.b_int kR (za (qA yh (pv 0) (pv 1) (zD _)) ze)))))))))),Xl h1 q⟩
theorem xZ (T:Txt K mg t):FnOk P w K mg base (CX1 P w) 2 t.a__law_worth t.d__law_worth ["term","slots"] (yz):=by
 refine T.f__law_worth.ok0 sc__law_worth (fun vs H Q E h=>?_) (fun cdv A outer s H vs Q E hr h=>?_)
 ·obtain ⟨tm,sl,e,kvs,B,rfl,_⟩:=h;rfl
 obtain ⟨tm,sl,e,kvs,B,rfl,h1,h2,h3,h4,h5,q⟩:=h
 exact ⟨vh K t,(zg (zS (i:=2) sc__law_worth.nd rfl (Or.inl rfl) (v9 ze))
  (zg (v3 PassesOwn.never rfl (JJ (vt Q0 (pv 0) kh (vK (zd (i:=2))))) (yU (i:=3) sc__law_worth.nd rfl (Or.inl rfl)) (zh (zU (wD (yi vy rfl T.b_isinstance ym (za (pv 3) (za (xW rfl T.b_int kR rfl) ze)))) (zh (wV (qQ PySem.F.plainAttrs_list PySem.F.slot_list_append PySem.F.type_list_append xo (pv 2) (za (pv 3) ze))))
    (zh (wV (qQ PySem.F.plainAttrs_list PySem.F.slot_list_append PySem.F.type_list_append xo (pv 2) (za (km (wX hr) (pv 1) (pv 3) (zd (i:=0)) ⟨rfl,rfl,rfl,rfl⟩) ze)))))))
  (zg (zU (zu yh (yi v4 rfl T.b_len qX (za (pv 0) ze)) (zd (i:=1)) (zD _)) (zh (zw (zO yo (pv 2) (zd (i:=0)) (fun _ _=>rfl))))
    zF)
  (zh (zw (zp (FnOk.mono (Wy T) (by decide)) hr rfl T.m__law_two T.f__law_two.kp T.b__law_two .nil zy (za (zO yo (pv 2) (zd (i:=0)) (fun _ _=>rfl)) (za (zO yo (pv 2) (zd (i:=1)) (fun _ _=>rfl)) (za (zO zZ (pv 0) (zd (i:=2)) (fun _ _=>rfl)) ze))))))))),ZN (kf K) h1 h2 h3 h4 h5 q⟩
theorem ZU (T:Txt K mg t):FnOk P w K mg base (CX1 P w) 3 t.a__law_walked t.d__law_walked ["rows","table"] (wN):=by
 refine T.f__law_walked.ok0 sc__law_walked (fun vs H Q E h=>?_) (fun cdv A outer s H vs Q E hr h=>?_)
 ·obtain ⟨rl,tl,vs,rs,tab,rfl,_⟩:=h;rfl
 obtain ⟨rl,tl,vs,rs,tab,rfl,h1,h2,h3,h4,h5,h6,q⟩:=h
 exact ⟨wP K t,(zg (zS (i:=2) sc__law_walked.nd rfl (Or.inl rfl) XG)
  (zg (zS (i:=3) sc__law_walked.nd rfl (Or.inl rfl) (yq (wg rfl (hu3 hr)) rfl T.b_dict Y0 (za (pv 1) ze)))
  (zg (zS (i:=4) sc__law_walked.nd rfl (Or.inl rfl) (v9 ze))
  (zg (v3 PassesOwn.never rfl (qz (pv 0)) (yU (i:=5) sc__law_walked.nd rfl (Or.inl rfl)) (zh (zU (zu yh (zO zZ (pv 5) (zd (i:=0)) (fun _ _=>rfl)) (zJ (x:="say")) (zD _)) (zh (wV (qQ PySem.F.plainAttrs_list PySem.F.slot_list_append PySem.F.type_list_append xo (pv 4) (za (zp (FnOk.mono (xZ T) (by decide)) hr rfl T.m__law_worth T.f__law_worth.kp T.b__law_worth .nil zy (za (zO zZ (pv 5) (zd (i:=1)) (fun _ _=>rfl)) (za (pv 2) ze))) ze))))
    (zh (zU (zu yh (zO zZ (pv 5) (zd (i:=0)) (fun _ _=>rfl)) (zJ (x:="let")) (zD _)) (zh (wW (wX hr) (pv 2) (zO zZ (pv 5) (zd (i:=1)) (fun _ _=>rfl)) (zp (FnOk.mono (xZ T) (by decide)) hr rfl T.m__law_worth T.f__law_worth.kp T.b__law_worth .nil zy (za (zO zZ (pv 5) (zd (i:=2)) (fun _ _=>rfl)) (za (pv 2) ze))) rfl))
    (zg (zS (i:=6) sc__law_walked.nd rfl (Or.inl rfl) (ya (za (zO zZ (pv 5) (zd (i:=1)) (fun _ _=>rfl)) (za (zp (FnOk.mono (xZ T) (by decide)) hr rfl T.m__law_worth T.f__law_worth.kp T.b__law_worth .nil zy (za (zO zZ (pv 5) (zd (i:=2)) (fun _ _=>rfl)) (za (pv 2) ze))) ze))))
  (zh (zU (zu yh (zO zZ (pv 5) (zd (i:=0)) (fun _ _=>rfl)) (zJ (x:="take")) (zD _)) (zh (wW (wX hr) (pv 2) (zO zZ (pv 5) (zd (i:=3)) (fun _ _=>rfl)) (km (wX hr) (pv 3) (pv 6) (zd (i:=0)) ⟨rfl,rfl,rfl,rfl⟩) rfl))
    (zh (wW (wX hr) (pv 3) (pv 6) (zp (FnOk.mono (xZ T) (by decide)) hr rfl T.m__law_worth T.f__law_worth.kp T.b__law_worth .nil zy (za (zO zZ (pv 5) (zd (i:=3)) (fun _ _=>rfl)) (za (pv 2) ze))) rfl))))))))))
  (zg (zaM (qW (j:=7) sc__law_walked.nd rfl rfl (Or.inl rfl) (osc:=zj yx) (N:=["rows","table","slots","stands_now","said","row","place","behind"]) (xs:=["place","worth"]) (ix:=[]) (by decide +kernel) (KW (pv 3)) (fun _ _ _ _=>(zaB rfl (Xt (yU (i:=0) (show List.Nodup (["place","worth"]:List Str) from (by decide +kernel)) rfl (Or.inl rfl)) (Xt (yU (i:=1) (show List.Nodup (["place","worth"]:List Str) from (by decide +kernel)) rfl (Or.inl rfl)) Qo)))) (fun _ _ _ _=>(Vt (zu Xw (pv 1) (zd (i:=0)) (zD _)))) (fun _ _ _ _=>(ya (za (pv 0) (za (pv 1) ze))))))
  (zh (zw (ya (za (ya (za (zJ (x:="done")) (za (yq jL rfl T.b_tuple qY (za (pv 4) ze)) ze))) (za (yi (Xe rfl (hu3 hr)) rfl T.b_sorted kQ (za (pv 7) ze)) ze)))))))))),qx h1 h2 h3 h4 h5 h6 q⟩
theorem Z9 (T:Txt K mg t):FnOk P w K mg base (CX1 P w) 1 t.a_Doing_init t.d_Doing_init ["self","table"] (vc t):=by
 refine T.f_Doing_init.ok0 Z0 (fun vs H Q E h=>?_) (fun cdv A outer s H vs Q E hr h=>?_)
 ·obtain ⟨x,a,tab,H0,dx,rfl,_⟩:=h;rfl
 obtain ⟨x,a,tab,H0,dx,rfl,h1,h2,h3,h4,h5,q⟩:=h
 exact ⟨vi K t,(zg (WL (f:="slots") (pv 0) XG rfl)
  (zg (WL (f:="worths") (pv 0) (yq (wg rfl (hu3 hr)) rfl T.b_dict Y0 (za (pv 1) ze)) rfl)
  (zh (WL (f:="sayings") (pv 0) (v9 ze) rfl)))),ZE (doF T) h1 h2 h3 h4 h5 q⟩
theorem Vg (T:Txt K mg t):FnOk P w K mg base (CX1 P w) 1 t.a_divided t.d_divided ["word","first","second"] (jZ t):=by
 refine T.f_divided.ok1 W6 (fun vs H Q E h=>?_) (fun cdv A outer s H vs Q E hr h=>?_)
 ·obtain ⟨w,a,b,rfl,_⟩:=h;rfl
 obtain ⟨w,a,b,rfl,hw,ha,hb,q⟩:=h
 exact ⟨j4 K t E,(zg (zU (zu yh (pv 2) (zd (i:=0)) (zD _)) (zh (XM rfl T.x_Nought Vw rfl T.g_Nought (za (Vx (pv 0)) ze)))
   zF)
  (zh (zw (vZ (zu yh (pv 0) (zJ (x:="over")) (zD _)) (zm Zc (pv 1) (pv 2)) (zm Qp (pv 1) (pv 2)))))),Wm hw ha hb q⟩
theorem Vh (T:Txt K mg t):FnOk P w K mg base (CX1 P w) 2 t.a_come_to t.d_come_to ["word","first","second"] (j0 t):=by
 refine T.f_come_to.ok1 W7 (fun vs H Q E h=>?_) (fun cdv A outer s H vs Q E hr h=>?_)
 ·obtain ⟨w,a,b,rfl,_⟩:=h;rfl
 obtain ⟨w,a,b,rfl,hw,ha,hb,q⟩:=h
 exact ⟨j5 K t E,(zg (zU (zu yh (pv 0) (zJ (x:="plus")) (zD _)) (zh (zw (zm zY (pv 1) (pv 2))))
   zF)
  (zg (zU (zu yh (pv 0) (zJ (x:="minus")) (zD _)) (zh (zw (zm vb (pv 1) (pv 2))))
    zF)
  (zg (zU (zu yh (pv 0) (zJ (x:="times")) (zD _)) (zh (zw (zm xg (pv 1) (pv 2))))
    zF)
  (zg (zU (zu yh (pv 0) (zJ (x:="under")) (zD _)) (zh (zw (vZ (zu qM (pv 1) (pv 2) (zD _)) (zd (i:=1)) (zd (i:=0)))))
    zF)
  (zg (zU (zu yh (pv 0) (zJ (x:="same")) (zD _)) (zh (zw (vZ (zu yh (pv 1) (pv 2) (zD _)) (zd (i:=1)) (zd (i:=0)))))
    zF)
  (zh (zw (zp (FnOk.mono (Vg T) (by decide)) hr rfl T.m_divided T.f_divided.kp T.b_divided .nil wY (za (pv 0) (za (pv 1) (za (pv 2) ze))))))))))),Wn hw ha hb q⟩
theorem Wz (T:Txt K mg t):FnOk P w K mg base (CX1 P w) 1 t.a_is_worth t.d_is_worth ["thing"] (jh):=by
 refine T.f_is_worth.ok0 Wf (fun vs H Q E h=>?_) (fun cdv A outer s H vs Q E hr h=>?_)
 ·obtain ⟨i,rfl,_⟩:=h;rfl
 obtain ⟨i,rfl,q⟩:=h
 exact ⟨jn K t,(zg (zU (PW.pt (Vi (jP (wD (yi vy rfl T.b_isinstance ym (za (pv 0) (za (xW rfl T.b_int kR rfl) ze))))) (WE (wD (yi vy rfl T.b_isinstance ym (za (pv 0) (za (xW rfl T.b_bool Vv rfl) ze))))))) (zh (zw (qd (b:=false))))
   zF)
  (zh (zw (JN zaf zaf (JL WH (zm kL (zd (i:=10)) (zd (i:=30)))) (pv 0) (zm kL (zd (i:=10)) (zd (i:=30))))))),Xh (kf K).i_b q⟩
theorem JC (T:Txt K mg t):FnOk P w K mg base (CX1 P w) 3 t.a_joined t.d_joined ["word","first","second"] (kZ t):=by
 refine T.f_joined.ok1 sc_joined (fun vs H Q E h=>?_) (fun cdv A outer s H vs Q E hr h=>?_)
 ·obtain ⟨w,a,b,rfl,_⟩:=h;rfl
 obtain ⟨w,a,b,rfl,hw,ha,hb,q⟩:=h
 exact ⟨k7 K t E,(zg (zS (i:=3) sc_joined.nd rfl (Or.inl rfl) (zp (FnOk.mono (Vh T) (by decide)) hr rfl T.m_come_to T.f_come_to.kp T.b_come_to .nil wY (za (pv 0) (za (pv 1) (za (pv 2) ze)))))
  (zg (zU (jP (wD (zp (FnOk.mono (Wz T) (by decide)) hr rfl T.m_is_worth T.f_is_worth.kp T.b_is_worth .nil wY (za (pv 3) ze)))) (zh (XM rfl T.x_Great Vw rfl T.g_Great (za (Vx (pv 0)) ze)))
    zF)
  (zh (zw (pv 3))))),Va hw ha hb q⟩
theorem WA (T:Txt K mg t):FnOk P w K mg base (CX1 P w) 4 t.a_reckoned t.d_reckoned ["term","slots"] (ji t):=by
 refine T.f_reckoned.ok1 sc_reckoned (fun vs H Q E h=>?_) (fun cdv A outer s H vs Q E hr h=>?_)
 ·obtain ⟨kvs,tm,sl,ps,r,rfl,_⟩:=h;rfl
 obtain ⟨kvs,tm,sl,ps,r,rfl,h1,h2,h3,h4,h5,h6,q⟩:=h
 exact ⟨jo K t E,(zg (zS (i:=2) sc_reckoned.nd rfl (Or.inl rfl) (v9 ze))
  (zg (v3 zbp rfl (JJ (pv 0)) (yU (i:=3) sc_reckoned.nd rfl (Or.inl rfl)) (zh (zU (zu Jg (pv 3) (Qn rfl T.g_JOINING rfl) (by with_unfolding_all rfl)) (zg (zS (i:=4) sc_reckoned.nd rfl (Or.inl rfl) (WR PySem.F.plainAttrs_list PySem.F.slot_list_pop PySem.F.type_list_pop WT (pv 2)))
  (zg (zS (i:=5) sc_reckoned.nd rfl (Or.inl rfl) (WR PySem.F.plainAttrs_list PySem.F.slot_list_pop PySem.F.type_list_pop WT (pv 2)))
  (zh (wV (qQ PySem.F.plainAttrs_list PySem.F.slot_list_append PySem.F.type_list_append xo (pv 2) (za (zp (FnOk.mono (JC T) (by decide)) hr rfl T.m_joined T.f_joined.kp T.b_joined .nil wY (za (pv 3) (za (pv 5) (za (pv 4) ze)))) ze))))))
   (zh (wV (qQ PySem.F.plainAttrs_list PySem.F.slot_list_append PySem.F.type_list_append xo (pv 2) (za (vZ (wD (yi vy rfl T.b_isinstance ym (za (pv 3) (za (xW rfl T.b_str J5 rfl) ze)))) (km (wX hr) (pv 1) (pv 3) (zd (i:=0)) ⟨rfl,rfl,rfl,rfl⟩) (pv 3)) ze)))))))
  (zh (zw (WR PySem.F.plainAttrs_list PySem.F.slot_list_pop PySem.F.type_list_pop WT (pv 2)))))),Xi (kf K).i_s T.v_JOINING h1 h2 h3 h4 h5 h6 q⟩
theorem z8 (T:Txt K mg t):FnOk P w K mg base (CX1 P w) 5 t.a_Doing_worth_of t.d_Doing_worth_of ["self","term"] (zC t):=by
 refine T.f_Doing_worth_of.ok1 kF (fun vs H Q E h=>?_) (fun cdv A outer s H vs Q E hr h=>?_)
 ·obtain ⟨x,tm,e,H0,dx,sl,wo,sa,s0,rfl,_⟩:=h;rfl
 obtain ⟨x,tm,e,H0,dx,sl,wo,sa,s0,rfl,h1,h2,h3,h4,q⟩:=h
 exact ⟨xG K t E,(zh (zw (zp (FnOk.mono (WA T) (by decide)) hr rfl T.m_reckoned T.f_reckoned.kp T.b_reckoned .nil wY (za (pv 1) (za (v6 (f:="slots") (pv 0) rfl) ze))))),j9 (doF T) h1 h2 h3 h4 q⟩
theorem Ya (T:Txt K mg t):FnOk P w K mg base (CX1 P w) 6 t.a_Doing_does t.d_Doing_does ["self","row"] (vd t):=by
 refine T.f_Doing_does.ok1 sc_Doing_does (fun vs H Q E h=>?_) (fun cdv A outer s H vs Q E hr h=>?_)
 ·obtain ⟨x,v,r,m,H0,dx,sl,wo,sa,s0,rfl,_⟩:=h;rfl
 obtain ⟨x,v,r,m,H0,dx,sl,wo,sa,s0,rfl,h1,h2,h3,h4,h5,h6,q1,q2⟩:=h
 exact ⟨yP K t E,(zh (zU (zu yh (zO zZ (pv 1) (zd (i:=0)) (fun _ _=>rfl)) (zJ (x:="take")) (zD _)) (zh (wW (wX hr) (v6 (f:="slots") (pv 0) rfl) (zO zZ (pv 1) (zd (i:=3)) (fun _ _=>rfl)) (km (wX hr) (v6 (f:="worths") (pv 0) rfl) (ya (za (zO zZ (pv 1) (zd (i:=1)) (fun _ _=>rfl)) (za (wu (pv 0) T.cl_Doing T.me_Doing_worth_of (FnOk.mono (z8 T) (by decide)) hr T.b_Doing_worth_of .nil wY (za (zO zZ (pv 1) (zd (i:=2)) (fun _ _=>rfl)) ze)) ze))) (zd (i:=0)) ⟨rfl,rfl,rfl,rfl⟩) rfl))
   (zh (zU (zu yh (zO zZ (pv 1) (zd (i:=0)) (fun _ _=>rfl)) (zJ (x:="give")) (zD _)) (zg (zS (i:=2) sc_Doing_does.nd rfl (Or.inl rfl) (ya (za (zO zZ (pv 1) (zd (i:=1)) (fun _ _=>rfl)) (za (wu (pv 0) T.cl_Doing T.me_Doing_worth_of (FnOk.mono (z8 T) (by decide)) hr T.b_Doing_worth_of .nil wY (za (zO zZ (pv 1) (zd (i:=2)) (fun _ _=>rfl)) ze)) ze))))
  (zh (wW (wX hr) (v6 (f:="worths") (pv 0) rfl) (pv 2) (wu (pv 0) T.cl_Doing T.me_Doing_worth_of (FnOk.mono (z8 T) (by decide)) hr T.b_Doing_worth_of .nil wY (za (zO zZ (pv 1) (zd (i:=3)) (fun _ _=>rfl)) ze)) rfl)))
   (zh (zU (zu yh (zO zZ (pv 1) (zd (i:=0)) (fun _ _=>rfl)) (zJ (x:="let")) (zD _)) (zh (wW (wX hr) (v6 (f:="slots") (pv 0) rfl) (zO zZ (pv 1) (zd (i:=1)) (fun _ _=>rfl)) (wu (pv 0) T.cl_Doing T.me_Doing_worth_of (FnOk.mono (z8 T) (by decide)) hr T.b_Doing_worth_of .nil wY (za (zO zZ (pv 1) (zd (i:=2)) (fun _ _=>rfl)) ze)) rfl))
   (zh (wV (qQ PySem.F.plainAttrs_list PySem.F.slot_list_append PySem.F.type_list_append xo (v6 (f:="sayings") (pv 0) rfl) (za (wu (pv 0) T.cl_Doing T.me_Doing_worth_of (FnOk.mono (z8 T) (by decide)) hr T.b_Doing_worth_of .nil wY (za (zO zZ (pv 1) (zd (i:=1)) (fun _ _=>rfl)) ze)) ze)))))))))),ZF (doF T) h1 h2 h3 h4 h5 h6 q1 q2⟩
theorem vY (T:Txt K mg t):∀ n,FnOk P w K mg base (CX1 P w) (7 + n) t.a_Doing_goes_through t.d_Doing_goes_through ["self","rows"] (zW t n):=by
 intro n
 induction n with
 | zero=>exact ⟨fun vs H Q E h=>(xH h).elim,fun A outer s H args us vs Q E hr he hb hv h=>(xH h).elim⟩
 | succ n IH =>
 refine T.f_Doing_goes_through.ok1 sc_Doing_goes_through (k:=7 + n) (fun vs H Q E h=>?_) (fun cdv A outer s H vs Q E hr h=>?_)
 ·obtain ⟨x,l,xs,rws,m,H0,dx,sl,wo,sa,s0,rfl,_⟩:=h;rfl
 obtain ⟨x,l,xs,rws,m,H0,dx,sl,wo,sa,s0,rfl,h1,h2,h3,h4,h5,h6,h7,q1,q2,q3⟩:=h
 exact ⟨yR K t n E,(zg (v3 zbp rfl (qz (pv 1)) (yU (i:=2) sc_Doing_goes_through.nd rfl (Or.inl rfl)) (zh (zU (zu yh (zO zZ (pv 2) (zd (i:=0)) (fun _ _=>rfl)) (zJ (x:="off")) (zD _)) (zh (zU (zu Xw (wu (pv 0) T.cl_Doing T.me_Doing_worth_of (FnOk.mono (z8 T) (by omega)) hr T.b_Doing_worth_of .nil wY (za (zO zZ (pv 2) (zd (i:=1)) (fun _ _=>rfl)) ze)) (zd (i:=0)) (zD _)) (zh (zw (qd (b:=false))))
   zF))
   (zh (zU (zu yh (zO zZ (pv 2) (zd (i:=0)) (fun _ _=>rfl)) (zJ (x:="if")) (zD _)) (zh (zU (jP (wD (wu (pv 0) T.cl_Doing T.me_Doing_goes_through (FnOk.mono IH (by omega)) hr T.b_Doing_goes_through .nil wY (za (vZ (zu Xw (wu (pv 0) T.cl_Doing T.me_Doing_worth_of (FnOk.mono (z8 T) (by omega)) hr T.b_Doing_worth_of .nil wY (za (zO zZ (pv 2) (zd (i:=1)) (fun _ _=>rfl)) ze)) (zd (i:=0)) (zD _)) (zO zZ (pv 2) (zd (i:=2)) (fun _ _=>rfl)) (zO zZ (pv 2) (zd (i:=3)) (fun _ _=>rfl))) ze)))) (zh (zw (qd (b:=false))))
   zF))
   (zh (wV (wu (pv 0) T.cl_Doing T.me_Doing_does (FnOk.mono (Ya T) (by omega)) hr T.b_Doing_does .nil wY (za (pv 2) ze)))))))))
  (zh (zw (qd (b:=true))))),vU (doF T) h1 h2 h3 h4 h5 h6 h7 q1 q2 q3⟩
theorem wT (T:Txt K mg t):FnOkH P w K mg base 1 t.a_broken_off t.d_broken_off ["why","table"] (yy):=by
 refine T.f_broken_off.okH Z1 (fun vs H Q E h=>?_) (fun cdv A outer s H vs Q E hr h=>?_)
 ·obtain ⟨w,a,tab,rfl,_⟩:=h;rfl
 obtain ⟨w,a,tab,rfl,h1,q⟩:=h
 exact ⟨vj K t,(zh (zw (ya (za (ya (za (zJ (x:="off")) (za (pv 0) ze))) (za (yq vL rfl T.b_list jz (za (pv 1) ze)) ze))))),ZH h1 q⟩
theorem Yb (T:Txt K mg t):FnOk P w K mg base (CX1 P w) 1 t.a_broken_off t.d_broken_off ["why","table"] (yy):=(wT T).toFn
theorem WB (T:Txt K mg t):FnOk P w K mg base (CX1 P w) 1 t.a_table_of t.d_table_of ["rows"] (jj):=by
 refine T.f_table_of.ok0 sc_table_of (fun vs H Q E h=>?_) (fun cdv A outer s H vs Q E hr h=>?_)
 ·obtain ⟨a,rows,rfl,_⟩:=h;rfl
 obtain ⟨a,rows,rfl,h1,h2,h3,q⟩:=h
 exact ⟨va K t,(zg (zS (i:=1) sc_table_of.nd rfl (Or.inr rfl) (yq (wg rfl (hu3 hr)) rfl T.b_dict Y0 (za (pv 0) ze)))
  (zh (zw (Vu rfl (osc:=zj xm) (N:=["rows","worths"]) (xs:=["place"]) (ix:=[1]) (by decide +kernel) (qz (yi (Y9 rfl) rfl T.b_sorted kQ (za (pv 1) ze))) (fun _ _ _ _=>(yU (i:=0) (show List.Nodup (["place","worths"]:List Str) from (by decide +kernel)) rfl (Or.inl rfl) (.inr rfl))) (fun _ _ _ _=>(Vt (zu Xw (Vo (wX hr) (pv 1) (pv 0) (fun _ _=>rfl)) (zd (i:=0)) (zD _)))) (fun _ _ _ _=>(ya (za (pv 0) (za (Vo (wX hr) (pv 1) (pv 0) (fun _ _=>rfl)) ze)))))))),Xj h1 h2 h3 q⟩
theorem WC (T:Txt K mg t):FnOk P w K mg base (CX1 P w) 14 t.a_alone t.d_alone ["rows","table"] (jk):=by
 refine T.f_alone.ok0 sc_alone (fun vs H Q E h=>?_) (fun cdv A outer s H vs Q E hr h=>?_)
 ·obtain ⟨v,a,rws,tab,rfl,_⟩:=h;rfl
 obtain ⟨v,a,rws,tab,rfl,h1,h2,h3,q⟩:=h
 exact ⟨Zy K t,(zg (zS (i:=2) sc_alone.nd rfl (Or.inl rfl) (Qt T.mk_Doing (FnOk.mono (Z9 T) (by decide)) hr rfl T.g_Doing T.b_Doing_init .nil zy (za (pv 1) ze)))
  (zg (Ky (And.intro rfl rfl) rfl (QC (i:=3) sc_alone.nd rfl (Or.inl rfl) (Kx (pv 2) T.cl_Doing T.me_Doing_goes_through (FnOk.mono (vY T 6) (by decide)) hr T.b_Doing_goes_through (za (pv 0) ze))) rfl T.g_Great rfl T.g_Nought (fun _=>(zh (zw (X4 (FnOkH.mono (wT T) (by decide)) (zam hr) rfl T.m_broken_off T.f_broken_off.kp T.b_broken_off (za (zJ (x:="great")) (za (pv 1) ze)))))) (fun _=>(zh (zw (X4 (FnOkH.mono (wT T) (by decide)) (zam hr) rfl T.m_broken_off T.f_broken_off.kp T.b_broken_off (za (zJ (x:="nought")) (za (pv 1) ze)))))))
  (zg (zU (jP (wD (pv 3))) (zh (zw (zp (FnOk.mono (Yb T) (by decide)) hr rfl T.m_broken_off T.f_broken_off.kp T.b_broken_off .nil zy (za (zJ (x:="told")) (za (pv 1) ze)))))
    zF)
  (zh (zw (ya (za (ya (za (zJ (x:="done")) (za (yq jL rfl T.b_tuple qY (za (v6 (f:="sayings") (pv 2) rfl) ze)) ze))) (za (zp (FnOk.mono (WB T) (by decide)) hr rfl T.m_table_of T.f_table_of.kp T.b_table_of .nil zy (za (yq (qu rfl) rfl T.b_list jz (za (X6 (v6 (f:="worths") (pv 2) rfl)) ze)) ze)) ze)))))))),Jw T h1 h2 h3 q⟩
theorem wt (T:Txt K mg t):FnOk P w K mg base (CX1 P w) 1 t.a__law_cell_at t.d__law_cell_at ["script","k"] (yL K):=by
 refine T.f__law_cell_at.ok0 qv (fun vs H Q E h=>?_) (fun cdv A outer s H vs Q E hr h=>?_)
 ·obtain ⟨a,ns,k,rfl,_⟩:=h;rfl
 obtain ⟨a,ns,k,rfl,hS,hl,q⟩:=h
 exact ⟨wr K t,(zg (zU (zu qM (pv 1) (yi v4 rfl T.b_len qX (za (pv 0) ze)) (zD _)) (zh (zw (zO yo (pv 0) (pv 1) (fun _ _=>rfl))))
   zF)
  (zh (zw (zd (i:=0))))),qb hS hl q⟩
theorem kJ (T:Txt K mg t):FnOk P w K mg base (CX1 P w) 3 t.a__law_part t.d__law_part ["cell","j","slots"] (y8):=by
 refine T.f__law_part.ok0 Xf (fun vs H Q E h=>?_) (fun cdv A outer s H vs Q E hr h=>?_)
 ·obtain ⟨c,j,a,ws,rfl,_⟩:=h;rfl
 obtain ⟨c,j,a,ws,rfl,h1,h2,h3,h4,q⟩:=h
 exact ⟨vQ K t,(zg (zU (zu yh (zm zX (zp (FnOk.mono (zt T) (by decide)) hr rfl T.m__law_draw T.f__law_draw.kp T.b__law_draw .nil zy (za (pv 0) (za (zm zY (pv 1) (zd (i:=5))) ze))) (zd (i:=2))) (zd (i:=0)) (zD _)) (zh (zw (zO yo (pv 2) (zm zX (zp (FnOk.mono (zt T) (by decide)) hr rfl T.m__law_draw T.f__law_draw.kp T.b__law_draw .nil zy (za (pv 0) (za (zm zY (pv 1) (zd (i:=6))) ze))) (yi v4 rfl T.b_len qX (za (pv 2) ze))) (fun _ _=>rfl))))
   zF)
  (zh (zw (zp (FnOk.mono (jt T) (by decide)) hr rfl T.m__law_number T.f__law_number.kp T.b__law_number .nil zy (za (pv 0) (za (pv 1) ze)))))),Z6 h1 h2 h3 h4 q⟩
theorem wz (T:Txt K mg t):FnOk P w K mg base (CX1 P w) 4 t.a__law_term t.d__law_term ["cell","j","slots"] (yH):=by
 refine T.f__law_term.ok0 sc__law_term (fun vs H Q E h=>?_) (fun cdv A outer s H vs Q E hr h=>?_)
 ·obtain ⟨c,j,a,ws,rfl,_⟩:=h;rfl
 obtain ⟨c,j,a,ws,rfl,h1,h2,h3,h4,q⟩:=h
 exact ⟨vR K t,(zg (zS (i:=3) sc__law_term.nd rfl (Or.inl rfl) (zm zX (zp (FnOk.mono (zt T) (by decide)) hr rfl T.m__law_draw T.f__law_draw.kp T.b__law_draw .nil zy (za (pv 0) (za (pv 1) ze))) (zd (i:=10))))
  (zg (zS (i:=4) sc__law_term.nd rfl (Or.inl rfl) (zp (FnOk.mono (kJ T) (by decide)) hr rfl T.m__law_part T.f__law_part.kp T.b__law_part .nil zy (za (pv 0) (za (zm zY (pv 1) (zd (i:=1))) (za (pv 2) ze)))))
  (zg (zU (zu qM (pv 3) (zd (i:=3)) (zD _)) (zh (zw (ya (za (pv 4) ze))))
    zF)
  (zg (zU (zu yh (pv 3) (zd (i:=3)) (zD _)) (zh (zw (ya (za (pv 4) (za (zm vb (zm zX (zp (FnOk.mono (zt T) (by decide)) hr rfl T.m__law_draw T.f__law_draw.kp T.b__law_draw .nil zy (za (pv 0) (za (zm zY (pv 1) (zd (i:=2))) ze))) (zd (i:=5))) (zd (i:=2))) (za (zJ (x:="times")) ze))))))
    zF)
  (zg (zU (zu yh (pv 3) (zd (i:=4)) (zD _)) (zg (zS (i:=5) sc__law_term.nd rfl (Or.inl rfl) (zO yo (v9 (za (zd (i:=1)) (za (JL WH (zd (i:=1))) (za (zd (i:=7)) (za (JL WH (zd (i:=3))) (za (zm zY (zm kL (zd (i:=10)) (zd (i:=9))) (zd (i:=7))) ze)))))) (zm zX (zp (FnOk.mono (zt T) (by decide)) hr rfl T.m__law_draw T.f__law_draw.kp T.b__law_draw .nil zy (za (pv 0) (za (zm zY (pv 1) (zd (i:=2))) ze))) (zd (i:=5))) (fun _ _=>rfl)))
  (zh (zw (ya (za (pv 4) (za (pv 5) (za (zO yo (v9 (za (zJ (x:="over")) (za (zJ (x:="rest")) ze))) (zm zX (zp (FnOk.mono (zt T) (by decide)) hr rfl T.m__law_draw T.f__law_draw.kp T.b__law_draw .nil zy (za (pv 0) (za (zm zY (pv 1) (zd (i:=3))) ze))) (zd (i:=2))) (fun _ _=>rfl)) ze)))))))
   zF)
  (zg (zS (i:=6) sc__law_term.nd rfl (Or.inl rfl) (v9 (za (zJ (x:="plus")) (za (zJ (x:="minus")) (za (zJ (x:="under")) (za (zJ (x:="same")) (za (zJ (x:="plus")) (za (zJ (x:="minus")) ze))))))))
  (zh (zw (ya (za (pv 4) (za (zp (FnOk.mono (kJ T) (by decide)) hr rfl T.m__law_part T.f__law_part.kp T.b__law_part .nil zy (za (pv 0) (za (zm zY (pv 1) (zd (i:=9))) (za (pv 2) ze)))) (za (zO yo (pv 6) (zm zY (zm vb (pv 3) (zd (i:=5))) (zm zX (zp (FnOk.mono (zt T) (by decide)) hr rfl T.m__law_draw T.f__law_draw.kp T.b__law_draw .nil zy (za (pv 0) (za (zm zY (pv 1) (zd (i:=4))) ze))) (zd (i:=2)))) (fun _ _=>rfl)) ze)))))))))))),Z5 h1 h2 h3 h4 q⟩
theorem kK (T:Txt K mg t):FnOk P w K mg base (CX1 P w) 5 t.a__law_spot t.d__law_spot ["cell","j","slots"] (wy):=by
 refine T.f__law_spot.ok0 Xg (fun vs H Q E h=>?_) (fun cdv A outer s H vs Q E hr h=>?_)
 ·obtain ⟨c,j,a,ws,rfl,_⟩:=h;rfl
 obtain ⟨c,j,a,ws,rfl,h1,h2,h3,h4,q⟩:=h
 exact ⟨vS K t,(zg (zU (zu yh (zm zX (zp (FnOk.mono (zt T) (by decide)) hr rfl T.m__law_draw T.f__law_draw.kp T.b__law_draw .nil zy (za (pv 0) (za (pv 1) ze))) (zd (i:=4))) (zd (i:=0)) (zD _)) (zh (zw (zp (FnOk.mono (wz T) (by decide)) hr rfl T.m__law_term T.f__law_term.kp T.b__law_term .nil zy (za (pv 0) (za (zm zY (pv 1) (zd (i:=1))) (za (pv 2) ze))))))
   zF)
  (zg (zU (zu yh (zm zX (zp (FnOk.mono (zt T) (by decide)) hr rfl T.m__law_draw T.f__law_draw.kp T.b__law_draw .nil zy (za (pv 0) (za (zm zY (pv 1) (zd (i:=3))) ze))) (zd (i:=8))) (zd (i:=0)) (zD _)) (zh (zw (ya (za (zm zY (zd (i:=1000)) (zm zX (zp (FnOk.mono (zt T) (by decide)) hr rfl T.m__law_draw T.f__law_draw.kp T.b__law_draw .nil zy (za (pv 0) (za (zm zY (pv 1) (zd (i:=2))) ze))) (zd (i:=240)))) ze))))
    zF)
  (zh (zw (ya (za (zm vb (zm zX (zp (FnOk.mono (zt T) (by decide)) hr rfl T.m__law_draw T.f__law_draw.kp T.b__law_draw .nil zy (za (pv 0) (za (zm zY (pv 1) (zd (i:=2))) ze))) (zd (i:=4))) (zd (i:=1))) ze)))))),Z7 h1 h2 h3 h4 q⟩
theorem WD (T:Txt K mg t):FnOk P w K mg base (CX1 P w) 6 t.a__law_row t.d__law_row ["cell","slots","shelves"] (w6):=by
 refine T.f__law_row.ok0 sc__law_row (fun vs H Q E h=>?_) (fun cdv A outer s H vs Q E hr h=>?_)
 ·obtain ⟨c,a,b,ws,us,rfl,_⟩:=h;rfl
 obtain ⟨c,a,b,ws,us,rfl,h1,h2,h3,h4,q⟩:=h
 exact ⟨jq K t,(zg (zS (i:=3) sc__law_row.nd rfl (Or.inl rfl) (zm zX (zp (FnOk.mono (zt T) (by decide)) hr rfl T.m__law_draw T.f__law_draw.kp T.b__law_draw .nil zy (za (pv 0) (za (zd (i:=0)) ze))) (zd (i:=7))))
  (zg (zS (i:=4) sc__law_row.nd rfl (Or.inl rfl) (zO yo (pv 2) (zm zX (zp (FnOk.mono (zt T) (by decide)) hr rfl T.m__law_draw T.f__law_draw.kp T.b__law_draw .nil zy (za (pv 0) (za (zd (i:=60)) ze))) (zd (i:=2))) (fun _ _=>rfl)))
  (zg (zS (i:=5) sc__law_row.nd rfl (Or.inl rfl) (zO yo (pv 1) (zm zX (zp (FnOk.mono (zt T) (by decide)) hr rfl T.m__law_draw T.f__law_draw.kp T.b__law_draw .nil zy (za (pv 0) (za (zd (i:=61)) ze))) (zd (i:=3))) (fun _ _=>rfl)))
  (zg (zU (zu qM (pv 3) (zd (i:=2)) (zD _)) (zh (zw (ya (za (zJ (x:="take")) (za (pv 4) (za (zp (FnOk.mono (kK T) (by decide)) hr rfl T.m__law_spot T.f__law_spot.kp T.b__law_spot .nil zy (za (pv 0) (za (zd (i:=20)) (za (pv 1) ze)))) (za (pv 5) ze)))))))
    zF)
  (zg (zU (zu qM (pv 3) (zd (i:=4)) (zD _)) (zh (zw (ya (za (zJ (x:="give")) (za (pv 4) (za (zp (FnOk.mono (kK T) (by decide)) hr rfl T.m__law_spot T.f__law_spot.kp T.b__law_spot .nil zy (za (pv 0) (za (zd (i:=20)) (za (pv 1) ze)))) (za (zp (FnOk.mono (wz T) (by decide)) hr rfl T.m__law_term T.f__law_term.kp T.b__law_term .nil zy (za (pv 0) (za (zd (i:=40)) (za (pv 1) ze)))) ze)))))))
    zF)
  (zg (zU (zu qM (pv 3) (zd (i:=6)) (zD _)) (zh (zw (ya (za (zJ (x:="let")) (za (pv 5) (za (zp (FnOk.mono (wz T) (by decide)) hr rfl T.m__law_term T.f__law_term.kp T.b__law_term .nil zy (za (pv 0) (za (zd (i:=40)) (za (pv 1) ze)))) ze))))))
    zF)
  (zh (zw (ya (za (zJ (x:="say")) (za (zp (FnOk.mono (wz T) (by decide)) hr rfl T.m__law_term T.f__law_term.kp T.b__law_term .nil zy (za (pv 0) (za (zd (i:=40)) (za (pv 1) ze)))) ze))))))))))),Xm h1 h2 h3 h4 q⟩
theorem Yc (T:Txt K mg t):∀ n,FnOk P w K mg base (CX1 P w) (1 + n) t.a__law_plain t.d__law_plain ["found"] (yO n):=by
 intro n
 induction n with
 | zero=>exact ⟨fun vs H Q E h=>(js h).elim,fun A outer s H args us vs Q E hr he hb hv h=>(js h).elim⟩
 | succ n IH =>
 refine T.f__law_plain.ok0 sc__law_plain (k:=1 + n) (fun vs H Q E h=>?_) (fun cdv A outer s H vs Q E hr h=>?_)
 ·obtain ⟨v,rfl,_⟩:=h;rfl
 obtain ⟨v,rfl,h1,q⟩:=h
 exact ⟨vn K t n,(zg (zU (wD (yi YG rfl T.b_isinstance ym (za (pv 0) (za (ya (za (xW rfl T.b_list jz rfl) (za (xW rfl T.b_tuple qY rfl) ze))) ze)))) (zg (v3 PassesOwn.never rfl (zaZ (pv 0)) (yU (i:=1) sc__law_plain.nd rfl (Or.inl rfl)) (zh (zU (jP (wD (zp (FnOk.mono IH (by omega)) hr rfl T.m__law_plain T.f__law_plain.kp T.b__law_plain .nil zy (za (pv 1) ze)))) (zh (zw (qd (b:=false))))
   zF)))
  (zh (zw (qd (b:=true)))))
   zF)
  (zh (zw (zaz (yi YG rfl T.b_isinstance ym (za (pv 0) (za (ya (za (xW rfl T.b_int kR rfl) (za (xW rfl T.b_str J5 rfl) ze))) ze))) (zay (zaA (yi vy rfl T.b_isinstance ym (za (pv 0) (za (xW rfl T.b_bool Vv rfl) ze))))))))),ZO (kf K) h1 q⟩
theorem ok_law (T:Txt K mg t):FnOk P w K mg base (CX1 P w) 15 t.a_law t.d_law ["script"] (sp_law K):=by
 refine T.f_law.ok0 sc_law (fun vs H Q E h=>?_) (fun cdv A outer s H vs Q E hr h=>?_)
 ·obtain ⟨a,ns,rfl,_⟩:=h;rfl
 obtain ⟨a,ns,rfl,hS,hn,q⟩:=h
 exact ⟨W8 K t,(zg (zS (i:=1) sc_law.nd rfl (Or.inr rfl) (zp (FnOk.mono (jO T) (by decide)) hr rfl T.m__law_names T.f__law_names.kp T.b__law_names .nil zy (za (zp (FnOk.mono (wt T) (by decide)) hr rfl T.m__law_cell_at T.f__law_cell_at.kp T.b__law_cell_at .nil zy (za (pv 0) (za (zd (i:=0)) ze))) (za (zd (i:=3)) ze))))
  (zg (zS (i:=2) sc_law.nd rfl (Or.inr rfl) (zp (FnOk.mono (jO T) (by decide)) hr rfl T.m__law_names T.f__law_names.kp T.b__law_names .nil zy (za (zp (FnOk.mono (wt T) (by decide)) hr rfl T.m__law_cell_at T.f__law_cell_at.kp T.b__law_cell_at .nil zy (za (pv 0) (za (zd (i:=1)) ze))) (za (zd (i:=2)) ze))))
  (zg (zS (i:=3) sc_law.nd rfl (Or.inl rfl) (zp (FnOk.mono (Z8 T) (by decide)) hr rfl T.m__law_table T.f__law_table.kp T.b__law_table .nil zy (za (zp (FnOk.mono (wt T) (by decide)) hr rfl T.m__law_cell_at T.f__law_cell_at.kp T.b__law_cell_at .nil zy (za (pv 0) (za (zd (i:=2)) ze))) (za (pv 2) ze))))
  (zg (qW (j:=4) sc_law.nd rfl rfl (Or.inl rfl) (osc:=zj Zv) (N:=["script","slots","shelves","table","rows","due","handed","told"]) (xs:=["cell"]) (ix:=[1,2]) (by decide +kernel) (qz (vt Qw (pv 0) (vK (zd (i:=2))) (vK (zd (i:=42))))) (fun _ _ _ _=>(yU (i:=0) (show List.Nodup (["cell","slots","shelves"]:List Str) from (by decide +kernel)) rfl (Or.inl rfl) (.inr rfl))) (fun _ _ _ _=>Vs) (fun _ _ _ _=>(zp (FnOk.mono (WD T) (by decide)) hr rfl T.m__law_row T.f__law_row.kp T.b__law_row .nil zy (za (pv 0) (za (pv 1) (za (pv 2) ze))))))
  (zg (zS (i:=5) sc_law.nd rfl (Or.inl rfl) (zp (FnOk.mono (ZU T) (by decide)) hr rfl T.m__law_walked T.f__law_walked.kp T.b__law_walked .nil zy (za (pv 4) (za (pv 3) ze))))
  (zg (zS (i:=6) sc_law.nd rfl (Or.inl rfl) (v9 (za (yq vL rfl T.b_list jz (za (pv 4) ze)) (za (yq vL rfl T.b_list jz (za (pv 3) ze)) ze))))
  (zg (zS (i:=7) sc_law.nd rfl (Or.inl rfl) (zp (FnOk.mono (WC T) (by decide)) hr rfl T.m_alone T.f_alone.kp T.b_alone .nil zy (za (zO yo (pv 6) (zd (i:=0)) (fun _ _=>rfl)) (za (zO yo (pv 6) (zd (i:=1)) (fun _ _=>rfl)) ze))))
  (zg (zU (PW.pt (Vi (jP (wD (zp (FnOk.mono (Yc T 6) (by decide)) hr rfl T.m__law_plain T.f__law_plain.kp T.b__law_plain .nil zy (za (pv 7) ze)))) (Vi (zu (Zl (Kb hr)) (pv 7) (pv 5) (zD _)) (WE (jP (wD (yi vy rfl T.b_isinstance ym (za (zO zZ (pv 7) (zd (i:=1)) (fun _ _=>rfl)) (za (xW rfl T.b_list jz rfl) ze))))))))) (zh (zw (qd (b:=false))))
    zF)
  (zg (wV (qQ PySem.F.plainAttrs_list PySem.F.slot_list_append PySem.F.type_list_append xo (zO zZ (pv 7) (zd (i:=1)) (fun _ _=>rfl)) (za (ya (za (ya (za (zJ (x:="z")) (za (zd (i:=1)) ze))) (za (zd (i:=5)) ze))) ze)))
  (zg (zU (PW.pt (Vi (zu (Zl (Kb hr)) (zO yo (pv 6) (zd (i:=0)) (fun _ _=>rfl)) (pv 4) (zD _)) (WE (zu (Zl (Kb hr)) (zO yo (pv 6) (zd (i:=1)) (fun _ _=>rfl)) (pv 3) (zD _))))) (zh (zw (qd (b:=false))))
    zF)
  (zh (zw (qA (Ku (Kb hr)) (zp (FnOk.mono (WC T) (by decide)) hr rfl T.m_alone T.f_alone.kp T.b_alone .nil zy (za (zO yo (pv 6) (zd (i:=0)) (fun _ _=>rfl)) (za (zO yo (pv 6) (zd (i:=1)) (fun _ _=>rfl)) ze))) (pv 5) (zD _)))))))))))))),zae hS hn q⟩
end
end K21
open PySem PySem.W PyProof.Rows
def PySem.W.Fast.tw11967049246018318000:Unit:=()
def PySem.W.Fast.tw6956340872098911361:Unit:=()
def PySem.W.Fast.tw13681512236122338652:Unit:=()
def PySem.W.Fast.tw15542278744497133909:Unit:=()
def PySem.W.Fast.tw1228644471252044973:Unit:=()
def PySem.W.Fast.tw12638219920610221415:Unit:=()
def PySem.W.Fast.tw8286056226343411476:Unit:=()
def PySem.W.Fast.tw4853284377964542323:Unit:=()
def PySem.W.Fast.tw11939755166664292642:Unit:=()
def PySem.W.Fast.tw10885676322437672889:Unit:=()
def PySem.W.Fast.tw1291538814954241707:Unit:=()
def PySem.W.Fast.tw6035435101495319776:Unit:=()
def PySem.W.Fast.tw1442385326363711418:Unit:=()
def PySem.W.Fast.tw3153638565633069316:Unit:=()
def PySem.W.Fast.tw18369154256054253367:Unit:=()
def PySem.W.Fast.tw14099931319518078743:Unit:=()
def PySem.W.Fast.tw771029149004395527:Unit:=()
def PySem.W.Fast.tw12543619916561464057:Unit:=()
def PySem.W.Fast.tw2257686257887652342:Unit:=()
def PySem.W.Fast.tw11680055636979149431:Unit:=()
def PySem.W.Fast.tw8089085733000985140:Unit:=()
def PySem.W.Fast.tw3464244416121747472:Unit:=()
def PySem.W.Fast.tw4347931769432597776:Unit:=()
def PySem.W.Fast.tw17830896147080185669:Unit:=()
def PySem.W.Fast.tw14242647781626026917:Unit:=()
def PySem.W.Fast.tw16037795185948930670:Unit:=()
def PySem.W.Fast.tw3468293573241032268:Unit:=()
def PySem.W.Fast.tw13266496585549671022:Unit:=()
def PySem.W.Fast.tw5478316797117291331:Unit:=()
def PySem.W.Fast.tw6178048647654700615:Unit:=()
def PySem.W.Fast.tw16709413659259287909:Unit:=()
def PySem.W.Fast.tw17316823774398649709:Unit:=()
def PySem.W.Fast.tw18199654741908749221:Unit:=()
def PySem.W.Fast.tw764094620023974054:Unit:=()
def PySem.W.Fast.tw7780728505369442704:Unit:=()
def PySem.W.Fast.tw13437013707233380590:Unit:=()
def PySem.W.Fast.tw14799217558621552108:Unit:=()
def PySem.W.Fast.tw11915840723616059699:Unit:=()
def PySem.W.Fast.tw1757829931269571484:Unit:=()
def PySem.W.Fast.tw15933619757523821953:Unit:=()
def PySem.W.Fast.tw10101249705663140668:Unit:=()
def PySem.W.Fast.tw1624542949144659736:Unit:=()
def PySem.W.Fast.tw12955026841458354547:Unit:=()
def PySem.W.Fast.tw10182824650792137763:Unit:=()
def PySem.W.Fast.tw7339449391083886693:Unit:=()
def PySem.W.Fast.tw4394194079846192864:Unit:=()
def PySem.W.Fast.tw613651517771774815:Unit:=()
def PySem.W.Fast.tw7091885096113975406:Unit:=()
def PySem.W.Fast.tw15977055848501941081:Unit:=()
def PySem.W.Fast.tw3376028072253640839:Unit:=()
def PySem.W.Fast.tw5794633936489626148:Unit:=()
def PySem.W.Fast.tw10843015123949121197:Unit:=()
def PySem.W.Fast.tw6436948414748514490:Unit:=()
def PySem.W.Fast.tw14163145639537213188:Unit:=()
def PySem.W.Fast.tw16900334748533943219:Unit:=()
def PySem.W.Fast.tw1856398864741840065:Unit:=()
def PySem.W.Fast.tw12702158382786513813:Unit:=()
def PySem.W.Fast.tw9810268911996033294:Unit:=()
def PySem.W.Fast.tw5604356721307129908:Unit:=()
def PySem.W.Fast.tw3638091713641362021:Unit:=()
def PySem.W.Fast.tw1890086714140971763:Unit:=()
def PySem.W.Fast.tw2467178290241640731:Unit:=()
def PySem.W.Fast.tw11211329730210823435:Unit:=()
def PySem.W.Fast.tw3022669605670583900:Unit:=()
def PySem.W.Fast.tw3711844215878366882:Unit:=()
def PySem.W.Fast.tw14740741296972246593:Unit:=()
def PySem.W.Fast.tw17127248478898881113:Unit:=()
def PySem.W.Fast.tw10188864675436669723:Unit:=()
def PySem.W.Fast.tw10874375147435650973:Unit:=()
def PySem.W.Fast.tw7871830261078168086:Unit:=()
def PySem.W.Fast.tw2947667134453119919:Unit:=()
def PySem.W.Fast.tw16764919457232101550:Unit:=()
def PySem.W.Fast.tw2035764082259653564:Unit:=()
def PySem.W.Fast.tw411596895144679544:Unit:=()
def PySem.W.Fast.tw10659722157039364653:Unit:=()
def PySem.W.Fast.tw980168985323769732:Unit:=()
def PySem.W.Fast.tw12370057138138889542:Unit:=()
def PySem.W.Fast.tw312415314968215192:Unit:=()
def PySem.W.Fast.tw1105931889339021612:Unit:=()
def PySem.W.Fast.tw14169169983784417843:Unit:=()
def PySem.W.Fast.tw8761141586912292928:Unit:=()
def PySem.W.Fast.tw3181558852207886816:Unit:=()
def PySem.W.Fast.tw2946639204457057713:Unit:=()
def PySem.W.Fast.tw11427108560903491317:Unit:=()
def PySem.W.Fast.tw897008988984547715:Unit:=()
def PySem.W.Fast.tw15098046176705921609:Unit:=()
def PySem.W.Fast.tw9275264233852563436:Unit:=()
def PySem.W.Fast.tw16986676957289500256:Unit:=()
def PySem.W.Fast.tw9973247037150257124:Unit:=()
def PySem.W.Fast.tw10576943856469887006:Unit:=()
def PySem.W.Fast.tw5538110169780117757:Unit:=()
def PySem.W.Fast.tw15762505316228185497:Unit:=()
def PySem.W.Fast.tw5964909922762435912:Unit:=()
def PySem.W.Fast.tw5564034637974506642:Unit:=()
def PySem.W.Fast.tw13814406112507047740:Unit:=()
def PySem.W.Fast.tw14096886972774794095:Unit:=()
def PySem.W.Fast.tw2614283118102551834:Unit:=()
def PySem.W.Fast.tw15829179353748295747:Unit:=()
def PySem.W.Fast.tw11903586702785754596:Unit:=()
def PySem.W.Fast.tw2078077408809680320:Unit:=()
def PySem.W.Fast.tw4356853013867769746:Unit:=()
def PySem.W.Fast.tw17490258582390443704:Unit:=()
def PySem.W.Fast.tw4967883993164816185:Unit:=()
def PySem.W.Fast.tw15592738181546825230:Unit:=()
def PySem.W.Fast.tw13287993917104841689:Unit:=()
def PySem.W.Fast.tw2496140813257890700:Unit:=()
def PySem.W.Fast.tw5958960733152443249:Unit:=()
def PySem.W.Fast.tw7519287600974194066:Unit:=()
def PySem.W.Fast.tw10687640946710933855:Unit:=()
def PySem.W.Fast.tw16092014776940382930:Unit:=()
def PySem.W.Fast.tw2089049625329790370:Unit:=()
def PySem.W.Fast.tw15039638310042938461:Unit:=()
def PySem.W.Fast.tw8810129490807639641:Unit:=()
def PySem.W.Fast.tw414924146109831979:Unit:=()
def PySem.W.Fast.tw14631893048015184677:Unit:=()
def PySem.W.Fast.tw4712143886330394539:Unit:=()
def PySem.W.Fast.tw5299125555062788429:Unit:=()
def PySem.W.Fast.tw17562536958569402344:Unit:=()
def PySem.W.Fast.tw10774787350685147559:Unit:=()
def PySem.W.Fast.tw13496825681922995623:Unit:=()
def PySem.W.Fast.tw1033436849923061145:Unit:=()
def PySem.W.Fast.tw9027826433044948711:Unit:=()
def PySem.W.Fast.tw3339740791911516087:Unit:=()
def PySem.W.Fast.tw847346501012798552:Unit:=()
def PySem.W.Fast.tw8287312125578368893:Unit:=()
def PySem.W.Fast.tw13856289680625394015:Unit:=()
def PySem.W.Fast.tw8248885959516541910:Unit:=()
def PySem.W.Fast.tw14586775719350283207:Unit:=()
def PySem.W.Fast.tw10449181027455840615:Unit:=()
def PySem.W.Fast.tw10131532662613113387:Unit:=()
def PySem.W.Fast.tw9932883499211707973:Unit:=()
def PySem.W.Fast.tw17773977160647839800:Unit:=()
def PySem.W.Fast.tw8748956802341853001:Unit:=()
def PySem.W.Fast.tw11396119103947692682:Unit:=()
def PySem.W.Fast.tw14088479319267561984:Unit:=()
def PySem.W.Fast.tw8770049065317710874:Unit:=()
def PySem.W.Fast.tw8066797984018780183:Unit:=()
def PySem.W.Fast.tw15990834072175044296:Unit:=()
def PySem.W.Fast.tw1065059726861934355:Unit:=()
def PySem.W.Fast.tw9286775241747461523:Unit:=()
def PySem.W.Fast.tw16707844754084755391:Unit:=()
def PySem.W.Fast.tw9853530635185732777:Unit:=()
def PySem.W.Fast.tw6813906179937074360:Unit:=()
def PySem.W.Fast.tw13747548631807674633:Unit:=()
def PySem.W.Fast.tw15494875472072812016:Unit:=()
def PySem.W.Fast.tw1653890452191337005:Unit:=()
def PySem.W.Fast.tw9623738477294531208:Unit:=()
def PySem.W.Fast.tw10048107162760598493:Unit:=()
def PySem.W.Fast.tw11873782411663023170:Unit:=()
def PySem.W.Fast.tw16590547696212476933:Unit:=()
def PySem.W.Fast.tw16297193254461259511:Unit:=()
def PySem.W.Fast.tw10312532945299454128:Unit:=()
def PySem.W.Fast.tw6394018870371695482:Unit:=()
def PySem.W.Fast.tw16898612426835654038:Unit:=()
def PySem.W.Fast.tw5632320085871776885:Unit:=()
def PySem.W.Fast.tw11580127590625431826:Unit:=()
def PySem.W.Fast.tw10747801618036227454:Unit:=()
def PySem.W.Fast.tw10244792546834959958:Unit:=()
def PySem.W.Fast.tw9764003000484012854:Unit:=()
def PySem.W.Fast.tw17391385701751689723:Unit:=()
def PySem.W.Fast.tw8241621675779980068:Unit:=()
def PySem.W.Fast.tw15366775654144068298:Unit:=()
def PySem.W.Fast.tw13567168386655881776:Unit:=()
def PySem.W.Fast.tw15740865682106838712:Unit:=()
def PySem.W.Fast.tw16231283924215248931:Unit:=()
def PySem.W.Fast.tw8759704129377062308:Unit:=()
def PySem.W.Fast.tw3752447830756042446:Unit:=()
def PySem.W.Fast.tw12213043794987635326:Unit:=()
def PySem.W.Fast.tw13708880844675978816:Unit:=()
def PySem.W.Fast.tw3276480054505862818:Unit:=()
def PySem.W.Fast.tw15170056704717183082:Unit:=()
def PySem.W.Fast.tw1886024475835396758:Unit:=()
def PySem.W.Fast.tw15084187530262339299:Unit:=()
def PySem.W.Fast.tw8096889628178770695:Unit:=()
def PySem.W.Fast.tw9838217054276256281:Unit:=()
def PySem.W.Fast.tw10827609797855244782:Unit:=()
def PySem.W.Fast.tw7873671559216726180:Unit:=()
def PySem.W.Fast.tw5730973018484766515:Unit:=()
def PySem.W.Fast.tw14900814654592724302:Unit:=()
def PySem.W.Fast.tw2178920858254660037:Unit:=()
def PySem.W.Fast.tw15453911789976540391:Unit:=()
def PySem.W.Fast.tw1321819724677652479:Unit:=()
def PySem.W.Fast.tw13157008477003730761:Unit:=()
def PySem.W.Fast.tw11615137610381298795:Unit:=()
def PySem.W.Fast.tw7800089858202081750:Unit:=()
def PySem.W.Fast.tw5884699636128745198:Unit:=()
def PySem.W.Fast.tw10696098773824385926:Unit:=()
def PySem.W.Fast.tw16890550580586947956:Unit:=()
def PySem.W.Fast.tw6441821482099179661:Unit:=()
def PySem.W.Fast.tw17905362989265077826:Unit:=()
def PySem.W.Fast.tw3282074087995899259:Unit:=()
def PySem.W.Fast.tw17291158692182668066:Unit:=()
def PySem.W.Fast.tw17402887085685881100:Unit:=()
def PySem.W.Fast.tw2667467923449853425:Unit:=()
def PySem.W.Fast.tw11567532033957938526:Unit:=()
def PySem.W.Fast.tw154133456459321580:Unit:=()
def PySem.W.Fast.tw15830280518453335860:Unit:=()
def PySem.W.Fast.tw7689322791047191374:Unit:=()
def PySem.W.Fast.tw10303104755754920752:Unit:=()
def PySem.W.Fast.tw777645932764200988:Unit:=()
def PySem.W.Fast.tw8079463486491837204:Unit:=()
def PySem.W.Fast.tw17687718836789988323:Unit:=()
def PySem.W.Fast.tw11225669307917805245:Unit:=()
def PySem.W.Fast.tw13943411269278547987:Unit:=()
def PySem.W.Fast.tw1406448131591366006:Unit:=()
def PySem.W.Fast.tw8167961709991151899:Unit:=()
def PySem.W.Fast.tw17585308208805416505:Unit:=()
def PySem.W.Fast.tw4829835965735920780:Unit:=()
def PySem.W.Fast.tw1423410852992278426:Unit:=()
def PySem.W.Fast.tw9192950959444709567:Unit:=()
def PySem.W.Fast.tw423133770590885418:Unit:=()
def PySem.W.Fast.tw10659607439035898908:Unit:=()
def PySem.W.Fast.tw4370294356631965349:Unit:=()
def PySem.W.Fast.tw6678989898567529907:Unit:=()
def PySem.W.Fast.tw2147121214813546995:Unit:=()
def PySem.W.Fast.tw15979217161557471548:Unit:=()
def PySem.W.Fast.tw7635282313732977674:Unit:=()
def PySem.W.Fast.tw2602860917553547484:Unit:=()
def PySem.W.Fast.tw4337358371024454700:Unit:=()
def PySem.W.Fast.tw18197289841942065130:Unit:=()
def PySem.W.Fast.tw5768462450192035968:Unit:=()
def PySem.W.Fast.tw3927397837872322925:Unit:=()
def PySem.W.Fast.tw3247710388651998549:Unit:=()
def PySem.W.Fast.tw18231067405212444101:Unit:=()
def PySem.W.Fast.tw14364511038869143687:Unit:=()
def PySem.W.Fast.tw1591619600191334885:Unit:=()
def PySem.W.Fast.tw4486438531972049640:Unit:=()
set_option maxRecDepth 100000 in
set_option maxHeartbeats 0 in
theorem PySem.Challenge.cw_forerun_k21_straight_rows_holds : PySem.Challenge.rw_forerun_k21_straight_rows.Holds := by
 w_on; o_law; k_head; (case hw => w_witness2)
 k_fill
 refine L2.walk_ofX (l := PySem.Challenge.rw_forerun_k21_straight_rows) (n := 63) (k := 15) (x := "script") (sp := K21.sp_law) rfl (by decide) rfl ⟨rfl, by decide, by decide⟩ (fun w h Y => PySem.W.kIn_of Y) ?F ?S
 case F =>
  intro w mg fa h KX G hmg
  have T : ∃ t, K21.Txt (L2.KOf KX) mg t := by
   dsimp only [L2.KOf]
   refine' K21.txt_mk KX G ?qa0 ?ql0 ?qc0 ?qk0 ?qa1 ?ql1 ?qc1 ?qk1 ?qa2 ?ql2 ?qc2 ?qk2 ?qa3 ?ql3 ?qc3 ?qk3 ?qa4 ?ql4 ?qc4 ?qk4 ?qa5 ?ql5 ?qc5 ?qk5 ?qa6 ?ql6 ?qc6 ?qk6 ?qa7 ?qi7 ?ql7 ?qc7 ?qk7 ?qa8 ?ql8 ?qc8 ?qk8 ?qa9 ?ql9 ?qc9 ?qk9 ?qa10 ?ql10 ?qc10 ?qk10 ?qa11 ?ql11 ?qc11 ?qk11 ?qa12 ?ql12 ?qc12 ?qk12 ?qa13 ?qi13 ?ql13 ?qc13 ?qk13 ?qa14 ?qi14 ?ql14 ?qc14 ?qk14 ?qa15 ?qi15 ?ql15 ?qc15 ?qk15 ?qa16 ?ql16 ?qc16 ?qk16 ?qa17 ?ql17 ?qc17 ?qk17 ?qa18 ?ql18 ?qc18 ?qk18 ?qa19 ?ql19 ?qc19 ?qk19 ?qa20 ?ql20 ?qc20 ?qk20 ?qa21 ?ql21 ?qc21 ?qk21 ?qa22 ?ql22 ?qc22 ?qk22 ?qa23 ?ql23 ?qc23 ?qk23 ?qa24 ?ql24 ?qc24 ?qk24 ?qa25 ?ql25 ?qc25 ?qk25 ?qz0 ?qz1 ?qz2 ?qz3 ?qz4 ?qz5 ?qz6 ?qz7 ?qz8 ?qz9 ?qg0 ?qh0 ?qv0 ?qv1 ?qv2 ?pg0 ?pd0 ?po0 ?pe0 ?pm0_ ?pk0 ?pn0_0 ?pn0_1 ?pn0_2 ?rx0 ?ry0_0 ?ry0_1 ?ry0_2 ?ry0_3 ?ry0_4 ?ry0_5 ?ry0_6 ?ry0_7 ?re0_0 ?re0_1 ?rx1 ?ry1_0 ?ry1_1 ?ry1_2 ?ry1_3 ?ry1_4 ?ry1_5 ?ry1_6 ?ry1_7 ?re1_0 ?re1_1
   (case qv0 => k_is)
   (case qv1 => k_is)
   (case qv2 => k_is)
   (case qa0 => k_is)
   (case ql0 => k_is)
   (case qc0 => k_is)
   (case qk0 => k_is)
   (case qa1 => k_is)
   (case ql1 => k_is)
   (case qc1 => k_is)
   (case qk1 => k_is)
   (case qa2 => k_is)
   (case ql2 => k_is)
   (case qc2 => k_is)
   (case qk2 => k_is)
   (case qa3 => k_is)
   (case ql3 => k_is)
   (case qc3 => k_is)
   (case qk3 => k_is)
   (case qa4 => k_is)
   (case ql4 => k_is)
   (case qc4 => k_is)
   (case qk4 => k_is)
   (case qa5 => k_is)
   (case ql5 => k_is)
   (case qc5 => k_is)
   (case qk5 => k_is)
   (case qa6 => k_is)
   (case ql6 => k_is)
   (case qc6 => k_is)
   (case qk6 => k_is)
   (case qa7 => k_is)
   (case qi7 => k_is)
   (case ql7 => k_is)
   (case qc7 => k_is)
   (case qk7 => k_is)
   (case qa8 => k_is)
   (case ql8 => k_is)
   (case qc8 => k_is)
   (case qk8 => k_is)
   (case qa9 => k_is)
   (case ql9 => k_is)
   (case qc9 => k_is)
   (case qk9 => k_is)
   (case qa10 => k_is)
   (case ql10 => k_is)
   (case qc10 => k_is)
   (case qk10 => k_is)
   (case qa11 => k_is)
   (case ql11 => k_is)
   (case qc11 => k_is)
   (case qk11 => k_is)
   (case qa12 => k_is)
   (case ql12 => k_is)
   (case qc12 => k_is)
   (case qk12 => k_is)
   (case qa13 => k_is)
   (case qi13 => k_is)
   (case ql13 => k_is)
   (case qc13 => k_is)
   (case qk13 => k_is)
   (case qa14 => k_is)
   (case qi14 => k_is)
   (case ql14 => k_is)
   (case qc14 => k_is)
   (case qk14 => k_is)
   (case qa15 => k_is)
   (case qi15 => k_is)
   (case ql15 => k_is)
   (case qc15 => k_is)
   (case qk15 => k_is)
   (case qa16 => k_is)
   (case ql16 => k_is)
   (case qc16 => k_is)
   (case qk16 => k_is)
   (case qa17 => k_is)
   (case ql17 => k_is)
   (case qc17 => k_is)
   (case qk17 => k_is)
   (case qa18 => k_is)
   (case ql18 => k_is)
   (case qc18 => k_is)
   (case qk18 => k_is)
   (case qa19 => k_is)
   (case ql19 => k_is)
   (case qc19 => k_is)
   (case qk19 => k_is)
   (case qa20 => k_is)
   (case ql20 => k_is)
   (case qc20 => k_is)
   (case qk20 => k_is)
   (case qa21 => k_is)
   (case ql21 => k_is)
   (case qc21 => k_is)
   (case qk21 => k_is)
   (case qa22 => k_is)
   (case ql22 => k_is)
   (case qc22 => k_is)
   (case qk22 => k_is)
   (case qa23 => k_is)
   (case ql23 => k_is)
   (case qc23 => k_is)
   (case qk23 => k_is)
   (case qa24 => k_is)
   (case ql24 => k_is)
   (case qc24 => k_is)
   (case qk24 => k_is)
   (case qa25 => k_is)
   (case ql25 => k_is)
   (case qc25 => k_is)
   (case qk25 => k_is)
   (case qz0 => k_is)
   (case qz1 => k_is)
   (case qz2 => k_is)
   (case qz3 => k_is)
   (case qz4 => k_is)
   (case qz5 => k_is)
   (case qz6 => k_is)
   (case qz7 => k_is)
   (case qz8 => k_is)
   (case qz9 => k_is)
   (case qg0 => k_is)
   (case qh0 => k_is)
   (case pg0 => k_is)
   (case pd0 => k_is)
   (case po0 => k_is)
   (case pe0 => k_is)
   (case pm0_ => k_is)
   (case pk0 => k_is)
   (case pn0_0 => k_is)
   (case pn0_1 => k_is)
   (case pn0_2 => k_is)
   (case rx0 => k_exc)
   (case ry0_0 => k_is)
   (case ry0_1 => k_is)
   (case ry0_2 => k_is)
   (case ry0_3 => k_is)
   (case ry0_4 => k_is)
   (case ry0_5 => k_is)
   (case ry0_6 => k_is)
   (case ry0_7 => k_is)
   (case re0_0 => kernel_rfl)
   (case re0_1 => kernel_rfl)
   (case rx1 => k_exc)
   (case ry1_0 => k_is)
   (case ry1_1 => k_is)
   (case ry1_2 => k_is)
   (case ry1_3 => k_is)
   (case ry1_4 => k_is)
   (case ry1_5 => k_is)
   (case ry1_6 => k_is)
   (case ry1_7 => k_is)
   (case re1_0 => kernel_rfl)
   (case re1_1 => kernel_rfl)
  obtain ⟨t, T⟩ := T
  have e0 := hmg.symm.trans T.m_law
  cases e0
  exact ⟨_, T.w_law, fun base _ _ => K21.ok_law T⟩
 case S => exact fun K H a ns hl _ hS => ⟨a, ns, rfl, hS, hl, fun _ => rfl⟩
