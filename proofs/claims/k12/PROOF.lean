import PyProof.Rows.All
import Wide.All
import OpenK.AllK
import Wide.FinOn
import Lean
import PyProof.EqAt
import PyProof.EqKinds
import PyProof.TupleCall
import PySem.Challenge.RW_forerun_k12_shown_and_read_again
import KE.KDictList
import KE.KDictOf
import KE.KEqDict
import KE.KIntText
import KE.KItemsList
import KE.KRevIter
import KE.KSortAsk
import KE.KSortTup
import KE.KSorted
import KE.KTryMore
import KE.LcSums
import PyProof.AttrMissHeap
import PyProof.Conv_int_bool
import PyProof.DictItems
import PyProof.DictKinds
import PyProof.DictWalks
import PyProof.EnumFor
import PyProof.EnumMake
import PyProof.EqKinds
import PyProof.ListIndexNeg
import PyProof.MeetsStr
import PyProof.NeKinds
import PyProof.NsDelKeeps
import PyProof.Rows.EqDataRows
import PyProof.Rows.Range3
import PyProof.StrCalls2
import PyProof.StrLaws
import PyProof.StrLawsTight
import PyProof.StrOps
import PyProof.StrOps2
import PyProof.TupleIter
import PyProof.TupleKey
import PyProof.ZipIter
set_option Elab.async false
set_option linter.all false
set_option maxRecDepth 100000
namespace L2
open PySem PySem.Spec PyProof.Rows
abbrev Key:=Sum Int Str
def keyIs:Key→Value→Bool
  | .inl k,v=>Value.isInt k v
  | .inr x,v=>Value.isStrOf x v
def keyH (w:World):Key→Int
  | .inl k=>hashInt k
  | .inr x=>hashStr w x
theorem keyIs_shape:∀ {k:Key} {v:Value},keyIs k v=true→(∃ i t,k=Sum.inl i∧v=Value.int i t)∨(∃ x t,k=Sum.inr x∧v=Value.str x t)
  | .inl i,v,h=>by
    obtain ⟨t,e⟩:=Value.isInt_shape (k:=i) (v:=v) h
    exact .inl ⟨i,t,rfl,e⟩
  | .inr x,v,h=>by
    obtain ⟨t,e⟩:=Value.isStrOf_shape (x:=x) (v:=v) h
    exact .inr ⟨x,t,rfl,e⟩
theorem key_ll (a b:Int):decide ((Sum.inl a:Key)=Sum.inl b)=(a == b):=by
  by_cases e:a=b
  · subst e;simp
  · have h:¬ (Sum.inl a:Key)=Sum.inl b:=fun q=>e (Sum.inl.inj q)
    rw [decide_eq_false h]
    exact (beq_eq_false_iff_ne.mpr e).symm
theorem key_rr (a b:Str):decide ((Sum.inr a:Key)=Sum.inr b)=decide (a=b):=by
  by_cases e:a=b
  · subst e;simp
  · have h:¬ (Sum.inr a:Key)=Sum.inr b:=fun q=>e (Sum.inr.inj q)
    rw [decide_eq_false h,decide_eq_false e]
theorem key_lr (a:Int) (b:Str):decide ((Sum.inl a:Key)=Sum.inr b)=false:=decide_eq_false (fun q=>nomatch q)
theorem key_rl (a:Str) (b:Int):decide ((Sum.inr a:Key)=Sum.inl b)=false:=decide_eq_false (fun q=>nomatch q)
def mixKind (prog:Program) (w:World):PySem.KeyKind prog w Key where
  is:=keyIs
  hash:=keyH w
  inj:=fun v a b ha hb=>by
    rcases keyIs_shape ha with ⟨i,t,rfl,rfl⟩ | ⟨x,t,rfl,rfl⟩
    · rcases keyIs_shape hb with ⟨j,u,rfl,e⟩ | ⟨y,u,rfl,e⟩
      · injection e with e1 _;rw [e1]
      · exact nomatch e
    · rcases keyIs_shape hb with ⟨j,u,rfl,e⟩ | ⟨y,u,rfl,e⟩
      · exact nomatch e
      · injection e with e1 _;rw [e1]
  byValue:=fun k v h=>by
    rcases keyIs_shape h with ⟨i,t,rfl,rfl⟩ | ⟨x,t,rfl,rfl⟩ <;> rfl
  pyHash:=fun hv h=>by
    rcases keyIs_shape hv with ⟨i,t,rfl,rfl⟩ | ⟨x,t,rfl,rfl⟩
    · exact wpAny_pyHash_int h
    · exact wpAny_pyHash_str h
  eqBool:=fun hu hv h=>by
    rcases keyIs_shape hu with ⟨i,t,rfl,rfl⟩ | ⟨x,t,rfl,rfl⟩
    · rcases keyIs_shape hv with ⟨j,u,rfl,rfl⟩ | ⟨y,u,rfl,rfl⟩
      · rw [key_ll] at h;exact wpAny_eqBool_int h
      · rw [key_lr] at h;exact SeqAt.EqAt.int_str i t y u _ _ _ _ h
    · rcases keyIs_shape hv with ⟨j,u,rfl,rfl⟩ | ⟨y,u,rfl,rfl⟩
      · rw [key_rl] at h;exact SeqAt.EqAt.str_int x t j u _ _ _ _ h
      · rw [key_rr] at h;exact wpAny_eqBool_str h
  «strs»:=fun k x t v h=>by
    rcases keyIs_shape h with ⟨i,u,rfl,e⟩ | ⟨y,u,rfl,e⟩
    · exact nomatch e
    · injection e with e1 _
      subst e1
      cases v <;> rfl
end L2
namespace L2
open PySem PySem.Spec PyProof.Rows
inductive V where
  | non | bl (b:Bool) | int (i:Int) | str (x:Str) | byt (b:Array UInt8) | flt (b:UInt64) | ref (a:Addr) | ty (n:String)
  deriving DecidableEq
def RelV:V→Value→Prop
  | .non,u=>u=Value.none
  | .bl b,u=>u=Value.bool b
  | .int i,u=>∃ t,u=Value.int i t
  | .str x,u=>∃ t,u=Value.str x t
  | .byt b,u=>∃ t,u=Value.bytes b t
  | .flt b,u=>∃ t,u=Value.float b t
  | .ref a,u=>u=Value.ref a
  | .ty n,u=>u=Value.type n
abbrev Vals:List V→List Value→Prop:=Paired RelV
theorem Vals.length {xs:List V} {us:List Value} (r:Vals xs us):xs.length=us.length:=Paired.length r
theorem Vals.get:∀ {xs:List V} {us:List Value} {i:Nat} {x:V},Vals xs us→xs[i]?=some x→∃ u,us[i]?=some u∧RelV x u
  | _,_,_,_,.nil,e=>by simp at e
  | _,_,0,_,.cons r _,e=>by simp at e;subst e;exact ⟨_,rfl,r⟩
  | _,_,i + 1,x,.cons _ t,e=>by
    obtain ⟨u,h1,h2⟩:=Vals.get (i:=i) (x:=x) t (by simpa using e)
    exact ⟨u,by simpa using h1,h2⟩
theorem Vals.append:∀ {xs ys:List V} {us ws:List Value},Vals xs us→Vals ys ws→Vals (xs ++ ys) (us ++ ws)
  | _,_,_,_,.nil,s=>s
  | _,_,_,_,.cons r t,s=>.cons r (Vals.append t s)
theorem Vals.take:∀ {xs:List V} {us:List Value} (n:Nat),Vals xs us→Vals (xs.take n) (us.take n)
  | _,_,0,_=>.nil
  | _,_,_ + 1,.nil=>.nil
  | _,_,n + 1,.cons r t=>.cons r (Vals.take n t)
theorem Vals.drop:∀ {xs:List V} {us:List Value} (n:Nat),Vals xs us→Vals (xs.drop n) (us.drop n)
  | _,_,0,r=>r
  | _,_,_ + 1,.nil=>.nil
  | _,_,n + 1,.cons _ t=>Vals.drop n t
def RelO:Option V→Option Value→Prop
  | some v,some u=>RelV v u
  | none,none=>True
  | _,_=>False
def KV {κ:Type}:List (κ × V)→List (κ × Value)→Prop:=Paired fun (p:κ × V) (q:κ × Value)=>p.1=q.1∧RelV p.2 q.2
def kV:Key→V
  | .inl i=>.int i
  | .inr x=>.str x
inductive HO where
    | lst (xs:List V)
    | tup (xs:List V)
    | dK (kvs:List (Key × V)) | dT (kvs:List (List Key × V))
    | set (S:Int→Bool) (n:Nat)
    | ins (C dx:Addr) (fs:List (Str × V))
    | own (x:Addr)
    | xd (fs:List (Str × V))
    | met (f x:Addr)
    | rng (lo hi:Int)
    | frz (o:Obj) (u:HO)
    | tbl (ps:Array Value)
    | ext (φ:Heap→Prop)
abbrev Hp:=Addr→Option HO
def upd (H:Hp) (a:Addr) (o:HO):Hp:=fun b=>if b=a then some o else H b
theorem upd_same {H:Hp} {a:Addr} {o:HO}:upd H a o a=some o:=by unfold upd;rw [if_pos rfl]
theorem upd_ne {H:Hp} {a b:Addr} {o:HO} (h:b≠a):upd H a o b=H b:=by unfold upd;rw [if_neg h]
theorem ne_of {H:Hp} {a b:Addr} {o u:HO} (h:H a=some o) (h':H b=some u) (d:o≠u):a≠b:=by
  intro e;subst e;rw [h] at h';exact d (Option.some.inj h')
theorem ne_of_none {H:Hp} {a b:Addr} {o:HO} (h:H a=some o) (h':H b=none):a≠b:=by
  intro e;subst e;rw [h] at h';cases h'
section
variable (P:Program) (w:World)
def ObjOk (H:Hp) (h:Heap) (a:Addr):HO→Prop
  | .lst xs=>xs.length≤sizeLine∧∃ (its:List Value) (n:Nat),Vals xs its∧h.get? a=some { cls:=.type "list",data:=.seq its.toArray n }
  | .tup xs=>xs.length≤sizeLine∧∃ its:List Value,Vals xs its∧IsTup h a its.toArray
  | .dK kvs=>kvs.length≤sizeLine∧(a == sysModules)=false∧∃ vs,KV kvs vs∧h.DictOf (mixKind P w) a vs
  | .dT kvs=>kvs.length≤sizeLine∧(a == sysModules)=false∧∃ xs:List (List Key × Addr × Value),
      Paired (fun (p:List Key × V) (q:List Key × Addr × Value)=>p.1=q.1∧H q.2.1=some (.tup (p.1.map kV))∧RelV p.2 q.2.2) kvs xs ∧
      ∃ o es ep,h.get? a=some o∧o.ExactDict∧o.data=.dict es ep∧es.toList=xs.map (entryOfKey (tupleKind (mixKind P w)))∧(xs.map (·.1)).Nodup
  | .set S n=>h.SetOf (intKind P w) a S n
  | .ins C dx fs=>H dx=some (.own a)∧fs.length≤1000∧dx≠a∧h.get? a=some (PySem.W.instObj C dx) ∧
      ∃ mA,h.Ns1 dx mA∧(∀ f,RelO (fs.lookup f) (mA f))∧PySem.Within mA (fs.map (·.1))
  | .own _=>∃ o,h.get? a=some o
  | .xd fs=>∃ mA,h.Ns1 a mA∧∀ f,RelO (fs.lookup f) (mA f)
  | .rng lo hi=>∃ t u v,h.get? a=some { cls:=.type "range",data:=.fields #[.int lo t,.int hi u,.int 1 v] }
  | .frz o u=>h.get? a=some o∧ObjOk H h a u
  | .tbl ps=>h.get? a=some { cls:=.none,data:=.fields ps }
  | .met f x=>h.get? a=some (PySem.W.methodObj (.ref f) (.ref x))
  | .ext φ=>φ h∧(∃ o,h.get? a=some o)∧∀ h1 h2:Heap,φ h1→(∀ o,h1.get? a=some o→h2.get? a=some o)→φ h2
def HOk (H:Hp) (h:Heap):Prop:=∀ a o,H a=some o→ObjOk P w H h a o
end
section
variable {P:Program} {w:World} {H H':Hp} {h h':Heap} {a:Addr} {o:HO}
theorem ObjOk.lt (x:ObjOk P w H h a o):a < h.objs.size:=by
  cases o with
  | lst xs=>obtain ⟨_,_,_,_,e⟩:=x;exact Heap.lt_size e
  | tup xs=>obtain ⟨_,_,_,p⟩:=x;exact p.lt
  | dK kvs=>obtain ⟨_,_,_,_,o,_,_,e,_⟩:=x;exact Heap.lt_size e
  | dT kvs=>obtain ⟨_,_,_,_,o,_,_,e,_⟩:=x;exact Heap.lt_size e
  | set S n=>obtain ⟨o,_,_,_,e,_⟩:=x;exact Heap.lt_size e
  | ins C dx fs=>obtain ⟨_,_,_,e,_⟩:=x;exact Heap.lt_size e
  | own y=>obtain ⟨_,e⟩:=x;exact Heap.lt_size e
  | xd fs=>obtain ⟨_,⟨_,_,_,e,_⟩,_⟩:=x;exact Heap.lt_size e
  | rng lo hi=>obtain ⟨_,_,_,e⟩:=x;exact Heap.lt_size e
  | frz ob u=>obtain ⟨e,_⟩:=x;exact Heap.lt_size e
  | tbl ps=>exact Heap.lt_size (show h.get? a=some _ from x)
  | met f y=>exact Heap.lt_size (show h.get? a=some _ from x)
  | ext φ=>obtain ⟨_,⟨_,e⟩,_⟩:=x;exact Heap.lt_size e
theorem Paired.mapP {α β:Type} {F G:α→β→Prop}:∀ {l₁:List α} {l₂:List β},Paired F l₁ l₂→(∀ a b,F a b→G a b)→Paired G l₁ l₂
  | _,_,.nil,_=>.nil
  | _,_,.cons r t,f=>.cons (f _ _ r) (Paired.mapP t f)
theorem ObjOk.stay (x:ObjOk P w H h a o) (k:∀ b u,(b=a∨H b=some (.own a))→h.get? b=some u→h'.get? b=some u)
    (ho:∀ b,H b=some (.own a)→H' b=some (.own a)) (ht:∀ b xs,H b=some (.tup xs)→H' b=some (.tup xs)):ObjOk P w H' h' a o:=by
  induction o with
  | lst xs=>obtain ⟨z,its,n,r,e⟩:=x;exact ⟨z,its,n,r,k _ _ (.inl rfl) e⟩
  | tup xs=>obtain ⟨z,its,r,ob,e,c⟩:=x;exact ⟨z,its,r,ob,k _ _ (.inl rfl) e,c⟩
  | dK kvs=>obtain ⟨z,y,vs,r,ob,es,ep,e,c⟩:=x;exact ⟨z,y,vs,r,ob,es,ep,k _ _ (.inl rfl) e,c⟩
  | dT kvs =>
    obtain ⟨z,y,xs,r,ob,es,ep,e,c⟩:=x
    exact ⟨z,y,xs,Paired.mapP r fun p q z=>⟨z.1,ht _ _ z.2.1,z.2.2⟩,ob,es,ep,k _ _ (.inl rfl) e,c⟩
  | set S n=>obtain ⟨ob,es,ep,t,e,c⟩:=x;exact ⟨ob,es,ep,t,k _ _ (.inl rfl) e,c⟩
  | ins C dx fs =>
    obtain ⟨d,z,ne,e,mA,⟨od,es,ep,e2,c⟩,r⟩:=x
    exact ⟨ho _ d,z,ne,k _ _ (.inl rfl) e,mA,⟨od,es,ep,k _ _ (.inr d) e2,c⟩,r⟩
  | own y=>obtain ⟨ob,e⟩:=x;exact ⟨ob,k _ _ (.inl rfl) e⟩
  | xd fs=>obtain ⟨mA,⟨od,es,ep,e,c⟩,r⟩:=x;exact ⟨mA,⟨od,es,ep,k _ _ (.inl rfl) e,c⟩,r⟩
  | rng lo hi=>obtain ⟨t,u,v,e⟩:=x;exact ⟨t,u,v,k _ _ (.inl rfl) e⟩
  | frz ob u ih=>obtain ⟨e,q⟩:=x;exact ⟨k _ _ (.inl rfl) e,ih q⟩
  | tbl ps =>
    have e:h.get? a=some { cls:=.none,data:=.fields ps }:=x
    show h'.get? a=some { cls:=.none,data:=.fields ps }
    exact k a _ (.inl rfl) e
  | met f y =>
    have e:h.get? a=some (PySem.W.methodObj (.ref f) (.ref y)):=x
    show h'.get? a=some (PySem.W.methodObj (.ref f) (.ref y))
    exact k a _ (.inl rfl) e
  | ext φ=>obtain ⟨p,⟨o,e⟩,st⟩:=x;exact ⟨st _ _ p fun o q=>k _ _ (.inl rfl) q,⟨o,k _ _ (.inl rfl) e⟩,st⟩
theorem HOk.lt (x:HOk P w H h) (e:H a=some o):a < h.objs.size:=(x a o e).lt
theorem HOk.fresh (x:HOk P w H h) (e:h.objs.size≤a):H a=none:=by
  cases q:H a with
  | none=>rfl
  | some u=>exact absurd (Nat.lt_of_lt_of_le (x.lt q) e) (Nat.lt_irrefl _)
theorem HOk.kept (x:HOk P w H h) (k:∀ b u,h.get? b=some u→h'.get? b=some u):HOk P w H h':=fun a o e =>
  (x a o e).stay (fun b u _ q=>k b u q) (fun _ q=>q) fun _ _ q=>q
theorem HOk.laid (x:HOk P w H h) (k:∀ b u,h.get? b=some u→h'.get? b=some u) (hp:h.objs.size≤a) (new:ObjOk P w (upd H a o) h' a o):HOk P w (upd H a o) h':=fun b u e=>by
  have hn:=x.fresh hp
  by_cases hb:b=a
  · subst hb;rw [upd_same] at e;cases e;exact new
  · rw [upd_ne hb] at e
    exact (x b u e).stay (fun c v _ q=>k c v q) (fun c q=>by rw [upd_ne (ne_of_none q hn)];exact q) fun c xs q=>by rw [upd_ne (ne_of_none q hn)];exact q
end
def Rd (H:Hp) (a:Addr) (u:HO):Prop:=H a=some u∨∃ o,H a=some (.frz o u)
theorem Rd.ok {P:Program} {w:World} {H:Hp} {h:Heap} {a:Addr} {u:HO} (r:Rd H a u) (x:HOk P w H h):ObjOk P w H h a u:=by
  rcases r with r | ⟨o,r⟩
  · exact x a u r
  · obtain ⟨_,q⟩:=x a _ r
    exact q
def Mut:Option HO→Prop
  | some (.lst _)=>True
  | some (.dK _)=>True
  | some (.dT _)=>True
  | some (.set _ _)=>True
  | some (.ins _ _ _)=>True
  | some (.ext _)=>True
  | _=>False
section
variable {P:Program} {w:World} {H:Hp} {h h':Heap} {x e:Addr} {o':HO}
theorem HOk.write (ok:HOk P w H h) (mu:Mut (H x)) (he:e=x∨H e=some (.own x)) (k:∀ b u,b≠e→h.get? b=some u→h'.get? b=some u) (heo:∃ u,h'.get? e=some u)
    (new:ObjOk P w (upd H x o') h' x o'):HOk P w (upd H x o') h':=fun b u q=>by
  have nown:∀ c y,H c=some (.own y)→c≠x:=fun c y r z=>by subst z;rw [r] at mu;exact mu
  have ntup:∀ c xs,H c=some (.tup xs)→c≠x:=fun c xs r z=>by subst z;rw [r] at mu;exact mu
  by_cases hb:b=x
  · subst hb;rw [upd_same] at q;cases q;exact new
  · rw [upd_ne hb] at q
    by_cases hbe:b=e
    · have q':H b=some (.own x):=by
        rcases he with z | z
        · exact absurd (hbe.trans z) hb
        · rw [hbe];exact z
      rw [q] at q';cases q'
      obtain ⟨v,hv⟩:=heo
      exact ⟨v,by rw [hbe];exact hv⟩
    · refine (ok b u q).stay (fun c v hc r=>k c v ?_ r) (fun c r=>by rw [upd_ne (nown c b r)];exact r) fun c xs r=>by rw [upd_ne (ntup c xs r)];exact r
      rcases hc with rfl | hc
      · exact hbe
      · rintro rfl
        rcases he with z | z
        · exact nown c b hc z
        · rw [hc] at z;cases z;exact hb rfl
end
structure Un (fs ex:List Addr) (H H':Hp) (h h':Heap):Prop where
  keep:∀ b o,h.get? b=some o→H b=none→b ∉ fs→b ∉ ex→h'.get? b=some o
  slot:∀ b o,h.get? b=some o→H b=none→b∈fs→b ∉ ex→∃ sl,h'.get? b=some { o with slots:=sl }
  free:∀ b o,h.get? b=some o→H b=none→b ∉ ex→H' b=none
  there:∀ b o,h.get? b=some o→b ∉ ex→∃ o',h'.get? b=some o'
  tups:∀ b xs,H b=some (.tup xs)→H' b=some (.tup xs)
  frzs:∀ b o u,H b=some (.frz o u)→H' b=some (.frz o u)
  tbls:∀ b ps,H b=some (.tbl ps)→∃ more,H' b=some (.tbl (ps ++ more))
section
variable {fs fs' ex ex':List Addr} {H H1 H2:Hp} {h h1 h2 h':Heap} {a x e:Addr} {o:HO}
theorem Un.any (u:Un fs ex H H1 h h1) {b:Addr} {ob:Obj} (q:h.get? b=some ob) (n:H b=none) (hx:b ∉ ex):∃ sl,h1.get? b=some { ob with slots:=sl }:=by
  by_cases hb:b∈fs
  · exact u.slot b ob q n hb hx
  · exact ⟨ob.slots,u.keep b ob q n hb hx⟩
theorem Un.kept (k:∀ b u,h.get? b=some u→h'.get? b=some u):Un fs ex H H h h' :=
  ⟨fun b ob q _ _ _=>k b ob q,fun b ob q _ _ _=>⟨ob.slots,k b ob q⟩,fun _ _ _ n _=>n,fun b ob q _=>⟨ob,k b ob q⟩,fun _ _ q=>q,fun _ _ _ q=>q,fun _ ps q=>⟨#[],by rw [q];simp⟩⟩
theorem Un.refl:Un fs ex H H h h:=Un.kept fun _ _ q=>q
theorem Un.laid (k:∀ b u,h.get? b=some u→h'.get? b=some u) (hp:h.objs.size≤a) (hn:H a=none):Un fs ex H (upd H a o) h h' where
  keep:=fun b u q _ _ _=>k b u q
  slot:=fun b u q _ _ _=>⟨u.slots,k b u q⟩
  free:=fun b u q n _=>by rw [upd_ne (Nat.ne_of_lt (Nat.lt_of_lt_of_le (Heap.lt_size q) hp))];exact n
  there:=fun b u q _=>⟨u,k b u q⟩
  tups:=fun b xs q=>by rw [upd_ne (ne_of_none q hn)];exact q
  frzs:=fun b u xs q=>by rw [upd_ne (ne_of_none q hn)];exact q
  tbls:=fun b ps q=>⟨#[],by rw [upd_ne (ne_of_none q hn),q];simp⟩
theorem Un.write (mu:Mut (H x)) (he:e=x∨H e=some (.own x)) (k:∀ b u,b≠e→h.get? b=some u→h'.get? b=some u) (heo:∃ u,h'.get? e=some u):Un fs ex H (upd H x o) h h':=by
  have hx:∀ b,H b=none→b≠x:=fun b n z=>by subst z;rw [n] at mu;exact mu
  have hb:∀ b,H b=none→b≠e:=fun b n z=>by
    subst z
    rcases he with r | r
    · exact hx b n r
    · rw [n] at r;cases r
  have hm:∀ b u,H b=some u→¬ Mut (some u)→b≠x:=fun b u q nm z=>by subst z;rw [q] at mu;exact nm mu
  refine ⟨fun b u q n _ _=>k b u (hb b n) q,fun b u q n _ _=>⟨u.slots,k b u (hb b n) q⟩,fun b u q n _=>by rw [upd_ne (hx b n)];exact n,fun b u q _=>?_,
    fun b xs q=>by rw [upd_ne (hm b _ q fun z=>z)];exact q,fun b u xs q=>by rw [upd_ne (hm b _ q fun z=>z)];exact q,fun b ps q=>⟨#[],by rw [upd_ne (hm b _ q fun z=>z),q];simp⟩⟩
  by_cases hbe:b=e
  · subst hbe;exact heo
  · exact ⟨u,k b u hbe q⟩
end
def trk (h:Heap) (H:Hp):List Addr:=(List.range h.objs.size).filter fun a=>(H a).isSome
def hidT (h:Heap) (H:Hp):Heap:=PySem.W.hideAll h (trk h H)
theorem hidT_size (h:Heap) (H:Hp):(hidT h H).objs.size=h.objs.size:=PySem.W.hideAll_size _ _
theorem hidT_get {h:Heap} {H:Hp} {b:Addr} {o:Obj} (e:h.get? b=some o) (n:H b=none):(hidT h H).get? b=some o :=
  PySem.W.hideAll_get _ e fun hm=>by
    have q:(H b).isSome=true:=(List.mem_filter.mp hm).2
    rw [n] at q;simp at q
theorem of_hidT {h:Heap} {H:Hp} {b:Addr} {o:Obj} (e:(hidT h H).get? b=some o):h.get? b=some o∧H b=none:=by
  have e':h.get? b=some o:=PySem.W.of_hideAll (trk h H) e
  refine ⟨e',?_⟩
  cases q:H b with
  | none=>rfl
  | some x =>
    have hm:b∈trk h H:=List.mem_filter.mpr ⟨List.mem_range.mpr (Heap.lt_size e'),by simp [q]⟩
    have z:(hidT h H).get? b=none:=PySem.W.hideAll_none (trk h H) hm
    rw [z] at e;cases e
def allNews (g h:Heap) (L:Addr):List (Addr × Obj):=(List.range h.objs.size).filterMap fun a=>if a=L∨(g.get? a).isSome=true then none else (h.get? a).map fun o=>(a,o)
def rest (g h:Heap) (L d:Addr):List (Addr × Obj):=(allNews g h L).filter fun p=>decide (p.1≠d)
end L2
namespace L2
open PySem PySem.Spec PyProof.Rows
structure Mod (K:PySem.W.Frag) (mg:Str→Option Value) (base:Heap):Prop where
  kin:K.In base
  glob:base.Ns mainGlobals mg
  blt:∃ mb,base.Ns builtinsNs mb∧∀ x:Str,x≠"__name__"→mb x=bootBuiltins x
  nolimit:base.NoLimit
set_option genSizeOf false in
set_option genInjectivity false in
structure Cx where
  prog:Program
  w:World
  K:PySem.W.Frag
  mg:Str→Option Value
  base:Heap
  A:Around
  N:List Str
  s₀:Shared
  H₀:Hp
  env:Env
  outer:List Env
  stack:List Env
  ex:List Addr
  fn:Str→Bool
  calm:Bool
  pn:List (Addr × Obj)
  xe:Value→Shared→Prop
def frs (l:List Env):List Addr:=l.filterMap (·.frame)
abbrev Cx.fs (X:Cx):List Addr:=frs X.outer
def Vis (sc:Scope) (x:Str):Prop:=sc.names.lookup x=some .local∨sc.names.lookup x=some .cell∨sc.names.lookup x=some .free
def Loc (sc:Scope) (x:Str):Prop:=sc.names.lookup x=some .local∨sc.names.lookup x=some .cell
def Look (env:Env) (h:Heap) (m:Str→Option Value) (x:Str) (u:Value):Prop :=
  (env.kindOf x=some .local∧m x=some u)∨((env.kindOf x=some .cell∨env.kindOf x=some .free)∧∃ c,env.cells.lookup x=some c∧h.IsCell c (some u))
structure Cx.Ok (X:Cx):Prop where
  mod:Mod X.K X.mg X.base
  kind:X.env.scope.kind=.function
  glob:X.env.globals=mainGlobals
  blt:X.env.builtins=builtinsNs
  above:X.s₀.heap.objs.size≤X.env.locals
  inj:∀ x y c,X.env.cells.lookup x=some c→X.env.cells.lookup y=some c→x=y
  has:∀ x,(X.env.kindOf x=some .cell∨X.env.kindOf x=some .free)→∃ c,X.env.cells.lookup x=some c
  cab:∀ x c,X.fn x=true→X.env.cells.lookup x=some c→X.s₀.heap.objs.size≤c
  hd:X.calm=true→X.A.handled=none
  frames:X.A.frames=some X.stack
  stk:X.stack=X.outer∨(X.stack=X.env :: X.outer∧X.env.frame=some X.env.locals)
  exf:∀ b∈X.ex,b≠X.env.locals∧∀ x c,X.env.cells.lookup x=some c→c≠b
  bs:∀ b o,X.base.get? b=some o→X.s₀.heap.get? b=some o∧X.H₀ b=none
  bsz:X.base.objs.size≤X.s₀.heap.objs.size
  noex:∀ b o,X.base.get? b=some o→b ∉ X.ex
  exfs:∀ b∈X.ex,b ∉ X.fs
  funs:X.s₀.heap.FunFrames X.base X.outer
  frf:∀ b∈X.fs,X.H₀ b=none
structure Inv (X:Cx) (pins:List (Addr × Obj)) (σ:List (Option V)) (H:Hp) (s:Shared):Prop where
  ok:X.Ok
  os:s.os=X.s₀.os
  bare:AllBare s.gens
  base:Un X.fs X.ex X.H₀ H X.s₀.heap s.heap
  loc:∃ m,s.heap.Ns X.env.locals m∧∀ (i:Nat) (x:Str) (v:V),X.N[i]?=some x→σ[i]?=some (some v)→Vis X.env.scope x→∃ u,RelV v u∧Look X.env s.heap m x u
  cell:∀ x c,X.env.cells.lookup x=some c→∃ v,s.heap.IsCell c v
  free:H X.env.locals=none
  freeC:∀ x c,X.env.cells.lookup x=some c→H c=none
  pin:∀ p∈X.pn ++ pins,s.heap.get? p.1=some p.2∧H p.1=none∧p.1≠X.env.locals∧p.1 ∉ X.fs∧∀ v,p.2.data≠.cell v
  hok:HOk X.prog X.w H s.heap
  len:σ.length=X.N.length
section
variable {X:Cx} {pins:List (Addr × Obj)} {σ:List (Option V)} {H H':Hp} {s:Shared} {h':Heap}
theorem Cx.Ok.nofr (ok:X.Ok) {b:Addr} {o:Obj} (e:X.base.get? b=some o):b ∉ X.fs:=fun hb=>by
  have:=(ok.funs.mem hb).1
  rw [e] at this;cases this
theorem Inv.bs (I:Inv X pins σ H s):∀ b o,X.base.get? b=some o→s.heap.get? b=some o∧H b=none:=fun b o e =>
  ⟨I.base.keep b o (I.ok.bs b o e).1 (I.ok.bs b o e).2 (I.ok.nofr e) (I.ok.noex b o e),I.base.free b o (I.ok.bs b o e).1 (I.ok.bs b o e).2 (I.ok.noex b o e)⟩
theorem Inv.bk (I:Inv X pins σ H s):∀ b o,X.base.get? b=some o→s.heap.get? b=some o:=fun b o e=>(I.bs b o e).1
theorem Inv.mod (I:Inv X pins σ H s):Mod X.K X.mg X.base:=I.ok.mod
theorem Inv.kIn (I:Inv X pins σ H s):X.K.In s.heap:=I.ok.mod.kin.keeps I.bk
theorem Inv.lt (I:Inv X pins σ H s):X.env.locals < s.heap.objs.size:=let ⟨_,hn,_⟩:=I.loc;hn.lt
theorem Inv.sz (I:Inv X pins σ H s):X.s₀.heap.objs.size≤s.heap.objs.size:=Nat.le_trans I.ok.above (Nat.le_of_lt I.lt)
theorem Inv.nofs (I:Inv X pins σ H s) {a:Addr} (h:s.heap.objs.size≤a):a ∉ X.fs:=fun hb=>by
  obtain ⟨_,o,ho,_⟩:=I.ok.funs.mem hb
  exact absurd (Nat.lt_of_lt_of_le (Heap.lt_size ho) (Nat.le_trans I.sz h)) (Nat.lt_irrefl _)
theorem Inv.cne (I:Inv X pins σ H s):∀ x c,X.env.cells.lookup x=some c→c≠X.env.locals:=fun x c e z=>by
  obtain ⟨v,o,ho,hd⟩:=I.cell x c e
  obtain ⟨m,⟨o',es,ep,ho',hd',_⟩,_⟩:=I.loc
  rw [z,ho'] at ho;cases ho;rw [hd'] at hd;cases hd
theorem Inv.funs (I:Inv X pins σ H s):s.heap.FunFrames X.base X.outer:=by
  have all:∀ (l:List Env),(∀ b∈frs l,b∈X.fs)→X.s₀.heap.FunFrames X.base l→s.heap.FunFrames X.base l:=by
    intro l
    induction l with
    | nil=>intro _ _;trivial
    | cons env r ih =>
      intro hs hl
      obtain ⟨hk,⟨L,o,hf,hn,ho,hd⟩,hr⟩:=hl
      have hL:L∈X.fs:=hs L (by unfold frs;rw [List.filterMap_cons,hf];exact List.mem_cons_self)
      obtain ⟨sl,e⟩:=I.base.slot L o ho (I.ok.frf L hL) hL fun z=>I.ok.exfs L z hL
      exact ⟨hk,⟨L,_,hf,hn,e,hd⟩,ih (fun b hb=>hs b (by unfold frs;rw [List.filterMap_cons,hf];exact List.mem_cons_of_mem _ hb)) hr⟩
  exact all X.outer (fun _ hb=>hb) I.ok.funs
theorem Inv.stack (I:Inv X pins σ H s):s.heap.FunFrames X.base X.stack:=by
  rcases I.ok.stk with e | ⟨e,hf⟩
  · rw [e];exact I.funs
  · rw [e]
    obtain ⟨m,hn,_⟩:=I.loc
    refine .cons (by rw [I.ok.kind];decide) hf hn ?_ I.funs
    exact Heap.get?_none_of_le (Nat.le_trans I.ok.bsz I.ok.above)
theorem Inv.stkSub (I:Inv X pins σ H s):∀ b∈frs X.stack,b∈X.env.locals :: X.fs:=fun b hb=>by
  rcases I.ok.stk with e | ⟨e,hf⟩
  · rw [e] at hb;exact List.mem_cons_of_mem _ hb
  · rw [e] at hb
    unfold frs at hb
    rw [List.filterMap_cons,hf] at hb
    exact hb
theorem Inv.stkFree (I:Inv X pins σ H s):∀ b∈frs X.stack,H b=none:=fun b hb=>by
  rcases List.mem_cons.mp (I.stkSub b hb) with e | hb
  · rw [e];exact I.free
  · obtain ⟨_,o,ho,_⟩:=I.ok.funs.mem hb
    exact I.base.free b o ho (I.ok.frf b hb) fun z=>I.ok.exfs b z hb
theorem Inv.step {g':Array GenState} {t':Nat} {d':Drawn} {ch:List Addr} (I:Inv X pins σ H s)
    (hch:∀ b∈ch,(b∈X.ex∨X.s₀.heap.objs.size≤b)∧b≠X.env.locals∧(∀ x c,X.env.cells.lookup x=some c→c≠b)∧∀ p∈X.pn ++ pins,p.1≠b)
    (keep:∀ b o,b≠X.env.locals→b ∉ X.fs→b ∉ ch→s.heap.get? b=some o→H b=none→h'.get? b=some o)
    (slot:∀ b o,b≠X.env.locals→b∈X.fs→b ∉ ch→s.heap.get? b=some o→H b=none→∃ sl,h'.get? b=some { o with slots:=sl }) (free:∀ b o,b ∉ ch→s.heap.get? b=some o→H b=none→H' b=none)
    (there:∀ b o,b ∉ ch→s.heap.get? b=some o→∃ o',h'.get? b=some o')
    (tups:∀ b xs,H b=some (.tup xs)→H' b=some (.tup xs)) (frzs:∀ b o u,H b=some (.frz o u)→H' b=some (.frz o u)) (tbls:∀ b ps,H b=some (.tbl ps)→∃ more,H' b=some (.tbl (ps ++ more)))
    (ns:∀ m,s.heap.Ns X.env.locals m→h'.Ns X.env.locals m) (hok:HOk X.prog X.w H' h') (hg:AllBare g') :
    Inv X pins σ H' { s with heap:=h',gens:=g',drawn:=d',toks:=t' }:=by
  have neL:∀ b o,X.s₀.heap.get? b=some o→b≠X.env.locals:=fun b o e=>Nat.ne_of_lt (Nat.lt_of_lt_of_le (Heap.lt_size e) I.ok.above)
  have neC:∀ b o,X.s₀.heap.get? b=some o→b ∉ X.ex→b ∉ ch:=fun b o e hx hb=>by
    rcases (hch b hb).1 with z | z
    · exact hx z
    · exact absurd (Nat.lt_of_lt_of_le (Heap.lt_size e) z) (Nat.lt_irrefl _)
  have cellK:∀ x c,X.env.cells.lookup x=some c→∀ v,s.heap.IsCell c v→h'.IsCell c v:=fun x c e v ⟨o,ho,hd⟩=>by
    have nch:c ∉ ch:=fun z=>(hch c z).2.2.1 x c e rfl
    by_cases hc:c∈X.fs
    · obtain ⟨sl,q⟩:=slot c o (I.cne x c e) hc nch ho (I.freeC x c e)
      exact ⟨_,q,hd⟩
    · exact ⟨o,keep c o (I.cne x c e) hc nch ho (I.freeC x c e),hd⟩
  refine ⟨I.ok,I.os,hg,⟨fun b o e n hb hx=>?_,fun b o e n hb hx=>?_,fun b o e n hx=>?_,fun b o e hx=>?_,fun b xs e=>tups b xs (I.base.tups b xs e),fun b o xs e=>frzs b o xs (I.base.frzs b o xs e),fun b ps e=>?_⟩,?_,fun x c e=>?_,?_,fun x c e=>?_,fun p hp=>?_,hok,I.len⟩
  · exact keep b o (neL b o e) hb (neC b o e hx) (I.base.keep b o e n hb hx) (I.base.free b o e n hx)
  · obtain ⟨sl,e1⟩:=I.base.slot b o e n hb hx
    obtain ⟨sl',e2⟩:=slot b _ (neL b o e) hb (neC b o e hx) e1 (I.base.free b o e n hx)
    exact ⟨sl',e2⟩
  · obtain ⟨o',e1⟩:=I.base.there b o e hx
    exact free b o' (neC b o e hx) e1 (I.base.free b o e n hx)
  · obtain ⟨o',e1⟩:=I.base.there b o e hx
    exact there b o' (neC b o e hx) e1
  · obtain ⟨m1,e1⟩:=I.base.tbls b ps e
    obtain ⟨m2,e2⟩:=tbls b _ e1
    exact ⟨m1 ++ m2,by rw [e2,Array.append_assoc]⟩
  · obtain ⟨m,hn,hl⟩:=I.loc
    refine ⟨m,ns m hn,fun i x v e1 e2 e3=>?_⟩
    obtain ⟨u,r,l⟩:=hl i x v e1 e2 e3
    refine ⟨u,r,?_⟩
    rcases l with l | ⟨k,c,e,z⟩
    · exact .inl l
    · exact .inr ⟨k,c,e,cellK x c e _ z⟩
  · obtain ⟨v,z⟩:=I.cell x c e
    exact ⟨v,cellK x c e v z⟩
  · obtain ⟨m,⟨o,_,_,ho,_⟩,_⟩:=I.loc
    exact free _ o (fun z=>(hch _ z).2.1 rfl) ho I.free
  · obtain ⟨v,o,ho,hd⟩:=I.cell x c e
    exact free c o (fun z=>(hch c z).2.2.1 x c e rfl) ho (I.freeC x c e)
  · obtain ⟨e,n,ne,nf,d⟩:=I.pin p hp
    have nch:p.1 ∉ ch:=fun z=>(hch p.1 z).2.2.2 p hp rfl
    exact ⟨keep p.1 p.2 ne nf nch e n,free p.1 p.2 nch e n,ne,nf,d⟩
theorem Inv.un {t':Nat} (I:Inv X pins σ H s) (u:Un X.fs [] H H' s.heap h') (hok:HOk X.prog X.w H' h'):Inv X pins σ H' { s with heap:=h',toks:=t' }:=by
  obtain ⟨m,⟨o,es,ep,ho,r⟩,_⟩:=id I.loc
  obtain ⟨sl,hL⟩:=u.any ho I.free (by simp)
  exact I.step (g':=s.gens) (d':=s.drawn) (ch:=[]) (fun _ z=>nomatch z) (fun b o _ hb _ e n=>u.keep b o e n hb (by simp)) (fun b o _ hb _ e n=>u.slot b o e n hb (by simp)) (fun b o _ e n=>u.free b o e n (by simp)) (fun b o _ e=>u.there b o e (by simp)) u.tups u.frzs u.tbls (fun m' hm=>by
    obtain ⟨o',es',ep',ho',r'⟩:=hm
    rw [ho] at ho';cases ho'
    exact ⟨_,es',ep',hL,r'⟩) hok I.bare
theorem Inv.call {g':Array GenState} {t':Nat} {d':Drawn} {ch:List Addr} (I:Inv X pins σ H s) (u:Un (frs X.stack) ch H H' s.heap h') (hok:HOk X.prog X.w H' h') (hg:AllBare g')
    (hch:∀ b∈ch,(b∈X.ex∨X.s₀.heap.objs.size≤b)∧b≠X.env.locals∧(∀ x c,X.env.cells.lookup x=some c→c≠b)∧∀ p∈X.pn ++ pins,p.1≠b) :
    Inv X pins σ H' { s with heap:=h',gens:=g',drawn:=d',toks:=t' }:=by
  obtain ⟨m,⟨o,es,ep,ho,r⟩,_⟩:=id I.loc
  obtain ⟨sl,hL⟩:=u.any ho I.free fun z=>(hch _ z).2.1 rfl
  exact I.step (ch:=ch) hch (fun b o hL hb hc e n=>u.keep b o e n (fun z=>(List.mem_cons.mp (I.stkSub b z)).elim hL hb) hc) (fun b o _ _ hc e n=>u.any e n hc) (fun b o hc e n=>u.free b o e n hc) (fun b o hc e=>u.there b o e hc) u.tups u.frzs u.tbls (fun m' hm=>by
    obtain ⟨o',es',ep',ho',r'⟩:=hm
    rw [ho] at ho';cases ho'
    exact ⟨_,es',ep',hL,r'⟩) hok hg
theorem Inv.turned {t':Nat} {it:Addr} (I:Inv X pins σ H s) (k:∀ b o,b≠it→s.heap.get? b=some o→h'.get? b=some o) (hn:H it=none) (hL:it≠X.env.locals)
    (h1:it∈X.ex∨X.s₀.heap.objs.size≤it) (h2:∀ x c,X.env.cells.lookup x=some c→c≠it) (h3:∀ p∈X.pn ++ pins,p.1≠it):Inv X pins σ H { s with heap:=h',toks:=t' }:=by
  have nit:∀ b u,H b=some u→b≠it:=fun b u e z=>by rw [z,hn] at e;cases e
  refine I.step (g':=s.gens) (d':=s.drawn) (ch:=[it]) (fun b hb=>?_) (fun b o _ _ hc e _=>k b o (fun z=>hc (by simp [z])) e) (fun b o _ _ hc e _=>⟨o.slots,k b o (fun z=>hc (by simp [z])) e⟩) (fun _ _ _ _ n=>n)
    (fun b o hc e=>⟨o,k b o (fun z=>hc (by simp [z])) e⟩) (fun _ _ e=>e) (fun _ _ _ e=>e) (fun b ps e=>⟨#[],by rw [e];simp⟩) (fun m hm=>?_) (fun b u e=>?_) I.bare
  · have e:b=it:=by simpa using hb
    subst e
    exact ⟨h1,hL,h2,h3⟩
  · obtain ⟨o,es,ep,ho,r⟩:=hm
    exact ⟨o,es,ep,k _ o (Ne.symm hL) ho,r⟩
  · refine (I.hok b u e).stay (fun c v hc q=>k c v ?_ q) (fun _ q=>q) fun _ _ q=>q
    rcases hc with z | z
    · rw [z];exact nit b u e
    · exact nit c _ z
theorem Inv.tok (I:Inv X pins σ H s) (t:Nat):Inv X pins σ H { s with toks:=t }:=I.un (h':=s.heap) (t':=t) Un.refl I.hok
theorem Inv.kept {t':Nat} (I:Inv X pins σ H s) (k:∀ b u,s.heap.get? b=some u→h'.get? b=some u):Inv X pins σ H { s with heap:=h',toks:=t' }:=I.un (Un.kept k) (I.hok.kept k)
theorem Inv.laid {a:Addr} {o:HO} {t':Nat} (I:Inv X pins σ H s) (k:∀ b u,s.heap.get? b=some u→h'.get? b=some u) (hp:s.heap.objs.size≤a) (new:ObjOk X.prog X.w (upd H a o) h' a o) :
    Inv X pins σ (upd H a o) { s with heap:=h',toks:=t' }:=I.un (Un.laid k hp (I.hok.fresh hp)) (I.hok.laid k hp new)
theorem Inv.write {x e:Addr} {o:HO} {t':Nat} (I:Inv X pins σ H s) (mu:Mut (H x)) (he:e=x∨H e=some (.own x)) (k:∀ b u,b≠e→s.heap.get? b=some u→h'.get? b=some u) (heo:∃ u,h'.get? e=some u)
    (new:ObjOk X.prog X.w (upd H x o) h' x o):Inv X pins σ (upd H x o) { s with heap:=h',toks:=t' }:=I.un (Un.write mu he k heo) (I.hok.write mu he k heo new)
theorem Inv.pins_of {pins':List (Addr × Obj)} (I:Inv X pins σ H s) (h:∀ p∈pins',s.heap.get? p.1=some p.2∧H p.1=none∧p.1≠X.env.locals∧p.1 ∉ X.fs∧∀ v,p.2.data≠.cell v):Inv X pins' σ H s :=
  ⟨I.ok,I.os,I.bare,I.base,I.loc,I.cell,I.free,I.freeC,fun p hp=>(List.mem_append.mp hp).elim (fun z=>I.pin p (List.mem_append_left _ z)) (h p),I.hok,I.len⟩
theorem nodup_ix {N:List Str} (hN:N.Nodup) {i j:Nat} {x:Str} (a:N[i]?=some x) (b:N[j]?=some x):i=j:=by
  obtain ⟨h1,e1⟩:=List.getElem?_eq_some_iff.mp a
  obtain ⟨h2,e2⟩:=List.getElem?_eq_some_iff.mp b
  exact (List.getElem_inj hN).mp (e1.trans e2.symm)
theorem store_ok2 {M:Model} {A:Around} {E:Value→Shared→Prop} {i:Nat} {x:Str} {v:V} {u:Value} {Q:Unit→Shared→Prop} (I:Inv X pins σ H s) (hN:X.N.Nodup) (hi:X.N[i]?=some x) (hx:Loc X.env.scope x) (r:RelV v u)
    (h:∀ s',Inv X pins (σ.set i (some v)) H s'→(∃ a,Heap.SameBut a s.heap s'.heap∧(a=X.env.locals∨X.env.cells.lookup x=some a))→Q () s') (hf:X.fn x=true∨X.env.scope.names.lookup x=some .local:=by first | exact .inl rfl | exact .inr rfl | assumption):wpAny M A (storeName X.env x u) Q E s:=by
  obtain ⟨m,hn,hl⟩:=id I.loc
  have hcls:(X.env.scope.kind == .class || (X.env.scope.kind == .module && X.env.locals != X.env.globals))=false:=by rw [I.ok.kind];rfl
  have hiσ:i < σ.length:=by rw [I.len];exact (List.getElem?_eq_some_iff.mp hi).1
  have cne:=I.cne
  have tracked:∀ {a:Addr} {h':Heap},(∃ o,s.heap.get? a=some o∧H a=none)→Heap.SameBut a s.heap h'→HOk X.prog X.w H h':=fun {a h'} ha hs b ob e=>by
    obtain ⟨_,_,hfree⟩:=ha
    refine (I.hok b ob e).stay (fun c w' hc q=>(hs.2 c ?_).trans q) (fun _ q=>q) fun _ _ q=>q
    rintro rfl
    rcases hc with rfl | hc
    · rw [hfree] at e;cases e
    · rw [hfree] at hc;cases hc
  rcases hx with hk | hk
  · refine wpAny_storeName_local hk hn (fun h' hn' hs=>?_) hcls
    obtain ⟨oL,_,_,hoL,_⟩:=id hn
    refine h _ ⟨I.ok,I.os,I.bare,⟨fun b o e n hb hx=>?_,fun b o e n hb hx=>?_,I.base.free,fun b o e hx=>?_,I.base.tups,I.base.frzs,I.base.tbls⟩,⟨_,hn',fun j y v' e1 e2 e3=>?_⟩,fun y c e=>?_,I.free,I.freeC,fun p hp=>?_,tracked ⟨oL,hoL,I.free⟩ hs,by simpa using I.len⟩ ⟨_,hs,.inl rfl⟩
    · exact (hs.2 b (Nat.ne_of_lt (Nat.lt_of_lt_of_le (Heap.lt_size e) I.ok.above))).trans (I.base.keep b o e n hb hx)
    · obtain ⟨sl,e1⟩:=I.base.slot b o e n hb hx
      exact ⟨sl,(hs.2 b (Nat.ne_of_lt (Nat.lt_of_lt_of_le (Heap.lt_size e) I.ok.above))).trans e1⟩
    · obtain ⟨o',e1⟩:=I.base.there b o e hx
      exact ⟨o',(hs.2 b (Nat.ne_of_lt (Nat.lt_of_lt_of_le (Heap.lt_size e) I.ok.above))).trans e1⟩
    · by_cases hj:j=i
      · subst hj
        rw [hi] at e1;cases e1
        rw [List.getElem?_set_self hiσ] at e2
        cases e2
        exact ⟨u,r,.inl ⟨hk,by simp⟩⟩
      · rw [List.getElem?_set_ne (Ne.symm hj)] at e2
        obtain ⟨u',r',q⟩:=hl j y v' e1 e2 e3
        refine ⟨u',r',?_⟩
        rcases q with ⟨k,e⟩ | ⟨k,c,e,z⟩
        · refine .inl ⟨k,?_⟩
          have:y≠x:=fun e=>hj (nodup_ix hN e1 (e ▸ hi))
          simp [this,e]
        · exact .inr ⟨k,c,e,z.sameBut hs (cne y c e)⟩
    · obtain ⟨w',z⟩:=I.cell y c e
      exact ⟨w',z.sameBut hs (cne y c e)⟩
    · obtain ⟨e,n,ne,nf,d⟩:=I.pin p hp
      exact ⟨(hs.2 p.1 ne).trans e,n,ne,nf,d⟩
  · have hfn:X.fn x=true:=by
      rcases hf with z | z
      · exact z
      · rw [z] at hk;cases hk
    obtain ⟨c,hc⟩:=I.ok.has x (.inl hk)
    obtain ⟨w',z⟩:=I.cell x c hc
    refine wpAny_storeName_cell I.ok.kind hk hc z (fun h' hc' hs=>?_)
    obtain ⟨oc,hoc,hocd⟩:=id z
    refine h { s with heap:=h' } ⟨I.ok,I.os,I.bare,⟨fun b o e n hb hx=>?_,fun b o e n hb hx=>?_,I.base.free,fun b o e hx=>?_,I.base.tups,I.base.frzs,I.base.tbls⟩,⟨m,hn.sameBut hs (Ne.symm (cne x c hc)),fun j y v' e1 e2 e3=>?_⟩,fun y c' e=>?_,I.free,I.freeC,fun p hp=>?_,tracked ⟨oc,hoc,I.freeC x c hc⟩ hs,by simpa using I.len⟩ ⟨c,hs,.inr hc⟩
    · exact (hs.2 b (Nat.ne_of_lt (Nat.lt_of_lt_of_le (Heap.lt_size e) (I.ok.cab x c hfn hc)))).trans (I.base.keep b o e n hb hx)
    · obtain ⟨sl,e1⟩:=I.base.slot b o e n hb hx
      exact ⟨sl,(hs.2 b (Nat.ne_of_lt (Nat.lt_of_lt_of_le (Heap.lt_size e) (I.ok.cab x c hfn hc)))).trans e1⟩
    · obtain ⟨o',e1⟩:=I.base.there b o e hx
      exact ⟨o',(hs.2 b (Nat.ne_of_lt (Nat.lt_of_lt_of_le (Heap.lt_size e) (I.ok.cab x c hfn hc)))).trans e1⟩
    · by_cases hj:j=i
      · subst hj
        rw [hi] at e1;cases e1
        rw [List.getElem?_set_self hiσ] at e2
        cases e2
        exact ⟨u,r,.inr ⟨.inl hk,c,hc,hc'⟩⟩
      · rw [List.getElem?_set_ne (Ne.symm hj)] at e2
        obtain ⟨u',r',q⟩:=hl j y v' e1 e2 e3
        refine ⟨u',r',?_⟩
        rcases q with q | ⟨k,c',e,z'⟩
        · exact .inl q
        · refine .inr ⟨k,c',e,z'.sameBut hs ?_⟩
          rintro rfl
          exact hj (nodup_ix hN e1 (I.ok.inj _ _ _ e hc ▸ hi))
    · by_cases hcc:c'=c
      · subst hcc;exact ⟨_,hc'⟩
      · obtain ⟨w2,z2⟩:=I.cell y c' e
        exact ⟨w2,z2.sameBut hs hcc⟩
    · obtain ⟨e,n,ne,nf,d⟩:=I.pin p hp
      refine ⟨(hs.2 p.1 ?_).trans e,n,ne,nf,d⟩
      intro q
      rw [q,hoc] at e
      have q':oc=p.2:=Option.some.inj e
      exact d w' (by rw [← q'];exact hocd)
theorem store_ok {M:Model} {A:Around} {E:Value→Shared→Prop} {i:Nat} {x:Str} {v:V} {u:Value} {Q:Unit→Shared→Prop} (I:Inv X pins σ H s) (hN:X.N.Nodup) (hi:X.N[i]?=some x) (hx:Loc X.env.scope x) (r:RelV v u)
    (h:∀ s',Inv X pins (σ.set i (some v)) H s'→Q () s') (hf:X.fn x=true∨X.env.scope.names.lookup x=some .local:=by first | exact .inl rfl | exact .inr rfl | assumption):wpAny M A (storeName X.env x u) Q E s :=
  store_ok2 I hN hi hx r (fun s' I' _=>h s' I') hf
theorem Inv.call' {s':Shared} {ch:List Addr} (I:Inv X pins σ H s) (ho:s'.os=s.os) (u:Un (frs X.stack) ch H H' s.heap s'.heap) (hok:HOk X.prog X.w H' s'.heap) (hg:AllBare s'.gens)
    (hch:∀ b∈ch,(b∈X.ex∨X.s₀.heap.objs.size≤b)∧b≠X.env.locals∧(∀ x c,X.env.cells.lookup x=some c→c≠b)∧∀ p∈X.pn ++ pins,p.1≠b):Inv X pins σ H' s':=by
  obtain ⟨h',g',d',t',o'⟩:=s'
  have e:o'=s.os:=ho
  subst e
  exact I.call (g':=g') (t':=t') (d':=d') u hok hg hch
end
abbrev XK:=Value→Option Addr→Hp→Prop
abbrev St:=List (Option V)
abbrev VK:=V→Hp→Prop
abbrev TE:=St→Hp→VK→Prop
abbrev TT:=St→Hp→(Bool→Hp→Prop)→Prop
abbrev TA:=St→Hp→(List V→Hp→Prop)→Prop
set_option genSizeOf false in
set_option genInjectivity false in
structure Ends where
  nx:St→Hp→Prop
  rt:VK
  bk:St→Hp→Prop:=fun _ _=>False
  ct:St→Hp→Prop:=fun _ _=>False
abbrev TS:=Ends→St→Hp→Prop
def EP (X:Cx) (pins:List (Addr × Obj)) (σ:St) (Q:VK) (u:Value) (s':Shared):Prop:=∃ v H',Inv X pins σ H' s'∧RelV v u∧Q v H'
def TP (X:Cx) (pins:List (Addr × Obj)) (σ:St) (Q:Bool→Hp→Prop) (b:Bool) (s':Shared):Prop:=∃ H',Inv X pins σ H' s'∧Q b H'
def AP (X:Cx) (pins:List (Addr × Obj)) (σ:St) (Q:List V→Hp→Prop) (us:List Value) (s':Shared):Prop:=∃ vs H',Inv X pins σ H' s'∧Vals vs us∧Q vs H'
def SP (X:Cx) (pins:List (Addr × Obj)) (D:Ends) (f:Flow) (s':Shared):Prop :=
  match f with
  | .next=>∃ σ' H',Inv X pins σ' H' s'∧D.nx σ' H'
  | .brk=>∃ σ' H',Inv X pins σ' H' s'∧D.bk σ' H'
  | .cont=>∃ σ' H',Inv X pins σ' H' s'∧D.ct σ' H'
  | .ret u=>∃ v σ' H',Inv X pins σ' H' s'∧RelV v u∧D.rt v H'
def PE (X:Cx) (e:Expr) (t:TE):Prop :=
  ∀ (pins:List (Addr × Obj)) (s:Shared) (σ:St) (H:Hp) (Q:VK),Inv X pins σ H s→t σ H Q→wpAny (model X.prog X.w) X.A (eval e X.env) (EP X pins σ Q) X.xe s
def PT (X:Cx) (e:Expr) (t:TT):Prop :=
  ∀ (pins:List (Addr × Obj)) (s:Shared) (σ:St) (H:Hp) (Q:Bool→Hp→Prop),Inv X pins σ H s→t σ H Q→wpAny (model X.prog X.w) X.A (isTrue e X.env (eval e X.env)) (TP X pins σ Q) X.xe s
def PW (X:Cx) (e:Expr) (t:TT):Prop :=
  ∀ (whole:Sem Value) (pins:List (Addr × Obj)) (s:Shared) (σ:St) (H:Hp) (Q:Bool→Hp→Prop),Inv X pins σ H s→t σ H Q→wpAny (model X.prog X.w) X.A (isTrue e X.env whole) (TP X pins σ Q) X.xe s
theorem PW.pt {X:Cx} {e:Expr} {t:TT} (h:PW X e t):PT X e t:=h _
def PA (X:Cx) (es:List Expr) (t:TA):Prop :=
  ∀ (pos:Pos) (pins:List (Addr × Obj)) (s:Shared) (σ:St) (H:Hp) (Q:List V→Hp→Prop),Inv X pins σ H s→t σ H Q→wpAny (model X.prog X.w) X.A (spliced (backTo pos (starEach es X.env))) (AP X pins σ Q) X.xe s
def PS (X:Cx) (st:Stmt) (t:TS):Prop :=
  ∀ (pins:List (Addr × Obj)) (s:Shared) (σ:St) (H:Hp) (D:Ends),Inv X pins σ H s→t D σ H→wpAny (model X.prog X.w) X.A (exec st X.env) (SP X pins D) X.xe s
def PSs (X:Cx) (st:List Stmt) (t:TS):Prop :=
  ∀ (pins:List (Addr × Obj)) (s:Shared) (σ:St) (H:Hp) (D:Ends),Inv X pins σ H s→t D σ H→wpAny (model X.prog X.w) X.A (execs st X.env) (SP X pins D) X.xe s
theorem thn {α:Type} {t:Sem α} {Q Q':α→Shared→Prop} {M:Model} {A:Around} {E:Value→Shared→Prop} {s:Shared} (h:wpAny M A t Q E s) (hQ:∀ a s,Q a s→Q' a s):wpAny M A t Q' E s:=wpAny_mono h hQ fun _ _ x=>x
end L2
namespace L2
open PySem PySem.Spec PyProof.Rows
section
variable {X:Cx}
def tVar (i:Nat):TE:=fun σ H Q=>∃ v,σ[i]?=some (some v)∧Q v H
def tC (v:V):TE:=fun _ H Q=>Q v H
theorem pe_var {i:Nat} {x:Str} {pos:Pos} (hN:X.N[i]?=some x) (hv:Vis X.env.scope x) (hd:(x == ("__debug__":Str))=false:=by decide) (hcd:(x == ("__classdict__":Str))=false:=by decide):PE X (.Name x pos) (tVar i):=by
  intro pins s σ H Q I h
  obtain ⟨v,e,h⟩:=h
  obtain ⟨m,hn,hl⟩:=I.loc
  obtain ⟨u,r,l⟩:=hl i x v hN e hv
  have fin:EP X pins σ Q u s:=⟨v,H,I,r,h⟩
  rcases l with ⟨hk,hm⟩ | ⟨hk,c,hc,hcell⟩
  · exact wpAny_Name (wpAny_loadName_local I.ok.kind hk hn hm fin) hd
  · rcases hk with hk | hk
    · exact wpAny_Name (wpAny_loadName_cell I.ok.kind hk hc hcell fin) hd
    · exact wpAny_Name (wpAny_loadName_free I.ok.kind hk hc hcell fin hcd) hd
theorem pe_int {i j pos}:PE X (.Constant (.int i) j pos) (tC (.int i)):=fun _ _ _ H _ I h=>wpAny_Constant_int ⟨.int i,H,I.tok _,⟨_,rfl⟩,h⟩
theorem pe_bl {b j pos}:PE X (.Constant (.bool b) j pos) (tC (.bl b)):=fun _ _ _ H _ I h=>Constant_bool ⟨.bl b,H,I,rfl,h⟩
theorem pe_str {x j pos}:PE X (.Constant (.str x) j pos) (tC (.str x)):=fun _ _ _ H _ I h=>Calls.Constant_str ⟨.str x,H,I.tok _,⟨_,rfl⟩,h⟩
def Gl (X:Cx) (x:Str):Prop:=X.env.kindOf x=some .globalImplicit
theorem ld_glob {E:Value→Shared→Prop} {pins:List (Addr × Obj)} {s:Shared} {σ:St} {H:Hp} {x:Str} {u:Value} {pos:Pos} {Q:Value→Shared→Prop} (I:Inv X pins σ H s) (hg:Gl X x) (hm:X.mg x=some u) (h:Q u s)
    (hd:(x == ("__debug__":Str))=false:=by decide):wpAny (model X.prog X.w) X.A (eval (.Name x pos) X.env) Q E s :=
  Calls.Name_function_global I.ok.kind hg (Calls.loadGlobal_global (by rw [I.ok.glob];exact I.mod.glob.keeps I.bk) hm h) hd
theorem ld_blt {E:Value→Shared→Prop} {pins:List (Addr × Obj)} {s:Shared} {σ:St} {H:Hp} {x:Str} {u:Value} {pos:Pos} {Q:Value→Shared→Prop} (I:Inv X pins σ H s) (hg:Gl X x) (hm:X.mg x=none) (hv:bootBuiltins x=some u) (h:Q u s)
    (hn:x≠"__name__":=by decide) (hd:(x == ("__debug__":Str))=false:=by decide):wpAny (model X.prog X.w) X.A (eval (.Name x pos) X.env) Q E s:=by
  obtain ⟨mb,h1,h2⟩:=I.mod.blt
  exact Calls.Name_function_global I.ok.kind hg (Calls.loadGlobal_builtin (by rw [I.ok.glob];exact I.mod.glob.keeps I.bk) hm (by rw [I.ok.blt];exact h1.keeps I.bk) ((h2 x hn).trans hv) h) hd
theorem pe_glob {x:Str} {v:V} {u:Value} {pos:Pos} (hg:Gl X x) (hm:X.mg x=some u) (r:RelV v u) (hd:(x == ("__debug__":Str))=false:=by decide):PE X (.Name x pos) (tC v) :=
  fun _ _ _ H _ I h=>ld_glob I hg hm ⟨v,H,I,r,h⟩ hd
theorem pe_bltn {x:Str} {v:V} {u:Value} {pos:Pos} (hg:Gl X x) (hm:X.mg x=none) (hv:bootBuiltins x=some u) (r:RelV v u) (hn:x≠"__name__":=by decide) (hd:(x == ("__debug__":Str))=false:=by decide):PE X (.Name x pos) (tC v) :=
  fun _ _ _ H _ I h=>ld_blt I hg hm hv ⟨v,H,I,r,h⟩ hn hd
variable {a b:Expr} {ta tb:TE} {pos:Pos}
def tB (t:TE):TT:=fun σ H Q=>t σ H fun x H1=>∃ c,x=.bl c∧Q c H1
theorem pt_val {e:Expr} {t:TE} (h:PE X e t) (he:∀ whole,isTrue e X.env whole=(do let v ← whole;standAt e.pos;holding [v] (truthy v)):=by intro _;rfl):PT X e (tB t):=by
  intro pins s σ H Q I hw
  refine isTrue_plain (thn (h pins s σ H _ I hw) fun v s1 ⟨x,H1,I1,r1,q1⟩=>?_) (he _)
  obtain ⟨d,rfl,q⟩:=q1
  cases r1
  exact wpAny_truthy_bool ⟨H1,I1,q⟩
variable {tA tB':TT} {rest:List Expr}
def tAnd (t u:TT):TT:=fun σ H Q=>t σ H fun c H1=>if c=true then u σ H1 Q else Q false H1
def tOr (t u:TT):TT:=fun σ H Q=>t σ H fun c H1=>if c=true then Q true H1 else u σ H1 Q
def tNot (t:TT):TT:=fun σ H Q=>t σ H fun c H1=>Q (!c) H1
theorem pw_and1 (ha:PT X a tA):PW X (.BoolOp .And [a] pos) tA:=by
  intro wh pins s σ H Q I h
  refine isTrue_and (thn (ha pins s σ H Q I h) fun c s1 e=>?_)
  cases c with
  | true=>exact isTrue_and_nil e
  | false=>exact e
theorem pw_or1 (ha:PT X a tA):PW X (.BoolOp .Or [a] pos) tA:=by
  intro wh pins s σ H Q I h
  refine isTrue_or (thn (ha pins s σ H Q I h) fun c s1 e=>?_)
  cases c with
  | false=>exact isTrue_or_nil e
  | true=>exact e
theorem pw_and (ha:PT X a tA) (hb:PW X (.BoolOp .And (b :: rest) pos) tB'):PW X (.BoolOp .And (a :: b :: rest) pos) (tAnd tA tB'):=by
  intro wh pins s σ H Q I h
  refine isTrue_and (thn (ha pins s σ H _ I h) fun c s1 ⟨H1,I1,q1⟩=>?_)
  cases c with
  | true=>exact hb wh pins s1 σ H1 Q I1 q1
  | false=>exact ⟨H1,I1,q1⟩
theorem pw_or (ha:PT X a tA) (hb:PW X (.BoolOp .Or (b :: rest) pos) tB'):PW X (.BoolOp .Or (a :: b :: rest) pos) (tOr tA tB'):=by
  intro wh pins s σ H Q I h
  refine isTrue_or (thn (ha pins s σ H _ I h) fun c s1 ⟨H1,I1,q1⟩=>?_)
  cases c with
  | true=>exact ⟨H1,I1,q1⟩
  | false=>exact hb wh pins s1 σ H1 Q I1 q1
theorem pt_not (ha:PT X a tA):PT X (.UnaryOp .Not a pos) (tNot tA):=by
  intro pins s σ H Q I h
  exact isTrue_not (ha pins s σ H (fun c H1=>Q (!c) H1) I h)
def tAndV (ta tb:TE):TE:=fun σ H Q=>ta σ H fun x H1=>∃ c,x=.bl c∧if c=true then tb σ H1 Q else Q (.bl false) H1
def tOrV (ta tb:TE):TE:=fun σ H Q=>ta σ H fun x H1=>∃ c,x=.bl c∧if c=true then Q (.bl true) H1 else tb σ H1 Q
def tNotV (ta:TE):TE:=fun σ H Q=>ta σ H fun x H1=>∃ c,x=.bl c∧Q (.bl (!c)) H1
theorem pe_one {op} {t:TE} (h:PE X a t):PE X (.BoolOp op [a] pos) t:=fun pins s σ H Q I hw=>BoolOp_one (h pins s σ H Q I hw)
theorem pe_and (ha:PE X a ta) (hb:PE X (.BoolOp .And (b :: rest) pos) tb):PE X (.BoolOp .And (a :: b :: rest) pos) (tAndV ta tb):=by
  intro pins s σ H Q I h
  refine BoolOp_and (thn (ha pins s σ H _ I h) fun v s1 ⟨x,H1,I1,r1,q1⟩=>?_)
  obtain ⟨c,rfl,q1⟩:=q1
  cases r1
  refine wpAny_truthy_bool ?_
  cases c with
  | true=>exact hb pins s1 σ H1 Q I1 q1
  | false=>exact ⟨.bl false,H1,I1,rfl,q1⟩
def tIf (t:TT) (ta tb:TE):TE:=fun σ H Q=>t σ H fun c H1=>if c=true then ta σ H1 Q else tb σ H1 Q
theorem pe_ifExp {c:Expr} (hc:PT X c tA) (ha:PE X a ta) (hb:PE X b tb):PE X (.IfExp c a b pos) (tIf tA ta tb):=by
  intro pins s σ H Q I h
  refine wpAny_IfExp (thn (hc pins s σ H _ I h) fun d s1 ⟨H1,I1,q1⟩=>?_)
  cases d with
  | true=>exact ha pins s1 σ H1 Q I1 q1
  | false=>exact hb pins s1 σ H1 Q I1 q1
end
end L2
namespace L2
open PySem PySem.Spec PyProof.Rows
def SqL (K:PySem.W.Frag) (H:Hp) (a:Addr) (xs:List V):Prop :=
  Rd H a (.lst xs) ∨
    ∃ (o:Obj) (its:Array Value) (n:Nat),K.lookup a=some o∧o.cls=.type "list"∧o.dict=none∧o.data=.seq its n∧its.size≤sizeLine∧Vals xs its.toList
def SqT (K:PySem.W.Frag) (H:Hp) (a:Addr) (xs:List V):Prop :=
  Rd H a (.tup xs) ∨
    ∃ (o:Obj) (its:Array Value) (n:Nat),K.lookup a=some o∧o.cls=.type "tuple"∧o.data=.seq its n∧its.size≤sizeLine∧Vals xs its.toList
def absV:Value→Option V
  | .none=>some .non
  | .bool b=>some (.bl b)
  | .int i _=>some (.int i)
  | .str x _=>some (.str x)
  | .bytes b _=>some (.byt b)
  | .float b _=>some (.flt b)
  | .ref a=>some (.ref a)
  | .type n=>some (.ty n)
  | _=>none
theorem RelV.abs {x:V} {u:Value} (r:RelV x u):absV u=some x:=by
  cases x with
  | non=>cases r;rfl
  | bl _=>cases r;rfl
  | int _=>obtain ⟨t,rfl⟩:=r;rfl
  | str _=>obtain ⟨t,rfl⟩:=r;rfl
  | byt _=>obtain ⟨t,rfl⟩:=r;rfl
  | flt _=>obtain ⟨t,rfl⟩:=r;rfl
  | ref _=>cases r;rfl
  | ty _=>cases r;rfl
theorem RelV.inj {x y:V} {u:Value} (r:RelV x u) (q:RelV y u):x=y:=Option.some.inj (r.abs.symm.trans q.abs)
theorem Vals.inj:∀ {xs ys:List V} {us:List Value},Vals xs us→Vals ys us→xs=ys
  | _,_,_,.nil,.nil=>rfl
  | _,_,_,.cons r t,.cons r' t'=>by rw [r.inj r',Vals.inj t t']
section
variable {X:Cx} {pins:List (Addr × Obj)} {σ:St} {H:Hp} {s:Shared} {a:Addr} {xs ys:List V}
theorem SqL.of {K:PySem.W.Frag} (h:H a=some (.lst xs)):SqL K H a xs:=.inl (.inl h)
theorem SqT.of {K:PySem.W.Frag} (h:H a=some (.tup xs)):SqT K H a xs:=.inl (.inl h)
theorem Inv.list (I:Inv X pins σ H s) (h:SqL X.K H a xs):∃ its:List Value,Vals xs its∧PlainL s.heap a its.toArray∧xs.length≤sizeLine:=by
  rcases h with h | ⟨o,its,n,hk,hc,hd,hs,hz,r⟩
  · obtain ⟨z,its,n,r,e⟩:=h.ok I.hok
    exact ⟨its,r,⟨_,n,e,rfl,rfl,rfl⟩,z⟩
  · refine ⟨its.toList,r,⟨o,n,I.kIn a o hk,hc,hd,by simpa using hs⟩,?_⟩
    have e:=r.length
    simp only [Array.length_toList] at e
    lia
theorem Inv.tuple (I:Inv X pins σ H s) (h:SqT X.K H a xs):∃ its:List Value,Vals xs its∧IsTup s.heap a its.toArray∧xs.length≤sizeLine:=by
  rcases h with h | ⟨o,its,n,hk,hc,hs,hz,r⟩
  · obtain ⟨z,its,r,p⟩:=h.ok I.hok
    exact ⟨its,r,p,z⟩
  · refine ⟨its.toList,r,⟨o,I.kIn a o hk,hc,n,by simpa using hs⟩,?_⟩
    have e:=r.length
    simp only [Array.length_toList] at e
    lia
theorem Inv.list_inj (I:Inv X pins σ H s) (h:SqL X.K H a xs) (h':SqL X.K H a ys):xs=ys:=by
  obtain ⟨its,r,⟨o,n,e,_,_,d⟩,_⟩:=I.list h
  obtain ⟨its',r',⟨o',n',e',_,_,d'⟩,_⟩:=I.list h'
  rw [e] at e';cases e'
  rw [d] at d'
  injection d' with d1 _
  have:its=its':=by simpa using congrArg Array.toList d1
  subst this
  exact r.inj r'
theorem Inv.tuple_inj (I:Inv X pins σ H s) (h:SqT X.K H a xs) (h':SqT X.K H a ys):xs=ys:=by
  obtain ⟨its,r,⟨o,e,_,n,d⟩,_⟩:=I.tuple h
  obtain ⟨its',r',⟨o',e',_,n',d'⟩,_⟩:=I.tuple h'
  rw [e] at e';cases e'
  rw [d] at d'
  injection d' with d1 _
  have:its=its':=by simpa using congrArg Array.toList d1
  subst this
  exact r.inj r'
end
abbrev Cx.wish (X:Cx) (E:Value→Shared→Prop):Cx:={ X with xe:=E }
abbrev Cx.nox (X:Cx):Cx:=X.wish fun _ _=>False
theorem Cx.Ok.wish {X:Cx} (ok:X.Ok) (E:Value→Shared→Prop):(X.wish E).Ok :=
  ⟨ok.mod,ok.kind,ok.glob,ok.blt,ok.above,ok.inj,ok.has,ok.cab,ok.hd,ok.frames,ok.stk,ok.exf,ok.bs,ok.bsz,ok.noex,ok.exfs,ok.funs,ok.frf⟩
theorem Cx.Ok.unwish {X:Cx} {E:Value→Shared→Prop} (ok:(X.wish E).Ok):X.Ok :=
  ⟨ok.mod,ok.kind,ok.glob,ok.blt,ok.above,ok.inj,ok.has,ok.cab,ok.hd,ok.frames,ok.stk,ok.exf,ok.bs,ok.bsz,ok.noex,ok.exfs,ok.funs,ok.frf⟩
section
variable {X:Cx} {pins:List (Addr × Obj)} {σ:St} {H:Hp} {s:Shared} {E:Value→Shared→Prop}
theorem Inv.wish (I:Inv X pins σ H s) (E:Value→Shared→Prop):Inv (X.wish E) pins σ H s:=⟨I.ok.wish E,I.os,I.bare,I.base,I.loc,I.cell,I.free,I.freeC,I.pin,I.hok,I.len⟩
theorem Inv.unwish (I:Inv (X.wish E) pins σ H s):Inv X pins σ H s:=⟨I.ok.unwish,I.os,I.bare,I.base,I.loc,I.cell,I.free,I.freeC,I.pin,I.hok,I.len⟩
theorem SP.unwish {D:Ends} {f:Flow} {s':Shared} (h:SP (X.wish E) pins D f s'):SP X pins D f s':=by
  cases f with
  | next=>obtain ⟨σ',H',I,q⟩:=h;exact ⟨σ',H',I.unwish,q⟩
  | brk=>obtain ⟨σ',H',I,q⟩:=h;exact ⟨σ',H',I.unwish,q⟩
  | cont=>obtain ⟨σ',H',I,q⟩:=h;exact ⟨σ',H',I.unwish,q⟩
  | ret u=>obtain ⟨v,σ',H',I,r,q⟩:=h;exact ⟨v,σ',H',I.unwish,r,q⟩
theorem PSs.nox {st:List Stmt} {t:TS} (h:PSs X.nox st t):PSs X st t:=fun pins s σ H D I hw =>
  wpAny_mono (h pins s σ H D (I.wish _) hw) (fun _ _ q=>q.unwish) fun _ _ z=>False.elim z
end
section
variable {X:Cx} {st:Stmt} {rest:List Stmt} {t u:TS} {e:Expr} {te:TE} {pos:Pos}
def tNext:TS:=fun D σ H=>D.nx σ H
def tSeq (t u:TS):TS:=fun D σ H=>t { D with nx:=u D } σ H
theorem pss_nil:PSs X [] tNext:=fun _ _ σ H _ I h=>wpAny_execs_nil ⟨σ,H,I,h⟩
theorem pss_cons (h1:PS X st t) (h2:PSs X rest u):PSs X (st :: rest) (tSeq t u):=by
  intro pins s σ H D I h
  refine wpAny_execs_cons (thn (h1 pins s σ H { D with nx:=u D } I h) fun f s1 q=>?_)
  cases f with
  | next =>
    obtain ⟨σ',H',I',q⟩:=q
    exact h2 pins s1 σ' H' D I' q
  | ret v=>exact q
  | brk=>exact q
  | cont=>exact q
theorem pss_one (h1:PS X st t):PSs X [st] t:=by
  intro pins s σ H D I h
  refine wpAny_execs_cons (thn (h1 pins s σ H D I h) fun f s1 q=>?_)
  cases f with
  | next=>exact wpAny_execs_nil q
  | ret v=>exact q
  | brk=>exact q
  | cont=>exact q
theorem Inv.quiet {pins:List (Addr × Obj)} {σ:St} {H:Hp} {s:Shared} (I:Inv X pins σ H s):interactive X.env=false:=by simp [interactive,I.ok.kind]
def tDrop (te:TE):TS:=fun D σ H=>te σ H fun _ H1=>D.nx σ H1
theorem ps_expr (he:PE X e te) (hs:swapsWith e none pos.line X.env=pure false:=by rfl):PS X (.Expr e pos) (tDrop te):=by
  intro pins s σ H D I h
  exact wpAny_Expr_any (thn (he pins s σ H _ I h) fun v s1 ⟨x,H1,I1,r1,q1⟩=>⟨σ,H1,I1,q1⟩) I.quiet hs
def tRet (te:TE):TS:=fun D σ H=>te σ H D.rt
theorem ps_ret (he:PE X e te):PS X (.Return (some e) pos) (tRet te):=by
  intro pins s σ H D I h
  exact wpAny_Return_some (thn (he pins s σ H _ I h) fun v s1 ⟨x,H1,I1,r1,q1⟩=>⟨x,σ,H1,I1,r1,q1⟩)
def tRetN:TS:=fun D _ H=>D.rt .non H
def tIfS (c:TT) (t u:TS):TS:=fun D σ H=>c σ H fun b H1=>if b=true then t D σ H1 else u D σ H1
theorem ps_if {c:Expr} {a b:List Stmt} {tc:TT} (hc:PT X c tc) (ha:PSs X a t) (hb:PSs X b u):PS X (.If c a b pos) (tIfS tc t u):=by
  intro pins s σ H D I h
  refine wpAny_If (thn (hc pins s σ H _ I h) fun d s1 ⟨H1,I1,q1⟩=>?_)
  cases d with
  | true=>exact ha pins s1 σ H1 D I1 q1
  | false=>exact hb pins s1 σ H1 D I1 q1
def tNever:TS:=fun _ _ _=>False
theorem ps_never:PS X st tNever:=fun _ _ _ _ _ _ h=>h.elim
end
abbrev TG:=V→St→Hp→(St→Hp→Prop)→Prop
abbrev TGs:=List V→St→Hp→(St→Hp→Prop)→Prop
def PG (X:Cx) (target:Expr) (t:TG):Prop :=
  ∀ (pins:List (Addr × Obj)) (s:Shared) (σ:St) (H:Hp) (v:V) (u:Value) (Q:St→Hp→Prop),Inv X pins σ H s→RelV v u→t v σ H Q →
    wpAny (model X.prog X.w) X.A (assign target X.env u) (fun _ s'=>∃ σ' H',Inv X pins σ' H' s'∧Q σ' H') X.xe s
def PGs (X:Cx) (ts:List Expr) (t:TGs):Prop :=
  ∀ (pins:List (Addr × Obj)) (s:Shared) (σ:St) (H:Hp) (vs:List V) (us:List Value) (Q:St→Hp→Prop),Inv X pins σ H s→Vals vs us→t vs σ H Q →
    wpAny (model X.prog X.w) X.A (assignInOrder ((assignEach ts X.env).map (·.2)) us) (fun _ s'=>∃ σ' H',Inv X pins σ' H' s'∧Q σ' H') X.xe s
abbrev TIp:=V→V→Hp→VK→Prop
def PIp (X:Cx) (op:Operator) (t:TIp):Prop :=
  ∀ (pins:List (Addr × Obj)) (s:Shared) (σ:St) (H:Hp) (x y:V) (v u:Value) (Q:VK),Inv X pins σ H s→RelV x v→RelV y u→t x y H Q →
    wpAny (model X.prog X.w) X.A (inplaceOp op v u) (EP X pins σ Q) X.xe s
section
variable {X:Cx} {pos:Pos}
def gName (i:Nat):TG:=fun v σ H Q=>Q (σ.set i (some v)) H
theorem pg_name {i:Nat} {x:Str} (hN:X.N.Nodup) (hi:X.N[i]?=some x) (hx:Loc X.env.scope x) (hf:X.fn x=true∨X.env.scope.names.lookup x=some .local:=by first | exact .inl rfl | exact .inr rfl | assumption):PG X (.Name x pos) (gName i):=by
  intro pins s σ H v u Q I r h
  exact wpAny_assign_Name (store_ok I hN hi hx r (fun s' I'=>⟨_,H,I',h⟩) hf)
def gNil:TGs:=fun vs σ H Q=>vs=[]∧Q σ H
def gCons (t:TG) (u:TGs):TGs:=fun vs σ H Q=>∃ v r,vs=v :: r∧t v σ H fun σ' H'=>u r σ' H' Q
theorem pgs_nil:PGs X [] gNil:=by
  intro pins s σ H vs us Q I r h
  obtain ⟨e,h⟩:=h
  subst e
  cases r
  exact assignInOrder_nil ⟨σ,H,I,h⟩
theorem pgs_cons {e:Expr} {es:List Expr} {t:TG} {u:TGs} (h1:PG X e t) (h2:PGs X es u)
    (hs:(assignEach (e :: es) X.env).map (·.2)=assign e X.env :: (assignEach es X.env).map (·.2):=by rfl):PGs X (e :: es) (gCons t u):=by
  intro pins s σ H vs us Q I r h
  obtain ⟨v,vr,e1,h⟩:=h
  subst e1
  cases r with
  | cons r rr =>
    rw [hs]
    refine assignInOrder_cons (thn (h1 pins s σ H _ _ _ I r h) fun _ s1 ⟨σ1,H1,I1,q1⟩=>?_)
    exact h2 pins s1 σ1 H1 _ _ Q I1 rr q1
def gTup (K:PySem.W.Frag) (n:Nat) (t:TGs):TG:=fun v σ H Q=>∃ a xs,v=.ref a∧SqT K H a xs∧xs.length=n∧t xs σ H Q
theorem pg_tup {es:List Expr} {k:Nat} {t:TGs} {n:Nat} (hc:X.calm=true) (h:PGs X es t)
    (hn:(assignEach es X.env).length=n:=by rfl) (hst:(assignEach es X.env).findIdx? (·.1)=none:=by rfl):PG X (.Tuple es k pos) (gTup X.K n t):=by
  intro pins s σ H v u Q I r hw
  obtain ⟨a,xs,e1,hq,hl,hw⟩:=hw
  subst e1
  cases r
  obtain ⟨its,rv,ht,hz⟩:=I.tuple hq
  refine assign_Tuple_tuple (I.ok.hd hc) ht (by simp [hn,← hl,rv.length]) hst fun h' hx=>?_
  have I1:Inv X pins σ H { s with heap:=h' }:=I.kept (t':=s.toks) fun b o e=>hx b o (Nat.ne_of_lt (Heap.lt_size e)) e
  exact h pins _ σ H xs _ Q I1 (by simpa using rv) hw
def tAsg (te:TE) (g:TG):TS:=fun D σ H=>te σ H fun x H1=>g x σ H1 D.nx
theorem ps_asg {tg e:Expr} {te:TE} {g:TG} (he:PE X e te) (hg:PG X tg g) (hs:swapsWithSole [tg] e pos.line X.env=pure false:=by rfl) (hw:swappedStores [tg] e X.env=pure none:=by rfl)
    (h1:(assignEach [tg] X.env).map (·.2)=[assign tg X.env]:=by rfl):PS X (.Assign [tg] e pos) (tAsg te g):=by
  intro pins s σ H D I h
  refine wpAny_Assign_stores (thn (he pins s σ H _ I h) fun v s1 ⟨x,H1,I1,r1,q1⟩=>?_) hs hw
  rw [h1]
  exact thn (hg pins s1 σ H1 x v _ I1 r1 q1) fun _ s2 q=>q
theorem ps_set {i:Nat} {x:Str} {e:Expr} {te:TE} {pos':Pos} (hN:X.N.Nodup) (hi:X.N[i]?=some x) (hx:Loc X.env.scope x) (he:PE X e te) (hs:swapsWith e (some (.Name x pos')) pos.line X.env=pure false:=by rfl) (hf:X.fn x=true∨X.env.scope.names.lookup x=some .local:=by first | exact .inl rfl | exact .inr rfl | assumption) :
    PS X (.Assign [.Name x pos'] e pos) (tAsg te (gName i)):=by
  intro pins s σ H D I h
  refine wpAny_Assign_Name (thn (he pins s σ H _ I h) fun v s1 ⟨y,H1,I1,r1,q1⟩=>?_) hs
  exact store_ok I1 hN hi hx r1 (fun s2 I2=>⟨_,H1,I2,q1⟩) hf
def tAug (i:Nat) (te:TE) (ti:TIp):TS:=fun D σ H=>∃ x,σ[i]?=some (some x)∧te σ H fun y H1=>ti x y H1 fun z H2=>D.nx (σ.set i (some z)) H2
theorem ps_aug {i:Nat} {x:Str} {e:Expr} {te:TE} {op:Operator} {ti:TIp} {pos':Pos} (hN:X.N.Nodup) (hi:X.N[i]?=some x) (hx:Loc X.env.scope x) (he:PE X e te) (ho:PIp X op ti) (hf:X.fn x=true∨X.env.scope.names.lookup x=some .local:=by first | exact .inl rfl | exact .inr rfl | assumption) :
    PS X (.AugAssign (.Name x pos') op e pos) (tAug i te ti):=by
  intro pins s σ H D I h
  obtain ⟨v,e1,h⟩:=h
  obtain ⟨m,hn,hl⟩:=I.loc
  have vis:Vis X.env.scope x:=by rcases hx with k | k;exact .inl k;exact .inr (.inl k)
  obtain ⟨u,r,l⟩:=hl i x v hi e1 vis
  refine wpAny_AugAssign_Name ?_
  have go:wpAny (model X.prog X.w) X.A (eval e X.env) (fun w s₂=>wpAny (model X.prog X.w) X.A (inplaceOp op u w) (fun r s₃=>wpAny (model X.prog X.w) X.A (storeName X.env x r) (fun _=>SP X pins D .next) X.xe s₃) X.xe s₂) X.xe s:=by
    refine thn (he pins s σ H _ I h) fun w s1 ⟨y,H1,I1,r1,q1⟩=>?_
    refine thn (ho pins s1 σ H1 v y u w _ I1 r r1 q1) fun z s2 ⟨zv,H2,I2,r2,q2⟩=>?_
    exact store_ok I2 hN hi hx r2 (fun s3 I3=>⟨_,H2,I3,q2⟩) hf
  rcases l with ⟨hk,hm⟩ | ⟨hk,c,hc,hcell⟩
  · exact wpAny_loadName_local I.ok.kind hk hn hm go
  · rcases hk with hk | hk
    · exact wpAny_loadName_cell I.ok.kind hk hc hcell go
    · rcases hx with k | k
      · have:X.env.scope.names.lookup x=some .free:=hk
        rw [k] at this;cases this
      · have:X.env.scope.names.lookup x=some .free:=hk
        rw [k] at this;cases this
def ipI (f:Int→Int→Int):TIp:=fun x y H Q=>∃ i j,x=.int i∧y=.int j∧Q (.int (f i j)) H
theorem ip_add:PIp X .Add (ipI fun i j=>i + j):=by
  intro pins s σ H x y v u Q I r1 r2 h
  obtain ⟨i,j,e1,e2,q⟩:=h
  subst e1;subst e2
  obtain ⟨t,rfl⟩:=r1
  obtain ⟨t',rfl⟩:=r2
  exact iadd_int ⟨.int _,H,I.tok _,⟨_,rfl⟩,q⟩
end
section
variable {X:Cx} {pos:Pos}
def tWhile (c:TT) (tb:TS):TS:=fun D σ H=>∃ W:Nat→St→Hp→Prop,(∃ m,W m σ H)∧∀ m σ H,W m σ H →
  c σ H fun b H1=>if b=true then ∃ N:St→Hp→Prop,(∀ σ' H',N σ' H'→∃ m',m' < m∧W m' σ' H')∧tb { D with nx:=N,ct:=N,bk:=D.nx } σ H1 else D.nx σ H1
theorem ps_while {c:Expr} {body:List Stmt} {tc:TT} {tb:TS} (hp:PassesOwn (model X.prog X.w) X.A X.env X.xe) (hc:PT X c tc) (hb:PSs X body tb):PS X (.While c body [] pos) (tWhile tc tb):=by
  intro pins s σ H D I h
  obtain ⟨W,⟨m0,w0⟩,turn⟩:=h
  refine wpAny_While (codeAny_whileLoop (fun n s'=>∃ σ' H',Inv X pins σ' H' s'∧W n σ' H') ?_ m0 ⟨σ,H,I,w0⟩)
  rintro n s1 ⟨σ1,H1,I1,w1⟩
  refine wpAny_passesOwn hp (thn (hc pins s1 σ1 H1 _ I1 (turn n σ1 H1 w1)) fun b s2 ⟨H2,I2,q2⟩=>?_)
  cases b with
  | true =>
    obtain ⟨N,hN,q2⟩:=q2
    rw [if_pos rfl]
    refine wpAny_passesOwn hp (thn (hb pins s2 σ1 H2 _ I2 q2) fun f s3 q3=>?_)
    cases f with
    | next =>
      obtain ⟨σ3,H3,I3,n3⟩:=q3
      obtain ⟨m',hm,w3⟩:=hN σ3 H3 n3
      exact ⟨m',hm,σ3,H3,I3,w3⟩
    | cont =>
      obtain ⟨σ3,H3,I3,n3⟩:=q3
      obtain ⟨m',hm,w3⟩:=hN σ3 H3 n3
      exact ⟨m',hm,σ3,H3,I3,w3⟩
    | brk=>exact q3
    | ret v=>exact q3
  | false =>
    rw [if_neg Bool.false_ne_true]
    exact wpAny_execs_nil ⟨σ1,H2,I2,q2⟩
end
set_option genSizeOf false in
set_option genInjectivity false in
structure It where
  go:Nat→Hp→Prop
  yld:Nat→Hp→V→Hp→Prop
  stop:Nat→Hp→Prop
def FpOk (X:Cx) (pins:List (Addr × Obj)) (H:Hp) (b:Addr):Prop :=
  H b=none∧b≠X.env.locals∧b ∉ X.fs∧(b∈X.ex∨X.s₀.heap.objs.size≤b)∧(∀ x c,X.env.cells.lookup x=some c→c≠b)∧∀ p∈X.pn ++ pins,p.1≠b
theorem Inv.fpOk {X:Cx} {pins:List (Addr × Obj)} {σ:St} {H H':Hp} {s:Shared} {b:Addr} (I:Inv X pins σ H s) (hb:s.heap.objs.size≤b) (hn:H' b=none):FpOk X pins H' b:=by
  refine ⟨hn,Nat.ne_of_gt (Nat.lt_of_lt_of_le I.lt hb),I.nofs hb,.inr (Nat.le_trans I.sz hb),fun x c e z=>?_,fun p hp z=>?_⟩
  · obtain ⟨v,q⟩:=I.cell x c e
    exact absurd (Nat.lt_of_lt_of_le q.lt (by rw [z];exact hb)) (Nat.lt_irrefl _)
  · exact absurd (Nat.lt_of_lt_of_le (Heap.lt_size (I.pin p hp).1) (by rw [z];exact hb)) (Nat.lt_irrefl _)
structure Turn (P:Program) (w:World) (K:PySem.W.Frag) (tg:Expr) (J:It) (fp:List Addr) (it:Addr) (tn:Nat→Heap→Prop):Prop where
  mem:it∈fp
  obj:∀ i h,tn i h→∀ b∈fp,∃ o,h.get? b=some o∧∀ v,o.data≠.cell v
  keep:∀ i h h',tn i h→(∀ b∈fp,∀ o,h.get? b=some o→h'.get? b=some o)→tn i h'
  item:∀ (X:Cx),X.prog=P→X.w=w→X.K=K→X.calm=true→∀ (i:Nat) (pins:List (Addr × Obj)) (s:Shared) (σ:St) (H:Hp) (E:Value→Shared→Prop),Inv X pins σ H s→(∀ b∈fp,FpOk X pins H b)→tn i s.heap→J.go i H →
    wpAny (model P w) X.A (pyNext (.ref it)) (fun r s1=>∃ u,r=some u ∧
      wpAny (model P w) X.A (letOwnedTupleGo tg (.ref it) u) (fun _ s2=>∃ x H',Inv X pins σ H' s2∧RelV x u∧J.yld i H x H'∧tn (i + 1) s2.heap∧∀ b∈fp,H' b=none) E s1) E s
  done:∀ (X:Cx),X.prog=P→X.w=w→X.K=K→X.calm=true→∀ (i:Nat) (pins:List (Addr × Obj)) (s:Shared) (σ:St) (H:Hp) (E:Value→Shared→Prop),Inv X pins σ H s→(∀ b∈fp,FpOk X pins H b)→tn i s.heap→J.stop i H →
    wpAny (model P w) X.A (pyNext (.ref it)) (fun r s1=>r=none∧Inv X pins σ H s1) E s
  self:∀ (A:Around) (i:Nat) (s:Shared) (Q:Value→Shared→Prop) (E:Value→Shared→Prop),tn i s.heap→Q (.ref it) s→wpAny (model P w) A (pyIter (.ref it)) Q E s
abbrev TI:=St→Hp→(It→Hp→Prop)→Prop
def PIE (X:Cx) (pins:List (Addr × Obj)) (σ:St) (tg:Expr) (R:It→Hp→Prop) (itv:Value) (s2:Shared):Prop :=
  ∃ (it:Addr) (fp:List Addr) (tn:Nat→Heap→Prop) (J:It) (H':Hp),itv=.ref it∧Inv X pins σ H' s2∧Turn X.prog X.w X.K tg J fp it tn∧tn 0 s2.heap∧(∀ b∈fp,FpOk X pins H' b)∧R J H'
def PI (X:Cx) (tg iter:Expr) (wi:TI):Prop :=
  ∀ (pins:List (Addr × Obj)) (s:Shared) (σ:St) (H:Hp) (R:It→Hp→Prop),Inv X pins σ H s→wi σ H R →
    wpAny (model X.prog X.w) X.A (eval iter X.env) (fun v s1=>wpAny (model X.prog X.w) X.A (pyIter v) (PIE X pins σ tg R) X.xe s1) X.xe s
theorem go_of {M:Model} {A:Around} {E:Value→Shared→Prop} {s:Shared} {tg:Expr} {it:Addr} {u:Value} {o:Obj} {n:String} {vs:Array Value} {Q:Unit→Shared→Prop} (ho:s.heap.get? it=some o) (hc:o.cls=.type n) (hd:o.data=.fields vs)
    (hn:["enumerate","zip","dict_itemiterator","dict_reverseitemiterator","odict_iterator","itertools.zip_longest","itertools.pairwise"].contains n=false) (hQ:Q () s):wpAny M A (letOwnedTupleGo tg (.ref it) u) Q E s:=by
  unfold letOwnedTupleGo
  cases tg <;> first
    | exact wpAny_pure hQ
    | (cases u <;> first
        | exact wpAny_pure hQ
        | (refine wpAny_bind (wpAny_load ho ?_)
           rw [hc,hd]
           show wpAny M A (if (["enumerate","zip","dict_itemiterator","dict_reverseitemiterator","odict_iterator","itertools.zip_longest","itertools.pairwise"].contains n && vs[0]? == some (rawInt _))=true then _ else _) Q E s
           rw [if_neg (by intro h;rw [hn,Bool.false_and] at h;cases h)]
           exact wpAny_pure hQ))
def Itl (K:PySem.W.Frag) (a:Addr):It :=
  ⟨fun i H=>∃ xs x,SqL K H a xs∧xs[i]?=some x,fun i H x H'=>H'=H∧∀ xs,SqL K H a xs→xs[i]?=some x,fun i H=>∃ xs,SqL K H a xs∧xs.length≤i⟩
def Itt (K:PySem.W.Frag) (a:Addr):It :=
  ⟨fun i H=>∃ xs x,SqT K H a xs∧xs[i]?=some x,fun i H x H'=>H'=H∧∀ xs,SqT K H a xs→xs[i]?=some x,fun i H=>∃ xs,SqT K H a xs∧xs.length≤i⟩
def Itr (lo:Int) (n:Nat):It:=⟨fun i _=>i < n,fun i H x H'=>H'=H∧x=.int (lo + i),fun i _=>n≤i⟩
theorem turn_list {P:Program} {w:World} {K:PySem.W.Frag} {tg:Expr} (a it:Addr):Turn P w K tg (Itl K a) [it] it (fun i h=>h.IsListIter it a i) where
  mem:=by simp
  obj:=fun i h st b hb=>by
    have e:b=it:=by simpa using hb
    subst e
    obtain ⟨o,e,c,d⟩:=st
    exact ⟨o,e,fun v z=>by rw [d] at z;cases z⟩
  keep:=fun i h h' st k=>st.at fun o e=>k it (by simp) o e
  item:=by
    intro X hP hw hK hc i pins s σ H E I hf st hg
    subst hP hw hK
    obtain ⟨xs,x,hq,hx⟩:=hg
    obtain ⟨its,rv,p,hz⟩:=I.list hq
    obtain ⟨u,hu,ru⟩:=rv.get hx
    obtain ⟨f0,f1,f2,f3,f4,f5⟩:=hf it (by simp)
    refine wpAny_pyNext_list_item st p.isList (x:=u) (by simpa using hu) fun h' st' sb=>?_
    have I1:Inv X pins σ H { s with heap:=h' }:=I.turned (t':=s.toks) (fun b o hb e=>(sb.2 b hb).trans e) f0 f1 f3 f4 f5
    obtain ⟨o,e,c,d⟩:=id st'
    exact ⟨u,rfl,go_of (s:={ s with heap:=h' }) e c d (by decide) ⟨x,H,I1,ru,⟨rfl,fun ys hy=>by rw [I.list_inj hy hq];exact hx⟩,st',fun b hb=>(hf b hb).1⟩⟩
  done:=by
    intro X hP hw hK hc i pins s σ H E I hf st hg
    subst hP hw hK
    obtain ⟨xs,hq,hx⟩:=hg
    obtain ⟨its,rv,p,hz⟩:=I.list hq
    obtain ⟨f0,f1,f2,f3,f4,f5⟩:=hf it (by simp)
    have hl:=rv.length
    exact wpAny_pyNext_list_end (I.ok.hd hc) st p.isList (by simp;lia) fun h' eb=>⟨rfl,I.turned (t':=s.toks) (fun b o hb e=>eb b o hb e) f0 f1 f3 f4 f5⟩
  self:=fun _ _ _ _ _ st h=>wpAny_pyIter_listiter st h
theorem turn_tuple {P:Program} {w:World} {K:PySem.W.Frag} {tg:Expr} (a it:Addr):Turn P w K tg (Itt K a) [it] it (fun i h=>h.IsTupleIter it a i) where
  mem:=by simp
  obj:=fun i h st b hb=>by
    have e:b=it:=by simpa using hb
    subst e
    obtain ⟨o,e,c,d⟩:=st
    exact ⟨o,e,fun v z=>by rw [d] at z;cases z⟩
  keep:=fun i h h' st k=>st.at fun o e=>k it (by simp) o e
  item:=by
    intro X hP hw hK hc i pins s σ H E I hf st hg
    subst hP hw hK
    obtain ⟨xs,x,hq,hx⟩:=hg
    obtain ⟨its,rv,p,hz⟩:=I.tuple hq
    obtain ⟨u,hu,ru⟩:=rv.get hx
    obtain ⟨f0,f1,f2,f3,f4,f5⟩:=hf it (by simp)
    refine wpAny_pyNext_tuple_item st (show s.heap.IsTuple a its.toArray from p) (x:=u) (by simpa using hu) fun h' st' sb=>?_
    have I1:Inv X pins σ H { s with heap:=h' }:=I.turned (t':=s.toks) (fun b o hb e=>(sb.2 b hb).trans e) f0 f1 f3 f4 f5
    obtain ⟨o,e,c,d⟩:=id st'
    exact ⟨u,rfl,go_of (s:={ s with heap:=h' }) e c d (by decide) ⟨x,H,I1,ru,⟨rfl,fun ys hy=>by rw [I.tuple_inj hy hq];exact hx⟩,st',fun b hb=>(hf b hb).1⟩⟩
  done:=by
    intro X hP hw hK hc i pins s σ H E I hf st hg
    subst hP hw hK
    obtain ⟨xs,hq,hx⟩:=hg
    obtain ⟨its,rv,p,hz⟩:=I.tuple hq
    obtain ⟨f0,f1,f2,f3,f4,f5⟩:=hf it (by simp)
    have hl:=rv.length
    exact wpAny_pyNext_tuple_end (I.ok.hd hc) st (show s.heap.IsTuple a its.toArray from p) (by simp;lia) fun h' eb=>⟨rfl,I.turned (t':=s.toks) (fun b o hb e=>eb b o hb e) f0 f1 f3 f4 f5⟩
  self:=fun _ _ _ _ _ st h=>wpAny_pyIter_tupleiter st h
theorem turn_range {P:Program} {w:World} {K:PySem.W.Frag} {tg:Expr} (it:Addr) (lo:Int) (n:Nat):Turn P w K tg (Itr lo n) [it] it (fun i h=>IsRangeIter h it (lo + (i:Nat) * 1) ((n:Int) - (i:Nat)) 1) where
  mem:=by simp
  obj:=fun i h st b hb=>by
    have e:b=it:=by simpa using hb
    subst e
    exact ⟨_,st,fun v z=>by
      have z':Data.fields _=Data.cell v:=z
      cases z'⟩
  keep:=fun i h h' st k=>k it (by simp) _ st
  item:=by
    intro X hP hw hK hc i pins s σ H E I hf st hg
    subst hP hw hK
    obtain ⟨f0,f1,f2,f3,f4,f5⟩:=hf it (by simp)
    have W:=Walks.range (prog:=X.prog) (w:=X.w) (I.ok.hd hc) it lo 1 n
    refine W.item i s _ _ hg st fun v h' tk hv st' kk=>?_
    obtain ⟨t,rfl⟩:=hv
    have I1:Inv X pins σ H { s with heap:=h',toks:=tk }:=I.turned (fun b o hb e=>kk b o (by simpa using hb) e) f0 f1 f3 f4 f5
    refine ⟨_,rfl,go_of (s:={ s with heap:=h',toks:=tk }) (n:="range_iterator") st' rfl rfl (by decide) ⟨.int (lo + i),H,I1,⟨t,?_⟩,⟨rfl,rfl⟩,st',fun b hb=>(hf b hb).1⟩⟩
    rw [Int.mul_one]
  done:=by
    intro X hP hw hK hc i pins s σ H E I hf st hg
    subst hP hw hK
    obtain ⟨f0,f1,f2,f3,f4,f5⟩:=hf it (by simp)
    exact wpAny_pyNext_range_end (I.ok.hd hc) st (by have:n≤i:=hg;lia) fun h' eb=>⟨rfl,I.turned (t':=s.toks) (fun b o hb e=>eb b o hb e) f0 f1 f3 f4 f5⟩
  self:=fun _ _ _ _ _ st h=>wpAny_pyIter_rangeiter st h
end L2
namespace L2
open PySem PySem.Spec PyProof.Rows
section
variable {X:Cx} {tg:Expr}
def iList (K:PySem.W.Frag) (tl:TE):TI:=fun σ H R=>tl σ H fun x H1=>∃ a,x=.ref a∧(∃ xs,SqL K H1 a xs)∧R (Itl K a) H1
def iTup (K:PySem.W.Frag) (tl:TE):TI:=fun σ H R=>tl σ H fun x H1=>∃ a,x=.ref a∧(∃ xs,SqT K H1 a xs)∧R (Itt K a) H1
theorem pi_list {l:Expr} {tl:TE} (hl:PE X l tl):PI X tg l (iList X.K tl):=by
  intro pins s σ H R I h
  refine thn (hl pins s σ H _ I h) fun v s1 ⟨x,H1,I1,r1,q1⟩=>?_
  obtain ⟨a,e,⟨xs,hq⟩,q⟩:=q1
  subst e
  cases r1
  obtain ⟨its,rv,p,hz⟩:=I1.list hq
  refine wpAny_pyIter_list p.isList ?_
  refine ⟨s1.heap.objs.size,[s1.heap.objs.size],_,_,H1,rfl,I1.kept (t':=s1.toks) fun b o e=>Heap.get?_push_of_some _ e,turn_list a _,⟨_,Heap.get?_push_size _ rfl,rfl,rfl⟩,fun b hb=>?_,q⟩
  have e:b=s1.heap.objs.size:=by simpa using hb
  subst e
  exact I1.fpOk (Nat.le_refl _) (I1.hok.fresh (Nat.le_refl _))
theorem pi_tup {l:Expr} {tl:TE} (hl:PE X l tl):PI X tg l (iTup X.K tl):=by
  intro pins s σ H R I h
  refine thn (hl pins s σ H _ I h) fun v s1 ⟨x,H1,I1,r1,q1⟩=>?_
  obtain ⟨a,e,⟨xs,hq⟩,q⟩:=q1
  subst e
  cases r1
  obtain ⟨its,rv,p,hz⟩:=I1.tuple hq
  refine wpAny_pyIter_tuple (show s1.heap.IsTuple a its.toArray from p) ?_
  refine ⟨s1.heap.objs.size,[s1.heap.objs.size],_,_,H1,rfl,I1.kept (t':=s1.toks) fun b o e=>Heap.get?_push_of_some _ e,turn_tuple a _,⟨_,Heap.get?_push_size _ rfl,rfl,rfl⟩,fun b hb=>?_,q⟩
  have e:b=s1.heap.objs.size:=by simpa using hb
  subst e
  exact I1.fpOk (Nat.le_refl _) (I1.hok.fresh (Nat.le_refl _))
theorem range_it {pins:List (Addr × Obj)} {σ:St} {H:Hp} {s:Shared} {R:It→Hp→Prop} {E:Value→Shared→Prop} {lo hi:Int} {t u v:Tok} {tk:Nat} (I:Inv X pins σ H s) (h1:-(2 ^ 62)≤lo) (h2:lo < 2 ^ 62) (h3:-(2 ^ 62)≤hi) (h4:hi < 2 ^ 62)
    (q:R (Itr lo (hi - lo).toNat) H):wpAny (model X.prog X.w) X.A (pyIter (.ref s.heap.objs.size)) (PIE X pins σ tg R) E { s with heap:=s.heap.push { cls:=.type "range",data:=.fields #[.int lo t,.int hi u,.int 1 v] },toks:=tk }:=by
  refine wpAny_pyIter_range (IsRange.new ..) (small_one h1 h2 h3 h4) ?_
  have I1:Inv X pins σ H { s with heap:=s.heap.push { cls:=.type "range",data:=.fields #[.int lo t,.int hi u,.int 1 v] },toks:=tk }:=I.kept fun b o e=>Heap.get?_push_of_some _ e
  refine ⟨(s.heap.push { cls:=.type "range",data:=.fields #[.int lo t,.int hi u,.int 1 v] }).objs.size,[(s.heap.push { cls:=.type "range",data:=.fields #[.int lo t,.int hi u,.int 1 v] }).objs.size],_,_,H,rfl,
    I1.kept (t':=tk) fun b o e=>Heap.get?_push_of_some _ e,turn_range _ lo (hi - lo).toNat,?_,fun b hb=>?_,q⟩
  · have e1:lo + ((0:Nat):Int) * 1=lo:=by simp
    have e2:(((hi - lo).toNat:Nat):Int) - ((0:Nat):Int)=Builtin.Range.rangeSize lo hi 1:=by rw [rangeSize_one];split <;> lia
    show IsRangeIter _ _ (lo + ((0:Nat):Int) * 1) ((((hi - lo).toNat:Nat):Int) - ((0:Nat):Int)) 1
    rw [e1,e2]
    exact Heap.get?_push_size _ rfl
  · have e:b=(s.heap.push { cls:=.type "range",data:=.fields #[.int lo t,.int hi u,.int 1 v] }).objs.size:=by simpa using hb
    subst e
    exact I1.fpOk (Nat.le_refl _) (I1.hok.fresh (Nat.le_refl _))
def iRng1 (ta:TA):TI:=fun σ H R=>ta σ H fun vs H1=>∃ j:Int,vs=[.int j]∧-(2 ^ 62)≤j∧j < 2 ^ 62∧R (Itr 0 j.toNat) H1
def iRng2 (ta:TA):TI:=fun σ H R=>ta σ H fun vs H1=>∃ i j:Int,vs=[.int i,.int j]∧(-(2 ^ 62)≤i∧i < 2 ^ 62∧-(2 ^ 62)≤j∧j < 2 ^ 62)∧R (Itr i (j - i).toNat) H1
theorem pi_range1 {a:Expr} {ta:TA} {p pos:Pos} (hg:Gl X "range") (hm:X.mg "range"=none) (ha:PA X [a] ta) (hs:starEach [a] X.env=[(false,eval a X.env)]:=by rfl):PI X tg (.Call (.Name "range" p) [a] [] pos) (iRng1 ta):=by
  intro pins s σ H R I h
  refine Call_ (ld_blt I hg hm boot_range (PyProof.Rows.callWith_type1 (thn (ha pos pins s σ H _ I h) fun us s1 ⟨vs,H1,I1,r1,q1⟩=>?_) hs rfl))
  obtain ⟨j,e,q1,q2,q⟩:=q1
  subst e
  cases r1 with
  | cons r rr =>
    cases rr
    obtain ⟨t,rfl⟩:=r
    exact call_range_1 (range_it I1 (by lia) (by lia) q1 q2 (by simpa using q))
def tFor (wi:TI) (g:TG) (tb:TS):TS:=fun D σ H=>wi σ H fun J H1=>∃ W:Nat→Nat→St→Hp→Prop,(∃ m,W 0 m σ H1)∧∀ i m σ H,W i m σ H →
  (J.stop i H∧D.nx σ H)∨(J.go i H∧∃ N:St→Hp→Prop,(∀ σ' H',N σ' H'→∃ m',m' < m∧W (i + 1) m' σ' H')∧∀ x H',J.yld i H x H'→g x σ H' fun σ2 H2=>tb { D with nx:=N,ct:=N,bk:=D.nx } σ2 H2)
def pinsAt (fp:List Addr) (h:Heap):List (Addr × Obj):=fp.filterMap fun b=>(h.get? b).map fun o=>(b,o)
theorem mem_pinsAt {fp:List Addr} {h:Heap} {b:Addr} {o:Obj} (hb:b∈fp) (e:h.get? b=some o):(b,o)∈pinsAt fp h:=List.mem_filterMap.mpr ⟨b,hb,by rw [e];rfl⟩
theorem of_pinsAt {fp:List Addr} {h:Heap} {p:Addr × Obj} (hp:p∈pinsAt fp h):p.1∈fp∧h.get? p.1=some p.2:=by
  obtain ⟨b,hb,e⟩:=List.mem_filterMap.mp hp
  cases q:h.get? b with
  | none=>rw [q] at e;cases e
  | some o =>
    rw [q] at e
    have e':(b,o)=p:=Option.some.inj e
    subst e'
    exact ⟨hb,q⟩
theorem Inv.pinned {pins:List (Addr × Obj)} {σ:St} {H:Hp} {s:Shared} {fp:List Addr} (I:Inv X pins σ H s) (hf:∀ b∈fp,FpOk X pins H b) (ho:∀ b∈fp,∃ o,s.heap.get? b=some o∧∀ v,o.data≠.cell v):Inv X (pins ++ pinsAt fp s.heap) σ H s :=
  I.pins_of fun p hp=>(List.mem_append.mp hp).elim (fun z=>I.pin p (List.mem_append_right _ z)) fun z=>by
    obtain ⟨hb,e⟩:=of_pinsAt z
    obtain ⟨f0,f1,f2,_⟩:=hf p.1 hb
    obtain ⟨o,e',d⟩:=ho p.1 hb
    rw [e] at e';cases e'
    exact ⟨e,f0,f1,f2,d⟩
theorem Inv.unpinned {pins pl:List (Addr × Obj)} {σ:St} {H:Hp} {s:Shared} (I:Inv X (pins ++ pl) σ H s):Inv X pins σ H s:=I.pins_of fun p hp=>I.pin p (List.mem_append_right _ (List.mem_append_left _ hp))
theorem ps_for {iter:Expr} {body:List Stmt} {wi:TI} {g:TG} {tb:TS} {pos:Pos} (hp:PassesOwn (model X.prog X.w) X.A X.env X.xe) (hc:X.calm=true) (hi:PI X tg iter wi) (hg:PG X tg g) (hb:PSs X body tb)
    (hs:∀ x,foldedSetIterable iter X.env x=pure x:=by intro _;rfl):PS X (.For tg iter body [] pos) (tFor wi g tb):=by
  intro pins s σ H D I h
  refine wpAny_For (thn (hi pins s σ H _ I h) fun v s1 h1=>thn h1 fun itv s2 h2=>?_) hs
  obtain ⟨it,fp,tn,J,H2,e,I2,T,st2,f2,W,⟨m0,w0⟩,turn⟩:=h2
  subst e
  -- what stays true of the iterator's objects through the loop
  have stat:∀ {H':Hp},(∀ b∈fp,H' b=none)→∀ b∈fp,FpOk X pins H' b:=fun hn b hb=>⟨hn b hb,(f2 b hb).2⟩
  refine codeAny_forLoop_any (fun n s'=>∃ i σ' H',Inv X pins σ' H' s'∧tn i s'.heap∧(∀ b∈fp,H' b=none)∧W i n σ' H') ?_ m0 ⟨0,σ,H2,I2,st2,fun b hb=>(f2 b hb).1,w0⟩
  rintro n s3 ⟨i,σ3,H3,I3,st3,fr3,w3⟩
  rcases turn i n σ3 H3 w3 with ⟨stop,qn⟩ | ⟨go,N,hN,step⟩
  · refine wpAny_passesOwn hp (thn (T.done X rfl rfl rfl hc i pins s3 σ3 H3 X.xe I3 (stat fr3) st3 stop) fun r s4 ⟨hr,I4⟩=>?_)
    subst hr
    exact wpAny_execs_nil ⟨σ3,H3,I4,qn⟩
  · refine wpAny_passesOwn hp (thn (T.item X rfl rfl rfl hc i pins s3 σ3 H3 X.xe I3 (stat fr3) st3 go) fun r s4 ⟨u,hr,h4⟩=>?_)
    subst hr
    refine wpAny_passesOwn hp (thn h4 fun _ s5 ⟨x,H5,I5,r5,y5,st5,fr5⟩=>?_)
    have I5':=I5.pinned (stat fr5) (T.obj _ _ st5)
    refine wpAny_passesOwn hp (thn (hg _ s5 σ3 H5 x u _ I5' r5 (step x H5 y5)) fun _ s6 ⟨σ6,H6,I6,q6⟩=>?_)
    refine wpAny_passesOwn hp (thn (hb _ s6 σ6 H6 _ I6 q6) fun f s7 q7=>?_)
    have again:∀ {σ7:St} {H7:Hp},Inv X (pins ++ pinsAt fp s5.heap) σ7 H7 s7→N σ7 H7→∃ m,m < n∧∃ i σ' H',Inv X pins σ' H' s7∧tn i s7.heap∧(∀ b∈fp,H' b=none)∧W i m σ' H':=fun {σ7 H7} I7 n7=>by
      obtain ⟨m',hm,w7⟩:=hN σ7 H7 n7
      refine ⟨m',hm,i + 1,σ7,H7,I7.unpinned,T.keep _ _ _ st5 fun b hb o e=>(I7.pin (b,o) (List.mem_append_right _ (List.mem_append_right _ (mem_pinsAt hb e)))).1,fun b hb=>?_,w7⟩
      obtain ⟨o,e,d⟩:=T.obj _ _ st5 b hb
      exact (I7.pin (b,o) (List.mem_append_right _ (List.mem_append_right _ (mem_pinsAt hb e)))).2.1
    cases f with
    | next=>obtain ⟨σ7,H7,I7,n7⟩:=q7;exact again I7 n7
    | cont=>obtain ⟨σ7,H7,I7,n7⟩:=q7;exact again I7 n7
    | brk=>obtain ⟨σ7,H7,I7,q7⟩:=q7;exact ⟨σ7,H7,I7.unpinned,q7⟩
    | ret v=>obtain ⟨x7,σ7,H7,I7,r7,q7⟩:=q7;exact ⟨x7,σ7,H7,I7.unpinned,r7,q7⟩
end
end L2
namespace L2
open PySem PySem.Spec PyProof.Rows
abbrev R2:=V→V→Hp→VK→Prop
def OpR (X:Cx) (f:Value→Value→Sem Value) (r:R2):Prop :=
  ∀ (pins:List (Addr × Obj)) (s:Shared) (σ:St) (H:Hp) (x y:V) (v u:Value) (Q:VK),Inv X pins σ H s→RelV x v→RelV y u→r x y H Q →
    wpAny (model X.prog X.w) X.A (f v u) (EP X pins σ Q) X.xe s
def UnR (X:Cx) (f:Value→Sem Value) (r:V→Hp→VK→Prop):Prop :=
  ∀ (pins:List (Addr × Obj)) (s:Shared) (σ:St) (H:Hp) (x:V) (v:Value) (Q:VK),Inv X pins σ H s→RelV x v→r x H Q →
    wpAny (model X.prog X.w) X.A (f v) (EP X pins σ Q) X.xe s
def CallR (X:Cx) (f:Value) (r:List V→Hp→VK→Prop):Prop :=
  ∀ (pins:List (Addr × Obj)) (s:Shared) (σ:St) (H:Hp) (xs:List V) (us:List Value) (Q:VK),Inv X pins σ H s→Vals xs us→r xs H Q →
    wpAny (model X.prog X.w) X.A (call f us) (EP X pins σ Q) X.xe s
def tOp (r:R2) (ta tb:TE):TE:=fun σ H Q=>ta σ H fun x H1=>tb σ H1 fun y H2=>r x y H2 Q
def tUn (r:V→Hp→VK→Prop) (ta:TE):TE:=fun σ H Q=>ta σ H fun x H1=>r x H1 Q
def rI (C:Int→Int→Prop) (g:Int→Int→V):R2:=fun x y H Q=>∃ i j,x=.int i∧y=.int j∧C i j∧Q (g i j) H
def rI0 (g:Int→Int→V):R2:=fun x y H Q=>∃ i j,x=.int i∧y=.int j∧Q (g i j) H
def rU (g:Int→V):V→Hp→VK→Prop:=fun x H Q=>∃ i,x=.int i∧Q (g i) H
section
variable {X:Cx} {a b c:Expr} {ta tb tc:TE} {pos:Pos}
theorem binT (ha:PE X a ta) (hb:PE X b tb) {pins:List (Addr × Obj)} {s:Shared} {σ:St} {H:Hp} {R:V→V→Hp→Prop} (I:Inv X pins σ H s)
    (h:ta σ H fun x H1=>tb σ H1 fun y H2=>R x y H2) {Q:Value→Shared→Prop} {f:Value→Value→Sem Value}
    (hf:∀ v u s2 x y H2,Inv X pins σ H2 s2→RelV x v→RelV y u→R x y H2→wpAny (model X.prog X.w) X.A (f v u) Q X.xe s2) :
    wpAny (model X.prog X.w) X.A (eval a X.env) (fun v s₁=>wpAny (model X.prog X.w) X.A (eval b X.env) (fun u s₂=>wpAny (model X.prog X.w) X.A (f v u) Q X.xe s₂) X.xe s₁) X.xe s:=by
  refine thn (ha pins s σ H _ I h) fun v s1 ⟨x,H1,I1,r1,q1⟩=>?_
  refine thn (hb pins s1 σ H1 _ I1 q1) fun u s2 ⟨y,H2,I2,r2,q2⟩=>?_
  exact hf v u s2 x y H2 I2 r1 r2 q2
theorem pe_op {op:Operator} {r:R2} (ho:OpR X (binaryOp op) r) (ha:PE X a ta) (hb:PE X b tb):PE X (.BinOp a op b pos) (tOp r ta tb):=by
  intro pins s σ H Q I h
  exact wpAny_BinOp (binT ha hb I h fun v u s2 x y H2 I2 rx ry q=>ho pins s2 σ H2 x y v u Q I2 rx ry q)
theorem pe_un {op:UnaryOp} {r:V→Hp→VK→Prop} (ho:UnR X (unaryOp op) r) (ha:PE X a ta):PE X (.UnaryOp op a pos) (tUn r ta):=by
  intro pins s σ H Q I h
  exact UnaryOp_ (thn (ha pins s σ H _ I h) fun v s1 ⟨x,H1,I1,r1,q1⟩=>ho pins s1 σ H1 x v Q I1 r1 q1)
theorem opI {f:Value→Value→Sem Value} {C:Int→Int→Prop} {g:Int→Int→Int}
    (rule:∀ (i j:Int) (t u:Tok) (s:Shared) (Q:Value→Shared→Prop) (E:Value→Shared→Prop),C i j→Q (.int (g i j) s.toks) { s with toks:=s.toks + 1 }→wpAny (model X.prog X.w) X.A (f (.int i t) (.int j u)) Q E s) :
    OpR X f (rI C fun i j=>.int (g i j)):=by
  intro pins s σ H x y v u Q I rx ry h
  obtain ⟨i,j,rfl,rfl,hc,q⟩:=h
  obtain ⟨t,rfl⟩:=rx
  obtain ⟨t',rfl⟩:=ry
  exact rule i j t t' s _ _ hc ⟨.int (g i j),H,I.tok _,⟨_,rfl⟩,q⟩
theorem opI0 {f:Value→Value→Sem Value} {g:Int→Int→Int}
    (rule:∀ (i j:Int) (t u:Tok) (s:Shared) (Q:Value→Shared→Prop) (E:Value→Shared→Prop),Q (.int (g i j) s.toks) { s with toks:=s.toks + 1 }→wpAny (model X.prog X.w) X.A (f (.int i t) (.int j u)) Q E s) :
    OpR X f (rI0 fun i j=>.int (g i j)):=by
  intro pins s σ H x y v u Q I rx ry h
  obtain ⟨i,j,rfl,rfl,q⟩:=h
  obtain ⟨t,rfl⟩:=rx
  obtain ⟨t',rfl⟩:=ry
  exact rule i j t t' s _ _ ⟨.int (g i j),H,I.tok _,⟨_,rfl⟩,q⟩
theorem opB0 {f:Value→Value→Sem Value} {g:Int→Int→Bool}
    (rule:∀ (i j:Int) (t u:Tok) (s:Shared) (Q:Value→Shared→Prop) (E:Value→Shared→Prop),Q (.bool (g i j)) s→wpAny (model X.prog X.w) X.A (f (.int i t) (.int j u)) Q E s) :
    OpR X f (rI0 fun i j=>.bl (g i j)):=by
  intro pins s σ H x y v u Q I rx ry h
  obtain ⟨i,j,rfl,rfl,q⟩:=h
  obtain ⟨t,rfl⟩:=rx
  obtain ⟨t',rfl⟩:=ry
  exact rule i j t t' s _ _ ⟨.bl (g i j),H,I,rfl,q⟩
def CPow (i j:Int):Prop:=0≤j∧j≤1000000∧i.natAbs < 2 ^ 64
theorem op_add:OpR X (binaryOp .Add) (rI0 fun i j=>.int (i + j)):=opI0 fun _ _ _ _ _ _ _ q=>add_int q
theorem op_sub:OpR X (binaryOp .Sub) (rI0 fun i j=>.int (i - j)):=opI0 fun _ _ _ _ _ _ _ q=>sub_int q
theorem op_mod:OpR X (binaryOp .Mod) (rI (fun _ j=>0 < j) fun i j=>.int (i % j)):=opI fun i j _ _ _ _ _ hc q=>by
  have h1:(0:Int) < j:=hc
  exact mod_int' (by lia) (by rw [Int.fmod_eq_emod_of_nonneg i (by lia)];exact q)
theorem op_pow:OpR X (binaryOp .Pow) (rI CPow fun i j=>.int (i ^ j.toNat)):=opI fun _ _ _ _ _ _ _ hc q=>pow_int_small hc.1 hc.2.1 hc.2.2 q
theorem unI {f:Value→Sem Value} {g:Int→Int}
    (rule:∀ (i:Int) (t:Tok) (s:Shared) (Q:Value→Shared→Prop) (E:Value→Shared→Prop),Q (.int (g i) s.toks) { s with toks:=s.toks + 1 }→wpAny (model X.prog X.w) X.A (f (.int i t)) Q E s) :
    UnR X f (rU fun i=>.int (g i)):=by
  intro pins s σ H x v Q I rx h
  obtain ⟨i,rfl,q⟩:=h
  obtain ⟨t,rfl⟩:=rx
  exact rule i t s _ _ ⟨.int (g i),H,I.tok _,⟨_,rfl⟩,q⟩
theorem un_neg:UnR X (unaryOp .USub) (rU fun i=>.int (-i)):=unI fun _ _ _ _ _ q=>neg_int q
end
def scal:V→V→Bool
  | .non,.non=>true | .non,.int _=>true | .int _,.non=>true | .non,.bl _=>true | .bl _,.non=>true | .non,.str _=>true | .str _,.non=>true
  | .int _,.int _=>true | .bl _,.bl _=>true | .str _,.str _=>true | .byt _,.byt _=>true
  | .int _,.str _=>true | .str _,.int _=>true | .bl _,.str _=>true | .str _,.bl _=>true
  | _,_=>false
def rEq:R2:=fun x y H Q=>scal x y=true∧Q (.bl (decide (x=y))) H
def rNe:R2:=fun x y H Q=>scal x y=true∧Q (.bl (!decide (x=y))) H
theorem dec_int {i j:Int}:decide (V.int i=V.int j)=(i == j):=by
  rw [Bool.eq_iff_iff]
  simp
theorem dec_bl {i j:Bool}:decide (V.bl i=V.bl j)=(i == j):=by
  rw [Bool.eq_iff_iff]
  simp
theorem dec_str {i j:Str}:decide (V.str i=V.str j)=(i == j):=by
  rw [Bool.eq_iff_iff]
  simp
theorem dec_byt {i j:Array UInt8}:decide (V.byt i=V.byt j)=(i.toList == j.toList):=by
  rw [Bool.eq_iff_iff]
  cases i
  cases j
  simp
section
variable {X:Cx} {a b c:Expr} {ta tb tc:TE} {pos:Pos}
theorem fin_bl {pins:List (Addr × Obj)} {σ:St} {H:Hp} {s:Shared} {Q:VK} {k k':Bool} (I:Inv X pins σ H s) (q:Q (.bl k) H) (e:k=k'):EP X pins σ Q (.bool k') s:=by
  subst e
  exact ⟨.bl k,H,I,rfl,q⟩
theorem op_eq:OpR X (compareOp .Eq) rEq:=by
  intro pins s σ H x y v u Q I rx ry h
  obtain ⟨hs,q⟩:=h
  cases x with
  | non =>
    cases rx
    cases y with
    | non=>cases ry;exact PySem.EqNone.eq_none_none (fin_bl I q (by simp))
    | bl j=>cases ry;exact PySem.EqNone.eq_none_bool (fin_bl I q (by simp))
    | int j=>obtain ⟨t',rfl⟩:=ry;exact PySem.EqNone.eq_none_int (fin_bl I q (by simp))
    | str j=>obtain ⟨t',rfl⟩:=ry;exact PySem.EqNone.eq_none_str (fin_bl I q (by simp))
    | _=>exact absurd (show false=true from hs) Bool.false_ne_true
  | bl i =>
    cases rx
    cases y with
    | non=>cases ry;exact PySem.EqNone.eq_bool_none (fin_bl I q (by simp))
    | bl j=>cases ry;exact eq_bool (fin_bl I q dec_bl)
    | str j=>obtain ⟨t',rfl⟩:=ry;exact PySem.EqMixed.eq_bool_str (fin_bl I q (by simp))
    | _=>exact absurd (show false=true from hs) Bool.false_ne_true
  | int i =>
    obtain ⟨t,rfl⟩:=rx
    cases y with
    | non=>cases ry;exact PySem.EqNone.eq_int_none (fin_bl I q (by simp))
    | int j=>obtain ⟨t',rfl⟩:=ry;exact eq_int (fin_bl I q dec_int)
    | str j=>obtain ⟨t',rfl⟩:=ry;exact PySem.EqMixed.eq_int_str (fin_bl I q (by simp))
    | _=>exact absurd (show false=true from hs) Bool.false_ne_true
  | str i =>
    obtain ⟨t,rfl⟩:=rx
    cases y with
    | non=>cases ry;exact PySem.EqNone.eq_str_none (fin_bl I q (by simp))
    | bl j=>cases ry;exact PySem.EqMixed.eq_str_bool (fin_bl I q (by simp))
    | int j=>obtain ⟨t',rfl⟩:=ry;exact PySem.EqMixed.eq_str_int (fin_bl I q (by simp))
    | str j=>obtain ⟨t',rfl⟩:=ry;exact eq_str (fin_bl I q dec_str)
    | _=>exact absurd (show false=true from hs) Bool.false_ne_true
  | byt i =>
    obtain ⟨t,rfl⟩:=rx
    cases y with
    | byt j=>obtain ⟨t',rfl⟩:=ry;exact PySem.W.eq_bytes (fin_bl I q dec_byt)
    | _=>exact absurd (show false=true from hs) Bool.false_ne_true
  | _=>cases y <;> exact absurd (show false=true from hs) Bool.false_ne_true
theorem op_ne:OpR X (compareOp .NotEq) rNe:=by
  intro pins s σ H x y v u Q I rx ry h
  obtain ⟨hs,q⟩:=h
  cases x with
  | non =>
    cases rx
    cases y with
    | non=>cases ry;exact PySem.EqNone.ne_none_none (fin_bl I q (by simp))
    | bl j=>cases ry;exact PySem.EqNone.ne_none_bool (fin_bl I q (by simp))
    | int j=>obtain ⟨t',rfl⟩:=ry;exact PySem.EqNone.ne_none_int (fin_bl I q (by simp))
    | str j=>obtain ⟨t',rfl⟩:=ry;exact PySem.EqNone.ne_none_str (fin_bl I q (by simp))
    | _=>exact absurd (show false=true from hs) Bool.false_ne_true
  | bl i =>
    cases rx
    cases y with
    | non=>cases ry;exact PySem.EqNone.ne_bool_none (fin_bl I q (by simp))
    | bl j=>cases ry;exact ne_bool (fin_bl I q (congrArg not dec_bl))
    | str j=>obtain ⟨t',rfl⟩:=ry;exact PySem.EqMixed.ne_bool_str (fin_bl I q (by simp))
    | _=>exact absurd (show false=true from hs) Bool.false_ne_true
  | int i =>
    obtain ⟨t,rfl⟩:=rx
    cases y with
    | non=>cases ry;exact PySem.EqNone.ne_int_none (fin_bl I q (by simp))
    | int j=>obtain ⟨t',rfl⟩:=ry;exact ne_int (fin_bl I q (congrArg not dec_int))
    | str j=>obtain ⟨t',rfl⟩:=ry;exact PySem.EqMixed.ne_int_str (fin_bl I q (by simp))
    | _=>exact absurd (show false=true from hs) Bool.false_ne_true
  | str i =>
    obtain ⟨t,rfl⟩:=rx
    cases y with
    | non=>cases ry;exact PySem.EqNone.ne_str_none (fin_bl I q (by simp))
    | bl j=>cases ry;exact PySem.EqMixed.ne_str_bool (fin_bl I q (by simp))
    | int j=>obtain ⟨t',rfl⟩:=ry;exact PySem.EqMixed.ne_str_int (fin_bl I q (by simp))
    | str j=>obtain ⟨t',rfl⟩:=ry;exact ne_str (fin_bl I q (congrArg not dec_str))
    | _=>exact absurd (show false=true from hs) Bool.false_ne_true
  | byt i =>
    obtain ⟨t,rfl⟩:=rx
    cases y with
    | byt j=>obtain ⟨t',rfl⟩:=ry;exact PySem.W.ne_bytes (fin_bl I q (congrArg not dec_byt))
    | _=>exact absurd (show false=true from hs) Bool.false_ne_true
  | _=>cases y <;> exact absurd (show false=true from hs) Bool.false_ne_true
theorem op_lt:OpR X (compareOp .Lt) (rI0 fun i j=>.bl (decide (i < j))):=opB0 fun _ _ _ _ _ _ _ q=>lt_int q
theorem op_le:OpR X (compareOp .LtE) (rI0 fun i j=>.bl (decide (i≤j))):=opB0 fun _ _ _ _ _ _ _ q=>le_int q
theorem op_gt:OpR X (compareOp .Gt) (rI0 fun i j=>.bl (decide (j < i))):=opB0 fun _ _ _ _ _ _ _ q=>gt_int q
theorem op_ge:OpR X (compareOp .GtE) (rI0 fun i j=>.bl (decide (j≤i))):=opB0 fun _ _ _ _ _ _ _ q=>ge_int q
theorem op_in_str:OpR X (compareOp .In) (fun x y H Q=>∃ i j,x=.str i∧y=.str j∧Q (.bl (!(Builtin.Str.occurrences j i 0 j.length 1).isEmpty)) H):=by
  intro pins s σ H x y v u Q I rx ry h
  obtain ⟨i,j,rfl,rfl,q⟩:=h
  obtain ⟨t,rfl⟩:=rx
  obtain ⟨t',rfl⟩:=ry
  exact in_str (fin_bl I q rfl)
theorem nomark (b:Expr) {op:CmpOp} (h:op≠.In:=by decide) (h2:op≠.NotIn:=by decide):behindInMarks op b=false:=by
  have e1:(op == CmpOp.In)=false:=by cases op <;> first | rfl | exact absurd rfl h
  have e2:(op == CmpOp.NotIn)=false:=by cases op <;> first | rfl | exact absurd rfl h2
  cases b <;> simp [behindInMarks,e1,e2]
theorem pe_cmpR {op:CmpOp} {r:R2} (ho:OpR X (compareOp op) r) (ha:PE X a ta) (hb:PE X b tb) (hm:behindInMarks op b=false):PE X (.Compare a [op] [b] pos) (tOp r ta tb):=by
  intro pins s σ H Q I h
  exact wpAny_Compare1 (binT ha hb I h fun v u s2 x y H2 I2 rx ry q=>ho pins s2 σ H2 x y v u Q I2 rx ry q) hm
def tTest (t:TE):TT:=fun σ H Q=>t σ H fun x H'=>∃ k,x=.bl k∧Q k H'
theorem pt_cmpR {op:CmpOp} {r:R2} (ho:OpR X (compareOp op) r) (ha:PE X a ta) (hb:PE X b tb) (hm:behindInMarks op b=false):PT X (.Compare a [op] [b] pos) (tTest (tOp r ta tb)):=by
  intro pins s σ H Q I h
  refine wpAny_isTrue_Compare1 (thn (ha pins s σ H _ I h) fun v s1 ⟨x,H1,I1,r1,q1⟩=>thn (hb pins s1 σ H1 _ I1 q1) fun u s2 ⟨y,H2,I2,r2,q2⟩ =>
    thn (ho pins s2 σ H2 x y v u _ I2 r1 r2 q2) fun c s3 ⟨z,H3,I3,r3,k,e,q3⟩=>?_) hm
  subst e
  cases r3
  exact wpAny_truthy_bool ⟨H3,I3,q3⟩
def tChain (r r':R2) (ta tb tc:TE):TE:=fun σ H Q=>ta σ H fun x H1=>tb σ H1 fun y H2=>r x y H2 fun z H3=>∃ k,z=.bl k ∧
  (if k=true then tc σ H3 fun w' H4=>r' y w' H4 Q else Q (.bl false) H3)
theorem pe_chain {op op':CmpOp} {r r':R2} (ho:OpR X (compareOp op) r) (ho':OpR X (compareOp op') r') (ha:PE X a ta) (hb:PE X b tb) (hc:PE X c tc)
    (hm:lastMarks [op,op'] [b,c]=false:=by with_unfolding_all rfl):PE X (.Compare a [op,op'] [b,c] pos) (tChain r r' ta tb tc):=by
  intro pins s σ H Q I h
  refine Compare_chain (thn (ha pins s σ H _ I h) fun v s1 ⟨x,H1,I1,r1,q1⟩=>chain_link (thn (hb pins s1 σ H1 _ I1 q1) fun u s2 ⟨y,H2,I2,r2,q2⟩ =>
    thn (ho pins s2 σ H2 x y v u _ I2 r1 r2 q2) fun d s3 ⟨z,H3,I3,r3,k,e,q3⟩=>?_)) hm
  subst e
  cases r3
  refine wpAny_truthy_bool ?_
  cases k with
  | false=>exact ite_ff ⟨.bl false,H3,I3,rfl,q3⟩
  | true=>exact ite_tt (chain_last (thn (hc pins s3 σ H3 _ I3 q3) fun w' s4 ⟨z',H4,I4,r4,q4⟩=>ho' pins s4 σ H4 y z' u w' Q I4 r2 r4 q4))
theorem line63:(sizeLine:Nat) < 2 ^ 63:=by rw [sizeLine_eq];decide
theorem op_add_str:OpR X (binaryOp .Add) (fun x y H Q=>∃ i j,x=.str i∧y=.str j∧i.length + j.length≤sizeLine∧Q (.str (i ++ j)) H):=by
  intro pins s σ H x y v u Q I rx ry h
  obtain ⟨i,j,rfl,rfl,hz,q⟩:=h
  obtain ⟨t,rfl⟩:=rx
  obtain ⟨t',rfl⟩:=ry
  exact add_str (fun t' tk=>⟨.str (i ++ j),H,I.tok _,⟨_,rfl⟩,q⟩) hz
theorem vals1 {x:V} {us:List Value} (r:Vals [x] us):∃ u,us=[u]∧RelV x u:=by
  cases r with
  | cons r1 r2=>cases r2;exact ⟨_,rfl,r1⟩
theorem vals2 {x y:V} {us:List Value} (r:Vals [x,y] us):∃ u w',us=[u,w']∧RelV x u∧RelV y w':=by
  cases r with
  | cons r1 r2 =>
    cases r2 with
    | cons r3 r4=>cases r4;exact ⟨_,_,rfl,r1,r3⟩
theorem call_str_int:CallR X (.type "str") (fun xs H Q=>∃ i,xs=[.int i]∧i.natAbs.log2 < 1920∧Q (.str (toString i)) H):=by
  intro pins s σ H xs us Q I r h
  obtain ⟨i,rfl,hz,q⟩:=h
  obtain ⟨u,rfl,t,rfl⟩:=vals1 r
  exact PySem.P.str_of_int hz ⟨.str _,H,I.tok _,⟨_,rfl⟩,q⟩
def LenV (K:PySem.W.Frag) (x:V) (H:Hp) (n:Nat):Prop :=
  match x with
  | .str y=>y.length≤sizeLine∧n=y.length
  | .byt y=>y.size≤sizeLine∧n=y.size
  | .ref p=>(∃ xs,SqL K H p xs∧n=xs.length)∨∃ xs,SqT K H p xs∧n=xs.length
  | _=>False
theorem call_len:CallR X (.builtin "len") (fun xs H Q=>∃ x n,xs=[x]∧LenV X.K x H n∧Q (.int n) H):=by
  intro pins s σ H xs us Q I r h
  obtain ⟨x,n,rfl,e,q⟩:=h
  obtain ⟨u,rfl,rx⟩:=vals1 r
  have hl:=line63
  have hs:sizeLine=16777216:=sizeLine_eq
  cases x with
  | str y =>
    obtain ⟨t,rfl⟩:=rx
    obtain ⟨hy,e'⟩:y.length≤sizeLine∧n=y.length:=e
    subst e'
    exact len_str (by lia) ⟨.int _,H,I.tok _,⟨_,rfl⟩,q⟩
  | byt y =>
    obtain ⟨t,rfl⟩:=rx
    obtain ⟨hy,e'⟩:y.size≤sizeLine∧n=y.size:=e
    subst e'
    exact PySem.W.len_bytes (by lia) ⟨.int _,H,I.tok _,⟨_,rfl⟩,q⟩
  | ref p =>
    cases rx
    have e':(∃ xs,SqL X.K H p xs∧n=xs.length)∨∃ xs,SqT X.K H p xs∧n=xs.length:=e
    rcases e' with ⟨xs,hx,e'⟩ | ⟨xs,hx,e'⟩
    · subst e'
      obtain ⟨its,r',pl,hz⟩:=I.list hx
      have hlen:=r'.length
      exact Calls.call_len_list pl.isList (by simp only [List.size_toArray];lia) ⟨.int xs.length,H,I.tok _,⟨_,by simp only [List.size_toArray];rw [hlen]⟩,q⟩
    · subst e'
      obtain ⟨its,r',pl,hz⟩:=I.tuple hx
      have hlen:=r'.length
      exact len_tuple pl (by simp only [List.size_toArray];lia) ⟨.int xs.length,H,I.tok _,⟨_,by simp only [List.size_toArray];rw [hlen]⟩,q⟩
  | _=>exact (show False from e).elim
end
end L2
namespace L2
open PySem PySem.Spec PyProof.Rows
structure ObjM (h:Heap) (x dx C:Addr) (mA:Str→Option Value):Prop where
  obj:h.get? x=some (PySem.W.instObj C dx)
  ns:h.Ns1 dx mA
  ne:dx≠x
theorem lookIn_ns {h:Heap} {dx:Addr} {mA:Str→Option Value} (n:h.Ns1 dx mA):∃ od,h.get? dx=some od∧∀ name,PySem.W.lookIn name od=some (mA name):=by
  obtain ⟨o,es,ep,ho,hd,hk,_,hm⟩:=n
  refine ⟨o,ho,fun name=>?_⟩
  have e:=hm name
  unfold nsFind findBy at e
  rw [← Array.find?_toList] at e
  unfold PySem.W.lookIn
  rw [hd]
  dsimp only
  split
  · rename_i y q
    rw [q] at e
    exact congrArg some e
  · rename_i q
    rw [q] at e
    have a:es.toList.any (·.refKey)=false:=by
      rw [List.any_eq_false]
      intro y hy
      obtain ⟨z,t,hkey⟩:=hk y (Array.mem_toList_iff.mp hy)
      simp [DictEntry.refKey,hkey]
    have a':¬ es.toList.any (·.refKey)=true:=by rw [a];exact Bool.false_ne_true
    rw [if_neg a']
    exact congrArg some e
theorem ObjM.look {h:Heap} {x dx C:Addr} {mA:Str→Option Value} (I:ObjM h x dx C mA):∃ od,PySem.W.InstAt h x (PySem.W.instObj C dx) C (some od)∧∀ name,PySem.W.lookIn name od=some (mA name) :=
  let ⟨od,ho,hl⟩:=lookIn_ns I.ns
  ⟨od,⟨I.obj,rfl,rfl,ho⟩,hl⟩
section
variable {prog:Program} {w:World} {A:Around} {E:Value→Shared→Prop} {s:Shared} {K:PySem.W.Frag} {x dx C f:Addr} {mA:Str→Option Value} {name:Str} {v:Value}
theorem get_map {expr:Bool} {Q:Value→Shared→Prop} (X:K.In s.heap) (I:ObjM s.heap x dx C mA) (hg:PySem.W.plainGet K C name=true) (hh:PySem.W.hasDictIn K C=true)
    (ha:PySem.W.findIn K (.ref C) name=some none) (hv:mA name=some v) (hv':PySem.W.handedIn v=true) (h:Q v { s with toks:=s.toks + 1 }) :
    wpAny (model prog w) A (getAttr (.ref x) name expr) Q E s:=by
  obtain ⟨od,J,hl⟩:=I.look
  exact PySem.W.get_value X J (PySem.W.plainGet_of hg).1 (PySem.W.findObj_own hh ha rfl (by rw [hl,hv])) hv' h
theorem get_meth {pl:Sem Bool} {Q:Value × List Value→Shared→Prop} (X:K.In s.heap) (I:ObjM s.heap x dx C mA) (hg:PySem.W.plainGet K C name=true)
    (hf:PySem.W.findIn K (.ref C) name=some (some (.ref f))) (ht:PySem.W.isFn K (.ref f)=true) (hv:mA name=none) (h:Q (.ref f,[.ref x]) s) :
    wpAny (model prog w) A (getMethod (.ref x) name pl) Q E s:=by
  obtain ⟨od,J,hl⟩:=I.look
  exact PySem.W.method_fn X J (PySem.W.plainGet_of hg).1 (PySem.W.plainGet_of hg).2 hf (beq_iff_eq.mp ht) (by show (PySem.W.lookIn name od).map (·.isSome)=some false;rw [hl,hv];rfl) h
theorem set_map {ns:List Str} {Q:Unit→Shared→Prop} (X:K.In s.heap) (I:ObjM s.heap x dx C mA)
    (hs:PySem.W.findIn K (.ref C) "__setattr__"=some (some (.builtin "object.__setattr__"))) (hp:PySem.W.plainOver K C=true) (ht:PySem.W.takerIn K C name=some none) (hh:PySem.W.hasDictIn K C=true)
    (hw:PySem.Within mA ns) (hsz:ns.length≤sizeLine)
    (h:∀ h',ObjM h' x dx C (fun y=>if y=name then some v else mA y)→Heap.SameBut dx s.heap h'→Q () { s with heap:=h',toks:=s.toks + 2 }) :
    wpAny (model prog w) A (setAttr (.ref x) name v) Q E s:=by
  obtain ⟨od,J,hl⟩:=I.look
  refine PySem.W.set_plain X J hs (PySem.W.osa_open (s:={ s with toks:=s.toks + 1 }) (r:=none) X J hp ht fun b=>?_)
  obtain ⟨cd,hc,hd'⟩:=PySem.W.any_some hh
  have hx:s.heap.get? x=some ⟨.ref C,some dx,.plain,#[]⟩:=I.obj
  refine wpAny_bind (wpAny_pure (wpAny_bind (wpAny_bind (wpAny_loadPart hx (wpAny_bind (PySem.W.Looks.here (s:={ s with toks:=s.toks + 1 }) (PySem.W.looks_clsIn X hc) ?_))))))
  rw [hd']
  refine wpAny_pure (a:=some dx) (wpAny_bind (wpAny_pure (wpAny_bind ?_)))
  refine wpAny_nsSet1 (s:={ s with toks:=s.toks + 1 }) I.ns fun h' hn2 hs2=>?_
  obtain ⟨oD,esD,epD,hoD,hdD,hcD⟩:=hn2.count (PySem.Within.cons name v hw)
  refine wpAny_bind (wpAny_lookBehind hoD (by rw [hdD];exact pastItsLine_dict (Nat.le_trans hcD (by rw [List.length_cons];lia))) ?_)
  exact wpAny_pure (h _ ⟨(hs2.2 _ (Ne.symm I.ne)).trans I.obj,hn2,I.ne⟩ hs2)
theorem make_map {R:Result→Shared→Prop} {vs:List Value} {kw:List (Str × Value)} (X:K.In s.heap) (hm:PySem.W.makesIn K C=true)
    (hi:PySem.W.findIn K (.ref C) "__init__"=some (some (.ref f))) (hf:PySem.W.typeIn K (.ref f)=some (.type "function"))
    (h:codeAny (model prog w) (A.under (.builtin "type.__call__" ⟨.ref C :: vs,kw⟩)) (.call (.ref f) ⟨.ref (s.heap.objs.size + 1) :: vs,kw⟩) (PySem.W.InitBack (s.heap.objs.size + 1) R)
      { s with heap:=(s.heap.push PySem.W.emptyDict).push (PySem.W.instObj C s.heap.objs.size) }) :
    codeAny (model prog w) A (.call (.ref C) ⟨vs,kw⟩) R s:=by
  obtain ⟨hh,g,d,t,os⟩:=s
  exact PySem.W.make_core (PySem.W.makes_of X hm) (PySem.W.looks_findIn X hi) (fun self=>PySem.W.bind_fn X self hf) (.inl rfl) h
end
def putF (f:Str) (v:V):List (Str × V)→List (Str × V)
  | []=>[(f,v)]
  | (g,x) :: r=>if g=f then (g,v) :: r else (g,x) :: putF f v r
theorem lookup_putF (f g:Str) (v:V):∀ fs:List (Str × V),(putF f v fs).lookup g=if g=f then some v else fs.lookup g
  | []=>by
    show List.lookup g [(f,v)]=_
    by_cases h:g=f
    · have hb:(g == f)=true:=beq_iff_eq.mpr h
      simp only [List.lookup,hb,if_pos h]
    · have hb:(g == f)=false:=beq_eq_false_iff_ne.mpr h
      simp only [List.lookup,hb,if_neg h]
  | (k,x) :: r=>by
    have ih:=lookup_putF f g v r
    rw [show putF f v ((k,x) :: r)=(if k=f then (k,v) :: r else (k,x) :: putF f v r) from rfl]
    by_cases hk:k=f
    · rw [if_pos hk]
      by_cases h:g=k
      · have hb:(g == k)=true:=beq_iff_eq.mpr h
        simp only [List.lookup,hb,if_pos (h.trans hk)]
      · have hb:(g == k)=false:=beq_eq_false_iff_ne.mpr h
        simp only [List.lookup,hb,if_neg (fun e:g=f=>h (e.trans hk.symm))]
    · rw [if_neg hk]
      by_cases h:g=k
      · have hb:(g == k)=true:=beq_iff_eq.mpr h
        simp only [List.lookup,hb,if_neg (fun e:g=f=>hk (h.symm.trans e))]
      · have hb:(g == k)=false:=beq_eq_false_iff_ne.mpr h
        simp only [List.lookup,hb]
        exact ih
theorem keys_putF (f:Str) (v:V):∀ fs:List (Str × V),f∈(putF f v fs).map (·.1)∧∀ g,g∈fs.map (·.1)→g∈(putF f v fs).map (·.1)
  | []=>⟨by simp [putF],fun g h=>by simp at h⟩
  | (k,x) :: r=>by
    obtain ⟨i1,i2⟩:=keys_putF f v r
    rw [show putF f v ((k,x) :: r)=(if k=f then (k,v) :: r else (k,x) :: putF f v r) from rfl]
    by_cases hk:k=f
    · rw [if_pos hk]
      subst hk
      exact ⟨by simp,fun g h=>by simpa using h⟩
    · rw [if_neg hk]
      refine ⟨?_,fun g h=>?_⟩
      · rw [List.map_cons]
        exact List.mem_cons_of_mem _ i1
      · rw [List.map_cons] at h ⊢
        rcases List.mem_cons.mp h with e | e
        · exact List.mem_cons.mpr (.inl e)
        · exact List.mem_cons_of_mem _ (i2 g e)
theorem length_putF (f:Str) (v:V):∀ fs:List (Str × V),(putF f v fs).length≤fs.length + 1
  | []=>by simp [putF]
  | (k,x) :: r=>by
    have ih:=length_putF f v r
    rw [show putF f v ((k,x) :: r)=(if k=f then (k,v) :: r else (k,x) :: putF f v r) from rfl]
    by_cases hk:k=f
    · rw [if_pos hk,List.length_cons,List.length_cons];lia
    · rw [if_neg hk,List.length_cons,List.length_cons];lia
theorem RelO.some_of {v:V} {o:Option Value} (r:RelO (some v) o):∃ u,o=some u∧RelV v u:=by
  cases o with
  | none=>exact (show False from r).elim
  | some u=>exact ⟨u,rfl,r⟩
theorem RelO.none_of {o:Option Value} (r:RelO none o):o=none:=by
  cases o with
  | none=>rfl
  | some u=>exact (show False from r).elim
theorem handed_of {v:V} {u:Value} (r:RelV v u):PySem.W.handedIn u=true:=by
  cases v with
  | non=>cases (show u=Value.none from r);rfl
  | bl b=>cases (show u=Value.bool b from r);rfl
  | int i=>obtain ⟨t,e⟩:=(show ∃ t,u=Value.int i t from r);cases e;rfl
  | str x=>obtain ⟨t,e⟩:=(show ∃ t,u=Value.str x t from r);cases e;rfl
  | byt b=>obtain ⟨t,e⟩:=(show ∃ t,u=Value.bytes b t from r);cases e;rfl
  | flt b=>obtain ⟨t,e⟩:=(show ∃ t,u=Value.float b t from r);cases e;rfl
  | ref a=>cases (show u=Value.ref a from r);rfl
  | ty n=>cases (show u=Value.type n from r);rfl
section
variable {P:Program} {w:World} {H H':Hp} {h h':Heap} {a C dx:Addr} {fs fs':List (Str × V)}
theorem ins_get (hok:HOk P w H h) (e:H a=some (.ins C dx fs)):∃ mA,ObjM h a dx C mA∧(∀ f,RelO (fs.lookup f) (mA f))∧PySem.Within mA (fs.map (·.1))∧fs.length≤1000∧H dx=some (.own a):=by
  obtain ⟨d,z,ne,ob,mA,n,r,q⟩:=(show ObjOk P w H h a (.ins C dx fs) from hok a _ e)
  exact ⟨mA,⟨ob,n,ne⟩,r,q,z,d⟩
end
structure Cls (K:PySem.W.Frag) (C:Addr):Prop where
  pg:PySem.W.plainGet K C Str.empty=true
  hd:PySem.W.hasDictIn K C=true
  po:PySem.W.plainOver K C=true
  sa:PySem.W.findIn K (.ref C) "__setattr__"=some (some (.builtin "object.__setattr__"))
theorem Cls.get {K:PySem.W.Frag} {C:Addr} (c:Cls K C) (f:Str):PySem.W.plainGet K C f=true:=c.pg
def NoAttr (K:PySem.W.Frag) (C:Addr) (f:Str):Prop:=PySem.W.findIn K (.ref C) f=some none
theorem NoAttr.taker {K:PySem.W.Frag} {C:Addr} {f:Str} (n:NoAttr K C f):PySem.W.takerIn K C f=some none:=by
  unfold PySem.W.takerIn
  rw [show PySem.W.findIn K (.ref C) f=some none from n]
  rfl
structure Meth (K:PySem.W.Frag) (C:Addr) (m:Str) (f:Addr):Prop where
  at_:PySem.W.findIn K (.ref C) m=some (some (.ref f))
  fn:PySem.W.isFn K (.ref f)=true
  kp:PySem.W.keepIn K (.ref f)=true
section
variable {X:Cx} {pins:List (Addr × Obj)} {σ:St} {H:Hp} {s:Shared} {a C dx:Addr} {fs:List (Str × V)} {f:Str} {v:V} {A:Around} {E:Value→Shared→Prop}
theorem getattr_ok {b:Bool} {Q:Value→Shared→Prop} (I:Inv X pins σ H s) (e:H a=some (.ins C dx fs)) (c:Cls X.K C) (n:NoAttr X.K C f) (l:fs.lookup f=some v)
    (h:∀ u s',Inv X pins σ H s'→RelV v u→Q u s'):wpAny (model X.prog X.w) A (getAttr (.ref a) f b) Q E s:=by
  obtain ⟨mA,O,r,_,_,_⟩:=ins_get I.hok e
  obtain ⟨u,hu,ru⟩:=RelO.some_of (v:=v) (o:=mA f) (by rw [← l];exact r f)
  exact get_map I.kIn O (c.get f) c.hd n hu (handed_of ru) (h u _ (I.tok _) ru)
theorem getmeth_ok {m:Str} {g:Addr} {pl:Sem Bool} {Q:Value × List Value→Shared→Prop} (I:Inv X pins σ H s) (e:H a=some (.ins C dx fs)) (c:Cls X.K C) (k:Meth X.K C m g) (l:fs.lookup m=none)
    (h:Q (.ref g,[.ref a]) s):wpAny (model X.prog X.w) A (getMethod (.ref a) m pl) Q E s:=by
  obtain ⟨mA,O,r,_,_,_⟩:=ins_get I.hok e
  have hn:mA m=none:=RelO.none_of (by rw [← l];exact r m)
  exact get_meth I.kIn O (c.get m) k.at_ k.fn hn h
theorem setattr_ok {y:V} {u:Value} {Q:Unit→Shared→Prop} (I:Inv X pins σ H s) (e:H a=some (.ins C dx fs)) (c:Cls X.K C) (n:NoAttr X.K C f) (hl:fs.length < 1000) (ry:RelV y u)
    (h:∀ s',Inv X pins σ (upd H a (.ins C dx (putF f y fs))) s'→Q () s'):wpAny (model X.prog X.w) A (setAttr (.ref a) f u) Q E s:=by
  obtain ⟨mA,O,r,wi,_,ho⟩:=ins_get I.hok e
  have hz:(fs.map (·.1)).length≤sizeLine:=by rw [List.length_map,sizeLine_eq];lia
  refine set_map I.kIn O c.sa c.po n.taker c.hd wi hz fun h' O' sb=>h _ ?_
  have hd:∃ o,h'.get? dx=some o:=let ⟨o,_,_,e',_⟩:=O'.ns;⟨o,e'⟩
  refine I.write (x:=a) (e:=dx) (by rw [e];exact True.intro) (.inr ho) (fun b q hb z=>(sb.2 b hb).trans z) hd ?_
  refine ⟨by rw [upd_ne O.ne];exact ho,?_,O.ne,O'.obj,_,O'.ns,fun g=>?_,fun g hg=>?_⟩
  · have:=length_putF f y fs;lia
  · show RelO ((putF f y fs).lookup g) (if g=f then some u else mA g)
    rw [lookup_putF]
    by_cases q:g=f
    · rw [if_pos q,if_pos q];exact ry
    · rw [if_neg q,if_neg q];exact r g
  · by_cases q:g=f
    · rw [q];exact (keys_putF f y fs).1
    · refine (keys_putF f y fs).2 g (wi g fun z=>hg ?_)
      show (if g=f then some u else mA g)=none
      rw [if_neg q];exact z
theorem Inv.made (I:Inv X pins σ H s):Inv X pins σ (upd (upd H s.heap.objs.size (.own (s.heap.objs.size + 1))) (s.heap.objs.size + 1) (.ins C s.heap.objs.size []))
    { s with heap:=(s.heap.push PySem.W.emptyDict).push (PySem.W.instObj C s.heap.objs.size) }:=by
  have e1:(s.heap.push PySem.W.emptyDict).get? s.heap.objs.size=some PySem.W.emptyDict:=Heap.get?_push_size s.heap rfl
  have e2:((s.heap.push PySem.W.emptyDict).push (PySem.W.instObj C s.heap.objs.size)).get? (s.heap.objs.size + 1)=some (PySem.W.instObj C s.heap.objs.size):=by
    have:=Heap.get?_push_size (s.heap.push PySem.W.emptyDict) (o:=PySem.W.instObj C s.heap.objs.size) rfl
    rwa [Heap.size_push] at this
  have e3:(s.heap.push PySem.W.emptyDict).Ns s.heap.objs.size (fun _=>none):=⟨PySem.W.emptyDict,#[],_,e1,rfl,(fun e he=>absurd he (by simp)),fun _=>rfl⟩
  have I1:=I.laid (a:=s.heap.objs.size) (o:=.own (s.heap.objs.size + 1)) (h':=s.heap.push PySem.W.emptyDict) (t':=s.toks) (fun b u q=>Heap.get?_push_of_some _ q) (Nat.le_refl _) ⟨_,e1⟩
  refine I1.laid (a:=s.heap.objs.size + 1) (o:=.ins C s.heap.objs.size []) (t':=s.toks) (fun b u q=>Heap.get?_push_of_some _ q) (Nat.le_of_eq (Heap.size_push _ _)) ?_
  have ne:s.heap.objs.size≠s.heap.objs.size + 1:=Nat.ne_of_lt (Nat.lt_succ_self _)
  refine ⟨by rw [upd_ne ne,upd_same],Nat.zero_le _,ne,e2,fun _=>none,(Heap.Ns1.of_empty e3).at fun o q=>Heap.get?_push_of_some _ q,fun _=>True.intro,fun y hy=>absurd rfl hy⟩
theorem attr_of {prog:Program} {w:World} {env:Env} {e:Expr} {f:Str} {pos:Pos} {s:Shared} {Q:Value→Shared→Prop} (hb:attributeBase e f env (eval e env)=eval e env)
    (h:wpAny (model prog w) A (eval e env) (fun o s₁=>wpAny (model prog w) A (getAttr o f true) Q E s₁) E s):wpAny (model prog w) A (eval (.Attribute e f pos) env) Q E s :=
  Attribute_any_ h (by rw [arm_eval_Attribute,hb])
end
def tFld (K:PySem.W.Frag) (ta:TE) (f:Str):TE:=fun σ H Q=>ta σ H fun x H1=>∃ a C dx fs v,x=.ref a∧H1 a=some (.ins C dx fs)∧Cls K C∧NoAttr K C f∧fs.lookup f=some v∧Q v H1
def sFld (K:PySem.W.Frag) (ta tv:TE) (f:Str):TS:=fun D σ H=>tv σ H fun y H1=>ta σ H1 fun x H2=>∃ a C dx fs,x=.ref a∧H2 a=some (.ins C dx fs)∧Cls K C∧NoAttr K C f∧fs.length < 1000 ∧
  D.nx σ (upd H2 a (.ins C dx (putF f y fs)))
def InOp (X:Cx) (op:Operator) (rd:V→V→Hp→VK→Prop):Prop :=
  ∀ (pins:List (Addr × Obj)) (s:Shared) (σ:St) (H:Hp) (x y:V) (u v:Value) (Q:VK),Inv X pins σ H s→RelV x u→RelV y v→rd x y H Q→wpAny (model X.prog X.w) X.A (inplaceOp op u v) (EP X pins σ Q) X.xe s
def sFldAug (K:PySem.W.Frag) (ta tv:TE) (rd:V→V→Hp→VK→Prop) (f:Str):TS:=fun D σ H=>ta σ H fun x H1=>∃ a C dx fs v,x=.ref a∧H1 a=some (.ins C dx fs)∧Cls K C∧NoAttr K C f∧fs.lookup f=some v ∧
  tv σ H1 fun y H2=>rd v y H2 fun z H3=>∃ dx' fs',H3 a=some (.ins C dx' fs')∧fs'.length < 1000∧D.nx σ (upd H3 a (.ins C dx' (putF f z fs')))
section
variable {X:Cx} {o e value:Expr} {f:Str} {pos pos' tpos:Pos} {ta tv:TE}
theorem pe_fld (he:PE X e ta) (hb:attributeBase e f X.env (eval e X.env)=eval e X.env):PE X (.Attribute e f pos) (tFld X.K ta f):=by
  intro pins s σ H Q I h
  refine attr_of hb (thn (he pins s σ H _ I h) fun u s1 ⟨x,H1,I1,rx,a,C,dx,fs,v,ex,ea,c,n,l,q⟩=>?_)
  subst ex
  obtain rfl:u=Value.ref a:=rx
  exact getattr_ok I1 ea c n l fun u' s2 I2 ru=>⟨v,H1,I2,ru,q⟩
theorem ps_fld (ha:PE X o ta) (hv:PE X value tv) (hs:swapsWith value (some (.Attribute o f pos')) pos.line X.env=pure false):PS X (.Assign [.Attribute o f pos'] value pos) (sFld X.K ta tv f):=by
  intro pins s σ H D I h
  refine plainObj_wpAny_Assign_Attribute (thn (hv pins s σ H _ I h) fun u s1 ⟨y,H1,I1,ry,q⟩=>thn (ha pins s1 σ H1 _ I1 q) fun ov s2 ⟨x,H2,I2,rx,a,C,dx,fs,ex,ea,c,n,l,q2⟩=>?_) hs
  subst ex
  obtain rfl:ov=Value.ref a:=rx
  exact setattr_ok I2 ea c n l ry fun s3 I3=>⟨σ,_,I3,q2⟩
theorem ps_fldaug {op:Operator} {rd:V→V→Hp→VK→Prop} (ha:PE X o ta) (hv:PE X value tv) (hop:InOp X op rd):PS X (.AugAssign (.Attribute o f tpos) op value pos) (sFldAug X.K ta tv rd f):=by
  intro pins s σ H D I h
  refine wpAny_AugAssign_AttributeAny (thn (ha pins s σ H _ I h) fun ov s1 ⟨x,H1,I1,rx,a,C,dx,fs,v,ex,ea,c,n,l,q⟩=>?_)
  subst ex
  obtain rfl:ov=Value.ref a:=rx
  refine getattr_ok I1 ea c n l fun u s2 I2 ru=>thn (hv pins s2 σ H1 _ I2 q) fun w3 s3 ⟨y,H2,I3,ry,q3⟩=>thn (hop pins s3 σ H2 v y u w3 _ I3 ru ry q3) fun w4 s4 ⟨z,H3,I4,rz,dx',fs',ea',l',q4⟩=>?_
  exact setattr_ok I4 ea' c n l' rz fun s5 I5=>⟨σ,_,I5,q4⟩
def rAdd:V→V→Hp→VK→Prop:=fun x y H Q=>∃ i j,x=.int i∧y=.int j∧Q (.int (i + j)) H
theorem in_add:InOp X .Add rAdd:=by
  rintro pins s σ H x y u v Q I rx ry ⟨i,j,rfl,rfl,q⟩
  obtain ⟨t,rfl⟩:=(show ∃ t,u=Value.int i t from rx)
  obtain ⟨t',rfl⟩:=(show ∃ t',v=Value.int j t' from ry)
  exact PyProof.Rows.iadd_int ⟨.int (i + j),H,I.tok _,⟨_,rfl⟩,q⟩
end
section
variable {X:Cx} {pins:List (Addr × Obj)} {σ:St} {H:Hp} {s:Shared} {A:Around} {E:Value→Shared→Prop} {Q:Value→Shared→Prop} {c:Value} {b:Bool}
inductive TyOf (K:PySem.W.Frag) (H:Hp):V→Value→Prop where
  | non:TyOf K H .non (.type "NoneType")
  | bl (x:Bool):TyOf K H (.bl x) (.type "bool")
  | int (i:Int):TyOf K H (.int i) (.type "int")
  | str (x:Str):TyOf K H (.str x) (.type "str")
  | flt (x:UInt64):TyOf K H (.flt x) (.type "float")
  | lst {a:Addr} {xs:List V} (e:H a=some (.lst xs)):TyOf K H (.ref a) (.type "list")
  | frz {a:Addr} {o:Obj} {xs:List V} (e:H a=some (.frz o (.lst xs))):TyOf K H (.ref a) (.type "list")
  | tup {a:Addr} {xs:List V} (e:H a=some (.tup xs)):TyOf K H (.ref a) (.type "tuple")
  | dK {a:Addr} {kvs:List (Key × V)} (e:H a=some (.dK kvs)):TyOf K H (.ref a) (.type "dict")
  | dT {a:Addr} {kvs:List (List Key × V)} (e:H a=some (.dT kvs)):TyOf K H (.ref a) (.type "dict")
  | ins {a C dx:Addr} {fs:List (Str × V)} (e:H a=some (.ins C dx fs)) (cl:Cls K C) (ha:PySem.W.findIn K (.ref C) "__class__"=some (some (.builtin "object.__class__")))
      (hn:PySem.W.specialIn K (.builtin "object.__class__") "__get__"=some (some (.builtin "getset_descriptor.__get__"))) (htk:PySem.W.takesIn K (.builtin "object.__class__")=some true)
      (hm:PySem.W.mroIn K C (.type "object")=some true):TyOf K H (.ref a) (.ref C)
theorem isinst_ok {x:V} {u t:Value} (I:Inv X pins σ H s) (rx:RelV x u) (ty:TyOf X.K H x t) (e:PySem.W.kitOne X.K t c=some b) (h:∀ tk,Q (.bool b) { s with toks:=tk }) :
    wpAny (model X.prog X.w) A (call (.builtin "isinstance") [u,c]) Q E s:=by
  cases ty with
  | non=>cases (show u=Value.none from rx);exact PySem.W.kia_one PySem.W.kitx_none I.kIn True.intro e (fun z=>nomatch z) h
  | bl y=>cases (show u=Value.bool y from rx);exact PySem.W.kia_one PySem.W.kitx_bool I.kIn True.intro e (fun z=>nomatch z) h
  | int i=>obtain ⟨t,q⟩:=(show ∃ t,u=Value.int i t from rx);cases q;exact PySem.W.kia_one PySem.W.kitx_int I.kIn True.intro e (fun z=>nomatch z) h
  | str y=>obtain ⟨t,q⟩:=(show ∃ t,u=Value.str y t from rx);cases q;exact PySem.W.kia_one PySem.W.kitx_str I.kIn True.intro e (fun z=>nomatch z) h
  | flt y=>obtain ⟨t,q⟩:=(show ∃ t,u=Value.float y t from rx);cases q;exact PySem.W.kia_one PySem.W.kitx_float I.kIn True.intro e (fun z=>nomatch z) h
  | @lst a xs ea =>
    cases (show u=Value.ref a from rx)
    obtain ⟨_,_,n,_,h1⟩:=(show ObjOk X.prog X.w H s.heap a (.lst xs) from I.hok a _ ea)
    exact PySem.W.kia_one PySem.W.kitx_list I.kIn ⟨_,h1,rfl⟩ e (fun z=>nomatch z) h
  | @frz a ob xs ea =>
    cases (show u=Value.ref a from rx)
    obtain ⟨_,_,_,n,_,h1⟩:=(show ObjOk X.prog X.w H s.heap a (.frz ob (.lst xs)) from I.hok a _ ea)
    exact PySem.W.kia_one PySem.W.kitx_list I.kIn ⟨_,h1,rfl⟩ e (fun z=>nomatch z) h
  | @tup a xs ea =>
    cases (show u=Value.ref a from rx)
    obtain ⟨_,_,_,p⟩:=(show ObjOk X.prog X.w H s.heap a (.tup xs) from I.hok a _ ea)
    obtain ⟨o,h1,h2,_⟩:=p
    exact PySem.W.kia_one PySem.W.kitx_tuple I.kIn ⟨o,h1,h2⟩ e (fun z=>nomatch z) h
  | @dK a kvs ea =>
    cases (show u=Value.ref a from rx)
    obtain ⟨_,_,vs,_,p⟩:=(show ObjOk X.prog X.w H s.heap a (.dK kvs) from I.hok a _ ea)
    obtain ⟨o,es,ep,h1,h2,_⟩:=p
    exact PySem.W.kia_one PySem.W.kitx_dict I.kIn ⟨o,h1,h2.1⟩ e (fun z=>nomatch z) h
  | @dT a kvs ea =>
    cases (show u=Value.ref a from rx)
    obtain ⟨_,_,xs,_,o,es,ep,h1,h2,_⟩:=(show ObjOk X.prog X.w H s.heap a (.dT kvs) from I.hok a _ ea)
    exact PySem.W.kia_one PySem.W.kitx_dict I.kIn ⟨o,h1,h2.1⟩ e (fun z=>nomatch z) h
  | @ins a C dx fs ea cl ha hn htk hm =>
    cases (show u=Value.ref a from rx)
    obtain ⟨mA,O,_⟩:=ins_get I.hok ea
    obtain ⟨od,J,_⟩:=O.look
    exact PySem.W.kia_one (PySem.W.kitx_own (cl.get _) cl.hd ha hn htk hm) I.kIn J e (fun z=>nomatch z) h
end
end L2
namespace L2
open PySem PySem.Spec PyProof.Rows
structure Room (k:Nat) (A:Around):Prop where
  hd:A.handled=none
  dp:A.depth + 3 * k + 5 < recursionLimit
  un:A.units + 16 * k + 200 < cLine
theorem Room.mono {j k:Nat} {A:Around} (r:Room k A) (h:j≤k):Room j A:=⟨r.hd,by have:=r.dp;lia,by have:=r.un;lia⟩
theorem Room.deeper {k:Nat} {A:Around} (r:Room (k + 1) A) (env:Env):Room k (A.deeper env) :=
  ⟨r.hd,by have:=r.dp;show A.depth + 1 + 3 * k + 5 < _;lia,by have:=r.un;show A.units + 3 + 16 * k + 200 < _;lia⟩
theorem make_depth {A:Around} {C:Addr} {us:List Value} {kw:List (Str × Value)}:(A.under (.builtin "type.__call__" ⟨.ref C :: us,kw⟩)).depth=A.depth + 1:=by
  first | rfl | simp [Around.under,Code.weight,Code.isCreation,Code.isGuard,Code.isCaller,Code.frames,Code.isFrame,guardIds]
theorem make_units {A:Around} {C:Addr} {us:List Value} {kw:List (Str × Value)}:(A.under (.builtin "type.__call__" ⟨.ref C :: us,kw⟩)).units=A.units + 1:=by
  first | rfl | simp [Around.under,Code.cUnits,Code.frames,Code.isFrame]
theorem Room.make {k:Nat} {A:Around} (r:Room (k + 1) A) (C:Addr) (us:List Value) (kw:List (Str × Value)):Room k (A.under (.builtin "type.__call__" ⟨.ref C :: us,kw⟩)) :=
  ⟨r.hd,by have:=r.dp;rw [make_depth];lia,by have:=r.un;rw [make_units];lia⟩
theorem Room.depth {k:Nat} {A:Around} (r:Room k A):A.depth < recursionLimit:=by have:=r.dp;lia
def tNil:TA:=fun _ H Q=>Q [] H
def tCons (ta:TE) (tr:TA):TA:=fun σ H Q=>ta σ H fun x H1=>tr σ H1 fun xs H2=>Q (x :: xs) H2
section
variable {X:Cx} {e:Expr} {es:List Expr} {te:TE} {t:TA} {pos:Pos}
theorem pa_nil:PA X [] tNil:=fun _ _ _ _ H Q I h=>Calls.spliced_nil ⟨[],H,I,.nil,h⟩
theorem pa_cons (ha:PE X e te) (hr:PA X es t) (hs:starEach (e :: es) X.env=(false,eval e X.env) :: starEach es X.env:=by rfl):PA X (e :: es) (tCons te t):=by
  intro pos pins s σ H Q I h
  rw [hs]
  show wpAny _ _ (spliced ((false,eval e X.env) :: backTo pos (starEach es X.env))) _ _ s
  refine Calls.spliced_cons (thn (ha pins s σ H _ I h) fun u s1 ⟨x,H1,I1,r1,q1⟩=>?_)
  exact thn (hr pos pins s1 σ H1 _ I1 q1) fun us s2 ⟨xs,H2,I2,r2,q2⟩=>⟨x :: xs,H2,I2,.cons r1 r2,q2⟩
def tTup (t:TA):TE:=fun σ H Q=>t σ H fun xs H1=>xs.length≤sizeLine∧∀ p,H1 p=none→Q (.ref p) (upd H1 p (.tup xs))
def tLst (t:TA):TE:=fun σ H Q=>t σ H fun xs H1=>xs.length≤sizeLine∧∀ p,H1 p=none→Q (.ref p) (upd H1 p (.lst xs))
theorem pe_tup {x1} (h:PA X es t):PE X (.Tuple es x1 pos) (tTup t):=by
  intro pins s σ H Q I hq
  refine wpAny_Tuple_spliced (thn (h pos pins s σ H _ I hq) fun us s1 ⟨xs,H1,I1,r,z,q⟩=>⟨by rw [← r.length];exact z,?_⟩)
  have hf:H1 s1.heap.objs.size=none:=I1.hok.fresh (Nat.le_refl _)
  refine ⟨.ref s1.heap.objs.size,upd H1 s1.heap.objs.size (.tup xs),I1.laid (t':=s1.toks) (fun b u e=>Heap.get?_push_of_some _ e) (Nat.le_refl _) ?_,rfl,q _ hf⟩
  exact ⟨z,us,r,⟨_,Heap.get?_push_size _ rfl,rfl,_,rfl⟩⟩
theorem pe_lst (h:PA X es t):PE X (.List es pos) (tLst t):=by
  intro pins s σ H Q I hq
  refine wpAny_List_spliced (thn (h pos pins s σ H _ I hq) fun us s1 ⟨xs,H1,I1,r,z,q⟩=>⟨by rw [← r.length];exact z,?_⟩)
  have hf:H1 s1.heap.objs.size=none:=I1.hok.fresh (Nat.le_refl _)
  refine ⟨.ref s1.heap.objs.size,upd H1 s1.heap.objs.size (.lst xs),I1.laid (t':=s1.toks) (fun b u e=>Heap.get?_push_of_some _ e) (Nat.le_refl _) ?_,rfl,q _ hf⟩
  exact ⟨z,us,0,r,Heap.get?_push_size _ rfl⟩
end
abbrev Sp:=List V→Hp→VK→XK→Prop
abbrev CXT:=List Env→Hp→Shared→XK→Value→Shared→Prop
structure Env0 (P:Program) (w:World) (K:PySem.W.Frag) (mg:Str→Option Value) (base:Heap) (A:Around) (outer:List Env) (s:Shared) (H:Hp):Prop where
  frames:A.frames=some outer
  mod:Mod K mg base
  bs:∀ b o,base.get? b=some o→s.heap.get? b=some o∧H b=none
  bsz:base.objs.size≤s.heap.objs.size
  funs:s.heap.FunFrames base outer
  frf:∀ b∈frs outer,H b=none
  hok:HOk P w H s.heap
  bare:AllBare s.gens
def CE (outer:List Env) (P:Program) (w:World) (H:Hp) (s:Shared) (Q:VK) (u:Value) (s':Shared):Prop :=
  ∃ v H',s'.os=s.os∧AllBare s'.gens∧Un (frs outer) [] H H' s.heap s'.heap∧HOk P w H' s'.heap∧RelV v u∧Q v H'
def CR (CX:CXT) (outer:List Env) (P:Program) (w:World) (H:Hp) (s:Shared) (Q:VK) (E:XK) (r:Result) (s':Shared):Prop :=
  match r with
  | .ok (.ret u)=>CE outer P w H s Q u s'
  | .ok _=>False
  | .error e=>CX outer H s E e s'
structure FnOk (P:Program) (w:World) (K:PySem.W.Frag) (mg:Str→Option Value) (base:Heap) (CX:CXT) (k:Nat) (f:Addr) (fd:FuncData) (ps:List Str) (sp:Sp):Prop where
  len:∀ vs H Q E,sp vs H Q E→vs.length=ps.length
  run:∀ (A:Around) (outer:List Env) (s:Shared) (H:Hp) (args:Args) (us:List Value) (vs:List V) (Q:VK) (E:XK),Room k A→Env0 P w K mg base A outer s H→BindsTo s fd args (ps.zip us)→Vals vs us→sp vs H Q E →
    codeAny (model P w) A (.call (.ref f) args) (CR CX outer P w H s Q E) s
theorem FnOk.mono {P:Program} {w:World} {K:PySem.W.Frag} {mg:Str→Option Value} {base:Heap} {CX:CXT} {j k:Nat} {f:Addr} {fd:FuncData} {ps:List Str} {sp:Sp} (F:FnOk P w K mg base CX j f fd ps sp) (h:j≤k) :
    FnOk P w K mg base CX k f fd ps sp:=⟨F.len,fun A outer s H args us vs Q E hr=>F.run A outer s H args us vs Q E (hr.mono h)⟩
theorem Env0.make {P:Program} {w:World} {K:PySem.W.Frag} {mg:Str→Option Value} {base:Heap} {A:Around} {outer:List Env} {s:Shared} {H:Hp} (e:Env0 P w K mg base A outer s H) (C:Addr) (us:List Value) (kw:List (Str × Value)) :
    Env0 P w K mg base (A.under (.builtin "type.__call__" ⟨.ref C :: us,kw⟩)) outer s H:=⟨by first | exact e.frames | (simpa [Around.under,Code.envs,Code.isFrame,pushEnvs] using e.frames),e.mod,e.bs,e.bsz,e.funs,e.frf,e.hok,e.bare⟩
section
variable {X:Cx} {pins:List (Addr × Obj)} {σ:St} {H:Hp} {s s':Shared}
theorem Inv.env0 (I:Inv X pins σ H s):Env0 X.prog X.w X.K X.mg X.base X.A X.stack s H :=
  ⟨I.ok.frames,I.ok.mod,I.bs,Nat.le_trans I.ok.bsz I.sz,I.stack,I.stkFree,I.hok,I.bare⟩
theorem Inv.after {Q:VK} {u:Value} (I:Inv X pins σ H s) (h:CE X.stack X.prog X.w H s Q u s'):EP X pins σ Q u s':=by
  obtain ⟨v,H',os,bare,un,hok,r,q⟩:=h
  obtain ⟨hh,g,d,t,os'⟩:=s'
  obtain rfl:os'=s.os:=os
  exact ⟨v,H',I.call (h':=hh) (g':=g) (d':=d) (t':=t) (ch:=[]) un hok bare (fun b z=>absurd z (by simp)),r,q⟩
end
def tCall (sp:Sp) (dvs:List V) (E:XK) (t:TA):TE:=fun σ H Q=>t σ H fun vs H1=>sp (vs ++ dvs) H1 Q E
def tMeth (C:Addr) (m:Str) (sp:Sp) (dvs:List V) (E:XK) (ta:TE) (t:TA):TE:=fun σ H Q=>ta σ H fun x H1=>∃ a dx fs,x=.ref a∧H1 a=some (.ins C dx fs)∧fs.lookup m=none ∧
  t σ H1 fun vs H2=>sp (x :: (vs ++ dvs)) H2 Q E
def tMake (C:Addr) (sp:Sp) (dvs:List V) (E:XK) (t:TA):TE:=fun σ H Q=>t σ H fun vs H1=>∀ x dx,H1 x=none→H1 dx=none→dx≠x →
  sp (.ref x :: (vs ++ dvs)) (upd (upd H1 dx (.own x)) x (.ins C dx [])) (fun v H2=>v=.non∧Q (.ref x) H2) E
def Binds (K:PySem.W.Frag) (fd:FuncData) (ps:List Str) (ds:List Value):Prop :=
  ∀ (s:Shared) (us:List Value),K.In s.heap→(us ++ ds).length=ps.length→BindsTo s fd ⟨us,[]⟩ (ps.zip (us ++ ds))
theorem Binds.all {K:PySem.W.Frag} {fd:FuncData} {ps:List Str} (h:∀ us:List Value,us.length=ps.length→bindArgs fd ⟨us,[]⟩=pure (ps.zip us)):Binds K fd ps []:=fun s us _ hl=>by
  rw [List.append_nil] at hl ⊢
  exact .of_eq (h us hl)
def Passes (CX:CXT) (X:Cx) (E:XK):Prop:=∀ (pins:List (Addr × Obj)) (σ:St) (H:Hp) (s:Shared) (e:Value) (s':Shared),Inv X pins σ H s→CX X.stack H s E e s'→X.xe e s'
section
variable {X:Cx} {CX:CXT} {k:Nat} {f C:Addr} {fd:FuncData} {ps:List Str} {sp:Sp} {dvs:List V} {ds:List Value} {E:XK} {x m:Str} {p pos apos:Pos} {e o:Expr} {es:List Expr} {ta:TE} {t:TA}
theorem run_fn {pins:List (Addr × Obj)} {σ:St} {H:Hp} {s:Shared} {Q:VK} {us:List Value} {vs:List V} (F:FnOk X.prog X.w X.K X.mg X.base CX k f fd ps sp) (hr:Room k X.A) (hb:Binds X.K fd ps ds) (hd:Vals dvs ds) (hx:Passes CX X E)
    (I:Inv X pins σ H s) (r:Vals vs us) (h:sp (vs ++ dvs) H Q E):wpAny (model X.prog X.w) X.A (call (.ref f) us) (EP X pins σ Q) X.xe s:=by
  have r2:Vals (vs ++ dvs) (us ++ ds):=r.append hd
  have hl:(us ++ ds).length=ps.length:=by rw [← r2.length];exact F.len _ _ _ _ h
  refine wpAny_call (codeAny_mono (F.run X.A X.stack s H ⟨us,[]⟩ (us ++ ds) (vs ++ dvs) Q E hr I.env0 (hb s us I.kIn hl) r2 h) fun r s' hq=>?_)
  cases r with
  | error e=>exact hx pins σ H s e s' I hq
  | ok fl =>
    cases fl with
    | ret u=>exact I.after hq
    | next=>exact False.elim hq
    | brk=>exact False.elim hq
    | cont=>exact False.elim hq
theorem pe_call (F:FnOk X.prog X.w X.K X.mg X.base CX k f fd ps sp) (hr:Room k X.A) (hg:Gl X x) (hm:X.mg x=some (.ref f)) (hk:PySem.W.keepIn X.K (.ref f)=true) (hb:Binds X.K fd ps ds) (hd:Vals dvs ds) (hx:Passes CX X E)
    (ha:PA X (e :: es) t) (hdb:(x == ("__debug__":Str))=false:=by decide) (he:starEach (e :: es) X.env=(false,eval e X.env) :: starEach es X.env:=by rfl) (hpl:(backTo pos (starEach es X.env)).any (·.1)=false:=by rfl) :
    PE X (.Call (.Name x p) (e :: es) [] pos) (tCall sp dvs E t):=by
  intro pins s σ H Q I h
  refine wpAny_Call_Name_kw (ld_glob I hg hm ?_ hdb)
  refine PySem.W.callWith_K (h₀:=X.base) I.ok.mod.kin hk (thn (ha pos pins s σ H _ I h) fun us s1 ⟨vs,H1,I1,r,q⟩=>⟨I1.kIn,?_⟩) he hpl
  exact run_fn F hr hb hd hx I1 r q
theorem pe_meth {pl:Sem Bool} (he:PE X o ta) (c:Cls X.K C) (hm:Meth X.K C m f) (F:FnOk X.prog X.w X.K X.mg X.base CX k f fd ps sp) (hr:Room k X.A) (hb:Binds X.K fd ps ds) (hd:Vals dvs ds) (hx:Passes CX X E) (ha:PA X (e :: es) t)
    (hst:starEach (e :: es) X.env=(false,eval e X.env) :: starEach es X.env:=by rfl) (hpl:(backTo pos (starEach es X.env)).any (·.1)=false:=by rfl)
    (ht:eval (.Call (.Attribute o m apos) (e :: es) [] pos) X.env=(do
      let ov ← eval o X.env
      standAt apos.atName
      let (f,first) ← holding [ov] (getMethod ov m pl)
      callWith pos f first (backTo pos (starEach (e :: es) X.env)) (backToKw pos (keywordEach [] X.env))):=by rfl) :
    PE X (.Call (.Attribute o m apos) (e :: es) [] pos) (tMeth C m sp dvs E ta t):=by
  intro pins s σ H Q I h
  refine PySem.W.methodCall_KW (pl:=pl) (thn (he pins s σ H _ I h) fun u s1 ⟨x,H1,I1,rx,a,dx,fs,ex,ea,l,q⟩=>?_) ht
  subst ex
  obtain rfl:u=Value.ref a:=rx
  refine getmeth_ok I1 ea c hm l ?_
  refine PySem.W.callWith_K (first:=[.ref a]) (h₀:=X.base) I.ok.mod.kin hm.kp (thn (ha pos pins s1 σ H1 _ I1 q) fun us s2 ⟨vs,H2,I2,r,q2⟩=>⟨I2.kIn,?_⟩) hst hpl
  exact run_fn (us:=.ref a :: us) (vs:=.ref a :: vs) F hr hb hd hx I2 (.cons rfl r) q2
theorem pe_meth0 {pl:Sem Bool} (he:PE X o ta) (c:Cls X.K C) (hm:Meth X.K C m f) (F:FnOk X.prog X.w X.K X.mg X.base CX k f fd ps sp) (hr:Room k X.A) (hb:Binds X.K fd ps ds) (hd:Vals dvs ds) (hx:Passes CX X E)
    (ht:eval (.Call (.Attribute o m apos) [] [] pos) X.env=(do
      let ov ← eval o X.env
      standAt apos.atName
      let (f,first) ← holding [ov] (getMethod ov m pl)
      callWith pos f first (backTo pos (starEach [] X.env)) (backToKw pos (keywordEach [] X.env))):=by rfl) :
    PE X (.Call (.Attribute o m apos) [] [] pos) (tMeth C m sp dvs E ta tNil):=by
  intro pins s σ H Q I h
  refine PySem.W.methodCall_KW (pl:=pl) (thn (he pins s σ H _ I h) fun u s1 ⟨x,H1,I1,rx,a,dx,fs,ex,ea,l,q⟩=>?_) ht
  subst ex
  obtain rfl:u=Value.ref a:=rx
  refine getmeth_ok I1 ea c hm l ?_
  exact PySem.W.callWith_K0 (first:=[.ref a]) I1.kIn hm.kp (run_fn (us:=[.ref a]) (vs:=[.ref a]) F hr hb hd hx I1 (.cons rfl .nil) q)
structure Mk (K:PySem.W.Frag) (C f:Addr):Prop where
  makes:PySem.W.makesIn K C=true
  init:PySem.W.findIn K (.ref C) "__init__"=some (some (.ref f))
  fn:PySem.W.isFn K (.ref f)=true
  kp:PySem.W.keepIn K (.ref C)=true
theorem run_make {pins:List (Addr × Obj)} {σ:St} {H:Hp} {s:Shared} {Q:VK} {us:List Value} {vs:List V} (M:Mk X.K C f) (F:FnOk X.prog X.w X.K X.mg X.base CX k f fd ps sp) (hr:Room (k + 1) X.A) (hb:Binds X.K fd ps ds) (hd:Vals dvs ds)
    (hx:Passes CX X E) (I:Inv X pins σ H s) (r:Vals vs us)
    (h:∀ x dx,H x=none→H dx=none→dx≠x→sp (.ref x :: (vs ++ dvs)) (upd (upd H dx (.own x)) x (.ins C dx [])) (fun v H2=>v=.non∧Q (.ref x) H2) E) :
    wpAny (model X.prog X.w) X.A (call (.ref C) us) (EP X pins σ Q) X.xe s:=by
  have hq:=h (s.heap.objs.size + 1) s.heap.objs.size (I.hok.fresh (Nat.le_succ _)) (I.hok.fresh (Nat.le_refl _)) (Nat.ne_of_lt (Nat.lt_succ_self _))
  have I2:=Inv.made (C:=C) I
  have r2:Vals (V.ref (s.heap.objs.size + 1) :: (vs ++ dvs)) (Value.ref (s.heap.objs.size + 1) :: (us ++ ds)):=.cons rfl (r.append hd)
  have hl:(Value.ref (s.heap.objs.size + 1) :: us ++ ds).length=ps.length:=by
    have e:=r2.length
    rw [F.len _ _ _ _ hq] at e
    exact e.symm
  refine wpAny_call (make_map (f:=f) I.kIn M.makes M.init (beq_iff_eq.mp M.fn) (codeAny_mono (F.run _ X.stack _ _ ⟨Value.ref (s.heap.objs.size + 1) :: us,[]⟩ (Value.ref (s.heap.objs.size + 1) :: (us ++ ds)) _ _ E (hr.make C us [])
    (I2.env0.make C us []) (hb _ (Value.ref (s.heap.objs.size + 1) :: us) I2.kIn hl) r2 hq) fun r s' hq'=>?_))
  cases r with
  | error e=>exact hx pins σ _ _ e s' I2 hq'
  | ok fl =>
    cases fl with
    | ret u =>
      obtain ⟨v,H',I3,rv,ev,q3⟩:=I2.after hq'
      subst ev
      exact ⟨rv,⟨V.ref (s.heap.objs.size + 1),H',I3,rfl,q3⟩⟩
    | next=>exact False.elim hq'
    | brk=>exact False.elim hq'
    | cont=>exact False.elim hq'
theorem pe_make (M:Mk X.K C f) (F:FnOk X.prog X.w X.K X.mg X.base CX k f fd ps sp) (hr:Room (k + 1) X.A) (hg:Gl X x) (hm:X.mg x=some (.ref C)) (hb:Binds X.K fd ps ds) (hd:Vals dvs ds) (hx:Passes CX X E)
    (ha:PA X (e :: es) t) (hdb:(x == ("__debug__":Str))=false:=by decide) (he:starEach (e :: es) X.env=(false,eval e X.env) :: starEach es X.env:=by rfl) (hpl:(backTo pos (starEach es X.env)).any (·.1)=false:=by rfl) :
    PE X (.Call (.Name x p) (e :: es) [] pos) (tMake C sp dvs E t):=by
  intro pins s σ H Q I h
  refine wpAny_Call_Name_kw (ld_glob I hg hm ?_ hdb)
  refine PySem.W.callWith_K (h₀:=X.base) I.ok.mod.kin M.kp (thn (ha pos pins s σ H _ I h) fun us s1 ⟨vs,H1,I1,r,q⟩=>⟨I1.kIn,?_⟩) he hpl
  exact run_make M F hr hb hd hx I1 r q
theorem pe_make0 (M:Mk X.K C f) (F:FnOk X.prog X.w X.K X.mg X.base CX k f fd ps sp) (hr:Room (k + 1) X.A) (hg:Gl X x) (hm:X.mg x=some (.ref C)) (hb:Binds X.K fd ps ds) (hd:Vals dvs ds) (hx:Passes CX X E)
    (hdb:(x == ("__debug__":Str))=false:=by decide):PE X (.Call (.Name x p) [] [] pos) (tMake C sp dvs E tNil):=by
  intro pins s σ H Q I h
  refine wpAny_Call_Name_kw (ld_glob I hg hm ?_ hdb)
  exact PySem.W.callWith_K0 I.kIn M.kp (run_make (us:=[]) M F hr hb hd hx I .nil h)
end
section
variable {X:Cx} {CX:CXT} {k:Nat} {f C:Addr} {fd:FuncData} {ps ks:List Str} {sp:Sp} {E:XK} {x m:Str} {p pos apos kpos:Pos} {e o:Expr} {es:List Expr} {kws:List Keyword} {te ta:TE} {t tk:TA} {nm:Option Str}
variable {g:List Value→List Value→List Value} {gV:List V→List V→List V}
end
structure FnScope (N P:List Str) (sc:Scope):Prop where
  kind:sc.kind=.function
  co:sc.isCoroutine=false
  gen:sc.isGenerator=false
  nd:N.Nodup
  pre:N.take P.length=P
  par:∀ x∈P,sc.names.lookup x=some .local∨sc.names.lookup x=some .cell
  nofree:∀ y∈sc.names,y.2≠.free
theorem bindL_out {kindOf:Str→Option NameKind} {x:Str}:∀ {binds:List (Str × Value)} {m:Str→Option Value},(∀ v,(x,v) ∉ binds)→bindL kindOf binds m x=m x
  | [],_,_=>rfl
  | (n,v) :: r,m,h=>by
    unfold bindL
    rw [bindL_out fun w hw=>h w (List.mem_cons_of_mem _ hw)]
    split
    · have:x≠n:=by rintro rfl;exact h v List.mem_cons_self
      simp [this]
    · rfl
theorem bindC_out {kindOf:Str→Option NameKind} {x:Str}:∀ {binds:List (Str × Value)} {m:Str→Option Value},(∀ v,(x,v) ∉ binds)→bindC kindOf binds m x=m x
  | [],_,_=>rfl
  | (n,v) :: r,m,h=>by
    unfold bindC
    rw [bindC_out fun w hw=>h w (List.mem_cons_of_mem _ hw)]
    split
    · rfl
    · have:x≠n:=by rintro rfl;exact h v List.mem_cons_self
      simp [this]
theorem bindL_get {kindOf:Str→Option NameKind} {x:Str} {v:Value}:∀ {P:List Str} {vs:List Value} {i:Nat} {m:Str→Option Value},P.Nodup→P[i]?=some x→vs[i]?=some v→kindOf x=some .local →
    bindL kindOf (P.zip vs) m x=some v
  | [],_,_,_,_,h,_,_=>by simp at h
  | _ :: _,[],_,_,_,_,h,_=>by simp at h
  | p :: P,w :: vs,0,m,nd,h1,h2,hk=>by
    simp at h1 h2;subst h1;subst h2
    show bindL kindOf ((p,w) :: P.zip vs) m p=_
    unfold bindL
    rw [bindL_out fun v hv=>(List.nodup_cons.mp nd).1 (List.of_mem_zip hv).1,if_pos hk]
    simp
  | p :: P,w :: vs,i + 1,m,nd,h1,h2,hk=>by
    show bindL kindOf ((p,w) :: P.zip vs) m x=_
    unfold bindL
    exact bindL_get (i:=i) (List.nodup_cons.mp nd).2 (by simpa using h1) (by simpa using h2) hk
theorem bindC_get {kindOf:Str→Option NameKind} {x:Str} {v:Value}:∀ {P:List Str} {vs:List Value} {i:Nat} {m:Str→Option Value},P.Nodup→P[i]?=some x→vs[i]?=some v→kindOf x≠some .local →
    bindC kindOf (P.zip vs) m x=some v
  | [],_,_,_,_,h,_,_=>by simp at h
  | _ :: _,[],_,_,_,_,h,_=>by simp at h
  | p :: P,w :: vs,0,m,nd,h1,h2,hk=>by
    simp at h1 h2;subst h1;subst h2
    show bindC kindOf ((p,w) :: P.zip vs) m p=_
    unfold bindC
    rw [bindC_out fun v hv=>(List.nodup_cons.mp nd).1 (List.of_mem_zip hv).1,if_neg hk]
    simp
  | p :: P,w :: vs,i + 1,m,nd,h1,h2,hk=>by
    show bindC kindOf ((p,w) :: P.zip vs) m x=_
    unfold bindC
    exact bindC_get (i:=i) (List.nodup_cons.mp nd).2 (by simpa using h1) (by simpa using h2) hk
def start (N:List Str) (vs:List V):St:=vs.map some ++ List.replicate (N.length - vs.length) none
def cxOf (CX:CXT) (P:Program) (w:World) (K:PySem.W.Frag) (mg:Str→Option Value) (base:Heap) (N:List Str) (qual:Str) (scope:Scope) (f:Addr) (cd:Value) (A:Around) (outer:List Env) (s:Shared) (H:Hp) (E:XK):Cx where
  prog:=P
  w:=w
  K:=K
  mg:=mg
  base:=base
  A:=A.deeper (envOfC qual scope s.heap.objs.size f cd)
  N:=N
  s₀:=s
  H₀:=H
  env:=envOfC qual scope s.heap.objs.size f cd
  outer:=outer
  stack:=envOfC qual scope s.heap.objs.size f cd :: outer
  ex:=[]
  calm:=true
  fn:=fun _=>true
  pn:=[]
  xe:=fun e s'=>wpAny (model P w) (A.deeper (envOfC qual scope s.heap.objs.size f cd)) (leaving (envOfC qual scope s.heap.objs.size f cd) e) (fun _ s''=>CX outer H s E e s'') (fun e' s''=>CX outer H s E e' s'') s'
theorem cell_has {sc:Scope} {n:Nat} {x:Str} (h:sc.names.lookup x=some .cell):∃ c,(cellsFrom n sc.names []).lookup x=some c:=by
  have q:=PySem.W.cellsFrom_some sc.names n [] (.inl h)
  exact Option.isSome_iff_exists.mp q
theorem inv_start {CX:CXT} {P:Program} {w:World} {K:PySem.W.Frag} {mg:Str→Option Value} {base:Heap} {N ps:List Str} {qual:Str} {scope:Scope} {f:Addr} {cd:Value} {A:Around} {outer:List Env} {s s1:Shared} {H:Hp} {E:XK} {us:List Value} {vs:List V}
    (S:FnScope N ps scope) (hd:A.handled=none) (e0:Env0 P w K mg base A outer s H) (hl:vs.length=ps.length) (r:Vals vs us)
    (x:InCallC s s.heap.objs.size (bindL (envOfC qual scope s.heap.objs.size f cd).kindOf (ps.zip us) fun _=>none) (cellsFrom (s.heap.objs.size + 1) scope.names []) (bindC (envOfC qual scope s.heap.objs.size f cd).kindOf (ps.zip us) fun _=>none) s1) :
    Inv (cxOf CX P w K mg base N qual scope f cd A outer s H E) [] (start N vs) H s1:=by
  have hpl:ps.length≤N.length:=by have:=congrArg List.length S.pre;rw [List.length_take] at this;lia
  obtain ⟨h1,tk,rfl,hk⟩:=x.done
  have noA:∀ b:Addr,b ∉ (cxOf CX P w K mg base N qual scope f cd A outer s H E).ex:=fun b z=>absurd (show b∈([]:List Addr) from z) (by simp)
  refine ⟨⟨e0.mod,S.kind,rfl,rfl,Nat.le_refl _,fun y z c h1 h2=>?_,fun y hy=>?_,fun y c _ h=>?_,fun _=>hd,Around.frames_deeper e0.frames,.inr ⟨rfl,rfl⟩,fun b z=>absurd z (noA b),e0.bs,e0.bsz,fun b _ _=>noA b,fun b z=>absurd z (noA b),e0.funs,e0.frf⟩,
    rfl,e0.bare,Un.kept hk,⟨_,x.toInCall.ns,fun i y v h1 h2 h3=>?_⟩,fun y c h=>⟨_,x.cell y c h⟩,e0.hok.fresh (Nat.le_refl _),fun y c h=>?_,fun p hp=>absurd (show p∈([]:List (Addr × Obj)) from hp) (by simp),e0.hok.kept hk,?_⟩
  · exact name_of_addr x.apart (PySem.mem_of_lookup h1) (PySem.mem_of_lookup h2)
  · have hy:scope.names.lookup y=some .cell∨scope.names.lookup y=some .free:=hy
    rcases hy with hy | hy
    · exact cell_has hy
    · exact absurd rfl (S.nofree _ (PySem.mem_of_lookup hy))
  · exact Nat.le_of_lt (x.above y c (PySem.mem_of_lookup h))
  · have hi:i < vs.length:=by
      unfold start at h2
      by_cases hi:i < vs.length
      · exact hi
      · rw [List.getElem?_append_right (by simpa using hi)] at h2
        rw [List.getElem?_replicate] at h2
        split at h2 <;> cases h2
    have ha:vs[i]?=some v:=by
      unfold start at h2
      rw [List.getElem?_append_left (by simpa using hi),List.getElem?_map] at h2
      cases e:vs[i]? with
      | none=>rw [e] at h2;cases h2
      | some a=>rw [e] at h2;cases h2;rfl
    obtain ⟨u,hu,rv⟩:=r.get ha
    have hp:ps[i]?=some y:=by
      rw [← S.pre,List.getElem?_take_of_lt (by lia)];exact h1
    have ndP:ps.Nodup:=by rw [← S.pre];exact S.nd.sublist (List.take_sublist _ _)
    refine ⟨u,rv,?_⟩
    rcases S.par y (List.mem_of_getElem? hp) with k | k
    · exact .inl ⟨k,bindL_get ndP hp hu k⟩
    · obtain ⟨c,e⟩:=cell_has (n:=s.heap.objs.size + 1) k
      refine .inr ⟨.inl k,c,e,?_⟩
      have q:=x.cell y c e
      rw [bindC_get ndP hp hu (by show scope.names.lookup y≠_;rw [k];decide)] at q
      exact q
  · exact e0.hok.fresh (Nat.le_of_lt (x.above y c (PySem.mem_of_lookup h)))
  · unfold start
    show _=N.length
    rw [List.length_append,List.length_map,List.length_replicate]
    lia
theorem fn_of {CX:CXT} {P:Program} {w:World} {K:PySem.W.Frag} {mg:Str→Option Value} {base:Heap} {k:Nat} {f:Addr} {name qual:Str} {params:Arguments} {body:List Stmt} {scope:Scope} {dV kV doc pm cdv ct oc:Value} {an od:Option Addr}
    {osl:Array (Option Value)} {N ps:List Str} {sp:Sp} (lk:K.lookup f=some ⟨oc,od,.func (PySem.W.fnOf name qual params body scope dV kV doc pm an cdv ct),osl⟩) (hcd:PySem.W.codeIn K cdv qual=true) (S:FnScope N ps scope)
    (len:∀ vs H Q E,sp vs H Q E→vs.length=ps.length)
    (hbody:∀ (A:Around) (outer:List Env) (s:Shared) (H:Hp) (vs:List V) (Q:VK) (E:XK),Room k (A.deeper (envOfC qual scope s.heap.objs.size f cdv))→sp vs H Q E →
      ∃ t,PSs (cxOf CX P w K mg base N qual scope f cdv A outer s H E) body t∧t { nx:=fun _ H'=>Q .non H',rt:=Q } (start N vs) H) :
    FnOk P w K mg base CX (k + 1) f (PySem.W.fnOf name qual params body scope dV kV doc pm an cdv ct) ps sp:=by
  refine ⟨len,fun A outer s H args us vs Q E hr e0 hb r hsp=>?_⟩
  have hl:=len _ _ _ _ hsp
  have KX:K.In s.heap:=e0.mod.kin.keeps fun b o e=>(e0.bs b o e).1
  have lim:s.heap.NoLimit:=e0.mod.nolimit.keeps fun b o e=>(e0.bs b o e).1
  have hkind:∀ y∈ps.zip us,scope.names.lookup y.1=some .local∨(scope.names.lookup y.1=some .cell∧((cellsFrom (s.heap.objs.size + 1) scope.names []).lookup y.1).isSome=true):=fun ⟨n,v⟩ hy=>by
    rcases S.par n (List.of_mem_zip hy).1 with q | q
    · exact .inl q
    · exact .inr ⟨q,PySem.W.cellsFrom_some _ _ _ (.inl q)⟩
  refine codeAny_call_function hr.depth (KX _ _ lk) rfl S.co S.gen rfl (PySem.W.codeRec_of KX hcd) (hb _ _ _ _ ?_)
  refine wpAny_newFunctionEnv_cells S.kind hkind fun env he s1 x=>?_
  subst he
  refine ⟨lim.keeps x.toInCall.keep,codeAny_func ?_⟩
  obtain ⟨t,ht,hq⟩:=hbody A outer s H vs Q E (hr.deeper _) hsp
  have I:Inv (cxOf CX P w K mg base N qual scope f cdv A outer s H E) [] (start N vs) H s1:=inv_start S hr.hd e0 hl r x
  refine wpAny_mono (ht [] s1 (start N vs) H _ I hq) (fun fl s' hs=>?_) fun e s' hs=>hs
  have fin:∀ {σ':St} {H':Hp} {v:V} {u:Value},Inv (cxOf CX P w K mg base N qual scope f cdv A outer s H E) [] σ' H' s'→RelV v u→Q v H'→CE outer P w H s Q u s' :=
    fun {σ' H' v u} J rv q=>⟨v,H',J.os,J.bare,J.base,J.hok,rv,q⟩
  cases fl with
  | ret u =>
    obtain ⟨v,σ',H',J,rv,q⟩:=hs
    exact fin J rv q
  | next =>
    obtain ⟨σ',H',J,q⟩:=hs
    exact fin (v:=V.non) (u:=Value.none) J rfl q
  | brk =>
    obtain ⟨_,_,_,q⟩:=hs
    exact False.elim q
  | cont =>
    obtain ⟨_,_,_,q⟩:=hs
    exact False.elim q
end L2
namespace L2
open PySem PySem.Spec PyProof.Rows
section
variable {X:Cx} {x:Str} {p pos:Pos} {e:Expr} {es:List Expr} {t:TA} {id T:String} {r:List V→Hp→VK→Prop}
def tCB (r:List V→Hp→VK→Prop) (t:TA):TE:=fun σ H Q=>t σ H fun vs H1=>r vs H1 Q
theorem pe_callB (hc:CallR X (.builtin id) r) (hg:Gl X x) (hm:X.mg x=none) (hv:bootBuiltins x=some (.builtin id)) (ha:PA X (e :: es) t) (hn:x≠"__name__":=by decide) (hdb:(x == ("__debug__":Str))=false:=by decide)
    (he:starEach (e :: es) X.env=(false,eval e X.env) :: starEach es X.env:=by rfl) (hpl:(backTo pos (starEach es X.env)).any (·.1)=false:=by rfl):PE X (.Call (.Name x p) (e :: es) [] pos) (tCB r t):=by
  intro pins s σ H Q I h
  refine wpAny_Call_Name_kw (ld_blt I hg hm hv ?_ hn hdb)
  exact PyProof.Rows.callWith_builtin1 (thn (ha pos pins s σ H _ I h) fun us s1 ⟨vs,H1,I1,r1,q1⟩=>hc pins s1 σ H1 vs us Q I1 r1 q1) he hpl
theorem pe_callTy (hc:CallR X (.type T) r) (hg:Gl X x) (hm:X.mg x=none) (hv:bootBuiltins x=some (.type T)) (ha:PA X (e :: es) t) (hn:x≠"__name__":=by decide) (hdb:(x == ("__debug__":Str))=false:=by decide)
    (he:starEach (e :: es) X.env=(false,eval e X.env) :: starEach es X.env:=by rfl) (hpl:(backTo pos (starEach es X.env)).any (·.1)=false:=by rfl):PE X (.Call (.Name x p) (e :: es) [] pos) (tCB r t):=by
  intro pins s σ H Q I h
  refine wpAny_Call_Name_kw (ld_blt I hg hm hv ?_ hn hdb)
  exact PyProof.Rows.callWith_type1 (thn (ha pos pins s σ H _ I h) fun us s1 ⟨vs,H1,I1,r1,q1⟩=>hc pins s1 σ H1 vs us Q I1 r1 q1) he hpl
end
end L2
namespace HT
open PySem PyProof.Rows
def lexLt:List Int→List Int→Bool
  | [],[]=>false
  | [],_ :: _=>true
  | _ :: _,[]=>false
  | x :: xs,y :: ys=>if x=y then lexLt xs ys else decide (x < y)
section
open PySem.SeqAt
open PySem.AutoSeq1 (wpAny_loadPart')
open PySem.MeetsSeq PySem.MeetsSeq2 PySem.MeetsSeq3
end
section
variable {prog:Program} {w:World} {A:Around} {E:Value→Shared→Prop} {s:Shared}
theorem cat_tup {t b:Addr} {vs ws:List Value} {Q:Value→Shared→Prop} (ht:IsTup s.heap t vs.toArray) (hb:IsTup s.heap b ws.toArray) (hv:vs≠[])
    (h1:ws=[]→Q (.ref t) s) (h2:ws≠[]→Q (.ref s.heap.objs.size) { s with heap:=s.heap.push { cls:=.type "tuple",data:=.seq (vs ++ ws).toArray } })
    (hsz:vs.length + ws.length≤sizeLine):wpAny (model prog w) A (binaryOp .Add (.ref t) (.ref b)) Q E s:=by
  obtain ⟨⟨cls,dd,data,sl⟩,ho,hc,n,hd⟩:=id ht
  obtain ⟨⟨cls2,dd2,data2,sl2⟩,ho2,hc2,n2,hd2⟩:=id hb
  simp only at hc hd hc2 hd2
  subst hc hd hc2 hd2
  have e:vs.toArray ++ ws.toArray=(vs ++ ws).toArray:=by simp
  by_cases hw:ws=[]
  · exact concat_meets ⟨_,ho,rfl⟩ ⟨_,ho2,rfl⟩ noFill_tuple_add seq_tuple_add PySem.F.slot_tuple_add PySem.F.entry_tuple_add (PySem.F.args_tuple_add_2 _ _)
      (tuple_addW1 t b vs.toArray ws.toArray n n2 dd dd2 sl sl2 (by simpa using hv) (by simp [hw])) ⟨ho,ho2,h1 hw⟩
  · refine concat_meets ⟨_,ho,rfl⟩ ⟨_,ho2,rfl⟩ noFill_tuple_add seq_tuple_add PySem.F.slot_tuple_add PySem.F.entry_tuple_add (PySem.F.args_tuple_add_2 _ _)
      (tuple_addW2 t b vs.toArray ws.toArray n n2 dd dd2 sl sl2 (by simpa using hv) (by simpa using hw) (by rw [List.size_toArray,List.size_toArray];exact hsz)) ⟨ho,ho2,?_⟩
    rw [e]
    exact h2 hw
def sIx (n d:Nat):Option Int→Nat
  | none=>d
  | some v=>if v < 0 then (v + (n:Int)).toNat else min v.toNat n
theorem sIx_none (n d:Nat):sIx n d none=d:=rfl
theorem sIx_nat (n d k:Nat):sIx n d (some (k:Int))=min k n:=by
  show (if (k:Int) < 0 then ((k:Int) + (n:Int)).toNat else min (k:Int).toNat n)=min k n
  rw [if_neg (by lia),Int.toNat_natCast]
theorem sIx_le (n d:Nat) (hd:d≤n) (o:Option Int):sIx n d o≤n:=by
  cases o with
  | none=>exact hd
  | some v =>
    show (if v < 0 then (v + (n:Int)).toNat else min v.toNat n)≤n
    by_cases hv:v < 0
    · rw [if_pos hv];lia
    · rw [if_neg hv];exact Nat.min_le_right _ _
end
end HT
namespace L2
open PySem PySem.Spec PyProof.Rows
abbrev TO:=St→Hp→(Option Int→Hp→Prop)→Prop
def PO (X:Cx) (e:Option Expr) (t:TO):Prop :=
  ∀ (pins:List (Addr × Obj)) (s:Shared) (σ:St) (H:Hp) (Q:Option Int→Hp→Prop),Inv X pins σ H s→t σ H Q →
    wpAny (model X.prog X.w) X.A (evalPart e X.env) (fun u s'=>∃ o H',Inv X pins σ H' s'∧IsPart u o∧Q o H') X.xe s
def tNoPart:TO:=fun _ H Q=>Q none H
def tPart (t:TE):TO:=fun σ H Q=>t σ H fun x H1=>∃ i,x=.int i∧Q (some i) H1
theorem intsAre_of {ns:List Int}:∀ {us:List Value},Vals (ns.map V.int) us→IntsAre us ns:=by
  induction ns with
  | nil=>intro us r;rw [List.map_nil] at r;cases r;exact .nil
  | cons n ns ih =>
    intro us r
    rw [List.map_cons] at r
    cases r with
    | cons r1 r2 =>
      obtain ⟨t,e⟩:=r1
      subst e
      exact .cons n t (ih r2)
section
variable {X:Cx} {e:Expr} {te:TE} {lo hi:Option Expr} {tl th:TO} {pos p2:Pos}
theorem po_none:PO X none tNoPart:=by
  intro pins s σ H Q I h
  rw [evalPart_none]
  exact wpAny_pure ⟨none,H,I,.none,h⟩
theorem po_some (h:PE X e te):PO X (some e) (tPart te):=by
  intro pins s σ H Q I hw
  rw [evalPart_some]
  refine thn (h pins s σ H _ I hw) fun u s1 ⟨x,H1,I1,r1,q1⟩=>?_
  obtain ⟨i,rfl,q⟩:=q1
  obtain ⟨t,rfl⟩:=r1
  exact ⟨some i,H1,I1,.int i t,q⟩
def SlR (X:Cx) (r:V→Option Int→Option Int→Hp→VK→Prop):Prop :=
  ∀ (pins:List (Addr × Obj)) (s:Shared) (σ:St) (H:Hp) (x:V) (v vl vu:Value) (lo hi:Option Int) (sl:Addr) (Q:VK),Inv X pins σ H s→RelV x v→s.heap.IsSliceOf sl vl vu .none→IsPart vl lo→IsPart vu hi→r x lo hi H Q →
    ∃ T id,typeLookup (.type T) "__getitem__"=pure (some (.builtin id))∧s.TypeIs v T∧wpAny (model X.prog X.w) X.A (getItem v (.ref sl)) (EP X pins σ Q) X.xe s
def tSl (r:V→Option Int→Option Int→Hp→VK→Prop) (te:TE) (tl th:TO):TE:=fun σ H Q=>te σ H fun x H1=>tl σ H1 fun l H2=>th σ H2 fun u H3=>r x l u H3 Q
theorem pe_slice {r:V→Option Int→Option Int→Hp→VK→Prop} (hr:SlR X r) (he:PE X e te) (hl:PO X lo tl) (hu:PO X hi th):PE X (.Subscript e (.Slice lo hi none p2) pos) (tSl r te tl th):=by
  intro pins s σ H Q I h
  refine Subscript_ (thn (he pins s σ H _ I h) fun v s1 ⟨x,H1,I1,r1,q1⟩=>?_)
  refine wpAny_Slice (thn (hl pins s1 σ H1 _ I1 q1) fun vl s2 ⟨l,H2,I2,pl,q2⟩=>thn (hu pins s2 σ H2 _ I2 q2) fun vu s3 ⟨u,H3,I3,pu,q3⟩=>?_)
  rw [evalPart_none]
  refine wpAny_pure ?_
  have I4:Inv X pins σ H3 { s3 with heap:=s3.heap.push { cls:=.type "slice",data:=.fields #[vl,vu,.none] } }:=I3.kept (t':=s3.toks) fun b ob q=>Heap.get?_push_of_some _ q
  obtain ⟨T,id,hT,ht,hg⟩:=hr pins { s3 with heap:=s3.heap.push { cls:=.type "slice",data:=.fields #[vl,vu,.none] } } σ H3 x v vl vu l u s3.heap.objs.size Q I4 r1 (Heap.IsSliceOf.new ..) pl pu q3
  show wpAny (model X.prog X.w) X.A (subscriptTail e (.Slice lo hi none p2) v (.ref s3.heap.objs.size)) (EP X pins σ Q) X.xe { s3 with heap:=s3.heap.push { cls:=.type "slice",data:=.fields #[vl,vu,.none] } }
  exact tail_any (ops:=[.ref s3.heap.objs.size,v]) ht hT hg (by with_unfolding_all rfl)
def cutV (xs:List V) (lo hi:Option Int):List V:=(xs.drop (HT.sIx xs.length 0 lo)).take (HT.sIx xs.length xs.length hi - HT.sIx xs.length 0 lo)
theorem cutV_length (xs:List V) (lo hi:Option Int):(cutV xs lo hi).length≤xs.length:=by
  unfold cutV
  rw [List.length_take,List.length_drop]
  lia
def rCatT (K:PySem.W.Frag):R2:=fun x y H Q=>∃ a b xs ys,x=.ref a∧y=.ref b∧SqT K H a xs∧SqT K H b ys∧xs≠[]∧xs.length + ys.length≤sizeLine ∧
  (ys=[]→Q (.ref a) H)∧(ys≠[]→∀ p,H p=none→Q (.ref p) (upd H p (.tup (xs ++ ys))))
theorem Vals.nil_iff {xs:List V} {us:List Value} (r:Vals xs us):us=[]↔xs=[]:=by
  cases r with
  | nil=>simp
  | cons _ _=>simp
theorem op_catT:OpR X (binaryOp .Add) (rCatT X.K):=by
  intro pins s σ H x y v u Q I rx ry h
  obtain ⟨a,b,xs,ys,rfl,rfl,ha,hb,hx,hz,q1,q2⟩:=h
  cases rx
  cases ry
  obtain ⟨its,r1,p1,_⟩:=I.tuple ha
  obtain ⟨its2,r2,p2,_⟩:=I.tuple hb
  refine HT.cat_tup p1 p2 (fun z=>hx (r1.nil_iff.mp z)) (fun z=>⟨.ref a,H,I,rfl,q1 (r2.nil_iff.mp z)⟩) (fun z=>?_) (by rw [← r1.length,← r2.length];exact hz)
  refine ⟨.ref s.heap.objs.size,_,I.laid (t':=s.toks) (o:=.tup (xs ++ ys)) (fun b ob q=>Heap.get?_push_of_some _ q) (Nat.le_refl _) ?_,rfl,q2 (fun w=>z (r2.nil_iff.mpr w)) _ (I.hok.fresh (Nat.le_refl _))⟩
  exact ⟨by rw [List.length_append];exact hz,_,r1.append r2,IsTup.new _ _⟩
end
end L2
namespace L2
open PySem PySem.Spec PyProof.Rows
def ixN (n:Nat) (i:Int):Option Nat:=if 0≤i then (if i < n then some i.toNat else none) else if -(n:Int)≤i then some (i + n).toNat else none
def atI {α:Type} (xs:List α) (i:Int):Option α:=(ixN xs.length i).bind fun j=>xs[j]?
theorem ixN_seq {n:Nat} {i:Int} {j:Nat} (h:ixN n i=some j):seqIndex? i n=some j∧j < n∧-(n:Int)≤i∧i < n:=by
  unfold ixN at h
  by_cases h0:0≤i
  · rw [if_pos h0] at h
    by_cases h1:i < n
    · rw [if_pos h1] at h
      have e:i.toNat=j:=Option.some.inj h
      exact ⟨by rw [seqIndex_of h0 h1,e],by lia,by lia,h1⟩
    · rw [if_neg h1] at h;cases h
  · rw [if_neg h0] at h
    by_cases h1:-(n:Int)≤i
    · rw [if_pos h1] at h
      have e:(i + n).toNat=j:=Option.some.inj h
      exact ⟨by rw [seqIndex_neg (by lia) h1,e],by lia,h1,by lia⟩
    · rw [if_neg h1] at h;cases h
theorem atI_get {α:Type} {xs:List α} {i:Int} {v:α} (h:atI xs i=some v):∃ j,seqIndex? i xs.length=some j∧xs[j]?=some v∧j < xs.length∧-(xs.length:Int)≤i∧i < xs.length:=by
  unfold atI at h
  cases e:ixN xs.length i with
  | none=>rw [e] at h;cases h
  | some j =>
    rw [e] at h
    obtain ⟨h1,h2,h3,h4⟩:=ixN_seq e
    exact ⟨j,h1,h,h2,h3,h4⟩
theorem atI_nat {α:Type} {xs:List α} {j:Nat} {v:α} (h:xs[j]?=some v):atI xs (j:Int)=some v:=by
  have hj:j < xs.length:=(List.getElem?_eq_some_iff.mp h).1
  have e:ixN xs.length (j:Int)=some j:=by
    unfold ixN
    rw [if_pos (by lia),if_pos (by lia)];simp
  unfold atI;rw [e];exact h
def PlainIx (b:Expr):Prop:=∀ o i,subscripted b false o i=operate [o,i] (getItem o i)
def IxR (X:Cx) (r:R2):Prop :=
  ∀ (value slice:Expr) (pins:List (Addr × Obj)) (s:Shared) (σ:St) (H:Hp) (x y:V) (v u:Value) (Q:VK),Inv X pins σ H s→RelV x v→RelV y u→r x y H Q →
    subscripted slice false v u=operate [v,u] (getItem v u)→wpAny (model X.prog X.w) X.A (subscriptTail value slice v u) (EP X pins σ Q) X.xe s
def MtR (X:Cx) (id:String) (r:V→List V→Hp→VK→Prop):Prop :=
  ∀ (pins:List (Addr × Obj)) (s:Shared) (σ:St) (H:Hp) (x:V) (xs:List V) (v:Value) (us:List Value) (Q:VK),Inv X pins σ H s→RelV x v→Vals xs us→r x xs H Q →
    wpAny (model X.prog X.w) X.A (call (.builtin id) (v :: us)) (EP X pins σ Q) X.xe s
section
variable {X:Cx} {a b:Expr} {ta tb:TE} {pos:Pos}
theorem pe_ix {r:R2} (hr:IxR X r) (ha:PE X a ta) (hb:PE X b tb) (hs:PlainIx b):PE X (.Subscript a b pos) (tOp r ta tb):=by
  intro pins s σ H Q I h
  exact Subscript_ (binT ha hb I h fun v u s2 x y H2 I2 rx ry q=>hr a b pins s2 σ H2 x y v u Q I2 rx ry q (hs _ _))
def rIxL (K:PySem.W.Frag):R2:=fun x y H Q=>∃ p xs i v,x=.ref p∧y=.int i∧SqL K H p xs∧atI xs i=some v∧Q v H
def rIxT (K:PySem.W.Frag):R2:=fun x y H Q=>∃ p xs i v,x=.ref p∧y=.int i∧SqT K H p xs∧atI xs i=some v∧Q v H
def rIxS:R2:=fun x y H Q=>∃ z i c,x=.str z∧y=.int i∧z.length≤sizeLine∧atI z.cps.toList i=some c∧Q (.str ⟨#[c]⟩) H
theorem ix_list:IxR X (rIxL X.K):=by
  intro value slice pins s σ H x y v u Q I rx ry h hs
  obtain ⟨p,xs,i,z,rfl,rfl,hq,he,q⟩:=h
  cases rx
  obtain ⟨t,rfl⟩:=ry
  obtain ⟨its,r,pl,hz⟩:=I.list hq
  obtain ⟨j,h1,h2,h3,h4,h5⟩:=atI_get he
  obtain ⟨w,ew,rw'⟩:=r.get h2
  have hl:=r.length
  have hn:=line63
  have fin:EP X pins σ Q w s:=⟨z,H,I,rw',q⟩
  by_cases h0:0≤i
  · have hj:i.toNat=j:=by
      rw [seqIndex_of h0 h5] at h1
      exact Option.some.inj h1
    exact item_listR pl.isList h0 (by lia) (by rw [hj];simpa using ew) fin hs
  · have hj:(i + (its.toArray.size:Int)).toNat=j:=by
      rw [seqIndex_neg (by lia) h4] at h1
      rw [List.size_toArray,← hl]
      exact Option.some.inj h1
    exact subscriptTail_builtinR (x:=w) pl.isList.typeIs slot_list_getitem.lookup
      (wpAny_getItem_list_neg (Q:=fun r s'=>r=w∧EP X pins σ Q r s') pl.isList (by lia) (by rw [List.size_toArray] <;> lia) (by lia) (by rw [hj];simpa using ew) ⟨rfl,fin⟩) hs
theorem ix_tup:IxR X (rIxT X.K):=by
  intro value slice pins s σ H x y v u Q I rx ry h hs
  obtain ⟨p,xs,i,z,rfl,rfl,hq,he,q⟩:=h
  cases rx
  obtain ⟨t,rfl⟩:=ry
  obtain ⟨its,r,pl,hz⟩:=I.tuple hq
  obtain ⟨j,h1,h2,h3,h4,h5⟩:=atI_get he
  obtain ⟨w,ew,rw'⟩:=r.get h2
  have hl:=r.length
  have hn:=line63
  have fin:EP X pins σ Q w s:=⟨z,H,I,rw',q⟩
  exact subscriptTail_builtinR (x:=w) pl.typeIs slot_tuple_getitem.lookup
    (getItem_tuple (j:=j) (Q:=fun r s'=>r=w∧EP X pins σ Q r s') pl (by lia) (by lia) (by rw [List.size_toArray,← hl];exact h1) (by simpa using ew) ⟨rfl,fin⟩) hs
theorem ix_str:IxR X rIxS:=by
  intro value slice pins s σ H x y v u Q I rx ry h hs
  obtain ⟨z,i,c,rfl,rfl,hz,he,q⟩:=h
  obtain ⟨t,rfl⟩:=rx
  obtain ⟨t',rfl⟩:=ry
  obtain ⟨j,h1,h2,h3,h4,h5⟩:=atI_get he
  have hl:z.cps.toList.length=z.length:=by simp [Str.length]
  rw [hl] at h1 h4 h5
  have hn:=line63
  exact tail_any (typeIs_str s z t) slot_str_getitem.lookup (getItem_str (c:=c) (by
    have e1:decide (i < -(2 ^ 63:Int))=false:=decide_eq_false (by lia)
    have e2:decide (i ≥ 2 ^ 63)=false:=decide_eq_false (by lia)
    rw [e1,e2,Bool.or_false]) (by rw [h1];simpa using h2) ⟨.str ⟨#[c]⟩,H,I.tok _,⟨_,rfl⟩,q⟩) hs
theorem slice_bounds (lo hi:Option Int) (n:Nat):(sliceBounds lo hi none n).1=((HT.sIx n 0 lo:Nat):Int)∧(sliceBounds lo hi none n).2.1=((HT.sIx n n hi:Nat):Int)∧(sliceBounds lo hi none n).2.2=1:=by
  refine ⟨?_,?_,rfl⟩
  · cases lo with
    | none=>simp [sliceBounds,HT.sIx]
    | some i =>
      simp only [sliceBounds,HT.sIx,Option.getD_none,show (1:Int) > 0 by decide,if_true]
      by_cases h:i < 0
      · simp only [h,if_true] <;> lia
      · simp only [h,if_false] <;> lia
  · cases hi with
    | none=>simp [sliceBounds,HT.sIx]
    | some i =>
      simp only [sliceBounds,HT.sIx,Option.getD_none,show (1:Int) > 0 by decide,if_true]
      by_cases h:i < 0
      · simp only [h,if_true] <;> lia
      · simp only [h,if_false] <;> lia
theorem slicePick_cut (its:List Value) (lo hi:Option Int):slicePick its.toArray lo hi none=((its.drop (HT.sIx its.length 0 lo)).take (HT.sIx its.length its.length hi - HT.sIx its.length 0 lo)).toArray:=by
  obtain ⟨h1,h2,h3⟩:=slice_bounds lo hi its.toArray.size
  unfold slicePick
  rw [h1,h2,h3]
  simp only [sliceRange_one,pick_run,List.size_toArray] <;> rfl
def rSlL (K:PySem.W.Frag):V→Option Int→Option Int→Hp→VK→Prop:=fun x lo hi H Q=>∃ a xs,x=.ref a∧SqL K H a xs∧∀ p,H p=none→Q (.ref p) (upd H p (.lst (cutV xs lo hi)))
theorem sl_list:SlR X (rSlL X.K):=by
  intro pins s σ H x v vl vu lo hi sl Q I rx hs pl pu h
  obtain ⟨a,xs,rfl,hx,q⟩:=h
  cases rx
  obtain ⟨its,r,ht,hz⟩:=I.list hx
  have hlen:=r.length
  refine ⟨"list",_,slot_list_getitem.lookup,ht.isList.typeIs,?_⟩
  refine wpAny_getItem_list_slice ht.isList hs pl pu .none (by simp) ?_ (by rw [List.size_toArray] <;> lia)
  rw [slicePick_cut,← hlen]
  refine ⟨.ref s.heap.objs.size,_,I.laid (t':=s.toks) (o:=.lst (cutV xs lo hi)) (fun b ob q=>Heap.get?_push_of_some _ q) (Nat.le_refl _) ?_,rfl,q _ (I.hok.fresh (Nat.le_refl _))⟩
  exact ⟨Nat.le_trans (cutV_length xs lo hi) hz,_,0,(r.drop (HT.sIx xs.length 0 lo)).take (HT.sIx xs.length xs.length hi - HT.sIx xs.length 0 lo),Heap.get?_push_size _ rfl⟩
def flatV:V→Bool
  | .non=>true
  | .bl _=>true
  | .int _=>true
  | .str _=>true
  | _=>false
def eqV:V→V→Bool
  | .non,.non=>true
  | .bl a,.bl b=>a == b
  | .bl a,.int b=>(if a then 1 else 0) == b
  | .int a,.bl b=>a == (if b then 1 else 0)
  | .int a,.int b=>a == b
  | .str a,.str b=>a == b
  | _,_=>false
theorem eqAt_V {A:Around} {s:Shared} {y x:V} {u v:Value} (ry:RelV y u) (rx:RelV x v) (fy:flatV y=true) (fx:flatV x=true):SeqAt.EqAt A s u v (eqV y x):=by
  cases y with
  | non =>
    cases ry
    cases x with
    | non=>cases rx;exact SeqAt.EqAt.same _
    | bl b=>cases rx;exact SeqAt.EqAt.none_bool b
    | int b=>obtain ⟨t,rfl⟩:=rx;exact SeqAt.EqAt.none_int b t
    | str b=>obtain ⟨t,rfl⟩:=rx;exact SeqAt.EqAt.none_str b t
    | _=>exact absurd (show false=true from fx) Bool.false_ne_true
  | bl a =>
    cases ry
    cases x with
    | non=>cases rx;exact SeqAt.EqAt.bool_none a
    | bl b=>cases rx;exact SeqAt.EqAt.bool_bool a b
    | int b=>obtain ⟨t,rfl⟩:=rx;exact SeqAt.EqAt.bool_int a b t
    | str b=>obtain ⟨t,rfl⟩:=rx;exact SeqAt.EqAt.bool_str a b t
    | _=>exact absurd (show false=true from fx) Bool.false_ne_true
  | int a =>
    obtain ⟨t',rfl⟩:=ry
    cases x with
    | non=>cases rx;exact SeqAt.EqAt.int_none a t'
    | bl b=>cases rx;exact SeqAt.EqAt.int_bool a t' b
    | int b=>obtain ⟨t,rfl⟩:=rx;exact SeqAt.EqAt.int_int a t' b t
    | str b=>obtain ⟨t,rfl⟩:=rx;exact SeqAt.EqAt.int_str a t' b t
    | _=>exact absurd (show false=true from fx) Bool.false_ne_true
  | str a =>
    obtain ⟨t',rfl⟩:=ry
    cases x with
    | non=>cases rx;exact SeqAt.EqAt.str_none a t'
    | bl b=>cases rx;exact SeqAt.EqAt.str_bool a t' b
    | int b=>obtain ⟨t,rfl⟩:=rx;exact SeqAt.EqAt.str_int a t' b t
    | str b=>obtain ⟨t,rfl⟩:=rx;exact SeqAt.EqAt.str_str a t' b t
    | _=>exact absurd (show false=true from fx) Bool.false_ne_true
  | _=>exact absurd (show false=true from fy) Bool.false_ne_true
def eqU (x:V) (u:Value):Bool:=match u with
  | .none=>eqV .non x
  | .bool b=>eqV (.bl b) x
  | .int i _=>eqV (.int i) x
  | .str z _=>eqV (.str z) x
  | _=>false
theorem eqU_of {x y:V} {u:Value} (r:RelV y u) (f:flatV y=true):eqU x u=eqV y x:=by
  cases y with
  | non=>cases r;rfl
  | bl b=>cases r;rfl
  | int i=>obtain ⟨t,rfl⟩:=r;rfl
  | str z=>obtain ⟨t,rfl⟩:=r;rfl
  | _=>exact absurd (show false=true from f) Bool.false_ne_true
theorem any_eqU {x:V}:∀ {xs:List V} {us:List Value},Vals xs us→xs.all flatV=true→us.any (eqU x)=xs.any fun y=>eqV y x
  | _,_,.nil,_=>rfl
  | y :: xs,u :: us,.cons r t,f=>by
    rw [List.all_cons,Bool.and_eq_true] at f
    rw [List.any_cons,List.any_cons,eqU_of r f.1,any_eqU t f.2]
theorem mem_eqAt {A:Around} {s:Shared} {x:V} {v:Value} (rx:RelV x v) (fx:flatV x=true):∀ {xs:List V} {us:List Value},Vals xs us→xs.all flatV=true→∀ u∈us,SeqAt.EqAt A s u v (eqU x u)
  | _,_,.nil,_=>fun u hu=>by cases hu
  | y :: xs,u :: us,.cons r t,f=>fun u' hu=>by
    rw [List.all_cons,Bool.and_eq_true] at f
    rcases List.mem_cons.mp hu with rfl | hu
    · rw [eqU_of r f.1];exact eqAt_V r rx f.1 fx
    · exact mem_eqAt rx fx t f.2 u' hu
def inV (x:V) (xs:List V):Bool:=xs.any fun y=>eqV y x
def rIn (K:PySem.W.Frag) (neg:Bool):R2:=fun x y H Q=>∃ p xs,y=.ref p∧(SqL K H p xs∨SqT K H p xs)∧flatV x=true∧xs.all flatV=true∧Q (.bl (if neg then !inV x xs else inV x xs)) H
theorem op_in_seq:OpR X (compareOp .In) (rIn X.K false):=by
  intro pins s σ H x y v u Q I rx ry h
  obtain ⟨p,xs,rfl,hq,fx,fs,q⟩:=h
  cases ry
  rcases hq with hq | hq
  · obtain ⟨its,r,pl,hz⟩:=I.list hq
    refine SeqAt.in_listAt (eqU x) pl.isList (fun w hw=>mem_eqAt rx fx r fs w (by simpa using hw)) ⟨.bl _,H,I,rfl,?_⟩
    rw [show its.toArray.any (eqU x)=its.any (eqU x) by simp,any_eqU r fs]
    exact q
  · obtain ⟨its,r,pl,hz⟩:=I.tuple hq
    refine SeqAt.in_tupleAt (eqU x) pl (fun w hw=>mem_eqAt rx fx r fs w (by simpa using hw)) ⟨.bl _,H,I,rfl,?_⟩
    rw [show its.toArray.any (eqU x)=its.any (eqU x) by simp,any_eqU r fs]
    exact q
def tyV (K:PySem.W.Frag) (T:String) (x:V) (H:Hp):Prop:=match x with
  | .str _=>T="str"
  | .int _=>T="int"
  | .ref p=>(T="list"∧∃ xs,SqL K H p xs)∨(T="tuple"∧∃ o,K.lookup p=some o∧o.cls=.type "tuple"∧o.dict=none) ∨
      (T="dict"∧((∃ kvs,H p=some (.dK kvs))∨∃ kvs,H p=some (.dT kvs)))∨(T="set"∧∃ S n,H p=some (.set S n))
  | _=>False
theorem tyV_is {pins:List (Addr × Obj)} {σ:St} {H:Hp} {s:Shared} {T:String} {x:V} {v:Value} (I:Inv X pins σ H s) (r:RelV x v) (ty:tyV X.K T x H) :
    s.TypeIs v T∧∀ a,v=.ref a→∃ ob,s.heap.get? a=some ob∧ob.dict=none:=by
  cases x with
  | str z =>
    obtain ⟨t,rfl⟩:=r
    cases (show T="str" from ty)
    exact ⟨typeIs_str s z t,fun _ e=>nomatch e⟩
  | int i =>
    obtain ⟨t,rfl⟩:=r
    cases (show T="int" from ty)
    exact ⟨typeIs_int s i t,fun _ e=>nomatch e⟩
  | ref p =>
    cases r
    rcases ty with ⟨rfl,xs,hq⟩ | ⟨rfl,o,hk,hc,hd⟩ | ⟨rfl,hk⟩ | ⟨rfl,S,n,hk⟩
    · obtain ⟨its,_,pl,_⟩:=I.list hq
      refine ⟨pl.isList.typeIs,fun a e=>?_⟩
      cases e
      obtain ⟨o,n,e,c,hd,_⟩:=pl
      exact ⟨o,e,hd⟩
    · refine ⟨⟨o,I.kIn p o hk,hc⟩,fun a e=>?_⟩
      cases e
      exact ⟨o,I.kIn _ o hk,hd⟩
    · have z:∃ o,s.heap.get? p=some o∧o.ExactDict:=by
        rcases hk with ⟨kvs,hk⟩ | ⟨kvs,hk⟩
        · obtain ⟨_,_,_,_,o,_,_,e,ex,_⟩:=I.hok p _ hk
          exact ⟨o,e,ex⟩
        · obtain ⟨_,_,_,_,o,_,_,e,ex,_⟩:=I.hok p _ hk
          exact ⟨o,e,ex⟩
      obtain ⟨o,e,ex⟩:=z
      refine ⟨⟨o,e,ex.1⟩,fun a e2=>?_⟩
      cases e2
      exact ⟨o,e,ex.2.1⟩
    · obtain ⟨o,_,_,_,e,ex,_⟩:=I.hok p _ hk
      refine ⟨⟨o,e,ex.1⟩,fun a e2=>?_⟩
      cases e2
      exact ⟨o,e,ex.2.1⟩
  | _=>exact False.elim ty
def tBM0 (K:PySem.W.Frag) (T:String) (r:V→List V→Hp→VK→Prop) (to:TE):TE:=fun σ H Q=>to σ H fun x H1=>tyV K T x H1∧r x [] H1 Q
def tBM (K:PySem.W.Frag) (T:String) (r:V→List V→Hp→VK→Prop) (to:TE) (t:TA):TE:=fun σ H Q=>to σ H fun x H1=>tyV K T x H1∧t σ H1 fun xs H2=>r x xs H2 Q
variable {o e:Expr} {es:List Expr} {to:TE} {t:TA} {name:Str} {apos cpos:Pos} {T id:String} {r:V→List V→Hp→VK→Prop}
theorem pe_bm0 (pa:PlainAttrs T) (slot:Slot T name id) (hty:typeOf (.builtin id)=pure (.type "method_descriptor")) (hm:MtR X id r) (ho:PE X o to)
    (hbase:attributeBase o name X.env (eval o X.env)=eval o X.env:=by rfl) (hline:(apos.endLine == cpos.line)=true:=by rfl):PE X (.Call (.Attribute o name apos) [] [] cpos) (tBM0 X.K T r to):=by
  intro pins s σ H Q I h
  refine wpAny_Call_method0_late hbase hline (thn (ho pins s σ H _ I h) fun v s1 ⟨x,H1,I1,r1,ty,q1⟩=>?_)
  obtain ⟨h1,h2⟩:=tyV_is I1 r1 ty
  exact ⟨T,id,pa,slot,hty,h1,h2,Calls.callWith_builtin rfl (PySem.evalArgs_none (hm pins s1 σ H1 x [] v [] Q I1 r1 .nil q1))⟩
theorem pe_bm (pa:PlainAttrs T) (slot:Slot T name id) (hty:typeOf (.builtin id)=pure (.type "method_descriptor")) (hm:MtR X id r) (ho:PE X o to) (ha:PA X (e :: es) t)
    (hbase:attributeBase o name X.env (eval o X.env)=eval o X.env:=by rfl)
    (hfew:((backTo cpos (starEach (e :: es) X.env)).all (fun x=>!x.1) && (backToKw cpos (keywordEach [] X.env)).all (fun x=>x.1.isSome)
      && decide ((e :: es).length + ([]:List Keyword).length + (if ([]:List Keyword).isEmpty then 0 else 1) < 30))=true:=by rfl)
    (hline:(apos.endLine == cpos.line)=true:=by rfl) (hs:starEach (e :: es) X.env=(false,eval e X.env) :: starEach es X.env:=by rfl) (hplain:(backTo cpos (starEach es X.env)).any (·.1)=false:=by rfl) :
    PE X (.Call (.Attribute o name apos) (e :: es) [] cpos) (tBM X.K T r to t):=by
  intro pins s σ H Q I h
  refine wpAny_Call_method_late hbase hfew hline rfl (thn (ho pins s σ H _ I h) fun v s1 ⟨x,H1,I1,r1,ty,q1⟩=>?_)
  obtain ⟨h1,h2⟩:=tyV_is I1 r1 ty
  refine ⟨T,id,pa,slot,hty,h1,h2,?_⟩
  have hA:=ha cpos pins s1 σ H1 _ I1 q1
  rw [hs] at hA ⊢
  refine Calls.callWith_builtin (by show (false || (backTo cpos (starEach es X.env)).any (·.1))=false;rw [hplain] <;> rfl) (Calls.evalArgs_plain ?_)
  exact thn hA fun us s2 ⟨vs,H2,I2,r2,q2⟩=>hm pins s2 σ H2 x vs v us Q I2 r1 r2 q2
end
end L2
namespace L2
open PySem PySem.Spec PyProof.Rows
def MtM (X:Cx) (id:String) (r:V→List V→Hp→VK→Prop):Prop :=
  ∀ (pins:List (Addr × Obj)) (s:Shared) (σ:St) (H:Hp) (x:V) (xs:List V) (v:Value) (us:List Value) (Q:VK),Inv X pins σ H s→RelV x v→Vals xs us→r x xs H Q →
    wpAny (model X.prog X.w) X.A (call (.builtin id) (v :: us)) (EP X pins σ Q) X.xe s
theorem Vals.one:∀ {x:V} {us:List Value},Vals [x] us→∃ u,us=[u]∧RelV x u
  | _,_,.cons r .nil=>⟨_,rfl,r⟩
theorem Vals.zero:∀ {us:List Value},Vals [] us→us=[]
  | _,.nil=>rfl
theorem Vals.dropLast {xs:List V} {us:List Value} (h:Vals xs us):Vals xs.dropLast us.dropLast:=by
  induction h with
  | nil=>exact .nil
  | cons r t ih =>
    cases t with
    | nil=>exact .nil
    | cons q t'=>exact .cons r ih
theorem erase_last {α:Type} (l:List α):l.eraseIdx (l.length - 1)=l.dropLast:=by
  induction l with
  | nil=>rfl
  | cons a r ih =>
    cases r with
    | nil=>rfl
    | cons b r =>
      have e:(a :: b :: r).length - 1=((b :: r).length - 1) + 1:=by
        have h1:(a :: b :: r).length=r.length + 2:=rfl
        have h2:(b :: r).length=r.length + 1:=rfl
        lia
      rw [e,List.eraseIdx_cons_succ,ih]
      all_goals rfl
section
variable {X:Cx} {pins:List (Addr × Obj)} {σ:St} {H:Hp} {s:Shared} {l b:Addr} {xs ys zs:List V}
theorem Inv.lset {its its':List Value} {n:Nat} {f:Array Value→Array Value} {t':Nat} (I:Inv X pins σ H s) (hH:H l=some (.lst xs))
    (e:s.heap.get? l=some { cls:=.type "list",data:=.seq its.toArray n }) (hf:f its.toArray=its'.toArray) (hv:Vals ys its') (hz:ys.length≤sizeLine) :
    Inv X pins σ (upd H l (.lst ys)) { s with heap:=s.heap.update l (Obj.mapSeq f),toks:=t' }:=by
  have q:=PySem.IsL.update e f
  rw [hf] at q
  refine I.write (x:=l) (e:=l) (by rw [hH];exact trivial) (.inl rfl) (fun b' u hb hu=>(Heap.get?_update_other s.heap (Obj.mapSeq f) (Ne.symm hb)).trans hu) ⟨_,q⟩ ?_
  exact ⟨hz,its',_,hv,q⟩
theorem Inv.lnew {its:List Value} {t':Nat} (I:Inv X pins σ H s) (hv:Vals ys its) (hz:ys.length≤sizeLine) :
    Inv X pins σ (upd H s.heap.objs.size (.lst ys)) { s with heap:=s.heap.push { cls:=.type "list",data:=.seq its.toArray },toks:=t' } :=
  I.laid (fun _ _ q=>Heap.get?_push_of_some _ q) (Nat.le_refl _) ⟨hz,its,0,hv,Heap.get?_push_size _ rfl⟩
theorem Inv.fresh (I:Inv X pins σ H s):H s.heap.objs.size=none:=I.hok.fresh (Nat.le_refl _)
theorem Inv.lstM (I:Inv X pins σ H s) (hH:H l=some (.lst xs)):xs.length≤sizeLine∧∃ (its:List Value) (n:Nat),Vals xs its∧xs.length=its.length∧s.heap.get? l=some { cls:=.type "list",data:=.seq its.toArray n }:=by
  obtain ⟨z,its,n,r,e⟩:=I.hok l _ hH
  exact ⟨z,its,n,r,r.length,e⟩
theorem notLongL {n:Nat} (h:n≤sizeLine):Builtin.List.listTooLong n=false:=by
  unfold Builtin.List.listTooLong
  exact decide_eq_false (by lia)
end
section
variable {X:Cx}
def rAppend:V→List V→Hp→VK→Prop:=fun x vs H Q=>∃ l xs y,x=.ref l∧vs=[y]∧H l=some (.lst xs)∧xs.length < sizeLine∧Q .non (upd H l (.lst (xs ++ [y])))
theorem mt_append:MtM X "list.append" rAppend:=by
  intro pins s σ H x vs v us Q I rx rv h
  obtain ⟨l,xs,y,rfl,rfl,hH,hz,q⟩:=h
  cases rx
  obtain ⟨u,rfl,ru⟩:=rv.one
  obtain ⟨z,its,n,r,hl,e⟩:=I.lstM hH
  refine call_meets F.slot_list_append ⟨_,e,rfl⟩ F.entry_list_append (F.args_list_append_2 _ _) (PySem.list_append l its.toArray n u (by rw [List.size_toArray];lia)) ⟨e,?_⟩
  refine ⟨.non,_,I.lset (its':=its ++ [u]) hH e (by simp) (r.append (.cons ru .nil)) ?_,rfl,q⟩
  rw [List.length_append,List.length_singleton]
  lia
def rExtend:V→List V→Hp→VK→Prop:=fun x vs H Q=>∃ l b xs zs,x=.ref l∧vs=[.ref b]∧H l=some (.lst xs)∧H b=some (.lst zs)∧xs.length + zs.length≤sizeLine∧Q .non (upd H l (.lst (xs ++ zs)))
theorem mt_extend:MtM X "list.extend" rExtend:=by
  intro pins s σ H x vs v us Q I rx rv h
  obtain ⟨l,b,xs,zs,rfl,rfl,hH,hB,hz,q⟩:=h
  cases rx
  obtain ⟨u,rfl,ru⟩:=rv.one
  cases ru
  obtain ⟨z,its,n,r,hl,e⟩:=I.lstM hH
  obtain ⟨z2,its2,n2,r2,hl2,e2⟩:=I.lstM hB
  have hsz:its.toArray.size + its2.toArray.size≤sizeLine:=by rw [List.size_toArray,List.size_toArray];lia
  have hlong:¬ (!its.toArray.isEmpty && Builtin.List.listTooLong (its.toArray.size + its2.toArray.size))=true:=by
    rw [notLongL hsz,Bool.and_false]
    exact Bool.false_ne_true
  refine call_meets F.slot_list_extend ⟨_,e,rfl⟩ F.entry_list_extend (F.args_list_extend_2 _ _)
    (AutoSeq1.list_extend_list_list_0 l its.toArray n b its2.toArray n2 hlong (by rw [List.size_toArray];lia) (by lia)) ⟨e,e2,?_⟩
  refine ⟨.non,_,I.lset (its':=its ++ its2) hH e (by simp) (r.append r2) ?_,rfl,q⟩
  rw [List.length_append]
  lia
def rPop:V→List V→Hp→VK→Prop:=fun x vs H Q=>∃ l xs y,x=.ref l∧vs=[]∧H l=some (.lst xs)∧xs[xs.length - 1]?=some y∧Q y (upd H l (.lst xs.dropLast))
theorem mt_pop:MtM X "list.pop" rPop:=by
  intro pins s σ H x vs v us Q I rx rv h
  obtain ⟨l,xs,y,rfl,rfl,hH,hy,q⟩:=h
  cases rx
  have hus:=rv.zero
  subst hus
  obtain ⟨z,its,n,r,hl,e⟩:=I.lstM hH
  obtain ⟨u,hu,ru⟩:=r.get hy
  have hy':its.toArray[its.toArray.size - 1]?=some u:=by
    show its.toArray[its.length - 1]?=some u
    rw [← Array.getElem?_toList,← hl]
    exact hu
  refine call_meets F.slot_list_pop ⟨_,e,rfl⟩ F.entry_list_pop (F.args_list_pop_1 _) (MeetsSeq.list_pop_last l its.toArray n u hy' (by rw [List.size_toArray];lia)) ⟨e,?_⟩
  refine ⟨y,_,I.lset (its':=its.dropLast) hH e ?_ r.dropLast ?_,ru,q⟩
  · show its.toArray.eraseIdxIfInBounds (its.toArray.size - 1)=its.dropLast.toArray
    rw [List.size_toArray,List.eraseIdxIfInBounds_toArray,erase_last]
  · rw [List.length_dropLast]
    lia
def rClear:V→List V→Hp→VK→Prop:=fun x vs H Q=>∃ l xs,x=.ref l∧vs=[]∧H l=some (.lst xs)∧Q .non (upd H l (.lst []))
theorem mt_clear:MtM X "list.clear" rClear:=by
  intro pins s σ H x vs v us Q I rx rv h
  obtain ⟨l,xs,rfl,rfl,hH,q⟩:=h
  cases rx
  have hus:=rv.zero
  subst hus
  obtain ⟨z,its,n,r,hl,e⟩:=I.lstM hH
  refine call_meets F.slot_list_clear ⟨_,e,rfl⟩ F.entry_list_clear (F.args_list_clear_1 _) (AutoSeq1.list_clear_list_0 l its.toArray n (by rw [List.size_toArray];lia)) ⟨e,?_⟩
  exact ⟨.non,_,I.lset (its':=[]) (ys:=[]) hH e rfl .nil (Nat.zero_le _),rfl,q⟩
def rCat:R2:=fun x y H Q=>∃ l b xs zs,x=.ref l∧y=.ref b∧H l=some (.lst xs)∧H b=some (.lst zs)∧xs.length + zs.length≤sizeLine∧∀ p,H p=none→Q (.ref p) (upd H p (.lst (xs ++ zs)))
theorem op_cat:OpR X (binaryOp .Add) rCat:=by
  intro pins s σ H x y v u Q I rx ry h
  obtain ⟨l,b,xs,zs,rfl,rfl,hH,hB,hz,q⟩:=h
  cases rx
  cases ry
  obtain ⟨z,its,n,r,hl,e⟩:=I.lstM hH
  obtain ⟨z2,its2,n2,r2,hl2,e2⟩:=I.lstM hB
  refine PySem.P.add_list e e2 ?_ (by rw [List.size_toArray,List.size_toArray];lia)
  have ea:its.toArray ++ its2.toArray=(its ++ its2).toArray:=by simp
  rw [ea]
  exact ⟨.ref _,_,I.lnew (t':=s.toks) (r.append r2) (by rw [List.length_append];lia),rfl,q _ I.fresh⟩
def rRep:R2:=fun x y H Q=>∃ l k xs,x=.ref l∧y=.int k∧H l=some (.lst xs)∧-(2 ^ 63)≤k∧k < 2 ^ 63∧xs.length * k.toNat≤sizeLine ∧
  ∀ p,H p=none→Q (.ref p) (upd H p (.lst (List.replicate k.toNat xs).flatten))
end
section
variable {prog:Program} {w:World} {A:Around} {E:Value→Shared→Prop} {s:Shared}
set_option maxRecDepth 100000 in
end
section
variable {X:Cx}
end
end L2
namespace L2
open PySem PySem.Spec PyProof.Rows
section
variable {κ:Type} [DecidableEq κ]
def valV (kvs:List (κ × V)) (k:κ):Option V:=(kvs.find? fun kv=>decide (kv.1=k)).map (·.2)
def putK (kvs:List (κ × V)) (k:κ) (v:V):List (κ × V) :=
  if (kvs.any fun kv=>decide (kv.1=k))=true then kvs.map (fun kv=>if kv.1=k then (kv.1,v) else kv) else kvs ++ [(k,v)]
def dropK (kvs:List (κ × V)) (k:κ):List (κ × V):=kvs.filter fun kv=>decide (kv.1≠k)
theorem valV_pos {p:κ × V} {r:List (κ × V)} {k:κ} (e:p.1=k):valV (p :: r) k=some p.2:=by simp [valV,List.find?_cons,e]
theorem valV_neg {p:κ × V} {r:List (κ × V)} {k:κ} (e:¬ p.1=k):valV (p :: r) k=valV r k:=by simp [valV,List.find?_cons,e]
theorem valV_any (k:κ):∀ kvs:List (κ × V),(kvs.any fun kv=>decide (kv.1=k))=(valV kvs k).isSome
  | []=>rfl
  | p :: r=>by
    rw [List.any_cons]
    by_cases e:p.1=k
    · simp only [valV_pos e,decide_eq_true e,Bool.true_or,Option.isSome_some]
    · rw [valV_neg e,decide_eq_false e,Bool.false_or];exact valV_any k r
theorem valV_map (k j:κ) (y:V):∀ kvs:List (κ × V),valV (kvs.map fun kv=>if kv.1=k then (kv.1,y) else kv) j=(valV kvs j).map fun x=>if j=k then y else x
  | []=>rfl
  | p :: r=>by
    have ih:=valV_map k j y r
    rw [List.map_cons]
    by_cases h:p.1=k
    · rw [if_pos h]
      by_cases e:p.1=j
      · rw [valV_pos (p:=(p.1,y)) e,valV_pos e,Option.map_some,if_pos (e.symm.trans h)]
      · rw [valV_neg (p:=(p.1,y)) e,valV_neg e,ih]
    · rw [if_neg h]
      by_cases e:p.1=j
      · rw [valV_pos (p:=p) e,valV_pos e,Option.map_some,if_neg (fun z=>h (e.trans z))]
      · rw [valV_neg (p:=p) e,valV_neg e,ih]
theorem valV_snoc (k j:κ) (y:V):∀ kvs:List (κ × V),valV kvs k=none→valV (kvs ++ [(k,y)]) j=if j=k then some y else valV kvs j
  | [],_=>by
    by_cases e:k=j
    · rw [if_pos e.symm];exact valV_pos (p:=(k,y)) e
    · rw [if_neg (fun z=>e z.symm)];exact valV_neg (p:=(k,y)) e
  | p :: r,hn=>by
    rw [List.cons_append]
    have hk:¬ p.1=k:=fun z=>by rw [valV_pos z] at hn;cases hn
    rw [valV_neg hk] at hn
    have ih:=valV_snoc k j y r hn
    by_cases e:p.1=j
    · rw [valV_pos e,valV_pos e,if_neg (fun z=>hk (e.trans z))]
    · rw [valV_neg e,valV_neg e,ih]
theorem putK_new {kvs:List (κ × V)} {k:κ} (v:V) (h:valV kvs k=none):putK kvs k v=kvs ++ [(k,v)]:=by
  unfold putK
  rw [valV_any,h]
  exact if_neg (by decide)
end
section
variable {P:Program} {w:World} {H:Hp} {h:Heap} {a:Addr}
end
def DGet (H:Hp) (a:Addr) (y:V) (r:Option V):Prop :=
  (∃ kvs k,Rd H a (.dK kvs)∧y=kV k∧r=valV kvs k)∨∃ kvs k b,Rd H a (.dT kvs)∧y=.ref b∧H b=some (.tup (k.map kV))∧r=valV kvs k
def DPut (H:Hp) (a:Addr) (y v:V) (H':Hp):Prop :=
  (∃ kvs k,H a=some (.dK kvs)∧y=kV k∧kvs.length < sizeLine∧H'=upd H a (.dK (putK kvs k v))) ∨
  ∃ kvs k b,H a=some (.dT kvs)∧y=.ref b∧H b=some (.tup (k.map kV))∧kvs.length < sizeLine∧H'=upd H a (.dT (putK kvs k v))
section
variable {X:Cx} {pins:List (Addr × Obj)} {σ:St} {H:Hp} {s:Shared} {a:Addr} {y v:V} {u r:Value} {o:Option V} {A:Around} {E:Value→Shared→Prop}
end
section
variable {X:Cx} {pins:List (Addr × Obj)} {σ:St} {H:Hp} {s:Shared} {a:Addr} {kvs:List (Key × V)} {k:Key} {u:Value} {A:Around} {E:Value→Shared→Prop}
end
def tDGet (td ty:TE):TE:=fun σ H Q=>td σ H fun x H1=>ty σ H1 fun y H2=>∃ a v,x=.ref a∧DGet H2 a y (some v)∧Q v H2
def sDPut (td ty tv:TE):TS:=fun D σ H=>tv σ H fun v H1=>td σ H1 fun x H2=>ty σ H2 fun y H3=>∃ a H4,x=.ref a∧DPut H3 a y v H4∧D.nx σ H4
section
variable {X:Cx} {o i e value:Expr} {pos pos' tpos:Pos} {td ty tv:TE}
end
def tDNewK:TE:=fun _ H Q=>∀ p,H p=none→Q (.ref p) (upd H p (.dK []))
def tDNewT:TE:=fun _ H Q=>∀ p,H p=none→Q (.ref p) (upd H p (.dT []))
section
variable {X:Cx} {pos:Pos}
end
def tPairs:List (TE × TE)→St→Hp→(List (V × V)→Hp→Prop)→Prop
  | [],_,H,Q=>Q [] H
  | (tk,tv) :: r,σ,H,Q=>tk σ H fun x H1=>tv σ H1 fun y H2=>tPairs r σ H2 fun ps H3=>Q ((x,y) :: ps) H3
def mergeK (kvs more:List (Key × V)):List (Key × V):=more.foldl (fun acc kv=>putK acc kv.1 kv.2) kvs
def tDisp (trs:List (TE × TE)):TE:=fun σ H Q=>∀ p,H p=none→tPairs trs σ (upd H p (.dK [])) fun ps H2=>H2 p=some (.dK [])∧∃ kvs:List (Key × V),ps=kvs.map (fun kv=>(kV kv.1,kv.2))∧kvs.length≤15∧Q (.ref p) (upd H2 p (.dK (mergeK [] kvs)))
def IsD (H:Hp) (a:Addr):Prop:=(∃ kvs,Rd H a (.dK kvs))∨∃ kvs,Rd H a (.dT kvs)
section
variable {X:Cx} {pins:List (Addr × Obj)} {σ:St} {H:Hp} {s:Shared} {a:Addr} {y d:V} {u r:Value} {o:Option V} {A:Around} {E:Value→Shared→Prop}
end
def tDGet2 (td ty tx:TE):TE:=fun σ H Q=>td σ H fun x H1=>∃ a,x=.ref a∧IsD H1 a∧ty σ H1 fun y H2=>tx σ H2 fun z H3=>∃ o,DGet H3 a y o∧Q (o.getD z) H3
section
variable {X:Cx} {o e f:Expr} {apos cpos:Pos} {td ty tx:TE}
end
section
variable {X:Cx} {pins:List (Addr × Obj)} {σ:St} {H:Hp} {s:Shared} {a:Addr} {kvs:List (Key × V)} {A:Around} {E:Value→Shared→Prop}
end
section
variable {X:Cx} {pins:List (Addr × Obj)} {σ:St} {H:Hp} {s:Shared} {a:Addr} {y:V} {u:Value} {A:Around} {E:Value→Shared→Prop}
end
end L2
namespace Att
open PySem PySem.W PySem.Calls PyProof.Rows
theorem ints_of_wellAll {P:Params} {h:Heap}:∀ (ns:List Int) (vs:List Value),WellAll P h vs (ns.map WData.int)→IntsAre vs ns:=by
  intro ns
  induction ns with
  | nil =>
    intro vs w
    rw [List.map_nil] at w
    cases w
    exact .nil
  | cons n ns ih =>
    intro vs w
    rw [List.map_cons] at w
    cases w with
    | cons a b =>
      cases a
      exact .cons _ _ (ih _ b)
theorem script_of {l:OpenLaw} {n:Nat} (hn:l.most=some n) {P:Params} {h:Heap} {args:List WData} {vals:List Value}
    (hpre:l.row.toRowW.claim.pre args=true) (hwl:WellAll P h vals args) :
    ∃ a vs ns,vals=[Value.ref a]∧args=[WData.list (ns.map WData.int)]∧h.get? a=some { cls:=.type "list",data:=.seq vs.toArray }∧IntsAre vs ns∧ns.length≤n:=by
  have hsh:WShape.hasAll [] args [.list .int]=true:=(pre_splitW hpre).1
  have hc:l.pre.holds [] { args:=args }=true:=(pre_splitW hpre).2
  obtain ⟨d,r,rfl,h1,h2⟩:=hasAllW_cons hsh
  obtain rfl:=hasAllW_nil h2
  obtain ⟨xs,rfl,h3⟩:=hasW_list h1
  obtain ⟨ns,rfl⟩:=items_int h3
  have hlen:ns.length≤n:=by
    unfold OpenLaw.pre at hc
    have h4:(WTm.not (.lt (.lit (.int (n:Int))) (.len (.arg 0)))).holds [] { args:=[.list (ns.map .int)] }=true:=by
      have h4:=(holds_andW hc).1
      rw [hn] at h4
      exact h4
    have h5:=condW_of h4 (w_not (w_lt w_lit (w_len_list (w_arg rfl))))
    rw [List.length_map] at h5
    refine Nat.le_of_not_lt fun q=>?_
    have q':(n:Int) < ((ns.length:Nat):Int):=by lia
    first
      | (rw [decide_eq_true q'] at h5;exact absurd h5 (by decide))
      | (simp at h5;lia)
  cases hwl with
  | cons w1 w2 =>
    cases w2
    cases w1 with
    | list ho hall=>exact ⟨_,_,ns,rfl,rfl,ho,ints_of_wellAll ns _ hall,hlen⟩
theorem post_true (l:OpenLaw) (args:List WData):l.row.toRowW.claim.post args (.bool true) args=true :=
  postW_of (r:=l.row.toRowW) (X:=(true == true))
    (show WShape.has [] (.bool true) .bool=true by first | rfl | decide | simp [WShape.has,WShape.arms,WShape.armsAll])
    (show (WTm.eq .res (.lit (.bool true))).value [] { args:=args,res:=some (.bool true),after:=args }=some (.bool (true == true)) from w_eq_bool (w_res rfl) w_lit) rfl
theorem attach_call {l:OpenLaw} {n:Nat} {q:Program} {loose:List Str} {XP:(Str→Option Value)→Heap→Prop} {YP:World→Heap→Prop} {d:DefRec}
    (hn:l.most=some n) (hdf:d.params.defaults=[])
    (call:∀ (w:World) (s₀ s₁:Shared) (mg mb:Str→Option Value) (fa:Addr) (o:Obj) (pm cd doc:Value) (a:Addr) (vs:List Value) (ns:List Int),
      Ground q loose [] XP w s₀ mg mb s₁.heap→YP w s₁.heap →
      s₁.heap.get? fa=some o→o.data=.func (docDef d.name d.params d.body d.scope pm cd doc)→s₁.heap.CodeRec cd d.name→mg d.name=some (.ref fa) →
      s₁.heap.get? a=some { cls:=.type "list",data:=.seq vs.toArray }→IntsAre vs ns→ns.length≤n→s₁.gens=#[] →
      codeAny (model l.prog w) callerA (.call (.ref fa) ⟨[.ref a],[]⟩) (fun r s'=>r=.ok (.ret (.bool true))∧OldK s₁.heap s'.heap∧s'.os=s₁.os∧AllBare s'.gens) s₁) :
    WalkO q loose XP YP l.row.toRowW d [] (fun f vs=>PySem.call f vs):=by
  intro w s₀ s₁ mg mb G Y fa o pm cd doc dV kV ho hd hcd hD hmg hg args vals as hpre hlay hrd hwl hlo
  obtain rfl:dV=.none:=Dflts.none hD hdf
  obtain rfl:kV=.none:=Dflts.noKw hD
  obtain ⟨a,vs,ns,rfl,rfl,hobj,hints,hlen⟩:=script_of hn hpre hwl
  refine enter_call (codeAny_mono (call w s₀ s₁ mg mb fa o pm cd doc a vs ns G Y ho (fd_plain hd) hcd hmg hobj hints hlen hg) fun r s' hq=>?_)
  obtain ⟨rfl,h2,h3,h4⟩:=hq
  exact ⟨.inl ⟨.bool true,.bool true,[],rfl,fun _=>rfl,.bool true,post_true l _,fun _=>⟨List.Pairwise.nil,fun _ hm=>(nomatch hm)⟩⟩,h2,h3,h4⟩
section
variable {prog:Program} {w:World} {A:Around} {E:Value→Shared→Prop} {s:Shared} {K:Frag}
def ledger (h:Heap) (L d:Addr):List (Addr × Obj):=(List.range h.objs.size).filterMap fun a=>if a=L∨a=d then none else (h.get? a).map fun o=>(a,o)
end
end Att
namespace L2
open PySem PySem.Spec PyProof.Rows
theorem vals_ints:∀ {vs:List Value} {ns:List Int},IntsAre vs ns→Vals (ns.map V.int) vs
  | _,_,.nil=>.nil
  | _,_,.cons n t h=>.cons ⟨t,rfl⟩ (vals_ints h)
def Only (H:Hp):Prop:=∀ b,H b=none∨∃ o xs,H b=some (.frz o (.lst xs))
theorem law_call {P:Program} {w:World} {K:PySem.W.Frag} {mg mb:Str→Option Value} {CX:CXT} {k:Nat} {fa a:Addr} {fd:FuncData} {x:Str} {sp:Sp} {s₁:Shared} {vs:List Value} {ns:List Int}
    (KX:K.In s₁.heap) (hns:s₁.heap.Ns mainGlobals mg) (hb:s₁.heap.Ns builtinsNs mb) (hbb:∀ x:Str,x≠"__name__"→mb x=bootBuiltins x) (hlim:s₁.heap.NoLimit) (hg:s₁.gens=#[])
    (ha:s₁.heap.get? a=some { cls:=.type "list",data:=.seq vs.toArray }) (hi:IntsAre vs ns) (hl:ns.length≤sizeLine) (hr:Room k callerA)
    (F:∀ base:Heap,K.In base→base.Ns mainGlobals mg→FnOk P w K mg base CX k fa fd [x] sp) (hbind:∀ (s:Shared) (u:Value),BindsTo s fd ⟨[u],[]⟩ [(x,u)])
    (hsp:∀ H:Hp,Only H→SqL K H a (ns.map V.int)→sp [.ref a] H (fun v _=>v=.bl true) fun _ _ _=>False)
    (hCX:∀ H e s',CX [] H s₁ (fun _ _ _=>False) e s'→False) :
    codeAny (model P w) callerA (.call (.ref fa) ⟨[.ref a],[]⟩) (fun r s'=>r=.ok (.ret (.bool true))∧OldK s₁.heap s'.heap∧s'.os=s₁.os∧AllBare s'.gens) s₁:=by
  have rv:=vals_ints hi
  have lenV:=hi.length
  -- from an abstract heap in which nothing but the script may be tracked
  have core:∀ H:Hp,Only H→SqL K H a (ns.map V.int)→HOk P w H s₁.heap→(∀ b,H b≠none→b=a)→(H a≠none→K.lookup a=none) →
      codeAny (model P w) callerA (.call (.ref fa) ⟨[.ref a],[]⟩) (fun r s'=>r=.ok (.ret (.bool true))∧OldK s₁.heap s'.heap∧s'.os=s₁.os∧AllBare s'.gens) s₁:=by
    intro H hO hS hok hA hK
    have base_of:∀ {b:Addr} {o:Obj},s₁.heap.get? b=some o→H b=none→(hidT s₁.heap H).get? b=some o:=fun e n=>hidT_get e n
    have noA:∀ {b:Addr} {o:Obj} {es:Array DictEntry} {ep:Nat},s₁.heap.get? b=some o→o.data=.dict es ep→H b=none:=fun {b o es ep} e d=>by
      cases q:H b with
      | none=>rfl
      | some u =>
        have e':b=a:=hA b (by rw [q];simp)
        subst e'
        rw [ha] at e;cases e
        have d':Data.seq vs.toArray _=Data.dict es ep:=d
        cases d'
    have nsK:∀ {b:Addr} {m:Str→Option Value},s₁.heap.Ns b m→(hidT s₁.heap H).Ns b m:=fun {b m} ⟨o,es,ep,e,d,r⟩=>⟨o,es,ep,base_of e (noA e d),d,r⟩
    have hKb:K.In (hidT s₁.heap H):=fun b o e=>base_of (KX b o e) (by
      cases q:H b with
      | none=>rfl
      | some u =>
        have e':b=a:=hA b (by rw [q];simp)
        subst e'
        rw [hK (by rw [q];simp)] at e;cases e)
    have hM:Mod K mg (hidT s₁.heap H):=⟨hKb,nsK hns,⟨mb,nsK hb,hbb⟩,let ⟨mc,h1,h2⟩:=hlim;⟨mc,nsK h1,h2⟩⟩
    have e0:Env0 P w K mg (hidT s₁.heap H) callerA [] s₁ H:=⟨rfl,hM,fun b o e=>of_hidT e,Nat.le_of_eq (hidT_size _ _),trivial,fun b hb=>absurd (show b∈([]:List Addr) from hb) (by simp),hok,.of_eq hg⟩
    refine codeAny_mono ((F _ hKb (nsK hns)).run callerA [] s₁ H ⟨[.ref a],[]⟩ [.ref a] [.ref a] _ _ hr e0 (hbind s₁ (.ref a)) (.cons rfl .nil) (hsp H hO hS)) fun r s' h=>?_
    cases r with
    | error e=>exact (hCX H e s' h).elim
    | ok fl =>
      cases fl with
      | next=>exact False.elim h
      | brk=>exact False.elim h
      | cont=>exact False.elim h
      | ret u =>
        obtain ⟨v,H',os,bare,un,hok',r',q⟩:=h
        have q':v=.bl true:=q
        subst q'
        obtain rfl:u=Value.bool true:=r'
        refine ⟨rfl,OldK.of_keep fun b o e=>?_,os,bare⟩
        cases q:H b with
        | none=>exact un.keep b o e q (by intro z;exact absurd (show b∈([]:List Addr) from z) (by simp)) (by simp)
        | some u =>
          rcases hO b with z | ⟨ob,xs,z⟩
          · rw [q] at z;cases z
          · have z2:=un.frzs b ob _ z
            obtain ⟨e1,_⟩:=hok b _ z
            obtain ⟨e2,_⟩:=hok' b _ z2
            rw [e] at e1;cases e1
            exact e2
  cases hk:K.lookup a with
  | some o =>
    -- the script is one of the module's own objects
    have e:=KX a o hk
    rw [ha] at e
    cases e
    refine core (fun _=>none) (fun _=>.inl rfl) (.inr ⟨_,vs.toArray,_,hk,rfl,rfl,rfl,by rw [List.size_toArray,lenV];exact hl,by simpa using rv⟩) (fun b u z=>by have z':(none:Option HO)=some u:=z;cases z') (fun b z=>absurd rfl z) fun z=>absurd rfl z
  | none =>
    refine core (fun b=>if b=a then some (.frz { cls:=.type "list",data:=.seq vs.toArray } (.lst (ns.map V.int))) else none) (fun b=>?_) (.inl (.inr ⟨{ cls:=.type "list",data:=.seq vs.toArray },if_pos rfl⟩)) (fun b u z=>?_) (fun b z=>?_) fun _=>hk
    · by_cases hb:b=a
      · exact .inr ⟨_,_,if_pos hb⟩
      · exact .inl (if_neg hb)
    · by_cases hb:b=a
      · have z':=(if_pos hb).symm.trans z
        cases z'
        subst hb
        exact ⟨ha,by rw [List.length_map];exact hl,vs,_,rv,ha⟩
      · have z':=(if_neg hb).symm.trans z
        cases z'
    · by_cases hb:b=a
      · exact hb
      · exact absurd (if_neg hb) z
end L2
namespace L2
open PySem PySem.Spec PyProof.Rows
abbrev KOf {K:PySem.W.Frag} {h:Heap} (_:K.In h):PySem.W.Frag:=K
theorem walk_of {l:PySem.W.OpenLaw} {n k:Nat} {q:Program} {loose:List Str} {XP:(Str→Option Value)→Heap→Prop} {YP:World→Heap→Prop} {d:DefRec} {K:Params→PySem.W.Frag} {CX:World→CXT} {sp:World→Sp} {x:Str}
    (hn:l.most=some n) (hn2:n≤sizeLine) (hdf:d.params.defaults=[]) (hr:Room k callerA)
    (hY:∀ (w:World) (h:Heap),YP w h→(K w.params).In h)
    (F:∀ (w:World) (mg:Str→Option Value) (fa:Addr) (h:Heap),(K w.params).In h→h.Ns mainGlobals mg→mg d.name=some (.ref fa) →
      ∃ fd:FuncData,(∀ (s:Shared) (u:Value),BindsTo s fd ⟨[u],[]⟩ [(x,u)]) ∧
        ∀ base:Heap,(K w.params).In base→base.Ns mainGlobals mg→FnOk l.prog w (K w.params) mg base (CX w) k fa fd [x] (sp w))
    (hsp:∀ (w:World) (H:Hp) (a:Addr) (ns:List Int),ns.length≤n→Only H→SqL (K w.params) H a (ns.map V.int)→sp w [.ref a] H (fun v _=>v=.bl true) fun _ _ _=>False)
    (hCX:∀ (w:World) (H:Hp) (s:Shared) (e:Value) (s':Shared),CX w [] H s (fun _ _ _=>False) e s'→False) :
    PySem.W.WalkO q loose XP YP l.row.toRowW d [] (fun f vs=>PySem.call f vs):=by
  refine Att.attach_call hn hdf fun w s₀ s₁ mg mb fa o pm cd doc a vs ns G Y ho hd hcd hmg hobj hints hlen hg=>?_
  have KX:=hY w _ Y
  obtain ⟨fd,hb,hF⟩:=F w mg fa _ KX G.T.g hmg
  exact law_call KX G.T.g G.T.b G.T.builtins G.T.nolimit hg hobj hints (Nat.le_trans hlen hn2) hr hF hb (fun H hO hS=>hsp w H a ns hlen hO hS) fun H e s'=>hCX w H s₁ e s'
theorem walk_ofK {l:PySem.W.OpenLaw} {n k:Nat} {q:Program} {loose:List Str} {XP:(Str→Option Value)→Heap→Prop} {YP:World→Heap→Prop} {d:DefRec} {K:Params→PySem.W.Frag} {CX:CXT} {sp:PySem.W.Frag→Sp} {x:Str}
    (hn:l.most=some n) (hn2:n≤sizeLine) (hdf:d.params.defaults=[]) (hr:Room k callerA)
    (hY:∀ (w:World) (h:Heap),YP w h→(K w.params).In h)
    (F:∀ (w:World) (mg:Str→Option Value) (fa:Addr) (h:Heap),(K w.params).In h→h.Ns mainGlobals mg→mg d.name=some (.ref fa) →
      ∃ fd:FuncData,(∀ (s:Shared) (u:Value),BindsTo s fd ⟨[u],[]⟩ [(x,u)]) ∧
        ∀ base:Heap,(K w.params).In base→base.Ns mainGlobals mg→FnOk l.prog w (K w.params) mg base CX k fa fd [x] (sp (K w.params)))
    (hsp:∀ (K:PySem.W.Frag) (H:Hp) (a:Addr) (ns:List Int),ns.length≤n→Only H→SqL K H a (ns.map V.int)→sp K [.ref a] H (fun v _=>v=.bl true) fun _ _ _=>False)
    (hCX:∀ (H:Hp) (s:Shared) (e:Value) (s':Shared),CX [] H s (fun _ _ _=>False) e s'→False) :
    PySem.W.WalkO q loose XP YP l.row.toRowW d [] (fun f vs=>PySem.call f vs) :=
  walk_of (K:=K) (CX:=fun _=>CX) (sp:=fun w=>sp (K w.params)) hn hn2 hdf hr hY F (fun w H a ns h1 h2 h3=>hsp (K w.params) H a ns h1 h2 h3) fun _ H s e s'=>hCX H s e s'
end L2
namespace L2
open PySem PySem.Spec PyProof.Rows
def inClass (s:Stmt) (j:Nat):Stmt:=match s with
  | .ClassDef _ _ _ body _ _ _ _ _ _ _=>body.getD j (.Pass ⟨0,0,0,0⟩)
  | _=>.Pass ⟨0,0,0,0⟩
def defArgs (s:Stmt):Arguments:=match s with
  | .FunctionDef _ a _ _ _ _ _ _ _ _=>a
  | _=>{ posonlyargs:=[],args:=[],vararg:=none,kwonlyargs:=[],kw_defaults:=[],kwarg:=none,defaults:=[] }
def defBody (s:Stmt):List Stmt:=match s with
  | .FunctionDef _ _ b _ _ _ _ _ _ _=>b
  | _=>[]
def defScope (s:Stmt):Scope:=match s with
  | .FunctionDef _ _ _ _ _ _ sc _ _ _=>sc
  | _=>{ kind:=.function,names:=[],isGenerator:=false,isCoroutine:=false }
abbrev E0:XK:=fun _ _ _=>False
structure Fun (K:PySem.W.Frag) (x qual:Str) (st:Stmt) (f:Addr) (fd:FuncData):Prop where
  ex:∃ (oc:Value) (od:Option Addr) (kV doc pm:Value) (an:Option Addr) (cdv ct:Value) (osl:Array (Option Value)),
    fd=PySem.W.fnOf x qual (defArgs st) (defBody st) (defScope st) .none kV doc pm an cdv ct∧K.lookup f=some ⟨oc,od,.func fd,osl⟩∧PySem.W.codeIn K cdv qual=true
  kp:PySem.W.keepIn K (.ref f)=true
section
variable {P:Program} {w:World} {K:PySem.W.Frag} {mg:Str→Option Value} {base:Heap}
theorem Fun.binds {x qual:Str} {st:Stmt} {f:Addr} {fd:FuncData} {ps:List Str} (F:Fun K x qual st f fd)
    (h:∀ (kV doc pm:Value) (an:Option Addr) (cdv ct:Value) (us:List Value),us.length=ps.length→bindArgs (PySem.W.fnOf x qual (defArgs st) (defBody st) (defScope st) .none kV doc pm an cdv ct) ⟨us,[]⟩=pure (ps.zip us)):Binds K fd ps []:=by
  obtain ⟨oc,od,kV,doc,pm,an,cdv,ct,osl,rfl,lk,hcd⟩:=F.ex
  exact .all (h kV doc pm an cdv ct)
theorem fun_mk {x qual:Str} {st:Stmt} {f:Addr} {oc:Value} {od an:Option Addr} {osl:Array (Option Value)} {kV doc pm cdv ct:Value} (l:K.lookup f=some ⟨oc,od,.func (PySem.W.fnOf x qual (defArgs st) (defBody st) (defScope st) .none kV doc pm an cdv ct),osl⟩)
    (c:PySem.W.codeIn K cdv qual=true) (k:PySem.W.keepIn K (.ref f)=true):Fun K x qual st f (PySem.W.fnOf x qual (defArgs st) (defBody st) (defScope st) .none kV doc pm an cdv ct):=⟨⟨oc,od,kV,doc,pm,an,cdv,ct,osl,rfl,l,c⟩,k⟩
end
section
variable {X:Cx}
theorem pv (i:Nat) {x:Str} {pos:Pos} (hN:X.N[i]?=some x:=by rfl) (hv:Vis X.env.scope x:=by first | exact Or.inl rfl | exact Or.inr (Or.inl rfl) | exact Or.inr (Or.inr rfl)) (hd:(x == ("__debug__":Str))=false:=by decide)
    (hcd:(x == ("__classdict__":Str))=false:=by decide):PE X (.Name x pos) (tVar i):=pe_var hN hv hd hcd
end
theorem ite2 {c A B:Prop} [Decidable c] (h1:c→A) (h2:¬ c→B):if c then A else B:=by
  by_cases h:c
  · rw [if_pos h]
    exact h1 h
  · rw [if_neg h]
    exact h2 h
def Same (H H':Hp):Prop:=∀ b o,H b=some o→H' b=some o
theorem Same.refl (H:Hp):Same H H:=fun _ _ h=>h
theorem Same.trans {H H1 H2:Hp} (a:Same H H1) (b:Same H1 H2):Same H H2:=fun c o h=>b c o (a c o h)
theorem Same.free {H H':Hp} (e:Same H H') {l:Addr} (h:H' l=Option.none):H l=Option.none:=by
  cases q:H l with
  | none=>rfl
  | some o =>
    rw [e l o q] at h
    cases h
end L2
namespace L2
open PySem PySem.Spec PyProof.Rows
section
variable {X:Cx}
end
section
variable {κ:Type} [DecidableEq κ]
theorem valV_not {kvs:List (κ × V)} {k:κ} (h:valV kvs k=none):¬ k∈kvs.map (·.1):=by
  intro m
  obtain ⟨p,hp,e⟩:=List.mem_map.mp m
  have q:(kvs.any fun kv=>decide (kv.1=k))=true:=List.any_eq_true.mpr ⟨p,hp,decide_eq_true e⟩
  rw [valV_any,h] at q
  exact absurd q (by simp)
theorem nd_snoc:∀ {l:List κ} {k:κ},l.Nodup→¬ k∈l→(l ++ [k]).Nodup
  | [],k,_,_=>by simp
  | a :: r,k,h,hk=>by
    obtain ⟨h1,h2⟩:=List.nodup_cons.mp h
    show (a :: (r ++ [k])).Nodup
    refine List.nodup_cons.mpr ⟨fun m=>?_,nd_snoc h2 fun m=>hk (List.mem_cons.mpr (Or.inr m))⟩
    rcases List.mem_append.mp m with q | q
    · exact h1 q
    · exact hk (List.mem_cons.mpr (Or.inl (List.mem_singleton.mp q).symm))
theorem nd_putK {kvs:List (κ × V)} {k:κ} (v:V) (hn:(kvs.map (·.1)).Nodup) (h:valV kvs k=none):((putK kvs k v).map (·.1)).Nodup:=by
  rw [putK_new v h,List.map_append]
  exact nd_snoc hn (valV_not h)
theorem dropK_neg {p:κ × V} {r:List (κ × V)} {k:κ} (e:¬ p.1=k):dropK (p :: r) k=p :: dropK r k:=by
  unfold dropK
  rw [List.filter_cons,if_pos (by simp [e])]
theorem dropK_no:∀ {kvs:List (κ × V)} {k:κ},¬ k∈kvs.map (·.1)→dropK kvs k=kvs
  | [],_,_=>rfl
  | p :: r,k,h=>by
    have h':¬ k∈r.map (·.1):=fun m=>by
      obtain ⟨q,hq,e⟩:=List.mem_map.mp m
      exact h (List.mem_map.mpr ⟨q,List.mem_cons.mpr (Or.inr hq),e⟩)
    rw [dropK_neg fun e=>h (List.mem_map.mpr ⟨p,List.mem_cons.mpr (Or.inl rfl),e⟩),dropK_no h']
end
end L2
set_option Elab.async false
set_option linter.all false
set_option maxRecDepth 100000
set_option maxHeartbeats 4000000
namespace L2
open PySem PySem.Spec PyProof.Rows
def Cx.comp (X:Cx) (scope:Scope) (cl:List (Str × Addr)) (C:Addr) (N:List Str) (fp:List Addr) (s:Shared) (H:Hp):Cx :=
  { X with env:=compEnvC scope cl C X.env,N:=N,s₀:=s,H₀:=H,outer:=X.stack,ex:=fp,fn:=fun _=>false,pn:=[],xe:=fun _ _=>False }
structure CompScope (X:Cx) (scope:Scope) (cl:List (Str × Addr)) (ix:List Nat):Prop where
  clos:closureFor scope X.env=pure cl
  nocell:∀ y∈scope.names,y.2≠.cell
  kind:scope.kind=.function
  names:∀ y∈scope.names,y.2=.local→scope.names.lookup y.1=some .local
  sub:∀ y c,cl.lookup y=some c→X.env.cells.lookup y=some c
  has:∀ y,((relabel scope X.env).names.lookup y=some .cell∨(relabel scope X.env).names.lookup y=some .free)→∃ c,cl.lookup y=some c
  cap:∀ i∈ix,∃ y,X.N[i]?=some y∧(X.env.kindOf y=some .cell∨X.env.kindOf y=some .free)∧((relabel scope X.env).names.lookup y=some .cell∨(relabel scope X.env).names.lookup y=some .free)
def closOf (scope:Scope) (env:Env):List (Str × Addr):=scope.names.foldl (fun cs y=>if y.2 == .free then (y.1,(env.cells.lookup y.1).getD 0) :: cs else cs) []
def compD (osc:Scope) (N:List Str) (sc:Scope) (ix:List Nat):Bool :=
  sc.kind == .function && sc.names.all (fun y=>y.2 != .cell && (y.2 != .local || sc.names.lookup y.1 == some .local) && (y.2 != .free || osc.names.lookup y.1 == some .cell || osc.names.lookup y.1 == some .free)) &&
    ix.all fun i=>match N[i]? with
      | some y=>sc.names.lookup y == some .free
      | none=>false
theorem mem_of_look {l:List (Str × NameKind)} {y:Str} {k:NameKind} (h:l.lookup y=some k):(y,k)∈l:=PySem.mem_of_lookup h
theorem relabel_look {env:Env}:∀ {names:List (Str × NameKind)} {x:Str} {k:NameKind},(names.map fun (n,k)=>if (k == NameKind.free && env.scope.kind == .function && env.kindOf n == some .cell) then (n,NameKind.cell) else (n,k)).lookup x=some k →
    ∃ k',names.lookup x=some k'∧(k'=.free∨k'=k)
  | [],_,_,h=>by simp at h
  | (n,k') :: r,x,k,h=>by
    have ih:=@relabel_look env r x k
    rw [List.map_cons] at h
    cases hx:x == n with
    | true =>
      by_cases hc:(k' == NameKind.free && env.scope.kind == .function && env.kindOf n == some .cell)=true
      · have e:k'=.free:=by
          have:=(Bool.and_eq_true _ _ ▸ (Bool.and_eq_true _ _ ▸ hc).1).1
          simpa using this
        exact ⟨k',by simp [List.lookup_cons,hx],.inl e⟩
      · simp only [if_neg hc,List.lookup_cons,hx] at h
        exact ⟨k',by simp [List.lookup_cons,hx],.inr (Option.some.inj h)⟩
    | false =>
      have h':(r.map fun (n,k)=>if (k == NameKind.free && env.scope.kind == .function && env.kindOf n == some .cell) then (n,NameKind.cell) else (n,k)).lookup x=some k:=by
        by_cases hc:(k' == NameKind.free && env.scope.kind == .function && env.kindOf n == some .cell)=true
        · simp only [if_pos hc,List.lookup_cons,hx] at h;exact h
        · simp only [if_neg hc,List.lookup_cons,hx] at h;exact h
      obtain ⟨q,e,r'⟩:=ih h'
      exact ⟨q,by simp only [List.lookup_cons,hx];exact e,r'⟩
theorem relabel_free {env:Env}:∀ {names:List (Str × NameKind)} {x:Str},names.lookup x=some .free →
    ((names.map fun (n,k)=>if (k == NameKind.free && env.scope.kind == .function && env.kindOf n == some .cell) then (n,NameKind.cell) else (n,k)).lookup x=some .cell ∨
      (names.map fun (n,k)=>if (k == NameKind.free && env.scope.kind == .function && env.kindOf n == some .cell) then (n,NameKind.cell) else (n,k)).lookup x=some .free)
  | [],_,h=>by simp at h
  | (n,k') :: r,x,h=>by
    have ih:=@relabel_free env r x
    rw [List.map_cons]
    cases hx:x == n with
    | true =>
      simp only [List.lookup_cons,hx] at h
      cases h
      by_cases hc:(NameKind.free == NameKind.free && env.scope.kind == .function && env.kindOf n == some .cell)=true
      · left;simp only [if_pos hc,List.lookup_cons,hx]
      · right;simp only [if_neg hc,List.lookup_cons,hx]
    | false =>
      simp only [List.lookup_cons,hx] at h
      by_cases hc:(k' == NameKind.free && env.scope.kind == .function && env.kindOf n == some .cell)=true
      · simp only [if_pos hc,List.lookup_cons,hx];exact ih h
      · simp only [if_neg hc,List.lookup_cons,hx];exact ih h
theorem clos_fold {env:Env}:∀ (l:List (Str × NameKind)) (cs:List (Str × Addr)),(∀ y∈l,y.2=.free→∃ c,env.cells.lookup y.1=some c) →
    (∀ y c,cs.lookup y=some c→env.cells.lookup y=some c)→∀ y c,(l.foldl (fun cs y=>if y.2 == .free then (y.1,(env.cells.lookup y.1).getD 0) :: cs else cs) cs).lookup y=some c→env.cells.lookup y=some c
  | [],_,_,h,y,c,e=>h y c e
  | z :: r,cs,hl,h,y,c,e=>by
    rw [List.foldl_cons] at e
    refine clos_fold r _ (fun y hy=>hl y (List.mem_cons_of_mem _ hy)) (fun y' c' e'=>?_) y c e
    by_cases hz:z.2=.free
    · obtain ⟨c0,h0⟩:=hl z List.mem_cons_self hz
      have hb:(z.2 == NameKind.free)=true:=by simpa using hz
      rw [if_pos hb,h0,List.lookup_cons] at e'
      cases hq:y' == z.1 with
      | true =>
        rw [hq] at e'
        have e2:y'=z.1:=by simpa using hq
        cases e'
        rw [e2];exact h0
      | false=>rw [hq] at e';exact h _ _ e'
    · have hb:(z.2 == NameKind.free)=false:=by simpa using hz
      rw [hb] at e'
      exact h _ _ e'
theorem clos_has {env:Env}:∀ (l:List (Str × NameKind)) (cs:List (Str × Addr)) (y:Str),((∃ c,cs.lookup y=some c)∨(y,NameKind.free)∈l) →
    ∃ c,(l.foldl (fun cs y=>if y.2 == .free then (y.1,(env.cells.lookup y.1).getD 0) :: cs else cs) cs).lookup y=some c
  | [],_,_,h=>h.elim id fun z=>nomatch z
  | z :: r,cs,y,h=>by
    rw [List.foldl_cons]
    refine clos_has r _ y ?_
    rcases h with ⟨c,h⟩ | h
    · left
      by_cases hz:(z.2 == NameKind.free)=true
      · rw [if_pos hz,List.lookup_cons]
        cases y == z.1 with
        | true=>exact ⟨_,rfl⟩
        | false=>exact ⟨c,h⟩
      · rw [if_neg hz];exact ⟨c,h⟩
    · rcases List.mem_cons.mp h with h | h
      · left
        subst h
        rw [if_pos (by rfl),List.lookup_cons]
        simp
      · exact .inr h
theorem clos_eq {env:Env}:∀ (l:List (Str × NameKind)) (cs:List (Str × Addr)),(∀ y∈l,y.2=.free→∃ c,env.cells.lookup y.1=some c) →
    forIn (m:=Sem) l cs (fun x r=>match x with | (name,kind)=>if (kind == NameKind.free)=true then do let c ← cellOf env name;pure (ForInStep.yield ((name,c) :: r)) else pure (ForInStep.yield r)) =
      pure (l.foldl (fun cs y=>if y.2 == .free then (y.1,(env.cells.lookup y.1).getD 0) :: cs else cs) cs)
  | [],_,_=>rfl
  | (n,k) :: r,cs,h=>by
    rw [List.forIn_cons,List.foldl_cons]
    by_cases hz:(k == NameKind.free)=true
    · obtain ⟨c,hc⟩:=h (n,k) List.mem_cons_self (by simpa using hz)
      have e:cellOf env n=pure c:=by unfold cellOf;rw [hc]
      simp only [hz,if_true,e,pure_bind]
      rw [clos_eq r _ fun y hy=>h y (List.mem_cons_of_mem _ hy)]
      simp only [hc,Option.getD_some]
    · simp only [hz,if_false,pure_bind]
      exact clos_eq r _ fun y hy=>h y (List.mem_cons_of_mem _ hy)
theorem compScope_of {X:Cx} {osc scope:Scope} {N:List Str} {ix:List Nat} (ok:X.Ok) (h:compD osc N scope ix=true) (hs:X.env.scope=osc) (hN:X.N=N):CompScope X scope (closOf scope X.env) ix:=by
  subst hs hN
  unfold compD at h
  rw [Bool.and_eq_true,Bool.and_eq_true,List.all_eq_true,List.all_eq_true] at h
  obtain ⟨⟨h1,h2⟩,h3⟩:=h
  have p:∀ y∈scope.names,y.2≠.cell∧(y.2=.local→scope.names.lookup y.1=some .local)∧(y.2=.free→X.env.kindOf y.1=some .cell∨X.env.kindOf y.1=some .free):=fun y hy=>by
    have q:=h2 y hy
    rw [Bool.and_eq_true,Bool.and_eq_true] at q
    obtain ⟨⟨q1,q2⟩,q3⟩:=q
    refine ⟨by simpa using q1,fun e=>?_,fun e=>?_⟩
    · rw [e] at q2;simpa using q2
    · rw [e] at q3
      have q3':X.env.scope.names.lookup y.1=some .cell∨X.env.scope.names.lookup y.1=some .free:=by simpa using q3
      exact q3'
  have f:∀ y∈scope.names,y.2=.free→∃ c,X.env.cells.lookup y.1=some c:=fun y hy e=>ok.has y.1 ((p y hy).2.2 e)
  refine ⟨?_,fun y hy=>(p y hy).1,by simpa using h1,fun y hy=>(p y hy).2.1,fun y c e=>clos_fold scope.names [] f (fun _ _ z=>by simp at z) y c e,fun y hy=>?_,fun i hi=>?_⟩
  · have e:=clos_eq scope.names [] f
    unfold closureFor closOf
    refine Eq.trans (congrArg (fun m=>m >>= fun s=>(pure s:Sem (List (Str × Addr)))) e) ?_
    rw [pure_bind]
  · refine clos_has scope.names [] y (.inr ?_)
    rcases hy with hy | hy
    · obtain ⟨k',e,z | z⟩:=relabel_look hy
      · subst z;exact mem_of_look e
      · subst z;exact absurd rfl (p _ (mem_of_look e)).1
    · obtain ⟨k',e,z | z⟩:=relabel_look hy
      · subst z;exact mem_of_look e
      · subst z;exact mem_of_look e
  · have q:=h3 i hi
    cases hy:X.N[i]? with
    | none=>rw [hy] at q;cases q
    | some y =>
      rw [hy] at q
      have q':scope.names.lookup y=some .free:=by simpa using q
      exact ⟨y,rfl,(p _ (mem_of_look q')).2.2 rfl,relabel_free q'⟩
def capV (ix:List Nat) (σ:St):St:=ix.map fun i=>(σ[i]?).getD none
def capN (ix:List Nat) (N:List Str):List Str:=ix.map fun i=>(N[i]?).getD ""
section
variable {X:Cx} {pins:List (Addr × Obj)} {σ:St} {H:Hp} {s:Shared} {scope:Scope} {cl:List (Str × Addr)} {ix:List Nat} {fp:List Addr} {C:Addr} {xs:List Str}
theorem Inv.compOk (I:Inv X pins σ H s) (S:CompScope X scope cl ix) (hC:C=s.heap.objs.size) (hf:∀ b∈fp,FpOk X pins H b) (hl:∀ b∈fp,b < s.heap.objs.size) (N':List Str) :
    (X.comp scope cl C N' fp s H).Ok where
  mod:=I.ok.mod
  kind:=S.kind
  glob:=I.ok.glob
  blt:=I.ok.blt
  above:=Nat.le_of_eq hC.symm
  inj:=fun x y c h1 h2=>I.ok.inj x y c (S.sub x c h1) (S.sub y c h2)
  has:=fun x hx=>S.has x hx
  cab:=fun x c h1 _=>nomatch h1
  hd:=I.ok.hd
  frames:=I.ok.frames
  stk:=.inl rfl
  exf:=fun b hb=>⟨fun z=>absurd (hl b hb) (by rw [z];show ¬ C < _;rw [hC];exact Nat.lt_irrefl _),fun x c h=>(hf b hb).2.2.2.2.1 x c (S.sub x c h)⟩
  bs:=I.bs
  bsz:=Nat.le_trans I.ok.bsz I.sz
  noex:=fun b o e hb=>by
    rcases (hf b hb).2.2.2.1 with z | z
    · exact I.ok.noex b o e z
    · exact absurd (Nat.lt_of_lt_of_le (Heap.lt_size e) (Nat.le_trans I.ok.bsz z)) (Nat.lt_irrefl _)
  exfs:=fun b hb z=>by
    rcases List.mem_cons.mp (I.stkSub b z) with e | e
    · exact (hf b hb).2.1 e
    · exact (hf b hb).2.2.1 e
  funs:=I.stack
  frf:=I.stkFree
theorem Inv.comp {h₁:Heap} {m₁:Str→Option Value} {t':Nat} (I:Inv X pins σ H s) (S:CompScope X scope cl ix) (hC:C=s.heap.objs.size) (hf:∀ b∈fp,FpOk X pins H b) (hl:∀ b∈fp,b < s.heap.objs.size)
    (hn:h₁.Ns C m₁) (hk:∀ b o,s.heap.get? b=some o→h₁.get? b=some o) :
    Inv (X.comp scope cl C (xs ++ capN ix X.N) fp s H) [] (List.replicate xs.length none ++ capV ix σ) H { s with heap:=h₁,toks:=t' } where
  ok:=I.compOk S hC hf hl _
  os:=rfl
  bare:=I.bare
  base:=Un.kept hk
  loc:=by
    refine ⟨m₁,hn,fun i y v e1 e2 e3=>?_⟩
    by_cases hi:i < xs.length
    · rw [List.getElem?_append_left (by simpa using hi),List.getElem?_replicate,if_pos hi] at e2
      cases e2
    · have e1':(xs ++ capN ix X.N)[i]?=some y:=e1
      rw [List.getElem?_append_right (by lia)] at e1'
      rw [List.getElem?_append_right (by rw [List.length_replicate];lia),List.length_replicate] at e2
      generalize i - xs.length=j at e1' e2
      unfold capN at e1'
      unfold capV at e2
      rw [List.getElem?_map] at e1' e2
      cases hj:ix[j]? with
      | none=>rw [hj] at e1';cases e1'
      | some k =>
        rw [hj] at e1' e2
        obtain ⟨y',c1,c2,c3⟩:=S.cap k (List.mem_of_getElem? hj)
        have ey:y'=y:=by
          have q:(X.N[k]?).getD ""=y:=Option.some.inj e1'
          rw [c1] at q
          exact q
        subst ey
        have ev:σ[k]?=some (some v):=by
          have q:(σ[k]?).getD none=some v:=Option.some.inj e2
          cases hs:σ[k]? with
          | none=>rw [hs] at q;cases q
          | some o=>rw [hs] at q;exact congrArg some q
        obtain ⟨m,hm,hv⟩:=I.loc
        obtain ⟨u,r,l⟩:=hv k y' v c1 ev (c2.elim (fun z=>.inr (.inl z)) fun z=>.inr (.inr z))
        refine ⟨u,r,.inr ⟨c3,?_⟩⟩
        rcases l with ⟨l1,_⟩ | ⟨_,c,lc,⟨o,ho,hd⟩⟩
        · rcases c2 with z | z <;> (rw [l1] at z;cases z)
        · obtain ⟨c',hc'⟩:=S.has y' c3
          have e:=S.sub _ _ hc'
          rw [lc] at e
          cases e
          exact ⟨c,hc',o,hk _ _ ho,hd⟩
  cell:=fun x c e=>by
    obtain ⟨v,o,ho,hd⟩:=I.cell x c (S.sub x c e)
    exact ⟨v,o,hk _ _ ho,hd⟩
  free:=I.hok.fresh (Nat.le_of_eq hC.symm)
  freeC:=fun x c e=>I.freeC x c (S.sub x c e)
  pin:=fun p hp=>absurd (show p∈([]:List (Addr × Obj)) from hp) (by simp)
  hok:=I.hok.kept hk
  len:=by
    show (List.replicate xs.length none ++ capV ix σ).length=(xs ++ capN ix X.N).length
    rw [List.length_append,List.length_append,List.length_replicate,capV,capN,List.length_map,List.length_map]
theorem Inv.uncomp {s':Shared} {σ':St} {H':Hp} {N':List Str} {h':Heap} (I:Inv X pins σ H s) (hC:C=s.heap.objs.size) (hf:∀ b∈fp,FpOk X pins H b)
    (J:Inv (X.comp scope cl C N' fp s H) [] σ' H' s') (hb:Heap.SameBut C s'.heap h'):Inv X pins σ H' { s' with heap:=h' }:=by
  have lt:∀ b o,s.heap.get? b=some o→b≠C:=fun b o e=>by
    rw [hC];exact Nat.ne_of_lt (Heap.lt_size e)
  have B:Un (frs X.stack) fp H H' s.heap s'.heap:=J.base
  refine I.call' (s':={ s' with heap:=h' }) (ch:=fp) J.os ?_ ?_ J.bare ?_
  · exact ⟨fun b o e n h1 h2=>(hb.2 b (lt b o e)).trans (B.keep b o e n h1 h2),fun b o e n h1 h2=>by
      obtain ⟨sl,q⟩:=B.slot b o e n h1 h2
      exact ⟨sl,(hb.2 b (lt b o e)).trans q⟩,B.free,fun b o e h1=>by
      obtain ⟨o',q⟩:=B.there b o e h1
      exact ⟨o',(hb.2 b (lt b o e)).trans q⟩,B.tups,B.frzs,B.tbls⟩
  · intro b o e
    refine (J.hok b o e).stay (fun c u hc q=>(hb.2 c ?_).trans q) (fun _ q=>q) fun _ _ q=>q
    have hC0:H' C=none:=J.free
    rintro rfl
    rcases hc with rfl | hc
    · rw [hC0] at e;cases e
    · rw [hC0] at hc;cases hc
  · intro b hb'
    obtain ⟨f0,f1,f2,f3,f4,f5⟩:=hf b hb'
    exact ⟨f3,f1,f4,f5⟩
end
def PTs (X:Cx) (ifs:List Expr) (t:TT):Prop :=
  ∀ (pins:List (Addr × Obj)) (s:Shared) (σ:St) (H:Hp) (Q:Bool→Hp→Prop),Inv X pins σ H s→t σ H Q →
    wpAny (model X.prog X.w) X.A (forIn ifs true fun c r=>if r=true then do let ok ← isTrue c X.env (eval c X.env);pure (ForInStep.yield ok) else pure (ForInStep.yield r)) (TP X pins σ Q) X.xe s
def tYes:TT:=fun _ H Q=>Q true H
theorem pts_nil {X:Cx}:PTs X [] tYes:=fun _ _ _ H _ I h=>wpAny_tests_nil ⟨H,I,h⟩
section
variable {prog:Program} {w:World} {A:Around} {R:Result→Shared→Prop} {s:Shared}
theorem compLoop_any {elt target iter:Expr} {ifs:List Expr} {scope:Scope} {pos:Pos} {it acc:Value} {env:Env} (W:Nat→Shared→Prop) {EE:Value→Shared→Prop}
    (hE:∀ e s',EE e s'→notedBy (model prog w) A env (fun e s'=>R (.error e) s') e s')
    (turn:∀ n s,W n s→wpAny (model prog w) A (pyNext it) (fun r s₁=>match r with
      | none=>R (.ok .next) s₁
      | some v=>wpAny (model prog w) A (letOwnedTupleGo target it v) (fun _ t₁=>wpAny (model prog w) A (assign target env v) (fun _ s₂ =>
          wpAny (model prog w) A (forIn ifs true fun c r=>if r=true then do let ok ← isTrue c env (eval c env);pure (ForInStep.yield ok) else pure (ForInStep.yield r)) (fun ok s₃ =>
            if ok=true then wpAny (model prog w) A (eval elt env) (fun x s₄=>wpAny (model prog w) A (call (.builtin "list.append") [acc,x]) (fun _ s₅=>∃ m,m < n∧W m s₅) EE s₄) EE s₃
            else ∃ m,m < n∧W m s₃) EE s₂) EE t₁) EE s₁) EE s)
    (n:Nat) (h:W n s):codeAny (model prog w) A (.compLoop (.ListComp elt [⟨target,iter,ifs,0⟩] scope pos) 0 it acc env) R s:=by
  refine codeAny_loop rfl W (fun n s hW=>?_) n h
  show wpAny _ A ((compTurn (.ListComp elt [⟨target,iter,ifs,0⟩] scope pos) 0 it acc env).onRaise (fun x=>do noteFrame x env;theTreesLotGoes x)) _ _ s
  refine wpAny_noted (wpAny_mono ?_ (fun _ _ q=>q) hE)
  rw [compTurn_list]
  refine wpAny_bind (wpAny_standAt (wpAny_bind (thn (turn n s hW) fun r s₁ h₁=>?_)))
  cases r with
  | none=>exact wpAny_pure h₁
  | some v =>
    refine wpAny_bind (thn h₁ fun _ t₁ k₁=>?_)
    refine wpAny_bind (thn k₁ fun _ s₂ h₂=>wpAny_bind (thn h₂ fun ok s₃ h₃=>?_))
    cases ok with
    | false=>exact wpAny_pure ⟨rfl,h₃⟩
    | true=>exact wpAny_bind (wpAny_bind (thn h₃ fun x s₄ h₄=>wpAny_bind (thn h₄ fun _ s₅ h₅=>wpAny_pure (wpAny_pure ⟨rfl,h₅⟩))))
end
def tComp (wi:TI) (g:TG) (tt:TT) (te:TE) (k:Nat) (ix:List Nat):TE:=fun σ H Q=>wi σ H fun J H1=>∀ D,H1 D=none →
  ∃ W:Nat→Nat→List V→St→Hp→Prop,(∃ m,W 0 m [] (List.replicate k none ++ capV ix σ) (upd H1 D (.lst [])))∧∀ i m ys τ H,W i m ys τ H→H D=some (.lst ys) ∧
    ((J.stop i H∧Q (.ref D) H)∨(J.go i H∧ys.length < sizeLine∧∃ N:V→St→Hp→Prop,
      (∀ v τ' H',N v τ' H'→H' D=some (.lst ys)∧∃ m',m' < m∧W (i + 1) m' (ys ++ [v]) τ' (upd H' D (.lst (ys ++ [v]))))∧∃ Nf:St→Hp→Prop,(∀ τ' H',Nf τ' H'→∃ m',m' < m∧W (i + 1) m' ys τ' H') ∧
      ∀ x H',J.yld i H x H'→g x τ H' fun τ2 H2=>tt τ2 H2 fun b H3=>if b=true then te τ2 H3 fun v H4=>N v τ2 H4 else Nf τ2 H3))
section
variable {X:Cx} {elt iter tg:Expr} {ifs:List Expr} {scope:Scope} {pos:Pos} {cl:List (Str × Addr)} {ix:List Nat} {xs:List Str} {wi:TI} {g:TG} {tt:TT} {te:TE}
theorem comp_block (S:CompScope X scope cl ix) (hc:X.calm=true) (hi:PI X tg iter wi)
    (hg:∀ C fp s H,PG (X.comp scope cl C (xs ++ capN ix X.N) fp s H) tg g) (ht:∀ C fp s H,PTs (X.comp scope cl C (xs ++ capN ix X.N) fp s H) ifs tt)
    (he:∀ C fp s H,PE (X.comp scope cl C (xs ++ capN ix X.N) fp s H) elt te)
    {pins:List (Addr × Obj)} {s:Shared} {σ:St} {H:Hp} {Q:VK} (I:Inv X pins σ H s) (h:tComp wi g tt te xs.length ix σ H Q) {RR:Value→Addr→Result→Shared→Prop}
    (hR:∀ v u s' C,RelV v u→(∃ H',Q v H'∧(∃ m,s'.heap.Ns C m)∧(∀ h',Heap.SameBut C s'.heap h'→Inv X pins σ H' { s' with heap:=h' })∧FpOk X pins H' C)→RR u C (.ok .next) s') :
    wpAny (model X.prog X.w) X.A (eval iter X.env) (fun x s₁=>wpAny (model X.prog X.w) X.A (pyIter x) (fun it s₂=>wpAny (model X.prog X.w) X.A (newList []) (fun acc s₃ =>
      wpAny (model X.prog X.w) X.A (newFunctionEnv scope X.env.globals cl [] X.env.qual none .none (some X.env)) (fun cenv s₄ =>
        codeAny (model X.prog X.w) X.A (.compStart (.ListComp elt [⟨tg,iter,ifs,0⟩] scope pos) 0 it acc { cenv with scope:=relabel scope X.env }) (RR acc cenv.locals) s₄) X.xe s₃) X.xe s₂) X.xe s₁) X.xe s:=by
  refine thn (hi pins s σ H _ I h) fun v s1 h1=>thn h1 fun itv s2 h2=>?_
  obtain ⟨it,fp,tn,J,H2,e,I2,T,st2,f2,hW⟩:=h2
  subst e
  refine wpAny_newObj_type (wpAny_newFunctionEnv S.nocell (fun y hy=>nomatch hy) (fun h₁ hns₁ hsb₁=>?_) S.kind)
  dsimp only at hns₁ hsb₁ ⊢
  obtain ⟨W,⟨m0,w0⟩,turn⟩:=hW s2.heap.objs.size I2.fresh
  have I3:=I2.lnew (t':=s2.toks) (ys:=[]) (its:=[]) .nil (Nat.zero_le _)
  have hl3:∀ b∈fp,b < s2.heap.objs.size:=fun b hb=>by
    obtain ⟨o,e,_⟩:=T.obj _ _ st2 b hb
    exact Heap.lt_size e
  generalize hs3:({ s2 with heap:=s2.heap.push { cls:=.type "list",data:=.seq ([]:List Value).toArray },toks:=s2.toks }:Shared)=s3 at I3
  have hs3h:s3.heap=s2.heap.push { cls:=.type "list",data:=.seq ([]:List Value).toArray }:=by rw [← hs3]
  have hsz:s3.heap.objs.size=s2.heap.objs.size + 1:=by rw [hs3h,Heap.size_push]
  have f3:∀ b∈fp,FpOk X pins (upd H2 s2.heap.objs.size (.lst [])) b:=fun b hb=>by
    obtain ⟨q0,q⟩:=f2 b hb
    exact ⟨by rw [upd_ne (Nat.ne_of_lt (hl3 b hb))];exact q0,q⟩
  have hl3':∀ b∈fp,b < s3.heap.objs.size:=fun b hb=>by rw [hsz];exact Nat.lt_succ_of_lt (hl3 b hb)
  rw [← hs3h] at hns₁ hsb₁ ⊢
  have hk:∀ b o,s3.heap.get? b=some o→h₁.get? b=some o:=fun b o e=>(hsb₁.2 b (Nat.ne_of_lt (Heap.lt_size e))).trans (Heap.get?_push_of_some _ e)
  have hk2:∀ b o,s2.heap.get? b=some o→s3.heap.get? b=some o:=fun b o e=>by rw [hs3h];exact Heap.get?_push_of_some _ e
  have J0:=I3.comp (xs:=xs) (t':=s2.toks) (C:=s3.heap.objs.size) S rfl f3 hl3' hns₁ hk
  have st3:tn 0 h₁:=T.keep _ _ _ st2 fun b _ o e=>hk b o (hk2 b o e)
  have loop:∀ tk,codeAny (model X.prog X.w) X.A (.compLoop (.ListComp elt [⟨tg,iter,ifs,0⟩] scope pos) 0 (.ref it) (.ref s2.heap.objs.size) (compEnvC scope cl s3.heap.objs.size X.env))
      (RR (.ref s2.heap.objs.size) s3.heap.objs.size) { s3 with heap:=h₁,toks:=tk }:=by
    intro tk
    refine compLoop_any (EE:=fun _ _=>False) (fun n s'=>∃ i ys τ H',Inv (X.comp scope cl s3.heap.objs.size (xs ++ capN ix X.N) fp s3 (upd H2 s2.heap.objs.size (.lst []))) [] τ H' s'∧tn i s'.heap∧(∀ b∈fp,H' b=none)∧W i n ys τ H')
      (fun _ _ z=>z.elim) ?_ m0 ⟨0,[],_,_,J0.tok tk,st3,fun b hb=>(f3 b hb).1,w0⟩
    rintro n s' ⟨i,ys,τ,H',I',st',fr',w'⟩
    have stat:∀ {H':Hp},(∀ b∈fp,H' b=none)→∀ b∈fp,FpOk (X.comp scope cl s3.heap.objs.size (xs ++ capN ix X.N) fp s3 (upd H2 s2.heap.objs.size (.lst []))) [] H' b:=fun hn b hb =>
      ⟨hn b hb,(I'.ok.exf b hb).1,I'.ok.exfs b hb,.inl hb,(I'.ok.exf b hb).2,fun p hp=>absurd (show p∈([]:List (Addr × Obj)) from hp) (by simp)⟩
    obtain ⟨hD,⟨stop,q⟩ | ⟨go,hz,N,hN,Nf,hNf,step⟩⟩:=turn i n ys τ H' w'
    · refine thn (T.done (X.comp scope cl s3.heap.objs.size (xs ++ capN ix X.N) fp s3 (upd H2 s2.heap.objs.size (.lst []))) rfl rfl rfl hc i [] s' τ H' _ I' (stat fr') st' stop) fun r s4 ⟨hr,I4⟩=>?_
      subst hr
      refine hR (.ref s2.heap.objs.size) _ s4 _ rfl ⟨H',q,?_,fun h' hb=>I3.uncomp rfl f3 I4 hb,I3.fpOk (Nat.le_refl _) I4.free⟩
      obtain ⟨m,hn,_⟩:=I4.loc
      exact ⟨m,hn⟩
    · refine thn (T.item (X.comp scope cl s3.heap.objs.size (xs ++ capN ix X.N) fp s3 (upd H2 s2.heap.objs.size (.lst []))) rfl rfl rfl hc i [] s' τ H' _ I' (stat fr') st' go) fun r s4 ⟨u,hr,h4⟩=>?_
      subst hr
      refine thn h4 fun _ s5 ⟨x,H5,I5,r5,y5,st5,fr5⟩=>?_
      have I5':=I5.pinned (stat fr5) (T.obj _ _ st5)
      refine thn (hg _ _ _ _ _ s5 τ H5 x u _ I5' r5 (step x H5 y5)) fun _ s6 ⟨τ6,H6,I6,q6⟩=>?_
      refine thn (ht _ _ _ _ _ s6 τ6 H6 _ I6 q6) fun ok s7 ⟨H7,I7,q7⟩=>?_
      have back:∀ {s8:Shared} {H8:Hp} {m:Nat} {zs:List V},Inv (X.comp scope cl s3.heap.objs.size (xs ++ capN ix X.N) fp s3 (upd H2 s2.heap.objs.size (.lst []))) ([] ++ pinsAt fp s5.heap) τ6 H8 s8→W (i + 1) m zs τ6 H8 →
          ∃ i ys τ H',Inv (X.comp scope cl s3.heap.objs.size (xs ++ capN ix X.N) fp s3 (upd H2 s2.heap.objs.size (.lst []))) [] τ H' s8∧tn i s8.heap∧(∀ b∈fp,H' b=none)∧W i m ys τ H':=fun {s8 H8 m zs} I8 w8=>by
        refine ⟨i + 1,zs,τ6,H8,I8.unpinned,T.keep _ _ _ st5 fun b hb o e=>(I8.pin (b,o) (List.mem_append_right _ (List.mem_append_right _ (mem_pinsAt hb e)))).1,fun b hb=>?_,w8⟩
        obtain ⟨o,e,d⟩:=T.obj _ _ st5 b hb
        exact (I8.pin (b,o) (List.mem_append_right _ (List.mem_append_right _ (mem_pinsAt hb e)))).2.1
      cases ok with
      | false =>
        rw [if_neg Bool.false_ne_true] at q7 ⊢
        obtain ⟨m',hm,w7⟩:=hNf _ _ q7
        exact ⟨m',hm,back I7 w7⟩
      | true =>
        rw [if_pos rfl] at q7 ⊢
        refine thn (he _ _ _ _ _ s7 τ6 H7 _ I7 q7) fun y s8 ⟨v8,H8,I8,r8,n8⟩=>?_
        obtain ⟨hD8,m',hm,w8⟩:=hN _ _ _ n8
        refine thn (mt_append _ s8 τ6 H8 (.ref s2.heap.objs.size) [v8] (.ref s2.heap.objs.size) [y] (fun _ Hn=>∃ m,m < n∧W (i + 1) m (ys ++ [v8]) τ6 Hn) I8 rfl (.cons r8 .nil) ⟨_,ys,v8,rfl,rfl,hD8,hz,m',hm,w8⟩) fun _ s9 ⟨_,H9,I9,_,m9,hm9,w9⟩=>?_
        exact ⟨m9,hm9,back I9 w9⟩
  have e3:∀ tk,({ s3 with heap:=h₁,toks:=tk }:Shared)={ s2 with heap:=h₁,toks:=tk }:=fun tk=>by rw [← hs3]
  have loop':∀ tk,codeAny (model X.prog X.w) X.A (.compLoop (.ListComp elt [⟨tg,iter,ifs,0⟩] scope pos) 0 (.ref it) (.ref s2.heap.objs.size) (compEnvC scope cl s3.heap.objs.size X.env))
      (RR (.ref s2.heap.objs.size) s3.heap.objs.size) { s2 with heap:=h₁,toks:=tk }:=fun tk=>by rw [← e3];exact loop tk
  exact codeAny_compStart_list (loop' _) (T.self _ 0 _ _ _ st3 (loop' _))
theorem pe_comp {osc:Scope} {N:List Str} (hc:X.calm=true) (hD:compD osc N scope ix=true) (hi:PI X tg iter wi)
    (hg:∀ C fp s H,PG (X.comp scope (closOf scope X.env) C (xs ++ capN ix X.N) fp s H) tg g) (ht:∀ C fp s H,PTs (X.comp scope (closOf scope X.env) C (xs ++ capN ix X.N) fp s H) ifs tt)
    (he:∀ C fp s H,PE (X.comp scope (closOf scope X.env) C (xs ++ capN ix X.N) fp s H) elt te) (hsc:X.env.scope=osc:=by rfl) (hN:X.N=N:=by rfl) (hs:∀ x,foldedSetIterable iter X.env x=pure x:=by intro _;rfl) :
    PE X (.ListComp elt [⟨tg,iter,ifs,0⟩] scope pos) (tComp wi g tt te xs.length ix):=by
  intro pins s σ H Q I h
  have S:=compScope_of I.ok hD hsc hN
  rw [eval_ListComp]
  refine wpAny_comprehension_free (use:=none) rfl hs S.clos S.kind S.names (comp_block S hc hi hg ht he I h (RR:=fun acc C=>compPost (model X.prog X.w) X.A X.xe none (EP X pins σ Q) acc C) ?_)
  rintro v u s' C r ⟨H',q,⟨m,hn⟩,hI,_⟩
  exact ⟨m,hn,fun h' hb=>⟨v,H',hI h' hb,r,q⟩⟩
theorem ps_setComp {osc:Scope} {N:List Str} {y:Str} {py:Pos} {j:Nat} {spos:Pos} (hNd:X.N.Nodup) (hj:X.N[j]?=some y) (hc:X.calm=true) (hy:Loc X.env.scope y) (hD:compD osc N scope ix=true) (hi:PI X tg iter wi)
    (hg:∀ C fp s H,PG (X.comp scope (closOf scope X.env) C (xs ++ capN ix X.N) fp s H) tg g) (ht:∀ C fp s H,PTs (X.comp scope (closOf scope X.env) C (xs ++ capN ix X.N) fp s H) ifs tt)
    (he:∀ C fp s H,PE (X.comp scope (closOf scope X.env) C (xs ++ capN ix X.N) fp s H) elt te) (hsc:X.env.scope=osc:=by rfl) (hN:X.N=N:=by rfl)
    (hsw:swapsWith (.ListComp elt [⟨tg,iter,ifs,0⟩] scope pos) (some (.Name y py)) spos.line X.env=pure true:=by rfl)
    (hs:∀ x,foldedSetIterable iter X.env x=pure x:=by intro _;rfl) (hf:X.fn y=true∨X.env.scope.names.lookup y=some .local:=by first | exact .inl rfl | exact .inr rfl | assumption) :
    PS X (.Assign [.Name y py] (.ListComp elt [⟨tg,iter,ifs,0⟩] scope pos) spos) (tAsg (tComp wi g tt te xs.length ix) (gName j)):=by
  intro pins s σ H D I h
  have S:=compScope_of I.ok hD hsc hN
  rw [exec_Assign_Name_used _ _ _ _ hsw]
  refine wpAny_bind (wpAny_standAt (wpAny_bind ?_))
  show wpAny _ X.A (do let _ ← comprehension (.ListComp elt [⟨tg,iter,ifs,0⟩] scope pos) scope X.env _ (newList []) false (eval iter X.env) (some (assign (.Name y py) X.env))) _ _ s
  refine wpAny_bind (thn (wpAny_comprehension_free (use:=some (assign (.Name y py) X.env)) (Q:=fun _ s'=>SP X pins D .next s') rfl hs S.clos S.kind S.names
    (comp_block S hc hi hg ht he I h (RR:=fun acc C=>compPost (model X.prog X.w) X.A X.xe (some (assign (.Name y py) X.env)) (fun _ s'=>SP X pins D .next s') acc C) ?_)) fun _ s' hq=>wpAny_pure (wpAny_pure hq))
  rintro v u s' C r ⟨H',q,⟨m,hn⟩,hI,f0,f1,f2,f3,f4,f5⟩
  have I':Inv X pins σ H' s':=hI s'.heap (.refl ..)
  show wpAny _ X.A (assign (.Name y py) X.env u) _ _ _
  refine wpAny_assign_Name (store_ok2 I' hNd hj hy r (fun s2 I2 hx=>?_) hf)
  obtain ⟨a,hb,ha⟩:=hx
  have hCa:C≠a:=by
    rcases ha with rfl | ha
    · exact f1
    · exact Ne.symm (f4 _ _ ha)
  refine ⟨m,hn.sameBut hb hCa,fun h' hb'=>⟨_,H',?_,q⟩⟩
  exact I2.turned (t':=s2.toks) (fun b o hne e=>(hb'.2 b hne).trans e) f0 f1 f3 f4 f5
end
end L2
namespace L2
open PySem PySem.Spec PyProof.Rows
abbrev rAddS:R2:=fun x y H Q=>∃ i j,x=.str i∧y=.str j∧i.length + j.length≤sizeLine∧Q (.str (i ++ j)) H
abbrev rInS:R2:=fun x y H Q=>∃ i j,x=.str i∧y=.str j∧Q (.bl (!(Builtin.Str.occurrences j i 0 j.length 1).isEmpty)) H
abbrev rNotInS:R2:=fun x y H Q=>∃ i j,x=.str i∧y=.str j∧Q (.bl (!(!(Builtin.Str.occurrences j i 0 j.length 1).isEmpty))) H
abbrev rIsB:R2:=fun x y H Q=>∃ a b,x=.bl a∧y=.bl b∧Q (.bl (a == b)) H
abbrev rIsNotB:R2:=fun x y H Q=>∃ a b,x=.bl a∧y=.bl b∧Q (.bl (a != b)) H
abbrev rIsN:R2:=fun x y H Q=>y=.non∧Q (.bl (decide (x=.non))) H
abbrev rNotN:R2:=fun x y H Q=>y=.non∧Q (.bl (!decide (x=.non))) H
abbrev RC:=List V→Hp→VK→Prop
abbrev cLen (K:PySem.W.Frag):RC:=fun xs H Q=>∃ x n,xs=[x]∧LenV K x H n∧Q (.int n) H
abbrev cIsi (K:PySem.W.Frag):RC:=fun xs H Q=>∃ x c t b,xs=[x,c]∧TyOf K H x t∧(∃ T,c=.ty T∧PySem.W.kitOne K t (.type T)=some b)∧Q (.bl b) H
abbrev cAll (K:PySem.W.Frag):RC:=fun xs H Q=>∃ (a:Addr) (bs:List Bool),xs=[.ref a]∧SqL K H a (bs.map V.bl)∧Q (.bl (bs.all id)) H
abbrev cAbs:RC:=fun xs H Q=>∃ i,xs=[.int i]∧Q (.int (if i < 0 then -i else i)) H
abbrev cStr:RC:=fun xs H Q=>∃ i,xs=[.int i]∧i.natAbs.log2 < 1920∧Q (.str (toString i)) H
abbrev RM:=V→List V→Hp→VK→Prop
abbrev r_mt_startswith:RM:=fun x xs H Q=>∃ a b,x=.str a∧xs=[.str b]∧Q (.bl (0 + b.length≤a.length && Builtin.Str.subAt a b 0)) H
def spP (pre:List V→Hp→Prop) (post:List V→Hp→V→Hp→Prop):Sp:=fun vs H Q _=>pre vs H∧∀ r H',post vs H r H'→Same H H'→Q r H'
abbrev cInt:RC:=fun xs H Q=>∃ (x:Str) (n:Int),xs=[.str x]∧PySem.intText? x=some n∧x.length≤640∧Q (.int n) H
abbrev r_mt_upper:RM:=fun x xs H Q=>∃ a:Str,x=.str a∧xs=[]∧(∀ c∈a.cps.toList,c < 128)∧a.length≤sizeLine∧∀ y:Str,y.length=a.length→Q (.str y) H
theorem new_obj {H:Hp} {p:Addr} {o:HO} (h:H p=none):∃ H',H'=upd H p o∧Same H H'∧H' p=some o :=
  ⟨_,rfl,fun b u e=>by rw [upd_ne (ne_of_none e h)];exact e,upd_same⟩
theorem isV (p:Addr) {H:Hp} {o:HO} (h:H p=none):Same H (upd H p o):=fun b u e=>by rw [upd_ne (ne_of_none e h)];exact e
theorem small_size {n:Nat} (h:n≤100000):n≤sizeLine:=Nat.le_trans h (by decide)
theorem bt_len:bootBuiltins "len"=some (.builtin "len"):=by decide +kernel
theorem bt_isinstance:bootBuiltins "isinstance"=some (.builtin "isinstance"):=by decide +kernel
theorem bt_all:bootBuiltins "all"=some (.builtin "all"):=by decide +kernel
theorem bt_max:bootBuiltins "max"=some (.builtin "max"):=by decide +kernel
theorem bt_sum:bootBuiltins "sum"=some (.builtin "sum"):=by decide +kernel
theorem bt_zip:bootBuiltins "zip"=some (.type "zip"):=by decide +kernel
theorem bt_reversed:bootBuiltins "reversed"=some (.type "reversed"):=by decide +kernel
theorem bt_enumerate:bootBuiltins "enumerate"=some (.type "enumerate"):=by decide +kernel
theorem bt_str:bootBuiltins "str"=some (.type "str"):=by decide +kernel
theorem bt_int:bootBuiltins "int"=some (.type "int"):=by decide +kernel
theorem bt_bool:bootBuiltins "bool"=some (.type "bool"):=by decide +kernel
theorem bt_list:bootBuiltins "list"=some (.type "list"):=by decide +kernel
theorem bt_tuple:bootBuiltins "tuple"=some (.type "tuple"):=by decide +kernel
section
variable {X:Cx}
def big:Int:=10 ^ 200
def CDivB (_ j:Int):Prop:=0 < j∧j < big
def CMulB (i j:Int):Prop:=(-big < i∧i < big)∧(-big < j∧j < big)
theorem log2_big {j:Int} (h:j.natAbs < 10 ^ 200):j.natAbs.log2 < 700:=by
  by_cases h0:j.natAbs=0
  · rw [h0];decide
  · exact (Nat.log2_lt h0).mpr (Nat.lt_of_lt_of_le h (by decide +kernel))
theorem abs_big {j:Int} (h:-big < j∧j < big):j.natAbs < 10 ^ 200:=by
  have e:big=((10 ^ 200:Nat):Int):=by decide +kernel
  rw [e] at h
  lia
theorem CMulB.ok {i j:Int} (h:CMulB i j):IntMulOk i j:=by
  have b:∀ k:Int,(-big < k∧k < big)→Builtin.Int.intBits k≤2 ^ 20:=fun k hk=>by
    have q:=log2_big (abs_big hk)
    unfold Builtin.Int.intBits
    split <;> lia
  exact .of_bits (b i h.1) (b j h.2)
theorem op_mulB:OpR X (binaryOp .Mult) (rI CMulB fun i j=>.int (i * j)):=opI fun _ _ _ _ _ _ _ hc q=>mul_int q hc.ok
theorem op_fdivB:OpR X (binaryOp .FloorDiv) (rI CDivB fun i j=>.int (i / j)):=opI fun i j _ _ _ _ _ hc q=>by
  have h1:(0:Int) < j:=hc.1
  refine floordiv_int (by lia) ?_ (.inl (PyProof.noPylong_of_log2 (Nat.lt_trans (log2_big (abs_big ⟨by have:=hc.2;lia,hc.2⟩)) (by decide))))
  rw [Int.fdiv_eq_ediv_of_nonneg i (by lia)]
  exact q
theorem call_isi:CallR X (.builtin "isinstance") (cIsi X.K):=by
  intro pins s σ H xs us Q I r h
  obtain ⟨x,c,t,b,rfl,ty,⟨T,rfl,e⟩,q⟩:=h
  obtain ⟨u,w',rfl,r1,r2⟩:=vals2 r
  cases r2
  exact isinst_ok I r1 ty e fun tk=>⟨.bl b,H,I.tok tk,rfl,q⟩
def Its (x:Str):It:=⟨fun i _=>i < x.cps.size,fun i H v H'=>H'=H∧∃ c,x.cps[i]?=some c∧v=.str ⟨#[c]⟩,fun i _=>x.cps.size≤i⟩
theorem turn_str {P:Program} {w:World} {K:PySem.W.Frag} {tg:Expr} {it:Addr} {x:Str} {t:Tok} {ty:String} (hty:["enumerate","zip","dict_itemiterator","dict_reverseitemiterator","odict_iterator","itertools.zip_longest","itertools.pairwise"].contains ty=false)
    (W:∀ A:Around,A.handled=none→Walks P w A it [it] [it] x.cps.size (SignAt x) (fun i h=>h.IsStrIter it ty x t i))
    (self:∀ (A:Around) (i:Nat) (s:Shared) (Q:Value→Shared→Prop) (E:Value→Shared→Prop),s.heap.IsStrIter it ty x t i→Q (.ref it) s→wpAny (model P w) A (pyIter (.ref it)) Q E s) :
    Turn P w K tg (Its x) [it] it (fun i h=>i≤x.cps.size∧h.IsStrIter it ty x t i) where
  mem:=by simp
  obj:=fun i h st b hb=>by
    have e:b=it:=by simpa using hb
    subst e
    obtain ⟨_,o,e,c,d⟩:=st
    exact ⟨o,e,fun v z=>by rw [d] at z;cases z⟩
  keep:=fun i h h' st k=>by
    obtain ⟨hi,o,e,r⟩:=st
    exact ⟨hi,o,k it (by simp) o e,r⟩
  item:=by
    intro X hP hw hK hc i pins s σ H E I hf st hg
    subst hP hw hK
    obtain ⟨f0,f1,f2,f3,f4,f5⟩:=hf it (by simp)
    refine (W X.A (I.ok.hd hc)).item i s _ _ hg st.2 fun v h' tk hv st' kk=>?_
    obtain ⟨c,u,hc',rfl⟩:=hv
    have I1:Inv X pins σ H { s with heap:=h',toks:=tk }:=I.turned (fun b o hb e=>kk b o (by simpa using hb) e) f0 f1 f3 f4 f5
    obtain ⟨o,e,c1,d1⟩:=id st'
    exact ⟨_,rfl,go_of (s:={ s with heap:=h',toks:=tk }) e c1 d1 hty ⟨.str ⟨#[c]⟩,H,I1,⟨u,rfl⟩,⟨rfl,c,hc',rfl⟩,⟨hg,st'⟩,fun b hb=>(hf b hb).1⟩⟩
  done:=by
    intro X hP hw hK hc i pins s σ H E I hf st hg
    subst hP hw hK
    obtain ⟨f0,f1,f2,f3,f4,f5⟩:=hf it (by simp)
    have e:i=x.cps.size:=Nat.le_antisymm st.1 hg
    subst e
    exact (W X.A (I.ok.hd hc)).done s _ _ st.2 fun h' tk kk=>⟨rfl,I.turned (fun b o hb e=>kk b o (by simpa using hb) e) f0 f1 f3 f4 f5⟩
  self:=fun A i s Q E st h=>self A i s Q E st.2 h
def iStr (tl:TE):TI:=fun σ H R=>tl σ H fun x H1=>∃ z,x=.str z∧R (Its z) H1
theorem pi_str {l tg:Expr} {tl:TE} (hl:PE X l tl):PI X tg l (iStr tl):=by
  intro pins s σ H R I h
  refine thn (hl pins s σ H _ I h) fun v s1 ⟨x,H1,I1,r1,q1⟩=>?_
  obtain ⟨z,rfl,q⟩:=q1
  obtain ⟨t,rfl⟩:=r1
  have new:∀ b∈[s1.heap.objs.size],FpOk X pins H1 b:=fun b hb=>by
    have e:b=s1.heap.objs.size:=by simpa using hb
    subst e
    exact I1.fpOk (Nat.le_refl _) (I1.hok.fresh (Nat.le_refl _))
  cases ha:z.cps.all (· < 128)
  · refine wpAny_pyIter_wide ha ?_
    exact ⟨s1.heap.objs.size,[s1.heap.objs.size],_,_,H1,rfl,I1.kept (t':=s1.toks) fun b o e=>Heap.get?_push_of_some _ e,
      turn_str (t:=t) (by decide) (fun A hA=>Walks.strWide hA _ z t) fun A i s Q E st h=>wpAny_pyIter_striter_wide st h,⟨Nat.zero_le _,_,Heap.get?_push_size _ rfl,rfl,rfl⟩,new,q⟩
  · refine wpAny_pyIter_ascii ha ?_
    exact ⟨s1.heap.objs.size,[s1.heap.objs.size],_,_,H1,rfl,I1.kept (t':=s1.toks) fun b o e=>Heap.get?_push_of_some _ e,
      turn_str (t:=t) (by decide) (fun A hA=>Walks.strAscii hA _ z t) fun A i s Q E st h=>wpAny_pyIter_striter_ascii st h,⟨Nat.zero_le _,_,Heap.get?_push_size _ rfl,rfl,rfl⟩,new,q⟩
theorem call_allL (hc:X.calm=true):CallR X (.builtin "all") (cAll X.K):=by
  intro pins s σ H xs us Q I r h
  obtain ⟨a,bs,rfl,hq,q⟩:=h
  obtain ⟨u,rfl,r1⟩:=vals1 r
  cases r1
  obtain ⟨its,rv,p,hz⟩:=I.list hq
  have hl:=rv.length
  rw [List.length_map] at hl
  have hne:a≠s.heap.objs.size:=by
    obtain ⟨o,n,e,_⟩:=p
    exact Nat.ne_of_lt (Heap.lt_size e)
  refine call_all_walk (wpAny_pyIter_list p.isList ?_)
  refine ⟨s.heap.objs.size,_,_,its.toArray.size,fun i v=>its.toArray[i]?=some v,_,fun i=>bs.getD i false,rfl,Walks.list (A:=X.A.in1) (I.ok.hd hc) _ a hne its.toArray,?_,?_,fun h' tk k=>?_⟩
  · refine ⟨⟨_,Heap.get?_push_size _ rfl,rfl,rfl⟩,?_⟩
    exact p.isList.at fun o e=>Heap.get?_push_of_some _ e
  · intro i v s' Q' E' hv hQ
    have hv':its[i]?=some v:=by simpa using hv
    have hi:i < bs.length:=by
      rw [hl]
      exact (List.getElem?_eq_some_iff.mp hv').1
    obtain ⟨u',hu,ru⟩:=rv.get (i:=i) (x:=V.bl bs[i]) (by simp [hi])
    rw [hv'] at hu
    cases hu
    cases ru
    have e:bs.getD i false=bs[i]:=by simp [hi]
    have hQ':Q' (bs.getD i false) s':=hQ
    rw [e] at hQ'
    exact wpAny_truthy_bool hQ'
  · have e:(List.range its.toArray.size).all (fun i=>bs.getD i false)=bs.all id:=by
      rw [List.size_toArray,← hl]
      have:bs.map id=(List.range bs.length).map fun i=>bs.getD i false:=by
        apply List.ext_getElem?
        intro i
        by_cases hi:i < bs.length <;> simp [hi]
      have h2:bs.all id=(bs.map id).all id:=by simp
      rw [h2,this,List.all_map]
      rfl
    rw [e]
    refine ⟨.bl (bs.all id),H,?_,rfl,q⟩
    exact I.kept fun b o e=>k b o (by
      have:=Nat.ne_of_lt (Heap.lt_size e)
      simpa using this) (Heap.get?_push_of_some _ e)
theorem mt_startswith:MtR X "str.startswith" r_mt_startswith:=by
  intro pins s σ H x xs v us Q I rx rs h
  obtain ⟨a,b,rfl,rfl,q⟩:=h
  obtain ⟨t,rfl⟩:=rx
  obtain ⟨u,rfl,t',rfl⟩:=vals1 rs
  exact call_meets F.slot_str_startswith (typeIs_str s a t) F.entry_str_startswith (F.args_str_startswith_2 _ _) (gives_str_startswith a b t t').meets (show _ from ⟨.bl _,H,I,rfl,q⟩)
def rSlS:V→Option Int→Option Int→Hp→VK→Prop:=fun x lo hi H Q=>∃ z,x=.str z∧z.length≤sizeLine∧Q (.str (Txt.slice z lo hi)) H
theorem sl_str:SlR X rSlS:=by
  intro pins s σ H x v vl vu lo hi sl Q I rx hs pl pu h
  obtain ⟨z,rfl,hz,q⟩:=h
  obtain ⟨t,rfl⟩:=rx
  obtain ⟨o,ho,hc,hd⟩:=hs
  refine ⟨"str",_,F.slot_str_getitem.lookup,typeIs_str _ _ _,?_⟩
  obtain ⟨l,e1,e2⟩:∃ l:Option (Int × Tok),vl=partValue l∧lo=l.map (·.1):=by
    cases pl with
    | none=>exact ⟨none,rfl,rfl⟩
    | int i t=>exact ⟨some (i,t),rfl,rfl⟩
  obtain ⟨u,e3,e4⟩:∃ l:Option (Int × Tok),vu=partValue l∧hi=l.map (·.1):=by
    cases pu with
    | none=>exact ⟨none,rfl,rfl⟩
    | int i t=>exact ⟨some (i,t),rfl,rfl⟩
  subst e1 e2 e3 e4
  exact wpAny_getItem_str_slice (l:=l) (u:=u) (st:=none) ⟨o,ho,hc,hd⟩ rfl
    (post_val_or_str ⟨Nat.le_trans (Txt.slice_le z _ _) hz,fun t' k=>⟨.str (Txt.slice z (l.map (·.1)) (u.map (·.1))),H,I.tok k,⟨t',rfl⟩,q⟩⟩)
theorem call_int_str:CallR X (.type "int") cInt:=by
  intro pins s σ H xs us Q I r h
  obtain ⟨x,n,rfl,hn,hl,q⟩:=h
  obtain ⟨u,rfl,t,rfl⟩:=vals1 r
  exact PySem.W.KIN.call_text hn hl ⟨.int n,H,I.tok _,⟨_,rfl⟩,q⟩
end
end L2
namespace L2
open PySem PySem.Spec PyProof.Rows
theorem ObjOk.there {P:Program} {w:World} {H:Hp} {h:Heap} {a:Addr} {o:HO} (x:ObjOk P w H h a o):∃ u,h.get? a=some u:=by
  cases o with
  | lst xs=>obtain ⟨_,_,_,_,e⟩:=x;exact ⟨_,e⟩
  | tup xs=>obtain ⟨_,_,_,o,e,_⟩:=x;exact ⟨_,e⟩
  | dK kvs=>obtain ⟨_,_,_,_,o,_,_,e,_⟩:=x;exact ⟨_,e⟩
  | dT kvs=>obtain ⟨_,_,_,_,o,_,_,e,_⟩:=x;exact ⟨_,e⟩
  | set S n=>obtain ⟨o,_,_,_,e,_⟩:=x;exact ⟨_,e⟩
  | ins C dx fs=>obtain ⟨_,_,_,e,_⟩:=x;exact ⟨_,e⟩
  | own y=>exact x
  | xd fs=>obtain ⟨_,⟨o,_,_,e,_⟩,_⟩:=x;exact ⟨_,e⟩
  | rng lo hi=>obtain ⟨_,_,_,e⟩:=x;exact ⟨_,e⟩
  | frz ob u=>obtain ⟨e,_⟩:=x;exact ⟨_,e⟩
  | tbl ps=>exact ⟨_,(show h.get? a=some _ from x)⟩
  | met f y=>exact ⟨_,(show h.get? a=some _ from x)⟩
  | ext φ=>obtain ⟨_,e,_⟩:=x;exact e
def XF (g h:Heap) (H:Hp) (e:Addr) (cls:Value):Prop :=
  ∃ oe vs a0 T oT ts,h.get? e=some oe∧(oe.cls=cls∧vs[0]?=some a0)∧oe.data=.fields vs∧vs[1]?=some (.ref T)∧T≠e∧h.get? T=some oT∧oT.data=.fields ts∧ts[3]?=some .none ∧
    g.get? e=none∧g.get? T=none∧H e=none∧H T=none
def CX1 (P:Program) (w:World):CXT:=fun outer H s E ev s'=>∃ e cls H',ev=.ref e∧s'.os=s.os∧AllBare s'.gens∧Un (frs outer) [] H H' s.heap s'.heap∧HOk P w H' s'.heap∧XF s.heap s'.heap H' e cls∧E cls none H'
theorem none_back {g h:Heap} (k:∀ b o,g.get? b=some o→∃ o',h.get? b=some o') {b:Addr} (e:h.get? b=none):g.get? b=none:=by
  cases q:g.get? b with
  | none=>rfl
  | some o =>
    obtain ⟨o',z⟩:=k b o q
    rw [e] at z;cases z
theorem XF.older {g g' h:Heap} {H:Hp} {e:Addr} {cls:Value} (x:XF g h H e cls) (k:∀ b o,g'.get? b=some o→∃ o',g.get? b=some o'):XF g' h H e cls:=by
  obtain ⟨oe,vs,a0,T,oT,ts,h1,h2,h3,h4,h5,h6,h7,h8,h9,h10,h11,h12⟩:=x
  exact ⟨oe,vs,a0,T,oT,ts,h1,h2,h3,h4,h5,h6,h7,h8,none_back k h9,none_back k h10,h11,h12⟩
section
variable {X:Cx} {pins:List (Addr × Obj)} {σ:St} {H:Hp} {s:Shared}
theorem Inv.stackFields (J:Inv X pins σ H s) {b:Addr} (hb:b∈frs X.stack):∃ o,s.heap.get? b=some o∧∀ vs,o.data≠.fields vs:=(J.stack.mem hb).2
theorem Inv.there0 (hex:X.ex=[]) (J:Inv X pins σ H s):∀ b o,X.s₀.heap.get? b=some o→∃ o',s.heap.get? b=some o':=fun b o e=>J.base.there b o e (by rw [hex];simp)
theorem Inv.behind {h2:Heap} {cs:List Addr} (hex:X.ex=[]) (J:Inv X pins σ H s) (hcs:∀ b∈cs,H b=none∧X.s₀.heap.get? b=none)
    (hB:∀ b o,s.heap.get? b=some o→b ∉ frs X.stack→b ∉ cs→h2.get? b=some o) (hF:∀ b o,s.heap.get? b=some o→b∈frs X.stack→∃ sl,h2.get? b=some { o with slots:=sl }) :
    Un X.fs [] X.H₀ H X.s₀.heap h2∧HOk X.prog X.w H h2:=by
  have B:Un X.fs [] X.H₀ H X.s₀.heap s.heap:=by have:=J.base;rw [hex] at this;exact this
  have nL:∀ b o,X.s₀.heap.get? b=some o→b≠X.env.locals:=fun b o e=>Nat.ne_of_lt (Nat.lt_of_lt_of_le (Heap.lt_size e) J.ok.above)
  have nC:∀ b o,X.s₀.heap.get? b=some o→b ∉ cs:=fun b o e z=>by rw [(hcs b z).2] at e;cases e
  have any:∀ b o,s.heap.get? b=some o→b ∉ cs→∃ sl,h2.get? b=some { o with slots:=sl }:=fun b o e n=>by
    by_cases hb:b∈frs X.stack
    · exact hF b o e hb
    · exact ⟨o.slots,hB b o e hb n⟩
  refine ⟨⟨fun b o e n h1 _=>?_,fun b o e n h1 _=>?_,B.free,fun b o e h1=>?_,B.tups,B.frzs,B.tbls⟩,fun b u e=>?_⟩
  · refine hB b o (B.keep b o e n h1 (by simp)) (fun z=>?_) (nC b o e)
    rcases List.mem_cons.mp (J.stkSub b z) with q | q
    · exact nL b o e q
    · exact h1 q
  · obtain ⟨sl,q⟩:=B.slot b o e n h1 (by simp)
    obtain ⟨sl',q'⟩:=any b _ q (nC b o e)
    exact ⟨sl',q'⟩
  · obtain ⟨o',q⟩:=B.there b o e (by simp)
    obtain ⟨sl,q'⟩:=any b o' q (nC b o e)
    exact ⟨_,q'⟩
  · refine (J.hok b u e).stay (fun c v hc q=>?_) (fun _ q=>q) fun _ _ q=>q
    have hn:H c≠none:=by
      rcases hc with rfl | hc
      · rw [e];simp
      · rw [hc];simp
    exact hB c v q (fun z=>hn (J.stkFree c z)) fun z=>hn (hcs c z).1
theorem Inv.flown {B h2:Heap} {cs:List Addr} {e:Addr} {cls a0:Value} (hex:X.ex=[]) (J:Inv X pins σ H s) (hcs:∀ b∈cs,H b=none∧X.s₀.heap.get? b=none)
    (hB:∀ b o,s.heap.get? b=some o→b ∉ frs X.stack→b ∉ cs→B.get? b=some o) (hF:∀ b o,s.heap.get? b=some o→b∈frs X.stack→∃ sl,h2.get? b=some { o with slots:=sl })
    (he:H e=none) (he0:X.s₀.heap.get? e=none) (kb:B.StaysIn h2) (tr:h2.TracedW B e cls a0) :
    Un X.fs [] X.H₀ H X.s₀.heap h2∧HOk X.prog X.w H h2∧XF X.s₀.heap h2 H e cls:=by
  have hk:=J.behind (h2:=h2) hex hcs (fun b o q n1 n2=>kb b o (hB b o q n1 n2)) hF
  refine ⟨hk.1,hk.2,?_⟩
  obtain ⟨oe,vs,T,oT,ts,h1,h2',h3,h4,h5,h6,h7,h8,h9⟩:=tr
  have noT:∀ o,s.heap.get? T=some o→T∈cs:=fun o q=>by
    by_cases hb:T∈frs X.stack
    · obtain ⟨o',q',nf⟩:=J.stackFields hb
      obtain ⟨sl,z⟩:=hF T o' q' hb
      rw [h7] at z
      have z':oT={ o' with slots:=sl }:=Option.some.inj z
      exact absurd (by rw [← h8,z']) (nf ts)
    · by_cases hc:T∈cs
      · exact hc
      · rw [hB T o q hb hc] at h5;cases h5
  refine ⟨oe,vs,a0,T,oT,ts,h1,h2',h3,h4,h6,h7,h8,h9,he0,?_,he,?_⟩
  · cases q:X.s₀.heap.get? T with
    | none=>rfl
    | some o =>
      obtain ⟨o',q'⟩:=J.there0 hex T o q
      rw [(hcs T (noT o' q')).2] at q;cases q
  · cases q:H T with
    | none=>rfl
    | some u =>
      obtain ⟨o,z⟩:=(J.hok T u q).there
      rw [(hcs T (noT o z)).1] at q;cases q
theorem leave_new {h':Heap} {e:Addr} {cls:Value} {vs:List Value} {E:XK} {EE:Value→Shared→Prop} (hst:X.stack=X.env :: X.outer∧X.env.frame=some X.env.locals) (hex:X.ex=[]) (J:Inv X pins σ H s) (hx:Heap.MadeExcOf s.heap h' e cls vs) (hE:E cls none H) :
    wpAny (model X.prog X.w) X.A (leaving X.env (.ref e)) (fun _ s2=>CX1 X.prog X.w X.outer X.H₀ X.s₀ E (.ref e) s2) EE { s with heap:=h' }:=by
  have fr:s.heap.FunFrames (PySem.W.hideAll s.heap (frs X.stack)) (X.env :: X.outer):=by
    have q:=PySem.W.funFrames_hide (as:=frs X.stack) J.stack fun env he a ha=>List.mem_filterMap.mpr ⟨env,he,ha⟩
    rw [hst.1] at q ⊢
    exact q
  refine wpAny_leaves_madeW (s:={ s with heap:=h' }) (base:=PySem.W.hideAll s.heap (frs X.stack)) (h:=s.heap) (by rw [J.ok.frames,hst.1]) hst.2 (fun b o q=>PySem.W.of_hideAll _ q) fr hx fun h2 t hfl _ _ hup=>?_
  obtain ⟨f1,f2,f3,f4⟩:=hfl
  have hF:∀ b o,s.heap.get? b=some o→b∈frs X.stack→∃ sl,h2.get? b=some { o with slots:=sl }:=fun b o q hb=>by
    obtain ⟨o',q',nf⟩:=J.stackFields hb
    rw [q] at q';cases q'
    exact hup b o (hx.keeps b o q) nf
  obtain ⟨r1,r2,r3⟩:=J.flown (cs:=[]) hex (fun b z=>nomatch z) (fun b o q n _=>PySem.W.hideAll_get _ q n) hF
    (by
      cases q:H e with
      | none=>rfl
      | some u =>
        obtain ⟨o,z⟩:=(J.hok e u q).there
        rw [hx.new] at z;cases z)
    (none_back (J.there0 hex) hx.new) f1 f4
  exact ⟨e,cls,H,rfl,J.os,J.bare,r1,r2,r3,hE⟩
theorem leave_on {e:Addr} {cls:Value} {E:XK} {EE:Value→Shared→Prop} (hst:X.stack=X.env :: X.outer∧X.env.frame=some X.env.locals) (hex:X.ex=[]) (J:Inv X pins σ H s) (xf:XF X.s₀.heap s.heap H e cls) (hE:E cls none H) :
    wpAny (model X.prog X.w) X.A (leaving X.env (.ref e)) (fun _ s2=>CX1 X.prog X.w X.outer X.H₀ X.s₀ E (.ref e) s2) EE s:=by
  obtain ⟨oe,vs,a0,T,oT,ts,h1,h2,h3,h4,h5,h6,h7,h8,h9,h10,h11,h12⟩:=id xf
  have fr:s.heap.FunFrames (PySem.W.hideAll s.heap (frs X.stack ++ [e,T])) (X.env :: X.outer):=by
    have q:=PySem.W.funFrames_hide (as:=frs X.stack ++ [e,T]) J.stack fun env he a ha=>List.mem_append_left _ (List.mem_filterMap.mpr ⟨env,he,ha⟩)
    rw [hst.1] at q ⊢
    exact q
  refine wpAny_leaves_onW (base:=PySem.W.hideAll s.heap (frs X.stack ++ [e,T])) (a0:=a0) (by rw [J.ok.frames,hst.1]) hst.2
    ⟨fun b o q=>PySem.W.of_hideAll _ q,PySem.W.hideAll_none _ (List.mem_append_right _ (by simp)),fr,oe,vs,T,oT,ts,h1,h2,h3,h4,PySem.W.hideAll_none _ (List.mem_append_right _ (by simp)),h5,h6,h7,h8⟩ fun h2' hfl hup=>?_
  obtain ⟨f1,f2,f3,f4⟩:=hfl
  have hF:∀ b o,s.heap.get? b=some o→b∈frs X.stack→∃ sl,h2'.get? b=some { o with slots:=sl }:=fun b o q hb=>by
    obtain ⟨o',q',nf⟩:=J.stackFields hb
    rw [q] at q';cases q'
    exact hup b o q nf
  obtain ⟨r1,r2,r3⟩:=J.flown (cs:=[e,T]) hex (fun b z=>by
      have z':b=e∨b=T:=by simpa using z
      rcases z' with rfl | rfl
      · exact ⟨h11,h9⟩
      · exact ⟨h12,h10⟩) (fun b o q n n2=>PySem.W.hideAll_get _ q fun z=>(List.mem_append.mp z).elim n n2) hF h11 h9 f1 f4
  exact ⟨e,cls,H,rfl,J.os,J.bare,r1,r2,r3,hE⟩
end
def Raises (X:Cx) (E:XK):Prop:=∀ (pins:List (Addr × Obj)) (σ:St) (H:Hp) (s:Shared) (h':Heap) (e:Addr) (cls:Value) (vs:List Value),Inv X pins σ H s→Heap.MadeExcOf s.heap h' e cls vs→E cls none H→X.xe (.ref e) { s with heap:=h' }
section
variable {P:Program} {w:World} {K:PySem.W.Frag} {mg:Str→Option Value} {base:Heap} {N:List Str} {qual:Str} {scope:Scope} {f:Addr} {cd:Value} {A:Around} {outer:List Env} {s₀:Shared} {H₀:Hp} {E:XK}
theorem pass1:Passes (CX1 P w) (cxOf (CX1 P w) P w K mg base N qual scope f cd A outer s₀ H₀ E) E:=by
  intro pins σ H s ev s' I hcx
  obtain ⟨e,cls,H',rfl,os,bare,un,hok,xf,hE⟩:=hcx
  have J:=I.call' (ch:=[]) os un hok bare (fun b z=>nomatch z)
  exact leave_on (X:=cxOf (CX1 P w) P w K mg base N qual scope f cd A outer s₀ H₀ E) ⟨rfl,rfl⟩ rfl J (xf.older (I.there0 rfl)) hE
theorem raises1:Raises (cxOf (CX1 P w) P w K mg base N qual scope f cd A outer s₀ H₀ E) E:=by
  intro pins σ H s h' e cls vs I hx hE
  exact leave_new (X:=cxOf (CX1 P w) P w K mg base N qual scope f cd A outer s₀ H₀ E) ⟨rfl,rfl⟩ rfl I hx hE
theorem own1:PassesOwn (model P w) (cxOf (CX1 P w) P w K mg base N qual scope f cd A outer s₀ H₀ E).A (cxOf (CX1 P w) P w K mg base N qual scope f cd A outer s₀ H₀ E).env (cxOf (CX1 P w) P w K mg base N qual scope f cd A outer s₀ H₀ E).xe:=PassesOwn.leaving
end
abbrev bmVal:List Value:=[.type "ValueError",.type "Exception",.type "BaseException",.type "object"]
abbrev newVal:String:="ValueError.__new__"
def tRaise (C:Addr) (ta:TA) (E:XK):TS:=fun _ σ H=>ta σ H fun vs H1=>vs.length≤sizeLine∧E (.ref C) none H1
theorem own_cls {K:PySem.W.Frag} {h:Heap} {C:Addr} {bmB:List Value} {newId:String} (X:K.In h) (q:PySem.W.excIn K C bmB newId=true) :
    ∃ bm N nm qn bs hdct sn sub ab col dd k0 k1 k2 k3 k5 mN,h.get? C=some (excClassObj nm qn C N bs bm hdct sn sub ab col dd k0 k1 k2 k3 k5 newId)∧h.Ns N mN∧mN "__init__"=none∧OwnTail h bmB bm:=by
  unfold PySem.W.excIn at q
  split at q
  case h_2=>cases q
  rename_i dd cd sl ho
  split at q
  case h_2=>cases q
  rename_i C' bm k0 k1 k2 k3 n k5 hm hs
  rw [Bool.and_eq_true,Bool.and_eq_true,Bool.and_eq_true,Bool.and_eq_true,Bool.and_eq_true] at q
  obtain ⟨⟨⟨⟨⟨q1,q2⟩,q3⟩,q4⟩,q5⟩,q6⟩:=q
  obtain rfl:C'=C:=by simpa using q1
  obtain rfl:n=newId:=by simpa using q2
  obtain ⟨nm,bs,mro,ns,qn,hd,sn,sub,ab,col,del⟩:=cd
  have hdel:del=false:=by simpa using q3
  have hm':mro=.ref C' :: bm:=hm
  subst hdel hm'
  have hsl:sl=#[k0,k1,k2,k3,some (.builtin n),k5]:=by
    apply Array.ext'
    exact hs
  subst hsl
  exact ⟨bm,ns,nm,qn,bs,hd,sn,sub,ab,col,dd,k0,k1,k2,k3,k5,_,X _ _ ho,.of_isNs (PySem.W.isNs_of_in X q5),PySem.W.nsMap_none_of_in X q5 (by simpa using q6),PySem.W.tail_of_in X q4⟩
section
variable {X:Cx} {x:Str} {C:Addr} {np cpos pos:Pos} {e₀:Expr} {rest:List Expr} {ta:TA} {E:XK}
theorem ps_raise (hc:X.calm=true) (q:PySem.W.excIn X.K C bmVal newVal=true) (hr:Raises X E) (hg:Gl X x) (hm:X.mg x=some (.ref C)) (ha:PA X (e₀ :: rest) ta)
    (he:starEach (e₀ :: rest) X.env=(false,eval e₀ X.env) :: starEach rest X.env:=by rfl) (hp:(backTo cpos (starEach rest X.env)).any (·.1)=false:=by rfl) (hd:(x == ("__debug__":Str))=false:=by decide) :
    PS X (.Raise (some (.Call (.Name x np) (e₀ :: rest) [] cpos)) none pos) (tRaise C ta E):=by
  intro pins s σ H D I h
  obtain ⟨tl,N,nm,qn,bs,hdct,sn,sub,ab,col,dd,k0,k1,k2,k3,k5,mN,hC,hN,hni,T⟩:=own_cls I.ok.mod.kin q
  refine wpAny_Raise_call_subT (C:=C) (nm:=nm) (q:=qn) (N:=N) (bs:=bs) (bm:=tl) (hdct:=hdct) (sn:=sn) (sub:=sub) (ab:=ab) (col:=col) (dd:=dd) (k0:=k0) (k1:=k1) (k2:=k2) (k3:=k3) (k5:=k5) (newId:=newVal)
    PySem.F.excBase_ValueError (mN:=mN) (T.hasType PySem.F.excBase_ValueError.hasBase) (I.ok.hd hc) (by rw [he];exact hp) hni (ld_glob I hg hm ⟨rfl,?_⟩ hd)
  have hA:=ha cpos pins s σ H _ I h
  rw [he] at hA ⊢
  refine Calls.evalArgs_plain (thn hA fun us s2 ⟨vs,H2,I2,r2,z2,q2⟩=>?_)
  exact ⟨rfl,by rw [← r2.length];exact z2,I2.bk _ _ hC,hN.keeps I2.bk,T.keeps I2.bk,fun h' e hm=>hr pins σ H2 s2 h' e _ _ I2 hm q2⟩
end
def Asc (x:Str):Prop:=∀ c∈x.cps.toList,c < 128
section
variable {X:Cx} {e:Expr} {te:TE} {a:Str} {j:Nat} {p1 p2 p3:Pos}
def tMsgR (te:TE):TE:=fun σ H Q=>te σ H fun v H1=>∃ x:Str,v=.str x∧x.length≤100000∧Asc x∧∀ y:Str,Q (.str y) H1
theorem pe_msgR (he:PE X e te) (hl:a.length≤1000:=by decide +kernel):PE X (.JoinedStr [.Constant (.str a) j p1,.FormattedValue e 114 none p2] p3) (tMsgR te):=by
  intro pins s σ H Q I h
  refine wpAny_JoinedStr ?_
  show wpAny _ _ (eval (.Constant (.str a) j p1) X.env) _ _ s
  have e0:(Str.empty ++ a).length=a.length:=by rw [Str.length_append];simp [Str.empty,Str.length]
  refine Calls.Constant_str ⟨a,_,rfl,by rw [e0];exact small_size (by lia),?_⟩
  show wpAny _ _ (eval (.FormattedValue e 114 none p2) X.env) _ _ _
  refine wpAny_FormattedValue_repr (thn (he pins _ σ H _ (I.tok _) h) fun v s1 ⟨x,H1,I1,r1,z,ex,hz,hA,q⟩=>?_)
  subst ex
  obtain ⟨t,rfl⟩:=r1
  have hr:(reprText z).length≤10 * z.length + 2:=StrLaws.reprText_len z fun c hc=>Nat.lt_trans (hA c hc) (by decide)
  have hs:sizeLine=16777216:=sizeLine_eq
  refine wpAny_pyReprObj_gives (typeIs_str _ z t) PySem.F.slot_str_repr PySem.F.entry_str_repr (PySem.F.args_str_repr_1 _) (gives_str_repr z t) ?_ rfl (by lia)
  have fin:∀ (t':Tok) (tk:Nat),∃ y u,Value.str (reprText z) t'=Value.str y u∧(Str.empty ++ a ++ y).length≤sizeLine∧Joins (model X.prog X.w) X.A X.xe (evalEach [] X.env) (Str.empty ++ a ++ y) (fun out s₁=>out.length≤sizeLine∧EP X pins σ Q (.str out s₁.toks) { s₁ with toks:=s₁.toks + 1 }) { s1 with toks:=tk }:=fun t' tk=>by
    have hz2:(Str.empty ++ a ++ reprText z).length≤sizeLine:=by rw [Str.length_append,e0];lia
    exact ⟨_,_,rfl,hz2,hz2,.str _,H1,I1.tok _,⟨_,rfl⟩,q _⟩
  exact wpAny_formatField_str (fin _ _) (fin _ _) (by lia)
def tMsgS (te:TE):TE:=fun σ H Q=>te σ H fun v H1=>∃ x:Str,v=.str x∧x.length≤100000∧∀ y:Str,Q (.str y) H1
end
end L2
namespace L2
open PySem PySem.Spec PyProof.Rows
structure ExC (K:PySem.W.Frag) (C:Addr):Prop where
  ga:PySem.W.findIn K (.ref C) "__getattribute__"=some (some (.builtin "BaseException.__getattribute__"))
  gx:PySem.W.findIn K (.ref C) "__getattr__"=some none
  cl:PySem.W.findIn K (.ref C) "__class__"=some (some (.builtin "object.__class__"))
  ob:PySem.W.mroIn K C (.type "object")=some true
  be:PySem.W.mroIn K C (.type "BaseException")=some true
  ge:PySem.W.specialIn K (.builtin "object.__class__") "__get__"=some (some (.builtin "getset_descriptor.__get__"))
  tk:PySem.W.takesIn K (.builtin "object.__class__")=some true
section
variable {prog:Program} {w:World} {A:Around} {E:Value→Shared→Prop} {K:PySem.W.Frag} {e C:Addr} {s:Shared}
open PySem.Builtin PySem.Builtin.Getset_descriptor in
end
end L2
namespace L2
open PySem PySem.Spec PyProof.Rows
section
variable {X:Cx} {pins:List (Addr × Obj)} {σ:St} {H:Hp} {s:Shared}
end
def exO (e C:Addr):HO:=.ext fun h=>∃ o,h.get? e=some o∧o.cls=.ref C
abbrev Cx.sub (X:Cx) (e:Addr):Cx:={ X with A:=X.A.mark (some (.ref e)),calm:=false,xe:=fun _ _=>False }
section
variable {X:Cx} {pins:List (Addr × Obj)} {σ:St} {H:Hp} {s:Shared} {e:Addr}
end
abbrev EXK:=Value→St→Hp→Prop
section
variable {X:Cx} {k:Nat} {f:Addr} {fd:FuncData} {ps:List Str} {sp:Sp} {x:Str} {p pos:Pos} {e:Expr} {es:List Expr} {t:TA}
def tCallX (sp:Sp) (ta:TA) (EX:EXK):TE:=fun σ H Q=>ta σ H fun vs H1=>sp (vs ++ []) H1 Q fun cls _ H2=>EX cls σ H2
end
section
variable {X:Cx} {ex:Expr} {tx:EXK→TE} {pos p1:Pos} {i:Nat} {y:Str}
def tDropX (tx:EXK→TE) (EX:EXK):TS:=fun D σ H=>tx EX σ H fun _ H1=>D.nx σ H1
def tRetX (tx:EXK→TE) (EX:EXK):TS:=fun D σ H=>tx EX σ H D.rt
def tAsgX (tx:EXK→TE) (i:Nat) (EX:EXK):TS:=fun D σ H=>tx EX σ H fun v H1=>D.nx (σ.set i (some v)) H1
end
structure ExK (K:PySem.W.Frag) (C:Addr):Prop extends ExC K C where
  has:(PySem.W.clsIn K C).isSome=true
def endT (i:Nat) (D:Ends):Ends:={ nx:=fun σ H=>D.nx (σ.set i none) H,rt:=D.rt,bk:=fun σ H=>D.bk (σ.set i none) H,ct:=fun σ H=>D.ct (σ.set i none) H }
def tTry (K:PySem.W.Frag) (tb:EXK→TS) (C0:Addr) (i:Nat) (th:TS):TS:=fun D σ H=>tb (fun cls σ1 H1=>∃ C,cls=.ref C∧ExK K C∧PySem.W.exmOne K (.ref C) (.ref C0)=some true ∧
  ∀ e,H1 e=none→th (endT i D) (σ1.set i (some (.ref e))) (upd H1 e (exO e C))) D σ H
section
variable {X:Cx} {st b₀:Stmt} {suite:List Stmt} {tb:EXK→TS} {th:TS} {c n:Str} {C0:Addr} {i:Nat} {np hpos pos:Pos}
end
end L2
namespace L2
open PySem PySem.Spec PyProof.Rows
def clsV:V→Option Value
  | .ty T=>some (.type T)
  | .ref D=>some (.ref D)
  | _=>none
abbrev cIsx (K:PySem.W.Frag):RC:=fun xs H Q=>∃ a C c cv b,xs=[.ref a,c]∧H a=some (exO a C)∧ExK K C∧clsV c=some cv∧PySem.W.kitOne K (.ref C) cv=some b∧Q (.bl b) H
abbrev cIsxT (K:PySem.W.Frag):RC:=fun xs H Q=>∃ a C p,∃ cs:List Addr,∃ b,xs=[.ref a,.ref p]∧H a=some (exO a C)∧ExK K C∧H p=some (.tup (cs.map V.ref))∧PySem.W.kitAny K (.ref C) (cs.map Value.ref)=some b∧Q (.bl b) H
section
variable {X:Cx}
end
theorem pass10 {P:Program} {w:World} {X:Cx}:Passes (CX1 P w) X E0:=fun _ _ _ _ _ _ _ h=>by
  obtain ⟨_,_,_,_,_,_,_,_,_,z⟩:=h
  exact z.elim
section
variable {P:Program} {w:World} {K:PySem.W.Frag} {mg:Str→Option Value} {base:Heap}
theorem Fun.ok1 {x qual:Str} {st:Stmt} {f:Addr} {fd:FuncData} {N ps:List Str} {k:Nat} {sp:Sp} (F:Fun K x qual st f fd) (S:FnScope N ps (defScope st)) (len:∀ vs H Q E,sp vs H Q E→vs.length=ps.length)
    (hbody:∀ (cdv:Value) (A:Around) (outer:List Env) (s:Shared) (H:Hp) (vs:List V) (Q:VK) (E:XK),Room k (A.deeper (envOfC qual (defScope st) s.heap.objs.size f cdv))→sp vs H Q E →
      ∃ t,PSs (cxOf (CX1 P w) P w K mg base N qual (defScope st) f cdv A outer s H E) (defBody st) t∧t { nx:=fun _ H'=>Q .non H',rt:=Q } (start N vs) H):FnOk P w K mg base (CX1 P w) (k + 1) f fd ps sp:=by
  obtain ⟨oc,od,kV,doc,pm,an,cdv,ct,osl,rfl,lk,hcd⟩:=F.ex
  exact fn_of lk hcd S len fun A outer s H vs Q E hr hsp=>hbody cdv A outer s H vs Q E hr hsp
theorem Fun.ok0 {x qual:Str} {st:Stmt} {f:Addr} {fd:FuncData} {N ps:List Str} {k:Nat} {sp:Sp} (F:Fun K x qual st f fd) (S:FnScope N ps (defScope st)) (len:∀ vs H Q E,sp vs H Q E→vs.length=ps.length)
    (hbody:∀ (cdv:Value) (A:Around) (outer:List Env) (s:Shared) (H:Hp) (vs:List V) (Q:VK) (E:XK),Room k (A.deeper (envOfC qual (defScope st) s.heap.objs.size f cdv))→sp vs H Q E →
      ∃ t,PSs (cxOf (CX1 P w) P w K mg base N qual (defScope st) f cdv A outer s H E).nox (defBody st) t∧t { nx:=fun _ H'=>Q .non H',rt:=Q } (start N vs) H):FnOk P w K mg base (CX1 P w) (k + 1) f fd ps sp :=
  F.ok1 S len fun cdv A outer s H vs Q E hr h=>let ⟨t,a,b⟩:=hbody cdv A outer s H vs Q E hr h;⟨t,a.nox,b⟩
end
theorem walk_ofX {l:PySem.W.OpenLaw} {n k:Nat} {q:Program} {loose:List Str} {XP:(Str→Option Value)→Heap→Prop} {YP:World→Heap→Prop} {d:DefRec} {K:Params→PySem.W.Frag} {sp:PySem.W.Frag→Sp} {x:Str}
    (hn:l.most=some n) (hn2:n≤sizeLine) (hdf:d.params.defaults=[]) (hr:Room k callerA)
    (hY:∀ (w:World) (h:Heap),YP w h→(K w.params).In h)
    (F:∀ (w:World) (mg:Str→Option Value) (fa:Addr) (h:Heap),(K w.params).In h→h.Ns mainGlobals mg→mg d.name=some (.ref fa) →
      ∃ fd:FuncData,(∀ (s:Shared) (u:Value),BindsTo s fd ⟨[u],[]⟩ [(x,u)]) ∧
        ∀ base:Heap,(K w.params).In base→base.Ns mainGlobals mg→FnOk l.prog w (K w.params) mg base (CX1 l.prog w) k fa fd [x] (sp (K w.params)))
    (hsp:∀ (K:PySem.W.Frag) (H:Hp) (a:Addr) (ns:List Int),ns.length≤n→Only H→SqL K H a (ns.map V.int)→sp K [.ref a] H (fun v _=>v=.bl true) fun _ _ _=>False) :
    PySem.W.WalkO q loose XP YP l.row.toRowW d [] (fun f vs=>PySem.call f vs) :=
  walk_of (K:=K) (CX:=fun w=>CX1 l.prog w) (sp:=fun w=>sp (K w.params)) hn hn2 hdf hr hY F (fun w H a ns h1 h2 h3=>hsp (K w.params) H a ns h1 h2 h3) fun _ _ _ _ _ z=>by
    obtain ⟨_,_,_,_,_,_,_,_,_,y⟩:=z
    exact y
end L2
namespace L2
open PySem
section
variable {σ:St} {H:Hp} {nx:St→Hp→Prop} {B:V→St→Hp→(St→Hp→Prop)→Prop}
theorem loop_range {lo:Int} {n:Nat} (Pv:Nat→St→Hp→Prop) (h0:Pv 0 σ H) (hs:∀ i σ H,i < n→Pv i σ H→B (.int (lo + i)) σ H (Pv (i + 1))) (hd:∀ σ H,Pv n σ H→nx σ H) :
    ∃ W:Nat→Nat→St→Hp→Prop,(∃ m,W 0 m σ H)∧∀ i m σ H,W i m σ H→((Itr lo n).stop i H∧nx σ H)∨((Itr lo n).go i H∧∃ N:St→Hp→Prop,(∀ σ' H',N σ' H'→∃ m',m' < m∧W (i + 1) m' σ' H')∧∀ x H',(Itr lo n).yld i H x H'→B x σ H' N):=by
  refine ⟨fun i m σ H=>m=n - i∧i≤n∧Pv i σ H,⟨n,by simp,Nat.zero_le _,h0⟩,?_⟩
  rintro i m σ H ⟨rfl,hi,p⟩
  by_cases hlt:i < n
  · refine .inr ⟨hlt,Pv (i + 1),fun σ' H' p'=>⟨n - (i + 1),by lia,rfl,hlt,p'⟩,?_⟩
    rintro x H' ⟨rfl,rfl⟩
    exact hs i σ _ hlt p
  · obtain rfl:i=n:=by lia
    exact .inl ⟨Nat.le_refl _,hd σ H p⟩
theorem loop_list {K:PySem.W.Frag} {a:Addr} (xs:List V) (Pv:Nat→St→Hp→Prop) (h0:Pv 0 σ H) (hl:∀ i σ H,Pv i σ H→SqL K H a xs) (hs:∀ i x σ H,xs[i]?=some x→Pv i σ H→B x σ H (Pv (i + 1))) (hd:∀ σ H,Pv xs.length σ H→nx σ H) :
    ∃ W:Nat→Nat→St→Hp→Prop,(∃ m,W 0 m σ H)∧∀ i m σ H,W i m σ H→((Itl K a).stop i H∧nx σ H)∨((Itl K a).go i H∧∃ N:St→Hp→Prop,(∀ σ' H',N σ' H'→∃ m',m' < m∧W (i + 1) m' σ' H')∧∀ x H',(Itl K a).yld i H x H'→B x σ H' N):=by
  refine ⟨fun i m σ H=>m=xs.length - i∧i≤xs.length∧Pv i σ H,⟨xs.length,by simp,Nat.zero_le _,h0⟩,?_⟩
  rintro i m σ H ⟨rfl,hi,p⟩
  have q:=hl i σ H p
  by_cases hlt:i < xs.length
  · refine .inr ⟨⟨xs,xs[i],q,by simp [hlt]⟩,Pv (i + 1),fun σ' H' p'=>⟨xs.length - (i + 1),by lia,rfl,hlt,p'⟩,?_⟩
    rintro x H' ⟨rfl,y⟩
    exact hs i x σ _ (y xs q) p
  · obtain rfl:i=xs.length:=by lia
    exact .inl ⟨⟨xs,q,Nat.le_refl _⟩,hd σ H p⟩
theorem loop_tup {K:PySem.W.Frag} {a:Addr} (xs:List V) (Pv:Nat→St→Hp→Prop) (h0:Pv 0 σ H) (hl:∀ i σ H,Pv i σ H→SqT K H a xs) (hs:∀ i x σ H,xs[i]?=some x→Pv i σ H→B x σ H (Pv (i + 1))) (hd:∀ σ H,Pv xs.length σ H→nx σ H) :
    ∃ W:Nat→Nat→St→Hp→Prop,(∃ m,W 0 m σ H)∧∀ i m σ H,W i m σ H→((Itt K a).stop i H∧nx σ H)∨((Itt K a).go i H∧∃ N:St→Hp→Prop,(∀ σ' H',N σ' H'→∃ m',m' < m∧W (i + 1) m' σ' H')∧∀ x H',(Itt K a).yld i H x H'→B x σ H' N):=by
  refine ⟨fun i m σ H=>m=xs.length - i∧i≤xs.length∧Pv i σ H,⟨xs.length,by simp,Nat.zero_le _,h0⟩,?_⟩
  rintro i m σ H ⟨rfl,hi,p⟩
  have q:=hl i σ H p
  by_cases hlt:i < xs.length
  · refine .inr ⟨⟨xs,xs[i],q,by simp [hlt]⟩,Pv (i + 1),fun σ' H' p'=>⟨xs.length - (i + 1),by lia,rfl,hlt,p'⟩,?_⟩
    rintro x H' ⟨rfl,y⟩
    exact hs i x σ _ (y xs q) p
  · obtain rfl:i=xs.length:=by lia
    exact .inl ⟨⟨xs,q,Nat.le_refl _⟩,hd σ H p⟩
end
theorem comp_gen {J:It} {D:Addr} {τ₀:St} {H1:Hp} {Q:Hp→Prop} {B:V→St→Hp→(V→St→Hp→Prop)→(St→Hp→Prop)→Prop} (n:Nat) (hn:n≤1000000) (C:St→Prop) (R:Nat→V→Prop) (hC:C τ₀)
    (go:∀ i H,Same H1 H→i < n→J.go i H) (stop:∀ H,Same H1 H→J.stop n H) (hD:H1 D=none)
    (hs:∀ i x τ H H',C τ→Same H1 H→i < n→J.yld i H x H'→B x τ H' (fun v τ' H4=>C τ'∧R i v∧Same H H4) (fun _ _=>False))
    (hd:∀ ys H,ys.length=n→(∀ i v,ys[i]?=some v→R i v)→Same H1 H→H D=some (.lst ys)→Q H) :
    ∃ W:Nat→Nat→List V→St→Hp→Prop,(∃ m,W 0 m [] τ₀ (upd H1 D (.lst [])))∧∀ i m ys τ H,W i m ys τ H→H D=some (.lst ys) ∧
    ((J.stop i H∧Q H)∨(J.go i H∧ys.length < sizeLine∧∃ N:V→St→Hp→Prop,
      (∀ v τ' H',N v τ' H'→H' D=some (.lst ys)∧∃ m',m' < m∧W (i + 1) m' (ys ++ [v]) τ' (upd H' D (.lst (ys ++ [v]))))∧∃ Nf:St→Hp→Prop,(∀ τ' H',Nf τ' H'→∃ m',m' < m∧W (i + 1) m' ys τ' H') ∧
      ∀ x H',J.yld i H x H'→B x τ H' N Nf)):=by
  have ext:∀ {H:Hp} {o:HO},Same H1 H→Same H1 (upd H D o):=fun {H o} h b u e=>by
    rw [upd_ne (ne_of_none e hD)];exact h b u e
  refine ⟨fun i m ys τ H=>m=n - i∧i≤n∧ys.length=i∧(∀ j v,ys[j]?=some v→R j v)∧Same H1 H∧H D=some (.lst ys)∧C τ,⟨n,by simp,Nat.zero_le _,rfl,by simp,ext (Same.refl _),upd_same,hC⟩,?_⟩
  rintro i m ys τ H ⟨rfl,hi,hl,hR,hS,hy,hc⟩
  refine ⟨hy,?_⟩
  by_cases hlt:i < n
  · refine .inr ⟨go i H hS hlt,Nat.lt_of_le_of_lt (by lia:ys.length≤1000000) (by decide),(fun v τ' H4=>C τ'∧R i v∧Same H H4),?_,(fun _ _=>False),fun _ _ z=>z.elim,fun x H' y=>hs i x τ H H' hc hS hlt y⟩
    rintro v τ' H4 ⟨c4,r4,s4⟩
    refine ⟨s4 _ _ hy,n - (i + 1),by lia,rfl,hlt,by simp [hl],fun j u hj=>?_,ext (hS.trans s4),upd_same,c4⟩
    rcases Nat.lt_trichotomy j ys.length with h | h | h
    · exact hR j u (by rwa [List.getElem?_append_left h] at hj)
    · subst h
      simp at hj
      subst hj
      rw [hl];exact r4
    · rw [List.getElem?_eq_none (by simp;lia)] at hj;cases hj
  · obtain rfl:i=n:=by lia
    exact .inl ⟨stop H hS,hd ys H hl hR hS hy⟩
theorem sIx_eq (n d:Nat) (v:Int):max (0:Int) (min (if v < 0 then v + n else v) n)=((HT.sIx n d (some v):Nat):Int):=by
  show _=(((if v < 0 then (v + (n:Int)).toNat else min v.toNat n):Nat):Int)
  by_cases hv:v < 0
  · simp only [if_pos hv];lia
  · simp only [if_neg hv];lia
theorem rng_one (a b:Nat):sliceRange (a:Int) (b:Int) 1=(List.range (b - a)).map fun k=>a + k:=by
  simp only [sliceRange,show ((1:Int) > 0)=True from by simp,if_true]
  by_cases hlt:(a:Int) < b
  · have e3:(((b:Int) - a + 1 - 1) / 1).toNat=b - a:=by rw [Int.ediv_one];lia
    simp only [hlt,if_true,e3]
    refine List.map_congr_left fun k _=>?_
    lia
  · have:b - a=0:=by lia
    simp [hlt,this]
theorem slice_ix (lo hi:Option Int) (n:Nat):Builtin.Str.strSliceIndices lo hi 1 n=(List.range (HT.sIx n n hi - HT.sIx n 0 lo)).map fun k=>HT.sIx n 0 lo + k:=by
  rw [← rng_one]
  unfold Builtin.Str.strSliceIndices
  simp only [show ((1:Int) > 0)=True from by simp,if_true]
  cases lo with
  | none =>
    cases hi with
    | none=>rfl
    | some v=>simp only [sIx_eq n n v];rfl
  | some u =>
    cases hi with
    | none=>simp only [sIx_eq n 0 u];rfl
    | some v=>simp only [sIx_eq n n v,sIx_eq n 0 u]
theorem slice_cps (x:Str) (lo hi:Option Int):(Txt.slice x lo hi).cps.toList=(x.cps.toList.drop (HT.sIx x.length 0 lo)).take (HT.sIx x.length x.length hi - HT.sIx x.length 0 lo):=by
  have hb:=HT.sIx_le x.length x.length (Nat.le_refl _) hi
  have hn:x.cps.toList.length=x.length:=by simp [Str.length]
  unfold Txt.slice
  rw [slice_ix]
  split
  · rename_i h
    have h':HT.sIx x.length x.length hi - HT.sIx x.length 0 lo=x.length:=by simpa using h
    have e0:HT.sIx x.length 0 lo=0∨x.length=0:=by lia
    rcases e0 with e0 | e0
    · rw [e0,List.drop_zero,List.take_of_length_le]
      lia
    · rw [List.eq_nil_of_length_eq_zero (by lia:x.cps.toList.length=0)];simp
  · by_cases hab:HT.sIx x.length 0 lo≤HT.sIx x.length x.length hi
    · have h:=StrLaws.picks x.cps.toList (HT.sIx x.length x.length hi - HT.sIx x.length 0 lo) (HT.sIx x.length 0 lo) (by lia)
      simpa using h
    · have:HT.sIx x.length x.length hi - HT.sIx x.length 0 lo=0:=by lia
      rw [this];simp
theorem slice_from (x:Str) (k:Nat):(Txt.slice x (some (k:Int)) none).cps.toList=x.cps.toList.drop k:=by
  rw [slice_cps,HT.sIx_none,HT.sIx_nat]
  have hn:x.cps.toList.length=x.length:=by simp [Str.length]
  by_cases h:k≤x.length
  · rw [Nat.min_eq_left h,List.take_of_length_le (by rw [List.length_drop];lia)]
  · rw [List.drop_eq_nil_of_le (by lia:x.cps.toList.length≤k),Nat.min_eq_right (by lia),List.drop_eq_nil_of_le (by lia)];simp
theorem slice_to (x:Str) (k:Nat):(Txt.slice x none (some (k:Int))).cps.toList=x.cps.toList.take k:=by
  rw [slice_cps,HT.sIx_none,HT.sIx_nat,List.drop_zero,Nat.sub_zero]
  have hn:x.cps.toList.length=x.length:=by simp [Str.length]
  by_cases h:k≤x.length
  · rw [Nat.min_eq_left h]
  · rw [Nat.min_eq_right (by lia),List.take_of_length_le (by lia),List.take_of_length_le (by lia)]
theorem str_ext {x y:Str} (h:x.cps.toList=y.cps.toList):x=y:=by
  obtain ⟨a⟩:=x
  obtain ⟨b⟩:=y
  have:a=b:=Array.toList_inj.mp h
  rw [this]
theorem cps_app (x y:Str):(x ++ y).cps.toList=x.cps.toList ++ y.cps.toList:=by
  show (x.cps ++ y.cps).toList=_
  simp
theorem starts_eq (x y:Str):(0 + y.length≤x.length && Builtin.Str.subAt x y 0)=(x.cps.toList.take y.length == y.cps.toList):=by
  rw [StrLaws.subAt_eq,List.drop_zero]
  have hn:x.cps.toList.length=x.length:=by simp [Str.length]
  have hm:y.cps.toList.length=y.length:=by simp [Str.length]
  by_cases h:y.length≤x.length
  · simp [h]
  · have e:(x.cps.toList.take y.length == y.cps.toList)=false:=by
      rw [beq_eq_false_iff_ne]
      intro e
      have:=congrArg List.length e
      rw [List.length_take] at this
      lia
    rw [e];simp
open PySem.NumText in
section
def numS (w:Int):Str:=Str.ofString (toString w)
def dg (m:Nat):List Nat:=(Nat.toDigits 10 m).map Char.toNat
theorem dg_small {m:Nat} (h:m < 10):dg m=[48 + m]:=by
  unfold dg
  rw [Nat.toDigits_of_lt_base h]
  have:∀ d:Nat,d < 10→(Nat.digitChar d).toNat=48 + d:=by decide
  simp [this m h]
theorem dg_step {m:Nat} (h:10≤m):dg m=dg (m / 10) ++ [48 + m % 10]:=by
  have hm:m % 10 < 10:=Nat.mod_lt m (by decide)
  have t:Nat.toDigits 10 (m / 10) ++ Nat.toDigits 10 (m % 10)=Nat.toDigits 10 (10 * (m / 10) + m % 10):=Nat.toDigits_append_toDigits (by decide) (by lia) hm
  rw [Nat.div_add_mod] at t
  rw [← dg_small hm]
  unfold dg
  rw [← t,List.map_append]
theorem dg_all (m:Nat):AllDigits (dg m):=by
  induction m using Nat.strongRecOn with
  | _ m ih =>
    by_cases h:m < 10
    · rw [dg_small h]
      intro c hc
      have e:c=48 + m:=by simpa using hc
      lia
    · rw [dg_step (by lia)]
      intro c hc
      rcases List.mem_append.mp hc with hc | hc
      · exact ih (m / 10) (by lia) c hc
      · have e:c=48 + m % 10:=by simpa using hc
        lia
theorem dg_ne (m:Nat):dg m≠[]:=by
  by_cases h:m < 10
  · rw [dg_small h];simp
  · rw [dg_step (by lia)];simp
theorem dg_val (m:Nat):digitsVal (dg m)=m:=by
  induction m using Nat.strongRecOn with
  | _ m ih =>
    by_cases h:m < 10
    · rw [dg_small h]
      show 0 * 10 + (48 + m - 48)=m
      lia
    · rw [dg_step (by lia),digitsVal_snoc,ih (m / 10) (by lia)]
      lia
theorem dg_len:∀ (k m:Nat),m < 10 ^ (k + 1)→(dg m).length≤k + 1
  | 0,m,h=>by rw [dg_small (by simpa using h)];simp
  | k + 1,m,h=>by
    by_cases hm:m < 10
    · rw [dg_small hm];simp
    · rw [dg_step (by lia),List.length_append]
      have:=dg_len k (m / 10) (by rw [Nat.pow_succ] at h;lia)
      simp only [List.length_cons,List.length_nil]
      lia
theorem numS_nat (m:Nat):(numS (m:Int)).cps.toList=dg m:=by
  unfold numS
  rw [Str.ofString_eq_toList]
  show (Nat.repr m).toList.map Char.toNat=_
  rw [Nat.toList_repr]
  rfl
theorem numS_neg {m:Nat} (h:0 < m):(numS (-(m:Int))).cps.toList=45 :: dg m:=by
  obtain ⟨k,rfl⟩:∃ k,m=k + 1:=⟨m - 1,by lia⟩
  have e:(-((k + 1:Nat):Int))=Int.negSucc k:=by lia
  rw [e]
  unfold numS
  rw [Str.ofString_eq_toList]
  show (("-" ++ Nat.repr (k + 1)):String).toList.map Char.toNat=_
  rw [String.toList_append,List.map_append,Nat.toList_repr]
  rfl
theorem len_cps (x:Str):x.length=x.cps.toList.length:=by simp [Str.length]
theorem numS_len {w:Int} {k:Nat} (h:w.natAbs < 10 ^ (k + 1)):(numS w).length≤k + 2:=by
  rw [len_cps]
  rcases Int.lt_or_le w 0 with h0 | h0
  · obtain ⟨m,rfl,hm⟩:∃ m:Nat,w=-(m:Int)∧0 < m:=⟨w.natAbs,by lia,by lia⟩
    rw [numS_neg hm,List.length_cons]
    have:=dg_len k m (by lia)
    lia
  · obtain ⟨m,rfl⟩:∃ m:Nat,w=(m:Int):=⟨w.natAbs,by lia⟩
    rw [numS_nat]
    have:=dg_len k m (by lia)
    lia
theorem numS_reads {w:Int} (h:w.natAbs < 10 ^ 100):intText? (numS w)=some w:=by
  have hl:(numS w).length≤4300:=Nat.le_trans (numS_len (k:=99) h) (by decide)
  rcases Int.lt_or_le w 0 with h0 | h0
  · obtain ⟨m,rfl,hm⟩:∃ m:Nat,w=-(m:Int)∧0 < m:=⟨w.natAbs,by lia,by lia⟩
    rw [intText_neg (numS_neg hm) (dg_all m) (dg_ne m) hl,dg_val]
  · obtain ⟨m,rfl⟩:∃ m:Nat,w=(m:Int):=⟨w.natAbs,by lia⟩
    rw [intText_digits (by rw [numS_nat];exact dg_all m) (by rw [numS_nat];exact dg_ne m) hl,numS_nat,dg_val]
def inF (c:Nat):Bool:=!(Builtin.Str.occurrences "0123456789" ⟨#[c]⟩ 0 (Str.length "0123456789") 1).isEmpty
theorem inF_iff (c:Nat):inF c=true↔48≤c∧c≤57:=by
  unfold inF
  rw [StrLaws.found_one]
  have e:(Str.ofString "0123456789").cps.toList=[48,49,50,51,52,53,54,55,56,57]:=by decide +kernel
  rw [e]
  simp only [decide_eq_true_eq,List.mem_cons,List.not_mem_nil,or_false]
  omega
def isFig (x:Str):Bool:=!decide (x="") && x.cps.toList.all inF
theorem isFig_iff (x:Str):isFig x=true↔x.cps.toList≠[]∧AllDigits x.cps.toList:=by
  unfold isFig
  rw [Bool.and_eq_true,Bool.not_eq_true',decide_eq_false_iff_not,List.all_eq_true]
  refine and_congr ⟨fun h e=>h (str_ext (by rw [e];decide +kernel)),fun h e=>h (by rw [e];decide +kernel)⟩ ?_
  exact forall_congr' fun c=>forall_congr' fun _=>inF_iff c
def inW (i:Int):Bool:=decide (-1000000000000000000000000000000≤i∧i≤1000000000000000000000000000000)
def fpart (x:Str):Str:=if (x.cps.toList.take 1 == [45])=true then Txt.slice x (some 1) none else x
theorem fpart_cps (x:Str):(∃ cs,x.cps.toList=45 :: cs∧(fpart x).cps.toList=cs)∨((∀ cs,x.cps.toList≠45 :: cs)∧fpart x=x):=by
  unfold fpart
  cases h:x.cps.toList with
  | nil=>exact .inr ⟨(fun cs e=>nomatch e),if_neg (by simp)⟩
  | cons c cs =>
    by_cases hc:c=45
    · subst hc
      refine .inl ⟨cs,rfl,?_⟩
      rw [if_pos (by simp)]
      have:=slice_from x 1
      rw [h] at this
      exact this
    · refine .inr ⟨fun ds e=>hc (List.cons.inj e).1,?_⟩
      rw [if_neg (by simp [hc])]
def valOf (x:Str):Int:=(intText? x).getD 0
theorem int_of_fig {x:Str} (h:isFig (fpart x)=true) (hl:x.length≤4300):intText? x=some (valOf x):=by
  obtain ⟨h1,h2⟩:=(isFig_iff _).mp h
  unfold valOf
  rcases fpart_cps x with ⟨cs,e,ef⟩ | ⟨_,ef⟩
  · rw [ef] at h1 h2
    rw [intText_neg e h2 h1 hl];rfl
  · rw [ef] at h1 h2
    rw [intText_digits h2 h1 hl];rfl
def isNum (x:Str):Bool:=!(decide (31 < (fpart x).length) || !isFig (fpart x)) && (inW (valOf x) && decide (numS (valOf x)=x))
theorem fpart_len (x:Str):x.length≤(fpart x).length + 1:=by
  rw [len_cps,len_cps]
  rcases fpart_cps x with ⟨cs,e,ef⟩ | ⟨_,ef⟩
  · rw [e,ef];simp
  · rw [ef];lia
theorem fpart_le (x:Str):(fpart x).length≤x.length:=by
  unfold fpart
  split
  · exact Txt.slice_le x _ _
  · exact Nat.le_refl _
theorem isNum_numS {w:Int} (h:inW w=true):isNum (numS w)=true∧valOf (numS w)=w∧(numS w).length≤40:=by
  have hw:-1000000000000000000000000000000≤w∧w≤1000000000000000000000000000000:=of_decide_eq_true h
  have hr:=numS_reads (w:=w) (Nat.lt_of_le_of_lt (by lia:w.natAbs≤1000000000000000000000000000000) (by decide +kernel))
  have hv:valOf (numS w)=w:=by unfold valOf;rw [hr];rfl
  have hf:(fpart (numS w)).length≤31∧isFig (fpart (numS w))=true:=by
    rw [isFig_iff,len_cps]
    rcases Int.lt_or_le w 0 with h0 | h0
    · obtain ⟨m,rfl,hm⟩:∃ m:Nat,w=-(m:Int)∧0 < m:=⟨w.natAbs,by lia,by lia⟩
      rcases fpart_cps (numS (-(m:Int))) with ⟨cs,e,ef⟩ | ⟨e,_⟩
      · rw [numS_neg hm] at e
        rw [ef,← (List.cons.inj e).2]
        exact ⟨dg_len 30 m (by lia),dg_ne m,dg_all m⟩
      · exact absurd (numS_neg hm) (e _)
    · obtain ⟨m,rfl⟩:∃ m:Nat,w=(m:Int):=⟨w.natAbs,by lia⟩
      rcases fpart_cps (numS (m:Int)) with ⟨cs,e,ef⟩ | ⟨_,ef⟩
      · have:=dg_all m 45 (by rw [← numS_nat,e];simp)
        lia
      · rw [ef,numS_nat]
        exact ⟨dg_len 30 m (by lia),dg_ne m,dg_all m⟩
  refine ⟨?_,hv,Nat.le_trans (fpart_len _) (by lia)⟩
  unfold isNum
  rw [hv,hf.2,h,decide_eq_false (by lia:¬ 31 < (fpart (numS w)).length),decide_eq_true rfl]
  rfl
end
end L2
namespace L2
open PySem PySem.Spec PyProof.Rows
def findS (x y:Str):Int:=match Builtin.Str.occurrences x y 0 x.length 1 with | i :: _=>(i:Int) | []=>-1
abbrev r_mt_find:RM:=fun x xs H Q=>∃ a b,x=.str a∧xs=[.str b]∧Q (.int (findS a b)) H
def joinS (sep:Str):List Str→Str
  | [p]=>p
  | l=>Builtin.Str.glued sep l
def sumL (sep:Str) (ls:List Str):Nat:=ls.foldl (fun n p=>n + p.length + sep.length) 0
abbrev r_mt_join (K:PySem.W.Frag):RM:=fun x xs H Q=>∃ sep a ls,x=.str sep∧xs=[.ref a]∧SqL K H a (ls.map V.str)∧sumL sep ls≤sizeLine∧Q (.str (joinS sep ls)) H
theorem sumL_eq (sep:Str):∀ (ls:List Str) (k:Nat),ls.foldl (fun n p=>n + p.length + sep.length) k=k + (ls.map (·.length)).sum + ls.length * sep.length
  | [],k=>by simp
  | p :: r,k=>by
    rw [List.foldl_cons,sumL_eq sep r,List.map_cons,List.sum_cons,List.length_cons,Nat.add_mul,Nat.one_mul]
    lia
theorem joinS_len (sep:Str) (ls:List Str):(joinS sep ls).length≤sumL sep ls:=by
  unfold sumL
  rw [sumL_eq]
  have g:(Builtin.Str.glued sep ls).length≤0 + (ls.map (·.length)).sum + ls.length * sep.length:=by
    rw [size_glued]
    have:(ls.length - 1) * sep.length≤ls.length * sep.length:=Nat.mul_le_mul_right _ (by lia)
    lia
  unfold joinS
  split
  · simp only [List.map_cons,List.map_nil,List.sum_cons,List.sum_nil,List.length_cons,List.length_nil];lia
  · exact g
theorem vals_strs:∀ {ls:List Str} {us:List Value},Vals (ls.map V.str) us→∃ l:List (Str × Tok),us=strValues l∧l.map (·.1)=ls
  | [],_,.nil=>⟨[],rfl,rfl⟩
  | x :: r,_,.cons h t=>by
    obtain ⟨l,rfl,e⟩:=vals_strs t
    obtain ⟨k,rfl⟩:=h
    exact ⟨(x,k) :: l,rfl,by rw [List.map_cons,e]⟩
def repS (x:Str) (n:Int):Str:=if n < 1 then Str.empty else if (n == 1 || x.length == 0)=true then x else ⟨(List.replicate n.toNat x.cps).foldl (· ++ ·) #[]⟩
abbrev rMulS:R2:=fun x y H Q=>∃ a n,x=.str a∧y=.int n∧(n < 1000000∧-1000000 < n∧a.length * n.toNat≤1000000)∧Q (.str (repS a n)) H
section
variable {X:Cx}
theorem mt_find:MtR X "str.find" r_mt_find:=by
  intro pins s σ H x xs v us Q I rx rs h
  obtain ⟨a,b,rfl,rfl,q⟩:=h
  obtain ⟨t,rfl⟩:=rx
  obtain ⟨u,rfl,t',rfl⟩:=vals1 rs
  exact call_gives F.slot_str_find (typeIs_str s a t) F.entry_str_find (F.args_str_find_2 _ _) (gives_str_find a b t t') ⟨.int (findS a b),H,I.tok _,⟨_,rfl⟩,q⟩
theorem mt_join:MtR X "str.join" (r_mt_join X.K):=by
  intro pins s σ H x xs v us Q I rx rs h
  obtain ⟨sep,a,ls,rfl,rfl,hq,hl,q⟩:=h
  obtain ⟨t,rfl⟩:=rx
  obtain ⟨u,rfl,r1⟩:=vals1 rs
  cases r1
  obtain ⟨its,rv,p,hz⟩:=I.list hq
  obtain ⟨l,rfl,e⟩:=vals_strs rv
  have tl:Builtin.Str.tooLong ((l.map (·.1)).toArray.foldl (· + ·.length + sep.length) 0)=false:=by
    rw [e,List.foldl_toArray]
    unfold Builtin.Str.tooLong
    exact decide_eq_false (by unfold sumL at hl;lia)
  have jl:=joinS_len sep ls
  refine call_meets F.slot_str_join (typeIs_str s sep t) F.entry_str_join (F.args_str_join_2 _ _) (meets_str_join_list sep t a l tl) ⟨p.isList,?_⟩
  subst e
  match l,q,jl,hl with
  | [],q,jl,hl=>exact ⟨Nat.le_trans jl hl,.str _,H,I.tok _,⟨_,rfl⟩,q⟩
  | [p],q,jl,hl=>exact ⟨.str p.1,H,I,⟨_,rfl⟩,q⟩
  | p :: p' :: r,q,jl,hl=>exact ⟨Nat.le_trans jl hl,.str _,H,I.tok _,⟨_,rfl⟩,q⟩
end
theorem Asc.num (w:Int):Asc (numS w):=fun c hc=>by
  have d:∀ (m c:Nat),c∈dg m→c < 128:=fun m c h=>by have:=dg_all m c h;lia
  rcases Int.lt_or_le w 0 with h0 | h0
  · obtain ⟨m,rfl,hm⟩:∃ m:Nat,w=-(m:Int)∧0 < m:=⟨w.natAbs,by lia,by lia⟩
    rw [numS_neg hm] at hc
    rcases List.mem_cons.mp hc with rfl | hc
    · decide
    · exact d m c hc
  · obtain ⟨m,rfl⟩:∃ m:Nat,w=(m:Int):=⟨w.natAbs,by lia⟩
    rw [numS_nat] at hc
    exact d m c hc
theorem len_app (x y:Str):(x ++ y).length=x.length + y.length:=Str.length_append x y
end L2
namespace L2
open PySem PySem.Spec PyProof.Rows
section
open PySem.NumText
theorem dg_head:∀ {v:Nat} {r:List Nat},dg v=48 :: r→v=0:=by
  intro v
  induction v using Nat.strongRecOn with
  | _ v ih =>
    intro r h
    by_cases hv:v < 10
    · rw [dg_small hv] at h
      have:=(List.cons.inj h).1
      lia
    · rw [dg_step (by lia)] at h
      cases e:dg (v / 10) with
      | nil=>exact absurd e (dg_ne _)
      | cons a l =>
        rw [e] at h
        have ha:a=48:=(List.cons.inj h).1
        subst ha
        have:=ih (v / 10) (by lia) e
        lia
theorem dg_of:∀ (n:Nat) {d:List Nat},d.length=n→AllDigits d→d≠[]→d.head?≠some 48→dg (digitsVal d)=d
  | 0,d,hn,_,h2,_=>absurd (List.eq_nil_of_length_eq_zero hn) h2
  | n + 1,d,hn,h1,h2,h3=>by
    obtain ⟨e,c,rfl⟩:∃ e c,d=e ++ [c]:=⟨d.dropLast,d.getLast h2,(List.dropLast_concat_getLast h2).symm⟩
    have hc:=h1 c (by simp)
    rw [digitsVal_snoc]
    by_cases he:e=[]
    · subst he
      show dg (0 * 10 + (c - 48))=[c]
      rw [dg_small (by lia)]
      congr 1
      lia
    · have hh:e.head?≠some 48:=fun z=>h3 (by rw [List.head?_append,z];rfl)
      have ih:=dg_of n (d:=e) (by simpa using hn) (fun x hx=>h1 x (List.mem_append_left _ hx)) he hh
      have h0:digitsVal e≠0:=fun z=>by
        rw [z,dg_small (by decide)] at ih
        exact hh (by rw [← ih];rfl)
      rw [dg_step (by lia)]
      have e1:(digitsVal e * 10 + (c - 48)) / 10=digitsVal e:=by lia
      have e2:48 + (digitsVal e * 10 + (c - 48)) % 10=c:=by lia
      rw [e1,e2,ih]
def fig (x:Str):List Nat:=(fpart x).cps.toList
theorem zero_cps:(Str.ofString "0").cps.toList=[48]:=by decide +kernel
theorem val_fig {x:Str} (hl:x.length≤1000) (h1:AllDigits (fig x)) (h2:fig x≠[]):valOf x=if x=fpart x then (digitsVal (fig x):Int) else -(digitsVal (fig x):Int):=by
  unfold fig at *
  unfold valOf
  rcases fpart_cps x with ⟨cs,e,ef⟩ | ⟨_,ef⟩
  · rw [ef] at h1 h2
    rw [ef,intText_neg e h1 h2 (by lia),if_neg]
    · rfl
    · intro z
      have:=congrArg (fun y:Str=>y.cps.toList.length) z
      simp only [ef] at this
      rw [e,List.length_cons] at this
      lia
  · rw [ef] at h1 h2
    rw [ef,if_pos rfl,intText_digits h1 h2 (by lia)]
    rfl
theorem num_iff {x:Str} (hl:x.length≤1000):isNum x=true↔(fig x≠[]∧(fig x).length≤31∧AllDigits (fig x)∧¬ ((fig x).head?=some 48∧x≠"0")∧digitsVal (fig x)≤1000000000000000000000000000000):=by
  have A:isNum x=true↔((fig x).length≤31∧(fig x≠[]∧AllDigits (fig x))∧inW (valOf x)=true∧numS (valOf x)=x):=by
    unfold isNum fig
    rw [Bool.and_eq_true,Bool.and_eq_true,Bool.not_eq_true',Bool.or_eq_false_iff,decide_eq_false_iff_not,decide_eq_true_eq,Bool.not_eq_false',isFig_iff,len_cps,Nat.not_lt,and_assoc]
  rw [A]
  have key:fig x≠[]→AllDigits (fig x)→((inW (valOf x)=true∧numS (valOf x)=x)↔(¬ ((fig x).head?=some 48∧x≠"0")∧digitsVal (fig x)≤1000000000000000000000000000000)):=fun h2 h1=>by
    have hv:=val_fig hl h1 h2
    have dgo:(fig x).head?≠some 48→dg (digitsVal (fig x))=fig x:=dg_of _ rfl h1 h2
    have dgb:dg (digitsVal (fig x))=fig x→(fig x).head?=some 48→fig x=[48]:=fun e z=>by
      cases hd:fig x with
      | nil=>exact absurd hd h2
      | cons a r =>
        rw [hd] at z
        have:a=48:=by simpa using z
        subst this
        have v0:=dg_head (e.trans hd)
        rw [v0,dg_small (by decide)] at e
        rw [← hd,← e]
    have inw:inW (valOf x)=true↔digitsVal (fig x)≤1000000000000000000000000000000:=by
      unfold inW
      rw [decide_eq_true_eq,hv]
      split <;> lia
    rw [inw,and_comm]
    refine and_congr_left fun _=>?_
    unfold fig at *
    rcases fpart_cps x with ⟨cs,e,ef⟩ | ⟨_,ef⟩
    · have hne:¬ x=fpart x:=fun z=>by
        have:=congrArg (fun y:Str=>y.cps.toList.length) z
        simp only [ef] at this
        rw [e,List.length_cons] at this
        lia
      rw [hv,if_neg hne]
      rw [ef] at dgo dgb ⊢
      have x0:x≠"0":=fun z=>by
        have:=e.symm.trans ((congrArg (fun y:Str=>y.cps.toList) z).trans zero_cps)
        cases this
      constructor
      · intro h z
        by_cases v0:digitsVal cs=0
        · rw [v0] at h
          have:=(numS_nat 0).symm.trans (congrArg (fun y:Str=>y.cps.toList) h)
          rw [e,dg_small (by decide)] at this
          cases this
        · have:=(numS_neg (m:=digitsVal cs) (by lia)).symm.trans (congrArg (fun y:Str=>y.cps.toList) h)
          rw [e] at this
          have q:=(List.cons.inj this).2
          have q2:=dgb q z.1
          rw [q2] at v0
          exact v0 rfl
      · intro h
        have hh:cs.head?≠some 48:=fun z=>h ⟨z,x0⟩
        have q:=dgo hh
        have v0:digitsVal cs≠0:=fun z=>by
          rw [z,dg_small (by decide)] at q
          exact hh (by rw [← q];rfl)
        exact str_ext (by rw [numS_neg (by lia),e,q])
    · rw [hv,if_pos ef.symm]
      rw [ef] at dgo dgb ⊢
      constructor
      · intro h z
        have:=(numS_nat _).symm.trans (congrArg (fun y:Str=>y.cps.toList) h)
        have q:=dgb this z.1
        exact z.2 (str_ext (q.trans zero_cps.symm))
      · intro h
        refine str_ext ?_
        rw [numS_nat]
        by_cases z:x.cps.toList.head?=some 48
        · have:x="0":=Classical.not_not.mp fun w=>h ⟨z,w⟩
          rw [this,zero_cps]
          decide +kernel
        · exact dgo z
  constructor
  · rintro ⟨a,⟨b,c⟩,d⟩
    have:=(key b c).mp d
    exact ⟨b,a,c,this.1,this.2⟩
  · rintro ⟨b,a,c,d,e⟩
    exact ⟨a,⟨b,c⟩,(key b c).mpr ⟨d,e⟩⟩
end
end L2
namespace L2
open PySem PySem.Spec PyProof.Rows
section
variable {X:Cx}
abbrev cIntB:RC:=fun xs H Q=>∃ b:Bool,xs=[.bl b]∧Q (.int (if b then 1 else 0)) H
end
theorem hu64 {k:Nat} {A:Around} (r:Room k A):A.units + 64 < cLine:=by have:=r.un;lia
def datV:V→PyData
  | .non=>.none
  | .bl b=>.bool b
  | .int i=>.int i
  | .str x=>.str x
  | _=>.none
def isFlat:V→Bool
  | .non=>true
  | .bl _=>true
  | .int _=>true
  | .str x=>PyData.strOk x
  | _=>false
theorem Asc.flat {x:Str} (h:Asc x):isFlat (.str x)=true:=by
  unfold isFlat PyData.strOk
  rw [Array.all_eq_true]
  intro i hi
  have:=h x.cps[i] (by simp)
  exact decide_eq_true (by lia)
def mixV:V→V→Bool
  | .bl _,.int _=>false
  | .int _,.bl _=>false
  | _,_=>true
def mixAll:List V→List V→Bool
  | x :: xs,y :: ys=>mixV x y && mixAll xs ys
  | _,_=>true
theorem carried_of:∀ {xs:List V} {us:List Value},xs.all isFlat=true→Vals xs us→CarriedAll us (xs.map datV)
  | [],_,_,.nil=>.nil
  | x :: r,_,h,.cons rx t=>by
    rw [List.all_cons,Bool.and_eq_true] at h
    refine .cons ?_ (carried_of h.2 t)
    cases x with
    | non=>cases rx;exact .none
    | bl b=>cases rx;exact .bool b
    | int i=>obtain ⟨t,rfl⟩:=rx;exact .int i t
    | str x=>obtain ⟨t,rfl⟩:=rx;exact .str x t
    | byt b=>exact absurd h.1 (by simp [isFlat])
    | flt b=>exact absurd h.1 (by simp [isFlat])
    | ref a=>exact absurd h.1 (by simp [isFlat])
    | ty n=>exact absurd h.1 (by simp [isFlat])
theorem same_dat {x y:V} (hx:isFlat x=true) (hy:isFlat y=true):PySem.Spec.same (datV x) (datV y)=decide (x=y):=by
  cases x <;> cases y <;> simp_all [isFlat,datV,PySem.Spec.same] <;> (rename_i a b;by_cases e:a=b <;> simp [e])
theorem sameAll_dat:∀ {xs ys:List V},xs.all isFlat=true→ys.all isFlat=true→PySem.Spec.sameAll (xs.map datV) (ys.map datV)=decide (xs=ys)
  | [],[],_,_=>by simp [PySem.Spec.sameAll]
  | [],_ :: _,_,_=>by simp [PySem.Spec.sameAll]
  | _ :: _,[],_,_=>by simp [PySem.Spec.sameAll]
  | x :: r,y :: t,hx,hy=>by
    rw [List.all_cons,Bool.and_eq_true] at hx hy
    rw [List.map_cons,List.map_cons,PySem.Spec.sameAll,same_dat hx.1 hy.1,sameAll_dat hx.2 hy.2]
    by_cases a:x=y <;> by_cases b:r=t <;> simp [a,b]
theorem noMix_dat {x y:V} (hx:isFlat x=true) (hy:isFlat y=true) (h:mixV x y=true):SeqAt.noMix (datV x) (datV y)=true:=by
  cases x <;> cases y <;> simp_all [isFlat,datV,SeqAt.noMix,mixV]
theorem noMixAll_dat:∀ {xs ys:List V},xs.all isFlat=true→ys.all isFlat=true→mixAll xs ys=true→SeqAt.noMixAll (xs.map datV) (ys.map datV)=true
  | [],[],_,_,_=>by simp [SeqAt.noMixAll]
  | [],_ :: _,_,_,_=>by simp [SeqAt.noMixAll]
  | _ :: _,[],_,_,_=>by simp [SeqAt.noMixAll]
  | x :: r,y :: t,hx,hy,h=>by
    rw [List.all_cons,Bool.and_eq_true] at hx hy
    rw [mixAll,Bool.and_eq_true] at h
    rw [List.map_cons,List.map_cons,SeqAt.noMixAll,noMix_dat hx.1 hy.1 h.1,noMixAll_dat hx.2 hy.2 h.2]
    rfl
theorem shaped_dat {xs:List V} (h:xs.all isFlat=true):SeqAt.shaped (.list (xs.map datV))=true∧SeqAt.shaped (.tuple (xs.map datV))=true:=by
  have a:∀ x,isFlat x=true→(datV x).canLay0=true∧(datV x).depth=0:=fun x=>by cases x <;> simp [datV,PyData.canLay0,PyData.depth,isFlat]
  have l:∀ ys:List V,ys.all isFlat=true→PyData.canLayAll0 (ys.map datV)=true∧PyData.depthAll (ys.map datV)=0:=by
    intro ys
    induction ys with
    | nil=>exact fun _=>⟨rfl,rfl⟩
    | cons y r ih =>
      intro h
      rw [List.all_cons,Bool.and_eq_true] at h
      exact ⟨by rw [List.map_cons,PyData.canLayAll0,(a y h.1).1,(ih h.2).1];rfl,by rw [List.map_cons,PyData.depthAll,(a y h.1).2,(ih h.2).2];rfl⟩
  exact ⟨by simp [SeqAt.shaped,PyData.canLay0,PyData.depth,(l xs h).1,(l xs h).2],by simp [SeqAt.shaped,PyData.canLay0,PyData.depth,(l xs h).1,(l xs h).2]⟩
abbrev rEqL (K:PySem.W.Frag) (neg:Bool):R2:=fun x y H Q=>∃ a b xs ys,x=.ref a∧y=.ref b∧SqL K H a xs∧SqL K H b ys∧(xs.all isFlat=true∧ys.all isFlat=true∧mixAll xs ys=true)∧Q (.bl (if neg then !decide (xs=ys) else decide (xs=ys))) H
section
variable {X:Cx}
theorem op_eqL (hu:X.A.units + 64 < cLine):OpR X (compareOp .Eq) (rEqL X.K false):=by
  intro pins s σ H x y v u Q I rx ry h
  obtain ⟨a,b,xs,ys,rfl,rfl,ha,hb,⟨f1,f2,f3⟩,q⟩:=h
  cases rx
  cases ry
  obtain ⟨us,r1,p1,_⟩:=I.list ha
  obtain ⟨ws,r2,p2,_⟩:=I.list hb
  refine eq_dataH_same (reads_newData p1.isList (carried_of f1 r1)) (reads_newData p2.isList (carried_of f2 r2)) (shaped_dat f1).1 (shaped_dat f2).1 hu (by rw [SeqAt.noMix];exact noMixAll_dat f1 f2 f3) ?_
  rw [PySem.Spec.same,sameAll_dat f1 f2]
  exact ⟨.bl _,H,I,rfl,q⟩
theorem op_neL (hu:X.A.units + 64 < cLine):OpR X (compareOp .NotEq) (rEqL X.K true):=by
  intro pins s σ H x y v u Q I rx ry h
  obtain ⟨a,b,xs,ys,rfl,rfl,ha,hb,⟨f1,f2,f3⟩,q⟩:=h
  cases rx
  cases ry
  obtain ⟨us,r1,p1,_⟩:=I.list ha
  obtain ⟨ws,r2,p2,_⟩:=I.list hb
  refine ne_dataH_same (reads_newData p1.isList (carried_of f1 r1)) (reads_newData p2.isList (carried_of f2 r2)) (shaped_dat f1).1 (shaped_dat f2).1 hu (by rw [SeqAt.noMix];exact noMixAll_dat f1 f2 f3) ?_
  rw [PySem.Spec.same,sameAll_dat f1 f2]
  exact ⟨.bl _,H,I,rfl,q⟩
abbrev rEqNil (K:PySem.W.Frag):R2:=fun x y H Q=>∃ a b xs,x=.ref a∧y=.ref b∧SqL K H a xs∧SqL K H b []∧Q (.bl (decide (xs=[]))) H
theorem op_eqNil (hu:X.A.units + 64 < cLine):OpR X (compareOp .Eq) (rEqNil X.K):=by
  intro pins s σ H x y v u Q I rx ry h
  obtain ⟨a,b,xs,rfl,rfl,ha,hb,q⟩:=h
  by_cases e:xs=[]
  · subst e
    exact op_eqL hu pins s σ H _ _ v u Q I rx ry ⟨a,b,[],[],rfl,rfl,ha,hb,⟨rfl,rfl,rfl⟩,q⟩
  · cases rx
    cases ry
    obtain ⟨us,r1,p1,_⟩:=I.list ha
    obtain ⟨ws,r2,p2,_⟩:=I.list hb
    cases r2
    have e1:=r1.length
    have e2:xs.length≠0:=fun z=>e (List.eq_nil_of_length_eq_zero z)
    refine PySem.SeqAt.eq_list_lengthsAt p1.isList p2.isList (by simp;intro z;rw [z] at e1;exact e2 e1) (by lia) ?_
    rw [decide_eq_false e] at q
    exact ⟨.bl false,H,I,rfl,q⟩
end
end L2
namespace L2
open PySem PySem.Spec PyProof.Rows
abbrev r_mt_append:RM:=rAppend
abbrev r_mt_pop:RM:=rPop
def jw:List V:=[.str "plus",.str "minus",.str "times",.str "over",.str "rest",.str "under",.str "same"]
def isJ (v:V):Bool:=inV v jw
inductive Er where
  | nought | great | stuck
  deriving DecidableEq
def comeV (w:Str) (a b:Int):Int :=
  if w="plus" then a + b else if w="minus" then a - b else if w="times" then a * b else if w="under" then (if a < b then 1 else 0) else if w="same" then (if a=b then 1 else 0) else if w="over" then a.fdiv b else a.fmod b
def isDiv (w:Str):Prop:=¬ w="plus"∧¬ w="minus"∧¬ w="times"∧¬ w="under"∧¬ w="same"
instance (w:Str):Decidable (isDiv w):=by unfold isDiv;infer_instance
def joinE (w:Str) (a b:Int):Except Er Int:=if isDiv w∧b=0 then .error .nought else if inW (comeV w a b)=true then .ok (comeV w a b) else .error .great
def wrth (kvs:List (Key × V)):V→Int
  | .int i=>i
  | .str x=>(match valV kvs (.inr x) with | some (.int i)=>i | _=>0)
  | _=>0
def stepE (kvs:List (Key × V)) (st:List Int) (v:V):Except Er (List Int) :=
  if isJ v=true then (match v,st.reverse with | .str w,b :: a :: r=>(match joinE w a b with | .ok c=>.ok (r.reverse ++ [c]) | .error e=>.error e) | _,_=>.error .stuck) else .ok (st ++ [wrth kvs v])
def runE (kvs:List (Key × V)):List V→List Int→Except Er (List Int)
  | [],st=>.ok st
  | v :: r,st=>match stepE kvs st v with | .ok st'=>runE kvs r st' | .error e=>.error e
section
variable {kvs:List (Key × V)}
def Good (kvs:List (Key × V)) (ps:List V) (r:Except Er Int):Prop:=(∀ st,runE kvs ps st=match r with | .ok i=>.ok (st ++ [i]) | .error e=>.error e)∧r≠.error .stuck
end
def okPart (v:V):Prop:=(∃ i,v=.int i∧inW i=true)∨∃ x:Str,v=.str x∧x.length≤1000
def SlotsOk (kvs:List (Key × V)):Prop:=∀ k v,valV kvs k=some v→∃ i,v=.int i∧inW i=true
theorem wrth_inW {kvs:List (Key × V)} (h:SlotsOk kvs) {v:V} (hv:okPart v):inW (wrth kvs v)=true:=by
  rcases hv with ⟨i,rfl,hi⟩ | ⟨x,rfl,_⟩
  · exact hi
  · show inW (match valV kvs (.inr x) with | some (.int i)=>i | _=>0)=true
    cases e:valV kvs (.inr x) with
    | none=>rfl
    | some u =>
      obtain ⟨i,rfl,hi⟩:=h _ _ e
      exact hi
theorem inW_iff {i:Int}:inW i=true↔-1000000000000000000000000000000≤i∧i≤1000000000000000000000000000000:=by unfold inW;rw [decide_eq_true_eq]
theorem isJ_str (w:Str):isJ (.str w)=true↔(w="plus"∨w="minus"∨w="times"∨w="over"∨w="rest"∨w="under"∨w="same"):=by
  unfold isJ inV jw
  simp only [List.any_cons,List.any_nil,eqV,Bool.or_false,Bool.or_eq_true,beq_iff_eq]
  constructor
  · rintro (h | h | h | h | h | h | h) <;> simp [← h]
  · rintro (h | h | h | h | h | h | h) <;> simp [h]
theorem isJ_int (i:Int):isJ (.int i)=false:=rfl
end L2
namespace L2
open PySem PySem.Spec PyProof.Rows
def Itv (K:PySem.W.Frag) (a:Addr) (xs:List V):It:=⟨fun i H=>i < xs.length∧SqL K H a xs,fun i H x H'=>H'=H∧xs[xs.length - 1 - i]?=some x,fun i _=>xs.length≤i⟩
theorem turn_rev {P:Program} {w:World} {K:PySem.W.Frag} {tg:Expr} (a it:Addr) (xs:List V):Turn P w K tg (Itv K a xs) [it] it (fun i h=>i≤xs.length∧h.IsRevIter it a ((xs.length:Int) - 1 - (i:Int))) where
  mem:=by simp
  obj:=fun i h st b hb=>by
    have e:b=it:=by simpa using hb
    subst e
    obtain ⟨_,o,e,c,d⟩:=st
    exact ⟨o,e,fun v z=>by rw [d] at z;cases z⟩
  keep:=fun i h h' st k=>⟨st.1,st.2.at fun o e=>k it (by simp) o e⟩
  item:=by
    intro X hP hw hK hc i pins s σ H E I hf st hg
    subst hP hw hK
    obtain ⟨hi,hq⟩:=hg
    obtain ⟨its,rv,p,hz⟩:=I.list hq
    have hl:=rv.length
    obtain ⟨u,hu,ru⟩:=rv.get (i:=xs.length - 1 - i) (x:=xs[xs.length - 1 - i]'(by lia)) (List.getElem?_eq_getElem (by lia))
    obtain ⟨f0,f1,f2,f3,f4,f5⟩:=hf it (by simp)
    have st2:=st.2
    have e1:(xs.length:Int) - 1 - (i:Int)=((xs.length - 1 - i:Nat):Int):=by lia
    rw [e1] at st2
    refine wpAny_pyNext_rev_item st2 p.isList (x:=u) (by simpa using hu) fun h' st' sb=>?_
    have I1:Inv X pins σ H { s with heap:=h' }:=I.turned (t':=s.toks) (fun b o hb e=>(sb.2 b hb).trans e) f0 f1 f3 f4 f5
    have e2:((xs.length - 1 - i:Nat):Int) - 1=(xs.length:Int) - 1 - ((i + 1:Nat):Int):=by lia
    rw [e2] at st'
    obtain ⟨o,e,c,d⟩:=id st'
    exact ⟨u,rfl,go_of (s:={ s with heap:=h' }) e c d (by decide) ⟨_,H,I1,ru,⟨rfl,List.getElem?_eq_getElem (by lia)⟩,⟨hi,st'⟩,fun b hb=>(hf b hb).1⟩⟩
  done:=by
    intro X hP hw hK hc i pins s σ H E I hf st hg
    subst hP hw hK
    obtain ⟨f0,f1,f2,f3,f4,f5⟩:=hf it (by simp)
    have hi:i=xs.length:=Nat.le_antisymm st.1 hg
    have st2:=st.2
    rw [hi,show (xs.length:Int) - 1 - (xs.length:Int)=-1 by lia] at st2
    exact wpAny_pyNext_rev_end (I.ok.hd hc) st2 fun h' eb=>⟨rfl,I.turned (t':=s.toks) (fun b o hb e=>eb b o hb e) f0 f1 f3 f4 f5⟩
  self:=fun _ _ _ _ _ st h=>wpAny_pyIter_revIter st.2 h
def iRev (K:PySem.W.Frag) (ta:TA):TI:=fun σ H R=>ta σ H fun vs H1=>∃ a xs,vs=[.ref a]∧SqL K H1 a xs∧R (Itv K a xs) H1
section
variable {X:Cx} {tg:Expr}
theorem pi_rev {a:Expr} {ta:TA} {p pos:Pos} (hg:Gl X "reversed") (hm:X.mg "reversed"=none) (ha:PA X [a] ta) (hs:starEach [a] X.env=[(false,eval a X.env)]:=by rfl):PI X tg (.Call (.Name "reversed" p) [a] [] pos) (iRev X.K ta):=by
  intro pins s σ H R I h
  refine Call_ (ld_blt I hg hm bt_reversed (PyProof.Rows.callWith_type1 (thn (ha pos pins s σ H _ I h) fun us s1 ⟨vs,H1,I1,r1,q1⟩=>?_) hs rfl))
  obtain ⟨b,xs,e,hq,q⟩:=q1
  subst e
  cases r1 with
  | cons r rr =>
    cases rr
    cases r
    obtain ⟨its,rv,pl,hz⟩:=I1.list hq
    have hl:=rv.length
    refine call_reversed_list pl.isList ?_
    have st:(s1.heap.push (revObj b ((its.toArray.size:Int) - 1))).IsRevIter s1.heap.objs.size b ((xs.length:Int) - 1 - ((0:Nat):Int)):=⟨_,Heap.get?_push_size _ rfl,rfl,by
      show Data.fields _=_
      rw [show ((its.toArray.size:Nat):Int) - 1=(xs.length:Int) - 1 - ((0:Nat):Int) by simp;lia]⟩
    refine wpAny_pyIter_revIter (s:={ s1 with heap:=_ }) st ?_
    refine ⟨s1.heap.objs.size,[s1.heap.objs.size],_,_,H1,rfl,I1.kept (t':=s1.toks) fun b o e=>Heap.get?_push_of_some _ e,turn_rev b _ xs,⟨Nat.zero_le _,st⟩,fun c hc=>?_,q⟩
    have e:c=s1.heap.objs.size:=by simpa using hc
    subst e
    exact I1.fpOk (Nat.le_refl _) (I1.hok.fresh (Nat.le_refl _))
end
section
variable {σ:St} {H:Hp} {nx:St→Hp→Prop} {B:V→St→Hp→(St→Hp→Prop)→Prop}
theorem loop_rev {K:PySem.W.Frag} {a:Addr} (xs:List V) (Pv:Nat→St→Hp→Prop) (h0:Pv 0 σ H) (hl:∀ i σ H,Pv i σ H→SqL K H a xs) (hs:∀ i x σ H,i < xs.length→xs[xs.length - 1 - i]?=some x→Pv i σ H→B x σ H (Pv (i + 1))) (hd:∀ σ H,Pv xs.length σ H→nx σ H) :
    ∃ W:Nat→Nat→St→Hp→Prop,(∃ m,W 0 m σ H)∧∀ i m σ H,W i m σ H→((Itv K a xs).stop i H∧nx σ H)∨((Itv K a xs).go i H∧∃ N:St→Hp→Prop,(∀ σ' H',N σ' H'→∃ m',m' < m∧W (i + 1) m' σ' H')∧∀ x H',(Itv K a xs).yld i H x H'→B x σ H' N):=by
  refine ⟨fun i m σ H=>m=xs.length - i∧i≤xs.length∧Pv i σ H,⟨xs.length,by simp,Nat.zero_le _,h0⟩,?_⟩
  rintro i m σ H ⟨rfl,hi,p⟩
  by_cases hlt:i < xs.length
  · refine .inr ⟨⟨hlt,hl i σ H p⟩,Pv (i + 1),fun σ' H' p'=>⟨xs.length - (i + 1),by lia,rfl,hlt,p'⟩,?_⟩
    rintro x H' ⟨rfl,y⟩
    exact hs i x σ _ hlt y p
  · obtain rfl:i=xs.length:=by lia
    exact .inl ⟨Nat.le_refl _,hd σ H p⟩
end
end L2
namespace L2
open PySem PySem.Spec PyProof.Rows
abbrev cLst (K:PySem.W.Frag):RC:=fun xs H Q=>∃ p ys,xs=[.ref p]∧(SqL K H p ys∨SqT K H p ys)∧∀ l,H l=none→Q (.ref l) (upd H l (.lst ys))
abbrev cMin:RC:=fun xs H Q=>∃ i j,xs=[.int i,.int j]∧Q (.int (if j < i then j else i)) H
def inL (c:Nat):Bool:=!(Builtin.Str.occurrences "abcdefghijklmnopqrstuvwxyz" ⟨#[c]⟩ 0 (Str.length "abcdefghijklmnopqrstuvwxyz") 1).isEmpty
def wl:List V:=[.str "take",.str "give",.str "let",.str "say",.str "off",.str "if",.str "else",.str "end",.str "as"]
def isName (x:Str):Bool:=!(decide (x="") || decide (6 < x.length)) && !(inV (.str x) jw || inV (.str x) wl) && x.cps.toList.all inL
theorem inL_iff (c:Nat):inL c=true→97≤c∧c≤122:=by
  unfold inL
  rw [StrLaws.found_one]
  have e:(Str.ofString "abcdefghijklmnopqrstuvwxyz").cps.toList=[97,98,99,100,101,102,103,104,105,106,107,108,109,110,111,112,113,114,115,116,117,118,119,120,121,122]:=by decide +kernel
  rw [e]
  rw [decide_eq_true_eq]
  intro h
  exact (by decide:∀ c∈[97,98,99,100,101,102,103,104,105,106,107,108,109,110,111,112,113,114,115,116,117,118,119,120,121,122],97≤c∧c≤122) c h
theorem notNum_letter {x:Str} {c:Nat} (hx:x.length≤1000) (hc:c∈x.cps.toList) (h:97≤c):isNum x=false:=by
  refine Bool.eq_false_iff.mpr fun z=>?_
  have d:=((num_iff hx).mp z).2.2.1
  unfold fig at d
  rcases fpart_cps x with ⟨cs,e,ef⟩ | ⟨_,ef⟩
  · rw [e] at hc
    rw [ef] at d
    rcases List.mem_cons.mp hc with rfl | hc
    · lia
    · have:=d c hc;lia
  · rw [ef] at d
    have:=d c hc;lia
theorem isName_parts {x:Str} (h:isName x=true):x.cps.toList≠[]∧x.length≤6∧isJ (.str x)=false∧x.cps.toList.all inL=true:=by
  unfold isName at h
  rw [Bool.and_eq_true,Bool.and_eq_true,Bool.not_eq_true',Bool.not_eq_true',Bool.or_eq_false_iff,Bool.or_eq_false_iff,decide_eq_false_iff_not,decide_eq_false_iff_not] at h
  refine ⟨fun z=>h.1.1.1 (str_ext (by rw [z];decide +kernel)),by lia,h.1.2.1,h.2⟩
theorem isName_notNum {x:Str} (h:isName x=true):isNum x=false:=by
  obtain ⟨h1,h2,_,h3⟩:=isName_parts h
  obtain ⟨c,r,e⟩:=List.exists_cons_of_ne_nil h1
  exact notNum_letter (c:=c) (by lia) (by rw [e];simp) (inL_iff c (List.all_eq_true.mp h3 c (by rw [e];simp))).1
theorem join_no {x:Str} (h:isJ (.str x)=true):isName x=false∧isNum x=false:=by
  refine ⟨Bool.eq_false_iff.mpr fun z=>?_,?_⟩
  · rw [(isName_parts z).2.2.1] at h;cases h
  · rcases (isJ_str x).mp h with rfl | rfl | rfl | rfl | rfl | rfl | rfl <;> decide +kernel
def partW (w:Str):Option V:=if isName w=true then some (.str w) else if isNum w=true then some (.int (valOf w)) else none
theorem partW_j {w:Str} (h:isJ (.str w)=true):partW w=none:=by
  unfold partW
  rw [(join_no h).1,(join_no h).2];rfl
theorem partW_flat {w:Str} {v:V} (h:partW w=some v):isJ v=false∧((∃ i,v=.int i)∨v=.str w):=by
  unfold partW at h
  split at h
  · rename_i z
    cases h
    exact ⟨(isName_parts z).2.2.1,.inr rfl⟩
  · split at h
    · cases h
      exact ⟨rfl,.inl ⟨_,rfl⟩⟩
    · cases h
inductive Tw where
  | leaf (w:Str) | node (w:Str) (a b:Tw)
def pre:Tw→List Str
  | .leaf w=>[w]
  | .node w a b=>w :: (pre a ++ pre b)
def wfT:Tw→Prop
  | .leaf w=>isJ (.str w)=false
  | .node w a b=>isJ (.str w)=true∧wfT a∧wfT b
def okT:Tw→Bool
  | .leaf w=>(partW w).isSome
  | .node _ a b=>okT a && okT b
def pvw (w:Str):V:=(partW w).getD (.str w)
def pst:Tw→List V
  | .leaf w=>[pvw w]
  | .node w a b=>pst a ++ pst b ++ [.str w]
def scanE:List Str→Nat→Option Nat
  | _,0=>some 0
  | [],_ + 1=>none
  | w :: r,d + 1=>(scanE r (if isJ (.str w)=true then d + 2 else d)).map (· + 1)
theorem scan_tree:∀ (l:List Str) (d n:Nat),scanE l d=some n→∃ Ts:List Tw,Ts.length=d∧(∀ T∈Ts,wfT T)∧l.take n=(Ts.map pre).flatten∧n≤l.length
  | l,0,n,h=>by
    have:n=0:=by cases l <;> (unfold scanE at h;cases h;rfl)
    subst this
    exact ⟨[],rfl,(fun _ z=>nomatch z),by simp,Nat.zero_le _⟩
  | [],d + 1,n,h=>by unfold scanE at h;cases h
  | w :: r,d + 1,n,h=>by
    unfold scanE at h
    obtain ⟨m,hm,rfl⟩:=Option.map_eq_some_iff.mp h
    by_cases hj:isJ (.str w)=true
    · rw [if_pos hj] at hm
      obtain ⟨Ts,h1,h2,h3,h4⟩:=scan_tree r (d + 2) m hm
      match Ts,h1,h2,h3 with
      | a :: b :: Ts',h1,h2,h3 =>
        refine ⟨.node w a b :: Ts',by simpa using h1,fun T hT=>?_,?_,by rw [List.length_cons];lia⟩
        · rcases List.mem_cons.mp hT with rfl | hT
          · exact ⟨hj,h2 a (by simp),h2 b (by simp)⟩
          · exact h2 T (List.mem_cons_of_mem _ (List.mem_cons_of_mem _ hT))
        · rw [List.take_succ_cons,h3]
          simp [pre]
    · rw [if_neg hj] at hm
      obtain ⟨Ts,h1,h2,h3,h4⟩:=scan_tree r d m hm
      refine ⟨.leaf w :: Ts,by simpa using h1,fun T hT=>?_,?_,by rw [List.length_cons];lia⟩
      · rcases List.mem_cons.mp hT with rfl | hT
        · exact Bool.eq_false_iff.mpr hj
        · exact h2 T hT
      · rw [List.take_succ_cons,h3]
        simp [pre]
def stepR (st:List (List V)) (w:Str):Except Bool (List (List V)) :=
  if isJ (.str w)=true then (match st.reverse with | a :: b :: r=>.ok (r.reverse ++ [a ++ b ++ [.str w]]) | _=>.error false) else (match partW w with | some v=>.ok (st ++ [[v]]) | none=>.error true)
def runR:List Str→List (List V)→Except Bool (List (List V))
  | [],st=>.ok st
  | w :: r,st=>match stepR st w with | .ok st'=>runR r st' | .error e=>.error e
theorem runR_app:∀ (p q:List Str) (st:List (List V)),runR (p ++ q) st=match runR p st with | .ok st'=>runR q st' | .error e=>.error e
  | [],q,st=>rfl
  | v :: r,q,st=>by
    show (match stepR st v with | .ok st'=>runR (r ++ q) st' | .error e=>.error e)=match (match stepR st v with | .ok st'=>runR r st' | .error e=>.error e) with | .ok st'=>runR q st' | .error e=>.error e
    cases stepR st v with
    | error e=>rfl
    | ok st'=>exact runR_app r q st'
theorem runR_tree:∀ {T:Tw},wfT T→∀ st,runR (pre T).reverse st=if okT T=true then .ok (st ++ [pst T]) else .error true
  | .leaf w,h,st=>by
    show (match stepR st w with | .ok st'=>runR [] st' | .error e=>.error e)=_
    unfold stepR okT pst pvw
    rw [if_neg (by rw [show isJ (.str w)=false from h];decide)]
    cases partW w with
    | none=>rfl
    | some v=>rfl
  | .node w a b,h,st=>by
    have e:(pre (.node w a b)).reverse=(pre b).reverse ++ ((pre a).reverse ++ [w]):=by simp [pre]
    rw [e,runR_app,runR_tree h.2.2,show okT (.node w a b)=(okT a && okT b) from rfl]
    cases hb:okT b with
    | false=>rw [Bool.and_false];rfl
    | true =>
      rw [if_pos rfl]
      show runR ((pre a).reverse ++ [w]) (st ++ [pst b])=_
      rw [runR_app,runR_tree h.2.1]
      cases ha:okT a with
      | false=>rfl
      | true =>
        rw [if_pos rfl]
        show (match stepR (st ++ [pst b] ++ [pst a]) w with | .ok st'=>runR [] st' | .error e=>.error e)=.ok (st ++ [pst (.node w a b)])
        unfold stepR
        rw [if_pos h.1]
        simp [runR,pst]
theorem runR_err {ps:List Str} {i:Nat} {st:List (List V)} {e:Bool} (h:runR (ps.take i) st=.error e):runR ps st=.error e:=by
  have:=runR_app (ps.take i) (ps.drop i) st
  rw [List.take_append_drop,h] at this
  exact this
theorem runR_one {ps:List Str} {i:Nat} {st st0:List (List V)} {v:Str} (h:runR (ps.take i) st0=.ok st) (hv:ps[i]?=some v):runR (ps.take (i + 1)) st0=stepR st v:=by
  rw [List.take_add_one,hv]
  show runR (ps.take i ++ [v]) st0=_
  rw [runR_app,h]
  show (match stepR st v with | .ok st'=>runR [] st' | .error e=>.error e)=_
  cases stepR st v <;> rfl
def parse (ws:List Str) (at_:Nat):Option (List V × Nat):=match scanE (ws.drop at_) 1 with
  | some n=>if n≤60 then (match runR ((ws.drop at_).take n).reverse [] with | .ok [ps]=>some (ps,at_ + n) | _=>none) else none
  | none=>none
theorem parse_tree {ws:List Str} {k n:Nat} (h:scanE (ws.drop k) 1=some n):∃ T,wfT T∧(ws.drop k).take n=pre T∧k + n≤ws.length∧(pre T).length=n:=by
  obtain ⟨Ts,h1,h2,h3,h4⟩:=scan_tree _ _ _ h
  obtain ⟨T,rfl⟩:=List.length_eq_one_iff.mp h1
  have h3':(ws.drop k).take n=pre T:=by rw [h3];simp
  have hn:(pre T).length=n:=by rw [← h3',List.length_take];lia
  have hp:1≤(pre T).length:=by cases T <;> simp [pre]
  rw [List.length_drop] at h4
  exact ⟨T,h2 T (by simp),h3',by lia,hn⟩
theorem parse_some {ws:List Str} {k n:Nat} {T:Tw} (h:scanE (ws.drop k) 1=some n) (hn:n≤60) (hw:wfT T) (ht:(ws.drop k).take n=pre T):parse ws k=if okT T=true then some (pst T,k + n) else none:=by
  unfold parse
  rw [h]
  show (if n≤60 then (match runR ((ws.drop k).take n).reverse [] with | .ok [ps]=>some (ps,k + n) | _=>none) else none)=_
  rw [if_pos hn,ht,runR_tree hw]
  cases okT T <;> rfl
theorem okT_iff:∀ {T:Tw},wfT T→(okT T=true↔∀ w∈pre T,isJ (.str w)=true∨(partW w).isSome=true)
  | .leaf w,h=>by
    have hj:isJ (.str w)=false:=h
    unfold okT pre
    simp [hj]
  | .node w a b,h=>by
    unfold okT pre
    rw [Bool.and_eq_true,okT_iff h.2.1,okT_iff h.2.2]
    constructor
    · rintro ⟨h1,h2⟩ x hx
      rcases List.mem_cons.mp hx with rfl | hx
      · exact .inl h.1
      · rcases List.mem_append.mp hx with hx | hx
        · exact h1 x hx
        · exact h2 x hx
    · intro hh
      exact ⟨fun x hx=>hh x (by simp [hx]),fun x hx=>hh x (by simp [hx])⟩
theorem pst_ne:∀ T:Tw,pst T≠[]
  | .leaf w=>by simp [pst]
  | .node w a b=>by simp [pst]
theorem pst_len:∀ T:Tw,(pst T).length=(pre T).length
  | .leaf w=>rfl
  | .node w a b=>by simp [pst,pre,pst_len a,pst_len b];lia
theorem star_const {c:Const} {j:Nat} {p:Pos} {es:List Expr} {env:Env}:starEach (.Constant c j p :: es) env=(false,eval (.Constant c j p) env) :: starEach es env:=by
  first | rfl | simp only [starEach]
theorem pa_str {X:Cx} {es:List Expr} {t:TA} {x:Str} {j:Nat} {p:Pos} (hr:PA X es t):PA X (.Constant (.str x) j p :: es) (tCons (tC (.str x)) t):=pa_cons pe_str hr star_const
end L2
namespace L2
open PySem PySem.Spec PyProof.Rows
abbrev cDct:RC:=fun xs H Q=>∃ a kvs,xs=[.ref a]∧H a=some (.dK kvs)∧∀ p,H p=none→Q (.ref p) (upd H p (.dK kvs))
abbrev rNeD:R2:=fun x y H Q=>∃ a b kvs,x=.ref a∧y=.ref b∧H a=some (.dK kvs)∧H b=some (.dK kvs)∧(∀ p∈kvs,∃ i,p.2=V.int i)∧Q (.bl false) H
section
variable {X:Cx}
end
def LW (x:Str):Prop:=x.cps.toList.all inL=true∧1≤x.length∧x.length≤6
def freeW (x:Str):Str:=if inV (.str x) wl=true then x ++ "q" else if inV (.str x) jw=true then x ++ "q" else x
theorem wl_str (w:Str):inV (.str w) wl=true↔(w="take"∨w="give"∨w="let"∨w="say"∨w="off"∨w="if"∨w="else"∨w="end"∨w="as"):=by
  unfold inV wl
  simp only [List.any_cons,List.any_nil,eqV,Bool.or_false,Bool.or_eq_true,beq_iff_eq]
  constructor
  · rintro (h | h | h | h | h | h | h | h | h) <;> simp [← h]
  · rintro (h | h | h | h | h | h | h | h | h) <;> simp [h]
theorem free_name {x:Str} (h:LW x):isName (freeW x)=true:=by
  obtain ⟨h1,h2,h3⟩:=h
  unfold freeW
  by_cases a:inV (.str x) wl=true
  · rw [if_pos a]
    rcases (wl_str x).mp a with rfl | rfl | rfl | rfl | rfl | rfl | rfl | rfl | rfl <;> decide +kernel
  · rw [if_neg a]
    by_cases b:inV (.str x) jw=true
    · rw [if_pos b]
      rcases (isJ_str x).mp b with rfl | rfl | rfl | rfl | rfl | rfl | rfl <;> decide +kernel
    · rw [if_neg b]
      have e0:¬ x="":=fun z=>by
        rw [z] at h2
        exact absurd h2 (by decide +kernel)
      unfold isName
      rw [decide_eq_false e0,decide_eq_false (by lia:¬ 6 < x.length),Bool.eq_false_iff.mpr a,Bool.eq_false_iff.mpr b,h1]
      rfl
theorem name_asc {x:Str} (h:isName x=true):Asc x:=fun c hc=>by
  have:=inL_iff c (List.all_eq_true.mp (isName_parts h).2.2.2 c hc)
  lia
theorem all_take {l:List Nat} (h:l.all inL=true) (n:Nat):(l.take n).all inL=true:=by
  rw [List.all_eq_true] at h ⊢
  exact fun c hc=>h c (List.mem_of_mem_take hc)
theorem all_drop {l:List Nat} (h:l.all inL=true) (n:Nat):(l.drop n).all inL=true:=by
  rw [List.all_eq_true] at h ⊢
  exact fun c hc=>h c (List.mem_of_mem_drop hc)
theorem all_app {a b:List Nat} (h:a.all inL=true) (h':b.all inL=true):(a ++ b).all inL=true:=by
  rw [List.all_append,h,h'];rfl
end L2
namespace L2
open PySem PySem.Spec PyProof.Rows
section
variable {P:Program} {w:World} {A:Around} {E:Value→Shared→Prop} {s:Shared}
theorem nextT {it tp:Addr} {i:Nat} {xs:Array Value} {Q:Value→Shared→Prop} (hi:s.heap.IsTupleIter it tp i) (ht:s.heap.IsTuple tp xs)
    (yes:∀ x h,xs[i]?=some x→h.IsTupleIter it tp (i + 1)→Heap.SameBut it s.heap h→Q x { s with heap:=h })
    (no:xs[i]?=none→A.handled=none∧∀ h e,Heap.ExtBut it s.heap h→(∃ o,h.get? e=some o∧o.cls=.type "StopIteration")→E (.ref e) { s with heap:=h }) :
    wpAny (model P w) A (Builtin.SmallTypes.nextOf (.ref it)) Q E s:=by
  obtain ⟨o,ho,hc,hd⟩:=id hi
  obtain ⟨q,hq,_,n,hq2⟩:=ht
  unfold Builtin.SmallTypes.nextOf
  refine wpAny_bind (wpAny_callSpecial?_slot (name:=Str.ofString "__next__") hi.typeIs F.slot_tuple_iterator_next (wpAny_call_entry F.slot_tuple_iterator_next hi.typeIs F.entry_tuple_iterator_next ?_ (F.args_tuple_iterator_next_1 _)))
  show wpAny _ _ (field (.ref it) 0 >>= _) _ _ s;refine wpAny_bind (wpAny_field ho hd (x:=.ref tp) rfl ?_)
  show wpAny _ _ (if (Value.ref tp == Value.none)=true then _ else _) _ _ s;rw [if_neg (show ¬ ((Value.ref tp == Value.none)=true) from Bool.false_ne_true)]
  show wpAny _ _ (field (.ref it) 1 >>= _) _ _ s;refine wpAny_bind (wpAny_field ho hd (x:=.int i 0) rfl ?_)
  show wpAny _ _ (seqItems? (.ref tp) >>= _) _ _ s;refine wpAny_bind (wpAny_seqItems hq hq2 ?_)
  cases hx:xs[i]? with
  | some x =>
    simp only [Int.toNat_natCast,hx]
    refine wpAny_bind (wpAny_setField ho hd (by simp) (wpAny_pure ⟨x,rfl,wpAny_pure (yes x _ hx ?_ (Heap.SameBut.update ..))⟩))
    refine ⟨_,Heap.get?_update_self _ ho (Obj.isFreed_of_fields (Obj.data_mapFields hd _)),(Obj.cls_mapFields ..).trans hc,?_⟩;rw [Obj.data_mapFields hd];simp [rawInt]
  | none =>
    obtain ⟨hh,no⟩:=no hx
    simp only [Int.toNat_natCast,hx]
    refine wpAny_bind (wpAny_rule (wpAny_bind (wpAny_setField ho hd (by simp) ?_)));show wpAny _ _ (newExc (.type "StopIteration") [] >>= _) _ _ _
    refine wpAny_bind ?_;simp only [newExc,newTuple]
    refine wpAny_bind (wpAny_newObj_type ?_ (by size_fits));refine wpAny_bind (m:=firstArgMember _ _) (wpAny_of_eq (a:=Value.none) (by first | rfl | (simp only [firstArgMember];rfl)) ?_)
    refine wpAny_newObj_type ?_ (by size_fits);simp only [raiseNew]
    refine wpAny_bind (wpAny_handled ?_);first | rw [show A.in1.handled=none from hh] | rw [hh]
    refine wpAny_bind (wpAny_pure (wpAny_throw ?_));exact no _ _ (((Heap.SameBut.update ..).extBut.push _).push _) ⟨_,Heap.get?_push_size _ rfl,rfl⟩
end
section
variable {P:Program} {w:World} {A:Around} {E:Value→Shared→Prop} {s:Shared}
structure ZApart (z a b i j p q:Addr):Prop where
  az:a≠z
  bz:b≠z
  iz:i≠z
  jz:j≠z
  ab:a≠b
  ai:a≠i
  aj:a≠j
  bi:b≠i
  bj:b≠j
  ij:i≠j
  pz:p≠z
  pb:p≠b
  pi:p≠i
  pj:p≠j
  qz:q≠z
  qb:q≠b
  qi:q≠i
  qj:q≠j
def ZT (z a b i j p q:Addr) (k:Nat) (h:Heap):Prop:=IsZip h z a b .none∧IsPair h a (.ref i) (.ref j)∧(∃ u v,IsPair h b u v)∧h.IsTupleIter i p k∧h.IsTupleIter j q k
theorem zipT_item {z a b i j p q:Addr} {k:Nat} {xs ys:Array Value} {x y:Value} {Q:Value→Shared→Prop} (D:ZApart z a b i j p q) (st:ZT z a b i j p q k s.heap)
    (hp:s.heap.IsTuple p xs) (hq:s.heap.IsTuple q ys) (hx:xs[k]?=some x) (hy:ys[k]?=some y)
    (cont:∀ g h,(∀ c o,c ∉ [z,b,i,j]→s.heap.get? c=some o→g.get? c=some o)→g.objs.size=s.heap.objs.size→IsPair g b x y→g.IsTupleIter i p (k + 1)→g.IsTupleIter j q (k + 1) →
      Heap.SameBut z (g.push { cls:=.type "tuple",data:=.seq #[x,y] }) h→IsZip h z a b (rawInt g.objs.size)→Q (.ref g.objs.size) { s with heap:=h }) :
    wpAny (model P w) A (Builtin.«zip.__next__» ⟨[.ref z],[]⟩) (fun r s'=>∃ v,r=.done (.ret v)∧Q v s') E s:=by
  obtain ⟨hz,ha,⟨u,v,hb⟩,hi,hj⟩:=st
  show wpAny _ _ (field (.ref z) 2 >>= _) _ _ _;refine wpAny_bind (wpAny_field hz rfl (x:=.bool false) rfl ?_)
  show wpAny _ _ (field (.ref z) 3 >>= _) _ _ _;refine wpAny_bind (wpAny_field hz rfl (x:=.ref a) rfl ?_)
  refine wpAny_bind (wpAny_seqItems ha rfl ?_);show wpAny _ _ (Builtin.SmallTypes.ownedTupleIsFree (.ref z) >>= _) _ _ _
  refine wpAny_bind ?_;unfold Builtin.SmallTypes.ownedTupleIsFree
  refine wpAny_bind (wpAny_field hz rfl (x:=.none) rfl (wpAny_pure ?_));simp only [if_true]
  refine wpAny_bind (wpAny_rule ?_);refine wpAny_bind (wpAny_field hz rfl (x:=.ref b) rfl ?_)
  refine wpAny_bind (wpAny_setField_rec hz (by simp) fun g1 z1 r1=>?_)
  replace z1:IsZip g1 z a b .ellipsis:=z1
  refine wpAny_bind ?_;simp only [List.zipIdx_cons,List.zipIdx_nil,List.forIn_cons,List.forIn_nil]
  refine wpAny_bind (wpAny_bind (wpAny_onRaise ?_));show wpAny _ _ (Builtin.SmallTypes.nextOf (.ref i) >>= _) _ _ _
  refine wpAny_bind (nextT (hi.extBut r1.extBut D.iz) (hp.extBut r1.extBut D.pz) (fun x' g2 ex i2 r2=>wpAny_pure ?_) fun ex=>by rw [hx] at ex;cases ex)
  obtain rfl:x'=x:=Option.some.inj (ex.symm.trans hx)
  have b2:IsPair g2 b u v:=r2.extBut _ _ D.bi (r1.extBut _ _ D.bz hb)
  refine wpAny_bind (wpAny_seqItems b2 rfl ?_);refine wpAny_bind (wpAny_updateSeq_pair b2 fun g3 b3 r3=>?_)
  replace b3:IsPair g3 b x' v:=b3
  refine wpAny_bind (wpAny_letGo (wpAny_pure ?_));refine wpAny_bind (wpAny_bind (wpAny_onRaise ?_));show wpAny _ _ (Builtin.SmallTypes.nextOf (.ref j) >>= _) _ _ _
  refine wpAny_bind (nextT (((hj.extBut r1.extBut D.jz).extBut r2.extBut D.ij.symm).extBut r3.extBut D.bj.symm) (((hq.extBut r1.extBut D.qz).extBut r2.extBut D.qi).extBut r3.extBut D.qb) (fun y' g4 ey j4 r4=>wpAny_pure ?_) fun ey=>by rw [hy] at ey;cases ey)
  obtain rfl:y'=y:=Option.some.inj (ey.symm.trans hy)
  have b4:IsPair g4 b x' v:=r4.extBut _ _ D.bj b3
  refine wpAny_bind (wpAny_seqItems b4 rfl ?_);refine wpAny_bind (wpAny_updateSeq_pair b4 fun g5 b5 r5=>?_)
  replace b5:IsPair g5 b x' y':=b5
  refine wpAny_bind (wpAny_letGo (wpAny_pure (wpAny_pure ?_)));refine wpAny_bind (wpAny_seqItems b5 rfl ?_);refine wpAny_bind (wpAny_newTuple ?_)
  have sz:g5.objs.size=s.heap.objs.size:=by rw [r5.1,r4.1,r3.1,r2.1,r1.1]
  have z5:IsZip g5 z a b .ellipsis:=r5.extBut _ _ D.bz.symm (r4.extBut _ _ D.jz.symm (r3.extBut _ _ D.bz.symm (r2.extBut _ _ D.iz.symm z1)))
  have k5:∀ c o,c ∉ [z,b,i,j]→s.heap.get? c=some o→g5.get? c=some o:=fun c o hc e=>by
    simp only [List.mem_cons,List.not_mem_nil,or_false,not_or] at hc
    exact r5.extBut _ _ hc.2.1 (r4.extBut _ _ hc.2.2.2 (r3.extBut _ _ hc.2.1 (r2.extBut _ _ hc.2.2.1 (r1.extBut _ _ hc.1 e))))
  have i5:g5.IsTupleIter i p (k + 1):=((i2.extBut r3.extBut D.bi.symm).extBut r4.extBut D.ij).extBut r5.extBut D.bi.symm
  have j5:g5.IsTupleIter j q (k + 1):=j4.extBut r5.extBut D.bj.symm
  show wpAny _ _ (Builtin.SmallTypes.ownedTupleHandOut (.ref z) (.ref g5.objs.size) >>= _) _ _ _;refine wpAny_bind ?_;unfold Builtin.SmallTypes.ownedTupleHandOut
  have z6:IsZip (g5.push { cls:=.type "tuple",data:=.seq #[x',y'] }) z a b .ellipsis:=Heap.get?_push_of_some _ z5
  refine wpAny_bind (wpAny_setField_rec z6 (by simp) fun g7 z7 r7=>?_)
  replace z7:IsZip g7 z a b (rawInt g5.objs.size):=z7
  refine wpAny_setField_rec z7 (by simp) fun g8 z8 r8=>?_
  replace z8:IsZip g8 z a b (rawInt g5.objs.size):=z8
  exact wpAny_pure ⟨_,rfl,cont g5 g8 k5 sz b5 i5 j5 ⟨r8.1.trans r7.1,fun c hc=>(r8.2 c hc).trans (r7.2 c hc)⟩ z8⟩
theorem zipT_end {z a b i j p q:Addr} {k:Nat} {xs ys:Array Value} {Q:Fin→Shared→Prop} (hh:A.handled=none) (D:ZApart z a b i j p q) (st:ZT z a b i j p q k s.heap)
    (hp:s.heap.IsTuple p xs) (hq:s.heap.IsTuple q ys) (hx:xs[k]?=none) (hE:∀ h e,(∀ c o,c ∉ [z,b,i,j]→s.heap.get? c=some o→h.get? c=some o)→(∃ o,h.get? e=some o∧o.cls=.type "StopIteration")→E (.ref e) { s with heap:=h }) :
    wpAny (model P w) A (Builtin.«zip.__next__» ⟨[.ref z],[]⟩) Q E s:=by
  obtain ⟨hz,ha,⟨u,v,hb⟩,hi,hj⟩:=st
  show wpAny _ _ (field (.ref z) 2 >>= _) _ _ _;refine wpAny_bind (wpAny_field hz rfl (x:=.bool false) rfl ?_)
  show wpAny _ _ (field (.ref z) 3 >>= _) _ _ _;refine wpAny_bind (wpAny_field hz rfl (x:=.ref a) rfl ?_)
  refine wpAny_bind (wpAny_seqItems ha rfl ?_);show wpAny _ _ (Builtin.SmallTypes.ownedTupleIsFree (.ref z) >>= _) _ _ _
  refine wpAny_bind ?_;unfold Builtin.SmallTypes.ownedTupleIsFree
  refine wpAny_bind (wpAny_field hz rfl (x:=.none) rfl (wpAny_pure ?_));simp only [if_true]
  refine wpAny_bind (wpAny_rule ?_);refine wpAny_bind (wpAny_field hz rfl (x:=.ref b) rfl ?_)
  refine wpAny_bind (wpAny_setField_rec hz (by simp) fun g1 z1 r1=>?_)
  replace z1:IsZip g1 z a b .ellipsis:=z1
  refine wpAny_bind ?_;simp only [List.zipIdx_cons,List.zipIdx_nil,List.forIn_cons,List.forIn_nil]
  refine wpAny_bind (wpAny_bind (wpAny_onRaise ?_));show wpAny _ _ (Builtin.SmallTypes.nextOf (.ref i) >>= _) _ _ _
  refine wpAny_bind (nextT (hi.extBut r1.extBut D.iz) (hp.extBut r1.extBut D.pz) (fun x' g2 ex i2 r2=>by rw [hx] at ex;cases ex) fun ex=>⟨hh,fun g2 e r2 he=>?_⟩)
  obtain ⟨oe,hoe,hce⟩:=he
  have z2:IsZip g2 z a b .ellipsis:=r2 _ _ D.iz.symm z1
  have ez:e≠z:=fun x=>by subst x;rw [z2] at hoe;cases hoe;simp at hce
  refine wpAny_setField_rec z2 (by simp) fun g3 _ r3=>hE g3 e (fun c o hc y=>?_) ⟨oe,r3.extBut _ _ ez hoe,hce⟩
  simp only [List.mem_cons,List.not_mem_nil,or_false,not_or] at hc
  exact r3.extBut _ _ hc.1 (r2 _ _ hc.2.2.1 (r1.extBut _ _ hc.1 y))
theorem nextZ_item {z a b i j p q:Addr} {k:Nat} {xs ys:Array Value} {x y:Value} {Q:Option Value→Shared→Prop} (D:ZApart z a b i j p q) (st:ZT z a b i j p q k s.heap)
    (hp:s.heap.IsTuple p xs) (hq:s.heap.IsTuple q ys) (hx:xs[k]?=some x) (hy:ys[k]?=some y)
    (cont:∀ g h,(∀ c o,c ∉ [z,b,i,j]→s.heap.get? c=some o→g.get? c=some o)→g.objs.size=s.heap.objs.size→IsPair g b x y→g.IsTupleIter i p (k + 1)→g.IsTupleIter j q (k + 1) →
      Heap.SameBut z (g.push { cls:=.type "tuple",data:=.seq #[x,y] }) h→IsZip h z a b (rawInt g.objs.size)→Q (some (.ref g.objs.size)) { s with heap:=h }) :
    wpAny (model P w) A (pyNext (.ref z)) Q E s:=by
  have T:s.TypeIs (.ref z) "zip":=⟨_,st.1,rfl⟩
  unfold pyNext
  exact wpAny_bind (wpAny_attempt (wpAny_callSpecial?_slot (name:=Str.ofString "__next__") T F.slot_zip_next (wpAny_call_entry F.slot_zip_next T F.entry_zip_next
      (zipT_item D st hp hq hx hy fun g h a1 a2 a3 a4 a5 a6 a7=>wpAny_pure (cont g h a1 a2 a3 a4 a5 a6 a7)) (F.args_zip_next_1 _))))
theorem nextZ_end {z a b i j p q:Addr} {k:Nat} {xs ys:Array Value} {Q:Option Value→Shared→Prop} (hh:A.handled=none) (D:ZApart z a b i j p q) (st:ZT z a b i j p q k s.heap)
    (hp:s.heap.IsTuple p xs) (hq:s.heap.IsTuple q ys) (hx:xs[k]?=none) (cont:∀ h,(∀ c o,c ∉ [z,b,i,j]→s.heap.get? c=some o→h.get? c=some o)→Q none { s with heap:=h }):wpAny (model P w) A (pyNext (.ref z)) Q E s:=by
  have T:s.TypeIs (.ref z) "zip":=⟨_,st.1,rfl⟩
  unfold pyNext
  refine wpAny_bind (wpAny_attempt (wpAny_callSpecial?_slot (name:=Str.ofString "__next__") T F.slot_zip_next (wpAny_call_entry F.slot_zip_next T F.entry_zip_next (zipT_end hh D st hp hq hx fun h e hk he=>?_) (F.args_zip_next_1 _))))
  obtain ⟨o,ho,hc⟩:=he
  exact wpAny_bind (wpAny_isInstance (T:="StopIteration") (b:=true) ⟨o,ho,hc⟩ isSubtype_stop (wpAny_pure (cont _ hk)))
end
abbrev zp1 (h:Heap) (p:Addr):Heap:=h.push { cls:=.type "tuple_iterator",data:=.fields #[.ref p,.int 0 0] }
abbrev zp3 (h:Heap) (p q:Addr):Heap:=(zp1 (zp1 h p) q).push { cls:=.type "tuple",data:=.seq #[.ref h.objs.size,.ref (zp1 h p).objs.size] }
abbrev zp4 (h:Heap) (p q:Addr):Heap:=(zp3 h p q).push { cls:=.type "tuple",data:=.seq #[.none,.none] }
abbrev zp5 (h:Heap) (p q:Addr):Heap:=(zp4 h p q).push { cls:=.type "zip",data:=.fields #[.none,.bool false,.bool false,.ref (zp1 (zp1 h p) q).objs.size,.ref (zp3 h p q).objs.size] }
theorem meets_zipT (p q:Addr) (xs ys:Array Value):Meets (Builtin.«zip.__new__» ⟨[.type "zip",.ref p,.ref q],[]⟩) (fun _ R s=>s.heap.IsTuple p xs∧s.heap.IsTuple q ys ∧
      R (.ok (.ret (.ref (zp4 s.heap p q).objs.size))) { s with heap:=zp5 s.heap p q }) :=
  .of_wp fun prog w A R s h=>by
    obtain ⟨hp,g,d,tk,os⟩:=s
    obtain ⟨h1,h2,h⟩:=h
    have hsub:=sub_zip
    have l1:Heap.IsTuple (Shared.heap ⟨hp,g,d,tk,os⟩) p xs:=h1
    have l2:Heap.IsTuple (Shared.heap ⟨hp.push { cls:=.type "tuple_iterator",data:=.fields #[.ref p,.int 0 0] },g,d,tk,os⟩) q ys:=Heap.IsTuple.push h2 _
    wp_walk using wpAny_pyIter_tuple l1,wpAny_pyIter_tuple l2
    exact ⟨_,rfl,h⟩
section
variable {P:Program} {w:World} {A:Around} {E:Value→Shared→Prop} {s:Shared}
theorem call_zipT {p q:Addr} {xs ys:Array Value} {Q:Value→Shared→Prop} (hp:s.heap.IsTuple p xs) (hq:s.heap.IsTuple q ys)
    (h:∀ h',ZT (s.heap.objs.size + 4) (s.heap.objs.size + 2) (s.heap.objs.size + 3) s.heap.objs.size (s.heap.objs.size + 1) p q 0 h'→(∀ c o,s.heap.get? c=some o→h'.get? c=some o)→Q (.ref (s.heap.objs.size + 4)) { s with heap:=h' }) :
    wpAny (model P w) A (call (.type "zip") [.ref p,.ref q]) Q E s:=by
  refine callType_new F.called_zip (by decide) (F.typeCall_zip_2 _ _) (F.newCall_zip_2 _ _) (fun obj=>F.args_object_init_3 obj _ _) F.entry_zip_new (meets_zipT p q xs ys) ⟨hp,hq,?_⟩
  have e1:(zp1 s.heap p).objs.size=s.heap.objs.size + 1:=Heap.size_push ..
  have e2:(zp1 (zp1 s.heap p) q).objs.size=s.heap.objs.size + 2:=by rw [Heap.size_push,e1]
  have e3:(zp3 s.heap p q).objs.size=s.heap.objs.size + 3:=by rw [Heap.size_push,e2]
  have e4:(zp4 s.heap p q).objs.size=s.heap.objs.size + 4:=by rw [Heap.size_push,e3]
  have f5:(zp5 s.heap p q).get? (zp4 s.heap p q).objs.size=some _:=Heap.get?_push_size _ rfl
  have f4:(zp5 s.heap p q).get? (zp3 s.heap p q).objs.size=some _:=Heap.get?_push_of_some _ (Heap.get?_push_size _ rfl)
  have f3:(zp5 s.heap p q).get? (zp1 (zp1 s.heap p) q).objs.size=some _:=Heap.get?_push_of_some _ (Heap.get?_push_of_some _ (Heap.get?_push_size _ rfl))
  have f2:(zp5 s.heap p q).get? (zp1 s.heap p).objs.size=some _:=Heap.get?_push_of_some _ (Heap.get?_push_of_some _ (Heap.get?_push_of_some _ (Heap.get?_push_size _ rfl)))
  have f1:(zp5 s.heap p q).get? s.heap.objs.size=some _:=Heap.get?_push_of_some _ (Heap.get?_push_of_some _ (Heap.get?_push_of_some _ (Heap.get?_push_of_some _ (Heap.get?_push_size _ rfl))))
  show _∧_
  rw [e2,e3,e4] at f5
  rw [e1,e2] at f3
  rw [e3] at f4
  rw [e1] at f2
  rw [e4]
  exact ⟨⟨_,f5,rfl⟩,h _ ⟨f5,f3,⟨_,_,f4⟩,⟨_,f1,rfl,rfl⟩,⟨_,f2,rfl,rfl⟩⟩ fun c o x=>Heap.get?_push_of_some _ (Heap.get?_push_of_some _ (Heap.get?_push_of_some _ (Heap.get?_push_of_some _ (Heap.get?_push_of_some _ x))))⟩
end
theorem Inv.turnedL {X:Cx} {pins:List (Addr × Obj)} {σ:St} {H:Hp} {s:Shared} {h':Heap} {t':Nat} {ch:List Addr} (I:Inv X pins σ H s) (k:∀ b o,b ∉ ch→s.heap.get? b=some o→h'.get? b=some o) (hf:∀ b∈ch,FpOk X pins H b) :
    Inv X pins σ H { s with heap:=h',toks:=t' }:=by
  have nit:∀ b u,H b=some u→b ∉ ch:=fun b u e z=>by rw [(hf b z).1] at e;cases e
  refine I.step (g':=s.gens) (d':=s.drawn) (ch:=ch) (fun b hb=>?_) (fun b o _ _ hc e _=>k b o hc e) (fun b o _ _ hc e _=>⟨o.slots,k b o hc e⟩) (fun _ _ _ _ n=>n) (fun b o hc e=>⟨o,k b o hc e⟩) (fun _ _ e=>e) (fun _ _ _ e=>e) (fun b ps e=>⟨#[],by rw [e];simp⟩) (fun m hm=>?_) (fun b u e=>?_) I.bare
  · obtain ⟨f0,f1,f2,f3,f4,f5⟩:=hf b hb
    exact ⟨f3,f1,f4,f5⟩
  · obtain ⟨o,es,ep,ho,r⟩:=hm
    exact ⟨o,es,ep,k _ o (fun z=>(hf _ z).2.1 rfl) ho,r⟩
  · refine (I.hok b u e).stay (fun c v hc q=>k c v ?_ q) (fun _ q=>q) fun _ _ q=>q
    rcases hc with z | z
    · rw [z];exact nit b u e
    · exact nit c _ z
def Itz (K:PySem.W.Frag) (p q:Addr) (xs ys:List V):It:=⟨fun i H=>i < xs.length∧SqT K H p xs∧SqT K H q ys,fun i H x H'=>∃ T u v,x=.ref T∧H T=none∧H'=upd H T (.tup [u,v])∧xs[i]?=some u∧ys[i]?=some v,fun i H=>xs.length≤i∧SqT K H p xs∧SqT K H q ys⟩
theorem turn_zip {P:Program} {w:World} {K:PySem.W.Frag} {elts:List Expr} {x1} {pos:Pos} {z a b i j p q:Addr} {xs ys:List V} (D:ZApart z a b i j p q) (hl:xs.length=ys.length) :
    Turn P w K (.Tuple elts x1 pos) (Itz K p q xs ys) [z,a,b,i,j] z (ZT z a b i j p q) where
  mem:=by simp
  obj:=fun k h st c hc=>by
    obtain ⟨hz,ha,⟨u,v,hb⟩,⟨oi,hi,ci,di⟩,⟨oj,hj,cj,dj⟩⟩:=st
    simp only [List.mem_cons,List.not_mem_nil,or_false] at hc
    rcases hc with rfl | rfl | rfl | rfl | rfl
    · exact ⟨_,hz,fun v z=>by cases z⟩
    · exact ⟨_,ha,fun v z=>by cases z⟩
    · exact ⟨_,hb,fun v z=>by cases z⟩
    · exact ⟨_,hi,fun v z=>by rw [di] at z;cases z⟩
    · exact ⟨_,hj,fun v z=>by rw [dj] at z;cases z⟩
  keep:=fun k h h' st kk=>by
    obtain ⟨hz,ha,⟨u,v,hb⟩,⟨oi,hi,ci⟩,⟨oj,hj,cj⟩⟩:=st
    exact ⟨kk z (by simp) _ hz,kk a (by simp) _ ha,⟨u,v,kk b (by simp) _ hb⟩,⟨oi,kk i (by simp) _ hi,ci⟩,⟨oj,kk j (by simp) _ hj,cj⟩⟩
  item:=by
    intro X hP hw hK hc k pins s σ H E I hf st hg
    subst hP hw hK
    obtain ⟨hlt,h1,h2⟩:=hg
    obtain ⟨us,r1,p1,_⟩:=I.tuple h1
    obtain ⟨vs,r2,p2,_⟩:=I.tuple h2
    obtain ⟨u,hu,ru⟩:=r1.get (i:=k) (x:=xs[k]) (List.getElem?_eq_getElem hlt)
    obtain ⟨v,hv,rv⟩:=r2.get (i:=k) (x:=ys[k]'(hl ▸ hlt)) (List.getElem?_eq_getElem (hl ▸ hlt))
    have sub:∀ c∈[z,b,i,j],c∈[z,a,b,i,j]:=fun c hc=>by
      simp only [List.mem_cons,List.not_mem_nil,or_false] at hc ⊢
      rcases hc with h | h | h | h <;> simp [h]
    refine nextZ_item D st (show s.heap.IsTuple p us.toArray from p1) (show s.heap.IsTuple q vs.toArray from p2) (x:=u) (y:=v) (by simpa using hu) (by simpa using hv) fun g h k5 sz b5 i5 j5 sb z8=>?_
    have I5:Inv X pins σ H { s with heap:=g }:=I.turnedL (t':=s.toks) k5 fun c hc=>hf c (sub c hc)
    have I6:Inv X pins σ (upd H g.objs.size (.tup [xs[k],ys[k]'(hl ▸ hlt)])) { s with heap:=g.push { cls:=.type "tuple",data:=.seq #[u,v] } } :=
      I5.laid (a:=g.objs.size) (o:=.tup [xs[k],ys[k]'(hl ▸ hlt)]) (t':=s.toks) (fun b u e=>Heap.get?_push_of_some _ e) (Nat.le_refl _) ⟨by show 2≤sizeLine;decide,[u,v],.cons ru (.cons rv .nil),⟨_,Heap.get?_push_size _ rfl,rfl,_,rfl⟩⟩
    have zlt:z < s.heap.objs.size:=Heap.lt_size st.1
    have old:∀ c∈[z,a,b,i,j],c≠g.objs.size:=fun c hc=>by
      obtain ⟨hz,ha,⟨u,v,hb⟩,⟨oi,hi,ci⟩,⟨oj,hj,cj⟩⟩:=st
      rw [sz]
      simp only [List.mem_cons,List.not_mem_nil,or_false] at hc
      rcases hc with rfl | rfl | rfl | rfl | rfl
      · exact Nat.ne_of_lt (Heap.lt_size hz)
      · exact Nat.ne_of_lt (Heap.lt_size ha)
      · exact Nat.ne_of_lt (Heap.lt_size hb)
      · exact Nat.ne_of_lt (Heap.lt_size hi)
      · exact Nat.ne_of_lt (Heap.lt_size hj)
    have free:∀ c∈[z,a,b,i,j],upd H g.objs.size (HO.tup [xs[k],ys[k]'(hl ▸ hlt)]) c=none:=fun c hc=>by rw [upd_ne (old c hc)];exact (hf c hc).1
    have fz:FpOk X pins (upd H g.objs.size (HO.tup [xs[k],ys[k]'(hl ▸ hlt)])) z:=⟨free z (by simp),(hf z (by simp)).2⟩
    refine ⟨.ref g.objs.size,rfl,wpAny_letOwnedTupleGo_zip z8 fun h2 z9 sb2=>?_⟩
    have up:∀ c o,c≠z→g.get? c=some o→h2.get? c=some o:=fun c o hc e=>by
      rw [show h2.get? c=h.get? c from sb2.2 c hc,sb.2 c hc]
      exact Heap.get?_push_of_some _ e
    have I7:Inv X pins σ (upd H g.objs.size (.tup [xs[k],ys[k]'(hl ▸ hlt)])) { s with heap:=h2 }:=I6.turnedL (s:={ s with heap:=g.push { cls:=.type "tuple",data:=.seq #[u,v] } }) (t':=s.toks) (ch:=[z]) (fun c o hc e=>by
      have hc:c≠z:=by simpa using hc
      rw [show h2.get? c=h.get? c from sb2.2 c hc,sb.2 c hc]
      exact e) fun c hc=>by
        have:c=z:=by simpa using hc
        rw [this];exact fz
    refine ⟨.ref g.objs.size,_,I7,rfl,⟨_,_,_,rfl,by have:=I5.hok.fresh (Nat.le_refl g.objs.size);exact this,rfl,List.getElem?_eq_getElem hlt,List.getElem?_eq_getElem (hl ▸ hlt)⟩,?_,free⟩
    have ka:g.get? a=_:=k5 a _ (by simp [D.az,D.ab,D.ai,D.aj]) st.2.1
    obtain ⟨oi,hi,ci⟩:=i5
    obtain ⟨oj,hj,cj⟩:=j5
    exact ⟨z9,up a _ D.az ka,⟨_,_,up b _ D.bz b5⟩,⟨oi,up i _ D.iz hi,ci⟩,⟨oj,up j _ D.jz hj,cj⟩⟩
  done:=by
    intro X hP hw hK hc k pins s σ H E I hf st hg
    subst hP hw hK
    obtain ⟨hlt,h1,h2⟩:=hg
    obtain ⟨us,r1,p1,_⟩:=I.tuple h1
    obtain ⟨vs,r2,p2,_⟩:=I.tuple h2
    have hl1:=r1.length
    refine nextZ_end (I.ok.hd hc) D st (show s.heap.IsTuple p us.toArray from p1) (show s.heap.IsTuple q vs.toArray from p2) (by simp;lia) fun h hk=>⟨rfl,I.turnedL (t':=s.toks) hk fun c hc=>hf c ?_⟩
    simp only [List.mem_cons,List.not_mem_nil,or_false] at hc ⊢
    rcases hc with h | h | h | h <;> simp [h]
  self:=fun _ _ _ _ _ st h=>wpAny_pyIter_zip st.1 h
def iZip (K:PySem.W.Frag) (ta:TA):TI:=fun σ H R=>ta σ H fun vs H1=>∃ p q xs ys,vs=[.ref p,.ref q]∧SqT K H1 p xs∧SqT K H1 q ys∧xs.length=ys.length∧R (Itz K p q xs ys) H1
section
variable {X:Cx}
end
section
variable {σ:St} {H:Hp} {nx:St→Hp→Prop} {B:V→St→Hp→(St→Hp→Prop)→Prop}
theorem loop_zip {K:PySem.W.Frag} {p q:Addr} (xs ys:List V) (Pv:Nat→St→Hp→Prop) (h0:Pv 0 σ H) (hl:∀ i σ H,Pv i σ H→SqT K H p xs∧SqT K H q ys)
    (hs:∀ i u v T σ H,xs[i]?=some u→ys[i]?=some v→H T=none→Pv i σ H→B (.ref T) σ (upd H T (.tup [u,v])) (Pv (i + 1))) (hd:∀ σ H,Pv xs.length σ H→nx σ H) :
    ∃ W:Nat→Nat→St→Hp→Prop,(∃ m,W 0 m σ H)∧∀ i m σ H,W i m σ H→((Itz K p q xs ys).stop i H∧nx σ H)∨((Itz K p q xs ys).go i H∧∃ N:St→Hp→Prop,(∀ σ' H',N σ' H'→∃ m',m' < m∧W (i + 1) m' σ' H')∧∀ x H',(Itz K p q xs ys).yld i H x H'→B x σ H' N):=by
  refine ⟨fun i m σ H=>m=xs.length - i∧i≤xs.length∧Pv i σ H,⟨xs.length,by simp,Nat.zero_le _,h0⟩,?_⟩
  rintro i m σ H ⟨rfl,hi,pv⟩
  by_cases hlt:i < xs.length
  · refine .inr ⟨⟨hlt,hl i σ H pv⟩,Pv (i + 1),fun σ' H' p'=>⟨xs.length - (i + 1),by lia,rfl,hlt,p'⟩,?_⟩
    rintro x H' ⟨T,u,v,rfl,hT,rfl,hu,hv⟩
    exact hs i u v T σ H hu hv hT pv
  · obtain rfl:i=xs.length:=by lia
    exact .inl ⟨⟨Nat.le_refl _,hl _ σ H pv⟩,hd σ H pv⟩
end
abbrev cTup (K:PySem.W.Frag):RC:=fun xs H Q=>∃ p ys,xs=[.ref p]∧((SqL K H p ys∧∀ l,H l=none→Q (.ref l) (upd H l (.tup ys)))∨(SqT K H p ys∧Q (.ref p) H))
theorem scan_pre:∀ {T:Tw},wfT T→∀ (r:List Str) (d:Nat),scanE (pre T ++ r) (d + 1)=(scanE r d).map (· + (pre T).length)
  | .leaf w,h,r,d=>by
    show (scanE r (if isJ (.str w)=true then d + 2 else d)).map (· + 1)=_
    rw [if_neg (by rw [show isJ (.str w)=false from h];decide)]
    rfl
  | .node w a b,h,r,d=>by
    have e:pre (.node w a b) ++ r=w :: (pre a ++ (pre b ++ r)):=by simp [pre]
    rw [e]
    show (scanE (pre a ++ (pre b ++ r)) (if isJ (.str w)=true then d + 2 else d)).map (· + 1)=_
    rw [if_pos h.1,scan_pre h.2.1,scan_pre h.2.2,Option.map_map,Option.map_map]
    refine congrArg (fun f=>Option.map f (scanE r d)) (funext fun n=>?_)
    show n + (pre b).length + (pre a).length + 1=n + (pre (.node w a b)).length
    simp [pre];lia
theorem scan_z (l:List Str):scanE l 0=some 0:=by cases l <;> (unfold scanE;rfl)
theorem parse_pre {A B:List Str} {T:Tw} (hw:wfT T) (ho:okT T=true) (hl:(pre T).length≤60):parse (A ++ pre T ++ B) A.length=some (pst T,A.length + (pre T).length):=by
  have e:(A ++ pre T ++ B).drop A.length=pre T ++ B:=by rw [List.append_assoc,List.drop_left]
  have h:scanE ((A ++ pre T ++ B).drop A.length) 1=some (pre T).length:=by
    rw [e,scan_pre hw,scan_z]
    show some (0 + (pre T).length)=_
    rw [Nat.zero_add]
  rw [parse_some h hl hw (by rw [e,List.take_left]),if_pos ho]
def stepA (st:List (List V)) (v:V):Option (List (List V)):=if isJ v=true then (match st.reverse with | b :: a :: r=>some (r.reverse ++ [v :: (a ++ b)]) | _=>none) else some (st ++ [[v]])
def runA:List V→List (List V)→Option (List (List V))
  | [],st=>some st
  | v :: r,st=>(stepA st v).bind (runA r)
theorem runA_app:∀ (p q:List V) (st:List (List V)),runA (p ++ q) st=(runA p st).bind (runA q)
  | [],q,st=>rfl
  | v :: r,q,st=>by
    show (stepA st v).bind (runA (r ++ q))=((stepA st v).bind (runA r)).bind (runA q)
    cases stepA st v with
    | none=>rfl
    | some st'=>exact runA_app r q st'
theorem pvw_notJ {w:Str} (h:isJ (.str w)=false):isJ (pvw w)=false:=by
  unfold pvw
  cases hp:partW w with
  | none=>exact h
  | some v=>exact (partW_flat hp).1
theorem pvw_j {w:Str} (h:isJ (.str w)=true):pvw w=.str w:=by
  unfold pvw
  rw [partW_j h];rfl
theorem runA_tree:∀ {T:Tw},wfT T→∀ st,runA (pst T) st=some (st ++ [(pre T).map pvw])
  | .leaf w,h,st=>by
    show (stepA st (pvw w)).bind (runA [])=_
    unfold stepA
    rw [pvw_notJ h,if_neg (by decide)]
    rfl
  | .node w a b,h,st=>by
    show runA (pst a ++ pst b ++ [.str w]) st=_
    rw [runA_app,runA_app,runA_tree h.2.1]
    show ((runA (pst b) (st ++ [(pre a).map pvw])).bind (runA [.str w]))=_
    rw [runA_tree h.2.2]
    show (stepA (st ++ [(pre a).map pvw] ++ [(pre b).map pvw]) (.str w)).bind (runA [])=_
    unfold stepA
    rw [if_pos h.1]
    simp [runA,pre,pvw_j h.1]
theorem runA_one {ps:List V} {i:Nat} {st:List (List V)} {v:V} (h:runA (ps.take i) []=some st) (hv:ps[i]?=some v):runA (ps.take (i + 1)) []=stepA st v:=by
  rw [List.take_add_one,hv]
  show runA (ps.take i ++ [v]) []=_
  rw [runA_app,h]
  show (stepA st v).bind (runA [])=_
  cases stepA st v <;> rfl
theorem runA_none {ps:List V} {i:Nat} (h:runA (ps.take i) []=none):runA ps []=none:=by
  have:=runA_app (ps.take i) (ps.drop i) []
  rw [List.take_append_drop,h] at this
  exact this
theorem stepA_two {l:List (List V)} {a b:List V} {v:V} (hv:isJ v=true):stepA (l ++ [a,b]) v=some (l ++ [v :: (a ++ b)]):=by
  unfold stepA
  rw [if_pos hv]
  simp
theorem stepA_few {st:List (List V)} {v:V} (hv:isJ v=true) (h:st.length≤1):stepA st v=none:=by
  unfold stepA
  rw [if_pos hv]
  match st,h with
  | [],_=>rfl
  | [a],_=>rfl
  | a :: b :: r,h=>exact absurd h (by rw [List.length_cons,List.length_cons];lia)
def wOfV:V→V
  | .int i=>.str (numS i)
  | v=>v
theorem partW_back {w:Str} {v:V} (h:partW w=some v):wOfV v=.str w∧((∃ i,v=.int i∧inW i=true)∨v=.str w):=by
  unfold partW at h
  split at h
  · cases h
    exact ⟨rfl,.inr rfl⟩
  · split at h
    · rename_i z
      cases h
      unfold isNum at z
      rw [Bool.and_eq_true,Bool.and_eq_true] at z
      refine ⟨?_,.inl ⟨_,rfl,z.2.1⟩⟩
      show V.str (numS (valOf w))=.str w
      rw [of_decide_eq_true z.2.2]
    · cases h
theorem wOf_pre {T:Tw} (hw:wfT T) (ho:okT T=true):((pre T).map pvw).map wOfV=(pre T).map V.str:=by
  rw [List.map_map]
  refine List.map_congr_left fun w h=>?_
  show wOfV (pvw w)=.str w
  rcases (okT_iff hw).mp ho w h with j | j
  · rw [pvw_j j];rfl
  · obtain ⟨v,e⟩:=Option.isSome_iff_exists.mp j
    unfold pvw
    rw [e]
    exact (partW_back e).1
theorem pst_ok:∀ {T:Tw},wfT T→okT T=true→∀ v∈pst T,(∃ i,v=.int i∧inW i=true)∨∃ x:Str,v=.str x∧x∈pre T
  | .leaf w,_,ho,v,hv=>by
    have e:v=pvw w:=by simpa [pst] using hv
    obtain ⟨u,eu⟩:=Option.isSome_iff_exists.mp (show (partW w).isSome=true from ho)
    have e2:pvw w=u:=by unfold pvw;rw [eu];rfl
    rw [e,e2]
    rcases (partW_back eu).2 with h | h
    · exact .inl h
    · exact .inr ⟨w,h,by simp [pre]⟩
  | .node w a b,hw,ho,v,hv=>by
    have ho':okT a=true∧okT b=true:=by
      have:(okT a && okT b)=true:=ho
      rwa [Bool.and_eq_true] at this
    have hv:v∈pst a∨v∈pst b∨v=.str w:=by simpa [pst,or_assoc] using hv
    rcases hv with h | h | h
    · rcases pst_ok hw.2.1 ho'.1 v h with h | ⟨x,h,m⟩
      · exact .inl h
      · exact .inr ⟨x,h,by simp [pre,m]⟩
    · rcases pst_ok hw.2.2 ho'.2 v h with h | ⟨x,h,m⟩
      · exact .inl h
      · exact .inr ⟨x,h,by simp [pre,m]⟩
    · exact .inr ⟨w,h,by simp [pre]⟩
end L2
namespace L2
open PySem PySem.W PyProof.Rows
section
variable {α β:Type} {lt:Nat→Nat→Bool} {n:Nat}
def kOk (lt:Nat→Nat→Bool) (n:Nat):KasT α→(α→Prop)→Prop
  | .ret a,R=>R a
  | .ask i j k,R=>i < n∧j < n∧i≠j∧kOk lt n (k (lt i j)) R
theorem kOk_bind:∀ {t:KasT α} {f:α→KasT β} {R:β→Prop},kOk lt n t (fun a=>kOk lt n (f a) R)→kOk lt n (t.bind f) R
  | .ret _,_,_,h=>h
  | .ask _ _ _,_,_,h=>⟨h.1,h.2.1,h.2.2.1,kOk_bind h.2.2.2⟩
theorem kOk_mono:∀ {t:KasT α} {R R':α→Prop},kOk lt n t R→(∀ a,R a→R' a)→kOk lt n t R'
  | .ret _,_,_,h,m=>m _ h
  | .ask _ _ _,_,_,h,m=>⟨h.1,h.2.1,h.2.2.1,kOk_mono h.2.2.2 m⟩
structure SO (lt:Nat→Nat→Bool) (n:Nat):Prop where
  irr:∀ i,i < n→lt i i=false
  trans:∀ i j k,i < n→j < n→k < n→lt i j=true→lt j k=true→lt i k=true
  tot:∀ i j,i < n→j < n→i≠j→lt i j=false→lt j i=true
def PP (n:Nat) (p:Array Nat):Prop:=p.Perm (List.range n).toArray
def gt (p:Array Nat) (k:Nat):Nat:=p.getD k 0
theorem gt_eq {p:Array Nat} {k:Nat} (h:k < p.size):p[k]?=some (gt p k):=by
  unfold gt
  rw [Array.getD_eq_getD_getElem?,Array.getElem?_eq_getElem h]
  rfl
theorem PP.size {p:Array Nat} (h:PP n p):p.size=n:=by
  have:=h.size_eq
  simpa using this
theorem PP.blt {p:Array Nat} (h:PP n p) {k:Nat} (hk:k < n):gt p k < n:=by
  have hs:=h.size
  have m:gt p k∈p:=Array.mem_of_getElem? (gt_eq (by lia))
  have m2:gt p k∈(List.range n).toArray:=(Array.Perm.mem_iff h).mp m
  simpa using m2
theorem PP.inj {p:Array Nat} (h:PP n p) {i j:Nat} (hi:i < n) (hj:j < n) (e:gt p i=gt p j):i=j:=by
  have hs:=h.size
  have nd:p.toList.Nodup:=by
    have:p.toList.Perm (List.range n):=by
      have:=Array.perm_iff_toList_perm.mp h
      simpa using this
    exact this.nodup_iff.mpr List.nodup_range
  have e1:=gt_eq (p:=p) (k:=i) (by lia)
  have e2:=gt_eq (p:=p) (k:=j) (by lia)
  rw [← e] at e2
  have e1':p.toList[i]?=some (gt p i):=by simpa using e1
  have e2':p.toList[j]?=some (gt p i):=by simpa using e2
  obtain ⟨a1,b1⟩:=List.getElem?_eq_some_iff.mp e1'
  obtain ⟨a2,b2⟩:=List.getElem?_eq_some_iff.mp e2'
  exact (List.getElem_inj nd).mp (b1.trans b2.symm)
def Rise (lt:Nat→Nat→Bool) (p:Array Nat) (m:Nat):Prop:=∀ i j,i < j→j < m→lt (gt p i) (gt p j)=true
theorem place_ok (S:SO lt n) {p:Array Nat} (hp:PP n p) {k:Nat} (hk:k < n) (hr:Rise lt p k):∀ (f l r:Nat),l≤r→r≤k→r - l≤f→(∀ i,i < l→lt (gt p i) (gt p k)=true)→(∀ i,r≤i→i < k→lt (gt p k) (gt p i)=true) →
    kOk lt n (kas_place p k f l r) fun m=>m≤k∧(∀ i,i < m→lt (gt p i) (gt p k)=true)∧∀ i,m≤i→i < k→lt (gt p k) (gt p i)=true
  | 0,l,r,h1,h2,h3,h4,h5=>⟨by lia,h4,fun i hi hik=>h5 i (by lia) hik⟩
  | f + 1,l,r,h1,h2,h3,h4,h5=>by
    unfold kas_place
    by_cases c:l ≥ r
    · rw [if_pos c]
      exact ⟨by lia,h4,fun i hi hik=>h5 i (by lia) hik⟩
    · rw [if_neg c]
      refine ⟨hp.blt (by lia),hp.blt (by lia),(fun z=>by have:=hp.inj (by lia) (by lia) z;lia),?_⟩
      show kOk lt n (if lt (gt p k) (gt p ((l + r) / 2))=true then _ else _) _
      by_cases d:lt (gt p k) (gt p ((l + r) / 2))=true
      · rw [if_pos d]
        refine place_ok S hp hk hr f l ((l + r) / 2) (by lia) (by lia) (by lia) h4 fun i hi hik=>?_
        by_cases e:i=(l + r) / 2
        · rw [e];exact d
        · exact S.trans _ _ _ (hp.blt (by lia)) (hp.blt (by lia)) (hp.blt (by lia)) d (hr _ i (by lia) hik)
      · rw [if_neg d]
        have up:lt (gt p ((l + r) / 2)) (gt p k)=true:=S.tot _ _ (hp.blt (by lia)) (hp.blt (by lia)) (fun z=>by have:=hp.inj (by lia) (by lia) z;lia) (Bool.eq_false_iff.mpr d)
        refine place_ok S hp hk hr f ((l + r) / 2 + 1) r (by lia) (by lia) (by lia) (fun i hi=>?_) h5
        by_cases e:i=(l + r) / 2
        · rw [e];exact up
        · exact S.trans _ _ _ (hp.blt (by lia)) (hp.blt (by lia)) (hp.blt (by lia)) (hr i _ (by lia) (by lia)) up
end
end L2
namespace L2
open PySem PySem.W PyProof.Rows
section
variable {P:Program} {w:World} {A:Around} {E:Value→Shared→Prop} {s:Shared}
end
end L2
namespace L2
open PySem PySem.W PyProof.Rows
def placeLt (a b:Str × Int):Bool:=if a.1=b.1 then decide (a.2 < b.2) else decide (a.1.cps.toList < b.1.cps.toList)
section
variable {P:Program} {w:World} {A:Around} {E:Value→Shared→Prop} {s:Shared}
end
end L2
namespace L2
open PySem
section
variable {P:Program} {w:World} {A:Around} {E:Value→Shared→Prop} {s:Shared}
end
end L2
namespace L2
open PySem PySem.Spec PyProof.Rows
section
open PySem.SeqAt
open PySem.AutoSeq1 (wpAny_loadPart')
open PySem.MeetsSeq PySem.MeetsSeq2 PySem.MeetsSeq3
end
end L2
namespace L2
open PySem PySem.Spec PyProof.Rows
section
variable {P:Program} {w:World} {A:Around} {E:Value→Shared→Prop} {s:Shared}
end
end L2
namespace L2
open PySem PySem.Spec PyProof.Rows
def plKey (q:Str × Int):List Key:=[.inr q.1,.inl q.2]
abbrev cSrtD:RC:=fun xs H Q=>∃ (a:Addr) (kvs:List (List Key × V)) (qs:List (Str × Int)),xs=[.ref a]∧H a=some (.dT kvs)∧kvs.map (·.1)=qs.map plKey∧kvs.length < 64 ∧
  ∀ (l:Addr) (ps:List (Addr × (Str × Int))),H l=none→(ps.map (·.2)).Perm qs→(ps.map (·.2)).Pairwise (fun a b=>placeLt a b=true)→(∀ n∈ps,H n.1=some (.tup [.str n.2.1,.int n.2.2]))→Q (.ref l) (upd H l (.lst (ps.map fun n=>V.ref n.1)))
theorem paired_get {α β:Type} {F:α→β→Prop}:∀ {l₁:List α} {l₂:List β},Paired F l₁ l₂→∀ {i:Nat} {a:α} {b:β},l₁[i]?=some a→l₂[i]?=some b→F a b
  | _,_,.nil,i,a,b,h,_=>by simp at h
  | _,_,.cons x r,0,a,b,h1,h2=>by
    simp only [List.getElem?_cons_zero,Option.some.injEq] at h1 h2
    subst h1 h2
    exact x
  | _,_,.cons x r,i + 1,a,b,h1,h2=>paired_get r (by simpa using h1) (by simpa using h2)
section
variable {X:Cx}
end
end L2
namespace L2
open PySem PySem.Spec PyProof.Rows
def Itd (a:Addr) (o:Obj) (kvs:List (List Key × V)):It :=
  ⟨fun i H=>H a=some (.frz o (.dT kvs))∧i < kvs.length,fun i H x H'=>H'=H∧∃ k v p,kvs[i]?=some (k,v)∧x=.ref p∧H p=some (.tup (k.map kV)),fun i H=>H a=some (.frz o (.dT kvs))∧kvs.length≤i⟩
section
variable {X:Cx}
def iDT (tl:TE):TI:=fun σ H R=>tl σ H fun x H1=>∃ a o kvs,x=.ref a∧H1 a=some (.frz o (.dT kvs))∧R (Itd a o kvs) H1
end
section
variable {σ:St} {H:Hp} {nx:St→Hp→Prop} {B:V→St→Hp→(St→Hp→Prop)→Prop}
end
end L2
namespace L2
open PySem PySem.Spec PyProof.Rows
mutual
inductive Dat (K:PySem.W.Frag) (H:Hp):V→PyData→Prop
  | non:Dat K H .non .none
  | bl (b:Bool):Dat K H (.bl b) (.bool b)
  | int (i:Int):Dat K H (.int i) (.int i)
  | str (x:Str):Dat K H (.str x) (.str x)
  | lst {a:Addr} {xs:List V} {ds:List PyData}:SqL K H a xs→DatAll K H xs ds→Dat K H (.ref a) (.list ds)
  | tup {a:Addr} {xs:List V} {ds:List PyData}:SqT K H a xs→DatAll K H xs ds→Dat K H (.ref a) (.tuple ds)
inductive DatAll (K:PySem.W.Frag) (H:Hp):List V→List PyData→Prop
  | nil:DatAll K H [] []
  | cons {x:V} {d:PyData} {xs:List V} {ds:List PyData}:Dat K H x d→DatAll K H xs ds→DatAll K H (x :: xs) (d :: ds)
end
section
variable {X:Cx} {pins:List (Addr × Obj)} {σ:St} {H:Hp} {s:Shared}
end
section
variable {K:PySem.W.Frag} {H H':Hp}
theorem SqL.mono {a:Addr} {xs:List V} (k:Same H H') (h:SqL K H a xs):SqL K H' a xs:=by
  rcases h with (h | ⟨o,h⟩) | h
  · exact .inl (.inl (k _ _ h))
  · exact .inl (.inr ⟨o,k _ _ h⟩)
  · exact .inr h
end
section
variable {X:Cx} {pins:List (Addr × Obj)} {σ:St} {H:Hp} {s:Shared}
end
mutual
def plainD:PyData→Bool
  | .none=>true
  | .int _=>true
  | .str x=>PyData.strOk x
  | .list xs=>plainDs xs
  | .tuple xs=>plainDs xs
  | .bool _=>false
  | .dict _=>false
def plainDs:List PyData→Bool
  | []=>true
  | x :: xs=>plainD x && plainDs xs
end
abbrev rEqD (K:PySem.W.Frag) (neg:Bool):R2:=fun x y H Q=>∃ d e,Dat K H x d∧Dat K H y e∧(plainD d=true∧plainD e=true∧d.depth≤64∧e.depth≤64)∧∀ b:Bool,(b=true↔d=e)→Q (.bl (if neg then !b else b)) H
section
variable {X:Cx}
end
end L2
namespace L2
open PySem PySem.Spec PyProof.Rows
abbrev rGtS:R2:=fun x y H Q=>∃ i j,x=.str i∧y=.str j∧Q (.bl (decide (j.cps.toList < i.cps.toList))) H
abbrev rInD (neg:Bool):R2:=fun x y H Q=>∃ a o,y=.ref a∧DGet H a x o∧Q (.bl (if neg then !o.isSome else o.isSome)) H
section
variable {X:Cx}
end
end L2
namespace L2
open PySem
abbrev Pl:=Str × Int
abbrev Row:=Pl × Int
def lastW:List Row→Pl→Option Int
  | [],_=>none
  | r :: t,p=>(lastW t p).or (if r.1=p then some r.2 else none)
def dStep (kvs:List (List Key × V)) (q:Row):List (List Key × V):=putK kvs (plKey q.1) (.int q.2)
def dOf (rows:List Row):List (List Key × V):=rows.foldl dStep []
def OkKv (kvs:List (List Key × V)):Prop:=(kvs.map (·.1)).Nodup∧∀ kv∈kvs,∃ (p:Pl) (w:Int),kv=(plKey p,.int w)
theorem OkKv.put {kvs:List (List Key × V)} (h:OkKv kvs) (p:Pl) (w:Int):OkKv (putK kvs (plKey p) (.int w)):=by
  cases e:valV kvs (plKey p) with
  | none =>
    refine ⟨nd_putK _ h.1 e,fun kv hk=>?_⟩
    rw [putK_new _ e] at hk
    rcases List.mem_append.mp hk with hk | hk
    · exact h.2 kv hk
    · exact ⟨p,w,List.mem_singleton.mp hk⟩
  | some v =>
    have q:(kvs.any fun kv=>decide (kv.1=plKey p))=true:=by rw [valV_any,e];rfl
    unfold putK
    rw [if_pos q]
    constructor
    · rw [List.map_map]
      have:((fun x:List Key × V=>x.1) ∘ fun kv:List Key × V=>if kv.1=plKey p then (kv.1,V.int w) else kv)=fun x=>x.1:=by
        funext kv
        show (if kv.1=plKey p then (kv.1,V.int w) else kv).1=kv.1
        split <;> rfl
      rw [this];exact h.1
    · intro kv hk
      obtain ⟨z,hz,rfl⟩:=List.mem_map.mp hk
      by_cases e:z.1=plKey p
      · exact ⟨p,w,by rw [if_pos e,e]⟩
      · rw [if_neg e];exact h.2 z hz
def Rising (l:List Row):Prop:=l.Pairwise fun a b=>placeLt a.1 b.1=true
def IsTab (rows out:List Row):Prop:=Rising out∧∀ p w,(p,w)∈out↔lastW rows p=some w∧w≠0
theorem last_none {p:Pl}:∀ {l:List Row},(∀ r∈l,r.1≠p)→lastW l p=none
  | [],_=>rfl
  | r :: t,h=>by
    rw [lastW,last_none fun r hr=>h r (List.mem_cons_of_mem _ hr),if_neg (h r List.mem_cons_self)];rfl
end L2
namespace L2
open PySem PySem.Spec PyProof.Rows
def ZL (z a b i j p q:Addr) (k:Nat) (h:Heap):Prop:=IsZip h z a b .none∧IsPair h a (.ref i) (.ref j)∧(∃ u v,IsPair h b u v)∧h.IsListIter i p k∧h.IsListIter j q k
def Itzl (K:PySem.W.Frag) (p q:Addr) (xs ys:List V):It:=⟨fun i H=>i < xs.length∧SqL K H p xs∧SqL K H q ys,fun i H x H'=>∃ T u v,x=.ref T∧H T=none∧H'=upd H T (.tup [u,v])∧xs[i]?=some u∧ys[i]?=some v,fun i H=>xs.length≤i∧SqL K H p xs∧SqL K H q ys⟩
theorem turn_zipL {P:Program} {w:World} {K:PySem.W.Frag} {elts:List Expr} {x1} {pos:Pos} {z a b i j p q:Addr} {xs ys:List V} (D:ZipApart z a b i j p q) (hl:xs.length=ys.length) :
    Turn P w K (.Tuple elts x1 pos) (Itzl K p q xs ys) [z,a,b,i,j] z (ZL z a b i j p q) where
  mem:=by simp
  obj:=fun k h st c hc=>by
    obtain ⟨hz,ha,⟨u,v,hb⟩,⟨oi,hi,ci,di⟩,⟨oj,hj,cj,dj⟩⟩:=st
    simp only [List.mem_cons,List.not_mem_nil,or_false] at hc
    rcases hc with rfl | rfl | rfl | rfl | rfl
    · exact ⟨_,hz,fun v z=>by cases z⟩
    · exact ⟨_,ha,fun v z=>by cases z⟩
    · exact ⟨_,hb,fun v z=>by cases z⟩
    · exact ⟨_,hi,fun v z=>by rw [di] at z;cases z⟩
    · exact ⟨_,hj,fun v z=>by rw [dj] at z;cases z⟩
  keep:=fun k h h' st kk=>by
    obtain ⟨hz,ha,⟨u,v,hb⟩,⟨oi,hi,ci⟩,⟨oj,hj,cj⟩⟩:=st
    exact ⟨kk z (by simp) _ hz,kk a (by simp) _ ha,⟨u,v,kk b (by simp) _ hb⟩,⟨oi,kk i (by simp) _ hi,ci⟩,⟨oj,kk j (by simp) _ hj,cj⟩⟩
  item:=by
    intro X hP hw hK hc k pins s σ H E I hf st hg
    subst hP hw hK
    obtain ⟨hlt,h1,h2⟩:=hg
    obtain ⟨us,r1,p1,_⟩:=I.list h1
    obtain ⟨vs,r2,p2,_⟩:=I.list h2
    obtain ⟨u,hu,ru⟩:=r1.get (i:=k) (x:=xs[k]) (List.getElem?_eq_getElem hlt)
    obtain ⟨v,hv,rv⟩:=r2.get (i:=k) (x:=ys[k]'(hl ▸ hlt)) (List.getElem?_eq_getElem (hl ▸ hlt))
    have sub:∀ c∈[z,b,i,j],c∈[z,a,b,i,j]:=fun c hc=>by
      simp only [List.mem_cons,List.not_mem_nil,or_false] at hc ⊢
      rcases hc with h | h | h | h <;> simp [h]
    have old:∀ c∈[z,a,b,i,j],c≠s.heap.objs.size:=fun c hc=>by
      obtain ⟨hz,ha,⟨u,v,hb⟩,⟨oi,hi,ci⟩,⟨oj,hj,cj⟩⟩:=st
      simp only [List.mem_cons,List.not_mem_nil,or_false] at hc
      rcases hc with rfl | rfl | rfl | rfl | rfl
      · exact Nat.ne_of_lt (Heap.lt_size hz)
      · exact Nat.ne_of_lt (Heap.lt_size ha)
      · exact Nat.ne_of_lt (Heap.lt_size hb)
      · exact Nat.ne_of_lt (Heap.lt_size hi)
      · exact Nat.ne_of_lt (Heap.lt_size hj)
    obtain ⟨hz,ha,⟨u0,v0,hb⟩,hi,hj⟩:=st
    refine wpAny_pyNext_zip_item D hz ha hb hi hj p1.isList p2.isList (x:=u) (y:=v) (by simpa using hu) (by simpa using hv) fun h z8 b5 i5 j5 t5 sz k5=>?_
    have I6:Inv X pins σ (upd H s.heap.objs.size (.tup [xs[k],ys[k]'(hl ▸ hlt)])) { s with heap:=s.heap.push { cls:=.type "tuple",data:=.seq #[u,v] } } :=
      I.laid (a:=s.heap.objs.size) (o:=.tup [xs[k],ys[k]'(hl ▸ hlt)]) (t':=s.toks) (fun b u e=>Heap.get?_push_of_some _ e) (Nat.le_refl _) ⟨by show 2≤sizeLine;decide,[u,v],.cons ru (.cons rv .nil),⟨_,Heap.get?_push_size _ rfl,rfl,_,rfl⟩⟩
    have free:∀ c∈[z,a,b,i,j],upd H s.heap.objs.size (HO.tup [xs[k],ys[k]'(hl ▸ hlt)]) c=none:=fun c hc=>by rw [upd_ne (old c hc)];exact (hf c hc).1
    have fz:∀ c∈[z,a,b,i,j],FpOk X pins (upd H s.heap.objs.size (HO.tup [xs[k],ys[k]'(hl ▸ hlt)])) c:=fun c hc=>⟨free c hc,(hf c hc).2⟩
    refine ⟨.ref s.heap.objs.size,rfl,wpAny_letOwnedTupleGo_zip z8 fun h2 z9 sb2=>?_⟩
    have up:∀ c o,c≠z→h.get? c=some o→h2.get? c=some o:=fun c o hc e=>by
      rw [show h2.get? c=h.get? c from sb2.2 c hc];exact e
    have I7:Inv X pins σ (upd H s.heap.objs.size (.tup [xs[k],ys[k]'(hl ▸ hlt)])) { s with heap:=h2 }:=I6.turnedL (s:={ s with heap:=s.heap.push { cls:=.type "tuple",data:=.seq #[u,v] } }) (t':=s.toks) (ch:=[z,b,i,j]) (fun c o hc e=>by
      simp only [List.mem_cons,List.not_mem_nil,or_false,not_or] at hc
      refine up c o hc.1 ?_
      rcases Heap.get?_push_cases (show (s.heap.push { cls:=.type "tuple",data:=.seq #[u,v] }).get? c=some o from e) with ⟨rfl,rfl⟩ | e
      · exact t5
      · exact k5 c o hc.1 hc.2.1 hc.2.2.1 hc.2.2.2 e) fun c hc=>fz c (sub c hc)
    refine ⟨.ref s.heap.objs.size,_,I7,rfl,⟨_,_,_,rfl,I.hok.fresh (Nat.le_refl _),rfl,List.getElem?_eq_getElem hlt,List.getElem?_eq_getElem (hl ▸ hlt)⟩,?_,free⟩
    have ka:h.get? a=_:=k5 a _ D.TIz D.TITO D.TIi1 D.TIi2 ha
    obtain ⟨oi,hi,ci⟩:=i5
    obtain ⟨oj,hj,cj⟩:=j5
    exact ⟨z9,up a _ D.TIz ka,⟨_,_,up b _ D.TOz b5⟩,⟨oi,up i _ D.i1z hi,ci⟩,⟨oj,up j _ D.i2z hj,cj⟩⟩
  done:=by
    intro X hP hw hK hc k pins s σ H E I hf st hg
    subst hP hw hK
    obtain ⟨hlt,h1,h2⟩:=hg
    obtain ⟨us,r1,p1,_⟩:=I.list h1
    obtain ⟨vs,r2,p2,_⟩:=I.list h2
    have hl1:=r1.length
    obtain ⟨hz,ha,⟨u0,v0,hb⟩,hi,hj⟩:=st
    refine wpAny_pyNext_zip_end (I.ok.hd hc) D hz ha hb hi hj p1.isList p2.isList (.inl (by simp;lia)) fun h hk=>⟨rfl,I.turnedL (t':=s.toks) (ch:=[z,b,i,j]) (fun c o hc e=>?_) fun c hc=>hf c ?_⟩
    · simp only [List.mem_cons,List.not_mem_nil,or_false,not_or] at hc
      exact hk c o hc.1 hc.2.1 hc.2.2.1 hc.2.2.2 e
    · simp only [List.mem_cons,List.not_mem_nil,or_false] at hc ⊢
      rcases hc with h | h | h | h <;> simp [h]
  self:=fun _ _ _ _ _ st h=>wpAny_pyIter_zip st.1 h
def iZipL (K:PySem.W.Frag) (ta:TA):TI:=fun σ H R=>ta σ H fun vs H1=>∃ p q xs ys,vs=[.ref p,.ref q]∧SqL K H1 p xs∧SqL K H1 q ys∧xs.length=ys.length∧R (Itzl K p q xs ys) H1
section
variable {X:Cx}
end
section
variable {σ:St} {H:Hp} {nx:St→Hp→Prop} {B:V→St→Hp→(St→Hp→Prop)→Prop}
theorem loop_zipL {K:PySem.W.Frag} {p q:Addr} (xs ys:List V) (Pv:Nat→St→Hp→Prop) (h0:Pv 0 σ H) (hl:∀ i σ H,Pv i σ H→SqL K H p xs∧SqL K H q ys)
    (hs:∀ i u v T σ H,xs[i]?=some u→ys[i]?=some v→H T=none→Pv i σ H→B (.ref T) σ (upd H T (.tup [u,v])) (Pv (i + 1))) (hd:∀ σ H,Pv xs.length σ H→nx σ H) :
    ∃ W:Nat→Nat→St→Hp→Prop,(∃ m,W 0 m σ H)∧∀ i m σ H,W i m σ H→((Itzl K p q xs ys).stop i H∧nx σ H)∨((Itzl K p q xs ys).go i H∧∃ N:St→Hp→Prop,(∀ σ' H',N σ' H'→∃ m',m' < m∧W (i + 1) m' σ' H')∧∀ x H',(Itzl K p q xs ys).yld i H x H'→B x σ H' N):=by
  refine ⟨fun i m σ H=>m=xs.length - i∧i≤xs.length∧Pv i σ H,⟨xs.length,by simp,Nat.zero_le _,h0⟩,?_⟩
  rintro i m σ H ⟨rfl,hi,pv⟩
  by_cases hlt:i < xs.length
  · refine .inr ⟨⟨hlt,hl i σ H pv⟩,Pv (i + 1),fun σ' H' p'=>⟨xs.length - (i + 1),by lia,rfl,hlt,p'⟩,?_⟩
    rintro x H' ⟨T,u,v,rfl,hT,rfl,hu,hv⟩
    exact hs i u v T σ H hu hv hT pv
  · obtain rfl:i=xs.length:=by lia
    exact .inl ⟨⟨Nat.le_refl _,hl _ σ H pv⟩,hd σ H pv⟩
end
end L2
namespace L2
open PySem PySem.Spec PyProof.Rows
section
variable {X:Cx} {A:Around} {R:Result→Shared→Prop}
def PrAt (H:Hp) (v:V) (q:Row):Prop:=∃ r p,v=.ref r∧H r=some (.tup [.ref p,.int q.2])∧H p=some (.tup [.str q.1.1,.int q.1.2])
end
end L2
namespace L2
open PySem PySem.Spec PyProof.Rows
section
variable {prog:Program} {w:World} {A:Around} {E:Value→Shared→Prop} {s:Shared} {a:Addr} {o:Obj} {xs:Array Value} {k:Nat}
end
abbrev cDctP:RC:=fun vs H Q=>∃ (a:Addr) (xs:List V) (rows:List Row),vs=[.ref a]∧H a=some (.lst xs)∧Paired (PrAt H) xs rows∧rows.length≤1000∧∀ p,H p=none→Q (.ref p) (upd H p (.dT (dOf rows)))
section
variable {X:Cx}
end
end L2
namespace L2
open PySem PySem.Spec PyProof.Rows
section
variable {X:Cx} {k:Nat} {f C:Addr} {fd:FuncData} {ps:List Str} {sp:Sp} {m:Str} {pos apos:Pos} {e o:Expr} {es:List Expr} {ta:TE} {t:TA}
def tMethX (C:Addr) (m:Str) (sp:Sp) (ta:TE) (t:TA) (EX:EXK):TE:=fun σ H Q=>ta σ H fun x H1=>∃ a dx fs,x=.ref a∧H1 a=some (.ins C dx fs)∧fs.lookup m=none ∧
  t σ H1 fun vs H2=>sp (x :: (vs ++ [])) H2 Q fun cls _ H3=>EX cls σ H3
end
def tTryN (K:PySem.W.Frag) (tb:EXK→TS) (C1:Addr) (th1:TS):TS:=fun D σ H=>tb (fun cls σ1 H1=>∃ C,cls=.ref C∧PySem.W.exmOne K (.ref C) (.ref C1)=some true∧th1 D σ1 H1) D σ H
def tTryNN (K:PySem.W.Frag) (tb:EXK→TS) (C1:Addr) (th1:TS) (C2:Addr) (th2:TS):TS:=fun D σ H=>tb (fun cls σ1 H1=>∃ C,cls=.ref C ∧
  ((PySem.W.exmOne K (.ref C) (.ref C1)=some true∧th1 D σ1 H1)∨(PySem.W.exmOne K (.ref C) (.ref C1)=some false∧PySem.W.exmOne K (.ref C) (.ref C2)=some true∧th2 D σ1 H1))) D σ H
section
variable {X:Cx} {st b₀ b₁:Stmt} {suite suite1:List Stmt} {tb:EXK→TS} {th1 th2:TS} {c1 c2:Str} {C1 C2:Addr} {np hpos np2 hpos2 pos:Pos}
end
section
variable {X:Cx} {k:Nat} {f:Addr} {fd:FuncData} {ps:List Str} {sp:Sp} {x:Str} {p pos:Pos} {e:Expr} {es:List Expr} {t:TA}
end
end L2
namespace L2
open PySem
def rk (kvs:List (Key × V)) (ps:List V):Except Er Int:=match runE kvs ps [] with
  | .ok [i]=>.ok i
  | .ok _=>.error .stuck
  | .error e=>.error e
theorem step_inW {kvs:List (Key × V)} (hs:SlotsOk kvs) {v:V} (hv:okPart v) {st st':List Int} (h:∀ x∈st,inW x=true) (e:stepE kvs st v=.ok st'):∀ x∈st',inW x=true:=by
  unfold stepE at e
  split at e
  · split at e
    · rename_i w b a r hr hj
      unfold joinE at e
      by_cases c1:isDiv w∧b=0
      · rw [if_pos c1] at e;cases e
      · rw [if_neg c1] at e
        by_cases c2:inW (comeV w a b)=true
        · rw [if_pos c2] at e
          cases e
          intro x hx
          rcases List.mem_append.mp hx with hx | hx
          · refine h x (List.mem_reverse.mp ?_)
            rw [hr]
            exact List.mem_cons_of_mem _ (List.mem_cons_of_mem _ (List.mem_reverse.mp hx))
          · rw [List.mem_singleton.mp hx];exact c2
        · rw [if_neg c2] at e;cases e
    · cases e
  · cases e
    intro x hx
    rcases List.mem_append.mp hx with hx | hx
    · exact h x hx
    · rw [List.mem_singleton.mp hx];exact wrth_inW hs hv
theorem run_inW {kvs:List (Key × V)} (hs:SlotsOk kvs):∀ {ps:List V} {st st':List Int},(∀ v∈ps,okPart v)→(∀ x∈st,inW x=true)→runE kvs ps st=.ok st'→∀ x∈st',inW x=true
  | [],st,st',_,h,e=>by cases e;exact h
  | v :: r,st,st',hp,h,e=>by
    unfold runE at e
    split at e
    · rename_i st1 e1
      exact run_inW hs (fun v hv=>hp v (List.mem_cons_of_mem _ hv)) (step_inW hs (hp v List.mem_cons_self) h e1) e
    · cases e
def TermOk (e:List V):Prop:=(∀ kvs,∃ r,Good kvs e r)∧(∀ v∈e,okPart v)∧e.length≤1000
mutual
inductive Rw where
  | take (sh:Str) (e:List V) (sl:Str)
  | give (sh:Str) (e f:List V)
  | lt (sl:Str) (e:List V)
  | say (e:List V)
  | off (e:List V)
  | iff (e:List V) (a b:Rws)
inductive Rws where
  | nil
  | cons (r:Rw) (rs:Rws)
end
set_option genSizeOf false in
set_option genInjectivity false in
structure Sta where
  sl:List (Key × V)
  wo:List Row
  sa:List Int
inductive Res where
  | go (s:Sta)
  | off
  | er (e:Er)
mutual
def goR:Rw→Sta→Res
  | .take sh e sl,s=>match rk s.sl e with
    | .ok n=>.go { s with sl:=putK s.sl (.inr sl) (.int ((lastW s.wo (sh,n)).getD 0)) }
    | .error x=>.er x
  | .give sh e f,s=>match rk s.sl e with
    | .ok n=>(match rk s.sl f with
      | .ok w=>.go { s with wo:=s.wo ++ [((sh,n),w)] }
      | .error x=>.er x)
    | .error x=>.er x
  | .lt sl e,s=>match rk s.sl e with
    | .ok n=>.go { s with sl:=putK s.sl (.inr sl) (.int n) }
    | .error x=>.er x
  | .say e,s=>match rk s.sl e with
    | .ok n=>.go { s with sa:=s.sa ++ [n] }
    | .error x=>.er x
  | .off e,s=>match rk s.sl e with
    | .ok n=>if n=0 then .go s else .off
    | .error x=>.er x
  | .iff e a b,s=>match rk s.sl e with
    | .ok n=>if n=0 then goRs b s else goRs a s
    | .error x=>.er x
def goRs:Rws→Sta→Res
  | .nil,s=>.go s
  | .cons r rs,s=>match goR r s with
    | .go s'=>goRs rs s'
    | x=>x
end
mutual
def RwAt (F:Addr→Prop) (H:Hp) (v:V):Rw→Prop
  | .take sh e sl=>∃ r te,v=.ref r∧F r∧F te∧H r=some (.tup [.str "take",.str sh,.ref te,.str sl])∧H te=some (.tup e)
  | .give sh e f=>∃ r te tf,v=.ref r∧F r∧F te∧F tf∧H r=some (.tup [.str "give",.str sh,.ref te,.ref tf])∧H te=some (.tup e)∧H tf=some (.tup f)
  | .lt sl e=>∃ r te,v=.ref r∧F r∧F te∧H r=some (.tup [.str "let",.str sl,.ref te])∧H te=some (.tup e)
  | .say e=>∃ r te,v=.ref r∧F r∧F te∧H r=some (.tup [.str "say",.ref te])∧H te=some (.tup e)
  | .off e=>∃ r te,v=.ref r∧F r∧F te∧H r=some (.tup [.str "off",.ref te])∧H te=some (.tup e)
  | .iff e a b=>∃ r te la lb xs ys,v=.ref r∧F r∧F te∧F la∧F lb∧H r=some (.tup [.str "if",.ref te,.ref la,.ref lb])∧H te=some (.tup e)∧H la=some (.lst xs)∧RwsAt F H xs a∧H lb=some (.lst ys)∧RwsAt F H ys b
def RwsAt (F:Addr→Prop) (H:Hp) (vs:List V):Rws→Prop
  | .nil=>vs=[]
  | .cons r rs=>∃ v ws,vs=v :: ws∧RwAt F H v r∧RwsAt F H ws rs
end
abbrev anyA:Addr→Prop:=fun _=>True
mutual
def RwOk:Rw→Prop
  | .take _ e _=>TermOk e
  | .give _ e f=>TermOk e∧TermOk f
  | .lt _ e=>TermOk e
  | .say e=>TermOk e
  | .off e=>TermOk e
  | .iff e a b=>TermOk e∧RwsOk a∧RwsOk b
def RwsOk:Rws→Prop
  | .nil=>True
  | .cons r rs=>RwOk r∧RwsOk rs
end
mutual
def Rw.deep:Rw→Nat
  | .iff _ a b=>max a.deep b.deep + 1
  | _=>0
def Rws.deep:Rws→Nat
  | .nil=>0
  | .cons r rs=>max r.deep rs.deep
end
mutual
def Rw.cnt:Rw→Nat
  | .iff _ a b=>max a.cnt b.cnt + 1
  | _=>1
def Rws.cnt:Rws→Nat
  | .nil=>0
  | .cons r rs=>r.cnt + rs.cnt
end
end L2
namespace L2
open PySem
section
variable {P:Program} {w:World} {A:Around} {E:Value→Shared→Prop} {s:Shared}
end
end L2
namespace L2
open PySem PySem.Spec PyProof.Rows
def viewO (r d:Addr):HO:=.ext fun h=>h.IsItemsView r d
def tItems (td:TE):TE:=fun σ H Q=>td σ H fun x H1=>∃ d kvs,x=.ref d∧H1 d=some (.dT kvs)∧∀ r,H1 r=none→Q (.ref r) (upd H1 r (viewO r d))
section
variable {X:Cx} {o:Expr} {apos cpos:Pos} {td:TE}
end
def KvAt (H:Hp) (v:V) (kv:List Key × V):Prop:=∃ r p,v=.ref r∧H r=some (.tup [.ref p,kv.2])∧H p=some (.tup (kv.1.map kV))
section
variable {X:Cx} {A:Around} {R:Result→Shared→Prop}
end
end L2
namespace L2
open PySem PySem.Spec PyProof.Rows
abbrev cLstI:RC:=fun vs H Q=>∃ r d kvs,vs=[.ref r]∧H r=some (viewO r d)∧H d=some (.dT kvs)∧kvs.length≤1000∧∀ l ys H',Same H H'→H l=none→H' l=some (.lst ys)→Paired (KvAt H') ys kvs→Q (.ref l) H'
section
variable {X:Cx}
end
end L2
namespace L2
open PySem PySem.Spec PyProof.Rows PySem.W
section
variable {X:Cx}
end
section
variable {P:Program} {w:World} {A:Around} {E:Value→Shared→Prop} {s:Shared}
end
end L2
namespace L2
open PySem PySem.Spec PyProof.Rows PySem.W
def d0:Row:=(("",0),0)
abbrev cSrtI:RC:=fun vs H Q=>∃ r d rows,vs=[.ref r]∧H r=some (viewO r d)∧H d=some (.dT (dOf rows))∧(dOf rows).length < 64 ∧
  ∀ l ys srt H',Same H H'→H l=none→H' l=some (.lst ys)→Paired (PrAt H') ys srt→Rising srt→(∀ p w,(p,w)∈srt↔lastW rows p=some w)→Q (.ref l) H'
section
variable {X:Cx}
end
end L2
namespace L2
open PySem PySem.Spec PyProof.Rows
def Itr3 (lo c:Int) (n:Nat):It:=⟨fun i _=>i < n,fun i H x H'=>H'=H∧x=.int (lo + i * c),fun i _=>n≤i⟩
def cntR (i j c:Int):Nat:=if i < j then ((j - i - 1) / c + 1).toNat else 0
def iRng3 (ta:TA):TI:=fun σ H R=>ta σ H fun vs H1=>∃ i j c:Int,vs=[.int i,.int j,.int c]∧(0≤i∧i < 1073741824∧0≤j∧j < 1073741824∧0 < c∧c < 1073741824)∧R (Itr3 i c (cntR i j c)) H1
section
variable {X:Cx} {tg:Expr}
end
end L2
namespace L2
open PySem
structure StOk (n:Nat) (s:Sta):Prop where
  so:SlotsOk s.sl
  wo:∀ r∈s.wo,inW r.2=true
  l1:s.sl.length≤n
  l2:s.wo.length≤n
  l3:s.sa.length≤n
theorem StOk.mono {n m:Nat} {s:Sta} (h:StOk n s) (l:n≤m):StOk m s:=⟨h.so,h.wo,Nat.le_trans h.l1 l,Nat.le_trans h.l2 l,Nat.le_trans h.l3 l⟩
theorem last_in {P:Row→Prop} {p:Pl} {w:Int}:∀ {l:List Row},(∀ r∈l,P r)→lastW l p=some w→P (p,w)
  | [],_,h=>by cases h
  | r :: t,hp,h=>by
    rw [lastW] at h
    cases e:lastW t p with
    | some w' =>
      rw [e] at h
      have:w'=w:=by simpa using h
      subst this
      exact last_in (fun r hr=>hp r (List.mem_cons_of_mem _ hr)) e
    | none =>
      rw [e] at h
      by_cases c:r.1=p
      · rw [if_pos c] at h
        have:r.2=w:=by simpa using h
        rw [← c,← this];exact hp r List.mem_cons_self
      · rw [if_neg c] at h;cases h
mutual
def RwIn (P:Pl→Prop):Rw→Prop
  | .give sh e _=>∀ kvs n,rk kvs e=.ok n→P (sh,n)
  | .iff _ a b=>RwsIn P a∧RwsIn P b
  | _=>True
def RwsIn (P:Pl→Prop):Rws→Prop
  | .nil=>True
  | .cons r rs=>RwIn P r∧RwsIn P rs
end
inductive Oc where
  | done (sa:List Int)
  | off (why:Str)
def whyOf:Er→Str
  | .great=>"great"
  | _=>"nought"
def AloneR (rws:Rws) (tab:List Row) (oc:Oc) (out:List Row):Prop:=match goRs rws ⟨[],tab,[]⟩ with
  | .go s=>oc=.done s.sa∧IsTab s.wo out
  | .off=>oc=.off "told"∧out=tab
  | .er e=>oc=.off (whyOf e)∧out=tab
inductive SeqR:List Rws→List Row→List Oc→List Row→Prop
  | nil {tab:List Row}:SeqR [] tab [] tab
  | cons {d:Rws} {ds:List Rws} {tab mid out:List Row} {oc:Oc} {ocs:List Oc}:AloneR d tab oc mid→SeqR ds mid ocs out→SeqR (d :: ds) tab (oc :: ocs) out
def partD:V→PyData
  | .int i=>.int i
  | .str x=>.str x
  | _=>.none
def plV (v:V):Prop:=(∃ i,v=.int i)∨∃ x,v=.str x∧PyData.strOk x=true
def termD (e:List V):PyData:=.tuple (e.map partD)
mutual
def rwD:Rw→PyData
  | .take sh e sl=>.tuple [.str "take",.str sh,termD e,.str sl]
  | .give sh e f=>.tuple [.str "give",.str sh,termD e,termD f]
  | .lt sl e=>.tuple [.str "let",.str sl,termD e]
  | .say e=>.tuple [.str "say",termD e]
  | .off e=>.tuple [.str "off",termD e]
  | .iff e a b=>.tuple [.str "if",termD e,.list (rwsD a),.list (rwsD b)]
def rwsD:Rws→List PyData
  | .nil=>[]
  | .cons r rs=>rwD r :: rwsD rs
end
def tmP (e:List V):Prop:=∀ v∈e,plV v
mutual
def RwPl:Rw→Prop
  | .take sh e sl=>PyData.strOk sh=true∧tmP e∧PyData.strOk sl=true
  | .give sh e f=>PyData.strOk sh=true∧tmP e∧tmP f
  | .lt sl e=>PyData.strOk sl=true∧tmP e
  | .say e=>tmP e
  | .off e=>tmP e
  | .iff e a b=>tmP e∧RwsPl a∧RwsPl b
def RwsPl:Rws→Prop
  | .nil=>True
  | .cons r rs=>RwPl r∧RwsPl rs
end
section
variable {K:PySem.W.Frag} {H:Hp} {F:Addr→Prop}
theorem part_dat {v:V} (h:plV v):Dat K H v (partD v):=by
  rcases h with ⟨i,rfl⟩ | ⟨x,rfl,_⟩
  · exact .int i
  · exact .str x
theorem parts_dat:∀ {e:List V},tmP e→DatAll K H e (e.map partD)
  | [],_=>.nil
  | v :: r,h=>.cons (part_dat (h v List.mem_cons_self)) (parts_dat fun u hu=>h u (List.mem_cons_of_mem _ hu))
end
theorem parts_plain:∀ {e:List V},tmP e→plainDs (e.map partD)=true
  | [],_=>by simp [plainDs]
  | v :: r,h=>by
    rw [List.map_cons,plainDs,parts_plain fun u hu=>h u (List.mem_cons_of_mem _ hu),Bool.and_true]
    rcases h v List.mem_cons_self with ⟨i,rfl⟩ | ⟨x,rfl,hx⟩
    · rw [partD,plainD]
    · rw [partD,plainD];exact hx
theorem term_plain {e:List V} (h:tmP e):plainD (termD e)=true:=by rw [termD,plainD];exact parts_plain h
theorem parts_deep:∀ (e:List V),PyData.depthAll (e.map partD)=0
  | []=>by simp [PyData.depthAll]
  | v :: r=>by
    rw [List.map_cons,PyData.depthAll,parts_deep r]
    cases v <;> simp [partD,PyData.depth]
theorem term_deep (e:List V):(termD e).depth≤1:=by rw [termD,PyData.depth,parts_deep];lia
theorem sok_take:PyData.strOk "take"=true:=by decide +kernel
theorem sok_give:PyData.strOk "give"=true:=by decide +kernel
theorem sok_let:PyData.strOk "let"=true:=by decide +kernel
theorem sok_say:PyData.strOk "say"=true:=by decide +kernel
theorem sok_off:PyData.strOk "off"=true:=by decide +kernel
theorem sok_if:PyData.strOk "if"=true:=by decide +kernel
def Rws.snoc:Rws→Rw→Rws
  | .nil,x=>.cons x .nil
  | .cons r rs,x=>.cons r (rs.snoc x)
def Rws.app:Rws→Rws→Rws
  | .nil,x=>x
  | .cons r rs,x=>.cons r (rs.app x)
end L2
namespace L2
open PySem PySem.Spec PyProof.Rows
abbrev r_mt_split:RM:=fun x xs H Q=>∃ a b,x=.str a∧xs=[.str b]∧(b.length == 0)=false∧a.length≤100000∧(Txt.split a b).length≤100000∧∀ l,H l=none→Q (.ref l) (upd H l (.lst ((Txt.split a b).map V.str)))
theorem vals_strs_mk:∀ (l:List (Str × Tok)),Vals ((l.map (·.1)).map V.str) (strValues l)
  | []=>.nil
  | p :: r=>.cons ⟨p.2,rfl⟩ (vals_strs_mk r)
section
variable {X:Cx}
theorem mt_split:MtM X "str.split" r_mt_split:=by
  intro pins s σ H x xs v us Q I rx rs h
  obtain ⟨a,b,rfl,rfl,hb,ha,hl,q⟩:=h
  obtain ⟨t,rfl⟩:=rx
  obtain ⟨u,rfl,t',rfl⟩:=vals1 rs
  have hs:sizeLine=16777216:=sizeLine_eq
  have fin:∀ (l:List (Str × Tok)) (tk c:Nat),l.map (·.1)=Txt.split a b→EP X pins σ Q (.ref s.heap.objs.size) { s with heap:=s.heap.push { cls:=.type "list",data:=.seq (strValues l).toArray c },toks:=tk }:=fun l tk c e=>by
    have hn:H s.heap.objs.size=none:=I.hok.fresh (Nat.le_refl _)
    have vv:=vals_strs_mk l
    rw [e] at vv
    refine ⟨.ref s.heap.objs.size,_,I.laid (a:=s.heap.objs.size) (o:=.lst ((Txt.split a b).map V.str)) (t':=tk) (fun b u e=>Heap.get?_push_of_some _ e) (Nat.le_refl _) ⟨by rw [List.length_map];lia,strValues l,c,vv,Heap.get?_push_size _ rfl⟩,rfl,q _ hn⟩
  cases h1:(decide (a.length < b.length) || decide (Builtin.Str.strKind a < Builtin.Str.strKind b))
  · cases hf:(Builtin.Str.occurrences a b 0 a.length (a.length + 1)).isEmpty
    · have e0:Txt.split a b=Builtin.Str.partsBetween a (Builtin.Str.occurrences a b 0 a.length (a.length + 1)) b.length:=(if_neg (ne_true_of_eq_false h1)).trans (if_neg (ne_true_of_eq_false hf))
      refine call_meets F.slot_str_split (typeIs_str _ _ _) F.entry_str_split (F.args_str_split_2 _ _) (meets_str_split_sep a b t t' h1 hb hf (by lia) (by rw [← e0];lia)) ?_
      rw [strsFrom_eq]
      exact fin (numbered s.toks _) _ _ ((numbered_texts _ _).trans e0.symm)
    · exact call_meets F.slot_str_split (typeIs_str _ _ _) F.entry_str_split (F.args_str_split_2 _ _) (meets_str_split_not_found a b t t' h1 hb hf)
        (fin [(a,t)] _ _ ((if_neg (ne_true_of_eq_false h1)).trans (if_pos hf)).symm)
  · exact call_meets F.slot_str_split (typeIs_str _ _ _) F.entry_str_split (F.args_str_split_2 _ _) (meets_str_split_cannot_occur a b t t' h1)
      (fin [(a,t)] _ _ (if_pos h1).symm)
end
def EL (e it p:Addr) (k:Nat) (h:Heap):Prop:=(∃ old,IsEnum h e it (k:Int) old)∧h.IsListIter it p k
def Itel (K:PySem.W.Frag) (p:Addr) (xs:List V):It:=⟨fun i H=>i < xs.length∧SqL K H p xs,fun i H x H'=>∃ T u,x=.ref T∧H T=none∧H'=upd H T (.tup [.int i,u])∧xs[i]?=some u,fun i H=>xs.length≤i∧SqL K H p xs⟩
theorem turn_enumL {P:Program} {w:World} {K:PySem.W.Frag} {elts:List Expr} {x1} {pos:Pos} {e it p:Addr} {xs:List V} (hei:e≠it) :
    Turn P w K (.Tuple elts x1 pos) (Itel K p xs) [e,it] e (EL e it p) where
  mem:=by simp
  obj:=fun k h st c hc=>by
    obtain ⟨⟨old,he⟩,⟨oi,hi,ci,di⟩⟩:=st
    simp only [List.mem_cons,List.not_mem_nil,or_false] at hc
    rcases hc with rfl | rfl
    · exact ⟨_,he,fun v z=>by cases z⟩
    · exact ⟨_,hi,fun v z=>by rw [di] at z;cases z⟩
  keep:=fun k h h' st kk=>by
    obtain ⟨⟨old,he⟩,⟨oi,hi,ci⟩⟩:=st
    exact ⟨⟨old,kk e (by simp) _ he⟩,⟨oi,kk it (by simp) _ hi,ci⟩⟩
  item:=by
    intro X hP hw hK hc k pins s σ H E I hf st hg
    subst hP hw hK
    obtain ⟨hlt,h1⟩:=hg
    obtain ⟨us,r1,p1,_⟩:=I.list h1
    obtain ⟨u,hu,ru⟩:=r1.get (i:=k) (x:=xs[k]) (List.getElem?_eq_getElem hlt)
    have old:∀ c∈[e,it],c≠s.heap.objs.size:=fun c hc=>by
      obtain ⟨⟨old,he⟩,⟨oi,hi,ci⟩⟩:=st
      simp only [List.mem_cons,List.not_mem_nil,or_false] at hc
      rcases hc with rfl | rfl
      · exact Nat.ne_of_lt (Heap.lt_size he)
      · exact Nat.ne_of_lt (Heap.lt_size hi)
    obtain ⟨⟨o0,he⟩,hi⟩:=st
    refine wpAny_pyNext_enum_item he hi p1.isList (x:=u) (by simpa using hu) hei fun h e8 i5 t5 sz k5=>?_
    have I6:Inv X pins σ (upd H s.heap.objs.size (.tup [.int k,xs[k]])) { s with heap:=s.heap.push { cls:=.type "tuple",data:=.seq #[.int k s.toks,u] },toks:=s.toks + 1 } :=
      I.laid (a:=s.heap.objs.size) (o:=.tup [.int k,xs[k]]) (t':=s.toks + 1) (fun b u e=>Heap.get?_push_of_some _ e) (Nat.le_refl _) ⟨by show 2≤sizeLine;decide,[.int k s.toks,u],.cons ⟨_,rfl⟩ (.cons ru .nil),⟨_,Heap.get?_push_size _ rfl,rfl,_,rfl⟩⟩
    have free:∀ c∈[e,it],upd H s.heap.objs.size (HO.tup [.int k,xs[k]]) c=none:=fun c hc=>by rw [upd_ne (old c hc)];exact (hf c hc).1
    have fz:∀ c∈[e,it],FpOk X pins (upd H s.heap.objs.size (HO.tup [.int k,xs[k]])) c:=fun c hc=>⟨free c hc,(hf c hc).2⟩
    refine ⟨.ref s.heap.objs.size,rfl,wpAny_letOwnedTupleGo_enum e8 fun h2 z9 sb2=>?_⟩
    have up:∀ c o,c≠e→h.get? c=some o→h2.get? c=some o:=fun c o hc e=>by
      rw [show h2.get? c=h.get? c from sb2.2 c hc];exact e
    have I7:Inv X pins σ (upd H s.heap.objs.size (.tup [.int k,xs[k]])) { s with heap:=h2,toks:=s.toks + 1 }:=I6.turnedL (s:={ s with heap:=s.heap.push { cls:=.type "tuple",data:=.seq #[.int k s.toks,u] },toks:=s.toks + 1 }) (t':=s.toks + 1) (ch:=[e,it]) (fun c o hc e=>by
      simp only [List.mem_cons,List.not_mem_nil,or_false,not_or] at hc
      refine up c o hc.1 ?_
      rcases Heap.get?_push_cases (show (s.heap.push { cls:=.type "tuple",data:=.seq #[.int k s.toks,u] }).get? c=some o from e) with ⟨rfl,rfl⟩ | e
      · exact t5
      · exact k5 c o hc.1 hc.2 e) fun c hc=>fz c hc
    refine ⟨.ref s.heap.objs.size,_,I7,rfl,⟨_,_,rfl,I.hok.fresh (Nat.le_refl _),rfl,List.getElem?_eq_getElem hlt⟩,?_,free⟩
    obtain ⟨oi,hi,ci⟩:=i5
    exact ⟨⟨_,z9⟩,⟨oi,up it _ (Ne.symm hei) hi,ci⟩⟩
  done:=by
    intro X hP hw hK hc k pins s σ H E I hf st hg
    subst hP hw hK
    obtain ⟨hlt,h1⟩:=hg
    obtain ⟨us,r1,p1,_⟩:=I.list h1
    have hl1:=r1.length
    obtain ⟨⟨o0,he⟩,hi⟩:=st
    refine wpAny_pyNext_enum_end (I.ok.hd hc) he hi p1.isList (by simp;lia) fun h hk=>⟨rfl,I.turnedL (t':=s.toks) (ch:=[e,it]) (fun c o hc e=>?_) fun c hc=>hf c hc⟩
    simp only [List.mem_cons,List.not_mem_nil,or_false,not_or] at hc
    exact hk c o hc.2 e
  self:=fun _ _ _ _ _ st h=>by
    obtain ⟨⟨o0,he⟩,hi⟩:=st
    exact wpAny_pyIter_enum he h
def iEnm (K:PySem.W.Frag) (ta:TA):TI:=fun σ H R=>ta σ H fun vs H1=>∃ p xs,vs=[.ref p]∧SqL K H1 p xs∧R (Itel K p xs) H1
section
variable {X:Cx}
theorem pi_enum {elts:List Expr} {x1} {tp:Pos} {e1:Expr} {ta:TA} {p pos:Pos} (hg:Gl X "enumerate") (hm:X.mg "enumerate"=none) (ha:PA X [e1] ta) (he:starEach [e1] X.env=(false,eval e1 X.env) :: starEach [] X.env:=by rfl) (hpl:(backTo pos (starEach [] X.env)).any (·.1)=false:=by rfl) :
    PI X (.Tuple elts x1 tp) (.Call (.Name "enumerate" p) [e1] [] pos) (iEnm X.K ta):=by
  intro pins s σ H R I h
  refine Call_ (ld_blt I hg hm bt_enumerate (PyProof.Rows.callWith_type1 (thn (ha pos pins s σ H _ I h) fun us s1 ⟨vs,H1,I1,r1,q1⟩=>?_) he hpl))
  obtain ⟨a,xs,e,h1,q⟩:=q1
  subst e
  obtain ⟨u1,rfl,ra⟩:=vals1 r1
  cases ra
  obtain ⟨us1,r1,p1,_⟩:=I1.list h1
  refine call_enumerate_list p1.isList fun h' e0 i0 _ k=>?_
  refine wpAny_pyIter_enum (s:={ s1 with heap:=h' }) e0 ?_
  generalize hn:s1.heap.objs.size=n at *
  have ne:∀ {x y:Nat},x≠y→(show Addr from x)≠(show Addr from y):=fun h=>h
  refine ⟨_,_,_,_,H1,rfl,I1.kept (t':=s1.toks) k,turn_enumL (e:=n + 1) (it:=n) (ne (by lia)),⟨⟨_,e0⟩,i0⟩,fun c hc=>?_,q⟩
  simp only [List.mem_cons,List.not_mem_nil,or_false] at hc
  have hc:n≤c:=by rcases hc with rfl | rfl <;> first | exact Nat.le_add_right _ _ | exact Nat.le_refl _
  exact I1.fpOk (by rw [hn];exact hc) (I1.hok.fresh (by rw [hn];exact hc))
end
section
variable {σ:St} {H:Hp} {nx:St→Hp→Prop} {B:V→St→Hp→(St→Hp→Prop)→Prop}
theorem loop_enumL {K:PySem.W.Frag} {p:Addr} (xs:List V) (Pv:Nat→St→Hp→Prop) (h0:Pv 0 σ H) (hl:∀ i σ H,Pv i σ H→SqL K H p xs)
    (hs:∀ i u T σ H,xs[i]?=some u→H T=none→Pv i σ H→B (.ref T) σ (upd H T (.tup [.int i,u])) (Pv (i + 1))) (hd:∀ σ H,Pv xs.length σ H→nx σ H) :
    ∃ W:Nat→Nat→St→Hp→Prop,(∃ m,W 0 m σ H)∧∀ i m σ H,W i m σ H→((Itel K p xs).stop i H∧nx σ H)∨((Itel K p xs).go i H∧∃ N:St→Hp→Prop,(∀ σ' H',N σ' H'→∃ m',m' < m∧W (i + 1) m' σ' H')∧∀ x H',(Itel K p xs).yld i H x H'→B x σ H' N):=by
  refine ⟨fun i m σ H=>m=xs.length - i∧i≤xs.length∧Pv i σ H,⟨xs.length,by simp,Nat.zero_le _,h0⟩,?_⟩
  rintro i m σ H ⟨rfl,hi,pv⟩
  by_cases hlt:i < xs.length
  · refine .inr ⟨⟨hlt,hl i σ H pv⟩,Pv (i + 1),fun σ' H' p'=>⟨xs.length - (i + 1),by lia,rfl,hlt,p'⟩,?_⟩
    rintro x H' ⟨T,u,rfl,hT,rfl,hu⟩
    exact hs i u T σ H hu hT pv
  · obtain rfl:i=xs.length:=by lia
    exact .inl ⟨⟨Nat.le_refl _,hl _ σ H pv⟩,hd σ H pv⟩
end
end L2
namespace L2
open PySem PySem.Spec PyProof.Rows
theorem cut_eq {c:Nat}:∀ {a b r s:List Nat},c ∉ a→c ∉ b→a ++ c :: r=b ++ c :: s→a=b∧r=s
  | [],[],r,s,_,_,h=>by simpa using h
  | [],y :: b,r,s,_,hb,h=>by
    simp only [List.nil_append,List.cons_append,List.cons.injEq] at h
    exact absurd h.1 (fun z=>hb (by rw [z];exact List.mem_cons_self))
  | x :: a,[],r,s,ha,_,h=>by
    simp only [List.nil_append,List.cons_append,List.cons.injEq] at h
    exact absurd h.1.symm (fun z=>ha (by rw [z];exact List.mem_cons_self))
  | x :: a,y :: b,r,s,ha,hb,h=>by
    simp only [List.cons_append,List.cons.injEq] at h
    obtain ⟨e1,e2⟩:=cut_eq (fun z=>ha (List.mem_cons_of_mem _ z)) (fun z=>hb (List.mem_cons_of_mem _ z)) h.2
    exact ⟨by rw [h.1,e1],e2⟩
theorem join_cons {sep x y:Str} {r:List Str}:Str.join sep (x :: y :: r)=x ++ sep ++ Str.join sep (y :: r):=rfl
theorem join_cpsC {c:Nat} {x y:Str} {r:List Str}:(Str.join ⟨#[c]⟩ (x :: y :: r)).cps.toList=x.cps.toList ++ c :: (Str.join ⟨#[c]⟩ (y :: r)).cps.toList:=by
  rw [join_cons,cps_app,cps_app,List.append_assoc];rfl
theorem join_inj {c:Nat}:∀ {a b:List Str},a≠[]→b≠[]→(∀ p∈a,c ∉ p.cps.toList)→(∀ p∈b,c ∉ p.cps.toList)→Str.join ⟨#[c]⟩ a=Str.join ⟨#[c]⟩ b→a=b
  | [],_,h,_,_,_,_=>absurd rfl h
  | _,[],_,h,_,_,_=>absurd rfl h
  | [x],[y],_,_,_,_,e=>by
    have e:x=y:=e
    rw [e]
  | [x],y :: z :: s,_,_,ha,_,e=>by
    have e1:(Str.join ⟨#[c]⟩ _).cps.toList=(Str.join ⟨#[c]⟩ _).cps.toList:=congrArg (fun w:Str=>w.cps.toList) e
    rw [join_cpsC] at e1
    have e2:x.cps.toList=y.cps.toList ++ c :: (Str.join ⟨#[c]⟩ (z :: s)).cps.toList:=e1
    exact absurd (by rw [e2];simp) (ha x List.mem_cons_self)
  | x :: z :: r,[y],_,_,_,hb,e=>by
    have e1:(Str.join ⟨#[c]⟩ _).cps.toList=(Str.join ⟨#[c]⟩ _).cps.toList:=congrArg (fun w:Str=>w.cps.toList) e
    rw [join_cpsC] at e1
    have e2:x.cps.toList ++ c :: (Str.join ⟨#[c]⟩ (z :: r)).cps.toList=y.cps.toList:=e1
    exact absurd (by rw [← e2];simp) (hb y List.mem_cons_self)
  | x :: z :: r,y :: w :: s,_,_,ha,hb,e=>by
    have e1:(Str.join ⟨#[c]⟩ _).cps.toList=(Str.join ⟨#[c]⟩ _).cps.toList:=congrArg (fun w:Str=>w.cps.toList) e
    rw [join_cpsC,join_cpsC] at e1
    obtain ⟨e2,e3⟩:=cut_eq (ha x List.mem_cons_self) (hb y List.mem_cons_self) e1
    rw [str_ext e2,join_inj (a:=z :: r) (b:=w :: s) (by simp) (by simp) (fun p hp=>ha p (List.mem_cons_of_mem _ hp)) (fun p hp=>hb p (List.mem_cons_of_mem _ hp)) (str_ext e3)]
theorem split_ne (x y:Str):Txt.split x y≠[]:=by
  unfold Txt.split
  split
  · simp
  · split
    · simp
    · rw [StrLaws.partsBetween_eq]
      obtain ⟨p,r,e⟩:=StrLaws.partsFrom_ne x y.length 0 (Builtin.Str.occurrences x y 0 x.length (x.length + 1))
      rw [e];simp
theorem split_join {c:Nat} {ws:List Str} (h:ws≠[]) (hf:∀ p∈ws,c ∉ p.cps.toList):Txt.split (Str.join ⟨#[c]⟩ ws) ⟨#[c]⟩=ws :=
  join_inj (split_ne _ _) h (StrLaws.split_free _ c) hf (StrLaws.join_split _ _)
theorem joinS_eq (sep:Str) (ls:List Str):joinS sep ls=Str.join sep ls:=by
  match ls with
  | []=>exact StrLaws.glued_eq_join sep []
  | [p]=>rfl
  | a :: b :: r=>exact StrLaws.glued_eq_join sep (a :: b :: r)
end L2
namespace L2
open PySem PySem.Spec PyProof.Rows
abbrev cIsiT (K:PySem.W.Frag):RC:=fun xs H Q=>∃ (x:V) (p:Addr) (t:Value) (Ts:List String) (b:Bool),xs=[x,.ref p]∧TyOf K H x t∧H p=some (.tup (Ts.map V.ty))∧PySem.W.kitAny K t (Ts.map Value.type)=some b∧Q (.bl b) H
theorem vals_tys:∀ {Ts:List String} {us:List Value},Vals (Ts.map V.ty) us→us=Ts.map Value.type
  | [],_,h=>by cases h;rfl
  | T :: r,_,h=>by
    cases h with
    | cons a t =>
      have a:_=Value.type T:=a
      rw [a,vals_tys t];rfl
section
variable {X:Cx}
theorem call_isiT:CallR X (.builtin "isinstance") (cIsiT X.K):=by
  intro pins s σ H xs us Q I r h
  obtain ⟨x,p,t,Ts,b,rfl,ty,hp,e,q⟩:=h
  obtain ⟨u,w',rfl,rx,r2⟩:=vals2 r
  cases r2
  obtain ⟨_,its,rv,o,o1,o2,n,o3⟩:=(show ObjOk X.prog X.w H s.heap p (.tup (Ts.map V.ty)) from I.hok p _ hp)
  obtain rfl:=vals_tys rv
  obtain ⟨oc,od,oda,osl⟩:=o
  obtain rfl:oc=.type "tuple":=o2
  obtain rfl:oda=.seq (Ts.map Value.type).toArray n:=o3
  have fin:∀ tk,EP X pins σ Q (.bool b) { s with toks:=tk }:=fun tk=>⟨.bl b,H,I.tok tk,rfl,q⟩
  cases ty with
  | non=>cases (show u=Value.none from rx);exact PySem.W.kia_tup PySem.W.kitx_none I.kIn True.intro o1 e (fun z=>nomatch z) fin
  | bl y=>cases (show u=Value.bool y from rx);exact PySem.W.kia_tup PySem.W.kitx_bool I.kIn True.intro o1 e (fun z=>nomatch z) fin
  | int i=>obtain ⟨t,q⟩:=(show ∃ t,u=Value.int i t from rx);cases q;exact PySem.W.kia_tup PySem.W.kitx_int I.kIn True.intro o1 e (fun z=>nomatch z) fin
  | str y=>obtain ⟨t,q⟩:=(show ∃ t,u=Value.str y t from rx);cases q;exact PySem.W.kia_tup PySem.W.kitx_str I.kIn True.intro o1 e (fun z=>nomatch z) fin
  | flt y=>obtain ⟨t,q⟩:=(show ∃ t,u=Value.float y t from rx);cases q;exact PySem.W.kia_tup PySem.W.kitx_float I.kIn True.intro o1 e (fun z=>nomatch z) fin
  | @lst a xs ea =>
    cases (show u=Value.ref a from rx)
    obtain ⟨_,_,n,_,h1⟩:=(show ObjOk X.prog X.w H s.heap a (.lst xs) from I.hok a _ ea)
    exact PySem.W.kia_tup PySem.W.kitx_list I.kIn ⟨_,h1,rfl⟩ o1 e (fun z=>nomatch z) fin
  | @frz a ob xs ea =>
    cases (show u=Value.ref a from rx)
    obtain ⟨h1,h2⟩:=(show ObjOk X.prog X.w H s.heap a (.frz ob (.lst xs)) from I.hok a _ ea)
    obtain ⟨_,_,n,_,h1⟩:=h2
    exact PySem.W.kia_tup PySem.W.kitx_list I.kIn ⟨_,h1,rfl⟩ o1 e (fun z=>nomatch z) fin
  | @tup a xs ea =>
    cases (show u=Value.ref a from rx)
    obtain ⟨_,its,_,o,h1,h2,_⟩:=(show ObjOk X.prog X.w H s.heap a (.tup xs) from I.hok a _ ea)
    exact PySem.W.kia_tup PySem.W.kitx_tuple I.kIn ⟨_,h1,h2⟩ o1 e (fun z=>nomatch z) fin
  | @dK a kvs ea =>
    cases (show u=Value.ref a from rx)
    obtain ⟨_,_,vs,_,p⟩:=(show ObjOk X.prog X.w H s.heap a (.dK kvs) from I.hok a _ ea)
    obtain ⟨o,es,ep,h1,h2,_⟩:=p
    exact PySem.W.kia_tup PySem.W.kitx_dict I.kIn ⟨o,h1,h2.1⟩ o1 e (fun z=>nomatch z) fin
  | @dT a kvs ea =>
    cases (show u=Value.ref a from rx)
    obtain ⟨_,_,xs,_,o,es,ep,h1,h2,_⟩:=(show ObjOk X.prog X.w H s.heap a (.dT kvs) from I.hok a _ ea)
    exact PySem.W.kia_tup PySem.W.kitx_dict I.kIn ⟨o,h1,h2.1⟩ o1 e (fun z=>nomatch z) fin
  | @ins a C dx fs ea cl ha hn htk hm =>
    cases (show u=Value.ref a from rx)
    obtain ⟨mA,O,_⟩:=ins_get I.hok ea
    obtain ⟨od,J,_⟩:=O.look
    exact PySem.W.kia_tup (PySem.W.kitx_own (cl.get _) cl.hd ha hn htk hm) I.kIn J o1 e (fun z=>nomatch z) fin
end
section
variable {prog:Program} {w:World} {A:Around} {E:Value→Shared→Prop} {s:Shared}
theorem setItem_neg {l:Addr} {items:Array Value} {n:Nat} {k:Int} {t:Tok} {v:Value} {Q:Unit→Shared→Prop} (hl:s.heap.get? l=some { cls:=.type "list",data:=.seq items n })
    (h0:k < 0) (h1:-(items.size:Int)≤k) (hfit:-(2 ^ 63)≤k) (hQ:Q () { s with heap:=s.heap.update l (Obj.mapSeq (·.setIfInBounds (k + items.size).toNat v)) }) :
    wpAny (model prog w) A (setItem (.ref l) (.int k t) v) Q E s:=by
  have hL:s.heap.IsList l items:=⟨_,hl,rfl,n,rfl⟩
  unfold setItem
  try with_reducible refine wpAny_holding ?_
  first | refine wpAny_bind (wpAny_pure ?_) | skip
  refine wpAny_bind (wpAny_sequenceKey hL.typeIs (by decide) ?_)
  refine wpAny_bind (wpAny_callSpecial?_slot (name:=Str.ofString "__setitem__") hL.typeIs slot_list_setitem
    (wpAny_call_entry slot_list_setitem hL.typeIs entry_list_setitem ?_ (args_list_setitem _ _ _)))
  show wpAny _ _ (Builtin.List.listSubscript? (.int k t) >>= _) _ _ s
  refine wpAny_bind (wpAny_listSubscript_int (fitsIndex_neg h0 hfit) ?_)
  clear hfit
  have hidx:=seqIndex_neg h0 h1
  have hx:items[(k + items.size).toNat]?=some (items[(k + items.size).toNat]'(by lia)):=Array.getElem?_eq_getElem (by lia)
  obtain ⟨j,rfl⟩:∃ j:Nat,k=Int.negSucc j:=by
    cases k with
    | ofNat n=>exact absurd h0 (Int.not_lt.mpr (Int.ofNat_nonneg n))
    | negSucc n=>exact ⟨n,rfl⟩
  show wpAny _ _ ((Builtin.List.listItems (.ref l) >>= fun xs=>pure ((seqIndex? (Int.negSucc j) xs.size).bind fun i=>xs[i]?.map (i,·))) >>= _) _ _ s
  refine wpAny_bind (wpAny_bind ?_)
  show wpAny _ _ (seqItems? (.ref l) >>= _) _ _ s
  refine wpAny_bind (wpAny_seqItems hl rfl (wpAny_pure (wpAny_pure ?_)))
  rw [hidx]
  simp only [Option.bind_some,hx,Option.map_some]
  refine wpAny_bind (wpAny_setSeqItemAt hl rfl ?_)
  first
    | exact wpAny_bind (wpAny_pure (wpAny_pure ⟨.none,rfl,wpAny_pure hQ⟩))
    | exact wpAny_pure ⟨.none,rfl,wpAny_pure hQ⟩
theorem setItem_pos {l:Addr} {items:Array Value} {n j:Nat} {k:Int} {t:Tok} {v:Value} {Q:Unit→Shared→Prop} (hl:s.heap.get? l=some { cls:=.type "list",data:=.seq items n })
    (h0:0≤k) (hfit:k < 2 ^ 63) (hkj:k.toNat=j) (hn:j < items.size) (hQ:Q () { s with heap:=s.heap.update l (Obj.mapSeq (·.setIfInBounds j v)) }) :
    wpAny (model prog w) A (setItem (.ref l) (.int k t) v) Q E s:=by
  have hL:s.heap.IsList l items:=⟨_,hl,rfl,n,rfl⟩
  unfold setItem
  try with_reducible refine wpAny_holding ?_
  first | refine wpAny_bind (wpAny_pure ?_) | skip
  refine wpAny_bind (wpAny_sequenceKey hL.typeIs (by decide) ?_)
  refine wpAny_bind (wpAny_callSpecial?_slot (name:=Str.ofString "__setitem__") hL.typeIs slot_list_setitem
    (wpAny_call_entry slot_list_setitem hL.typeIs entry_list_setitem ?_ (args_list_setitem _ _ _)))
  show wpAny _ _ (Builtin.List.listSubscript? (.int k t) >>= _) _ _ s
  refine wpAny_bind (wpAny_listSubscript_int (fitsIndex_of h0 hfit) ?_)
  clear hfit
  obtain ⟨j',rfl⟩:=Int.eq_ofNat_of_zero_le h0
  have hkj:j'=j:=hkj
  subst hkj
  have hx':items[j']?=some items[j']:=Array.getElem?_eq_getElem hn
  show wpAny _ _ ((seqItemAt l j' >>= fun r=>pure (r.map (j',·))) >>= _) _ _ s
  refine wpAny_bind (wpAny_bind (wpAny_seqItemAt hl rfl (wpAny_pure ?_)))
  rw [hx']
  refine wpAny_bind (wpAny_setSeqItemAt hl rfl ?_)
  first
    | exact wpAny_bind (wpAny_pure (wpAny_pure ⟨.none,rfl,wpAny_pure hQ⟩))
    | exact wpAny_pure ⟨.none,rfl,wpAny_pure hQ⟩
end
def sLPut (td ty tv:TE):TS:=fun D σ H=>tv σ H fun v H1=>td σ H1 fun x H2=>ty σ H2 fun y H3=>∃ a xs i j,x=.ref a∧y=.int i∧H3 a=some (.lst xs)∧ixN xs.length i=some j∧(-1000≤i∧i≤1000)∧D.nx σ (upd H3 a (.lst (xs.set j v)))
theorem vals_set {v:V} {u:Value} (r:RelV v u):∀ {xs:List V} {us:List Value},Vals xs us→∀ j:Nat,Vals (xs.set j v) (us.set j u)
  | _,_,.nil,_=>.nil
  | _,_,.cons _ t,0=>.cons r t
  | _,_,.cons a t,j + 1=>.cons a (vals_set r t j)
section
variable {X:Cx} {o i value:Expr} {pos pos':Pos} {td ty tv:TE}
theorem ps_lput (ho:PE X o td) (hi:PE X i ty) (hv:PE X value tv) (hs:swapsWith value (some (.Subscript o i pos')) pos.line X.env=pure false) :
    PS X (.Assign [.Subscript o i pos'] value pos) (sLPut td ty tv):=by
  intro pins s σ H D I h
  refine wpAny_Assign_Subscript (thn (hv pins s σ H _ I h) fun r s1 ⟨v,H1,I1,rv,q1⟩=>thn (ho pins s1 σ H1 _ I1 q1) fun u s2 ⟨x,H2,I2,rx,q2⟩=>thn (hi pins s2 σ H2 _ I2 q2) fun iv s3 ⟨y,H3,I3,ry,a,xs,k,j,ex,ey,ea,hj,hk,q3⟩=>?_) hs
  subst ex ey
  obtain rfl:u=Value.ref a:=rx
  obtain ⟨t,rfl⟩:=ry
  obtain ⟨z,its,n,rl,hl,e⟩:=I3.lstM ea
  have fin:SP X pins D .next { s3 with heap:=s3.heap.update a (Obj.mapSeq (·.setIfInBounds j r)) }:=⟨σ,_,I3.lset (its':=its.set j r) (t':=s3.toks) ea e (by simp) (vals_set rv rl _) (by rw [List.length_set];exact z),q3⟩
  unfold ixN at hj
  by_cases h0:0≤k
  · rw [if_pos h0] at hj
    split at hj
    · rename_i h1
      cases hj
      exact setItem_pos e h0 (by lia) rfl (by rw [List.size_toArray,← hl];lia) fin
    · cases hj
  · rw [if_neg h0] at hj
    split at hj
    · rename_i h1
      cases hj
      refine setItem_neg e (by lia) (by rw [List.size_toArray,← hl];exact h1) (by lia) ?_
      rw [List.size_toArray,← hl]
      exact fin
    · cases hj
end
section
variable {X:Cx} {st:Stmt} {hs:List ExceptHandler} {pos:Pos} {tb:TS}
theorem ps_tryP {h:ExceptHandler} (hb:PS X.nox st tb):PS X.nox (.Try [st] (h :: hs) [] [] pos) tb:=by
  intro pins s σ H D I h
  refine wpAny_Try_except (wpAny_execs_cons (wpAny_mono (hb pins s σ H D I h) (fun f s1 q=>?_) fun ev s1 q=>q.elim))
  cases f with
  | next=>exact wpAny_execs_nil (wpAny_execs_nil q)
  | ret v=>exact q
  | brk=>exact q
  | cont=>exact q
end
end L2
namespace L2
open PySem PySem.Spec PyProof.Rows
def iZipB (K:PySem.W.Frag) (ta:TA):TI:=fun σ H R=>ta σ H fun vs H1=>∃ p q xs ys,vs=[.ref p,.ref q]∧xs.length=ys.length∧((SqL K H1 p xs∧SqL K H1 q ys∧R (Itzl K p q xs ys) H1)∨(SqT K H1 p xs∧SqT K H1 q ys∧R (Itz K p q xs ys) H1))
section
variable {X:Cx}
theorem pi_zipB {elts:List Expr} {x1} {tp:Pos} {e1 e2:Expr} {ta:TA} {p pos:Pos} (hg:Gl X "zip") (hm:X.mg "zip"=none) (ha:PA X [e1,e2] ta) (he:starEach [e1,e2] X.env=(false,eval e1 X.env) :: starEach [e2] X.env:=by rfl) (hpl:(backTo pos (starEach [e2] X.env)).any (·.1)=false:=by rfl) :
    PI X (.Tuple elts x1 tp) (.Call (.Name "zip" p) [e1,e2] [] pos) (iZipB X.K ta):=by
  intro pins s σ H R I h
  refine Call_ (ld_blt I hg hm bt_zip (PyProof.Rows.callWith_type1 (thn (ha pos pins s σ H _ I h) fun us s1 ⟨vs,H1,I1,r1,q1⟩=>?_) he hpl))
  obtain ⟨a,b,xs,ys,e,hl,q0⟩:=q1
  subst e
  obtain ⟨u1,u2,rfl,ra,rb⟩:=vals2 r1
  cases ra
  cases rb
  have ne:∀ {x y:Nat},x≠y→(show Addr from x)≠(show Addr from y):=fun h=>h
  rcases q0 with ⟨h1,h2,q⟩ | ⟨h1,h2,q⟩
  · obtain ⟨us1,r1,p1,_⟩:=I1.list h1
    obtain ⟨us2,r2,p2,_⟩:=I1.list h2
    have l1:a < s1.heap.objs.size:=by obtain ⟨_,_,e,_⟩:=p1;exact Heap.lt_size e
    have l2:b < s1.heap.objs.size:=by obtain ⟨_,_,e,_⟩:=p2;exact Heap.lt_size e
    refine call_zip_2 p1.isList p2.isList fun h' z0 a0 b0 i0 j0 _ k=>?_
    refine wpAny_pyIter_zip (s:={ s1 with heap:=h' }) z0 ?_
    generalize hn:s1.heap.objs.size=n at *
    have la:∀ k:Nat,(show Nat from a)≠n + k:=fun k=>Nat.ne_of_lt (Nat.lt_of_lt_of_le l1 (Nat.le_add_right _ _))
    have lb:∀ k:Nat,(show Nat from b)≠n + k:=fun k=>Nat.ne_of_lt (Nat.lt_of_lt_of_le l2 (Nat.le_add_right _ _))
    have D:ZipApart (n + 4) (n + 2) (n + 3) n (n + 1) a b:=⟨ne (by lia),ne (by lia),ne (by lia),ne (by lia),ne (by lia),ne (by lia),ne (by lia),ne (by lia),ne (by lia),ne (by lia),la 4,la 3,la 0,la 1,lb 4,lb 3,lb 0,lb 1⟩
    refine ⟨_,_,_,_,H1,rfl,I1.kept (t':=s1.toks) k,turn_zipL D hl,⟨z0,a0,⟨_,_,b0⟩,i0,j0⟩,fun c hc=>?_,q⟩
    simp only [List.mem_cons,List.not_mem_nil,or_false] at hc
    have hc:n≤c:=by rcases hc with rfl | rfl | rfl | rfl | rfl <;> first | exact Nat.le_add_right _ _ | exact Nat.le_refl _
    exact I1.fpOk (by rw [hn];exact hc) (I1.hok.fresh (by rw [hn];exact hc))
  · obtain ⟨us1,r1,p1,_⟩:=I1.tuple h1
    obtain ⟨us2,r2,p2,_⟩:=I1.tuple h2
    have l1:a < s1.heap.objs.size:=by obtain ⟨_,e,_⟩:=p1;exact Heap.lt_size e
    have l2:b < s1.heap.objs.size:=by obtain ⟨_,e,_⟩:=p2;exact Heap.lt_size e
    refine call_zipT (show s1.heap.IsTuple a us1.toArray from p1) (show s1.heap.IsTuple b us2.toArray from p2) fun h' st k=>?_
    refine wpAny_pyIter_zip (s:={ s1 with heap:=h' }) st.1 ?_
    generalize hn:s1.heap.objs.size=n at *
    have la:∀ k:Nat,(show Nat from a)≠n + k:=fun k=>Nat.ne_of_lt (Nat.lt_of_lt_of_le l1 (Nat.le_add_right _ _))
    have lb:∀ k:Nat,(show Nat from b)≠n + k:=fun k=>Nat.ne_of_lt (Nat.lt_of_lt_of_le l2 (Nat.le_add_right _ _))
    have D:ZApart (n + 4) (n + 2) (n + 3) n (n + 1) a b:=⟨ne (by lia),ne (by lia),ne (by lia),ne (by lia),ne (by lia),ne (by lia),ne (by lia),ne (by lia),ne (by lia),ne (by lia),la 4,la 3,la 0,la 1,lb 4,lb 3,lb 0,lb 1⟩
    refine ⟨_,_,_,_,H1,rfl,I1.kept (t':=s1.toks) k,turn_zip D hl,st,fun c hc=>?_,q⟩
    simp only [List.mem_cons,List.not_mem_nil,or_false] at hc
    have hc:n≤c:=by rcases hc with rfl | rfl | rfl | rfl | rfl <;> first | exact Nat.le_add_right _ _ | exact Nat.le_refl _
    exact I1.fpOk (by rw [hn];exact hc) (I1.hok.fresh (by rw [hn];exact hc))
abbrev rNeNil (K:PySem.W.Frag):R2:=fun x y H Q=>∃ a b xs,x=.ref a∧y=.ref b∧SqL K H a xs∧SqL K H b []∧Q (.bl (!decide (xs=[]))) H
theorem op_neNil (hu:X.A.units + 64 < cLine):OpR X (compareOp .NotEq) (rNeNil X.K):=by
  intro pins s σ H x y v u Q I rx ry h
  obtain ⟨a,b,xs,rfl,rfl,ha,hb,q⟩:=h
  by_cases e:xs=[]
  · subst e
    exact op_neL hu pins s σ H _ _ v u Q I rx ry ⟨a,b,[],[],rfl,rfl,ha,hb,⟨rfl,rfl,rfl⟩,q⟩
  · cases rx
    cases ry
    obtain ⟨us,r1,p1,_⟩:=I.list ha
    obtain ⟨ws,r2,p2,_⟩:=I.list hb
    cases r2
    have e1:=r1.length
    have e2:xs.length≠0:=fun z=>e (List.eq_nil_of_length_eq_zero z)
    rw [decide_eq_false e] at q
    exact PySem.SeqAt.RcNeAt.lists_lengths p1.isList p2.isList (by simp;intro z;rw [z] at e1;exact e2 e1) (by lia) X.prog X.w X.xe _ ⟨.bl true,H,I,rfl,q⟩
end
mutual
inductive DatS (H:Hp):V→PyData→Prop
  | int (i:Int):DatS H (.int i) (.int i)
  | str (x:Str):DatS H (.str x) (.str x)
  | lst {a:Addr} {xs:List V} {ds:List PyData}:H a=some (.lst xs)→DatSs H xs ds→DatS H (.ref a) (.list ds)
  | tup {a:Addr} {xs:List V} {ds:List PyData}:H a=some (.tup xs)→DatSs H xs ds→DatS H (.ref a) (.tuple ds)
inductive DatSs (H:Hp):List V→List PyData→Prop
  | nil:DatSs H [] []
  | cons {x:V} {d:PyData} {xs:List V} {ds:List PyData}:DatS H x d→DatSs H xs ds→DatSs H (x :: xs) (d :: ds)
end
mutual
theorem DatS.mono {H H':Hp} (k:Same H H'):∀ {x:V} {d:PyData},DatS H x d→DatS H' x d
  | _,_,.int i=>.int i
  | _,_,.str x=>.str x
  | _,_,.lst hq ha=>.lst (k _ _ hq) (DatSs.mono k ha)
  | _,_,.tup hq ha=>.tup (k _ _ hq) (DatSs.mono k ha)
theorem DatSs.mono {H H':Hp} (k:Same H H'):∀ {xs:List V} {ds:List PyData},DatSs H xs ds→DatSs H' xs ds
  | _,_,.nil=>.nil
  | _,_,.cons hx ht=>.cons (DatS.mono k hx) (DatSs.mono k ht)
end
theorem DatSs.length {H:Hp}:∀ {xs:List V} {ds:List PyData},DatSs H xs ds→xs.length=ds.length
  | _,_,.nil=>rfl
  | _,_,.cons _ ht=>congrArg (· + 1) ht.length
theorem DatSs.get {H:Hp}:∀ {xs:List V} {ds:List PyData} {i:Nat} {x:V},DatSs H xs ds→xs[i]?=some x→∃ d,ds[i]?=some d∧DatS H x d
  | _,_,i,_,.nil,h=>by simp at h
  | _,_,0,_,.cons hx _,h=>by
    simp only [List.getElem?_cons_zero,Option.some.injEq] at h
    subst h
    exact ⟨_,rfl,hx⟩
  | _,_,i + 1,_,.cons _ ht,h=>by
    obtain ⟨d,e,r⟩:=ht.get (i:=i) (by simpa using h)
    exact ⟨d,by simpa using e,r⟩
theorem depth_mem:∀ {ds:List PyData} {d:PyData},d∈ds→d.depth≤PyData.depthAll ds
  | [],_,h=>nomatch h
  | x :: r,d,h=>by
    rw [PyData.depthAll]
    rcases List.mem_cons.mp h with rfl | h
    · lia
    · have:=depth_mem h;lia
end L2
namespace L2
open PySem
end L2
namespace L2
open PySem
abbrev r_mt_extend:RM:=rExtend
end L2
namespace L2
open PySem PySem.Spec PyProof.Rows
abbrev r_mt_clear:RM:=rClear
abbrev cSumL (K:PySem.W.Frag):RC:=fun xs H Q=>∃ a,∃ ns:List Int,xs=[.ref a]∧SqL K H a (ns.map V.int)∧Q (.int ns.sum) H
abbrev cMaxL (K:PySem.W.Frag):RC:=fun xs H Q=>∃ a,∃ ns:List Int,xs=[.ref a]∧SqL K H a (ns.map V.int)∧0 < ns.length∧∀ M,M∈ns→(∀ x∈ns,x≤M)→Q (.int M) H
section
variable {X:Cx}
theorem call_sumL (hc:X.calm=true):CallR X (.builtin "sum") (cSumL X.K):=by
  intro pins s σ H xs us Q I r h
  obtain ⟨a,ns,rfl,hq,q⟩:=h
  obtain ⟨u,rfl,r1⟩:=vals1 r
  cases r1
  obtain ⟨its,rv,p,hz⟩:=I.list hq
  have hi:IntsAre its ns:=intsAre_of rv
  obtain ⟨ys,hx⟩:=hi.allInts.items
  have hl':s.heap.IsList a (intItems ys):=hx ▸ p.isList
  refine sum_intListG (I.ok.hd hc) hl' fun h' tk t' hk=>?_
  have e1:ns=ys.toList.map (·.1):=by
    rw [← nums_intItems,← hx]
    exact (show numsOf its.toArray.toList=ns from hi.numsOf).symm
  have e2:preSum (numAt ys) ys.size=ns.sum:=by
    rw [preSum_eq,List.take_of_length_le (by simp),e1]
  rw [e2]
  exact ⟨.int ns.sum,H,I.kept hk,⟨_,rfl⟩,q⟩
theorem call_maxL (hc:X.calm=true):CallR X (.builtin "max") (cMaxL X.K):=by
  intro pins s σ H xs us Q I r h
  obtain ⟨a,ns,rfl,hq,hne,q⟩:=h
  obtain ⟨u,rfl,r1⟩:=vals1 r
  cases r1
  obtain ⟨its,rv,p,hz⟩:=I.list hq
  have hi:IntsAre its ns:=intsAre_of rv
  obtain ⟨ys,hx⟩:=hi.allInts.items
  have hl':s.heap.IsList a (intItems ys):=hx ▸ p.isList
  have hns:ns=ys.toList.map (·.1):=by
    rw [← nums_intItems,← hx]
    exact (show numsOf its.toArray.toList=ns from hi.numsOf).symm
  have hsz:0 < ys.size:=by
    have h3:=hne
    rw [hns,List.length_map,Array.length_toList] at h3
    exact h3
  refine max_intList (I.ok.hd hc) hl' hsz fun v h' tk hv hk=>?_
  obtain ⟨t,rfl⟩:=intItems_at hv
  obtain ⟨h1,h2⟩:=argBest_gt (numAt ys) (ys.size - 1)
  refine ⟨.int _,H,I.kept hk,⟨_,rfl⟩,q _ ?_ fun x hx'=>?_⟩
  · rw [hns,numAt_eq];exact getD_mem (by rw [List.length_map,Array.length_toList];lia)
  · rw [hns] at hx'
    obtain ⟨j,hj,rfl⟩:=mem_getD hx'
    rw [List.length_map,Array.length_toList] at hj
    rw [← numAt_eq];exact h2 j (by lia)
end
end L2
namespace K12
open PySem L2
theorem jqa {α:Type} {a:α} {l m:List α}:a :: l ++ m=a :: (l ++ m):=rfl
theorem jqb {α:Type} (l:List α):[] ++ l=l:=rfl
theorem jqc {α:Type} (l:List α):l ++ []=l:=List.append_nil l
theorem jqd {α:Type} {a:α} {l:List α}:(a :: l)[0]?=some a:=rfl
theorem jqe {α:Type} {a:α} {l:List α} {i:Nat}:(a :: l)[i + 1]?=l[i]?:=rfl
theorem jqf {α:Type} (a b:α):(some a=some b)=(a=b):=Option.some.injEq a b
theorem jqg {α:Sort _} {p:α→Prop} {a:α}:(∃ x,a=x∧p x)↔p a:=exists_eq_left'
theorem jqh {α:Sort _} {p:α→Prop} {a:α}:(∃ x,x=a∧p x)↔p a:=exists_eq_left
theorem jqi (a b:Int):(V.int a=V.int b)=(a=b):=V.int.injEq a b
theorem jqj (a b:Addr):(V.ref a=V.ref b)=(a=b):=V.ref.injEq a b
theorem jqk (a b:Str):(V.str a=V.str b)=(a=b):=V.str.injEq a b
theorem jql (a b:Bool):(V.bl a=V.bl b)=(a=b):=V.bl.injEq a b
theorem jqm (a b:String):(V.ty a=V.ty b)=(a=b):=V.ty.injEq a b
theorem jqn {α:Type} (a:α) (l:List α) (b:α) (m:List α):(a :: l=b :: m)=(a=b∧l=m):=List.cons.injEq a l b m
theorem jqo {α:Sort _} {p:α→Prop} {b:Prop}:(∃ x,b∧p x)↔b∧(∃ x,p x):=exists_and_left
theorem jqp {α:Type} {x:α} {l:List α} {a:α}:(x :: l).set 0 a=a :: l:=rfl
theorem jqq {α:Type} {x:α} {l:List α} {i:Nat} {a:α}:(x :: l).set (i + 1) a=x :: l.set i a:=rfl
theorem jqr {p:Prop} [Decidable p]:(decide p=true)=p:=decide_eq_true_eq
theorem jqs (b:Bool):((!b)=true)=(b=false):=Bool.not_eq_true' b
theorem jqt {p:Prop} {_:Decidable p}:decide p=false↔¬p:=decide_eq_false_iff_not
theorem jqu:(false=true)=False:=Bool.false_eq_true
def top (i:Nat):Stmt:=PySem.Challenge.pw_forerun_k12_shown_and_read_again.main.body.getD i (.Pass ⟨0,0,0,0⟩)
abbrev s__law_spread:Stmt:=top 41
abbrev s__law_letters:Stmt:=top 42
abbrev s__law_free:Stmt:=top 43
abbrev s__law_names:Stmt:=top 44
abbrev s__law_joined:Stmt:=top 46
abbrev s__law_leaf:Stmt:=top 45
abbrev s__law_term:Stmt:=top 47
abbrev s__law_folded:Stmt:=top 49
abbrev s__law_row:Stmt:=top 48
abbrev s__law_rows:Stmt:=top 50
abbrev s__law_copy:Stmt:=top 51
abbrev s_numeral:Stmt:=top 9
abbrev s_words_of:Stmt:=top 23
abbrev s_row_words:Stmt:=top 25
abbrev s_block_texts:Stmt:=top 26
abbrev s_row_texts:Stmt:=top 27
abbrev s_shown:Stmt:=top 28
abbrev s_Reading_init:Stmt:=inClass (top 37) 0
abbrev s_Reading_turns:Stmt:=inClass (top 37) 4
abbrev s_Reading_shuts:Stmt:=inClass (top 37) 5
abbrev s_Reading_innermost:Stmt:=inClass (top 37) 2
abbrev s_Reading_begins:Stmt:=inClass (top 37) 3
abbrev s_Reading_reads:Stmt:=inClass (top 37) 1
abbrev s_RowWords_init:Stmt:=inClass (top 33) 0
abbrev s_RowWords_draw_word:Stmt:=inClass (top 33) 1
abbrev s_is_name:Stmt:=top 19
abbrev s_RowWords_draw_name:Stmt:=inClass (top 33) 3
abbrev s_behind_term:Stmt:=top 21
abbrev s_is_worth:Stmt:=top 8
abbrev s_is_figures:Stmt:=top 10
abbrev s_is_numeral:Stmt:=top 11
abbrev s_worth_in:Stmt:=top 12
abbrev s_part_in:Stmt:=top 20
abbrev s_term_from:Stmt:=top 22
abbrev s_RowWords_draw_term:Stmt:=inClass (top 33) 4
abbrev s_RowWords_draw_as:Stmt:=inClass (top 33) 2
abbrev s_take_drawn:Stmt:=top 34
abbrev s_row_drawn:Stmt:=top 35
abbrev s_RowWords_draw_end:Stmt:=inClass (top 33) 5
abbrev s_row_in:Stmt:=top 36
abbrev s_read:Stmt:=top 38
abbrev s__law_cell_at:Stmt:=top 40
abbrev s__law_alike:Stmt:=top 52
abbrev s__law_apart:Stmt:=top 53
abbrev s_law:Stmt:=top 54
theorem sc__law_spread:FnScope ["cell","many","spread","low","high","k"] ["cell","many"] (defScope s__law_spread):=⟨rfl,rfl,rfl,by decide +kernel,rfl,by decide +kernel,by decide +kernel⟩
theorem sc__law_letters:FnScope ["number","many","letters","found","k"] ["number","many"] (defScope s__law_letters):=⟨rfl,rfl,rfl,by decide +kernel,rfl,by decide +kernel,by decide +kernel⟩
theorem sc__law_free:FnScope ["name"] ["name"] (defScope s__law_free):=⟨rfl,rfl,rfl,by decide +kernel,rfl,by decide +kernel,by decide +kernel⟩
theorem sc__law_names:FnScope ["cell","letters","xs","base","at","first","turned","some"] ["cell"] (defScope s__law_names):=⟨rfl,rfl,rfl,by decide +kernel,rfl,by decide +kernel,by decide +kernel⟩
theorem sc__law_joined:FnScope ["some","number","doer","first","second"] ["some","number"] (defScope s__law_joined):=⟨rfl,rfl,rfl,by decide +kernel,rfl,by decide +kernel,by decide +kernel⟩
theorem sc__law_leaf:FnScope ["number","names","name","worth"] ["number","names"] (defScope s__law_leaf):=⟨rfl,rfl,rfl,by decide +kernel,rfl,by decide +kernel,by decide +kernel⟩
theorem sc__law_term:FnScope ["xs","names","some","k"] ["xs","names"] (defScope s__law_term):=⟨rfl,rfl,rfl,by decide +kernel,rfl,by decide +kernel,by decide +kernel⟩
theorem sc__law_folded:FnScope ["some","cell","names","many","last","cut","line","term","lines","lot","row","deep"] ["some","cell","names"] (defScope s__law_folded):=⟨rfl,rfl,rfl,by decide +kernel,rfl,by decide +kernel,by decide +kernel⟩
theorem sc__law_row:FnScope ["cell","names","xs","line","term","shelf","kind","slot","other","worth"] ["cell","names"] (defScope s__law_row):=⟨rfl,rfl,rfl,by decide +kernel,rfl,by decide +kernel,by decide +kernel⟩
theorem sc__law_rows:FnScope ["cells","names","some","cell","made","line","row","lines","lot"] ["cells","names"] (defScope s__law_rows):=⟨rfl,rfl,rfl,by decide +kernel,rfl,by decide +kernel,by decide +kernel⟩
theorem sc__law_copy:FnScope ["rows","made","row"] ["rows"] (defScope s__law_copy):=⟨rfl,rfl,rfl,by decide +kernel,rfl,by decide +kernel,by decide +kernel⟩
theorem sc_numeral:FnScope ["worth"] ["worth"] (defScope s_numeral):=⟨rfl,rfl,rfl,by decide +kernel,rfl,by decide +kernel,by decide +kernel⟩
theorem sc_words_of:FnScope ["term","parts","part","second","first"] ["term"] (defScope s_words_of):=⟨rfl,rfl,rfl,by decide +kernel,rfl,by decide +kernel,by decide +kernel⟩
theorem sc_row_words:FnScope ["row"] ["row"] (defScope s_row_words):=⟨rfl,rfl,rfl,by decide +kernel,rfl,by decide +kernel,by decide +kernel⟩
theorem sc_block_texts:FnScope ["row","texts"] ["row"] (defScope s_block_texts):=⟨rfl,rfl,rfl,by decide +kernel,rfl,by decide +kernel,by decide +kernel⟩
theorem sc_row_texts:FnScope ["rows","texts","row"] ["rows"] (defScope s_row_texts):=⟨rfl,rfl,rfl,by decide +kernel,rfl,by decide +kernel,by decide +kernel⟩
theorem sc_shown:FnScope ["rows"] ["rows"] (defScope s_shown):=⟨rfl,rfl,rfl,by decide +kernel,rfl,by decide +kernel,by decide +kernel⟩
theorem sc_Reading_init:FnScope ["self"] ["self"] (defScope s_Reading_init):=⟨rfl,rfl,rfl,by decide +kernel,rfl,by decide +kernel,by decide +kernel⟩
theorem sc_Reading_turns:FnScope ["self","number"] ["self","number"] (defScope s_Reading_turns):=⟨rfl,rfl,rfl,by decide +kernel,rfl,by decide +kernel,by decide +kernel⟩
theorem sc_Reading_shuts:FnScope ["self","number"] ["self","number"] (defScope s_Reading_shuts):=⟨rfl,rfl,rfl,by decide +kernel,rfl,by decide +kernel,by decide +kernel⟩
theorem sc_Reading_innermost:FnScope ["self"] ["self"] (defScope s_Reading_innermost):=⟨rfl,rfl,rfl,by decide +kernel,rfl,by decide +kernel,by decide +kernel⟩
theorem sc_Reading_begins:FnScope ["self","row","number"] ["self","row","number"] (defScope s_Reading_begins):=⟨rfl,rfl,rfl,by decide +kernel,rfl,by decide +kernel,by decide +kernel⟩
theorem sc_Reading_reads:FnScope ["self","row","number"] ["self","row","number"] (defScope s_Reading_reads):=⟨rfl,rfl,rfl,by decide +kernel,rfl,by decide +kernel,by decide +kernel⟩
theorem sc_RowWords_init:FnScope ["self","words","number"] ["self","words","number"] (defScope s_RowWords_init):=⟨rfl,rfl,rfl,by decide +kernel,rfl,by decide +kernel,by decide +kernel⟩
theorem sc_RowWords_draw_word:FnScope ["self","word"] ["self"] (defScope s_RowWords_draw_word):=⟨rfl,rfl,rfl,by decide +kernel,rfl,by decide +kernel,by decide +kernel⟩
theorem sc_is_name:FnScope ["text"] ["text"] (defScope s_is_name):=⟨rfl,rfl,rfl,by decide +kernel,rfl,by decide +kernel,by decide +kernel⟩
theorem sc_RowWords_draw_name:FnScope ["self","word"] ["self"] (defScope s_RowWords_draw_name):=⟨rfl,rfl,rfl,by decide +kernel,rfl,by decide +kernel,by decide +kernel⟩
theorem sc_behind_term:FnScope ["words","at","due","place"] ["words","at"] (defScope s_behind_term):=⟨rfl,rfl,rfl,by decide +kernel,rfl,by decide +kernel,by decide +kernel⟩
theorem sc_is_worth:FnScope ["thing"] ["thing"] (defScope s_is_worth):=⟨rfl,rfl,rfl,by decide +kernel,rfl,by decide +kernel,by decide +kernel⟩
theorem sc_is_figures:FnScope ["text"] ["text"] (defScope s_is_figures):=⟨rfl,rfl,rfl,by decide +kernel,rfl,by decide +kernel,by decide +kernel⟩
theorem sc_is_numeral:FnScope ["text","figures","worth"] ["text"] (defScope s_is_numeral):=⟨rfl,rfl,rfl,by decide +kernel,rfl,by decide +kernel,by decide +kernel⟩
theorem sc_worth_in:FnScope ["text"] ["text"] (defScope s_worth_in):=⟨rfl,rfl,rfl,by decide +kernel,rfl,by decide +kernel,by decide +kernel⟩
theorem sc_part_in:FnScope ["word"] ["word"] (defScope s_part_in):=⟨rfl,rfl,rfl,by decide +kernel,rfl,by decide +kernel,by decide +kernel⟩
theorem sc_term_from:FnScope ["words","at","behind","parts","word","first","second"] ["words","at"] (defScope s_term_from):=⟨rfl,rfl,rfl,by decide +kernel,rfl,by decide +kernel,by decide +kernel⟩
theorem sc_RowWords_draw_term:FnScope ["self","found"] ["self"] (defScope s_RowWords_draw_term):=⟨rfl,rfl,rfl,by decide +kernel,rfl,by decide +kernel,by decide +kernel⟩
theorem sc_RowWords_draw_as:FnScope ["self"] ["self"] (defScope s_RowWords_draw_as):=⟨rfl,rfl,rfl,by decide +kernel,rfl,by decide +kernel,by decide +kernel⟩
theorem sc_take_drawn:FnScope ["words","shelf","place"] ["words"] (defScope s_take_drawn):=⟨rfl,rfl,rfl,by decide +kernel,rfl,by decide +kernel,by decide +kernel⟩
theorem sc_row_drawn:FnScope ["words","first"] ["words"] (defScope s_row_drawn):=⟨rfl,rfl,rfl,by decide +kernel,rfl,by decide +kernel,by decide +kernel⟩
theorem sc_RowWords_draw_end:FnScope ["self"] ["self"] (defScope s_RowWords_draw_end):=⟨rfl,rfl,rfl,by decide +kernel,rfl,by decide +kernel,by decide +kernel⟩
theorem sc_row_in:FnScope ["text","number","words","drawn","row"] ["text","number"] (defScope s_row_in):=⟨rfl,rfl,rfl,by decide +kernel,rfl,by decide +kernel,by decide +kernel⟩
theorem sc_read:FnScope ["text","texts","reading","number","one"] ["text"] (defScope s_read):=⟨rfl,rfl,rfl,by decide +kernel,rfl,by decide +kernel,by decide +kernel⟩
theorem sc__law_cell_at:FnScope ["script","k"] ["script","k"] (defScope s__law_cell_at):=⟨rfl,rfl,rfl,by decide +kernel,rfl,by decide +kernel,by decide +kernel⟩
theorem sc__law_alike:FnScope ["found","due","one","other"] ["found","due"] (defScope s__law_alike):=⟨rfl,rfl,rfl,by decide +kernel,rfl,by decide +kernel,by decide +kernel⟩
theorem sc__law_apart:FnScope ["found","rows","k"] ["found","rows"] (defScope s__law_apart):=⟨rfl,rfl,rfl,by decide +kernel,rfl,by decide +kernel,by decide +kernel⟩
theorem sc_law:FnScope ["script","names","line","rows","handed","told","found"] ["script"] (defScope s_law):=⟨rfl,rfl,rfl,by decide +kernel,rfl,by decide +kernel,by decide +kernel⟩
set_option genSizeOf false in
set_option genInjectivity false in
structure Adr where
  a__law_spread:Addr
  d__law_spread:FuncData
  a__law_letters:Addr
  d__law_letters:FuncData
  a__law_free:Addr
  d__law_free:FuncData
  a__law_names:Addr
  d__law_names:FuncData
  a__law_joined:Addr
  d__law_joined:FuncData
  a__law_leaf:Addr
  d__law_leaf:FuncData
  a__law_term:Addr
  d__law_term:FuncData
  a__law_folded:Addr
  d__law_folded:FuncData
  a__law_row:Addr
  d__law_row:FuncData
  a__law_rows:Addr
  d__law_rows:FuncData
  a__law_copy:Addr
  d__law_copy:FuncData
  a_numeral:Addr
  d_numeral:FuncData
  a_words_of:Addr
  d_words_of:FuncData
  a_row_words:Addr
  d_row_words:FuncData
  a_block_texts:Addr
  d_block_texts:FuncData
  a_row_texts:Addr
  d_row_texts:FuncData
  a_shown:Addr
  d_shown:FuncData
  a_Reading_init:Addr
  d_Reading_init:FuncData
  a_Reading_turns:Addr
  d_Reading_turns:FuncData
  a_Reading_shuts:Addr
  d_Reading_shuts:FuncData
  a_Reading_innermost:Addr
  d_Reading_innermost:FuncData
  a_Reading_begins:Addr
  d_Reading_begins:FuncData
  a_Reading_reads:Addr
  d_Reading_reads:FuncData
  a_RowWords_init:Addr
  d_RowWords_init:FuncData
  a_RowWords_draw_word:Addr
  d_RowWords_draw_word:FuncData
  a_is_name:Addr
  d_is_name:FuncData
  a_RowWords_draw_name:Addr
  d_RowWords_draw_name:FuncData
  a_behind_term:Addr
  d_behind_term:FuncData
  a_is_worth:Addr
  d_is_worth:FuncData
  a_is_figures:Addr
  d_is_figures:FuncData
  a_is_numeral:Addr
  d_is_numeral:FuncData
  a_worth_in:Addr
  d_worth_in:FuncData
  a_part_in:Addr
  d_part_in:FuncData
  a_term_from:Addr
  d_term_from:FuncData
  a_RowWords_draw_term:Addr
  d_RowWords_draw_term:FuncData
  a_RowWords_draw_as:Addr
  d_RowWords_draw_as:FuncData
  a_take_drawn:Addr
  d_take_drawn:FuncData
  a_row_drawn:Addr
  d_row_drawn:FuncData
  a_RowWords_draw_end:Addr
  d_RowWords_draw_end:FuncData
  a_row_in:Addr
  d_row_in:FuncData
  a_read:Addr
  d_read:FuncData
  a__law_cell_at:Addr
  d__law_cell_at:FuncData
  a__law_alike:Addr
  d__law_alike:FuncData
  a__law_apart:Addr
  d__law_apart:FuncData
  a_law:Addr
  d_law:FuncData
  k_FIGURES:Tok
  c_JOINING:Addr
  k_LETTERS:Tok
  k_MOST_BLOCKS:Tok
  k_MOST_FIGURES:Tok
  k_MOST_LETTERS:Tok
  k_MOST_ROWS:Tok
  k_MOST_WORDS_reader:Tok
  k_MOST_WORDS_terms:Tok
  c_ROW_WORDS:Addr
  c_NoNumber:Addr
  c_NoTerm:Addr
  c_Reading:Addr
  c_RowWords:Addr
structure Txt (K:PySem.W.Frag) (mg:Str→Option Value) (t:Adr):Prop where
  f__law_spread:Fun K "_law_spread" "_law_spread" s__law_spread t.a__law_spread t.d__law_spread
  b__law_spread:Binds K t.d__law_spread ["cell","many"] []
  m__law_spread:mg "_law_spread"=some (.ref t.a__law_spread)
  f__law_letters:Fun K "_law_letters" "_law_letters" s__law_letters t.a__law_letters t.d__law_letters
  b__law_letters:Binds K t.d__law_letters ["number","many"] []
  m__law_letters:mg "_law_letters"=some (.ref t.a__law_letters)
  f__law_free:Fun K "_law_free" "_law_free" s__law_free t.a__law_free t.d__law_free
  b__law_free:Binds K t.d__law_free ["name"] []
  m__law_free:mg "_law_free"=some (.ref t.a__law_free)
  f__law_names:Fun K "_law_names" "_law_names" s__law_names t.a__law_names t.d__law_names
  b__law_names:Binds K t.d__law_names ["cell"] []
  m__law_names:mg "_law_names"=some (.ref t.a__law_names)
  f__law_joined:Fun K "_law_joined" "_law_joined" s__law_joined t.a__law_joined t.d__law_joined
  b__law_joined:Binds K t.d__law_joined ["some","number"] []
  m__law_joined:mg "_law_joined"=some (.ref t.a__law_joined)
  f__law_leaf:Fun K "_law_leaf" "_law_leaf" s__law_leaf t.a__law_leaf t.d__law_leaf
  b__law_leaf:Binds K t.d__law_leaf ["number","names"] []
  m__law_leaf:mg "_law_leaf"=some (.ref t.a__law_leaf)
  f__law_term:Fun K "_law_term" "_law_term" s__law_term t.a__law_term t.d__law_term
  b__law_term:Binds K t.d__law_term ["xs","names"] []
  m__law_term:mg "_law_term"=some (.ref t.a__law_term)
  f__law_folded:Fun K "_law_folded" "_law_folded" s__law_folded t.a__law_folded t.d__law_folded
  b__law_folded:Binds K t.d__law_folded ["some","cell","names"] []
  m__law_folded:mg "_law_folded"=some (.ref t.a__law_folded)
  f__law_row:Fun K "_law_row" "_law_row" s__law_row t.a__law_row t.d__law_row
  b__law_row:Binds K t.d__law_row ["cell","names"] []
  m__law_row:mg "_law_row"=some (.ref t.a__law_row)
  f__law_rows:Fun K "_law_rows" "_law_rows" s__law_rows t.a__law_rows t.d__law_rows
  b__law_rows:Binds K t.d__law_rows ["cells","names"] []
  m__law_rows:mg "_law_rows"=some (.ref t.a__law_rows)
  f__law_copy:Fun K "_law_copy" "_law_copy" s__law_copy t.a__law_copy t.d__law_copy
  b__law_copy:Binds K t.d__law_copy ["rows"] []
  m__law_copy:mg "_law_copy"=some (.ref t.a__law_copy)
  f_numeral:Fun K "numeral" "numeral" s_numeral t.a_numeral t.d_numeral
  b_numeral:Binds K t.d_numeral ["worth"] []
  m_numeral:mg "numeral"=some (.ref t.a_numeral)
  f_words_of:Fun K "words_of" "words_of" s_words_of t.a_words_of t.d_words_of
  b_words_of:Binds K t.d_words_of ["term"] []
  m_words_of:mg "words_of"=some (.ref t.a_words_of)
  f_row_words:Fun K "row_words" "row_words" s_row_words t.a_row_words t.d_row_words
  b_row_words:Binds K t.d_row_words ["row"] []
  m_row_words:mg "row_words"=some (.ref t.a_row_words)
  f_block_texts:Fun K "block_texts" "block_texts" s_block_texts t.a_block_texts t.d_block_texts
  b_block_texts:Binds K t.d_block_texts ["row"] []
  m_block_texts:mg "block_texts"=some (.ref t.a_block_texts)
  f_row_texts:Fun K "row_texts" "row_texts" s_row_texts t.a_row_texts t.d_row_texts
  b_row_texts:Binds K t.d_row_texts ["rows"] []
  m_row_texts:mg "row_texts"=some (.ref t.a_row_texts)
  f_shown:Fun K "shown" "shown" s_shown t.a_shown t.d_shown
  b_shown:Binds K t.d_shown ["rows"] []
  m_shown:mg "shown"=some (.ref t.a_shown)
  f_Reading_init:Fun K "__init__" "Reading.__init__" s_Reading_init t.a_Reading_init t.d_Reading_init
  b_Reading_init:Binds K t.d_Reading_init ["self"] []
  f_Reading_turns:Fun K "turns" "Reading.turns" s_Reading_turns t.a_Reading_turns t.d_Reading_turns
  b_Reading_turns:Binds K t.d_Reading_turns ["self","number"] []
  me_Reading_turns:Meth K t.c_Reading "turns" t.a_Reading_turns
  f_Reading_shuts:Fun K "shuts" "Reading.shuts" s_Reading_shuts t.a_Reading_shuts t.d_Reading_shuts
  b_Reading_shuts:Binds K t.d_Reading_shuts ["self","number"] []
  me_Reading_shuts:Meth K t.c_Reading "shuts" t.a_Reading_shuts
  f_Reading_innermost:Fun K "innermost" "Reading.innermost" s_Reading_innermost t.a_Reading_innermost t.d_Reading_innermost
  b_Reading_innermost:Binds K t.d_Reading_innermost ["self"] []
  me_Reading_innermost:Meth K t.c_Reading "innermost" t.a_Reading_innermost
  f_Reading_begins:Fun K "begins" "Reading.begins" s_Reading_begins t.a_Reading_begins t.d_Reading_begins
  b_Reading_begins:Binds K t.d_Reading_begins ["self","row","number"] []
  me_Reading_begins:Meth K t.c_Reading "begins" t.a_Reading_begins
  f_Reading_reads:Fun K "reads" "Reading.reads" s_Reading_reads t.a_Reading_reads t.d_Reading_reads
  b_Reading_reads:Binds K t.d_Reading_reads ["self","row","number"] []
  me_Reading_reads:Meth K t.c_Reading "reads" t.a_Reading_reads
  f_RowWords_init:Fun K "__init__" "RowWords.__init__" s_RowWords_init t.a_RowWords_init t.d_RowWords_init
  b_RowWords_init:Binds K t.d_RowWords_init ["self","words","number"] []
  f_RowWords_draw_word:Fun K "draw_word" "RowWords.draw_word" s_RowWords_draw_word t.a_RowWords_draw_word t.d_RowWords_draw_word
  b_RowWords_draw_word:Binds K t.d_RowWords_draw_word ["self"] []
  me_RowWords_draw_word:Meth K t.c_RowWords "draw_word" t.a_RowWords_draw_word
  f_is_name:Fun K "is_name" "is_name" s_is_name t.a_is_name t.d_is_name
  b_is_name:Binds K t.d_is_name ["text"] []
  m_is_name:mg "is_name"=some (.ref t.a_is_name)
  f_RowWords_draw_name:Fun K "draw_name" "RowWords.draw_name" s_RowWords_draw_name t.a_RowWords_draw_name t.d_RowWords_draw_name
  b_RowWords_draw_name:Binds K t.d_RowWords_draw_name ["self"] []
  me_RowWords_draw_name:Meth K t.c_RowWords "draw_name" t.a_RowWords_draw_name
  f_behind_term:Fun K "behind_term" "behind_term" s_behind_term t.a_behind_term t.d_behind_term
  b_behind_term:Binds K t.d_behind_term ["words","at"] []
  m_behind_term:mg "behind_term"=some (.ref t.a_behind_term)
  f_is_worth:Fun K "is_worth" "is_worth" s_is_worth t.a_is_worth t.d_is_worth
  b_is_worth:Binds K t.d_is_worth ["thing"] []
  m_is_worth:mg "is_worth"=some (.ref t.a_is_worth)
  f_is_figures:Fun K "is_figures" "is_figures" s_is_figures t.a_is_figures t.d_is_figures
  b_is_figures:Binds K t.d_is_figures ["text"] []
  m_is_figures:mg "is_figures"=some (.ref t.a_is_figures)
  f_is_numeral:Fun K "is_numeral" "is_numeral" s_is_numeral t.a_is_numeral t.d_is_numeral
  b_is_numeral:Binds K t.d_is_numeral ["text"] []
  m_is_numeral:mg "is_numeral"=some (.ref t.a_is_numeral)
  f_worth_in:Fun K "worth_in" "worth_in" s_worth_in t.a_worth_in t.d_worth_in
  b_worth_in:Binds K t.d_worth_in ["text"] []
  m_worth_in:mg "worth_in"=some (.ref t.a_worth_in)
  f_part_in:Fun K "part_in" "part_in" s_part_in t.a_part_in t.d_part_in
  b_part_in:Binds K t.d_part_in ["word"] []
  m_part_in:mg "part_in"=some (.ref t.a_part_in)
  f_term_from:Fun K "term_from" "term_from" s_term_from t.a_term_from t.d_term_from
  b_term_from:Binds K t.d_term_from ["words","at"] []
  m_term_from:mg "term_from"=some (.ref t.a_term_from)
  f_RowWords_draw_term:Fun K "draw_term" "RowWords.draw_term" s_RowWords_draw_term t.a_RowWords_draw_term t.d_RowWords_draw_term
  b_RowWords_draw_term:Binds K t.d_RowWords_draw_term ["self"] []
  me_RowWords_draw_term:Meth K t.c_RowWords "draw_term" t.a_RowWords_draw_term
  f_RowWords_draw_as:Fun K "draw_as" "RowWords.draw_as" s_RowWords_draw_as t.a_RowWords_draw_as t.d_RowWords_draw_as
  b_RowWords_draw_as:Binds K t.d_RowWords_draw_as ["self"] []
  me_RowWords_draw_as:Meth K t.c_RowWords "draw_as" t.a_RowWords_draw_as
  f_take_drawn:Fun K "take_drawn" "take_drawn" s_take_drawn t.a_take_drawn t.d_take_drawn
  b_take_drawn:Binds K t.d_take_drawn ["words"] []
  m_take_drawn:mg "take_drawn"=some (.ref t.a_take_drawn)
  f_row_drawn:Fun K "row_drawn" "row_drawn" s_row_drawn t.a_row_drawn t.d_row_drawn
  b_row_drawn:Binds K t.d_row_drawn ["words"] []
  m_row_drawn:mg "row_drawn"=some (.ref t.a_row_drawn)
  f_RowWords_draw_end:Fun K "draw_end" "RowWords.draw_end" s_RowWords_draw_end t.a_RowWords_draw_end t.d_RowWords_draw_end
  b_RowWords_draw_end:Binds K t.d_RowWords_draw_end ["self"] []
  me_RowWords_draw_end:Meth K t.c_RowWords "draw_end" t.a_RowWords_draw_end
  f_row_in:Fun K "row_in" "row_in" s_row_in t.a_row_in t.d_row_in
  b_row_in:Binds K t.d_row_in ["text","number"] []
  m_row_in:mg "row_in"=some (.ref t.a_row_in)
  f_read:Fun K "read" "read" s_read t.a_read t.d_read
  b_read:Binds K t.d_read ["text"] []
  m_read:mg "read"=some (.ref t.a_read)
  f__law_cell_at:Fun K "_law_cell_at" "_law_cell_at" s__law_cell_at t.a__law_cell_at t.d__law_cell_at
  b__law_cell_at:Binds K t.d__law_cell_at ["script","k"] []
  m__law_cell_at:mg "_law_cell_at"=some (.ref t.a__law_cell_at)
  f__law_alike:Fun K "_law_alike" "_law_alike" s__law_alike t.a__law_alike t.d__law_alike
  b__law_alike:Binds K t.d__law_alike ["found","due"] []
  m__law_alike:mg "_law_alike"=some (.ref t.a__law_alike)
  f__law_apart:Fun K "_law_apart" "_law_apart" s__law_apart t.a__law_apart t.d__law_apart
  b__law_apart:Binds K t.d__law_apart ["found","rows"] []
  m__law_apart:mg "_law_apart"=some (.ref t.a__law_apart)
  f_law:Fun K "law" "law" s_law t.a_law t.d_law
  b_law:Binds K t.d_law ["script"] []
  m_law:mg "law"=some (.ref t.a_law)
  w_law:∀ (s:Shared) (v:Value),BindsTo s t.d_law ⟨[v],[]⟩ [("script",v)]
  b_all:mg "all"=none
  b_bool:mg "bool"=none
  b_enumerate:mg "enumerate"=none
  b_int:mg "int"=none
  b_isinstance:mg "isinstance"=none
  b_len:mg "len"=none
  b_list:mg "list"=none
  b_max:mg "max"=none
  b_range:mg "range"=none
  b_reversed:mg "reversed"=none
  b_str:mg "str"=none
  b_sum:mg "sum"=none
  b_tuple:mg "tuple"=none
  b_zip:mg "zip"=none
  g_FIGURES:mg "FIGURES"=some (.str "0123456789" t.k_FIGURES)
  g_JOINING:mg "JOINING"=some (.ref t.c_JOINING)
  v_JOINING:∀ H:Hp,SqT K H t.c_JOINING [.str "plus",.str "minus",.str "times",.str "over",.str "rest",.str "under",.str "same"]
  g_LETTERS:mg "LETTERS"=some (.str "abcdefghijklmnopqrstuvwxyz" t.k_LETTERS)
  g_MOST_BLOCKS:mg "MOST_BLOCKS"=some (.int 5 t.k_MOST_BLOCKS)
  g_MOST_FIGURES:mg "MOST_FIGURES"=some (.int 31 t.k_MOST_FIGURES)
  g_MOST_LETTERS:mg "MOST_LETTERS"=some (.int 6 t.k_MOST_LETTERS)
  g_MOST_ROWS:mg "MOST_ROWS"=some (.int 40 t.k_MOST_ROWS)
  g_MOST_WORDS_reader:mg "MOST_WORDS_reader"=some (.int 60 t.k_MOST_WORDS_reader)
  g_MOST_WORDS_terms:mg "MOST_WORDS_terms"=some (.int 60 t.k_MOST_WORDS_terms)
  g_ROW_WORDS:mg "ROW_WORDS"=some (.ref t.c_ROW_WORDS)
  v_ROW_WORDS:∀ H:Hp,SqT K H t.c_ROW_WORDS [.str "take",.str "give",.str "let",.str "say",.str "off",.str "if",.str "else",.str "end",.str "as"]
  g_NoNumber:mg "NoNumber"=some (.ref t.c_NoNumber)
  g_NoTerm:mg "NoTerm"=some (.ref t.c_NoTerm)
  g_Reading:mg "Reading"=some (.ref t.c_Reading)
  g_RowWords:mg "RowWords"=some (.ref t.c_RowWords)
  cl_Reading:Cls K t.c_Reading
  mk_Reading:Mk K t.c_Reading t.a_Reading_init
  na_Reading_blocks:NoAttr K t.c_Reading "blocks"
  na_Reading_rows:NoAttr K t.c_Reading "rows"
  na_Reading_turned:NoAttr K t.c_Reading "turned"
  cl_RowWords:Cls K t.c_RowWords
  mk_RowWords:Mk K t.c_RowWords t.a_RowWords_init
  na_RowWords_at:NoAttr K t.c_RowWords "at"
  na_RowWords_number:NoAttr K t.c_RowWords "number"
  na_RowWords_words:NoAttr K t.c_RowWords "words"
  x_NoTerm:PySem.W.excIn K t.c_NoTerm bmVal newVal=true
  y_NoTerm:ExK K t.c_NoTerm
  x_NoNumber:PySem.W.excIn K t.c_NoNumber bmVal newVal=true
  y_NoNumber:ExK K t.c_NoNumber
theorem txt_mk {K:PySem.W.Frag} {h:Heap} {mg:Str→Option Value} (X:K.In h) (G:h.Ns mainGlobals mg)
    {f0:Addr} {od0 an0:Option Addr} {sl0:Array (Option Value)} {oc0 kV0 dc0 pm0 cd0 ct0:Value}
    {f1:Addr} {od1 an1:Option Addr} {sl1:Array (Option Value)} {oc1 kV1 dc1 pm1 cd1 ct1:Value}
    {f2:Addr} {od2 an2:Option Addr} {sl2:Array (Option Value)} {oc2 kV2 dc2 pm2 cd2 ct2:Value}
    {f3:Addr} {od3 an3:Option Addr} {sl3:Array (Option Value)} {oc3 kV3 dc3 pm3 cd3 ct3:Value}
    {f4:Addr} {od4 an4:Option Addr} {sl4:Array (Option Value)} {oc4 kV4 dc4 pm4 cd4 ct4:Value}
    {f5:Addr} {od5 an5:Option Addr} {sl5:Array (Option Value)} {oc5 kV5 dc5 pm5 cd5 ct5:Value}
    {f6:Addr} {od6 an6:Option Addr} {sl6:Array (Option Value)} {oc6 kV6 dc6 pm6 cd6 ct6:Value}
    {f7:Addr} {od7 an7:Option Addr} {sl7:Array (Option Value)} {oc7 kV7 dc7 pm7 cd7 ct7:Value}
    {f8:Addr} {od8 an8:Option Addr} {sl8:Array (Option Value)} {oc8 kV8 dc8 pm8 cd8 ct8:Value}
    {f9:Addr} {od9 an9:Option Addr} {sl9:Array (Option Value)} {oc9 kV9 dc9 pm9 cd9 ct9:Value}
    {f10:Addr} {od10 an10:Option Addr} {sl10:Array (Option Value)} {oc10 kV10 dc10 pm10 cd10 ct10:Value}
    {f11:Addr} {od11 an11:Option Addr} {sl11:Array (Option Value)} {oc11 kV11 dc11 pm11 cd11 ct11:Value}
    {f12:Addr} {od12 an12:Option Addr} {sl12:Array (Option Value)} {oc12 kV12 dc12 pm12 cd12 ct12:Value}
    {f13:Addr} {od13 an13:Option Addr} {sl13:Array (Option Value)} {oc13 kV13 dc13 pm13 cd13 ct13:Value}
    {f14:Addr} {od14 an14:Option Addr} {sl14:Array (Option Value)} {oc14 kV14 dc14 pm14 cd14 ct14:Value}
    {f15:Addr} {od15 an15:Option Addr} {sl15:Array (Option Value)} {oc15 kV15 dc15 pm15 cd15 ct15:Value}
    {f16:Addr} {od16 an16:Option Addr} {sl16:Array (Option Value)} {oc16 kV16 dc16 pm16 cd16 ct16:Value}
    {f17:Addr} {od17 an17:Option Addr} {sl17:Array (Option Value)} {oc17 kV17 dc17 pm17 cd17 ct17:Value}
    {f18:Addr} {od18 an18:Option Addr} {sl18:Array (Option Value)} {oc18 kV18 dc18 pm18 cd18 ct18:Value}
    {f19:Addr} {od19 an19:Option Addr} {sl19:Array (Option Value)} {oc19 kV19 dc19 pm19 cd19 ct19:Value}
    {f20:Addr} {od20 an20:Option Addr} {sl20:Array (Option Value)} {oc20 kV20 dc20 pm20 cd20 ct20:Value}
    {f21:Addr} {od21 an21:Option Addr} {sl21:Array (Option Value)} {oc21 kV21 dc21 pm21 cd21 ct21:Value}
    {f22:Addr} {od22 an22:Option Addr} {sl22:Array (Option Value)} {oc22 kV22 dc22 pm22 cd22 ct22:Value}
    {f23:Addr} {od23 an23:Option Addr} {sl23:Array (Option Value)} {oc23 kV23 dc23 pm23 cd23 ct23:Value}
    {f24:Addr} {od24 an24:Option Addr} {sl24:Array (Option Value)} {oc24 kV24 dc24 pm24 cd24 ct24:Value}
    {f25:Addr} {od25 an25:Option Addr} {sl25:Array (Option Value)} {oc25 kV25 dc25 pm25 cd25 ct25:Value}
    {f26:Addr} {od26 an26:Option Addr} {sl26:Array (Option Value)} {oc26 kV26 dc26 pm26 cd26 ct26:Value}
    {f27:Addr} {od27 an27:Option Addr} {sl27:Array (Option Value)} {oc27 kV27 dc27 pm27 cd27 ct27:Value}
    {f28:Addr} {od28 an28:Option Addr} {sl28:Array (Option Value)} {oc28 kV28 dc28 pm28 cd28 ct28:Value}
    {f29:Addr} {od29 an29:Option Addr} {sl29:Array (Option Value)} {oc29 kV29 dc29 pm29 cd29 ct29:Value}
    {f30:Addr} {od30 an30:Option Addr} {sl30:Array (Option Value)} {oc30 kV30 dc30 pm30 cd30 ct30:Value}
    {f31:Addr} {od31 an31:Option Addr} {sl31:Array (Option Value)} {oc31 kV31 dc31 pm31 cd31 ct31:Value}
    {f32:Addr} {od32 an32:Option Addr} {sl32:Array (Option Value)} {oc32 kV32 dc32 pm32 cd32 ct32:Value}
    {f33:Addr} {od33 an33:Option Addr} {sl33:Array (Option Value)} {oc33 kV33 dc33 pm33 cd33 ct33:Value}
    {f34:Addr} {od34 an34:Option Addr} {sl34:Array (Option Value)} {oc34 kV34 dc34 pm34 cd34 ct34:Value}
    {f35:Addr} {od35 an35:Option Addr} {sl35:Array (Option Value)} {oc35 kV35 dc35 pm35 cd35 ct35:Value}
    {f36:Addr} {od36 an36:Option Addr} {sl36:Array (Option Value)} {oc36 kV36 dc36 pm36 cd36 ct36:Value}
    {f37:Addr} {od37 an37:Option Addr} {sl37:Array (Option Value)} {oc37 kV37 dc37 pm37 cd37 ct37:Value}
    {f38:Addr} {od38 an38:Option Addr} {sl38:Array (Option Value)} {oc38 kV38 dc38 pm38 cd38 ct38:Value}
    {f39:Addr} {od39 an39:Option Addr} {sl39:Array (Option Value)} {oc39 kV39 dc39 pm39 cd39 ct39:Value}
    {f40:Addr} {od40 an40:Option Addr} {sl40:Array (Option Value)} {oc40 kV40 dc40 pm40 cd40 ct40:Value}
    {f41:Addr} {od41 an41:Option Addr} {sl41:Array (Option Value)} {oc41 kV41 dc41 pm41 cd41 ct41:Value}
    {f42:Addr} {od42 an42:Option Addr} {sl42:Array (Option Value)} {oc42 kV42 dc42 pm42 cd42 ct42:Value}
    {f43:Addr} {od43 an43:Option Addr} {sl43:Array (Option Value)} {oc43 kV43 dc43 pm43 cd43 ct43:Value}
    {f44:Addr} {od44 an44:Option Addr} {sl44:Array (Option Value)} {oc44 kV44 dc44 pm44 cd44 ct44:Value}
    {gt0:Tok}
    {ga1:Addr} {gn1:Nat} {gt1_0:Tok} {gt1_1:Tok} {gt1_2:Tok} {gt1_3:Tok} {gt1_4:Tok} {gt1_5:Tok} {gt1_6:Tok}
    {gt2:Tok}
    {gt3:Tok}
    {gt4:Tok}
    {gt5:Tok}
    {gt6:Tok}
    {gt7:Tok}
    {gt8:Tok}
    {ga9:Addr} {gn9:Nat} {gt9_0:Tok} {gt9_1:Tok} {gt9_2:Tok} {gt9_3:Tok} {gt9_4:Tok} {gt9_5:Tok} {gt9_6:Tok} {gt9_7:Tok} {gt9_8:Tok}
    {ca0:Addr}
    {ca1:Addr}
    {ca2:Addr}
    {ca3:Addr}
    {cl0:ClassData}
    {cl1:ClassData}
    (qa0:PySem.W.nsIn K mainGlobals "_law_spread"=some (some (.ref f0))) (ql0:K.lookup f0=some ⟨oc0,od0,.func (PySem.W.fnOf "_law_spread" "_law_spread" (defArgs s__law_spread) (defBody s__law_spread) (defScope s__law_spread) .none kV0 dc0 pm0 an0 cd0 ct0),sl0⟩) (qc0:PySem.W.codeIn K cd0 "_law_spread"=true) (qk0:PySem.W.keepIn K (.ref f0)=true)
    (qa1:PySem.W.nsIn K mainGlobals "_law_letters"=some (some (.ref f1))) (ql1:K.lookup f1=some ⟨oc1,od1,.func (PySem.W.fnOf "_law_letters" "_law_letters" (defArgs s__law_letters) (defBody s__law_letters) (defScope s__law_letters) .none kV1 dc1 pm1 an1 cd1 ct1),sl1⟩) (qc1:PySem.W.codeIn K cd1 "_law_letters"=true) (qk1:PySem.W.keepIn K (.ref f1)=true)
    (qa2:PySem.W.nsIn K mainGlobals "_law_free"=some (some (.ref f2))) (ql2:K.lookup f2=some ⟨oc2,od2,.func (PySem.W.fnOf "_law_free" "_law_free" (defArgs s__law_free) (defBody s__law_free) (defScope s__law_free) .none kV2 dc2 pm2 an2 cd2 ct2),sl2⟩) (qc2:PySem.W.codeIn K cd2 "_law_free"=true) (qk2:PySem.W.keepIn K (.ref f2)=true)
    (qa3:PySem.W.nsIn K mainGlobals "_law_names"=some (some (.ref f3))) (ql3:K.lookup f3=some ⟨oc3,od3,.func (PySem.W.fnOf "_law_names" "_law_names" (defArgs s__law_names) (defBody s__law_names) (defScope s__law_names) .none kV3 dc3 pm3 an3 cd3 ct3),sl3⟩) (qc3:PySem.W.codeIn K cd3 "_law_names"=true) (qk3:PySem.W.keepIn K (.ref f3)=true)
    (qa4:PySem.W.nsIn K mainGlobals "_law_joined"=some (some (.ref f4))) (ql4:K.lookup f4=some ⟨oc4,od4,.func (PySem.W.fnOf "_law_joined" "_law_joined" (defArgs s__law_joined) (defBody s__law_joined) (defScope s__law_joined) .none kV4 dc4 pm4 an4 cd4 ct4),sl4⟩) (qc4:PySem.W.codeIn K cd4 "_law_joined"=true) (qk4:PySem.W.keepIn K (.ref f4)=true)
    (qa5:PySem.W.nsIn K mainGlobals "_law_leaf"=some (some (.ref f5))) (ql5:K.lookup f5=some ⟨oc5,od5,.func (PySem.W.fnOf "_law_leaf" "_law_leaf" (defArgs s__law_leaf) (defBody s__law_leaf) (defScope s__law_leaf) .none kV5 dc5 pm5 an5 cd5 ct5),sl5⟩) (qc5:PySem.W.codeIn K cd5 "_law_leaf"=true) (qk5:PySem.W.keepIn K (.ref f5)=true)
    (qa6:PySem.W.nsIn K mainGlobals "_law_term"=some (some (.ref f6))) (ql6:K.lookup f6=some ⟨oc6,od6,.func (PySem.W.fnOf "_law_term" "_law_term" (defArgs s__law_term) (defBody s__law_term) (defScope s__law_term) .none kV6 dc6 pm6 an6 cd6 ct6),sl6⟩) (qc6:PySem.W.codeIn K cd6 "_law_term"=true) (qk6:PySem.W.keepIn K (.ref f6)=true)
    (qa7:PySem.W.nsIn K mainGlobals "_law_folded"=some (some (.ref f7))) (ql7:K.lookup f7=some ⟨oc7,od7,.func (PySem.W.fnOf "_law_folded" "_law_folded" (defArgs s__law_folded) (defBody s__law_folded) (defScope s__law_folded) .none kV7 dc7 pm7 an7 cd7 ct7),sl7⟩) (qc7:PySem.W.codeIn K cd7 "_law_folded"=true) (qk7:PySem.W.keepIn K (.ref f7)=true)
    (qa8:PySem.W.nsIn K mainGlobals "_law_row"=some (some (.ref f8))) (ql8:K.lookup f8=some ⟨oc8,od8,.func (PySem.W.fnOf "_law_row" "_law_row" (defArgs s__law_row) (defBody s__law_row) (defScope s__law_row) .none kV8 dc8 pm8 an8 cd8 ct8),sl8⟩) (qc8:PySem.W.codeIn K cd8 "_law_row"=true) (qk8:PySem.W.keepIn K (.ref f8)=true)
    (qa9:PySem.W.nsIn K mainGlobals "_law_rows"=some (some (.ref f9))) (ql9:K.lookup f9=some ⟨oc9,od9,.func (PySem.W.fnOf "_law_rows" "_law_rows" (defArgs s__law_rows) (defBody s__law_rows) (defScope s__law_rows) .none kV9 dc9 pm9 an9 cd9 ct9),sl9⟩) (qc9:PySem.W.codeIn K cd9 "_law_rows"=true) (qk9:PySem.W.keepIn K (.ref f9)=true)
    (qa10:PySem.W.nsIn K mainGlobals "_law_copy"=some (some (.ref f10))) (ql10:K.lookup f10=some ⟨oc10,od10,.func (PySem.W.fnOf "_law_copy" "_law_copy" (defArgs s__law_copy) (defBody s__law_copy) (defScope s__law_copy) .none kV10 dc10 pm10 an10 cd10 ct10),sl10⟩) (qc10:PySem.W.codeIn K cd10 "_law_copy"=true) (qk10:PySem.W.keepIn K (.ref f10)=true)
    (qa11:PySem.W.nsIn K mainGlobals "numeral"=some (some (.ref f11))) (ql11:K.lookup f11=some ⟨oc11,od11,.func (PySem.W.fnOf "numeral" "numeral" (defArgs s_numeral) (defBody s_numeral) (defScope s_numeral) .none kV11 dc11 pm11 an11 cd11 ct11),sl11⟩) (qc11:PySem.W.codeIn K cd11 "numeral"=true) (qk11:PySem.W.keepIn K (.ref f11)=true)
    (qa12:PySem.W.nsIn K mainGlobals "words_of"=some (some (.ref f12))) (ql12:K.lookup f12=some ⟨oc12,od12,.func (PySem.W.fnOf "words_of" "words_of" (defArgs s_words_of) (defBody s_words_of) (defScope s_words_of) .none kV12 dc12 pm12 an12 cd12 ct12),sl12⟩) (qc12:PySem.W.codeIn K cd12 "words_of"=true) (qk12:PySem.W.keepIn K (.ref f12)=true)
    (qa13:PySem.W.nsIn K mainGlobals "row_words"=some (some (.ref f13))) (ql13:K.lookup f13=some ⟨oc13,od13,.func (PySem.W.fnOf "row_words" "row_words" (defArgs s_row_words) (defBody s_row_words) (defScope s_row_words) .none kV13 dc13 pm13 an13 cd13 ct13),sl13⟩) (qc13:PySem.W.codeIn K cd13 "row_words"=true) (qk13:PySem.W.keepIn K (.ref f13)=true)
    (qa14:PySem.W.nsIn K mainGlobals "block_texts"=some (some (.ref f14))) (ql14:K.lookup f14=some ⟨oc14,od14,.func (PySem.W.fnOf "block_texts" "block_texts" (defArgs s_block_texts) (defBody s_block_texts) (defScope s_block_texts) .none kV14 dc14 pm14 an14 cd14 ct14),sl14⟩) (qc14:PySem.W.codeIn K cd14 "block_texts"=true) (qk14:PySem.W.keepIn K (.ref f14)=true)
    (qa15:PySem.W.nsIn K mainGlobals "row_texts"=some (some (.ref f15))) (ql15:K.lookup f15=some ⟨oc15,od15,.func (PySem.W.fnOf "row_texts" "row_texts" (defArgs s_row_texts) (defBody s_row_texts) (defScope s_row_texts) .none kV15 dc15 pm15 an15 cd15 ct15),sl15⟩) (qc15:PySem.W.codeIn K cd15 "row_texts"=true) (qk15:PySem.W.keepIn K (.ref f15)=true)
    (qa16:PySem.W.nsIn K mainGlobals "shown"=some (some (.ref f16))) (ql16:K.lookup f16=some ⟨oc16,od16,.func (PySem.W.fnOf "shown" "shown" (defArgs s_shown) (defBody s_shown) (defScope s_shown) .none kV16 dc16 pm16 an16 cd16 ct16),sl16⟩) (qc16:PySem.W.codeIn K cd16 "shown"=true) (qk16:PySem.W.keepIn K (.ref f16)=true)
    (qa17:PySem.W.findIn K (.ref ca2) "__init__"=some (some (.ref f17))) (qi17:PySem.W.isFn K (.ref f17)=true) (ql17:K.lookup f17=some ⟨oc17,od17,.func (PySem.W.fnOf "__init__" "Reading.__init__" (defArgs s_Reading_init) (defBody s_Reading_init) (defScope s_Reading_init) .none kV17 dc17 pm17 an17 cd17 ct17),sl17⟩) (qc17:PySem.W.codeIn K cd17 "Reading.__init__"=true) (qk17:PySem.W.keepIn K (.ref f17)=true)
    (qa18:PySem.W.findIn K (.ref ca2) "turns"=some (some (.ref f18))) (qi18:PySem.W.isFn K (.ref f18)=true) (ql18:K.lookup f18=some ⟨oc18,od18,.func (PySem.W.fnOf "turns" "Reading.turns" (defArgs s_Reading_turns) (defBody s_Reading_turns) (defScope s_Reading_turns) .none kV18 dc18 pm18 an18 cd18 ct18),sl18⟩) (qc18:PySem.W.codeIn K cd18 "Reading.turns"=true) (qk18:PySem.W.keepIn K (.ref f18)=true)
    (qa19:PySem.W.findIn K (.ref ca2) "shuts"=some (some (.ref f19))) (qi19:PySem.W.isFn K (.ref f19)=true) (ql19:K.lookup f19=some ⟨oc19,od19,.func (PySem.W.fnOf "shuts" "Reading.shuts" (defArgs s_Reading_shuts) (defBody s_Reading_shuts) (defScope s_Reading_shuts) .none kV19 dc19 pm19 an19 cd19 ct19),sl19⟩) (qc19:PySem.W.codeIn K cd19 "Reading.shuts"=true) (qk19:PySem.W.keepIn K (.ref f19)=true)
    (qa20:PySem.W.findIn K (.ref ca2) "innermost"=some (some (.ref f20))) (qi20:PySem.W.isFn K (.ref f20)=true) (ql20:K.lookup f20=some ⟨oc20,od20,.func (PySem.W.fnOf "innermost" "Reading.innermost" (defArgs s_Reading_innermost) (defBody s_Reading_innermost) (defScope s_Reading_innermost) .none kV20 dc20 pm20 an20 cd20 ct20),sl20⟩) (qc20:PySem.W.codeIn K cd20 "Reading.innermost"=true) (qk20:PySem.W.keepIn K (.ref f20)=true)
    (qa21:PySem.W.findIn K (.ref ca2) "begins"=some (some (.ref f21))) (qi21:PySem.W.isFn K (.ref f21)=true) (ql21:K.lookup f21=some ⟨oc21,od21,.func (PySem.W.fnOf "begins" "Reading.begins" (defArgs s_Reading_begins) (defBody s_Reading_begins) (defScope s_Reading_begins) .none kV21 dc21 pm21 an21 cd21 ct21),sl21⟩) (qc21:PySem.W.codeIn K cd21 "Reading.begins"=true) (qk21:PySem.W.keepIn K (.ref f21)=true)
    (qa22:PySem.W.findIn K (.ref ca2) "reads"=some (some (.ref f22))) (qi22:PySem.W.isFn K (.ref f22)=true) (ql22:K.lookup f22=some ⟨oc22,od22,.func (PySem.W.fnOf "reads" "Reading.reads" (defArgs s_Reading_reads) (defBody s_Reading_reads) (defScope s_Reading_reads) .none kV22 dc22 pm22 an22 cd22 ct22),sl22⟩) (qc22:PySem.W.codeIn K cd22 "Reading.reads"=true) (qk22:PySem.W.keepIn K (.ref f22)=true)
    (qa23:PySem.W.findIn K (.ref ca3) "__init__"=some (some (.ref f23))) (qi23:PySem.W.isFn K (.ref f23)=true) (ql23:K.lookup f23=some ⟨oc23,od23,.func (PySem.W.fnOf "__init__" "RowWords.__init__" (defArgs s_RowWords_init) (defBody s_RowWords_init) (defScope s_RowWords_init) .none kV23 dc23 pm23 an23 cd23 ct23),sl23⟩) (qc23:PySem.W.codeIn K cd23 "RowWords.__init__"=true) (qk23:PySem.W.keepIn K (.ref f23)=true)
    (qa24:PySem.W.findIn K (.ref ca3) "draw_word"=some (some (.ref f24))) (qi24:PySem.W.isFn K (.ref f24)=true) (ql24:K.lookup f24=some ⟨oc24,od24,.func (PySem.W.fnOf "draw_word" "RowWords.draw_word" (defArgs s_RowWords_draw_word) (defBody s_RowWords_draw_word) (defScope s_RowWords_draw_word) .none kV24 dc24 pm24 an24 cd24 ct24),sl24⟩) (qc24:PySem.W.codeIn K cd24 "RowWords.draw_word"=true) (qk24:PySem.W.keepIn K (.ref f24)=true)
    (qa25:PySem.W.nsIn K mainGlobals "is_name"=some (some (.ref f25))) (ql25:K.lookup f25=some ⟨oc25,od25,.func (PySem.W.fnOf "is_name" "is_name" (defArgs s_is_name) (defBody s_is_name) (defScope s_is_name) .none kV25 dc25 pm25 an25 cd25 ct25),sl25⟩) (qc25:PySem.W.codeIn K cd25 "is_name"=true) (qk25:PySem.W.keepIn K (.ref f25)=true)
    (qa26:PySem.W.findIn K (.ref ca3) "draw_name"=some (some (.ref f26))) (qi26:PySem.W.isFn K (.ref f26)=true) (ql26:K.lookup f26=some ⟨oc26,od26,.func (PySem.W.fnOf "draw_name" "RowWords.draw_name" (defArgs s_RowWords_draw_name) (defBody s_RowWords_draw_name) (defScope s_RowWords_draw_name) .none kV26 dc26 pm26 an26 cd26 ct26),sl26⟩) (qc26:PySem.W.codeIn K cd26 "RowWords.draw_name"=true) (qk26:PySem.W.keepIn K (.ref f26)=true)
    (qa27:PySem.W.nsIn K mainGlobals "behind_term"=some (some (.ref f27))) (ql27:K.lookup f27=some ⟨oc27,od27,.func (PySem.W.fnOf "behind_term" "behind_term" (defArgs s_behind_term) (defBody s_behind_term) (defScope s_behind_term) .none kV27 dc27 pm27 an27 cd27 ct27),sl27⟩) (qc27:PySem.W.codeIn K cd27 "behind_term"=true) (qk27:PySem.W.keepIn K (.ref f27)=true)
    (qa28:PySem.W.nsIn K mainGlobals "is_worth"=some (some (.ref f28))) (ql28:K.lookup f28=some ⟨oc28,od28,.func (PySem.W.fnOf "is_worth" "is_worth" (defArgs s_is_worth) (defBody s_is_worth) (defScope s_is_worth) .none kV28 dc28 pm28 an28 cd28 ct28),sl28⟩) (qc28:PySem.W.codeIn K cd28 "is_worth"=true) (qk28:PySem.W.keepIn K (.ref f28)=true)
    (qa29:PySem.W.nsIn K mainGlobals "is_figures"=some (some (.ref f29))) (ql29:K.lookup f29=some ⟨oc29,od29,.func (PySem.W.fnOf "is_figures" "is_figures" (defArgs s_is_figures) (defBody s_is_figures) (defScope s_is_figures) .none kV29 dc29 pm29 an29 cd29 ct29),sl29⟩) (qc29:PySem.W.codeIn K cd29 "is_figures"=true) (qk29:PySem.W.keepIn K (.ref f29)=true)
    (qa30:PySem.W.nsIn K mainGlobals "is_numeral"=some (some (.ref f30))) (ql30:K.lookup f30=some ⟨oc30,od30,.func (PySem.W.fnOf "is_numeral" "is_numeral" (defArgs s_is_numeral) (defBody s_is_numeral) (defScope s_is_numeral) .none kV30 dc30 pm30 an30 cd30 ct30),sl30⟩) (qc30:PySem.W.codeIn K cd30 "is_numeral"=true) (qk30:PySem.W.keepIn K (.ref f30)=true)
    (qa31:PySem.W.nsIn K mainGlobals "worth_in"=some (some (.ref f31))) (ql31:K.lookup f31=some ⟨oc31,od31,.func (PySem.W.fnOf "worth_in" "worth_in" (defArgs s_worth_in) (defBody s_worth_in) (defScope s_worth_in) .none kV31 dc31 pm31 an31 cd31 ct31),sl31⟩) (qc31:PySem.W.codeIn K cd31 "worth_in"=true) (qk31:PySem.W.keepIn K (.ref f31)=true)
    (qa32:PySem.W.nsIn K mainGlobals "part_in"=some (some (.ref f32))) (ql32:K.lookup f32=some ⟨oc32,od32,.func (PySem.W.fnOf "part_in" "part_in" (defArgs s_part_in) (defBody s_part_in) (defScope s_part_in) .none kV32 dc32 pm32 an32 cd32 ct32),sl32⟩) (qc32:PySem.W.codeIn K cd32 "part_in"=true) (qk32:PySem.W.keepIn K (.ref f32)=true)
    (qa33:PySem.W.nsIn K mainGlobals "term_from"=some (some (.ref f33))) (ql33:K.lookup f33=some ⟨oc33,od33,.func (PySem.W.fnOf "term_from" "term_from" (defArgs s_term_from) (defBody s_term_from) (defScope s_term_from) .none kV33 dc33 pm33 an33 cd33 ct33),sl33⟩) (qc33:PySem.W.codeIn K cd33 "term_from"=true) (qk33:PySem.W.keepIn K (.ref f33)=true)
    (qa34:PySem.W.findIn K (.ref ca3) "draw_term"=some (some (.ref f34))) (qi34:PySem.W.isFn K (.ref f34)=true) (ql34:K.lookup f34=some ⟨oc34,od34,.func (PySem.W.fnOf "draw_term" "RowWords.draw_term" (defArgs s_RowWords_draw_term) (defBody s_RowWords_draw_term) (defScope s_RowWords_draw_term) .none kV34 dc34 pm34 an34 cd34 ct34),sl34⟩) (qc34:PySem.W.codeIn K cd34 "RowWords.draw_term"=true) (qk34:PySem.W.keepIn K (.ref f34)=true)
    (qa35:PySem.W.findIn K (.ref ca3) "draw_as"=some (some (.ref f35))) (qi35:PySem.W.isFn K (.ref f35)=true) (ql35:K.lookup f35=some ⟨oc35,od35,.func (PySem.W.fnOf "draw_as" "RowWords.draw_as" (defArgs s_RowWords_draw_as) (defBody s_RowWords_draw_as) (defScope s_RowWords_draw_as) .none kV35 dc35 pm35 an35 cd35 ct35),sl35⟩) (qc35:PySem.W.codeIn K cd35 "RowWords.draw_as"=true) (qk35:PySem.W.keepIn K (.ref f35)=true)
    (qa36:PySem.W.nsIn K mainGlobals "take_drawn"=some (some (.ref f36))) (ql36:K.lookup f36=some ⟨oc36,od36,.func (PySem.W.fnOf "take_drawn" "take_drawn" (defArgs s_take_drawn) (defBody s_take_drawn) (defScope s_take_drawn) .none kV36 dc36 pm36 an36 cd36 ct36),sl36⟩) (qc36:PySem.W.codeIn K cd36 "take_drawn"=true) (qk36:PySem.W.keepIn K (.ref f36)=true)
    (qa37:PySem.W.nsIn K mainGlobals "row_drawn"=some (some (.ref f37))) (ql37:K.lookup f37=some ⟨oc37,od37,.func (PySem.W.fnOf "row_drawn" "row_drawn" (defArgs s_row_drawn) (defBody s_row_drawn) (defScope s_row_drawn) .none kV37 dc37 pm37 an37 cd37 ct37),sl37⟩) (qc37:PySem.W.codeIn K cd37 "row_drawn"=true) (qk37:PySem.W.keepIn K (.ref f37)=true)
    (qa38:PySem.W.findIn K (.ref ca3) "draw_end"=some (some (.ref f38))) (qi38:PySem.W.isFn K (.ref f38)=true) (ql38:K.lookup f38=some ⟨oc38,od38,.func (PySem.W.fnOf "draw_end" "RowWords.draw_end" (defArgs s_RowWords_draw_end) (defBody s_RowWords_draw_end) (defScope s_RowWords_draw_end) .none kV38 dc38 pm38 an38 cd38 ct38),sl38⟩) (qc38:PySem.W.codeIn K cd38 "RowWords.draw_end"=true) (qk38:PySem.W.keepIn K (.ref f38)=true)
    (qa39:PySem.W.nsIn K mainGlobals "row_in"=some (some (.ref f39))) (ql39:K.lookup f39=some ⟨oc39,od39,.func (PySem.W.fnOf "row_in" "row_in" (defArgs s_row_in) (defBody s_row_in) (defScope s_row_in) .none kV39 dc39 pm39 an39 cd39 ct39),sl39⟩) (qc39:PySem.W.codeIn K cd39 "row_in"=true) (qk39:PySem.W.keepIn K (.ref f39)=true)
    (qa40:PySem.W.nsIn K mainGlobals "read"=some (some (.ref f40))) (ql40:K.lookup f40=some ⟨oc40,od40,.func (PySem.W.fnOf "read" "read" (defArgs s_read) (defBody s_read) (defScope s_read) .none kV40 dc40 pm40 an40 cd40 ct40),sl40⟩) (qc40:PySem.W.codeIn K cd40 "read"=true) (qk40:PySem.W.keepIn K (.ref f40)=true)
    (qa41:PySem.W.nsIn K mainGlobals "_law_cell_at"=some (some (.ref f41))) (ql41:K.lookup f41=some ⟨oc41,od41,.func (PySem.W.fnOf "_law_cell_at" "_law_cell_at" (defArgs s__law_cell_at) (defBody s__law_cell_at) (defScope s__law_cell_at) .none kV41 dc41 pm41 an41 cd41 ct41),sl41⟩) (qc41:PySem.W.codeIn K cd41 "_law_cell_at"=true) (qk41:PySem.W.keepIn K (.ref f41)=true)
    (qa42:PySem.W.nsIn K mainGlobals "_law_alike"=some (some (.ref f42))) (ql42:K.lookup f42=some ⟨oc42,od42,.func (PySem.W.fnOf "_law_alike" "_law_alike" (defArgs s__law_alike) (defBody s__law_alike) (defScope s__law_alike) .none kV42 dc42 pm42 an42 cd42 ct42),sl42⟩) (qc42:PySem.W.codeIn K cd42 "_law_alike"=true) (qk42:PySem.W.keepIn K (.ref f42)=true)
    (qa43:PySem.W.nsIn K mainGlobals "_law_apart"=some (some (.ref f43))) (ql43:K.lookup f43=some ⟨oc43,od43,.func (PySem.W.fnOf "_law_apart" "_law_apart" (defArgs s__law_apart) (defBody s__law_apart) (defScope s__law_apart) .none kV43 dc43 pm43 an43 cd43 ct43),sl43⟩) (qc43:PySem.W.codeIn K cd43 "_law_apart"=true) (qk43:PySem.W.keepIn K (.ref f43)=true)
    (qa44:PySem.W.nsIn K mainGlobals "law"=some (some (.ref f44))) (ql44:K.lookup f44=some ⟨oc44,od44,.func (PySem.W.fnOf "law" "law" (defArgs s_law) (defBody s_law) (defScope s_law) .none kV44 dc44 pm44 an44 cd44 ct44),sl44⟩) (qc44:PySem.W.codeIn K cd44 "law"=true) (qk44:PySem.W.keepIn K (.ref f44)=true)
    (qz0:PySem.W.nsIn K mainGlobals "all"=some none)
    (qz1:PySem.W.nsIn K mainGlobals "bool"=some none)
    (qz2:PySem.W.nsIn K mainGlobals "enumerate"=some none)
    (qz3:PySem.W.nsIn K mainGlobals "int"=some none)
    (qz4:PySem.W.nsIn K mainGlobals "isinstance"=some none)
    (qz5:PySem.W.nsIn K mainGlobals "len"=some none)
    (qz6:PySem.W.nsIn K mainGlobals "list"=some none)
    (qz7:PySem.W.nsIn K mainGlobals "max"=some none)
    (qz8:PySem.W.nsIn K mainGlobals "range"=some none)
    (qz9:PySem.W.nsIn K mainGlobals "reversed"=some none)
    (qz10:PySem.W.nsIn K mainGlobals "str"=some none)
    (qz11:PySem.W.nsIn K mainGlobals "sum"=some none)
    (qz12:PySem.W.nsIn K mainGlobals "tuple"=some none)
    (qz13:PySem.W.nsIn K mainGlobals "zip"=some none)
    (qg0:PySem.W.nsIn K mainGlobals "FIGURES"=some (some (.str "0123456789" gt0)))
    (qg1:PySem.W.nsIn K mainGlobals "JOINING"=some (some (.ref ga1))) (qh1:K.lookup ga1=some ⟨.type "tuple",none,.seq #[.str "plus" gt1_0,.str "minus" gt1_1,.str "times" gt1_2,.str "over" gt1_3,.str "rest" gt1_4,.str "under" gt1_5,.str "same" gt1_6] gn1,#[]⟩)
    (qg2:PySem.W.nsIn K mainGlobals "LETTERS"=some (some (.str "abcdefghijklmnopqrstuvwxyz" gt2)))
    (qg3:PySem.W.nsIn K mainGlobals "MOST_BLOCKS"=some (some (.int 5 gt3)))
    (qg4:PySem.W.nsIn K mainGlobals "MOST_FIGURES"=some (some (.int 31 gt4)))
    (qg5:PySem.W.nsIn K mainGlobals "MOST_LETTERS"=some (some (.int 6 gt5)))
    (qg6:PySem.W.nsIn K mainGlobals "MOST_ROWS"=some (some (.int 40 gt6)))
    (qg7:PySem.W.nsIn K mainGlobals "MOST_WORDS_reader"=some (some (.int 60 gt7)))
    (qg8:PySem.W.nsIn K mainGlobals "MOST_WORDS_terms"=some (some (.int 60 gt8)))
    (qg9:PySem.W.nsIn K mainGlobals "ROW_WORDS"=some (some (.ref ga9))) (qh9:K.lookup ga9=some ⟨.type "tuple",none,.seq #[.str "take" gt9_0,.str "give" gt9_1,.str "let" gt9_2,.str "say" gt9_3,.str "off" gt9_4,.str "if" gt9_5,.str "else" gt9_6,.str "end" gt9_7,.str "as" gt9_8] gn9,#[]⟩)
    (qv0:PySem.W.nsIn K mainGlobals "NoNumber"=some (some (.ref ca0)))
    (qv1:PySem.W.nsIn K mainGlobals "NoTerm"=some (some (.ref ca1)))
    (qv2:PySem.W.nsIn K mainGlobals "Reading"=some (some (.ref ca2)))
    (qv3:PySem.W.nsIn K mainGlobals "RowWords"=some (some (.ref ca3)))
    (pg2:PySem.W.plainGet K ca2 Str.empty=true) (pd2:PySem.W.hasDictIn K ca2=true) (po2:PySem.W.plainOver K ca2=true) (pe2:PySem.W.findIn K (.ref ca2) "__setattr__"=some (some (.builtin "object.__setattr__"))) (pm2_:PySem.W.makesIn K ca2=true) (pk2:PySem.W.keepIn K (.ref ca2)=true)
    (pn2_0:PySem.W.findIn K (.ref ca2) "blocks"=some none)
    (pn2_1:PySem.W.findIn K (.ref ca2) "rows"=some none)
    (pn2_2:PySem.W.findIn K (.ref ca2) "turned"=some none)
    (pg3:PySem.W.plainGet K ca3 Str.empty=true) (pd3:PySem.W.hasDictIn K ca3=true) (po3:PySem.W.plainOver K ca3=true) (pe3:PySem.W.findIn K (.ref ca3) "__setattr__"=some (some (.builtin "object.__setattr__"))) (pm3_:PySem.W.makesIn K ca3=true) (pk3:PySem.W.keepIn K (.ref ca3)=true)
    (pn3_0:PySem.W.findIn K (.ref ca3) "at"=some none)
    (pn3_1:PySem.W.findIn K (.ref ca3) "number"=some none)
    (pn3_2:PySem.W.findIn K (.ref ca3) "words"=some none)
    (rx0:PySem.W.excIn K ca1 bmVal newVal=true)
    (ry0_0:PySem.W.findIn K (.ref ca1) "__getattribute__"=some (some (.builtin "BaseException.__getattribute__")))
    (ry0_1:PySem.W.findIn K (.ref ca1) "__getattr__"=some none)
    (ry0_2:PySem.W.findIn K (.ref ca1) "__class__"=some (some (.builtin "object.__class__")))
    (ry0_3:PySem.W.mroIn K ca1 (.type "object")=some true)
    (ry0_4:PySem.W.mroIn K ca1 (.type "BaseException")=some true)
    (ry0_5:PySem.W.specialIn K (.builtin "object.__class__") "__get__"=some (some (.builtin "getset_descriptor.__get__")))
    (ry0_6:PySem.W.takesIn K (.builtin "object.__class__")=some true)
    (ry0_7:PySem.W.clsIn K ca1=some cl0)
    (rx1:PySem.W.excIn K ca0 bmVal newVal=true)
    (ry1_0:PySem.W.findIn K (.ref ca0) "__getattribute__"=some (some (.builtin "BaseException.__getattribute__")))
    (ry1_1:PySem.W.findIn K (.ref ca0) "__getattr__"=some none)
    (ry1_2:PySem.W.findIn K (.ref ca0) "__class__"=some (some (.builtin "object.__class__")))
    (ry1_3:PySem.W.mroIn K ca0 (.type "object")=some true)
    (ry1_4:PySem.W.mroIn K ca0 (.type "BaseException")=some true)
    (ry1_5:PySem.W.specialIn K (.builtin "object.__class__") "__get__"=some (some (.builtin "getset_descriptor.__get__")))
    (ry1_6:PySem.W.takesIn K (.builtin "object.__class__")=some true)
    (ry1_7:PySem.W.clsIn K ca0=some cl1):∃ t,Txt K mg t:=by
  have F0:=fun_mk (st:=s__law_spread) ql0 qc0 qk0
  have F1:=fun_mk (st:=s__law_letters) ql1 qc1 qk1
  have F2:=fun_mk (st:=s__law_free) ql2 qc2 qk2
  have F3:=fun_mk (st:=s__law_names) ql3 qc3 qk3
  have F4:=fun_mk (st:=s__law_joined) ql4 qc4 qk4
  have F5:=fun_mk (st:=s__law_leaf) ql5 qc5 qk5
  have F6:=fun_mk (st:=s__law_term) ql6 qc6 qk6
  have F7:=fun_mk (st:=s__law_folded) ql7 qc7 qk7
  have F8:=fun_mk (st:=s__law_row) ql8 qc8 qk8
  have F9:=fun_mk (st:=s__law_rows) ql9 qc9 qk9
  have F10:=fun_mk (st:=s__law_copy) ql10 qc10 qk10
  have F11:=fun_mk (st:=s_numeral) ql11 qc11 qk11
  have F12:=fun_mk (st:=s_words_of) ql12 qc12 qk12
  have F13:=fun_mk (st:=s_row_words) ql13 qc13 qk13
  have F14:=fun_mk (st:=s_block_texts) ql14 qc14 qk14
  have F15:=fun_mk (st:=s_row_texts) ql15 qc15 qk15
  have F16:=fun_mk (st:=s_shown) ql16 qc16 qk16
  have F17:=fun_mk (st:=s_Reading_init) ql17 qc17 qk17
  have F18:=fun_mk (st:=s_Reading_turns) ql18 qc18 qk18
  have F19:=fun_mk (st:=s_Reading_shuts) ql19 qc19 qk19
  have F20:=fun_mk (st:=s_Reading_innermost) ql20 qc20 qk20
  have F21:=fun_mk (st:=s_Reading_begins) ql21 qc21 qk21
  have F22:=fun_mk (st:=s_Reading_reads) ql22 qc22 qk22
  have F23:=fun_mk (st:=s_RowWords_init) ql23 qc23 qk23
  have F24:=fun_mk (st:=s_RowWords_draw_word) ql24 qc24 qk24
  have F25:=fun_mk (st:=s_is_name) ql25 qc25 qk25
  have F26:=fun_mk (st:=s_RowWords_draw_name) ql26 qc26 qk26
  have F27:=fun_mk (st:=s_behind_term) ql27 qc27 qk27
  have F28:=fun_mk (st:=s_is_worth) ql28 qc28 qk28
  have F29:=fun_mk (st:=s_is_figures) ql29 qc29 qk29
  have F30:=fun_mk (st:=s_is_numeral) ql30 qc30 qk30
  have F31:=fun_mk (st:=s_worth_in) ql31 qc31 qk31
  have F32:=fun_mk (st:=s_part_in) ql32 qc32 qk32
  have F33:=fun_mk (st:=s_term_from) ql33 qc33 qk33
  have F34:=fun_mk (st:=s_RowWords_draw_term) ql34 qc34 qk34
  have F35:=fun_mk (st:=s_RowWords_draw_as) ql35 qc35 qk35
  have F36:=fun_mk (st:=s_take_drawn) ql36 qc36 qk36
  have F37:=fun_mk (st:=s_row_drawn) ql37 qc37 qk37
  have F38:=fun_mk (st:=s_RowWords_draw_end) ql38 qc38 qk38
  have F39:=fun_mk (st:=s_row_in) ql39 qc39 qk39
  have F40:=fun_mk (st:=s_read) ql40 qc40 qk40
  have F41:=fun_mk (st:=s__law_cell_at) ql41 qc41 qk41
  have F42:=fun_mk (st:=s__law_alike) ql42 qc42 qk42
  have F43:=fun_mk (st:=s__law_apart) ql43 qc43 qk43
  have F44:=fun_mk (st:=s_law) ql44 qc44 qk44
  exact ⟨⟨f0,_,f1,_,f2,_,f3,_,f4,_,f5,_,f6,_,f7,_,f8,_,f9,_,f10,_,f11,_,f12,_,f13,_,f14,_,f15,_,f16,_,f17,_,f18,_,f19,_,f20,_,f21,_,f22,_,f23,_,f24,_,f25,_,f26,_,f27,_,f28,_,f29,_,f30,_,f31,_,f32,_,f33,_,f34,_,f35,_,f36,_,f37,_,f38,_,f39,_,f40,_,f41,_,f42,_,f43,_,f44,_,gt0,ga1,gt2,gt3,gt4,gt5,gt6,gt7,gt8,ga9,ca0,ca1,ca2,ca3⟩,⟨F0,F0.binds (ps:=["cell","many"]) (fun _ _ _ _ _ _ us hl=>match us,hl with | [_,_],_=>rfl),PySem.W.mg_of X G qa0,
    F1,F1.binds (ps:=["number","many"]) (fun _ _ _ _ _ _ us hl=>match us,hl with | [_,_],_=>rfl),PySem.W.mg_of X G qa1,
    F2,F2.binds (ps:=["name"]) (fun _ _ _ _ _ _ us hl=>match us,hl with | [_],_=>rfl),PySem.W.mg_of X G qa2,
    F3,F3.binds (ps:=["cell"]) (fun _ _ _ _ _ _ us hl=>match us,hl with | [_],_=>rfl),PySem.W.mg_of X G qa3,
    F4,F4.binds (ps:=["some","number"]) (fun _ _ _ _ _ _ us hl=>match us,hl with | [_,_],_=>rfl),PySem.W.mg_of X G qa4,
    F5,F5.binds (ps:=["number","names"]) (fun _ _ _ _ _ _ us hl=>match us,hl with | [_,_],_=>rfl),PySem.W.mg_of X G qa5,
    F6,F6.binds (ps:=["xs","names"]) (fun _ _ _ _ _ _ us hl=>match us,hl with | [_,_],_=>rfl),PySem.W.mg_of X G qa6,
    F7,F7.binds (ps:=["some","cell","names"]) (fun _ _ _ _ _ _ us hl=>match us,hl with | [_,_,_],_=>rfl),PySem.W.mg_of X G qa7,
    F8,F8.binds (ps:=["cell","names"]) (fun _ _ _ _ _ _ us hl=>match us,hl with | [_,_],_=>rfl),PySem.W.mg_of X G qa8,
    F9,F9.binds (ps:=["cells","names"]) (fun _ _ _ _ _ _ us hl=>match us,hl with | [_,_],_=>rfl),PySem.W.mg_of X G qa9,
    F10,F10.binds (ps:=["rows"]) (fun _ _ _ _ _ _ us hl=>match us,hl with | [_],_=>rfl),PySem.W.mg_of X G qa10,
    F11,F11.binds (ps:=["worth"]) (fun _ _ _ _ _ _ us hl=>match us,hl with | [_],_=>rfl),PySem.W.mg_of X G qa11,
    F12,F12.binds (ps:=["term"]) (fun _ _ _ _ _ _ us hl=>match us,hl with | [_],_=>rfl),PySem.W.mg_of X G qa12,
    F13,F13.binds (ps:=["row"]) (fun _ _ _ _ _ _ us hl=>match us,hl with | [_],_=>rfl),PySem.W.mg_of X G qa13,
    F14,F14.binds (ps:=["row"]) (fun _ _ _ _ _ _ us hl=>match us,hl with | [_],_=>rfl),PySem.W.mg_of X G qa14,
    F15,F15.binds (ps:=["rows"]) (fun _ _ _ _ _ _ us hl=>match us,hl with | [_],_=>rfl),PySem.W.mg_of X G qa15,
    F16,F16.binds (ps:=["rows"]) (fun _ _ _ _ _ _ us hl=>match us,hl with | [_],_=>rfl),PySem.W.mg_of X G qa16,
    F17,F17.binds (ps:=["self"]) (fun _ _ _ _ _ _ us hl=>match us,hl with | [_],_=>rfl),
    F18,F18.binds (ps:=["self","number"]) (fun _ _ _ _ _ _ us hl=>match us,hl with | [_,_],_=>rfl),⟨qa18,qi18,qk18⟩,
    F19,F19.binds (ps:=["self","number"]) (fun _ _ _ _ _ _ us hl=>match us,hl with | [_,_],_=>rfl),⟨qa19,qi19,qk19⟩,
    F20,F20.binds (ps:=["self"]) (fun _ _ _ _ _ _ us hl=>match us,hl with | [_],_=>rfl),⟨qa20,qi20,qk20⟩,
    F21,F21.binds (ps:=["self","row","number"]) (fun _ _ _ _ _ _ us hl=>match us,hl with | [_,_,_],_=>rfl),⟨qa21,qi21,qk21⟩,
    F22,F22.binds (ps:=["self","row","number"]) (fun _ _ _ _ _ _ us hl=>match us,hl with | [_,_,_],_=>rfl),⟨qa22,qi22,qk22⟩,
    F23,F23.binds (ps:=["self","words","number"]) (fun _ _ _ _ _ _ us hl=>match us,hl with | [_,_,_],_=>rfl),
    F24,F24.binds (ps:=["self"]) (fun _ _ _ _ _ _ us hl=>match us,hl with | [_],_=>rfl),⟨qa24,qi24,qk24⟩,
    F25,F25.binds (ps:=["text"]) (fun _ _ _ _ _ _ us hl=>match us,hl with | [_],_=>rfl),PySem.W.mg_of X G qa25,
    F26,F26.binds (ps:=["self"]) (fun _ _ _ _ _ _ us hl=>match us,hl with | [_],_=>rfl),⟨qa26,qi26,qk26⟩,
    F27,F27.binds (ps:=["words","at"]) (fun _ _ _ _ _ _ us hl=>match us,hl with | [_,_],_=>rfl),PySem.W.mg_of X G qa27,
    F28,F28.binds (ps:=["thing"]) (fun _ _ _ _ _ _ us hl=>match us,hl with | [_],_=>rfl),PySem.W.mg_of X G qa28,
    F29,F29.binds (ps:=["text"]) (fun _ _ _ _ _ _ us hl=>match us,hl with | [_],_=>rfl),PySem.W.mg_of X G qa29,
    F30,F30.binds (ps:=["text"]) (fun _ _ _ _ _ _ us hl=>match us,hl with | [_],_=>rfl),PySem.W.mg_of X G qa30,
    F31,F31.binds (ps:=["text"]) (fun _ _ _ _ _ _ us hl=>match us,hl with | [_],_=>rfl),PySem.W.mg_of X G qa31,
    F32,F32.binds (ps:=["word"]) (fun _ _ _ _ _ _ us hl=>match us,hl with | [_],_=>rfl),PySem.W.mg_of X G qa32,
    F33,F33.binds (ps:=["words","at"]) (fun _ _ _ _ _ _ us hl=>match us,hl with | [_,_],_=>rfl),PySem.W.mg_of X G qa33,
    F34,F34.binds (ps:=["self"]) (fun _ _ _ _ _ _ us hl=>match us,hl with | [_],_=>rfl),⟨qa34,qi34,qk34⟩,
    F35,F35.binds (ps:=["self"]) (fun _ _ _ _ _ _ us hl=>match us,hl with | [_],_=>rfl),⟨qa35,qi35,qk35⟩,
    F36,F36.binds (ps:=["words"]) (fun _ _ _ _ _ _ us hl=>match us,hl with | [_],_=>rfl),PySem.W.mg_of X G qa36,
    F37,F37.binds (ps:=["words"]) (fun _ _ _ _ _ _ us hl=>match us,hl with | [_],_=>rfl),PySem.W.mg_of X G qa37,
    F38,F38.binds (ps:=["self"]) (fun _ _ _ _ _ _ us hl=>match us,hl with | [_],_=>rfl),⟨qa38,qi38,qk38⟩,
    F39,F39.binds (ps:=["text","number"]) (fun _ _ _ _ _ _ us hl=>match us,hl with | [_,_],_=>rfl),PySem.W.mg_of X G qa39,
    F40,F40.binds (ps:=["text"]) (fun _ _ _ _ _ _ us hl=>match us,hl with | [_],_=>rfl),PySem.W.mg_of X G qa40,
    F41,F41.binds (ps:=["script","k"]) (fun _ _ _ _ _ _ us hl=>match us,hl with | [_,_],_=>rfl),PySem.W.mg_of X G qa41,
    F42,F42.binds (ps:=["found","due"]) (fun _ _ _ _ _ _ us hl=>match us,hl with | [_,_],_=>rfl),PySem.W.mg_of X G qa42,
    F43,F43.binds (ps:=["found","rows"]) (fun _ _ _ _ _ _ us hl=>match us,hl with | [_,_],_=>rfl),PySem.W.mg_of X G qa43,
    F44,F44.binds (ps:=["script"]) (fun _ _ _ _ _ _ us hl=>match us,hl with | [_],_=>rfl),PySem.W.mg_of X G qa44,
    fun s v=>.of_eq rfl,
    PySem.W.mg_none_of X G qz0,
    PySem.W.mg_none_of X G qz1,
    PySem.W.mg_none_of X G qz2,
    PySem.W.mg_none_of X G qz3,
    PySem.W.mg_none_of X G qz4,
    PySem.W.mg_none_of X G qz5,
    PySem.W.mg_none_of X G qz6,
    PySem.W.mg_none_of X G qz7,
    PySem.W.mg_none_of X G qz8,
    PySem.W.mg_none_of X G qz9,
    PySem.W.mg_none_of X G qz10,
    PySem.W.mg_none_of X G qz11,
    PySem.W.mg_none_of X G qz12,
    PySem.W.mg_none_of X G qz13,
    PySem.W.mg_of X G qg0,
    PySem.W.mg_of X G qg1,fun _=>.inr ⟨_,_,_,qh1,rfl,rfl,(by show 7≤sizeLine;decide),(.cons ⟨_,rfl⟩ (.cons ⟨_,rfl⟩ (.cons ⟨_,rfl⟩ (.cons ⟨_,rfl⟩ (.cons ⟨_,rfl⟩ (.cons ⟨_,rfl⟩ (.cons ⟨_,rfl⟩ .nil)))))))⟩,
    PySem.W.mg_of X G qg2,
    PySem.W.mg_of X G qg3,
    PySem.W.mg_of X G qg4,
    PySem.W.mg_of X G qg5,
    PySem.W.mg_of X G qg6,
    PySem.W.mg_of X G qg7,
    PySem.W.mg_of X G qg8,
    PySem.W.mg_of X G qg9,fun _=>.inr ⟨_,_,_,qh9,rfl,rfl,(by show 9≤sizeLine;decide),(.cons ⟨_,rfl⟩ (.cons ⟨_,rfl⟩ (.cons ⟨_,rfl⟩ (.cons ⟨_,rfl⟩ (.cons ⟨_,rfl⟩ (.cons ⟨_,rfl⟩ (.cons ⟨_,rfl⟩ (.cons ⟨_,rfl⟩ (.cons ⟨_,rfl⟩ .nil)))))))))⟩,
    PySem.W.mg_of X G qv0,
    PySem.W.mg_of X G qv1,
    PySem.W.mg_of X G qv2,
    PySem.W.mg_of X G qv3,
    ⟨pg2,pd2,po2,pe2⟩,
    ⟨pm2_,qa17,qi17,pk2⟩,
    pn2_0,
    pn2_1,
    pn2_2,
    ⟨pg3,pd3,po3,pe3⟩,
    ⟨pm3_,qa23,qi23,pk3⟩,
    pn3_0,
    pn3_1,
    pn3_2,
    rx0,
    ⟨⟨ry0_0,ry0_1,ry0_2,ry0_3,ry0_4,ry0_5,ry0_6⟩,by rw [ry0_7];rfl⟩,
    rx1,
    ⟨⟨ry1_0,ry1_1,ry1_2,ry1_3,ry1_4,ry1_5,ry1_6⟩,by rw [ry1_7];rfl⟩⟩⟩
def IntFact (K:PySem.W.Frag):Prop:=PySem.W.kitOne K (.type "int") (.type "bool")=some false
def NoInt (K:PySem.W.Frag) (H:Hp) (x:V):Prop:=∃ T b,TyOf K H x (.type T)∧PySem.W.kitOne K (.type T) (.type "int")=some b∧(b=true→PySem.W.kitOne K (.type T) (.type "bool")=some true)
structure KF (K:PySem.W.Frag):Prop where
  i_b:PySem.W.kitOne K (.type "int") (.type "bool")=some false
  s_b:PySem.W.kitOne K (.type "str") (.type "bool")=some false
  s_i:PySem.W.kitOne K (.type "str") (.type "int")=some false
  i_s:PySem.W.kitOne K (.type "int") (.type "str")=some false
  t_l:PySem.W.kitOne K (.type "tuple") (.type "list")=some false
  l_t:PySem.W.kitOne K (.type "list") (.type "tuple")=some false
  i_l:PySem.W.kitOne K (.type "int") (.type "list")=some false
  i_t:PySem.W.kitOne K (.type "int") (.type "tuple")=some false
  s_l:PySem.W.kitOne K (.type "str") (.type "list")=some false
  s_t:PySem.W.kitOne K (.type "str") (.type "tuple")=some false
def okWs (ws:List Str):Prop:=∀ w∈ws,w.length≤100∧Asc w
def behR (C:Addr) (o:Option Nat) (k:Nat) (Q:VK) (E:XK) (H:Hp):Prop:=match o with
  | some n=>if n≤60 then Q (.int ((k + n:Nat):Int)) H else E (.ref C) none H
  | none=>E (.ref C) none H
def sp_is_worth (K:PySem.W.Frag):Sp:=fun vs H Q _=>∃ x,vs=[x]∧((∃ i,x=.int i∧∀ H',Same H H'→Q (.bl (inW i)) H')∨(NoInt K H x∧∀ H',Same H H'→Q (.bl false) H'))
def sp_numeral:Sp:=fun vs H Q _=>∃ w,vs=[.int w]∧inW w=true∧∀ H',Same H H'→Q (.str (numS w)) H'
def sp_is_figures:Sp:=fun vs H Q _=>∃ x:Str,vs=[.str x]∧x.length≤1000∧∀ H',Same H H'→Q (.bl (isFig x)) H'
def sp_is_numeral:Sp:=fun vs H Q _=>∃ x:Str,vs=[.str x]∧x.length≤1000∧∀ H',Same H H'→Q (.bl (isNum x)) H'
def sp_worth_in (t:Adr):Sp:=fun vs H Q E=>∃ x:Str,vs=[.str x]∧x.length≤1000∧Asc x∧∀ H',Same H H'→if isNum x=true then Q (.int (valOf x)) H' else E (.ref t.c_NoNumber) none H'
def sp_is_name:Sp:=fun vs H Q _=>∃ x:Str,vs=[.str x]∧x.length≤1000∧∀ H',Same H H'→Q (.bl (isName x)) H'
def sp_part_in (t:Adr):Sp:=fun vs H Q E=>∃ x:Str,vs=[.str x]∧x.length≤1000∧Asc x∧∀ H',Same H H'→(match partW x with | some v=>Q v H' | none=>E (.ref t.c_NoTerm) none H')
def sp_behind_term (t:Adr):Sp:=fun vs H Q E=>∃ (a:Addr) (ws:List Str) (k:Nat),vs=[.ref a,.int k]∧H a=some (.lst (ws.map V.str))∧ws.length≤1000∧∀ H',Same H H'→behR t.c_NoTerm (scanE (ws.drop k) 1) k Q E H'
def sp_term_from (t:Adr):Sp:=fun vs H Q E=>∃ (a:Addr) (ws:List Str) (k:Nat),vs=[.ref a,.int k]∧H a=some (.lst (ws.map V.str))∧ws.length≤1000∧okWs ws ∧
  ((∃ ps e,parse ws k=some (ps,e)∧∀ H' p r,Same H H'→H' p=some (.tup [.ref r,.int (e:Nat)])→H' r=some (.tup ps)→Q (.ref p) H')∨(parse ws k=none∧∀ H',Same H H'→E (.ref t.c_NoTerm) none H'))
structure WrF (K:PySem.W.Frag) (t:Adr):Prop where
  cl:Cls K t.c_RowWords
  n1:NoAttr K t.c_RowWords "words"
  n2:NoAttr K t.c_RowWords "number"
  n3:NoAttr K t.c_RowWords "at"
structure WrAt (t:Adr) (H:Hp) (x dx wa:Addr) (ws:List Str) (n:Int) (k:Nat):Prop where
  ix:H x=some (.ins t.c_RowWords dx [("words",.ref wa),("number",.int n),("at",.int k)])
  hw:H wa=some (.lst (ws.map V.str))
def SameX (x:Addr) (H H':Hp):Prop:=∀ b o,b≠x→H b=some o→H' b=some o
def sp_RowWords_init (t:Adr):Sp:=fun vs H Q _=>∃ x wa n dx ws,vs=[.ref x,.ref wa,.int n]∧H x=some (.ins t.c_RowWords dx [])∧H wa=some (.lst (List.map V.str ws))∧∀ H',SameX x H H'→WrAt t H' x dx wa ws n 0→Q .non H'
def sp_RowWords_draw_word (t:Adr):Sp:=fun vs H Q _=>∃ x dx wa ws n k w,vs=[.ref x]∧WrAt t H x dx wa ws n k∧ws[k]?=some w∧∀ H',SameX x H H'→WrAt t H' x dx wa ws n (k + 1)→Q (.str w) H'
def sp_RowWords_draw_as (t:Adr):Sp:=fun vs H Q _=>∃ x dx wa ws n k,vs=[.ref x]∧WrAt t H x dx wa ws n k∧ws[k]?=some "as"∧∀ H',SameX x H H'→WrAt t H' x dx wa ws n (k + 1)→Q .non H'
def sp_RowWords_draw_name (t:Adr):Sp:=fun vs H Q _=>∃ x dx wa ws n k w,vs=[.ref x]∧WrAt t H x dx wa ws n k∧ws[k]?=some w∧isName w=true∧∀ H',SameX x H H'→WrAt t H' x dx wa ws n (k + 1)→Q (.str w) H'
def sp_RowWords_draw_term (t:Adr):Sp:=fun vs H Q _=>∃ x dx wa ws n k ps e,vs=[.ref x]∧WrAt t H x dx wa ws n k∧parse ws k=some (ps,e)∧ws.length≤1000∧okWs ws∧∀ H' r,SameX x H H'→WrAt t H' x dx wa ws n e→H' r=some (.tup ps)→r≠x→Q (.ref r) H'
def sp_RowWords_draw_end (t:Adr):Sp:=fun vs H Q _=>∃ x dx wa ws n,vs=[.ref x]∧WrAt t H x dx wa ws n ws.length∧∀ H',Same H H'→Q .non H'
inductive Hd where
  | take (sh:Str) (T:Tw) (sl:Str)
  | give (sh:Str) (T U:Tw)
  | lt (sl:Str) (T:Tw)
  | say (T:Tw)
  | off (T:Tw)
  | iff (T:Tw)
  | els
  | nd
def Hd.words:Hd→List Str
  | .take sh T sl=>([("take":Str),sh] ++ pre T) ++ [("as":Str),sl]
  | .give sh T U=>([("give":Str),sh] ++ pre T) ++ pre U
  | .lt sl T=>[("let":Str),sl] ++ pre T
  | .say T=>[("say":Str)] ++ pre T
  | .off T=>[("off":Str)] ++ pre T
  | .iff T=>[("if":Str)] ++ pre T
  | .els=>[("else":Str)]
  | .nd=>[("end":Str)]
structure TmOk (T:Tw):Prop where
  wf:wfT T
  ok:okT T=true
  ws:okWs (pre T)
def Hd.ok:Hd→Prop
  | .take sh T sl=>isName sh=true∧TmOk T∧isName sl=true
  | .give sh T U=>isName sh=true∧TmOk T∧TmOk U
  | .lt sl T=>isName sl=true∧TmOk T
  | .say T=>TmOk T
  | .off T=>TmOk T
  | .iff T=>TmOk T
  | .els=>True
  | .nd=>True
def HdAt (F:Addr→Prop) (H:Hp) (v:V):Hd→Prop
  | .take sh T sl=>∃ r te,v=.ref r∧H r=some (.tup [.str "take",.str sh,.ref te,.str sl])∧H te=some (.tup (pst T))
  | .give sh T U=>∃ r te tf,v=.ref r∧H r=some (.tup [.str "give",.str sh,.ref te,.ref tf])∧H te=some (.tup (pst T))∧H tf=some (.tup (pst U))
  | .lt sl T=>∃ r te,v=.ref r∧H r=some (.tup [.str "let",.str sl,.ref te])∧H te=some (.tup (pst T))
  | .say T=>∃ r te,v=.ref r∧H r=some (.tup [.str "say",.ref te])∧H te=some (.tup (pst T))
  | .off T=>∃ r te,v=.ref r∧H r=some (.tup [.str "off",.ref te])∧H te=some (.tup (pst T))
  | .iff T=>∃ r te la lb,v=.ref r∧H r=some (.tup [.str "if",.ref te,.ref la,.ref lb])∧H te=some (.tup (pst T))∧H la=some (.lst [])∧H lb=some (.lst [])∧F la∧F lb∧la≠lb
  | .els=>∃ r,v=.ref r∧H r=some (.tup [.str "else"])
  | .nd=>∃ r,v=.ref r∧H r=some (.tup [.str "end"])
def sp_take_drawn (t:Adr):Sp:=fun vs H Q _=>∃ x dx wa ws n sh T sl,vs=[.ref x]∧WrAt t H x dx wa ws n 1∧ws=Hd.words (.take sh T sl)∧Hd.ok (.take sh T sl)∧okWs ws∧ws.length≤60∧∀ H' v,SameX x H H'→WrAt t H' x dx wa ws n ws.length→HdAt (fun b=>H b=none) H' v (.take sh T sl)→Q v H'
def sp_row_drawn (t:Adr):Sp:=fun vs H Q _=>∃ x dx wa ws n hd,vs=[.ref x]∧WrAt t H x dx wa ws n 0∧ws=Hd.words hd∧hd.ok∧okWs ws∧ws.length≤60∧∀ H' v,SameX x H H'→WrAt t H' x dx wa ws n ws.length→HdAt (fun b=>H b=none) H' v hd→Q v H'
def bl32:Str:=⟨#[32]⟩
def nl10:Str:=⟨#[10]⟩
def Hd.line (h:Hd):Str:=Str.join bl32 h.words
structure LnOk (hd:Hd):Prop where
  ok:hd.ok
  ws:okWs hd.words
  ln:hd.words.length≤60
  bl:∀ w∈hd.words,32 ∉ w.cps.toList∧10 ∉ w.cps.toList
def sp_row_in (t:Adr):Sp:=fun vs H Q _=>∃ (x:Str) (n:Nat) (hd:Hd),vs=[.str x,.int n]∧x=hd.line∧LnOk hd∧n < 40∧∀ H' v,Same H H'→HdAt (fun b=>H b=none) H' v hd→Q v H'
structure RdF (K:PySem.W.Frag) (t:Adr):Prop where
  cl:Cls K t.c_Reading
  n1:NoAttr K t.c_Reading "rows"
  n2:NoAttr K t.c_Reading "blocks"
  n3:NoAttr K t.c_Reading "turned"
structure RdAt (t:Adr) (H:Hp) (x dx rl bl tl:Addr) (blocks:List V) (turned:List Bool):Prop where
  ix:H x=some (.ins t.c_Reading dx [("rows",.ref rl),("blocks",.ref bl),("turned",.ref tl)])
  hb:H bl=some (.lst blocks)
  ht:H tl=some (.lst (turned.map V.bl))
  n1:rl≠bl
  n2:rl≠tl
  n3:bl≠tl
  le:blocks.length=turned.length
  l5:blocks.length≤5
def Inn (H:Hp) (rl:Addr) (blocks:List V) (turned:List Bool) (inn:Addr):Prop:=(blocks=[]∧inn=rl)∨∃ bs r hd te la lb cs c,blocks=bs ++ [.ref r]∧turned=cs ++ [c]∧H r=some (.tup [hd,te,.ref la,.ref lb])∧inn=if c=true then lb else la
def sp_Reading_init (t:Adr):Sp:=fun vs H Q _=>∃ x dx,vs=[.ref x]∧H x=some (.ins t.c_Reading dx [])∧∀ H' rl bl tl,SameX x H H'→RdAt t H' x dx rl bl tl [] []→H' rl=some (.lst [])→H rl=none→H bl=none→H tl=none→Q .non H'
def sp_Reading_innermost (t:Adr):Sp:=fun vs H Q _=>∃ x dx rl bl tl blocks turned inn,vs=[.ref x]∧RdAt t H x dx rl bl tl blocks turned∧Inn H rl blocks turned inn∧∀ H',Same H H'→Q (.ref inn) H'
def sp_Reading_begins (t:Adr):Sp:=fun vs H Q _=>∃ x v n dx rl bl tl blocks turned inn zs,vs=[.ref x,v,n]∧RdAt t H x dx rl bl tl blocks turned∧Inn H rl blocks turned inn∧H inn=some (.lst zs)∧zs.length≤1000∧inn≠bl∧inn≠tl∧blocks.length < 5 ∧
  ∀ H1,Same H H1→Q .non (upd (upd (upd H1 inn (.lst (zs ++ [v]))) bl (.lst (blocks ++ [v]))) tl (.lst ((turned ++ [false]).map V.bl)))
def sp_Reading_turns (t:Adr):Sp:=fun vs H Q _=>∃ x n dx rl bl tl blocks turned b,vs=[.ref x,n]∧RdAt t H x dx rl bl tl (blocks ++ [b]) (turned ++ [false])∧∀ H1,Same H H1→Q .non (upd H1 tl (.lst ((turned ++ [true]).map V.bl)))
def sp_Reading_shuts (t:Adr):Sp:=fun vs H Q _=>∃ x n dx rl bl tl blocks turned b c,vs=[.ref x,n]∧RdAt t H x dx rl bl tl (blocks ++ [b]) (turned ++ [c])∧∀ H1,Same H H1→Q .non (upd (upd H1 bl (.lst blocks)) tl (.lst (turned.map V.bl)))
def Hd.plain:Hd→Prop
  | .iff _=>False
  | .els=>False
  | .nd=>False
  | _=>True
def sp_Reading_reads (t:Adr):Sp:=fun vs H Q _=>∃ x v n dx rl bl tl blocks turned hd F,vs=[.ref x,v,n]∧RdAt t H x dx rl bl tl blocks turned∧HdAt F H v hd ∧
  ((hd=.els∧∃ bs b cs,blocks=bs ++ [b]∧turned=cs ++ [false]∧∀ H1,Same H H1→Q .non (upd H1 tl (.lst ((cs ++ [true]).map V.bl)))) ∨
   (hd=.nd∧∃ bs b cs c,blocks=bs ++ [b]∧turned=cs ++ [c]∧∀ H1,Same H H1→Q .non (upd (upd H1 bl (.lst bs)) tl (.lst (cs.map V.bl)))) ∨
   ((∃ T,hd=.iff T)∧∃ inn zs,Inn H rl blocks turned inn∧H inn=some (.lst zs)∧zs.length≤1000∧inn≠bl∧inn≠tl∧blocks.length < 5 ∧
     ∀ H1,Same H H1→Q .non (upd (upd (upd H1 inn (.lst (zs ++ [v]))) bl (.lst (blocks ++ [v]))) tl (.lst ((turned ++ [false]).map V.bl)))) ∨
   (hd.plain∧∃ inn zs,Inn H rl blocks turned inn∧H inn=some (.lst zs)∧zs.length≤1000∧∀ H1,Same H H1→Q .non (upd H1 inn (.lst (zs ++ [v])))))
mutual
inductive Tr where
  | row (h:Hd)
  | iff (T:Tw) (a b:Trs)
inductive Trs where
  | nil
  | cons (x:Tr) (r:Trs)
end
mutual
def TrAt (F:Addr→Prop) (H:Hp) (v:V):Tr→Prop
  | .row h=>HdAt anyA H v h
  | .iff T a b=>∃ r te la lb xs ys,v=.ref r∧F la∧F lb∧H r=some (.tup [.str "if",.ref te,.ref la,.ref lb])∧H te=some (.tup (pst T))∧H la=some (.lst xs)∧TrsAt F H xs a∧H lb=some (.lst ys)∧TrsAt F H ys b
def TrsAt (F:Addr→Prop) (H:Hp) (vs:List V):Trs→Prop
  | .nil=>vs=[]
  | .cons x r=>∃ v ws,vs=v :: ws∧TrAt F H v x∧TrsAt F H ws r
end
mutual
def Tr.deep:Tr→Nat
  | .row _=>0
  | .iff _ a b=>max a.deep b.deep + 1
def Trs.deep:Trs→Nat
  | .nil=>0
  | .cons x r=>max x.deep r.deep
end
def Trs.len:Trs→Nat
  | .nil=>0
  | .cons _ r=>r.len + 1
mutual
def Tr.ok:Tr→Prop
  | .row h=>LnOk h∧h.plain
  | .iff T a b=>LnOk (.iff T)∧a.ok∧b.ok
def Trs.ok:Trs→Prop
  | .nil=>True
  | .cons x r=>x.ok∧r.ok
end
def Trs.snoc:Trs→Tr→Trs
  | .nil,x=>.cons x .nil
  | .cons y r,x=>.cons y (r.snoc x)
mutual
def linT:Tr→List Hd
  | .row h=>[h]
  | .iff T a b=>.iff T :: (linTs a ++ (els b ++ [Hd.nd]))
def els:Trs→List Hd
  | .nil=>[]
  | .cons x r=>.els :: (linT x ++ linTs r)
def linTs:Trs→List Hd
  | .nil=>[]
  | .cons x r=>linT x ++ linTs r
end
structure Fm where
  T:Tw
  c:Bool
  a:Trs
  up:Trs
def stp:Trs→List Fm→Hd→Option (Trs × List Fm)
  | D,fs,.iff T=>if fs.length < 5 then some (.nil,⟨T,false,.nil,D⟩ :: fs) else none
  | D,fs,.els=>match fs with | f :: r=>if f.c=false then some (.nil,⟨f.T,true,D,f.up⟩ :: r) else none | []=>none
  | D,fs,.nd=>match fs with | f :: r=>some (f.up.snoc (.iff f.T (if f.c=true then f.a else D) (if f.c=true then D else .nil)),r) | []=>none
  | D,fs,h=>some (D.snoc (.row h),fs)
def run:Trs→List Fm→List Hd→Option (Trs × List Fm)
  | D,fs,[]=>some (D,fs)
  | D,fs,h :: r=>match stp D fs h with | some z=>run z.1 z.2 r | none=>none
mutual
def TrO (H:Hp) (v:V):Tr→List Addr→Prop
  | .row h,os=>HdAt anyA H v h∧os=[]
  | .iff T a b,os=>∃ r te la lb xs ys oa ob,v=.ref r∧os=la :: lb :: (oa ++ ob)∧H r=some (.tup [.str "if",.ref te,.ref la,.ref lb])∧H te=some (.tup (pst T))∧H la=some (.lst xs)∧TrsO H xs a oa∧H lb=some (.lst ys)∧TrsO H ys b ob
def TrsO (H:Hp) (vs:List V):Trs→List Addr→Prop
  | .nil,os=>vs=[]∧os=[]
  | .cons x r,os=>∃ v ws o1 o2,vs=v :: ws∧os=o1 ++ o2∧TrO H v x o1∧TrsO H ws r o2
end
def sp_read (t:Adr):Sp:=fun vs H Q _=>∃ (x:Str) (ts:List Hd) (D:Trs),vs=[.str x]∧x=Str.join nl10 (ts.map Hd.line)∧x.length≤100000∧ts.length≤40∧(∀ h∈ts,LnOk h)∧run .nil [] ts=some (D,[])∧∀ H' l xs os,Same H H'→H' l=some (.lst xs)→TrsO H' xs D os→(l :: os).Nodup→(∀ b∈l :: os,H b=none)→Q (.ref l) H'
def WdAt (H:Hp) (v:V):Hd→Prop
  | .iff T=>∃ r te la lb,v=.ref r∧H r=some (.tup [.str "if",.ref te,.ref la,.ref lb])∧H te=some (.tup (pst T))
  | h=>h.plain∧HdAt anyA H v h
def sp_words_of:Sp:=fun vs H Q _=>∃ tm T,vs=[.ref tm]∧H tm=some (.tup (pst T))∧wfT T∧okT T=true∧(pre T).length≤100∧∀ p H',Same H H'→H' p=some (.lst ((pre T).map V.str))→Q (.ref p) H'
def sp_row_words:Sp:=fun vs H Q _=>∃ v h,vs=[v]∧WdAt H v h∧LnOk h∧∀ p H',Same H H'→H' p=some (.lst (h.words.map V.str))→Q (.ref p) H'
def lnV (h:Hd):V:=.str h.line
def sp_block_texts (n:Nat):Sp:=fun vs H Q _=>∃ v T a b,vs=[v]∧TrAt anyA H v (.iff T a b)∧a.ok∧b.ok∧a.deep < n∧b.deep < n∧(linTs a ++ (els b ++ [Hd.nd])).length≤100∧∀ p H',Same H H'→H' p=some (.lst ((linTs a ++ (els b ++ [Hd.nd])).map lnV))→Q (.ref p) H'
def sp_row_texts (n:Nat):Sp:=fun vs H Q _=>∃ l xs D,vs=[.ref l]∧H l=some (.lst xs)∧TrsAt anyA H xs D∧D.ok∧D.deep < n∧(linTs D).length≤100∧∀ p H',Same H H'→H' p=some (.lst ((linTs D).map lnV))→Q (.ref p) H'
def sp_shown:Sp:=fun vs H Q _=>∃ l xs D,vs=[.ref l]∧H l=some (.lst xs)∧TrsAt anyA H xs D∧D.ok∧D.deep < 6∧(linTs D).length≤40∧∀ H',Same H H'→Q (.str (Str.join nl10 ((linTs D).map Hd.line))) H'
def sp__law_cell_at (K:PySem.W.Frag):Sp:=fun vs H Q _=>∃ (a:Addr) (ns:List Int) (k:Nat),vs=[.ref a,.int k]∧SqL K H a (ns.map V.int)∧ns.length≤63∧∀ c H',Same H H'→Q (.int c) H'
def spI (x:Int):Prop:=0≤x∧x < 268435399
def sp__law_spread:Sp:=fun vs H Q _=>∃ c m,vs=[.int c,.int m]∧0≤m∧m≤64∧∀ l xs H',Same H H'→H' l=some (.lst (List.map V.int xs))→(xs.length:Int)=m→(∀ x∈xs,spI x)→Q (.ref l) H'
def sp__law_letters:Sp:=fun vs H Q _=>∃ n m,vs=[.int n,.int m]∧0≤m∧m≤6∧∀ (x:Str) H',(x.length:Int)=m→x.cps.toList.all inL=true→Same H H'→Q (.str x) H'
def sp__law_free:Sp:=fun vs H Q _=>∃ x:Str,vs=[.str x]∧x.length≤1000∧∀ H',Same H H'→Q (.str (freeW x)) H'
def NamesAt (H:Hp) (nm:Addr):Prop:=∃ ws:List Str,H nm=some (.lst (ws.map V.str))∧ws.length=4∧∀ w∈ws,isName w=true
theorem NamesAt.same {H H':Hp} {nm:Addr} (h:NamesAt H nm) (s:Same H H'):NamesAt H' nm:=by
  obtain ⟨ws,h1,h2⟩:=h
  exact ⟨ws,s _ _ h1,h2⟩
def sp__law_names:Sp:=fun vs H Q _=>∃ c,vs=[.int c]∧∀ nm H',Same H H'→NamesAt H' nm→Q (.ref nm) H'
structure TxOk (T:Tw) (m:Nat):Prop where
  wf:wfT T
  ok:okT T=true
  ws:okWs (pre T)
  bl:∀ w∈pre T,32 ∉ w.cps.toList∧10 ∉ w.cps.toList
  ln:(pre T).length≤m
def J (T:Tw):Str:=Str.join bl32 (pre T)
abbrev Nd:=Addr × Tw
def NodeAt (H:Hp) (n:Nd):Prop:=∃ ws tp,H n.1=some (.tup [.ref ws,.ref tp])∧H ws=some (.lst ((pre n.2).map V.str))∧H tp=some (.tup (pst n.2))∧wfT n.2∧okT n.2=true∧okWs (pre n.2)∧∀ w∈pre n.2,32 ∉ w.cps.toList∧10 ∉ w.cps.toList
theorem NodeAt.same {H H':Hp} {n:Nd} (h:NodeAt H n) (s:Same H H'):NodeAt H' n:=by
  obtain ⟨t,d,h1,h2,h3,h4⟩:=h
  exact ⟨t,d,s _ _ h1,s _ _ h2,s _ _ h3,h4⟩
def lens (ns:List Nd):Nat:=(ns.map fun n=>(pre n.2).length).sum
def Som (H:Hp) (s:Addr) (ns:List Nd) (c:Nat):Prop:=H s=some (.lst (ns.map fun n=>.ref n.1))∧(∀ n∈ns,NodeAt H n)∧lens ns + ns.length=c
theorem Som.same {H H':Hp} {s:Addr} {ns:List Nd} {m:Nat} (h:Som H s ns m) (e:Same H H'):Som H' s ns m:=⟨e _ _ h.1,fun n hn=>(h.2.1 n hn).same e,h.2.2⟩
def sp__law_leaf:Sp:=fun vs H Q _=>∃ c nm,vs=[.int c,.ref nm]∧spI c∧NamesAt H nm∧∀ (n:Nd) H',Same H H'→NodeAt H' n→(pre n.2).length=1→Q (.ref n.1) H'
def sp__law_joined:Sp:=fun vs H Q _=>∃ s ns n1 n2 c k,vs=[.ref s,.int k]∧Som H s (ns ++ [n1,n2]) c∧c≤1000∧∀ s' n3 H',Same H H'→Som H' s' (ns ++ [n3]) c→Q (.ref s') H'
def sp__law_term:Sp:=fun vs H Q _=>∃ (a:Addr) (xs:List Int) (nm:Addr),vs=[.ref a,.ref nm]∧H a=some (.lst (xs.map V.int))∧(∀ x∈xs,spI x)∧5≤xs.length∧NamesAt H nm∧∀ (p tp:Addr) (T:Tw) H',Same H H'→TxOk T 9→H' p=some (.tup [.str (J T),.ref tp])→H' tp=some (.tup (pst T))→Q (.ref p) H'
def sp__law_row:Sp:=fun vs H Q _=>∃ c nm,vs=[.int c,.ref nm]∧NamesAt H nm∧∀ p rv hd H',Same H H'→H' p=some (.tup [.str (Hd.line hd),rv])→HdAt anyA H' rv hd→LnOk hd→hd.words.length≤20→hd.plain→Q (.ref p) H'
structure Lot where
  a:Addr
  ll:Addr
  rv:V
  x:Tr
structure LotOk (x:Tr):Prop where
  ok:x.ok
  wl:∀ h∈linT x,h.words.length≤20
structure LotAt (H:Hp) (n:Lot):Prop where
  ha:H n.a=some (.tup [.ref n.ll,n.rv,.int (n.x.deep:Int)])
  hl:H n.ll=some (.lst ((linT n.x).map lnV))
  hr:TrAt anyA H n.rv n.x
def lotV (n:Lot):V:=.ref n.a
structure Lots (H:Hp) (s:Addr) (ns:List Lot):Prop where
  hs:H s=some (.lst (ns.map lotV))
  lt:∀ n∈ns,LotAt H n∧LotOk n.x
def tot (ns:List Lot):Nat:=(ns.map fun n=>(linT n.x).length).sum
def ofL:List Tr→Trs
  | []=>.nil
  | x :: r=>.cons x (ofL r)
def sp__law_folded:Sp:=fun vs H Q _=>∃ (s:Addr) (c:Int) (nm:Addr) (ns:List Lot),vs=[.ref s,.int c,.ref nm]∧Lots H s ns∧tot ns≤40∧NamesAt H nm∧∀ s' ns' H',Same H H'→Lots H' s' ns'→ns'≠[]→tot ns'≤50→Q (.ref s') H'
structure Deal (D:Trs):Prop where
  ok:D.ok
  dp:D.deep≤5
  ln:(linTs D).length≤40
  wl:∀ h∈linTs D,h.words.length≤20
def txtD (D:Trs):Str:=Str.join nl10 ((linTs D).map Hd.line)
def sp__law_rows:Sp:=fun vs H Q _=>∃ (a:Addr) (ns:List Int) (nm:Addr),vs=[.ref a,.ref nm]∧H a=some (.lst (ns.map V.int))∧ns.length≤63∧NamesAt H nm∧∀ p rw ys D H',Same H H'→H' p=some (.tup [.str (txtD D),.ref rw])→H' rw=some (.lst ys)→TrsAt anyA H' ys D→Deal D→Q (.ref p) H'
def sp__law_copy (n:Nat):Sp:=fun vs H Q _=>∃ (F:Addr→Prop) (l:Addr) (xs:List V) (D:Trs),vs=[.ref l]∧H l=some (.lst xs)∧TrsAt F H xs D∧D.ok∧(∀ b,H b=none→F b)∧D.deep < n∧(linTs D).length≤40∧∀ l' ys H',Same H H'→H' l'=some (.lst ys)→F l'→TrsAt F H' ys D→Q (.ref l') H'
def sp__law_alike (n:Nat):Sp:=fun vs H Q _=>∃ u v d,vs=[u,v]∧DatS H u d∧DatS H v d∧plainD d=true∧d.depth < n∧∀ H',Same H H'→Q (.bl true) H'
def sp__law_apart:Sp:=fun vs H Q _=>∃ (l rw:Addr) (xs ys:List V) (os:List Addr) (D:Trs) (H0:Hp),vs=[.ref l,.ref rw]∧H l=some (.lst xs)∧TrsO H xs D os∧(l :: os).Nodup∧(∀ b∈l :: os,H0 b=none)∧Same H0 H∧H0 rw=some (.lst ys)∧TrsAt anyA H0 ys D∧Deal D∧∀ H',Same H0 H'→Q (.bl true) H'
def sp_law (K:PySem.W.Frag):Sp:=fun vs H Q _=>∃ (a:Addr) (ns:List Int),vs=[.ref a]∧SqL K H a (ns.map V.int)∧ns.length≤63∧∀ H',Q (.bl true) H'
def rd__law_spread (K:PySem.W.Frag) (t:Adr):TS:=(tSeq (tAsg (tLst tNil) (gName 2))
    (tSeq (tAsg (tOp (rI0 fun i j=>.int (i + j)) (tOp (rI (fun _ j=>0 < j) fun i j=>.int (i % j)) (tVar 0) (tC (.int 1000000007))) (tC (.int 17))) (gName 3))
    (tSeq (tAsg (tOp (rI0 fun i j=>.int (i + j)) (tOp (rI (fun _ j=>0 < j) fun i j=>.int (i % j)) (tOp (rI CDivB fun i j=>.int (i / j)) (tVar 0) (tC (.int 1000000007))) (tC (.int 998244353))) (tC (.int 3))) (gName 4))
    (tSeq (tFor (iRng1 (tCons (tVar 1) tNil)) (gName 5)
      (tSeq (tAsg (tOp (rI (fun _ j=>0 < j) fun i j=>.int (i % j)) (tOp (rI0 fun i j=>.int (i + j)) (tOp (rI0 fun i j=>.int (i + j)) (tOp (rI CMulB fun i j=>.int (i * j)) (tVar 3) (tC (.int 6007))) (tVar 4)) (tOp (rI CMulB fun i j=>.int (i * j)) (tVar 5) (tVar 5))) (tC (.int 1000000007))) (gName 3))
    (tSeq (tAsg (tOp (rI (fun _ j=>0 < j) fun i j=>.int (i % j)) (tOp (rI0 fun i j=>.int (i + j)) (tOp (rI CMulB fun i j=>.int (i * j)) (tVar 4) (tC (.int 7001))) (tOp (rI CDivB fun i j=>.int (i / j)) (tVar 3) (tC (.int 3)))) (tC (.int 998244353))) (gName 4))
    (tDrop (tBM K "list" r_mt_append (tVar 2) (tCons (tOp (rI (fun _ j=>0 < j) fun i j=>.int (i % j)) (tOp (rI0 fun i j=>.int (i + j)) (tVar 3) (tVar 4)) (tC (.int 268435399))) tNil))))))
    (tRet (tVar 2))))))
def rd__law_letters (K:PySem.W.Frag) (t:Adr):TS:=(tSeq (tAsg (tC (.str "abcdefghijklmnopqrstuvwxyz")) (gName 2))
    (tSeq (tAsg (tC (.str "")) (gName 3))
    (tSeq (tFor (iRng1 (tCons (tVar 1) tNil)) (gName 4)
      (tSeq (tAsg (tOp rAddS (tVar 3) (tOp rIxS (tVar 2) (tOp (rI (fun _ j=>0 < j) fun i j=>.int (i % j)) (tVar 0) (tC (.int 26))))) (gName 3))
    (tAsg (tOp (rI0 fun i j=>.int (i + j)) (tOp (rI CDivB fun i j=>.int (i / j)) (tVar 0) (tC (.int 26))) (tOp (rI CMulB fun i j=>.int (i * j)) (tOp (rI CMulB fun i j=>.int (i * j)) (tC (.int 991)) (tVar 4)) (tVar 4))) (gName 0))))
    (tRet (tVar 3)))))
def rd__law_free (K:PySem.W.Frag) (t:Adr):TS:=(tSeq (tIfS (tTest (tOp (rIn K false) (tVar 0) (tTup (tCons (tC (.str "take")) (tCons (tC (.str "give")) (tCons (tC (.str "let")) (tCons (tC (.str "say")) (tCons (tC (.str "off")) (tCons (tC (.str "if")) (tCons (tC (.str "else")) (tCons (tC (.str "end")) (tCons (tC (.str "as")) tNil))))))))))))
      (tRet (tOp rAddS (tVar 0) (tC (.str "q"))))
      tNext)
    (tSeq (tIfS (tTest (tOp (rIn K false) (tVar 0) (tTup (tCons (tC (.str "plus")) (tCons (tC (.str "minus")) (tCons (tC (.str "times")) (tCons (tC (.str "over")) (tCons (tC (.str "rest")) (tCons (tC (.str "under")) (tCons (tC (.str "same")) tNil))))))))))
      (tRet (tOp rAddS (tVar 0) (tC (.str "q"))))
      tNext)
    (tRet (tVar 0))))
def rd__law_names_5 (K:PySem.W.Frag) (t:Adr):TS:=(tRet (tComp (iList K (tVar 7)) (gName 0) tYes (tCall sp__law_free [] E0 (tCons (tVar 0) tNil)) 1 []))
def rd__law_names_4 (K:PySem.W.Frag) (t:Adr):TS:=(tSeq (tIfS (tTest (tOp rEq (tOp (rI (fun _ j=>0 < j) fun i j=>.int (i % j)) (tVar 0) (tC (.int 3))) (tC (.int 0))))
      (tSeq (tAsg (tBM K "str" r_mt_find (tVar 1) (tCons (tOp rIxS (tVar 3) (tVar 4)) tNil)) (gName 5))
    (tSeq (tAsg (tComp (iRng1 (tCons (tC (.int 4)) tNil)) (gName 0) tYes (tOp rIxS (tVar 1) (tOp (rI (fun _ j=>0 < j) fun i j=>.int (i % j)) (tOp (rI0 fun i j=>.int (i + j)) (tVar 2) (tOp (rI CMulB fun i j=>.int (i * j)) (tC (.int 7)) (tVar 0))) (tC (.int 26)))) 1 [1,5]) (gName 6))
    (tAsg (tComp (iList K (tVar 6)) (gName 0) tYes (tOp rAddS (tOp rAddS (tSl rSlS (tVar 1) tNoPart (tPart (tVar 2))) (tVar 0)) (tSl rSlS (tVar 1) (tPart (tOp (rI0 fun i j=>.int (i + j)) (tVar 2) (tC (.int 1)))) tNoPart)) 1 [3,4]) (gName 7))))
      (tIfS (tTest (tOp rEq (tOp (rI (fun _ j=>0 < j) fun i j=>.int (i % j)) (tVar 0) (tC (.int 3))) (tC (.int 1))))
      (tSeq (tAsg (tCall sp__law_letters [] E0 (tCons (tOp (rIxL K) (tVar 2) (tC (.int 0))) (tCons (tC (.int 6)) tNil))) (gName 3))
    (tAsg (tLst (tCons (tSl rSlS (tVar 3) tNoPart (tPart (tOp (rI0 fun i j=>.int (i + j)) (tC (.int 1)) (tVar 4)))) (tCons (tSl rSlS (tVar 3) tNoPart (tPart (tOp (rI0 fun i j=>.int (i + j)) (tC (.int 2)) (tVar 4)))) (tCons (tSl rSlS (tVar 3) tNoPart (tPart (tOp (rI0 fun i j=>.int (i + j)) (tC (.int 3)) (tVar 4)))) (tCons (tVar 3) tNil))))) (gName 7)))
      (tAsg (tComp (iRng1 (tCons (tC (.int 4)) tNil)) (gName 0) tYes (tCall sp__law_letters [] E0 (tCons (tOp (rIxL K) (tVar 1) (tOp (rI0 fun i j=>.int (i + j)) (tVar 0) (tC (.int 1)))) (tCons (tOp (rI0 fun i j=>.int (i + j)) (tC (.int 1)) (tOp (rI (fun _ j=>0 < j) fun i j=>.int (i % j)) (tOp (rIxL K) (tVar 1) (tOp (rI0 fun i j=>.int (i + j)) (tVar 0) (tC (.int 5)))) (tC (.int 6)))) tNil))) 1 [2]) (gName 7))))
    (rd__law_names_5 K t))
def rd__law_names (K:PySem.W.Frag) (t:Adr):TS:=(tSeq (tAsg (tC (.str "abcdefghijklmnopqrstuvwxyz")) (gName 1))
    (tSeq (tAsg (tCall sp__law_spread [] E0 (tCons (tVar 0) (tCons (tC (.int 9)) tNil))) (gName 2))
    (tSeq (tAsg (tCall sp__law_letters [] E0 (tCons (tOp (rIxL K) (tVar 2) (tC (.int 0))) (tCons (tOp (rI0 fun i j=>.int (i + j)) (tC (.int 1)) (tOp (rI (fun _ j=>0 < j) fun i j=>.int (i % j)) (tOp (rI CDivB fun i j=>.int (i / j)) (tVar 0) (tC (.int 3))) (tC (.int 6)))) tNil))) (gName 3))
    (tSeq (tAsg (tOp (rI (fun _ j=>0 < j) fun i j=>.int (i % j)) (tOp (rIxL K) (tVar 2) (tC (.int 1))) (tCB (cLen K) (tCons (tVar 3) tNil))) (gName 4))
    (rd__law_names_4 K t)))))
def rd__law_joined_3 (K:PySem.W.Frag) (t:Adr):TS:=(tRet (tOp rCat (tSl (rSlL K) (tVar 0) tNoPart (tPart (tUn (rU fun i=>.int (-i)) (tC (.int 2))))) (tLst (tCons (tTup (tCons (tOp rCat (tOp rCat (tLst (tCons (tVar 2) tNil)) (tOp (rIxT K) (tVar 3) (tC (.int 0)))) (tOp (rIxT K) (tVar 4) (tC (.int 0)))) (tCons (tOp (rCatT K) (tOp (rCatT K) (tOp (rIxT K) (tVar 3) (tC (.int 1))) (tOp (rIxT K) (tVar 4) (tC (.int 1)))) (tTup (tCons (tVar 2) tNil))) tNil))) tNil))))
def rd__law_joined (K:PySem.W.Frag) (t:Adr):TS:=(tSeq (tAsg (tOp (rIxL K) (tLst (tCons (tC (.str "plus")) (tCons (tC (.str "minus")) (tCons (tC (.str "times")) (tCons (tC (.str "over")) (tCons (tC (.str "rest")) (tCons (tC (.str "under")) (tCons (tC (.str "same")) tNil)))))))) (tOp (rI (fun _ j=>0 < j) fun i j=>.int (i % j)) (tVar 1) (tC (.int 7)))) (gName 2))
    (tSeq (tAsg (tOp (rIxL K) (tVar 0) (tUn (rU fun i=>.int (-i)) (tC (.int 2)))) (gName 3))
    (tSeq (tAsg (tOp (rIxL K) (tVar 0) (tUn (rU fun i=>.int (-i)) (tC (.int 1)))) (gName 4))
    (rd__law_joined_3 K t))))
def rd__law_leaf_3 (K:PySem.W.Frag) (t:Adr):TS:=(tRet (tTup (tCons (tLst (tCons (tCB cStr (tCons (tVar 3) tNil)) tNil)) (tCons (tTup (tCons (tVar 3) tNil)) tNil))))
def rd__law_leaf (K:PySem.W.Frag) (t:Adr):TS:=(tSeq (tIfS (tTest (tOp (rI0 fun i j=>.bl (decide (i < j))) (tOp (rI (fun _ j=>0 < j) fun i j=>.int (i % j)) (tVar 0) (tC (.int 4))) (tC (.int 2))))
      (tSeq (tAsg (tOp (rIxL K) (tVar 1) (tOp (rI (fun _ j=>0 < j) fun i j=>.int (i % j)) (tOp (rI CDivB fun i j=>.int (i / j)) (tVar 0) (tC (.int 4))) (tC (.int 4)))) (gName 2))
    (tRet (tTup (tCons (tLst (tCons (tVar 2) tNil)) (tCons (tTup (tCons (tVar 2) tNil)) tNil)))))
      tNext)
    (tSeq (tAsg (tOp (rI0 fun i j=>.int (i - j)) (tOp (rI (fun _ j=>0 < j) fun i j=>.int (i % j)) (tOp (rI CDivB fun i j=>.int (i / j)) (tVar 0) (tC (.int 4))) (tC (.int 25))) (tC (.int 9))) (gName 3))
    (tSeq (tIfS (tTest (tOp rEq (tOp (rI (fun _ j=>0 < j) fun i j=>.int (i % j)) (tVar 0) (tC (.int 4))) (tC (.int 3))))
      (tAsg (tOp (rI0 fun i j=>.int (i - j)) (tOp (rI (fun _ j=>0 < j) fun i j=>.int (i % j)) (tOp (rI CPow fun i j=>.int (i ^ j.toNat)) (tVar 0) (tC (.int 4))) (tOp (rI0 fun i j=>.int (i + j)) (tOp (rI CMulB fun i j=>.int (i * j)) (tC (.int 2)) (tOp (rI CPow fun i j=>.int (i ^ j.toNat)) (tC (.int 10)) (tC (.int 30)))) (tC (.int 1)))) (tOp (rI CPow fun i j=>.int (i ^ j.toNat)) (tC (.int 10)) (tC (.int 30)))) (gName 3))
      tNext)
    (rd__law_leaf_3 K t))))
def rd__law_term_2 (K:PySem.W.Frag) (t:Adr):TS:=(tSeq (tWhile (tTest (tOp (rI0 fun i j=>.bl (decide (j < i))) (tCB (cLen K) (tCons (tVar 2) tNil)) (tC (.int 1)))) (tAsg (tCall sp__law_joined [] E0 (tCons (tVar 2) (tCons (tOp (rI0 fun i j=>.int (i + j)) (tOp (rI CDivB fun i j=>.int (i / j)) (tOp (rIxL K) (tVar 0) (tC (.int 1))) (tC (.int 400))) (tCB (cLen K) (tCons (tVar 2) tNil))) tNil))) (gName 2)))
    (tRet (tTup (tCons (tBM K "str" (r_mt_join K) (tC (.str " ")) (tCons (tOp (rIxT K) (tOp (rIxL K) (tVar 2) (tC (.int 0))) (tC (.int 0))) tNil)) (tCons (tOp (rIxT K) (tOp (rIxL K) (tVar 2) (tC (.int 0))) (tC (.int 1))) tNil)))))
def rd__law_term (K:PySem.W.Frag) (t:Adr):TS:=(tSeq (tAsg (tLst tNil) (gName 2))
    (tSeq (tFor (iRng1 (tCons (tOp (rI0 fun i j=>.int (i + j)) (tC (.int 1)) (tOp (rI (fun _ j=>0 < j) fun i j=>.int (i % j)) (tOp (rI CDivB fun i j=>.int (i / j)) (tOp (rIxL K) (tVar 0) (tC (.int 0))) (tC (.int 12))) (tC (.int 5)))) tNil)) (gName 3)
      (tSeq (tAsg (tOp rCat (tVar 2) (tLst (tCons (tCall sp__law_leaf [] E0 (tCons (tOp (rIxL K) (tVar 0) (tVar 3)) (tCons (tVar 1) tNil))) tNil))) (gName 2))
    (tIfS (tAnd (tTest (tOp (rI0 fun i j=>.bl (decide (j < i))) (tCB (cLen K) (tCons (tVar 2) tNil)) (tC (.int 1)))) (tTest (tOp rEq (tOp (rI (fun _ j=>0 < j) fun i j=>.int (i % j)) (tOp (rI CDivB fun i j=>.int (i / j)) (tOp (rIxL K) (tVar 0) (tVar 3)) (tC (.int 101))) (tC (.int 2))) (tC (.int 0)))))
      (tAsg (tCall sp__law_joined [] E0 (tCons (tVar 2) (tCons (tOp (rI CDivB fun i j=>.int (i / j)) (tOp (rIxL K) (tVar 0) (tVar 3)) (tC (.int 400))) tNil))) (gName 2))
      tNext)))
    (rd__law_term_2 K t)))
def rd__law_folded_10 (K:PySem.W.Frag) (t:Adr):TS:=(tRet (tOp rCat (tSl (rSlL K) (tVar 0) tNoPart (tPart (tOp (rI0 fun i j=>.int (i - j)) (tCB (cLen K) (tCons (tVar 0) tNil)) (tVar 3)))) (tLst (tCons (tTup (tCons (tOp rCat (tVar 8) (tLst (tCons (tC (.str "end")) tNil))) (tCons (tVar 10) (tCons (tVar 11) tNil)))) tNil))))
def rd__law_folded_9 (K:PySem.W.Frag) (t:Adr):TS:=(tSeq (tAsg (tOp (rI0 fun i j=>.int (i + j)) (tC (.int 1)) (tCB (cMaxL K) (tCons (tOp rCat (tLst (tCons (tC (.int 0)) tNil)) (tComp (iList K (tVar 4)) (gName 0) tYes (tOp (rIxT K) (tVar 0) (tC (.int 2))) 1 [])) tNil))) (gName 11))
    (rd__law_folded_10 K t))
def rd__law_folded_8 (K:PySem.W.Frag) (t:Adr):TS:=(tSeq (tAsg (tTup (tCons (tC (.str "if")) (tCons (tVar 7) (tCons (tComp (iList K (tSl (rSlL K) (tVar 4) tNoPart (tPart (tVar 5)))) (gName 0) tYes (tOp (rIxT K) (tVar 0) (tC (.int 1))) 1 []) (tCons (tComp (iList K (tSl (rSlL K) (tVar 4) (tPart (tVar 5)) tNoPart)) (gName 0) tYes (tOp (rIxT K) (tVar 0) (tC (.int 1))) 1 []) tNil))))) (gName 10))
    (rd__law_folded_9 K t))
def rd__law_folded_7 (K:PySem.W.Frag) (t:Adr):TS:=(tSeq (tFor (iList K (tSl (rSlL K) (tVar 4) (tPart (tVar 5)) tNoPart)) (gName 9)
      (tAsg (tOp rCat (tVar 8) (tOp (rIxT K) (tVar 9) (tC (.int 0)))) (gName 8)))
    (rd__law_folded_8 K t))
def rd__law_folded_6 (K:PySem.W.Frag) (t:Adr):TS:=(tSeq (tIfS (tTest (tOp (rI0 fun i j=>.bl (decide (i < j))) (tVar 5) (tVar 3)))
      (tDrop (tBM K "list" r_mt_append (tVar 8) (tCons (tC (.str "else")) tNil)))
      tNext)
    (rd__law_folded_7 K t))
def rd__law_folded_5 (K:PySem.W.Frag) (t:Adr):TS:=(tSeq (tFor (iList K (tSl (rSlL K) (tVar 4) tNoPart (tPart (tVar 5)))) (gName 9)
      (tAsg (tOp rCat (tVar 8) (tOp (rIxT K) (tVar 9) (tC (.int 0)))) (gName 8)))
    (rd__law_folded_6 K t))
def rd__law_folded_4 (K:PySem.W.Frag) (t:Adr):TS:=(tSeq (tAsg (tLst (tCons (tOp rAddS (tC (.str "if ")) (tVar 6)) tNil)) (gName 8))
    (rd__law_folded_5 K t))
def rd__law_folded (K:PySem.W.Frag) (t:Adr):TS:=(tSeq (tAsg (tOp (rI (fun _ j=>0 < j) fun i j=>.int (i % j)) (tOp (rI CDivB fun i j=>.int (i / j)) (tVar 1) (tC (.int 7))) (tOp (rI0 fun i j=>.int (i + j)) (tCB (cLen K) (tCons (tVar 0) tNil)) (tC (.int 1)))) (gName 3))
    (tSeq (tAsg (tSl (rSlL K) (tVar 0) (tPart (tOp (rI0 fun i j=>.int (i - j)) (tCB (cLen K) (tCons (tVar 0) tNil)) (tVar 3))) tNoPart) (gName 4))
    (tSeq (tAsg (tOp (rI (fun _ j=>0 < j) fun i j=>.int (i % j)) (tOp (rI CDivB fun i j=>.int (i / j)) (tVar 1) (tC (.int 77))) (tOp (rI0 fun i j=>.int (i + j)) (tVar 3) (tC (.int 1)))) (gName 5))
    (tSeq (tAsg (tCall sp__law_term [] E0 (tCons (tCall sp__law_spread [] E0 (tCons (tVar 1) (tCons (tC (.int 6)) tNil))) (tCons (tVar 2) tNil))) (gTup K 2 (gCons (gName 6) (gCons (gName 7) gNil))))
    (rd__law_folded_4 K t)))))
def rd__law_row_6 (K:PySem.W.Frag) (t:Adr):TS:=(tSeq (tIfS (tTest (tOp rEq (tVar 6) (tC (.int 2))))
      (tRet (tTup (tCons (tOp rAddS (tOp rAddS (tOp rAddS (tC (.str "let ")) (tVar 5)) (tC (.str " "))) (tVar 3)) (tCons (tTup (tCons (tC (.str "let")) (tCons (tVar 5) (tCons (tVar 4) tNil)))) tNil))))
      tNext)
    (tSeq (tIfS (tTest (tOp rEq (tVar 6) (tC (.int 3))))
      (tRet (tTup (tCons (tOp rAddS (tC (.str "say ")) (tVar 3)) (tCons (tTup (tCons (tC (.str "say")) (tCons (tVar 4) tNil))) tNil))))
      tNext)
    (tRet (tTup (tCons (tOp rAddS (tC (.str "off ")) (tVar 3)) (tCons (tTup (tCons (tC (.str "off")) (tCons (tVar 4) tNil))) tNil))))))
def rd__law_row_5 (K:PySem.W.Frag) (t:Adr):TS:=(tSeq (tIfS (tTest (tOp rEq (tVar 6) (tC (.int 1))))
      (tSeq (tAsg (tCall sp__law_term [] E0 (tCons (tSl (rSlL K) (tVar 2) (tPart (tC (.int 5))) tNoPart) (tCons (tVar 1) tNil))) (gTup K 2 (gCons (gName 8) (gCons (gName 9) gNil))))
    (tRet (tTup (tCons (tOp rAddS (tOp rAddS (tOp rAddS (tOp rAddS (tOp rAddS (tC (.str "give ")) (tVar 5)) (tC (.str " "))) (tVar 3)) (tC (.str " "))) (tVar 8)) (tCons (tTup (tCons (tC (.str "give")) (tCons (tVar 5) (tCons (tVar 4) (tCons (tVar 9) tNil))))) tNil)))))
      tNext)
    (rd__law_row_6 K t))
def rd__law_row_4 (K:PySem.W.Frag) (t:Adr):TS:=(tSeq (tIfS (tTest (tOp rEq (tVar 6) (tC (.int 0))))
      (tSeq (tAsg (tOp (rIxL K) (tVar 1) (tOp (rI (fun _ j=>0 < j) fun i j=>.int (i % j)) (tOp (rIxL K) (tVar 2) (tC (.int 12))) (tC (.int 4)))) (gName 7))
    (tRet (tTup (tCons (tOp rAddS (tOp rAddS (tOp rAddS (tOp rAddS (tOp rAddS (tC (.str "take ")) (tVar 5)) (tC (.str " "))) (tVar 3)) (tC (.str " as "))) (tVar 7)) (tCons (tTup (tCons (tC (.str "take")) (tCons (tVar 5) (tCons (tVar 4) (tCons (tVar 7) tNil))))) tNil)))))
      tNext)
    (rd__law_row_5 K t))
def rd__law_row_2 (K:PySem.W.Frag) (t:Adr):TS:=(tSeq (tAsg (tOp (rIxL K) (tVar 1) (tOp (rI (fun _ j=>0 < j) fun i j=>.int (i % j)) (tOp (rIxL K) (tVar 2) (tC (.int 10))) (tC (.int 4)))) (gName 5))
    (tSeq (tAsg (tOp (rI (fun _ j=>0 < j) fun i j=>.int (i % j)) (tOp (rIxL K) (tVar 2) (tC (.int 11))) (tC (.int 5))) (gName 6))
    (rd__law_row_4 K t)))
def rd__law_row (K:PySem.W.Frag) (t:Adr):TS:=(tSeq (tAsg (tCall sp__law_spread [] E0 (tCons (tVar 0) (tCons (tC (.int 13)) tNil))) (gName 2))
    (tSeq (tAsg (tCall sp__law_term [] E0 (tCons (tVar 2) (tCons (tVar 1) tNil))) (gTup K 2 (gCons (gName 3) (gCons (gName 4) gNil))))
    (rd__law_row_2 K t)))
def rd__law_rows_B (K:PySem.W.Frag) (t:Adr):TS:=(tIfS (tAnd (tTest (tOp (rI0 fun i j=>.bl (decide (i≤j))) (tCB (cMaxL K) (tCons (tComp (iList K (tVar 4)) (gName 0) tYes (tOp (rIxT K) (tVar 0) (tC (.int 2))) 1 []) tNil)) (tC (.int 5)))) (tTest (tOp (rI0 fun i j=>.bl (decide (i≤j))) (tCB (cSumL K) (tCons (tComp (iList K (tVar 4)) (gName 0) tYes (tCB (cLen K) (tCons (tOp (rIxT K) (tVar 0) (tC (.int 0))) tNil)) 1 []) tNil)) (tC (.int 40)))))
      (tAsg (tVar 4) (gName 2))
      tNext)
def rd__law_rows_2 (K:PySem.W.Frag) (t:Adr):TS:=(tSeq (tAsg (tLst tNil) (gName 7))
    (tSeq (tFor (iList K (tVar 2)) (gName 8)
      (tAsg (tOp rCat (tVar 7) (tOp (rIxT K) (tVar 8) (tC (.int 0)))) (gName 7)))
    (tRet (tTup (tCons (tBM K "str" (r_mt_join K) (tC (.str "\n")) (tCons (tVar 7) tNil)) (tCons (tComp (iList K (tVar 2)) (gName 0) tYes (tOp (rIxT K) (tVar 0) (tC (.int 1))) 1 []) tNil))))))
def rd__law_rows (K:PySem.W.Frag) (t:Adr):TS:=(tSeq (tAsg (tLst tNil) (gName 2))
    (tSeq (tFor (iList K (tVar 0)) (gName 3)
      (tSeq (tIfS (tTest (tOp (rI0 fun i j=>.bl (decide (i < j))) (tOp (rI (fun _ j=>0 < j) fun i j=>.int (i % j)) (tVar 3) (tC (.int 7))) (tC (.int 2))))
      (tAsg (tCall sp__law_folded [] E0 (tCons (tVar 2) (tCons (tVar 3) (tCons (tVar 1) tNil)))) (gName 4))
      (tSeq (tAsg (tCall sp__law_row [] E0 (tCons (tOp (rI CDivB fun i j=>.int (i / j)) (tVar 3) (tC (.int 7))) (tCons (tVar 1) tNil))) (gTup K 2 (gCons (gName 5) (gCons (gName 6) gNil))))
    (tAsg (tOp rCat (tVar 2) (tLst (tCons (tTup (tCons (tLst (tCons (tVar 5) tNil)) (tCons (tVar 6) (tCons (tC (.int 0)) tNil)))) tNil))) (gName 4))))
    (rd__law_rows_B K t)))
    (rd__law_rows_2 K t)))
def rd__law_copy_B (K:PySem.W.Frag) (t:Adr) (n:Nat):TS:=(tDrop (tBM K "list" r_mt_append (tVar 1) (tCons (tTup (tCons (tC (.str "if")) (tCons (tOp (rIxT K) (tVar 2) (tC (.int 1))) (tCons (tCall (sp__law_copy  n) [] E0 (tCons (tOp (rIxT K) (tVar 2) (tC (.int 2))) tNil)) (tCons (tCall (sp__law_copy  n) [] E0 (tCons (tOp (rIxT K) (tVar 2) (tC (.int 3))) tNil)) tNil))))) tNil)))
def rd__law_copy_C (K:PySem.W.Frag) (t:Adr) (n:Nat):TS:=(tDrop (tBM K "list" r_mt_append (tVar 1) (tCons (tVar 2) tNil)))
def rd__law_copy (K:PySem.W.Frag) (t:Adr) (n:Nat):TS:=(tSeq (tAsg (tLst tNil) (gName 1))
    (tSeq (tFor (iList K (tVar 0)) (gName 2)
      (tIfS (tTest (tOp rEq (tOp (rIxT K) (tVar 2) (tC (.int 0))) (tC (.str "if"))))
      (rd__law_copy_B K t n)
      (rd__law_copy_C K t n)))
    (tRet (tVar 1))))
def rd_numeral (K:PySem.W.Frag) (t:Adr):TS:=(tRet (tCB cStr (tCons (tVar 0) tNil)))
def rd_words_of_B (K:PySem.W.Frag) (t:Adr):TS:=(tSeq (tAsg (tBM0 K "list" r_mt_pop (tVar 1)) (gName 3))
    (tSeq (tAsg (tBM0 K "list" r_mt_pop (tVar 1)) (gName 4))
    (tDrop (tBM K "list" r_mt_append (tVar 1) (tCons (tOp rCat (tOp rCat (tLst (tCons (tVar 2) tNil)) (tVar 4)) (tVar 3)) tNil)))))
def rd_words_of_C (K:PySem.W.Frag) (t:Adr):TS:=(tDrop (tBM K "list" r_mt_append (tVar 1) (tCons (tLst (tCons (tIf (tB (tCB (cIsi K) (tCons (tVar 2) (tCons (tC (.ty "str")) tNil)))) (tVar 2) (tCall sp_numeral [] E0 (tCons (tVar 2) tNil))) tNil)) tNil)))
def rd_words_of (K:PySem.W.Frag) (t:Adr):TS:=(tSeq (tAsg (tLst tNil) (gName 1))
    (tSeq (tFor (iTup K (tVar 0)) (gName 2)
      (tIfS (tTest (tOp (rIn K false) (tVar 2) (tC (.ref t.c_JOINING))))
      (rd_words_of_B K t)
      (rd_words_of_C K t)))
    (tRet (tBM0 K "list" r_mt_pop (tVar 1)))))
def rd_row_words_3 (K:PySem.W.Frag) (t:Adr):TS:=(tRet (tOp rCat (tLst (tCons (tOp (rIxT K) (tVar 0) (tC (.int 0))) tNil)) (tCall sp_words_of [] E0 (tCons (tOp (rIxT K) (tVar 0) (tC (.int 1))) tNil))))
def rd_row_words_2 (K:PySem.W.Frag) (t:Adr):TS:=(tSeq (tIfS (tTest (tOp rEq (tOp (rIxT K) (tVar 0) (tC (.int 0))) (tC (.str "let"))))
      (tRet (tOp rCat (tLst (tCons (tC (.str "let")) (tCons (tOp (rIxT K) (tVar 0) (tC (.int 1))) tNil))) (tCall sp_words_of [] E0 (tCons (tOp (rIxT K) (tVar 0) (tC (.int 2))) tNil))))
      tNext)
    (rd_row_words_3 K t))
def rd_row_words_1 (K:PySem.W.Frag) (t:Adr):TS:=(tSeq (tIfS (tTest (tOp rEq (tOp (rIxT K) (tVar 0) (tC (.int 0))) (tC (.str "give"))))
      (tRet (tOp rCat (tOp rCat (tLst (tCons (tC (.str "give")) (tCons (tOp (rIxT K) (tVar 0) (tC (.int 1))) tNil))) (tCall sp_words_of [] E0 (tCons (tOp (rIxT K) (tVar 0) (tC (.int 2))) tNil))) (tCall sp_words_of [] E0 (tCons (tOp (rIxT K) (tVar 0) (tC (.int 3))) tNil))))
      tNext)
    (rd_row_words_2 K t))
def rd_row_words (K:PySem.W.Frag) (t:Adr):TS:=(tSeq (tIfS (tTest (tOp rEq (tOp (rIxT K) (tVar 0) (tC (.int 0))) (tC (.str "take"))))
      (tRet (tOp rCat (tOp rCat (tLst (tCons (tC (.str "take")) (tCons (tOp (rIxT K) (tVar 0) (tC (.int 1))) tNil))) (tCall sp_words_of [] E0 (tCons (tOp (rIxT K) (tVar 0) (tC (.int 2))) tNil))) (tLst (tCons (tC (.str "as")) (tCons (tOp (rIxT K) (tVar 0) (tC (.int 3))) tNil)))))
      tNext)
    (rd_row_words_1 K t))
def rd_block_texts_1 (K:PySem.W.Frag) (t:Adr) (n:Nat):TS:=(tSeq (tIfS (tTest (tOp (rNeNil K) (tOp (rIxT K) (tVar 0) (tC (.int 3))) (tLst tNil)))
      (tAsg (tOp rCat (tOp rCat (tVar 1) (tLst (tCons (tC (.str "else")) tNil))) (tCall (sp_row_texts  n) [] E0 (tCons (tOp (rIxT K) (tVar 0) (tC (.int 3))) tNil))) (gName 1))
      tNext)
    (tRet (tOp rCat (tVar 1) (tLst (tCons (tC (.str "end")) tNil)))))
def rd_block_texts (K:PySem.W.Frag) (t:Adr) (n:Nat):TS:=(tSeq (tAsg (tCall (sp_row_texts  n) [] E0 (tCons (tOp (rIxT K) (tVar 0) (tC (.int 2))) tNil)) (gName 1))
    (rd_block_texts_1 K t n))
def rd_row_texts (K:PySem.W.Frag) (t:Adr) (n:Nat):TS:=(tSeq (tAsg (tLst tNil) (gName 1))
    (tSeq (tFor (iList K (tVar 0)) (gName 2)
      (tSeq (tDrop (tBM K "list" r_mt_append (tVar 1) (tCons (tBM K "str" (r_mt_join K) (tC (.str " ")) (tCons (tCall sp_row_words [] E0 (tCons (tVar 2) tNil)) tNil)) tNil)))
    (tIfS (tTest (tOp rEq (tOp (rIxT K) (tVar 2) (tC (.int 0))) (tC (.str "if"))))
      (tDrop (tBM K "list" r_mt_extend (tVar 1) (tCons (tCall (sp_block_texts  n) [] E0 (tCons (tVar 2) tNil)) tNil)))
      tNext)))
    (tRet (tVar 1))))
def rd_shown (K:PySem.W.Frag) (t:Adr):TS:=(tRet (tBM K "str" (r_mt_join K) (tC (.str "\n")) (tCons (tCall (sp_row_texts  6) [] E0 (tCons (tVar 0) tNil)) tNil)))
def rd_Reading_init (K:PySem.W.Frag) (t:Adr):TS:=(tSeq (sFld K (tVar 0) (tLst tNil) "rows")
    (tSeq (sFld K (tVar 0) (tLst tNil) "blocks")
    (sFld K (tVar 0) (tLst tNil) "turned")))
def rd_Reading_turns (K:PySem.W.Frag) (t:Adr):TS:=(tSeq (tIfS (tOr (tTest (tOp (rEqNil K) (tFld K (tVar 0) "blocks") (tLst tNil))) (tB (tOp (rIxL K) (tFld K (tVar 0) "turned") (tUn (rU fun i=>.int (-i)) (tC (.int 1))))))
      tNever
      tNext)
    (sLPut (tFld K (tVar 0) "turned") (tUn (rU fun i=>.int (-i)) (tC (.int 1))) (tC (.bl true))))
def rd_Reading_shuts (K:PySem.W.Frag) (t:Adr):TS:=(tSeq (tIfS (tTest (tOp (rEqNil K) (tFld K (tVar 0) "blocks") (tLst tNil)))
      tNever
      tNext)
    (tSeq (tDrop (tBM0 K "list" r_mt_pop (tFld K (tVar 0) "blocks")))
    (tDrop (tBM0 K "list" r_mt_pop (tFld K (tVar 0) "turned")))))
def rd_Reading_innermost (K:PySem.W.Frag) (t:Adr):TS:=(tSeq (tIfS (tTest (tOp (rEqNil K) (tFld K (tVar 0) "blocks") (tLst tNil)))
      (tRet (tFld K (tVar 0) "rows"))
      tNext)
    (tRet (tIf (tB (tOp (rIxL K) (tFld K (tVar 0) "turned") (tUn (rU fun i=>.int (-i)) (tC (.int 1))))) (tOp (rIxT K) (tOp (rIxL K) (tFld K (tVar 0) "blocks") (tUn (rU fun i=>.int (-i)) (tC (.int 1)))) (tC (.int 3))) (tOp (rIxT K) (tOp (rIxL K) (tFld K (tVar 0) "blocks") (tUn (rU fun i=>.int (-i)) (tC (.int 1)))) (tC (.int 2))))))
def rd_Reading_begins (K:PySem.W.Frag) (t:Adr):TS:=(tSeq (tIfS (tTest (tOp rEq (tCB (cLen K) (tCons (tFld K (tVar 0) "blocks") tNil)) (tC (.int 5))))
      tNever
      tNext)
    (tSeq (tDrop (tBM K "list" r_mt_append (tMeth t.c_Reading "innermost" (sp_Reading_innermost t) [] E0 (tVar 0) tNil) (tCons (tVar 1) tNil)))
    (tSeq (tDrop (tBM K "list" r_mt_append (tFld K (tVar 0) "blocks") (tCons (tVar 1) tNil)))
    (tDrop (tBM K "list" r_mt_append (tFld K (tVar 0) "turned") (tCons (tC (.bl false)) tNil))))))
def rd_Reading_reads (K:PySem.W.Frag) (t:Adr):TS:=(tIfS (tTest (tOp rEq (tOp (rIxT K) (tVar 1) (tC (.int 0))) (tC (.str "else"))))
      (tDrop (tMeth t.c_Reading "turns" (sp_Reading_turns t) [] E0 (tVar 0) (tCons (tVar 2) tNil)))
      (tIfS (tTest (tOp rEq (tOp (rIxT K) (tVar 1) (tC (.int 0))) (tC (.str "end"))))
      (tDrop (tMeth t.c_Reading "shuts" (sp_Reading_shuts t) [] E0 (tVar 0) (tCons (tVar 2) tNil)))
      (tIfS (tTest (tOp rEq (tOp (rIxT K) (tVar 1) (tC (.int 0))) (tC (.str "if"))))
      (tDrop (tMeth t.c_Reading "begins" (sp_Reading_begins t) [] E0 (tVar 0) (tCons (tVar 1) (tCons (tVar 2) tNil))))
      (tDrop (tBM K "list" r_mt_append (tMeth t.c_Reading "innermost" (sp_Reading_innermost t) [] E0 (tVar 0) tNil) (tCons (tVar 1) tNil))))))
def rd_RowWords_init (K:PySem.W.Frag) (t:Adr):TS:=(tSeq (sFld K (tVar 0) (tVar 1) "words")
    (tSeq (sFld K (tVar 0) (tVar 2) "number")
    (sFld K (tVar 0) (tC (.int 0)) "at")))
def rd_RowWords_draw_word (K:PySem.W.Frag) (t:Adr):TS:=(tSeq (tIfS (tTest (tOp rEq (tFld K (tVar 0) "at") (tCB (cLen K) (tCons (tFld K (tVar 0) "words") tNil))))
      tNever
      tNext)
    (tSeq (tAsg (tOp (rIxL K) (tFld K (tVar 0) "words") (tFld K (tVar 0) "at")) (gName 1))
    (tSeq (sFldAug K (tVar 0) (tC (.int 1)) rAdd "at")
    (tRet (tVar 1)))))
def rd_is_name (K:PySem.W.Frag) (t:Adr):TS:=(tSeq (tIfS (tOr (tTest (tOp rEq (tVar 0) (tC (.str "")))) (tTest (tOp (rI0 fun i j=>.bl (decide (j < i))) (tCB (cLen K) (tCons (tVar 0) tNil)) (tC (.int 6)))))
      (tRet (tC (.bl false)))
      tNext)
    (tSeq (tIfS (tOr (tTest (tOp (rIn K false) (tVar 0) (tC (.ref t.c_JOINING)))) (tTest (tOp (rIn K false) (tVar 0) (tC (.ref t.c_ROW_WORDS)))))
      (tRet (tC (.bl false)))
      tNext)
    (tRet (tCB (cAll K) (tCons (tComp (iStr (tVar 0)) (gName 0) tYes (tOp rInS (tVar 0) (tC (.str "abcdefghijklmnopqrstuvwxyz"))) 1 []) tNil)))))
def rd_RowWords_draw_name (K:PySem.W.Frag) (t:Adr):TS:=(tSeq (tAsg (tMeth t.c_RowWords "draw_word" (sp_RowWords_draw_word t) [] E0 (tVar 0) tNil) (gName 1))
    (tSeq (tIfS (tNot (tB (tCall sp_is_name [] E0 (tCons (tVar 1) tNil))))
      tNever
      tNext)
    (tRet (tVar 1))))
def rd_behind_term (K:PySem.W.Frag) (t:Adr) (E:XK):TS:=(tSeq (tAsg (tC (.int 1)) (gName 2))
    (tSeq (tAsg (tVar 1) (gName 3))
    (tSeq (tWhile (tTest (tOp (rI0 fun i j=>.bl (decide (j < i))) (tVar 2) (tC (.int 0)))) (tSeq (tIfS (tTest (tOp (rI0 fun i j=>.bl (decide (j≤i))) (tVar 3) (tCB (cLen K) (tCons (tVar 0) tNil))))
      (tRaise t.c_NoTerm (tCons (tC (.str "the words end ahead of the term's end")) tNil) E)
      tNext)
    (tSeq (tIfS (tTest (tOp rEq (tOp (rI0 fun i j=>.int (i - j)) (tVar 3) (tVar 1)) (tC (.int 60))))
      (tRaise t.c_NoTerm (tCons (tC (.str "a term of more than sixty words")) tNil) E)
      tNext)
    (tSeq (tAsg (tIf (tTest (tOp (rIn K false) (tOp (rIxL K) (tVar 0) (tVar 3)) (tC (.ref t.c_JOINING)))) (tOp (rI0 fun i j=>.int (i + j)) (tVar 2) (tC (.int 1))) (tOp (rI0 fun i j=>.int (i - j)) (tVar 2) (tC (.int 1)))) (gName 2))
    (tAug 3 (tC (.int 1)) (ipI fun i j=>i + j))))))
    (tRet (tVar 3)))))
def rd_is_worth (K:PySem.W.Frag) (t:Adr):TS:=(tSeq (tIfS (tOr (tNot (tB (tCB (cIsi K) (tCons (tVar 0) (tCons (tC (.ty "int")) tNil))))) (tB (tCB (cIsi K) (tCons (tVar 0) (tCons (tC (.ty "bool")) tNil)))))
      (tRet (tC (.bl false)))
      tNext)
    (tRet (tChain (rI0 fun i j=>.bl (decide (i≤j))) (rI0 fun i j=>.bl (decide (i≤j))) (tUn (rU fun i=>.int (-i)) (tOp (rI CPow fun i j=>.int (i ^ j.toNat)) (tC (.int 10)) (tC (.int 30)))) (tVar 0) (tOp (rI CPow fun i j=>.int (i ^ j.toNat)) (tC (.int 10)) (tC (.int 30))))))
def rd_is_figures (K:PySem.W.Frag) (t:Adr):TS:=(tRet (tAndV (tOp rNe (tVar 0) (tC (.str ""))) (tCB (cAll K) (tCons (tComp (iStr (tVar 0)) (gName 0) tYes (tOp rInS (tVar 0) (tC (.str "0123456789"))) 1 []) tNil))))
def rd_is_numeral (K:PySem.W.Frag) (t:Adr):TS:=(tSeq (tAsg (tIf (tB (tBM K "str" r_mt_startswith (tVar 0) (tCons (tC (.str "-")) tNil))) (tSl rSlS (tVar 0) (tPart (tC (.int 1))) tNoPart) (tVar 0)) (gName 1))
    (tSeq (tIfS (tOr (tTest (tOp (rI0 fun i j=>.bl (decide (j < i))) (tCB (cLen K) (tCons (tVar 1) tNil)) (tC (.int 31)))) (tNot (tB (tCall sp_is_figures [] E0 (tCons (tVar 1) tNil)))))
      (tRet (tC (.bl false)))
      tNext)
    (tSeq (tAsg (tCB cInt (tCons (tVar 0) tNil)) (gName 2))
    (tRet (tAndV (tCall (sp_is_worth K) [] E0 (tCons (tVar 2) tNil)) (tOp rEq (tCall sp_numeral [] E0 (tCons (tVar 2) tNil)) (tVar 0)))))))
def rd_worth_in (K:PySem.W.Frag) (t:Adr) (E:XK):TS:=(tSeq (tIfS (tNot (tB (tCall sp_is_numeral [] E (tCons (tVar 0) tNil))))
      (tRaise t.c_NoNumber (tCons (tMsgR (tVar 0)) tNil) E)
      tNext)
    (tRet (tCB cInt (tCons (tVar 0) tNil))))
def rd_part_in (K:PySem.W.Frag) (t:Adr) (E:XK):TS:=(tSeq (tIfS (tB (tCall sp_is_name [] E (tCons (tVar 0) tNil)))
      (tRet (tVar 0))
      tNext)
    (tSeq (tIfS (tB (tCall sp_is_numeral [] E (tCons (tVar 0) tNil)))
      (tRet (tCall (sp_worth_in t) [] E (tCons (tVar 0) tNil)))
      tNext)
    (tRaise t.c_NoTerm (tCons (tMsgR (tVar 0)) tNil) E)))
def rd_term_from_B (K:PySem.W.Frag) (t:Adr) (E:XK):TS:=(tSeq (tAsg (tBM0 K "list" r_mt_pop (tVar 3)) (gName 5))
    (tSeq (tAsg (tBM0 K "list" r_mt_pop (tVar 3)) (gName 6))
    (tDrop (tBM K "list" r_mt_append (tVar 3) (tCons (tOp (rCatT K) (tOp (rCatT K) (tVar 5) (tVar 6)) (tTup (tCons (tVar 4) tNil))) tNil)))))
def rd_term_from_C (K:PySem.W.Frag) (t:Adr) (E:XK):TS:=(tDrop (tBM K "list" r_mt_append (tVar 3) (tCons (tTup (tCons (tCall (sp_part_in t) [] E (tCons (tVar 4) tNil)) tNil)) tNil)))
def rd_term_from (K:PySem.W.Frag) (t:Adr) (E:XK):TS:=(tSeq (tAsg (tCall (sp_behind_term t) [] E (tCons (tVar 0) (tCons (tVar 1) tNil))) (gName 2))
    (tSeq (tAsg (tLst tNil) (gName 3))
    (tSeq (tFor (iRev K (tCons (tSl (rSlL K) (tVar 0) (tPart (tVar 1)) (tPart (tVar 2))) tNil)) (gName 4)
      (tIfS (tTest (tOp (rIn K false) (tVar 4) (tC (.ref t.c_JOINING))))
      (rd_term_from_B K t E)
      (rd_term_from_C K t E)))
    (tRet (tTup (tCons (tBM0 K "list" r_mt_pop (tVar 3)) (tCons (tVar 2) tNil)))))))
def rd_RowWords_draw_term (K:PySem.W.Frag) (t:Adr):TS:=(tSeq (tAsg (tCall (sp_term_from t) [] E0 (tCons (tFld K (tVar 0) "words") (tCons (tFld K (tVar 0) "at") tNil))) (gName 1))
    (tSeq (sFld K (tVar 0) (tOp (rIxT K) (tVar 1) (tC (.int 1))) "at")
    (tRet (tOp (rIxT K) (tVar 1) (tC (.int 0))))))
def rd_RowWords_draw_as (K:PySem.W.Frag) (t:Adr):TS:=(tIfS (tTest (tOp rNe (tMeth t.c_RowWords "draw_word" (sp_RowWords_draw_word t) [] E0 (tVar 0) tNil) (tC (.str "as"))))
      tNever
      tNext)
def rd_take_drawn (K:PySem.W.Frag) (t:Adr):TS:=(tSeq (tAsg (tMeth t.c_RowWords "draw_name" (sp_RowWords_draw_name t) [] E0 (tVar 0) tNil) (gName 1))
    (tSeq (tAsg (tMeth t.c_RowWords "draw_term" (sp_RowWords_draw_term t) [] E0 (tVar 0) tNil) (gName 2))
    (tSeq (tDrop (tMeth t.c_RowWords "draw_as" (sp_RowWords_draw_as t) [] E0 (tVar 0) tNil))
    (tRet (tTup (tCons (tC (.str "take")) (tCons (tVar 1) (tCons (tVar 2) (tCons (tMeth t.c_RowWords "draw_name" (sp_RowWords_draw_name t) [] E0 (tVar 0) tNil) tNil)))))))))
def rd_row_drawn_4 (K:PySem.W.Frag) (t:Adr):TS:=(tSeq (tIfS (tTest (tOp (rIn K false) (tVar 1) (tTup (tCons (tC (.str "say")) (tCons (tC (.str "off")) tNil)))))
      (tRet (tTup (tCons (tVar 1) (tCons (tMeth t.c_RowWords "draw_term" (sp_RowWords_draw_term t) [] E0 (tVar 0) tNil) tNil))))
      tNext)
    (tSeq (tIfS (tTest (tOp rEq (tVar 1) (tC (.str "if"))))
      (tRet (tTup (tCons (tC (.str "if")) (tCons (tMeth t.c_RowWords "draw_term" (sp_RowWords_draw_term t) [] E0 (tVar 0) tNil) (tCons (tLst tNil) (tCons (tLst tNil) tNil))))))
      tNext)
    (tSeq (tIfS (tTest (tOp (rIn K false) (tVar 1) (tTup (tCons (tC (.str "else")) (tCons (tC (.str "end")) tNil)))))
      (tRet (tTup (tCons (tVar 1) tNil)))
      tNext)
    tNever)))
def rd_row_drawn_3 (K:PySem.W.Frag) (t:Adr):TS:=(tSeq (tIfS (tTest (tOp rEq (tVar 1) (tC (.str "let"))))
      (tRet (tTup (tCons (tC (.str "let")) (tCons (tMeth t.c_RowWords "draw_name" (sp_RowWords_draw_name t) [] E0 (tVar 0) tNil) (tCons (tMeth t.c_RowWords "draw_term" (sp_RowWords_draw_term t) [] E0 (tVar 0) tNil) tNil)))))
      tNext)
    (rd_row_drawn_4 K t))
def rd_row_drawn_2 (K:PySem.W.Frag) (t:Adr):TS:=(tSeq (tIfS (tTest (tOp rEq (tVar 1) (tC (.str "give"))))
      (tRet (tTup (tCons (tC (.str "give")) (tCons (tMeth t.c_RowWords "draw_name" (sp_RowWords_draw_name t) [] E0 (tVar 0) tNil) (tCons (tMeth t.c_RowWords "draw_term" (sp_RowWords_draw_term t) [] E0 (tVar 0) tNil) (tCons (tMeth t.c_RowWords "draw_term" (sp_RowWords_draw_term t) [] E0 (tVar 0) tNil) tNil))))))
      tNext)
    (rd_row_drawn_3 K t))
def rd_row_drawn (K:PySem.W.Frag) (t:Adr):TS:=(tSeq (tAsg (tMeth t.c_RowWords "draw_word" (sp_RowWords_draw_word t) [] E0 (tVar 0) tNil) (gName 1))
    (tSeq (tIfS (tTest (tOp rEq (tVar 1) (tC (.str "take"))))
      (tRet (tCall (sp_take_drawn t) [] E0 (tCons (tVar 0) tNil)))
      tNext)
    (rd_row_drawn_2 K t)))
def rd_RowWords_draw_end (K:PySem.W.Frag) (t:Adr):TS:=(tIfS (tTest (tOp (rI0 fun i j=>.bl (decide (i < j))) (tFld K (tVar 0) "at") (tCB (cLen K) (tCons (tFld K (tVar 0) "words") tNil))))
      tNever
      tNext)
def rd_row_in (K:PySem.W.Frag) (t:Adr):TS:=(tSeq (tAsg (tBM K "str" r_mt_split (tVar 0) (tCons (tC (.str " ")) tNil)) (gName 2))
    (tSeq (tIfS (tOr (tTest (tOp (rI0 fun i j=>.bl (decide (j≤i))) (tVar 1) (tC (.int 40)))) (tTest (tOp (rI0 fun i j=>.bl (decide (j < i))) (tCB (cLen K) (tCons (tVar 2) tNil)) (tC (.int 60)))))
      tNever
      tNext)
    (tSeq (tAsg (tMake t.c_RowWords (sp_RowWords_init t) [] E0 (tCons (tVar 2) (tCons (tVar 1) tNil))) (gName 3))
    (tSeq (tAsg (tCall (sp_row_drawn t) [] E0 (tCons (tVar 3) tNil)) (gName 4))
    (tSeq (tDrop (tMeth t.c_RowWords "draw_end" (sp_RowWords_draw_end t) [] E0 (tVar 3) tNil))
    (tRet (tVar 4)))))))
def rd_read_3 (K:PySem.W.Frag) (t:Adr):TS:=(tSeq (tIfS (tTest (tOp (rNeNil K) (tFld K (tVar 2) "blocks") (tLst tNil)))
      tNever
      tNext)
    (tRet (tFld K (tVar 2) "rows")))
def rd_read_2 (K:PySem.W.Frag) (t:Adr):TS:=(tSeq (tFor (iEnm K (tCons (tVar 1) tNil)) (gTup K 2 (gCons (gName 3) (gCons (gName 4) gNil)))
      (tDrop (tMeth t.c_Reading "reads" (sp_Reading_reads t) [] E0 (tVar 2) (tCons (tCall (sp_row_in t) [] E0 (tCons (tVar 4) (tCons (tVar 3) tNil))) (tCons (tVar 3) tNil)))))
    (rd_read_3 K t))
def rd_read_1 (K:PySem.W.Frag) (t:Adr):TS:=(tSeq (tAsg (tMake t.c_Reading (sp_Reading_init t) [] E0 tNil) (gName 2))
    (rd_read_2 K t))
def rd_read (K:PySem.W.Frag) (t:Adr):TS:=(tSeq (tAsg (tIf (tTest (tOp rNe (tVar 0) (tC (.str "")))) (tBM K "str" r_mt_split (tVar 0) (tCons (tC (.str "\n")) tNil)) (tLst tNil)) (gName 1))
    (rd_read_1 K t))
def rd__law_cell_at (K:PySem.W.Frag) (t:Adr):TS:=(tSeq (tIfS (tTest (tOp (rI0 fun i j=>.bl (decide (i < j))) (tVar 1) (tCB (cLen K) (tCons (tVar 0) tNil))))
      (tRet (tOp (rIxL K) (tVar 0) (tVar 1)))
      tNext)
    (tRet (tC (.int 0))))
def rd__law_alike_E (K:PySem.W.Frag) (t:Adr) (n:Nat):TS:=(tSeq (tIfS (tTest (tOp rNe (tCB (cLen K) (tCons (tVar 0) tNil)) (tCB (cLen K) (tCons (tVar 1) tNil))))
      (tRet (tC (.bl false)))
      tNext)
    (tSeq (tFor (iZipB K (tCons (tVar 0) (tCons (tVar 1) tNil))) (gTup K 2 (gCons (gName 2) (gCons (gName 3) gNil)))
      (tIfS (tNot (tB (tCall (sp__law_alike  n) [] E0 (tCons (tVar 2) (tCons (tVar 3) tNil)))))
      (tRet (tC (.bl false)))
      tNext))
    (tRet (tC (.bl true)))))
def rd__law_alike_B (K:PySem.W.Frag) (t:Adr) (n:Nat):TS:=(tSeq (tIfS (tOr (tTest (tOp rNe (tCB (cIsi K) (tCons (tVar 1) (tCons (tC (.ty "list")) tNil))) (tCB (cIsi K) (tCons (tVar 0) (tCons (tC (.ty "list")) tNil))))) (tNot (tB (tCB (cIsiT K) (tCons (tVar 0) (tCons (tTup (tCons (tC (.ty "list")) (tCons (tC (.ty "tuple")) tNil))) tNil))))))
      (tRet (tC (.bl false)))
      tNext)
    (rd__law_alike_E K t n))
def rd__law_alike_G (K:PySem.W.Frag) (t:Adr) (n:Nat):TS:=(tSeq (tIfS (tOr (tB (tCB (cIsi K) (tCons (tVar 0) (tCons (tC (.ty "bool")) tNil)))) (tTest (tOp rNe (tCB (cIsi K) (tCons (tVar 1) (tCons (tC (.ty "str")) tNil))) (tCB (cIsi K) (tCons (tVar 0) (tCons (tC (.ty "str")) tNil))))))
      (tRet (tC (.bl false)))
      tNext)
    (tRet (tAndV (tCB (cIsiT K) (tCons (tVar 0) (tCons (tTup (tCons (tC (.ty "int")) (tCons (tC (.ty "str")) tNil))) tNil))) (tOp rEq (tVar 0) (tVar 1)))))
def rd__law_alike (K:PySem.W.Frag) (t:Adr) (n:Nat):TS:=(tSeq (tIfS (tB (tCB (cIsiT K) (tCons (tVar 1) (tCons (tTup (tCons (tC (.ty "list")) (tCons (tC (.ty "tuple")) tNil))) tNil))))
      (rd__law_alike_B K t n)
      tNext)
    (rd__law_alike_G K t n))
def rd__law_apart_E (K:PySem.W.Frag) (t:Adr):TS:=(tSeq (tIfS (tOr (tNot (tB (tCall (sp__law_alike  15) [] E0 (tCons (tOp (rIxT K) (tOp (rIxL K) (tVar 0) (tVar 2)) (tC (.int 2))) (tCons (tOp (rIxT K) (tOp (rIxL K) (tVar 1) (tVar 2)) (tC (.int 2))) tNil))))) (tNot (tB (tCall (sp__law_alike  15) [] E0 (tCons (tSl (rSlL K) (tVar 0) (tPart (tOp (rI0 fun i j=>.int (i + j)) (tVar 2) (tC (.int 1)))) tNoPart) (tCons (tSl (rSlL K) (tVar 1) (tPart (tOp (rI0 fun i j=>.int (i + j)) (tVar 2) (tC (.int 1)))) tNoPart) tNil))))))
      (tRet (tC (.bl false)))
      tNext)
    (tDrop (tBM0 K "list" r_mt_clear (tOp (rIxT K) (tOp (rIxL K) (tVar 0) (tVar 2)) (tC (.int 2))))))
def rd__law_apart_C (K:PySem.W.Frag) (t:Adr):TS:=(tSeq (tDrop (tBM K "list" r_mt_append (tOp (rIxT K) (tOp (rIxL K) (tVar 0) (tVar 2)) (tC (.int 3))) (tCons (tTup (tCons (tC (.str "say")) (tCons (tTup (tCons (tC (.int 1)) tNil)) tNil))) tNil)))
    (rd__law_apart_E K t))
def rd__law_apart_B (K:PySem.W.Frag) (t:Adr):TS:=(tIfS (tTest (tOp rEq (tOp (rIxT K) (tOp (rIxL K) (tVar 0) (tVar 2)) (tC (.int 0))) (tC (.str "if"))))
      (rd__law_apart_C K t)
      tNext)
def rd__law_apart (K:PySem.W.Frag) (t:Adr):TS:=(tSeq (tFor (iRng1 (tCons (tCB (cLen K) (tCons (tVar 0) tNil)) tNil)) (gName 2)
      (rd__law_apart_B K t))
    (tSeq (tDrop (tBM0 K "list" r_mt_clear (tVar 0)))
    (tRet (tC (.bl true)))))
def rd_law_7 (K:PySem.W.Frag) (t:Adr):TS:=(tRet (tAndV (tCall sp__law_apart [] E0 (tCons (tVar 6) (tCons (tVar 3) tNil))) (tAndV (tCall (sp__law_alike  15) [] E0 (tCons (tCall (sp_read t) [] E0 (tCons (tVar 2) tNil)) (tCons (tVar 3) tNil))) (tOp rEq (tCall sp_shown [] E0 (tCons (tCall (sp__law_copy  6) [] E0 (tCons (tVar 3) tNil)) tNil)) (tVar 2)))))
def rd_law_6 (K:PySem.W.Frag) (t:Adr):TS:=(tSeq (tIfS (tNot (tB (tCall (sp__law_alike  15) [] E0 (tCons (tVar 6) (tCons (tVar 3) tNil)))))
      (tRet (tC (.bl false)))
      tNext)
    (rd_law_7 K t))
def rd_law_5 (K:PySem.W.Frag) (t:Adr):TS:=(tSeq (tAsg (tCall (sp_read t) [] E0 (tCons (tVar 2) tNil)) (gName 6))
    (rd_law_6 K t))
def rd_law_4 (K:PySem.W.Frag) (t:Adr):TS:=(tSeq (tIfS (tOr (tNot (tB (tCB (cIsi K) (tCons (tVar 5) (tCons (tC (.ty "str")) tNil))))) (tOr (tTest (tOp rNe (tVar 5) (tVar 2))) (tNot (tB (tCall (sp__law_alike  15) [] E0 (tCons (tVar 4) (tCons (tVar 3) tNil)))))))
      (tRet (tC (.bl false)))
      tNext)
    (rd_law_5 K t))
def rd_law_2 (K:PySem.W.Frag) (t:Adr):TS:=(tSeq (tAsg (tCall (sp__law_copy  6) [] E0 (tCons (tVar 3) tNil)) (gName 4))
    (tSeq (tAsg (tCall sp_shown [] E0 (tCons (tVar 4) tNil)) (gName 5))
    (rd_law_4 K t)))
def rd_law (K:PySem.W.Frag) (t:Adr):TS:=(tSeq (tAsg (tCall sp__law_names [] E0 (tCons (tCall (sp__law_cell_at K) [] E0 (tCons (tVar 0) (tCons (tC (.int 0)) tNil))) tNil)) (gName 1))
    (tSeq (tAsg (tCall sp__law_rows [] E0 (tCons (tSl (rSlL K) (tVar 0) (tPart (tC (.int 1))) (tPart (tC (.int 121)))) (tCons (tVar 1) tNil))) (gTup K 2 (gCons (gName 2) (gCons (gName 3) gNil))))
    (rd_law_2 K t)))
section
variable {K:PySem.W.Frag} {t:Adr} {H:Hp} {Q:VK}
theorem pow10 {j:Int} (h0:0≤j) (h1:j≤100):CPow 10 j:=⟨h0,by lia,by decide⟩
theorem small_size {n:Nat} (h:n≤100000):n≤sizeLine:=Nat.le_trans h (by decide)
theorem kit_same (T:String):PySem.W.kitOne K (.type T) (.type T)=some true:=by
  unfold PySem.W.kitOne
  rw [if_pos (by simp)]
theorem kf (K:PySem.W.Frag):KF K:=⟨by with_unfolding_all rfl,by with_unfolding_all rfl,by with_unfolding_all rfl,by with_unfolding_all rfl,by with_unfolding_all rfl,by with_unfolding_all rfl,by with_unfolding_all rfl,by with_unfolding_all rfl,by with_unfolding_all rfl,by with_unfolding_all rfl⟩
theorem rdp_is_worth {x:V} (hK:IntFact K) (h:(∃ i,x=.int i∧∀ H',Same H H'→Q (.bl (inW i)) H')∨(NoInt K H x∧∀ H',Same H H'→Q (.bl false) H')) :
    rd_is_worth K t { nx:=fun _ H'=>Q .non H',rt:=Q } (L2.start ["thing"] [x]) H:=by
  simp only [rd_is_worth,L2.start,tSeq,tRet,tNext,tOp,tUn,tVar,tC,tCons,tNil,tIfS,tOr,tNot,tB,tCB,tChain,rI,rI0,rU,cIsi,List.map,List.replicate,List.length,List.append,jqa,jqb,jqc,jqd,jqe,jqf,jqg,jqh,jqi,jqj,jqk,jql,jqm,jqn,and_true,true_and,and_assoc,jqo,jqp,jqq,Nat.reduceSub,Nat.reduceAdd,jqr,jqs,jqt,Int.reduceToNat,Int.reducePow,Int.reduceNeg,Int.reduceMul,Int.reduceAdd,if_true,ite_true,jqu,ite_false,if_false]
  rcases h with ⟨i,rfl,q⟩ | ⟨⟨T,b,ty,k1,k2⟩,q⟩
  · have q:=q H (Same.refl H)
    refine ⟨_,.int i,true,kit_same _,?_⟩
    rw [if_neg (by decide)]
    refine ⟨_,.int i,false,hK,?_⟩
    rw [if_neg (by decide)]
    refine ⟨pow10 (by decide) (by decide),_,rfl,ite2 (fun c=>⟨pow10 (by decide) (by decide),_,rfl,?_⟩) fun c=>?_⟩
    · have e:inW i=decide (i≤1000000000000000000000000000000):=by
        unfold inW
        by_cases h:i≤1000000000000000000000000000000
        · rw [decide_eq_true h,decide_eq_true ⟨c,h⟩]
        · rw [decide_eq_false h,decide_eq_false fun z=>h z.2]
      rw [e] at q
      exact q
    · have e:inW i=false:=decide_eq_false fun z=>c z.1
      rw [e] at q
      exact q
  · have q:=q H (Same.refl H)
    refine ⟨_,ty,b,k1,ite2 (fun _=>q) fun c=>⟨_,ty,true,k2 (by simpa using c),?_⟩⟩
    rw [if_pos rfl]
    exact q
theorem log_inW {w:Int} (hw:inW w=true):w.natAbs.log2 < 1920:=by
  have hw':-1000000000000000000000000000000≤w∧w≤1000000000000000000000000000000:=of_decide_eq_true hw
  by_cases h0:w.natAbs=0
  · rw [h0];decide
  · exact Nat.lt_of_lt_of_le ((Nat.log2_lt h0 (k:=100)).mpr (Nat.lt_of_le_of_lt (by lia:w.natAbs≤1000000000000000000000000000000) (by decide +kernel))) (by decide)
theorem rdp_numeral {w:Int} (hw:inW w=true) (q:∀ H',Same H H'→Q (.str (numS w)) H') :
    rd_numeral K t { nx:=fun _ H'=>Q .non H',rt:=Q } (L2.start ["worth"] [.int w]) H:=by
  simp only [rd_numeral,L2.start,tRet,tVar,tCons,tNil,tCB,cStr,List.map,List.replicate,List.length,List.append,jqa,jqb,jqc,jqd,jqe,jqf,jqg,jqh,jqi,jqj,jqk,jql,jqm,jqn,and_true,true_and,and_assoc,jqo,jqp,jqq,Nat.reduceSub,Nat.reduceAdd,jqr,jqs,jqt,Int.reduceToNat,Int.reducePow,Int.reduceNeg,Int.reduceMul,Int.reduceAdd,if_true,ite_true,jqu,ite_false,if_false]
  exact ⟨log_inW hw,q _ (Same.refl H)⟩
theorem bl_list {x:Str} {f:Nat→Bool} {ys:List V} (hl:ys.length=x.cps.size) (hv:∀ (i:Nat) (v:V),ys[i]?=some v→∃ c,x.cps[i]?=some c∧v=.bl (f c)):ys=(x.cps.toList.map f).map V.bl:=by
  apply List.ext_getElem?
  intro i
  by_cases hi:i < ys.length
  · obtain ⟨c,hc,e⟩:=hv i ys[i] (List.getElem?_eq_getElem hi)
    rw [List.getElem?_eq_getElem hi,e,List.getElem?_map,List.getElem?_map]
    have hc':x.cps.toList[i]?=some c:=by simpa using hc
    rw [hc'];rfl
  · rw [List.getElem?_eq_none (by lia),List.getElem?_eq_none]
    rw [List.length_map,List.length_map]
    have:x.cps.toList.length=x.cps.size:=by simp
    lia
theorem rdp_is_figures {x:Str} (hx:x.length≤1000) (q:∀ H',Same H H'→Q (.bl (isFig x)) H') :
    rd_is_figures K t { nx:=fun _ H'=>Q .non H',rt:=Q } (L2.start ["text"] [.str x]) H:=by
  simp only [rd_is_figures,L2.start,gName,tRet,tOp,tVar,tC,tCons,tNil,tAndV,tCB,tComp,tYes,capV,iStr,rNe,rInS,cAll,scal,List.map,List.replicate,List.length,List.append,jqa,jqb,jqc,jqd,jqe,jqf,jqg,jqh,jqi,jqj,jqk,jql,jqm,jqn,and_true,true_and,and_assoc,jqo,jqp,jqq,Nat.reduceSub,Nat.reduceAdd,jqr,jqs,jqt,Int.reduceToNat,Int.reducePow,Int.reduceNeg,Int.reduceMul,Int.reduceAdd,if_true,ite_true,jqu,ite_false,if_false]
  refine ite2 (fun c D hD=>?_) fun c=>?_
  · refine comp_gen (J:=Its x) x.cps.size (by show x.length≤_;lia) (fun τ=>∃ o,τ=[o]) (fun i v=>∃ c,x.cps[i]?=some c∧v=.bl (inF c)) ⟨_,rfl⟩ (fun i H _ h=>h) (fun H _=>Nat.le_refl _) hD ?_ ?_
    · rintro i v τ H2 H' ⟨o,rfl⟩ hS hi ⟨rfl,c,hc,rfl⟩
      exact ⟨_,rfl,_,rfl,⟨_,rfl⟩,⟨c,hc,rfl⟩,Same.refl _⟩
    · intro ys H' hl hv hS hq
      refine ⟨x.cps.toList.map inF,SqL.of (by rw [← bl_list hl hv];exact hq),?_⟩
      have e:isFig x=(x.cps.toList.map inF).all id:=by
        unfold isFig
        rw [decide_eq_false c,List.all_map];rfl
      rw [← e]
      exact q _ hS
  · have e:isFig x=false:=by
      unfold isFig
      rw [decide_eq_true (Classical.not_not.mp c)];rfl
    rw [e] at q
    exact q _ (Same.refl H)
theorem num_rest {x:Str} (hx:x.length≤1000) (q:∀ H',Same H H'→Q (.bl (isNum x)) H'):(fpart x).length≤sizeLine∧if 31 < ((fpart x).length:Int) then Q (V.bl false) H else
      (fpart x).length≤1000∧∀ H',Same H H'→if isFig (fpart x)=false then Q (V.bl false) H' else
        ∃ n,intText? x=some n∧x.length≤640∧((∀ H2,Same H' H2→if inW n=true then inW n=true∧∀ H3,Same H2 H3→Q (V.bl (decide (numS n=x))) H3 else Q (V.bl false) H2) ∨
          NoInt K H' (V.int n)∧∀ H2,Same H' H2→Q (V.bl false) H2):=by
  have h1:=fpart_le x
  have h2:=fpart_len x
  refine ⟨small_size (by lia),ite2 (fun c=>?_) fun c=>⟨by lia,fun H' s=>ite2 (fun f=>?_) fun f=>?_⟩⟩
  · have e:isNum x=false:=by unfold isNum;rw [decide_eq_true (by lia:31 < (fpart x).length)];rfl
    rw [e] at q;exact q _ (Same.refl H)
  · have e:isNum x=false:=by unfold isNum;rw [f];simp
    rw [e] at q;exact q _ s
  · have f':isFig (fpart x)=true:=by simpa using f
    have en:isNum x=(inW (valOf x) && decide (numS (valOf x)=x)):=by
      unfold isNum
      rw [f',decide_eq_false (by lia:¬ 31 < (fpart x).length)];rfl
    refine ⟨_,int_of_fig f' (by lia),by lia,.inl fun H2 s2=>ite2 (fun w=>⟨w,fun H3 s3=>?_⟩) fun w=>?_⟩
    · rw [w,Bool.true_and] at en
      rw [en] at q
      exact q _ (s.trans (s2.trans s3))
    · rw [Bool.eq_false_iff.mpr w,Bool.false_and] at en
      rw [en] at q
      exact q _ (s.trans s2)
theorem rdp_is_numeral {x:Str} (hx:x.length≤1000) (q:∀ H',Same H H'→Q (.bl (isNum x)) H') :
    rd_is_numeral K t { nx:=fun _ H'=>Q .non H',rt:=Q } (L2.start ["text","figures","worth"] [.str x]) H:=by
  simp only [rd_is_numeral,sp_is_figures,sp_is_worth,sp_numeral,L2.start,tSeq,tAsg,gName,tRet,tNext,tOp,tVar,tC,tCons,tNil,tIfS,tOr,tNot,tTest,tB,tAndV,tIf,tCB,tBM,tyV,tSl,tPart,tNoPart,tCall,LenV,rEq,rI0,rSlS,cLen,cInt,r_mt_startswith,scal,List.map,List.replicate,List.length,List.append,jqa,jqb,jqc,jqd,jqe,jqf,jqg,jqh,jqi,jqj,jqk,jql,jqm,jqn,and_true,true_and,and_assoc,jqo,jqp,jqq,Nat.reduceSub,Nat.reduceAdd,jqr,jqs,jqt,Int.reduceToNat,Int.reducePow,Int.reduceNeg,Int.reduceMul,Int.reduceAdd,if_true,ite_true,jqu,ite_false,if_false]
  have r:=num_rest (K:=K) hx q
  unfold fpart at r
  rw [starts_eq]
  have e1:(Str.ofString "-").cps.toList=[45]:=by decide +kernel
  have e2:(Str.ofString "-").length=1:=by decide +kernel
  rw [e1,e2]
  by_cases c:(x.cps.toList.take 1 == [45])=true
  · simp only [if_pos c] at r ⊢
    exact ⟨small_size (by lia),r⟩
  · simp only [if_neg c] at r ⊢
    exact r
theorem rdp_worth_in {x:Str} {E:XK} (hx:x.length≤1000) (ha:Asc x) (q:∀ H',Same H H'→if isNum x=true then Q (.int (valOf x)) H' else E (.ref t.c_NoNumber) none H') :
    rd_worth_in K t E { nx:=fun _ H'=>Q .non H',rt:=Q } (L2.start ["text"] [.str x]) H:=by
  simp only [rd_worth_in,sp_is_numeral,L2.start,tRaise,tMsgR,tSeq,tRet,tNext,tVar,tCons,tNil,tIfS,tNot,tB,tCB,tCall,cInt,List.map,List.replicate,List.length,List.append,jqa,jqb,jqc,jqd,jqe,jqf,jqg,jqh,jqi,jqj,jqk,jql,jqm,jqn,and_true,true_and,and_assoc,jqo,jqp,jqq,Nat.reduceSub,Nat.reduceAdd,jqr,jqs,jqt,Int.reduceToNat,Int.reducePow,Int.reduceNeg,Int.reduceMul,Int.reduceAdd,if_true,ite_true,jqu,ite_false,if_false]
  refine ⟨hx,fun H' s=>?_⟩
  have q:=q H' s
  by_cases hn:isNum x=true
  · rw [if_neg (by rw [hn];decide)]
    rw [if_pos hn] at q
    unfold isNum at hn
    rw [Bool.and_eq_true,Bool.not_eq_true',Bool.or_eq_false_iff,decide_eq_false_iff_not] at hn
    have h2:=fpart_len x
    have hf:isFig (fpart x)=true:=by simpa using hn.1.2
    exact ⟨_,int_of_fig hf (by lia),by lia,q⟩
  · rw [if_neg hn] at q
    rw [if_pos (by simpa using hn)]
    exact ⟨by lia,ha,fun y=>⟨by decide,q⟩⟩
theorem dB {i j:Int} (h0:0 < j:=by decide) (h1:j < 10000000000000000000000000000000000000000000000:=by decide):CDivB i j:=by
  have hb:(10000000000000000000000000000000000000000000000:Int) < big:=by decide +kernel
  exact ⟨h0,by lia⟩
theorem at_lt {α:Type} {xs:List α} {i:Int} (h0:0≤i) (h1:i < xs.length):∃ x,atI xs i=some x∧x∈xs:=by
  obtain ⟨n,rfl⟩:∃ n:Nat,i=(n:Int):=⟨i.toNat,by lia⟩
  have hn:n < xs.length:=by lia
  refine ⟨xs[n],?_,List.getElem_mem hn⟩
  unfold atI ixN
  rw [if_pos h0,if_pos h1]
  simp [hn]
theorem at_mod {α:Type} {xs:List α} (e:Int) (n:Nat) (hl:xs.length=n) (hn:0 < (n:Int)):∃ x,atI xs (e % n)=some x∧x∈xs :=
  at_lt (Int.emod_nonneg _ (by lia)) (by rw [hl];exact Int.emod_lt_of_pos _ hn)
theorem strs_of {P:Str→Prop}:∀ {ys:List V},(∀ v∈ys,∃ x,v=.str x∧P x)→∃ ls:List Str,ys=ls.map V.str∧∀ x∈ls,P x
  | [],_=>⟨[],rfl,fun _ z=>nomatch z⟩
  | v :: r,h=>by
    obtain ⟨ls,e,hp⟩:=strs_of (ys:=r) fun u hu=>h u (List.mem_cons_of_mem _ hu)
    obtain ⟨x,rfl,px⟩:=h v List.mem_cons_self
    refine ⟨x :: ls,by rw [e];rfl,fun y hy=>?_⟩
    rcases List.mem_cons.mp hy with rfl | hy
    · exact px
    · exact hp y hy
theorem isName_long {x:Str} (h:6 < x.length):isName x=false:=by
  unfold isName
  rw [decide_eq_true h]
  simp
theorem rdp_is_name {x:Str} (hx:x.length≤1000) (hJ:∀ H,SqT K H t.c_JOINING jw) (hR:∀ H,SqT K H t.c_ROW_WORDS wl) (q:∀ H',Same H H'→Q (.bl (isName x)) H') :
    rd_is_name K t { nx:=fun _ H'=>Q .non H',rt:=Q } (L2.start ["text"] [.str x]) H:=by
  simp only [rd_is_name,L2.start,tSeq,gName,tRet,tNext,tOp,tVar,tC,tCons,tNil,tIfS,tOr,tTest,tCB,tComp,tYes,capV,LenV,iStr,rEq,rI0,rIn,rInS,cLen,cAll,scal,List.map,List.replicate,List.length,List.append,jqa,jqb,jqc,jqd,jqe,jqf,jqg,jqh,jqi,jqj,jqk,jql,jqm,jqn,and_true,true_and,and_assoc,jqo,jqp,jqq,Nat.reduceSub,Nat.reduceAdd,jqr,jqs,jqt,Int.reduceToNat,Int.reducePow,Int.reduceNeg,Int.reduceMul,Int.reduceAdd,if_true,ite_true,jqu,ite_false,if_false]
  refine ite2 (fun e=>?_) fun e0=>⟨small_size (by lia),ite2 (fun e=>?_) fun e6=>⟨_,.inr (hJ H),rfl,rfl,ite2 (fun e=>?_) fun eJ=>⟨_,.inr (hR H),rfl,rfl,ite2 (fun e=>?_) fun eR D hD=>?_⟩⟩⟩
  · rw [show isName x=false by rw [e];decide +kernel] at q
    exact q _ (Same.refl H)
  · rw [isName_long (by lia)] at q
    exact q _ (Same.refl H)
  · rw [show isName x=false by unfold isName;rw [e];simp] at q
    exact q _ (Same.refl H)
  · rw [show isName x=false by unfold isName;rw [e];simp] at q
    exact q _ (Same.refl H)
  have en:isName x=x.cps.toList.all inL:=by
    unfold isName
    rw [decide_eq_false e0,decide_eq_false (by lia:¬ 6 < x.length),Bool.eq_false_iff.mpr eJ,Bool.eq_false_iff.mpr eR]
    simp
  refine comp_gen (J:=Its x) x.cps.size (by show x.length≤_;lia) (fun τ=>∃ o,τ=[o]) (fun i v=>∃ c,x.cps[i]?=some c∧v=.bl (inL c)) ⟨_,rfl⟩ (fun i H _ h=>h) (fun H _=>Nat.le_refl _) hD ?_ ?_
  · rintro i v τ H2 H' ⟨o,rfl⟩ hS hi ⟨rfl,c,hc,rfl⟩
    exact ⟨_,rfl,_,rfl,⟨_,rfl⟩,⟨c,hc,rfl⟩,Same.refl _⟩
  · intro ys H' hl hv hS hq
    have ey:ys=(x.cps.toList.map inL).map V.bl:=by
      apply List.ext_getElem?
      intro i
      by_cases hi:i < ys.length
      · obtain ⟨c,hc,e⟩:=hv i ys[i] (List.getElem?_eq_getElem hi)
        rw [List.getElem?_eq_getElem hi,e,List.getElem?_map,List.getElem?_map]
        have hc':x.cps.toList[i]?=some c:=by simpa using hc
        rw [hc'];rfl
      · rw [List.getElem?_eq_none (by lia),List.getElem?_eq_none]
        rw [List.length_map,List.length_map]
        have:x.cps.toList.length=x.cps.size:=by simp
        lia
    refine ⟨x.cps.toList.map inL,SqL.of (by rw [← ey];exact hq),?_⟩
    rw [List.all_map,show (id ∘ inL)=inL from rfl,← en]
    exact q _ hS
theorem rdp__law_cell_at {a:Addr} {ns:List Int} {k:Nat} (hS:SqL K H a (ns.map V.int)) (hl:ns.length≤63) (q:∀ c H',Same H H'→Q (.int c) H') :
    rd__law_cell_at K t { nx:=fun _ H'=>Q .non H',rt:=Q } (L2.start ["script","k"] [.ref a,.int k]) H:=by
  simp only [rd__law_cell_at,L2.start,tSeq,tRet,tNext,tOp,tVar,tC,tCons,tNil,tIfS,tTest,tCB,LenV,rIxL,rI0,cLen,List.map,List.replicate,List.length,List.append,jqa,jqb,jqc,jqd,jqe,jqf,jqg,jqh,jqi,jqj,jqk,jql,jqm,jqn,and_true,true_and,and_assoc,jqo,jqp,jqq,Nat.reduceSub,Nat.reduceAdd,jqr,jqs,jqt,Int.reduceToNat,Int.reducePow,Int.reduceNeg,Int.reduceMul,Int.reduceAdd,if_true,ite_true,jqu,ite_false,if_false]
  refine ⟨_,.inl ⟨_,hS,rfl⟩,ite2 (fun c=>?_) fun _=>q _ _ (Same.refl H)⟩
  obtain ⟨v,hv,hm⟩:=at_lt (xs:=ns.map V.int) (i:=(k:Int)) (by lia) c
  obtain ⟨i,_,rfl⟩:=List.mem_map.mp hm
  exact ⟨_,hS,_,hv,q _ _ (Same.refl H)⟩
theorem abc_len:(Str.ofString "abcdefghijklmnopqrstuvwxyz").cps.toList.length=26:=by decide +kernel
theorem one_len (c:Nat):({ cps:=#[c] }:Str).length=1:=rfl
theorem last_get {xs:List V} {y:V}:(xs ++ [y])[(xs ++ [y]).length - 1]?=some y:=by simp
theorem drop_last {xs:List V} {y:V}:(xs ++ [y]).dropLast=xs:=by simp
theorem same_upd {H H':Hp} {w:Addr} {o:HO} (s:Same H H') (hw:H w=none):Same H (upd H' w o):=fun b u e=>by rw [upd_ne (ne_of_none e hw)];exact s b u e
theorem at_m2 {xs:List V} {a b:V}:atI (xs ++ [a,b]) (-2)=some a:=by
  unfold atI ixN
  rw [if_neg (by decide),if_pos (by simp;lia)]
  have:(-2 + ((xs ++ [a,b]).length:Int)).toNat=xs.length:=by simp;lia
  rw [this]
  simp
theorem at_m1 {xs:List V} {a b:V}:atI (xs ++ [a,b]) (-1)=some b:=by
  unfold atI ixN
  rw [if_neg (by decide),if_pos (by simp;lia)]
  have:(-1 + ((xs ++ [a,b]).length:Int)).toNat=xs.length + 1:=by simp;lia
  rw [this]
  simp
theorem cut_m2 {xs:List V} {a b:V}:cutV (xs ++ [a,b]) none (some (-2))=xs:=by
  unfold cutV
  have e:HT.sIx (xs ++ [a,b]).length (xs ++ [a,b]).length (some (-2))=xs.length:=by
    show (if (-2:Int) < 0 then (-2 + ((xs ++ [a,b]).length:Int)).toNat else min (-2:Int).toNat (xs ++ [a,b]).length)=xs.length
    rw [if_pos (by decide)]
    simp
    lia
  rw [e,show HT.sIx (xs ++ [a,b]).length 0 none=0 from rfl,List.drop_zero,Nat.sub_zero]
  simp
theorem two_last {α:Type} {l:List α} (h:1 < l.length):∃ r a b,l=r ++ [a,b]:=by
  have h0:l≠[]:=fun z=>by rw [z] at h;simp at h
  have e:=List.dropLast_concat_getLast h0
  have h1:l.dropLast≠[]:=fun z=>by rw [z] at e;rw [← e] at h;simp at h
  have e1:=List.dropLast_concat_getLast h1
  have e2:l.dropLast ++ [l.getLast h0]=(l.dropLast.dropLast ++ [l.dropLast.getLast h1]) ++ [l.getLast h0]:=by rw [e1]
  exact ⟨l.dropLast.dropLast,l.dropLast.getLast h1,l.getLast h0,e.symm.trans (e2.trans (by simp))⟩
theorem rdp_part_in {x:Str} {E:XK} (hx:x.length≤1000) (ha:Asc x) (q:∀ H',Same H H'→(match partW x with | some v=>Q v H' | none=>E (.ref t.c_NoTerm) none H')) :
    rd_part_in K t E { nx:=fun _ H'=>Q .non H',rt:=Q } (L2.start ["word"] [.str x]) H:=by
  simp only [rd_part_in,sp_is_name,sp_is_numeral,sp_worth_in,L2.start,tRaise,tMsgR,tSeq,tRet,tNext,tVar,tCons,tNil,tIfS,tB,tCall,List.map,List.replicate,List.length,List.append,jqa,jqb,jqc,jqd,jqe,jqf,jqg,jqh,jqi,jqj,jqk,jql,jqm,jqn,and_true,true_and,and_assoc,jqo,jqp,jqq,Nat.reduceSub,Nat.reduceAdd,jqr,jqs,jqt,Int.reduceToNat,Int.reducePow,Int.reduceNeg,Int.reduceMul,Int.reduceAdd,if_true,ite_true,jqu,ite_false,if_false]
  unfold partW at q
  refine ⟨hx,fun H1 s1=>ite2 (fun c=>?_) fun c=>⟨hx,fun H2 s2=>ite2 (fun d=>⟨hx,ha,fun H3 s3=>?_⟩) fun d=>⟨by lia,ha,fun y=>⟨by decide,?_⟩⟩⟩⟩
  · have q:=q H1 s1
    rw [if_pos c] at q
    exact q
  · have q:=q H3 (s1.trans (s2.trans s3))
    rw [if_neg c,if_pos d] at q
    rw [if_pos d]
    exact q
  · have q:=q H2 (s1.trans s2)
    rw [if_neg c,if_neg d] at q
    exact q
theorem at_nat {xs:List V} {n:Nat} {v:V} (h:xs[n]?=some v):atI xs (n:Int)=some v:=atI_nat h
theorem scan_zero (l:List Str):scanE l 0=some 0:=by cases l <;> (unfold scanE;rfl)
theorem scan_pos {l:List Str} {d n:Nat} (h:scanE l (d + 1)=some n):1≤n:=by
  cases l with
  | nil=>unfold scanE at h;cases h
  | cons w r =>
    unfold scanE at h
    obtain ⟨m,_,rfl⟩:=Option.map_eq_some_iff.mp h
    show 1≤m + 1
    lia
theorem scan_step {ws:List Str} {k i d:Nat} {w:Str} {R:Option Nat} (h:R=(scanE (ws.drop (k + i)) (d + 1)).map (· + i)) (hw:ws[k + i]?=some w):R=(scanE (ws.drop (k + (i + 1))) (if isJ (.str w)=true then d + 2 else d)).map (· + (i + 1)):=by
  have hi:=(List.getElem?_eq_some_iff.mp hw).1
  have hv:=(List.getElem?_eq_some_iff.mp hw).2
  rw [h,List.drop_eq_getElem_cons hi,hv]
  show ((scanE (ws.drop (k + i + 1)) (if isJ (.str w)=true then d + 2 else d)).map (· + 1)).map (· + i)=_
  rw [Option.map_map]
  exact congrArg (fun f=>Option.map f (scanE (ws.drop (k + (i + 1))) (if isJ (.str w)=true then d + 2 else d))) (funext fun n=>by show n + 1 + i=n + (i + 1);lia)
def bhI (a:Addr) (ws:List Str) (k:Nat) (H:Hp) (m:Nat) (σ:St) (H':Hp):Prop:=∃ i d:Nat,σ=[some (.ref a),some (.int (k:Int)),some (.int (d:Int)),some (.int ((k + i:Nat):Int))]∧i + m=61∧i≤60∧scanE (ws.drop k) 1=(scanE (ws.drop (k + i)) d).map (· + i)∧H'=H
theorem rdp_behind_term {E:XK} {a:Addr} {ws:List Str} {k:Nat} (hJ:∀ H:Hp,SqT K H t.c_JOINING jw) (h1:H a=some (.lst (ws.map V.str))) (h2:ws.length≤1000) (q:∀ H',Same H H'→behR t.c_NoTerm (scanE (ws.drop k) 1) k Q E H') :
    rd_behind_term K t E { nx:=fun _ H'=>Q .non H',rt:=Q } (L2.start ["words","at","due","place"] [.ref a,.int k]) H:=by
  simp only [rd_behind_term,tWhile,L2.start,tRaise,tSeq,tAsg,gName,tRet,tNext,tOp,tVar,tC,tCons,tNil,tIfS,tTest,tIf,tCB,tAug,ipI,LenV,rIxL,rEq,rI0,rIn,cLen,scal,List.map,List.replicate,List.length,List.append,jqa,jqb,jqc,jqd,jqe,jqf,jqg,jqh,jqi,jqj,jqk,jql,jqm,jqn,and_true,true_and,and_assoc,jqo,jqp,jqq,Nat.reduceSub,Nat.reduceAdd,jqr,jqs,jqt,Int.reduceToNat,Int.reducePow,Int.reduceNeg,Int.reduceMul,Int.reduceAdd,if_true,ite_true,jqu,ite_false,if_false]
  have q:=q H (Same.refl H)
  refine ⟨bhI a ws k H,⟨61,0,1,rfl,rfl,by lia,by simp,rfl⟩,?_⟩
  rintro m σ H1 ⟨i,d,rfl,hm,hi,hsc,rfl⟩
  simp only [L2.start,tRaise,tSeq,tAsg,gName,tRet,tNext,tOp,tVar,tC,tCons,tNil,tIfS,tTest,tIf,tCB,tAug,ipI,LenV,rIxL,rEq,rI0,rIn,cLen,scal,List.map,List.replicate,List.length,List.append,jqa,jqb,jqc,jqd,jqe,jqf,jqg,jqh,jqi,jqj,jqk,jql,jqm,jqn,and_true,true_and,and_assoc,jqo,jqp,jqq,Nat.reduceSub,Nat.reduceAdd,jqr,jqs,jqt,Int.reduceToNat,Int.reducePow,Int.reduceNeg,Int.reduceMul,Int.reduceAdd,if_true,ite_true,jqu,ite_false,if_false]
  refine ite2 (fun c=>?_) fun c=>?_
  · obtain ⟨d,rfl⟩:∃ d0,d=d0 + 1:=⟨d - 1,by lia⟩
    refine ⟨bhI a ws k _ (m - 1),fun σ' H' z=>⟨m - 1,by lia,z⟩,ws.length,.inl ⟨_,SqL.of h1,by rw [List.length_map]⟩,ite2 (fun e=>⟨by decide,?_⟩) fun e=>ite2 (fun e2=>⟨by decide,?_⟩) fun e2=>?_⟩
    · have e0:ws.drop (k + i)=[]:=List.drop_eq_nil_of_le (by lia)
      rw [e0] at hsc
      have hsc:scanE (ws.drop k) 1=none:=hsc
      rw [hsc] at q
      exact q
    · cases hs:scanE (ws.drop (k + i)) (d + 1) with
      | none =>
        rw [hs] at hsc
        rw [hsc] at q
        exact q
      | some n =>
        have:=scan_pos hs
        rw [hs] at hsc
        rw [hsc] at q
        change (if n + i≤60 then _ else _) at q
        rw [if_neg (by lia)] at q
        exact q
    · have hlt:k + i < ws.length:=by lia
      obtain ⟨w,hw⟩:∃ w,ws[k + i]?=some w:=⟨_,List.getElem?_eq_getElem hlt⟩
      have hwV:(ws.map V.str)[k + i]?=some (V.str w):=by rw [List.getElem?_map,hw];rfl
      have st:=scan_step hsc hw
      refine ⟨_,SqL.of h1,_,at_nat hwV,_,.inr (hJ _),rfl,rfl,ite2 (fun j=>?_) fun j=>?_⟩
      · rw [if_pos (show isJ (.str w)=true from j)] at st
        refine ⟨i + 1,d + 2,?_,by lia,by lia,st,rfl⟩
        rw [show (((d + 1:Nat):Int) + 1)=((d + 2:Nat):Int) by lia,show (((k + i:Nat):Int) + 1)=((k + (i + 1):Nat):Int) by lia]
      · rw [if_neg (show ¬ isJ (.str w)=true from j)] at st
        refine ⟨i + 1,d,?_,by lia,by lia,st,rfl⟩
        rw [show (((d + 1:Nat):Int) - 1)=((d:Nat):Int) by lia,show (((k + i:Nat):Int) + 1)=((k + (i + 1):Nat):Int) by lia]
  · obtain rfl:d=0:=by lia
    rw [scan_zero] at hsc
    rw [hsc] at q
    change (if 0 + i≤60 then Q (.int ((k + (0 + i):Nat):Int)) _ else _) at q
    rw [if_pos (by lia),Nat.zero_add] at q
    exact q
theorem cut_mid {xs:List V} {k n:Nat} (h:k + n≤xs.length):cutV xs (some (k:Int)) (some ((k + n:Nat):Int))=(xs.drop k).take n:=by
  unfold cutV
  have e1:HT.sIx xs.length 0 (some (k:Int))=k:=by
    show (if (k:Int) < 0 then ((k:Int) + (xs.length:Int)).toNat else min (k:Int).toNat xs.length)=k
    rw [if_neg (by lia),Int.toNat_natCast]
    lia
  have e2:HT.sIx xs.length xs.length (some ((k + n:Nat):Int))=k + n:=by
    show (if ((k + n:Nat):Int) < 0 then (((k + n:Nat):Int) + (xs.length:Int)).toNat else min ((k + n:Nat):Int).toNat xs.length)=k + n
    rw [if_neg (by lia),Int.toNat_natCast]
    lia
  rw [e1,e2,Nat.add_sub_cancel_left]
theorem stepR_two {l:List (List V)} {a b:List V} {w:Str} (hw:isJ (.str w)=true):stepR (l ++ [b,a]) w=.ok (l ++ [a ++ b ++ [.str w]]):=by
  unfold stepR
  rw [if_pos hw]
  simp
theorem stepR_few {st:List (List V)} {w:Str} (hw:isJ (.str w)=true) (h:st.length≤1):stepR st w=.error false:=by
  unfold stepR
  rw [if_pos hw]
  match st,h with
  | [],_=>rfl
  | [a],_=>rfl
  | a :: b :: r,h=>exact absurd h (by rw [List.length_cons,List.length_cons];lia)
def lensP (L:List (Addr × List V)):Nat:=(L.map fun n=>n.2.length).sum
theorem lensP_app (a b:List (Addr × List V)):lensP (a ++ b)=lensP a + lensP b:=by unfold lensP;rw [List.map_append,List.sum_append]
theorem tup_ne {H:Hp} {x w:Addr} {l m:List V} (h:H x=some (.tup l)) (hw:H w=some (.lst m)):x≠w:=fun z=>by
  rw [z,hw] at h;cases h
def tfI (a w p:Addr) (seg:List Str) (k e:Nat) (H:Hp) (i:Nat) (σ:St) (H':Hp):Prop:=∃ L:List (Addr × List V),(∃ o4 o5 o6,σ=[some (.ref a),some (.int (k:Int)),some (.int (e:Int)),some (.ref w),o4,o5,o6])∧runR (seg.reverse.take i) []=.ok (L.map Prod.snd)∧lensP L≤i∧L.length≤i∧(∀ n∈L,n.2≠[]∧H' n.1=some (.tup n.2))∧H' w=some (.lst (L.map fun n=>V.ref n.1))∧H' p=some (.lst (seg.map V.str))∧Same H H'
theorem parse_eq {ws:List Str} {k n:Nat} (h:scanE (ws.drop k) 1=some n) (hn:n≤60):parse ws k=match runR ((ws.drop k).take n).reverse [] with | .ok [ps]=>some (ps,k + n) | _=>none:=by
  unfold parse
  rw [h]
  exact if_pos hn
theorem rdp_term_from {E:XK} {a:Addr} {ws:List Str} {k:Nat} (hJ:∀ H:Hp,SqT K H t.c_JOINING jw) (h1:H a=some (.lst (ws.map V.str))) (h2:ws.length≤1000) (h3:okWs ws)
    (q:(∃ ps e,parse ws k=some (ps,e)∧∀ H' p r,Same H H'→H' p=some (.tup [.ref r,.int (e:Nat)])→H' r=some (.tup ps)→Q (.ref p) H')∨(parse ws k=none∧∀ H',Same H H'→E (.ref t.c_NoTerm) none H')) :
    rd_term_from K t E { nx:=fun _ H'=>Q .non H',rt:=Q } (L2.start ["words","at","behind","parts","word","first","second"] [.ref a,.int k]) H:=by
  simp only [rd_term_from,sp_behind_term,sp_part_in,L2.start,iRev,r_mt_append,r_mt_pop,rAppend,rPop,rCatT,tSeq,tAsg,gName,tRet,tDrop,tOp,tVar,tC,tLst,tTup,tCons,tNil,tFor,tIfS,tTest,tBM,tBM0,tyV,tSl,tPart,tCall,rIn,rSlL,List.map,List.replicate,List.length,List.append,jqa,jqb,jqc,jqd,jqe,jqf,jqg,jqh,jqi,jqj,jqk,jql,jqm,jqn,and_true,true_and,and_assoc,jqo,jqp,jqq,Nat.reduceSub,Nat.reduceAdd,jqr,jqs,jqt,Int.reduceToNat,Int.reducePow,Int.reduceNeg,Int.reduceMul,Int.reduceAdd,if_true,ite_true,jqu,ite_false,if_false]
  have no:∀ {H'},parse ws k=none→Same H H'→E (.ref t.c_NoTerm) none H':=fun {H'} hp s=>by
    rcases q with ⟨ps,e,hp2,_⟩ | ⟨_,q⟩
    · rw [hp] at hp2;cases hp2
    · exact q _ s
  refine ⟨ws,k,rfl,h1,h2,fun H1 s1=>?_⟩
  cases hs:scanE (ws.drop k) 1 with
  | none=>exact no (by unfold parse;rw [hs]) s1
  | some n =>
    show (if n≤60 then _ else E (.ref t.c_NoTerm) none H1)
    refine ite2 (fun hn=>?_) fun hn=>no (by unfold parse;rw [hs];exact if_neg hn) s1
    obtain ⟨T,hT,hpre,hkn,hlen⟩:=parse_tree hs
    have hpe:=parse_eq hs hn
    have hps:=parse_some hs hn hT hpre
    have hrun:=runR_tree hT []
    rw [← hpre] at hrun
    have hseg:∀ x∈(ws.drop k).take n,x.length≤100∧Asc x:=fun x hx=>h3 x (List.mem_of_mem_drop (List.mem_of_mem_take hx))
    have hsl:((ws.drop k).take n).length=n:=by rw [hpre,hlen]
    have hcut:cutV (ws.map V.str) (some (k:Int)) (some ((k + n:Nat):Int))=((ws.drop k).take n).map V.str:=by
      rw [cut_mid (by rw [List.length_map];exact hkn),List.map_take,List.map_drop]
    generalize (ws.drop k).take n=seg at *
    have err:∀ {e:Bool} {H'},runR seg.reverse []=.error e→Same H H'→E (.ref t.c_NoTerm) none H':=fun {e H'} z s=>no (by rw [hpe,z]) s
    have nstuck:runR seg.reverse []≠.error false:=fun z=>by
      rw [hrun] at z
      split at z <;> cases z
    simp only [L2.start,iRev,r_mt_append,r_mt_pop,rAppend,rPop,rCatT,tSeq,tAsg,gName,tRet,tDrop,tOp,tVar,tC,tLst,tTup,tCons,tNil,tFor,tIfS,tTest,tBM,tBM0,tyV,tSl,tPart,tCall,rIn,rSlL,List.map,List.replicate,List.length,List.append,jqa,jqb,jqc,jqd,jqe,jqf,jqg,jqh,jqi,jqj,jqk,jql,jqm,jqn,and_true,true_and,and_assoc,jqo,jqp,jqq,Nat.reduceSub,Nat.reduceAdd,jqr,jqs,jqt,Int.reduceToNat,Int.reducePow,Int.reduceNeg,Int.reduceMul,Int.reduceAdd,if_true,ite_true,jqu,ite_false,if_false]
    refine ⟨by decide,fun w hw=>⟨_,SqL.of (isV w hw _ _ (s1 _ _ h1)),fun p hp=>?_⟩⟩
    rw [hcut]
    have hw0:H w=none:=s1.free hw
    have hpw:w≠p:=ne_of_none upd_same hp
    refine ⟨_,SqL.of upd_same,loop_rev (seg.map V.str) (tfI a w p seg k (k + n) H) ⟨[],⟨_,_,_,rfl⟩,by simp [runR],Nat.le_refl _,Nat.le_refl _,(fun n z=>nomatch z),by rw [upd_ne hpw];exact upd_same,upd_same,s1.trans ((isV w hw).trans (isV p hp))⟩ (fun i σ H' ⟨_,_,_,_,_,_,_,z,_⟩=>SqL.of z) ?_ ?_⟩
    · rintro i v σ H' hi hv ⟨L,⟨o4,o5,o6,rfl⟩,hr,hle,hL,hN,hst,hpp,hS⟩
      rw [List.length_map] at hi hv
      rw [List.getElem?_map] at hv
      obtain ⟨x,hx,rfl⟩:=Option.map_eq_some_iff.mp hv
      have hx':seg.reverse[i]?=some x:=by rw [List.getElem?_reverse hi];exact hx
      have one:=runR_one hr hx'
      have okx:=hseg x (List.mem_of_getElem? hx)
      simp only [L2.start,iRev,r_mt_append,r_mt_pop,rAppend,rPop,rCatT,tSeq,tAsg,gName,tRet,tDrop,tOp,tVar,tC,tLst,tTup,tCons,tNil,tFor,tIfS,tTest,tBM,tBM0,tyV,tSl,tPart,tCall,rIn,rSlL,List.map,List.replicate,List.length,List.append,jqa,jqb,jqc,jqd,jqe,jqf,jqg,jqh,jqi,jqj,jqk,jql,jqm,jqn,and_true,true_and,and_assoc,jqo,jqp,jqq,Nat.reduceSub,Nat.reduceAdd,jqr,jqs,jqt,Int.reduceToNat,Int.reducePow,Int.reduceNeg,Int.reduceMul,Int.reduceAdd,if_true,ite_true,jqu,ite_false,if_false]
      refine ⟨jw,.inr (hJ _),rfl,rfl,ite2 (fun c=>?_) fun c=>?_⟩
      · have hj:isJ (.str x)=true:=c
        simp only [rd_term_from_B,L2.start,iRev,r_mt_append,r_mt_pop,rAppend,rPop,rCatT,tSeq,tAsg,gName,tRet,tDrop,tOp,tVar,tC,tLst,tTup,tCons,tNil,tFor,tIfS,tTest,tBM,tBM0,tyV,tSl,tPart,tCall,rIn,rSlL,List.map,List.replicate,List.length,List.append,jqa,jqb,jqc,jqd,jqe,jqf,jqg,jqh,jqi,jqj,jqk,jql,jqm,jqn,and_true,true_and,and_assoc,jqo,jqp,jqq,Nat.reduceSub,Nat.reduceAdd,jqr,jqs,jqt,Int.reduceToNat,Int.reducePow,Int.reduceNeg,Int.reduceMul,Int.reduceAdd,if_true,ite_true,jqu,ite_false,if_false]
        rcases Nat.lt_or_ge 1 L.length with h2l | h2l
        · obtain ⟨L0,nb,na,rfl⟩:=two_last h2l
          have e1:(L0 ++ [nb,na]).map (fun n=>V.ref n.1)=(L0.map (fun n=>V.ref n.1) ++ [.ref nb.1]) ++ [.ref na.1]:=by simp
          have e2:(L0 ++ [nb,na]).map Prod.snd=L0.map Prod.snd ++ [nb.2,na.2]:=by simp
          have nA:=hN na (by simp)
          have nB:=hN nb (by simp)
          have aw:=tup_ne nA.2 hst
          have bw:=tup_ne nB.2 hst
          rw [e2] at one
          have one:=one.trans (stepR_two hj)
          rw [e1] at hst
          have l3:L0.length + 2=(L0 ++ [nb,na]).length:=by simp
          have lp:lensP (L0 ++ [nb,na])=lensP L0 + (nb.2.length + na.2.length):=by rw [lensP_app];simp [lensP]
          refine ⟨.inl ⟨_,SqL.of hst⟩,_,hst,_,last_get,.inl ⟨_,SqL.of upd_same⟩,_,by rw [drop_last];exact upd_same,_,last_get,.inl ⟨_,SqL.of upd_same⟩,?_⟩
          rw [drop_last,drop_last]
          obtain ⟨H2,eH,g1,g2⟩:∃ H2,H2=upd (upd H' w (.lst (L0.map (fun n=>V.ref n.1) ++ [.ref nb.1]))) w (.lst (L0.map (fun n=>V.ref n.1)))∧H2 w=some (.lst (L0.map (fun n=>V.ref n.1)))∧∀ b,b≠w→H2 b=H' b:=⟨_,rfl,upd_same,fun b hb=>by rw [upd_ne hb,upd_ne hb]⟩
          have S2:Same H H2:=by rw [eH];exact same_upd (same_upd hS hw0) hw0
          rw [← eH]
          clear eH
          refine ⟨na.1,rfl,nb.1,rfl,_,SqT.of ((g2 _ aw).trans nA.2),_,SqT.of ((g2 _ bw).trans nB.2),nA.1,small_size (by lia),fun z=>absurd z nB.1,fun _ p1 hp1=>⟨by decide,?_⟩⟩
          obtain ⟨H3,eH,s3,q3⟩:=new_obj (o:=HO.tup (na.2 ++ nb.2)) hp1
          rw [← eH]
          clear eH
          intro p2 hp2
          obtain ⟨H4,eH,s4,q4⟩:=new_obj (o:=HO.tup [V.str x]) hp2
          rw [← eH]
          clear eH
          refine ⟨_,SqT.of (s4 _ _ q3),_,SqT.of q4,(fun z=>nA.1 (List.append_eq_nil_iff.mp z).1),small_size (by rw [List.length_append];show _ + 1≤_;lia),fun z=>(by cases z),fun _ p3 hp3=>?_⟩
          obtain ⟨H5,eH,s5,q5⟩:=new_obj (o:=HO.tup (na.2 ++ nb.2 ++ [V.str x])) hp3
          rw [← eH]
          clear eH
          have S25:=s3.trans (s4.trans s5)
          have pw:p3≠w:=tup_ne q5 (S25 _ _ g1)
          refine ⟨_,S25 _ _ g1,?_,L0 ++ [(p3,na.2 ++ nb.2 ++ [V.str x])],⟨_,_,_,rfl⟩,by rw [one];simp,?_,by simp;lia,fun m hm=>?_,by rw [upd_same];simp,?_,same_upd (S2.trans S25) hw0⟩
          · rw [List.length_map]
            exact Nat.lt_of_le_of_lt (by lia:L0.length≤1000) (by decide)
          · rw [lensP_app]
            have:lensP [(p3,na.2 ++ nb.2 ++ [V.str x])]=na.2.length + nb.2.length + 1:=by simp [lensP];lia
            lia
          · rcases List.mem_append.mp hm with h | h
            · have hm':=hN m (List.mem_append_left _ h)
              have mw:=tup_ne hm'.2 hst
              exact ⟨hm'.1,by rw [upd_ne mw];exact S25 _ _ ((g2 _ mw).trans hm'.2)⟩
            · have:m=(p3,na.2 ++ nb.2 ++ [V.str x]):=by simpa using h
              rw [this]
              exact ⟨by simp,by rw [upd_ne pw];exact q5⟩
          · rw [upd_ne hpw.symm]
            exact S25 _ _ ((g2 _ hpw.symm).trans hpp)
        · exact absurd (runR_err (one.trans (stepR_few hj (by rw [List.length_map];exact h2l)))) nstuck
      · have hj:¬ isJ (.str x)=true:=c
        simp only [rd_term_from_C,sp_part_in,L2.start,iRev,r_mt_append,r_mt_pop,rAppend,rPop,rCatT,tSeq,tAsg,gName,tRet,tDrop,tOp,tVar,tC,tLst,tTup,tCons,tNil,tFor,tIfS,tTest,tBM,tBM0,tyV,tSl,tPart,tCall,rIn,rSlL,List.map,List.replicate,List.length,List.append,jqa,jqb,jqc,jqd,jqe,jqf,jqg,jqh,jqi,jqj,jqk,jql,jqm,jqn,and_true,true_and,and_assoc,jqo,jqp,jqq,Nat.reduceSub,Nat.reduceAdd,jqr,jqs,jqt,Int.reduceToNat,Int.reducePow,Int.reduceNeg,Int.reduceMul,Int.reduceAdd,if_true,ite_true,jqu,ite_false,if_false]
        refine ⟨.inl ⟨_,SqL.of hst⟩,by lia,okx.2,fun H2 s2=>?_⟩
        cases hp:partW x with
        | none =>
          have se:stepR (L.map Prod.snd) x=.error true:=by
            unfold stepR
            rw [if_neg hj,hp]
          exact err (runR_err (one.trans se)) (hS.trans s2)
        | some v =>
          have se:stepR (L.map Prod.snd) x=.ok (L.map Prod.snd ++ [[v]]):=by
            unfold stepR
            rw [if_neg hj,hp]
          have one:=one.trans se
          refine ⟨by decide,fun p1 hp1=>?_⟩
          obtain ⟨H3,eH,s3,q3⟩:=new_obj (o:=HO.tup [v]) hp1
          rw [← eH]
          clear eH
          have S23:=s2.trans s3
          have pw:p1≠w:=tup_ne q3 (S23 _ _ hst)
          refine ⟨_,S23 _ _ hst,?_,L ++ [(p1,[v])],⟨_,_,_,rfl⟩,by rw [one];simp,?_,by simp;lia,fun m hm=>?_,by rw [upd_same];simp,?_,same_upd (hS.trans S23) hw0⟩
          · rw [List.length_map]
            exact Nat.lt_of_le_of_lt (by lia:L.length≤1000) (by decide)
          · rw [lensP_app]
            have:lensP [(p1,[v])]=1:=by simp [lensP]
            lia
          · rcases List.mem_append.mp hm with h | h
            · have hm':=hN m h
              have mw:=tup_ne hm'.2 hst
              exact ⟨hm'.1,by rw [upd_ne mw];exact S23 _ _ hm'.2⟩
            · have:m=(p1,[v]):=by simpa using h
              rw [this]
              exact ⟨by simp,by rw [upd_ne pw];exact q3⟩
          · rw [upd_ne hpw.symm]
            exact S23 _ _ hpp
    · rintro σ H' ⟨L,⟨o4,o5,o6,rfl⟩,hr,hle,hL,hN,hst,hpp,hS⟩
      rw [List.take_of_length_le (by simp)] at hr
      simp only [L2.start,iRev,r_mt_append,r_mt_pop,rAppend,rPop,rCatT,tSeq,tAsg,gName,tRet,tDrop,tOp,tVar,tC,tLst,tTup,tCons,tNil,tFor,tIfS,tTest,tBM,tBM0,tyV,tSl,tPart,tCall,rIn,rSlL,List.map,List.replicate,List.length,List.append,jqa,jqb,jqc,jqd,jqe,jqf,jqg,jqh,jqi,jqj,jqk,jql,jqm,jqn,and_true,true_and,and_assoc,jqo,jqp,jqq,Nat.reduceSub,Nat.reduceAdd,jqr,jqs,jqt,Int.reduceToNat,Int.reducePow,Int.reduceNeg,Int.reduceMul,Int.reduceAdd,if_true,ite_true,jqu,ite_false,if_false]
      rw [hrun] at hr
      by_cases hok:okT T=true
      · rw [if_pos hok] at hr hps
        have e:L.map Prod.snd=[pst T]:=by injection hr with hr;exact hr.symm
        obtain ⟨n1,rfl⟩:∃ n1,L=[n1]:=List.length_eq_one_iff.mp (by have:=congrArg List.length e;simpa using this)
        have e1:n1.2=pst T:=by simpa using e
        have nA:=hN n1 (by simp)
        have nw:=tup_ne nA.2 hst
        rcases q with ⟨ps,e,hp2,q⟩ | ⟨hp2,_⟩
        · rw [hps] at hp2
          cases hp2
          refine ⟨.inl ⟨_,SqL.of hst⟩,_,hst,_,rfl,by decide,fun p1 hp1=>?_⟩
          have S2:Same H (upd H' w (.lst [])):=same_upd hS hw0
          refine q _ p1 n1.1 (S2.trans (isV p1 hp1)) upd_same (isV p1 hp1 _ _ ?_)
          rw [upd_ne nw,nA.2,e1]
        · rw [hps] at hp2;cases hp2
      · rw [if_neg hok] at hr;cases hr
theorem q_cps:(Str.ofString "q").cps.toList=[113]∧(Str.ofString "q").length=1:=by decide +kernel
theorem rdp__law_free {x:Str} (hx:x.length≤1000) (q:∀ H',Same H H'→Q (.str (freeW x)) H') :
    rd__law_free K t { nx:=fun _ H'=>Q .non H',rt:=Q } (L2.start ["name"] [.str x]) H:=by
  simp only [rd__law_free,L2.start,tSeq,tRet,tNext,tOp,tVar,tC,tTup,tCons,tNil,tIfS,tTest,rIn,rAddS,List.map,List.replicate,List.length,List.append,jqa,jqb,jqc,jqd,jqe,jqf,jqg,jqh,jqi,jqj,jqk,jql,jqm,jqn,and_true,true_and,and_assoc,jqo,jqp,jqq,Nat.reduceSub,Nat.reduceAdd,jqr,jqs,jqt,Int.reduceToNat,Int.reducePow,Int.reduceNeg,Int.reduceMul,Int.reduceAdd,if_true,ite_true,jqu,ite_false,if_false]
  unfold freeW at q
  have ql:=q_cps.2
  refine ⟨by decide,fun p hp=>⟨_,.inr (SqT.of upd_same),rfl,rfl,ite2 (fun c=>⟨small_size (by lia),?_⟩) fun c=>⟨by decide,fun p1 hp1=>⟨_,.inr (SqT.of upd_same),rfl,rfl,ite2 (fun d=>⟨small_size (by lia),?_⟩) fun d=>?_⟩⟩⟩⟩
  · have q:=q _ (isV (o:=HO.tup wl) p hp)
    rw [if_pos (show inV (.str x) wl=true from c)] at q
    exact q
  · have q:=q _ ((isV (o:=HO.tup wl) p hp).trans (isV (o:=HO.tup jw) p1 hp1))
    rw [if_neg (show ¬ inV (.str x) wl=true from c),if_pos (show inV (.str x) jw=true from d)] at q
    exact q
  · have q:=q _ ((isV (o:=HO.tup wl) p hp).trans (isV (o:=HO.tup jw) p1 hp1))
    rw [if_neg (show ¬ inV (.str x) wl=true from c),if_neg (show ¬ inV (.str x) jw=true from d)] at q
    exact q
theorem cut_map {α:Type} (f:α→V) (xs:List α) (lo hi:Option Int):∃ ys:List α,cutV (xs.map f) lo hi=ys.map f∧ys.length≤xs.length∧∀ y∈ys,y∈xs :=
  ⟨(xs.drop (HT.sIx (xs.map f).length 0 lo)).take (HT.sIx (xs.map f).length (xs.map f).length hi - HT.sIx (xs.map f).length 0 lo),by unfold cutV;rw [List.map_take,List.map_drop],by rw [List.length_take,List.length_drop];lia,fun y hy=>List.mem_of_mem_drop (List.mem_of_mem_take hy)⟩
def ltI (m:Int) (H:Hp) (i:Nat) (σ:St) (H':Hp):Prop:=(∃ (a:Int) (x:Str) (o:Option V),σ=[some (.int a),some (.int m),some (.str (Str.ofString "abcdefghijklmnopqrstuvwxyz")),some (.str x),o]∧x.length=i∧x.cps.toList.all inL=true)∧H'=H
theorem abc_in:∀ c∈(Str.ofString "abcdefghijklmnopqrstuvwxyz").cps.toList,inL c=true:=by decide +kernel
theorem all_one {c:Nat} (h:inL c=true):(⟨#[c]⟩:Str).cps.toList.all inL=true:=by
  show [c].all inL=true
  rw [List.all_cons,h];rfl
theorem rdp__law_letters {n m:Int} (h0:0≤m) (h1:m≤6) (q:∀ (x:Str) H',(x.length:Int)=m→x.cps.toList.all inL=true→Same H H'→Q (.str x) H') :
    rd__law_letters K t { nx:=fun _ H'=>Q .non H',rt:=Q } (L2.start ["number","many","letters","found","k"] [.int n,.int m]) H:=by
  simp only [rd__law_letters,L2.start,tSeq,tAsg,gName,tRet,tOp,tVar,tC,tCons,tNil,tFor,iRng1,rIxS,rI,rI0,rAddS,List.map,List.replicate,List.length,List.append,jqa,jqb,jqc,jqd,jqe,jqf,jqg,jqh,jqi,jqj,jqk,jql,jqm,jqn,and_true,true_and,and_assoc,jqo,jqp,jqq,Nat.reduceSub,Nat.reduceAdd,jqr,jqs,jqt,Int.reduceToNat,Int.reducePow,Int.reduceNeg,Int.reduceMul,Int.reduceAdd,if_true,ite_true,jqu,ite_false,if_false]
  have hb:(100000000000:Int) < big:=by decide +kernel
  refine ⟨by lia,by lia,loop_range (ltI m H) ⟨⟨n,_,none,rfl,by decide +kernel,by decide +kernel⟩,rfl⟩ ?_ ?_⟩
  · rintro i σ H' hi ⟨⟨a,x,o,rfl,hx,ha⟩,rfl⟩
    simp only [L2.start,tSeq,tAsg,gName,tRet,tOp,tVar,tC,tCons,tNil,tFor,iRng1,rIxS,rI,rI0,rAddS,List.map,List.replicate,List.length,List.append,jqa,jqb,jqc,jqd,jqe,jqf,jqg,jqh,jqi,jqj,jqk,jql,jqm,jqn,and_true,true_and,and_assoc,jqo,jqp,jqq,Nat.reduceSub,Nat.reduceAdd,jqr,jqs,jqt,Int.reduceToNat,Int.reducePow,Int.reduceNeg,Int.reduceMul,Int.reduceAdd,if_true,ite_true,jqu,ite_false,if_false]
    obtain ⟨c,hc,hm⟩:=at_mod a 26 abc_len (by decide)
    exact ⟨by decide,by decide +kernel,c,hc,small_size (by rw [one_len];lia),dB,⟨by lia,by lia⟩,⟨by lia,by lia⟩,⟨_,_,_,rfl,by rw [len_app,one_len];lia,by rw [cps_app];exact all_app ha (all_one (abc_in c hm))⟩,rfl⟩
  · rintro σ H' ⟨⟨a,x,o,rfl,hx,ha⟩,rfl⟩
    exact ⟨_,rfl,q x _ (by lia) ha (Same.refl _)⟩
def nmV (v:V):Prop:=∃ x:Str,v=.str x∧isName x=true
def lwV (v:V):Prop:=∃ x:Str,v=.str x∧LW x
theorem names_of {ys:List V} (hl:ys.length=4) (hv:∀ (i:Nat) (v:V),ys[i]?=some v→nmV v):∃ ls:List Str,ys=ls.map V.str∧ls.length=4∧∀ w∈ls,isName w=true:=by
  obtain ⟨ls,rfl,hp⟩:=strs_of (P:=fun x=>isName x=true) (ys:=ys) fun v hv2=>by
    obtain ⟨i,hi⟩:=List.getElem?_of_mem hv2
    exact hv i v hi
  rw [List.length_map] at hl
  exact ⟨ls,rfl,hl,hp⟩
theorem LW_take {x:Str} {k:Nat} (h:LW x) (hk:1≤k):LW (Txt.slice x none (some (k:Int))):=by
  obtain ⟨h1,h2,h3⟩:=h
  have e:=slice_to x k
  rw [len_cps] at h2 h3
  refine ⟨by rw [e];exact all_take h1 _,?_,?_⟩ <;> rw [len_cps,e,List.length_take] <;> lia
theorem LW_swap {x:Str} {k c:Nat} (h:LW x) (hk:k < x.length) (hc:inL c=true):LW (Txt.slice x none (some (k:Int)) ++ ⟨#[c]⟩ ++ Txt.slice x (some ((k:Int) + 1)) none):=by
  obtain ⟨h1,h2,h3⟩:=h
  have e:=slice_to x k
  have e2:=slice_from x (k + 1)
  rw [show ((k + 1:Nat):Int)=(k:Int) + 1 by lia] at e2
  rw [len_cps] at h2 h3 hk
  refine ⟨?_,?_,?_⟩
  · rw [cps_app,cps_app,e,e2]
    exact all_app (all_app (all_take h1 _) (all_one hc)) (all_drop h1 _)
  · rw [len_app,len_app,one_len];lia
  · rw [len_app,len_app,one_len,len_cps,len_cps,e,e2,List.length_take,List.length_drop];lia
theorem lw_list {ys:List V} (hl:ys.length=4) (hv:∀ (i:Nat) (v:V),ys[i]?=some v→lwV v):∃ ls:List Str,ys=ls.map V.str∧ls.length=4∧∀ w∈ls,LW w:=by
  obtain ⟨ls,rfl,hp⟩:=strs_of (P:=LW) (ys:=ys) fun v hv2=>by
    obtain ⟨i,hi⟩:=List.getElem?_of_mem hv2
    exact hv i v hi
  rw [List.length_map] at hl
  exact ⟨ls,rfl,hl,hp⟩
theorem num_leaf {w:Int} (hw:inW w=true):wfT (.leaf (numS w))∧okT (.leaf (numS w))=true∧pvw (numS w)=.int w∧okWs [numS w]:=by
  obtain ⟨h1,h2,h3⟩:=isNum_numS hw
  have hN:isName (numS w)=false:=Bool.eq_false_iff.mpr fun z=>by rw [isName_notNum z] at h1;cases h1
  have hp:partW (numS w)=some (.int w):=by
    unfold partW
    rw [hN,if_neg (by decide),if_pos h1,h2]
  refine ⟨Bool.eq_false_iff.mpr fun z=>?_,?_,by unfold pvw;rw [hp];rfl,fun x hx=>?_⟩
  · rw [(join_no z).2] at h1;cases h1
  · show (partW (numS w)).isSome=true
    rw [hp];rfl
  · have:x=numS w:=by simpa using hx
    rw [this]
    exact ⟨by lia,Asc.num w⟩
theorem name_leaf {x:Str} (h:isName x=true):wfT (.leaf x)∧okT (.leaf x)=true∧pvw x=.str x∧okWs [x]:=by
  have hp:partW x=some (.str x):=by unfold partW;rw [if_pos h]
  refine ⟨(isName_parts h).2.2.1,?_,by unfold pvw;rw [hp];rfl,fun y hy=>?_⟩
  · show (partW x).isSome=true
    rw [hp];rfl
  · have:y=x:=by simpa using hy
    rw [this]
    exact ⟨by have:=(isName_parts h).2.1;lia,name_asc h⟩
theorem lens_app (a b:List Nd):lens (a ++ b)=lens a + lens b:=by unfold lens;rw [List.map_append,List.sum_append]
theorem lens_one (n:Nd):lens [n]=(pre n.2).length:=by simp [lens]
theorem lens_two (n1 n2:Nd):lens [n1,n2]=(pre n1.2).length + (pre n2.2).length:=by simp [lens]
def wfI (tm w:Addr) (ps:List V) (H:Hp) (i:Nat) (σ:St) (H':Hp):Prop:=∃ L:List (Addr × List V),(∃ o2 o3 o4,σ=[some (.ref tm),some (.ref w),o2,o3,o4])∧H' w=some (.lst (L.map fun n=>V.ref n.1))∧runA (ps.take i) []=some (L.map Prod.snd)∧lensP L≤i∧L.length≤i∧(∀ n∈L,H' n.1=some (.lst (n.2.map wOfV))∧n.1≠w)∧Same H H'
theorem wfLeaf {tm w p:Addr} {ps:List V} {L:List (Addr × List V)} {i:Nat} {v:V} {o3 o4:Option V} {H H':Hp} (hj:isJ v=false) (hv:ps[i]?=some v) (hs:H' w=some (.lst (L.map fun n=>V.ref n.1))) (hr:runA (ps.take i) []=some (L.map Prod.snd)) (hle:lensP L≤i) (hL:L.length≤i) (hN:∀ n∈L,H' n.1=some (.lst (n.2.map wOfV))∧n.1≠w) (h0:H w=none) (S:Same H H') (hp:H' p=none) :
    wfI tm w ps H (i + 1) [some (.ref tm),some (.ref w),some v,o3,o4] (upd (upd H' p (.lst [wOfV v])) w (.lst ((L.map fun n=>V.ref n.1) ++ [.ref p]))):=by
  have one:=runA_one hr hv
  have st:stepA (L.map Prod.snd) v=some (L.map Prod.snd ++ [[v]]):=by unfold stepA;rw [if_neg (by rw [hj];decide)]
  have ps':p≠w:=(ne_of_none hs hp).symm
  refine ⟨L ++ [(p,[v])],⟨_,_,_,rfl⟩,by rw [upd_same];simp,by rw [one,st];simp,?_,by simp;lia,fun n hn=>?_,same_upd (S.trans (isV p hp)) h0⟩
  · rw [lensP_app]
    have:lensP [(p,[v])]=1:=by simp [lensP]
    lia
  · rcases List.mem_append.mp hn with h | h
    · obtain ⟨a,b⟩:=hN n h
      exact ⟨by rw [upd_ne b];exact isV p hp _ _ a,b⟩
    · have:n=(p,[v]):=by simpa using h
      rw [this]
      exact ⟨by rw [upd_ne ps'];exact upd_same,ps'⟩
theorem rdp_words_of {tm:Addr} {T0:Tw} (F:KF K) (hJ:∀ H:Hp,SqT K H t.c_JOINING jw) (h1:H tm=some (.tup (pst T0))) (h2:wfT T0) (h3:okT T0=true) (h4:(pre T0).length≤100) (q:∀ p H',Same H H'→H' p=some (.lst ((pre T0).map V.str))→Q (.ref p) H') :
    rd_words_of K t { nx:=fun _ H'=>Q .non H',rt:=Q } (L2.start ["term","parts","part","second","first"] [.ref tm]) H:=by
  simp only [rd_words_of,sp_numeral,rCat,L2.start,r_mt_append,r_mt_pop,rAppend,rPop,tSeq,tAsg,gName,tRet,tDrop,tOp,tVar,tC,tLst,tCons,tNil,tFor,tIfS,tTest,tB,tIf,tCB,tBM,tBM0,tyV,tCall,iTup,rCat,rIn,cIsi,List.map,List.replicate,List.length,List.append,jqa,jqb,jqc,jqd,jqe,jqf,jqg,jqh,jqi,jqj,jqk,jql,jqm,jqn,and_true,true_and,and_assoc,jqo,jqp,jqq,Nat.reduceSub,Nat.reduceAdd,jqr,jqs,jqt,Int.reduceToNat,Int.reducePow,Int.reduceNeg,Int.reduceMul,Int.reduceAdd,if_true,ite_true,jqu,ite_false,if_false]
  have hrun:=runA_tree h2 []
  have hlen:=pst_len T0
  have hfl:=pst_ok h2 h3
  have hback:=wOf_pre h2 h3
  generalize pst T0=ps at *
  refine ⟨by decide,fun w hw=>⟨⟨_,SqT.of (isV w hw _ _ h1)⟩,?_⟩⟩
  refine loop_tup ps (wfI tm w ps H) ⟨[],⟨_,_,_,rfl⟩,upd_same,rfl,Nat.le_refl _,Nat.le_refl _,(fun n z=>nomatch z),isV w hw⟩ (fun i σ H' ⟨_,_,_,_,_,_,_,z⟩=>SqT.of (z _ _ h1)) ?_ ?_
  · rintro i v σ H' hv ⟨L,⟨o2,o3,o4,rfl⟩,hs,hr,hle,hL,hN,S⟩
    have hi:i < ps.length:=(List.getElem?_eq_some_iff.mp hv).1
    have one:=runA_one hr hv
    have ok:=hfl v (List.mem_of_getElem? hv)
    have fl:flatV v=true:=by rcases ok with ⟨j,rfl,_⟩ | ⟨x,rfl,_⟩ <;> rfl
    simp only [rCat,L2.start,r_mt_append,r_mt_pop,rAppend,rPop,tSeq,tAsg,gName,tRet,tDrop,tOp,tVar,tC,tLst,tCons,tNil,tFor,tIfS,tTest,tB,tIf,tCB,tBM,tBM0,tyV,tCall,iTup,rCat,rIn,cIsi,List.map,List.replicate,List.length,List.append,jqa,jqb,jqc,jqd,jqe,jqf,jqg,jqh,jqi,jqj,jqk,jql,jqm,jqn,and_true,true_and,and_assoc,jqo,jqp,jqq,Nat.reduceSub,Nat.reduceAdd,jqr,jqs,jqt,Int.reduceToNat,Int.reducePow,Int.reduceNeg,Int.reduceMul,Int.reduceAdd,if_true,ite_true,jqu,ite_false,if_false]
    have sz:(L.map fun n=>V.ref n.1).length < sizeLine:=by
      rw [List.length_map]
      exact Nat.lt_of_le_of_lt (by lia:L.length≤1000) (by decide)
    refine ⟨jw,.inr (hJ H'),fl,rfl,ite2 (fun c=>?_) fun c=>?_⟩
    · have hj:isJ v=true:=c
      simp only [rd_words_of_B,rCat,L2.start,r_mt_append,r_mt_pop,rAppend,rPop,tSeq,tAsg,gName,tRet,tDrop,tOp,tVar,tC,tLst,tCons,tNil,tFor,tIfS,tTest,tB,tIf,tCB,tBM,tBM0,tyV,tCall,iTup,rCat,rIn,cIsi,List.map,List.replicate,List.length,List.append,jqa,jqb,jqc,jqd,jqe,jqf,jqg,jqh,jqi,jqj,jqk,jql,jqm,jqn,and_true,true_and,and_assoc,jqo,jqp,jqq,Nat.reduceSub,Nat.reduceAdd,jqr,jqs,jqt,Int.reduceToNat,Int.reducePow,Int.reduceNeg,Int.reduceMul,Int.reduceAdd,if_true,ite_true,jqu,ite_false,if_false]
      obtain ⟨x,rfl⟩:∃ x:Str,v=.str x:=by
        rcases ok with ⟨j,rfl,_⟩ | ⟨x,h,_⟩
        · exact absurd hj (by rw [isJ_int];decide)
        · exact ⟨x,h⟩
      rcases Nat.lt_or_ge 1 L.length with h2l | h2l
      · obtain ⟨L0,na,nb,rfl⟩:=two_last h2l
        have e1:(L0 ++ [na,nb]).map (fun n=>V.ref n.1)=(L0.map (fun n=>V.ref n.1) ++ [.ref na.1]) ++ [.ref nb.1]:=by simp
        have e2:(L0 ++ [na,nb]).map Prod.snd=L0.map Prod.snd ++ [na.2,nb.2]:=by simp
        have nA:=hN na (by simp)
        have nB:=hN nb (by simp)
        rw [e2] at one
        have one:=one.trans (stepA_two hj)
        rw [e1] at hs
        have l3:L0.length + 2=(L0 ++ [na,nb]).length:=by simp
        have lp:lensP (L0 ++ [na,nb])=lensP L0 + (na.2.length + nb.2.length):=by rw [lensP_app];simp [lensP]
        refine ⟨.inl ⟨_,SqL.of hs⟩,_,hs,_,last_get,.inl ⟨_,SqL.of upd_same⟩,_,by rw [drop_last];exact upd_same,_,last_get,.inl ⟨_,SqL.of upd_same⟩,?_⟩
        rw [drop_last,drop_last]
        obtain ⟨H2,eH,g1,g2⟩:∃ H2,H2=upd (upd H' w (.lst (L0.map (fun n=>V.ref n.1) ++ [.ref na.1]))) w (.lst (L0.map (fun n=>V.ref n.1)))∧H2 w=some (.lst (L0.map (fun n=>V.ref n.1)))∧∀ b,b≠w→H2 b=H' b:=⟨_,rfl,upd_same,fun b hb=>by rw [upd_ne hb,upd_ne hb]⟩
        have S2:Same H H2:=by rw [eH];exact same_upd (same_upd S hw) hw
        rw [← eH]
        clear eH
        refine ⟨by decide,fun p1 hp1=>?_⟩
        obtain ⟨H3,eH,s3,q3⟩:=new_obj (o:=HO.lst [V.str x]) hp1
        rw [← eH]
        clear eH
        have la:(na.2.map wOfV).length=na.2.length:=List.length_map ..
        have lb:(nb.2.map wOfV).length=nb.2.length:=List.length_map ..
        refine ⟨na.1,rfl,_,q3,_,s3 _ _ ((g2 _ nA.2).trans nA.1),small_size (by show 1 + _≤_;lia),fun p2 hp2=>?_⟩
        obtain ⟨H4,eH,s4,q4⟩:=new_obj (o:=HO.lst ([V.str x] ++ na.2.map wOfV)) hp2
        rw [← eH]
        clear eH
        have S34:=s3.trans s4
        refine ⟨nb.1,rfl,_,q4,_,S34 _ _ ((g2 _ nB.2).trans nB.1),small_size (by rw [List.length_append];show 1 + _ + _≤_;lia),fun p3 hp3=>?_⟩
        obtain ⟨H5,eH,s5,q5⟩:=new_obj (o:=HO.lst ([V.str x] ++ na.2.map wOfV ++ nb.2.map wOfV)) hp3
        rw [← eH]
        clear eH
        have S25:=S34.trans s5
        have pw:p3≠w:=(ne_of_none (S34 _ _ g1) hp3).symm
        refine ⟨_,S25 _ _ g1,?_,L0 ++ [(p3,V.str x :: (na.2 ++ nb.2))],⟨_,_,_,rfl⟩,by rw [upd_same];simp,by rw [one];simp,?_,by simp;lia,fun m hm=>?_,same_upd (S2.trans S25) hw⟩
        · rw [List.length_map]
          exact Nat.lt_of_le_of_lt (by lia:L0.length≤1000) (by decide)
        · rw [lensP_app]
          have:lensP [(p3,V.str x :: (na.2 ++ nb.2))]=na.2.length + nb.2.length + 1:=by simp [lensP]
          lia
        · rcases List.mem_append.mp hm with h | h
          · have hm':=hN m (List.mem_append_left _ h)
            exact ⟨by rw [upd_ne hm'.2];exact S25 _ _ ((g2 _ hm'.2).trans hm'.1),hm'.2⟩
          · have:m=(p3,V.str x :: (na.2 ++ nb.2)):=by simpa using h
            rw [this]
            refine ⟨?_,pw⟩
            rw [upd_ne pw,q5]
            simp [wOfV]
      · have:=runA_none (one.trans (stepA_few hj (by rw [List.length_map];exact h2l)))
        rw [hrun] at this;cases this
    · have hj:isJ v=false:=Bool.eq_false_iff.mpr c
      simp only [rd_words_of_C,sp_numeral,rCat,L2.start,r_mt_append,r_mt_pop,rAppend,rPop,tSeq,tAsg,gName,tRet,tDrop,tOp,tVar,tC,tLst,tCons,tNil,tFor,tIfS,tTest,tB,tIf,tCB,tBM,tBM0,tyV,tCall,iTup,rCat,rIn,cIsi,List.map,List.replicate,List.length,List.append,jqa,jqb,jqc,jqd,jqe,jqf,jqg,jqh,jqi,jqj,jqk,jql,jqm,jqn,and_true,true_and,and_assoc,jqo,jqp,jqq,Nat.reduceSub,Nat.reduceAdd,jqr,jqs,jqt,Int.reduceToNat,Int.reducePow,Int.reduceNeg,Int.reduceMul,Int.reduceAdd,if_true,ite_true,jqu,ite_false,if_false]
      refine ⟨.inl ⟨_,SqL.of hs⟩,?_⟩
      rcases ok with ⟨j,rfl,hjw⟩ | ⟨x,rfl,_⟩
      · refine ⟨_,.int j,false,F.i_s,?_⟩
        rw [if_neg (by decide)]
        exact ⟨j,rfl,hjw,fun H2 s2=>⟨by decide,fun p hp=>⟨_,isV p hp _ _ (s2 _ _ hs),sz,wfLeaf (v:=.int j) hj hv (s2 _ _ hs) hr hle hL (fun n hn=>⟨s2 _ _ (hN n hn).1,(hN n hn).2⟩) hw (S.trans s2) hp⟩⟩⟩
      · refine ⟨_,.str x,true,kit_same _,?_⟩
        rw [if_pos rfl]
        exact ⟨by decide,fun p hp=>⟨_,isV p hp _ _ hs,sz,wfLeaf (v:=.str x) hj hv hs hr hle hL hN hw S hp⟩⟩
  · rintro σ H' ⟨L,⟨o2,o3,o4,rfl⟩,hs,hr,hle,hL,hN,S⟩
    rw [List.take_length,hrun] at hr
    simp only [rCat,L2.start,r_mt_append,r_mt_pop,rAppend,rPop,tSeq,tAsg,gName,tRet,tDrop,tOp,tVar,tC,tLst,tCons,tNil,tFor,tIfS,tTest,tB,tIf,tCB,tBM,tBM0,tyV,tCall,iTup,rCat,rIn,cIsi,List.map,List.replicate,List.length,List.append,jqa,jqb,jqc,jqd,jqe,jqf,jqg,jqh,jqi,jqj,jqk,jql,jqm,jqn,and_true,true_and,and_assoc,jqo,jqp,jqq,Nat.reduceSub,Nat.reduceAdd,jqr,jqs,jqt,Int.reduceToNat,Int.reducePow,Int.reduceNeg,Int.reduceMul,Int.reduceAdd,if_true,ite_true,jqu,ite_false,if_false]
    have e:L.map Prod.snd=[(pre T0).map pvw]:=by injection hr with hr;exact hr.symm
    obtain ⟨n1,rfl⟩:∃ n1,L=[n1]:=List.length_eq_one_iff.mp (by have:=congrArg List.length e;simpa using this)
    have e1:n1.2=(pre T0).map pvw:=by simpa using e
    have nA:=hN n1 (by simp)
    rw [e1,hback] at nA
    exact ⟨.inl ⟨_,SqL.of hs⟩,_,hs,_,rfl,q _ _ (same_upd S hw) (by rw [upd_ne nA.2];exact nA.1)⟩
theorem fresh_of {H H':Hp} {D:Addr} (s:Same H H') (h:H' D=none):H D=none:=by
  cases e:H D with
  | none=>rfl
  | some o=>rw [s _ _ e] at h;cases h
theorem fresh_ne {H1:Hp} {R b:Addr} {o:HO} (h:H1 R=some o) (hb:H1 b=none):b≠R:=fun z=>by rw [z,h] at hb;cases hb
theorem wrF {P:Str→Option Value} (T:Txt K P t):WrF K t:=⟨T.cl_RowWords,T.na_RowWords_words,T.na_RowWords_number,T.na_RowWords_at⟩
theorem rdF {P:Str→Option Value} (T:Txt K P t):RdF K t:=⟨T.cl_Reading,T.na_Reading_rows,T.na_Reading_blocks,T.na_Reading_turned⟩
theorem SameX.refl (x:Addr) (H:Hp):SameX x H H:=fun _ _ _ e=>e
theorem SameX.trans {x:Addr} {H1 H2 H3:Hp} (a:SameX x H1 H2) (b:SameX x H2 H3):SameX x H1 H3:=fun c o n e=>b c o n (a c o n e)
theorem sx {x:Addr} {H H':Hp} (s:Same H H'):SameX x H H':=fun b o _ e=>s b o e
theorem SameX.upd {x:Addr} {H H':Hp} {o:HO} (s:SameX x H H'):SameX x H (upd H' x o):=fun b u n e=>by rw [upd_ne n];exact s b u n e
theorem SameX.same {x:Addr} {H0 H H':Hp} (s:SameX x H H') (s0:Same H0 H) (f:H0 x=none):Same H0 H':=fun b u e=>s b u (ne_of_none e f) (s0 b u e)
theorem WrAt.same {H H':Hp} {x dx wa:Addr} {ws:List Str} {n:Int} {k:Nat} (W:WrAt t H x dx wa ws n k) (s:Same H H'):WrAt t H' x dx wa ws n k:=⟨s _ _ W.ix,s _ _ W.hw⟩
theorem WrAt.ne {H:Hp} {x dx wa:Addr} {ws:List Str} {n:Int} {k:Nat} (W:WrAt t H x dx wa ws n k):wa≠x:=ne_of W.hw W.ix (fun z=>nomatch z)
theorem WrAt.put {H:Hp} {x dx wa:Addr} {ws:List Str} {n:Int} {k:Nat} (W:WrAt t H x dx wa ws n k) (j:Nat):WrAt t (upd H x (.ins t.c_RowWords dx [("words",.ref wa),("number",.int n),("at",.int j)])) x dx wa ws n j:=⟨upd_same,by rw [upd_ne W.ne];exact W.hw⟩
theorem rdp_RowWords_init {x wa:Addr} {n:Int} {dx:Addr} {ws:List Str} (F:WrF K t) (h1:H x=some (.ins t.c_RowWords dx [])) (h2:H wa=some (.lst (List.map V.str ws))) (q:∀ H',SameX x H H'→WrAt t H' x dx wa ws n 0→Q .non H') :
    rd_RowWords_init K t { nx:=fun _ H'=>Q .non H',rt:=Q } (L2.start ["self","words","number"] [.ref x,.ref wa,.int n]) H:=by
  simp only [rd_RowWords_init,sFld,putF,L2.start,tSeq,tVar,tC,List.map,List.replicate,List.length,List.append,jqa,jqb,jqc,jqd,jqe,jqf,jqg,jqh,jqi,jqj,jqk,jql,jqm,jqn,and_true,true_and,and_assoc,jqo,jqp,jqq,Nat.reduceSub,Nat.reduceAdd,jqr,jqs,jqt,Int.reduceToNat,Int.reducePow,Int.reduceNeg,Int.reduceMul,Int.reduceAdd,if_true,ite_true,jqu,ite_false,if_false]
  have ne:wa≠x:=ne_of h2 h1 (fun z=>nomatch z)
  refine ⟨_,_,_,h1,F.cl,F.n1,by decide,_,_,_,upd_same,F.cl,F.n2,(by simp [putF]),_,_,_,upd_same,F.cl,F.n3,(by simp [putF];split <;> simp),q _ (SameX.upd (SameX.upd (SameX.upd (SameX.refl x H)))) ⟨upd_same,?_⟩⟩
  rw [upd_ne ne,upd_ne ne,upd_ne ne];exact h2
theorem rdp_RowWords_draw_word {x dx wa:Addr} {ws:List Str} {n:Int} {k:Nat} {w:Str} (F:WrF K t) (W:WrAt t H x dx wa ws n k) (h2:ws[k]?=some w) (q:∀ H',SameX x H H'→WrAt t H' x dx wa ws n (k + 1)→Q (.str w) H') :
    rd_RowWords_draw_word K t { nx:=fun _ H'=>Q .non H',rt:=Q } (L2.start ["self","word"] [.ref x]) H:=by
  simp only [rd_RowWords_draw_word,sFldAug,rAdd,tFld,L2.start,tSeq,tAsg,gName,tRet,tNext,tNever,tOp,tVar,tC,tCons,tNil,tIfS,tTest,tCB,LenV,rIxL,rEq,cLen,scal,List.map,List.replicate,List.length,List.append,jqa,jqb,jqc,jqd,jqe,jqf,jqg,jqh,jqi,jqj,jqk,jql,jqm,jqn,and_true,true_and,and_assoc,jqo,jqp,jqq,Nat.reduceSub,Nat.reduceAdd,jqr,jqs,jqt,Int.reduceToNat,Int.reducePow,Int.reduceNeg,Int.reduceMul,Int.reduceAdd,if_true,ite_true,jqu,ite_false,if_false]
  have hk:k < ws.length:=(List.getElem?_eq_some_iff.mp h2).1
  refine ⟨_,_,_,W.ix,F.cl,F.n3,_,rfl,_,_,_,W.ix,F.cl,F.n1,_,rfl,ws.length,.inl ⟨_,SqL.of W.hw,(List.length_map ..).symm⟩,rfl,?_⟩
  rw [if_neg (fun z=>by have:=V.int.inj z;lia)]
  refine ⟨_,_,_,W.ix,F.cl,F.n1,_,rfl,_,_,_,W.ix,F.cl,F.n3,_,rfl,?_⟩
  exact ⟨wa,rfl,_,k,rfl,SqL.of W.hw,.str w,at_nat (by rw [List.getElem?_map,h2];rfl),_,_,_,W.ix,F.cl,F.n3,_,rfl,_,rfl,_,_,W.ix,(by simp),q _ (SameX.upd (SameX.refl x H)) (W.put (k + 1))⟩
theorem rdp_RowWords_draw_as {x dx wa:Addr} {ws:List Str} {n:Int} {k:Nat} (W:WrAt t H x dx wa ws n k) (h2:ws[k]?=some "as") (q:∀ H',SameX x H H'→WrAt t H' x dx wa ws n (k + 1)→Q .non H') :
    rd_RowWords_draw_as K t { nx:=fun _ H'=>Q .non H',rt:=Q } (L2.start ["self"] [.ref x]) H:=by
  simp only [rd_RowWords_draw_as,sp_RowWords_draw_word,tMeth,L2.start,tNext,tNever,tOp,tVar,tC,tNil,tIfS,tTest,rNe,scal,List.map,List.replicate,List.length,List.append,jqa,jqb,jqc,jqd,jqe,jqf,jqg,jqh,jqi,jqj,jqk,jql,jqm,jqn,and_true,true_and,and_assoc,jqo,jqp,jqq,Nat.reduceSub,Nat.reduceAdd,jqr,jqs,jqt,Int.reduceToNat,Int.reducePow,Int.reduceNeg,Int.reduceMul,Int.reduceAdd,if_true,ite_true,jqu,ite_false,if_false]
  refine ⟨_,_,W.ix,rfl,dx,wa,ws,n,k,W,_,h2,fun H' s w'=>?_⟩
  rw [if_neg (fun z=>z rfl)]
  exact q H' s w'
theorem rdp_RowWords_draw_name {x dx wa:Addr} {ws:List Str} {n:Int} {k:Nat} {w:Str} (W:WrAt t H x dx wa ws n k) (h2:ws[k]?=some w) (h3:isName w=true) (q:∀ H',SameX x H H'→WrAt t H' x dx wa ws n (k + 1)→Q (.str w) H') :
    rd_RowWords_draw_name K t { nx:=fun _ H'=>Q .non H',rt:=Q } (L2.start ["self","word"] [.ref x]) H:=by
  simp only [rd_RowWords_draw_name,sp_RowWords_draw_word,sp_is_name,tMeth,L2.start,tSeq,tAsg,gName,tRet,tNext,tNever,tVar,tCons,tNil,tIfS,tNot,tB,tCall,List.map,List.replicate,List.length,List.append,jqa,jqb,jqc,jqd,jqe,jqf,jqg,jqh,jqi,jqj,jqk,jql,jqm,jqn,and_true,true_and,and_assoc,jqo,jqp,jqq,Nat.reduceSub,Nat.reduceAdd,jqr,jqs,jqt,Int.reduceToNat,Int.reducePow,Int.reduceNeg,Int.reduceMul,Int.reduceAdd,if_true,ite_true,jqu,ite_false,if_false]
  refine ⟨_,_,W.ix,rfl,dx,wa,ws,n,k,W,w,h2,fun H' s w'=>⟨by have:=(isName_parts h3).2.1;lia,fun H2 s2=>?_⟩⟩
  rw [if_neg (by rw [h3];decide)]
  exact q H2 (s.trans (sx s2)) (w'.same s2)
theorem rdp_RowWords_draw_term {x dx wa:Addr} {ws:List Str} {n:Int} {k:Nat} {ps:List V} {e:Nat} (F:WrF K t) (W:WrAt t H x dx wa ws n k) (h2:parse ws k=some (ps,e)) (h3:ws.length≤1000) (h4:okWs ws) (q:∀ H' r,SameX x H H'→WrAt t H' x dx wa ws n e→H' r=some (.tup ps)→r≠x→Q (.ref r) H') :
    rd_RowWords_draw_term K t { nx:=fun _ H'=>Q .non H',rt:=Q } (L2.start ["self","found"] [.ref x]) H:=by
  simp only [rd_RowWords_draw_term,sp_term_from,tFld,sFld,putF,L2.start,rIxT,tSeq,tAsg,gName,tRet,tOp,tVar,tC,tCons,tNil,tCall,rIxT,List.map,List.replicate,List.length,List.append,jqa,jqb,jqc,jqd,jqe,jqf,jqg,jqh,jqi,jqj,jqk,jql,jqm,jqn,and_true,true_and,and_assoc,jqo,jqp,jqq,Nat.reduceSub,Nat.reduceAdd,jqr,jqs,jqt,Int.reduceToNat,Int.reducePow,Int.reduceNeg,Int.reduceMul,Int.reduceAdd,if_true,ite_true,jqu,ite_false,if_false]
  refine ⟨_,_,_,W.ix,F.cl,F.n1,_,rfl,_,_,_,W.ix,F.cl,F.n3,_,rfl,_,rfl,ws,k,rfl,W.hw,h3,h4,.inl ⟨ps,e,h2,fun H1 p r s1 hp hr=>?_⟩⟩
  have np:p≠x:=ne_of hp (s1 _ _ W.ix) (fun z=>nomatch z)
  have nr:r≠x:=ne_of hr (s1 _ _ W.ix) (fun z=>nomatch z)
  exact ⟨_,SqT.of hp,_,rfl,_,_,_,s1 _ _ W.ix,F.cl,F.n3,(by simp),_,SqT.of (by rw [upd_ne np];exact hp),_,rfl,q _ r (SameX.upd (sx s1)) ((W.same s1).put e) (by rw [upd_ne nr];exact hr) nr⟩
theorem rdp_RowWords_draw_end {x dx wa:Addr} {ws:List Str} {n:Int} (F:WrF K t) (W:WrAt t H x dx wa ws n ws.length) (q:∀ H',Same H H'→Q .non H') :
    rd_RowWords_draw_end K t { nx:=fun _ H'=>Q .non H',rt:=Q } (L2.start ["self"] [.ref x]) H:=by
  simp only [rd_RowWords_draw_end,tFld,L2.start,tNext,tNever,tOp,tVar,tCons,tNil,tIfS,tTest,tCB,LenV,rI0,cLen,List.map,List.replicate,List.length,List.append,jqa,jqb,jqc,jqd,jqe,jqf,jqg,jqh,jqi,jqj,jqk,jql,jqm,jqn,and_true,true_and,and_assoc,jqo,jqp,jqq,Nat.reduceSub,Nat.reduceAdd,jqr,jqs,jqt,Int.reduceToNat,Int.reducePow,Int.reduceNeg,Int.reduceMul,Int.reduceAdd,if_true,ite_true,jqu,ite_false,if_false]
  refine ⟨_,_,_,W.ix,F.cl,F.n3,_,rfl,_,_,_,W.ix,F.cl,F.n1,_,rfl,ws.length,.inl ⟨_,SqL.of W.hw,(List.length_map ..).symm⟩,_,rfl,?_⟩
  rw [if_neg (by lia)]
  exact q H (Same.refl H)
theorem get_at {A B:List Str} {n i:Nat} (h:n=A.length + i):(A ++ B)[n]?=B[i]?:=by subst h;rw [List.getElem?_append_right (by lia)];congr 1;lia
theorem rdp_take_drawn {x dx wa:Addr} {ws:List Str} {n:Int} {sh:Str} {T:Tw} {sl:Str} (W:WrAt t H x dx wa ws n 1) (h2:ws=Hd.words (.take sh T sl)) (h3:Hd.ok (.take sh T sl)) (h4:okWs ws) (h5:ws.length≤60) (q:∀ H' v,SameX x H H'→WrAt t H' x dx wa ws n ws.length→HdAt (fun b=>H b=none) H' v (.take sh T sl)→Q v H') :
    rd_take_drawn K t { nx:=fun _ H'=>Q .non H',rt:=Q } (L2.start ["words","shelf","place"] [.ref x]) H:=by
  simp only [rd_take_drawn,sp_RowWords_draw_name,sp_RowWords_draw_term,sp_RowWords_draw_as,tMeth,L2.start,tSeq,tAsg,gName,tRet,tDrop,tVar,tC,tTup,tCons,tNil,List.map,List.replicate,List.length,List.append,jqa,jqb,jqc,jqd,jqe,jqf,jqg,jqh,jqi,jqj,jqk,jql,jqm,jqn,and_true,true_and,and_assoc,jqo,jqp,jqq,Nat.reduceSub,Nat.reduceAdd,jqr,jqs,jqt,Int.reduceToNat,Int.reducePow,Int.reduceNeg,Int.reduceMul,Int.reduceAdd,if_true,ite_true,jqu,ite_false,if_false]
  obtain ⟨o1,o2,o3⟩:=h3
  have e0:ws=([("take":Str),sh] ++ pre T) ++ [("as":Str),sl]:=h2
  have lw:ws.length=2 + (pre T).length + 2:=by rw [e0];simp;lia
  have e1:ws[1]?=some sh:=by rw [e0];simp
  have e2:parse ws 2=some (pst T,2 + (pre T).length):=by
    rw [e0]
    exact parse_pre (A:=[("take":Str),sh]) o2.wf o2.ok (by lia)
  have e3:ws[2 + (pre T).length]?=some ("as":Str):=by rw [e0];exact get_at (i:=0) (by simp;lia)
  have e4:ws[2 + (pre T).length + 1]?=some sl:=by rw [e0];exact get_at (i:=1) (by simp;lia)
  refine ⟨_,_,W.ix,rfl,dx,wa,ws,n,1,W,sh,e1,o1,fun H1 s1 W1=>?_⟩
  refine ⟨_,_,W1.ix,rfl,dx,wa,ws,n,2,W1,_,_,e2,by lia,h4,fun H2 r s2 W2 hr nr=>?_⟩
  refine ⟨_,_,W2.ix,rfl,dx,wa,ws,n,_,W2,e3,fun H3 s3 W3=>?_⟩
  refine ⟨_,_,W3.ix,rfl,dx,wa,ws,n,_,W3,sl,e4,o3,fun H4 s4 W4=>⟨by decide,fun p hp=>?_⟩⟩
  have s5:=isV (o:=HO.tup [V.str (Str.ofString "take"),V.str sh,V.ref r,V.str sl]) p hp
  refine q _ (.ref p) (s1.trans (s2.trans (s3.trans (s4.trans (sx s5))))) (by rw [lw];exact W4.same s5) ⟨p,r,rfl,upd_same,s5 _ _ (s4 r _ nr (s3 r _ nr hr))⟩
theorem Hd.w_ne (hd:Hd):hd.words≠[]:=by cases hd <;> simp [Hd.words]
theorem freshX {x:Addr} {H H':Hp} {b:Addr} {o:HO} (s:SameX x H H') (hx:H' x=some o) (hb:H' b=none):H b=none:=by
  cases e:H b with
  | none=>rfl
  | some u =>
    by_cases n:b=x
    · rw [n,hx] at hb;cases hb
    · rw [s b u n e] at hb;cases hb
theorem rdp_row_drawn {x dx wa:Addr} {ws:List Str} {n:Int} {hd:Hd} (W:WrAt t H x dx wa ws n 0) (h2:ws=hd.words) (h3:hd.ok) (h4:okWs ws) (h5:ws.length≤60) (q:∀ H' v,SameX x H H'→WrAt t H' x dx wa ws n ws.length→HdAt (fun b=>H b=none) H' v hd→Q v H') :
    rd_row_drawn K t { nx:=fun _ H'=>Q .non H',rt:=Q } (L2.start ["words","first"] [.ref x]) H:=by
  simp only [rd_row_drawn,rd_row_drawn_2,rd_row_drawn_3,rd_row_drawn_4,sp_RowWords_draw_word,sp_RowWords_draw_name,sp_RowWords_draw_term,sp_take_drawn,tMeth,L2.start,tSeq,tAsg,gName,tRet,tNext,tNever,tOp,tVar,tC,tLst,tTup,tCons,tNil,tIfS,tTest,tCall,rEq,rIn,scal,List.map,List.replicate,List.length,List.append,jqa,jqb,jqc,jqd,jqe,jqf,jqg,jqh,jqi,jqj,jqk,jql,jqm,jqn,and_true,true_and,and_assoc,jqo,jqp,jqq,Nat.reduceSub,Nat.reduceAdd,jqr,jqs,jqt,Int.reduceToNat,Int.reducePow,Int.reduceNeg,Int.reduceMul,Int.reduceAdd,if_true,ite_true,jqu,ite_false,if_false]
  cases hd with
  | take sh T sl =>
    have e0:ws=([("take":Str),sh] ++ pre T) ++ [("as":Str),sl]:=h2
    refine ⟨_,_,W.ix,rfl,dx,wa,ws,n,0,W,"take",by rw [e0];rfl,fun H1 s1 W1=>?_⟩
    rw [if_pos rfl]
    exact ⟨dx,wa,ws,n,W1,sh,T,sl,h2,h3,h4,h5,fun H' v s w h=>q H' v (s1.trans s) w h⟩
  | give sh T U =>
    obtain ⟨o1,o2,o3⟩:=h3
    have e0:ws=([("give":Str),sh] ++ pre T) ++ pre U:=h2
    have lw:ws.length=2 + (pre T).length + (pre U).length:=by rw [e0];simp;lia
    have e1:ws[1]?=some sh:=by rw [e0];simp
    have e2:parse ws 2=some (pst T,2 + (pre T).length):=by
      rw [e0]
      exact parse_pre (A:=[("give":Str),sh]) o2.wf o2.ok (by lia)
    have e3:parse ws (2 + (pre T).length)=some (pst U,2 + (pre T).length + (pre U).length):=by
      have:=parse_pre (A:=[("give":Str),sh] ++ pre T) (B:=[]) o3.wf o3.ok (by lia)
      rw [List.append_nil,← e0,show ([("give":Str),sh] ++ pre T).length=2 + (pre T).length by simp;lia] at this
      exact this
    refine ⟨_,_,W.ix,rfl,dx,wa,ws,n,0,W,"give",by rw [e0];rfl,fun H1 s1 W1=>?_⟩
    rw [if_neg (by decide +kernel),if_pos rfl]
    refine ⟨_,_,W1.ix,rfl,dx,wa,ws,n,1,W1,sh,e1,o1,fun H2 s2 W2=>?_⟩
    refine ⟨_,_,W2.ix,rfl,dx,wa,ws,n,2,W2,_,_,e2,by lia,h4,fun H3 r s3 W3 hr nr=>?_⟩
    refine ⟨_,_,W3.ix,rfl,dx,wa,ws,n,_,W3,_,_,e3,by lia,h4,fun H4 r2 s4 W4 hr2 nr2=>⟨by decide,fun p hp=>?_⟩⟩
    have s5:=isV (o:=HO.tup [V.str (Str.ofString "give"),V.str sh,V.ref r,V.ref r2]) p hp
    exact q _ (.ref p) (s1.trans (s2.trans (s3.trans (s4.trans (sx s5))))) (by rw [lw];exact W4.same s5) ⟨p,r,r2,rfl,upd_same,s5 _ _ (s4 r _ nr hr),s5 _ _ hr2⟩
  | lt sl T =>
    obtain ⟨o1,o2⟩:=h3
    have e0:ws=[("let":Str),sl] ++ pre T:=h2
    have lw:ws.length=2 + (pre T).length:=by rw [e0];simp;lia
    have e1:ws[1]?=some sl:=by rw [e0];simp
    have e2:parse ws 2=some (pst T,2 + (pre T).length):=by
      have:=parse_pre (A:=[("let":Str),sl]) (B:=[]) o2.wf o2.ok (by lia)
      rw [List.append_nil,← e0] at this
      exact this
    refine ⟨_,_,W.ix,rfl,dx,wa,ws,n,0,W,"let",by rw [e0];rfl,fun H1 s1 W1=>?_⟩
    rw [if_neg (by decide +kernel),if_neg (by decide +kernel),if_pos rfl]
    refine ⟨_,_,W1.ix,rfl,dx,wa,ws,n,1,W1,sl,e1,o1,fun H2 s2 W2=>?_⟩
    refine ⟨_,_,W2.ix,rfl,dx,wa,ws,n,2,W2,_,_,e2,by lia,h4,fun H3 r s3 W3 hr nr=>⟨by decide,fun p hp=>?_⟩⟩
    have s5:=isV (o:=HO.tup [V.str (Str.ofString "let"),V.str sl,V.ref r]) p hp
    exact q _ (.ref p) (s1.trans (s2.trans (s3.trans (sx s5)))) (by rw [lw];exact W3.same s5) ⟨p,r,rfl,upd_same,s5 _ _ hr⟩
  | say T =>
    have e0:ws=[("say":Str)] ++ pre T:=h2
    have lw:ws.length=1 + (pre T).length:=by rw [e0];simp;lia
    have e2:parse ws 1=some (pst T,1 + (pre T).length):=by
      have:=parse_pre (A:=[("say":Str)]) (B:=[]) (TmOk.wf h3) (TmOk.ok h3) (by lia)
      rw [List.append_nil,← e0] at this
      exact this
    refine ⟨_,_,W.ix,rfl,dx,wa,ws,n,0,W,"say",by rw [e0];rfl,fun H1 s1 W1=>?_⟩
    rw [if_neg (by decide +kernel),if_neg (by decide +kernel),if_neg (by decide +kernel)]
    refine ⟨by decide,fun p hp=>⟨_,.inr (SqT.of upd_same),rfl,rfl,?_⟩⟩
    rw [if_pos (by decide +kernel)]
    have s2:=isV (o:=HO.tup [V.str (Str.ofString "say"),V.str (Str.ofString "off")]) p hp
    have W2:=W1.same s2
    refine ⟨_,_,W2.ix,rfl,dx,wa,ws,n,1,W2,_,_,e2,by lia,h4,fun H3 r s3 W3 hr nr=>⟨by decide,fun p2 hp2=>?_⟩⟩
    have s5:=isV (o:=HO.tup [V.str (Str.ofString "say"),V.ref r]) p2 hp2
    exact q _ (.ref p2) (s1.trans ((sx s2).trans (s3.trans (sx s5)))) (by rw [lw];exact W3.same s5) ⟨p2,r,rfl,upd_same,s5 _ _ hr⟩
  | off T =>
    have e0:ws=[("off":Str)] ++ pre T:=h2
    have lw:ws.length=1 + (pre T).length:=by rw [e0];simp;lia
    have e2:parse ws 1=some (pst T,1 + (pre T).length):=by
      have:=parse_pre (A:=[("off":Str)]) (B:=[]) (TmOk.wf h3) (TmOk.ok h3) (by lia)
      rw [List.append_nil,← e0] at this
      exact this
    refine ⟨_,_,W.ix,rfl,dx,wa,ws,n,0,W,"off",by rw [e0];rfl,fun H1 s1 W1=>?_⟩
    rw [if_neg (by decide +kernel),if_neg (by decide +kernel),if_neg (by decide +kernel)]
    refine ⟨by decide,fun p hp=>⟨_,.inr (SqT.of upd_same),rfl,rfl,?_⟩⟩
    rw [if_pos (by decide +kernel)]
    have s2:=isV (o:=HO.tup [V.str (Str.ofString "say"),V.str (Str.ofString "off")]) p hp
    have W2:=W1.same s2
    refine ⟨_,_,W2.ix,rfl,dx,wa,ws,n,1,W2,_,_,e2,by lia,h4,fun H3 r s3 W3 hr nr=>⟨by decide,fun p2 hp2=>?_⟩⟩
    have s5:=isV (o:=HO.tup [V.str (Str.ofString "off"),V.ref r]) p2 hp2
    exact q _ (.ref p2) (s1.trans ((sx s2).trans (s3.trans (sx s5)))) (by rw [lw];exact W3.same s5) ⟨p2,r,rfl,upd_same,s5 _ _ hr⟩
  | iff T =>
    have e0:ws=[("if":Str)] ++ pre T:=h2
    have lw:ws.length=1 + (pre T).length:=by rw [e0];simp;lia
    have e2:parse ws 1=some (pst T,1 + (pre T).length):=by
      have:=parse_pre (A:=[("if":Str)]) (B:=[]) (TmOk.wf h3) (TmOk.ok h3) (by lia)
      rw [List.append_nil,← e0] at this
      exact this
    refine ⟨_,_,W.ix,rfl,dx,wa,ws,n,0,W,"if",by rw [e0];rfl,fun H1 s1 W1=>?_⟩
    rw [if_neg (by decide +kernel),if_neg (by decide +kernel),if_neg (by decide +kernel)]
    refine ⟨by decide,fun p hp=>⟨_,.inr (SqT.of upd_same),rfl,rfl,?_⟩⟩
    rw [if_neg (by decide +kernel),if_pos rfl]
    have s2:=isV (o:=HO.tup [V.str (Str.ofString "say"),V.str (Str.ofString "off")]) p hp
    have W2:=W1.same s2
    refine ⟨_,_,W2.ix,rfl,dx,wa,ws,n,1,W2,_,_,e2,by lia,h4,fun H3 r s3 W3 hr nr=>⟨Nat.zero_le _,fun la hla=>⟨Nat.zero_le _,fun lb hlb=>⟨by decide,fun p2 hp2=>?_⟩⟩⟩⟩
    have s4:=isV (o:=HO.lst []) la hla
    have s5:=isV (o:=HO.lst []) lb hlb
    have s6:=isV (o:=HO.tup [V.str (Str.ofString "if"),V.ref r,V.ref la,V.ref lb]) p2 hp2
    have S3:=s1.trans ((sx s2).trans s3)
    have S:=s4.trans (s5.trans s6)
    have fa:H la=none:=freshX S3 W3.ix hla
    have fb:H lb=none:=freshX (S3.trans (sx s4)) (s4 _ _ W3.ix) hlb
    exact q _ (.ref p2) (S3.trans (sx S)) (by rw [lw];exact W3.same S) ⟨p2,r,la,lb,rfl,upd_same,S _ _ hr,s6 _ _ (s5 _ _ upd_same),s6 _ _ upd_same,fa,fb,Ne.symm (fresh_ne upd_same hlb)⟩
  | els =>
    have e0:ws=[("else":Str)]:=h2
    refine ⟨_,_,W.ix,rfl,dx,wa,ws,n,0,W,"else",by rw [e0];rfl,fun H1 s1 W1=>?_⟩
    rw [if_neg (by decide +kernel),if_neg (by decide +kernel),if_neg (by decide +kernel)]
    refine ⟨by decide,fun p hp=>⟨_,.inr (SqT.of upd_same),rfl,rfl,?_⟩⟩
    rw [if_neg (by decide +kernel),if_neg (by decide +kernel)]
    refine ⟨by decide,fun p2 hp2=>⟨_,.inr (SqT.of upd_same),rfl,rfl,?_⟩⟩
    rw [if_pos (by decide +kernel)]
    refine ⟨by decide,fun p3 hp3=>?_⟩
    have S:=(isV p hp).trans ((isV p2 hp2).trans (isV (o:=HO.tup [V.str (Str.ofString "else")]) p3 hp3))
    exact q _ (.ref p3) (s1.trans (sx S)) (by rw [e0];rw [e0] at W1;exact W1.same S) ⟨p3,rfl,upd_same⟩
  | nd =>
    have e0:ws=[("end":Str)]:=h2
    refine ⟨_,_,W.ix,rfl,dx,wa,ws,n,0,W,"end",by rw [e0];rfl,fun H1 s1 W1=>?_⟩
    rw [if_neg (by decide +kernel),if_neg (by decide +kernel),if_neg (by decide +kernel)]
    refine ⟨by decide,fun p hp=>⟨_,.inr (SqT.of upd_same),rfl,rfl,?_⟩⟩
    rw [if_neg (by decide +kernel),if_neg (by decide +kernel)]
    refine ⟨by decide,fun p2 hp2=>⟨_,.inr (SqT.of upd_same),rfl,rfl,?_⟩⟩
    rw [if_pos (by decide +kernel)]
    refine ⟨by decide,fun p3 hp3=>?_⟩
    have S:=(isV p hp).trans ((isV p2 hp2).trans (isV (o:=HO.tup [V.str (Str.ofString "end")]) p3 hp3))
    exact q _ (.ref p3) (s1.trans (sx S)) (by rw [e0];rw [e0] at W1;exact W1.same S) ⟨p3,rfl,upd_same⟩
theorem join_len (c:Nat) (m:Nat):∀ (ws:List Str),(∀ w∈ws,w.length≤m)→(Str.join ⟨#[c]⟩ ws).length≤ws.length * (m + 1)
  | [],_=>by simp [Str.join,Str.empty,Str.length]
  | [x],h=>by
    show x.length≤1 * (m + 1)
    have:=h x List.mem_cons_self
    lia
  | x :: y :: r,h=>by
    have h1:=h x List.mem_cons_self
    have h2:=join_len c m (y :: r) fun w hw=>h w (List.mem_cons_of_mem _ hw)
    rw [join_cons,len_app,len_app]
    have:(⟨#[c]⟩:Str).length=1:=rfl
    simp only [List.length_cons] at h2 ⊢
    have e:(r.length + 1 + 1) * (m + 1)=(r.length + 1) * (m + 1) + (m + 1):=by rw [Nat.add_mul (r.length + 1) 1,Nat.one_mul]
    lia
theorem join_mem {c d:Nat}:∀ {ws:List Str},d∈(Str.join ⟨#[c]⟩ ws).cps.toList→d=c∨∃ w∈ws,d∈w.cps.toList
  | [],h=>by simp [Str.join,Str.empty] at h
  | [x],h=>.inr ⟨x,List.mem_cons_self,h⟩
  | x :: y :: r,h=>by
    rw [join_cpsC] at h
    rcases List.mem_append.mp h with h | h
    · exact .inr ⟨x,List.mem_cons_self,h⟩
    · rcases List.mem_cons.mp h with h | h
      · exact .inl h
      · rcases join_mem (ws:=y :: r) h with h | ⟨w,hw,h⟩
        · exact .inl h
        · exact .inr ⟨w,List.mem_cons_of_mem _ hw,h⟩
theorem sp_bl:Str.ofString " "=bl32:=by decide +kernel
theorem sp_nl:Str.ofString "\n"=nl10:=by decide +kernel
theorem line_len {hd:Hd} (L:LnOk hd):hd.line.length≤10000:=by
  have:=join_len 32 100 hd.words fun w hw=>(L.ws w hw).1
  have l:=L.ln
  show (Str.join ⟨#[32]⟩ hd.words).length≤_
  have:hd.words.length * 101≤60 * 101:=Nat.mul_le_mul_right _ l
  lia
theorem line_split {hd:Hd} (L:LnOk hd):Txt.split hd.line (Str.ofString " ")=hd.words:=by
  rw [sp_bl]
  exact split_join hd.w_ne fun w hw=>(L.bl w hw).1
theorem HdAt.to {F G:Addr→Prop} {H H':Hp} {v:V} {hd:Hd} (g:∀ b,F b→G b) (s:Same H H') (h:HdAt F H v hd):HdAt G H' v hd:=by
  cases hd with
  | take sh T sl =>
    obtain ⟨r,te,e,e1,e2⟩:=h
    exact ⟨r,te,e,s _ _ e1,s _ _ e2⟩
  | give sh T U =>
    obtain ⟨r,te,tf,e,e1,e2,e3⟩:=h
    exact ⟨r,te,tf,e,s _ _ e1,s _ _ e2,s _ _ e3⟩
  | lt sl T =>
    obtain ⟨r,te,e,e1,e2⟩:=h
    exact ⟨r,te,e,s _ _ e1,s _ _ e2⟩
  | say T =>
    obtain ⟨r,te,e,e1,e2⟩:=h
    exact ⟨r,te,e,s _ _ e1,s _ _ e2⟩
  | off T =>
    obtain ⟨r,te,e,e1,e2⟩:=h
    exact ⟨r,te,e,s _ _ e1,s _ _ e2⟩
  | iff T =>
    obtain ⟨r,te,la,lb,e,e1,e2,e3,e4,f1,f2,n⟩:=h
    exact ⟨r,te,la,lb,e,s _ _ e1,s _ _ e2,s _ _ e3,s _ _ e4,g _ f1,g _ f2,n⟩
  | els =>
    obtain ⟨r,e,e1⟩:=h
    exact ⟨r,e,s _ _ e1⟩
  | nd =>
    obtain ⟨r,e,e1⟩:=h
    exact ⟨r,e,s _ _ e1⟩
theorem rdp_row_in {x:Str} {n:Nat} {hd:Hd} (h1:x=hd.line) (L:LnOk hd) (h3:n < 40) (q:∀ H' v,Same H H'→HdAt (fun b=>H b=none) H' v hd→Q v H') :
    rd_row_in K t { nx:=fun _ H'=>Q .non H',rt:=Q } (L2.start ["text","number","words","drawn","row"] [.str x,.int n]) H:=by
  subst h1
  simp only [rd_row_in,sp_RowWords_init,sp_row_drawn,sp_RowWords_draw_end,tMeth,tMake,r_mt_split,L2.start,tSeq,tAsg,gName,tRet,tDrop,tNext,tNever,tOp,tVar,tC,tCons,tNil,tIfS,tOr,tTest,tCB,tBM,tyV,tCall,LenV,rI0,cLen,List.map,List.replicate,List.length,List.append,jqa,jqb,jqc,jqd,jqe,jqf,jqg,jqh,jqi,jqj,jqk,jql,jqm,jqn,and_true,true_and,and_assoc,jqo,jqp,jqq,Nat.reduceSub,Nat.reduceAdd,jqr,jqs,jqt,Int.reduceToNat,Int.reducePow,Int.reduceNeg,Int.reduceMul,Int.reduceAdd,if_true,ite_true,jqu,ite_false,if_false]
  rw [line_split L]
  have ll:=line_len L
  have ln:=L.ln
  have lm:(List.map V.str hd.words).length=hd.words.length:=List.length_map ..
  refine ⟨by decide +kernel,by lia,by lia,fun l hl=>?_⟩
  rw [if_neg (by lia)]
  refine ⟨hd.words.length,.inl ⟨_,SqL.of upd_same,lm.symm⟩,?_⟩
  rw [if_neg (by lia)]
  intro x dx hx hdx n
  have s1:=isV (o:=HO.lst (List.map V.str hd.words)) l hl
  have l1:upd H l (HO.lst (List.map V.str hd.words)) l=some (.lst (List.map V.str hd.words)):=upd_same
  generalize upd H l (HO.lst (List.map V.str hd.words))=H1 at *
  have s2:=isV (o:=HO.own x) dx hdx
  have hx2:upd H1 dx (HO.own x) x=none:=by rw [upd_ne (Ne.symm n)];exact hx
  have s3:=isV (o:=HO.ins t.c_RowWords dx []) x hx2
  refine ⟨dx,upd_same,hd.words,(s2.trans s3) _ _ l1,fun H2 s4 W2=>?_⟩
  refine ⟨dx,l,hd.words,_,W2,hd,rfl,L.ok,L.ws,L.ln,fun H3 v s5 W3 hv=>?_⟩
  refine ⟨_,_,W3.ix,rfl,dx,l,hd.words,_,W3,fun H4 s6=>?_⟩
  have fx:H x=none:=fresh_of (s1.trans s2) hx2
  have S3:Same H H3:=(s4.trans s5).same (s1.trans (s2.trans s3)) fx
  have S4:=S3.trans s6
  have S2:Same H H2:=s4.same (s1.trans (s2.trans s3)) fx
  exact q H4 v S4 (hv.to (fun b hb=>fresh_of S2 hb) s6)
theorem rdp_Reading_init {x dx:Addr} (F:RdF K t) (h1:H x=some (.ins t.c_Reading dx [])) (q:∀ H' rl bl tl,SameX x H H'→RdAt t H' x dx rl bl tl [] []→H' rl=some (.lst [])→H rl=none→H bl=none→H tl=none→Q .non H') :
    rd_Reading_init K t { nx:=fun _ H'=>Q .non H',rt:=Q } (L2.start ["self"] [.ref x]) H:=by
  simp only [rd_Reading_init,sFld,putF,L2.start,tSeq,tVar,tLst,tNil,List.map,List.replicate,List.length,List.append,jqa,jqb,jqc,jqd,jqe,jqf,jqg,jqh,jqi,jqj,jqk,jql,jqm,jqn,and_true,true_and,and_assoc,jqo,jqp,jqq,Nat.reduceSub,Nat.reduceAdd,jqr,jqs,jqt,Int.reduceToNat,Int.reducePow,Int.reduceNeg,Int.reduceMul,Int.reduceAdd,if_true,ite_true,jqu,ite_false,if_false]
  refine ⟨Nat.zero_le _,fun rl hrl=>?_⟩
  have nr:x≠rl:=ne_of_none h1 hrl
  refine ⟨_,_,_,(by rw [upd_ne nr];exact h1),F.cl,F.n1,by decide,Nat.zero_le _,?_⟩
  have S1:SameX x H (upd (upd H rl (.lst [])) x (.ins t.c_Reading dx (putF "rows" (.ref rl) []))):=SameX.upd (sx (isV rl hrl))
  have x1:upd (upd H rl (.lst [])) x (.ins t.c_Reading dx (putF "rows" (.ref rl) [])) x=some (.ins t.c_Reading dx (putF "rows" (.ref rl) [])):=upd_same
  have r1:upd (upd H rl (.lst [])) x (.ins t.c_Reading dx (putF "rows" (.ref rl) [])) rl=some (.lst []):=by rw [upd_ne (Ne.symm nr),upd_same]
  generalize upd (upd H rl (.lst [])) x (.ins t.c_Reading dx (putF "rows" (.ref rl) []))=H1 at *
  intro bl hbl
  have nb:x≠bl:=ne_of_none x1 hbl
  refine ⟨_,_,_,(by rw [upd_ne nb];exact x1),F.cl,F.n2,(by simp [putF]),Nat.zero_le _,?_⟩
  have S2:SameX x H (upd (upd H1 bl (.lst [])) x (.ins t.c_Reading dx (putF "blocks" (.ref bl) (putF "rows" (.ref rl) [])))):=SameX.upd (S1.trans (sx (isV bl hbl)))
  have x2:upd (upd H1 bl (.lst [])) x (.ins t.c_Reading dx (putF "blocks" (.ref bl) (putF "rows" (.ref rl) []))) x=some (.ins t.c_Reading dx (putF "blocks" (.ref bl) (putF "rows" (.ref rl) []))):=upd_same
  have r2:upd (upd H1 bl (.lst [])) x (.ins t.c_Reading dx (putF "blocks" (.ref bl) (putF "rows" (.ref rl) []))) rl=some (.lst []):=by rw [upd_ne (Ne.symm nr),upd_ne (ne_of_none r1 hbl)];exact r1
  have b2:upd (upd H1 bl (.lst [])) x (.ins t.c_Reading dx (putF "blocks" (.ref bl) (putF "rows" (.ref rl) []))) bl=some (.lst []):=by rw [upd_ne (Ne.symm nb),upd_same]
  have nrb:rl≠bl:=ne_of_none r1 hbl
  generalize upd (upd H1 bl (.lst [])) x (.ins t.c_Reading dx (putF "blocks" (.ref bl) (putF "rows" (.ref rl) [])))=H2 at *
  intro tl htl
  have nt:x≠tl:=ne_of_none x2 htl
  refine ⟨_,_,_,(by rw [upd_ne nt];exact x2),F.cl,F.n3,(by simp [putF];split <;> simp),q _ rl bl tl (SameX.upd (S2.trans (sx (isV tl htl)))) ⟨upd_same,?_,?_,nrb,ne_of_none r2 htl,ne_of_none b2 htl,rfl,Nat.zero_le _⟩ ?_ hrl (freshX S1 x1 hbl) (freshX S2 x2 htl)⟩
  · rw [upd_ne (Ne.symm nb),upd_ne (ne_of_none b2 htl)];exact b2
  · rw [upd_ne (Ne.symm nt),upd_same];rfl
  · rw [upd_ne (Ne.symm nr),upd_ne (ne_of_none r2 htl)];exact r2
theorem at_lst {α:Type} {xs:List α} {a:α}:atI (xs ++ [a]) (-1)=some a:=by
  unfold atI ixN
  rw [if_neg (by decide),if_pos (by simp;lia)]
  have:(-1 + ((xs ++ [a]).length:Int)).toNat=xs.length:=by simp;lia
  rw [this]
  simp
theorem rdp_Reading_innermost {x dx rl bl tl:Addr} {blocks:List V} {turned:List Bool} {inn:Addr} (F:RdF K t) (R:RdAt t H x dx rl bl tl blocks turned) (h2:Inn H rl blocks turned inn) (q:∀ H',Same H H'→Q (.ref inn) H') :
    rd_Reading_innermost K t { nx:=fun _ H'=>Q .non H',rt:=Q } (L2.start ["self"] [.ref x]) H:=by
  simp only [rd_Reading_innermost,tFld,L2.start,rEqNil,rIxT,tSeq,tRet,tNext,tOp,tUn,tVar,tC,tLst,tNil,tIfS,tTest,tB,tIf,rIxL,rIxT,rU,List.map,List.replicate,List.length,List.append,jqa,jqb,jqc,jqd,jqe,jqf,jqg,jqh,jqi,jqj,jqk,jql,jqm,jqn,and_true,true_and,and_assoc,jqo,jqp,jqq,Nat.reduceSub,Nat.reduceAdd,jqr,jqs,jqt,Int.reduceToNat,Int.reducePow,Int.reduceNeg,Int.reduceMul,Int.reduceAdd,if_true,ite_true,jqu,ite_false,if_false]
  refine ⟨_,_,_,R.ix,F.cl,F.n2,_,rfl,Nat.zero_le _,fun p hp=>?_⟩
  have s1:=isV (o:=HO.lst []) p hp
  refine ⟨bl,rfl,blocks,SqL.of (s1 _ _ R.hb),SqL.of upd_same,?_⟩
  rcases h2 with ⟨e,rfl⟩ | ⟨bs,r,hd,te,la,lb,cs,c,rfl,rfl,hr,e⟩
  · rw [if_pos e]
    exact ⟨_,_,_,s1 _ _ R.ix,F.cl,F.n1,_,rfl,q _ s1⟩
  · rw [if_neg (by simp)]
    have a1:atI ((cs ++ [c]).map V.bl) (-1)=some (V.bl c):=by rw [List.map_append];exact at_lst
    have a2:atI (bs ++ [V.ref r]) (-1)=some (V.ref r):=at_lst
    refine ⟨_,_,_,s1 _ _ R.ix,F.cl,F.n3,_,rfl,_,rfl,_,SqL.of (s1 _ _ R.ht),_,a1,c,rfl,?_⟩
    cases c with
    | true =>
      rw [if_pos rfl] at e ⊢
      subst e
      exact ⟨_,_,_,s1 _ _ R.ix,F.cl,F.n2,_,rfl,_,rfl,_,SqL.of (s1 _ _ R.hb),_,a2,_,rfl,_,SqT.of (s1 _ _ hr),_,rfl,q _ s1⟩
    | false =>
      rw [if_neg (by decide)] at e ⊢
      subst e
      exact ⟨_,_,_,s1 _ _ R.ix,F.cl,F.n2,_,rfl,_,rfl,_,SqL.of (s1 _ _ R.hb),_,a2,_,rfl,_,SqT.of (s1 _ _ hr),_,rfl,q _ s1⟩
theorem rdp_Reading_begins {x:Addr} {v n:V} {dx rl bl tl:Addr} {blocks:List V} {turned:List Bool} {inn:Addr} {zs:List V} (F:RdF K t) (R:RdAt t H x dx rl bl tl blocks turned) (h2:Inn H rl blocks turned inn) (h3:H inn=some (.lst zs)) (h4:zs.length≤1000) (h5:inn≠bl) (h6:inn≠tl) (h7:blocks.length < 5)
    (q:∀ H1,Same H H1→Q .non (upd (upd (upd H1 inn (.lst (zs ++ [v]))) bl (.lst (blocks ++ [v]))) tl (.lst ((turned ++ [false]).map V.bl)))) :
    rd_Reading_begins K t { nx:=fun _ H'=>Q .non H',rt:=Q } (L2.start ["self","row","number"] [.ref x,v,n]) H:=by
  simp only [rd_Reading_begins,sp_Reading_innermost,tFld,tMeth,L2.start,r_mt_append,rAppend,tSeq,tDrop,tNext,tNever,tOp,tVar,tC,tCons,tNil,tIfS,tTest,tCB,tBM,tyV,LenV,rEq,cLen,scal,List.map,List.replicate,List.length,List.append,jqa,jqb,jqc,jqd,jqe,jqf,jqg,jqh,jqi,jqj,jqk,jql,jqm,jqn,and_true,true_and,and_assoc,jqo,jqp,jqq,Nat.reduceSub,Nat.reduceAdd,jqr,jqs,jqt,Int.reduceToNat,Int.reducePow,Int.reduceNeg,Int.reduceMul,Int.reduceAdd,if_true,ite_true,jqu,ite_false,if_false]
  refine ⟨_,_,_,R.ix,F.cl,F.n2,_,rfl,blocks.length,.inl ⟨_,SqL.of R.hb,rfl⟩,?_⟩
  rw [if_neg (by lia)]
  refine ⟨_,_,R.ix,rfl,dx,rl,bl,tl,blocks,turned,R,inn,h2,fun H1 s1=>⟨.inl ⟨_,SqL.of (s1 _ _ h3)⟩,zs,s1 _ _ h3,Nat.lt_of_le_of_lt (by lia:zs.length≤1000) (by decide),?_⟩⟩
  have nxi:x≠inn:=ne_of R.ix h3 (fun z=>nomatch z)
  have nxb:x≠bl:=ne_of R.ix R.hb (fun z=>nomatch z)
  have hb1:upd H1 inn (HO.lst (zs ++ [v])) bl=some (.lst blocks):=by rw [upd_ne (Ne.symm h5)];exact s1 _ _ R.hb
  have ht1:upd (upd H1 inn (HO.lst (zs ++ [v]))) bl (HO.lst (blocks ++ [v])) tl=some (.lst (turned.map V.bl)):=by rw [upd_ne (Ne.symm R.n3),upd_ne (Ne.symm h6)];exact s1 _ _ R.ht
  have l5:=R.l5
  have le:=R.le
  have hx1:upd H1 inn (HO.lst (zs ++ [v])) x=some (.ins t.c_Reading dx [("rows",.ref rl),("blocks",.ref bl),("turned",.ref tl)]):=by rw [upd_ne nxi];exact s1 _ _ R.ix
  have hx2:upd (upd H1 inn (HO.lst (zs ++ [v]))) bl (HO.lst (blocks ++ [v])) x=some (.ins t.c_Reading dx [("rows",.ref rl),("blocks",.ref bl),("turned",.ref tl)]):=by rw [upd_ne nxb,upd_ne nxi];exact s1 _ _ R.ix
  refine ⟨_,_,_,hx1,F.cl,F.n2,_,rfl,.inl ⟨_,SqL.of hb1⟩,bl,rfl,blocks,hb1,Nat.lt_of_le_of_lt (by lia:blocks.length≤1000) (by decide),_,_,_,hx2,F.cl,F.n3,_,rfl,.inl ⟨_,SqL.of ht1⟩,tl,rfl,_,ht1,Nat.lt_of_le_of_lt (by rw [List.length_map];lia:(turned.map V.bl).length≤1000) (by decide),?_⟩
  rw [show turned.map V.bl ++ [V.bl false]=(turned ++ [false]).map V.bl by simp]
  exact q H1 s1
theorem rdp_Reading_shuts {x:Addr} {n:V} {dx rl bl tl:Addr} {blocks:List V} {turned:List Bool} {b:V} {c:Bool} (F:RdF K t) (R:RdAt t H x dx rl bl tl (blocks ++ [b]) (turned ++ [c])) (q:∀ H1,Same H H1→Q .non (upd (upd H1 bl (.lst blocks)) tl (.lst (turned.map V.bl)))) :
    rd_Reading_shuts K t { nx:=fun _ H'=>Q .non H',rt:=Q } (L2.start ["self","number"] [.ref x,n]) H:=by
  simp only [rd_Reading_shuts,tFld,L2.start,rEqNil,r_mt_pop,rPop,tSeq,tDrop,tNext,tNever,tOp,tVar,tLst,tNil,tIfS,tTest,tBM0,tyV,List.map,List.replicate,List.length,List.append,jqa,jqb,jqc,jqd,jqe,jqf,jqg,jqh,jqi,jqj,jqk,jql,jqm,jqn,and_true,true_and,and_assoc,jqo,jqp,jqq,Nat.reduceSub,Nat.reduceAdd,jqr,jqs,jqt,Int.reduceToNat,Int.reducePow,Int.reduceNeg,Int.reduceMul,Int.reduceAdd,if_true,ite_true,jqu,ite_false,if_false]
  refine ⟨_,_,_,R.ix,F.cl,F.n2,_,rfl,Nat.zero_le _,fun p hp=>?_⟩
  have s1:=isV (o:=HO.lst []) p hp
  refine ⟨bl,rfl,_,SqL.of (s1 _ _ R.hb),SqL.of upd_same,?_⟩
  rw [if_neg (by simp)]
  refine ⟨_,_,_,s1 _ _ R.ix,F.cl,F.n2,_,rfl,.inl ⟨_,SqL.of (s1 _ _ R.hb)⟩,_,rfl,_,s1 _ _ R.hb,_,last_get,?_⟩
  rw [drop_last]
  have nxb:x≠bl:=ne_of R.ix R.hb (fun z=>nomatch z)
  have ht1:upd (upd H p (HO.lst [])) bl (HO.lst blocks) tl=some (.lst (turned.map V.bl ++ [V.bl c])):=by
    rw [upd_ne (Ne.symm R.n3)]
    have:=s1 _ _ R.ht
    rw [List.map_append] at this
    exact this
  have hx1:upd (upd H p (HO.lst [])) bl (HO.lst blocks) x=some (.ins t.c_Reading dx [("rows",.ref rl),("blocks",.ref bl),("turned",.ref tl)]):=by rw [upd_ne nxb];exact s1 _ _ R.ix
  refine ⟨_,_,_,hx1,F.cl,F.n3,_,rfl,.inl ⟨_,SqL.of ht1⟩,tl,rfl,_,ht1,_,last_get,?_⟩
  rw [drop_last]
  exact q _ s1
theorem hd_head {F:Addr→Prop} {v:V} {hd:Hd} (h:HdAt F H v hd):∃ r xs w,v=.ref r∧H r=some (.tup xs)∧atI xs 0=some (.str w)∧(w="else"↔hd=.els)∧(w="end"↔hd=.nd)∧(w="if"↔∃ T,hd=.iff T):=by
  cases hd with
  | take sh T sl =>
    obtain ⟨r,te,e,e1,e2⟩:=h
    exact ⟨r,_,"take",e,e1,rfl,⟨fun z=>absurd z (by decide +kernel),fun z=>nomatch z⟩,⟨fun z=>absurd z (by decide +kernel),fun z=>nomatch z⟩,⟨fun z=>absurd z (by decide +kernel),fun ⟨_,z⟩=>nomatch z⟩⟩
  | give sh T U =>
    obtain ⟨r,te,tf,e,e1,e2⟩:=h
    exact ⟨r,_,"give",e,e1,rfl,⟨fun z=>absurd z (by decide +kernel),fun z=>nomatch z⟩,⟨fun z=>absurd z (by decide +kernel),fun z=>nomatch z⟩,⟨fun z=>absurd z (by decide +kernel),fun ⟨_,z⟩=>nomatch z⟩⟩
  | lt sl T =>
    obtain ⟨r,te,e,e1,e2⟩:=h
    exact ⟨r,_,"let",e,e1,rfl,⟨fun z=>absurd z (by decide +kernel),fun z=>nomatch z⟩,⟨fun z=>absurd z (by decide +kernel),fun z=>nomatch z⟩,⟨fun z=>absurd z (by decide +kernel),fun ⟨_,z⟩=>nomatch z⟩⟩
  | say T =>
    obtain ⟨r,te,e,e1,e2⟩:=h
    exact ⟨r,_,"say",e,e1,rfl,⟨fun z=>absurd z (by decide +kernel),fun z=>nomatch z⟩,⟨fun z=>absurd z (by decide +kernel),fun z=>nomatch z⟩,⟨fun z=>absurd z (by decide +kernel),fun ⟨_,z⟩=>nomatch z⟩⟩
  | off T =>
    obtain ⟨r,te,e,e1,e2⟩:=h
    exact ⟨r,_,"off",e,e1,rfl,⟨fun z=>absurd z (by decide +kernel),fun z=>nomatch z⟩,⟨fun z=>absurd z (by decide +kernel),fun z=>nomatch z⟩,⟨fun z=>absurd z (by decide +kernel),fun ⟨_,z⟩=>nomatch z⟩⟩
  | iff T =>
    obtain ⟨r,te,la,lb,e,e1,e2⟩:=h
    exact ⟨r,_,"if",e,e1,rfl,⟨fun z=>absurd z (by decide +kernel),fun z=>nomatch z⟩,⟨fun z=>absurd z (by decide +kernel),fun z=>nomatch z⟩,⟨fun _=>⟨T,rfl⟩,fun _=>rfl⟩⟩
  | els =>
    obtain ⟨r,e,e1⟩:=h
    exact ⟨r,_,"else",e,e1,rfl,⟨fun _=>rfl,fun _=>rfl⟩,⟨fun z=>absurd z (by decide +kernel),fun z=>nomatch z⟩,⟨fun z=>absurd z (by decide +kernel),fun ⟨_,z⟩=>nomatch z⟩⟩
  | nd =>
    obtain ⟨r,e,e1⟩:=h
    exact ⟨r,_,"end",e,e1,rfl,⟨fun z=>absurd z (by decide +kernel),fun z=>nomatch z⟩,⟨fun _=>rfl,fun _=>rfl⟩,⟨fun z=>absurd z (by decide +kernel),fun ⟨_,z⟩=>nomatch z⟩⟩
theorem rdp_read3 {o1:V} {xl rd dx rl bl tl:Addr} {o3 o4:Option V} (F:RdF K t) (R:RdAt t H rd dx rl bl tl [] []) (q:∀ H',Same H H'→Q (.ref rl) H') :
    rd_read_3 K t { nx:=fun _ H'=>Q .non H',rt:=Q } [some o1,some (.ref xl),some (.ref rd),o3,o4] H:=by
  simp only [rd_read_3,tFld,rNeNil,L2.start,tSeq,tRet,tNext,tNever,tOp,tVar,tLst,tNil,tIfS,tTest,List.map,List.replicate,List.length,List.append,jqa,jqb,jqc,jqd,jqe,jqf,jqg,jqh,jqi,jqj,jqk,jql,jqm,jqn,and_true,true_and,and_assoc,jqo,jqp,jqq,Nat.reduceSub,Nat.reduceAdd,jqr,jqs,jqt,Int.reduceToNat,Int.reducePow,Int.reduceNeg,Int.reduceMul,Int.reduceAdd,if_true,ite_true,jqu,ite_false,if_false]
  refine ⟨_,_,_,R.ix,F.cl,F.n2,_,rfl,Nat.zero_le _,fun p hp=>?_⟩
  have s1:=isV (o:=HO.lst []) p hp
  refine ⟨bl,rfl,[],SqL.of (s1 _ _ R.hb),SqL.of upd_same,?_⟩
  rw [if_neg (by simp)]
  exact ⟨_,_,_,s1 _ _ R.ix,F.cl,F.n1,_,rfl,q _ s1⟩
theorem RdAt.same {H H':Hp} {x dx rl bl tl:Addr} {b:List V} {c:List Bool} (R:RdAt t H x dx rl bl tl b c) (s:Same H H'):RdAt t H' x dx rl bl tl b c:=⟨s _ _ R.ix,s _ _ R.hb,s _ _ R.ht,R.n1,R.n2,R.n3,R.le,R.l5⟩
theorem line_nl {hd:Hd} (L:LnOk hd):10 ∉ hd.line.cps.toList:=fun h=>by
  rcases join_mem (c:=32) h with h | ⟨w,hw,h⟩
  · cases h
  · exact (L.bl w hw).2 h
theorem line_ne {hd:Hd} (L:LnOk hd) (hw:∃ w r,hd.words=w :: r∧w.cps.toList≠[]):hd.line≠"":=fun z=>by
  obtain ⟨w,r,e,n⟩:=hw
  have z:(Str.join ⟨#[32]⟩ hd.words).cps.toList=[]:=by
    show hd.line.cps.toList=[]
    rw [z];decide +kernel
  rw [e] at z
  cases r with
  | nil=>exact n z
  | cons y r =>
    rw [join_cpsC] at z
    exact absurd (List.append_eq_nil_iff.mp z).2 (by simp)
theorem hd_first (hd:Hd):∃ w r,hd.words=w :: r∧w.cps.toList≠[]:=by
  cases hd <;> exact ⟨_,_,rfl,by decide +kernel⟩
def TS (H H':Hp):Prop:=∀ b ys,H b=some (.tup ys)→H' b=some (.tup ys)
theorem hd_t {H H':Hp} {v:V} {hd:Hd} (p:hd.plain) (s:TS H H') (h:HdAt anyA H v hd):HdAt anyA H' v hd:=by
  cases hd with
  | take sh T' sl =>
    obtain ⟨r,te,e,e1,e2⟩:=h
    exact ⟨r,te,e,s _ _ e1,s _ _ e2⟩
  | give sh T' U =>
    obtain ⟨r,te,tf,e,e1,e2,e3⟩:=h
    exact ⟨r,te,tf,e,s _ _ e1,s _ _ e2,s _ _ e3⟩
  | lt sl T' =>
    obtain ⟨r,te,e,e1,e2⟩:=h
    exact ⟨r,te,e,s _ _ e1,s _ _ e2⟩
  | say T' =>
    obtain ⟨r,te,e,e1,e2⟩:=h
    exact ⟨r,te,e,s _ _ e1,s _ _ e2⟩
  | off T' =>
    obtain ⟨r,te,e,e1,e2⟩:=h
    exact ⟨r,te,e,s _ _ e1,s _ _ e2⟩
  | iff T'=>exact p.elim
  | els=>exact p.elim
  | nd=>exact p.elim
mutual
theorem TrAt.to {F G:Addr→Prop} {H H':Hp} (g:∀ b ys,F b→H b=some (.lst ys)→G b) (s:TS H H') (l:∀ b ys,F b→H b=some (.lst ys)→H' b=some (.lst ys)):∀ (x:Tr) {v:V},x.ok→TrAt F H v x→TrAt G H' v x
  | .row h,v,k,a=>by
    unfold Tr.ok at k
    unfold TrAt at a ⊢
    exact hd_t k.2 s a
  | .iff T a b,v,k,h=>by
    unfold Tr.ok at k
    unfold TrAt at h ⊢
    obtain ⟨r,te,la,lb,xs,ys,e,f1,f2,e1,e2,e3,e4,e5,e6⟩:=h
    exact ⟨r,te,la,lb,xs,ys,e,g _ _ f1 e3,g _ _ f2 e5,s _ _ e1,s _ _ e2,l _ _ f1 e3,TrsAt.to g s l a k.2.1 e4,l _ _ f2 e5,TrsAt.to g s l b k.2.2 e6⟩
theorem TrsAt.to {F G:Addr→Prop} {H H':Hp} (g:∀ b ys,F b→H b=some (.lst ys)→G b) (s:TS H H') (l:∀ b ys,F b→H b=some (.lst ys)→H' b=some (.lst ys)):∀ (x:Trs) {vs:List V},x.ok→TrsAt F H vs x→TrsAt G H' vs x
  | .nil,vs,k,h=>by
    unfold TrsAt at h ⊢
    exact h
  | .cons x r,vs,k,h=>by
    unfold Trs.ok at k
    unfold TrsAt at h ⊢
    obtain ⟨v,ws,e,h1,h2⟩:=h
    exact ⟨v,ws,e,TrAt.to g s l x k.1 h1,TrsAt.to g s l r k.2 h2⟩
end
theorem TrsAt.same {F:Addr→Prop} {H H':Hp} (s:Same H H') {x:Trs} {vs:List V} (k:x.ok) (h:TrsAt F H vs x):TrsAt F H' vs x:=TrsAt.to (fun _ _ f _=>f) (fun _ _ e=>s _ _ e) (fun _ _ _ e=>s _ _ e) x k h
theorem TrsAt.snoc {F:Addr→Prop} {H:Hp} {v:V} {x:Tr} (hx:TrAt F H v x):∀ (r:Trs) {vs:List V},TrsAt F H vs r→TrsAt F H (vs ++ [v]) (r.snoc x)
  | .nil,vs,h=>by
    unfold TrsAt at h
    subst h
    show TrsAt F H [v] (.cons x .nil)
    unfold TrsAt
    exact ⟨v,[],rfl,hx,by unfold TrsAt;rfl⟩
  | .cons y r,vs,h=>by
    unfold TrsAt at h
    obtain ⟨u,ws,rfl,e2,e3⟩:=h
    show TrsAt F H (u :: (ws ++ [v])) (.cons y (r.snoc x))
    unfold TrsAt
    exact ⟨u,ws ++ [v],rfl,e2,TrsAt.snoc hx r e3⟩
theorem TrsAt.len {F:Addr→Prop} {H:Hp}:∀ (r:Trs) {vs:List V},TrsAt F H vs r→vs.length=r.len
  | .nil,vs,h=>by
    unfold TrsAt at h
    subst h
    rfl
  | .cons x r,vs,h=>by
    unfold TrsAt at h
    obtain ⟨u,ws,rfl,e2,e3⟩:=h
    rw [List.length_cons,TrsAt.len r e3];rfl
theorem snoc_tok {x:Tr} (hx:x.ok):∀ (r:Trs),r.ok→(r.snoc x).ok
  | .nil,_=>by show (Trs.cons x .nil).ok;unfold Trs.ok;exact ⟨hx,by unfold Trs.ok;trivial⟩
  | .cons y r,h=>by
    unfold Trs.ok at h
    show (Trs.cons y (r.snoc x)).ok
    unfold Trs.ok
    exact ⟨h.1,snoc_tok hx r h.2⟩
theorem snoc_tlen (x:Tr):∀ (r:Trs),(r.snoc x).len=r.len + 1
  | .nil=>rfl
  | .cons y r=>by show (r.snoc x).len + 1=_;rw [snoc_tlen x r];rfl
theorem snoc_tdeep (x:Tr):∀ (r:Trs),(r.snoc x).deep=max r.deep x.deep
  | .nil=>by show (Trs.cons x .nil).deep=_;simp [Trs.deep]
  | .cons y r=>by
    show (Trs.cons y (r.snoc x)).deep=_
    rw [Trs.deep,Trs.deep,snoc_tdeep x r];exact (Nat.max_assoc _ _ _).symm
mutual
theorem TrO.to {H H':Hp} (s:TS H H'):∀ (x:Tr) {v:V} {os:List Addr},x.ok→(∀ b∈os,∀ ys,H b=some (.lst ys)→H' b=some (.lst ys))→TrO H v x os→TrO H' v x os
  | .row h,v,os,k,l,a=>by
    unfold Tr.ok at k
    unfold TrO at a ⊢
    exact ⟨hd_t k.2 s a.1,a.2⟩
  | .iff T a b,v,os,k,l,h=>by
    unfold Tr.ok at k
    unfold TrO at h ⊢
    obtain ⟨r,te,la,lb,xs,ys,oa,ob,e,e0,e1,e2,e3,e4,e5,e6⟩:=h
    subst e0
    exact ⟨r,te,la,lb,xs,ys,oa,ob,e,rfl,s _ _ e1,s _ _ e2,l la (by simp) _ e3,TrsO.to s a k.2.1 (fun b hb=>l b (by simp [hb])) e4,l lb (by simp) _ e5,TrsO.to s b k.2.2 (fun b hb=>l b (by simp [hb])) e6⟩
theorem TrsO.to {H H':Hp} (s:TS H H'):∀ (x:Trs) {vs:List V} {os:List Addr},x.ok→(∀ b∈os,∀ ys,H b=some (.lst ys)→H' b=some (.lst ys))→TrsO H vs x os→TrsO H' vs x os
  | .nil,vs,os,k,l,h=>by
    unfold TrsO at h ⊢
    exact h
  | .cons x r,vs,os,k,l,h=>by
    unfold Trs.ok at k
    unfold TrsO at h ⊢
    obtain ⟨v,ws,o1,o2,e,e0,h1,h2⟩:=h
    subst e0
    exact ⟨v,ws,o1,o2,e,rfl,TrO.to s x k.1 (fun b hb=>l b (by simp [hb])) h1,TrsO.to s r k.2 (fun b hb=>l b (by simp [hb])) h2⟩
end
theorem TrsO.same {H H':Hp} (s:Same H H') {x:Trs} {vs:List V} {os:List Addr} (k:x.ok) (h:TrsO H vs x os):TrsO H' vs x os:=TrsO.to (fun _ _ e=>s _ _ e) x k (fun _ _ _ e=>s _ _ e) h
mutual
theorem TrO.any {H:Hp}:∀ (x:Tr) {v:V} {os:List Addr},TrO H v x os→TrAt anyA H v x
  | .row h,v,os,a=>by
    unfold TrO at a
    unfold TrAt
    exact a.1
  | .iff T a b,v,os,h=>by
    unfold TrO at h
    unfold TrAt
    obtain ⟨r,te,la,lb,xs,ys,oa,ob,e,e0,e1,e2,e3,e4,e5,e6⟩:=h
    exact ⟨r,te,la,lb,xs,ys,e,trivial,trivial,e1,e2,e3,TrsO.any a e4,e5,TrsO.any b e6⟩
theorem TrsO.any {H:Hp}:∀ (x:Trs) {vs:List V} {os:List Addr},TrsO H vs x os→TrsAt anyA H vs x
  | .nil,vs,os,h=>by
    unfold TrsO at h
    unfold TrsAt
    exact h.1
  | .cons x r,vs,os,h=>by
    unfold TrsO at h
    unfold TrsAt
    obtain ⟨v,ws,o1,o2,e,e0,h1,h2⟩:=h
    exact ⟨v,ws,e,TrO.any x h1,TrsO.any r h2⟩
end
mutual
theorem TrO.alive {H:Hp}:∀ (x:Tr) {v:V} {os:List Addr},TrO H v x os→∀ b∈os,∃ o,H b=some o
  | .row h,v,os,a=>by
    unfold TrO at a
    rw [a.2]
    exact fun b z=>nomatch z
  | .iff T a b,v,os,h=>by
    unfold TrO at h
    obtain ⟨r,te,la,lb,xs,ys,oa,ob,e,e0,e1,e2,e3,e4,e5,e6⟩:=h
    subst e0
    intro c hc
    simp only [List.mem_cons,List.mem_append] at hc
    rcases hc with rfl | rfl | hc | hc
    · exact ⟨_,e3⟩
    · exact ⟨_,e5⟩
    · exact TrsO.alive a e4 c hc
    · exact TrsO.alive b e6 c hc
theorem TrsO.alive {H:Hp}:∀ (x:Trs) {vs:List V} {os:List Addr},TrsO H vs x os→∀ b∈os,∃ o,H b=some o
  | .nil,vs,os,h=>by
    unfold TrsO at h
    rw [h.2]
    exact fun b z=>nomatch z
  | .cons x r,vs,os,h=>by
    unfold TrsO at h
    obtain ⟨v,ws,o1,o2,e,e0,h1,h2⟩:=h
    subst e0
    intro c hc
    rcases List.mem_append.mp hc with hc | hc
    · exact TrO.alive x h1 c hc
    · exact TrsO.alive r h2 c hc
end
theorem TrsO.snoc {H:Hp} {v:V} {x:Tr} {o:List Addr} (hx:TrO H v x o):∀ (r:Trs) {vs:List V} {os:List Addr},TrsO H vs r os→TrsO H (vs ++ [v]) (r.snoc x) (os ++ o)
  | .nil,vs,os,h=>by
    unfold TrsO at h
    obtain ⟨rfl,rfl⟩:=h
    show TrsO H [v] (.cons x .nil) o
    unfold TrsO
    exact ⟨v,[],o,[],rfl,by simp,hx,by unfold TrsO;exact ⟨rfl,rfl⟩⟩
  | .cons y r,vs,os,h=>by
    unfold TrsO at h
    obtain ⟨u,ws,o1,o2,rfl,rfl,e2,e3⟩:=h
    show TrsO H (u :: (ws ++ [v])) (.cons y (r.snoc x)) (o1 ++ o2 ++ o)
    unfold TrsO
    exact ⟨u,ws ++ [v],o1,o2 ++ o,rfl,by simp,e2,TrsO.snoc hx r e3⟩
theorem TrsO.len {H:Hp} {r:Trs} {vs:List V} {os:List Addr} (h:TrsO H vs r os):vs.length=r.len:=TrsAt.len r (TrsO.any r h)
def LvO (H:Hp) (L:Addr) (D:Trs) (tail:List V) (os:List Addr):Prop:=∃ xs,H L=some (.lst (xs ++ tail))∧TrsO H xs D os
def ZO (H:Hp) (rl:Addr):List Fm→Addr→Trs→List V→List V→List Addr→List Addr→Prop
  | [],inn,D,tail,bs,sp,os=>bs=[]∧inn=rl∧sp=[rl]∧LvO H rl D tail os
  | f :: fs,inn,D,tail,bs,sp,os=>∃ o1 o2 o3,os=o1 ++ (o2 ++ o3)∧LvO H inn D tail o1∧∃ r te la lb up bs' sp',bs=.ref r :: bs'∧sp=la :: lb :: sp'∧H r=some (.tup [.str "if",.ref te,.ref la,.ref lb])∧H te=some (.tup (pst f.T)) ∧
    ((f.c=true∧inn=lb∧LvO H la f.a [] o2)∨(f.c=false∧inn=la∧H lb=some (.lst [])∧o2=[]))∧ZO H rl fs up f.up [.ref r] bs' sp' o3
def gdZ (n:Nat):Trs→List Fm→Prop
  | D,[]=>D.ok∧D.len≤n∧D.deep≤5
  | D,f :: fs=>(D.ok∧D.len≤n∧D.deep + (fs.length + 1)≤5)∧(f.a.ok∧f.a.len≤n∧f.a.deep + (fs.length + 1)≤5)∧LnOk (.iff f.T)∧gdZ n f.up fs
theorem gdZ.mono {n m:Nat} (h:n≤m):∀ (fs:List Fm) {D:Trs},gdZ n D fs→gdZ m D fs
  | [],D,g=>⟨g.1,Nat.le_trans g.2.1 h,g.2.2⟩
  | f :: fs,D,g=>⟨⟨g.1.1,Nat.le_trans g.1.2.1 h,g.1.2.2⟩,⟨g.2.1.1,Nat.le_trans g.2.1.2.1 h,g.2.1.2.2⟩,g.2.2.1,gdZ.mono h fs g.2.2.2⟩
theorem gdZ.top {n:Nat}:∀ (fs:List Fm) {D:Trs},gdZ n D fs→D.ok∧D.len≤n∧D.deep + fs.length≤5
  | [],D,g=>g
  | f :: fs,D,g=>g.1
theorem gdZ.put {n:Nat} {D':Trs} (fs:List Fm) {D:Trs} (g:gdZ n D fs) (ok:D'.ok) (ln:D'.len≤n) (dp:D'.deep + fs.length≤5):gdZ n D' fs:=by
  cases fs with
  | nil=>exact ⟨ok,ln,dp⟩
  | cons f fs=>exact ⟨⟨ok,ln,dp⟩,g.2⟩
theorem stp_gd {n:Nat} {D D':Trs} {fs fs':List Fm} {h:Hd} (g:gdZ n D fs) (L:LnOk h) (e:stp D fs h=some (D',fs')):gdZ (n + 1) D' fs':=by
  have g1:=gdZ.mono (Nat.le_succ n) fs g
  have tp:=gdZ.top fs g
  have plain:h.plain→stp D fs h=some (D.snoc (.row h),fs)→gdZ (n + 1) D' fs':=fun p e'=>by
    rw [e'] at e
    cases e
    exact gdZ.put fs g1 (snoc_tok (by unfold Tr.ok;exact ⟨L,p⟩) D tp.1) (by rw [snoc_tlen];lia) (by rw [snoc_tdeep,Tr.deep];lia)
  cases h with
  | take sh T sl=>exact plain trivial rfl
  | give sh T U=>exact plain trivial rfl
  | lt sl T=>exact plain trivial rfl
  | say T=>exact plain trivial rfl
  | off T=>exact plain trivial rfl
  | iff T =>
    have e:(if fs.length < 5 then some (Trs.nil,(⟨T,false,.nil,D⟩:Fm) :: fs) else none)=some (D',fs'):=e
    split at e
    · cases e
      exact ⟨⟨by unfold Trs.ok;trivial,Nat.zero_le _,by rw [Trs.deep];lia⟩,⟨by unfold Trs.ok;trivial,Nat.zero_le _,by rw [Trs.deep];lia⟩,L,g1⟩
    · cases e
  | els =>
    cases fs with
    | nil=>cases e
    | cons f fs =>
      have e:(if f.c=false then some (Trs.nil,(⟨f.T,true,D,f.up⟩:Fm) :: fs) else none)=some (D',fs'):=e
      split at e
      · cases e
        exact ⟨⟨by unfold Trs.ok;trivial,Nat.zero_le _,by rw [Trs.deep];have:=tp.2.2;simp at this;lia⟩,g1.1,g1.2.2⟩
      · cases e
  | nd =>
    cases fs with
    | nil=>cases e
    | cons f fs =>
      have e:some (f.up.snoc (.iff f.T (if f.c=true then f.a else D) (if f.c=true then D else .nil)),fs)=some (D',fs'):=e
      obtain ⟨rfl,rfl⟩:f.up.snoc (.iff f.T (if f.c=true then f.a else D) (if f.c=true then D else .nil))=D'∧fs=fs':=by
        have:=Option.some.inj e
        exact ⟨congrArg Prod.fst this,congrArg Prod.snd this⟩
      obtain ⟨⟨o1,l1,d1⟩,⟨o2,l2,d2⟩,L2,g2⟩:=g
      have tp2:=gdZ.top fs g2
      have okx:(Tr.iff f.T (if f.c=true then f.a else D) (if f.c=true then D else .nil)).ok:=by
        unfold Tr.ok
        refine ⟨L2,?_,?_⟩
        · split
          · exact o2
          · exact o1
        · split
          · exact o1
          · unfold Trs.ok;trivial
      have dpx:(Tr.iff f.T (if f.c=true then f.a else D) (if f.c=true then D else .nil)).deep + fs.length≤5:=by
        rw [Tr.deep]
        split
        · lia
        · rw [Trs.deep];lia
      exact gdZ.put fs (gdZ.mono (Nat.le_succ n) fs g2) (snoc_tok okx _ tp2.1) (by rw [snoc_tlen];lia) (by rw [snoc_tdeep];lia)
theorem LvO.to {H H':Hp} {L:Addr} {D:Trs} {tail:List V} {os:List Addr} (k:D.ok) (s:TS H H') (l:∀ b∈os,∀ ys,H b=some (.lst ys)→H' b=some (.lst ys)) (p:∀ ys,H L=some (.lst ys)→H' L=some (.lst ys)) (h:LvO H L D tail os):LvO H' L D tail os:=by
  obtain ⟨xs,h1,h2⟩:=h
  exact ⟨xs,p _ h1,TrsO.to s D k l h2⟩
theorem ZO.to {H H':Hp} {rl:Addr} (s:TS H H'):∀ (fs:List Fm) {n:Nat} {inn:Addr} {D:Trs} {tail bs:List V} {sp os:List Addr},gdZ n D fs→(∀ a∈sp ++ os,∀ ys,H a=some (.lst ys)→H' a=some (.lst ys))→ZO H rl fs inn D tail bs sp os→ZO H' rl fs inn D tail bs sp os
  | [],n,inn,D,tail,bs,sp,os,k,p,h=>by
    obtain ⟨e1,e2,e3,h⟩:=h
    subst e3
    exact ⟨e1,e2,rfl,h.to k.1 s (fun b hb=>p b (by simp [hb])) (p rl (by simp))⟩
  | f :: fs,n,inn,D,tail,bs,sp,os,k,p,h=>by
    obtain ⟨o1,o2,o3,e0,h1,r,te,la,lb,up,bs',sp',e1,e2,e3,e4,e5,e6⟩:=h
    subst e2 e0
    have pi:∀ ys,H inn=some (.lst ys)→H' inn=some (.lst ys):=by
      rcases e5 with ⟨_,e,_⟩ | ⟨_,e,_⟩ <;> rw [e]
      · exact p lb (by simp)
      · exact p la (by simp)
    refine ⟨o1,o2,o3,rfl,h1.to k.1.1 s (fun b hb=>p b (by simp [hb])) pi,r,te,la,lb,up,bs',sp',e1,rfl,s _ _ e3,s _ _ e4,?_,ZO.to s fs k.2.2.2 (fun a ha=>p a (by simp only [List.mem_append,List.mem_cons] at ha ⊢;rcases ha with ha | ha <;> simp [ha])) e6⟩
    rcases e5 with ⟨c1,c2,c3⟩ | ⟨c1,c2,c3,c4⟩
    · exact .inl ⟨c1,c2,c3.to k.2.1.1 s (fun b hb=>p b (by simp [hb])) (p la (by simp))⟩
    · exact .inr ⟨c1,c2,p lb (by simp) _ c3,c4⟩
theorem ZO.inn {H:Hp} {rl:Addr}:∀ (fs:List Fm) {inn:Addr} {D:Trs} {tail bs:List V} {sp os:List Addr},ZO H rl fs inn D tail bs sp os→inn∈sp∧(∃ o,LvO H inn D tail o)∧bs.length=fs.length
  | [],inn,D,tail,bs,sp,os,h=>by
    obtain ⟨e1,e2,e3,h⟩:=h
    subst e1 e2 e3
    exact ⟨by simp,⟨_,h⟩,rfl⟩
  | f :: fs,inn,D,tail,bs,sp,os,h=>by
    obtain ⟨o1,o2,o3,e0,h1,r,te,la,lb,up,bs',sp',e1,e2,e3,e4,e5,e6⟩:=h
    have:=ZO.inn fs e6
    refine ⟨?_,⟨_,h1⟩,by rw [e1,List.length_cons,this.2.2];rfl⟩
    rw [e2]
    rcases e5 with ⟨_,e,_⟩ | ⟨_,e,_⟩ <;> rw [e] <;> simp
theorem ZO.tail {H H':Hp} {rl:Addr} (s:TS H H') {fs:List Fm} {n:Nat} {inn:Addr} {D:Trs} {bs:List V} {sp os:List Addr} {xs:List V} {v:V} (k:gdZ n D fs) (nd:(sp ++ os).Nodup) (p:∀ a∈sp ++ os,a≠inn→∀ ys,H a=some (.lst ys)→H' a=some (.lst ys)) (hx:H inn=some (.lst xs)) (hy:H' inn=some (.lst (xs ++ [v]))) (h:ZO H rl fs inn D [] bs sp os):ZO H' rl fs inn D [v] bs sp os:=by
  have mi:=(ZO.inn fs h).1
  obtain ⟨d1,d2,d3⟩:=List.nodup_append.mp nd
  have po:∀ a∈os,∀ ys,H a=some (.lst ys)→H' a=some (.lst ys):=fun a ha=>p a (by simp [ha]) (fun z=>d3 inn mi a ha z.symm)
  have lv:∀ {D:Trs} {o:List Addr},D.ok→(∀ a∈o,a∈os)→LvO H inn D [] o→LvO H' inn D [v] o:=fun kd sub h=>by
    obtain ⟨ys,h1,h2⟩:=h
    rw [List.append_nil] at h1
    rw [h1] at hx
    cases hx
    exact ⟨_,hy,TrsO.to s _ kd (fun a ha=>po a (sub a ha)) h2⟩
  cases fs with
  | nil =>
    obtain ⟨e1,e2,e3,h⟩:=h
    subst e2
    exact ⟨e1,rfl,e3,lv k.1 (fun _ z=>z) h⟩
  | cons f fs =>
    obtain ⟨o1,o2,o3,e0,h1,r,te,la,lb,up,bs',sp',e1,e2,e3,e4,e5,e6⟩:=h
    subst e2 e0
    rw [List.nodup_cons,List.nodup_cons] at d1
    obtain ⟨n1,n2,n3⟩:=d1
    have nab:la≠lb:=fun z=>n1 (by rw [z];simp)
    have ni:inn ∉ sp':=by
      rcases e5 with ⟨_,e,_⟩ | ⟨_,e,_⟩ <;> rw [e]
      · exact n2
      · exact fun z=>n1 (by simp [z])
    refine ⟨o1,o2,o3,rfl,lv k.1.1 (fun a ha=>by simp [ha]) h1,r,te,la,lb,up,bs',sp',e1,rfl,s _ _ e3,s _ _ e4,?_,ZO.to s fs k.2.2.2 (fun a ha=>?_) e6⟩
    · rcases e5 with ⟨c1,c2,c3⟩ | ⟨c1,c2,c3,c4⟩
      · exact .inl ⟨c1,c2,c3.to k.2.1.1 s (fun a ha=>po a (by simp [ha])) (p la (by simp) (by rw [c2];exact nab))⟩
      · exact .inr ⟨c1,c2,p lb (by simp) (by rw [c2];exact Ne.symm nab) _ c3,c4⟩
    · rcases List.mem_append.mp ha with ha | ha
      · exact p a (by simp [ha]) (fun z=>ni (z ▸ ha))
      · exact po a (by simp [ha])
theorem ZO.snoc {H:Hp} {rl:Addr} {fs:List Fm} {inn:Addr} {D:Trs} {bs:List V} {sp os o:List Addr} {v:V} {x:Tr} (hx:TrO H v x o) (h:ZO H rl fs inn D [v] bs sp os):∃ os',os'.Perm (os ++ o)∧ZO H rl fs inn (D.snoc x) [] bs sp os':=by
  have lv:∀ {L:Addr} {oo:List Addr},LvO H L D [v] oo→LvO H L (D.snoc x) [] (oo ++ o):=fun h=>by
    obtain ⟨ys,h1,h2⟩:=h
    exact ⟨ys ++ [v],by rw [List.append_nil];exact h1,TrsO.snoc hx D h2⟩
  cases fs with
  | nil =>
    obtain ⟨e1,e2,e3,h⟩:=h
    exact ⟨os ++ o,.refl _,e1,e2,e3,lv h⟩
  | cons f fs =>
    obtain ⟨o1,o2,o3,e0,h1,h2⟩:=h
    refine ⟨(o1 ++ o) ++ (o2 ++ o3),?_,o1 ++ o,o2,o3,rfl,lv h1,h2⟩
    rw [e0,List.append_assoc,List.append_assoc]
    exact List.Perm.append_left o1 List.perm_append_comm
theorem ZO.alive {H:Hp} {rl:Addr}:∀ (fs:List Fm) {inn:Addr} {D:Trs} {tail bs:List V} {sp os:List Addr},ZO H rl fs inn D tail bs sp os→∀ a∈sp ++ os,∃ o,H a=some o
  | [],inn,D,tail,bs,sp,os,h=>by
    obtain ⟨e1,e2,e3,xs,h1,h2⟩:=h
    subst e3
    intro a ha
    rcases List.mem_append.mp ha with ha | ha
    · rw [List.mem_singleton.mp ha];exact ⟨_,h1⟩
    · exact TrsO.alive D h2 a ha
  | f :: fs,inn,D,tail,bs,sp,os,h=>by
    obtain ⟨o1,o2,o3,e0,⟨xs,h1,h2⟩,r,te,la,lb,up,bs',sp',e1,e2,e3,e4,e5,e6⟩:=h
    subst e2 e0
    intro a ha
    simp only [List.mem_cons,List.mem_append] at ha
    rcases ha with (rfl | rfl | ha) | ha | ha | ha
    · rcases e5 with ⟨_,_,⟨ys,h3,_⟩⟩ | ⟨_,e,_⟩
      · exact ⟨_,h3⟩
      · rw [← e];exact ⟨_,h1⟩
    · rcases e5 with ⟨_,e,_⟩ | ⟨_,_,h3,_⟩
      · rw [← e];exact ⟨_,h1⟩
      · exact ⟨_,h3⟩
    · exact ZO.alive fs e6 a (by simp [ha])
    · exact TrsO.alive D h2 a ha
    · rcases e5 with ⟨_,_,⟨ys,_,h3⟩⟩ | ⟨_,_,_,h3⟩
      · exact TrsO.alive f.a h3 a ha
      · rw [h3] at ha;cases ha
    · exact ZO.alive fs e6 a (by simp [ha])
theorem rdp_Reading_turns {x:Addr} {n:V} {dx rl bl tl:Addr} {blocks:List V} {turned:List Bool} {b:V} (F:RdF K t) (R:RdAt t H x dx rl bl tl (blocks ++ [b]) (turned ++ [false])) (q:∀ H1,Same H H1→Q .non (upd H1 tl (.lst ((turned ++ [true]).map V.bl)))) :
    rd_Reading_turns K t { nx:=fun _ H'=>Q .non H',rt:=Q } (L2.start ["self","number"] [.ref x,n]) H:=by
  simp only [rd_Reading_turns,tFld,sLPut,L2.start,rEqNil,tSeq,tNext,tNever,tOp,tUn,tVar,tC,tLst,tNil,tIfS,tOr,tTest,tB,rIxL,rU,List.map,List.replicate,List.length,List.append,jqa,jqb,jqc,jqd,jqe,jqf,jqg,jqh,jqi,jqj,jqk,jql,jqm,jqn,and_true,true_and,and_assoc,jqo,jqp,jqq,Nat.reduceSub,Nat.reduceAdd,jqr,jqs,jqt,Int.reduceToNat,Int.reducePow,Int.reduceNeg,Int.reduceMul,Int.reduceAdd,if_true,ite_true,jqu,ite_false,if_false]
  refine ⟨_,_,_,R.ix,F.cl,F.n2,_,rfl,Nat.zero_le _,fun p hp=>?_⟩
  have s1:=isV (o:=HO.lst []) p hp
  refine ⟨bl,rfl,_,SqL.of (s1 _ _ R.hb),SqL.of upd_same,?_⟩
  rw [if_neg (by simp)]
  have ht1:=s1 _ _ R.ht
  rw [List.map_append] at ht1
  refine ⟨_,_,_,s1 _ _ R.ix,F.cl,F.n3,_,rfl,tl,rfl,_,SqL.of ht1,_,at_lst,_,rfl,?_⟩
  rw [if_neg (by decide)]
  refine ⟨_,_,_,s1 _ _ R.ix,F.cl,F.n3,_,rfl,tl,rfl,_,ht1,turned.length,?_,by decide,by decide,?_⟩
  · unfold ixN
    rw [if_neg (by decide),if_pos (by simp;lia)]
    simp
    lia
  · have e:(turned.map V.bl ++ [false].map V.bl).set turned.length (V.bl true)=(turned ++ [true]).map V.bl:=by
      rw [List.map_append,List.set_append,if_neg (by simp)]
      simp
    rw [e]
    exact q _ s1
theorem rdp_Reading_reads {x:Addr} {v n:V} {dx rl bl tl:Addr} {blocks:List V} {turned:List Bool} {hd:Hd} {F:Addr→Prop} (R:RdAt t H x dx rl bl tl blocks turned) (h2:HdAt F H v hd)
    (h3:(hd=.els∧∃ bs b cs,blocks=bs ++ [b]∧turned=cs ++ [false]∧∀ H1,Same H H1→Q .non (upd H1 tl (.lst ((cs ++ [true]).map V.bl)))) ∨
   (hd=.nd∧∃ bs b cs c,blocks=bs ++ [b]∧turned=cs ++ [c]∧∀ H1,Same H H1→Q .non (upd (upd H1 bl (.lst bs)) tl (.lst (cs.map V.bl)))) ∨
   ((∃ T,hd=.iff T)∧∃ inn zs,Inn H rl blocks turned inn∧H inn=some (.lst zs)∧zs.length≤1000∧inn≠bl∧inn≠tl∧blocks.length < 5 ∧
     ∀ H1,Same H H1→Q .non (upd (upd (upd H1 inn (.lst (zs ++ [v]))) bl (.lst (blocks ++ [v]))) tl (.lst ((turned ++ [false]).map V.bl)))) ∨
   (hd.plain∧∃ inn zs,Inn H rl blocks turned inn∧H inn=some (.lst zs)∧zs.length≤1000∧∀ H1,Same H H1→Q .non (upd H1 inn (.lst (zs ++ [v]))))) :
    rd_Reading_reads K t { nx:=fun _ H'=>Q .non H',rt:=Q } (L2.start ["self","row","number"] [.ref x,v,n]) H:=by
  obtain ⟨r,xs,w,rfl,hr,ha,i1,i2,i3⟩:=hd_head h2
  simp only [rd_Reading_reads,sp_Reading_innermost,sp_Reading_begins,sp_Reading_shuts,sp_Reading_turns,tMeth,L2.start,r_mt_append,rAppend,rIxT,tDrop,tOp,tVar,tC,tCons,tNil,tIfS,tTest,tBM,tyV,rIxT,rEq,scal,List.map,List.replicate,List.length,List.append,jqa,jqb,jqc,jqd,jqe,jqf,jqg,jqh,jqi,jqj,jqk,jql,jqm,jqn,and_true,true_and,and_assoc,jqo,jqp,jqq,Nat.reduceSub,Nat.reduceAdd,jqr,jqs,jqt,Int.reduceToNat,Int.reducePow,Int.reduceNeg,Int.reduceMul,Int.reduceAdd,if_true,ite_true,jqu,ite_false,if_false]
  refine ⟨_,SqT.of hr,_,ha,rfl,?_⟩
  rcases h3 with ⟨rfl,bs,b,cs,rfl,rfl,q⟩ | ⟨rfl,bs,b,cs,c,rfl,rfl,q⟩ | ⟨hI,inn,zs,hi,hz,lz,n1,n2,l5,q⟩ | ⟨hP,inn,zs,hi,hz,lz,q⟩
  · rw [if_pos (congrArg V.str (i1.mpr rfl))]
    exact ⟨_,_,R.ix,rfl,dx,rl,bl,tl,bs,cs,b,R,q⟩
  · rw [if_neg (fun z=>nomatch i1.mp (V.str.inj z))]
    refine ⟨_,SqT.of hr,_,ha,rfl,?_⟩
    rw [if_pos (congrArg V.str (i2.mpr rfl))]
    exact ⟨_,_,R.ix,rfl,dx,rl,bl,tl,bs,cs,b,c,R,q⟩
  · rw [if_neg (fun z=>by obtain ⟨T,e⟩:=hI;have:=i1.mp (V.str.inj z);rw [e] at this;cases this)]
    refine ⟨_,SqT.of hr,_,ha,rfl,?_⟩
    rw [if_neg (fun z=>by obtain ⟨T,e⟩:=hI;have:=i2.mp (V.str.inj z);rw [e] at this;cases this)]
    refine ⟨_,SqT.of hr,_,ha,rfl,?_⟩
    rw [if_pos (congrArg V.str (i3.mpr hI))]
    exact ⟨_,_,R.ix,rfl,dx,rl,bl,tl,blocks,turned,R,inn,hi,zs,hz,lz,n1,n2,l5,q⟩
  · rw [if_neg (fun z=>by have:=i1.mp (V.str.inj z);rw [this] at hP;exact hP)]
    refine ⟨_,SqT.of hr,_,ha,rfl,?_⟩
    rw [if_neg (fun z=>by have:=i2.mp (V.str.inj z);rw [this] at hP;exact hP)]
    refine ⟨_,SqT.of hr,_,ha,rfl,?_⟩
    rw [if_neg (fun z=>by obtain ⟨T,e⟩:=i3.mp (V.str.inj z);rw [e] at hP;exact hP)]
    exact ⟨_,_,R.ix,rfl,dx,rl,bl,tl,blocks,turned,R,inn,hi,fun H1 s1=>⟨.inl ⟨_,SqL.of (s1 _ _ hz)⟩,zs,s1 _ _ hz,Nat.lt_of_le_of_lt (by lia:zs.length≤1000) (by decide),q H1 s1⟩⟩
theorem run_app (b:List Hd):∀ (a:List Hd) (D:Trs) (fs:List Fm),run D fs (a ++ b)=match run D fs a with | some z=>run z.1 z.2 b | none=>none
  | [],D,fs=>rfl
  | h :: a,D,fs=>by
    show (match stp D fs h with | some z=>run z.1 z.2 (a ++ b) | none=>none)=match (match stp D fs h with | some z=>run z.1 z.2 a | none=>none) with | some z=>run z.1 z.2 b | none=>none
    cases stp D fs h with
    | none=>rfl
    | some z=>exact run_app b a z.1 z.2
theorem run_step {ts:List Hd} {D D0:Trs} {fs fs0:List Fm} {i:Nat} {h:Hd} (rn:run .nil [] ts=some (D0,fs0)) (e:run .nil [] (ts.take i)=some (D,fs)) (hi:ts[i]?=some h):∃ D' fs',stp D fs h=some (D',fs')∧run .nil [] (ts.take (i + 1))=some (D',fs'):=by
  have d:ts=ts.take i ++ (h :: ts.drop (i + 1)):=by
    have hl:=(List.getElem?_eq_some_iff.mp hi).1
    have:=List.drop_eq_getElem_cons hl
    rw [(List.getElem?_eq_some_iff.mp hi).2] at this
    rw [← this,List.take_append_drop]
  rw [d,run_app,e] at rn
  have rn:(match stp D fs h with | some z=>run z.1 z.2 (ts.drop (i + 1)) | none=>none)=some (D0,fs0):=rn
  cases s:stp D fs h with
  | none=>rw [s] at rn;cases rn
  | some z =>
    refine ⟨z.1,z.2,rfl,?_⟩
    rw [List.take_add_one,hi,run_app,e]
    show (match stp D fs h with | some z=>run z.1 z.2 [] | none=>none)=_
    rw [s];rfl
theorem ts_upd {H:Hp} {u:Addr} {xs ys:List V} (h:H u=some (.lst xs)):TS H (upd H u (.lst ys)):=fun b zs e=>by
  rw [upd_ne (ne_of e h (fun z=>nomatch z))];exact e
theorem TS.trans {H H1 H2:Hp} (a:TS H H1) (b:TS H1 H2):TS H H2:=fun x ys e=>b _ _ (a _ _ e)
structure RZ (t:Adr) (H0 H:Hp) (rd dx rl bl tl:Addr) (i:Nat) (D:Trs) (fs:List Fm) (inn:Addr) (bs:List V) (sp os:List Addr):Prop where
  sm:Same H0 H
  gd:gdZ i D fs
  ra:RdAt t H rd dx rl bl tl bs.reverse (fs.map Fm.c).reverse
  za:ZO H rl fs inn D [] bs sp os
  nd:(sp ++ os).Nodup
  sp:∀ a∈sp ++ os,H0 a=none∧a≠bl∧a≠tl
  f2:H0 bl=none
  f3:H0 tl=none
theorem RZ.same {H0 H H':Hp} {rd dx rl bl tl:Addr} {i:Nat} {D:Trs} {fs:List Fm} {inn:Addr} {bs:List V} {sp os:List Addr} (Z:RZ t H0 H rd dx rl bl tl i D fs inn bs sp os) (s:Same H H'):RZ t H0 H' rd dx rl bl tl i D fs inn bs sp os :=
  ⟨Z.sm.trans s,Z.gd,Z.ra.same s,ZO.to (fun _ _ e=>s _ _ e) fs Z.gd (fun _ _ _ e=>s _ _ e) Z.za,Z.nd,Z.sp,Z.f2,Z.f3⟩
theorem RZ.inn {H0 H:Hp} {rd dx rl bl tl:Addr} {i:Nat} {D:Trs} {fs:List Fm} {inn:Addr} {bs:List V} {sp os:List Addr} (Z:RZ t H0 H rd dx rl bl tl i D fs inn bs sp os):Inn H rl bs.reverse (fs.map Fm.c).reverse inn∧inn∈sp∧∃ zs,H inn=some (.lst zs)∧zs.length≤i:=by
  obtain ⟨h1,⟨_,xs,h2,h3⟩,h4⟩:=ZO.inn fs Z.za
  rw [List.append_nil] at h2
  refine ⟨?_,h1,xs,h2,by rw [TrsO.len h3];exact (gdZ.top fs Z.gd).2.1⟩
  have za:=Z.za
  cases fs with
  | nil=>exact .inl ⟨by rw [za.1];rfl,za.2.1⟩
  | cons f fs =>
    obtain ⟨o1,o2,o3,e0,_,r,te,la,lb,up,bs',sp',e1,e2,e3,e4,e5,e6⟩:=za
    refine .inr ⟨bs'.reverse,r,_,_,la,lb,(fs.map Fm.c).reverse,f.c,by rw [e1,List.reverse_cons],by rw [List.map_cons,List.reverse_cons],e3,?_⟩
    rcases e5 with ⟨c1,c2,_⟩ | ⟨c1,c2,_⟩
    · rw [c2,if_pos c1]
    · rw [c2,if_neg (by rw [c1];decide)]
theorem upd_fr {H:Hp} {u b:Addr} {o:HO} {ys:List V} (n:b≠u) (e:H b=some (.lst ys)):upd H u o b=some (.lst ys):=by rw [upd_ne n];exact e
theorem RZ.plain {H0 H:Hp} {rd dx rl bl tl:Addr} {i:Nat} {D D':Trs} {fs fs':List Fm} {inn:Addr} {bs:List V} {sp os:List Addr} {zs:List V} {v:V} {h:Hd} (Z:RZ t H0 H rd dx rl bl tl i D fs inn bs sp os) (hz:H inn=some (.lst zs)) (p:h.plain) (L:LnOk h) (hv:HdAt anyA H v h) (e:stp D fs h=some (D',fs')):∃ os',RZ t H0 (upd H inn (.lst (zs ++ [v]))) rd dx rl bl tl (i + 1) D' fs' inn bs sp os':=by
  have mi:=Z.inn.2.1
  have si:=Z.sp inn (List.mem_append_left _ mi)
  have e':D'=D.snoc (.row h)∧fs'=fs:=by
    cases h <;> first | exact p.elim | (cases e;exact ⟨rfl,rfl⟩)
  have g:=stp_gd Z.gd L e
  obtain ⟨rfl,rfl⟩:=e'
  have T:=ts_upd (ys:=zs ++ [v]) hz
  have z1:=ZO.tail T Z.gd Z.nd (fun a _ n ys e=>upd_fr n e) hz upd_same Z.za
  obtain ⟨os',pm,z2⟩:=ZO.snoc (x:=.row h) (o:=[]) (v:=v) (by unfold TrO;exact ⟨hd_t p T hv,rfl⟩) z1
  rw [List.append_nil] at pm
  refine ⟨os',same_upd Z.sm si.1,g,⟨?_,?_,?_,Z.ra.n1,Z.ra.n2,Z.ra.n3,Z.ra.le,Z.ra.l5⟩,z2,((pm.append_left sp).nodup_iff).mpr Z.nd,fun a ha=>Z.sp a (((pm.append_left sp).mem_iff).mp ha),Z.f2,Z.f3⟩
  · rw [upd_ne (ne_of Z.ra.ix hz (fun z=>nomatch z))];exact Z.ra.ix
  · exact upd_fr (Ne.symm si.2.1) Z.ra.hb
  · exact upd_fr (Ne.symm si.2.2) Z.ra.ht
theorem RZ.alive {H0 H:Hp} {rd dx rl bl tl:Addr} {i:Nat} {D:Trs} {fs:List Fm} {inn:Addr} {bs:List V} {sp os:List Addr} (Z:RZ t H0 H rd dx rl bl tl i D fs inn bs sp os) {a:Addr} (ha:a∈sp ++ os):∃ o,H a=some o:=ZO.alive fs Z.za a ha
theorem RZ.iff {H0 Hf H:Hp} {rd dx rl bl tl:Addr} {i:Nat} {D D':Trs} {fs fs':List Fm} {inn:Addr} {bs:List V} {sp os:List Addr} {zs:List V} {v:V} {T:Tw} (Zf:RZ t H0 Hf rd dx rl bl tl i D fs inn bs sp os) (s:Same Hf H) (hz:H inn=some (.lst zs)) (L:LnOk (.iff T)) (hv:HdAt (fun b=>Hf b=none) H v (.iff T)) (e:stp D fs (.iff T)=some (D',fs')):∃ inn' bs' sp' os',RZ t H0 (upd (upd (upd H inn (.lst (zs ++ [v]))) bl (.lst (bs.reverse ++ [v]))) tl (.lst (((fs.map Fm.c).reverse ++ [false]).map V.bl))) rd dx rl bl tl (i + 1) D' fs' inn' bs' sp' os':=by
  have Z:=Zf.same s
  have mi:=Z.inn.2.1
  have si:=Z.sp inn (List.mem_append_left _ mi)
  have g:=stp_gd Z.gd L e
  obtain ⟨r,te,la,lb,rfl,hr,hte,hla,hlb,fa,fb,nab⟩:=hv
  have e:(if fs.length < 5 then some (Trs.nil,(⟨T,false,.nil,D⟩:Fm) :: fs) else none)=some (D',fs'):=e
  split at e
  · rename_i l5
    cases e
    have hb1:upd H inn (.lst (zs ++ [V.ref r])) bl=some (.lst bs.reverse):=upd_fr (Ne.symm si.2.1) Z.ra.hb
    have ht1:upd (upd H inn (.lst (zs ++ [V.ref r]))) bl (.lst (bs.reverse ++ [V.ref r])) tl=some (.lst ((fs.map Fm.c).reverse.map V.bl)):=upd_fr (Ne.symm Z.ra.n3) (upd_fr (Ne.symm si.2.2) Z.ra.ht)
    have T1:=ts_upd (ys:=zs ++ [V.ref r]) hz
    have T2:=ts_upd (ys:=bs.reverse ++ [V.ref r]) hb1
    have T3:=ts_upd (ys:=((fs.map Fm.c).reverse ++ [false]).map V.bl) ht1
    have TT:=T1.trans (T2.trans T3)
    have al:∀ {a:Addr},a∈sp ++ os→∃ o,Hf a=some o:=fun {a} ha=>Zf.alive ha
    have na:la ∉ sp ++ os:=fun z=>by obtain ⟨o,h⟩:=al z;rw [fa] at h;cases h
    have nb:lb ∉ sp ++ os:=fun z=>by obtain ⟨o,h⟩:=al z;rw [fb] at h;cases h
    have nA:la≠bl∧la≠tl:=⟨fresh_ne Zf.ra.hb fa,fresh_ne Zf.ra.ht fa⟩
    have nB:lb≠bl∧lb≠tl:=⟨fresh_ne Zf.ra.hb fb,fresh_ne Zf.ra.ht fb⟩
    have ia:la≠inn:=fun z=>na (z ▸ List.mem_append_left _ mi)
    have ib:lb≠inn:=fun z=>nb (z ▸ List.mem_append_left _ mi)
    have ix:upd (upd (upd H inn (.lst (zs ++ [V.ref r]))) bl (.lst (bs.reverse ++ [V.ref r]))) tl (.lst (((fs.map Fm.c).reverse ++ [false]).map V.bl)) rd=H rd:=by
      rw [upd_ne (ne_of Z.ra.ix Z.ra.ht (fun z=>nomatch z)),upd_ne (ne_of Z.ra.ix Z.ra.hb (fun z=>nomatch z)),upd_ne (ne_of Z.ra.ix hz (fun z=>nomatch z))]
    have le:=(ZO.inn fs Z.za).2.2
    refine ⟨la,.ref r :: bs,la :: lb :: sp,os,same_upd (same_upd (same_upd Z.sm si.1) Z.f2) Z.f3,g,⟨?_,?_,?_,Z.ra.n1,Z.ra.n2,Z.ra.n3,?_,?_⟩,?_,?_,?_,Z.f2,Z.f3⟩
    · rw [ix];exact Z.ra.ix
    · rw [upd_ne Z.ra.n3,upd_same,List.reverse_cons]
    · rw [upd_same,List.map_cons,List.reverse_cons]
    · simp [le]
    · simp;lia
    · refine ⟨[],[],os,rfl,⟨[],?_,by unfold TrsO;exact ⟨rfl,rfl⟩⟩,r,te,la,lb,inn,bs,sp,rfl,rfl,TT _ _ hr,TT _ _ hte,.inr ⟨rfl,rfl,?_,rfl⟩,?_⟩
      · exact upd_fr nA.2 (upd_fr nA.1 (upd_fr ia hla))
      · exact upd_fr nB.2 (upd_fr nB.1 (upd_fr ib hlb))
      · refine ZO.tail TT Z.gd Z.nd (fun a ha n ys e=>?_) hz ?_ Z.za
        · exact upd_fr (Z.sp a ha).2.2 (upd_fr (Z.sp a ha).2.1 (upd_fr n e))
        · exact upd_fr si.2.2 (upd_fr si.2.1 upd_same)
    · show (la :: lb :: (sp ++ os)).Nodup
      rw [List.nodup_cons,List.nodup_cons]
      exact ⟨by simp only [List.mem_cons,not_or];exact ⟨nab,na⟩,nb,Z.nd⟩
    · intro a ha
      have ha:a∈la :: lb :: (sp ++ os):=ha
      rw [List.mem_cons,List.mem_cons] at ha
      rcases ha with rfl | rfl | ha
      · exact ⟨fresh_of Zf.sm fa,nA⟩
      · exact ⟨fresh_of Zf.sm fb,nB⟩
      · exact Z.sp a ha
  · cases e
theorem RZ.els {H0 H:Hp} {rd dx rl bl tl:Addr} {i:Nat} {D D':Trs} {fs fs':List Fm} {inn:Addr} {bs:List V} {sp os:List Addr} (Z:RZ t H0 H rd dx rl bl tl i D fs inn bs sp os) (L:LnOk .els) (e:stp D fs .els=some (D',fs')):∃ bs1 b cs,bs.reverse=bs1 ++ [b]∧(fs.map Fm.c).reverse=cs ++ [false]∧∃ inn',RZ t H0 (upd H tl (.lst ((cs ++ [true]).map V.bl))) rd dx rl bl tl (i + 1) D' fs' inn' bs sp os:=by
  have g:=stp_gd Z.gd L e
  cases fs with
  | nil=>cases e
  | cons f fs =>
    have e:(if f.c=false then some (Trs.nil,(⟨f.T,true,D,f.up⟩:Fm) :: fs) else none)=some (D',fs'):=e
    split at e
    · rename_i fc
      cases e
      have za:=Z.za
      obtain ⟨o1,o2,o3,e0,h1,r,te,la,lb,up,bs',sp',e1,e2,e3,e4,e5,e6⟩:=za
      have T:=ts_upd (ys:=((fs.map Fm.c).reverse ++ [true]).map V.bl) Z.ra.ht
      have pr:∀ a∈sp ++ os,∀ ys,H a=some (.lst ys)→upd H tl (.lst (((fs.map Fm.c).reverse ++ [true]).map V.bl)) a=some (.lst ys):=fun a ha ys h=>upd_fr (Z.sp a ha).2.2 h
      refine ⟨bs'.reverse,.ref r,(fs.map Fm.c).reverse,by rw [e1,List.reverse_cons],by rw [List.map_cons,List.reverse_cons,fc],lb,same_upd Z.sm Z.f3,g,⟨?_,?_,?_,Z.ra.n1,Z.ra.n2,Z.ra.n3,?_,Z.ra.l5⟩,?_,Z.nd,Z.sp,Z.f2,Z.f3⟩
      · rw [upd_ne (ne_of Z.ra.ix Z.ra.ht (fun z=>nomatch z))];exact Z.ra.ix
      · exact upd_fr Z.ra.n3 Z.ra.hb
      · rw [upd_same,List.map_cons,List.reverse_cons]
      · have:=Z.ra.le;simpa using this
      · rcases e5 with ⟨c1,_⟩ | ⟨c1,c2,c3,c4⟩
        · rw [fc] at c1;cases c1
        · subst e2 c4 e0
          subst c2
          refine ⟨[],o1,o3,rfl,⟨[],?_,by unfold TrsO;exact ⟨rfl,rfl⟩⟩,r,te,inn,lb,up,bs',sp',e1,rfl,T _ _ e3,T _ _ e4,.inl ⟨rfl,rfl,?_⟩,?_⟩
          · exact pr lb (by simp) _ c3
          · exact h1.to Z.gd.1.1 T (fun a ha=>pr a (by simp [ha])) (pr inn (by simp))
          · exact ZO.to T fs Z.gd.2.2.2 (fun a ha=>pr a (by rcases List.mem_append.mp ha with h | h <;> simp [h])) e6
    · cases e
theorem RZ.nd_ {H0 H:Hp} {rd dx rl bl tl:Addr} {i:Nat} {D D':Trs} {fs fs':List Fm} {inn:Addr} {bs:List V} {sp os:List Addr} (Z:RZ t H0 H rd dx rl bl tl i D fs inn bs sp os) (L:LnOk .nd) (e:stp D fs .nd=some (D',fs')):∃ bs1 b cs c,bs.reverse=bs1 ++ [b]∧(fs.map Fm.c).reverse=cs ++ [c]∧∃ inn' bs' sp' os',RZ t H0 (upd (upd H bl (.lst bs1)) tl (.lst (cs.map V.bl))) rd dx rl bl tl (i + 1) D' fs' inn' bs' sp' os':=by
  have g:=stp_gd Z.gd L e
  cases fs with
  | nil=>cases e
  | cons f fs =>
    have e:some (f.up.snoc (.iff f.T (if f.c=true then f.a else D) (if f.c=true then D else .nil)),fs)=some (D',fs'):=e
    obtain ⟨rfl,rfl⟩:f.up.snoc (.iff f.T (if f.c=true then f.a else D) (if f.c=true then D else .nil))=D'∧fs=fs':=by
      have:=Option.some.inj e
      exact ⟨congrArg Prod.fst this,congrArg Prod.snd this⟩
    have za:=Z.za
    obtain ⟨o1,o2,o3,e0,h1,r,te,la,lb,up,bs',sp',e1,e2,e3,e4,e5,e6⟩:=za
    have ht1:upd H bl (.lst bs'.reverse) tl=some (.lst (((f :: fs).map Fm.c).reverse.map V.bl)):=upd_fr (Ne.symm Z.ra.n3) Z.ra.ht
    have T:=(ts_upd (ys:=bs'.reverse) Z.ra.hb).trans (ts_upd (ys:=(fs.map Fm.c).reverse.map V.bl) ht1)
    have pr:∀ a∈sp ++ os,∀ ys,H a=some (.lst ys)→upd (upd H bl (.lst bs'.reverse)) tl (.lst ((fs.map Fm.c).reverse.map V.bl)) a=some (.lst ys):=fun a ha ys h=>upd_fr (Z.sp a ha).2.2 (upd_fr (Z.sp a ha).2.1 h)
    have nd:=Z.nd
    have sp0:=Z.sp
    subst e2 e0
    have le:=(ZO.inn fs e6).2.2
    have l5:=Z.ra.l5
    have zz:=ZO.to T fs Z.gd.2.2.2 (fun a ha=>pr a (by rcases List.mem_append.mp ha with h | h <;> simp [h])) e6
    obtain ⟨ot,pt,ht⟩:∃ ot,ot.Perm (la :: lb :: (o1 ++ o2))∧TrO (upd (upd H bl (.lst bs'.reverse)) tl (.lst ((fs.map Fm.c).reverse.map V.bl))) (.ref r) (.iff f.T (if f.c=true then f.a else D) (if f.c=true then D else .nil)) ot:=by
      rcases e5 with ⟨c1,c2,ys,c3,c4⟩ | ⟨c1,c2,c3,c4⟩
      · subst c2
        obtain ⟨xs,h2,h3⟩:=h1
        rw [List.append_nil] at h2 c3
        rw [if_pos c1,if_pos c1]
        refine ⟨la :: inn :: (o2 ++ o1),.cons _ (.cons _ List.perm_append_comm),?_⟩
        unfold TrO
        exact ⟨r,te,la,inn,ys,xs,o2,o1,rfl,rfl,T _ _ e3,T _ _ e4,pr la (by simp) _ c3,TrsO.to T _ Z.gd.2.1.1 (fun a ha=>pr a (by simp [ha])) c4,pr inn (by simp) _ h2,TrsO.to T _ Z.gd.1.1 (fun a ha=>pr a (by simp [ha])) h3⟩
      · subst c2 c4
        obtain ⟨xs,h2,h3⟩:=h1
        rw [List.append_nil] at h2
        rw [if_neg (by rw [c1];decide),if_neg (by rw [c1];decide)]
        refine ⟨inn :: lb :: (o1 ++ []),.refl _,?_⟩
        unfold TrO
        exact ⟨r,te,inn,lb,xs,[],o1,[],rfl,rfl,T _ _ e3,T _ _ e4,pr inn (by simp) _ h2,TrsO.to T _ Z.gd.1.1 (fun a ha=>pr a (by simp [ha])) h3,pr lb (by simp) _ c3,by unfold TrsO;exact ⟨rfl,rfl⟩⟩
    obtain ⟨os',pm,z2⟩:=ZO.snoc ht zz
    have PM:(sp' ++ os').Perm (la :: lb :: sp' ++ (o1 ++ (o2 ++ o3))):=by
      refine (pm.append_left sp').trans ?_
      refine ((pt.append_left o3).append_left sp').trans ?_
      rw [List.perm_iff_count]
      intro a
      simp only [List.count_append,List.count_cons,List.cons_append]
      lia
    refine ⟨bs'.reverse,.ref r,(fs.map Fm.c).reverse,f.c,by rw [e1,List.reverse_cons],by rw [List.map_cons,List.reverse_cons],up,bs',sp',os',same_upd (same_upd Z.sm Z.f2) Z.f3,g,⟨?_,?_,?_,Z.ra.n1,Z.ra.n2,Z.ra.n3,?_,?_⟩,z2,PM.nodup_iff.mpr nd,fun a ha=>sp0 a (PM.mem_iff.mp ha),Z.f2,Z.f3⟩
    · rw [upd_ne (ne_of Z.ra.ix Z.ra.ht (fun z=>nomatch z)),upd_ne (ne_of Z.ra.ix Z.ra.hb (fun z=>nomatch z))];exact Z.ra.ix
    · exact upd_fr Z.ra.n3 upd_same
    · exact upd_same
    · simp [le]
    · rw [e1] at l5;simp at l5 ⊢;lia
def rdI (t:Adr) (o1:V) (xl rd dx rl bl tl:Addr) (ts:List Hd) (H0:Hp) (i:Nat) (σ:St) (H':Hp):Prop:=(∃ o3 o4,σ=[some o1,some (.ref xl),some (.ref rd),o3,o4])∧∃ D fs inn bs sp os,run .nil [] (ts.take i)=some (D,fs)∧RZ t H0 H' rd dx rl bl tl i D fs inn bs sp os
theorem rdp_read2 {o1:V} {xl rd dx rl bl tl:Addr} {ts:List Hd} {D:Trs} {H0:Hp} (F:RdF K t) (hl:H0 xl=some (.lst ((ts.map Hd.line).map V.str))) (s0:Same H0 H) (R:RdAt t H rd dx rl bl tl [] []) (hr:H rl=some (.lst [])) (f1:H0 rl=none) (f2:H0 bl=none) (f3:H0 tl=none) (lt:ts.length≤40) (L:∀ h∈ts,LnOk h) (rn:run .nil [] ts=some (D,[])) (q:∀ H' xs os,Same H0 H'→H' rl=some (.lst xs)→TrsO H' xs D os→(rl :: os).Nodup→(∀ b∈rl :: os,H0 b=none)→Q (.ref rl) H') :
    rd_read_2 K t { nx:=fun _ H'=>Q .non H',rt:=Q } [some o1,some (.ref xl),some (.ref rd),none,none] H:=by
  simp only [rd_read_2,sp_row_in,sp_Reading_reads,tFld,tMeth,rNeNil,iEnm,L2.start,tSeq,gName,gTup,gCons,gNil,tRet,tDrop,tNext,tNever,tOp,tVar,tLst,tCons,tNil,tFor,tIfS,tTest,tCall,List.map,List.replicate,List.length,List.append,jqa,jqb,jqc,jqd,jqe,jqf,jqg,jqh,jqi,jqj,jqk,jql,jqm,jqn,and_true,true_and,and_assoc,jqo,jqp,jqq,Nat.reduceSub,Nat.reduceAdd,jqr,jqs,jqt,Int.reduceToNat,Int.reducePow,Int.reduceNeg,Int.reduceMul,Int.reduceAdd,if_true,ite_true,jqu,ite_false,if_false]
  refine ⟨_,SqL.of (s0 _ _ hl),loop_enumL ((ts.map Hd.line).map V.str) (rdI t o1 xl rd dx rl bl tl ts H0) ⟨⟨_,_,rfl⟩,.nil,[],rl,[],[rl],[],rfl,s0,⟨by unfold Trs.ok;trivial,Nat.zero_le _,by rw [Trs.deep];lia⟩,R,⟨rfl,rfl,rfl,[],hr,by unfold TrsO;exact ⟨rfl,rfl⟩⟩,by simp,fun a ha=>by rw [List.append_nil] at ha;rw [List.mem_singleton.mp ha];exact ⟨f1,R.n1,R.n2⟩,f2,f3⟩ (fun i σ H' ⟨_,_,_,_,_,_,_,_,Z⟩=>SqL.of (Z.sm _ _ hl)) ?_ ?_⟩
  · rintro i u A σ H' hu hA ⟨⟨o3,o4,rfl⟩,D1,fs,inn,bs,sp,os,r1,Z⟩
    rw [List.map_map,List.getElem?_map] at hu
    cases ht:ts[i]? with
    | none=>rw [ht] at hu;cases hu
    | some h =>
      rw [ht] at hu
      have hu:V.str h.line=u:=Option.some.inj hu
      subst hu
      have hi:=(List.getElem?_eq_some_iff.mp ht).1
      have Lh:=L h (List.mem_of_getElem? ht)
      obtain ⟨D',fs',st,r2⟩:=run_step rn r1 ht
      have s1:=isV (o:=HO.tup [V.int (i:Int),V.str h.line]) A hA
      simp only [tFld,tMeth,rNeNil,iEnm,L2.start,tSeq,gName,gTup,gCons,gNil,tRet,tDrop,tNext,tNever,tOp,tVar,tLst,tCons,tNil,tFor,tIfS,tTest,tCall,List.map,List.replicate,List.length,List.append,jqa,jqb,jqc,jqd,jqe,jqf,jqg,jqh,jqi,jqj,jqk,jql,jqm,jqn,and_true,true_and,and_assoc,jqo,jqp,jqq,Nat.reduceSub,Nat.reduceAdd,jqr,jqs,jqt,Int.reduceToNat,Int.reducePow,Int.reduceNeg,Int.reduceMul,Int.reduceAdd,if_true,ite_true,jqu,ite_false,if_false]
      refine ⟨_,SqT.of upd_same,rfl,_,_,rfl,_,_,rfl,rfl,_,_,s1 _ _ Z.ra.ix,rfl,_,rfl,i,rfl,h,rfl,Lh,by lia,fun H2 v s2 hv=>?_⟩
      have Z1:=Z.same s1
      have Z2:=Z1.same s2
      refine ⟨dx,rl,bl,tl,bs.reverse,(fs.map Fm.c).reverse,Z2.ra,h,_,hv,?_⟩
      obtain ⟨hin,him,zs,hz,lz⟩:=Z2.inn
      cases h with
      | iff T =>
        have si:=Z2.sp inn (List.mem_append_left _ him)
        have l5:fs.length < 5:=by
          by_cases c:fs.length < 5
          · exact c
          · have st:(if fs.length < 5 then some (Trs.nil,(⟨T,false,.nil,D1⟩:Fm) :: fs) else none)=some (D',fs'):=st
            rw [if_neg c] at st;cases st
        have le:=(ZO.inn fs Z2.za).2.2
        refine .inr (.inr (.inl ⟨⟨T,rfl⟩,inn,hin,zs,hz,by lia,si.2.1,si.2.2,by rw [List.length_reverse];lia,fun H3 s3=>?_⟩))
        obtain ⟨inn',bs',sp',os',Z3⟩:=Z1.iff (s2.trans s3) (s3 _ _ hz) Lh (hv.to (fun _ f=>f) s3) st
        exact ⟨⟨_,_,rfl⟩,D',fs',inn',bs',sp',os',r2,Z3⟩
      | els =>
        obtain ⟨bs1,b,cs,e1,e2,_⟩:=Z2.els Lh st
        refine .inl ⟨rfl,bs1,b,e1,cs,e2,fun H3 s3=>?_⟩
        obtain ⟨bs1',b',cs',e1',e2',inn',Z3⟩:=(Z2.same s3).els Lh st
        have:cs'=cs:=List.append_inj_left' (e2'.symm.trans e2) rfl
        subst this
        exact ⟨⟨_,_,rfl⟩,D',fs',inn',bs,sp,os,r2,Z3⟩
      | nd =>
        obtain ⟨bs1,b,cs,c,e1,e2,_⟩:=Z2.nd_ Lh st
        refine .inr (.inl ⟨rfl,bs1,b,e1,cs,c,e2,fun H3 s3=>?_⟩)
        obtain ⟨bs1',b',cs',c',e1',e2',inn',bs',sp',os',Z3⟩:=(Z2.same s3).nd_ Lh st
        have:cs'=cs:=List.append_inj_left' (e2'.symm.trans e2) rfl
        subst this
        have:bs1'=bs1:=List.append_inj_left' (e1'.symm.trans e1) rfl
        subst this
        exact ⟨⟨_,_,rfl⟩,D',fs',inn',bs',sp',os',r2,Z3⟩
      | _=>exact .inr (.inr (.inr ⟨trivial,inn,hin,zs,hz,by lia,fun H3 s3=>by
        obtain ⟨os',Z3⟩:=(Z2.same s3).plain (s3 _ _ hz) (by exact trivial) Lh (hv.to (fun _ _=>trivial) s3) st
        exact ⟨⟨_,_,rfl⟩,D',fs',inn,bs,sp,os',r2,Z3⟩⟩))
  · rintro σ H' ⟨⟨o3,o4,rfl⟩,D1,fs,inn,bs,sp,os,r1,Z⟩
    rw [List.length_map,List.length_map,List.take_of_length_le (Nat.le_refl _),rn] at r1
    cases r1
    obtain ⟨e1,e2,e3,xs,h1,h2⟩:=Z.za
    rw [List.append_nil] at h1
    have R':=Z.ra
    rw [e1] at R'
    have nd:=Z.nd
    have sp0:=Z.sp
    rw [e3] at nd sp0
    exact rdp_read3 F R' fun H2 s2=>q H2 xs os (Z.sm.trans s2) (s2 _ _ h1) (TrsO.same s2 Z.gd.1 h2) nd fun b hb=>(sp0 b hb).1
theorem rdp_read1 {o1:V} {l:Addr} {ts:List Hd} {D:Trs} (F:RdF K t) (hl:H l=some (.lst ((ts.map Hd.line).map V.str))) (lt:ts.length≤40) (L:∀ h∈ts,LnOk h) (rn:run .nil [] ts=some (D,[])) (q:∀ H' l xs os,Same H H'→H' l=some (.lst xs)→TrsO H' xs D os→(l :: os).Nodup→(∀ b∈l :: os,H b=none)→Q (.ref l) H') :
    rd_read_1 K t { nx:=fun _ H'=>Q .non H',rt:=Q } [some o1,some (.ref l),none,none,none] H:=by
  simp only [rd_read_1,sp_Reading_init,tFld,tMeth,tMake,rNeNil,iEnm,L2.start,tSeq,tAsg,gName,gTup,gCons,gNil,tRet,tDrop,tNext,tNever,tOp,tVar,tLst,tCons,tNil,tFor,tIfS,tTest,tCall,List.map,List.replicate,List.length,List.append,jqa,jqb,jqc,jqd,jqe,jqf,jqg,jqh,jqi,jqj,jqk,jql,jqm,jqn,and_true,true_and,and_assoc,jqo,jqp,jqq,Nat.reduceSub,Nat.reduceAdd,jqr,jqs,jqt,Int.reduceToNat,Int.reducePow,Int.reduceNeg,Int.reduceMul,Int.reduceAdd,if_true,ite_true,jqu,ite_false,if_false]
  intro x dx hx hdx n
  have s2:=isV (o:=HO.own x) dx hdx
  have hx2:upd H dx (HO.own x) x=none:=by rw [upd_ne (Ne.symm n)];exact hx
  have s3:=isV (o:=HO.ins t.c_Reading dx []) x hx2
  refine ⟨dx,upd_same,fun H' rl bl tl sX R hr f1 f2 f3=>?_⟩
  have S:Same H H':=sX.same (s2.trans s3) hx
  exact rdp_read2 F hl S R hr (fresh_of (s2.trans s3) f1) (fresh_of (s2.trans s3) f2) (fresh_of (s2.trans s3) f3) lt L rn fun H2 xs os s h1 h2 h3 h4=>q H2 rl xs os s h1 h2 h3 h4
theorem join_ne {hd:Hd} (L:LnOk hd) (ls:List Str):Str.join nl10 (hd.line :: ls)≠"":=fun z=>by
  cases ls with
  | nil=>exact line_ne L (hd_first hd) z
  | cons y r =>
    have z:(Str.join ⟨#[10]⟩ (hd.line :: y :: r)).cps.toList=[]:=by
      show (Str.join nl10 (hd.line :: y :: r)).cps.toList=[]
      rw [z];decide +kernel
    rw [join_cpsC] at z
    exact absurd (List.append_eq_nil_iff.mp z).2 (by simp)
theorem rdp_read {x:Str} {ts:List Hd} {D:Trs} (F:RdF K t) (hx:x=Str.join nl10 (ts.map Hd.line)) (lx:x.length≤100000) (lt:ts.length≤40) (L:∀ h∈ts,LnOk h) (rn:run .nil [] ts=some (D,[])) (q:∀ H' l xs os,Same H H'→H' l=some (.lst xs)→TrsO H' xs D os→(l :: os).Nodup→(∀ b∈l :: os,H b=none)→Q (.ref l) H') :
    rd_read K t { nx:=fun _ H'=>Q .non H',rt:=Q } (L2.start ["text","texts","reading","number","one"] [.str x]) H:=by
  subst hx
  simp only [rd_read,tFld,tMeth,tMake,rNeNil,iEnm,r_mt_split,L2.start,tSeq,tAsg,gName,gTup,gCons,gNil,tRet,tDrop,tNext,tNever,tOp,tVar,tC,tLst,tCons,tNil,tFor,tIfS,tTest,tIf,tBM,tyV,tCall,rNe,scal,List.map,List.replicate,List.length,List.append,jqa,jqb,jqc,jqd,jqe,jqf,jqg,jqh,jqi,jqj,jqk,jql,jqm,jqn,and_true,true_and,and_assoc,jqo,jqp,jqq,Nat.reduceSub,Nat.reduceAdd,jqr,jqs,jqt,Int.reduceToNat,Int.reducePow,Int.reduceNeg,Int.reduceMul,Int.reduceAdd,if_true,ite_true,jqu,ite_false,if_false]
  cases ts with
  | nil =>
    rw [if_neg (by decide +kernel)]
    refine ⟨Nat.zero_le _,fun l hl=>?_⟩
    have s1:=isV (o:=HO.lst []) l hl
    exact rdp_read1 (ts:=[]) F upd_same (by decide) (fun _ z=>nomatch z) rn fun H' l' xs os s h1 h2 h3 h4=>q H' l' xs os (s1.trans s) h1 h2 h3 fun b hb=>fresh_of s1 (h4 b hb)
  | cons h r =>
    rw [if_pos (show ¬ Str.join nl10 (List.map Hd.line (h :: r))=Str.ofString "" from join_ne (L h (by simp)) (r.map Hd.line))]
    have es:Txt.split (Str.join nl10 ((h :: r).map Hd.line)) (Str.ofString "\n")=(h :: r).map Hd.line:=by
      rw [sp_nl]
      refine split_join (by simp) fun p hp=>?_
      obtain ⟨g,hg,rfl⟩:=List.mem_map.mp hp
      exact line_nl (L g hg)
    rw [es]
    refine ⟨by decide +kernel,lx,by rw [List.length_map];lia,fun l hl=>?_⟩
    have s1:=isV (o:=HO.lst (List.map V.str ((h :: r).map Hd.line))) l hl
    exact rdp_read1 F upd_same lt L rn fun H' l' xs os s h1 h2 h3 h4=>q H' l' xs os (s1.trans s) h1 h2 h3 fun b hb=>fresh_of s1 (h4 b hb)
theorem cat_le {n:Nat} (h:n≤900):n≤sizeLine:=Nat.le_trans h (by decide)
theorem rdp_row_words {v:V} {h:Hd} (h1:WdAt H v h) (L:LnOk h) (q:∀ p H',Same H H'→H' p=some (.lst (h.words.map V.str))→Q (.ref p) H') :
    rd_row_words K t { nx:=fun _ H'=>Q .non H',rt:=Q } (L2.start ["row"] [v]) H:=by
  have ln:=L.ln
  have ok:=L.ok
  simp only [rd_row_words,rd_row_words_1,rd_row_words_2,rd_row_words_3,sp_words_of,rCat,L2.start,rIxT,tSeq,tRet,tNext,tOp,tVar,tC,tLst,tCons,tNil,tIfS,tTest,tCall,rCat,rIxT,rEq,scal,List.map,List.replicate,List.length,List.append,jqa,jqb,jqc,jqd,jqe,jqf,jqg,jqh,jqi,jqj,jqk,jql,jqm,jqn,and_true,true_and,and_assoc,jqo,jqp,jqq,Nat.reduceSub,Nat.reduceAdd,jqr,jqs,jqt,Int.reduceToNat,Int.reducePow,Int.reduceNeg,Int.reduceMul,Int.reduceAdd,if_true,ite_true,jqu,ite_false,if_false]
  cases h with
  | take sh T sl =>
    obtain ⟨_,r,te,rfl,e1,e2⟩:=h1
    refine ⟨r,rfl,_,SqT.of e1,_,rfl,rfl,?_⟩
    rw [if_pos rfl]
    have lw:(Hd.words (.take sh T sl)).length=(pre T).length + 4:=by simp [Hd.words]
    refine ⟨r,rfl,_,SqT.of e1,_,rfl,by decide,fun p1 g1=>?_⟩
    have s1:=isV (o:=HO.lst [V.str (Str.ofString "take"),V.str sh]) p1 g1
    refine ⟨r,rfl,_,SqT.of (s1 _ _ e1),_,rfl,te,rfl,T,s1 _ _ e2,ok.2.1.wf,ok.2.1.ok,by lia,fun p2 H2 s2 hp2=>?_⟩
    refine ⟨_,s2 _ _ upd_same,_,hp2,cat_le (by simp;lia),fun p3 g3=>?_⟩
    have s3:=isV (o:=HO.lst ([V.str (Str.ofString "take"),V.str sh] ++ (pre T).map V.str)) p3 g3
    refine ⟨r,rfl,_,SqT.of ((s1.trans (s2.trans s3)) _ _ e1),_,rfl,by decide,fun p4 g4=>?_⟩
    have s4:=isV (o:=HO.lst [V.str (Str.ofString "as"),V.str sl]) p4 g4
    refine ⟨_,s4 _ _ upd_same,_,upd_same,cat_le (by simp;lia),fun p5 g5=>?_⟩
    refine q p5 _ (s1.trans (s2.trans (s3.trans (s4.trans (isV p5 g5))))) ?_
    rw [upd_same]
    simp [Hd.words]
  | give sh T U =>
    obtain ⟨_,r,te,tf,rfl,e1,e2,e3⟩:=h1
    refine ⟨r,rfl,_,SqT.of e1,_,rfl,rfl,?_⟩
    rw [if_neg (by decide +kernel)]
    refine ⟨r,rfl,_,SqT.of e1,_,rfl,rfl,?_⟩
    rw [if_pos rfl]
    have lw:(Hd.words (.give sh T U)).length=(pre T).length + (pre U).length + 2:=by simp [Hd.words]
    refine ⟨r,rfl,_,SqT.of e1,_,rfl,by decide,fun p1 g1=>?_⟩
    have s1:=isV (o:=HO.lst [V.str (Str.ofString "give"),V.str sh]) p1 g1
    refine ⟨r,rfl,_,SqT.of (s1 _ _ e1),_,rfl,te,rfl,T,s1 _ _ e2,ok.2.1.wf,ok.2.1.ok,by lia,fun p2 H2 s2 hp2=>?_⟩
    refine ⟨_,s2 _ _ upd_same,_,hp2,cat_le (by simp;lia),fun p3 g3=>?_⟩
    have s3:=isV (o:=HO.lst ([V.str (Str.ofString "give"),V.str sh] ++ (pre T).map V.str)) p3 g3
    have S3:=s1.trans (s2.trans s3)
    refine ⟨r,rfl,_,SqT.of (S3 _ _ e1),_,rfl,tf,rfl,U,S3 _ _ e3,ok.2.2.wf,ok.2.2.ok,by lia,fun p4 H4 s4 hp4=>?_⟩
    refine ⟨_,s4 _ _ upd_same,_,hp4,cat_le (by simp;lia),fun p5 g5=>?_⟩
    refine q p5 _ (S3.trans (s4.trans (isV p5 g5))) ?_
    rw [upd_same]
    simp [Hd.words]
  | lt sl T =>
    obtain ⟨_,r,te,rfl,e1,e2⟩:=h1
    refine ⟨r,rfl,_,SqT.of e1,_,rfl,rfl,?_⟩
    rw [if_neg (by decide +kernel)]
    refine ⟨r,rfl,_,SqT.of e1,_,rfl,rfl,?_⟩
    rw [if_neg (by decide +kernel)]
    refine ⟨r,rfl,_,SqT.of e1,_,rfl,rfl,?_⟩
    rw [if_pos rfl]
    have lw:(Hd.words (.lt sl T)).length=(pre T).length + 2:=by simp [Hd.words]
    refine ⟨r,rfl,_,SqT.of e1,_,rfl,by decide,fun p1 g1=>?_⟩
    have s1:=isV (o:=HO.lst [V.str (Str.ofString "let"),V.str sl]) p1 g1
    refine ⟨r,rfl,_,SqT.of (s1 _ _ e1),_,rfl,te,rfl,T,s1 _ _ e2,ok.2.wf,ok.2.ok,by lia,fun p2 H2 s2 hp2=>?_⟩
    refine ⟨_,s2 _ _ upd_same,_,hp2,cat_le (by simp;lia),fun p3 g3=>?_⟩
    refine q p3 _ (s1.trans (s2.trans (isV p3 g3))) ?_
    rw [upd_same]
    simp [Hd.words]
  | say T =>
    obtain ⟨_,r,te,rfl,e1,e2⟩:=h1
    refine ⟨r,rfl,_,SqT.of e1,_,rfl,rfl,?_⟩
    rw [if_neg (by decide +kernel)]
    refine ⟨r,rfl,_,SqT.of e1,_,rfl,rfl,?_⟩
    rw [if_neg (by decide +kernel)]
    refine ⟨r,rfl,_,SqT.of e1,_,rfl,rfl,?_⟩
    rw [if_neg (by decide +kernel)]
    have lw:(Hd.words (.say T)).length=(pre T).length + 1:=by simp [Hd.words]
    refine ⟨r,rfl,_,SqT.of e1,_,rfl,by decide,fun p1 g1=>?_⟩
    have s1:=isV (o:=HO.lst [V.str (Str.ofString "say")]) p1 g1
    refine ⟨r,rfl,_,SqT.of (s1 _ _ e1),_,rfl,te,rfl,T,s1 _ _ e2,ok.wf,ok.ok,by lia,fun p2 H2 s2 hp2=>?_⟩
    refine ⟨_,s2 _ _ upd_same,_,hp2,cat_le (by simp;lia),fun p3 g3=>?_⟩
    refine q p3 _ (s1.trans (s2.trans (isV p3 g3))) ?_
    rw [upd_same]
    simp [Hd.words]
  | off T =>
    obtain ⟨_,r,te,rfl,e1,e2⟩:=h1
    refine ⟨r,rfl,_,SqT.of e1,_,rfl,rfl,?_⟩
    rw [if_neg (by decide +kernel)]
    refine ⟨r,rfl,_,SqT.of e1,_,rfl,rfl,?_⟩
    rw [if_neg (by decide +kernel)]
    refine ⟨r,rfl,_,SqT.of e1,_,rfl,rfl,?_⟩
    rw [if_neg (by decide +kernel)]
    have lw:(Hd.words (.off T)).length=(pre T).length + 1:=by simp [Hd.words]
    refine ⟨r,rfl,_,SqT.of e1,_,rfl,by decide,fun p1 g1=>?_⟩
    have s1:=isV (o:=HO.lst [V.str (Str.ofString "off")]) p1 g1
    refine ⟨r,rfl,_,SqT.of (s1 _ _ e1),_,rfl,te,rfl,T,s1 _ _ e2,ok.wf,ok.ok,by lia,fun p2 H2 s2 hp2=>?_⟩
    refine ⟨_,s2 _ _ upd_same,_,hp2,cat_le (by simp;lia),fun p3 g3=>?_⟩
    refine q p3 _ (s1.trans (s2.trans (isV p3 g3))) ?_
    rw [upd_same]
    simp [Hd.words]
  | iff T =>
    obtain ⟨r,te,la,lb,rfl,e1,e2⟩:=h1
    refine ⟨r,rfl,_,SqT.of e1,_,rfl,rfl,?_⟩
    rw [if_neg (by decide +kernel)]
    refine ⟨r,rfl,_,SqT.of e1,_,rfl,rfl,?_⟩
    rw [if_neg (by decide +kernel)]
    refine ⟨r,rfl,_,SqT.of e1,_,rfl,rfl,?_⟩
    rw [if_neg (by decide +kernel)]
    have lw:(Hd.words (.iff T)).length=(pre T).length + 1:=by simp [Hd.words]
    refine ⟨r,rfl,_,SqT.of e1,_,rfl,by decide,fun p1 g1=>?_⟩
    have s1:=isV (o:=HO.lst [V.str (Str.ofString "if")]) p1 g1
    refine ⟨r,rfl,_,SqT.of (s1 _ _ e1),_,rfl,te,rfl,T,s1 _ _ e2,ok.wf,ok.ok,by lia,fun p2 H2 s2 hp2=>?_⟩
    refine ⟨_,s2 _ _ upd_same,_,hp2,cat_le (by simp;lia),fun p3 g3=>?_⟩
    refine q p3 _ (s1.trans (s2.trans (isV p3 g3))) ?_
    rw [upd_same]
    simp [Hd.words]
  | els=>exact h1.1.elim
  | nd=>exact h1.1.elim
theorem els_nil {b:Trs} (h:b≠.nil):els b=Hd.els :: linTs b:=by
  cases b with
  | nil=>exact absurd rfl h
  | cons x r=>rw [els,linTs]
theorem rdp_block_texts {v:V} {T:Tw} {a b:Trs} {n:Nat} (h1:TrAt anyA H v (.iff T a b)) (h2:a.ok) (h3:b.ok) (h4:a.deep < n) (h5:b.deep < n) (h6:(linTs a ++ (els b ++ [Hd.nd])).length≤100) (q:∀ p H',Same H H'→H' p=some (.lst ((linTs a ++ (els b ++ [Hd.nd])).map lnV))→Q (.ref p) H') :
    rd_block_texts K t n { nx:=fun _ H'=>Q .non H',rt:=Q } (L2.start ["row","texts"] [v]) H:=by
  unfold TrAt at h1
  obtain ⟨r,te,la,lb,xs,ys,rfl,_,_,e1,e2,e3,e4,e5,e6⟩:=h1
  simp only [rd_block_texts,rd_block_texts_1,sp_row_texts,rCat,rNeNil,L2.start,rIxT,tSeq,tAsg,gName,tRet,tNext,tOp,tVar,tC,tLst,tCons,tNil,tIfS,tTest,tCall,rCat,rIxT,List.map,List.replicate,List.length,List.append,jqa,jqb,jqc,jqd,jqe,jqf,jqg,jqh,jqi,jqj,jqk,jql,jqm,jqn,and_true,true_and,and_assoc,jqo,jqp,jqq,Nat.reduceSub,Nat.reduceAdd,jqr,jqs,jqt,Int.reduceToNat,Int.reducePow,Int.reduceNeg,Int.reduceMul,Int.reduceAdd,if_true,ite_true,jqu,ite_false,if_false]
  have l6:=h6
  rw [List.length_append,List.length_append] at l6
  refine ⟨_,SqT.of e1,_,rfl,la,rfl,xs,e3,a,e4,h2,h4,by lia,fun p1 H1 s1 hp1=>?_⟩
  refine ⟨_,SqT.of (s1 _ _ e1),_,rfl,by decide,fun p2 g2=>?_⟩
  have s2:=isV (o:=HO.lst []) p2 g2
  have S2:=s1.trans s2
  refine ⟨_,rfl,ys,SqL.of (S2 _ _ e5),SqL.of upd_same,?_⟩
  cases b with
  | nil =>
    unfold TrsAt at e6
    subst e6
    rw [if_neg (by simp)]
    refine ⟨by decide,fun p3 g3=>?_⟩
    have s3:=isV (o:=HO.lst [V.str (Str.ofString "end")]) p3 g3
    refine ⟨_,(s2.trans s3) _ _ hp1,_,upd_same,cat_le (by simp;lia),fun p4 g4=>?_⟩
    refine q p4 _ (S2.trans (s3.trans (isV p4 g4))) ?_
    rw [upd_same,els,List.nil_append,List.map_append]
    rfl
  | cons x rs =>
    have hb:els (.cons x rs)=Hd.els :: linTs (.cons x rs):=els_nil (fun z=>nomatch z)
    rw [hb] at l6
    have ny:ys≠[]:=fun z=>by
      unfold TrsAt at e6
      obtain ⟨u,us,e,_⟩:=e6
      rw [z] at e;cases e
    rw [if_pos (by simpa using ny)]
    refine ⟨by decide,fun p3 g3=>?_⟩
    have s3:=isV (o:=HO.lst [V.str (Str.ofString "else")]) p3 g3
    refine ⟨_,(s2.trans s3) _ _ hp1,_,upd_same,cat_le (by simp;lia),fun p4 g4=>?_⟩
    have s4:=isV (o:=HO.lst ((linTs a).map lnV ++ [V.str (Str.ofString "else")])) p4 g4
    have S4:=S2.trans (s3.trans s4)
    simp only [List.length_cons,List.length_append,List.length_nil] at l6
    refine ⟨_,SqT.of (S4 _ _ e1),_,rfl,lb,rfl,ys,S4 _ _ e5,.cons x rs,TrsAt.same S4 h3 e6,h3,h5,by lia,fun p5 H5 s5 hp5=>?_⟩
    refine ⟨_,s5 _ _ upd_same,_,hp5,cat_le (by simp;lia),fun p6 g6=>?_⟩
    have s6:=isV (o:=HO.lst ((linTs a).map lnV ++ [V.str (Str.ofString "else")] ++ (linTs (.cons x rs)).map lnV)) p6 g6
    refine ⟨by decide,fun p7 g7=>?_⟩
    have s7:=isV (o:=HO.lst [V.str (Str.ofString "end")]) p7 g7
    refine ⟨_,s7 _ _ upd_same,_,upd_same,cat_le (by simp;lia),fun p8 g8=>?_⟩
    refine q p8 _ (S4.trans (s5.trans (s6.trans (s7.trans (isV p8 g8))))) ?_
    rw [upd_same,hb]
    simp only [List.map_append,List.map_cons,List.map_nil,List.append_assoc,List.cons_append,List.nil_append]
    rfl
theorem sum_le {n:Nat}:∀ {ls:List Str},(∀ w∈ls,w.length≤n)→(ls.map (·.length)).sum≤ls.length * n
  | [],_=>by simp
  | x :: r,h=>by
    have h1:=h x List.mem_cons_self
    have h2:=sum_le (ls:=r) fun w hw=>h w (List.mem_cons_of_mem _ hw)
    rw [List.map_cons,List.sum_cons,List.length_cons,Nat.add_mul];lia
theorem sumL_ln {hd:Hd} (L:LnOk hd):sumL bl32 hd.words≤7000:=by
  have h:=sum_le (n:=100) (ls:=hd.words) fun w hw=>(L.ws w hw).1
  have l:=L.ln
  unfold sumL
  rw [sumL_eq,show bl32.length=1 from rfl];lia
theorem TrsAt.get {F:Addr→Prop} {H:Hp}:∀ {r:Trs} {vs:List V} {i:Nat} {v:V},TrsAt F H (vs.drop i) r→vs[i]?=some v→∃ x rs,r=.cons x rs∧TrAt F H v x∧TrsAt F H (vs.drop (i + 1)) rs
  | .nil,vs,i,v,h,e=>by
    unfold TrsAt at h
    have:=(List.getElem?_eq_some_iff.mp e).1
    have:=congrArg List.length h
    rw [List.length_drop] at this
    simp at this
    lia
  | .cons x rs,vs,i,v,h,e=>by
    unfold TrsAt at h
    obtain ⟨u,ws,e1,e2,e3⟩:=h
    have hi:=(List.getElem?_eq_some_iff.mp e).1
    have d:=List.drop_eq_getElem_cons hi
    rw [e1] at d
    have e4:vs[i]=v:=(List.getElem?_eq_some_iff.mp e).2
    rw [e4] at d
    injection d with d1 d2
    subst d1 d2
    exact ⟨x,rs,rfl,e2,e3⟩
theorem TrsAt.none {F:Addr→Prop} {H:Hp} {r:Trs} {vs:List V} (h:TrsAt F H (vs.drop vs.length) r):r=.nil:=by
  rw [List.drop_length] at h
  cases r with
  | nil=>rfl
  | cons x rs =>
    unfold TrsAt at h
    obtain ⟨_,_,e,_⟩:=h
    cases e
theorem nil_row_texts {vs:List V} {H:Hp} {Q:VK} {E:XK} (h:sp_row_texts 0 vs H Q E):False:=by
  obtain ⟨l,xs,D,_,_,_,_,h,_⟩:=h
  exact Nat.not_lt_zero _ h
def rtI (l R:Addr) (xs:List V) (D:Trs) (n:Nat) (H:Hp) (i:Nat) (σ:St) (H':Hp):Prop:=∃ (ls:List Hd) (rest:Trs),(∃ o,σ=[some (.ref l),some (.ref R),o])∧Same H H'∧H' R=some (.lst (ls.map lnV))∧TrsAt anyA H (xs.drop i) rest∧ls ++ linTs rest=linTs D∧rest.ok∧rest.deep < n + 1
theorem rdp_row_texts {l:Addr} {xs:List V} {D:Trs} {n:Nat} (h1:H l=some (.lst xs)) (h2:TrsAt anyA H xs D) (h3:D.ok) (h4:D.deep < n + 1) (h5:(linTs D).length≤100) (q:∀ p H',Same H H'→H' p=some (.lst ((linTs D).map lnV))→Q (.ref p) H') :
    rd_row_texts K t n { nx:=fun _ H'=>Q .non H',rt:=Q } (L2.start ["rows","texts","row"] [.ref l]) H:=by
  simp only [rd_row_texts,sp_row_words,sp_block_texts,r_mt_extend,rExtend,L2.start,r_mt_append,rAppend,rIxT,r_mt_join,tSeq,tAsg,gName,tRet,tDrop,tNext,tOp,tVar,tC,tLst,tCons,tNil,tFor,tIfS,tTest,tBM,tyV,tCall,iList,rIxT,rEq,scal,List.map,List.replicate,List.length,List.append,jqa,jqb,jqc,jqd,jqe,jqf,jqg,jqh,jqi,jqj,jqk,jql,jqm,jqn,and_true,true_and,and_assoc,jqo,jqp,jqq,Nat.reduceSub,Nat.reduceAdd,jqr,jqs,jqt,Int.reduceToNat,Int.reducePow,Int.reduceNeg,Int.reduceMul,Int.reduceAdd,if_true,ite_true,jqu,ite_false,if_false]
  refine ⟨by decide,fun R hR=>?_⟩
  have s0:=isV (o:=HO.lst []) R hR
  refine ⟨⟨_,SqL.of (s0 _ _ h1)⟩,loop_list xs (rtI l R xs D n H) ⟨[],D,⟨_,rfl⟩,s0,upd_same,by rw [List.drop_zero];exact h2,rfl,h3,h4⟩ (fun i σ H' ⟨_,_,_,s,_⟩=>SqL.of (s _ _ h1)) ?_ ?_⟩
  · rintro i v σ H' hv ⟨ls,rest,⟨o,rfl⟩,s,hy,hr,ha,ok,dp⟩
    obtain ⟨x,rs,rfl,rx,rr⟩:=TrsAt.get hr hv
    unfold Trs.ok at ok
    have e0:linTs (.cons x rs)=linT x ++ linTs rs:=by rw [linTs]
    have c1:(Trs.cons x rs).deep=max x.deep rs.deep:=by rw [Trs.deep]
    rw [c1] at dp
    have lb:ls.length + (linT x).length≤100:=by
      have:=congrArg List.length ha
      rw [e0,List.length_append,List.length_append] at this
      lia
    cases x with
    | row h =>
      unfold TrAt at rx
      have okx:=ok.1
      unfold Tr.ok at okx
      obtain ⟨r0,fs0,w,rfl,hr0,ha0,_,_,i3⟩:=hd_head rx
      have wd:WdAt H' (.ref r0) h:=by
        have hp:=okx.2
        have hx:=hd_t hp (fun b ys e=>s _ _ e) rx
        cases h <;> first | exact hp.elim | exact ⟨trivial,hx⟩
      simp only [r_mt_extend,rExtend,L2.start,r_mt_append,rAppend,rIxT,r_mt_join,tSeq,tAsg,gName,tRet,tDrop,tNext,tOp,tVar,tC,tLst,tCons,tNil,tFor,tIfS,tTest,tBM,tyV,tCall,iList,rIxT,rEq,scal,List.map,List.replicate,List.length,List.append,jqa,jqb,jqc,jqd,jqe,jqf,jqg,jqh,jqi,jqj,jqk,jql,jqm,jqn,and_true,true_and,and_assoc,jqo,jqp,jqq,Nat.reduceSub,Nat.reduceAdd,jqr,jqs,jqt,Int.reduceToNat,Int.reducePow,Int.reduceNeg,Int.reduceMul,Int.reduceAdd,if_true,ite_true,jqu,ite_false,if_false]
      refine ⟨.inl ⟨_,SqL.of hy⟩,h,wd,okx.1,fun p1 H1 s1 hp1=>?_⟩
      have hy1:=s1 _ _ hy
      have T:=ts_upd (ys:=ls.map lnV ++ [V.str h.line]) hy1
      have hj:joinS (Str.ofString " ") h.words=h.line:=joinS_eq _ _
      have hsum:sumL (Str.ofString " ") h.words≤sizeLine:=small_size (by have:=sumL_ln okx.1;show sumL bl32 h.words≤_;lia)
      refine ⟨h.words,SqL.of hp1,hsum,_,hy1,Nat.lt_of_le_of_lt (by simp;lia:_≤900) (by decide),?_⟩
      rw [hj]
      refine ⟨_,SqT.of (T _ _ ((s.trans s1) _ _ hr0)),_,ha0,rfl,?_⟩
      rw [if_neg (fun z=>by
        obtain ⟨T',e⟩:=i3.mp (V.str.inj z)
        have hp:=okx.2
        rw [e] at hp
        exact hp)]
      refine ⟨ls ++ [h],rs,⟨_,rfl⟩,same_upd (s.trans s1) hR,by rw [upd_same,List.map_append];rfl,rr,?_,ok.2,by lia⟩
      rw [← ha,e0,linT,List.append_assoc]
    | iff T a b =>
      have okx:=ok.1
      unfold Tr.ok at okx
      have d1:(Tr.iff T a b).deep=max a.deep b.deep + 1:=by rw [Tr.deep]
      rw [d1] at dp
      have l0:linT (.iff T a b)=Hd.iff T :: (linTs a ++ (els b ++ [Hd.nd])):=by rw [linT]
      rw [l0,List.length_cons] at lb
      have rx0:=rx
      unfold TrAt at rx0
      obtain ⟨r0,te,la,lb0,ys,zs,rfl,_,_,f1,f2,f3,f4,f5,f6⟩:=rx0
      simp only [r_mt_extend,rExtend,L2.start,r_mt_append,rAppend,rIxT,r_mt_join,tSeq,tAsg,gName,tRet,tDrop,tNext,tOp,tVar,tC,tLst,tCons,tNil,tFor,tIfS,tTest,tBM,tyV,tCall,iList,rIxT,rEq,scal,List.map,List.replicate,List.length,List.append,jqa,jqb,jqc,jqd,jqe,jqf,jqg,jqh,jqi,jqj,jqk,jql,jqm,jqn,and_true,true_and,and_assoc,jqo,jqp,jqq,Nat.reduceSub,Nat.reduceAdd,jqr,jqs,jqt,Int.reduceToNat,Int.reducePow,Int.reduceNeg,Int.reduceMul,Int.reduceAdd,if_true,ite_true,jqu,ite_false,if_false]
      refine ⟨.inl ⟨_,SqL.of hy⟩,.iff T,⟨r0,te,la,lb0,rfl,s _ _ f1,s _ _ f2⟩,okx.1,fun p1 H1 s1 hp1=>?_⟩
      have hy1:=s1 _ _ hy
      have hj:joinS (Str.ofString " ") (Hd.words (.iff T))=Hd.line (.iff T):=joinS_eq _ _
      have hsum:sumL (Str.ofString " ") (Hd.words (.iff T))≤sizeLine:=small_size (by have:=sumL_ln okx.1;show sumL bl32 _≤_;lia)
      refine ⟨_,SqL.of hp1,hsum,_,hy1,Nat.lt_of_le_of_lt (by simp;lia:_≤900) (by decide),?_⟩
      rw [hj]
      have T1:=ts_upd (ys:=ls.map lnV ++ [V.str (Hd.line (.iff T))]) hy1
      have s2:Same H (upd H1 R (.lst (ls.map lnV ++ [V.str (Hd.line (.iff T))]))):=same_upd (s.trans s1) hR
      have hy2:upd H1 R (.lst (ls.map lnV ++ [V.str (Hd.line (.iff T))])) R=some (.lst (ls.map lnV ++ [V.str (Hd.line (.iff T))])):=upd_same
      generalize upd H1 R (.lst (ls.map lnV ++ [V.str (Hd.line (.iff T))]))=H2 at *
      refine ⟨_,SqT.of (s2 _ _ f1),_,rfl,rfl,?_⟩
      rw [if_pos rfl]
      have rx2:TrAt anyA H2 (.ref r0) (.iff T a b):=TrAt.to (fun _ _ f _=>f) (fun _ _ e=>s2 _ _ e) (fun _ _ _ e=>s2 _ _ e) _ ok.1 rx
      refine ⟨.inl ⟨_,SqL.of hy2⟩,T,a,b,rx2,okx.2.1,okx.2.2,by lia,by lia,by lia,fun p2 H3 s3 hp2=>?_⟩
      refine ⟨_,s3 _ _ hy2,_,hp2,cat_le (by simp at lb ⊢;lia),?_⟩
      refine ⟨ls ++ linT (.iff T a b),rs,⟨_,rfl⟩,same_upd (s2.trans s3) hR,?_,rr,?_,ok.2,by lia⟩
      · rw [upd_same,l0]
        simp only [List.map_append,List.map_cons,List.append_assoc,List.cons_append,List.nil_append]
        rfl
      · rw [← ha,e0,List.append_assoc]
  · rintro σ H' ⟨ls,rest,⟨o,rfl⟩,s,hy,hr,ha,ok,dp⟩
    have e:=TrsAt.none hr
    subst e
    rw [show linTs .nil=[] by rw [linTs],List.append_nil] at ha
    subst ha
    exact ⟨_,rfl,q R H' s hy⟩
theorem sumL_lines {ts:List Hd} (h:ts.length≤40) (L:∀ h∈ts,LnOk h):sumL nl10 (ts.map Hd.line)≤500000:=by
  have h1:=sum_le (n:=10000) (ls:=ts.map Hd.line) fun w hw=>by
    obtain ⟨g,hg,rfl⟩:=List.mem_map.mp hw
    exact line_len (L g hg)
  rw [List.length_map] at h1
  unfold sumL
  rw [sumL_eq,show nl10.length=1 from rfl,List.length_map];lia
theorem ln_nd:LnOk .nd:=⟨trivial,(fun w hw=>by rw [List.mem_singleton.mp hw];exact ⟨by decide +kernel,by unfold Asc;decide +kernel⟩),by decide,fun w hw=>by rw [List.mem_singleton.mp hw];decide +kernel⟩
theorem ln_els:LnOk .els:=⟨trivial,(fun w hw=>by rw [List.mem_singleton.mp hw];exact ⟨by decide +kernel,by unfold Asc;decide +kernel⟩),by decide,fun w hw=>by rw [List.mem_singleton.mp hw];decide +kernel⟩
mutual
theorem lin_ok:∀ (x:Tr),x.ok→∀ h∈linT x,LnOk h
  | .row g,k,h,hh=>by
    unfold Tr.ok at k
    rw [linT] at hh
    rw [List.mem_singleton.mp hh];exact k.1
  | .iff T a b,k,h,hh=>by
    unfold Tr.ok at k
    rw [linT] at hh
    rcases List.mem_cons.mp hh with rfl | hh
    · exact k.1
    rcases List.mem_append.mp hh with hh | hh
    · exact lins_ok a k.2.1 h hh
    rcases List.mem_append.mp hh with hh | hh
    · exact els_ok b k.2.2 h hh
    · rw [List.mem_singleton.mp hh];exact ln_nd
theorem els_ok:∀ (x:Trs),x.ok→∀ h∈els x,LnOk h
  | .nil,k,h,hh=>by rw [els] at hh;cases hh
  | .cons x r,k,h,hh=>by
    unfold Trs.ok at k
    rw [els] at hh
    rcases List.mem_cons.mp hh with rfl | hh
    · exact ln_els
    rcases List.mem_append.mp hh with hh | hh
    · exact lin_ok x k.1 h hh
    · exact lins_ok r k.2 h hh
theorem lins_ok:∀ (x:Trs),x.ok→∀ h∈linTs x,LnOk h
  | .nil,k,h,hh=>by rw [linTs] at hh;cases hh
  | .cons x r,k,h,hh=>by
    unfold Trs.ok at k
    rw [linTs] at hh
    rcases List.mem_append.mp hh with hh | hh
    · exact lin_ok x k.1 h hh
    · exact lins_ok r k.2 h hh
end
theorem lnV_map (ts:List Hd):ts.map lnV=(ts.map Hd.line).map V.str:=by rw [List.map_map];rfl
theorem rdp_shown {l:Addr} {xs:List V} {D:Trs} (h1:H l=some (.lst xs)) (h2:TrsAt anyA H xs D) (h3:D.ok) (h4:D.deep < 6) (h5:(linTs D).length≤40) (q:∀ H',Same H H'→Q (.str (Str.join nl10 ((linTs D).map Hd.line))) H') :
    rd_shown K t { nx:=fun _ H'=>Q .non H',rt:=Q } (L2.start ["rows"] [.ref l]) H:=by
  simp only [rd_shown,sp_row_texts,L2.start,r_mt_join,tRet,tVar,tC,tCons,tNil,tBM,tyV,tCall,List.map,List.replicate,List.length,List.append,jqa,jqb,jqc,jqd,jqe,jqf,jqg,jqh,jqi,jqj,jqk,jql,jqm,jqn,and_true,true_and,and_assoc,jqo,jqp,jqq,Nat.reduceSub,Nat.reduceAdd,jqr,jqs,jqt,Int.reduceToNat,Int.reducePow,Int.reduceNeg,Int.reduceMul,Int.reduceAdd,if_true,ite_true,jqu,ite_false,if_false]
  refine ⟨xs,h1,D,h2,h3,h4,by lia,fun p H' s hp=>?_⟩
  rw [lnV_map] at hp
  refine ⟨_,SqL.of hp,Nat.le_trans (by rw [sp_nl];exact sumL_lines h5 (lins_ok D h3):_≤500000) (by decide),?_⟩
  rw [show joinS (Str.ofString "\n") ((linTs D).map Hd.line)=Str.join nl10 ((linTs D).map Hd.line) by rw [sp_nl];exact joinS_eq _ _]
  exact q H' s
def Trs.app:Trs→Trs→Trs
  | .nil,x=>x
  | .cons y r,x=>.cons y (r.app x)
theorem snoc_app (x:Tr) (b:Trs):∀ (a:Trs),(a.snoc x).app b=a.app (.cons x b)
  | .nil=>rfl
  | .cons y a=>by
    show Trs.cons y ((a.snoc x).app b)=Trs.cons y (a.app (.cons x b))
    rw [snoc_app x b a]
theorem app_nil:∀ (a:Trs),a.app .nil=a
  | .nil=>rfl
  | .cons x a=>by
    show Trs.cons x (a.app .nil)=Trs.cons x a
    rw [app_nil a]
theorem stp_plain {D:Trs} {fs:List Fm} {h:Hd} (p:h.plain):stp D fs h=some (D.snoc (.row h),fs):=by
  cases h <;> first | exact p.elim | rfl
theorem run_cons {D D':Trs} {fs fs':List Fm} {h:Hd} {r:List Hd} (e:stp D fs h=some (D',fs')):run D fs (h :: r)=run D' fs' r:=by
  show (match stp D fs h with | some z=>run z.1 z.2 r | none=>none)=_
  rw [e]
mutual
theorem run_lin:∀ (x:Tr) (D:Trs) (fs:List Fm) (r:List Hd),x.ok→x.deep + fs.length≤5→run D fs (linT x ++ r)=run (D.snoc x) fs r
  | .row h,D,fs,r,k,d=>by
    unfold Tr.ok at k
    rw [linT]
    exact run_cons (stp_plain k.2)
  | .iff T a b,D,fs,r,k,d=>by
    unfold Tr.ok at k
    have dd:(Tr.iff T a b).deep=max a.deep b.deep + 1:=by rw [Tr.deep]
    rw [dd] at d
    rw [linT]
    have s1:stp D fs (.iff T)=some (.nil,⟨T,false,.nil,D⟩ :: fs):=by
      show (if fs.length < 5 then _ else _)=_
      rw [if_pos (by lia)]
    rw [List.cons_append,run_cons s1,List.append_assoc,run_lins a .nil _ _ k.2.1 (by rw [List.length_cons];lia)]
    show run a _ _=_
    cases b with
    | nil =>
      rw [els,List.nil_append]
      have s2:stp a (⟨T,false,.nil,D⟩ :: fs) .nd=some (D.snoc (.iff T a .nil),fs):=rfl
      exact run_cons s2
    | cons y b =>
      rw [els,List.append_assoc,List.cons_append]
      have s3:stp a (⟨T,false,.nil,D⟩ :: fs) .els=some (.nil,⟨T,true,a,D⟩ :: fs):=rfl
      rw [run_cons s3]
      have:=run_lins (.cons y b) .nil (⟨T,true,a,D⟩ :: fs) ([Hd.nd] ++ r) k.2.2 (by rw [List.length_cons];lia)
      rw [linTs] at this
      rw [this]
      have s2:stp (.cons y b) (⟨T,true,a,D⟩ :: fs) .nd=some (D.snoc (.iff T a (.cons y b)),fs):=rfl
      exact run_cons s2
theorem run_lins:∀ (x:Trs) (D:Trs) (fs:List Fm) (r:List Hd),x.ok→x.deep + fs.length≤5→run D fs (linTs x ++ r)=run (D.app x) fs r
  | .nil,D,fs,r,k,d=>by
    rw [linTs,app_nil];rfl
  | .cons x xs,D,fs,r,k,d=>by
    unfold Trs.ok at k
    have dd:(Trs.cons x xs).deep=max x.deep xs.deep:=by rw [Trs.deep]
    rw [dd] at d
    rw [linTs,List.append_assoc,run_lin x D fs _ k.1 (by lia),run_lins xs _ fs r k.2 (by lia),snoc_app]
end
theorem run_self {D:Trs} (k:D.ok) (d:D.deep≤5):run .nil [] (linTs D)=some (D,[]):=by
  have:=run_lins D .nil [] [] k (by simpa using d)
  rw [List.append_nil] at this
  exact this
def elsH:List Hd→List Hd
  | .nd :: _=>[]
  | _=>[.els]
def filtH (h:Hd) (r:List Hd):List Hd:=match h with
  | .els=>elsH r
  | h=>[h]
def filt:List Hd→List Hd
  | []=>[]
  | h :: r=>filtH h r ++ filt r
def zlF:Trs→List Fm→List Hd
  | D,[]=>linTs D
  | D,f :: fs=>zlF f.up fs ++ (Hd.iff f.T :: (if f.c=true then linTs f.a ++ (Hd.els :: linTs D) else linTs D))
theorem lin_snoc (x:Tr):∀ (D:Trs),linTs (D.snoc x)=linTs D ++ linT x
  | .nil=>by show linTs (.cons x .nil)=linTs .nil ++ linT x;simp [linTs]
  | .cons y D=>by
    show linTs (.cons y (D.snoc x))=_
    rw [linTs,linTs,lin_snoc x D,List.append_assoc]
def sprI (c m:Int) (A:Addr) (H:Hp) (i:Nat) (σ:St) (H':Hp):Prop:=∃ lo hi o,∃ xs:List Int,σ=[some (.int c),some (.int m),some (.ref A),some (.int lo),some (.int hi),o]∧(0≤lo∧lo < 2000000000)∧(0≤hi∧hi < 2000000000)∧H' A=some (.lst (xs.map V.int))∧xs.length=i∧(∀ x∈xs,spI x)∧Same H H'
theorem spI_mod (e:Int):spI (e % 268435399):=⟨Int.emod_nonneg _ (by decide),Int.emod_lt_of_pos _ (by decide)⟩
theorem spr_put {c m lo hi e:Int} {A:Addr} {H H':Hp} {i:Nat} {o:Option V} {xs:List Int} (hA:H A=none) (hx:H' A=some (.lst (xs.map V.int))) (hl:xs.length=i) (hs:∀ x∈xs,spI x) (S:Same H H') (l1:0≤lo∧lo < 2000000000) (l2:0≤hi∧hi < 2000000000) :
    sprI c m A H (i + 1) [some (.int c),some (.int m),some (.ref A),some (.int lo),some (.int hi),o] (upd H' A (.lst (xs.map V.int ++ [V.int (e % 268435399)]))):=by
  refine ⟨_,_,_,xs ++ [e % 268435399],rfl,l1,l2,?_,?_,?_,?_⟩
  · rw [upd_same,List.map_append];rfl
  · rw [List.length_append,hl];rfl
  · intro x hx
    rcases List.mem_append.mp hx with h | h
    · exact hs x h
    · rw [List.mem_singleton.mp h];exact spI_mod _
  · exact fun b o e=>by rw [upd_ne (fun z=>by subst z;rw [hA] at e;cases e)];exact S _ _ e
theorem rdp__law_spread {c m:Int} (h0:0≤m) (h1:m≤64) (q:∀ l xs H',Same H H'→H' l=some (.lst (List.map V.int xs))→(xs.length:Int)=m→(∀ x∈xs,spI x)→Q (.ref l) H') :
    rd__law_spread K t { nx:=fun _ H'=>Q .non H',rt:=Q } (L2.start ["cell","many","spread","low","high","k"] [.int c,.int m]) H:=by
  simp only [rd__law_spread,L2.start,r_mt_append,rAppend,tSeq,tAsg,gName,tRet,tDrop,tOp,tVar,tC,tLst,tCons,tNil,tFor,tBM,tyV,iRng1,rI,rI0,List.map,List.replicate,List.length,List.append,jqa,jqb,jqc,jqd,jqe,jqf,jqg,jqh,jqi,jqj,jqk,jql,jqm,jqn,and_true,true_and,and_assoc,jqo,jqp,jqq,Nat.reduceSub,Nat.reduceAdd,jqr,jqs,jqt,Int.reduceToNat,Int.reducePow,Int.reduceNeg,Int.reduceMul,Int.reduceAdd,if_true,ite_true,jqu,ite_false,if_false]
  have hb:(10000000000000000000000000000000000000000000000:Int) < big:=by decide +kernel
  have g1:=Int.emod_nonneg c (b:=1000000007) (by decide)
  have g2:=Int.emod_lt_of_pos c (b:=1000000007) (by decide)
  have g3:=Int.emod_nonneg (c / 1000000007) (b:=998244353) (by decide)
  have g4:=Int.emod_lt_of_pos (c / 1000000007) (b:=998244353) (by decide)
  refine ⟨Nat.zero_le _,fun A hA=>⟨by decide,dB,by decide,by lia,by lia,loop_range (sprI c m A H) ⟨_,_,_,[],rfl,⟨by lia,by lia⟩,⟨by lia,by lia⟩,upd_same,rfl,(fun _ z=>nomatch z),isV A hA⟩ ?_ ?_⟩⟩
  · rintro i σ H' hi ⟨lo,hi,o,xs,rfl,l1,l2,hx,hl,hs,S⟩
    simp only [L2.start,r_mt_append,rAppend,tSeq,tAsg,gName,tRet,tDrop,tOp,tVar,tC,tLst,tCons,tNil,tFor,tBM,tyV,iRng1,rI,rI0,List.map,List.replicate,List.length,List.append,jqa,jqb,jqc,jqd,jqe,jqf,jqg,jqh,jqi,jqj,jqk,jql,jqm,jqn,and_true,true_and,and_assoc,jqo,jqp,jqq,Nat.reduceSub,Nat.reduceAdd,jqr,jqs,jqt,Int.reduceToNat,Int.reducePow,Int.reduceNeg,Int.reduceMul,Int.reduceAdd,if_true,ite_true,jqu,ite_false,if_false]
    refine ⟨⟨⟨by lia,by lia⟩,by lia,by lia⟩,⟨⟨by lia,by lia⟩,by lia,by lia⟩,by decide,⟨⟨by lia,by lia⟩,by lia,by lia⟩,dB,by decide,.inl ⟨_,SqL.of hx⟩,by decide,_,hx,Nat.lt_of_lt_of_le (m:=100000) (by rw [List.length_map];lia) (by decide),?_⟩
    exact spr_put hA hx hl hs S ⟨Int.emod_nonneg _ (by decide),Int.lt_trans (Int.emod_lt_of_pos _ (by decide)) (by decide)⟩ ⟨Int.emod_nonneg _ (by decide),Int.lt_trans (Int.emod_lt_of_pos _ (by decide)) (by decide)⟩
  · rintro σ H' ⟨lo,hi,o,xs,rfl,l1,l2,hx,hl,hs,S⟩
    exact ⟨_,rfl,q _ _ _ S hx (by lia) hs⟩
theorem at_xs {xs:List Int} {k:Nat} (h:k < xs.length) (hs:∀ x∈xs,spI x):∃ x,atI (xs.map V.int) (k:Int)=some (V.int x)∧spI x:=by
  obtain ⟨v,h1,h2⟩:=at_lt (xs:=xs.map V.int) (i:=(k:Int)) (by lia) (by rw [List.length_map];lia)
  obtain ⟨x,hx,rfl⟩:=List.mem_map.mp h2
  exact ⟨x,h1,hs x hx⟩
theorem rdp_nm5 {p:Addr} {ws:List Str} {o0 o1 o2 o3 o4 o5 o6:Option V} (hp:H p=some (.lst (ws.map V.str))) (hl:ws.length=4) (hw:∀ w∈ws,LW w) (q:∀ nm H',Same H H'→NamesAt H' nm→Q (.ref nm) H') :
    rd__law_names_5 K t { nx:=fun _ H'=>Q .non H',rt:=Q } [o0,o1,o2,o3,o4,o5,o6,some (.ref p)] H:=by
  simp only [rd__law_names_5,sp__law_free,L2.start,gName,tRet,tVar,tCons,tNil,tCall,tComp,tYes,capV,iList,List.map,List.replicate,List.length,List.append,jqa,jqb,jqc,jqd,jqe,jqf,jqg,jqh,jqi,jqj,jqk,jql,jqm,jqn,and_true,true_and,and_assoc,jqo,jqp,jqq,Nat.reduceSub,Nat.reduceAdd,jqr,jqs,jqt,Int.reduceToNat,Int.reducePow,Int.reduceNeg,Int.reduceMul,Int.reduceAdd,if_true,ite_true,jqu,ite_false,if_false]
  refine ⟨⟨_,SqL.of hp⟩,fun D hD=>?_⟩
  refine comp_gen (J:=Itl K p) 4 (by lia) (fun τ=>∃ o,τ=[o]) (fun i v=>nmV v) ⟨_,rfl⟩ (fun i H s h=>⟨ws.map V.str,_,SqL.of (s _ _ hp),List.getElem?_eq_getElem (by rw [List.length_map,hl];exact h)⟩) (fun H s=>⟨ws.map V.str,SqL.of (s _ _ hp),by rw [List.length_map,hl];exact Nat.le_refl _⟩) hD ?_ ?_
  · rintro i v τ H3 H' ⟨o,rfl⟩ s hi ⟨rfl,hv⟩
    obtain ⟨x,hx,rfl⟩:=List.mem_map.mp (List.mem_of_getElem? (hv _ (SqL.of (s _ _ hp))))
    simp only [L2.start,gName,tRet,tVar,tCons,tNil,tCall,tComp,tYes,capV,iList,List.map,List.replicate,List.length,List.append,jqa,jqb,jqc,jqd,jqe,jqf,jqg,jqh,jqi,jqj,jqk,jql,jqm,jqn,and_true,true_and,and_assoc,jqo,jqp,jqq,Nat.reduceSub,Nat.reduceAdd,jqr,jqs,jqt,Int.reduceToNat,Int.reducePow,Int.reduceNeg,Int.reduceMul,Int.reduceAdd,if_true,ite_true,jqu,ite_false,if_false]
    have:=(hw x hx).2.2
    exact ⟨by lia,fun H4 s4=>⟨⟨_,rfl⟩,⟨_,rfl,free_name (hw x hx)⟩,s4⟩⟩
  · intro ys H' hly hv s hq
    obtain ⟨ls,rfl,hll,hok⟩:=names_of hly hv
    exact q _ _ s ⟨ls,hq,hll,hok⟩
def ltV (v:V):Prop:=∃ c:Nat,v=.str ⟨#[c]⟩∧inL c=true
theorem rdp_nm4 {c at_:Int} {base:Str} {l:Addr} {xs:List Int} (hb:LW base) (h0:0≤at_) (h1:at_ < base.length) (hx:H l=some (.lst (xs.map V.int))) (hl:xs.length=9) (hs:∀ x∈xs,spI x) (q:∀ nm H',Same H H'→NamesAt H' nm→Q (.ref nm) H') :
    rd__law_names_4 K t { nx:=fun _ H'=>Q .non H',rt:=Q } [some (.int c),some (.str (Str.ofString "abcdefghijklmnopqrstuvwxyz")),some (.ref l),some (.str base),some (.int at_),none,none,none] H:=by
  obtain ⟨m,rfl⟩:∃ m:Nat,at_=m:=⟨at_.toNat,by lia⟩
  have hb3:=hb.2.2
  have hbig:(100000000000:Int) < big:=by decide +kernel
  simp only [rd__law_names_4,sp__law_letters,L2.start,r_mt_find,tSeq,tAsg,gName,tRet,tOp,tVar,tC,tLst,tCons,tNil,tIfS,tTest,tBM,tyV,tSl,tPart,tNoPart,tCall,tComp,tYes,capV,iRng1,iList,rIxL,rIxS,rEq,rI,rI0,rSlS,rAddS,scal,List.map,List.replicate,List.length,List.append,jqa,jqb,jqc,jqd,jqe,jqf,jqg,jqh,jqi,jqj,jqk,jql,jqm,jqn,and_true,true_and,and_assoc,jqo,jqp,jqq,Nat.reduceSub,Nat.reduceAdd,jqr,jqs,jqt,Int.reduceToNat,Int.reducePow,Int.reduceNeg,Int.reduceMul,Int.reduceAdd,if_true,ite_true,jqu,ite_false,if_false]
  obtain ⟨d,hd,_⟩:=at_lt (xs:=base.cps.toList) (i:=(m:Int)) (by lia) (by rw [← len_cps];exact h1)
  obtain ⟨x0,e0,s0⟩:=at_xs (k:=0) (by lia) hs
  refine ⟨by decide,ite2 (fun e=>⟨small_size (by lia),d,hd,by decide,by decide,fun D hD=>?_⟩) fun e=>⟨by decide,ite2 (fun e2=>⟨_,SqL.of hx,_,e0,_,rfl,by decide,by decide,fun x H2 hx hall s2=>?_⟩) fun e2=>⟨by decide,by decide,fun D hD=>?_⟩⟩⟩
  · generalize findS (Str.ofString "abcdefghijklmnopqrstuvwxyz") ⟨#[d]⟩=f
    refine comp_gen (J:=Itr 0 (4:Int).toNat) 4 (by lia) (fun τ=>∃ o,τ=[o,some (.str (Str.ofString "abcdefghijklmnopqrstuvwxyz")),some (.int f)]) (fun i v=>ltV v) ⟨_,rfl⟩ (fun i H _ h=>h) (fun H _=>Nat.le_refl _) hD ?_ ?_
    · rintro i v τ H2 H' ⟨o,rfl⟩ s hi ⟨rfl,rfl⟩
      simp only [L2.start,r_mt_find,tSeq,tAsg,gName,tRet,tOp,tVar,tC,tLst,tCons,tNil,tIfS,tTest,tBM,tyV,tSl,tPart,tNoPart,tCall,tComp,tYes,capV,iRng1,iList,rIxL,rIxS,rEq,rI,rI0,rSlS,rAddS,scal,List.map,List.replicate,List.length,List.append,jqa,jqb,jqc,jqd,jqe,jqf,jqg,jqh,jqi,jqj,jqk,jql,jqm,jqn,and_true,true_and,and_assoc,jqo,jqp,jqq,Nat.reduceSub,Nat.reduceAdd,jqr,jqs,jqt,Int.reduceToNat,Int.reducePow,Int.reduceNeg,Int.reduceMul,Int.reduceAdd,if_true,ite_true,jqu,ite_false,if_false]
      obtain ⟨c2,hc2,hm2⟩:=at_mod (f + 7 * (0 + (i:Int))) 26 abc_len (by decide)
      exact ⟨⟨by lia,by lia⟩,by decide,by decide +kernel,c2,hc2,⟨_,rfl⟩,⟨_,rfl,abc_in c2 hm2⟩,Same.refl _⟩
    · intro ys H1 hly hv s hq
      refine ⟨⟨_,SqL.of hq⟩,fun D2 hD2=>?_⟩
      refine comp_gen (J:=Itl K D) 4 (by lia) (fun τ=>∃ o,τ=[o,some (.str base),some (.int (m:Int))]) (fun i v=>lwV v) ⟨_,rfl⟩ (fun i H s h=>⟨ys,_,SqL.of (s _ _ hq),List.getElem?_eq_getElem (by rw [hly];exact h)⟩) (fun H s=>⟨ys,SqL.of (s _ _ hq),by rw [hly];exact Nat.le_refl _⟩) hD2 ?_ ?_
      · rintro i v τ H2 H' ⟨o,rfl⟩ s2 hi ⟨rfl,hv2⟩
        obtain ⟨c2,rfl,hm2⟩:=hv i v (hv2 _ (SqL.of (s2 _ _ hq)))
        simp only [L2.start,r_mt_find,tSeq,tAsg,gName,tRet,tOp,tVar,tC,tLst,tCons,tNil,tIfS,tTest,tBM,tyV,tSl,tPart,tNoPart,tCall,tComp,tYes,capV,iRng1,iList,rIxL,rIxS,rEq,rI,rI0,rSlS,rAddS,scal,List.map,List.replicate,List.length,List.append,jqa,jqb,jqc,jqd,jqe,jqf,jqg,jqh,jqi,jqj,jqk,jql,jqm,jqn,and_true,true_and,and_assoc,jqo,jqp,jqq,Nat.reduceSub,Nat.reduceAdd,jqr,jqs,jqt,Int.reduceToNat,Int.reducePow,Int.reduceNeg,Int.reduceMul,Int.reduceAdd,if_true,ite_true,jqu,ite_false,if_false]
        have lw:=LW_swap hb (k:=m) (by lia) hm2
        have l1:=Txt.slice_le base none (some (m:Int))
        have l2:=Txt.slice_le base (some ((m:Int) + 1)) none
        exact ⟨small_size (by lia),small_size (by rw [one_len];lia),small_size (by lia),small_size (by rw [len_app,one_len];lia),⟨_,rfl⟩,⟨_,rfl,lw⟩,Same.refl _⟩
      · intro ys H' hly hv s2 hq
        obtain ⟨ls,rfl,hll,hok⟩:=lw_list hly hv
        exact rdp_nm5 hq hll hok fun nm H' s' hn=>q nm H' (s.trans (s2.trans s')) hn
  · have lw:LW x:=⟨hall,by lia,by lia⟩
    have t1:=LW_take lw (k:=1 + m) (by lia)
    have t2:=LW_take lw (k:=2 + m) (by lia)
    have t3:=LW_take lw (k:=3 + m) (by lia)
    rw [show ((1 + m:Nat):Int)=1 + (m:Int) by lia] at t1
    rw [show ((2 + m:Nat):Int)=2 + (m:Int) by lia] at t2
    rw [show ((3 + m:Nat):Int)=3 + (m:Int) by lia] at t3
    refine ⟨small_size (by lia),small_size (by lia),small_size (by lia),by decide,fun p hp=>?_⟩
    have S:=s2.trans (isV (o:=HO.lst [V.str (Txt.slice x none (some (1 + (m:Int)))),V.str (Txt.slice x none (some (2 + (m:Int)))),V.str (Txt.slice x none (some (3 + (m:Int)))),V.str x]) p hp)
    refine rdp_nm5 (ws:=[Txt.slice x none (some (1 + (m:Int))),Txt.slice x none (some (2 + (m:Int))),Txt.slice x none (some (3 + (m:Int))),x]) upd_same rfl (fun w hw=>?_) fun nm H' s' hn=>q nm H' (S.trans s') hn
    simp only [List.mem_cons,List.not_mem_nil,or_false] at hw
    rcases hw with rfl | rfl | rfl | rfl
    · exact t1
    · exact t2
    · exact t3
    · exact lw
  · refine comp_gen (J:=Itr 0 (4:Int).toNat) 4 (by lia) (fun τ=>∃ o,τ=[o,some (.ref l)]) (fun i v=>lwV v) ⟨_,rfl⟩ (fun i H _ h=>h) (fun H _=>Nat.le_refl _) hD ?_ ?_
    · rintro i v τ H2 H' ⟨o,rfl⟩ s hi ⟨rfl,rfl⟩
      simp only [L2.start,r_mt_find,tSeq,tAsg,gName,tRet,tOp,tVar,tC,tLst,tCons,tNil,tIfS,tTest,tBM,tyV,tSl,tPart,tNoPart,tCall,tComp,tYes,capV,iRng1,iList,rIxL,rIxS,rEq,rI,rI0,rSlS,rAddS,scal,List.map,List.replicate,List.length,List.append,jqa,jqb,jqc,jqd,jqe,jqf,jqg,jqh,jqi,jqj,jqk,jql,jqm,jqn,and_true,true_and,and_assoc,jqo,jqp,jqq,Nat.reduceSub,Nat.reduceAdd,jqr,jqs,jqt,Int.reduceToNat,Int.reducePow,Int.reduceNeg,Int.reduceMul,Int.reduceAdd,if_true,ite_true,jqu,ite_false,if_false]
      have hx':=s _ _ hx
      obtain ⟨x1,e1,s1⟩:=at_xs (k:=i + 1) (by lia) hs
      obtain ⟨x2,e2,s2⟩:=at_xs (k:=i + 5) (by lia) hs
      have i1:(0 + (i:Int)) + 1=((i + 1:Nat):Int):=by lia
      have i2:(0 + (i:Int)) + 5=((i + 5:Nat):Int):=by lia
      rw [i1,i2]
      refine ⟨_,SqL.of hx',_,e1,_,SqL.of hx',_,e2,_,rfl,by decide,_,rfl,by lia,by lia,fun x H3 hx hall s3=>⟨⟨_,rfl⟩,⟨_,rfl,hall,by lia,by lia⟩,s3⟩⟩
    · intro ys H' hly hv s hq
      obtain ⟨ls,rfl,hll,hok⟩:=lw_list hly hv
      exact rdp_nm5 hq hll hok fun nm H' s' hn=>q nm H' (s.trans s') hn
theorem rdp__law_names {c:Int} (q:∀ nm H',Same H H'→NamesAt H' nm→Q (.ref nm) H') :
    rd__law_names K t { nx:=fun _ H'=>Q .non H',rt:=Q } (L2.start ["cell","letters","xs","base","at","first","turned","some"] [.int c]) H:=by
  simp only [rd__law_names,sp__law_spread,sp__law_letters,L2.start,r_mt_find,tSeq,tAsg,gName,tRet,tOp,tVar,tC,tLst,tCons,tNil,tIfS,tTest,tCB,tBM,tyV,tSl,tPart,tNoPart,tCall,tComp,tYes,capV,LenV,iRng1,iList,rIxL,rIxS,rEq,rI,rI0,rSlS,rAddS,cLen,scal,List.map,List.replicate,List.length,List.append,jqa,jqb,jqc,jqd,jqe,jqf,jqg,jqh,jqi,jqj,jqk,jql,jqm,jqn,and_true,true_and,and_assoc,jqo,jqp,jqq,Nat.reduceSub,Nat.reduceAdd,jqr,jqs,jqt,Int.reduceToNat,Int.reducePow,Int.reduceNeg,Int.reduceMul,Int.reduceAdd,if_true,ite_true,jqu,ite_false,if_false]
  have g1:=Int.emod_nonneg (c / 3) (b:=6) (by decide)
  have g2:=Int.emod_lt_of_pos (c / 3) (b:=6) (by decide)
  refine ⟨by decide,by decide,fun l xs H1 s1 hx hl hs=>?_⟩
  obtain ⟨x0,e0,s0⟩:=at_xs (k:=0) (by lia) hs
  obtain ⟨x1,e1,t1⟩:=at_xs (k:=1) (by lia) hs
  refine ⟨_,SqL.of hx,_,e0,dB,by decide,_,rfl,by lia,by lia,fun x H2 hx2 hall s2=>⟨_,SqL.of (s2 _ _ hx),_,e1,small_size (by lia),_,rfl,by lia,?_⟩⟩
  have S:=s1.trans s2
  exact rdp_nm4 ⟨hall,by lia,by lia⟩ (Int.emod_nonneg _ (by lia)) (Int.emod_lt_of_pos _ (by lia)) (s2 _ _ hx) (by lia) hs fun nm H' s hn=>q nm H' (S.trans s) hn
def NB (w:Str):Prop:=32 ∉ w.cps.toList∧10 ∉ w.cps.toList
theorem nb_of {w:Str} {lo:Nat} (h:∀ c∈w.cps.toList,33≤c):NB w:=⟨fun z=>by have:=h _ z;lia,fun z=>by have:=h _ z;lia⟩
theorem name_nb {x:Str} (h:isName x=true):NB x:=nb_of (lo:=0) fun c hc=>by
  have:=inL_iff c (List.all_eq_true.mp (isName_parts h).2.2.2 c hc)
  lia
theorem num_nb (w:Int):NB (numS w):=nb_of (lo:=0) fun c hc=>by
  have d:∀ (m c:Nat),c∈dg m→33≤c:=fun m c h=>by have:=dg_all m c h;lia
  rcases Int.lt_or_le w 0 with h0 | h0
  · obtain ⟨m,rfl,hm⟩:∃ m:Nat,w=-(m:Int)∧0 < m:=⟨w.natAbs,by lia,by lia⟩
    rw [numS_neg hm] at hc
    rcases List.mem_cons.mp hc with rfl | hc
    · decide
    · exact d m c hc
  · obtain ⟨m,rfl⟩:∃ m:Nat,w=(m:Int):=⟨w.natAbs,by lia⟩
    rw [numS_nat] at hc
    exact d m c hc
def WOk (w:Str):Prop:=(w.length≤100∧Asc w)∧NB w
theorem name_w {x:Str} (h:isName x=true):WOk x:=⟨(name_leaf h).2.2.2 x (List.mem_singleton.mpr rfl),name_nb h⟩
theorem const_w {x:Str} (h:(decide (x.length≤100) && x.cps.toList.all (fun c=>decide (c < 128) && decide (c≠32) && decide (c≠10)))=true):WOk x:=by
  rw [Bool.and_eq_true,List.all_eq_true] at h
  have g:∀ c∈x.cps.toList,c < 128∧c≠32∧c≠10:=fun c hc=>by
    have:=h.2 c hc
    simp only [Bool.and_eq_true,decide_eq_true_eq] at this
    exact ⟨this.1.1,this.1.2,this.2⟩
  exact ⟨⟨of_decide_eq_true h.1,fun c hc=>(g c hc).1⟩,fun z=>(g _ z).2.1 rfl,fun z=>(g _ z).2.2 rfl⟩
theorem lnok {hd:Hd} (h1:hd.ok) (h2:∀ w∈hd.words,WOk w) (h3:hd.words.length≤60):LnOk hd:=⟨h1,fun w hw=>(h2 w hw).1,h3,fun w hw=>(h2 w hw).2⟩
theorem leaf_at {H':Hp} {x:Str} {v:V} {p p1 p2:Addr} (h:wfT (.leaf x)∧okT (.leaf x)=true∧pvw x=v∧okWs [x]) (hb:NB x) (hp:H' p=none) (hp1:upd H' p (.lst [.str x]) p1=none) (hp2:upd (upd H' p (.lst [.str x])) p1 (.tup [v]) p2=none) :
    NodeAt (upd (upd (upd H' p (.lst [.str x])) p1 (.tup [v])) p2 (.tup [.ref p,.ref p1])) (p2,.leaf x):=by
  obtain ⟨h1,h2,h3,h4⟩:=h
  have n1:p≠p1:=fun z=>by rw [← z,upd_same] at hp1;cases hp1
  have n2:p1≠p2:=fun z=>by rw [← z,upd_same] at hp2;cases hp2
  have n3:p≠p2:=fun z=>by rw [← z,upd_ne n1,upd_same] at hp2;cases hp2
  refine ⟨p,p1,upd_same,?_,?_,h1,h2,h4,fun w hw=>?_⟩
  · rw [upd_ne n3,upd_ne n1];exact upd_same
  · rw [upd_ne n2,upd_same]
    show _=some (HO.tup [pvw x])
    rw [h3]
  · rw [List.mem_singleton.mp hw];exact hb
theorem rdp_lf3 {c w:Int} {nm:Addr} {o2:Option V} (hw:inW w=true) (q:∀ (n:Nd) H',Same H H'→NodeAt H' n→(pre n.2).length=1→Q (.ref n.1) H') :
    rd__law_leaf_3 K t { nx:=fun _ H'=>Q .non H',rt:=Q } [some (.int c),some (.ref nm),o2,some (.int w)] H:=by
  simp only [rd__law_leaf_3,L2.start,tRet,tVar,tLst,tTup,tCons,tNil,tCB,cStr,List.map,List.replicate,List.length,List.append,jqa,jqb,jqc,jqd,jqe,jqf,jqg,jqh,jqi,jqj,jqk,jql,jqm,jqn,and_true,true_and,and_assoc,jqo,jqp,jqq,Nat.reduceSub,Nat.reduceAdd,jqr,jqs,jqt,Int.reduceToNat,Int.reducePow,Int.reduceNeg,Int.reduceMul,Int.reduceAdd,if_true,ite_true,jqu,ite_false,if_false]
  have:=inW_iff.mp hw
  have hb:(1000000000000000000000000000001:Nat) < 10 ^ 40:=by decide +kernel
  refine ⟨log_inW hw,by decide,fun p hp=>⟨by decide,fun p1 hp1=>⟨by decide,fun p2 hp2=>?_⟩⟩⟩
  exact q (p2,.leaf (numS w)) _ ((isV p hp).trans ((isV p1 hp1).trans (isV p2 hp2))) (leaf_at (num_leaf hw) (num_nb w) hp hp1 hp2) rfl
theorem pow4 {c:Int} (h:spI c):CPow c 4:=by
  unfold spI at h
  exact ⟨by decide,by decide,by lia⟩
theorem rdp__law_leaf {c:Int} {nm:Addr} (hc:spI c) (h1:NamesAt H nm) (q:∀ (n:Nd) H',Same H H'→NodeAt H' n→(pre n.2).length=1→Q (.ref n.1) H') :
    rd__law_leaf K t { nx:=fun _ H'=>Q .non H',rt:=Q } (L2.start ["number","names","name","worth"] [.int c,.ref nm]) H:=by
  simp only [rd__law_leaf,L2.start,tSeq,tAsg,gName,tRet,tNext,tOp,tVar,tC,tLst,tTup,tCons,tNil,tIfS,tTest,tCB,rIxL,rEq,rI,rI0,cStr,scal,List.map,List.replicate,List.length,List.append,jqa,jqb,jqc,jqd,jqe,jqf,jqg,jqh,jqi,jqj,jqk,jql,jqm,jqn,and_true,true_and,and_assoc,jqo,jqp,jqq,Nat.reduceSub,Nat.reduceAdd,jqr,jqs,jqt,Int.reduceToNat,Int.reducePow,Int.reduceNeg,Int.reduceMul,Int.reduceAdd,if_true,ite_true,jqu,ite_false,if_false]
  have P30:=pow10 (j:=30) (by decide) (by decide)
  have hb:(10000000000000000000000000000000000000000000000:Int) < big:=by decide +kernel
  have P4:=pow4 hc
  refine ⟨by decide,ite2 (fun _=>⟨dB,by decide,?_⟩) fun _=>⟨dB,by decide,by decide,ite2 (fun _=>⟨P4,P30,⟨by lia,by lia⟩,by decide,P30,?_⟩) fun _=>?_⟩⟩
  · obtain ⟨ws,e,hl,hn⟩:=h1
    obtain ⟨v,hv,hm⟩:=at_mod (xs:=ws.map V.str) (c / 4) 4 (by rw [List.length_map];exact hl) (by decide)
    obtain ⟨z,hz,rfl⟩:=List.mem_map.mp hm
    refine ⟨_,SqL.of e,_,hv,by decide,fun p hp=>⟨by decide,fun p1 hp1=>⟨by decide,fun p2 hp2=>?_⟩⟩⟩
    exact q (p2,.leaf z) _ ((isV p hp).trans ((isV p1 hp1).trans (isV p2 hp2))) (leaf_at (name_leaf (hn z hz)) (name_nb (hn z hz)) hp hp1 hp2) rfl
  · exact rdp_lf3 (inW_iff.mpr (by lia)) q
  · exact rdp_lf3 (inW_iff.mpr (by lia)) q
theorem rdp_lj3 {s:Addr} {ns:List Nd} {n1 n2:Nd} {c:Nat} {k:Int} {w:Str} (hw:isJ (.str w)=true) (hwl:w.length≤100∧Asc w) (hwb:32 ∉ w.cps.toList∧10 ∉ w.cps.toList) (h1:Som H s (ns ++ [n1,n2]) c) (h2:c≤1000) (q:∀ s' n3 H',Same H H'→Som H' s' (ns ++ [n3]) c→Q (.ref s') H') :
    rd__law_joined_3 K t { nx:=fun _ H'=>Q .non H',rt:=Q } [some (.ref s),some (.int k),some (.str w),some (.ref n1.1),some (.ref n2.1)] H:=by
  obtain ⟨hs,hn,hl⟩:=h1
  obtain ⟨w1,t1,a1,a2,a3,f1,o1,k1,v1⟩:=hn n1 (by simp)
  obtain ⟨w2,t2,b1,b2,b3,f2,o2,k2,v2⟩:=hn n2 (by simp)
  have ht:(ns ++ [n1,n2]).map (fun n=>V.ref n.1)=ns.map (fun n=>V.ref n.1) ++ [.ref n1.1,.ref n2.1]:=by simp
  rw [ht] at hs
  rw [lens_app,lens_two,List.length_append] at hl
  have hl:lens ns + ((pre n1.2).length + (pre n2.2).length) + (ns.length + 2)=c:=hl
  have p1l:=pst_len n1.2
  have p2l:=pst_len n2.2
  have e1:=pst_ne n1.2
  have e2:=pst_ne n2.2
  have l1:((pre n1.2).map V.str).length=(pre n1.2).length:=List.length_map ..
  have l2:((pre n2.2).map V.str).length=(pre n2.2).length:=List.length_map ..
  simp only [rd__law_joined_3,rCat,L2.start,rIxT,rCatT,tRet,tOp,tUn,tVar,tC,tLst,tTup,tCons,tNil,tSl,tPart,tNoPart,rCat,rIxT,rU,rSlL,List.map,List.replicate,List.length,List.append,jqa,jqb,jqc,jqd,jqe,jqf,jqg,jqh,jqi,jqj,jqk,jql,jqm,jqn,and_true,true_and,and_assoc,jqo,jqp,jqq,Nat.reduceSub,Nat.reduceAdd,jqr,jqs,jqt,Int.reduceToNat,Int.reducePow,Int.reduceNeg,Int.reduceMul,Int.reduceAdd,if_true,ite_true,jqu,ite_false,if_false]
  refine ⟨_,SqL.of hs,fun p hp=>?_⟩
  rw [cut_m2]
  obtain ⟨H1,eH,s1,q1⟩:=new_obj (o:=HO.lst (ns.map (fun n=>V.ref n.1))) hp
  rw [← eH]
  clear eH hp
  refine ⟨by decide,fun p1 hp1=>?_⟩
  obtain ⟨H2,eH,s2,q2⟩:=new_obj (o:=HO.lst [V.str w]) hp1
  rw [← eH]
  clear eH hp1
  have S2:=s1.trans s2
  refine ⟨_,SqT.of (S2 _ _ a1),_,rfl,w1,rfl,_,q2,_,S2 _ _ a2,small_size (by show 1 + _≤_;lia),fun p2 hp2=>?_⟩
  obtain ⟨H3,eH,s3,q3⟩:=new_obj (o:=HO.lst ([V.str w] ++ (pre n1.2).map V.str)) hp2
  rw [← eH]
  clear eH hp2
  have S3:=S2.trans s3
  refine ⟨_,SqT.of (S3 _ _ b1),_,rfl,w2,rfl,_,q3,_,S3 _ _ b2,small_size (by rw [List.length_append];show 1 + _ + _≤_;lia),fun p3 hp3=>?_⟩
  obtain ⟨H4,eH,s4,q4⟩:=new_obj (o:=HO.lst ([V.str w] ++ (pre n1.2).map V.str ++ (pre n2.2).map V.str)) hp3
  rw [← eH]
  clear eH hp3
  have S4:=S3.trans s4
  refine ⟨_,SqT.of (S4 _ _ a1),_,rfl,_,SqT.of (S4 _ _ b1),_,rfl,t1,rfl,t2,rfl,_,SqT.of (S4 _ _ a3),_,SqT.of (S4 _ _ b3),e1,small_size (by lia),fun z=>absurd z e2,fun _ p4 hp4=>⟨by decide,?_⟩⟩
  obtain ⟨H5,eH,s5,q5⟩:=new_obj (o:=HO.tup (pst n1.2 ++ pst n2.2)) hp4
  rw [← eH]
  clear eH hp4
  intro p5 hp5
  obtain ⟨H6,eH,s6,q6⟩:=new_obj (o:=HO.tup [V.str w]) hp5
  rw [← eH]
  clear eH hp5
  refine ⟨_,SqT.of (s6 _ _ q5),_,SqT.of q6,(fun z=>e1 (List.append_eq_nil_iff.mp z).1),small_size (by rw [List.length_append];show _ + 1≤_;lia),fun z=>(by cases z),fun _ p6 hp6=>⟨by decide,?_⟩⟩
  obtain ⟨H7,eH,s7,q7⟩:=new_obj (o:=HO.tup (pst n1.2 ++ pst n2.2 ++ [V.str w])) hp6
  rw [← eH]
  clear eH hp6
  intro p7 hp7
  obtain ⟨H8,eH,s8,q8⟩:=new_obj (o:=HO.tup [V.ref p3,V.ref p6]) hp7
  rw [← eH]
  clear eH hp7
  refine ⟨by decide,fun p8 hp8=>?_⟩
  obtain ⟨H9,eH,s9,q9⟩:=new_obj (o:=HO.lst [V.ref p7]) hp8
  rw [← eH]
  clear eH hp8
  have S49:=s5.trans (s6.trans (s7.trans (s8.trans s9)))
  refine ⟨_,S49 _ _ (s4 _ _ (s3 _ _ (s2 _ _ q1))),_,q9,small_size (by rw [List.length_map];show _ + 1≤_;lia),fun p9 hp9=>?_⟩
  obtain ⟨HA,eH,sA,qA⟩:=new_obj (o:=HO.lst (ns.map (fun n=>V.ref n.1) ++ [V.ref p7])) hp9
  rw [← eH]
  clear eH hp9
  have S:=S4.trans (S49.trans sA)
  refine q p9 (p7,.node w n1.2 n2.2) HA S ⟨by rw [qA];simp,fun n hn'=>?_,?_⟩
  · rcases List.mem_append.mp hn' with h | h
    · exact (hn n (List.mem_append_left _ h)).same S
    · have:n=(p7,.node w n1.2 n2.2):=by simpa using h
      subst this
      refine ⟨p3,p6,sA _ _ (s9 _ _ q8),?_,sA _ _ (s9 _ _ (s8 _ _ q7)),⟨hw,f1,f2⟩,?_,fun x hx=>?_,fun x hx=>?_⟩
      · have:=sA _ _ (S49 _ _ q4)
        rw [this]
        simp [pre]
      · show (okT n1.2 && okT n2.2)=true
        rw [o1,o2];rfl
      · have hx:x=w∨x∈pre n1.2∨x∈pre n2.2:=by simpa [pre] using hx
        rcases hx with rfl | hx | hx
        · exact hwl
        · exact k1 x hx
        · exact k2 x hx
      · have hx:x=w∨x∈pre n1.2∨x∈pre n2.2:=by simpa [pre] using hx
        rcases hx with rfl | hx | hx
        · exact hwb
        · exact v1 x hx
        · exact v2 x hx
  · rw [lens_app,lens_one,List.length_append]
    show lens ns + (pre (Tw.node w n1.2 n2.2)).length + (ns.length + 1)=c
    simp [pre]
    lia
theorem rdp__law_joined {s:Addr} {ns:List Nd} {n1 n2:Nd} {c:Nat} {k:Int} (h1:Som H s (ns ++ [n1,n2]) c) (h2:c≤1000) (q:∀ s' n3 H',Same H H'→Som H' s' (ns ++ [n3]) c→Q (.ref s') H') :
    rd__law_joined K t { nx:=fun _ H'=>Q .non H',rt:=Q } (L2.start ["some","number","doer","first","second"] [.ref s,.int k]) H:=by
  simp only [rd__law_joined,rCat,L2.start,rIxT,rCatT,tSeq,tAsg,gName,tRet,tOp,tUn,tVar,tC,tLst,tTup,tCons,tNil,tSl,tPart,tNoPart,rCat,rIxL,rIxT,rI,rU,rSlL,List.map,List.replicate,List.length,List.append,jqa,jqb,jqc,jqd,jqe,jqf,jqg,jqh,jqi,jqj,jqk,jql,jqm,jqn,and_true,true_and,and_assoc,jqo,jqp,jqq,Nat.reduceSub,Nat.reduceAdd,jqr,jqs,jqt,Int.reduceToNat,Int.reducePow,Int.reduceNeg,Int.reduceMul,Int.reduceAdd,if_true,ite_true,jqu,ite_false,if_false]
  refine ⟨by decide,fun p hp=>⟨by decide,?_⟩⟩
  obtain ⟨v,hv,hm⟩:=at_mod (xs:=jw) k 7 rfl (by decide)
  obtain ⟨w,rfl,hw,hwl,hwb⟩:∃ w:Str,v=.str w∧isJ (.str w)=true∧(w.length≤100∧Asc w)∧(32 ∉ w.cps.toList∧10 ∉ w.cps.toList):=by
    simp only [jw,List.mem_cons,List.not_mem_nil,or_false] at hm
    rcases hm with rfl | rfl | rfl | rfl | rfl | rfl | rfl <;> exact ⟨_,rfl,by decide +kernel,by unfold Asc;decide +kernel,by decide +kernel⟩
  obtain ⟨H1,eH,s1,q1⟩:=new_obj (o:=HO.lst jw) hp
  rw [show [V.str (Str.ofString "plus"),V.str (Str.ofString "minus"),V.str (Str.ofString "times"),V.str (Str.ofString "over"),V.str (Str.ofString "rest"),V.str (Str.ofString "under"),V.str (Str.ofString "same")]=jw from rfl,← eH]
  have h1':Som H1 s (ns ++ [n1,n2]) c:=h1.same s1
  have hs:=h1'.1
  have ht:(ns ++ [n1,n2]).map (fun n=>V.ref n.1)=ns.map (fun n=>V.ref n.1) ++ [.ref n1.1,.ref n2.1]:=by simp
  rw [ht] at hs
  exact ⟨_,SqL.of q1,_,hv,_,SqL.of hs,_,at_m2,_,SqL.of hs,_,at_m1,rdp_lj3 hw hwl hwb h1' h2 fun s' n3 H' s' hS=>q _ _ _ (s1.trans s') hS⟩
theorem str_ext {a b:Str} (h:a.cps.toList=b.cps.toList):a=b:=by
  cases a
  cases b
  simp only [Str.mk.injEq]
  exact Array.toList_inj.mp h
theorem str_assoc (a b c:Str):a ++ b ++ c=a ++ (b ++ c):=str_ext (by simp only [cps_app,List.append_assoc])
theorem jn_cons {w:Str} {X:List Str} (h:X≠[]):Str.join bl32 (w :: X)=w ++ bl32 ++ Str.join bl32 X:=by
  cases X with
  | nil=>exact absurd rfl h
  | cons y r=>rfl
theorem jn_app {Y:List Str} (hY:Y≠[]):∀ {X:List Str},X≠[]→Str.join bl32 (X ++ Y)=Str.join bl32 X ++ bl32 ++ Str.join bl32 Y
  | [],h=>absurd rfl h
  | [x],_=>by
    rw [List.singleton_append,jn_cons hY];rfl
  | x :: y :: r,_=>by
    rw [List.cons_append,jn_cons (by simp),jn_app hY (X:=y :: r) (by simp),jn_cons (X:=y :: r) (by simp)]
    simp only [str_assoc]
theorem pre_ne (T:Tw):pre T≠[]:=by cases T <;> simp [pre]
theorem J_len {T:Tw} {m:Nat} (h:TxOk T m):(J T).length≤m * 101:=by
  have:=join_len 32 100 (pre T) fun w hw=>(h.ws w hw).1
  have l:=h.ln
  have:(J T).length≤(pre T).length * 101:=this
  exact Nat.le_trans this (Nat.mul_le_mul_right _ l)
theorem tx_tm {T:Tw} {m:Nat} (h:TxOk T m):TmOk T:=⟨h.wf,h.ok,h.ws⟩
theorem tx_w {T:Tw} {m:Nat} (h:TxOk T m):∀ w∈pre T,WOk w:=fun w hw=>⟨h.ws w hw,h.bl w hw⟩
theorem wk_take:WOk "take":=const_w (by decide +kernel)
theorem wk_give:WOk "give":=const_w (by decide +kernel)
theorem wk_let:WOk "let":=const_w (by decide +kernel)
theorem wk_say:WOk "say":=const_w (by decide +kernel)
theorem wk_off:WOk "off":=const_w (by decide +kernel)
theorem wk_if:WOk "if":=const_w (by decide +kernel)
theorem wk_as:WOk "as":=const_w (by decide +kernel)
theorem ln_take {sh sl:Str} {T:Tw} (hs:isName sh=true) (hl:isName sl=true) (h:TxOk T 9):LnOk (.take sh T sl)∧(Hd.words (.take sh T sl)).length≤20:=by
  have l:(Hd.words (.take sh T sl)).length≤20:=by have:=h.ln;simp [Hd.words];lia
  refine ⟨lnok ⟨hs,tx_tm h,hl⟩ (fun w hw=>?_) (by lia),l⟩
  simp only [Hd.words,List.mem_append,List.mem_cons,List.not_mem_nil,or_false] at hw
  rcases hw with ((rfl | rfl) | hw) | (rfl | rfl)
  · exact wk_take
  · exact name_w hs
  · exact tx_w h w hw
  · exact wk_as
  · exact name_w hl
theorem ln_give {sh:Str} {T U:Tw} (hs:isName sh=true) (h:TxOk T 9) (h':TxOk U 9):LnOk (.give sh T U)∧(Hd.words (.give sh T U)).length≤20:=by
  have l:(Hd.words (.give sh T U)).length≤20:=by have:=h.ln;have:=h'.ln;simp [Hd.words];lia
  refine ⟨lnok ⟨hs,tx_tm h,tx_tm h'⟩ (fun w hw=>?_) (by lia),l⟩
  simp only [Hd.words,List.mem_append,List.mem_cons,List.not_mem_nil,or_false] at hw
  rcases hw with ((rfl | rfl) | hw) | hw
  · exact wk_give
  · exact name_w hs
  · exact tx_w h w hw
  · exact tx_w h' w hw
theorem ln_let {sl:Str} {T:Tw} (hs:isName sl=true) (h:TxOk T 9):LnOk (.lt sl T)∧(Hd.words (.lt sl T)).length≤20:=by
  have l:(Hd.words (.lt sl T)).length≤20:=by have:=h.ln;simp [Hd.words];lia
  refine ⟨lnok ⟨hs,tx_tm h⟩ (fun w hw=>?_) (by lia),l⟩
  simp only [Hd.words,List.mem_append,List.mem_cons,List.not_mem_nil,or_false] at hw
  rcases hw with (rfl | rfl) | hw
  · exact wk_let
  · exact name_w hs
  · exact tx_w h w hw
theorem ln_say {T:Tw} (h:TxOk T 9):LnOk (.say T)∧(Hd.words (.say T)).length≤20:=by
  have l:(Hd.words (.say T)).length≤20:=by have:=h.ln;simp [Hd.words];lia
  refine ⟨lnok (tx_tm h) (fun w hw=>?_) (by lia),l⟩
  simp only [Hd.words,List.mem_append,List.mem_cons,List.not_mem_nil,or_false] at hw
  rcases hw with rfl | hw
  · exact wk_say
  · exact tx_w h w hw
theorem ln_off {T:Tw} (h:TxOk T 9):LnOk (.off T)∧(Hd.words (.off T)).length≤20:=by
  have l:(Hd.words (.off T)).length≤20:=by have:=h.ln;simp [Hd.words];lia
  refine ⟨lnok (tx_tm h) (fun w hw=>?_) (by lia),l⟩
  simp only [Hd.words,List.mem_append,List.mem_cons,List.not_mem_nil,or_false] at hw
  rcases hw with rfl | hw
  · exact wk_off
  · exact tx_w h w hw
theorem ln_if {T:Tw} (h:TxOk T 9):LnOk (.iff T)∧(Hd.words (.iff T)).length≤20:=by
  have l:(Hd.words (.iff T)).length≤20:=by have:=h.ln;simp [Hd.words];lia
  refine ⟨lnok (tx_tm h) (fun w hw=>?_) (by lia),l⟩
  simp only [Hd.words,List.mem_append,List.mem_cons,List.not_mem_nil,or_false] at hw
  rcases hw with rfl | hw
  · exact wk_if
  · exact tx_w h w hw
theorem tx_take (sh sl:Str) (T:Tw):Str.ofString "take " ++ sh ++ Str.ofString " " ++ J T ++ Str.ofString " as " ++ sl=Hd.line (.take sh T sl):=by
  rw [show Str.ofString "take "=Str.ofString "take" ++ bl32 by decide +kernel,show Str.ofString " as "=bl32 ++ (Str.ofString "as" ++ bl32) by decide +kernel,sp_bl]
  show _=Str.join bl32 ([Str.ofString "take",sh] ++ pre T ++ [Str.ofString "as",sl])
  rw [jn_app (by simp) (by simp),jn_app (pre_ne T) (by simp),jn_cons (X:=[sh]) (by simp),jn_cons (X:=[sl]) (by simp)]
  simp only [J,str_assoc]
  rfl
theorem tx_give (sh:Str) (T U:Tw):Str.ofString "give " ++ sh ++ Str.ofString " " ++ J T ++ Str.ofString " " ++ J U=Hd.line (.give sh T U):=by
  rw [show Str.ofString "give "=Str.ofString "give" ++ bl32 by decide +kernel,sp_bl]
  show _=Str.join bl32 ([Str.ofString "give",sh] ++ pre T ++ pre U)
  rw [jn_app (pre_ne U) (by simp),jn_app (pre_ne T) (by simp),jn_cons (X:=[sh]) (by simp)]
  simp only [J,str_assoc]
  rfl
theorem tx_let (sh:Str) (T:Tw):Str.ofString "let " ++ sh ++ Str.ofString " " ++ J T=Hd.line (.lt sh T):=by
  rw [show Str.ofString "let "=Str.ofString "let" ++ bl32 by decide +kernel,sp_bl]
  show _=Str.join bl32 ([Str.ofString "let",sh] ++ pre T)
  rw [jn_app (pre_ne T) (by simp),jn_cons (X:=[sh]) (by simp)]
  simp only [J,str_assoc]
  rfl
theorem tx_say (T:Tw):Str.ofString "say " ++ J T=Hd.line (.say T):=by
  rw [show Str.ofString "say "=Str.ofString "say" ++ bl32 by decide +kernel]
  show _=Str.join bl32 ([Str.ofString "say"] ++ pre T)
  rw [jn_app (pre_ne T) (by simp)];rfl
theorem tx_off (T:Tw):Str.ofString "off " ++ J T=Hd.line (.off T):=by
  rw [show Str.ofString "off "=Str.ofString "off" ++ bl32 by decide +kernel]
  show _=Str.join bl32 ([Str.ofString "off"] ++ pre T)
  rw [jn_app (pre_ne T) (by simp)];rfl
theorem tx_if (T:Tw):Str.ofString "if " ++ J T=Hd.line (.iff T):=by
  rw [show Str.ofString "if "=Str.ofString "if" ++ bl32 by decide +kernel]
  show _=Str.join bl32 ([Str.ofString "if"] ++ pre T)
  rw [jn_app (pre_ne T) (by simp)];rfl
theorem name_at {nm:Addr} (N:NamesAt H nm) (e:Int):∃ vs x,SqL K H nm vs∧atI vs (e % 4)=some (V.str x)∧isName x=true:=by
  obtain ⟨ws,e1,hl,hn⟩:=N
  obtain ⟨v,hv,hm⟩:=at_mod (xs:=ws.map V.str) e 4 (by rw [List.length_map];exact hl) (by decide)
  obtain ⟨z,hz,rfl⟩:=List.mem_map.mp hm
  exact ⟨_,z,SqL.of e1,hv,hn z hz⟩
def wh2 (a nm:Addr) (c:Nat) (o:Option V) (H:Hp) (k:Nat) (σ:St) (H':Hp):Prop:=∃ s ns,σ=[some (.ref a),some (.ref nm),some (.ref s),o]∧Som H' s ns c∧ns.length=k∧1≤k∧Same H H'
theorem sumL_pre {T:Tw} {m:Nat} (h:TxOk T m) (hm:m≤20):sumL bl32 (pre T)≤7000:=by
  have l:=h.ln
  have:=sum_le (n:=100) (ls:=pre T) fun w hw=>(h.ws w hw).1
  unfold sumL
  rw [sumL_eq,show bl32.length=1 from rfl];lia
theorem rdp_lt2 {a nm s:Addr} {xs:List Int} {ns:List Nd} {o:Option V} {c:Nat} (hx:H a=some (.lst (xs.map V.int))) (hs0:∀ x∈xs,spI x) (hx0:2≤xs.length) (h1:Som H s ns c) (h2:1≤ns.length) (h3:c≤10) (q:∀ (p tp:Addr) (T:Tw) H',Same H H'→TxOk T 9→H' p=some (.tup [.str (J T),.ref tp])→H' tp=some (.tup (pst T))→Q (.ref p) H') :
    rd__law_term_2 K t { nx:=fun _ H'=>Q .non H',rt:=Q } [some (.ref a),some (.ref nm),some (.ref s),o] H:=by
  simp only [rd__law_term_2,tWhile,sp__law_joined,L2.start,rIxT,r_mt_join,tSeq,tAsg,gName,tRet,tOp,tVar,tC,tTup,tCons,tNil,tTest,tCB,tBM,tyV,tCall,LenV,rIxL,rIxT,rI,rI0,cLen,List.map,List.replicate,List.length,List.append,jqa,jqb,jqc,jqd,jqe,jqf,jqg,jqh,jqi,jqj,jqk,jql,jqm,jqn,and_true,true_and,and_assoc,jqo,jqp,jqq,Nat.reduceSub,Nat.reduceAdd,jqr,jqs,jqt,Int.reduceToNat,Int.reducePow,Int.reduceNeg,Int.reduceMul,Int.reduceAdd,if_true,ite_true,jqu,ite_false,if_false]
  have hb:(10000000000000000000000000000000000000000000000:Int) < big:=by decide +kernel
  obtain ⟨x0,e0,s0⟩:=at_xs (k:=1) (by lia) hs0
  have e0:atI (xs.map V.int) 1=some (V.int x0):=e0
  refine ⟨wh2 a nm c o H,⟨_,s,ns,rfl,h1,rfl,h2,Same.refl H⟩,?_⟩
  rintro k σ H1 ⟨s,ns,rfl,hs,hm,hm1,S1⟩
  have hl:SqL K H1 s (ns.map fun n=>V.ref n.1):=SqL.of hs.1
  have hln:(ns.map fun n=>V.ref n.1).length=k:=by rw [List.length_map,hm]
  have hc:=hs.2.2
  simp only [L2.start,rIxT,r_mt_join,tSeq,tAsg,gName,tRet,tOp,tVar,tC,tTup,tCons,tNil,tTest,tCB,tBM,tyV,tCall,LenV,rIxL,rIxT,rI,rI0,cLen,List.map,List.replicate,List.length,List.append,jqa,jqb,jqc,jqd,jqe,jqf,jqg,jqh,jqi,jqj,jqk,jql,jqm,jqn,and_true,true_and,and_assoc,jqo,jqp,jqq,Nat.reduceSub,Nat.reduceAdd,jqr,jqs,jqt,Int.reduceToNat,Int.reducePow,Int.reduceNeg,Int.reduceMul,Int.reduceAdd,if_true,ite_true,jqu,ite_false,if_false]
  refine ⟨k,.inl ⟨_,hl,hln.symm⟩,ite2 (fun c1=>?_) fun c1=>?_⟩
  · obtain ⟨r,n1,n2,rfl⟩:=two_last (l:=ns) (by lia)
    have hr:r.length + 2=k:=by rw [← hm];simp
    refine ⟨wh2 a nm c o H (k - 1),fun σ' H' z=>⟨k - 1,by lia,z⟩,_,SqL.of (S1 _ _ hx),_,e0,_,rfl,dB,k,.inl ⟨_,hl,hln.symm⟩,r,n1,n2,c,hs,by lia,fun s' n3 H' s2 hs2=>?_⟩
    exact ⟨s',_,rfl,hs2,by simp;lia,by lia,S1.trans s2⟩
  · have:ns.length=1:=by lia
    obtain ⟨n,rfl⟩:∃ n,ns=[n]:=List.length_eq_one_iff.mp this
    obtain ⟨ws,tp,n1,n2,n3,n4,n5,n6,n7⟩:=hs.2.1 n (by simp)
    rw [lens_one,List.length_singleton] at hc
    have hT:TxOk n.2 9:=⟨n4,n5,n6,n7,by lia⟩
    refine ⟨_,hl,_,rfl,_,rfl,_,SqT.of n1,_,rfl,_,rfl,_,SqL.of n2,by rw [sp_bl];exact Nat.le_trans (sumL_pre hT (by decide)) (by decide),_,hl,_,rfl,_,rfl,_,SqT.of n1,_,rfl,by decide,fun p hp=>?_⟩
    rw [show joinS (Str.ofString " ") (pre n.2)=J n.2 by rw [sp_bl];exact joinS_eq _ _]
    exact q p tp n.2 _ (S1.trans (isV p hp)) hT upd_same (isV p hp _ _ n3)
def tr2 (a nm:Addr) (H:Hp) (i:Nat) (σ:St) (H':Hp):Prop:=∃ s ns o,σ=[some (.ref a),some (.ref nm),some (.ref s),o]∧Som H' s ns (2 * i)∧(1≤i→1≤ns.length)∧Same H H'
theorem som_add {H H':Hp} {s p1 p2:Addr} {ns:List Nd} {n:Nd} {c:Nat} (h:Som H s ns c) (S:Same H H') (hN:NodeAt H' n) (hl:(pre n.2).length=1) (hp1:H' p1=none) (hp2:upd H' p1 (HO.lst [V.ref n.1]) p2=none) :
    Som (upd (upd H' p1 (HO.lst [V.ref n.1])) p2 (HO.lst ((ns.map fun n=>V.ref n.1) ++ [V.ref n.1]))) p2 (ns ++ [n]) (c + 2)∧Same H (upd (upd H' p1 (HO.lst [V.ref n.1])) p2 (HO.lst ((ns.map fun n=>V.ref n.1) ++ [V.ref n.1]))):=by
  have S4:Same H' _:=(isV (o:=HO.lst [V.ref n.1]) p1 hp1).trans (isV (o:=HO.lst ((ns.map fun n=>V.ref n.1) ++ [V.ref n.1])) p2 hp2)
  have hc:=h.2.2
  refine ⟨⟨by rw [upd_same];simp,fun n' hn'=>?_,?_⟩,S.trans S4⟩
  · rcases List.mem_append.mp hn' with e | e
    · exact (h.2.1 n' e).same (S.trans S4)
    · rw [List.mem_singleton.mp e];exact hN.same S4
  · rw [lens_app,lens_one,List.length_append,hl]
    show lens ns + 1 + (ns.length + 1)=_
    lia
theorem rdp__law_term {a nm:Addr} {xs:List Int} (hx:H a=some (.lst (xs.map V.int))) (hs0:∀ x∈xs,spI x) (hl5:5≤xs.length) (h3:NamesAt H nm) (q:∀ (p tp:Addr) (T:Tw) H',Same H H'→TxOk T 9→H' p=some (.tup [.str (J T),.ref tp])→H' tp=some (.tup (pst T))→Q (.ref p) H') :
    rd__law_term K t { nx:=fun _ H'=>Q .non H',rt:=Q } (L2.start ["xs","names","some","k"] [.ref a,.ref nm]) H:=by
  simp only [rd__law_term,sp__law_joined,sp__law_leaf,rCat,L2.start,rIxT,r_mt_join,tSeq,tAsg,gName,tRet,tNext,tOp,tVar,tC,tLst,tTup,tCons,tNil,tFor,tIfS,tAnd,tTest,tCB,tBM,tyV,tCall,LenV,iRng1,rCat,rIxL,rIxT,rEq,rI,rI0,cLen,scal,List.map,List.replicate,List.length,List.append,jqa,jqb,jqc,jqd,jqe,jqf,jqg,jqh,jqi,jqj,jqk,jql,jqm,jqn,and_true,true_and,and_assoc,jqo,jqp,jqq,Nat.reduceSub,Nat.reduceAdd,jqr,jqs,jqt,Int.reduceToNat,Int.reducePow,Int.reduceNeg,Int.reduceMul,Int.reduceAdd,if_true,ite_true,jqu,ite_false,if_false]
  have hb:(10000000000000000000000000000000000000000000000:Int) < big:=by decide +kernel
  obtain ⟨x0,e0,s0⟩:=at_xs (k:=0) (by lia) hs0
  have e0:atI (xs.map V.int) 0=some (V.int x0):=e0
  refine ⟨by decide,fun p hp=>?_⟩
  obtain ⟨H1,eH,s1,q1⟩:=new_obj (o:=HO.lst []) hp
  rw [← eH]
  refine ⟨_,SqL.of (s1 _ _ hx),_,e0,x0,rfl,dB,by decide,by lia,by lia,loop_range (tr2 a nm H) ⟨p,[],none,rfl,⟨q1,(fun n z=>nomatch z),rfl⟩,(fun z=>absurd z (by decide)),s1⟩ ?_ ?_⟩
  · rintro i σ H2 hi ⟨s,ns,o,rfl,hs,hi1,S2⟩
    have hl:SqL K H2 s (ns.map fun n=>V.ref n.1):=SqL.of hs.1
    have hln:(ns.map fun n=>V.ref n.1).length=ns.length:=List.length_map ..
    have hc:=hs.2.2
    obtain ⟨xi,ei,si⟩:=at_xs (k:=i) (by lia) hs0
    have i0:(0 + (i:Int))=(i:Int):=by lia
    simp only [rCat,L2.start,rIxT,r_mt_join,tSeq,tAsg,gName,tRet,tNext,tOp,tVar,tC,tLst,tTup,tCons,tNil,tFor,tIfS,tAnd,tTest,tCB,tBM,tyV,tCall,LenV,iRng1,rCat,rIxL,rIxT,rEq,rI,rI0,cLen,scal,List.map,List.replicate,List.length,List.append,jqa,jqb,jqc,jqd,jqe,jqf,jqg,jqh,jqi,jqj,jqk,jql,jqm,jqn,and_true,true_and,and_assoc,jqo,jqp,jqq,Nat.reduceSub,Nat.reduceAdd,jqr,jqs,jqt,Int.reduceToNat,Int.reducePow,Int.reduceNeg,Int.reduceMul,Int.reduceAdd,if_true,ite_true,jqu,ite_false,if_false,i0]
    refine ⟨_,SqL.of (S2 _ _ hx),_,ei,_,rfl,si,h3.same S2,fun n H3 s3 hN hl1=>⟨by decide,fun p1 hp1=>⟨_,isV p1 hp1 _ _ (s3 _ _ hs.1),_,upd_same,small_size (by rw [hln];show _ + 1≤_;lia),fun p2 hp2=>?_⟩⟩⟩
    obtain ⟨a1,a2⟩:=som_add hs s3 hN hl1 hp1 hp2
    have S3:=S2.trans a2
    have l2:SqL K _ p2 _:=SqL.of a1.1
    have fin:tr2 a nm H (i + 1) _ _:=⟨p2,_,some (.int i),rfl,by rw [show 2 * (i + 1)=2 * i + 2 by lia];exact a1,(fun _=>by simp),S3⟩
    refine ⟨_,.inl ⟨_,l2,rfl⟩,ite2 (fun c1=>⟨_,SqL.of (S3 _ _ hx),_,ei,_,rfl,dB,by decide,ite2 (fun c2=>?_) fun c2=>fin⟩) fun c1=>fin⟩
    obtain ⟨r,n1,n2,er⟩:=two_last (l:=ns ++ [n]) (by simp at c1 ⊢;lia)
    refine ⟨_,SqL.of (S3 _ _ hx),_,ei,_,rfl,dB,r,n1,n2,2 * i + 2,by rw [← er];exact a1,by lia,fun s' n3 H' s2 hs2=>?_⟩
    exact ⟨s',_,some (.int i),rfl,by rw [show 2 * (i + 1)=2 * i + 2 by lia];exact hs2,(fun _=>by simp),S3.trans s2⟩
  · rintro σ H2 ⟨s,ns,o,rfl,hs,hi1,S2⟩
    have:=Int.emod_nonneg (x0 / 12) (show (5:Int)≠0 by decide)
    have:=Int.emod_lt_of_pos (x0 / 12) (show (0:Int) < 5 by decide)
    exact rdp_lt2 (S2 _ _ hx) hs0 (by lia) hs (hi1 (by lia)) (by lia) fun p tp T H' s hN h1 h2=>q p tp T H' (S2.trans s) hN h1 h2
abbrev RwQ (Q:VK) (H:Hp):Prop:=∀ (p:Addr) (rv:V) (hd:Hd) (H':Hp),Same H H'→H' p=some (.tup [.str (Hd.line hd),rv])→HdAt anyA H' rv hd→LnOk hd→hd.words.length≤20→hd.plain→Q (.ref p) H'
theorem cutV_from5 (xs:List Int) (h:5≤xs.length):cutV (xs.map V.int) (some 5) none=(xs.drop 5).map V.int:=by
  unfold cutV
  have e1:HT.sIx (xs.map V.int).length 0 (some 5)=5:=by unfold HT.sIx;simp;lia
  have e2:HT.sIx (xs.map V.int).length (xs.map V.int).length none=(xs.map V.int).length:=by unfold HT.sIx;simp
  rw [e1,e2,List.take_of_length_le (by simp),List.map_drop]
theorem rdp_row6 {c kd:Int} {nm xl tp:Addr} {T:Tw} {sh:Str} (hT:TxOk T 9) (ht:H tp=some (.tup (pst T))) (n3:isName sh=true) (q:RwQ Q H) :
    rd__law_row_6 K t { nx:=fun _ H'=>Q .non H',rt:=Q } [some (.int c),some (.ref nm),some (.ref xl),some (.str (J T)),some (.ref tp),some (.str sh),some (.int kd),none,none,none] H:=by
  simp only [rd__law_row_6,L2.start,tSeq,tRet,tNext,tOp,tVar,tC,tTup,tCons,tNil,tIfS,tTest,rEq,rAddS,scal,List.map,List.replicate,List.length,List.append,jqa,jqb,jqc,jqd,jqe,jqf,jqg,jqh,jqi,jqj,jqk,jql,jqm,jqn,and_true,true_and,and_assoc,jqo,jqp,jqq,Nat.reduceSub,Nat.reduceAdd,jqr,jqs,jqt,Int.reduceToNat,Int.reducePow,Int.reduceNeg,Int.reduceMul,Int.reduceAdd,if_true,ite_true,jqu,ite_false,if_false]
  have lT:=J_len hT
  have lsh:=(isName_parts n3).2.1
  have l1:(Str.ofString " ").length=1:=by decide +kernel
  refine ite2 (fun _=>?_) fun _=>ite2 (fun _=>?_) fun _=>?_
  · have lh:(Str.ofString "let ").length=4:=by decide +kernel
    obtain ⟨k1,k2⟩:=ln_let n3 hT
    refine ⟨small_size (by lia),small_size (by rw [len_app];lia),small_size (by rw [len_app,len_app];lia),by decide,fun p1 hp1=>⟨by decide,fun p2 hp2=>?_⟩⟩
    rw [tx_let]
    exact q p2 (.ref p1) _ _ ((isV p1 hp1).trans (isV p2 hp2)) upd_same ⟨p1,tp,rfl,isV p2 hp2 _ _ upd_same,((isV p1 hp1).trans (isV p2 hp2)) _ _ ht⟩ k1 k2 trivial
  · have lh:(Str.ofString "say ").length=4:=by decide +kernel
    obtain ⟨k1,k2⟩:=ln_say hT
    refine ⟨small_size (by lia),by decide,fun p1 hp1=>⟨by decide,fun p2 hp2=>?_⟩⟩
    rw [tx_say]
    exact q p2 (.ref p1) _ _ ((isV p1 hp1).trans (isV p2 hp2)) upd_same ⟨p1,tp,rfl,isV p2 hp2 _ _ upd_same,((isV p1 hp1).trans (isV p2 hp2)) _ _ ht⟩ k1 k2 trivial
  · have lh:(Str.ofString "off ").length=4:=by decide +kernel
    obtain ⟨k1,k2⟩:=ln_off hT
    refine ⟨small_size (by lia),by decide,fun p1 hp1=>⟨by decide,fun p2 hp2=>?_⟩⟩
    rw [tx_off]
    exact q p2 (.ref p1) _ _ ((isV p1 hp1).trans (isV p2 hp2)) upd_same ⟨p1,tp,rfl,isV p2 hp2 _ _ upd_same,((isV p1 hp1).trans (isV p2 hp2)) _ _ ht⟩ k1 k2 trivial
theorem rdp_row5 {c kd:Int} {nm xl tp:Addr} {xs:List Int} {T:Tw} {sh:Str} (N:NamesAt H nm) (hx:H xl=some (.lst (xs.map V.int))) (hs:∀ x∈xs,spI x) (hl:xs.length=13) (hT:TxOk T 9) (ht:H tp=some (.tup (pst T))) (n3:isName sh=true) (q:RwQ Q H) :
    rd__law_row_5 K t { nx:=fun _ H'=>Q .non H',rt:=Q } [some (.int c),some (.ref nm),some (.ref xl),some (.str (J T)),some (.ref tp),some (.str sh),some (.int kd),none,none,none] H:=by
  simp only [rd__law_row_5,sp__law_term,L2.start,tSeq,tAsg,gName,gTup,gCons,gNil,tRet,tNext,tOp,tVar,tC,tTup,tCons,tNil,tIfS,tTest,tSl,tPart,tNoPart,tCall,rEq,rSlL,rAddS,scal,List.map,List.replicate,List.length,List.append,jqa,jqb,jqc,jqd,jqe,jqf,jqg,jqh,jqi,jqj,jqk,jql,jqm,jqn,and_true,true_and,and_assoc,jqo,jqp,jqq,Nat.reduceSub,Nat.reduceAdd,jqr,jqs,jqt,Int.reduceToNat,Int.reducePow,Int.reduceNeg,Int.reduceMul,Int.reduceAdd,if_true,ite_true,jqu,ite_false,if_false]
  have lT:=J_len hT
  have lsh:=(isName_parts n3).2.1
  have l1:(Str.ofString " ").length=1:=by decide +kernel
  refine ite2 (fun _=>?_) fun _=>rdp_row6 hT ht n3 q
  have lh:(Str.ofString "give ").length=5:=by decide +kernel
  refine ⟨_,SqL.of hx,fun p hp=>?_⟩
  rw [cutV_from5 xs (by lia)]
  have s1:=isV (o:=HO.lst ((xs.drop 5).map V.int)) p hp
  refine ⟨xs.drop 5,upd_same,(fun x h=>hs x (List.mem_of_mem_drop h)),by rw [List.length_drop];lia,N.same s1,fun p0 tq U H2 s2 hU g1 g2=>?_⟩
  have lU:=J_len hU
  obtain ⟨k1,k2⟩:=ln_give n3 hT hU
  refine ⟨_,SqT.of g1,rfl,_,_,rfl,_,_,rfl,rfl,small_size (by lia),small_size (by rw [len_app];lia),small_size (by rw [len_app,len_app];lia),small_size (by rw [len_app,len_app,len_app];lia),J U,rfl,small_size (by rw [len_app,len_app,len_app,len_app];lia),by decide,fun p1 hp1=>⟨by decide,fun p2 hp2=>?_⟩⟩
  have S:=s1.trans s2
  have S2:=(isV (o:=HO.tup [V.str (Str.ofString "give"),V.str sh,V.ref tp,V.ref tq]) p1 hp1).trans (isV (o:=HO.tup [V.str (Str.ofString "give " ++ sh ++ Str.ofString " " ++ J T ++ Str.ofString " " ++ J U),V.ref p1]) p2 hp2)
  rw [tx_give] at S2 ⊢
  exact q p2 (.ref p1) _ _ (S.trans S2) upd_same ⟨p1,tp,tq,rfl,isV p2 hp2 _ _ upd_same,(S.trans S2) _ _ ht,S2 _ _ g2⟩ k1 k2 trivial
theorem rdp__law_row {c:Int} {nm:Addr} (N:NamesAt H nm) (q:RwQ Q H) :
    rd__law_row K t { nx:=fun _ H'=>Q .non H',rt:=Q } (L2.start ["cell","names","xs","line","term","shelf","kind","slot","other","worth"] [.int c,.ref nm]) H:=by
  simp only [rd__law_row,rd__law_row_2,rd__law_row_4,sp__law_spread,sp__law_term,L2.start,tSeq,tAsg,gName,gTup,gCons,gNil,tRet,tNext,tOp,tVar,tC,tTup,tCons,tNil,tIfS,tTest,tSl,tPart,tNoPart,tCall,rIxL,rEq,rI,rSlL,rAddS,scal,List.map,List.replicate,List.length,List.append,jqa,jqb,jqc,jqd,jqe,jqf,jqg,jqh,jqi,jqj,jqk,jql,jqm,jqn,and_true,true_and,and_assoc,jqo,jqp,jqq,Nat.reduceSub,Nat.reduceAdd,jqr,jqs,jqt,Int.reduceToNat,Int.reducePow,Int.reduceNeg,Int.reduceMul,Int.reduceAdd,if_true,ite_true,jqu,ite_false,if_false]
  refine ⟨by decide,by decide,fun l xs H1 s1 hx hl hs=>⟨xs,hx,hs,by lia,N.same s1,fun p0 tp T H2 s2 hT g1 g2=>?_⟩⟩
  have S:=s1.trans s2
  obtain ⟨x10,e10,_⟩:=at_xs (k:=10) (by lia) hs
  have e10:atI (xs.map V.int) 10=some (V.int x10):=e10
  obtain ⟨x11,e11,_⟩:=at_xs (k:=11) (by lia) hs
  have e11:atI (xs.map V.int) 11=some (V.int x11):=e11
  obtain ⟨x12,e12,_⟩:=at_xs (k:=12) (by lia) hs
  have e12:atI (xs.map V.int) 12=some (V.int x12):=e12
  obtain ⟨vs,sh,n1,n2,n3⟩:=name_at (K:=K) (N.same S) x10
  obtain ⟨vs',sl,m1,m2,m3⟩:=name_at (K:=K) (N.same S) x12
  have hx2:=s2 _ _ hx
  refine ⟨_,SqT.of g1,rfl,_,_,rfl,_,_,rfl,rfl,_,SqL.of hx2,_,e10,x10,rfl,by decide,_,n1,_,n2,_,SqL.of hx2,_,e11,x11,rfl,by decide,ite2 (fun _=>?_) fun _=>rdp_row5 (N.same S) hx2 hs (by lia) hT g2 n3 fun p rv hd H' s=>q p rv hd H' (S.trans s)⟩
  have lT:=J_len hT
  have lsh:=(isName_parts n3).2.1
  have lsl:=(isName_parts m3).2.1
  have l1:(Str.ofString " ").length=1:=by decide +kernel
  have l4:(Str.ofString " as ").length=4:=by decide +kernel
  have lh:(Str.ofString "take ").length=5:=by decide +kernel
  obtain ⟨k1,k2⟩:=ln_take n3 m3 hT
  refine ⟨_,SqL.of hx2,_,e12,x12,rfl,by decide,_,m1,_,m2,sh,rfl,small_size (by lia),small_size (by rw [len_app];lia),J T,rfl,small_size (by rw [len_app,len_app];lia),small_size (by rw [len_app,len_app,len_app];lia),sl,rfl,small_size (by rw [len_app,len_app,len_app,len_app];lia),by decide,fun p1 hp1=>⟨by decide,fun p2 hp2=>?_⟩⟩
  have S2:=(isV (o:=HO.tup [V.str (Str.ofString "take"),V.str sh,V.ref tp,V.str sl]) p1 hp1).trans (isV (o:=HO.tup [V.str (Str.ofString "take " ++ sh ++ Str.ofString " " ++ J T ++ Str.ofString " as " ++ sl),V.ref p1]) p2 hp2)
  rw [tx_take] at S2 ⊢
  exact q p2 (.ref p1) _ _ (S.trans S2) upd_same ⟨p1,tp,rfl,isV p2 hp2 _ _ upd_same,S2 _ _ g2⟩ k1 k2 trivial
theorem cut_from {α:Type} (f:α→V) (xs:List α) {k:Nat} (h:k≤xs.length):cutV (xs.map f) (some (k:Int)) none=(xs.drop k).map f:=by
  unfold cutV
  have e1:HT.sIx (xs.map f).length 0 (some (k:Int))=k:=by
    show (if (k:Int) < 0 then ((k:Int) + ((xs.map f).length:Int)).toNat else min (k:Int).toNat (xs.map f).length)=k
    rw [if_neg (by lia),Int.toNat_natCast,List.length_map]
    lia
  have e2:HT.sIx (xs.map f).length (xs.map f).length none=xs.length:=by
    show (xs.map f).length=_
    rw [List.length_map]
  rw [e1,e2,← List.map_drop,List.take_of_length_le (by rw [List.length_map,List.length_drop];lia)]
theorem cut_to {α:Type} (f:α→V) (xs:List α) {k:Nat} (h:k≤xs.length):cutV (xs.map f) none (some (k:Int))=(xs.take k).map f:=by
  unfold cutV
  have e1:HT.sIx (xs.map f).length (xs.map f).length (some (k:Int))=k:=by
    show (if (k:Int) < 0 then ((k:Int) + ((xs.map f).length:Int)).toNat else min (k:Int).toNat (xs.map f).length)=k
    rw [if_neg (by lia),Int.toNat_natCast,List.length_map]
    lia
  have e2:HT.sIx (xs.map f).length 0 none=0:=rfl
  rw [e1,e2,List.drop_zero,Nat.sub_zero,List.map_take]
theorem LotAt.same {H H':Hp} {n:Lot} (h:LotAt H n) (k:LotOk n.x) (s:Same H H'):LotAt H' n:=⟨s _ _ h.ha,s _ _ h.hl,TrAt.to (fun _ _ f _=>f) (fun _ _ e=>s _ _ e) (fun _ _ _ e=>s _ _ e) n.x k.ok h.hr⟩
theorem Lots.same {H H':Hp} {a:Addr} {ns:List Lot} (h:Lots H a ns) (s:Same H H'):Lots H' a ns:=⟨s _ _ h.hs,fun n hn=>⟨(h.lt n hn).1.same (h.lt n hn).2 s,(h.lt n hn).2⟩⟩
theorem lin_pos (x:Tr):1≤(linT x).length:=by cases x <;> simp [linT]
theorem tot_app (a b:List Lot):tot (a ++ b)=tot a + tot b:=by simp [tot]
theorem tot_len:∀ (ns:List Lot),ns.length≤tot ns
  | []=>Nat.zero_le _
  | n :: r=>by
    have:=tot_len r
    have:=lin_pos n.x
    show r.length + 1≤(linT n.x).length + tot r
    lia
theorem tot_mem:∀ {ns:List Lot} {n:Lot},n∈ns→(linT n.x).length≤tot ns
  | m :: r,n,h=>by
    show _≤(linT m.x).length + tot r
    rcases List.mem_cons.mp h with rfl | h
    · lia
    · have:=tot_mem h
      lia
theorem lin_app:∀ (a b:List Tr),linTs (ofL (a ++ b))=linTs (ofL a) ++ linTs (ofL b)
  | [],b=>by show _=linTs .nil ++ _;rw [linTs];rfl
  | x :: a,b=>by
    show linTs (.cons x (ofL (a ++ b)))=linTs (.cons x (ofL a)) ++ _
    rw [linTs,linTs,lin_app a b,List.append_assoc]
theorem lin_one (x:Tr):linTs (ofL [x])=linT x:=by
  show linTs (.cons x .nil)=_
  rw [linTs,linTs,List.append_nil]
theorem lin_tot:∀ (ns:List Lot),(linTs (ofL (ns.map Lot.x))).length=tot ns
  | []=>by show (linTs .nil).length=_;rw [linTs];rfl
  | n :: r=>by
    show (linTs (.cons n.x (ofL (r.map Lot.x)))).length=(linT n.x).length + tot r
    rw [linTs,List.length_append,lin_tot r]
theorem deep_app:∀ (a b:List Tr),(ofL (a ++ b)).deep=max (ofL a).deep (ofL b).deep
  | [],b=>by show _=max (Trs.deep .nil) _;rw [Trs.deep];simp
  | x :: a,b=>by
    show (Trs.cons x (ofL (a ++ b))).deep=max (Trs.cons x (ofL a)).deep _
    rw [Trs.deep,Trs.deep,deep_app a b,Nat.max_assoc]
theorem ok_ofL:∀ {xs:List Tr},(∀ x∈xs,x.ok)→(ofL xs).ok
  | [],_=>by show Trs.ok .nil;unfold Trs.ok;trivial
  | x :: r,h=>by
    show (Trs.cons x (ofL r)).ok
    unfold Trs.ok
    exact ⟨h x (by simp),ok_ofL fun y hy=>h y (by simp [hy])⟩
theorem mem_ofL:∀ {xs:List Tr} {h:Hd},h∈linTs (ofL xs)→∃ x∈xs,h∈linT x
  | [],h,m=>by have m:h∈linTs .nil:=m;rw [linTs] at m;cases m
  | x :: r,h,m=>by
    have m:h∈linTs (.cons x (ofL r)):=m
    rw [linTs] at m
    rcases List.mem_append.mp m with m | m
    · exact ⟨x,by simp,m⟩
    · obtain ⟨y,hy,e⟩:=mem_ofL m
      exact ⟨y,by simp [hy],e⟩
theorem trs_ofL {H:Hp}:∀ {ns:List Lot},(∀ n∈ns,TrAt anyA H n.rv n.x)→TrsAt anyA H (ns.map Lot.rv) (ofL (ns.map Lot.x))
  | [],_=>by show TrsAt anyA H [] .nil;unfold TrsAt;rfl
  | n :: r,h=>by
    show TrsAt anyA H (n.rv :: r.map Lot.rv) (.cons n.x (ofL (r.map Lot.x)))
    unfold TrsAt
    exact ⟨n.rv,_,rfl,h n (by simp),trs_ofL fun m hm=>h m (by simp [hm])⟩
theorem max_ofL:∀ (ns:List Lot),(∀ n∈ns,n.x.deep≤(ofL (ns.map Lot.x)).deep)∧((ofL (ns.map Lot.x)).deep=0∨∃ n∈ns,n.x.deep=(ofL (ns.map Lot.x)).deep)
  | []=>⟨(fun n z=>nomatch z),.inl (by show Trs.deep .nil=0;rw [Trs.deep])⟩
  | n :: r=>by
    have e:(ofL ((n :: r).map Lot.x)).deep=max n.x.deep (ofL (r.map Lot.x)).deep:=by
      show (Trs.cons n.x (ofL (r.map Lot.x))).deep=_
      rw [Trs.deep]
    obtain ⟨h1,h2⟩:=max_ofL r
    rw [e]
    refine ⟨fun m hm=>?_,?_⟩
    · rcases List.mem_cons.mp hm with rfl | hm
      · exact Nat.le_max_left ..
      · exact Nat.le_trans (h1 m hm) (Nat.le_max_right ..)
    · rcases Nat.le_total n.x.deep (ofL (r.map Lot.x)).deep with h | h
      · rw [Nat.max_eq_right h]
        rcases h2 with h2 | ⟨m,hm,h2⟩
        · exact .inl h2
        · exact .inr ⟨m,by simp [hm],h2⟩
      · rw [Nat.max_eq_left h]
        exact .inr ⟨n,by simp,rfl⟩
theorem max_is {ns:List Lot} {M:Int} (h1:M∈(0:Int) :: ns.map fun n=>(n.x.deep:Int)) (h2:∀ y∈(0:Int) :: ns.map (fun n=>(n.x.deep:Int)),y≤M):M=((ofL (ns.map Lot.x)).deep:Int):=by
  obtain ⟨a,b⟩:=max_ofL ns
  apply Int.le_antisymm
  · rcases List.mem_cons.mp h1 with rfl | h
    · lia
    · obtain ⟨n,hn,rfl⟩:=List.mem_map.mp h
      have:=a n hn
      lia
  · rcases b with b | ⟨n,hn,b⟩
    · rw [b]
      exact h2 0 (by simp)
    · rw [← b]
      exact h2 _ (by simp only [List.mem_cons,List.mem_map];exact .inr ⟨n,hn,rfl⟩)
def mapR {α:Type} (ns:List α) (f:α→V) (i:Nat) (v:V):Prop:=∃ n,ns[i]?=some n∧v=f n
theorem comp_map {α:Type} {K:PySem.W.Frag} {p D:Addr} {τ₀:St} {H1:Hp} {Q:Hp→Prop} {B:V→St→Hp→(V→St→Hp→Prop)→(St→Hp→Prop)→Prop} (ns:List α) (g f:α→V) (hn:ns.length≤1000000) (hp:H1 p=some (.lst (ns.map g))) (C:St→Prop) (hC:C τ₀) (hD:H1 D=none)
    (hs:∀ i n τ H,ns[i]?=some n→C τ→Same H1 H→B (g n) τ H (fun v τ' H4=>C τ'∧mapR ns f i v∧Same H H4) (fun _ _=>False))
    (hd:∀ H,Same H1 H→H D=some (.lst (ns.map f))→Q H) :
    ∃ W:Nat→Nat→List V→St→Hp→Prop,(∃ m,W 0 m [] τ₀ (upd H1 D (.lst [])))∧∀ i m ys τ H,W i m ys τ H→H D=some (.lst ys) ∧
    (((Itl K p).stop i H∧Q H)∨((Itl K p).go i H∧ys.length < sizeLine∧∃ N:V→St→Hp→Prop,
      (∀ v τ' H',N v τ' H'→H' D=some (.lst ys)∧∃ m',m' < m∧W (i + 1) m' (ys ++ [v]) τ' (upd H' D (.lst (ys ++ [v]))))∧∃ Nf:St→Hp→Prop,(∀ τ' H',Nf τ' H'→∃ m',m' < m∧W (i + 1) m' ys τ' H') ∧
      ∀ x H',(Itl K p).yld i H x H'→B x τ H' N Nf)):=by
  refine comp_gen (J:=Itl K p) ns.length hn C (mapR ns f) hC (fun i H s h=>⟨ns.map g,_,SqL.of (s _ _ hp),List.getElem?_eq_getElem (by rw [List.length_map];exact h)⟩) (fun H s=>⟨ns.map g,SqL.of (s _ _ hp),by rw [List.length_map];exact Nat.le_refl _⟩) hD ?_ ?_
  · rintro i v τ H3 H' c s hi ⟨rfl,hv⟩
    have hv:=hv _ (SqL.of (s _ _ hp))
    rw [List.getElem?_map] at hv
    cases e:ns[i]? with
    | none=>rw [e] at hv;cases hv
    | some n =>
      rw [e] at hv
      cases hv
      exact hs i n τ _ e c s
  · intro ys H' hly hv s hq
    have:ys=ns.map f:=by
      refine List.ext_getElem? fun i=>?_
      cases e:ys[i]? with
      | none =>
        have:=List.getElem?_eq_none_iff.mp e
        rw [List.getElem?_eq_none (by rw [List.length_map];lia)]
      | some v =>
        obtain ⟨n,h1,h2⟩:=hv i v e
        rw [List.getElem?_map,h1,h2]
        rfl
    rw [this] at hq
    exact hd H' s hq
def catI (S:Addr→Option V→St) (base:List Hd) (ns:List Lot) (H0 H:Hp) (i:Nat) (σ:St) (H':Hp):Prop:=∃ la o,σ=S la o∧H0 la=none∧Same H H'∧H' la=some (.lst ((base ++ linTs (ofL ((ns.take i).map Lot.x))).map lnV))
theorem catI.step {S:Addr→Option V→St} {base:List Hd} {ns:List Lot} {H0 H H':Hp} {i:Nat} {n:Lot} {p:Addr} (hn:ns[i]?=some n) (s0:Same H0 H) (s:Same H H') (hp:H' p=none):catI S base ns H0 H (i + 1) (S p (some (lotV n))) (upd H' p (.lst ((base ++ linTs (ofL ((ns.take i).map Lot.x))).map lnV ++ (linT n.x).map lnV))):=by
  refine ⟨p,_,rfl,fresh_of (s0.trans s) hp,s.trans (isV p hp),?_⟩
  have e:(ns.take (i + 1)).map Lot.x=(ns.take i).map Lot.x ++ [n.x]:=by rw [List.take_add_one,hn];simp
  rw [upd_same,e,lin_app,lin_one]
  simp only [List.map_append,List.append_assoc]
def noH:Hp:=fun _=>none
theorem noH_same (H:Hp):Same noH H:=fun b o e=>nomatch (show (none:Option HO)=some o from e)
theorem take_tot (ns:List Lot) (i:Nat):tot (ns.take i)≤tot ns:=by
  have:=tot_app (ns.take i) (ns.drop i)
  rw [List.take_append_drop] at this
  lia
theorem get_lot {ns:List Lot} {i:Nat} {v:V} (h:(ns.map lotV)[i]?=some v):∃ n,ns[i]?=some n∧v=lotV n:=by
  rw [List.getElem?_map] at h
  cases e:ns[i]? with
  | none=>rw [e] at h;cases h
  | some n=>rw [e] at h;cases h;exact ⟨n,rfl,rfl⟩
structure Fo (H:Hp) (s lst:Addr) (ns:List Lot) (m k:Nat) (T:Tw) (tp:Addr):Prop where
  ls:Lots H s ns
  tt:tot ns≤40
  m1:m≤ns.length
  hl:H lst=some (.lst ((ns.drop (ns.length - m)).map lotV))
  k1:k≤m
  hT:TxOk T 9
  ht:H tp=some (.tup (pst T))
theorem Fo.same {H H':Hp} {s lst:Addr} {ns:List Lot} {m k:Nat} {T:Tw} {tp:Addr} (F:Fo H s lst ns m k T tp) (e:Same H H'):Fo H' s lst ns m k T tp:=⟨F.ls.same e,F.tt,F.m1,e _ _ F.hl,F.k1,F.hT,e _ _ F.ht⟩
abbrev lasts (ns:List Lot) (m:Nat):List Lot:=ns.drop (ns.length - m)
theorem Fo.len {H:Hp} {s lst:Addr} {ns:List Lot} {m k:Nat} {T:Tw} {tp:Addr} (F:Fo H s lst ns m k T tp):(lasts ns m).length=m:=by
  have:=F.m1
  show (ns.drop (ns.length - m)).length=m
  rw [List.length_drop];lia
theorem Fo.mem {H:Hp} {s lst:Addr} {ns:List Lot} {m k:Nat} {T:Tw} {tp:Addr} (F:Fo H s lst ns m k T tp):∀ n∈lasts ns m,LotAt H n∧LotOk n.x:=fun n hn=>F.ls.lt n (List.mem_of_mem_drop hn)
theorem Fo.ltot {H:Hp} {s lst:Addr} {ns:List Lot} {m k:Nat} {T:Tw} {tp:Addr} (F:Fo H s lst ns m k T tp):tot (ns.take (ns.length - m)) + tot (lasts ns m)≤40:=by
  rw [← tot_app,List.take_append_drop];exact F.tt
theorem Fo.cuts {H:Hp} {s lst:Addr} {ns:List Lot} {m k:Nat} {T:Tw} {tp:Addr} (F:Fo H s lst ns m k T tp):tot ((lasts ns m).take k) + tot ((lasts ns m).drop k)≤40:=by
  rw [← tot_app,List.take_append_drop];have:=F.ltot;lia
abbrev foA (ns:List Lot) (m k:Nat):Trs:=ofL (((lasts ns m).take k).map Lot.x)
abbrev foB (ns:List Lot) (m k:Nat):Trs:=ofL (((lasts ns m).drop k).map Lot.x)
theorem els_ofL (ns:List Lot):els (ofL (ns.map Lot.x))=if ns=[] then [] else Hd.els :: linTs (ofL (ns.map Lot.x)):=by
  cases ns with
  | nil=>show els .nil=_;rw [els];rfl
  | cons n r =>
    rw [if_neg (by simp)]
    exact els_nil (fun z=>nomatch z)
theorem fo_ok {H:Hp} {s lst:Addr} {ns:List Lot} {m k:Nat} {T:Tw} {tp:Addr} (F:Fo H s lst ns m k T tp):LotOk (.iff T (foA ns m k) (foB ns m k))∧(linT (.iff T (foA ns m k) (foB ns m k))).length≤tot (lasts ns m) + 3:=by
  have mA:∀ x∈((lasts ns m).take k).map Lot.x,LotOk x:=fun x hx=>by
    obtain ⟨n,hn,rfl⟩:=List.mem_map.mp hx
    exact (F.mem n (List.mem_of_mem_take hn)).2
  have mB:∀ x∈((lasts ns m).drop k).map Lot.x,LotOk x:=fun x hx=>by
    obtain ⟨n,hn,rfl⟩:=List.mem_map.mp hx
    exact (F.mem n (List.mem_of_mem_drop hn)).2
  obtain ⟨k1,k2⟩:=ln_if F.hT
  refine ⟨⟨?_,fun h hh=>?_⟩,?_⟩
  · unfold Tr.ok
    exact ⟨k1,ok_ofL fun x hx=>(mA x hx).ok,ok_ofL fun x hx=>(mB x hx).ok⟩
  · rw [linT,els_ofL] at hh
    rcases List.mem_cons.mp hh with rfl | hh
    · exact k2
    · rcases List.mem_append.mp hh with hh | hh
      · obtain ⟨x,hx,e⟩:=mem_ofL hh
        exact (mA x hx).wl h e
      · rcases List.mem_append.mp hh with hh | hh
        · split at hh
          · cases hh
          · rcases List.mem_cons.mp hh with rfl | hh
            · exact (by decide:(Hd.words .els).length≤20)
            · obtain ⟨x,hx,e⟩:=mem_ofL hh
              exact (mB x hx).wl h e
        · rw [List.mem_singleton.mp hh];exact (by decide:(Hd.words .nd).length≤20)
  · rw [linT,els_ofL]
    have a:=lin_tot ((lasts ns m).take k)
    have b:=lin_tot ((lasts ns m).drop k)
    have c:=tot_app ((lasts ns m).take k) ((lasts ns m).drop k)
    rw [List.take_append_drop] at c
    simp only [List.length_cons,List.length_append,List.length_nil]
    split
    · rw [a];simp only [List.length_nil];lia
    · rw [a,List.length_cons,b];lia
theorem end_V:V.str (Str.ofString "end")=lnV .nd:=by
  show V.str _=V.str (Str.join bl32 [Str.ofString "end"])
  rfl
theorem els_V:V.str (Str.ofString "else")=lnV .els:=by
  show V.str _=V.str (Str.join bl32 [Str.ofString "else"])
  rfl
abbrev FoQ (Q:VK) (H:Hp):Prop:=∀ (s':Addr) (ns':List Lot) (H':Hp),Same H H'→Lots H' s' ns'→ns'≠[]→tot ns'≤50→Q (.ref s') H'
theorem rdp_fo10 {s nm lst tp la rw_:Addr} {c:Int} {ns:List Lot} {m k:Nat} {T:Tw} {o9:Option V} {ts:List Hd} (F:Fo H s lst ns m k T tp) (hla:H la=some (.lst (ts.map lnV))) (hts:ts ++ [Hd.nd]=linT (.iff T (foA ns m k) (foB ns m k))) (hrw:TrAt anyA H (.ref rw_) (.iff T (foA ns m k) (foB ns m k))) (q:FoQ Q H) :
    rd__law_folded_10 K t { nx:=fun _ H'=>Q .non H',rt:=Q } [some (.ref s),some (.int c),some (.ref nm),some (.int (m:Int)),some (.ref lst),some (.int (k:Int)),some (.str (J T)),some (.ref tp),some (.ref la),o9,some (.ref rw_),some (.int ((Tr.iff T (foA ns m k) (foB ns m k)).deep:Int))] H:=by
  simp only [rd__law_folded_10,rCat,L2.start,tRet,tOp,tVar,tC,tLst,tTup,tCons,tNil,tCB,tSl,tPart,tNoPart,LenV,rCat,rI0,rSlL,cLen,List.map,List.replicate,List.length,List.append,jqa,jqb,jqc,jqd,jqe,jqf,jqg,jqh,jqi,jqj,jqk,jql,jqm,jqn,and_true,true_and,and_assoc,jqo,jqp,jqq,Nat.reduceSub,Nat.reduceAdd,jqr,jqs,jqt,Int.reduceToNat,Int.reducePow,Int.reduceNeg,Int.reduceMul,Int.reduceAdd,if_true,ite_true,jqu,ite_false,if_false]
  obtain ⟨ok,ln⟩:=fo_ok F
  have tl:=F.ltot
  have lts:ts.length + 1=(linT (.iff T (foA ns m k) (foB ns m k))).length:=by rw [← hts,List.length_append];rfl
  generalize hx:Tr.iff T (foA ns m k) (foB ns m k)=x at *
  have sq:SqL K H s (ns.map lotV):=SqL.of F.ls.hs
  refine ⟨ns.length,.inl ⟨_,sq,by rw [List.length_map]⟩,_,sq,fun p1 hp1=>?_⟩
  have e1:((ns.length:Int) - (m:Int))=((ns.length - m:Nat):Int):=by have:=F.m1;lia
  rw [e1,cut_to lotV ns (by lia)]
  have t1:=tot_len (ns.take (ns.length - m))
  obtain ⟨H1,eH,s1,q1⟩:=new_obj (o:=HO.lst ((ns.take (ns.length - m)).map lotV)) hp1
  rw [← eH];clear eH
  refine ⟨by decide,fun p2 hp2=>?_⟩
  obtain ⟨H2,eH,s2,q2⟩:=new_obj (o:=HO.lst [V.str (Str.ofString "end")]) hp2
  rw [← eH];clear eH
  refine ⟨_,(s1.trans s2) _ _ hla,_,q2,small_size (by rw [List.length_map];show _ + 1≤_;lia),fun p3 hp3=>?_⟩
  have e2:ts.map lnV ++ [V.str (Str.ofString "end")]=(linT x).map lnV:=by rw [← hts,List.map_append,end_V];rfl
  rw [e2]
  obtain ⟨H3,eH,s3,q3⟩:=new_obj (o:=HO.lst ((linT x).map lnV)) hp3
  rw [← eH];clear eH
  refine ⟨by decide,fun p4 hp4=>?_⟩
  obtain ⟨H4,eH,s4,q4⟩:=new_obj (o:=HO.tup [V.ref p3,V.ref rw_,V.int (x.deep:Int)]) hp4
  rw [← eH];clear eH
  refine ⟨by decide,fun p5 hp5=>?_⟩
  obtain ⟨H5,eH,s5,q5⟩:=new_obj (o:=HO.lst [V.ref p4]) hp5
  rw [← eH];clear eH
  have S25:=s2.trans (s3.trans (s4.trans s5))
  refine ⟨_,S25 _ _ q1,_,q5,small_size (by rw [List.length_map];show _ + 1≤_;lia),fun p6 hp6=>?_⟩
  have s6:=isV (o:=HO.lst ((ns.take (ns.length - m)).map lotV ++ [V.ref p4])) p6 hp6
  have S:=s1.trans (S25.trans s6)
  refine q p6 (ns.take (ns.length - m) ++ [⟨p4,p3,.ref rw_,x⟩]) _ S ⟨?_,fun n hn=>?_⟩ (by simp) ?_
  · rw [upd_same,List.map_append];rfl
  · rcases List.mem_append.mp hn with hn | hn
    · have:=F.ls.lt n (List.mem_of_mem_take hn)
      exact ⟨this.1.same this.2 S,this.2⟩
    · rw [List.mem_singleton.mp hn]
      exact ⟨⟨(s5.trans s6) _ _ q4,(s4.trans (s5.trans s6)) _ _ q3,TrAt.to (fun _ _ f _=>f) (fun _ _ e=>S _ _ e) (fun _ _ _ e=>S _ _ e) x ok.ok hrw⟩,ok⟩
  · rw [tot_app]
    show _ + ((linT x).length + 0)≤50
    lia
def foT (τ:St):Prop:=∃ o,τ=[o]
theorem rdp_fo9 {s nm lst tp la rw_:Addr} {c:Int} {ns:List Lot} {m k:Nat} {T:Tw} {o9 o11:Option V} {ts:List Hd} (F:Fo H s lst ns m k T tp) (hla:H la=some (.lst (ts.map lnV))) (hts:ts ++ [Hd.nd]=linT (.iff T (foA ns m k) (foB ns m k))) (hrw:TrAt anyA H (.ref rw_) (.iff T (foA ns m k) (foB ns m k))) (q:FoQ Q H) :
    rd__law_folded_9 K t { nx:=fun _ H'=>Q .non H',rt:=Q } [some (.ref s),some (.int c),some (.ref nm),some (.int (m:Int)),some (.ref lst),some (.int (k:Int)),some (.str (J T)),some (.ref tp),some (.ref la),o9,some (.ref rw_),o11] H:=by
  simp only [rd__law_folded_9,rCat,cMaxL,L2.start,rIxT,tSeq,tAsg,gName,tRet,tOp,tVar,tC,tLst,tTup,tCons,tNil,tCB,tSl,tPart,tNoPart,tComp,tYes,capV,LenV,iList,rCat,rIxT,rI0,rSlL,cLen,List.map,List.replicate,List.length,List.append,jqa,jqb,jqc,jqd,jqe,jqf,jqg,jqh,jqi,jqj,jqk,jql,jqm,jqn,and_true,true_and,and_assoc,jqo,jqp,jqq,Nat.reduceSub,Nat.reduceAdd,jqr,jqs,jqt,Int.reduceToNat,Int.reducePow,Int.reduceNeg,Int.reduceMul,Int.reduceAdd,if_true,ite_true,jqu,ite_false,if_false]
  obtain ⟨ok,ln⟩:=fo_ok F
  have ll:=tot_len (lasts ns m)
  have tl:=F.ltot
  refine ⟨by decide,fun p1 hp1=>?_⟩
  obtain ⟨H1,eH,s1,q1⟩:=new_obj (o:=HO.lst [V.int 0]) hp1
  rw [← eH];clear eH
  have F1:=F.same s1
  refine ⟨⟨_,SqL.of F1.hl⟩,fun D hD=>?_⟩
  refine comp_map (lasts ns m) lotV (fun n=>.int (n.x.deep:Int)) (by lia) F1.hl foT ⟨_,rfl⟩ hD ?_ ?_
  · rintro i n τ H2 hi ⟨o,rfl⟩ s2
    have a:=(F1.mem n (List.mem_of_getElem? hi)).1
    simp only [rCat,cMaxL,L2.start,rIxT,tSeq,tAsg,gName,tRet,tOp,tVar,tC,tLst,tTup,tCons,tNil,tCB,tSl,tPart,tNoPart,tComp,tYes,capV,LenV,iList,rCat,rIxT,rI0,rSlL,cLen,List.map,List.replicate,List.length,List.append,jqa,jqb,jqc,jqd,jqe,jqf,jqg,jqh,jqi,jqj,jqk,jql,jqm,jqn,and_true,true_and,and_assoc,jqo,jqp,jqq,Nat.reduceSub,Nat.reduceAdd,jqr,jqs,jqt,Int.reduceToNat,Int.reducePow,Int.reduceNeg,Int.reduceMul,Int.reduceAdd,if_true,ite_true,jqu,ite_false,if_false,lotV]
    exact ⟨_,SqT.of (s2 _ _ a.ha),_,rfl,⟨_,rfl⟩,⟨n,hi,rfl⟩,Same.refl _⟩
  · intro H2 s2 hd
    refine ⟨_,s2 _ _ q1,_,hd,small_size (by rw [List.length_map];show 1 + _≤_;lia),fun p2 hp2=>?_⟩
    have e:[V.int 0] ++ (lasts ns m).map (fun n=>V.int (n.x.deep:Int))=((0:Int) :: (lasts ns m).map fun n=>(n.x.deep:Int)).map V.int:=by rw [List.map_cons,List.map_map];rfl
    rw [e]
    have s3:=isV (o:=HO.lst (((0:Int) :: (lasts ns m).map fun n=>(n.x.deep:Int)).map V.int)) p2 hp2
    refine ⟨_,SqL.of upd_same,by simp,fun M hM1 hM2=>?_⟩
    have eM:=max_is hM1 hM2
    have dp:(Tr.iff T (foA ns m k) (foB ns m k)).deep=(ofL ((lasts ns m).map Lot.x)).deep + 1:=by
      rw [Tr.deep,← deep_app,← List.map_append,List.take_append_drop]
    have e2:1 + M=((Tr.iff T (foA ns m k) (foB ns m k)).deep:Int):=by rw [dp,eM];lia
    rw [e2]
    have S:=s1.trans (s2.trans s3)
    exact rdp_fo10 (F.same S) (S _ _ hla) hts (TrAt.to (fun _ _ f _=>f) (fun _ _ e=>S _ _ e) (fun _ _ _ e=>S _ _ e) _ ok.ok hrw) fun s' ns' H' s=>q s' ns' H' (S.trans s)
theorem rdp_fo8 {s nm lst tp la:Addr} {c:Int} {ns:List Lot} {m k:Nat} {T:Tw} {o9 o10 o11:Option V} {ts:List Hd} (F:Fo H s lst ns m k T tp) (hla:H la=some (.lst (ts.map lnV))) (hts:ts ++ [Hd.nd]=linT (.iff T (foA ns m k) (foB ns m k))) (q:FoQ Q H) :
    rd__law_folded_8 K t { nx:=fun _ H'=>Q .non H',rt:=Q } [some (.ref s),some (.int c),some (.ref nm),some (.int (m:Int)),some (.ref lst),some (.int (k:Int)),some (.str (J T)),some (.ref tp),some (.ref la),o9,o10,o11] H:=by
  simp only [rd__law_folded_8,rCat,cMaxL,L2.start,rIxT,tSeq,tAsg,gName,tRet,tOp,tVar,tC,tLst,tTup,tCons,tNil,tCB,tSl,tPart,tNoPart,tComp,tYes,capV,LenV,iList,rCat,rIxT,rI0,rSlL,cLen,List.map,List.replicate,List.length,List.append,jqa,jqb,jqc,jqd,jqe,jqf,jqg,jqh,jqi,jqj,jqk,jql,jqm,jqn,and_true,true_and,and_assoc,jqo,jqp,jqq,Nat.reduceSub,Nat.reduceAdd,jqr,jqs,jqt,Int.reduceToNat,Int.reducePow,Int.reduceNeg,Int.reduceMul,Int.reduceAdd,if_true,ite_true,jqu,ite_false,if_false]
  have fl:=F.len
  have fk:=F.k1
  have ll:=tot_len (lasts ns m)
  have tl:=F.ltot
  refine ⟨_,SqL.of F.hl,fun p1 hp1=>?_⟩
  rw [cut_to lotV (lasts ns m) (by lia)]
  obtain ⟨H1,eH,s1,q1⟩:=new_obj (o:=HO.lst (((lasts ns m).take k).map lotV)) hp1
  rw [← eH];clear eH
  refine ⟨⟨_,SqL.of q1⟩,fun D hD=>?_⟩
  refine comp_map ((lasts ns m).take k) lotV Lot.rv (by rw [List.length_take];lia) q1 foT ⟨_,rfl⟩ hD ?_ ?_
  · rintro i n τ H2 hi ⟨o,rfl⟩ s2
    have a:=((F.same s1).mem n (List.mem_of_mem_take (List.mem_of_getElem? hi))).1
    simp only [rCat,cMaxL,L2.start,rIxT,tSeq,tAsg,gName,tRet,tOp,tVar,tC,tLst,tTup,tCons,tNil,tCB,tSl,tPart,tNoPart,tComp,tYes,capV,LenV,iList,rCat,rIxT,rI0,rSlL,cLen,List.map,List.replicate,List.length,List.append,jqa,jqb,jqc,jqd,jqe,jqf,jqg,jqh,jqi,jqj,jqk,jql,jqm,jqn,and_true,true_and,and_assoc,jqo,jqp,jqq,Nat.reduceSub,Nat.reduceAdd,jqr,jqs,jqt,Int.reduceToNat,Int.reducePow,Int.reduceNeg,Int.reduceMul,Int.reduceAdd,if_true,ite_true,jqu,ite_false,if_false,lotV]
    exact ⟨_,SqT.of (s2 _ _ a.ha),_,rfl,⟨_,rfl⟩,⟨n,hi,rfl⟩,Same.refl _⟩
  · intro H2 s2 hd
    have S2:=s1.trans s2
    have F2:=F.same S2
    refine ⟨_,SqL.of F2.hl,fun p2 hp2=>?_⟩
    rw [cut_from lotV (lasts ns m) (by lia)]
    obtain ⟨H3,eH,s3,q3⟩:=new_obj (o:=HO.lst (((lasts ns m).drop k).map lotV)) hp2
    rw [← eH];clear eH
    refine ⟨⟨_,SqL.of q3⟩,fun D2 hD2=>?_⟩
    refine comp_map ((lasts ns m).drop k) lotV Lot.rv (by rw [List.length_drop];lia) q3 foT ⟨_,rfl⟩ hD2 ?_ ?_
    · rintro i n τ H4 hi ⟨o,rfl⟩ s4
      have a:=((F2.same s3).mem n (List.mem_of_mem_drop (List.mem_of_getElem? hi))).1
      simp only [rCat,cMaxL,L2.start,rIxT,tSeq,tAsg,gName,tRet,tOp,tVar,tC,tLst,tTup,tCons,tNil,tCB,tSl,tPart,tNoPart,tComp,tYes,capV,LenV,iList,rCat,rIxT,rI0,rSlL,cLen,List.map,List.replicate,List.length,List.append,jqa,jqb,jqc,jqd,jqe,jqf,jqg,jqh,jqi,jqj,jqk,jql,jqm,jqn,and_true,true_and,and_assoc,jqo,jqp,jqq,Nat.reduceSub,Nat.reduceAdd,jqr,jqs,jqt,Int.reduceToNat,Int.reducePow,Int.reduceNeg,Int.reduceMul,Int.reduceAdd,if_true,ite_true,jqu,ite_false,if_false,lotV]
      exact ⟨_,SqT.of (s4 _ _ a.ha),_,rfl,⟨_,rfl⟩,⟨n,hi,rfl⟩,Same.refl _⟩
    · intro H4 s4 hd2
      refine ⟨by decide,fun rw_ hrw=>?_⟩
      have s5:=isV (o:=HO.tup [V.str (Str.ofString "if"),V.ref tp,V.ref D,V.ref D2]) rw_ hrw
      have S:=S2.trans (s3.trans (s4.trans s5))
      have F5:=F.same S
      refine rdp_fo9 F5 (S _ _ hla) hts ?_ fun s' ns' H' s=>q s' ns' H' (S.trans s)
      unfold TrAt
      exact ⟨rw_,tp,D,D2,_,_,rfl,trivial,trivial,upd_same,F5.ht,(s3.trans (s4.trans s5)) _ _ hd,trs_ofL fun n hn=>(F5.mem n (List.mem_of_mem_take hn)).1.hr,s5 _ _ hd2,trs_ofL fun n hn=>(F5.mem n (List.mem_of_mem_drop hn)).1.hr⟩
theorem rdp_fo7 {s nm lst tp la:Addr} {c:Int} {ns:List Lot} {m k:Nat} {T:Tw} {o9 o10 o11:Option V} {ts:List Hd} (F:Fo H s lst ns m k T tp) (hla:H la=some (.lst (ts.map lnV))) (lt:ts.length≤100) (hts:ts ++ (linTs (foB ns m k) ++ [Hd.nd])=linT (.iff T (foA ns m k) (foB ns m k))) (q:FoQ Q H) :
    rd__law_folded_7 K t { nx:=fun _ H'=>Q .non H',rt:=Q } [some (.ref s),some (.int c),some (.ref nm),some (.int (m:Int)),some (.ref lst),some (.int (k:Int)),some (.str (J T)),some (.ref tp),some (.ref la),o9,o10,o11] H:=by
  simp only [rd__law_folded_7,rCat,cMaxL,L2.start,rIxT,tSeq,tAsg,gName,tRet,tOp,tVar,tC,tLst,tTup,tCons,tNil,tFor,tCB,tSl,tPart,tNoPart,tComp,tYes,capV,LenV,iList,rCat,rIxT,rI0,rSlL,cLen,List.map,List.replicate,List.length,List.append,jqa,jqb,jqc,jqd,jqe,jqf,jqg,jqh,jqi,jqj,jqk,jql,jqm,jqn,and_true,true_and,and_assoc,jqo,jqp,jqq,Nat.reduceSub,Nat.reduceAdd,jqr,jqs,jqt,Int.reduceToNat,Int.reducePow,Int.reduceNeg,Int.reduceMul,Int.reduceAdd,if_true,ite_true,jqu,ite_false,if_false]
  have fl:=F.len
  have fk:=F.k1
  have ll:=tot_len (lasts ns m)
  have tl:=F.cuts
  refine ⟨_,SqL.of F.hl,fun p1 hp1=>?_⟩
  rw [cut_from lotV (lasts ns m) (by lia)]
  obtain ⟨H1,eH,s1,q1⟩:=new_obj (o:=HO.lst (((lasts ns m).drop k).map lotV)) hp1
  rw [← eH];clear eH
  refine ⟨⟨_,SqL.of q1⟩,loop_list (((lasts ns m).drop k).map lotV) (catI (fun la o=>[some (.ref s),some (.int c),some (.ref nm),some (.int (m:Int)),some (.ref lst),some (.int (k:Int)),some (.str (J T)),some (.ref tp),some (.ref la),o,o10,o11]) ts ((lasts ns m).drop k) noH H1) ⟨la,_,rfl,rfl,Same.refl _,?_⟩ (fun i σ H' ⟨_,_,_,_,z,_⟩=>SqL.of (z _ _ q1)) ?_ ?_⟩
  · rw [List.take_zero]
    show H1 la=some (.lst ((ts ++ linTs .nil).map lnV))
    rw [linTs,List.append_nil]
    exact s1 _ _ hla
  · rintro i v σ H2 hv ⟨lb,o,rfl,_,s2,hlb⟩
    obtain ⟨n,hn,rfl⟩:=get_lot hv
    have a:=(((F.same s1).same s2).mem n (List.mem_of_mem_drop (List.mem_of_getElem? hn))).1
    have t1:=take_tot ((lasts ns m).drop k) i
    have t2:=tot_mem (List.mem_of_getElem? hn)
    have t3:=lin_tot (((lasts ns m).drop k).take i)
    simp only [rCat,cMaxL,L2.start,rIxT,tSeq,tAsg,gName,tRet,tOp,tVar,tC,tLst,tTup,tCons,tNil,tFor,tCB,tSl,tPart,tNoPart,tComp,tYes,capV,LenV,iList,rCat,rIxT,rI0,rSlL,cLen,List.map,List.replicate,List.length,List.append,jqa,jqb,jqc,jqd,jqe,jqf,jqg,jqh,jqi,jqj,jqk,jql,jqm,jqn,and_true,true_and,and_assoc,jqo,jqp,jqq,Nat.reduceSub,Nat.reduceAdd,jqr,jqs,jqt,Int.reduceToNat,Int.reducePow,Int.reduceNeg,Int.reduceMul,Int.reduceAdd,if_true,ite_true,jqu,ite_false,if_false,lotV]
    refine ⟨_,SqT.of a.ha,_,rfl,_,rfl,_,hlb,_,a.hl,small_size (by rw [List.length_map,List.length_map,List.length_append,t3];lia),fun p hp=>?_⟩
    exact catI.step hn (noH_same _) s2 hp
  · rintro σ H2 ⟨lb,o,rfl,_,s2,hlb⟩
    rw [List.length_map,List.take_of_length_le (Nat.le_refl _)] at hlb
    have S:=s1.trans s2
    exact rdp_fo8 (F.same S) hlb (by rw [List.append_assoc];exact hts) fun s' ns' H' s=>q s' ns' H' (S.trans s)
theorem rdp_fo6 {s nm lst tp la:Addr} {c:Int} {ns:List Lot} {m k:Nat} {T:Tw} {o9 o10 o11:Option V} {H0:Hp} (F:Fo H s lst ns m k T tp) (hla:H la=some (.lst ((Hd.iff T :: linTs (foA ns m k)).map lnV))) (s0:Same H0 H) (f0:H0 la=none) (F0:Fo H0 s lst ns m k T tp) (q:FoQ Q H0) :
    rd__law_folded_6 K t { nx:=fun _ H'=>Q .non H',rt:=Q } [some (.ref s),some (.int c),some (.ref nm),some (.int (m:Int)),some (.ref lst),some (.int (k:Int)),some (.str (J T)),some (.ref tp),some (.ref la),o9,o10,o11] H:=by
  simp only [rd__law_folded_6,rCat,cMaxL,L2.start,r_mt_append,rAppend,rIxT,tSeq,tAsg,gName,tRet,tDrop,tNext,tOp,tVar,tC,tLst,tTup,tCons,tNil,tFor,tIfS,tTest,tCB,tBM,tyV,tSl,tPart,tNoPart,tComp,tYes,capV,LenV,iList,rCat,rIxT,rI0,rSlL,cLen,List.map,List.replicate,List.length,List.append,jqa,jqb,jqc,jqd,jqe,jqf,jqg,jqh,jqi,jqj,jqk,jql,jqm,jqn,and_true,true_and,and_assoc,jqo,jqp,jqq,Nat.reduceSub,Nat.reduceAdd,jqr,jqs,jqt,Int.reduceToNat,Int.reducePow,Int.reduceNeg,Int.reduceMul,Int.reduceAdd,if_true,ite_true,jqu,ite_false,if_false]
  have fl:=F.len
  have fk:=F.k1
  have tl:=F.cuts
  have lA:(linTs (foA ns m k)).length=_:=lin_tot ((lasts ns m).take k)
  refine ite2 (fun c1=>?_) fun c1=>?_
  · have ne:(lasts ns m).drop k≠[]:=fun z=>by
      have:=congrArg List.length z
      rw [List.length_drop,fl] at this
      simp at this
      lia
    refine ⟨.inl ⟨_,SqL.of hla⟩,_,hla,Nat.lt_of_le_of_lt (by rw [List.length_map,List.length_cons,lA];lia:_≤1000) (by decide),?_⟩
    rw [els_V]
    have S:=same_upd (o:=HO.lst ((Hd.iff T :: linTs (foA ns m k)).map lnV ++ [lnV .els])) s0 f0
    refine rdp_fo7 (ts:=(Hd.iff T :: linTs (foA ns m k)) ++ [Hd.els]) (F0.same S) (by rw [upd_same,List.map_append];rfl) (by rw [List.length_append,List.length_cons,lA];show _ + 1≤100;lia) ?_ fun s' ns' H' s=>q s' ns' H' (S.trans s)
    rw [linT,els_ofL,if_neg ne]
    simp only [List.cons_append,List.append_assoc,List.nil_append]
  · have ne:(lasts ns m).drop k=[]:=List.drop_eq_nil_of_le (by rw [fl];lia)
    refine rdp_fo7 F hla (by rw [List.length_cons,lA];lia) ?_ fun s' ns' H' s=>q s' ns' H' (s0.trans s)
    rw [linT,els_ofL,if_pos ne]
    have e:linTs (foB ns m k)=[]:=by
      show linTs (ofL (((lasts ns m).drop k).map Lot.x))=[]
      rw [ne]
      show linTs .nil=[]
      rw [linTs]
    rw [e]
    simp
theorem rdp_fo5 {s nm lst tp la:Addr} {c:Int} {ns:List Lot} {m k:Nat} {T:Tw} {o9 o10 o11:Option V} {H0:Hp} (F0:Fo H0 s lst ns m k T tp) (s0:Same H0 H) (f0:H0 la=none) (hla:H la=some (.lst [lnV (.iff T)])) (q:FoQ Q H0) :
    rd__law_folded_5 K t { nx:=fun _ H'=>Q .non H',rt:=Q } [some (.ref s),some (.int c),some (.ref nm),some (.int (m:Int)),some (.ref lst),some (.int (k:Int)),some (.str (J T)),some (.ref tp),some (.ref la),o9,o10,o11] H:=by
  simp only [rd__law_folded_5,rCat,cMaxL,L2.start,r_mt_append,rAppend,rIxT,tSeq,tAsg,gName,tRet,tDrop,tNext,tOp,tVar,tC,tLst,tTup,tCons,tNil,tFor,tIfS,tTest,tCB,tBM,tyV,tSl,tPart,tNoPart,tComp,tYes,capV,LenV,iList,rCat,rIxT,rI0,rSlL,cLen,List.map,List.replicate,List.length,List.append,jqa,jqb,jqc,jqd,jqe,jqf,jqg,jqh,jqi,jqj,jqk,jql,jqm,jqn,and_true,true_and,and_assoc,jqo,jqp,jqq,Nat.reduceSub,Nat.reduceAdd,jqr,jqs,jqt,Int.reduceToNat,Int.reducePow,Int.reduceNeg,Int.reduceMul,Int.reduceAdd,if_true,ite_true,jqu,ite_false,if_false]
  have F:=F0.same s0
  have fl:=F.len
  have fk:=F.k1
  have ll:=tot_len (lasts ns m)
  have tl:=F.cuts
  refine ⟨_,SqL.of F.hl,fun p1 hp1=>?_⟩
  rw [cut_to lotV (lasts ns m) (by lia)]
  obtain ⟨H1,eH,s1,q1⟩:=new_obj (o:=HO.lst (((lasts ns m).take k).map lotV)) hp1
  rw [← eH];clear eH
  refine ⟨⟨_,SqL.of q1⟩,loop_list (((lasts ns m).take k).map lotV) (catI (fun la o=>[some (.ref s),some (.int c),some (.ref nm),some (.int (m:Int)),some (.ref lst),some (.int (k:Int)),some (.str (J T)),some (.ref tp),some (.ref la),o,o10,o11]) [Hd.iff T] ((lasts ns m).take k) H0 H1) ⟨la,_,rfl,f0,Same.refl _,?_⟩ (fun i σ H' ⟨_,_,_,_,z,_⟩=>SqL.of (z _ _ q1)) ?_ ?_⟩
  · rw [List.take_zero]
    show H1 la=some (.lst (([Hd.iff T] ++ linTs .nil).map lnV))
    rw [linTs,List.append_nil]
    exact s1 _ _ hla
  · rintro i v σ H2 hv ⟨lb,o,rfl,f1,s2,hlb⟩
    obtain ⟨n,hn,rfl⟩:=get_lot hv
    have a:=(((F.same s1).same s2).mem n (List.mem_of_mem_take (List.mem_of_getElem? hn))).1
    have t1:=take_tot ((lasts ns m).take k) i
    have t2:=tot_mem (List.mem_of_getElem? hn)
    have t3:=lin_tot (((lasts ns m).take k).take i)
    simp only [rCat,cMaxL,L2.start,r_mt_append,rAppend,rIxT,tSeq,tAsg,gName,tRet,tDrop,tNext,tOp,tVar,tC,tLst,tTup,tCons,tNil,tFor,tIfS,tTest,tCB,tBM,tyV,tSl,tPart,tNoPart,tComp,tYes,capV,LenV,iList,rCat,rIxT,rI0,rSlL,cLen,List.map,List.replicate,List.length,List.append,jqa,jqb,jqc,jqd,jqe,jqf,jqg,jqh,jqi,jqj,jqk,jql,jqm,jqn,and_true,true_and,and_assoc,jqo,jqp,jqq,Nat.reduceSub,Nat.reduceAdd,jqr,jqs,jqt,Int.reduceToNat,Int.reducePow,Int.reduceNeg,Int.reduceMul,Int.reduceAdd,if_true,ite_true,jqu,ite_false,if_false,lotV]
    refine ⟨_,SqT.of a.ha,_,rfl,_,rfl,_,hlb,_,a.hl,small_size (by rw [List.length_map,List.length_map,List.length_append,t3];show 1 + _ + _≤_;lia),fun p hp=>?_⟩
    exact catI.step hn (s0.trans s1) s2 hp
  · rintro σ H2 ⟨lb,o,rfl,f1,s2,hlb⟩
    rw [List.length_map,List.take_of_length_le (Nat.le_refl _)] at hlb
    have S:=s0.trans (s1.trans s2)
    exact rdp_fo6 (F0.same S) hlb S f1 F0 q
theorem rdp__law_folded {s nm:Addr} {c:Int} {ns:List Lot} (L:Lots H s ns) (tt:tot ns≤40) (N:NamesAt H nm) (q:FoQ Q H) :
    rd__law_folded K t { nx:=fun _ H'=>Q .non H',rt:=Q } (L2.start ["some","cell","names","many","last","cut","line","term","lines","lot","row","deep"] [.ref s,.int c,.ref nm]) H:=by
  simp only [rd__law_folded,rd__law_folded_4,sp__law_spread,sp__law_term,rCat,cMaxL,L2.start,r_mt_append,rAppend,rIxT,tSeq,tAsg,gName,gTup,gCons,gNil,tRet,tDrop,tNext,tOp,tVar,tC,tLst,tTup,tCons,tNil,tFor,tIfS,tTest,tCB,tBM,tyV,tSl,tPart,tNoPart,tCall,tComp,tYes,capV,LenV,iList,rCat,rIxT,rI,rI0,rSlL,rAddS,cLen,List.map,List.replicate,List.length,List.append,jqa,jqb,jqc,jqd,jqe,jqf,jqg,jqh,jqi,jqj,jqk,jql,jqm,jqn,and_true,true_and,and_assoc,jqo,jqp,jqq,Nat.reduceSub,Nat.reduceAdd,jqr,jqs,jqt,Int.reduceToNat,Int.reducePow,Int.reduceNeg,Int.reduceMul,Int.reduceAdd,if_true,ite_true,jqu,ite_false,if_false]
  have sq:SqL K H s (ns.map lotV):=SqL.of L.hs
  obtain ⟨m,em,lm⟩:∃ m:Nat,c / 7 % ((ns.length:Int) + 1)=m∧m≤ns.length:=by
    have a:=Int.emod_nonneg (c / 7) (show ((ns.length:Int) + 1)≠0 by lia)
    have b:=Int.emod_lt_of_pos (c / 7) (show (0:Int) < (ns.length:Int) + 1 by lia)
    exact ⟨(c / 7 % ((ns.length:Int) + 1)).toNat,by lia,by lia⟩
  obtain ⟨k,ek,lk⟩:∃ k:Nat,c / 77 % ((m:Int) + 1)=k∧k≤m:=by
    have a:=Int.emod_nonneg (c / 77) (show ((m:Int) + 1)≠0 by lia)
    have b:=Int.emod_lt_of_pos (c / 77) (show (0:Int) < (m:Int) + 1 by lia)
    exact ⟨(c / 77 % ((m:Int) + 1)).toNat,by lia,by lia⟩
  refine ⟨dB,ns.length,.inl ⟨_,sq,by rw [List.length_map]⟩,by lia,ns.length,.inl ⟨_,sq,by rw [List.length_map]⟩,_,sq,fun p1 hp1=>?_⟩
  rw [em]
  have e1:((ns.length:Int) - (m:Int))=((ns.length - m:Nat):Int):=by lia
  rw [e1,cut_from lotV ns (by lia)]
  obtain ⟨H1,eH,s1,q1⟩:=new_obj (o:=HO.lst ((lasts ns m).map lotV)) hp1
  rw [← eH];clear eH
  refine ⟨dB,by lia,by decide,by decide,fun l xs H2 s2 hx hl hs=>⟨xs,hx,hs,by lia,N.same (s1.trans s2),fun p0 tp T H3 s3 hT g1 g2=>?_⟩⟩
  have lT:=J_len hT
  have lh:(Str.ofString "if ").length=3:=by decide +kernel
  refine ⟨_,SqT.of g1,rfl,_,_,rfl,_,_,rfl,rfl,J T,rfl,small_size (by lia),by decide,fun la hla=>?_⟩
  rw [ek,tx_if]
  have S:=s1.trans (s2.trans s3)
  have F0:Fo H3 s p1 ns m k T tp:=⟨L.same S,tt,lm,(s2.trans s3) _ _ q1,lk,hT,g2⟩
  exact rdp_fo5 F0 (isV la hla) hla upd_same fun s' ns' H' s=>q s' ns' H' (S.trans s)
theorem pst_pl:∀ {T:Tw},okT T=true→(∀ w∈pre T,Asc w)→tmP (pst T)
  | .leaf w,h,ha=>fun v hv=>by
    have hv:v=pvw w:=List.mem_singleton.mp hv
    have h:(partW w).isSome=true:=h
    obtain ⟨u,hu⟩:=Option.isSome_iff_exists.mp h
    have e:pvw w=u:=by unfold pvw;rw [hu];rfl
    rw [hv,e]
    rcases (partW_flat hu).2 with ⟨i,rfl⟩ | rfl
    · exact .inl ⟨i,rfl⟩
    · exact .inr ⟨w,rfl,(ha w (List.mem_singleton.mpr rfl)).flat⟩
  | .node w a b,h,ha=>fun v hv=>by
    have h:(okT a && okT b)=true:=h
    rw [Bool.and_eq_true] at h
    have e:pre (.node w a b)=w :: (pre a ++ pre b):=rfl
    rw [e] at ha
    rcases List.mem_append.mp hv with hv | hv
    · rcases List.mem_append.mp hv with hv | hv
      · exact pst_pl h.1 (fun x hx=>ha x (List.mem_cons_of_mem _ (List.mem_append_left _ hx))) v hv
      · exact pst_pl h.2 (fun x hx=>ha x (List.mem_cons_of_mem _ (List.mem_append_right _ hx))) v hv
    · rw [List.mem_singleton.mp hv]
      exact .inr ⟨w,rfl,(ha w List.mem_cons_self).flat⟩
theorem TmOk.pl {T:Tw} (h:TmOk T):tmP (pst T):=pst_pl h.ok fun w hw=>(h.ws w hw).2
theorem parts_s {H:Hp}:∀ {e:List V},tmP e→DatSs H e (e.map partD)
  | [],_=>.nil
  | v :: r,h=>by
    refine .cons ?_ (parts_s fun u hu=>h u (List.mem_cons_of_mem _ hu))
    rcases h v List.mem_cons_self with ⟨i,rfl⟩ | ⟨x,rfl,_⟩
    · exact .int i
    · exact .str x
theorem term_s {H:Hp} {a:Addr} {T:Tw} (h:TmOk T) (e:H a=some (.tup (pst T))):DatS H (.ref a) (termD (pst T)):=.tup e (parts_s h.pl)
def hdD:Hd→PyData
  | .take sh T sl=>.tuple [.str "take",.str sh,termD (pst T),.str sl]
  | .give sh T U=>.tuple [.str "give",.str sh,termD (pst T),termD (pst U)]
  | .lt sl T=>.tuple [.str "let",.str sl,termD (pst T)]
  | .say T=>.tuple [.str "say",termD (pst T)]
  | .off T=>.tuple [.str "off",termD (pst T)]
  | .iff T=>.tuple [.str "if",termD (pst T),.list [],.list []]
  | .els=>.none
  | .nd=>.none
def Hd.good (hd:Hd):Prop:=hd.plain∨∃ T,hd=.iff T
theorem hd_s {H:Hp} {F:Addr→Prop} {v:V} {hd:Hd} (h:HdAt F H v hd) (g:hd.good) (o:hd.ok):DatS H v (hdD hd):=by
  cases hd with
  | take sh T sl=>obtain ⟨r,te,rfl,e1,e2⟩:=h;exact .tup e1 (.cons (.str _) (.cons (.str _) (.cons (term_s o.2.1 e2) (.cons (.str _) .nil))))
  | give sh T U=>obtain ⟨r,te,tf,rfl,e1,e2,e3⟩:=h;exact .tup e1 (.cons (.str _) (.cons (.str _) (.cons (term_s o.2.1 e2) (.cons (term_s o.2.2 e3) .nil))))
  | lt sl T=>obtain ⟨r,te,rfl,e1,e2⟩:=h;exact .tup e1 (.cons (.str _) (.cons (.str _) (.cons (term_s o.2 e2) .nil)))
  | say T=>obtain ⟨r,te,rfl,e1,e2⟩:=h;exact .tup e1 (.cons (.str _) (.cons (term_s o e2) .nil))
  | off T=>obtain ⟨r,te,rfl,e1,e2⟩:=h;exact .tup e1 (.cons (.str _) (.cons (term_s o e2) .nil))
  | iff T=>obtain ⟨r,te,la,lb,rfl,e1,e2,e3,e4,_⟩:=h;exact .tup e1 (.cons (.str _) (.cons (term_s o e2) (.cons (.lst e3 .nil) (.cons (.lst e4 .nil) .nil))))
  | els=>rcases g with g | ⟨T,g⟩ <;> first | exact g.elim | cases g
  | nd=>rcases g with g | ⟨T,g⟩ <;> first | exact g.elim | cases g
theorem nm_ok {x:Str} (h:isName x=true):PyData.strOk x=true:=(name_asc h).flat
theorem hd_plain {hd:Hd} (g:hd.good) (o:hd.ok):plainD (hdD hd)=true∧(hdD hd).depth≤2:=by
  cases hd with
  | take sh T sl=>exact ⟨by simp [hdD,plainD,plainDs,term_plain o.2.1.pl,nm_ok o.1,nm_ok o.2.2,sok_take],by have:=term_deep (pst T);simp [hdD,PyData.depth,PyData.depthAll];lia⟩
  | give sh T U=>exact ⟨by simp [hdD,plainD,plainDs,term_plain o.2.1.pl,term_plain o.2.2.pl,nm_ok o.1,sok_give],by have:=term_deep (pst T);have:=term_deep (pst U);simp [hdD,PyData.depth,PyData.depthAll];lia⟩
  | lt sl T=>exact ⟨by simp [hdD,plainD,plainDs,term_plain o.2.pl,nm_ok o.1,sok_let],by have:=term_deep (pst T);simp [hdD,PyData.depth,PyData.depthAll];lia⟩
  | say T=>exact ⟨by simp [hdD,plainD,plainDs,term_plain (TmOk.pl o),sok_say],by have:=term_deep (pst T);simp [hdD,PyData.depth,PyData.depthAll];lia⟩
  | off T=>exact ⟨by simp [hdD,plainD,plainDs,term_plain (TmOk.pl o),sok_off],by have:=term_deep (pst T);simp [hdD,PyData.depth,PyData.depthAll];lia⟩
  | iff T=>exact ⟨by simp [hdD,plainD,plainDs,term_plain (TmOk.pl o),sok_if],by have:=term_deep (pst T);simp [hdD,PyData.depth,PyData.depthAll];lia⟩
  | els=>rcases g with g | ⟨T,g⟩ <;> first | exact g.elim | cases g
  | nd=>rcases g with g | ⟨T,g⟩ <;> first | exact g.elim | cases g
theorem nil__law_alike {vs:List V} {H:Hp} {Q:VK} {E:XK} (h:sp__law_alike 0 vs H Q E):False:=by
  obtain ⟨_,_,_,_,_,_,_,h,_⟩:=h
  exact Nat.not_lt_zero _ h
structure KA (K:PySem.W.Frag):Prop where
  i1:PySem.W.kitAny K (.type "int") [.type "list",.type "tuple"]=some false
  s1:PySem.W.kitAny K (.type "str") [.type "list",.type "tuple"]=some false
  l1:PySem.W.kitAny K (.type "list") [.type "list",.type "tuple"]=some true
  t1:PySem.W.kitAny K (.type "tuple") [.type "list",.type "tuple"]=some true
  i2:PySem.W.kitAny K (.type "int") [.type "int",.type "str"]=some true
  s2:PySem.W.kitAny K (.type "str") [.type "int",.type "str"]=some true
theorem ka (K:PySem.W.Frag):KA K:=⟨by with_unfolding_all rfl,by with_unfolding_all rfl,by with_unfolding_all rfl,by with_unfolding_all rfl,by with_unfolding_all rfl,by with_unfolding_all rfl⟩
theorem plains_mem:∀ {ds:List PyData} {d:PyData},plainDs ds=true→d∈ds→plainD d=true
  | [],_,_,h=>nomatch h
  | x :: r,d,p,h=>by
    rw [plainDs,Bool.and_eq_true] at p
    rcases List.mem_cons.mp h with rfl | h
    · exact p.1
    · exact plains_mem p.2 h
def alI (u v:V) (H:Hp) (i:Nat) (σ:St) (H':Hp):Prop:=(∃ o2 o3,σ=[some u,some v,o2,o3])∧Same H H'
theorem rdp__law_alike {u v:V} {d:PyData} {n:Nat} (F:KF K) (h1:DatS H u d) (h2:DatS H v d) (h3:plainD d=true) (h4:d.depth < n + 1) (q:∀ H',Same H H'→Q (.bl true) H') :
    rd__law_alike K t n { nx:=fun _ H'=>Q .non H',rt:=Q } (L2.start ["found","due","one","other"] [u,v]) H:=by
  simp only [rd__law_alike,sp__law_alike,iZipB,cIsiT,L2.start,tSeq,gName,gTup,gCons,gNil,tRet,tNext,tOp,tVar,tC,tTup,tCons,tNil,tFor,tIfS,tOr,tNot,tTest,tB,tAndV,tCB,tCall,LenV,rEq,rNe,cLen,cIsi,scal,List.map,List.replicate,List.length,List.append,jqa,jqb,jqc,jqd,jqe,jqf,jqg,jqh,jqi,jqj,jqk,jql,jqm,jqn,and_true,true_and,and_assoc,jqo,jqp,jqq,Nat.reduceSub,Nat.reduceAdd,jqr,jqs,jqt,Int.reduceToNat,Int.reducePow,Int.reduceNeg,Int.reduceMul,Int.reduceAdd,if_true,ite_true,jqu,ite_false,if_false]
  have A:=ka K
  cases h1 with
  | int i =>
    cases h2
    refine ⟨by decide,fun p hp=>⟨_,.int _,["list","tuple"],upd_same,false,A.i1,?_⟩⟩
    rw [if_neg (by decide)]
    simp only [rd__law_alike_G,iZipB,cIsiT,L2.start,tSeq,gName,gTup,gCons,gNil,tRet,tNext,tOp,tVar,tC,tTup,tCons,tNil,tFor,tIfS,tOr,tNot,tTest,tB,tAndV,tCB,tCall,LenV,rEq,rNe,cLen,cIsi,scal,List.map,List.replicate,List.length,List.append,jqa,jqb,jqc,jqd,jqe,jqf,jqg,jqh,jqi,jqj,jqk,jql,jqm,jqn,and_true,true_and,and_assoc,jqo,jqp,jqq,Nat.reduceSub,Nat.reduceAdd,jqr,jqs,jqt,Int.reduceToNat,Int.reducePow,Int.reduceNeg,Int.reduceMul,Int.reduceAdd,if_true,ite_true,jqu,ite_false,if_false]
    refine ⟨_,.int _,false,F.i_b,?_⟩
    rw [if_neg (by decide)]
    refine ⟨_,.int _,false,F.i_s,_,.int _,false,F.i_s,?_⟩
    rw [if_neg (by simp)]
    refine ⟨by decide,fun p1 hp1=>⟨_,.int _,["int","str"],upd_same,true,A.i2,?_⟩⟩
    rw [if_pos rfl,decide_eq_true trivial]
    exact q _ ((isV p hp).trans (isV p1 hp1))
  | str x =>
    cases h2
    refine ⟨by decide,fun p hp=>⟨_,.str _,["list","tuple"],upd_same,false,A.s1,?_⟩⟩
    rw [if_neg (by decide)]
    simp only [rd__law_alike_G,iZipB,cIsiT,L2.start,tSeq,gName,gTup,gCons,gNil,tRet,tNext,tOp,tVar,tC,tTup,tCons,tNil,tFor,tIfS,tOr,tNot,tTest,tB,tAndV,tCB,tCall,LenV,rEq,rNe,cLen,cIsi,scal,List.map,List.replicate,List.length,List.append,jqa,jqb,jqc,jqd,jqe,jqf,jqg,jqh,jqi,jqj,jqk,jql,jqm,jqn,and_true,true_and,and_assoc,jqo,jqp,jqq,Nat.reduceSub,Nat.reduceAdd,jqr,jqs,jqt,Int.reduceToNat,Int.reducePow,Int.reduceNeg,Int.reduceMul,Int.reduceAdd,if_true,ite_true,jqu,ite_false,if_false]
    refine ⟨_,.str _,false,F.s_b,?_⟩
    rw [if_neg (by decide)]
    refine ⟨_,.str _,true,(kit_same "str"),_,.str _,true,(kit_same "str"),?_⟩
    rw [if_neg (by simp)]
    refine ⟨by decide,fun p1 hp1=>⟨_,.str _,["int","str"],upd_same,true,A.s2,?_⟩⟩
    rw [if_pos rfl,decide_eq_true trivial]
    exact q _ ((isV p hp).trans (isV p1 hp1))
  | @lst a xs ds e1 e2 =>
    cases h2 with
    | @lst b ys _ g1 g2 =>
      have p3:plainDs ds=true:=by rw [plainD] at h3;exact h3
      have p4:PyData.depthAll ds < n:=by rw [PyData.depth] at h4;lia
      have hl:xs.length=ys.length:=by rw [e2.length,g2.length]
      refine ⟨by decide,fun p hp=>⟨_,.lst (isV p hp _ _ g1),["list","tuple"],upd_same,true,A.l1,?_⟩⟩
      rw [if_pos rfl]
      simp only [rd__law_alike_B,iZipB,cIsiT,L2.start,tSeq,gName,gTup,gCons,gNil,tRet,tNext,tOp,tVar,tC,tTup,tCons,tNil,tFor,tIfS,tOr,tNot,tTest,tB,tAndV,tCB,tCall,LenV,rEq,rNe,cLen,cIsi,scal,List.map,List.replicate,List.length,List.append,jqa,jqb,jqc,jqd,jqe,jqf,jqg,jqh,jqi,jqj,jqk,jql,jqm,jqn,and_true,true_and,and_assoc,jqo,jqp,jqq,Nat.reduceSub,Nat.reduceAdd,jqr,jqs,jqt,Int.reduceToNat,Int.reducePow,Int.reduceNeg,Int.reduceMul,Int.reduceAdd,if_true,ite_true,jqu,ite_false,if_false]
      have S1:=isV (o:=HO.tup [V.ty "list",V.ty "tuple"]) p hp
      refine ⟨_,.lst (S1 _ _ g1),_,kit_same "list",_,.lst (S1 _ _ e1),_,kit_same "list",?_⟩
      rw [if_neg (by simp)]
      refine ⟨by decide,fun p1 hp1=>⟨_,.lst (isV p1 hp1 _ _ (S1 _ _ e1)),["list","tuple"],upd_same,true,A.l1,?_⟩⟩
      rw [if_neg (by decide)]
      simp only [rd__law_alike_E,sp__law_alike,iZipB,cIsiT,L2.start,tSeq,gName,gTup,gCons,gNil,tRet,tNext,tOp,tVar,tC,tTup,tCons,tNil,tFor,tIfS,tOr,tNot,tTest,tB,tAndV,tCB,tCall,LenV,rEq,rNe,cLen,cIsi,scal,List.map,List.replicate,List.length,List.append,jqa,jqb,jqc,jqd,jqe,jqf,jqg,jqh,jqi,jqj,jqk,jql,jqm,jqn,and_true,true_and,and_assoc,jqo,jqp,jqq,Nat.reduceSub,Nat.reduceAdd,jqr,jqs,jqt,Int.reduceToNat,Int.reducePow,Int.reduceNeg,Int.reduceMul,Int.reduceAdd,if_true,ite_true,jqu,ite_false,if_false]
      have S2:=S1.trans (isV (o:=HO.tup [V.ty "list",V.ty "tuple"]) p1 hp1)
      refine ⟨_,.inl ⟨_,SqL.of (S2 _ _ e1),rfl⟩,_,.inl ⟨_,SqL.of (S2 _ _ g1),rfl⟩,?_⟩
      rw [if_neg (by rw [hl];simp)]
      refine ⟨xs,ys,hl,.inl ⟨SqL.of (S2 _ _ e1),SqL.of (S2 _ _ g1),loop_zipL xs ys (alI (.ref a) (.ref b) H) ⟨⟨_,_,rfl⟩,S2⟩ (fun i σ H' z=>⟨SqL.of (z.2 _ _ e1),SqL.of (z.2 _ _ g1)⟩) ?_ ?_⟩⟩
      · rintro i u' v' T σ H' hu hv hT ⟨⟨o2,o3,rfl⟩,S⟩
        obtain ⟨d1,f1,D1⟩:=e2.get hu
        obtain ⟨d2,f2,D2⟩:=g2.get hv
        rw [f1] at f2
        cases f2
        have hm:=List.mem_of_getElem? f1
        have S3:=S.trans (isV (o:=HO.tup [u',v']) T hT)
        simp only [iZipB,cIsiT,L2.start,tSeq,gName,gTup,gCons,gNil,tRet,tNext,tOp,tVar,tC,tTup,tCons,tNil,tFor,tIfS,tOr,tNot,tTest,tB,tAndV,tCB,tCall,LenV,rEq,rNe,cLen,cIsi,scal,List.map,List.replicate,List.length,List.append,jqa,jqb,jqc,jqd,jqe,jqf,jqg,jqh,jqi,jqj,jqk,jql,jqm,jqn,and_true,true_and,and_assoc,jqo,jqp,jqq,Nat.reduceSub,Nat.reduceAdd,jqr,jqs,jqt,Int.reduceToNat,Int.reducePow,Int.reduceNeg,Int.reduceMul,Int.reduceAdd,if_true,ite_true,jqu,ite_false,if_false]
        refine ⟨_,SqT.of upd_same,rfl,_,_,rfl,_,_,rfl,rfl,d1,D1.mono S3,D2.mono S3,plains_mem p3 hm,by have:=depth_mem hm;lia,fun H4 s4=>?_⟩
        rw [if_neg (by decide)]
        exact ⟨⟨_,_,rfl⟩,S3.trans s4⟩
      · rintro σ H' ⟨⟨o2,o3,rfl⟩,S⟩
        exact q _ S
  | @tup a xs ds e1 e2 =>
    cases h2 with
    | @tup b ys _ g1 g2 =>
      have p3:plainDs ds=true:=by rw [plainD] at h3;exact h3
      have p4:PyData.depthAll ds < n:=by rw [PyData.depth] at h4;lia
      have hl:xs.length=ys.length:=by rw [e2.length,g2.length]
      refine ⟨by decide,fun p hp=>⟨_,.tup (isV p hp _ _ g1),["list","tuple"],upd_same,true,A.t1,?_⟩⟩
      rw [if_pos rfl]
      simp only [rd__law_alike_B,iZipB,cIsiT,L2.start,tSeq,gName,gTup,gCons,gNil,tRet,tNext,tOp,tVar,tC,tTup,tCons,tNil,tFor,tIfS,tOr,tNot,tTest,tB,tAndV,tCB,tCall,LenV,rEq,rNe,cLen,cIsi,scal,List.map,List.replicate,List.length,List.append,jqa,jqb,jqc,jqd,jqe,jqf,jqg,jqh,jqi,jqj,jqk,jql,jqm,jqn,and_true,true_and,and_assoc,jqo,jqp,jqq,Nat.reduceSub,Nat.reduceAdd,jqr,jqs,jqt,Int.reduceToNat,Int.reducePow,Int.reduceNeg,Int.reduceMul,Int.reduceAdd,if_true,ite_true,jqu,ite_false,if_false]
      have S1:=isV (o:=HO.tup [V.ty "list",V.ty "tuple"]) p hp
      refine ⟨_,.tup (S1 _ _ g1),_,F.t_l,_,.tup (S1 _ _ e1),_,F.t_l,?_⟩
      rw [if_neg (by simp)]
      refine ⟨by decide,fun p1 hp1=>⟨_,.tup (isV p1 hp1 _ _ (S1 _ _ e1)),["list","tuple"],upd_same,true,A.t1,?_⟩⟩
      rw [if_neg (by decide)]
      simp only [rd__law_alike_E,sp__law_alike,iZipB,cIsiT,L2.start,tSeq,gName,gTup,gCons,gNil,tRet,tNext,tOp,tVar,tC,tTup,tCons,tNil,tFor,tIfS,tOr,tNot,tTest,tB,tAndV,tCB,tCall,LenV,rEq,rNe,cLen,cIsi,scal,List.map,List.replicate,List.length,List.append,jqa,jqb,jqc,jqd,jqe,jqf,jqg,jqh,jqi,jqj,jqk,jql,jqm,jqn,and_true,true_and,and_assoc,jqo,jqp,jqq,Nat.reduceSub,Nat.reduceAdd,jqr,jqs,jqt,Int.reduceToNat,Int.reducePow,Int.reduceNeg,Int.reduceMul,Int.reduceAdd,if_true,ite_true,jqu,ite_false,if_false]
      have S2:=S1.trans (isV (o:=HO.tup [V.ty "list",V.ty "tuple"]) p1 hp1)
      refine ⟨_,.inr ⟨_,SqT.of (S2 _ _ e1),rfl⟩,_,.inr ⟨_,SqT.of (S2 _ _ g1),rfl⟩,?_⟩
      rw [if_neg (by rw [hl];simp)]
      refine ⟨xs,ys,hl,.inr ⟨SqT.of (S2 _ _ e1),SqT.of (S2 _ _ g1),loop_zip xs ys (alI (.ref a) (.ref b) H) ⟨⟨_,_,rfl⟩,S2⟩ (fun i σ H' z=>⟨SqT.of (z.2 _ _ e1),SqT.of (z.2 _ _ g1)⟩) ?_ ?_⟩⟩
      · rintro i u' v' T σ H' hu hv hT ⟨⟨o2,o3,rfl⟩,S⟩
        obtain ⟨d1,f1,D1⟩:=e2.get hu
        obtain ⟨d2,f2,D2⟩:=g2.get hv
        rw [f1] at f2
        cases f2
        have hm:=List.mem_of_getElem? f1
        have S3:=S.trans (isV (o:=HO.tup [u',v']) T hT)
        simp only [iZipB,cIsiT,L2.start,tSeq,gName,gTup,gCons,gNil,tRet,tNext,tOp,tVar,tC,tTup,tCons,tNil,tFor,tIfS,tOr,tNot,tTest,tB,tAndV,tCB,tCall,LenV,rEq,rNe,cLen,cIsi,scal,List.map,List.replicate,List.length,List.append,jqa,jqb,jqc,jqd,jqe,jqf,jqg,jqh,jqi,jqj,jqk,jql,jqm,jqn,and_true,true_and,and_assoc,jqo,jqp,jqq,Nat.reduceSub,Nat.reduceAdd,jqr,jqs,jqt,Int.reduceToNat,Int.reducePow,Int.reduceNeg,Int.reduceMul,Int.reduceAdd,if_true,ite_true,jqu,ite_false,if_false]
        refine ⟨_,SqT.of upd_same,rfl,_,_,rfl,_,_,rfl,rfl,d1,D1.mono S3,D2.mono S3,plains_mem p3 hm,by have:=depth_mem hm;lia,fun H4 s4=>?_⟩
        rw [if_neg (by decide)]
        exact ⟨⟨_,_,rfl⟩,S3.trans s4⟩
      · rintro σ H' ⟨⟨o2,o3,rfl⟩,S⟩
        exact q _ S
mutual
def trD:Tr→PyData
  | .row h=>hdD h
  | .iff T a b=>.tuple [.str "if",termD (pst T),.list (trsD a),.list (trsD b)]
def trsD:Trs→List PyData
  | .nil=>[]
  | .cons x r=>trD x :: trsD r
end
mutual
theorem tr_s {F:Addr→Prop}:∀ (x:Tr) {v:V},x.ok→TrAt F H v x→DatS H v (trD x)
  | .row h,v,k,a=>by
    unfold Tr.ok at k
    unfold TrAt at a
    rw [trD]
    exact hd_s a (.inl k.2) k.1.ok
  | .iff T a b,v,k,h=>by
    unfold Tr.ok at k
    unfold TrAt at h
    obtain ⟨r,te,la,lb,xs,ys,rfl,_,_,e1,e2,e3,e4,e5,e6⟩:=h
    rw [trD]
    exact .tup e1 (.cons (.str _) (.cons (term_s k.1.ok e2) (.cons (.lst e3 (trs_s a k.2.1 e4)) (.cons (.lst e5 (trs_s b k.2.2 e6)) .nil))))
theorem trs_s {F:Addr→Prop}:∀ (x:Trs) {vs:List V},x.ok→TrsAt F H vs x→DatSs H vs (trsD x)
  | .nil,vs,k,h=>by
    unfold TrsAt at h
    subst h
    rw [trsD]
    exact .nil
  | .cons x r,vs,k,h=>by
    unfold Trs.ok at k
    unfold TrsAt at h
    obtain ⟨v,ws,rfl,h1,h2⟩:=h
    rw [trsD]
    exact .cons (tr_s x k.1 h1) (trs_s r k.2 h2)
end
mutual
theorem tr_pl:∀ (x:Tr),x.ok→plainD (trD x)=true∧(trD x).depth≤2 * x.deep + 2
  | .row h,k=>by
    unfold Tr.ok at k
    rw [trD,Tr.deep]
    exact hd_plain (.inl k.2) k.1.ok
  | .iff T a b,k=>by
    unfold Tr.ok at k
    have o:TmOk T:=k.1.ok
    obtain ⟨a1,a2⟩:=trs_pl a k.2.1
    obtain ⟨b1,b2⟩:=trs_pl b k.2.2
    have d:(Tr.iff T a b).deep=max a.deep b.deep + 1:=by rw [Tr.deep]
    rw [trD,d]
    exact ⟨by simp [plainD,plainDs,term_plain (TmOk.pl o),sok_if,a1,b1],by have:=term_deep (pst T);simp [PyData.depth,PyData.depthAll];lia⟩
theorem trs_pl:∀ (x:Trs),x.ok→plainDs (trsD x)=true∧PyData.depthAll (trsD x)≤2 * x.deep + 2
  | .nil,k=>by
    rw [trsD]
    exact ⟨by rw [plainDs],by simp [PyData.depthAll]⟩
  | .cons x r,k=>by
    unfold Trs.ok at k
    obtain ⟨a1,a2⟩:=tr_pl x k.1
    obtain ⟨b1,b2⟩:=trs_pl r k.2
    have d:(Trs.cons x r).deep=max x.deep r.deep:=by rw [Trs.deep]
    rw [trsD,d]
    exact ⟨by rw [plainDs,a1,b1];rfl,by rw [PyData.depthAll];lia⟩
end
theorem sum_tot:∀ (ns:List Lot),(ns.map fun n=>((linT n.x).length:Int)).sum=(tot ns:Int)
  | []=>rfl
  | n :: r=>by
    show ((linT n.x).length:Int) + (r.map fun n=>((linT n.x).length:Int)).sum=(((linT n.x).length + tot r:Nat):Int)
    rw [sum_tot r];lia
def rowsT (τ:St):Prop:=∃ o,τ=[o]
structure Ro (H:Hp) (s:Addr) (ns:List Lot):Prop where
  ls:Lots H s ns
  tt:tot ns≤40
  dp:∀ n∈ns,n.x.deep≤5
def roI (a nm:Addr) (H:Hp) (i:Nat) (σ:St) (H':Hp):Prop:=∃ s ns,(∃ o3 o4 o5 o6,σ=[some (.ref a),some (.ref nm),some (.ref s),o3,o4,o5,o6,none,none])∧Same H H'∧Ro H' s ns
theorem rdp_roB {a nm s s':Addr} {ns ns':List Lot} {H0:Hp} {o3 o5 o6:Option V} {i:Nat} {D:Ends} (S:Same H0 H) (R:Ro H s ns) (L:Lots H s' ns') (ne:ns'≠[]) (t5:tot ns'≤50) (q:∀ σ H',roI a nm H0 i σ H'→D.nx σ H') :
    rd__law_rows_B K t D [some (.ref a),some (.ref nm),some (.ref s),o3,some (.ref s'),o5,o6,none,none] H:=by
  simp only [rd__law_rows_B,cSumL,cMaxL,L2.start,rIxT,tAsg,gName,tNext,tOp,tVar,tC,tCons,tNil,tIfS,tAnd,tTest,tCB,tComp,tYes,capV,LenV,iList,rIxT,rI0,cLen,List.map,List.replicate,List.length,List.append,jqa,jqb,jqc,jqd,jqe,jqf,jqg,jqh,jqi,jqj,jqk,jql,jqm,jqn,and_true,true_and,and_assoc,jqo,jqp,jqq,Nat.reduceSub,Nat.reduceAdd,jqr,jqs,jqt,Int.reduceToNat,Int.reducePow,Int.reduceNeg,Int.reduceMul,Int.reduceAdd,if_true,ite_true,jqu,ite_false,if_false]
  have l5:=tot_len ns'
  refine ⟨⟨_,SqL.of L.hs⟩,fun D1 hD=>?_⟩
  refine comp_map ns' lotV (fun n=>.int (n.x.deep:Int)) (by lia) L.hs rowsT ⟨_,rfl⟩ hD ?_ ?_
  · rintro i n τ H2 hi ⟨o,rfl⟩ s2
    have a:=(L.lt n (List.mem_of_getElem? hi)).1
    simp only [cSumL,cMaxL,L2.start,rIxT,tAsg,gName,tNext,tOp,tVar,tC,tCons,tNil,tIfS,tAnd,tTest,tCB,tComp,tYes,capV,LenV,iList,rIxT,rI0,cLen,List.map,List.replicate,List.length,List.append,jqa,jqb,jqc,jqd,jqe,jqf,jqg,jqh,jqi,jqj,jqk,jql,jqm,jqn,and_true,true_and,and_assoc,jqo,jqp,jqq,Nat.reduceSub,Nat.reduceAdd,jqr,jqs,jqt,Int.reduceToNat,Int.reducePow,Int.reduceNeg,Int.reduceMul,Int.reduceAdd,if_true,ite_true,jqu,ite_false,if_false,lotV]
    exact ⟨_,SqT.of (s2 _ _ a.ha),_,rfl,⟨_,rfl⟩,⟨n,hi,rfl⟩,Same.refl _⟩
  · intro H2 s2 hd
    have e:ns'.map (fun n=>V.int (n.x.deep:Int))=(ns'.map fun n=>(n.x.deep:Int)).map V.int:=by rw [List.map_map];rfl
    rw [e] at hd
    have fin:∀ {H3:Hp},Same H H3→D.nx [some (.ref a),some (.ref nm),some (.ref s),o3,some (.ref s'),o5,o6,none,none] H3:=fun s3=>q _ _ ⟨s,ns,⟨_,_,_,_,rfl⟩,S.trans s3,R.ls.same s3,R.tt,R.dp⟩
    refine ⟨_,SqL.of hd,by rw [List.length_map];exact List.length_pos_iff.mpr ne,fun M hM1 hM2=>ite2 (fun c1=>?_) fun c1=>fin s2⟩
    have Lb:=L.same s2
    refine ⟨⟨_,SqL.of Lb.hs⟩,fun D2 hD2=>?_⟩
    refine comp_map ns' lotV (fun n=>.int ((linT n.x).length:Int)) (by lia) Lb.hs rowsT ⟨_,rfl⟩ hD2 ?_ ?_
    · rintro i n τ H3 hi ⟨o,rfl⟩ s3
      have a:=(Lb.lt n (List.mem_of_getElem? hi)).1
      simp only [cSumL,cMaxL,L2.start,rIxT,tAsg,gName,tNext,tOp,tVar,tC,tCons,tNil,tIfS,tAnd,tTest,tCB,tComp,tYes,capV,LenV,iList,rIxT,rI0,cLen,List.map,List.replicate,List.length,List.append,jqa,jqb,jqc,jqd,jqe,jqf,jqg,jqh,jqi,jqj,jqk,jql,jqm,jqn,and_true,true_and,and_assoc,jqo,jqp,jqq,Nat.reduceSub,Nat.reduceAdd,jqr,jqs,jqt,Int.reduceToNat,Int.reducePow,Int.reduceNeg,Int.reduceMul,Int.reduceAdd,if_true,ite_true,jqu,ite_false,if_false,lotV]
      exact ⟨_,SqT.of (s3 _ _ a.ha),_,rfl,(linT n.x).length,.inl ⟨_,SqL.of (s3 _ _ a.hl),by rw [List.length_map]⟩,⟨_,rfl⟩,⟨n,hi,rfl⟩,Same.refl _⟩
    · intro H3 s3 hd2
      have e2:ns'.map (fun n=>V.int ((linT n.x).length:Int))=(ns'.map fun n=>((linT n.x).length:Int)).map V.int:=by rw [List.map_map];rfl
      rw [e2] at hd2
      refine ⟨_,SqL.of hd2,ite2 (fun c2=>?_) fun c2=>fin (s2.trans s3)⟩
      have es:(ns'.map fun n=>((linT n.x).length:Int)).sum=(tot ns':Int):=sum_tot ns'
      exact q _ _ ⟨s',ns',⟨_,_,_,_,rfl⟩,S.trans (s2.trans s3),Lb.same s3,by lia,fun n hn=>by
        have:=hM2 _ (List.mem_map.mpr ⟨n,hn,rfl⟩)
        lia⟩
abbrev RsQ (Q:VK) (H:Hp):Prop:=∀ (p rw_:Addr) (ys:List V) (D:Trs) (H':Hp),Same H H'→H' p=some (.tup [.str (txtD D),.ref rw_])→H' rw_=some (.lst ys)→TrsAt anyA H' ys D→Deal D→Q (.ref p) H'
theorem Ro.deal {H:Hp} {s:Addr} {ns:List Lot} (R:Ro H s ns):Deal (ofL (ns.map Lot.x)):=by
  refine ⟨ok_ofL fun x hx=>?_,?_,by rw [lin_tot];exact R.tt,fun h hh=>?_⟩
  · obtain ⟨n,hn,rfl⟩:=List.mem_map.mp hx
    exact (R.ls.lt n hn).2.ok
  · rcases (max_ofL ns).2 with h | ⟨n,hn,h⟩
    · lia
    · rw [← h];exact R.dp n hn
  · obtain ⟨x,hx,e⟩:=mem_ofL hh
    obtain ⟨n,hn,rfl⟩:=List.mem_map.mp hx
    exact (R.ls.lt n hn).2.wl h e
theorem sum14 {ts:List Hd} (h:ts.length≤40) (L:∀ h∈ts,LnOk h):sumL (Str.ofString "\n") (ts.map Hd.line)≤sizeLine:=by
  rw [sp_nl]
  exact Nat.le_trans (sumL_lines h L) (by decide)
theorem join_nl (ls:List Str):joinS (Str.ofString "\n") ls=Str.join nl10 ls:=by rw [sp_nl];exact joinS_eq _ _
theorem rdp_ro2 {a nm s:Addr} {ns:List Lot} {o3 o4 o5 o6:Option V} (R:Ro H s ns) (q:RsQ Q H) :
    rd__law_rows_2 K t { nx:=fun _ H'=>Q .non H',rt:=Q } [some (.ref a),some (.ref nm),some (.ref s),o3,o4,o5,o6,none,none] H:=by
  simp only [rd__law_rows_2,rCat,L2.start,rIxT,r_mt_join,tSeq,tAsg,gName,tRet,tOp,tVar,tC,tLst,tTup,tCons,tNil,tFor,tBM,tyV,tComp,tYes,capV,iList,rCat,rIxT,List.map,List.replicate,List.length,List.append,jqa,jqb,jqc,jqd,jqe,jqf,jqg,jqh,jqi,jqj,jqk,jql,jqm,jqn,and_true,true_and,and_assoc,jqo,jqp,jqq,Nat.reduceSub,Nat.reduceAdd,jqr,jqs,jqt,Int.reduceToNat,Int.reducePow,Int.reduceNeg,Int.reduceMul,Int.reduceAdd,if_true,ite_true,jqu,ite_false,if_false]
  have tl:=R.tt
  have ll:=tot_len ns
  refine ⟨by decide,fun p hp=>?_⟩
  obtain ⟨H1,eH,s1,q1⟩:=new_obj (o:=HO.lst []) hp
  rw [← eH];clear eH
  have L1:=R.ls.same s1
  refine ⟨⟨_,SqL.of L1.hs⟩,loop_list (ns.map lotV) (catI (fun la o=>[some (.ref a),some (.ref nm),some (.ref s),o3,o4,o5,o6,some (.ref la),o]) [] ns noH H1) ⟨p,_,rfl,rfl,Same.refl _,?_⟩ (fun i σ H' ⟨_,_,_,_,z,_⟩=>SqL.of (z _ _ L1.hs)) ?_ ?_⟩
  · rw [List.take_zero]
    show H1 p=some (.lst (([] ++ linTs .nil).map lnV))
    rw [linTs,List.append_nil]
    exact q1
  · rintro i v σ H2 hv ⟨lb,o,rfl,_,s2,hlb⟩
    obtain ⟨n,hn,rfl⟩:=get_lot hv
    have a:=((L1.same s2).lt n (List.mem_of_getElem? hn)).1
    have t1:=take_tot ns i
    have t2:=tot_mem (List.mem_of_getElem? hn)
    have t3:=lin_tot (ns.take i)
    simp only [rCat,L2.start,rIxT,r_mt_join,tSeq,tAsg,gName,tRet,tOp,tVar,tC,tLst,tTup,tCons,tNil,tFor,tBM,tyV,tComp,tYes,capV,iList,rCat,rIxT,List.map,List.replicate,List.length,List.append,jqa,jqb,jqc,jqd,jqe,jqf,jqg,jqh,jqi,jqj,jqk,jql,jqm,jqn,and_true,true_and,and_assoc,jqo,jqp,jqq,Nat.reduceSub,Nat.reduceAdd,jqr,jqs,jqt,Int.reduceToNat,Int.reducePow,Int.reduceNeg,Int.reduceMul,Int.reduceAdd,if_true,ite_true,jqu,ite_false,if_false,lotV]
    refine ⟨_,SqT.of a.ha,_,rfl,_,rfl,_,hlb,_,a.hl,small_size (by rw [List.length_map,List.length_map,List.nil_append,t3];lia),fun p hp=>?_⟩
    exact catI.step hn (noH_same _) s2 hp
  · rintro σ H2 ⟨lb,o,rfl,_,s2,hlb⟩
    rw [List.length_map,List.take_of_length_le (Nat.le_refl _),List.nil_append,lnV_map] at hlb
    have dl:=R.deal
    have Lb:=L1.same s2
    simp only [rCat,L2.start,rIxT,r_mt_join,tSeq,tAsg,gName,tRet,tOp,tVar,tC,tLst,tTup,tCons,tNil,tFor,tBM,tyV,tComp,tYes,capV,iList,rCat,rIxT,List.map,List.replicate,List.length,List.append,jqa,jqb,jqc,jqd,jqe,jqf,jqg,jqh,jqi,jqj,jqk,jql,jqm,jqn,and_true,true_and,and_assoc,jqo,jqp,jqq,Nat.reduceSub,Nat.reduceAdd,jqr,jqs,jqt,Int.reduceToNat,Int.reducePow,Int.reduceNeg,Int.reduceMul,Int.reduceAdd,if_true,ite_true,jqu,ite_false,if_false]
    refine ⟨_,SqL.of hlb,sum14 dl.ln fun h hh=>lins_ok _ dl.ok h hh,⟨_,SqL.of Lb.hs⟩,fun D hD=>?_⟩
    refine comp_map ns lotV Lot.rv (by lia) Lb.hs rowsT ⟨_,rfl⟩ hD ?_ ?_
    · rintro i n τ H3 hi ⟨o,rfl⟩ s3
      have a:=(Lb.lt n (List.mem_of_getElem? hi)).1
      simp only [rCat,L2.start,rIxT,r_mt_join,tSeq,tAsg,gName,tRet,tOp,tVar,tC,tLst,tTup,tCons,tNil,tFor,tBM,tyV,tComp,tYes,capV,iList,rCat,rIxT,List.map,List.replicate,List.length,List.append,jqa,jqb,jqc,jqd,jqe,jqf,jqg,jqh,jqi,jqj,jqk,jql,jqm,jqn,and_true,true_and,and_assoc,jqo,jqp,jqq,Nat.reduceSub,Nat.reduceAdd,jqr,jqs,jqt,Int.reduceToNat,Int.reducePow,Int.reduceNeg,Int.reduceMul,Int.reduceAdd,if_true,ite_true,jqu,ite_false,if_false,lotV]
      exact ⟨_,SqT.of (s3 _ _ a.ha),_,rfl,⟨_,rfl⟩,⟨n,hi,rfl⟩,Same.refl _⟩
    · intro H3 s3 hd
      refine ⟨by decide,fun p9 hp9=>?_⟩
      rw [join_nl]
      have s9:=isV (o:=HO.tup [V.str (Str.join nl10 ((linTs (ofL (ns.map Lot.x))).map Hd.line)),V.ref D]) p9 hp9
      have S:=s1.trans (s2.trans (s3.trans s9))
      exact q p9 D _ _ _ S upd_same (s9 _ _ hd) (trs_ofL fun n hn=>((R.ls.same S).lt n hn).1.hr) dl
theorem rdp__law_rows {a nm:Addr} {cs:List Int} (hx:H a=some (.lst (cs.map V.int))) (hl:cs.length≤63) (N:NamesAt H nm) (q:RsQ Q H) :
    rd__law_rows K t { nx:=fun _ H'=>Q .non H',rt:=Q } (L2.start ["cells","names","some","cell","made","line","row","lines","lot"] [.ref a,.ref nm]) H:=by
  simp only [rd__law_rows,sp__law_folded,sp__law_row,rCat,cSumL,cMaxL,L2.start,rIxT,r_mt_join,tSeq,tAsg,gName,gTup,gCons,gNil,tRet,tNext,tOp,tVar,tC,tLst,tTup,tCons,tNil,tFor,tIfS,tAnd,tTest,tCB,tBM,tyV,tCall,tComp,tYes,capV,LenV,iList,rCat,rIxT,rI,rI0,cLen,List.map,List.replicate,List.length,List.append,jqa,jqb,jqc,jqd,jqe,jqf,jqg,jqh,jqi,jqj,jqk,jql,jqm,jqn,and_true,true_and,and_assoc,jqo,jqp,jqq,Nat.reduceSub,Nat.reduceAdd,jqr,jqs,jqt,Int.reduceToNat,Int.reducePow,Int.reduceNeg,Int.reduceMul,Int.reduceAdd,if_true,ite_true,jqu,ite_false,if_false]
  refine ⟨by decide,fun p hp=>?_⟩
  obtain ⟨H1,eH,s1,q1⟩:=new_obj (o:=HO.lst []) hp
  rw [← eH];clear eH
  refine ⟨⟨_,SqL.of (s1 _ _ hx)⟩,loop_list (cs.map V.int) (roI a nm H) ⟨p,[],⟨_,_,_,_,rfl⟩,s1,⟨q1,(fun n z=>nomatch z)⟩,by decide,fun n z=>nomatch z⟩ (fun i σ H' ⟨_,_,_,z,_⟩=>SqL.of (z _ _ hx)) ?_ ?_⟩
  · rintro i v σ H2 hv ⟨s,ns,⟨o3,o4,o5,o6,rfl⟩,S,R⟩
    obtain ⟨c,hc,rfl⟩:=List.mem_map.mp (List.mem_of_getElem? hv)
    have tl:=R.tt
    have ll:=tot_len ns
    simp only [rCat,cSumL,cMaxL,L2.start,rIxT,r_mt_join,tSeq,tAsg,gName,gTup,gCons,gNil,tRet,tNext,tOp,tVar,tC,tLst,tTup,tCons,tNil,tFor,tIfS,tAnd,tTest,tCB,tBM,tyV,tCall,tComp,tYes,capV,LenV,iList,rCat,rIxT,rI,rI0,cLen,List.map,List.replicate,List.length,List.append,jqa,jqb,jqc,jqd,jqe,jqf,jqg,jqh,jqi,jqj,jqk,jql,jqm,jqn,and_true,true_and,and_assoc,jqo,jqp,jqq,Nat.reduceSub,Nat.reduceAdd,jqr,jqs,jqt,Int.reduceToNat,Int.reducePow,Int.reduceNeg,Int.reduceMul,Int.reduceAdd,if_true,ite_true,jqu,ite_false,if_false]
    refine ⟨by decide,ite2 (fun c1=>?_) fun c1=>?_⟩
    · exact ⟨ns,R.ls,R.tt,N.same S,fun s' ns' H3 s3 L ne t5=>rdp_roB (i:=i + 1) (S.trans s3) ⟨R.ls.same s3,R.tt,R.dp⟩ L ne t5 fun σ H' h=>h⟩
    · refine ⟨dB,N.same S,fun p0 rv hd H3 s3 g1 g2 g3 g4 g5=>⟨_,SqT.of g1,rfl,_,_,rfl,_,_,rfl,rfl,by decide,fun p1 hp1=>?_⟩⟩
      obtain ⟨H4,eH,s4,q4⟩:=new_obj (o:=HO.lst [lnV hd]) hp1
      rw [show [V.str hd.line]=[lnV hd] from rfl,← eH];clear eH
      refine ⟨by decide,fun p2 hp2=>?_⟩
      obtain ⟨H5,eH,s5,q5⟩:=new_obj (o:=HO.tup [V.ref p1,rv,V.int 0]) hp2
      rw [← eH];clear eH
      refine ⟨by decide,fun p3 hp3=>?_⟩
      obtain ⟨H6,eH,s6,q6⟩:=new_obj (o:=HO.lst [V.ref p2]) hp3
      rw [← eH];clear eH
      have S6:=s3.trans (s4.trans (s5.trans s6))
      refine ⟨_,S6 _ _ R.ls.hs,_,q6,small_size (by rw [List.length_map];show _ + 1≤_;lia),fun p4 hp4=>?_⟩
      have s7:=isV (o:=HO.lst (ns.map lotV ++ [V.ref p2])) p4 hp4
      have S7:=S6.trans s7
      have S47:=s4.trans (s5.trans (s6.trans s7))
      refine rdp_roB (i:=i + 1) (ns':=ns ++ [⟨p2,p1,rv,.row hd⟩]) (S.trans S7) ⟨R.ls.same S7,R.tt,R.dp⟩ ⟨by rw [upd_same,List.map_append];rfl,fun n hn=>?_⟩ (by simp) ?_ fun σ H' h=>h
      · rcases List.mem_append.mp hn with hn | hn
        · have:=R.ls.lt n hn
          exact ⟨this.1.same this.2 S7,this.2⟩
        · rw [List.mem_singleton.mp hn]
          refine ⟨⟨?_,?_,?_⟩,⟨?_,fun h hh=>?_⟩⟩
          · show _=some (HO.tup [V.ref p1,rv,V.int ((Tr.row hd).deep:Int)])
            rw [Tr.deep]
            exact (s6.trans s7) _ _ q5
          · show _=some (HO.lst ((linT (.row hd)).map lnV))
            rw [linT]
            exact (s5.trans (s6.trans s7)) _ _ q4
          · show TrAt anyA _ rv (.row hd)
            unfold TrAt
            exact g2.to (fun _ _=>trivial) S47
          · show (Tr.row hd).ok
            unfold Tr.ok
            exact ⟨g3,g5⟩
          · have hh:h∈linT (.row hd):=hh
            rw [linT] at hh
            rw [List.mem_singleton.mp hh]
            exact g4
      · rw [tot_app]
        show _ + ((linT (.row hd)).length + 0)≤50
        rw [linT,List.length_singleton]
        lia
  · rintro σ H2 ⟨s,ns,⟨o3,o4,o5,o6,rfl⟩,S,R⟩
    exact rdp_ro2 R fun p rw_ ys D H' s=>q p rw_ ys D H' (S.trans s)
theorem nil__law_copy {vs:List V} {H:Hp} {Q:VK} {E:XK} (h:sp__law_copy 0 vs H Q E):False:=by
  obtain ⟨F,l,xs,D,_,_,_,_,_,h,_⟩:=h
  exact Nat.not_lt_zero _ h
theorem len_lin:∀ (D:Trs),D.len≤(linTs D).length
  | .nil=>Nat.zero_le _
  | .cons x r=>by
    have:=len_lin r
    have:=lin_pos x
    show r.len + 1≤_
    rw [linTs,List.length_append];lia
theorem lin_iff (T:Tw) (a b:Trs):(linTs a).length + (linTs b).length≤(linT (.iff T a b)).length:=by
  rw [linT,List.length_cons,List.length_append,List.length_append]
  cases b with
  | nil=>rw [linTs];simp only [List.length_nil];lia
  | cons x r=>rw [els_nil (b:=Trs.cons x r) (fun z=>nomatch z),List.length_cons];lia
theorem up_tr {F:Addr→Prop} {H:Hp} {R:Addr} {ys zs:List V} {x:Tr} {v:V} (k:x.ok) (hR:H R=some (.lst ys)) (h:TrAt (fun b=>F b∧b≠R) H v x):TrAt (fun b=>F b∧b≠R) (upd H R (.lst zs)) v x:=TrAt.to (fun _ _ f _=>f) (ts_upd hR) (fun b us f e=>upd_fr f.2 e) x k h
theorem up_trs {F:Addr→Prop} {H:Hp} {R:Addr} {ys zs:List V} {x:Trs} {vs:List V} (k:x.ok) (hR:H R=some (.lst ys)) (h:TrsAt (fun b=>F b∧b≠R) H vs x):TrsAt (fun b=>F b∧b≠R) (upd H R (.lst zs)) vs x:=TrsAt.to (fun _ _ f _=>f) (ts_upd hR) (fun b us f e=>upd_fr f.2 e) x k h
def cpI (a R:Addr) (F:Addr→Prop) (D:Trs) (xs:List V) (n:Nat) (H:Hp) (i:Nat) (σ:St) (H':Hp):Prop:=∃ (ys:List V) (d rest:Trs),(∃ o,σ=[some (.ref a),some (.ref R),o])∧Same H H'∧H' R=some (.lst ys)∧ys.length≤i∧TrsAt (fun b=>F b∧b≠R) H' ys d∧TrsAt (fun b=>F b∧b≠R) H (xs.drop i) rest∧d.app rest=D∧d.ok∧rest.ok∧rest.deep < n + 1∧(linTs rest).length≤40
theorem rdp__law_copy {F:Addr→Prop} {l:Addr} {xs:List V} {D:Trs} {n:Nat} (ha:H l=some (.lst xs)) (hx:TrsAt F H xs D) (hk:D.ok) (h2:∀ b,H b=none→F b) (h3:D.deep < n + 1) (h4:(linTs D).length≤40) (q:∀ l' ys H',Same H H'→H' l'=some (.lst ys)→F l'→TrsAt F H' ys D→Q (.ref l') H') :
    rd__law_copy K t n { nx:=fun _ H'=>Q .non H',rt:=Q } (L2.start ["rows","made","row"] [.ref l]) H:=by
  have lx:=TrsAt.len D hx
  have ld:=len_lin D
  simp only [rd__law_copy,sp__law_copy,L2.start,r_mt_append,rAppend,rIxT,tSeq,tAsg,gName,tRet,tDrop,tOp,tVar,tC,tLst,tTup,tCons,tNil,tFor,tIfS,tTest,tBM,tyV,tCall,iList,rIxT,rEq,scal,List.map,List.replicate,List.length,List.append,jqa,jqb,jqc,jqd,jqe,jqf,jqg,jqh,jqi,jqj,jqk,jql,jqm,jqn,and_true,true_and,and_assoc,jqo,jqp,jqq,Nat.reduceSub,Nat.reduceAdd,jqr,jqs,jqt,Int.reduceToNat,Int.reducePow,Int.reduceNeg,Int.reduceMul,Int.reduceAdd,if_true,ite_true,jqu,ite_false,if_false]
  refine ⟨by decide,fun R hR=>?_⟩
  have s0:=isV (o:=HO.lst []) R hR
  have hx':TrsAt (fun b=>F b∧b≠R) H xs D:=TrsAt.to (fun b o f e=>⟨f,ne_of_none e hR⟩) (fun _ _ e=>e) (fun _ _ _ e=>e) D hk hx
  refine ⟨⟨_,SqL.of (s0 _ _ ha)⟩,loop_list xs (cpI l R F D xs n H) ⟨[],.nil,D,⟨_,rfl⟩,s0,upd_same,Nat.le_refl _,by unfold TrsAt;rfl,by rw [List.drop_zero];exact hx',rfl,by unfold Trs.ok;trivial,hk,h3,h4⟩ (fun i σ H' ⟨ys,d,rest,_,s,_⟩=>SqL.of (s _ _ ha)) ?_ ?_⟩
  · rintro i v σ H' hv ⟨ys,d,rest,⟨o,rfl⟩,s,hy,ly,hd,hr,ha2,dk,rk,dp,ct⟩
    have hi:=(List.getElem?_eq_some_iff.mp hv).1
    obtain ⟨x,rs,rfl,rx,rr⟩:=hr.get hv
    have c1:(Trs.cons x rs).deep=max x.deep rs.deep:=by rw [Trs.deep]
    have c2:(linTs (Trs.cons x rs)).length=(linT x).length + (linTs rs).length:=by rw [linTs,List.length_append]
    rw [c1] at dp
    rw [c2] at ct
    unfold Trs.ok at rk
    obtain ⟨xk,rk⟩:=rk
    have sl:ys.length < sizeLine:=Nat.lt_of_le_of_lt (by lia:ys.length≤500) (by decide)
    have fin:∀ (H2:Hp) (u:V),Same H' H2→TrAt (fun b=>F b∧b≠R) H2 u x→cpI l R F D xs n H (i + 1) [some (.ref l),some (.ref R),some v] (upd H2 R (.lst (ys ++ [u]))):=fun H2 u s2 hu =>
      ⟨ys ++ [u],d.snoc x,rs,⟨_,rfl⟩,same_upd (s.trans s2) hR,upd_same,by rw [List.length_append,List.length_singleton];lia,TrsAt.snoc (up_tr xk (s2 _ _ hy) hu) d (up_trs dk (s2 _ _ hy) (TrsAt.same s2 dk hd)),rr,by rw [snoc_app];exact ha2,snoc_tok xk d dk,rk,by lia,by lia⟩
    cases x with
    | iff T a' b' =>
      have k1:(Tr.iff T a' b').deep=max a'.deep b'.deep + 1:=by rw [Tr.deep]
      have k2:=lin_iff T a' b'
      rw [k1] at dp
      unfold TrAt at rx
      unfold Tr.ok at xk
      obtain ⟨r,te,la,lb,as,bs,rfl,f3,f4,e2,e3,e4,e5,e6,e7⟩:=rx
      simp only [L2.start,r_mt_append,rAppend,rIxT,tSeq,tAsg,gName,tRet,tDrop,tOp,tVar,tC,tLst,tTup,tCons,tNil,tFor,tIfS,tTest,tBM,tyV,tCall,iList,rIxT,rEq,scal,List.map,List.replicate,List.length,List.append,jqa,jqb,jqc,jqd,jqe,jqf,jqg,jqh,jqi,jqj,jqk,jql,jqm,jqn,and_true,true_and,and_assoc,jqo,jqp,jqq,Nat.reduceSub,Nat.reduceAdd,jqr,jqs,jqt,Int.reduceToNat,Int.reducePow,Int.reduceNeg,Int.reduceMul,Int.reduceAdd,if_true,ite_true,jqu,ite_false,if_false]
      refine ⟨_,SqT.of (s _ _ e2),_,rfl,rfl,?_⟩
      rw [if_pos rfl]
      simp only [rd__law_copy_B,sp__law_copy,L2.start,r_mt_append,rAppend,rIxT,tSeq,tAsg,gName,tRet,tDrop,tOp,tVar,tC,tLst,tTup,tCons,tNil,tFor,tIfS,tTest,tBM,tyV,tCall,iList,rIxT,rEq,scal,List.map,List.replicate,List.length,List.append,jqa,jqb,jqc,jqd,jqe,jqf,jqg,jqh,jqi,jqj,jqk,jql,jqm,jqn,and_true,true_and,and_assoc,jqo,jqp,jqq,Nat.reduceSub,Nat.reduceAdd,jqr,jqs,jqt,Int.reduceToNat,Int.reducePow,Int.reduceNeg,Int.reduceMul,Int.reduceAdd,if_true,ite_true,jqu,ite_false,if_false]
      have fr:∀ {H2:Hp},Same H' H2→∀ b,H2 b=none→F b∧b≠R:=fun s2 b hb=>⟨h2 _ (fresh_of (s.trans s2) hb),fresh_ne (s2 _ _ hy) hb⟩
      refine ⟨.inl ⟨_,SqL.of hy⟩,_,SqT.of (s _ _ e2),_,rfl,_,SqT.of (s _ _ e2),_,rfl,fun b=>F b∧b≠R,la,rfl,as,s _ _ e4,a',TrsAt.same s xk.2.1 e5,xk.2.1,fr (Same.refl _),by lia,by lia,fun l1 as1 H2 t1 hl1 g1 r1=>?_⟩
      have T1:=s.trans t1
      refine ⟨_,SqT.of (T1 _ _ e2),_,rfl,fun b=>F b∧b≠R,lb,rfl,bs,T1 _ _ e6,b',TrsAt.same T1 xk.2.2 e7,xk.2.2,fr t1,by lia,by lia,fun l2 bs1 H3 t2 hl2 g2 r2'=>⟨by decide,fun r2 hr2=>?_⟩⟩
      have t3:=isV (o:=HO.tup [V.str (Str.ofString "if"),V.ref te,V.ref l1,V.ref l2]) r2 hr2
      have TT:=t1.trans (t2.trans t3)
      refine ⟨ys,TT _ _ hy,sl,fin _ (.ref r2) TT ?_⟩
      unfold TrAt
      exact ⟨r2,te,l1,l2,as1,bs1,rfl,g1,g2,upd_same,(s.trans TT) _ _ e3,(t2.trans t3) _ _ hl1,TrsAt.same (t2.trans t3) xk.2.1 r1,t3 _ _ hl2,TrsAt.same t3 xk.2.2 r2'⟩
    | row h =>
      have rx':=rx
      unfold TrAt at rx'
      obtain ⟨p,ws,w,rfl,e2,e3,_,_,n1⟩:=hd_head rx'
      unfold Tr.ok at xk
      simp only [L2.start,r_mt_append,rAppend,rIxT,tSeq,tAsg,gName,tRet,tDrop,tOp,tVar,tC,tLst,tTup,tCons,tNil,tFor,tIfS,tTest,tBM,tyV,tCall,iList,rIxT,rEq,scal,List.map,List.replicate,List.length,List.append,jqa,jqb,jqc,jqd,jqe,jqf,jqg,jqh,jqi,jqj,jqk,jql,jqm,jqn,and_true,true_and,and_assoc,jqo,jqp,jqq,Nat.reduceSub,Nat.reduceAdd,jqr,jqs,jqt,Int.reduceToNat,Int.reducePow,Int.reduceNeg,Int.reduceMul,Int.reduceAdd,if_true,ite_true,jqu,ite_false,if_false]
      refine ⟨_,SqT.of (s _ _ e2),_,e3,rfl,?_⟩
      rw [if_neg (fun z=>by obtain ⟨T,e⟩:=n1.mp (V.str.inj z);rw [e] at xk;exact xk.2)]
      simp only [rd__law_copy_C,L2.start,r_mt_append,rAppend,rIxT,tSeq,tAsg,gName,tRet,tDrop,tOp,tVar,tC,tLst,tTup,tCons,tNil,tFor,tIfS,tTest,tBM,tyV,tCall,iList,rIxT,rEq,scal,List.map,List.replicate,List.length,List.append,jqa,jqb,jqc,jqd,jqe,jqf,jqg,jqh,jqi,jqj,jqk,jql,jqm,jqn,and_true,true_and,and_assoc,jqo,jqp,jqq,Nat.reduceSub,Nat.reduceAdd,jqr,jqs,jqt,Int.reduceToNat,Int.reducePow,Int.reduceNeg,Int.reduceMul,Int.reduceAdd,if_true,ite_true,jqu,ite_false,if_false]
      refine ⟨.inl ⟨_,SqL.of hy⟩,ys,hy,sl,fin _ _ (Same.refl _) ?_⟩
      exact TrAt.to (fun _ _ f _=>f) (fun _ _ e=>s _ _ e) (fun _ _ _ e=>s _ _ e) (.row h) (by unfold Tr.ok;exact xk) rx
  · rintro σ H' ⟨ys,d,rest,⟨o,rfl⟩,s,hy,ly,hd,hr,ha2,dk,_⟩
    have e:=hr.none
    subst e
    rw [app_nil] at ha2
    subst ha2
    exact ⟨_,rfl,q R ys H' s hy (h2 R hR) (TrsAt.to (fun b o f _=>f.1) (fun _ _ e=>e) (fun _ _ _ e=>e) d dk hd)⟩
theorem cut_V (xs:List V) {k:Nat} (h:k≤xs.length):cutV xs (some (k:Int)) none=xs.drop k:=by
  have:=cut_from id xs h
  rwa [List.map_id,List.map_id] at this
theorem TrsO.get {H:Hp}:∀ {r:Trs} {vs:List V} {i:Nat} {v:V} {os:List Addr},TrsO H (vs.drop i) r os→vs[i]?=some v→∃ x rs o1 o2,r=.cons x rs∧os=o1 ++ o2∧TrO H v x o1∧TrsO H (vs.drop (i + 1)) rs o2:=by
  intro r vs i v os h hv
  obtain ⟨hl,rfl⟩:=List.getElem?_eq_some_iff.mp hv
  rw [List.drop_eq_getElem_cons hl] at h
  cases r with
  | nil=>unfold TrsO at h;exact nomatch h.1
  | cons x rs =>
    unfold TrsO at h
    obtain ⟨u,ws,o1,o2,e,e0,h1,h2⟩:=h
    cases e
    exact ⟨x,rs,o1,o2,rfl,e0,h1,h2⟩
def apI (l rw_:Addr) (xs ys:List V) (H0:Hp) (i:Nat) (σ:St) (H':Hp):Prop:=∃ (rest:Trs) (os:List Addr),(∃ o,σ=[some (.ref l),some (.ref rw_),o])∧Same H0 H'∧H' l=some (.lst xs)∧TrsO H' (xs.drop i) rest os∧(l :: os).Nodup∧(∀ b∈l :: os,H0 b=none)∧TrsAt anyA H0 (ys.drop i) rest∧rest.ok∧rest.deep≤5∧(linTs rest).length≤40
theorem rdp__law_apart {l rw_:Addr} {xs ys:List V} {os:List Addr} {D:Trs} {H0:Hp} (h1:H l=some (.lst xs)) (h2:TrsO H xs D os) (h3:(l :: os).Nodup) (h4:∀ b∈l :: os,H0 b=none) (h5:Same H0 H) (h6:H0 rw_=some (.lst ys)) (h7:TrsAt anyA H0 ys D) (h8:Deal D) (q:∀ H',Same H0 H'→Q (.bl true) H') :
    rd__law_apart K t { nx:=fun _ H'=>Q .non H',rt:=Q } (L2.start ["found","rows","k"] [.ref l,.ref rw_]) H:=by
  simp only [rd__law_apart,sp__law_alike,r_mt_clear,rClear,L2.start,r_mt_append,rAppend,rIxT,tSeq,gName,tRet,tDrop,tNext,tOp,tVar,tC,tTup,tCons,tNil,tFor,tIfS,tOr,tNot,tTest,tB,tCB,tBM,tBM0,tyV,tSl,tPart,tNoPart,tCall,LenV,iRng1,rIxL,rIxT,rEq,rI0,rSlL,cLen,scal,List.map,List.replicate,List.length,List.append,jqa,jqb,jqc,jqd,jqe,jqf,jqg,jqh,jqi,jqj,jqk,jql,jqm,jqn,and_true,true_and,and_assoc,jqo,jqp,jqq,Nat.reduceSub,Nat.reduceAdd,jqr,jqs,jqt,Int.reduceToNat,Int.reducePow,Int.reduceNeg,Int.reduceMul,Int.reduceAdd,if_true,ite_true,jqu,ite_false,if_false]
  have lx:=TrsO.len h2
  have ly:=TrsAt.len D h7
  have ld:=len_lin D
  have l40:=h8.ln
  refine ⟨xs.length,.inl ⟨_,SqL.of h1,rfl⟩,by lia,by lia,loop_range (apI l rw_ xs ys H0) ⟨D,os,⟨_,rfl⟩,h5,h1,by rw [List.drop_zero];exact h2,h3,h4,by rw [List.drop_zero];exact h7,h8.ok,h8.dp,h8.ln⟩ ?_ ?_⟩
  · rintro i σ H1 hi ⟨rest,os,⟨o,rfl⟩,S,hl,ht,nd,fr,hy,rk,dp,ct⟩
    have hi:i < xs.length:=by lia
    obtain ⟨v,hv⟩:∃ v,xs[i]?=some v:=⟨_,List.getElem?_eq_getElem hi⟩
    obtain ⟨u,hu⟩:∃ u,ys[i]?=some u:=⟨_,List.getElem?_eq_getElem (by lia)⟩
    obtain ⟨x,rs,o1,o2,rfl,rfl,tx,tr⟩:=TrsO.get ht hv
    obtain ⟨x',rs',e,yx,yr⟩:=TrsAt.get hy hu
    cases e
    have c1:(Trs.cons x rs).deep=max x.deep rs.deep:=by rw [Trs.deep]
    rw [c1] at dp
    have c2:(linTs (Trs.cons x rs)).length=(linT x).length + (linTs rs).length:=by rw [linTs,List.length_append]
    rw [c2] at ct
    unfold Trs.ok at rk
    obtain ⟨xk,rk⟩:=rk
    have i0:(0 + (i:Int))=(i:Int):=by lia
    have av:atI xs (i:Int)=some v:=at_nat hv
    have au:atI ys (i:Int)=some u:=at_nat hu
    rw [List.nodup_cons,List.nodup_append] at nd
    obtain ⟨nl,n1,n2,n12⟩:=nd
    have nd2:(l :: o2).Nodup:=List.nodup_cons.mpr ⟨fun z=>nl (by simp [z]),n2⟩
    have fr2:∀ b∈l :: o2,H0 b=none:=fun b hb=>fr b (by rcases List.mem_cons.mp hb with rfl | h <;> simp [*])
    simp only [rd__law_apart_B,r_mt_clear,rClear,L2.start,r_mt_append,rAppend,rIxT,tSeq,gName,tRet,tDrop,tNext,tOp,tVar,tC,tTup,tCons,tNil,tFor,tIfS,tOr,tNot,tTest,tB,tCB,tBM,tBM0,tyV,tSl,tPart,tNoPart,tCall,LenV,iRng1,rIxL,rIxT,rEq,rI0,rSlL,cLen,scal,List.map,List.replicate,List.length,List.append,jqa,jqb,jqc,jqd,jqe,jqf,jqg,jqh,jqi,jqj,jqk,jql,jqm,jqn,and_true,true_and,and_assoc,jqo,jqp,jqq,Nat.reduceSub,Nat.reduceAdd,jqr,jqs,jqt,Int.reduceToNat,Int.reducePow,Int.reduceNeg,Int.reduceMul,Int.reduceAdd,if_true,ite_true,jqu,ite_false,if_false,i0]
    cases x with
    | row h =>
      unfold TrO at tx
      obtain ⟨p,ws,w,rfl,e2,e3,_,_,m1⟩:=hd_head tx.1
      unfold Tr.ok at xk
      refine ⟨_,SqL.of hl,_,av,_,rfl,_,SqT.of e2,_,e3,rfl,?_⟩
      rw [if_neg (fun z=>by obtain ⟨T,e⟩:=m1.mp (V.str.inj z);rw [e] at xk;exact xk.2)]
      exact ⟨rs,o2,⟨_,rfl⟩,S,hl,tr,nd2,fr2,yr,rk,by lia,by lia⟩
    | iff T a b =>
      have k1:(Tr.iff T a b).deep=max a.deep b.deep + 1:=by rw [Tr.deep]
      rw [k1] at dp
      unfold TrO at tx
      unfold TrAt at yx
      unfold Tr.ok at xk
      obtain ⟨r,te,la,lb,za,zb,oa,ob,rfl,rfl,e1,e2,e3,e4,e5,e6⟩:=tx
      obtain ⟨r',te',la',lb',za',zb',rfl,_,_,g1,g2,g3,g4,g5,g6⟩:=yx
      refine ⟨_,SqL.of hl,_,av,_,rfl,_,SqT.of e1,_,rfl,rfl,?_⟩
      rw [if_pos rfl]
      simp only [rd__law_apart_C,r_mt_clear,rClear,L2.start,r_mt_append,rAppend,rIxT,tSeq,gName,tRet,tDrop,tNext,tOp,tVar,tC,tTup,tCons,tNil,tFor,tIfS,tOr,tNot,tTest,tB,tCB,tBM,tBM0,tyV,tSl,tPart,tNoPart,tCall,LenV,iRng1,rIxL,rIxT,rEq,rI0,rSlL,cLen,scal,List.map,List.replicate,List.length,List.append,jqa,jqb,jqc,jqd,jqe,jqf,jqg,jqh,jqi,jqj,jqk,jql,jqm,jqn,and_true,true_and,and_assoc,jqo,jqp,jqq,Nat.reduceSub,Nat.reduceAdd,jqr,jqs,jqt,Int.reduceToNat,Int.reducePow,Int.reduceNeg,Int.reduceMul,Int.reduceAdd,if_true,ite_true,jqu,ite_false,if_false]
      have k2:=lin_iff T a b
      have k3:=len_lin b
      have k4:=TrsO.len e6
      rw [List.nodup_cons,List.nodup_cons] at n1
      obtain ⟨m1,m2,m3⟩:=n1
      have nab:la≠lb:=fun z=>m1 (by rw [z];simp)
      have nlb:l≠lb:=fun z=>nl (by rw [z];simp)
      have nla:l≠la:=fun z=>nl (by rw [z];simp)
      refine ⟨_,SqL.of hl,_,av,_,rfl,_,SqT.of e1,_,rfl,.inl ⟨_,SqL.of e5⟩,by decide,fun p1 hp1=>?_⟩
      obtain ⟨H2,eH,s2,q2⟩:=new_obj (o:=HO.tup [V.int 1]) hp1
      rw [← eH];clear eH
      refine ⟨by decide,fun p2 hp2=>?_⟩
      obtain ⟨H3,eH,s3,q3⟩:=new_obj (o:=HO.tup [V.str (Str.ofString "say"),V.ref p1]) hp2
      rw [← eH];clear eH
      have S13:=s2.trans s3
      refine ⟨lb,rfl,zb,S13 _ _ e5,Nat.lt_of_le_of_lt (by lia:zb.length≤500) (by decide),?_⟩
      obtain ⟨H4,eH⟩:∃ H4,H4=upd H3 lb (.lst (zb ++ [.ref p2])):=⟨_,rfl⟩
      have SX:∀ b o,b≠lb→H1 b=some o→H4 b=some o:=fun b o n e=>by rw [eH,upd_ne n];exact S13 _ _ e
      have S4:Same H0 H4:=by rw [eH];exact same_upd (S.trans S13) (fr lb (by simp))
      rw [← eH];clear eH
      have hl4:=SX l _ nlb hl
      have e14:=SX r _ (ne_of e1 e5 (fun z=>nomatch z)) e1
      have T4:TS H1 H4:=fun b zs e=>SX b _ (ne_of e e5 (fun z=>nomatch z)) e
      have la4:=SX la _ nab e3
      have ta4:TrsO H4 za a oa:=TrsO.to T4 a xk.2.1 (fun b hb zs e=>SX b _ (fun z=>m2 (by rw [← z];simp [hb])) e) e4
      have tr4:TrsO H4 (xs.drop (i + 1)) rs o2:=TrsO.to T4 rs rk (fun b hb zs e=>SX b _ (fun z=>n12 lb (by simp) b hb z.symm) e) tr
      obtain ⟨pa,da⟩:=trs_pl a xk.2.1
      obtain ⟨pr,dr⟩:=trs_pl rs rk
      have i1:((i:Int) + 1)=((i + 1:Nat):Int):=by lia
      simp only [rd__law_apart_E,sp__law_alike,r_mt_clear,rClear,L2.start,r_mt_append,rAppend,rIxT,tSeq,gName,tRet,tDrop,tNext,tOp,tVar,tC,tTup,tCons,tNil,tFor,tIfS,tOr,tNot,tTest,tB,tCB,tBM,tBM0,tyV,tSl,tPart,tNoPart,tCall,LenV,iRng1,rIxL,rIxT,rEq,rI0,rSlL,cLen,scal,List.map,List.replicate,List.length,List.append,jqa,jqb,jqc,jqd,jqe,jqf,jqg,jqh,jqi,jqj,jqk,jql,jqm,jqn,and_true,true_and,and_assoc,jqo,jqp,jqq,Nat.reduceSub,Nat.reduceAdd,jqr,jqs,jqt,Int.reduceToNat,Int.reducePow,Int.reduceNeg,Int.reduceMul,Int.reduceAdd,if_true,ite_true,jqu,ite_false,if_false]
      refine ⟨_,SqL.of hl4,_,av,_,rfl,_,SqT.of e14,_,rfl,_,SqL.of (S4 _ _ h6),_,au,_,rfl,_,SqT.of (S4 _ _ g1),_,rfl,.list (trsD a),.lst la4 (trs_s a xk.2.1 (TrsO.any a ta4)),.lst (S4 _ _ g3) (trs_s a xk.2.1 (TrsAt.same S4 xk.2.1 g4)),by rw [plainD];exact pa,by rw [PyData.depth];lia,fun H5 s5=>?_⟩
      refine ⟨_,SqL.of (s5 _ _ hl4),fun p3 hp3=>?_⟩
      rw [i1,cut_V xs (by lia)]
      obtain ⟨H6,eH,s6,q6⟩:=new_obj (o:=HO.lst (xs.drop (i + 1))) hp3
      rw [← eH];clear eH
      have S46:=s5.trans s6
      refine ⟨_,SqL.of ((S4.trans S46) _ _ h6),fun p4 hp4=>?_⟩
      rw [cut_V ys (by lia)]
      obtain ⟨H7,eH,s7,q7⟩:=new_obj (o:=HO.lst (ys.drop (i + 1))) hp4
      rw [← eH];clear eH
      have S47:=S46.trans s7
      refine ⟨.list (trsD rs),.lst (s7 _ _ q6) (trs_s rs rk (TrsO.any rs (TrsO.same S47 rk tr4))),.lst q7 (trs_s rs rk (TrsAt.same (S4.trans S47) rk yr)),by rw [plainD];exact pr,by rw [PyData.depth];lia,fun H8 s8=>?_⟩
      have S48:=S47.trans s8
      refine ⟨_,SqL.of (S48 _ _ hl4),_,av,_,rfl,_,SqT.of (S48 _ _ e14),_,rfl,.inl ⟨_,SqL.of (S48 _ _ la4)⟩,la,rfl,za,S48 _ _ la4,?_⟩
      have la8:=S48 _ _ la4
      refine ⟨rs,o2,⟨_,rfl⟩,same_upd (S4.trans S48) (fr la (by simp)),upd_fr nla (S48 _ _ hl4),?_,nd2,fr2,yr,rk,by lia,by lia⟩
      exact TrsO.to (ts_upd la8) rs rk (fun b hb zs e=>upd_fr (fun z=>n12 la (by simp) b hb z.symm) e) (TrsO.same S48 rk tr4)
  · rintro σ H1 ⟨rest,os,⟨o,rfl⟩,S,hl,ht,nd,fr,hy,rk,dp,ct⟩
    simp only [r_mt_clear,rClear,L2.start,r_mt_append,rAppend,rIxT,tSeq,gName,tRet,tDrop,tNext,tOp,tVar,tC,tTup,tCons,tNil,tFor,tIfS,tOr,tNot,tTest,tB,tCB,tBM,tBM0,tyV,tSl,tPart,tNoPart,tCall,LenV,iRng1,rIxL,rIxT,rEq,rI0,rSlL,cLen,scal,List.map,List.replicate,List.length,List.append,jqa,jqb,jqc,jqd,jqe,jqf,jqg,jqh,jqi,jqj,jqk,jql,jqm,jqn,and_true,true_and,and_assoc,jqo,jqp,jqq,Nat.reduceSub,Nat.reduceAdd,jqr,jqs,jqt,Int.reduceToNat,Int.reducePow,Int.reduceNeg,Int.reduceMul,Int.reduceAdd,if_true,ite_true,jqu,ite_false,if_false]
    exact ⟨.inl ⟨_,SqL.of hl⟩,_,hl,q _ (same_upd S (fr l (by simp)))⟩
theorem txt_len {ts:List Hd} (h:ts.length≤40) (L:∀ h∈ts,LnOk h∧h.words.length≤20):(Str.join nl10 (ts.map Hd.line)).length≤100000:=by
  have lj:=join_len 10 2020 (ts.map Hd.line) fun w hw=>by
    obtain ⟨g,hg,rfl⟩:=List.mem_map.mp hw
    have k:=L g hg
    have:=join_len 32 100 g.words fun w hw=>(k.1.ws w hw).1
    have e:g.line.length≤g.words.length * 101:=this
    have:=k.2
    lia
  have lj:(Str.join nl10 (ts.map Hd.line)).length≤(ts.map Hd.line).length * 2021:=lj
  rw [List.length_map] at lj
  lia
theorem Deal.len {D:Trs} (d:Deal D):(txtD D).length≤100000:=txt_len d.ln fun h hh=>⟨lins_ok D d.ok h hh,d.wl h hh⟩
theorem Deal.dat {D:Trs} (d:Deal D) {H:Hp} {l:Addr} {xs:List V} (h1:H l=some (.lst xs)) (h2:TrsAt anyA H xs D):DatS H (.ref l) (.list (trsD D)):=.lst h1 (trs_s D d.ok h2)
theorem Deal.pl {D:Trs} (d:Deal D):plainD (.list (trsD D))=true∧(PyData.list (trsD D)).depth < 15:=by
  obtain ⟨p1,p2⟩:=trs_pl D d.ok
  have:=d.dp
  exact ⟨by rw [plainD];exact p1,by rw [PyData.depth];lia⟩
theorem rdp_law7 {a nm rw_ hn fo:Addr} {tl:V} {D:Trs} {H0:Hp} {xs ys:List V} {os:List Addr} (d:Deal D) (h1:H fo=some (.lst xs)) (h2:TrsO H xs D os) (h3:(fo :: os).Nodup) (h4:∀ b∈fo :: os,H0 b=none) (h5:Same H0 H) (h6:H0 rw_=some (.lst ys)) (h7:TrsAt anyA H0 ys D) (q:∀ H',Q (.bl true) H') :
    rd_law_7 K t { nx:=fun _ H'=>Q .non H',rt:=Q } [some (.ref a),some (.ref nm),some (.str (txtD D)),some (.ref rw_),some (.ref hn),some tl,some (.ref fo)] H:=by
  simp only [rd_law_7,sp__law_apart,sp__law_alike,sp_read,sp__law_copy,sp_shown,L2.start,tRet,tOp,tVar,tCons,tNil,tAndV,tCall,rEq,scal,List.map,List.replicate,List.length,List.append,jqa,jqb,jqc,jqd,jqe,jqf,jqg,jqh,jqi,jqj,jqk,jql,jqm,jqn,and_true,true_and,and_assoc,jqo,jqp,jqq,Nat.reduceSub,Nat.reduceAdd,jqr,jqs,jqt,Int.reduceToNat,Int.reducePow,Int.reduceNeg,Int.reduceMul,Int.reduceAdd,if_true,ite_true,jqu,ite_false,if_false]
  obtain ⟨p1,p2⟩:=d.pl
  have dp:=d.dp
  refine ⟨xs,h1,ys,os,D,h2,h3,H0,h4,h5,h6,h7,d,fun H1 s1=>?_⟩
  refine ⟨linTs D,rfl,d.len,d.ln,lins_ok D d.ok,D,run_self d.ok d.dp,fun H2 l zs os2 s2 g1 g2 g3 g4=>?_⟩
  refine ⟨.list (trsD D),d.dat g1 (TrsO.any D g2),d.dat ((s1.trans s2) _ _ h6) (TrsAt.same (s1.trans s2) d.ok h7),p1,p2,fun H3 s3=>?_⟩
  have S3:=s1.trans (s2.trans s3)
  refine ⟨anyA,ys,S3 _ _ h6,D,TrsAt.same S3 d.ok h7,d.ok,(fun _ _=>trivial),by lia,d.ln,fun l' us H4 s4 k1 _ k2=>?_⟩
  refine ⟨us,k1,D,k2,d.ok,by lia,d.ln,fun H5 s5=>?_⟩
  rw [show Str.join nl10 ((linTs D).map Hd.line)=txtD D from rfl]
  simp only [decide_true]
  exact q H5
theorem rdp_law5 {a nm rw_ hn:Addr} {tl:V} {D:Trs} {ys:List V} (d:Deal D) (h6:H rw_=some (.lst ys)) (h7:TrsAt anyA H ys D) (q:∀ H',Q (.bl true) H') :
    rd_law_5 K t { nx:=fun _ H'=>Q .non H',rt:=Q } [some (.ref a),some (.ref nm),some (.str (txtD D)),some (.ref rw_),some (.ref hn),some tl,none] H:=by
  simp only [rd_law_5,rd_law_6,sp__law_alike,sp_read,L2.start,tSeq,tAsg,gName,tRet,tNext,tOp,tVar,tC,tCons,tNil,tIfS,tNot,tB,tAndV,tCall,rEq,scal,List.map,List.replicate,List.length,List.append,jqa,jqb,jqc,jqd,jqe,jqf,jqg,jqh,jqi,jqj,jqk,jql,jqm,jqn,and_true,true_and,and_assoc,jqo,jqp,jqq,Nat.reduceSub,Nat.reduceAdd,jqr,jqs,jqt,Int.reduceToNat,Int.reducePow,Int.reduceNeg,Int.reduceMul,Int.reduceAdd,if_true,ite_true,jqu,ite_false,if_false]
  obtain ⟨p1,p2⟩:=d.pl
  refine ⟨linTs D,rfl,d.len,d.ln,lins_ok D d.ok,D,run_self d.ok d.dp,fun H1 l xs os s1 g1 g2 g3 g4=>?_⟩
  refine ⟨.list (trsD D),d.dat g1 (TrsO.any D g2),d.dat (s1 _ _ h6) (TrsAt.same s1 d.ok h7),p1,p2,fun H2 s2=>?_⟩
  rw [if_neg (by decide)]
  exact rdp_law7 d (s2 _ _ g1) (TrsO.same s2 d.ok g2) g3 g4 (s1.trans s2) h6 h7 q
theorem rdp_law2 {a nm rw_:Addr} {D:Trs} {ys:List V} (d:Deal D) (h6:H rw_=some (.lst ys)) (h7:TrsAt anyA H ys D) (q:∀ H',Q (.bl true) H') :
    rd_law_2 K t { nx:=fun _ H'=>Q .non H',rt:=Q } [some (.ref a),some (.ref nm),some (.str (txtD D)),some (.ref rw_),none,none,none] H:=by
  simp only [rd_law_2,rd_law_4,sp__law_alike,sp__law_copy,sp_shown,L2.start,tSeq,tAsg,gName,tRet,tNext,tOp,tVar,tC,tCons,tNil,tIfS,tOr,tNot,tTest,tB,tAndV,tCB,tCall,rEq,rNe,cIsi,scal,List.map,List.replicate,List.length,List.append,jqa,jqb,jqc,jqd,jqe,jqf,jqg,jqh,jqi,jqj,jqk,jql,jqm,jqn,and_true,true_and,and_assoc,jqo,jqp,jqq,Nat.reduceSub,Nat.reduceAdd,jqr,jqs,jqt,Int.reduceToNat,Int.reducePow,Int.reduceNeg,Int.reduceMul,Int.reduceAdd,if_true,ite_true,jqu,ite_false,if_false]
  obtain ⟨p1,p2⟩:=d.pl
  have dp:=d.dp
  refine ⟨anyA,ys,h6,D,h7,d.ok,(fun _ _=>trivial),by lia,d.ln,fun l' us H1 s1 k1 _ k2=>?_⟩
  refine ⟨us,k1,D,k2,d.ok,by lia,d.ln,fun H2 s2=>⟨_,.str _,true,kit_same _,?_⟩⟩
  rw [if_neg (by decide),if_neg (fun z=>z rfl)]
  have S:=s1.trans s2
  refine ⟨.list (trsD D),d.dat (s2 _ _ k1) (TrsAt.same s2 d.ok k2),d.dat (S _ _ h6) (TrsAt.same S d.ok h7),p1,p2,fun H3 s3=>?_⟩
  rw [if_neg (by decide)]
  exact rdp_law5 d ((S.trans s3) _ _ h6) (TrsAt.same (S.trans s3) d.ok h7) q
theorem rdp_law {a:Addr} {ns:List Int} (hS:SqL K H a (ns.map V.int)) (hn:ns.length≤63) (q:∀ H',Q (.bl true) H') :
    rd_law K t { nx:=fun _ H'=>Q .non H',rt:=Q } (L2.start ["script","names","line","rows","handed","told","found"] [.ref a]) H:=by
  simp only [rd_law,sp__law_cell_at,sp__law_names,sp__law_rows,L2.start,tSeq,tAsg,gName,gTup,gCons,gNil,tRet,tNext,tOp,tVar,tC,tCons,tNil,tIfS,tOr,tNot,tTest,tB,tAndV,tCB,tSl,tPart,tCall,rEq,rNe,rSlL,cIsi,scal,List.map,List.replicate,List.length,List.append,jqa,jqb,jqc,jqd,jqe,jqf,jqg,jqh,jqi,jqj,jqk,jql,jqm,jqn,and_true,true_and,and_assoc,jqo,jqp,jqq,Nat.reduceSub,Nat.reduceAdd,jqr,jqs,jqt,Int.reduceToNat,Int.reducePow,Int.reduceNeg,Int.reduceMul,Int.reduceAdd,if_true,ite_true,jqu,ite_false,if_false]
  refine ⟨ns,0,rfl,hS,hn,fun c H1 s1 nm H2 s2 N=>⟨_,hS.mono (s1.trans s2),fun p hp=>?_⟩⟩
  obtain ⟨cs,ec,hl,_⟩:=cut_map V.int ns (some 1) (some 121)
  rw [ec]
  have s3:=isV (o:=HO.lst (cs.map V.int)) p hp
  exact ⟨cs,upd_same,by lia,N.same s3,fun p1 rw_ ys D H4 s4 g1 g2 g3 d=>⟨_,SqT.of g1,rfl,_,_,rfl,_,_,rfl,rfl,rdp_law2 d g2 g3 q⟩⟩
end
section
variable {P:Program} {w:World} {K:PySem.W.Frag} {mg:Str→Option Value} {base:Heap} {t:Adr}
theorem ok__law_spread (T:Txt K mg t):FnOk P w K mg base (CX1 P w) 1 t.a__law_spread t.d__law_spread ["cell","many"] (sp__law_spread):=by
  refine T.f__law_spread.ok0 sc__law_spread (fun vs H Q E h=>?_) (fun cdv A outer s H vs Q E hr h=>?_)
  · obtain ⟨c,m,rfl,_⟩:=h;rfl
  obtain ⟨c,m,rfl,h1,h2,q⟩:=h
  exact ⟨rd__law_spread K t,(pss_cons (ps_set (i:=2) sc__law_spread.nd rfl (Or.inl rfl) (pe_lst pa_nil))
    (pss_cons (ps_set (i:=3) sc__law_spread.nd rfl (Or.inl rfl) (pe_op op_add (pe_op op_mod (pv 0) (pe_int (i:=1000000007))) (pe_int (i:=17))))
    (pss_cons (ps_set (i:=4) sc__law_spread.nd rfl (Or.inl rfl) (pe_op op_add (pe_op op_mod (pe_op op_fdivB (pv 0) (pe_int (i:=1000000007))) (pe_int (i:=998244353))) (pe_int (i:=3))))
    (pss_cons (ps_for PassesOwn.never rfl (pi_range1 rfl T.b_range (pa_cons (pv 1) pa_nil)) (pg_name (i:=5) sc__law_spread.nd rfl (Or.inl rfl)) (pss_cons (ps_set (i:=3) sc__law_spread.nd rfl (Or.inl rfl) (pe_op op_mod (pe_op op_add (pe_op op_add (pe_op op_mulB (pv 3) (pe_int (i:=6007))) (pv 4)) (pe_op op_mulB (pv 5) (pv 5))) (pe_int (i:=1000000007))))
    (pss_cons (ps_set (i:=4) sc__law_spread.nd rfl (Or.inl rfl) (pe_op op_mod (pe_op op_add (pe_op op_mulB (pv 4) (pe_int (i:=7001))) (pe_op op_fdivB (pv 3) (pe_int (i:=3)))) (pe_int (i:=998244353))))
    (pss_one (ps_expr (pe_bm PySem.F.plainAttrs_list PySem.F.slot_list_append PySem.F.type_list_append mt_append (pv 2) (pa_cons (pe_op op_mod (pe_op op_add (pv 3) (pv 4)) (pe_int (i:=268435399))) pa_nil)))))))
    (pss_one (ps_ret (pv 2))))))),rdp__law_spread h1 h2 q⟩
theorem ok__law_letters (T:Txt K mg t):FnOk P w K mg base (CX1 P w) 1 t.a__law_letters t.d__law_letters ["number","many"] (sp__law_letters):=by
  refine T.f__law_letters.ok0 sc__law_letters (fun vs H Q E h=>?_) (fun cdv A outer s H vs Q E hr h=>?_)
  · obtain ⟨n,m,rfl,_⟩:=h;rfl
  obtain ⟨n,m,rfl,h0,h1,q⟩:=h
  exact ⟨rd__law_letters K t,(pss_cons (ps_set (i:=2) sc__law_letters.nd rfl (Or.inl rfl) (pe_str (x:="abcdefghijklmnopqrstuvwxyz")))
    (pss_cons (ps_set (i:=3) sc__law_letters.nd rfl (Or.inl rfl) (pe_str (x:="")))
    (pss_cons (ps_for PassesOwn.never rfl (pi_range1 rfl T.b_range (pa_cons (pv 1) pa_nil)) (pg_name (i:=4) sc__law_letters.nd rfl (Or.inl rfl)) (pss_cons (ps_set (i:=3) sc__law_letters.nd rfl (Or.inl rfl) (pe_op op_add_str (pv 3) (pe_ix ix_str (pv 2) (pe_op op_mod (pv 0) (pe_int (i:=26))) (fun _ _=>rfl))))
    (pss_one (ps_set (i:=0) sc__law_letters.nd rfl (Or.inl rfl) (pe_op op_add (pe_op op_fdivB (pv 0) (pe_int (i:=26))) (pe_op op_mulB (pe_op op_mulB (pe_int (i:=991)) (pv 4)) (pv 4)))))))
    (pss_one (ps_ret (pv 3)))))),rdp__law_letters h0 h1 q⟩
theorem ok__law_free (T:Txt K mg t):FnOk P w K mg base (CX1 P w) 1 t.a__law_free t.d__law_free ["name"] (sp__law_free):=by
  refine T.f__law_free.ok0 sc__law_free (fun vs H Q E h=>?_) (fun cdv A outer s H vs Q E hr h=>?_)
  · obtain ⟨x,rfl,_⟩:=h;rfl
  obtain ⟨x,rfl,hx,q⟩:=h
  exact ⟨rd__law_free K t,(pss_cons (ps_if (pt_cmpR op_in_seq (pv 0) (pe_tup (pa_str (x:="take") (pa_str (x:="give") (pa_str (x:="let") (pa_str (x:="say") (pa_str (x:="off") (pa_str (x:="if") (pa_str (x:="else") (pa_str (x:="end") (pa_str (x:="as") pa_nil)))))))))) (by with_unfolding_all rfl)) (pss_one (ps_ret (pe_op op_add_str (pv 0) (pe_str (x:="q")))))
      pss_nil)
    (pss_cons (ps_if (pt_cmpR op_in_seq (pv 0) (pe_tup (pa_cons (pe_str (x:="plus")) (pa_cons (pe_str (x:="minus")) (pa_cons (pe_str (x:="times")) (pa_cons (pe_str (x:="over")) (pa_cons (pe_str (x:="rest")) (pa_cons (pe_str (x:="under")) (pa_cons (pe_str (x:="same")) pa_nil)))))))) (by with_unfolding_all rfl)) (pss_one (ps_ret (pe_op op_add_str (pv 0) (pe_str (x:="q")))))
      pss_nil)
    (pss_one (ps_ret (pv 0))))),rdp__law_free hx q⟩
theorem ok__law_names (T:Txt K mg t):FnOk P w K mg base (CX1 P w) 2 t.a__law_names t.d__law_names ["cell"] (sp__law_names):=by
  refine T.f__law_names.ok0 sc__law_names (fun vs H Q E h=>?_) (fun cdv A outer s H vs Q E hr h=>?_)
  · obtain ⟨c,rfl,_⟩:=h;rfl
  obtain ⟨c,rfl,q⟩:=h
  exact ⟨rd__law_names K t,(pss_cons (ps_set (i:=1) sc__law_names.nd rfl (Or.inr rfl) (pe_str (x:="abcdefghijklmnopqrstuvwxyz")))
    (pss_cons (ps_set (i:=2) sc__law_names.nd rfl (Or.inr rfl) (pe_call (FnOk.mono (ok__law_spread T) (by decide)) hr rfl T.m__law_spread T.f__law_spread.kp T.b__law_spread .nil pass10 (pa_cons (pv 0) (pa_cons (pe_int (i:=9)) pa_nil))))
    (pss_cons (ps_set (i:=3) sc__law_names.nd rfl (Or.inr rfl) (pe_call (FnOk.mono (ok__law_letters T) (by decide)) hr rfl T.m__law_letters T.f__law_letters.kp T.b__law_letters .nil pass10 (pa_cons (pe_ix ix_list (pv 2) (pe_int (i:=0)) (fun _ _=>rfl)) (pa_cons (pe_op op_add (pe_int (i:=1)) (pe_op op_mod (pe_op op_fdivB (pv 0) (pe_int (i:=3))) (pe_int (i:=6)))) pa_nil))))
    (pss_cons (ps_set (i:=4) sc__law_names.nd rfl (Or.inr rfl) (pe_op op_mod (pe_ix ix_list (pv 2) (pe_int (i:=1)) (fun _ _=>rfl)) (pe_callB call_len rfl T.b_len bt_len (pa_cons (pv 3) pa_nil))))
    (pss_cons (ps_if (pt_cmpR op_eq (pe_op op_mod (pv 0) (pe_int (i:=3))) (pe_int (i:=0)) (nomark _)) (pss_cons (ps_set (i:=5) sc__law_names.nd rfl (Or.inr rfl) (pe_bm PySem.F.plainAttrs_str PySem.F.slot_str_find PySem.F.type_str_find mt_find (pv 1) (pa_cons (pe_ix ix_str (pv 3) (pv 4) (fun _ _=>rfl)) pa_nil)))
    (pss_cons (ps_setComp (j:=6) sc__law_names.nd rfl rfl (Or.inl rfl) (osc:=defScope s__law_names) (N:=["cell","letters","xs","base","at","first","turned","some"]) (xs:=["k"]) (ix:=[1,5]) (by decide +kernel) (pi_range1 rfl T.b_range (pa_cons (pe_int (i:=4)) pa_nil)) (fun _ _ _ _=>(pg_name (i:=0) (show List.Nodup (["k","letters","first"]:List Str) from (by decide +kernel)) rfl (Or.inl rfl) (.inr rfl))) (fun _ _ _ _=>pts_nil) (fun _ _ _ _=>(pe_ix ix_str (pv 1) (pe_op op_mod (pe_op op_add (pv 2) (pe_op op_mulB (pe_int (i:=7)) (pv 0))) (pe_int (i:=26))) (fun _ _=>rfl))))
    (pss_one (ps_setComp (j:=7) sc__law_names.nd rfl rfl (Or.inl rfl) (osc:=defScope s__law_names) (N:=["cell","letters","xs","base","at","first","turned","some"]) (xs:=["letter"]) (ix:=[3,4]) (by decide +kernel) (pi_list (pv 6)) (fun _ _ _ _=>(pg_name (i:=0) (show List.Nodup (["letter","base","at"]:List Str) from (by decide +kernel)) rfl (Or.inl rfl) (.inr rfl))) (fun _ _ _ _=>pts_nil) (fun _ _ _ _=>(pe_op op_add_str (pe_op op_add_str (pe_slice sl_str (pv 1) po_none (po_some (pv 2))) (pv 0)) (pe_slice sl_str (pv 1) (po_some (pe_op op_add (pv 2) (pe_int (i:=1)))) po_none)))))))
      (pss_one (ps_if (pt_cmpR op_eq (pe_op op_mod (pv 0) (pe_int (i:=3))) (pe_int (i:=1)) (nomark _)) (pss_cons (ps_set (i:=3) sc__law_names.nd rfl (Or.inr rfl) (pe_call (FnOk.mono (ok__law_letters T) (by decide)) hr rfl T.m__law_letters T.f__law_letters.kp T.b__law_letters .nil pass10 (pa_cons (pe_ix ix_list (pv 2) (pe_int (i:=0)) (fun _ _=>rfl)) (pa_cons (pe_int (i:=6)) pa_nil))))
    (pss_one (ps_set (i:=7) sc__law_names.nd rfl (Or.inl rfl) (pe_lst (pa_cons (pe_slice sl_str (pv 3) po_none (po_some (pe_op op_add (pe_int (i:=1)) (pv 4)))) (pa_cons (pe_slice sl_str (pv 3) po_none (po_some (pe_op op_add (pe_int (i:=2)) (pv 4)))) (pa_cons (pe_slice sl_str (pv 3) po_none (po_some (pe_op op_add (pe_int (i:=3)) (pv 4)))) (pa_cons (pv 3) pa_nil))))))))
      (pss_one (ps_setComp (j:=7) sc__law_names.nd rfl rfl (Or.inl rfl) (osc:=defScope s__law_names) (N:=["cell","letters","xs","base","at","first","turned","some"]) (xs:=["k"]) (ix:=[2]) (by decide +kernel) (pi_range1 rfl T.b_range (pa_cons (pe_int (i:=4)) pa_nil)) (fun _ _ _ _=>(pg_name (i:=0) (show List.Nodup (["k","xs"]:List Str) from (by decide +kernel)) rfl (Or.inl rfl) (.inr rfl))) (fun _ _ _ _=>pts_nil) (fun _ _ _ _=>(pe_call (FnOk.mono (ok__law_letters T) (by decide)) hr rfl T.m__law_letters T.f__law_letters.kp T.b__law_letters .nil pass10 (pa_cons (pe_ix ix_list (pv 1) (pe_op op_add (pv 0) (pe_int (i:=1))) (fun _ _=>rfl)) (pa_cons (pe_op op_add (pe_int (i:=1)) (pe_op op_mod (pe_ix ix_list (pv 1) (pe_op op_add (pv 0) (pe_int (i:=5))) (fun _ _=>rfl)) (pe_int (i:=6)))) pa_nil)))))))))
    (pss_one (ps_ret (pe_comp rfl (osc:=defScope s__law_names) (N:=["cell","letters","xs","base","at","first","turned","some"]) (xs:=["name"]) (ix:=[]) (by decide +kernel) (pi_list (pv 7)) (fun _ _ _ _=>(pg_name (i:=0) (show List.Nodup (["name"]:List Str) from (by decide +kernel)) rfl (Or.inl rfl) (.inr rfl))) (fun _ _ _ _=>pts_nil) (fun _ _ _ _=>(pe_call (FnOk.mono (ok__law_free T) (by decide)) hr rfl T.m__law_free T.f__law_free.kp T.b__law_free .nil pass10 (pa_cons (pv 0) pa_nil))))))))))),rdp__law_names q⟩
theorem ok__law_joined (T:Txt K mg t):FnOk P w K mg base (CX1 P w) 1 t.a__law_joined t.d__law_joined ["some","number"] (sp__law_joined):=by
  refine T.f__law_joined.ok0 sc__law_joined (fun vs H Q E h=>?_) (fun cdv A outer s H vs Q E hr h=>?_)
  · obtain ⟨s,ns,n1,n2,c,k,rfl,_⟩:=h;rfl
  obtain ⟨s,ns,n1,n2,c,k,rfl,h1,h2,q⟩:=h
  exact ⟨rd__law_joined K t,(pss_cons (ps_set (i:=2) sc__law_joined.nd rfl (Or.inl rfl) (pe_ix ix_list (pe_lst (pa_cons (pe_str (x:="plus")) (pa_cons (pe_str (x:="minus")) (pa_cons (pe_str (x:="times")) (pa_cons (pe_str (x:="over")) (pa_cons (pe_str (x:="rest")) (pa_cons (pe_str (x:="under")) (pa_cons (pe_str (x:="same")) pa_nil)))))))) (pe_op op_mod (pv 1) (pe_int (i:=7))) (fun _ _=>rfl)))
    (pss_cons (ps_set (i:=3) sc__law_joined.nd rfl (Or.inl rfl) (pe_ix ix_list (pv 0) (pe_un un_neg (pe_int (i:=2))) (fun _ _=>rfl)))
    (pss_cons (ps_set (i:=4) sc__law_joined.nd rfl (Or.inl rfl) (pe_ix ix_list (pv 0) (pe_un un_neg (pe_int (i:=1))) (fun _ _=>rfl)))
    (pss_one (ps_ret (pe_op op_cat (pe_slice sl_list (pv 0) po_none (po_some (pe_un un_neg (pe_int (i:=2))))) (pe_lst (pa_cons (pe_tup (pa_cons (pe_op op_cat (pe_op op_cat (pe_lst (pa_cons (pv 2) pa_nil)) (pe_ix ix_tup (pv 3) (pe_int (i:=0)) (fun _ _=>rfl))) (pe_ix ix_tup (pv 4) (pe_int (i:=0)) (fun _ _=>rfl))) (pa_cons (pe_op op_catT (pe_op op_catT (pe_ix ix_tup (pv 3) (pe_int (i:=1)) (fun _ _=>rfl)) (pe_ix ix_tup (pv 4) (pe_int (i:=1)) (fun _ _=>rfl))) (pe_tup (pa_cons (pv 2) pa_nil))) pa_nil))) pa_nil)))))))),rdp__law_joined h1 h2 q⟩
theorem ok__law_leaf (T:Txt K mg t):FnOk P w K mg base (CX1 P w) 1 t.a__law_leaf t.d__law_leaf ["number","names"] (sp__law_leaf):=by
  refine T.f__law_leaf.ok0 sc__law_leaf (fun vs H Q E h=>?_) (fun cdv A outer s H vs Q E hr h=>?_)
  · obtain ⟨c,nm,rfl,_⟩:=h;rfl
  obtain ⟨c,nm,rfl,h1,h2,q⟩:=h
  exact ⟨rd__law_leaf K t,(pss_cons (ps_if (pt_cmpR op_lt (pe_op op_mod (pv 0) (pe_int (i:=4))) (pe_int (i:=2)) (nomark _)) (pss_cons (ps_set (i:=2) sc__law_leaf.nd rfl (Or.inl rfl) (pe_ix ix_list (pv 1) (pe_op op_mod (pe_op op_fdivB (pv 0) (pe_int (i:=4))) (pe_int (i:=4))) (fun _ _=>rfl)))
    (pss_one (ps_ret (pe_tup (pa_cons (pe_lst (pa_cons (pv 2) pa_nil)) (pa_cons (pe_tup (pa_cons (pv 2) pa_nil)) pa_nil))))))
      pss_nil)
    (pss_cons (ps_set (i:=3) sc__law_leaf.nd rfl (Or.inl rfl) (pe_op op_sub (pe_op op_mod (pe_op op_fdivB (pv 0) (pe_int (i:=4))) (pe_int (i:=25))) (pe_int (i:=9))))
    (pss_cons (ps_if (pt_cmpR op_eq (pe_op op_mod (pv 0) (pe_int (i:=4))) (pe_int (i:=3)) (nomark _)) (pss_one (ps_set (i:=3) sc__law_leaf.nd rfl (Or.inl rfl) (pe_op op_sub (pe_op op_mod (pe_op op_pow (pv 0) (pe_int (i:=4))) (pe_op op_add (pe_op op_mulB (pe_int (i:=2)) (pe_op op_pow (pe_int (i:=10)) (pe_int (i:=30)))) (pe_int (i:=1)))) (pe_op op_pow (pe_int (i:=10)) (pe_int (i:=30))))))
      pss_nil)
    (pss_one (ps_ret (pe_tup (pa_cons (pe_lst (pa_cons (pe_callTy call_str_int rfl T.b_str bt_str (pa_cons (pv 3) pa_nil)) pa_nil)) (pa_cons (pe_tup (pa_cons (pv 3) pa_nil)) pa_nil)))))))),rdp__law_leaf h1 h2 q⟩
theorem ok__law_term (T:Txt K mg t):FnOk P w K mg base (CX1 P w) 2 t.a__law_term t.d__law_term ["xs","names"] (sp__law_term):=by
  refine T.f__law_term.ok0 sc__law_term (fun vs H Q E h=>?_) (fun cdv A outer s H vs Q E hr h=>?_)
  · obtain ⟨a,xs,nm,rfl,_⟩:=h;rfl
  obtain ⟨a,xs,nm,rfl,h1,h2,h3,h4,q⟩:=h
  exact ⟨rd__law_term K t,(pss_cons (ps_set (i:=2) sc__law_term.nd rfl (Or.inl rfl) (pe_lst pa_nil))
    (pss_cons (ps_for PassesOwn.never rfl (pi_range1 rfl T.b_range (pa_cons (pe_op op_add (pe_int (i:=1)) (pe_op op_mod (pe_op op_fdivB (pe_ix ix_list (pv 0) (pe_int (i:=0)) (fun _ _=>rfl)) (pe_int (i:=12))) (pe_int (i:=5)))) pa_nil)) (pg_name (i:=3) sc__law_term.nd rfl (Or.inl rfl)) (pss_cons (ps_set (i:=2) sc__law_term.nd rfl (Or.inl rfl) (pe_op op_cat (pv 2) (pe_lst (pa_cons (pe_call (FnOk.mono (ok__law_leaf T) (by decide)) hr rfl T.m__law_leaf T.f__law_leaf.kp T.b__law_leaf .nil pass10 (pa_cons (pe_ix ix_list (pv 0) (pv 3) (fun _ _=>rfl)) (pa_cons (pv 1) pa_nil))) pa_nil))))
    (pss_one (ps_if (PW.pt (pw_and (pt_cmpR op_gt (pe_callB call_len rfl T.b_len bt_len (pa_cons (pv 2) pa_nil)) (pe_int (i:=1)) (nomark _)) (pw_and1 (pt_cmpR op_eq (pe_op op_mod (pe_op op_fdivB (pe_ix ix_list (pv 0) (pv 3) (fun _ _=>rfl)) (pe_int (i:=101))) (pe_int (i:=2))) (pe_int (i:=0)) (nomark _))))) (pss_one (ps_set (i:=2) sc__law_term.nd rfl (Or.inl rfl) (pe_call (FnOk.mono (ok__law_joined T) (by decide)) hr rfl T.m__law_joined T.f__law_joined.kp T.b__law_joined .nil pass10 (pa_cons (pv 2) (pa_cons (pe_op op_fdivB (pe_ix ix_list (pv 0) (pv 3) (fun _ _=>rfl)) (pe_int (i:=400))) pa_nil)))))
      pss_nil))))
    (pss_cons (ps_while PassesOwn.never (pt_cmpR op_gt (pe_callB call_len rfl T.b_len bt_len (pa_cons (pv 2) pa_nil)) (pe_int (i:=1)) (nomark _)) (pss_one (ps_set (i:=2) sc__law_term.nd rfl (Or.inl rfl) (pe_call (FnOk.mono (ok__law_joined T) (by decide)) hr rfl T.m__law_joined T.f__law_joined.kp T.b__law_joined .nil pass10 (pa_cons (pv 2) (pa_cons (pe_op op_add (pe_op op_fdivB (pe_ix ix_list (pv 0) (pe_int (i:=1)) (fun _ _=>rfl)) (pe_int (i:=400))) (pe_callB call_len rfl T.b_len bt_len (pa_cons (pv 2) pa_nil))) pa_nil))))))
    (pss_one (ps_ret (pe_tup (pa_cons (pe_bm PySem.F.plainAttrs_str PySem.F.slot_str_join PySem.F.type_str_join mt_join (pe_str (x:=" ")) (pa_cons (pe_ix ix_tup (pe_ix ix_list (pv 2) (pe_int (i:=0)) (fun _ _=>rfl)) (pe_int (i:=0)) (fun _ _=>rfl)) pa_nil)) (pa_cons (pe_ix ix_tup (pe_ix ix_list (pv 2) (pe_int (i:=0)) (fun _ _=>rfl)) (pe_int (i:=1)) (fun _ _=>rfl)) pa_nil)))))))),rdp__law_term h1 h2 h3 h4 q⟩
theorem ok__law_folded (T:Txt K mg t):FnOk P w K mg base (CX1 P w) 3 t.a__law_folded t.d__law_folded ["some","cell","names"] (sp__law_folded):=by
  refine T.f__law_folded.ok0 sc__law_folded (fun vs H Q E h=>?_) (fun cdv A outer s H vs Q E hr h=>?_)
  · obtain ⟨s,c,nm,ns,rfl,_⟩:=h;rfl
  obtain ⟨s,c,nm,ns,rfl,h1,h2,h3,q⟩:=h
  exact ⟨rd__law_folded K t,(pss_cons (ps_set (i:=3) sc__law_folded.nd rfl (Or.inl rfl) (pe_op op_mod (pe_op op_fdivB (pv 1) (pe_int (i:=7))) (pe_op op_add (pe_callB call_len rfl T.b_len bt_len (pa_cons (pv 0) pa_nil)) (pe_int (i:=1)))))
    (pss_cons (ps_set (i:=4) sc__law_folded.nd rfl (Or.inl rfl) (pe_slice sl_list (pv 0) (po_some (pe_op op_sub (pe_callB call_len rfl T.b_len bt_len (pa_cons (pv 0) pa_nil)) (pv 3))) po_none))
    (pss_cons (ps_set (i:=5) sc__law_folded.nd rfl (Or.inl rfl) (pe_op op_mod (pe_op op_fdivB (pv 1) (pe_int (i:=77))) (pe_op op_add (pv 3) (pe_int (i:=1)))))
    (pss_cons (ps_asg (pe_call (FnOk.mono (ok__law_term T) (by decide)) hr rfl T.m__law_term T.f__law_term.kp T.b__law_term .nil pass10 (pa_cons (pe_call (FnOk.mono (ok__law_spread T) (by decide)) hr rfl T.m__law_spread T.f__law_spread.kp T.b__law_spread .nil pass10 (pa_cons (pv 1) (pa_cons (pe_int (i:=6)) pa_nil))) (pa_cons (pv 2) pa_nil))) (pg_tup rfl (pgs_cons (pg_name (i:=6) sc__law_folded.nd rfl (Or.inl rfl)) (pgs_cons (pg_name (i:=7) sc__law_folded.nd rfl (Or.inl rfl)) pgs_nil))))
    (pss_cons (ps_set (i:=8) sc__law_folded.nd rfl (Or.inl rfl) (pe_lst (pa_cons (pe_op op_add_str (pe_str (x:="if ")) (pv 6)) pa_nil)))
    (pss_cons (ps_for PassesOwn.never rfl (pi_list (pe_slice sl_list (pv 4) po_none (po_some (pv 5)))) (pg_name (i:=9) sc__law_folded.nd rfl (Or.inl rfl)) (pss_one (ps_set (i:=8) sc__law_folded.nd rfl (Or.inl rfl) (pe_op op_cat (pv 8) (pe_ix ix_tup (pv 9) (pe_int (i:=0)) (fun _ _=>rfl))))))
    (pss_cons (ps_if (pt_cmpR op_lt (pv 5) (pv 3) (nomark _)) (pss_one (ps_expr (pe_bm PySem.F.plainAttrs_list PySem.F.slot_list_append PySem.F.type_list_append mt_append (pv 8) (pa_cons (pe_str (x:="else")) pa_nil))))
      pss_nil)
    (pss_cons (ps_for PassesOwn.never rfl (pi_list (pe_slice sl_list (pv 4) (po_some (pv 5)) po_none)) (pg_name (i:=9) sc__law_folded.nd rfl (Or.inl rfl)) (pss_one (ps_set (i:=8) sc__law_folded.nd rfl (Or.inl rfl) (pe_op op_cat (pv 8) (pe_ix ix_tup (pv 9) (pe_int (i:=0)) (fun _ _=>rfl))))))
    (pss_cons (ps_set (i:=10) sc__law_folded.nd rfl (Or.inl rfl) (pe_tup (pa_cons (pe_str (x:="if")) (pa_cons (pv 7) (pa_cons (pe_comp rfl (osc:=defScope s__law_folded) (N:=["some","cell","names","many","last","cut","line","term","lines","lot","row","deep"]) (xs:=["lot"]) (ix:=[]) (by decide +kernel) (pi_list (pe_slice sl_list (pv 4) po_none (po_some (pv 5)))) (fun _ _ _ _=>(pg_name (i:=0) (show List.Nodup (["lot"]:List Str) from (by decide +kernel)) rfl (Or.inl rfl) (.inr rfl))) (fun _ _ _ _=>pts_nil) (fun _ _ _ _=>(pe_ix ix_tup (pv 0) (pe_int (i:=1)) (fun _ _=>rfl)))) (pa_cons (pe_comp rfl (osc:=defScope s__law_folded) (N:=["some","cell","names","many","last","cut","line","term","lines","lot","row","deep"]) (xs:=["lot"]) (ix:=[]) (by decide +kernel) (pi_list (pe_slice sl_list (pv 4) (po_some (pv 5)) po_none)) (fun _ _ _ _=>(pg_name (i:=0) (show List.Nodup (["lot"]:List Str) from (by decide +kernel)) rfl (Or.inl rfl) (.inr rfl))) (fun _ _ _ _=>pts_nil) (fun _ _ _ _=>(pe_ix ix_tup (pv 0) (pe_int (i:=1)) (fun _ _=>rfl)))) pa_nil))))))
    (pss_cons (ps_set (i:=11) sc__law_folded.nd rfl (Or.inl rfl) (pe_op op_add (pe_int (i:=1)) (pe_callB (call_maxL rfl) rfl T.b_max bt_max (pa_cons (pe_op op_cat (pe_lst (pa_cons (pe_int (i:=0)) pa_nil)) (pe_comp rfl (osc:=defScope s__law_folded) (N:=["some","cell","names","many","last","cut","line","term","lines","lot","row","deep"]) (xs:=["lot"]) (ix:=[]) (by decide +kernel) (pi_list (pv 4)) (fun _ _ _ _=>(pg_name (i:=0) (show List.Nodup (["lot"]:List Str) from (by decide +kernel)) rfl (Or.inl rfl) (.inr rfl))) (fun _ _ _ _=>pts_nil) (fun _ _ _ _=>(pe_ix ix_tup (pv 0) (pe_int (i:=2)) (fun _ _=>rfl))))) pa_nil))))
    (pss_one (ps_ret (pe_op op_cat (pe_slice sl_list (pv 0) po_none (po_some (pe_op op_sub (pe_callB call_len rfl T.b_len bt_len (pa_cons (pv 0) pa_nil)) (pv 3)))) (pe_lst (pa_cons (pe_tup (pa_cons (pe_op op_cat (pv 8) (pe_lst (pa_cons (pe_str (x:="end")) pa_nil))) (pa_cons (pv 10) (pa_cons (pv 11) pa_nil)))) pa_nil))))))))))))))),rdp__law_folded h1 h2 h3 q⟩
theorem ok__law_row (T:Txt K mg t):FnOk P w K mg base (CX1 P w) 3 t.a__law_row t.d__law_row ["cell","names"] (sp__law_row):=by
  refine T.f__law_row.ok0 sc__law_row (fun vs H Q E h=>?_) (fun cdv A outer s H vs Q E hr h=>?_)
  · obtain ⟨c,nm,rfl,_⟩:=h;rfl
  obtain ⟨c,nm,rfl,h1,q⟩:=h
  exact ⟨rd__law_row K t,(pss_cons (ps_set (i:=2) sc__law_row.nd rfl (Or.inl rfl) (pe_call (FnOk.mono (ok__law_spread T) (by decide)) hr rfl T.m__law_spread T.f__law_spread.kp T.b__law_spread .nil pass10 (pa_cons (pv 0) (pa_cons (pe_int (i:=13)) pa_nil))))
    (pss_cons (ps_asg (pe_call (FnOk.mono (ok__law_term T) (by decide)) hr rfl T.m__law_term T.f__law_term.kp T.b__law_term .nil pass10 (pa_cons (pv 2) (pa_cons (pv 1) pa_nil))) (pg_tup rfl (pgs_cons (pg_name (i:=3) sc__law_row.nd rfl (Or.inl rfl)) (pgs_cons (pg_name (i:=4) sc__law_row.nd rfl (Or.inl rfl)) pgs_nil))))
    (pss_cons (ps_set (i:=5) sc__law_row.nd rfl (Or.inl rfl) (pe_ix ix_list (pv 1) (pe_op op_mod (pe_ix ix_list (pv 2) (pe_int (i:=10)) (fun _ _=>rfl)) (pe_int (i:=4))) (fun _ _=>rfl)))
    (pss_cons (ps_set (i:=6) sc__law_row.nd rfl (Or.inl rfl) (pe_op op_mod (pe_ix ix_list (pv 2) (pe_int (i:=11)) (fun _ _=>rfl)) (pe_int (i:=5))))
    (pss_cons (ps_if (pt_cmpR op_eq (pv 6) (pe_int (i:=0)) (nomark _)) (pss_cons (ps_set (i:=7) sc__law_row.nd rfl (Or.inl rfl) (pe_ix ix_list (pv 1) (pe_op op_mod (pe_ix ix_list (pv 2) (pe_int (i:=12)) (fun _ _=>rfl)) (pe_int (i:=4))) (fun _ _=>rfl)))
    (pss_one (ps_ret (pe_tup (pa_cons (pe_op op_add_str (pe_op op_add_str (pe_op op_add_str (pe_op op_add_str (pe_op op_add_str (pe_str (x:="take ")) (pv 5)) (pe_str (x:=" "))) (pv 3)) (pe_str (x:=" as "))) (pv 7)) (pa_cons (pe_tup (pa_cons (pe_str (x:="take")) (pa_cons (pv 5) (pa_cons (pv 4) (pa_cons (pv 7) pa_nil))))) pa_nil))))))
      pss_nil)
    (pss_cons (ps_if (pt_cmpR op_eq (pv 6) (pe_int (i:=1)) (nomark _)) (pss_cons (ps_asg (pe_call (FnOk.mono (ok__law_term T) (by decide)) hr rfl T.m__law_term T.f__law_term.kp T.b__law_term .nil pass10 (pa_cons (pe_slice sl_list (pv 2) (po_some (pe_int (i:=5))) po_none) (pa_cons (pv 1) pa_nil))) (pg_tup rfl (pgs_cons (pg_name (i:=8) sc__law_row.nd rfl (Or.inl rfl)) (pgs_cons (pg_name (i:=9) sc__law_row.nd rfl (Or.inl rfl)) pgs_nil))))
    (pss_one (ps_ret (pe_tup (pa_cons (pe_op op_add_str (pe_op op_add_str (pe_op op_add_str (pe_op op_add_str (pe_op op_add_str (pe_str (x:="give ")) (pv 5)) (pe_str (x:=" "))) (pv 3)) (pe_str (x:=" "))) (pv 8)) (pa_cons (pe_tup (pa_cons (pe_str (x:="give")) (pa_cons (pv 5) (pa_cons (pv 4) (pa_cons (pv 9) pa_nil))))) pa_nil))))))
      pss_nil)
    (pss_cons (ps_if (pt_cmpR op_eq (pv 6) (pe_int (i:=2)) (nomark _)) (pss_one (ps_ret (pe_tup (pa_cons (pe_op op_add_str (pe_op op_add_str (pe_op op_add_str (pe_str (x:="let ")) (pv 5)) (pe_str (x:=" "))) (pv 3)) (pa_cons (pe_tup (pa_cons (pe_str (x:="let")) (pa_cons (pv 5) (pa_cons (pv 4) pa_nil)))) pa_nil)))))
      pss_nil)
    (pss_cons (ps_if (pt_cmpR op_eq (pv 6) (pe_int (i:=3)) (nomark _)) (pss_one (ps_ret (pe_tup (pa_cons (pe_op op_add_str (pe_str (x:="say ")) (pv 3)) (pa_cons (pe_tup (pa_cons (pe_str (x:="say")) (pa_cons (pv 4) pa_nil))) pa_nil)))))
      pss_nil)
    (pss_one (ps_ret (pe_tup (pa_cons (pe_op op_add_str (pe_str (x:="off ")) (pv 3)) (pa_cons (pe_tup (pa_cons (pe_str (x:="off")) (pa_cons (pv 4) pa_nil))) pa_nil))))))))))))),rdp__law_row h1 q⟩
theorem ok__law_rows (T:Txt K mg t):FnOk P w K mg base (CX1 P w) 4 t.a__law_rows t.d__law_rows ["cells","names"] (sp__law_rows):=by
  refine T.f__law_rows.ok0 sc__law_rows (fun vs H Q E h=>?_) (fun cdv A outer s H vs Q E hr h=>?_)
  · obtain ⟨a,ns,nm,rfl,_⟩:=h;rfl
  obtain ⟨a,ns,nm,rfl,h1,h2,h3,q⟩:=h
  exact ⟨rd__law_rows K t,(pss_cons (ps_set (i:=2) sc__law_rows.nd rfl (Or.inl rfl) (pe_lst pa_nil))
    (pss_cons (ps_for PassesOwn.never rfl (pi_list (pv 0)) (pg_name (i:=3) sc__law_rows.nd rfl (Or.inl rfl)) (pss_cons (ps_if (pt_cmpR op_lt (pe_op op_mod (pv 3) (pe_int (i:=7))) (pe_int (i:=2)) (nomark _)) (pss_one (ps_set (i:=4) sc__law_rows.nd rfl (Or.inl rfl) (pe_call (FnOk.mono (ok__law_folded T) (by decide)) hr rfl T.m__law_folded T.f__law_folded.kp T.b__law_folded .nil pass10 (pa_cons (pv 2) (pa_cons (pv 3) (pa_cons (pv 1) pa_nil))))))
      (pss_cons (ps_asg (pe_call (FnOk.mono (ok__law_row T) (by decide)) hr rfl T.m__law_row T.f__law_row.kp T.b__law_row .nil pass10 (pa_cons (pe_op op_fdivB (pv 3) (pe_int (i:=7))) (pa_cons (pv 1) pa_nil))) (pg_tup rfl (pgs_cons (pg_name (i:=5) sc__law_rows.nd rfl (Or.inl rfl)) (pgs_cons (pg_name (i:=6) sc__law_rows.nd rfl (Or.inl rfl)) pgs_nil))))
    (pss_one (ps_set (i:=4) sc__law_rows.nd rfl (Or.inl rfl) (pe_op op_cat (pv 2) (pe_lst (pa_cons (pe_tup (pa_cons (pe_lst (pa_cons (pv 5) pa_nil)) (pa_cons (pv 6) (pa_cons (pe_int (i:=0)) pa_nil)))) pa_nil)))))))
    (pss_one (ps_if (PW.pt (pw_and (pt_cmpR op_le (pe_callB (call_maxL rfl) rfl T.b_max bt_max (pa_cons (pe_comp rfl (osc:=defScope s__law_rows) (N:=["cells","names","some","cell","made","line","row","lines","lot"]) (xs:=["lot"]) (ix:=[]) (by decide +kernel) (pi_list (pv 4)) (fun _ _ _ _=>(pg_name (i:=0) (show List.Nodup (["lot"]:List Str) from (by decide +kernel)) rfl (Or.inl rfl) (.inr rfl))) (fun _ _ _ _=>pts_nil) (fun _ _ _ _=>(pe_ix ix_tup (pv 0) (pe_int (i:=2)) (fun _ _=>rfl)))) pa_nil)) (pe_int (i:=5)) (nomark _)) (pw_and1 (pt_cmpR op_le (pe_callB (call_sumL rfl) rfl T.b_sum bt_sum (pa_cons (pe_comp rfl (osc:=defScope s__law_rows) (N:=["cells","names","some","cell","made","line","row","lines","lot"]) (xs:=["lot"]) (ix:=[]) (by decide +kernel) (pi_list (pv 4)) (fun _ _ _ _=>(pg_name (i:=0) (show List.Nodup (["lot"]:List Str) from (by decide +kernel)) rfl (Or.inl rfl) (.inr rfl))) (fun _ _ _ _=>pts_nil) (fun _ _ _ _=>(pe_callB call_len rfl T.b_len bt_len (pa_cons (pe_ix ix_tup (pv 0) (pe_int (i:=0)) (fun _ _=>rfl)) pa_nil)))) pa_nil)) (pe_int (i:=40)) (nomark _))))) (pss_one (ps_set (i:=2) sc__law_rows.nd rfl (Or.inl rfl) (pv 4)))
      pss_nil))))
    (pss_cons (ps_set (i:=7) sc__law_rows.nd rfl (Or.inl rfl) (pe_lst pa_nil))
    (pss_cons (ps_for PassesOwn.never rfl (pi_list (pv 2)) (pg_name (i:=8) sc__law_rows.nd rfl (Or.inl rfl)) (pss_one (ps_set (i:=7) sc__law_rows.nd rfl (Or.inl rfl) (pe_op op_cat (pv 7) (pe_ix ix_tup (pv 8) (pe_int (i:=0)) (fun _ _=>rfl))))))
    (pss_one (ps_ret (pe_tup (pa_cons (pe_bm PySem.F.plainAttrs_str PySem.F.slot_str_join PySem.F.type_str_join mt_join (pe_str (x:="\n")) (pa_cons (pv 7) pa_nil)) (pa_cons (pe_comp rfl (osc:=defScope s__law_rows) (N:=["cells","names","some","cell","made","line","row","lines","lot"]) (xs:=["lot"]) (ix:=[]) (by decide +kernel) (pi_list (pv 2)) (fun _ _ _ _=>(pg_name (i:=0) (show List.Nodup (["lot"]:List Str) from (by decide +kernel)) rfl (Or.inl rfl) (.inr rfl))) (fun _ _ _ _=>pts_nil) (fun _ _ _ _=>(pe_ix ix_tup (pv 0) (pe_int (i:=1)) (fun _ _=>rfl)))) pa_nil))))))))),rdp__law_rows h1 h2 h3 q⟩
theorem ok__law_copy (T:Txt K mg t):∀ n,FnOk P w K mg base (CX1 P w) (1 + n) t.a__law_copy t.d__law_copy ["rows"] (sp__law_copy n):=by
  intro n
  induction n with
  | zero=>exact ⟨fun vs H Q E h=>(nil__law_copy h).elim,fun A outer s H args us vs Q E hr he hb hv h=>(nil__law_copy h).elim⟩
  | succ n IH =>
  refine T.f__law_copy.ok0 sc__law_copy (k:=1 + n) (fun vs H Q E h=>?_) (fun cdv A outer s H vs Q E hr h=>?_)
  · obtain ⟨F,l,xs,D,rfl,_⟩:=h;rfl
  obtain ⟨F,l,xs,D,rfl,h1,h2,h3,h4,h5,h6,q⟩:=h
  exact ⟨rd__law_copy K t n,(pss_cons (ps_set (i:=1) sc__law_copy.nd rfl (Or.inl rfl) (pe_lst pa_nil))
    (pss_cons (ps_for PassesOwn.never rfl (pi_list (pv 0)) (pg_name (i:=2) sc__law_copy.nd rfl (Or.inl rfl)) (pss_one (ps_if (pt_cmpR op_eq (pe_ix ix_tup (pv 2) (pe_int (i:=0)) (fun _ _=>rfl)) (pe_str (x:="if")) (nomark _)) (pss_one (ps_expr (pe_bm PySem.F.plainAttrs_list PySem.F.slot_list_append PySem.F.type_list_append mt_append (pv 1) (pa_cons (pe_tup (pa_cons (pe_str (x:="if")) (pa_cons (pe_ix ix_tup (pv 2) (pe_int (i:=1)) (fun _ _=>rfl)) (pa_cons (pe_call (FnOk.mono IH (by lia)) hr rfl T.m__law_copy T.f__law_copy.kp T.b__law_copy .nil pass10 (pa_cons (pe_ix ix_tup (pv 2) (pe_int (i:=2)) (fun _ _=>rfl)) pa_nil)) (pa_cons (pe_call (FnOk.mono IH (by lia)) hr rfl T.m__law_copy T.f__law_copy.kp T.b__law_copy .nil pass10 (pa_cons (pe_ix ix_tup (pv 2) (pe_int (i:=3)) (fun _ _=>rfl)) pa_nil)) pa_nil))))) pa_nil))))
      (pss_one (ps_expr (pe_bm PySem.F.plainAttrs_list PySem.F.slot_list_append PySem.F.type_list_append mt_append (pv 1) (pa_cons (pv 2) pa_nil)))))))
    (pss_one (ps_ret (pv 1))))),rdp__law_copy h1 h2 h3 h4 h5 h6 q⟩
theorem ok_numeral (T:Txt K mg t):FnOk P w K mg base (CX1 P w) 1 t.a_numeral t.d_numeral ["worth"] (sp_numeral):=by
  refine T.f_numeral.ok0 sc_numeral (fun vs H Q E h=>?_) (fun cdv A outer s H vs Q E hr h=>?_)
  · obtain ⟨w,rfl,_⟩:=h;rfl
  obtain ⟨w,rfl,hw,q⟩:=h
  exact ⟨rd_numeral K t,(pss_one (ps_ret (pe_callTy call_str_int rfl T.b_str bt_str (pa_cons (pv 0) pa_nil)))),rdp_numeral hw q⟩
theorem ok_words_of (T:Txt K mg t):FnOk P w K mg base (CX1 P w) 2 t.a_words_of t.d_words_of ["term"] (sp_words_of):=by
  refine T.f_words_of.ok0 sc_words_of (fun vs H Q E h=>?_) (fun cdv A outer s H vs Q E hr h=>?_)
  · obtain ⟨tm,T0,rfl,_⟩:=h;rfl
  obtain ⟨tm,T0,rfl,h1,h2,h3,h4,q⟩:=h
  exact ⟨rd_words_of K t,(pss_cons (ps_set (i:=1) sc_words_of.nd rfl (Or.inl rfl) (pe_lst pa_nil))
    (pss_cons (ps_for PassesOwn.never rfl (pi_tup (pv 0)) (pg_name (i:=2) sc_words_of.nd rfl (Or.inl rfl)) (pss_one (ps_if (pt_cmpR op_in_seq (pv 2) (pe_glob rfl T.g_JOINING rfl) (by with_unfolding_all rfl)) (pss_cons (ps_set (i:=3) sc_words_of.nd rfl (Or.inl rfl) (pe_bm0 PySem.F.plainAttrs_list PySem.F.slot_list_pop PySem.F.type_list_pop mt_pop (pv 1)))
    (pss_cons (ps_set (i:=4) sc_words_of.nd rfl (Or.inl rfl) (pe_bm0 PySem.F.plainAttrs_list PySem.F.slot_list_pop PySem.F.type_list_pop mt_pop (pv 1)))
    (pss_one (ps_expr (pe_bm PySem.F.plainAttrs_list PySem.F.slot_list_append PySem.F.type_list_append mt_append (pv 1) (pa_cons (pe_op op_cat (pe_op op_cat (pe_lst (pa_cons (pv 2) pa_nil)) (pv 4)) (pv 3)) pa_nil))))))
      (pss_one (ps_expr (pe_bm PySem.F.plainAttrs_list PySem.F.slot_list_append PySem.F.type_list_append mt_append (pv 1) (pa_cons (pe_lst (pa_cons (pe_ifExp (pt_val (pe_callB call_isi rfl T.b_isinstance bt_isinstance (pa_cons (pv 2) (pa_cons (pe_bltn rfl T.b_str bt_str rfl) pa_nil)))) (pv 2) (pe_call (FnOk.mono (ok_numeral T) (by decide)) hr rfl T.m_numeral T.f_numeral.kp T.b_numeral .nil pass10 (pa_cons (pv 2) pa_nil))) pa_nil)) pa_nil)))))))
    (pss_one (ps_ret (pe_bm0 PySem.F.plainAttrs_list PySem.F.slot_list_pop PySem.F.type_list_pop mt_pop (pv 1)))))),rdp_words_of (kf K) T.v_JOINING h1 h2 h3 h4 q⟩
theorem ok_row_words (T:Txt K mg t):FnOk P w K mg base (CX1 P w) 3 t.a_row_words t.d_row_words ["row"] (sp_row_words):=by
  refine T.f_row_words.ok0 sc_row_words (fun vs H Q E h=>?_) (fun cdv A outer s H vs Q E hr h=>?_)
  · obtain ⟨v,h,rfl,_⟩:=h;rfl
  obtain ⟨v,h,rfl,h1,h2,q⟩:=h
  exact ⟨rd_row_words K t,(pss_cons (ps_if (pt_cmpR op_eq (pe_ix ix_tup (pv 0) (pe_int (i:=0)) (fun _ _=>rfl)) (pe_str (x:="take")) (nomark _)) (pss_one (ps_ret (pe_op op_cat (pe_op op_cat (pe_lst (pa_cons (pe_str (x:="take")) (pa_cons (pe_ix ix_tup (pv 0) (pe_int (i:=1)) (fun _ _=>rfl)) pa_nil))) (pe_call (FnOk.mono (ok_words_of T) (by decide)) hr rfl T.m_words_of T.f_words_of.kp T.b_words_of .nil pass10 (pa_cons (pe_ix ix_tup (pv 0) (pe_int (i:=2)) (fun _ _=>rfl)) pa_nil))) (pe_lst (pa_cons (pe_str (x:="as")) (pa_cons (pe_ix ix_tup (pv 0) (pe_int (i:=3)) (fun _ _=>rfl)) pa_nil))))))
      pss_nil)
    (pss_cons (ps_if (pt_cmpR op_eq (pe_ix ix_tup (pv 0) (pe_int (i:=0)) (fun _ _=>rfl)) (pe_str (x:="give")) (nomark _)) (pss_one (ps_ret (pe_op op_cat (pe_op op_cat (pe_lst (pa_cons (pe_str (x:="give")) (pa_cons (pe_ix ix_tup (pv 0) (pe_int (i:=1)) (fun _ _=>rfl)) pa_nil))) (pe_call (FnOk.mono (ok_words_of T) (by decide)) hr rfl T.m_words_of T.f_words_of.kp T.b_words_of .nil pass10 (pa_cons (pe_ix ix_tup (pv 0) (pe_int (i:=2)) (fun _ _=>rfl)) pa_nil))) (pe_call (FnOk.mono (ok_words_of T) (by decide)) hr rfl T.m_words_of T.f_words_of.kp T.b_words_of .nil pass10 (pa_cons (pe_ix ix_tup (pv 0) (pe_int (i:=3)) (fun _ _=>rfl)) pa_nil)))))
      pss_nil)
    (pss_cons (ps_if (pt_cmpR op_eq (pe_ix ix_tup (pv 0) (pe_int (i:=0)) (fun _ _=>rfl)) (pe_str (x:="let")) (nomark _)) (pss_one (ps_ret (pe_op op_cat (pe_lst (pa_cons (pe_str (x:="let")) (pa_cons (pe_ix ix_tup (pv 0) (pe_int (i:=1)) (fun _ _=>rfl)) pa_nil))) (pe_call (FnOk.mono (ok_words_of T) (by decide)) hr rfl T.m_words_of T.f_words_of.kp T.b_words_of .nil pass10 (pa_cons (pe_ix ix_tup (pv 0) (pe_int (i:=2)) (fun _ _=>rfl)) pa_nil)))))
      pss_nil)
    (pss_one (ps_ret (pe_op op_cat (pe_lst (pa_cons (pe_ix ix_tup (pv 0) (pe_int (i:=0)) (fun _ _=>rfl)) pa_nil)) (pe_call (FnOk.mono (ok_words_of T) (by decide)) hr rfl T.m_words_of T.f_words_of.kp T.b_words_of .nil pass10 (pa_cons (pe_ix ix_tup (pv 0) (pe_int (i:=1)) (fun _ _=>rfl)) pa_nil)))))))),rdp_row_words h1 h2 q⟩
theorem ok_block_texts (T:Txt K mg t) (n:Nat) (IH:FnOk P w K mg base (CX1 P w) (4 + 2 * n) t.a_row_texts t.d_row_texts ["rows"] (sp_row_texts n)):FnOk P w K mg base (CX1 P w) (4 + 2 * n + 1) t.a_block_texts t.d_block_texts ["row"] (sp_block_texts n):=by
  refine T.f_block_texts.ok0 sc_block_texts (k:=4 + 2 * n) (fun vs H Q E h=>?_) (fun cdv A outer s H vs Q E hr h=>?_)
  · obtain ⟨v,T0,a,b,rfl,_⟩:=h;rfl
  obtain ⟨v,T0,a,b,rfl,h1,h2,h3,h4,h5,h6,q⟩:=h
  exact ⟨rd_block_texts K t n,(pss_cons (ps_set (i:=1) sc_block_texts.nd rfl (Or.inl rfl) (pe_call (FnOk.mono IH (by lia)) hr rfl T.m_row_texts T.f_row_texts.kp T.b_row_texts .nil pass10 (pa_cons (pe_ix ix_tup (pv 0) (pe_int (i:=2)) (fun _ _=>rfl)) pa_nil)))
    (pss_cons (ps_if (pt_cmpR (op_neNil (hu64 hr)) (pe_ix ix_tup (pv 0) (pe_int (i:=3)) (fun _ _=>rfl)) (pe_lst pa_nil) (nomark _)) (pss_one (ps_set (i:=1) sc_block_texts.nd rfl (Or.inl rfl) (pe_op op_cat (pe_op op_cat (pv 1) (pe_lst (pa_cons (pe_str (x:="else")) pa_nil))) (pe_call (FnOk.mono IH (by lia)) hr rfl T.m_row_texts T.f_row_texts.kp T.b_row_texts .nil pass10 (pa_cons (pe_ix ix_tup (pv 0) (pe_int (i:=3)) (fun _ _=>rfl)) pa_nil)))))
      pss_nil)
    (pss_one (ps_ret (pe_op op_cat (pv 1) (pe_lst (pa_cons (pe_str (x:="end")) pa_nil))))))),rdp_block_texts h1 h2 h3 h4 h5 h6 q⟩
theorem ok_row_texts (T:Txt K mg t):∀ n,FnOk P w K mg base (CX1 P w) (4 + 2 * n) t.a_row_texts t.d_row_texts ["rows"] (sp_row_texts n):=by
  intro n
  induction n with
  | zero=>exact ⟨fun vs H Q E h=>(nil_row_texts h).elim,fun A outer s H args us vs Q E hr he hb hv h=>(nil_row_texts h).elim⟩
  | succ n IH =>
  refine T.f_row_texts.ok0 sc_row_texts (k:=4 + 2 * n + 1) (fun vs H Q E h=>?_) (fun cdv A outer s H vs Q E hr h=>?_)
  · obtain ⟨l,xs,D,rfl,_⟩:=h;rfl
  obtain ⟨l,xs,D,rfl,h1,h2,h3,h4,h5,q⟩:=h
  exact ⟨rd_row_texts K t n,(pss_cons (ps_set (i:=1) sc_row_texts.nd rfl (Or.inl rfl) (pe_lst pa_nil))
    (pss_cons (ps_for PassesOwn.never rfl (pi_list (pv 0)) (pg_name (i:=2) sc_row_texts.nd rfl (Or.inl rfl)) (pss_cons (ps_expr (pe_bm PySem.F.plainAttrs_list PySem.F.slot_list_append PySem.F.type_list_append mt_append (pv 1) (pa_cons (pe_bm PySem.F.plainAttrs_str PySem.F.slot_str_join PySem.F.type_str_join mt_join (pe_str (x:=" ")) (pa_cons (pe_call (FnOk.mono (ok_row_words T) (by lia)) hr rfl T.m_row_words T.f_row_words.kp T.b_row_words .nil pass10 (pa_cons (pv 2) pa_nil)) pa_nil)) pa_nil)))
    (pss_one (ps_if (pt_cmpR op_eq (pe_ix ix_tup (pv 2) (pe_int (i:=0)) (fun _ _=>rfl)) (pe_str (x:="if")) (nomark _)) (pss_one (ps_expr (pe_bm PySem.F.plainAttrs_list PySem.F.slot_list_extend PySem.F.type_list_extend mt_extend (pv 1) (pa_cons (pe_call (FnOk.mono (ok_block_texts T n IH) (by lia)) hr rfl T.m_block_texts T.f_block_texts.kp T.b_block_texts .nil pass10 (pa_cons (pv 2) pa_nil)) pa_nil))))
      pss_nil))))
    (pss_one (ps_ret (pv 1))))),rdp_row_texts h1 h2 h3 h4 h5 q⟩
theorem ok_shown (T:Txt K mg t):FnOk P w K mg base (CX1 P w) 17 t.a_shown t.d_shown ["rows"] (sp_shown):=by
  refine T.f_shown.ok0 sc_shown (fun vs H Q E h=>?_) (fun cdv A outer s H vs Q E hr h=>?_)
  · obtain ⟨l,xs,D,rfl,_⟩:=h;rfl
  obtain ⟨l,xs,D,rfl,h1,h2,h3,h4,h5,q⟩:=h
  exact ⟨rd_shown K t,(pss_one (ps_ret (pe_bm PySem.F.plainAttrs_str PySem.F.slot_str_join PySem.F.type_str_join mt_join (pe_str (x:="\n")) (pa_cons (pe_call (FnOk.mono (ok_row_texts T 6) (by decide)) hr rfl T.m_row_texts T.f_row_texts.kp T.b_row_texts .nil pass10 (pa_cons (pv 0) pa_nil)) pa_nil)))),rdp_shown h1 h2 h3 h4 h5 q⟩
theorem ok_Reading_init (T:Txt K mg t):FnOk P w K mg base (CX1 P w) 1 t.a_Reading_init t.d_Reading_init ["self"] (sp_Reading_init t):=by
  refine T.f_Reading_init.ok0 sc_Reading_init (fun vs H Q E h=>?_) (fun cdv A outer s H vs Q E hr h=>?_)
  · obtain ⟨x,dx,rfl,_⟩:=h;rfl
  obtain ⟨x,dx,rfl,h1,q⟩:=h
  exact ⟨rd_Reading_init K t,(pss_cons (ps_fld (f:="rows") (pv 0) (pe_lst pa_nil) rfl)
    (pss_cons (ps_fld (f:="blocks") (pv 0) (pe_lst pa_nil) rfl)
    (pss_one (ps_fld (f:="turned") (pv 0) (pe_lst pa_nil) rfl)))),rdp_Reading_init (rdF T) h1 q⟩
theorem ok_Reading_turns (T:Txt K mg t):FnOk P w K mg base (CX1 P w) 1 t.a_Reading_turns t.d_Reading_turns ["self","number"] (sp_Reading_turns t):=by
  refine T.f_Reading_turns.ok0 sc_Reading_turns (fun vs H Q E h=>?_) (fun cdv A outer s H vs Q E hr h=>?_)
  · obtain ⟨x,n,dx,rl,bl,tl,blocks,turned,b,rfl,_⟩:=h;rfl
  obtain ⟨x,n,dx,rl,bl,tl,blocks,turned,b,rfl,h1,q⟩:=h
  exact ⟨rd_Reading_turns K t,(pss_cons (ps_if (PW.pt (pw_or (pt_cmpR (op_eqNil (hu64 hr)) (pe_fld (f:="blocks") (pv 0) rfl) (pe_lst pa_nil) (nomark _)) (pw_or1 (pt_val (pe_ix ix_list (pe_fld (f:="turned") (pv 0) rfl) (pe_un un_neg (pe_int (i:=1))) (fun _ _=>rfl)))))) (pss_one ps_never)
      pss_nil)
    (pss_one (ps_lput (pe_fld (f:="turned") (pv 0) rfl) (pe_un un_neg (pe_int (i:=1))) (pe_bl (b:=true)) rfl))),rdp_Reading_turns (rdF T) h1 q⟩
theorem ok_Reading_shuts (T:Txt K mg t):FnOk P w K mg base (CX1 P w) 1 t.a_Reading_shuts t.d_Reading_shuts ["self","number"] (sp_Reading_shuts t):=by
  refine T.f_Reading_shuts.ok0 sc_Reading_shuts (fun vs H Q E h=>?_) (fun cdv A outer s H vs Q E hr h=>?_)
  · obtain ⟨x,n,dx,rl,bl,tl,blocks,turned,b,c,rfl,_⟩:=h;rfl
  obtain ⟨x,n,dx,rl,bl,tl,blocks,turned,b,c,rfl,h1,q⟩:=h
  exact ⟨rd_Reading_shuts K t,(pss_cons (ps_if (pt_cmpR (op_eqNil (hu64 hr)) (pe_fld (f:="blocks") (pv 0) rfl) (pe_lst pa_nil) (nomark _)) (pss_one ps_never)
      pss_nil)
    (pss_cons (ps_expr (pe_bm0 PySem.F.plainAttrs_list PySem.F.slot_list_pop PySem.F.type_list_pop mt_pop (pe_fld (f:="blocks") (pv 0) rfl)))
    (pss_one (ps_expr (pe_bm0 PySem.F.plainAttrs_list PySem.F.slot_list_pop PySem.F.type_list_pop mt_pop (pe_fld (f:="turned") (pv 0) rfl)))))),rdp_Reading_shuts (rdF T) h1 q⟩
theorem ok_Reading_innermost (T:Txt K mg t):FnOk P w K mg base (CX1 P w) 1 t.a_Reading_innermost t.d_Reading_innermost ["self"] (sp_Reading_innermost t):=by
  refine T.f_Reading_innermost.ok0 sc_Reading_innermost (fun vs H Q E h=>?_) (fun cdv A outer s H vs Q E hr h=>?_)
  · obtain ⟨x,dx,rl,bl,tl,blocks,turned,inn,rfl,_⟩:=h;rfl
  obtain ⟨x,dx,rl,bl,tl,blocks,turned,inn,rfl,h1,h2,q⟩:=h
  exact ⟨rd_Reading_innermost K t,(pss_cons (ps_if (pt_cmpR (op_eqNil (hu64 hr)) (pe_fld (f:="blocks") (pv 0) rfl) (pe_lst pa_nil) (nomark _)) (pss_one (ps_ret (pe_fld (f:="rows") (pv 0) rfl)))
      pss_nil)
    (pss_one (ps_ret (pe_ifExp (pt_val (pe_ix ix_list (pe_fld (f:="turned") (pv 0) rfl) (pe_un un_neg (pe_int (i:=1))) (fun _ _=>rfl))) (pe_ix ix_tup (pe_ix ix_list (pe_fld (f:="blocks") (pv 0) rfl) (pe_un un_neg (pe_int (i:=1))) (fun _ _=>rfl)) (pe_int (i:=3)) (fun _ _=>rfl)) (pe_ix ix_tup (pe_ix ix_list (pe_fld (f:="blocks") (pv 0) rfl) (pe_un un_neg (pe_int (i:=1))) (fun _ _=>rfl)) (pe_int (i:=2)) (fun _ _=>rfl)))))),rdp_Reading_innermost (rdF T) h1 h2 q⟩
theorem ok_Reading_begins (T:Txt K mg t):FnOk P w K mg base (CX1 P w) 2 t.a_Reading_begins t.d_Reading_begins ["self","row","number"] (sp_Reading_begins t):=by
  refine T.f_Reading_begins.ok0 sc_Reading_begins (fun vs H Q E h=>?_) (fun cdv A outer s H vs Q E hr h=>?_)
  · obtain ⟨x,v,n,dx,rl,bl,tl,blocks,turned,inn,zs,rfl,_⟩:=h;rfl
  obtain ⟨x,v,n,dx,rl,bl,tl,blocks,turned,inn,zs,rfl,h1,h2,h3,h4,h5,h6,h7,q⟩:=h
  exact ⟨rd_Reading_begins K t,(pss_cons (ps_if (pt_cmpR op_eq (pe_callB call_len rfl T.b_len bt_len (pa_cons (pe_fld (f:="blocks") (pv 0) rfl) pa_nil)) (pe_glob rfl T.g_MOST_BLOCKS ⟨_,rfl⟩) (nomark _)) (pss_one ps_never)
      pss_nil)
    (pss_cons (ps_expr (pe_bm PySem.F.plainAttrs_list PySem.F.slot_list_append PySem.F.type_list_append mt_append (pe_meth0 (pv 0) T.cl_Reading T.me_Reading_innermost (FnOk.mono (ok_Reading_innermost T) (by decide)) hr T.b_Reading_innermost .nil pass10) (pa_cons (pv 1) pa_nil)))
    (pss_cons (ps_expr (pe_bm PySem.F.plainAttrs_list PySem.F.slot_list_append PySem.F.type_list_append mt_append (pe_fld (f:="blocks") (pv 0) rfl) (pa_cons (pv 1) pa_nil)))
    (pss_one (ps_expr (pe_bm PySem.F.plainAttrs_list PySem.F.slot_list_append PySem.F.type_list_append mt_append (pe_fld (f:="turned") (pv 0) rfl) (pa_cons (pe_bl (b:=false)) pa_nil))))))),rdp_Reading_begins (rdF T) h1 h2 h3 h4 h5 h6 h7 q⟩
theorem ok_Reading_reads (T:Txt K mg t):FnOk P w K mg base (CX1 P w) 3 t.a_Reading_reads t.d_Reading_reads ["self","row","number"] (sp_Reading_reads t):=by
  refine T.f_Reading_reads.ok0 sc_Reading_reads (fun vs H Q E h=>?_) (fun cdv A outer s H vs Q E hr h=>?_)
  · obtain ⟨x,v,n,dx,rl,bl,tl,blocks,turned,hd,F,rfl,_⟩:=h;rfl
  obtain ⟨x,v,n,dx,rl,bl,tl,blocks,turned,hd,F,rfl,h1,h2,h3⟩:=h
  exact ⟨rd_Reading_reads K t,(pss_one (ps_if (pt_cmpR op_eq (pe_ix ix_tup (pv 1) (pe_int (i:=0)) (fun _ _=>rfl)) (pe_str (x:="else")) (nomark _)) (pss_one (ps_expr (pe_meth (pv 0) T.cl_Reading T.me_Reading_turns (FnOk.mono (ok_Reading_turns T) (by decide)) hr T.b_Reading_turns .nil pass10 (pa_cons (pv 2) pa_nil))))
      (pss_one (ps_if (pt_cmpR op_eq (pe_ix ix_tup (pv 1) (pe_int (i:=0)) (fun _ _=>rfl)) (pe_str (x:="end")) (nomark _)) (pss_one (ps_expr (pe_meth (pv 0) T.cl_Reading T.me_Reading_shuts (FnOk.mono (ok_Reading_shuts T) (by decide)) hr T.b_Reading_shuts .nil pass10 (pa_cons (pv 2) pa_nil))))
      (pss_one (ps_if (pt_cmpR op_eq (pe_ix ix_tup (pv 1) (pe_int (i:=0)) (fun _ _=>rfl)) (pe_str (x:="if")) (nomark _)) (pss_one (ps_expr (pe_meth (pv 0) T.cl_Reading T.me_Reading_begins (FnOk.mono (ok_Reading_begins T) (by decide)) hr T.b_Reading_begins .nil pass10 (pa_cons (pv 1) (pa_cons (pv 2) pa_nil)))))
      (pss_one (ps_expr (pe_bm PySem.F.plainAttrs_list PySem.F.slot_list_append PySem.F.type_list_append mt_append (pe_meth0 (pv 0) T.cl_Reading T.me_Reading_innermost (FnOk.mono (ok_Reading_innermost T) (by decide)) hr T.b_Reading_innermost .nil pass10) (pa_cons (pv 1) pa_nil)))))))))),rdp_Reading_reads h1 h2 h3⟩
theorem ok_RowWords_init (T:Txt K mg t):FnOk P w K mg base (CX1 P w) 1 t.a_RowWords_init t.d_RowWords_init ["self","words","number"] (sp_RowWords_init t):=by
  refine T.f_RowWords_init.ok0 sc_RowWords_init (fun vs H Q E h=>?_) (fun cdv A outer s H vs Q E hr h=>?_)
  · obtain ⟨x,wa,n,dx,ws,rfl,_⟩:=h;rfl
  obtain ⟨x,wa,n,dx,ws,rfl,h1,h2,q⟩:=h
  exact ⟨rd_RowWords_init K t,(pss_cons (ps_fld (f:="words") (pv 0) (pv 1) rfl)
    (pss_cons (ps_fld (f:="number") (pv 0) (pv 2) rfl)
    (pss_one (ps_fld (f:="at") (pv 0) (pe_int (i:=0)) rfl)))),rdp_RowWords_init (wrF T) h1 h2 q⟩
theorem ok_RowWords_draw_word (T:Txt K mg t):FnOk P w K mg base (CX1 P w) 1 t.a_RowWords_draw_word t.d_RowWords_draw_word ["self"] (sp_RowWords_draw_word t):=by
  refine T.f_RowWords_draw_word.ok0 sc_RowWords_draw_word (fun vs H Q E h=>?_) (fun cdv A outer s H vs Q E hr h=>?_)
  · obtain ⟨x,dx,wa,ws,n,k,w,rfl,_⟩:=h;rfl
  obtain ⟨x,dx,wa,ws,n,k,w,rfl,h1,h2,q⟩:=h
  exact ⟨rd_RowWords_draw_word K t,(pss_cons (ps_if (pt_cmpR op_eq (pe_fld (f:="at") (pv 0) rfl) (pe_callB call_len rfl T.b_len bt_len (pa_cons (pe_fld (f:="words") (pv 0) rfl) pa_nil)) (nomark _)) (pss_one ps_never)
      pss_nil)
    (pss_cons (ps_set (i:=1) sc_RowWords_draw_word.nd rfl (Or.inl rfl) (pe_ix ix_list (pe_fld (f:="words") (pv 0) rfl) (pe_fld (f:="at") (pv 0) rfl) (fun _ _=>rfl)))
    (pss_cons (ps_fldaug (f:="at") (pv 0) (pe_int (i:=1)) in_add)
    (pss_one (ps_ret (pv 1)))))),rdp_RowWords_draw_word (wrF T) h1 h2 q⟩
theorem ok_is_name (T:Txt K mg t):FnOk P w K mg base (CX1 P w) 1 t.a_is_name t.d_is_name ["text"] (sp_is_name):=by
  refine T.f_is_name.ok0 sc_is_name (fun vs H Q E h=>?_) (fun cdv A outer s H vs Q E hr h=>?_)
  · obtain ⟨x,rfl,_⟩:=h;rfl
  obtain ⟨x,rfl,hx,q⟩:=h
  exact ⟨rd_is_name K t,(pss_cons (ps_if (PW.pt (pw_or (pt_cmpR op_eq (pv 0) (pe_str (x:="")) (nomark _)) (pw_or1 (pt_cmpR op_gt (pe_callB call_len rfl T.b_len bt_len (pa_cons (pv 0) pa_nil)) (pe_glob rfl T.g_MOST_LETTERS ⟨_,rfl⟩) (nomark _))))) (pss_one (ps_ret (pe_bl (b:=false))))
      pss_nil)
    (pss_cons (ps_if (PW.pt (pw_or (pt_cmpR op_in_seq (pv 0) (pe_glob rfl T.g_JOINING rfl) (by with_unfolding_all rfl)) (pw_or1 (pt_cmpR op_in_seq (pv 0) (pe_glob rfl T.g_ROW_WORDS rfl) (by with_unfolding_all rfl))))) (pss_one (ps_ret (pe_bl (b:=false))))
      pss_nil)
    (pss_one (ps_ret (pe_callB (call_allL rfl) rfl T.b_all bt_all (pa_cons (pe_comp rfl (osc:=defScope s_is_name) (N:=["text"]) (xs:=["sign"]) (ix:=[]) (by decide +kernel) (pi_str (pv 0)) (fun _ _ _ _=>(pg_name (i:=0) (show List.Nodup (["sign"]:List Str) from (by decide +kernel)) rfl (Or.inl rfl) (.inr rfl))) (fun _ _ _ _=>pts_nil) (fun _ _ _ _=>(pe_cmpR op_in_str (pv 0) (pe_glob rfl T.g_LETTERS ⟨_,rfl⟩) (by with_unfolding_all rfl)))) pa_nil)))))),rdp_is_name hx T.v_JOINING T.v_ROW_WORDS q⟩
theorem ok_RowWords_draw_name (T:Txt K mg t):FnOk P w K mg base (CX1 P w) 2 t.a_RowWords_draw_name t.d_RowWords_draw_name ["self"] (sp_RowWords_draw_name t):=by
  refine T.f_RowWords_draw_name.ok0 sc_RowWords_draw_name (fun vs H Q E h=>?_) (fun cdv A outer s H vs Q E hr h=>?_)
  · obtain ⟨x,dx,wa,ws,n,k,w,rfl,_⟩:=h;rfl
  obtain ⟨x,dx,wa,ws,n,k,w,rfl,h1,h2,h3,q⟩:=h
  exact ⟨rd_RowWords_draw_name K t,(pss_cons (ps_set (i:=1) sc_RowWords_draw_name.nd rfl (Or.inl rfl) (pe_meth0 (pv 0) T.cl_RowWords T.me_RowWords_draw_word (FnOk.mono (ok_RowWords_draw_word T) (by decide)) hr T.b_RowWords_draw_word .nil pass10))
    (pss_cons (ps_if (pt_not (pt_val (pe_call (FnOk.mono (ok_is_name T) (by decide)) hr rfl T.m_is_name T.f_is_name.kp T.b_is_name .nil pass10 (pa_cons (pv 1) pa_nil)))) (pss_one ps_never)
      pss_nil)
    (pss_one (ps_ret (pv 1))))),rdp_RowWords_draw_name h1 h2 h3 q⟩
theorem ok_behind_term (T:Txt K mg t):FnOk P w K mg base (CX1 P w) 1 t.a_behind_term t.d_behind_term ["words","at"] (sp_behind_term t):=by
  refine T.f_behind_term.ok1 sc_behind_term (fun vs H Q E h=>?_) (fun cdv A outer s H vs Q E hr h=>?_)
  · obtain ⟨a,ws,k,rfl,_⟩:=h;rfl
  obtain ⟨a,ws,k,rfl,h1,h2,q⟩:=h
  exact ⟨rd_behind_term K t E,(pss_cons (ps_set (i:=2) sc_behind_term.nd rfl (Or.inl rfl) (pe_int (i:=1)))
    (pss_cons (ps_set (i:=3) sc_behind_term.nd rfl (Or.inl rfl) (pv 1))
    (pss_cons (ps_while own1 (pt_cmpR op_gt (pv 2) (pe_int (i:=0)) (nomark _)) (pss_cons (ps_if (pt_cmpR op_ge (pv 3) (pe_callB call_len rfl T.b_len bt_len (pa_cons (pv 0) pa_nil)) (nomark _)) (pss_one (ps_raise rfl T.x_NoTerm raises1 rfl T.g_NoTerm (pa_cons (pe_str (x:="the words end ahead of the term's end")) pa_nil)))
      pss_nil)
    (pss_cons (ps_if (pt_cmpR op_eq (pe_op op_sub (pv 3) (pv 1)) (pe_glob rfl T.g_MOST_WORDS_terms ⟨_,rfl⟩) (nomark _)) (pss_one (ps_raise rfl T.x_NoTerm raises1 rfl T.g_NoTerm (pa_cons (pe_str (x:="a term of more than sixty words")) pa_nil)))
      pss_nil)
    (pss_cons (ps_set (i:=2) sc_behind_term.nd rfl (Or.inl rfl) (pe_ifExp (pt_cmpR op_in_seq (pe_ix ix_list (pv 0) (pv 3) (fun _ _=>rfl)) (pe_glob rfl T.g_JOINING rfl) (by with_unfolding_all rfl)) (pe_op op_add (pv 2) (pe_int (i:=1))) (pe_op op_sub (pv 2) (pe_int (i:=1)))))
    (pss_one (ps_aug (i:=3) sc_behind_term.nd rfl (Or.inl rfl) (pe_int (i:=1)) ip_add))))))
    (pss_one (ps_ret (pv 3)))))),rdp_behind_term T.v_JOINING h1 h2 q⟩
theorem ok_is_worth (T:Txt K mg t):FnOk P w K mg base (CX1 P w) 1 t.a_is_worth t.d_is_worth ["thing"] (sp_is_worth K):=by
  refine T.f_is_worth.ok0 sc_is_worth (fun vs H Q E h=>?_) (fun cdv A outer s H vs Q E hr h=>?_)
  · obtain ⟨x,rfl,_⟩:=h;rfl
  obtain ⟨x,rfl,h⟩:=h
  exact ⟨rd_is_worth K t,(pss_cons (ps_if (PW.pt (pw_or (pt_not (pt_val (pe_callB call_isi rfl T.b_isinstance bt_isinstance (pa_cons (pv 0) (pa_cons (pe_bltn rfl T.b_int bt_int rfl) pa_nil))))) (pw_or1 (pt_val (pe_callB call_isi rfl T.b_isinstance bt_isinstance (pa_cons (pv 0) (pa_cons (pe_bltn rfl T.b_bool bt_bool rfl) pa_nil))))))) (pss_one (ps_ret (pe_bl (b:=false))))
      pss_nil)
    (pss_one (ps_ret (pe_chain op_le op_le (pe_un un_neg (pe_op op_pow (pe_int (i:=10)) (pe_int (i:=30)))) (pv 0) (pe_op op_pow (pe_int (i:=10)) (pe_int (i:=30))))))),rdp_is_worth (kf K).i_b h⟩
theorem ok_is_figures (T:Txt K mg t):FnOk P w K mg base (CX1 P w) 1 t.a_is_figures t.d_is_figures ["text"] (sp_is_figures):=by
  refine T.f_is_figures.ok0 sc_is_figures (fun vs H Q E h=>?_) (fun cdv A outer s H vs Q E hr h=>?_)
  · obtain ⟨x,rfl,_⟩:=h;rfl
  obtain ⟨x,rfl,hx,q⟩:=h
  exact ⟨rd_is_figures K t,(pss_one (ps_ret (pe_and (pe_cmpR op_ne (pv 0) (pe_str (x:="")) (nomark _)) (pe_one (pe_callB (call_allL rfl) rfl T.b_all bt_all (pa_cons (pe_comp rfl (osc:=defScope s_is_figures) (N:=["text"]) (xs:=["sign"]) (ix:=[]) (by decide +kernel) (pi_str (pv 0)) (fun _ _ _ _=>(pg_name (i:=0) (show List.Nodup (["sign"]:List Str) from (by decide +kernel)) rfl (Or.inl rfl) (.inr rfl))) (fun _ _ _ _=>pts_nil) (fun _ _ _ _=>(pe_cmpR op_in_str (pv 0) (pe_glob rfl T.g_FIGURES ⟨_,rfl⟩) (by with_unfolding_all rfl)))) pa_nil)))))),rdp_is_figures hx q⟩
theorem ok_is_numeral (T:Txt K mg t):FnOk P w K mg base (CX1 P w) 2 t.a_is_numeral t.d_is_numeral ["text"] (sp_is_numeral):=by
  refine T.f_is_numeral.ok0 sc_is_numeral (fun vs H Q E h=>?_) (fun cdv A outer s H vs Q E hr h=>?_)
  · obtain ⟨x,rfl,_⟩:=h;rfl
  obtain ⟨x,rfl,hx,q⟩:=h
  exact ⟨rd_is_numeral K t,(pss_cons (ps_set (i:=1) sc_is_numeral.nd rfl (Or.inl rfl) (pe_ifExp (pt_val (pe_bm PySem.F.plainAttrs_str PySem.F.slot_str_startswith PySem.F.type_str_startswith mt_startswith (pv 0) (pa_cons (pe_str (x:="-")) pa_nil))) (pe_slice sl_str (pv 0) (po_some (pe_int (i:=1))) po_none) (pv 0)))
    (pss_cons (ps_if (PW.pt (pw_or (pt_cmpR op_gt (pe_callB call_len rfl T.b_len bt_len (pa_cons (pv 1) pa_nil)) (pe_glob rfl T.g_MOST_FIGURES ⟨_,rfl⟩) (nomark _)) (pw_or1 (pt_not (pt_val (pe_call (FnOk.mono (ok_is_figures T) (by decide)) hr rfl T.m_is_figures T.f_is_figures.kp T.b_is_figures .nil pass10 (pa_cons (pv 1) pa_nil))))))) (pss_one (ps_ret (pe_bl (b:=false))))
      pss_nil)
    (pss_cons (ps_set (i:=2) sc_is_numeral.nd rfl (Or.inl rfl) (pe_callTy call_int_str rfl T.b_int bt_int (pa_cons (pv 0) pa_nil)))
    (pss_one (ps_ret (pe_and (pe_call (FnOk.mono (ok_is_worth T) (by decide)) hr rfl T.m_is_worth T.f_is_worth.kp T.b_is_worth .nil pass10 (pa_cons (pv 2) pa_nil)) (pe_one (pe_cmpR op_eq (pe_call (FnOk.mono (ok_numeral T) (by decide)) hr rfl T.m_numeral T.f_numeral.kp T.b_numeral .nil pass10 (pa_cons (pv 2) pa_nil)) (pv 0) (nomark _))))))))),rdp_is_numeral hx q⟩
theorem ok_worth_in (T:Txt K mg t):FnOk P w K mg base (CX1 P w) 3 t.a_worth_in t.d_worth_in ["text"] (sp_worth_in t):=by
  refine T.f_worth_in.ok1 sc_worth_in (fun vs H Q E h=>?_) (fun cdv A outer s H vs Q E hr h=>?_)
  · obtain ⟨x,rfl,_⟩:=h;rfl
  obtain ⟨x,rfl,hx,ha,q⟩:=h
  exact ⟨rd_worth_in K t E,(pss_cons (ps_if (pt_not (pt_val (pe_call (FnOk.mono (ok_is_numeral T) (by decide)) hr rfl T.m_is_numeral T.f_is_numeral.kp T.b_is_numeral .nil pass1 (pa_cons (pv 0) pa_nil)))) (pss_one (ps_raise rfl T.x_NoNumber raises1 rfl T.g_NoNumber (pa_cons (pe_msgR (pv 0)) pa_nil)))
      pss_nil)
    (pss_one (ps_ret (pe_callTy call_int_str rfl T.b_int bt_int (pa_cons (pv 0) pa_nil))))),rdp_worth_in hx ha q⟩
theorem ok_part_in (T:Txt K mg t):FnOk P w K mg base (CX1 P w) 4 t.a_part_in t.d_part_in ["word"] (sp_part_in t):=by
  refine T.f_part_in.ok1 sc_part_in (fun vs H Q E h=>?_) (fun cdv A outer s H vs Q E hr h=>?_)
  · obtain ⟨x,rfl,_⟩:=h;rfl
  obtain ⟨x,rfl,hx,ha,q⟩:=h
  exact ⟨rd_part_in K t E,(pss_cons (ps_if (pt_val (pe_call (FnOk.mono (ok_is_name T) (by decide)) hr rfl T.m_is_name T.f_is_name.kp T.b_is_name .nil pass1 (pa_cons (pv 0) pa_nil))) (pss_one (ps_ret (pv 0)))
      pss_nil)
    (pss_cons (ps_if (pt_val (pe_call (FnOk.mono (ok_is_numeral T) (by decide)) hr rfl T.m_is_numeral T.f_is_numeral.kp T.b_is_numeral .nil pass1 (pa_cons (pv 0) pa_nil))) (pss_one (ps_ret (pe_call (FnOk.mono (ok_worth_in T) (by decide)) hr rfl T.m_worth_in T.f_worth_in.kp T.b_worth_in .nil pass1 (pa_cons (pv 0) pa_nil))))
      pss_nil)
    (pss_one (ps_raise rfl T.x_NoTerm raises1 rfl T.g_NoTerm (pa_cons (pe_msgR (pv 0)) pa_nil))))),rdp_part_in hx ha q⟩
theorem ok_term_from (T:Txt K mg t):FnOk P w K mg base (CX1 P w) 5 t.a_term_from t.d_term_from ["words","at"] (sp_term_from t):=by
  refine T.f_term_from.ok1 sc_term_from (fun vs H Q E h=>?_) (fun cdv A outer s H vs Q E hr h=>?_)
  · obtain ⟨a,ws,k,rfl,_⟩:=h;rfl
  obtain ⟨a,ws,k,rfl,h1,h2,h3,q⟩:=h
  exact ⟨rd_term_from K t E,(pss_cons (ps_set (i:=2) sc_term_from.nd rfl (Or.inl rfl) (pe_call (FnOk.mono (ok_behind_term T) (by decide)) hr rfl T.m_behind_term T.f_behind_term.kp T.b_behind_term .nil pass1 (pa_cons (pv 0) (pa_cons (pv 1) pa_nil))))
    (pss_cons (ps_set (i:=3) sc_term_from.nd rfl (Or.inl rfl) (pe_lst pa_nil))
    (pss_cons (ps_for own1 rfl (pi_rev rfl T.b_reversed (pa_cons (pe_slice sl_list (pv 0) (po_some (pv 1)) (po_some (pv 2))) pa_nil)) (pg_name (i:=4) sc_term_from.nd rfl (Or.inl rfl)) (pss_one (ps_if (pt_cmpR op_in_seq (pv 4) (pe_glob rfl T.g_JOINING rfl) (by with_unfolding_all rfl)) (pss_cons (ps_set (i:=5) sc_term_from.nd rfl (Or.inl rfl) (pe_bm0 PySem.F.plainAttrs_list PySem.F.slot_list_pop PySem.F.type_list_pop mt_pop (pv 3)))
    (pss_cons (ps_set (i:=6) sc_term_from.nd rfl (Or.inl rfl) (pe_bm0 PySem.F.plainAttrs_list PySem.F.slot_list_pop PySem.F.type_list_pop mt_pop (pv 3)))
    (pss_one (ps_expr (pe_bm PySem.F.plainAttrs_list PySem.F.slot_list_append PySem.F.type_list_append mt_append (pv 3) (pa_cons (pe_op op_catT (pe_op op_catT (pv 5) (pv 6)) (pe_tup (pa_cons (pv 4) pa_nil))) pa_nil))))))
      (pss_one (ps_expr (pe_bm PySem.F.plainAttrs_list PySem.F.slot_list_append PySem.F.type_list_append mt_append (pv 3) (pa_cons (pe_tup (pa_cons (pe_call (FnOk.mono (ok_part_in T) (by decide)) hr rfl T.m_part_in T.f_part_in.kp T.b_part_in .nil pass1 (pa_cons (pv 4) pa_nil)) pa_nil)) pa_nil)))))))
    (pss_one (ps_ret (pe_tup (pa_cons (pe_bm0 PySem.F.plainAttrs_list PySem.F.slot_list_pop PySem.F.type_list_pop mt_pop (pv 3)) (pa_cons (pv 2) pa_nil)))))))),rdp_term_from T.v_JOINING h1 h2 h3 q⟩
theorem ok_RowWords_draw_term (T:Txt K mg t):FnOk P w K mg base (CX1 P w) 6 t.a_RowWords_draw_term t.d_RowWords_draw_term ["self"] (sp_RowWords_draw_term t):=by
  refine T.f_RowWords_draw_term.ok0 sc_RowWords_draw_term (fun vs H Q E h=>?_) (fun cdv A outer s H vs Q E hr h=>?_)
  · obtain ⟨x,dx,wa,ws,n,k,ps,e,rfl,_⟩:=h;rfl
  obtain ⟨x,dx,wa,ws,n,k,ps,e,rfl,h1,h2,h3,h4,q⟩:=h
  exact ⟨rd_RowWords_draw_term K t,(pss_cons (ps_tryP (ps_set (i:=1) sc_RowWords_draw_term.nd rfl (Or.inl rfl) (pe_call (FnOk.mono (ok_term_from T) (by decide)) hr rfl T.m_term_from T.f_term_from.kp T.b_term_from .nil pass10 (pa_cons (pe_fld (f:="words") (pv 0) rfl) (pa_cons (pe_fld (f:="at") (pv 0) rfl) pa_nil)))))
    (pss_cons (ps_fld (f:="at") (pv 0) (pe_ix ix_tup (pv 1) (pe_int (i:=1)) (fun _ _=>rfl)) rfl)
    (pss_one (ps_ret (pe_ix ix_tup (pv 1) (pe_int (i:=0)) (fun _ _=>rfl)))))),rdp_RowWords_draw_term (wrF T) h1 h2 h3 h4 q⟩
theorem ok_RowWords_draw_as (T:Txt K mg t):FnOk P w K mg base (CX1 P w) 2 t.a_RowWords_draw_as t.d_RowWords_draw_as ["self"] (sp_RowWords_draw_as t):=by
  refine T.f_RowWords_draw_as.ok0 sc_RowWords_draw_as (fun vs H Q E h=>?_) (fun cdv A outer s H vs Q E hr h=>?_)
  · obtain ⟨x,dx,wa,ws,n,k,rfl,_⟩:=h;rfl
  obtain ⟨x,dx,wa,ws,n,k,rfl,h1,h2,q⟩:=h
  exact ⟨rd_RowWords_draw_as K t,(pss_one (ps_if (pt_cmpR op_ne (pe_meth0 (pv 0) T.cl_RowWords T.me_RowWords_draw_word (FnOk.mono (ok_RowWords_draw_word T) (by decide)) hr T.b_RowWords_draw_word .nil pass10) (pe_str (x:="as")) (nomark _)) (pss_one ps_never)
      pss_nil)),rdp_RowWords_draw_as h1 h2 q⟩
theorem ok_take_drawn (T:Txt K mg t):FnOk P w K mg base (CX1 P w) 7 t.a_take_drawn t.d_take_drawn ["words"] (sp_take_drawn t):=by
  refine T.f_take_drawn.ok0 sc_take_drawn (fun vs H Q E h=>?_) (fun cdv A outer s H vs Q E hr h=>?_)
  · obtain ⟨x,dx,wa,ws,n,sh,T0,sl,rfl,_⟩:=h;rfl
  obtain ⟨x,dx,wa,ws,n,sh,T0,sl,rfl,h1,h2,h3,h4,h5,q⟩:=h
  exact ⟨rd_take_drawn K t,(pss_cons (ps_set (i:=1) sc_take_drawn.nd rfl (Or.inl rfl) (pe_meth0 (pv 0) T.cl_RowWords T.me_RowWords_draw_name (FnOk.mono (ok_RowWords_draw_name T) (by decide)) hr T.b_RowWords_draw_name .nil pass10))
    (pss_cons (ps_set (i:=2) sc_take_drawn.nd rfl (Or.inl rfl) (pe_meth0 (pv 0) T.cl_RowWords T.me_RowWords_draw_term (FnOk.mono (ok_RowWords_draw_term T) (by decide)) hr T.b_RowWords_draw_term .nil pass10))
    (pss_cons (ps_expr (pe_meth0 (pv 0) T.cl_RowWords T.me_RowWords_draw_as (FnOk.mono (ok_RowWords_draw_as T) (by decide)) hr T.b_RowWords_draw_as .nil pass10))
    (pss_one (ps_ret (pe_tup (pa_cons (pe_str (x:="take")) (pa_cons (pv 1) (pa_cons (pv 2) (pa_cons (pe_meth0 (pv 0) T.cl_RowWords T.me_RowWords_draw_name (FnOk.mono (ok_RowWords_draw_name T) (by decide)) hr T.b_RowWords_draw_name .nil pass10) pa_nil)))))))))),rdp_take_drawn h1 h2 h3 h4 h5 q⟩
theorem ok_row_drawn (T:Txt K mg t):FnOk P w K mg base (CX1 P w) 8 t.a_row_drawn t.d_row_drawn ["words"] (sp_row_drawn t):=by
  refine T.f_row_drawn.ok0 sc_row_drawn (fun vs H Q E h=>?_) (fun cdv A outer s H vs Q E hr h=>?_)
  · obtain ⟨x,dx,wa,ws,n,hd,rfl,_⟩:=h;rfl
  obtain ⟨x,dx,wa,ws,n,hd,rfl,h1,h2,h3,h4,h5,q⟩:=h
  exact ⟨rd_row_drawn K t,(pss_cons (ps_set (i:=1) sc_row_drawn.nd rfl (Or.inl rfl) (pe_meth0 (pv 0) T.cl_RowWords T.me_RowWords_draw_word (FnOk.mono (ok_RowWords_draw_word T) (by decide)) hr T.b_RowWords_draw_word .nil pass10))
    (pss_cons (ps_if (pt_cmpR op_eq (pv 1) (pe_str (x:="take")) (nomark _)) (pss_one (ps_ret (pe_call (FnOk.mono (ok_take_drawn T) (by decide)) hr rfl T.m_take_drawn T.f_take_drawn.kp T.b_take_drawn .nil pass10 (pa_cons (pv 0) pa_nil))))
      pss_nil)
    (pss_cons (ps_if (pt_cmpR op_eq (pv 1) (pe_str (x:="give")) (nomark _)) (pss_one (ps_ret (pe_tup (pa_cons (pe_str (x:="give")) (pa_cons (pe_meth0 (pv 0) T.cl_RowWords T.me_RowWords_draw_name (FnOk.mono (ok_RowWords_draw_name T) (by decide)) hr T.b_RowWords_draw_name .nil pass10) (pa_cons (pe_meth0 (pv 0) T.cl_RowWords T.me_RowWords_draw_term (FnOk.mono (ok_RowWords_draw_term T) (by decide)) hr T.b_RowWords_draw_term .nil pass10) (pa_cons (pe_meth0 (pv 0) T.cl_RowWords T.me_RowWords_draw_term (FnOk.mono (ok_RowWords_draw_term T) (by decide)) hr T.b_RowWords_draw_term .nil pass10) pa_nil)))))))
      pss_nil)
    (pss_cons (ps_if (pt_cmpR op_eq (pv 1) (pe_str (x:="let")) (nomark _)) (pss_one (ps_ret (pe_tup (pa_cons (pe_str (x:="let")) (pa_cons (pe_meth0 (pv 0) T.cl_RowWords T.me_RowWords_draw_name (FnOk.mono (ok_RowWords_draw_name T) (by decide)) hr T.b_RowWords_draw_name .nil pass10) (pa_cons (pe_meth0 (pv 0) T.cl_RowWords T.me_RowWords_draw_term (FnOk.mono (ok_RowWords_draw_term T) (by decide)) hr T.b_RowWords_draw_term .nil pass10) pa_nil))))))
      pss_nil)
    (pss_cons (ps_if (pt_cmpR op_in_seq (pv 1) (pe_tup (pa_cons (pe_str (x:="say")) (pa_cons (pe_str (x:="off")) pa_nil))) (by with_unfolding_all rfl)) (pss_one (ps_ret (pe_tup (pa_cons (pv 1) (pa_cons (pe_meth0 (pv 0) T.cl_RowWords T.me_RowWords_draw_term (FnOk.mono (ok_RowWords_draw_term T) (by decide)) hr T.b_RowWords_draw_term .nil pass10) pa_nil)))))
      pss_nil)
    (pss_cons (ps_if (pt_cmpR op_eq (pv 1) (pe_str (x:="if")) (nomark _)) (pss_one (ps_ret (pe_tup (pa_cons (pe_str (x:="if")) (pa_cons (pe_meth0 (pv 0) T.cl_RowWords T.me_RowWords_draw_term (FnOk.mono (ok_RowWords_draw_term T) (by decide)) hr T.b_RowWords_draw_term .nil pass10) (pa_cons (pe_lst pa_nil) (pa_cons (pe_lst pa_nil) pa_nil)))))))
      pss_nil)
    (pss_cons (ps_if (pt_cmpR op_in_seq (pv 1) (pe_tup (pa_cons (pe_str (x:="else")) (pa_cons (pe_str (x:="end")) pa_nil))) (by with_unfolding_all rfl)) (pss_one (ps_ret (pe_tup (pa_cons (pv 1) pa_nil))))
      pss_nil)
    (pss_one ps_never)))))))),rdp_row_drawn h1 h2 h3 h4 h5 q⟩
theorem ok_RowWords_draw_end (T:Txt K mg t):FnOk P w K mg base (CX1 P w) 1 t.a_RowWords_draw_end t.d_RowWords_draw_end ["self"] (sp_RowWords_draw_end t):=by
  refine T.f_RowWords_draw_end.ok0 sc_RowWords_draw_end (fun vs H Q E h=>?_) (fun cdv A outer s H vs Q E hr h=>?_)
  · obtain ⟨x,dx,wa,ws,n,rfl,_⟩:=h;rfl
  obtain ⟨x,dx,wa,ws,n,rfl,h1,q⟩:=h
  exact ⟨rd_RowWords_draw_end K t,(pss_one (ps_if (pt_cmpR op_lt (pe_fld (f:="at") (pv 0) rfl) (pe_callB call_len rfl T.b_len bt_len (pa_cons (pe_fld (f:="words") (pv 0) rfl) pa_nil)) (nomark _)) (pss_one ps_never)
      pss_nil)),rdp_RowWords_draw_end (wrF T) h1 q⟩
theorem ok_row_in (T:Txt K mg t):FnOk P w K mg base (CX1 P w) 9 t.a_row_in t.d_row_in ["text","number"] (sp_row_in t):=by
  refine T.f_row_in.ok0 sc_row_in (fun vs H Q E h=>?_) (fun cdv A outer s H vs Q E hr h=>?_)
  · obtain ⟨x,n,hd,rfl,_⟩:=h;rfl
  obtain ⟨x,n,hd,rfl,h1,h2,h3,q⟩:=h
  exact ⟨rd_row_in K t,(pss_cons (ps_set (i:=2) sc_row_in.nd rfl (Or.inl rfl) (pe_bm PySem.F.plainAttrs_str PySem.F.slot_str_split PySem.F.type_str_split mt_split (pv 0) (pa_cons (pe_str (x:=" ")) pa_nil)))
    (pss_cons (ps_if (PW.pt (pw_or (pt_cmpR op_ge (pv 1) (pe_glob rfl T.g_MOST_ROWS ⟨_,rfl⟩) (nomark _)) (pw_or1 (pt_cmpR op_gt (pe_callB call_len rfl T.b_len bt_len (pa_cons (pv 2) pa_nil)) (pe_glob rfl T.g_MOST_WORDS_reader ⟨_,rfl⟩) (nomark _))))) (pss_one ps_never)
      pss_nil)
    (pss_cons (ps_set (i:=3) sc_row_in.nd rfl (Or.inl rfl) (pe_make T.mk_RowWords (FnOk.mono (ok_RowWords_init T) (by decide)) hr rfl T.g_RowWords T.b_RowWords_init .nil pass10 (pa_cons (pv 2) (pa_cons (pv 1) pa_nil))))
    (pss_cons (ps_set (i:=4) sc_row_in.nd rfl (Or.inl rfl) (pe_call (FnOk.mono (ok_row_drawn T) (by decide)) hr rfl T.m_row_drawn T.f_row_drawn.kp T.b_row_drawn .nil pass10 (pa_cons (pv 3) pa_nil)))
    (pss_cons (ps_expr (pe_meth0 (pv 3) T.cl_RowWords T.me_RowWords_draw_end (FnOk.mono (ok_RowWords_draw_end T) (by decide)) hr T.b_RowWords_draw_end .nil pass10))
    (pss_one (ps_ret (pv 4)))))))),rdp_row_in h1 h2 h3 q⟩
theorem ok_read (T:Txt K mg t):FnOk P w K mg base (CX1 P w) 10 t.a_read t.d_read ["text"] (sp_read t):=by
  refine T.f_read.ok0 sc_read (fun vs H Q E h=>?_) (fun cdv A outer s H vs Q E hr h=>?_)
  · obtain ⟨x,ts,D,rfl,_⟩:=h;rfl
  obtain ⟨x,ts,D,rfl,h1,h2,h3,h4,h5,q⟩:=h
  exact ⟨rd_read K t,(pss_cons (ps_set (i:=1) sc_read.nd rfl (Or.inl rfl) (pe_ifExp (pt_cmpR op_ne (pv 0) (pe_str (x:="")) (nomark _)) (pe_bm PySem.F.plainAttrs_str PySem.F.slot_str_split PySem.F.type_str_split mt_split (pv 0) (pa_cons (pe_str (x:="\n")) pa_nil)) (pe_lst pa_nil)))
    (pss_cons (ps_set (i:=2) sc_read.nd rfl (Or.inl rfl) (pe_make0 T.mk_Reading (FnOk.mono (ok_Reading_init T) (by decide)) hr rfl T.g_Reading T.b_Reading_init .nil pass10))
    (pss_cons (ps_for PassesOwn.never rfl (pi_enum rfl T.b_enumerate (pa_cons (pv 1) pa_nil)) (pg_tup rfl (pgs_cons (pg_name (i:=3) sc_read.nd rfl (Or.inl rfl)) (pgs_cons (pg_name (i:=4) sc_read.nd rfl (Or.inl rfl)) pgs_nil))) (pss_one (ps_expr (pe_meth (pv 2) T.cl_Reading T.me_Reading_reads (FnOk.mono (ok_Reading_reads T) (by decide)) hr T.b_Reading_reads .nil pass10 (pa_cons (pe_call (FnOk.mono (ok_row_in T) (by decide)) hr rfl T.m_row_in T.f_row_in.kp T.b_row_in .nil pass10 (pa_cons (pv 4) (pa_cons (pv 3) pa_nil))) (pa_cons (pv 3) pa_nil))))))
    (pss_cons (ps_if (pt_cmpR (op_neNil (hu64 hr)) (pe_fld (f:="blocks") (pv 2) rfl) (pe_lst pa_nil) (nomark _)) (pss_one ps_never)
      pss_nil)
    (pss_one (ps_ret (pe_fld (f:="rows") (pv 2) rfl))))))),rdp_read (rdF T) h1 h2 h3 h4 h5 q⟩
theorem ok__law_cell_at (T:Txt K mg t):FnOk P w K mg base (CX1 P w) 1 t.a__law_cell_at t.d__law_cell_at ["script","k"] (sp__law_cell_at K):=by
  refine T.f__law_cell_at.ok0 sc__law_cell_at (fun vs H Q E h=>?_) (fun cdv A outer s H vs Q E hr h=>?_)
  · obtain ⟨a,ns,k,rfl,_⟩:=h;rfl
  obtain ⟨a,ns,k,rfl,hS,hl,q⟩:=h
  exact ⟨rd__law_cell_at K t,(pss_cons (ps_if (pt_cmpR op_lt (pv 1) (pe_callB call_len rfl T.b_len bt_len (pa_cons (pv 0) pa_nil)) (nomark _)) (pss_one (ps_ret (pe_ix ix_list (pv 0) (pv 1) (fun _ _=>rfl))))
      pss_nil)
    (pss_one (ps_ret (pe_int (i:=0))))),rdp__law_cell_at hS hl q⟩
theorem ok__law_alike (T:Txt K mg t):∀ n,FnOk P w K mg base (CX1 P w) (1 + n) t.a__law_alike t.d__law_alike ["found","due"] (sp__law_alike n):=by
  intro n
  induction n with
  | zero=>exact ⟨fun vs H Q E h=>(nil__law_alike h).elim,fun A outer s H args us vs Q E hr he hb hv h=>(nil__law_alike h).elim⟩
  | succ n IH =>
  refine T.f__law_alike.ok0 sc__law_alike (k:=1 + n) (fun vs H Q E h=>?_) (fun cdv A outer s H vs Q E hr h=>?_)
  · obtain ⟨u,v,d,rfl,_⟩:=h;rfl
  obtain ⟨u,v,d,rfl,h1,h2,h3,h4,q⟩:=h
  exact ⟨rd__law_alike K t n,(pss_cons (ps_if (pt_val (pe_callB call_isiT rfl T.b_isinstance bt_isinstance (pa_cons (pv 1) (pa_cons (pe_tup (pa_cons (pe_bltn rfl T.b_list bt_list rfl) (pa_cons (pe_bltn rfl T.b_tuple bt_tuple rfl) pa_nil))) pa_nil)))) (pss_cons (ps_if (PW.pt (pw_or (pt_cmpR op_ne (pe_callB call_isi rfl T.b_isinstance bt_isinstance (pa_cons (pv 1) (pa_cons (pe_bltn rfl T.b_list bt_list rfl) pa_nil))) (pe_callB call_isi rfl T.b_isinstance bt_isinstance (pa_cons (pv 0) (pa_cons (pe_bltn rfl T.b_list bt_list rfl) pa_nil))) (nomark _)) (pw_or1 (pt_not (pt_val (pe_callB call_isiT rfl T.b_isinstance bt_isinstance (pa_cons (pv 0) (pa_cons (pe_tup (pa_cons (pe_bltn rfl T.b_list bt_list rfl) (pa_cons (pe_bltn rfl T.b_tuple bt_tuple rfl) pa_nil))) pa_nil)))))))) (pss_one (ps_ret (pe_bl (b:=false))))
      pss_nil)
    (pss_cons (ps_if (pt_cmpR op_ne (pe_callB call_len rfl T.b_len bt_len (pa_cons (pv 0) pa_nil)) (pe_callB call_len rfl T.b_len bt_len (pa_cons (pv 1) pa_nil)) (nomark _)) (pss_one (ps_ret (pe_bl (b:=false))))
      pss_nil)
    (pss_cons (ps_for PassesOwn.never rfl (pi_zipB rfl T.b_zip (pa_cons (pv 0) (pa_cons (pv 1) pa_nil))) (pg_tup rfl (pgs_cons (pg_name (i:=2) sc__law_alike.nd rfl (Or.inl rfl)) (pgs_cons (pg_name (i:=3) sc__law_alike.nd rfl (Or.inl rfl)) pgs_nil))) (pss_one (ps_if (pt_not (pt_val (pe_call (FnOk.mono IH (by lia)) hr rfl T.m__law_alike T.f__law_alike.kp T.b__law_alike .nil pass10 (pa_cons (pv 2) (pa_cons (pv 3) pa_nil))))) (pss_one (ps_ret (pe_bl (b:=false))))
      pss_nil)))
    (pss_one (ps_ret (pe_bl (b:=true)))))))
      pss_nil)
    (pss_cons (ps_if (PW.pt (pw_or (pt_val (pe_callB call_isi rfl T.b_isinstance bt_isinstance (pa_cons (pv 0) (pa_cons (pe_bltn rfl T.b_bool bt_bool rfl) pa_nil)))) (pw_or1 (pt_cmpR op_ne (pe_callB call_isi rfl T.b_isinstance bt_isinstance (pa_cons (pv 1) (pa_cons (pe_bltn rfl T.b_str bt_str rfl) pa_nil))) (pe_callB call_isi rfl T.b_isinstance bt_isinstance (pa_cons (pv 0) (pa_cons (pe_bltn rfl T.b_str bt_str rfl) pa_nil))) (nomark _))))) (pss_one (ps_ret (pe_bl (b:=false))))
      pss_nil)
    (pss_one (ps_ret (pe_and (pe_callB call_isiT rfl T.b_isinstance bt_isinstance (pa_cons (pv 0) (pa_cons (pe_tup (pa_cons (pe_bltn rfl T.b_int bt_int rfl) (pa_cons (pe_bltn rfl T.b_str bt_str rfl) pa_nil))) pa_nil))) (pe_one (pe_cmpR op_eq (pv 0) (pv 1) (nomark _)))))))),rdp__law_alike (kf K) h1 h2 h3 h4 q⟩
theorem ok__law_apart (T:Txt K mg t):FnOk P w K mg base (CX1 P w) 17 t.a__law_apart t.d__law_apart ["found","rows"] (sp__law_apart):=by
  refine T.f__law_apart.ok0 sc__law_apart (fun vs H Q E h=>?_) (fun cdv A outer s H vs Q E hr h=>?_)
  · obtain ⟨l,rw,xs,ys,os,D,H0,rfl,_⟩:=h;rfl
  obtain ⟨l,rw,xs,ys,os,D,H0,rfl,h1,h2,h3,h4,h5,h6,h7,h8,q⟩:=h
  exact ⟨rd__law_apart K t,(pss_cons (ps_for PassesOwn.never rfl (pi_range1 rfl T.b_range (pa_cons (pe_callB call_len rfl T.b_len bt_len (pa_cons (pv 0) pa_nil)) pa_nil)) (pg_name (i:=2) sc__law_apart.nd rfl (Or.inl rfl)) (pss_one (ps_if (pt_cmpR op_eq (pe_ix ix_tup (pe_ix ix_list (pv 0) (pv 2) (fun _ _=>rfl)) (pe_int (i:=0)) (fun _ _=>rfl)) (pe_str (x:="if")) (nomark _)) (pss_cons (ps_expr (pe_bm PySem.F.plainAttrs_list PySem.F.slot_list_append PySem.F.type_list_append mt_append (pe_ix ix_tup (pe_ix ix_list (pv 0) (pv 2) (fun _ _=>rfl)) (pe_int (i:=3)) (fun _ _=>rfl)) (pa_cons (pe_tup (pa_cons (pe_str (x:="say")) (pa_cons (pe_tup (pa_cons (pe_int (i:=1)) pa_nil)) pa_nil))) pa_nil)))
    (pss_cons (ps_if (PW.pt (pw_or (pt_not (pt_val (pe_call (FnOk.mono (ok__law_alike T 15) (by decide)) hr rfl T.m__law_alike T.f__law_alike.kp T.b__law_alike .nil pass10 (pa_cons (pe_ix ix_tup (pe_ix ix_list (pv 0) (pv 2) (fun _ _=>rfl)) (pe_int (i:=2)) (fun _ _=>rfl)) (pa_cons (pe_ix ix_tup (pe_ix ix_list (pv 1) (pv 2) (fun _ _=>rfl)) (pe_int (i:=2)) (fun _ _=>rfl)) pa_nil))))) (pw_or1 (pt_not (pt_val (pe_call (FnOk.mono (ok__law_alike T 15) (by decide)) hr rfl T.m__law_alike T.f__law_alike.kp T.b__law_alike .nil pass10 (pa_cons (pe_slice sl_list (pv 0) (po_some (pe_op op_add (pv 2) (pe_int (i:=1)))) po_none) (pa_cons (pe_slice sl_list (pv 1) (po_some (pe_op op_add (pv 2) (pe_int (i:=1)))) po_none) pa_nil)))))))) (pss_one (ps_ret (pe_bl (b:=false))))
      pss_nil)
    (pss_one (ps_expr (pe_bm0 PySem.F.plainAttrs_list PySem.F.slot_list_clear PySem.F.type_list_clear mt_clear (pe_ix ix_tup (pe_ix ix_list (pv 0) (pv 2) (fun _ _=>rfl)) (pe_int (i:=2)) (fun _ _=>rfl)))))))
      pss_nil)))
    (pss_cons (ps_expr (pe_bm0 PySem.F.plainAttrs_list PySem.F.slot_list_clear PySem.F.type_list_clear mt_clear (pv 0)))
    (pss_one (ps_ret (pe_bl (b:=true)))))),rdp__law_apart h1 h2 h3 h4 h5 h6 h7 h8 q⟩
theorem ok_law (T:Txt K mg t):FnOk P w K mg base (CX1 P w) 18 t.a_law t.d_law ["script"] (sp_law K):=by
  refine T.f_law.ok0 sc_law (fun vs H Q E h=>?_) (fun cdv A outer s H vs Q E hr h=>?_)
  · obtain ⟨a,ns,rfl,_⟩:=h;rfl
  obtain ⟨a,ns,rfl,hS,hn,q⟩:=h
  exact ⟨rd_law K t,(pss_cons (ps_set (i:=1) sc_law.nd rfl (Or.inl rfl) (pe_call (FnOk.mono (ok__law_names T) (by decide)) hr rfl T.m__law_names T.f__law_names.kp T.b__law_names .nil pass10 (pa_cons (pe_call (FnOk.mono (ok__law_cell_at T) (by decide)) hr rfl T.m__law_cell_at T.f__law_cell_at.kp T.b__law_cell_at .nil pass10 (pa_cons (pv 0) (pa_cons (pe_int (i:=0)) pa_nil))) pa_nil)))
    (pss_cons (ps_asg (pe_call (FnOk.mono (ok__law_rows T) (by decide)) hr rfl T.m__law_rows T.f__law_rows.kp T.b__law_rows .nil pass10 (pa_cons (pe_slice sl_list (pv 0) (po_some (pe_int (i:=1))) (po_some (pe_int (i:=121)))) (pa_cons (pv 1) pa_nil))) (pg_tup rfl (pgs_cons (pg_name (i:=2) sc_law.nd rfl (Or.inl rfl)) (pgs_cons (pg_name (i:=3) sc_law.nd rfl (Or.inl rfl)) pgs_nil))))
    (pss_cons (ps_set (i:=4) sc_law.nd rfl (Or.inl rfl) (pe_call (FnOk.mono (ok__law_copy T 6) (by decide)) hr rfl T.m__law_copy T.f__law_copy.kp T.b__law_copy .nil pass10 (pa_cons (pv 3) pa_nil)))
    (pss_cons (ps_set (i:=5) sc_law.nd rfl (Or.inl rfl) (pe_call (FnOk.mono (ok_shown T) (by decide)) hr rfl T.m_shown T.f_shown.kp T.b_shown .nil pass10 (pa_cons (pv 4) pa_nil)))
    (pss_cons (ps_if (PW.pt (pw_or (pt_not (pt_val (pe_callB call_isi rfl T.b_isinstance bt_isinstance (pa_cons (pv 5) (pa_cons (pe_bltn rfl T.b_str bt_str rfl) pa_nil))))) (pw_or (pt_cmpR op_ne (pv 5) (pv 2) (nomark _)) (pw_or1 (pt_not (pt_val (pe_call (FnOk.mono (ok__law_alike T 15) (by decide)) hr rfl T.m__law_alike T.f__law_alike.kp T.b__law_alike .nil pass10 (pa_cons (pv 4) (pa_cons (pv 3) pa_nil))))))))) (pss_one (ps_ret (pe_bl (b:=false))))
      pss_nil)
    (pss_cons (ps_set (i:=6) sc_law.nd rfl (Or.inl rfl) (pe_call (FnOk.mono (ok_read T) (by decide)) hr rfl T.m_read T.f_read.kp T.b_read .nil pass10 (pa_cons (pv 2) pa_nil)))
    (pss_cons (ps_if (pt_not (pt_val (pe_call (FnOk.mono (ok__law_alike T 15) (by decide)) hr rfl T.m__law_alike T.f__law_alike.kp T.b__law_alike .nil pass10 (pa_cons (pv 6) (pa_cons (pv 3) pa_nil))))) (pss_one (ps_ret (pe_bl (b:=false))))
      pss_nil)
    (pss_one (ps_ret (pe_and (pe_call (FnOk.mono (ok__law_apart T) (by decide)) hr rfl T.m__law_apart T.f__law_apart.kp T.b__law_apart .nil pass10 (pa_cons (pv 6) (pa_cons (pv 3) pa_nil))) (pe_and (pe_call (FnOk.mono (ok__law_alike T 15) (by decide)) hr rfl T.m__law_alike T.f__law_alike.kp T.b__law_alike .nil pass10 (pa_cons (pe_call (FnOk.mono (ok_read T) (by decide)) hr rfl T.m_read T.f_read.kp T.b_read .nil pass10 (pa_cons (pv 2) pa_nil)) (pa_cons (pv 3) pa_nil))) (pe_one (pe_cmpR op_eq (pe_call (FnOk.mono (ok_shown T) (by decide)) hr rfl T.m_shown T.f_shown.kp T.b_shown .nil pass10 (pa_cons (pe_call (FnOk.mono (ok__law_copy T 6) (by decide)) hr rfl T.m__law_copy T.f__law_copy.kp T.b__law_copy .nil pass10 (pa_cons (pv 3) pa_nil)) pa_nil)) (pv 2) (nomark _)))))))))))))),rdp_law hS hn q⟩
end
end K12
open PySem PySem.W PyProof.Rows
def PySem.W.Fast.tw16333267473620564137:Unit:=()
def PySem.W.Fast.tw3495604406673289822:Unit:=()
def PySem.W.Fast.tw16303093202424692831:Unit:=()
def PySem.W.Fast.tw3607208108928221673:Unit:=()
def PySem.W.Fast.tw1993452649462293411:Unit:=()
def PySem.W.Fast.tw8702516731010913065:Unit:=()
def PySem.W.Fast.tw9115228954730581225:Unit:=()
def PySem.W.Fast.tw3998215401033056710:Unit:=()
def PySem.W.Fast.tw906799153944095324:Unit:=()
def PySem.W.Fast.tw3327921965231146949:Unit:=()
def PySem.W.Fast.tw4520376959358219758:Unit:=()
def PySem.W.Fast.tw1383797538655831454:Unit:=()
def PySem.W.Fast.tw13024150826379642821:Unit:=()
def PySem.W.Fast.tw933293111411510171:Unit:=()
def PySem.W.Fast.tw15951232414827005328:Unit:=()
def PySem.W.Fast.tw8650454503117254578:Unit:=()
def PySem.W.Fast.tw11071999650630883788:Unit:=()
def PySem.W.Fast.tw8077439456667319553:Unit:=()
def PySem.W.Fast.tw892184088517783763:Unit:=()
def PySem.W.Fast.tw3544712100231295604:Unit:=()
def PySem.W.Fast.tw4566152074195855628:Unit:=()
def PySem.W.Fast.tw8903689298561454641:Unit:=()
def PySem.W.Fast.tw9578445175221522581:Unit:=()
def PySem.W.Fast.tw10495387072309433987:Unit:=()
def PySem.W.Fast.tw17730363680961215539:Unit:=()
def PySem.W.Fast.tw18403001988113916907:Unit:=()
def PySem.W.Fast.tw4946708770522065917:Unit:=()
def PySem.W.Fast.tw13250120611999912966:Unit:=()
def PySem.W.Fast.tw10649071733339029162:Unit:=()
def PySem.W.Fast.tw2640617255700365783:Unit:=()
def PySem.W.Fast.tw8400023277963211602:Unit:=()
def PySem.W.Fast.tw2607036891275333788:Unit:=()
def PySem.W.Fast.tw8383816895664142716:Unit:=()
def PySem.W.Fast.tw17039003968094867328:Unit:=()
def PySem.W.Fast.tw14963152457067170006:Unit:=()
def PySem.W.Fast.tw11327149152261328771:Unit:=()
def PySem.W.Fast.tw16257613163184560382:Unit:=()
def PySem.W.Fast.tw18088029186271866015:Unit:=()
def PySem.W.Fast.tw7455033935492091644:Unit:=()
def PySem.W.Fast.tw7877824220667326029:Unit:=()
def PySem.W.Fast.tw5909092109503927094:Unit:=()
def PySem.W.Fast.tw1467660233996134763:Unit:=()
def PySem.W.Fast.tw2845529491985607082:Unit:=()
def PySem.W.Fast.tw2091177038933891964:Unit:=()
def PySem.W.Fast.tw8478796637871961775:Unit:=()
def PySem.W.Fast.tw16346716623562493581:Unit:=()
def PySem.W.Fast.tw11016280213345925029:Unit:=()
def PySem.W.Fast.tw11792226896615566703:Unit:=()
def PySem.W.Fast.tw13215640604972831328:Unit:=()
def PySem.W.Fast.tw12838976392308861773:Unit:=()
def PySem.W.Fast.tw3428277642979353115:Unit:=()
def PySem.W.Fast.tw4321064633170567522:Unit:=()
def PySem.W.Fast.tw8844059901781295620:Unit:=()
def PySem.W.Fast.tw10663263973483229429:Unit:=()
def PySem.W.Fast.tw10025741408094088031:Unit:=()
def PySem.W.Fast.tw8259671901353636371:Unit:=()
def PySem.W.Fast.tw7257477631464204879:Unit:=()
def PySem.W.Fast.tw12322792159971614306:Unit:=()
def PySem.W.Fast.tw13654139236251578177:Unit:=()
def PySem.W.Fast.tw14828997102303056665:Unit:=()
def PySem.W.Fast.tw9917450860859272875:Unit:=()
def PySem.W.Fast.tw7186427817944962145:Unit:=()
def PySem.W.Fast.tw7356299474425967943:Unit:=()
def PySem.W.Fast.tw1502548417696694186:Unit:=()
def PySem.W.Fast.tw5255166701716510622:Unit:=()
def PySem.W.Fast.tw13500495549846928416:Unit:=()
def PySem.W.Fast.tw10249362773645399036:Unit:=()
def PySem.W.Fast.tw2685604549051717216:Unit:=()
def PySem.W.Fast.tw5576062150681709512:Unit:=()
def PySem.W.Fast.tw17271952031794408580:Unit:=()
def PySem.W.Fast.tw16787052474081444191:Unit:=()
def PySem.W.Fast.tw3729196175814127817:Unit:=()
def PySem.W.Fast.tw14214485850385962102:Unit:=()
def PySem.W.Fast.tw14721562612801160572:Unit:=()
def PySem.W.Fast.tw5412541935536623649:Unit:=()
def PySem.W.Fast.tw9198116873543089521:Unit:=()
def PySem.W.Fast.tw7853563489127607903:Unit:=()
def PySem.W.Fast.tw4403157000106949176:Unit:=()
def PySem.W.Fast.tw16662985288105502719:Unit:=()
def PySem.W.Fast.tw14790395527647607411:Unit:=()
def PySem.W.Fast.tw9793569871980384045:Unit:=()
def PySem.W.Fast.tw5481477182835193196:Unit:=()
def PySem.W.Fast.tw6145744414120515717:Unit:=()
def PySem.W.Fast.tw11409992961513682311:Unit:=()
def PySem.W.Fast.tw3393560361474831327:Unit:=()
def PySem.W.Fast.tw17507328622942133537:Unit:=()
def PySem.W.Fast.tw8855705088311791131:Unit:=()
def PySem.W.Fast.tw6885071492049214176:Unit:=()
def PySem.W.Fast.tw7959213084601581535:Unit:=()
def PySem.W.Fast.tw10703876631361082373:Unit:=()
def PySem.W.Fast.tw6982662755915656452:Unit:=()
def PySem.W.Fast.tw2170048459039033048:Unit:=()
def PySem.W.Fast.tw14496098314158990915:Unit:=()
def PySem.W.Fast.tw3424429975736824474:Unit:=()
def PySem.W.Fast.tw11536210008356380710:Unit:=()
def PySem.W.Fast.tw17666558334491134165:Unit:=()
def PySem.W.Fast.tw17435585148822741832:Unit:=()
def PySem.W.Fast.tw9709739999261292250:Unit:=()
def PySem.W.Fast.tw14508209105561740338:Unit:=()
def PySem.W.Fast.tw14109017379249657466:Unit:=()
def PySem.W.Fast.tw11605831703944866323:Unit:=()
def PySem.W.Fast.tw16160161522645166254:Unit:=()
def PySem.W.Fast.tw15849187101621182593:Unit:=()
def PySem.W.Fast.tw5765880475538771378:Unit:=()
def PySem.W.Fast.tw6184163570821344825:Unit:=()
def PySem.W.Fast.tw13389426961065538443:Unit:=()
def PySem.W.Fast.tw1075900469969932088:Unit:=()
def PySem.W.Fast.tw8525643852903381534:Unit:=()
def PySem.W.Fast.tw1181246941666896322:Unit:=()
def PySem.W.Fast.tw9359814854241263062:Unit:=()
def PySem.W.Fast.tw13072316025584453956:Unit:=()
def PySem.W.Fast.tw6728323325593227333:Unit:=()
def PySem.W.Fast.tw17063155429198212096:Unit:=()
def PySem.W.Fast.tw7025977191415774210:Unit:=()
def PySem.W.Fast.tw5169030926850288369:Unit:=()
def PySem.W.Fast.tw1570525146535758322:Unit:=()
def PySem.W.Fast.tw233963841892535373:Unit:=()
def PySem.W.Fast.tw946936892315761965:Unit:=()
def PySem.W.Fast.tw1908592848403592302:Unit:=()
def PySem.W.Fast.tw3385178880540912593:Unit:=()
def PySem.W.Fast.tw9748723087399415305:Unit:=()
def PySem.W.Fast.tw1567008345680735814:Unit:=()
def PySem.W.Fast.tw10413028780169685491:Unit:=()
def PySem.W.Fast.tw5602474010130406850:Unit:=()
def PySem.W.Fast.tw7852810458820105934:Unit:=()
def PySem.W.Fast.tw7960289591829286528:Unit:=()
def PySem.W.Fast.tw5677998293190278806:Unit:=()
def PySem.W.Fast.tw17650045806163270590:Unit:=()
def PySem.W.Fast.tw2594372591721449179:Unit:=()
def PySem.W.Fast.tw2793057949002530698:Unit:=()
def PySem.W.Fast.tw15845740260702970205:Unit:=()
def PySem.W.Fast.tw10540014239783356230:Unit:=()
def PySem.W.Fast.tw3011977228219097240:Unit:=()
def PySem.W.Fast.tw15869918659013830176:Unit:=()
def PySem.W.Fast.tw7831447726340934183:Unit:=()
def PySem.W.Fast.tw9740563020874856025:Unit:=()
def PySem.W.Fast.tw4248713010585705861:Unit:=()
def PySem.W.Fast.tw11809425957391046962:Unit:=()
def PySem.W.Fast.tw12358941188944291747:Unit:=()
def PySem.W.Fast.tw2049881584698506707:Unit:=()
def PySem.W.Fast.tw11473119946115510471:Unit:=()
def PySem.W.Fast.tw11183291189193853783:Unit:=()
def PySem.W.Fast.tw14129476126854789642:Unit:=()
def PySem.W.Fast.tw16042357924772570435:Unit:=()
def PySem.W.Fast.tw16586287743724167151:Unit:=()
def PySem.W.Fast.tw17345350098357452341:Unit:=()
def PySem.W.Fast.tw592993368457560050:Unit:=()
def PySem.W.Fast.tw698453524426670011:Unit:=()
def PySem.W.Fast.tw963487943808598619:Unit:=()
def PySem.W.Fast.tw15035296530765725154:Unit:=()
def PySem.W.Fast.tw1594809132065771123:Unit:=()
def PySem.W.Fast.tw11390338323208592883:Unit:=()
def PySem.W.Fast.tw6401719842194102697:Unit:=()
def PySem.W.Fast.tw5822598198259660015:Unit:=()
def PySem.W.Fast.tw1240463932134202346:Unit:=()
def PySem.W.Fast.tw16189444901003087809:Unit:=()
def PySem.W.Fast.tw1485759164021656462:Unit:=()
def PySem.W.Fast.tw13734340669178388087:Unit:=()
def PySem.W.Fast.tw11015558926014267032:Unit:=()
def PySem.W.Fast.tw998853503186871455:Unit:=()
def PySem.W.Fast.tw2685725124467082713:Unit:=()
def PySem.W.Fast.tw10924212713183323162:Unit:=()
def PySem.W.Fast.tw6762761461926586590:Unit:=()
def PySem.W.Fast.tw2058815790445470445:Unit:=()
def PySem.W.Fast.tw611538713958373823:Unit:=()
def PySem.W.Fast.tw2201419040219370312:Unit:=()
def PySem.W.Fast.tw16692851389562525809:Unit:=()
def PySem.W.Fast.tw14238298604790803264:Unit:=()
def PySem.W.Fast.tw14181389166037931657:Unit:=()
def PySem.W.Fast.tw17462531868453218355:Unit:=()
def PySem.W.Fast.tw17193670007159413869:Unit:=()
def PySem.W.Fast.tw15541989572161003660:Unit:=()
def PySem.W.Fast.tw16764950534182167086:Unit:=()
def PySem.W.Fast.tw4129014942332455935:Unit:=()
def PySem.W.Fast.tw13923066777334854144:Unit:=()
def PySem.W.Fast.tw16729819528037161798:Unit:=()
def PySem.W.Fast.tw12404718342355857951:Unit:=()
def PySem.W.Fast.tw10971537545371822090:Unit:=()
def PySem.W.Fast.tw7230458783469425312:Unit:=()
def PySem.W.Fast.tw2509392246972292411:Unit:=()
def PySem.W.Fast.tw1196741813701202771:Unit:=()
def PySem.W.Fast.tw10151145518918916246:Unit:=()
def PySem.W.Fast.tw6314575261060836613:Unit:=()
def PySem.W.Fast.tw18164678809092646286:Unit:=()
def PySem.W.Fast.tw100000781354976693:Unit:=()
def PySem.W.Fast.tw10161619327685918091:Unit:=()
def PySem.W.Fast.tw7925618104799927347:Unit:=()
def PySem.W.Fast.tw17719801917601835452:Unit:=()
def PySem.W.Fast.tw9090951502029791678:Unit:=()
def PySem.W.Fast.tw3556054201057633865:Unit:=()
def PySem.W.Fast.tw5532610795979074043:Unit:=()
def PySem.W.Fast.tw11426278630596021896:Unit:=()
def PySem.W.Fast.tw16321079051839908375:Unit:=()
def PySem.W.Fast.tw17226761560302301151:Unit:=()
def PySem.W.Fast.tw3550955235258961894:Unit:=()
def PySem.W.Fast.tw12834424772548232702:Unit:=()
def PySem.W.Fast.tw16510277127361121692:Unit:=()
def PySem.W.Fast.tw6239479322419268348:Unit:=()
def PySem.W.Fast.tw1753614470508782704:Unit:=()
def PySem.W.Fast.tw15526790816742017837:Unit:=()
def PySem.W.Fast.tw2073165215781575162:Unit:=()
def PySem.W.Fast.tw9229759791778465611:Unit:=()
def PySem.W.Fast.tw8944451209883190945:Unit:=()
def PySem.W.Fast.tw13367499445872057988:Unit:=()
def PySem.W.Fast.tw16081102741390241938:Unit:=()
def PySem.W.Fast.tw13437948160268076675:Unit:=()
def PySem.W.Fast.tw245024261603614429:Unit:=()
def PySem.W.Fast.tw2190434330196314785:Unit:=()
def PySem.W.Fast.tw16564078098263731729:Unit:=()
def PySem.W.Fast.tw17103130879195152744:Unit:=()
def PySem.W.Fast.tw10435708861165233867:Unit:=()
def PySem.W.Fast.tw13368585728923836922:Unit:=()
def PySem.W.Fast.tw7172197237782200898:Unit:=()
def PySem.W.Fast.tw8502055967209493978:Unit:=()
def PySem.W.Fast.tw6789018124344949244:Unit:=()
def PySem.W.Fast.tw1465186938809068417:Unit:=()
def PySem.W.Fast.tw6360386682709075872:Unit:=()
def PySem.W.Fast.tw3414241125362680921:Unit:=()
def PySem.W.Fast.tw15918451907533126633:Unit:=()
def PySem.W.Fast.tw13504937751524472545:Unit:=()
def PySem.W.Fast.tw3486039787903372376:Unit:=()
def PySem.W.Fast.tw8456725637034688407:Unit:=()
def PySem.W.Fast.tw1478302585850856036:Unit:=()
def PySem.W.Fast.tw18254024454686494323:Unit:=()
def PySem.W.Fast.tw7447843899258752575:Unit:=()
def PySem.W.Fast.tw926768242182587485:Unit:=()
def PySem.W.Fast.tw12274882769275625750:Unit:=()
def PySem.W.Fast.tw15421213746686856526:Unit:=()
def PySem.W.Fast.tw13013825955479574277:Unit:=()
def PySem.W.Fast.tw8321097476069017066:Unit:=()
def PySem.W.Fast.tw4475644489156794897:Unit:=()
def PySem.W.Fast.tw1523064169133070832:Unit:=()
def PySem.W.Fast.tw11378191582613601765:Unit:=()
def PySem.W.Fast.tw8760502260429665107:Unit:=()
def PySem.W.Fast.tw5355240894150728435:Unit:=()
def PySem.W.Fast.tw5145061397028621992:Unit:=()
def PySem.W.Fast.tw9404355582842683966:Unit:=()
def PySem.W.Fast.tw545992908880191134:Unit:=()
def PySem.W.Fast.tw7938332789389544808:Unit:=()
def PySem.W.Fast.tw2941042557639361785:Unit:=()
def PySem.W.Fast.tw15619392325718880426:Unit:=()
def PySem.W.Fast.tw813873006379907696:Unit:=()
def PySem.W.Fast.tw16493509774384221486:Unit:=()
def PySem.W.Fast.tw617678277679054453:Unit:=()
def PySem.W.Fast.tw584287255442909596:Unit:=()
def PySem.W.Fast.tw17388521021107387315:Unit:=()
def PySem.W.Fast.tw14683682860741340971:Unit:=()
def PySem.W.Fast.tw11355220105058919021:Unit:=()
def PySem.W.Fast.tw1948061730302165086:Unit:=()
def PySem.W.Fast.tw5312325488515108308:Unit:=()
set_option maxRecDepth 100000 in
set_option maxHeartbeats 0 in
theorem PySem.Challenge.cw_forerun_k12_shown_and_read_again_holds : PySem.Challenge.rw_forerun_k12_shown_and_read_again.Holds := by
  w_on; o_law; k_head; (case hw => w_witness2)
  k_fill
  refine L2.walk_ofX (l := PySem.Challenge.rw_forerun_k12_shown_and_read_again) (n := 63) (k := 18) (x := "script") (sp := K12.sp_law) rfl (by decide) rfl ⟨rfl, by decide, by decide⟩ (fun w h Y => PySem.W.kIn_of Y) ?F ?S
  case F =>
    intro w mg fa h KX G hmg
    have T : ∃ t, K12.Txt (L2.KOf KX) mg t := by
      dsimp only [L2.KOf]
      refine' K12.txt_mk KX G ?qa0 ?ql0 ?qc0 ?qk0 ?qa1 ?ql1 ?qc1 ?qk1 ?qa2 ?ql2 ?qc2 ?qk2 ?qa3 ?ql3 ?qc3 ?qk3 ?qa4 ?ql4 ?qc4 ?qk4 ?qa5 ?ql5 ?qc5 ?qk5 ?qa6 ?ql6 ?qc6 ?qk6 ?qa7 ?ql7 ?qc7 ?qk7 ?qa8 ?ql8 ?qc8 ?qk8 ?qa9 ?ql9 ?qc9 ?qk9 ?qa10 ?ql10 ?qc10 ?qk10 ?qa11 ?ql11 ?qc11 ?qk11 ?qa12 ?ql12 ?qc12 ?qk12 ?qa13 ?ql13 ?qc13 ?qk13 ?qa14 ?ql14 ?qc14 ?qk14 ?qa15 ?ql15 ?qc15 ?qk15 ?qa16 ?ql16 ?qc16 ?qk16 ?qa17 ?qi17 ?ql17 ?qc17 ?qk17 ?qa18 ?qi18 ?ql18 ?qc18 ?qk18 ?qa19 ?qi19 ?ql19 ?qc19 ?qk19 ?qa20 ?qi20 ?ql20 ?qc20 ?qk20 ?qa21 ?qi21 ?ql21 ?qc21 ?qk21 ?qa22 ?qi22 ?ql22 ?qc22 ?qk22 ?qa23 ?qi23 ?ql23 ?qc23 ?qk23 ?qa24 ?qi24 ?ql24 ?qc24 ?qk24 ?qa25 ?ql25 ?qc25 ?qk25 ?qa26 ?qi26 ?ql26 ?qc26 ?qk26 ?qa27 ?ql27 ?qc27 ?qk27 ?qa28 ?ql28 ?qc28 ?qk28 ?qa29 ?ql29 ?qc29 ?qk29 ?qa30 ?ql30 ?qc30 ?qk30 ?qa31 ?ql31 ?qc31 ?qk31 ?qa32 ?ql32 ?qc32 ?qk32 ?qa33 ?ql33 ?qc33 ?qk33 ?qa34 ?qi34 ?ql34 ?qc34 ?qk34 ?qa35 ?qi35 ?ql35 ?qc35 ?qk35 ?qa36 ?ql36 ?qc36 ?qk36 ?qa37 ?ql37 ?qc37 ?qk37 ?qa38 ?qi38 ?ql38 ?qc38 ?qk38 ?qa39 ?ql39 ?qc39 ?qk39 ?qa40 ?ql40 ?qc40 ?qk40 ?qa41 ?ql41 ?qc41 ?qk41 ?qa42 ?ql42 ?qc42 ?qk42 ?qa43 ?ql43 ?qc43 ?qk43 ?qa44 ?ql44 ?qc44 ?qk44 ?qz0 ?qz1 ?qz2 ?qz3 ?qz4 ?qz5 ?qz6 ?qz7 ?qz8 ?qz9 ?qz10 ?qz11 ?qz12 ?qz13 ?qg0 ?qg1 ?qh1 ?qg2 ?qg3 ?qg4 ?qg5 ?qg6 ?qg7 ?qg8 ?qg9 ?qh9 ?qv0 ?qv1 ?qv2 ?qv3 ?pg2 ?pd2 ?po2 ?pe2 ?pm2_ ?pk2 ?pn2_0 ?pn2_1 ?pn2_2 ?pg3 ?pd3 ?po3 ?pe3 ?pm3_ ?pk3 ?pn3_0 ?pn3_1 ?pn3_2 ?rx0 ?ry0_0 ?ry0_1 ?ry0_2 ?ry0_3 ?ry0_4 ?ry0_5 ?ry0_6 ?ry0_7 ?rx1 ?ry1_0 ?ry1_1 ?ry1_2 ?ry1_3 ?ry1_4 ?ry1_5 ?ry1_6 ?ry1_7
      (case qv0 => k_is)
      (case qv1 => k_is)
      (case qv2 => k_is)
      (case qv3 => k_is)
      (case qa0 => k_is)
      (case ql0 => k_is)
      (case qc0 => k_is)
      (case qk0 => k_is)
      (case qa1 => k_is)
      (case ql1 => k_is)
      (case qc1 => k_is)
      (case qk1 => k_is)
      (case qa2 => k_is)
      (case ql2 => k_is)
      (case qc2 => k_is)
      (case qk2 => k_is)
      (case qa3 => k_is)
      (case ql3 => k_is)
      (case qc3 => k_is)
      (case qk3 => k_is)
      (case qa4 => k_is)
      (case ql4 => k_is)
      (case qc4 => k_is)
      (case qk4 => k_is)
      (case qa5 => k_is)
      (case ql5 => k_is)
      (case qc5 => k_is)
      (case qk5 => k_is)
      (case qa6 => k_is)
      (case ql6 => k_is)
      (case qc6 => k_is)
      (case qk6 => k_is)
      (case qa7 => k_is)
      (case ql7 => k_is)
      (case qc7 => k_is)
      (case qk7 => k_is)
      (case qa8 => k_is)
      (case ql8 => k_is)
      (case qc8 => k_is)
      (case qk8 => k_is)
      (case qa9 => k_is)
      (case ql9 => k_is)
      (case qc9 => k_is)
      (case qk9 => k_is)
      (case qa10 => k_is)
      (case ql10 => k_is)
      (case qc10 => k_is)
      (case qk10 => k_is)
      (case qa11 => k_is)
      (case ql11 => k_is)
      (case qc11 => k_is)
      (case qk11 => k_is)
      (case qa12 => k_is)
      (case ql12 => k_is)
      (case qc12 => k_is)
      (case qk12 => k_is)
      (case qa13 => k_is)
      (case ql13 => k_is)
      (case qc13 => k_is)
      (case qk13 => k_is)
      (case qa14 => k_is)
      (case ql14 => k_is)
      (case qc14 => k_is)
      (case qk14 => k_is)
      (case qa15 => k_is)
      (case ql15 => k_is)
      (case qc15 => k_is)
      (case qk15 => k_is)
      (case qa16 => k_is)
      (case ql16 => k_is)
      (case qc16 => k_is)
      (case qk16 => k_is)
      (case qa17 => k_is)
      (case qi17 => k_is)
      (case ql17 => k_is)
      (case qc17 => k_is)
      (case qk17 => k_is)
      (case qa18 => k_is)
      (case qi18 => k_is)
      (case ql18 => k_is)
      (case qc18 => k_is)
      (case qk18 => k_is)
      (case qa19 => k_is)
      (case qi19 => k_is)
      (case ql19 => k_is)
      (case qc19 => k_is)
      (case qk19 => k_is)
      (case qa20 => k_is)
      (case qi20 => k_is)
      (case ql20 => k_is)
      (case qc20 => k_is)
      (case qk20 => k_is)
      (case qa21 => k_is)
      (case qi21 => k_is)
      (case ql21 => k_is)
      (case qc21 => k_is)
      (case qk21 => k_is)
      (case qa22 => k_is)
      (case qi22 => k_is)
      (case ql22 => k_is)
      (case qc22 => k_is)
      (case qk22 => k_is)
      (case qa23 => k_is)
      (case qi23 => k_is)
      (case ql23 => k_is)
      (case qc23 => k_is)
      (case qk23 => k_is)
      (case qa24 => k_is)
      (case qi24 => k_is)
      (case ql24 => k_is)
      (case qc24 => k_is)
      (case qk24 => k_is)
      (case qa25 => k_is)
      (case ql25 => k_is)
      (case qc25 => k_is)
      (case qk25 => k_is)
      (case qa26 => k_is)
      (case qi26 => k_is)
      (case ql26 => k_is)
      (case qc26 => k_is)
      (case qk26 => k_is)
      (case qa27 => k_is)
      (case ql27 => k_is)
      (case qc27 => k_is)
      (case qk27 => k_is)
      (case qa28 => k_is)
      (case ql28 => k_is)
      (case qc28 => k_is)
      (case qk28 => k_is)
      (case qa29 => k_is)
      (case ql29 => k_is)
      (case qc29 => k_is)
      (case qk29 => k_is)
      (case qa30 => k_is)
      (case ql30 => k_is)
      (case qc30 => k_is)
      (case qk30 => k_is)
      (case qa31 => k_is)
      (case ql31 => k_is)
      (case qc31 => k_is)
      (case qk31 => k_is)
      (case qa32 => k_is)
      (case ql32 => k_is)
      (case qc32 => k_is)
      (case qk32 => k_is)
      (case qa33 => k_is)
      (case ql33 => k_is)
      (case qc33 => k_is)
      (case qk33 => k_is)
      (case qa34 => k_is)
      (case qi34 => k_is)
      (case ql34 => k_is)
      (case qc34 => k_is)
      (case qk34 => k_is)
      (case qa35 => k_is)
      (case qi35 => k_is)
      (case ql35 => k_is)
      (case qc35 => k_is)
      (case qk35 => k_is)
      (case qa36 => k_is)
      (case ql36 => k_is)
      (case qc36 => k_is)
      (case qk36 => k_is)
      (case qa37 => k_is)
      (case ql37 => k_is)
      (case qc37 => k_is)
      (case qk37 => k_is)
      (case qa38 => k_is)
      (case qi38 => k_is)
      (case ql38 => k_is)
      (case qc38 => k_is)
      (case qk38 => k_is)
      (case qa39 => k_is)
      (case ql39 => k_is)
      (case qc39 => k_is)
      (case qk39 => k_is)
      (case qa40 => k_is)
      (case ql40 => k_is)
      (case qc40 => k_is)
      (case qk40 => k_is)
      (case qa41 => k_is)
      (case ql41 => k_is)
      (case qc41 => k_is)
      (case qk41 => k_is)
      (case qa42 => k_is)
      (case ql42 => k_is)
      (case qc42 => k_is)
      (case qk42 => k_is)
      (case qa43 => k_is)
      (case ql43 => k_is)
      (case qc43 => k_is)
      (case qk43 => k_is)
      (case qa44 => k_is)
      (case ql44 => k_is)
      (case qc44 => k_is)
      (case qk44 => k_is)
      (case qz0 => k_is)
      (case qz1 => k_is)
      (case qz2 => k_is)
      (case qz3 => k_is)
      (case qz4 => k_is)
      (case qz5 => k_is)
      (case qz6 => k_is)
      (case qz7 => k_is)
      (case qz8 => k_is)
      (case qz9 => k_is)
      (case qz10 => k_is)
      (case qz11 => k_is)
      (case qz12 => k_is)
      (case qz13 => k_is)
      (case qg0 => k_is)
      (case qg1 => k_is)
      (case qh1 => k_is)
      (case qg2 => k_is)
      (case qg3 => k_is)
      (case qg4 => k_is)
      (case qg5 => k_is)
      (case qg6 => k_is)
      (case qg7 => k_is)
      (case qg8 => k_is)
      (case qg9 => k_is)
      (case qh9 => k_is)
      (case pg2 => k_is)
      (case pd2 => k_is)
      (case po2 => k_is)
      (case pe2 => k_is)
      (case pm2_ => k_is)
      (case pk2 => k_is)
      (case pn2_0 => k_is)
      (case pn2_1 => k_is)
      (case pn2_2 => k_is)
      (case pg3 => k_is)
      (case pd3 => k_is)
      (case po3 => k_is)
      (case pe3 => k_is)
      (case pm3_ => k_is)
      (case pk3 => k_is)
      (case pn3_0 => k_is)
      (case pn3_1 => k_is)
      (case pn3_2 => k_is)
      (case rx0 => k_exc)
      (case ry0_0 => k_is)
      (case ry0_1 => k_is)
      (case ry0_2 => k_is)
      (case ry0_3 => k_is)
      (case ry0_4 => k_is)
      (case ry0_5 => k_is)
      (case ry0_6 => k_is)
      (case ry0_7 => k_is)
      (case rx1 => k_exc)
      (case ry1_0 => k_is)
      (case ry1_1 => k_is)
      (case ry1_2 => k_is)
      (case ry1_3 => k_is)
      (case ry1_4 => k_is)
      (case ry1_5 => k_is)
      (case ry1_6 => k_is)
      (case ry1_7 => k_is)
    obtain ⟨t, T⟩ := T
    have e0 := hmg.symm.trans T.m_law
    cases e0
    exact ⟨_, T.w_law, fun base _ _ => K12.ok_law T⟩
  case S => exact fun K H a ns hl _ hS => ⟨a, ns, rfl, hS, hl, fun _ => rfl⟩
