import PyProof.Rows.All
import Wide.All
import OpenK.AllK
import Wide.FinOn
import Lean
import PyProof.EqAt
import PyProof.EqKinds
import PyProof.TupleCall
import PySem.Challenge.RW_forerun_k53_orders_that_keep
import KE.IntBitsLaws
import KE.KDictList
import KE.KDictOf
import KE.KEqDict
import KE.KIntText
import KE.KItemsList
import KE.KRevIter
import KE.KSortAsk
import KE.KSortTup
import KE.KSorted
import KE.KTryMore
import KE.LcSums
import PyProof.AttrMissHeap
import PyProof.Conv_int_bool
import PyProof.DictItems
import PyProof.DictKinds
import PyProof.DictWalks
import PyProof.EnumFor
import PyProof.EnumMake
import PyProof.EqKinds
import PyProof.ListIndexNeg
import PyProof.MeetsStr
import PyProof.NeKinds
import PyProof.NsDelKeeps
import PyProof.P3Eq
import PyProof.Rows.EqDataRows
import PyProof.Rows.Range3
import PyProof.StrCalls2
import PyProof.StrLaws
import PyProof.StrLawsTight
import PyProof.StrOps
import PyProof.StrOps2
import PyProof.TupleIter
import PyProof.TupleKey
import PyProof.TupleOfSeq
import PyProof.ZipIter
import Wide.ObjOpen
import Wide.RegSB
set_option Elab.async false
set_option linter.all false
set_option maxRecDepth 100000
namespace L2
open PySem PySem.Spec PyProof.Rows
abbrev Key:=Sum Int Str
def keyIs:Key→Value→Bool
  | .inl k,v=>Value.isInt k v
  | .inr x,v=>Value.isStrOf x v
def keyH (w:World):Key→Int
  | .inl k=>hashInt k
  | .inr x=>hashStr w x
theorem keyIs_shape:∀ {k:Key} {v:Value},keyIs k v=true→(∃ i t,k=Sum.inl i∧v=Value.int i t)∨(∃ x t,k=Sum.inr x∧v=Value.str x t)
  | .inl i,v,h=>by
    obtain ⟨t,e⟩:=Value.isInt_shape (k:=i) (v:=v) h
    exact .inl ⟨i,t,rfl,e⟩
  | .inr x,v,h=>by
    obtain ⟨t,e⟩:=Value.isStrOf_shape (x:=x) (v:=v) h
    exact .inr ⟨x,t,rfl,e⟩
theorem keyIs_int (i:Int) (t:Tok):keyIs (.inl i) (.int i t)=true:=by simp [keyIs,Value.isInt]
theorem keyIs_str (x:Str) (t:Tok):keyIs (.inr x) (.str x t)=true:=by simp [keyIs,Value.isStrOf]
theorem key_ll (a b:Int):decide ((Sum.inl a:Key)=Sum.inl b)=(a == b):=by
  by_cases e:a=b
  · subst e;simp
  · have h:¬ (Sum.inl a:Key)=Sum.inl b:=fun q=>e (Sum.inl.inj q)
    rw [decide_eq_false h]
    exact (beq_eq_false_iff_ne.mpr e).symm
theorem key_rr (a b:Str):decide ((Sum.inr a:Key)=Sum.inr b)=decide (a=b):=by
  by_cases e:a=b
  · subst e;simp
  · have h:¬ (Sum.inr a:Key)=Sum.inr b:=fun q=>e (Sum.inr.inj q)
    rw [decide_eq_false h,decide_eq_false e]
theorem key_lr (a:Int) (b:Str):decide ((Sum.inl a:Key)=Sum.inr b)=false:=decide_eq_false (fun q=>nomatch q)
theorem key_rl (a:Str) (b:Int):decide ((Sum.inr a:Key)=Sum.inl b)=false:=decide_eq_false (fun q=>nomatch q)
def mixKind (prog:Program) (w:World):PySem.KeyKind prog w Key where
  is:=keyIs
  hash:=keyH w
  inj:=fun v a b ha hb=>by
    rcases keyIs_shape ha with ⟨i,t,rfl,rfl⟩ | ⟨x,t,rfl,rfl⟩
    · rcases keyIs_shape hb with ⟨j,u,rfl,e⟩ | ⟨y,u,rfl,e⟩
      · injection e with e1 _;rw [e1]
      · exact nomatch e
    · rcases keyIs_shape hb with ⟨j,u,rfl,e⟩ | ⟨y,u,rfl,e⟩
      · exact nomatch e
      · injection e with e1 _;rw [e1]
  byValue:=fun k v h=>by
    rcases keyIs_shape h with ⟨i,t,rfl,rfl⟩ | ⟨x,t,rfl,rfl⟩ <;> rfl
  pyHash:=fun hv h=>by
    rcases keyIs_shape hv with ⟨i,t,rfl,rfl⟩ | ⟨x,t,rfl,rfl⟩
    · exact wpAny_pyHash_int h
    · exact wpAny_pyHash_str h
  eqBool:=fun hu hv h=>by
    rcases keyIs_shape hu with ⟨i,t,rfl,rfl⟩ | ⟨x,t,rfl,rfl⟩
    · rcases keyIs_shape hv with ⟨j,u,rfl,rfl⟩ | ⟨y,u,rfl,rfl⟩
      · rw [key_ll] at h;exact wpAny_eqBool_int h
      · rw [key_lr] at h;exact SeqAt.EqAt.int_str i t y u _ _ _ _ h
    · rcases keyIs_shape hv with ⟨j,u,rfl,rfl⟩ | ⟨y,u,rfl,rfl⟩
      · rw [key_rl] at h;exact SeqAt.EqAt.str_int x t j u _ _ _ _ h
      · rw [key_rr] at h;exact wpAny_eqBool_str h
  «strs»:=fun k x t v h=>by
    rcases keyIs_shape h with ⟨i,u,rfl,e⟩ | ⟨y,u,rfl,e⟩
    · exact nomatch e
    · injection e with e1 _
      subst e1
      cases v <;> rfl
theorem mixKind_int (prog:Program) (w:World) (i:Int) (t:Tok):(mixKind prog w).is (.inl i) (.int i t)=true:=keyIs_int i t
theorem mixKind_str (prog:Program) (w:World) (x:Str) (t:Tok):(mixKind prog w).is (.inr x) (.str x t)=true:=keyIs_str x t
end L2
namespace L2
open PySem PySem.Spec PyProof.Rows
inductive V where
  | non | bl (b:Bool) | int (i:Int) | str (x:Str) | byt (b:Array UInt8) | flt (b:UInt64) | ref (a:Addr) | ty (n:String)
  deriving DecidableEq
def RelV:V→Value→Prop
  | .non,u=>u=Value.none
  | .bl b,u=>u=Value.bool b
  | .int i,u=>∃ t,u=Value.int i t
  | .str x,u=>∃ t,u=Value.str x t
  | .byt b,u=>∃ t,u=Value.bytes b t
  | .flt b,u=>∃ t,u=Value.float b t
  | .ref a,u=>u=Value.ref a
  | .ty n,u=>u=Value.type n
abbrev Vals:List V→List Value→Prop:=Paired RelV
theorem Vals.length {xs:List V} {us:List Value} (r:Vals xs us):xs.length=us.length:=Paired.length r
theorem Vals.get:∀ {xs:List V} {us:List Value} {i:Nat} {x:V},Vals xs us→xs[i]?=some x→∃ u,us[i]?=some u∧RelV x u
  | _,_,_,_,.nil,e=>by simp at e
  | _,_,0,_,.cons r _,e=>by simp at e;subst e;exact ⟨_,rfl,r⟩
  | _,_,i + 1,x,.cons _ t,e=>by
    obtain ⟨u,h1,h2⟩:=Vals.get (i:=i) (x:=x) t (by simpa using e)
    exact ⟨u,by simpa using h1,h2⟩
theorem Vals.append:∀ {xs ys:List V} {us ws:List Value},Vals xs us→Vals ys ws→Vals (xs ++ ys) (us ++ ws)
  | _,_,_,_,.nil,s=>s
  | _,_,_,_,.cons r t,s=>.cons r (Vals.append t s)
theorem Vals.take:∀ {xs:List V} {us:List Value} (n:Nat),Vals xs us→Vals (xs.take n) (us.take n)
  | _,_,0,_=>.nil
  | _,_,_ + 1,.nil=>.nil
  | _,_,n + 1,.cons r t=>.cons r (Vals.take n t)
theorem Vals.drop:∀ {xs:List V} {us:List Value} (n:Nat),Vals xs us→Vals (xs.drop n) (us.drop n)
  | _,_,0,r=>r
  | _,_,_ + 1,.nil=>.nil
  | _,_,n + 1,.cons _ t=>Vals.drop n t
def RelO:Option V→Option Value→Prop
  | some v,some u=>RelV v u
  | none,none=>True
  | _,_=>False
def KV {κ:Type}:List (κ × V)→List (κ × Value)→Prop:=Paired fun (p:κ × V) (q:κ × Value)=>p.1=q.1∧RelV p.2 q.2
def kV:Key→V
  | .inl i=>.int i
  | .inr x=>.str x
inductive HO where
    | lst (xs:List V)
    | tup (xs:List V)
    | dK (kvs:List (Key × V)) | dT (kvs:List (List Key × V))
    | set (S:Int→Bool) (n:Nat)
    | ins (C dx:Addr) (fs:List (Str × V))
    | own (x:Addr)
    | xd (fs:List (Str × V))
    | met (f x:Addr)
    | rng (lo hi:Int)
    | frz (o:Obj) (u:HO)
    | tbl (ps:Array Value)
    | ext (φ:Heap→Prop)
abbrev Hp:=Addr→Option HO
def upd (H:Hp) (a:Addr) (o:HO):Hp:=fun b=>if b=a then some o else H b
theorem upd_same {H:Hp} {a:Addr} {o:HO}:upd H a o a=some o:=by unfold upd;rw [if_pos rfl]
theorem upd_ne {H:Hp} {a b:Addr} {o:HO} (h:b≠a):upd H a o b=H b:=by unfold upd;rw [if_neg h]
theorem upd_upd {H:Hp} {a:Addr} {o u:HO}:upd (upd H a o) a u=upd H a u:=by
  funext b;unfold upd;split <;> rfl
theorem ne_of {H:Hp} {a b:Addr} {o u:HO} (h:H a=some o) (h':H b=some u) (d:o≠u):a≠b:=by
  intro e;subst e;rw [h] at h';exact d (Option.some.inj h')
theorem ne_of_none {H:Hp} {a b:Addr} {o:HO} (h:H a=some o) (h':H b=none):a≠b:=by
  intro e;subst e;rw [h] at h';cases h'
section
variable (P:Program) (w:World)
def ObjOk (H:Hp) (h:Heap) (a:Addr):HO→Prop
  | .lst xs=>xs.length≤sizeLine∧∃ (its:List Value) (n:Nat),Vals xs its∧h.get? a=some { cls:=.type "list",data:=.seq its.toArray n }
  | .tup xs=>xs.length≤sizeLine∧∃ its:List Value,Vals xs its∧IsTup h a its.toArray
  | .dK kvs=>kvs.length≤sizeLine∧(a == sysModules)=false∧∃ vs,KV kvs vs∧h.DictOf (mixKind P w) a vs
  | .dT kvs=>kvs.length≤sizeLine∧(a == sysModules)=false∧∃ xs:List (List Key × Addr × Value),
      Paired (fun (p:List Key × V) (q:List Key × Addr × Value)=>p.1=q.1∧H q.2.1=some (.tup (p.1.map kV))∧RelV p.2 q.2.2) kvs xs ∧
      ∃ o es ep,h.get? a=some o∧o.ExactDict∧o.data=.dict es ep∧es.toList=xs.map (entryOfKey (tupleKind (mixKind P w)))∧(xs.map (·.1)).Nodup
  | .set S n=>h.SetOf (intKind P w) a S n
  | .ins C dx fs=>H dx=some (.own a)∧fs.length≤1000∧dx≠a∧h.get? a=some (PySem.W.instObj C dx) ∧
      ∃ mA,h.Ns1 dx mA∧(∀ f,RelO (fs.lookup f) (mA f))∧PySem.Within mA (fs.map (·.1))
  | .own _=>∃ o,h.get? a=some o
  | .xd fs=>∃ mA,h.Ns1 a mA∧∀ f,RelO (fs.lookup f) (mA f)
  | .rng lo hi=>∃ t u v,h.get? a=some { cls:=.type "range",data:=.fields #[.int lo t,.int hi u,.int 1 v] }
  | .frz o u=>h.get? a=some o∧ObjOk H h a u
  | .tbl ps=>h.get? a=some { cls:=.none,data:=.fields ps }
  | .met f x=>h.get? a=some (PySem.W.methodObj (.ref f) (.ref x))
  | .ext φ=>φ h∧(∃ o,h.get? a=some o)∧∀ h1 h2:Heap,φ h1→(∀ o,h1.get? a=some o→h2.get? a=some o)→φ h2
def HOk (H:Hp) (h:Heap):Prop:=∀ a o,H a=some o→ObjOk P w H h a o
end
section
variable {P:Program} {w:World} {H H':Hp} {h h':Heap} {a:Addr} {o:HO}
theorem ObjOk.lt (x:ObjOk P w H h a o):a < h.objs.size:=by
  cases o with
  | lst xs=>obtain ⟨_,_,_,_,e⟩:=x;exact Heap.lt_size e
  | tup xs=>obtain ⟨_,_,_,p⟩:=x;exact p.lt
  | dK kvs=>obtain ⟨_,_,_,_,o,_,_,e,_⟩:=x;exact Heap.lt_size e
  | dT kvs=>obtain ⟨_,_,_,_,o,_,_,e,_⟩:=x;exact Heap.lt_size e
  | set S n=>obtain ⟨o,_,_,_,e,_⟩:=x;exact Heap.lt_size e
  | ins C dx fs=>obtain ⟨_,_,_,e,_⟩:=x;exact Heap.lt_size e
  | own y=>obtain ⟨_,e⟩:=x;exact Heap.lt_size e
  | xd fs=>obtain ⟨_,⟨_,_,_,e,_⟩,_⟩:=x;exact Heap.lt_size e
  | rng lo hi=>obtain ⟨_,_,_,e⟩:=x;exact Heap.lt_size e
  | frz ob u=>obtain ⟨e,_⟩:=x;exact Heap.lt_size e
  | tbl ps=>exact Heap.lt_size (show h.get? a=some _ from x)
  | met f y=>exact Heap.lt_size (show h.get? a=some _ from x)
  | ext φ=>obtain ⟨_,⟨_,e⟩,_⟩:=x;exact Heap.lt_size e
theorem Paired.mapP {α β:Type} {F G:α→β→Prop}:∀ {l₁:List α} {l₂:List β},Paired F l₁ l₂→(∀ a b,F a b→G a b)→Paired G l₁ l₂
  | _,_,.nil,_=>.nil
  | _,_,.cons r t,f=>.cons (f _ _ r) (Paired.mapP t f)
theorem ObjOk.stay (x:ObjOk P w H h a o) (k:∀ b u,(b=a∨H b=some (.own a))→h.get? b=some u→h'.get? b=some u)
    (ho:∀ b,H b=some (.own a)→H' b=some (.own a)) (ht:∀ b xs,H b=some (.tup xs)→H' b=some (.tup xs)):ObjOk P w H' h' a o:=by
  induction o with
  | lst xs=>obtain ⟨z,its,n,r,e⟩:=x;exact ⟨z,its,n,r,k _ _ (.inl rfl) e⟩
  | tup xs=>obtain ⟨z,its,r,ob,e,c⟩:=x;exact ⟨z,its,r,ob,k _ _ (.inl rfl) e,c⟩
  | dK kvs=>obtain ⟨z,y,vs,r,ob,es,ep,e,c⟩:=x;exact ⟨z,y,vs,r,ob,es,ep,k _ _ (.inl rfl) e,c⟩
  | dT kvs =>
    obtain ⟨z,y,xs,r,ob,es,ep,e,c⟩:=x
    exact ⟨z,y,xs,Paired.mapP r fun p q z=>⟨z.1,ht _ _ z.2.1,z.2.2⟩,ob,es,ep,k _ _ (.inl rfl) e,c⟩
  | set S n=>obtain ⟨ob,es,ep,t,e,c⟩:=x;exact ⟨ob,es,ep,t,k _ _ (.inl rfl) e,c⟩
  | ins C dx fs =>
    obtain ⟨d,z,ne,e,mA,⟨od,es,ep,e2,c⟩,r⟩:=x
    exact ⟨ho _ d,z,ne,k _ _ (.inl rfl) e,mA,⟨od,es,ep,k _ _ (.inr d) e2,c⟩,r⟩
  | own y=>obtain ⟨ob,e⟩:=x;exact ⟨ob,k _ _ (.inl rfl) e⟩
  | xd fs=>obtain ⟨mA,⟨od,es,ep,e,c⟩,r⟩:=x;exact ⟨mA,⟨od,es,ep,k _ _ (.inl rfl) e,c⟩,r⟩
  | rng lo hi=>obtain ⟨t,u,v,e⟩:=x;exact ⟨t,u,v,k _ _ (.inl rfl) e⟩
  | frz ob u ih=>obtain ⟨e,q⟩:=x;exact ⟨k _ _ (.inl rfl) e,ih q⟩
  | tbl ps =>
    have e:h.get? a=some { cls:=.none,data:=.fields ps }:=x
    show h'.get? a=some { cls:=.none,data:=.fields ps }
    exact k a _ (.inl rfl) e
  | met f y =>
    have e:h.get? a=some (PySem.W.methodObj (.ref f) (.ref y)):=x
    show h'.get? a=some (PySem.W.methodObj (.ref f) (.ref y))
    exact k a _ (.inl rfl) e
  | ext φ=>obtain ⟨p,⟨o,e⟩,st⟩:=x;exact ⟨st _ _ p fun o q=>k _ _ (.inl rfl) q,⟨o,k _ _ (.inl rfl) e⟩,st⟩
theorem HOk.lt (x:HOk P w H h) (e:H a=some o):a < h.objs.size:=(x a o e).lt
theorem HOk.fresh (x:HOk P w H h) (e:h.objs.size≤a):H a=none:=by
  cases q:H a with
  | none=>rfl
  | some u=>exact absurd (Nat.lt_of_lt_of_le (x.lt q) e) (Nat.lt_irrefl _)
theorem HOk.kept (x:HOk P w H h) (k:∀ b u,h.get? b=some u→h'.get? b=some u):HOk P w H h':=fun a o e =>
  (x a o e).stay (fun b u _ q=>k b u q) (fun _ q=>q) fun _ _ q=>q
theorem HOk.laid (x:HOk P w H h) (k:∀ b u,h.get? b=some u→h'.get? b=some u) (hp:h.objs.size≤a) (new:ObjOk P w (upd H a o) h' a o):HOk P w (upd H a o) h':=fun b u e=>by
  have hn:=x.fresh hp
  by_cases hb:b=a
  · subst hb;rw [upd_same] at e;cases e;exact new
  · rw [upd_ne hb] at e
    exact (x b u e).stay (fun c v _ q=>k c v q) (fun c q=>by rw [upd_ne (ne_of_none q hn)];exact q) fun c xs q=>by rw [upd_ne (ne_of_none q hn)];exact q
end
def Rd (H:Hp) (a:Addr) (u:HO):Prop:=H a=some u∨∃ o,H a=some (.frz o u)
theorem Rd.ok {P:Program} {w:World} {H:Hp} {h:Heap} {a:Addr} {u:HO} (r:Rd H a u) (x:HOk P w H h):ObjOk P w H h a u:=by
  rcases r with r | ⟨o,r⟩
  · exact x a u r
  · obtain ⟨_,q⟩:=x a _ r
    exact q
def Mut:Option HO→Prop
  | some (.lst _)=>True
  | some (.dK _)=>True
  | some (.dT _)=>True
  | some (.set _ _)=>True
  | some (.ins _ _ _)=>True
  | some (.ext _)=>True
  | _=>False
section
variable {P:Program} {w:World} {H:Hp} {h h':Heap} {x e:Addr} {o':HO}
theorem HOk.write (ok:HOk P w H h) (mu:Mut (H x)) (he:e=x∨H e=some (.own x)) (k:∀ b u,b≠e→h.get? b=some u→h'.get? b=some u) (heo:∃ u,h'.get? e=some u)
    (new:ObjOk P w (upd H x o') h' x o'):HOk P w (upd H x o') h':=fun b u q=>by
  have nown:∀ c y,H c=some (.own y)→c≠x:=fun c y r z=>by subst z;rw [r] at mu;exact mu
  have ntup:∀ c xs,H c=some (.tup xs)→c≠x:=fun c xs r z=>by subst z;rw [r] at mu;exact mu
  by_cases hb:b=x
  · subst hb;rw [upd_same] at q;cases q;exact new
  · rw [upd_ne hb] at q
    by_cases hbe:b=e
    · have q':H b=some (.own x):=by
        rcases he with z | z
        · exact absurd (hbe.trans z) hb
        · rw [hbe];exact z
      rw [q] at q';cases q'
      obtain ⟨v,hv⟩:=heo
      exact ⟨v,by rw [hbe];exact hv⟩
    · refine (ok b u q).stay (fun c v hc r=>k c v ?_ r) (fun c r=>by rw [upd_ne (nown c b r)];exact r) fun c xs r=>by rw [upd_ne (ntup c xs r)];exact r
      rcases hc with rfl | hc
      · exact hbe
      · rintro rfl
        rcases he with z | z
        · exact nown c b hc z
        · rw [hc] at z;cases z;exact hb rfl
end
structure Un (fs ex:List Addr) (H H':Hp) (h h':Heap):Prop where
  keep:∀ b o,h.get? b=some o→H b=none→b ∉ fs→b ∉ ex→h'.get? b=some o
  slot:∀ b o,h.get? b=some o→H b=none→b∈fs→b ∉ ex→∃ sl,h'.get? b=some { o with slots:=sl }
  free:∀ b o,h.get? b=some o→H b=none→b ∉ ex→H' b=none
  there:∀ b o,h.get? b=some o→b ∉ ex→∃ o',h'.get? b=some o'
  tups:∀ b xs,H b=some (.tup xs)→H' b=some (.tup xs)
  frzs:∀ b o u,H b=some (.frz o u)→H' b=some (.frz o u)
  tbls:∀ b ps,H b=some (.tbl ps)→∃ more,H' b=some (.tbl (ps ++ more))
section
variable {fs fs' ex ex':List Addr} {H H1 H2:Hp} {h h1 h2 h':Heap} {a x e:Addr} {o:HO}
theorem Un.any (u:Un fs ex H H1 h h1) {b:Addr} {ob:Obj} (q:h.get? b=some ob) (n:H b=none) (hx:b ∉ ex):∃ sl,h1.get? b=some { ob with slots:=sl }:=by
  by_cases hb:b∈fs
  · exact u.slot b ob q n hb hx
  · exact ⟨ob.slots,u.keep b ob q n hb hx⟩
theorem Un.kept (k:∀ b u,h.get? b=some u→h'.get? b=some u):Un fs ex H H h h' :=
  ⟨fun b ob q _ _ _=>k b ob q,fun b ob q _ _ _=>⟨ob.slots,k b ob q⟩,fun _ _ _ n _=>n,fun b ob q _=>⟨ob,k b ob q⟩,fun _ _ q=>q,fun _ _ _ q=>q,fun _ ps q=>⟨#[],by rw [q];simp⟩⟩
theorem Un.refl:Un fs ex H H h h:=Un.kept fun _ _ q=>q
theorem Un.laid (k:∀ b u,h.get? b=some u→h'.get? b=some u) (hp:h.objs.size≤a) (hn:H a=none):Un fs ex H (upd H a o) h h' where
  keep:=fun b u q _ _ _=>k b u q
  slot:=fun b u q _ _ _=>⟨u.slots,k b u q⟩
  free:=fun b u q n _=>by rw [upd_ne (Nat.ne_of_lt (Nat.lt_of_lt_of_le (Heap.lt_size q) hp))];exact n
  there:=fun b u q _=>⟨u,k b u q⟩
  tups:=fun b xs q=>by rw [upd_ne (ne_of_none q hn)];exact q
  frzs:=fun b u xs q=>by rw [upd_ne (ne_of_none q hn)];exact q
  tbls:=fun b ps q=>⟨#[],by rw [upd_ne (ne_of_none q hn),q];simp⟩
theorem Un.write (mu:Mut (H x)) (he:e=x∨H e=some (.own x)) (k:∀ b u,b≠e→h.get? b=some u→h'.get? b=some u) (heo:∃ u,h'.get? e=some u):Un fs ex H (upd H x o) h h':=by
  have hx:∀ b,H b=none→b≠x:=fun b n z=>by subst z;rw [n] at mu;exact mu
  have hb:∀ b,H b=none→b≠e:=fun b n z=>by
    subst z
    rcases he with r | r
    · exact hx b n r
    · rw [n] at r;cases r
  have hm:∀ b u,H b=some u→¬ Mut (some u)→b≠x:=fun b u q nm z=>by subst z;rw [q] at mu;exact nm mu
  refine ⟨fun b u q n _ _=>k b u (hb b n) q,fun b u q n _ _=>⟨u.slots,k b u (hb b n) q⟩,fun b u q n _=>by rw [upd_ne (hx b n)];exact n,fun b u q _=>?_,
    fun b xs q=>by rw [upd_ne (hm b _ q fun z=>z)];exact q,fun b u xs q=>by rw [upd_ne (hm b _ q fun z=>z)];exact q,fun b ps q=>⟨#[],by rw [upd_ne (hm b _ q fun z=>z),q];simp⟩⟩
  by_cases hbe:b=e
  · subst hbe;exact heo
  · exact ⟨u,k b u hbe q⟩
end
def trk (h:Heap) (H:Hp):List Addr:=(List.range h.objs.size).filter fun a=>(H a).isSome
def hidT (h:Heap) (H:Hp):Heap:=PySem.W.hideAll h (trk h H)
theorem hidT_size (h:Heap) (H:Hp):(hidT h H).objs.size=h.objs.size:=PySem.W.hideAll_size _ _
theorem hidT_get {h:Heap} {H:Hp} {b:Addr} {o:Obj} (e:h.get? b=some o) (n:H b=none):(hidT h H).get? b=some o :=
  PySem.W.hideAll_get _ e fun hm=>by
    have q:(H b).isSome=true:=(List.mem_filter.mp hm).2
    rw [n] at q;simp at q
theorem of_hidT {h:Heap} {H:Hp} {b:Addr} {o:Obj} (e:(hidT h H).get? b=some o):h.get? b=some o∧H b=none:=by
  have e':h.get? b=some o:=PySem.W.of_hideAll (trk h H) e
  refine ⟨e',?_⟩
  cases q:H b with
  | none=>rfl
  | some x =>
    have hm:b∈trk h H:=List.mem_filter.mpr ⟨List.mem_range.mpr (Heap.lt_size e'),by simp [q]⟩
    have z:(hidT h H).get? b=none:=PySem.W.hideAll_none (trk h H) hm
    rw [z] at e;cases e
def allNews (g h:Heap) (L:Addr):List (Addr × Obj):=(List.range h.objs.size).filterMap fun a=>if a=L∨(g.get? a).isSome=true then none else (h.get? a).map fun o=>(a,o)
def rest (g h:Heap) (L d:Addr):List (Addr × Obj):=(allNews g h L).filter fun p=>decide (p.1≠d)
end L2
namespace L2
open PySem PySem.Spec PyProof.Rows
structure Mod (K:PySem.W.Frag) (mg:Str→Option Value) (base:Heap):Prop where
  kin:K.In base
  glob:base.Ns mainGlobals mg
  blt:∃ mb,base.Ns builtinsNs mb∧∀ x:Str,x≠"__name__"→mb x=bootBuiltins x
  nolimit:base.NoLimit
set_option genSizeOf false in
set_option genInjectivity false in
structure Cx where
  prog:Program
  w:World
  K:PySem.W.Frag
  mg:Str→Option Value
  base:Heap
  A:Around
  N:List Str
  s₀:Shared
  H₀:Hp
  env:Env
  outer:List Env
  stack:List Env
  ex:List Addr
  fn:Str→Bool
  calm:Bool
  pn:List (Addr × Obj)
  xe:Value→Shared→Prop
def frs (l:List Env):List Addr:=l.filterMap (·.frame)
abbrev Cx.fs (X:Cx):List Addr:=frs X.outer
def Vis (sc:Scope) (x:Str):Prop:=sc.names.lookup x=some .local∨sc.names.lookup x=some .cell∨sc.names.lookup x=some .free
def Loc (sc:Scope) (x:Str):Prop:=sc.names.lookup x=some .local∨sc.names.lookup x=some .cell
def Look (env:Env) (h:Heap) (m:Str→Option Value) (x:Str) (u:Value):Prop :=
  (env.kindOf x=some .local∧m x=some u)∨((env.kindOf x=some .cell∨env.kindOf x=some .free)∧∃ c,env.cells.lookup x=some c∧h.IsCell c (some u))
structure Cx.Ok (X:Cx):Prop where
  mod:Mod X.K X.mg X.base
  kind:X.env.scope.kind=.function
  glob:X.env.globals=mainGlobals
  blt:X.env.builtins=builtinsNs
  above:X.s₀.heap.objs.size≤X.env.locals
  inj:∀ x y c,X.env.cells.lookup x=some c→X.env.cells.lookup y=some c→x=y
  has:∀ x,(X.env.kindOf x=some .cell∨X.env.kindOf x=some .free)→∃ c,X.env.cells.lookup x=some c
  cab:∀ x c,X.fn x=true→X.env.cells.lookup x=some c→X.s₀.heap.objs.size≤c
  hd:X.calm=true→X.A.handled=none
  frames:X.A.frames=some X.stack
  stk:X.stack=X.outer∨(X.stack=X.env :: X.outer∧X.env.frame=some X.env.locals)
  exf:∀ b∈X.ex,b≠X.env.locals∧∀ x c,X.env.cells.lookup x=some c→c≠b
  bs:∀ b o,X.base.get? b=some o→X.s₀.heap.get? b=some o∧X.H₀ b=none
  bsz:X.base.objs.size≤X.s₀.heap.objs.size
  noex:∀ b o,X.base.get? b=some o→b ∉ X.ex
  exfs:∀ b∈X.ex,b ∉ X.fs
  funs:X.s₀.heap.FunFrames X.base X.outer
  frf:∀ b∈X.fs,X.H₀ b=none
structure Inv (X:Cx) (pins:List (Addr × Obj)) (σ:List (Option V)) (H:Hp) (s:Shared):Prop where
  ok:X.Ok
  os:s.os=X.s₀.os
  bare:AllBare s.gens
  base:Un X.fs X.ex X.H₀ H X.s₀.heap s.heap
  loc:∃ m,s.heap.Ns X.env.locals m∧∀ (i:Nat) (x:Str) (v:V),X.N[i]?=some x→σ[i]?=some (some v)→Vis X.env.scope x→∃ u,RelV v u∧Look X.env s.heap m x u
  cell:∀ x c,X.env.cells.lookup x=some c→∃ v,s.heap.IsCell c v
  free:H X.env.locals=none
  freeC:∀ x c,X.env.cells.lookup x=some c→H c=none
  pin:∀ p∈X.pn ++ pins,s.heap.get? p.1=some p.2∧H p.1=none∧p.1≠X.env.locals∧p.1 ∉ X.fs∧∀ v,p.2.data≠.cell v
  hok:HOk X.prog X.w H s.heap
  len:σ.length=X.N.length
section
variable {X:Cx} {pins:List (Addr × Obj)} {σ:List (Option V)} {H H':Hp} {s:Shared} {h':Heap}
theorem Cx.Ok.nofr (ok:X.Ok) {b:Addr} {o:Obj} (e:X.base.get? b=some o):b ∉ X.fs:=fun hb=>by
  have:=(ok.funs.mem hb).1
  rw [e] at this;cases this
theorem Inv.bs (I:Inv X pins σ H s):∀ b o,X.base.get? b=some o→s.heap.get? b=some o∧H b=none:=fun b o e =>
  ⟨I.base.keep b o (I.ok.bs b o e).1 (I.ok.bs b o e).2 (I.ok.nofr e) (I.ok.noex b o e),I.base.free b o (I.ok.bs b o e).1 (I.ok.bs b o e).2 (I.ok.noex b o e)⟩
theorem Inv.bk (I:Inv X pins σ H s):∀ b o,X.base.get? b=some o→s.heap.get? b=some o:=fun b o e=>(I.bs b o e).1
theorem Inv.mod (I:Inv X pins σ H s):Mod X.K X.mg X.base:=I.ok.mod
theorem Inv.kIn (I:Inv X pins σ H s):X.K.In s.heap:=I.ok.mod.kin.keeps I.bk
theorem Inv.lt (I:Inv X pins σ H s):X.env.locals < s.heap.objs.size:=let ⟨_,hn,_⟩:=I.loc;hn.lt
theorem Inv.sz (I:Inv X pins σ H s):X.s₀.heap.objs.size≤s.heap.objs.size:=Nat.le_trans I.ok.above (Nat.le_of_lt I.lt)
theorem Inv.nofs (I:Inv X pins σ H s) {a:Addr} (h:s.heap.objs.size≤a):a ∉ X.fs:=fun hb=>by
  obtain ⟨_,o,ho,_⟩:=I.ok.funs.mem hb
  exact absurd (Nat.lt_of_lt_of_le (Heap.lt_size ho) (Nat.le_trans I.sz h)) (Nat.lt_irrefl _)
theorem Inv.cne (I:Inv X pins σ H s):∀ x c,X.env.cells.lookup x=some c→c≠X.env.locals:=fun x c e z=>by
  obtain ⟨v,o,ho,hd⟩:=I.cell x c e
  obtain ⟨m,⟨o',es,ep,ho',hd',_⟩,_⟩:=I.loc
  rw [z,ho'] at ho;cases ho;rw [hd'] at hd;cases hd
theorem Inv.funs (I:Inv X pins σ H s):s.heap.FunFrames X.base X.outer:=by
  have all:∀ (l:List Env),(∀ b∈frs l,b∈X.fs)→X.s₀.heap.FunFrames X.base l→s.heap.FunFrames X.base l:=by
    intro l
    induction l with
    | nil=>intro _ _;trivial
    | cons env r ih =>
      intro hs hl
      obtain ⟨hk,⟨L,o,hf,hn,ho,hd⟩,hr⟩:=hl
      have hL:L∈X.fs:=hs L (by unfold frs;rw [List.filterMap_cons,hf];exact List.mem_cons_self)
      obtain ⟨sl,e⟩:=I.base.slot L o ho (I.ok.frf L hL) hL fun z=>I.ok.exfs L z hL
      exact ⟨hk,⟨L,_,hf,hn,e,hd⟩,ih (fun b hb=>hs b (by unfold frs;rw [List.filterMap_cons,hf];exact List.mem_cons_of_mem _ hb)) hr⟩
  exact all X.outer (fun _ hb=>hb) I.ok.funs
theorem Inv.stack (I:Inv X pins σ H s):s.heap.FunFrames X.base X.stack:=by
  rcases I.ok.stk with e | ⟨e,hf⟩
  · rw [e];exact I.funs
  · rw [e]
    obtain ⟨m,hn,_⟩:=I.loc
    refine .cons (by rw [I.ok.kind];decide) hf hn ?_ I.funs
    exact Heap.get?_none_of_le (Nat.le_trans I.ok.bsz I.ok.above)
theorem Inv.stkSub (I:Inv X pins σ H s):∀ b∈frs X.stack,b∈X.env.locals :: X.fs:=fun b hb=>by
  rcases I.ok.stk with e | ⟨e,hf⟩
  · rw [e] at hb;exact List.mem_cons_of_mem _ hb
  · rw [e] at hb
    unfold frs at hb
    rw [List.filterMap_cons,hf] at hb
    exact hb
theorem Inv.stkFree (I:Inv X pins σ H s):∀ b∈frs X.stack,H b=none:=fun b hb=>by
  rcases List.mem_cons.mp (I.stkSub b hb) with e | hb
  · rw [e];exact I.free
  · obtain ⟨_,o,ho,_⟩:=I.ok.funs.mem hb
    exact I.base.free b o ho (I.ok.frf b hb) fun z=>I.ok.exfs b z hb
theorem Inv.step {g':Array GenState} {t':Nat} {d':Drawn} {ch:List Addr} (I:Inv X pins σ H s)
    (hch:∀ b∈ch,(b∈X.ex∨X.s₀.heap.objs.size≤b)∧b≠X.env.locals∧(∀ x c,X.env.cells.lookup x=some c→c≠b)∧∀ p∈X.pn ++ pins,p.1≠b)
    (keep:∀ b o,b≠X.env.locals→b ∉ X.fs→b ∉ ch→s.heap.get? b=some o→H b=none→h'.get? b=some o)
    (slot:∀ b o,b≠X.env.locals→b∈X.fs→b ∉ ch→s.heap.get? b=some o→H b=none→∃ sl,h'.get? b=some { o with slots:=sl }) (free:∀ b o,b ∉ ch→s.heap.get? b=some o→H b=none→H' b=none)
    (there:∀ b o,b ∉ ch→s.heap.get? b=some o→∃ o',h'.get? b=some o')
    (tups:∀ b xs,H b=some (.tup xs)→H' b=some (.tup xs)) (frzs:∀ b o u,H b=some (.frz o u)→H' b=some (.frz o u)) (tbls:∀ b ps,H b=some (.tbl ps)→∃ more,H' b=some (.tbl (ps ++ more)))
    (ns:∀ m,s.heap.Ns X.env.locals m→h'.Ns X.env.locals m) (hok:HOk X.prog X.w H' h') (hg:AllBare g') :
    Inv X pins σ H' { s with heap:=h',gens:=g',drawn:=d',toks:=t' }:=by
  have neL:∀ b o,X.s₀.heap.get? b=some o→b≠X.env.locals:=fun b o e=>Nat.ne_of_lt (Nat.lt_of_lt_of_le (Heap.lt_size e) I.ok.above)
  have neC:∀ b o,X.s₀.heap.get? b=some o→b ∉ X.ex→b ∉ ch:=fun b o e hx hb=>by
    rcases (hch b hb).1 with z | z
    · exact hx z
    · exact absurd (Nat.lt_of_lt_of_le (Heap.lt_size e) z) (Nat.lt_irrefl _)
  have cellK:∀ x c,X.env.cells.lookup x=some c→∀ v,s.heap.IsCell c v→h'.IsCell c v:=fun x c e v ⟨o,ho,hd⟩=>by
    have nch:c ∉ ch:=fun z=>(hch c z).2.2.1 x c e rfl
    by_cases hc:c∈X.fs
    · obtain ⟨sl,q⟩:=slot c o (I.cne x c e) hc nch ho (I.freeC x c e)
      exact ⟨_,q,hd⟩
    · exact ⟨o,keep c o (I.cne x c e) hc nch ho (I.freeC x c e),hd⟩
  refine ⟨I.ok,I.os,hg,⟨fun b o e n hb hx=>?_,fun b o e n hb hx=>?_,fun b o e n hx=>?_,fun b o e hx=>?_,fun b xs e=>tups b xs (I.base.tups b xs e),fun b o xs e=>frzs b o xs (I.base.frzs b o xs e),fun b ps e=>?_⟩,?_,fun x c e=>?_,?_,fun x c e=>?_,fun p hp=>?_,hok,I.len⟩
  · exact keep b o (neL b o e) hb (neC b o e hx) (I.base.keep b o e n hb hx) (I.base.free b o e n hx)
  · obtain ⟨sl,e1⟩:=I.base.slot b o e n hb hx
    obtain ⟨sl',e2⟩:=slot b _ (neL b o e) hb (neC b o e hx) e1 (I.base.free b o e n hx)
    exact ⟨sl',e2⟩
  · obtain ⟨o',e1⟩:=I.base.there b o e hx
    exact free b o' (neC b o e hx) e1 (I.base.free b o e n hx)
  · obtain ⟨o',e1⟩:=I.base.there b o e hx
    exact there b o' (neC b o e hx) e1
  · obtain ⟨m1,e1⟩:=I.base.tbls b ps e
    obtain ⟨m2,e2⟩:=tbls b _ e1
    exact ⟨m1 ++ m2,by rw [e2,Array.append_assoc]⟩
  · obtain ⟨m,hn,hl⟩:=I.loc
    refine ⟨m,ns m hn,fun i x v e1 e2 e3=>?_⟩
    obtain ⟨u,r,l⟩:=hl i x v e1 e2 e3
    refine ⟨u,r,?_⟩
    rcases l with l | ⟨k,c,e,z⟩
    · exact .inl l
    · exact .inr ⟨k,c,e,cellK x c e _ z⟩
  · obtain ⟨v,z⟩:=I.cell x c e
    exact ⟨v,cellK x c e v z⟩
  · obtain ⟨m,⟨o,_,_,ho,_⟩,_⟩:=I.loc
    exact free _ o (fun z=>(hch _ z).2.1 rfl) ho I.free
  · obtain ⟨v,o,ho,hd⟩:=I.cell x c e
    exact free c o (fun z=>(hch c z).2.2.1 x c e rfl) ho (I.freeC x c e)
  · obtain ⟨e,n,ne,nf,d⟩:=I.pin p hp
    have nch:p.1 ∉ ch:=fun z=>(hch p.1 z).2.2.2 p hp rfl
    exact ⟨keep p.1 p.2 ne nf nch e n,free p.1 p.2 nch e n,ne,nf,d⟩
theorem Inv.un {t':Nat} (I:Inv X pins σ H s) (u:Un X.fs [] H H' s.heap h') (hok:HOk X.prog X.w H' h'):Inv X pins σ H' { s with heap:=h',toks:=t' }:=by
  obtain ⟨m,⟨o,es,ep,ho,r⟩,_⟩:=id I.loc
  obtain ⟨sl,hL⟩:=u.any ho I.free (by simp)
  exact I.step (g':=s.gens) (d':=s.drawn) (ch:=[]) (fun _ z=>nomatch z) (fun b o _ hb _ e n=>u.keep b o e n hb (by simp)) (fun b o _ hb _ e n=>u.slot b o e n hb (by simp)) (fun b o _ e n=>u.free b o e n (by simp)) (fun b o _ e=>u.there b o e (by simp)) u.tups u.frzs u.tbls (fun m' hm=>by
    obtain ⟨o',es',ep',ho',r'⟩:=hm
    rw [ho] at ho';cases ho'
    exact ⟨_,es',ep',hL,r'⟩) hok I.bare
theorem Inv.call {g':Array GenState} {t':Nat} {d':Drawn} {ch:List Addr} (I:Inv X pins σ H s) (u:Un (frs X.stack) ch H H' s.heap h') (hok:HOk X.prog X.w H' h') (hg:AllBare g')
    (hch:∀ b∈ch,(b∈X.ex∨X.s₀.heap.objs.size≤b)∧b≠X.env.locals∧(∀ x c,X.env.cells.lookup x=some c→c≠b)∧∀ p∈X.pn ++ pins,p.1≠b) :
    Inv X pins σ H' { s with heap:=h',gens:=g',drawn:=d',toks:=t' }:=by
  obtain ⟨m,⟨o,es,ep,ho,r⟩,_⟩:=id I.loc
  obtain ⟨sl,hL⟩:=u.any ho I.free fun z=>(hch _ z).2.1 rfl
  exact I.step (ch:=ch) hch (fun b o hL hb hc e n=>u.keep b o e n (fun z=>(List.mem_cons.mp (I.stkSub b z)).elim hL hb) hc) (fun b o _ _ hc e n=>u.any e n hc) (fun b o hc e n=>u.free b o e n hc) (fun b o hc e=>u.there b o e hc) u.tups u.frzs u.tbls (fun m' hm=>by
    obtain ⟨o',es',ep',ho',r'⟩:=hm
    rw [ho] at ho';cases ho'
    exact ⟨_,es',ep',hL,r'⟩) hok hg
theorem Inv.turned {t':Nat} {it:Addr} (I:Inv X pins σ H s) (k:∀ b o,b≠it→s.heap.get? b=some o→h'.get? b=some o) (hn:H it=none) (hL:it≠X.env.locals)
    (h1:it∈X.ex∨X.s₀.heap.objs.size≤it) (h2:∀ x c,X.env.cells.lookup x=some c→c≠it) (h3:∀ p∈X.pn ++ pins,p.1≠it):Inv X pins σ H { s with heap:=h',toks:=t' }:=by
  have nit:∀ b u,H b=some u→b≠it:=fun b u e z=>by rw [z,hn] at e;cases e
  refine I.step (g':=s.gens) (d':=s.drawn) (ch:=[it]) (fun b hb=>?_) (fun b o _ _ hc e _=>k b o (fun z=>hc (by simp [z])) e) (fun b o _ _ hc e _=>⟨o.slots,k b o (fun z=>hc (by simp [z])) e⟩) (fun _ _ _ _ n=>n)
    (fun b o hc e=>⟨o,k b o (fun z=>hc (by simp [z])) e⟩) (fun _ _ e=>e) (fun _ _ _ e=>e) (fun b ps e=>⟨#[],by rw [e];simp⟩) (fun m hm=>?_) (fun b u e=>?_) I.bare
  · have e:b=it:=by simpa using hb
    subst e
    exact ⟨h1,hL,h2,h3⟩
  · obtain ⟨o,es,ep,ho,r⟩:=hm
    exact ⟨o,es,ep,k _ o (Ne.symm hL) ho,r⟩
  · refine (I.hok b u e).stay (fun c v hc q=>k c v ?_ q) (fun _ q=>q) fun _ _ q=>q
    rcases hc with z | z
    · rw [z];exact nit b u e
    · exact nit c _ z
theorem Inv.tok (I:Inv X pins σ H s) (t:Nat):Inv X pins σ H { s with toks:=t }:=I.un (h':=s.heap) (t':=t) Un.refl I.hok
theorem Inv.kept {t':Nat} (I:Inv X pins σ H s) (k:∀ b u,s.heap.get? b=some u→h'.get? b=some u):Inv X pins σ H { s with heap:=h',toks:=t' }:=I.un (Un.kept k) (I.hok.kept k)
theorem Inv.laid {a:Addr} {o:HO} {t':Nat} (I:Inv X pins σ H s) (k:∀ b u,s.heap.get? b=some u→h'.get? b=some u) (hp:s.heap.objs.size≤a) (new:ObjOk X.prog X.w (upd H a o) h' a o) :
    Inv X pins σ (upd H a o) { s with heap:=h',toks:=t' }:=I.un (Un.laid k hp (I.hok.fresh hp)) (I.hok.laid k hp new)
theorem Inv.write {x e:Addr} {o:HO} {t':Nat} (I:Inv X pins σ H s) (mu:Mut (H x)) (he:e=x∨H e=some (.own x)) (k:∀ b u,b≠e→s.heap.get? b=some u→h'.get? b=some u) (heo:∃ u,h'.get? e=some u)
    (new:ObjOk X.prog X.w (upd H x o) h' x o):Inv X pins σ (upd H x o) { s with heap:=h',toks:=t' }:=I.un (Un.write mu he k heo) (I.hok.write mu he k heo new)
theorem Inv.pins_of {pins':List (Addr × Obj)} (I:Inv X pins σ H s) (h:∀ p∈pins',s.heap.get? p.1=some p.2∧H p.1=none∧p.1≠X.env.locals∧p.1 ∉ X.fs∧∀ v,p.2.data≠.cell v):Inv X pins' σ H s :=
  ⟨I.ok,I.os,I.bare,I.base,I.loc,I.cell,I.free,I.freeC,fun p hp=>(List.mem_append.mp hp).elim (fun z=>I.pin p (List.mem_append_left _ z)) (h p),I.hok,I.len⟩
theorem nodup_ix {N:List Str} (hN:N.Nodup) {i j:Nat} {x:Str} (a:N[i]?=some x) (b:N[j]?=some x):i=j:=by
  obtain ⟨h1,e1⟩:=List.getElem?_eq_some_iff.mp a
  obtain ⟨h2,e2⟩:=List.getElem?_eq_some_iff.mp b
  exact (List.getElem_inj hN).mp (e1.trans e2.symm)
theorem store_ok2 {M:Model} {A:Around} {E:Value→Shared→Prop} {i:Nat} {x:Str} {v:V} {u:Value} {Q:Unit→Shared→Prop} (I:Inv X pins σ H s) (hN:X.N.Nodup) (hi:X.N[i]?=some x) (hx:Loc X.env.scope x) (r:RelV v u)
    (h:∀ s',Inv X pins (σ.set i (some v)) H s'→(∃ a,Heap.SameBut a s.heap s'.heap∧(a=X.env.locals∨X.env.cells.lookup x=some a))→Q () s') (hf:X.fn x=true∨X.env.scope.names.lookup x=some .local:=by first | exact .inl rfl | exact .inr rfl | assumption):wpAny M A (storeName X.env x u) Q E s:=by
  obtain ⟨m,hn,hl⟩:=id I.loc
  have hcls:(X.env.scope.kind == .class || (X.env.scope.kind == .module && X.env.locals != X.env.globals))=false:=by rw [I.ok.kind];rfl
  have hiσ:i < σ.length:=by rw [I.len];exact (List.getElem?_eq_some_iff.mp hi).1
  have cne:=I.cne
  have tracked:∀ {a:Addr} {h':Heap},(∃ o,s.heap.get? a=some o∧H a=none)→Heap.SameBut a s.heap h'→HOk X.prog X.w H h':=fun {a h'} ha hs b ob e=>by
    obtain ⟨_,_,hfree⟩:=ha
    refine (I.hok b ob e).stay (fun c w' hc q=>(hs.2 c ?_).trans q) (fun _ q=>q) fun _ _ q=>q
    rintro rfl
    rcases hc with rfl | hc
    · rw [hfree] at e;cases e
    · rw [hfree] at hc;cases hc
  rcases hx with hk | hk
  · refine wpAny_storeName_local hk hn (fun h' hn' hs=>?_) hcls
    obtain ⟨oL,_,_,hoL,_⟩:=id hn
    refine h _ ⟨I.ok,I.os,I.bare,⟨fun b o e n hb hx=>?_,fun b o e n hb hx=>?_,I.base.free,fun b o e hx=>?_,I.base.tups,I.base.frzs,I.base.tbls⟩,⟨_,hn',fun j y v' e1 e2 e3=>?_⟩,fun y c e=>?_,I.free,I.freeC,fun p hp=>?_,tracked ⟨oL,hoL,I.free⟩ hs,by simpa using I.len⟩ ⟨_,hs,.inl rfl⟩
    · exact (hs.2 b (Nat.ne_of_lt (Nat.lt_of_lt_of_le (Heap.lt_size e) I.ok.above))).trans (I.base.keep b o e n hb hx)
    · obtain ⟨sl,e1⟩:=I.base.slot b o e n hb hx
      exact ⟨sl,(hs.2 b (Nat.ne_of_lt (Nat.lt_of_lt_of_le (Heap.lt_size e) I.ok.above))).trans e1⟩
    · obtain ⟨o',e1⟩:=I.base.there b o e hx
      exact ⟨o',(hs.2 b (Nat.ne_of_lt (Nat.lt_of_lt_of_le (Heap.lt_size e) I.ok.above))).trans e1⟩
    · by_cases hj:j=i
      · subst hj
        rw [hi] at e1;cases e1
        rw [List.getElem?_set_self hiσ] at e2
        cases e2
        exact ⟨u,r,.inl ⟨hk,by simp⟩⟩
      · rw [List.getElem?_set_ne (Ne.symm hj)] at e2
        obtain ⟨u',r',q⟩:=hl j y v' e1 e2 e3
        refine ⟨u',r',?_⟩
        rcases q with ⟨k,e⟩ | ⟨k,c,e,z⟩
        · refine .inl ⟨k,?_⟩
          have:y≠x:=fun e=>hj (nodup_ix hN e1 (e ▸ hi))
          simp [this,e]
        · exact .inr ⟨k,c,e,z.sameBut hs (cne y c e)⟩
    · obtain ⟨w',z⟩:=I.cell y c e
      exact ⟨w',z.sameBut hs (cne y c e)⟩
    · obtain ⟨e,n,ne,nf,d⟩:=I.pin p hp
      exact ⟨(hs.2 p.1 ne).trans e,n,ne,nf,d⟩
  · have hfn:X.fn x=true:=by
      rcases hf with z | z
      · exact z
      · rw [z] at hk;cases hk
    obtain ⟨c,hc⟩:=I.ok.has x (.inl hk)
    obtain ⟨w',z⟩:=I.cell x c hc
    refine wpAny_storeName_cell I.ok.kind hk hc z (fun h' hc' hs=>?_)
    obtain ⟨oc,hoc,hocd⟩:=id z
    refine h { s with heap:=h' } ⟨I.ok,I.os,I.bare,⟨fun b o e n hb hx=>?_,fun b o e n hb hx=>?_,I.base.free,fun b o e hx=>?_,I.base.tups,I.base.frzs,I.base.tbls⟩,⟨m,hn.sameBut hs (Ne.symm (cne x c hc)),fun j y v' e1 e2 e3=>?_⟩,fun y c' e=>?_,I.free,I.freeC,fun p hp=>?_,tracked ⟨oc,hoc,I.freeC x c hc⟩ hs,by simpa using I.len⟩ ⟨c,hs,.inr hc⟩
    · exact (hs.2 b (Nat.ne_of_lt (Nat.lt_of_lt_of_le (Heap.lt_size e) (I.ok.cab x c hfn hc)))).trans (I.base.keep b o e n hb hx)
    · obtain ⟨sl,e1⟩:=I.base.slot b o e n hb hx
      exact ⟨sl,(hs.2 b (Nat.ne_of_lt (Nat.lt_of_lt_of_le (Heap.lt_size e) (I.ok.cab x c hfn hc)))).trans e1⟩
    · obtain ⟨o',e1⟩:=I.base.there b o e hx
      exact ⟨o',(hs.2 b (Nat.ne_of_lt (Nat.lt_of_lt_of_le (Heap.lt_size e) (I.ok.cab x c hfn hc)))).trans e1⟩
    · by_cases hj:j=i
      · subst hj
        rw [hi] at e1;cases e1
        rw [List.getElem?_set_self hiσ] at e2
        cases e2
        exact ⟨u,r,.inr ⟨.inl hk,c,hc,hc'⟩⟩
      · rw [List.getElem?_set_ne (Ne.symm hj)] at e2
        obtain ⟨u',r',q⟩:=hl j y v' e1 e2 e3
        refine ⟨u',r',?_⟩
        rcases q with q | ⟨k,c',e,z'⟩
        · exact .inl q
        · refine .inr ⟨k,c',e,z'.sameBut hs ?_⟩
          rintro rfl
          exact hj (nodup_ix hN e1 (I.ok.inj _ _ _ e hc ▸ hi))
    · by_cases hcc:c'=c
      · subst hcc;exact ⟨_,hc'⟩
      · obtain ⟨w2,z2⟩:=I.cell y c' e
        exact ⟨w2,z2.sameBut hs hcc⟩
    · obtain ⟨e,n,ne,nf,d⟩:=I.pin p hp
      refine ⟨(hs.2 p.1 ?_).trans e,n,ne,nf,d⟩
      intro q
      rw [q,hoc] at e
      have q':oc=p.2:=Option.some.inj e
      exact d w' (by rw [← q'];exact hocd)
theorem store_ok {M:Model} {A:Around} {E:Value→Shared→Prop} {i:Nat} {x:Str} {v:V} {u:Value} {Q:Unit→Shared→Prop} (I:Inv X pins σ H s) (hN:X.N.Nodup) (hi:X.N[i]?=some x) (hx:Loc X.env.scope x) (r:RelV v u)
    (h:∀ s',Inv X pins (σ.set i (some v)) H s'→Q () s') (hf:X.fn x=true∨X.env.scope.names.lookup x=some .local:=by first | exact .inl rfl | exact .inr rfl | assumption):wpAny M A (storeName X.env x u) Q E s :=
  store_ok2 I hN hi hx r (fun s' I' _=>h s' I') hf
theorem Inv.call' {s':Shared} {ch:List Addr} (I:Inv X pins σ H s) (ho:s'.os=s.os) (u:Un (frs X.stack) ch H H' s.heap s'.heap) (hok:HOk X.prog X.w H' s'.heap) (hg:AllBare s'.gens)
    (hch:∀ b∈ch,(b∈X.ex∨X.s₀.heap.objs.size≤b)∧b≠X.env.locals∧(∀ x c,X.env.cells.lookup x=some c→c≠b)∧∀ p∈X.pn ++ pins,p.1≠b):Inv X pins σ H' s':=by
  obtain ⟨h',g',d',t',o'⟩:=s'
  have e:o'=s.os:=ho
  subst e
  exact I.call (g':=g') (t':=t') (d':=d') u hok hg hch
end
abbrev XK:=Value→Option Addr→Hp→Prop
abbrev St:=List (Option V)
abbrev VK:=V→Hp→Prop
abbrev TE:=St→Hp→VK→Prop
abbrev TT:=St→Hp→(Bool→Hp→Prop)→Prop
abbrev TA:=St→Hp→(List V→Hp→Prop)→Prop
set_option genSizeOf false in
set_option genInjectivity false in
structure Ends where
  nx:St→Hp→Prop
  rt:VK
  bk:St→Hp→Prop:=fun _ _=>False
  ct:St→Hp→Prop:=fun _ _=>False
abbrev TS:=Ends→St→Hp→Prop
def EP (X:Cx) (pins:List (Addr × Obj)) (σ:St) (Q:VK) (u:Value) (s':Shared):Prop:=∃ v H',Inv X pins σ H' s'∧RelV v u∧Q v H'
def TP (X:Cx) (pins:List (Addr × Obj)) (σ:St) (Q:Bool→Hp→Prop) (b:Bool) (s':Shared):Prop:=∃ H',Inv X pins σ H' s'∧Q b H'
def AP (X:Cx) (pins:List (Addr × Obj)) (σ:St) (Q:List V→Hp→Prop) (us:List Value) (s':Shared):Prop:=∃ vs H',Inv X pins σ H' s'∧Vals vs us∧Q vs H'
def SP (X:Cx) (pins:List (Addr × Obj)) (D:Ends) (f:Flow) (s':Shared):Prop :=
  match f with
  | .next=>∃ σ' H',Inv X pins σ' H' s'∧D.nx σ' H'
  | .brk=>∃ σ' H',Inv X pins σ' H' s'∧D.bk σ' H'
  | .cont=>∃ σ' H',Inv X pins σ' H' s'∧D.ct σ' H'
  | .ret u=>∃ v σ' H',Inv X pins σ' H' s'∧RelV v u∧D.rt v H'
def PE (X:Cx) (e:Expr) (t:TE):Prop :=
  ∀ (pins:List (Addr × Obj)) (s:Shared) (σ:St) (H:Hp) (Q:VK),Inv X pins σ H s→t σ H Q→wpAny (model X.prog X.w) X.A (eval e X.env) (EP X pins σ Q) X.xe s
def PT (X:Cx) (e:Expr) (t:TT):Prop :=
  ∀ (pins:List (Addr × Obj)) (s:Shared) (σ:St) (H:Hp) (Q:Bool→Hp→Prop),Inv X pins σ H s→t σ H Q→wpAny (model X.prog X.w) X.A (isTrue e X.env (eval e X.env)) (TP X pins σ Q) X.xe s
def PW (X:Cx) (e:Expr) (t:TT):Prop :=
  ∀ (whole:Sem Value) (pins:List (Addr × Obj)) (s:Shared) (σ:St) (H:Hp) (Q:Bool→Hp→Prop),Inv X pins σ H s→t σ H Q→wpAny (model X.prog X.w) X.A (isTrue e X.env whole) (TP X pins σ Q) X.xe s
theorem PW.pt {X:Cx} {e:Expr} {t:TT} (h:PW X e t):PT X e t:=h _
def PA (X:Cx) (es:List Expr) (t:TA):Prop :=
  ∀ (pos:Pos) (pins:List (Addr × Obj)) (s:Shared) (σ:St) (H:Hp) (Q:List V→Hp→Prop),Inv X pins σ H s→t σ H Q→wpAny (model X.prog X.w) X.A (spliced (backTo pos (starEach es X.env))) (AP X pins σ Q) X.xe s
def PS (X:Cx) (st:Stmt) (t:TS):Prop :=
  ∀ (pins:List (Addr × Obj)) (s:Shared) (σ:St) (H:Hp) (D:Ends),Inv X pins σ H s→t D σ H→wpAny (model X.prog X.w) X.A (exec st X.env) (SP X pins D) X.xe s
def PSs (X:Cx) (st:List Stmt) (t:TS):Prop :=
  ∀ (pins:List (Addr × Obj)) (s:Shared) (σ:St) (H:Hp) (D:Ends),Inv X pins σ H s→t D σ H→wpAny (model X.prog X.w) X.A (execs st X.env) (SP X pins D) X.xe s
theorem thn {α:Type} {t:Sem α} {Q Q':α→Shared→Prop} {M:Model} {A:Around} {E:Value→Shared→Prop} {s:Shared} (h:wpAny M A t Q E s) (hQ:∀ a s,Q a s→Q' a s):wpAny M A t Q' E s:=wpAny_mono h hQ fun _ _ x=>x
end L2
namespace L2
open PySem PySem.Spec PyProof.Rows
section
variable {X:Cx}
def tVar (i:Nat):TE:=fun σ H Q=>∃ v,σ[i]?=some (some v)∧Q v H
def tC (v:V):TE:=fun _ H Q=>Q v H
theorem pe_var {i:Nat} {x:Str} {pos:Pos} (hN:X.N[i]?=some x) (hv:Vis X.env.scope x) (hd:(x == ("__debug__":Str))=false:=by decide) (hcd:(x == ("__classdict__":Str))=false:=by decide):PE X (.Name x pos) (tVar i):=by
  intro pins s σ H Q I h
  obtain ⟨v,e,h⟩:=h
  obtain ⟨m,hn,hl⟩:=I.loc
  obtain ⟨u,r,l⟩:=hl i x v hN e hv
  have fin:EP X pins σ Q u s:=⟨v,H,I,r,h⟩
  rcases l with ⟨hk,hm⟩ | ⟨hk,c,hc,hcell⟩
  · exact wpAny_Name (wpAny_loadName_local I.ok.kind hk hn hm fin) hd
  · rcases hk with hk | hk
    · exact wpAny_Name (wpAny_loadName_cell I.ok.kind hk hc hcell fin) hd
    · exact wpAny_Name (wpAny_loadName_free I.ok.kind hk hc hcell fin hcd) hd
theorem pe_int {i j pos}:PE X (.Constant (.int i) j pos) (tC (.int i)):=fun _ _ _ H _ I h=>wpAny_Constant_int ⟨.int i,H,I.tok _,⟨_,rfl⟩,h⟩
theorem pe_bl {b j pos}:PE X (.Constant (.bool b) j pos) (tC (.bl b)):=fun _ _ _ H _ I h=>Constant_bool ⟨.bl b,H,I,rfl,h⟩
theorem pe_str {x j pos}:PE X (.Constant (.str x) j pos) (tC (.str x)):=fun _ _ _ H _ I h=>Calls.Constant_str ⟨.str x,H,I.tok _,⟨_,rfl⟩,h⟩
def Gl (X:Cx) (x:Str):Prop:=X.env.kindOf x=some .globalImplicit
theorem ld_glob {E:Value→Shared→Prop} {pins:List (Addr × Obj)} {s:Shared} {σ:St} {H:Hp} {x:Str} {u:Value} {pos:Pos} {Q:Value→Shared→Prop} (I:Inv X pins σ H s) (hg:Gl X x) (hm:X.mg x=some u) (h:Q u s)
    (hd:(x == ("__debug__":Str))=false:=by decide):wpAny (model X.prog X.w) X.A (eval (.Name x pos) X.env) Q E s :=
  Calls.Name_function_global I.ok.kind hg (Calls.loadGlobal_global (by rw [I.ok.glob];exact I.mod.glob.keeps I.bk) hm h) hd
theorem ld_blt {E:Value→Shared→Prop} {pins:List (Addr × Obj)} {s:Shared} {σ:St} {H:Hp} {x:Str} {u:Value} {pos:Pos} {Q:Value→Shared→Prop} (I:Inv X pins σ H s) (hg:Gl X x) (hm:X.mg x=none) (hv:bootBuiltins x=some u) (h:Q u s)
    (hn:x≠"__name__":=by decide) (hd:(x == ("__debug__":Str))=false:=by decide):wpAny (model X.prog X.w) X.A (eval (.Name x pos) X.env) Q E s:=by
  obtain ⟨mb,h1,h2⟩:=I.mod.blt
  exact Calls.Name_function_global I.ok.kind hg (Calls.loadGlobal_builtin (by rw [I.ok.glob];exact I.mod.glob.keeps I.bk) hm (by rw [I.ok.blt];exact h1.keeps I.bk) ((h2 x hn).trans hv) h) hd
theorem pe_glob {x:Str} {v:V} {u:Value} {pos:Pos} (hg:Gl X x) (hm:X.mg x=some u) (r:RelV v u) (hd:(x == ("__debug__":Str))=false:=by decide):PE X (.Name x pos) (tC v) :=
  fun _ _ _ H _ I h=>ld_glob I hg hm ⟨v,H,I,r,h⟩ hd
theorem pe_bltn {x:Str} {v:V} {u:Value} {pos:Pos} (hg:Gl X x) (hm:X.mg x=none) (hv:bootBuiltins x=some u) (r:RelV v u) (hn:x≠"__name__":=by decide) (hd:(x == ("__debug__":Str))=false:=by decide):PE X (.Name x pos) (tC v) :=
  fun _ _ _ H _ I h=>ld_blt I hg hm hv ⟨v,H,I,r,h⟩ hn hd
variable {a b:Expr} {ta tb:TE} {pos:Pos}
def tB (t:TE):TT:=fun σ H Q=>t σ H fun x H1=>∃ c,x=.bl c∧Q c H1
theorem pt_val {e:Expr} {t:TE} (h:PE X e t) (he:∀ whole,isTrue e X.env whole=(do let v ← whole;standAt e.pos;holding [v] (truthy v)):=by intro _;rfl):PT X e (tB t):=by
  intro pins s σ H Q I hw
  refine isTrue_plain (thn (h pins s σ H _ I hw) fun v s1 ⟨x,H1,I1,r1,q1⟩=>?_) (he _)
  obtain ⟨d,rfl,q⟩:=q1
  cases r1
  exact wpAny_truthy_bool ⟨H1,I1,q⟩
variable {tA tB':TT} {rest:List Expr}
def tAnd (t u:TT):TT:=fun σ H Q=>t σ H fun c H1=>if c=true then u σ H1 Q else Q false H1
def tOr (t u:TT):TT:=fun σ H Q=>t σ H fun c H1=>if c=true then Q true H1 else u σ H1 Q
def tNot (t:TT):TT:=fun σ H Q=>t σ H fun c H1=>Q (!c) H1
theorem pw_and1 (ha:PT X a tA):PW X (.BoolOp .And [a] pos) tA:=by
  intro wh pins s σ H Q I h
  refine isTrue_and (thn (ha pins s σ H Q I h) fun c s1 e=>?_)
  cases c with
  | true=>exact isTrue_and_nil e
  | false=>exact e
theorem pw_or1 (ha:PT X a tA):PW X (.BoolOp .Or [a] pos) tA:=by
  intro wh pins s σ H Q I h
  refine isTrue_or (thn (ha pins s σ H Q I h) fun c s1 e=>?_)
  cases c with
  | false=>exact isTrue_or_nil e
  | true=>exact e
theorem pw_and (ha:PT X a tA) (hb:PW X (.BoolOp .And (b :: rest) pos) tB'):PW X (.BoolOp .And (a :: b :: rest) pos) (tAnd tA tB'):=by
  intro wh pins s σ H Q I h
  refine isTrue_and (thn (ha pins s σ H _ I h) fun c s1 ⟨H1,I1,q1⟩=>?_)
  cases c with
  | true=>exact hb wh pins s1 σ H1 Q I1 q1
  | false=>exact ⟨H1,I1,q1⟩
theorem pw_or (ha:PT X a tA) (hb:PW X (.BoolOp .Or (b :: rest) pos) tB'):PW X (.BoolOp .Or (a :: b :: rest) pos) (tOr tA tB'):=by
  intro wh pins s σ H Q I h
  refine isTrue_or (thn (ha pins s σ H _ I h) fun c s1 ⟨H1,I1,q1⟩=>?_)
  cases c with
  | true=>exact ⟨H1,I1,q1⟩
  | false=>exact hb wh pins s1 σ H1 Q I1 q1
theorem pt_not (ha:PT X a tA):PT X (.UnaryOp .Not a pos) (tNot tA):=by
  intro pins s σ H Q I h
  exact isTrue_not (ha pins s σ H (fun c H1=>Q (!c) H1) I h)
def tAndV (ta tb:TE):TE:=fun σ H Q=>ta σ H fun x H1=>∃ c,x=.bl c∧if c=true then tb σ H1 Q else Q (.bl false) H1
def tOrV (ta tb:TE):TE:=fun σ H Q=>ta σ H fun x H1=>∃ c,x=.bl c∧if c=true then Q (.bl true) H1 else tb σ H1 Q
def tNotV (ta:TE):TE:=fun σ H Q=>ta σ H fun x H1=>∃ c,x=.bl c∧Q (.bl (!c)) H1
theorem pe_one {op} {t:TE} (h:PE X a t):PE X (.BoolOp op [a] pos) t:=fun pins s σ H Q I hw=>BoolOp_one (h pins s σ H Q I hw)
theorem pe_and (ha:PE X a ta) (hb:PE X (.BoolOp .And (b :: rest) pos) tb):PE X (.BoolOp .And (a :: b :: rest) pos) (tAndV ta tb):=by
  intro pins s σ H Q I h
  refine BoolOp_and (thn (ha pins s σ H _ I h) fun v s1 ⟨x,H1,I1,r1,q1⟩=>?_)
  obtain ⟨c,rfl,q1⟩:=q1
  cases r1
  refine wpAny_truthy_bool ?_
  cases c with
  | true=>exact hb pins s1 σ H1 Q I1 q1
  | false=>exact ⟨.bl false,H1,I1,rfl,q1⟩
theorem pe_or (ha:PE X a ta) (hb:PE X (.BoolOp .Or (b :: rest) pos) tb):PE X (.BoolOp .Or (a :: b :: rest) pos) (tOrV ta tb):=by
  intro pins s σ H Q I h
  refine BoolOp_or (thn (ha pins s σ H _ I h) fun v s1 ⟨x,H1,I1,r1,q1⟩=>?_)
  obtain ⟨c,rfl,q1⟩:=q1
  cases r1
  refine wpAny_truthy_bool ?_
  cases c with
  | false=>exact hb pins s1 σ H1 Q I1 q1
  | true=>exact ⟨.bl true,H1,I1,rfl,q1⟩
theorem pe_not (ha:PE X a ta):PE X (.UnaryOp .Not a pos) (tNotV ta):=by
  intro pins s σ H Q I h
  refine UnaryOp_ (thn (ha pins s σ H _ I h) fun v s1 ⟨x,H1,I1,r1,q1⟩=>?_)
  obtain ⟨c,rfl,q1⟩:=q1
  cases r1
  exact not_of (wpAny_truthy_bool ⟨.bl (!c),H1,I1,rfl,q1⟩)
def tIf (t:TT) (ta tb:TE):TE:=fun σ H Q=>t σ H fun c H1=>if c=true then ta σ H1 Q else tb σ H1 Q
end
end L2
namespace L2
open PySem PySem.Spec PyProof.Rows
def SqL (K:PySem.W.Frag) (H:Hp) (a:Addr) (xs:List V):Prop :=
  Rd H a (.lst xs) ∨
    ∃ (o:Obj) (its:Array Value) (n:Nat),K.lookup a=some o∧o.cls=.type "list"∧o.dict=none∧o.data=.seq its n∧its.size≤sizeLine∧Vals xs its.toList
def SqT (K:PySem.W.Frag) (H:Hp) (a:Addr) (xs:List V):Prop :=
  Rd H a (.tup xs) ∨
    ∃ (o:Obj) (its:Array Value) (n:Nat),K.lookup a=some o∧o.cls=.type "tuple"∧o.data=.seq its n∧its.size≤sizeLine∧Vals xs its.toList
def absV:Value→Option V
  | .none=>some .non
  | .bool b=>some (.bl b)
  | .int i _=>some (.int i)
  | .str x _=>some (.str x)
  | .bytes b _=>some (.byt b)
  | .float b _=>some (.flt b)
  | .ref a=>some (.ref a)
  | .type n=>some (.ty n)
  | _=>none
theorem RelV.abs {x:V} {u:Value} (r:RelV x u):absV u=some x:=by
  cases x with
  | non=>cases r;rfl
  | bl _=>cases r;rfl
  | int _=>obtain ⟨t,rfl⟩:=r;rfl
  | str _=>obtain ⟨t,rfl⟩:=r;rfl
  | byt _=>obtain ⟨t,rfl⟩:=r;rfl
  | flt _=>obtain ⟨t,rfl⟩:=r;rfl
  | ref _=>cases r;rfl
  | ty _=>cases r;rfl
theorem RelV.inj {x y:V} {u:Value} (r:RelV x u) (q:RelV y u):x=y:=Option.some.inj (r.abs.symm.trans q.abs)
theorem Vals.inj:∀ {xs ys:List V} {us:List Value},Vals xs us→Vals ys us→xs=ys
  | _,_,_,.nil,.nil=>rfl
  | _,_,_,.cons r t,.cons r' t'=>by rw [r.inj r',Vals.inj t t']
section
variable {X:Cx} {pins:List (Addr × Obj)} {σ:St} {H:Hp} {s:Shared} {a:Addr} {xs ys:List V}
theorem SqL.of {K:PySem.W.Frag} (h:H a=some (.lst xs)):SqL K H a xs:=.inl (.inl h)
theorem SqT.of {K:PySem.W.Frag} (h:H a=some (.tup xs)):SqT K H a xs:=.inl (.inl h)
theorem Inv.list (I:Inv X pins σ H s) (h:SqL X.K H a xs):∃ its:List Value,Vals xs its∧PlainL s.heap a its.toArray∧xs.length≤sizeLine:=by
  rcases h with h | ⟨o,its,n,hk,hc,hd,hs,hz,r⟩
  · obtain ⟨z,its,n,r,e⟩:=h.ok I.hok
    exact ⟨its,r,⟨_,n,e,rfl,rfl,rfl⟩,z⟩
  · refine ⟨its.toList,r,⟨o,n,I.kIn a o hk,hc,hd,by simpa using hs⟩,?_⟩
    have e:=r.length
    simp only [Array.length_toList] at e
    omega
theorem Inv.tuple (I:Inv X pins σ H s) (h:SqT X.K H a xs):∃ its:List Value,Vals xs its∧IsTup s.heap a its.toArray∧xs.length≤sizeLine:=by
  rcases h with h | ⟨o,its,n,hk,hc,hs,hz,r⟩
  · obtain ⟨z,its,r,p⟩:=h.ok I.hok
    exact ⟨its,r,p,z⟩
  · refine ⟨its.toList,r,⟨o,I.kIn a o hk,hc,n,by simpa using hs⟩,?_⟩
    have e:=r.length
    simp only [Array.length_toList] at e
    omega
theorem Inv.list_inj (I:Inv X pins σ H s) (h:SqL X.K H a xs) (h':SqL X.K H a ys):xs=ys:=by
  obtain ⟨its,r,⟨o,n,e,_,_,d⟩,_⟩:=I.list h
  obtain ⟨its',r',⟨o',n',e',_,_,d'⟩,_⟩:=I.list h'
  rw [e] at e';cases e'
  rw [d] at d'
  injection d' with d1 _
  have:its=its':=by simpa using congrArg Array.toList d1
  subst this
  exact r.inj r'
end
abbrev Cx.wish (X:Cx) (E:Value→Shared→Prop):Cx:={ X with xe:=E }
abbrev Cx.nox (X:Cx):Cx:=X.wish fun _ _=>False
theorem Cx.Ok.wish {X:Cx} (ok:X.Ok) (E:Value→Shared→Prop):(X.wish E).Ok :=
  ⟨ok.mod,ok.kind,ok.glob,ok.blt,ok.above,ok.inj,ok.has,ok.cab,ok.hd,ok.frames,ok.stk,ok.exf,ok.bs,ok.bsz,ok.noex,ok.exfs,ok.funs,ok.frf⟩
theorem Cx.Ok.unwish {X:Cx} {E:Value→Shared→Prop} (ok:(X.wish E).Ok):X.Ok :=
  ⟨ok.mod,ok.kind,ok.glob,ok.blt,ok.above,ok.inj,ok.has,ok.cab,ok.hd,ok.frames,ok.stk,ok.exf,ok.bs,ok.bsz,ok.noex,ok.exfs,ok.funs,ok.frf⟩
section
variable {X:Cx} {pins:List (Addr × Obj)} {σ:St} {H:Hp} {s:Shared} {E:Value→Shared→Prop}
theorem Inv.wish (I:Inv X pins σ H s) (E:Value→Shared→Prop):Inv (X.wish E) pins σ H s:=⟨I.ok.wish E,I.os,I.bare,I.base,I.loc,I.cell,I.free,I.freeC,I.pin,I.hok,I.len⟩
theorem Inv.unwish (I:Inv (X.wish E) pins σ H s):Inv X pins σ H s:=⟨I.ok.unwish,I.os,I.bare,I.base,I.loc,I.cell,I.free,I.freeC,I.pin,I.hok,I.len⟩
theorem SP.unwish {D:Ends} {f:Flow} {s':Shared} (h:SP (X.wish E) pins D f s'):SP X pins D f s':=by
  cases f with
  | next=>obtain ⟨σ',H',I,q⟩:=h;exact ⟨σ',H',I.unwish,q⟩
  | brk=>obtain ⟨σ',H',I,q⟩:=h;exact ⟨σ',H',I.unwish,q⟩
  | cont=>obtain ⟨σ',H',I,q⟩:=h;exact ⟨σ',H',I.unwish,q⟩
  | ret u=>obtain ⟨v,σ',H',I,r,q⟩:=h;exact ⟨v,σ',H',I.unwish,r,q⟩
theorem PSs.nox {st:List Stmt} {t:TS} (h:PSs X.nox st t):PSs X st t:=fun pins s σ H D I hw =>
  wpAny_mono (h pins s σ H D (I.wish _) hw) (fun _ _ q=>q.unwish) fun _ _ z=>False.elim z
end
section
variable {X:Cx} {st:Stmt} {rest:List Stmt} {t u:TS} {e:Expr} {te:TE} {pos:Pos}
def tNext:TS:=fun D σ H=>D.nx σ H
def tSeq (t u:TS):TS:=fun D σ H=>t { D with nx:=u D } σ H
theorem pss_nil:PSs X [] tNext:=fun _ _ σ H _ I h=>wpAny_execs_nil ⟨σ,H,I,h⟩
theorem pss_cons (h1:PS X st t) (h2:PSs X rest u):PSs X (st :: rest) (tSeq t u):=by
  intro pins s σ H D I h
  refine wpAny_execs_cons (thn (h1 pins s σ H { D with nx:=u D } I h) fun f s1 q=>?_)
  cases f with
  | next =>
    obtain ⟨σ',H',I',q⟩:=q
    exact h2 pins s1 σ' H' D I' q
  | ret v=>exact q
  | brk=>exact q
  | cont=>exact q
theorem pss_one (h1:PS X st t):PSs X [st] t:=by
  intro pins s σ H D I h
  refine wpAny_execs_cons (thn (h1 pins s σ H D I h) fun f s1 q=>?_)
  cases f with
  | next=>exact wpAny_execs_nil q
  | ret v=>exact q
  | brk=>exact q
  | cont=>exact q
def tBreak:TS:=fun D σ H=>D.bk σ H
theorem ps_break:PS X (.Break pos) tBreak:=fun _ _ σ H _ I h=>wpAny_Break ⟨σ,H,I,h⟩
theorem Inv.quiet {pins:List (Addr × Obj)} {σ:St} {H:Hp} {s:Shared} (I:Inv X pins σ H s):interactive X.env=false:=by simp [interactive,I.ok.kind]
def tDrop (te:TE):TS:=fun D σ H=>te σ H fun _ H1=>D.nx σ H1
theorem ps_expr (he:PE X e te) (hs:swapsWith e none pos.line X.env=pure false:=by rfl):PS X (.Expr e pos) (tDrop te):=by
  intro pins s σ H D I h
  exact wpAny_Expr_any (thn (he pins s σ H _ I h) fun v s1 ⟨x,H1,I1,r1,q1⟩=>⟨σ,H1,I1,q1⟩) I.quiet hs
def tRet (te:TE):TS:=fun D σ H=>te σ H D.rt
theorem ps_ret (he:PE X e te):PS X (.Return (some e) pos) (tRet te):=by
  intro pins s σ H D I h
  exact wpAny_Return_some (thn (he pins s σ H _ I h) fun v s1 ⟨x,H1,I1,r1,q1⟩=>⟨x,σ,H1,I1,r1,q1⟩)
def tRetN:TS:=fun D _ H=>D.rt .non H
def tIfS (c:TT) (t u:TS):TS:=fun D σ H=>c σ H fun b H1=>if b=true then t D σ H1 else u D σ H1
theorem ps_if {c:Expr} {a b:List Stmt} {tc:TT} (hc:PT X c tc) (ha:PSs X a t) (hb:PSs X b u):PS X (.If c a b pos) (tIfS tc t u):=by
  intro pins s σ H D I h
  refine wpAny_If (thn (hc pins s σ H _ I h) fun d s1 ⟨H1,I1,q1⟩=>?_)
  cases d with
  | true=>exact ha pins s1 σ H1 D I1 q1
  | false=>exact hb pins s1 σ H1 D I1 q1
def tNever:TS:=fun _ _ _=>False
end
abbrev TG:=V→St→Hp→(St→Hp→Prop)→Prop
abbrev TGs:=List V→St→Hp→(St→Hp→Prop)→Prop
def PG (X:Cx) (target:Expr) (t:TG):Prop :=
  ∀ (pins:List (Addr × Obj)) (s:Shared) (σ:St) (H:Hp) (v:V) (u:Value) (Q:St→Hp→Prop),Inv X pins σ H s→RelV v u→t v σ H Q →
    wpAny (model X.prog X.w) X.A (assign target X.env u) (fun _ s'=>∃ σ' H',Inv X pins σ' H' s'∧Q σ' H') X.xe s
def PGs (X:Cx) (ts:List Expr) (t:TGs):Prop :=
  ∀ (pins:List (Addr × Obj)) (s:Shared) (σ:St) (H:Hp) (vs:List V) (us:List Value) (Q:St→Hp→Prop),Inv X pins σ H s→Vals vs us→t vs σ H Q →
    wpAny (model X.prog X.w) X.A (assignInOrder ((assignEach ts X.env).map (·.2)) us) (fun _ s'=>∃ σ' H',Inv X pins σ' H' s'∧Q σ' H') X.xe s
abbrev TIp:=V→V→Hp→VK→Prop
section
variable {X:Cx} {pos:Pos}
def gName (i:Nat):TG:=fun v σ H Q=>Q (σ.set i (some v)) H
theorem pg_name {i:Nat} {x:Str} (hN:X.N.Nodup) (hi:X.N[i]?=some x) (hx:Loc X.env.scope x) (hf:X.fn x=true∨X.env.scope.names.lookup x=some .local:=by first | exact .inl rfl | exact .inr rfl | assumption):PG X (.Name x pos) (gName i):=by
  intro pins s σ H v u Q I r h
  exact wpAny_assign_Name (store_ok I hN hi hx r (fun s' I'=>⟨_,H,I',h⟩) hf)
def gNil:TGs:=fun vs σ H Q=>vs=[]∧Q σ H
def gCons (t:TG) (u:TGs):TGs:=fun vs σ H Q=>∃ v r,vs=v :: r∧t v σ H fun σ' H'=>u r σ' H' Q
theorem pgs_nil:PGs X [] gNil:=by
  intro pins s σ H vs us Q I r h
  obtain ⟨e,h⟩:=h
  subst e
  cases r
  exact assignInOrder_nil ⟨σ,H,I,h⟩
theorem pgs_cons {e:Expr} {es:List Expr} {t:TG} {u:TGs} (h1:PG X e t) (h2:PGs X es u)
    (hs:(assignEach (e :: es) X.env).map (·.2)=assign e X.env :: (assignEach es X.env).map (·.2):=by rfl):PGs X (e :: es) (gCons t u):=by
  intro pins s σ H vs us Q I r h
  obtain ⟨v,vr,e1,h⟩:=h
  subst e1
  cases r with
  | cons r rr =>
    rw [hs]
    refine assignInOrder_cons (thn (h1 pins s σ H _ _ _ I r h) fun _ s1 ⟨σ1,H1,I1,q1⟩=>?_)
    exact h2 pins s1 σ1 H1 _ _ Q I1 rr q1
def gTup (K:PySem.W.Frag) (n:Nat) (t:TGs):TG:=fun v σ H Q=>∃ a xs,v=.ref a∧SqT K H a xs∧xs.length=n∧t xs σ H Q
theorem pg_tup {es:List Expr} {k:Nat} {t:TGs} {n:Nat} (hc:X.calm=true) (h:PGs X es t)
    (hn:(assignEach es X.env).length=n:=by rfl) (hst:(assignEach es X.env).findIdx? (·.1)=none:=by rfl):PG X (.Tuple es k pos) (gTup X.K n t):=by
  intro pins s σ H v u Q I r hw
  obtain ⟨a,xs,e1,hq,hl,hw⟩:=hw
  subst e1
  cases r
  obtain ⟨its,rv,ht,hz⟩:=I.tuple hq
  refine assign_Tuple_tuple (I.ok.hd hc) ht (by simp [hn,← hl,rv.length]) hst fun h' hx=>?_
  have I1:Inv X pins σ H { s with heap:=h' }:=I.kept (t':=s.toks) fun b o e=>hx b o (Nat.ne_of_lt (Heap.lt_size e)) e
  exact h pins _ σ H xs _ Q I1 (by simpa using rv) hw
def tAsg (te:TE) (g:TG):TS:=fun D σ H=>te σ H fun x H1=>g x σ H1 D.nx
theorem ps_set {i:Nat} {x:Str} {e:Expr} {te:TE} {pos':Pos} (hN:X.N.Nodup) (hi:X.N[i]?=some x) (hx:Loc X.env.scope x) (he:PE X e te) (hs:swapsWith e (some (.Name x pos')) pos.line X.env=pure false:=by rfl) (hf:X.fn x=true∨X.env.scope.names.lookup x=some .local:=by first | exact .inl rfl | exact .inr rfl | assumption) :
    PS X (.Assign [.Name x pos'] e pos) (tAsg te (gName i)):=by
  intro pins s σ H D I h
  refine wpAny_Assign_Name (thn (he pins s σ H _ I h) fun v s1 ⟨y,H1,I1,r1,q1⟩=>?_) hs
  exact store_ok I1 hN hi hx r1 (fun s2 I2=>⟨_,H1,I2,q1⟩) hf
def tAug (i:Nat) (te:TE) (ti:TIp):TS:=fun D σ H=>∃ x,σ[i]?=some (some x)∧te σ H fun y H1=>ti x y H1 fun z H2=>D.nx (σ.set i (some z)) H2
def ipI (f:Int→Int→Int):TIp:=fun x y H Q=>∃ i j,x=.int i∧y=.int j∧Q (.int (f i j)) H
end
section
variable {X:Cx} {pos:Pos}
def tWhile (c:TT) (tb:TS):TS:=fun D σ H=>∃ W:Nat→St→Hp→Prop,(∃ m,W m σ H)∧∀ m σ H,W m σ H →
  c σ H fun b H1=>if b=true then ∃ N:St→Hp→Prop,(∀ σ' H',N σ' H'→∃ m',m' < m∧W m' σ' H')∧tb { D with nx:=N,ct:=N,bk:=D.nx } σ H1 else D.nx σ H1
theorem ps_while {c:Expr} {body:List Stmt} {tc:TT} {tb:TS} (hp:PassesOwn (model X.prog X.w) X.A X.env X.xe) (hc:PT X c tc) (hb:PSs X body tb):PS X (.While c body [] pos) (tWhile tc tb):=by
  intro pins s σ H D I h
  obtain ⟨W,⟨m0,w0⟩,turn⟩:=h
  refine wpAny_While (codeAny_whileLoop (fun n s'=>∃ σ' H',Inv X pins σ' H' s'∧W n σ' H') ?_ m0 ⟨σ,H,I,w0⟩)
  rintro n s1 ⟨σ1,H1,I1,w1⟩
  refine wpAny_passesOwn hp (thn (hc pins s1 σ1 H1 _ I1 (turn n σ1 H1 w1)) fun b s2 ⟨H2,I2,q2⟩=>?_)
  cases b with
  | true =>
    obtain ⟨N,hN,q2⟩:=q2
    rw [if_pos rfl]
    refine wpAny_passesOwn hp (thn (hb pins s2 σ1 H2 _ I2 q2) fun f s3 q3=>?_)
    cases f with
    | next =>
      obtain ⟨σ3,H3,I3,n3⟩:=q3
      obtain ⟨m',hm,w3⟩:=hN σ3 H3 n3
      exact ⟨m',hm,σ3,H3,I3,w3⟩
    | cont =>
      obtain ⟨σ3,H3,I3,n3⟩:=q3
      obtain ⟨m',hm,w3⟩:=hN σ3 H3 n3
      exact ⟨m',hm,σ3,H3,I3,w3⟩
    | brk=>exact q3
    | ret v=>exact q3
  | false =>
    rw [if_neg Bool.false_ne_true]
    exact wpAny_execs_nil ⟨σ1,H2,I2,q2⟩
end
set_option genSizeOf false in
set_option genInjectivity false in
structure It where
  go:Nat→Hp→Prop
  yld:Nat→Hp→V→Hp→Prop
  stop:Nat→Hp→Prop
def FpOk (X:Cx) (pins:List (Addr × Obj)) (H:Hp) (b:Addr):Prop :=
  H b=none∧b≠X.env.locals∧b ∉ X.fs∧(b∈X.ex∨X.s₀.heap.objs.size≤b)∧(∀ x c,X.env.cells.lookup x=some c→c≠b)∧∀ p∈X.pn ++ pins,p.1≠b
theorem Inv.fpOk {X:Cx} {pins:List (Addr × Obj)} {σ:St} {H H':Hp} {s:Shared} {b:Addr} (I:Inv X pins σ H s) (hb:s.heap.objs.size≤b) (hn:H' b=none):FpOk X pins H' b:=by
  refine ⟨hn,Nat.ne_of_gt (Nat.lt_of_lt_of_le I.lt hb),I.nofs hb,.inr (Nat.le_trans I.sz hb),fun x c e z=>?_,fun p hp z=>?_⟩
  · obtain ⟨v,q⟩:=I.cell x c e
    exact absurd (Nat.lt_of_lt_of_le q.lt (by rw [z];exact hb)) (Nat.lt_irrefl _)
  · exact absurd (Nat.lt_of_lt_of_le (Heap.lt_size (I.pin p hp).1) (by rw [z];exact hb)) (Nat.lt_irrefl _)
structure Turn (P:Program) (w:World) (K:PySem.W.Frag) (tg:Expr) (J:It) (fp:List Addr) (it:Addr) (tn:Nat→Heap→Prop):Prop where
  mem:it∈fp
  obj:∀ i h,tn i h→∀ b∈fp,∃ o,h.get? b=some o∧∀ v,o.data≠.cell v
  keep:∀ i h h',tn i h→(∀ b∈fp,∀ o,h.get? b=some o→h'.get? b=some o)→tn i h'
  item:∀ (X:Cx),X.prog=P→X.w=w→X.K=K→X.calm=true→∀ (i:Nat) (pins:List (Addr × Obj)) (s:Shared) (σ:St) (H:Hp) (E:Value→Shared→Prop),Inv X pins σ H s→(∀ b∈fp,FpOk X pins H b)→tn i s.heap→J.go i H →
    wpAny (model P w) X.A (pyNext (.ref it)) (fun r s1=>∃ u,r=some u ∧
      wpAny (model P w) X.A (letOwnedTupleGo tg (.ref it) u) (fun _ s2=>∃ x H',Inv X pins σ H' s2∧RelV x u∧J.yld i H x H'∧tn (i + 1) s2.heap∧∀ b∈fp,H' b=none) E s1) E s
  done:∀ (X:Cx),X.prog=P→X.w=w→X.K=K→X.calm=true→∀ (i:Nat) (pins:List (Addr × Obj)) (s:Shared) (σ:St) (H:Hp) (E:Value→Shared→Prop),Inv X pins σ H s→(∀ b∈fp,FpOk X pins H b)→tn i s.heap→J.stop i H →
    wpAny (model P w) X.A (pyNext (.ref it)) (fun r s1=>r=none∧Inv X pins σ H s1) E s
  self:∀ (A:Around) (i:Nat) (s:Shared) (Q:Value→Shared→Prop) (E:Value→Shared→Prop),tn i s.heap→Q (.ref it) s→wpAny (model P w) A (pyIter (.ref it)) Q E s
abbrev TI:=St→Hp→(It→Hp→Prop)→Prop
def PIE (X:Cx) (pins:List (Addr × Obj)) (σ:St) (tg:Expr) (R:It→Hp→Prop) (itv:Value) (s2:Shared):Prop :=
  ∃ (it:Addr) (fp:List Addr) (tn:Nat→Heap→Prop) (J:It) (H':Hp),itv=.ref it∧Inv X pins σ H' s2∧Turn X.prog X.w X.K tg J fp it tn∧tn 0 s2.heap∧(∀ b∈fp,FpOk X pins H' b)∧R J H'
def PI (X:Cx) (tg iter:Expr) (wi:TI):Prop :=
  ∀ (pins:List (Addr × Obj)) (s:Shared) (σ:St) (H:Hp) (R:It→Hp→Prop),Inv X pins σ H s→wi σ H R →
    wpAny (model X.prog X.w) X.A (eval iter X.env) (fun v s1=>wpAny (model X.prog X.w) X.A (pyIter v) (PIE X pins σ tg R) X.xe s1) X.xe s
theorem go_of {M:Model} {A:Around} {E:Value→Shared→Prop} {s:Shared} {tg:Expr} {it:Addr} {u:Value} {o:Obj} {n:String} {vs:Array Value} {Q:Unit→Shared→Prop} (ho:s.heap.get? it=some o) (hc:o.cls=.type n) (hd:o.data=.fields vs)
    (hn:["enumerate","zip","dict_itemiterator","dict_reverseitemiterator","odict_iterator","itertools.zip_longest","itertools.pairwise"].contains n=false) (hQ:Q () s):wpAny M A (letOwnedTupleGo tg (.ref it) u) Q E s:=by
  unfold letOwnedTupleGo
  cases tg <;> first
    | exact wpAny_pure hQ
    | (cases u <;> first
        | exact wpAny_pure hQ
        | (refine wpAny_bind (wpAny_load ho ?_)
           rw [hc,hd]
           show wpAny M A (if (["enumerate","zip","dict_itemiterator","dict_reverseitemiterator","odict_iterator","itertools.zip_longest","itertools.pairwise"].contains n && vs[0]? == some (rawInt _))=true then _ else _) Q E s
           rw [if_neg (by intro h;rw [hn,Bool.false_and] at h;cases h)]
           exact wpAny_pure hQ))
def Itl (K:PySem.W.Frag) (a:Addr):It :=
  ⟨fun i H=>∃ xs x,SqL K H a xs∧xs[i]?=some x,fun i H x H'=>H'=H∧∀ xs,SqL K H a xs→xs[i]?=some x,fun i H=>∃ xs,SqL K H a xs∧xs.length≤i⟩
def Itt (K:PySem.W.Frag) (a:Addr):It :=
  ⟨fun i H=>∃ xs x,SqT K H a xs∧xs[i]?=some x,fun i H x H'=>H'=H∧∀ xs,SqT K H a xs→xs[i]?=some x,fun i H=>∃ xs,SqT K H a xs∧xs.length≤i⟩
def Itr (lo:Int) (n:Nat):It:=⟨fun i _=>i < n,fun i H x H'=>H'=H∧x=.int (lo + i),fun i _=>n≤i⟩
theorem turn_list {P:Program} {w:World} {K:PySem.W.Frag} {tg:Expr} (a it:Addr):Turn P w K tg (Itl K a) [it] it (fun i h=>h.IsListIter it a i) where
  mem:=by simp
  obj:=fun i h st b hb=>by
    have e:b=it:=by simpa using hb
    subst e
    obtain ⟨o,e,c,d⟩:=st
    exact ⟨o,e,fun v z=>by rw [d] at z;cases z⟩
  keep:=fun i h h' st k=>st.at fun o e=>k it (by simp) o e
  item:=by
    intro X hP hw hK hc i pins s σ H E I hf st hg
    subst hP hw hK
    obtain ⟨xs,x,hq,hx⟩:=hg
    obtain ⟨its,rv,p,hz⟩:=I.list hq
    obtain ⟨u,hu,ru⟩:=rv.get hx
    obtain ⟨f0,f1,f2,f3,f4,f5⟩:=hf it (by simp)
    refine wpAny_pyNext_list_item st p.isList (x:=u) (by simpa using hu) fun h' st' sb=>?_
    have I1:Inv X pins σ H { s with heap:=h' }:=I.turned (t':=s.toks) (fun b o hb e=>(sb.2 b hb).trans e) f0 f1 f3 f4 f5
    obtain ⟨o,e,c,d⟩:=id st'
    exact ⟨u,rfl,go_of (s:={ s with heap:=h' }) e c d (by decide) ⟨x,H,I1,ru,⟨rfl,fun ys hy=>by rw [I.list_inj hy hq];exact hx⟩,st',fun b hb=>(hf b hb).1⟩⟩
  done:=by
    intro X hP hw hK hc i pins s σ H E I hf st hg
    subst hP hw hK
    obtain ⟨xs,hq,hx⟩:=hg
    obtain ⟨its,rv,p,hz⟩:=I.list hq
    obtain ⟨f0,f1,f2,f3,f4,f5⟩:=hf it (by simp)
    have hl:=rv.length
    exact wpAny_pyNext_list_end (I.ok.hd hc) st p.isList (by simp;omega) fun h' eb=>⟨rfl,I.turned (t':=s.toks) (fun b o hb e=>eb b o hb e) f0 f1 f3 f4 f5⟩
  self:=fun _ _ _ _ _ st h=>wpAny_pyIter_listiter st h
theorem turn_range {P:Program} {w:World} {K:PySem.W.Frag} {tg:Expr} (it:Addr) (lo:Int) (n:Nat):Turn P w K tg (Itr lo n) [it] it (fun i h=>IsRangeIter h it (lo + (i:Nat) * 1) ((n:Int) - (i:Nat)) 1) where
  mem:=by simp
  obj:=fun i h st b hb=>by
    have e:b=it:=by simpa using hb
    subst e
    exact ⟨_,st,fun v z=>by
      have z':Data.fields _=Data.cell v:=z
      cases z'⟩
  keep:=fun i h h' st k=>k it (by simp) _ st
  item:=by
    intro X hP hw hK hc i pins s σ H E I hf st hg
    subst hP hw hK
    obtain ⟨f0,f1,f2,f3,f4,f5⟩:=hf it (by simp)
    have W:=Walks.range (prog:=X.prog) (w:=X.w) (I.ok.hd hc) it lo 1 n
    refine W.item i s _ _ hg st fun v h' tk hv st' kk=>?_
    obtain ⟨t,rfl⟩:=hv
    have I1:Inv X pins σ H { s with heap:=h',toks:=tk }:=I.turned (fun b o hb e=>kk b o (by simpa using hb) e) f0 f1 f3 f4 f5
    refine ⟨_,rfl,go_of (s:={ s with heap:=h',toks:=tk }) (n:="range_iterator") st' rfl rfl (by decide) ⟨.int (lo + i),H,I1,⟨t,?_⟩,⟨rfl,rfl⟩,st',fun b hb=>(hf b hb).1⟩⟩
    rw [Int.mul_one]
  done:=by
    intro X hP hw hK hc i pins s σ H E I hf st hg
    subst hP hw hK
    obtain ⟨f0,f1,f2,f3,f4,f5⟩:=hf it (by simp)
    exact wpAny_pyNext_range_end (I.ok.hd hc) st (by have:n≤i:=hg;omega) fun h' eb=>⟨rfl,I.turned (t':=s.toks) (fun b o hb e=>eb b o hb e) f0 f1 f3 f4 f5⟩
  self:=fun _ _ _ _ _ st h=>wpAny_pyIter_rangeiter st h
end L2
namespace L2
open PySem PySem.Spec PyProof.Rows
section
variable {X:Cx} {tg:Expr}
def iList (K:PySem.W.Frag) (tl:TE):TI:=fun σ H R=>tl σ H fun x H1=>∃ a,x=.ref a∧(∃ xs,SqL K H1 a xs)∧R (Itl K a) H1
def iTup (K:PySem.W.Frag) (tl:TE):TI:=fun σ H R=>tl σ H fun x H1=>∃ a,x=.ref a∧(∃ xs,SqT K H1 a xs)∧R (Itt K a) H1
theorem pi_list {l:Expr} {tl:TE} (hl:PE X l tl):PI X tg l (iList X.K tl):=by
  intro pins s σ H R I h
  refine thn (hl pins s σ H _ I h) fun v s1 ⟨x,H1,I1,r1,q1⟩=>?_
  obtain ⟨a,e,⟨xs,hq⟩,q⟩:=q1
  subst e
  cases r1
  obtain ⟨its,rv,p,hz⟩:=I1.list hq
  refine wpAny_pyIter_list p.isList ?_
  refine ⟨s1.heap.objs.size,[s1.heap.objs.size],_,_,H1,rfl,I1.kept (t':=s1.toks) fun b o e=>Heap.get?_push_of_some _ e,turn_list a _,⟨_,Heap.get?_push_size _ rfl,rfl,rfl⟩,fun b hb=>?_,q⟩
  have e:b=s1.heap.objs.size:=by simpa using hb
  subst e
  exact I1.fpOk (Nat.le_refl _) (I1.hok.fresh (Nat.le_refl _))
theorem range_it {pins:List (Addr × Obj)} {σ:St} {H:Hp} {s:Shared} {R:It→Hp→Prop} {E:Value→Shared→Prop} {lo hi:Int} {t u v:Tok} {tk:Nat} (I:Inv X pins σ H s) (h1:-(2 ^ 62)≤lo) (h2:lo < 2 ^ 62) (h3:-(2 ^ 62)≤hi) (h4:hi < 2 ^ 62)
    (q:R (Itr lo (hi - lo).toNat) H):wpAny (model X.prog X.w) X.A (pyIter (.ref s.heap.objs.size)) (PIE X pins σ tg R) E { s with heap:=s.heap.push { cls:=.type "range",data:=.fields #[.int lo t,.int hi u,.int 1 v] },toks:=tk }:=by
  refine wpAny_pyIter_range (IsRange.new ..) (small_one h1 h2 h3 h4) ?_
  have I1:Inv X pins σ H { s with heap:=s.heap.push { cls:=.type "range",data:=.fields #[.int lo t,.int hi u,.int 1 v] },toks:=tk }:=I.kept fun b o e=>Heap.get?_push_of_some _ e
  refine ⟨(s.heap.push { cls:=.type "range",data:=.fields #[.int lo t,.int hi u,.int 1 v] }).objs.size,[(s.heap.push { cls:=.type "range",data:=.fields #[.int lo t,.int hi u,.int 1 v] }).objs.size],_,_,H,rfl,
    I1.kept (t':=tk) fun b o e=>Heap.get?_push_of_some _ e,turn_range _ lo (hi - lo).toNat,?_,fun b hb=>?_,q⟩
  · have e1:lo + ((0:Nat):Int) * 1=lo:=by simp
    have e2:(((hi - lo).toNat:Nat):Int) - ((0:Nat):Int)=Builtin.Range.rangeSize lo hi 1:=by rw [rangeSize_one];split <;> omega
    show IsRangeIter _ _ (lo + ((0:Nat):Int) * 1) ((((hi - lo).toNat:Nat):Int) - ((0:Nat):Int)) 1
    rw [e1,e2]
    exact Heap.get?_push_size _ rfl
  · have e:b=(s.heap.push { cls:=.type "range",data:=.fields #[.int lo t,.int hi u,.int 1 v] }).objs.size:=by simpa using hb
    subst e
    exact I1.fpOk (Nat.le_refl _) (I1.hok.fresh (Nat.le_refl _))
def iRng1 (ta:TA):TI:=fun σ H R=>ta σ H fun vs H1=>∃ j:Int,vs=[.int j]∧-(2 ^ 62)≤j∧j < 2 ^ 62∧R (Itr 0 j.toNat) H1
def iRng2 (ta:TA):TI:=fun σ H R=>ta σ H fun vs H1=>∃ i j:Int,vs=[.int i,.int j]∧(-(2 ^ 62)≤i∧i < 2 ^ 62∧-(2 ^ 62)≤j∧j < 2 ^ 62)∧R (Itr i (j - i).toNat) H1
theorem pi_range1 {a:Expr} {ta:TA} {p pos:Pos} (hg:Gl X "range") (hm:X.mg "range"=none) (ha:PA X [a] ta) (hs:starEach [a] X.env=[(false,eval a X.env)]:=by rfl):PI X tg (.Call (.Name "range" p) [a] [] pos) (iRng1 ta):=by
  intro pins s σ H R I h
  refine Call_ (ld_blt I hg hm boot_range (PyProof.Rows.callWith_type1 (thn (ha pos pins s σ H _ I h) fun us s1 ⟨vs,H1,I1,r1,q1⟩=>?_) hs rfl))
  obtain ⟨j,e,q1,q2,q⟩:=q1
  subst e
  cases r1 with
  | cons r rr =>
    cases rr
    obtain ⟨t,rfl⟩:=r
    exact call_range_1 (range_it I1 (by omega) (by omega) q1 q2 (by simpa using q))
def tFor (wi:TI) (g:TG) (tb:TS):TS:=fun D σ H=>wi σ H fun J H1=>∃ W:Nat→Nat→St→Hp→Prop,(∃ m,W 0 m σ H1)∧∀ i m σ H,W i m σ H →
  (J.stop i H∧D.nx σ H)∨(J.go i H∧∃ N:St→Hp→Prop,(∀ σ' H',N σ' H'→∃ m',m' < m∧W (i + 1) m' σ' H')∧∀ x H',J.yld i H x H'→g x σ H' fun σ2 H2=>tb { D with nx:=N,ct:=N,bk:=D.nx } σ2 H2)
def pinsAt (fp:List Addr) (h:Heap):List (Addr × Obj):=fp.filterMap fun b=>(h.get? b).map fun o=>(b,o)
theorem mem_pinsAt {fp:List Addr} {h:Heap} {b:Addr} {o:Obj} (hb:b∈fp) (e:h.get? b=some o):(b,o)∈pinsAt fp h:=List.mem_filterMap.mpr ⟨b,hb,by rw [e];rfl⟩
theorem of_pinsAt {fp:List Addr} {h:Heap} {p:Addr × Obj} (hp:p∈pinsAt fp h):p.1∈fp∧h.get? p.1=some p.2:=by
  obtain ⟨b,hb,e⟩:=List.mem_filterMap.mp hp
  cases q:h.get? b with
  | none=>rw [q] at e;cases e
  | some o =>
    rw [q] at e
    have e':(b,o)=p:=Option.some.inj e
    subst e'
    exact ⟨hb,q⟩
theorem Inv.pinned {pins:List (Addr × Obj)} {σ:St} {H:Hp} {s:Shared} {fp:List Addr} (I:Inv X pins σ H s) (hf:∀ b∈fp,FpOk X pins H b) (ho:∀ b∈fp,∃ o,s.heap.get? b=some o∧∀ v,o.data≠.cell v):Inv X (pins ++ pinsAt fp s.heap) σ H s :=
  I.pins_of fun p hp=>(List.mem_append.mp hp).elim (fun z=>I.pin p (List.mem_append_right _ z)) fun z=>by
    obtain ⟨hb,e⟩:=of_pinsAt z
    obtain ⟨f0,f1,f2,_⟩:=hf p.1 hb
    obtain ⟨o,e',d⟩:=ho p.1 hb
    rw [e] at e';cases e'
    exact ⟨e,f0,f1,f2,d⟩
theorem Inv.unpinned {pins pl:List (Addr × Obj)} {σ:St} {H:Hp} {s:Shared} (I:Inv X (pins ++ pl) σ H s):Inv X pins σ H s:=I.pins_of fun p hp=>I.pin p (List.mem_append_right _ (List.mem_append_left _ hp))
theorem ps_for {iter:Expr} {body:List Stmt} {wi:TI} {g:TG} {tb:TS} {pos:Pos} (hp:PassesOwn (model X.prog X.w) X.A X.env X.xe) (hc:X.calm=true) (hi:PI X tg iter wi) (hg:PG X tg g) (hb:PSs X body tb)
    (hs:∀ x,foldedSetIterable iter X.env x=pure x:=by intro _;rfl):PS X (.For tg iter body [] pos) (tFor wi g tb):=by
  intro pins s σ H D I h
  refine wpAny_For (thn (hi pins s σ H _ I h) fun v s1 h1=>thn h1 fun itv s2 h2=>?_) hs
  obtain ⟨it,fp,tn,J,H2,e,I2,T,st2,f2,W,⟨m0,w0⟩,turn⟩:=h2
  subst e
  -- what stays true of the iterator's objects through the loop
  have stat:∀ {H':Hp},(∀ b∈fp,H' b=none)→∀ b∈fp,FpOk X pins H' b:=fun hn b hb=>⟨hn b hb,(f2 b hb).2⟩
  refine codeAny_forLoop_any (fun n s'=>∃ i σ' H',Inv X pins σ' H' s'∧tn i s'.heap∧(∀ b∈fp,H' b=none)∧W i n σ' H') ?_ m0 ⟨0,σ,H2,I2,st2,fun b hb=>(f2 b hb).1,w0⟩
  rintro n s3 ⟨i,σ3,H3,I3,st3,fr3,w3⟩
  rcases turn i n σ3 H3 w3 with ⟨stop,qn⟩ | ⟨go,N,hN,step⟩
  · refine wpAny_passesOwn hp (thn (T.done X rfl rfl rfl hc i pins s3 σ3 H3 X.xe I3 (stat fr3) st3 stop) fun r s4 ⟨hr,I4⟩=>?_)
    subst hr
    exact wpAny_execs_nil ⟨σ3,H3,I4,qn⟩
  · refine wpAny_passesOwn hp (thn (T.item X rfl rfl rfl hc i pins s3 σ3 H3 X.xe I3 (stat fr3) st3 go) fun r s4 ⟨u,hr,h4⟩=>?_)
    subst hr
    refine wpAny_passesOwn hp (thn h4 fun _ s5 ⟨x,H5,I5,r5,y5,st5,fr5⟩=>?_)
    have I5':=I5.pinned (stat fr5) (T.obj _ _ st5)
    refine wpAny_passesOwn hp (thn (hg _ s5 σ3 H5 x u _ I5' r5 (step x H5 y5)) fun _ s6 ⟨σ6,H6,I6,q6⟩=>?_)
    refine wpAny_passesOwn hp (thn (hb _ s6 σ6 H6 _ I6 q6) fun f s7 q7=>?_)
    have again:∀ {σ7:St} {H7:Hp},Inv X (pins ++ pinsAt fp s5.heap) σ7 H7 s7→N σ7 H7→∃ m,m < n∧∃ i σ' H',Inv X pins σ' H' s7∧tn i s7.heap∧(∀ b∈fp,H' b=none)∧W i m σ' H':=fun {σ7 H7} I7 n7=>by
      obtain ⟨m',hm,w7⟩:=hN σ7 H7 n7
      refine ⟨m',hm,i + 1,σ7,H7,I7.unpinned,T.keep _ _ _ st5 fun b hb o e=>(I7.pin (b,o) (List.mem_append_right _ (List.mem_append_right _ (mem_pinsAt hb e)))).1,fun b hb=>?_,w7⟩
      obtain ⟨o,e,d⟩:=T.obj _ _ st5 b hb
      exact (I7.pin (b,o) (List.mem_append_right _ (List.mem_append_right _ (mem_pinsAt hb e)))).2.1
    cases f with
    | next=>obtain ⟨σ7,H7,I7,n7⟩:=q7;exact again I7 n7
    | cont=>obtain ⟨σ7,H7,I7,n7⟩:=q7;exact again I7 n7
    | brk=>obtain ⟨σ7,H7,I7,q7⟩:=q7;exact ⟨σ7,H7,I7.unpinned,q7⟩
    | ret v=>obtain ⟨x7,σ7,H7,I7,r7,q7⟩:=q7;exact ⟨x7,σ7,H7,I7.unpinned,r7,q7⟩
end
end L2
namespace L2
open PySem PySem.Spec PyProof.Rows
abbrev R2:=V→V→Hp→VK→Prop
def OpR (X:Cx) (f:Value→Value→Sem Value) (r:R2):Prop :=
  ∀ (pins:List (Addr × Obj)) (s:Shared) (σ:St) (H:Hp) (x y:V) (v u:Value) (Q:VK),Inv X pins σ H s→RelV x v→RelV y u→r x y H Q →
    wpAny (model X.prog X.w) X.A (f v u) (EP X pins σ Q) X.xe s
def UnR (X:Cx) (f:Value→Sem Value) (r:V→Hp→VK→Prop):Prop :=
  ∀ (pins:List (Addr × Obj)) (s:Shared) (σ:St) (H:Hp) (x:V) (v:Value) (Q:VK),Inv X pins σ H s→RelV x v→r x H Q →
    wpAny (model X.prog X.w) X.A (f v) (EP X pins σ Q) X.xe s
def CallR (X:Cx) (f:Value) (r:List V→Hp→VK→Prop):Prop :=
  ∀ (pins:List (Addr × Obj)) (s:Shared) (σ:St) (H:Hp) (xs:List V) (us:List Value) (Q:VK),Inv X pins σ H s→Vals xs us→r xs H Q →
    wpAny (model X.prog X.w) X.A (call f us) (EP X pins σ Q) X.xe s
def tOp (r:R2) (ta tb:TE):TE:=fun σ H Q=>ta σ H fun x H1=>tb σ H1 fun y H2=>r x y H2 Q
def tUn (r:V→Hp→VK→Prop) (ta:TE):TE:=fun σ H Q=>ta σ H fun x H1=>r x H1 Q
def rI (C:Int→Int→Prop) (g:Int→Int→V):R2:=fun x y H Q=>∃ i j,x=.int i∧y=.int j∧C i j∧Q (g i j) H
def rI0 (g:Int→Int→V):R2:=fun x y H Q=>∃ i j,x=.int i∧y=.int j∧Q (g i j) H
def rU (g:Int→V):V→Hp→VK→Prop:=fun x H Q=>∃ i,x=.int i∧Q (g i) H
section
variable {X:Cx} {a b c:Expr} {ta tb tc:TE} {pos:Pos}
theorem binT (ha:PE X a ta) (hb:PE X b tb) {pins:List (Addr × Obj)} {s:Shared} {σ:St} {H:Hp} {R:V→V→Hp→Prop} (I:Inv X pins σ H s)
    (h:ta σ H fun x H1=>tb σ H1 fun y H2=>R x y H2) {Q:Value→Shared→Prop} {f:Value→Value→Sem Value}
    (hf:∀ v u s2 x y H2,Inv X pins σ H2 s2→RelV x v→RelV y u→R x y H2→wpAny (model X.prog X.w) X.A (f v u) Q X.xe s2) :
    wpAny (model X.prog X.w) X.A (eval a X.env) (fun v s₁=>wpAny (model X.prog X.w) X.A (eval b X.env) (fun u s₂=>wpAny (model X.prog X.w) X.A (f v u) Q X.xe s₂) X.xe s₁) X.xe s:=by
  refine thn (ha pins s σ H _ I h) fun v s1 ⟨x,H1,I1,r1,q1⟩=>?_
  refine thn (hb pins s1 σ H1 _ I1 q1) fun u s2 ⟨y,H2,I2,r2,q2⟩=>?_
  exact hf v u s2 x y H2 I2 r1 r2 q2
theorem pe_op {op:Operator} {r:R2} (ho:OpR X (binaryOp op) r) (ha:PE X a ta) (hb:PE X b tb):PE X (.BinOp a op b pos) (tOp r ta tb):=by
  intro pins s σ H Q I h
  exact wpAny_BinOp (binT ha hb I h fun v u s2 x y H2 I2 rx ry q=>ho pins s2 σ H2 x y v u Q I2 rx ry q)
theorem pe_un {op:UnaryOp} {r:V→Hp→VK→Prop} (ho:UnR X (unaryOp op) r) (ha:PE X a ta):PE X (.UnaryOp op a pos) (tUn r ta):=by
  intro pins s σ H Q I h
  exact UnaryOp_ (thn (ha pins s σ H _ I h) fun v s1 ⟨x,H1,I1,r1,q1⟩=>ho pins s1 σ H1 x v Q I1 r1 q1)
theorem opI {f:Value→Value→Sem Value} {C:Int→Int→Prop} {g:Int→Int→Int}
    (rule:∀ (i j:Int) (t u:Tok) (s:Shared) (Q:Value→Shared→Prop) (E:Value→Shared→Prop),C i j→Q (.int (g i j) s.toks) { s with toks:=s.toks + 1 }→wpAny (model X.prog X.w) X.A (f (.int i t) (.int j u)) Q E s) :
    OpR X f (rI C fun i j=>.int (g i j)):=by
  intro pins s σ H x y v u Q I rx ry h
  obtain ⟨i,j,rfl,rfl,hc,q⟩:=h
  obtain ⟨t,rfl⟩:=rx
  obtain ⟨t',rfl⟩:=ry
  exact rule i j t t' s _ _ hc ⟨.int (g i j),H,I.tok _,⟨_,rfl⟩,q⟩
theorem opI0 {f:Value→Value→Sem Value} {g:Int→Int→Int}
    (rule:∀ (i j:Int) (t u:Tok) (s:Shared) (Q:Value→Shared→Prop) (E:Value→Shared→Prop),Q (.int (g i j) s.toks) { s with toks:=s.toks + 1 }→wpAny (model X.prog X.w) X.A (f (.int i t) (.int j u)) Q E s) :
    OpR X f (rI0 fun i j=>.int (g i j)):=by
  intro pins s σ H x y v u Q I rx ry h
  obtain ⟨i,j,rfl,rfl,q⟩:=h
  obtain ⟨t,rfl⟩:=rx
  obtain ⟨t',rfl⟩:=ry
  exact rule i j t t' s _ _ ⟨.int (g i j),H,I.tok _,⟨_,rfl⟩,q⟩
theorem opB0 {f:Value→Value→Sem Value} {g:Int→Int→Bool}
    (rule:∀ (i j:Int) (t u:Tok) (s:Shared) (Q:Value→Shared→Prop) (E:Value→Shared→Prop),Q (.bool (g i j)) s→wpAny (model X.prog X.w) X.A (f (.int i t) (.int j u)) Q E s) :
    OpR X f (rI0 fun i j=>.bl (g i j)):=by
  intro pins s σ H x y v u Q I rx ry h
  obtain ⟨i,j,rfl,rfl,q⟩:=h
  obtain ⟨t,rfl⟩:=rx
  obtain ⟨t',rfl⟩:=ry
  exact rule i j t t' s _ _ ⟨.bl (g i j),H,I,rfl,q⟩
def CPow (i j:Int):Prop:=0≤j∧j≤1000000∧i.natAbs < 2 ^ 64
theorem op_add:OpR X (binaryOp .Add) (rI0 fun i j=>.int (i + j)):=opI0 fun _ _ _ _ _ _ _ q=>add_int q
theorem op_sub:OpR X (binaryOp .Sub) (rI0 fun i j=>.int (i - j)):=opI0 fun _ _ _ _ _ _ _ q=>sub_int q
theorem op_mod:OpR X (binaryOp .Mod) (rI (fun _ j=>0 < j) fun i j=>.int (i % j)):=opI fun i j _ _ _ _ _ hc q=>by
  have h1:(0:Int) < j:=hc
  exact mod_int' (by omega) (by rw [Int.fmod_eq_emod_of_nonneg i (by omega)];exact q)
theorem op_pow:OpR X (binaryOp .Pow) (rI CPow fun i j=>.int (i ^ j.toNat)):=opI fun _ _ _ _ _ _ _ hc q=>pow_int_small hc.1 hc.2.1 hc.2.2 q
theorem unI {f:Value→Sem Value} {g:Int→Int}
    (rule:∀ (i:Int) (t:Tok) (s:Shared) (Q:Value→Shared→Prop) (E:Value→Shared→Prop),Q (.int (g i) s.toks) { s with toks:=s.toks + 1 }→wpAny (model X.prog X.w) X.A (f (.int i t)) Q E s) :
    UnR X f (rU fun i=>.int (g i)):=by
  intro pins s σ H x v Q I rx h
  obtain ⟨i,rfl,q⟩:=h
  obtain ⟨t,rfl⟩:=rx
  exact rule i t s _ _ ⟨.int (g i),H,I.tok _,⟨_,rfl⟩,q⟩
theorem un_neg:UnR X (unaryOp .USub) (rU fun i=>.int (-i)):=unI fun _ _ _ _ _ q=>neg_int q
end
def scal:V→V→Bool
  | .non,.non=>true | .non,.int _=>true | .int _,.non=>true | .non,.bl _=>true | .bl _,.non=>true | .non,.str _=>true | .str _,.non=>true
  | .int _,.int _=>true | .bl _,.bl _=>true | .str _,.str _=>true | .byt _,.byt _=>true
  | .int _,.str _=>true | .str _,.int _=>true | .bl _,.str _=>true | .str _,.bl _=>true
  | _,_=>false
def rEq:R2:=fun x y H Q=>scal x y=true∧Q (.bl (decide (x=y))) H
def rNe:R2:=fun x y H Q=>scal x y=true∧Q (.bl (!decide (x=y))) H
theorem dec_int {i j:Int}:decide (V.int i=V.int j)=(i == j):=by
  rw [Bool.eq_iff_iff]
  simp
theorem dec_bl {i j:Bool}:decide (V.bl i=V.bl j)=(i == j):=by
  rw [Bool.eq_iff_iff]
  simp
theorem dec_str {i j:Str}:decide (V.str i=V.str j)=(i == j):=by
  rw [Bool.eq_iff_iff]
  simp
theorem dec_byt {i j:Array UInt8}:decide (V.byt i=V.byt j)=(i.toList == j.toList):=by
  rw [Bool.eq_iff_iff]
  cases i
  cases j
  simp
section
variable {X:Cx} {a b c:Expr} {ta tb tc:TE} {pos:Pos}
theorem fin_bl {pins:List (Addr × Obj)} {σ:St} {H:Hp} {s:Shared} {Q:VK} {k k':Bool} (I:Inv X pins σ H s) (q:Q (.bl k) H) (e:k=k'):EP X pins σ Q (.bool k') s:=by
  subst e
  exact ⟨.bl k,H,I,rfl,q⟩
theorem op_eq:OpR X (compareOp .Eq) rEq:=by
  intro pins s σ H x y v u Q I rx ry h
  obtain ⟨hs,q⟩:=h
  cases x with
  | non =>
    cases rx
    cases y with
    | non=>cases ry;exact PySem.EqNone.eq_none_none (fin_bl I q (by simp))
    | bl j=>cases ry;exact PySem.EqNone.eq_none_bool (fin_bl I q (by simp))
    | int j=>obtain ⟨t',rfl⟩:=ry;exact PySem.EqNone.eq_none_int (fin_bl I q (by simp))
    | str j=>obtain ⟨t',rfl⟩:=ry;exact PySem.EqNone.eq_none_str (fin_bl I q (by simp))
    | _=>exact absurd (show false=true from hs) Bool.false_ne_true
  | bl i =>
    cases rx
    cases y with
    | non=>cases ry;exact PySem.EqNone.eq_bool_none (fin_bl I q (by simp))
    | bl j=>cases ry;exact eq_bool (fin_bl I q dec_bl)
    | str j=>obtain ⟨t',rfl⟩:=ry;exact PySem.EqMixed.eq_bool_str (fin_bl I q (by simp))
    | _=>exact absurd (show false=true from hs) Bool.false_ne_true
  | int i =>
    obtain ⟨t,rfl⟩:=rx
    cases y with
    | non=>cases ry;exact PySem.EqNone.eq_int_none (fin_bl I q (by simp))
    | int j=>obtain ⟨t',rfl⟩:=ry;exact eq_int (fin_bl I q dec_int)
    | str j=>obtain ⟨t',rfl⟩:=ry;exact PySem.EqMixed.eq_int_str (fin_bl I q (by simp))
    | _=>exact absurd (show false=true from hs) Bool.false_ne_true
  | str i =>
    obtain ⟨t,rfl⟩:=rx
    cases y with
    | non=>cases ry;exact PySem.EqNone.eq_str_none (fin_bl I q (by simp))
    | bl j=>cases ry;exact PySem.EqMixed.eq_str_bool (fin_bl I q (by simp))
    | int j=>obtain ⟨t',rfl⟩:=ry;exact PySem.EqMixed.eq_str_int (fin_bl I q (by simp))
    | str j=>obtain ⟨t',rfl⟩:=ry;exact eq_str (fin_bl I q dec_str)
    | _=>exact absurd (show false=true from hs) Bool.false_ne_true
  | byt i =>
    obtain ⟨t,rfl⟩:=rx
    cases y with
    | byt j=>obtain ⟨t',rfl⟩:=ry;exact PySem.W.eq_bytes (fin_bl I q dec_byt)
    | _=>exact absurd (show false=true from hs) Bool.false_ne_true
  | _=>cases y <;> exact absurd (show false=true from hs) Bool.false_ne_true
theorem op_ne:OpR X (compareOp .NotEq) rNe:=by
  intro pins s σ H x y v u Q I rx ry h
  obtain ⟨hs,q⟩:=h
  cases x with
  | non =>
    cases rx
    cases y with
    | non=>cases ry;exact PySem.EqNone.ne_none_none (fin_bl I q (by simp))
    | bl j=>cases ry;exact PySem.EqNone.ne_none_bool (fin_bl I q (by simp))
    | int j=>obtain ⟨t',rfl⟩:=ry;exact PySem.EqNone.ne_none_int (fin_bl I q (by simp))
    | str j=>obtain ⟨t',rfl⟩:=ry;exact PySem.EqNone.ne_none_str (fin_bl I q (by simp))
    | _=>exact absurd (show false=true from hs) Bool.false_ne_true
  | bl i =>
    cases rx
    cases y with
    | non=>cases ry;exact PySem.EqNone.ne_bool_none (fin_bl I q (by simp))
    | bl j=>cases ry;exact ne_bool (fin_bl I q (congrArg not dec_bl))
    | str j=>obtain ⟨t',rfl⟩:=ry;exact PySem.EqMixed.ne_bool_str (fin_bl I q (by simp))
    | _=>exact absurd (show false=true from hs) Bool.false_ne_true
  | int i =>
    obtain ⟨t,rfl⟩:=rx
    cases y with
    | non=>cases ry;exact PySem.EqNone.ne_int_none (fin_bl I q (by simp))
    | int j=>obtain ⟨t',rfl⟩:=ry;exact ne_int (fin_bl I q (congrArg not dec_int))
    | str j=>obtain ⟨t',rfl⟩:=ry;exact PySem.EqMixed.ne_int_str (fin_bl I q (by simp))
    | _=>exact absurd (show false=true from hs) Bool.false_ne_true
  | str i =>
    obtain ⟨t,rfl⟩:=rx
    cases y with
    | non=>cases ry;exact PySem.EqNone.ne_str_none (fin_bl I q (by simp))
    | bl j=>cases ry;exact PySem.EqMixed.ne_str_bool (fin_bl I q (by simp))
    | int j=>obtain ⟨t',rfl⟩:=ry;exact PySem.EqMixed.ne_str_int (fin_bl I q (by simp))
    | str j=>obtain ⟨t',rfl⟩:=ry;exact ne_str (fin_bl I q (congrArg not dec_str))
    | _=>exact absurd (show false=true from hs) Bool.false_ne_true
  | byt i =>
    obtain ⟨t,rfl⟩:=rx
    cases y with
    | byt j=>obtain ⟨t',rfl⟩:=ry;exact PySem.W.ne_bytes (fin_bl I q (congrArg not dec_byt))
    | _=>exact absurd (show false=true from hs) Bool.false_ne_true
  | _=>cases y <;> exact absurd (show false=true from hs) Bool.false_ne_true
theorem op_lt:OpR X (compareOp .Lt) (rI0 fun i j=>.bl (decide (i < j))):=opB0 fun _ _ _ _ _ _ _ q=>lt_int q
theorem op_gt:OpR X (compareOp .Gt) (rI0 fun i j=>.bl (decide (j < i))):=opB0 fun _ _ _ _ _ _ _ q=>gt_int q
theorem nomark (b:Expr) {op:CmpOp} (h:op≠.In:=by decide) (h2:op≠.NotIn:=by decide):behindInMarks op b=false:=by
  have e1:(op == CmpOp.In)=false:=by cases op <;> first | rfl | exact absurd rfl h
  have e2:(op == CmpOp.NotIn)=false:=by cases op <;> first | rfl | exact absurd rfl h2
  cases b <;> simp [behindInMarks,e1,e2]
theorem pe_cmpR {op:CmpOp} {r:R2} (ho:OpR X (compareOp op) r) (ha:PE X a ta) (hb:PE X b tb) (hm:behindInMarks op b=false):PE X (.Compare a [op] [b] pos) (tOp r ta tb):=by
  intro pins s σ H Q I h
  exact wpAny_Compare1 (binT ha hb I h fun v u s2 x y H2 I2 rx ry q=>ho pins s2 σ H2 x y v u Q I2 rx ry q) hm
def tTest (t:TE):TT:=fun σ H Q=>t σ H fun x H'=>∃ k,x=.bl k∧Q k H'
theorem pt_cmpR {op:CmpOp} {r:R2} (ho:OpR X (compareOp op) r) (ha:PE X a ta) (hb:PE X b tb) (hm:behindInMarks op b=false):PT X (.Compare a [op] [b] pos) (tTest (tOp r ta tb)):=by
  intro pins s σ H Q I h
  refine wpAny_isTrue_Compare1 (thn (ha pins s σ H _ I h) fun v s1 ⟨x,H1,I1,r1,q1⟩=>thn (hb pins s1 σ H1 _ I1 q1) fun u s2 ⟨y,H2,I2,r2,q2⟩ =>
    thn (ho pins s2 σ H2 x y v u _ I2 r1 r2 q2) fun c s3 ⟨z,H3,I3,r3,k,e,q3⟩=>?_) hm
  subst e
  cases r3
  exact wpAny_truthy_bool ⟨H3,I3,q3⟩
def tChain (r r':R2) (ta tb tc:TE):TE:=fun σ H Q=>ta σ H fun x H1=>tb σ H1 fun y H2=>r x y H2 fun z H3=>∃ k,z=.bl k ∧
  (if k=true then tc σ H3 fun w' H4=>r' y w' H4 Q else Q (.bl false) H3)
theorem line63:(sizeLine:Nat) < 2 ^ 63:=by rw [sizeLine_eq];decide
theorem op_add_str:OpR X (binaryOp .Add) (fun x y H Q=>∃ i j,x=.str i∧y=.str j∧i.length + j.length≤sizeLine∧Q (.str (i ++ j)) H):=by
  intro pins s σ H x y v u Q I rx ry h
  obtain ⟨i,j,rfl,rfl,hz,q⟩:=h
  obtain ⟨t,rfl⟩:=rx
  obtain ⟨t',rfl⟩:=ry
  exact add_str (fun t' tk=>⟨.str (i ++ j),H,I.tok _,⟨_,rfl⟩,q⟩) hz
theorem vals1 {x:V} {us:List Value} (r:Vals [x] us):∃ u,us=[u]∧RelV x u:=by
  cases r with
  | cons r1 r2=>cases r2;exact ⟨_,rfl,r1⟩
theorem vals2 {x y:V} {us:List Value} (r:Vals [x,y] us):∃ u w',us=[u,w']∧RelV x u∧RelV y w':=by
  cases r with
  | cons r1 r2 =>
    cases r2 with
    | cons r3 r4=>cases r4;exact ⟨_,_,rfl,r1,r3⟩
def LenV (K:PySem.W.Frag) (x:V) (H:Hp) (n:Nat):Prop :=
  match x with
  | .str y=>y.length≤sizeLine∧n=y.length
  | .byt y=>y.size≤sizeLine∧n=y.size
  | .ref p=>(∃ xs,SqL K H p xs∧n=xs.length)∨∃ xs,SqT K H p xs∧n=xs.length
  | _=>False
theorem call_len:CallR X (.builtin "len") (fun xs H Q=>∃ x n,xs=[x]∧LenV X.K x H n∧Q (.int n) H):=by
  intro pins s σ H xs us Q I r h
  obtain ⟨x,n,rfl,e,q⟩:=h
  obtain ⟨u,rfl,rx⟩:=vals1 r
  have hl:=line63
  have hs:sizeLine=16777216:=sizeLine_eq
  cases x with
  | str y =>
    obtain ⟨t,rfl⟩:=rx
    obtain ⟨hy,e'⟩:y.length≤sizeLine∧n=y.length:=e
    subst e'
    exact len_str (by omega) ⟨.int _,H,I.tok _,⟨_,rfl⟩,q⟩
  | byt y =>
    obtain ⟨t,rfl⟩:=rx
    obtain ⟨hy,e'⟩:y.size≤sizeLine∧n=y.size:=e
    subst e'
    exact PySem.W.len_bytes (by omega) ⟨.int _,H,I.tok _,⟨_,rfl⟩,q⟩
  | ref p =>
    cases rx
    have e':(∃ xs,SqL X.K H p xs∧n=xs.length)∨∃ xs,SqT X.K H p xs∧n=xs.length:=e
    rcases e' with ⟨xs,hx,e'⟩ | ⟨xs,hx,e'⟩
    · subst e'
      obtain ⟨its,r',pl,hz⟩:=I.list hx
      have hlen:=r'.length
      exact Calls.call_len_list pl.isList (by simp only [List.size_toArray];omega) ⟨.int xs.length,H,I.tok _,⟨_,by simp only [List.size_toArray];rw [hlen]⟩,q⟩
    · subst e'
      obtain ⟨its,r',pl,hz⟩:=I.tuple hx
      have hlen:=r'.length
      exact len_tuple pl (by simp only [List.size_toArray];omega) ⟨.int xs.length,H,I.tok _,⟨_,by simp only [List.size_toArray];rw [hlen]⟩,q⟩
  | _=>exact (show False from e).elim
end
end L2
namespace L2
open PySem PySem.Spec PyProof.Rows
structure ObjM (h:Heap) (x dx C:Addr) (mA:Str→Option Value):Prop where
  obj:h.get? x=some (PySem.W.instObj C dx)
  ns:h.Ns1 dx mA
  ne:dx≠x
theorem lookIn_ns {h:Heap} {dx:Addr} {mA:Str→Option Value} (n:h.Ns1 dx mA):∃ od,h.get? dx=some od∧∀ name,PySem.W.lookIn name od=some (mA name):=by
  obtain ⟨o,es,ep,ho,hd,hk,_,hm⟩:=n
  refine ⟨o,ho,fun name=>?_⟩
  have e:=hm name
  unfold nsFind findBy at e
  rw [← Array.find?_toList] at e
  unfold PySem.W.lookIn
  rw [hd]
  dsimp only
  split
  · rename_i y q
    rw [q] at e
    exact congrArg some e
  · rename_i q
    rw [q] at e
    have a:es.toList.any (·.refKey)=false:=by
      rw [List.any_eq_false]
      intro y hy
      obtain ⟨z,t,hkey⟩:=hk y (Array.mem_toList_iff.mp hy)
      simp [DictEntry.refKey,hkey]
    have a':¬ es.toList.any (·.refKey)=true:=by rw [a];exact Bool.false_ne_true
    rw [if_neg a']
    exact congrArg some e
theorem ObjM.look {h:Heap} {x dx C:Addr} {mA:Str→Option Value} (I:ObjM h x dx C mA):∃ od,PySem.W.InstAt h x (PySem.W.instObj C dx) C (some od)∧∀ name,PySem.W.lookIn name od=some (mA name) :=
  let ⟨od,ho,hl⟩:=lookIn_ns I.ns
  ⟨od,⟨I.obj,rfl,rfl,ho⟩,hl⟩
section
variable {prog:Program} {w:World} {A:Around} {E:Value→Shared→Prop} {s:Shared} {K:PySem.W.Frag} {x dx C f:Addr} {mA:Str→Option Value} {name:Str} {v:Value}
end
def putF (f:Str) (v:V):List (Str × V)→List (Str × V)
  | []=>[(f,v)]
  | (g,x) :: r=>if g=f then (g,v) :: r else (g,x) :: putF f v r
section
variable {P:Program} {w:World} {H H':Hp} {h h':Heap} {a C dx:Addr} {fs fs':List (Str × V)}
theorem ins_get (hok:HOk P w H h) (e:H a=some (.ins C dx fs)):∃ mA,ObjM h a dx C mA∧(∀ f,RelO (fs.lookup f) (mA f))∧PySem.Within mA (fs.map (·.1))∧fs.length≤1000∧H dx=some (.own a):=by
  obtain ⟨d,z,ne,ob,mA,n,r,q⟩:=(show ObjOk P w H h a (.ins C dx fs) from hok a _ e)
  exact ⟨mA,⟨ob,n,ne⟩,r,q,z,d⟩
end
structure Cls (K:PySem.W.Frag) (C:Addr):Prop where
  pg:PySem.W.plainGet K C Str.empty=true
  hd:PySem.W.hasDictIn K C=true
  po:PySem.W.plainOver K C=true
  sa:PySem.W.findIn K (.ref C) "__setattr__"=some (some (.builtin "object.__setattr__"))
theorem Cls.get {K:PySem.W.Frag} {C:Addr} (c:Cls K C) (f:Str):PySem.W.plainGet K C f=true:=c.pg
def NoAttr (K:PySem.W.Frag) (C:Addr) (f:Str):Prop:=PySem.W.findIn K (.ref C) f=some none
section
variable {X:Cx} {pins:List (Addr × Obj)} {σ:St} {H:Hp} {s:Shared} {a C dx:Addr} {fs:List (Str × V)} {f:Str} {v:V} {A:Around} {E:Value→Shared→Prop}
end
def tFld (K:PySem.W.Frag) (ta:TE) (f:Str):TE:=fun σ H Q=>ta σ H fun x H1=>∃ a C dx fs v,x=.ref a∧H1 a=some (.ins C dx fs)∧Cls K C∧NoAttr K C f∧fs.lookup f=some v∧Q v H1
def sFld (K:PySem.W.Frag) (ta tv:TE) (f:Str):TS:=fun D σ H=>tv σ H fun y H1=>ta σ H1 fun x H2=>∃ a C dx fs,x=.ref a∧H2 a=some (.ins C dx fs)∧Cls K C∧NoAttr K C f∧fs.length < 1000 ∧
  D.nx σ (upd H2 a (.ins C dx (putF f y fs)))
def sFldAug (K:PySem.W.Frag) (ta tv:TE) (rd:V→V→Hp→VK→Prop) (f:Str):TS:=fun D σ H=>ta σ H fun x H1=>∃ a C dx fs v,x=.ref a∧H1 a=some (.ins C dx fs)∧Cls K C∧NoAttr K C f∧fs.lookup f=some v ∧
  tv σ H1 fun y H2=>rd v y H2 fun z H3=>∃ dx' fs',H3 a=some (.ins C dx' fs')∧fs'.length < 1000∧D.nx σ (upd H3 a (.ins C dx' (putF f z fs')))
section
variable {X:Cx} {o e value:Expr} {f:Str} {pos pos' tpos:Pos} {ta tv:TE}
def rAdd:V→V→Hp→VK→Prop:=fun x y H Q=>∃ i j,x=.int i∧y=.int j∧Q (.int (i + j)) H
end
section
variable {X:Cx} {pins:List (Addr × Obj)} {σ:St} {H:Hp} {s:Shared} {A:Around} {E:Value→Shared→Prop} {Q:Value→Shared→Prop} {c:Value} {b:Bool}
inductive TyOf (K:PySem.W.Frag) (H:Hp):V→Value→Prop where
  | non:TyOf K H .non (.type "NoneType")
  | bl (x:Bool):TyOf K H (.bl x) (.type "bool")
  | int (i:Int):TyOf K H (.int i) (.type "int")
  | str (x:Str):TyOf K H (.str x) (.type "str")
  | flt (x:UInt64):TyOf K H (.flt x) (.type "float")
  | lst {a:Addr} {xs:List V} (e:H a=some (.lst xs)):TyOf K H (.ref a) (.type "list")
  | frz {a:Addr} {o:Obj} {xs:List V} (e:H a=some (.frz o (.lst xs))):TyOf K H (.ref a) (.type "list")
  | tup {a:Addr} {xs:List V} (e:H a=some (.tup xs)):TyOf K H (.ref a) (.type "tuple")
  | dK {a:Addr} {kvs:List (Key × V)} (e:H a=some (.dK kvs)):TyOf K H (.ref a) (.type "dict")
  | dT {a:Addr} {kvs:List (List Key × V)} (e:H a=some (.dT kvs)):TyOf K H (.ref a) (.type "dict")
  | ins {a C dx:Addr} {fs:List (Str × V)} (e:H a=some (.ins C dx fs)) (cl:Cls K C) (ha:PySem.W.findIn K (.ref C) "__class__"=some (some (.builtin "object.__class__")))
      (hn:PySem.W.specialIn K (.builtin "object.__class__") "__get__"=some (some (.builtin "getset_descriptor.__get__"))) (htk:PySem.W.takesIn K (.builtin "object.__class__")=some true)
      (hm:PySem.W.mroIn K C (.type "object")=some true):TyOf K H (.ref a) (.ref C)
theorem isinst_ok {x:V} {u t:Value} (I:Inv X pins σ H s) (rx:RelV x u) (ty:TyOf X.K H x t) (e:PySem.W.kitOne X.K t c=some b) (h:∀ tk,Q (.bool b) { s with toks:=tk }) :
    wpAny (model X.prog X.w) A (call (.builtin "isinstance") [u,c]) Q E s:=by
  cases ty with
  | non=>cases (show u=Value.none from rx);exact PySem.W.kia_one PySem.W.kitx_none I.kIn True.intro e (fun z=>nomatch z) h
  | bl y=>cases (show u=Value.bool y from rx);exact PySem.W.kia_one PySem.W.kitx_bool I.kIn True.intro e (fun z=>nomatch z) h
  | int i=>obtain ⟨t,q⟩:=(show ∃ t,u=Value.int i t from rx);cases q;exact PySem.W.kia_one PySem.W.kitx_int I.kIn True.intro e (fun z=>nomatch z) h
  | str y=>obtain ⟨t,q⟩:=(show ∃ t,u=Value.str y t from rx);cases q;exact PySem.W.kia_one PySem.W.kitx_str I.kIn True.intro e (fun z=>nomatch z) h
  | flt y=>obtain ⟨t,q⟩:=(show ∃ t,u=Value.float y t from rx);cases q;exact PySem.W.kia_one PySem.W.kitx_float I.kIn True.intro e (fun z=>nomatch z) h
  | @lst a xs ea =>
    cases (show u=Value.ref a from rx)
    obtain ⟨_,_,n,_,h1⟩:=(show ObjOk X.prog X.w H s.heap a (.lst xs) from I.hok a _ ea)
    exact PySem.W.kia_one PySem.W.kitx_list I.kIn ⟨_,h1,rfl⟩ e (fun z=>nomatch z) h
  | @frz a ob xs ea =>
    cases (show u=Value.ref a from rx)
    obtain ⟨_,_,_,n,_,h1⟩:=(show ObjOk X.prog X.w H s.heap a (.frz ob (.lst xs)) from I.hok a _ ea)
    exact PySem.W.kia_one PySem.W.kitx_list I.kIn ⟨_,h1,rfl⟩ e (fun z=>nomatch z) h
  | @tup a xs ea =>
    cases (show u=Value.ref a from rx)
    obtain ⟨_,_,_,p⟩:=(show ObjOk X.prog X.w H s.heap a (.tup xs) from I.hok a _ ea)
    obtain ⟨o,h1,h2,_⟩:=p
    exact PySem.W.kia_one PySem.W.kitx_tuple I.kIn ⟨o,h1,h2⟩ e (fun z=>nomatch z) h
  | @dK a kvs ea =>
    cases (show u=Value.ref a from rx)
    obtain ⟨_,_,vs,_,p⟩:=(show ObjOk X.prog X.w H s.heap a (.dK kvs) from I.hok a _ ea)
    obtain ⟨o,es,ep,h1,h2,_⟩:=p
    exact PySem.W.kia_one PySem.W.kitx_dict I.kIn ⟨o,h1,h2.1⟩ e (fun z=>nomatch z) h
  | @dT a kvs ea =>
    cases (show u=Value.ref a from rx)
    obtain ⟨_,_,xs,_,o,es,ep,h1,h2,_⟩:=(show ObjOk X.prog X.w H s.heap a (.dT kvs) from I.hok a _ ea)
    exact PySem.W.kia_one PySem.W.kitx_dict I.kIn ⟨o,h1,h2.1⟩ e (fun z=>nomatch z) h
  | @ins a C dx fs ea cl ha hn htk hm =>
    cases (show u=Value.ref a from rx)
    obtain ⟨mA,O,_⟩:=ins_get I.hok ea
    obtain ⟨od,J,_⟩:=O.look
    exact PySem.W.kia_one (PySem.W.kitx_own (cl.get _) cl.hd ha hn htk hm) I.kIn J e (fun z=>nomatch z) h
end
end L2
namespace L2
open PySem PySem.Spec PyProof.Rows
structure Room (k:Nat) (A:Around):Prop where
  hd:A.handled=none
  dp:A.depth + 3 * k + 5 < recursionLimit
  un:A.units + 16 * k + 200 < cLine
theorem Room.mono {j k:Nat} {A:Around} (r:Room k A) (h:j≤k):Room j A:=⟨r.hd,by have:=r.dp;omega,by have:=r.un;omega⟩
theorem Room.deeper {k:Nat} {A:Around} (r:Room (k + 1) A) (env:Env):Room k (A.deeper env) :=
  ⟨r.hd,by have:=r.dp;show A.depth + 1 + 3 * k + 5 < _;omega,by have:=r.un;show A.units + 3 + 16 * k + 200 < _;omega⟩
theorem Room.depth {k:Nat} {A:Around} (r:Room k A):A.depth < recursionLimit:=by have:=r.dp;omega
theorem Room.units {k:Nat} {A:Around} (r:Room k A):A.units + 64 < cLine:=by have:=r.un;omega
def tNil:TA:=fun _ H Q=>Q [] H
def tCons (ta:TE) (tr:TA):TA:=fun σ H Q=>ta σ H fun x H1=>tr σ H1 fun xs H2=>Q (x :: xs) H2
section
variable {X:Cx} {e:Expr} {es:List Expr} {te:TE} {t:TA} {pos:Pos}
theorem pa_nil:PA X [] tNil:=fun _ _ _ _ H Q I h=>Calls.spliced_nil ⟨[],H,I,.nil,h⟩
theorem pa_cons (ha:PE X e te) (hr:PA X es t) (hs:starEach (e :: es) X.env=(false,eval e X.env) :: starEach es X.env:=by rfl):PA X (e :: es) (tCons te t):=by
  intro pos pins s σ H Q I h
  rw [hs]
  show wpAny _ _ (spliced ((false,eval e X.env) :: backTo pos (starEach es X.env))) _ _ s
  refine Calls.spliced_cons (thn (ha pins s σ H _ I h) fun u s1 ⟨x,H1,I1,r1,q1⟩=>?_)
  exact thn (hr pos pins s1 σ H1 _ I1 q1) fun us s2 ⟨xs,H2,I2,r2,q2⟩=>⟨x :: xs,H2,I2,.cons r1 r2,q2⟩
def tTup (t:TA):TE:=fun σ H Q=>t σ H fun xs H1=>xs.length≤sizeLine∧∀ p,H1 p=none→Q (.ref p) (upd H1 p (.tup xs))
def tLst (t:TA):TE:=fun σ H Q=>t σ H fun xs H1=>xs.length≤sizeLine∧∀ p,H1 p=none→Q (.ref p) (upd H1 p (.lst xs))
theorem pe_tup {x1} (h:PA X es t):PE X (.Tuple es x1 pos) (tTup t):=by
  intro pins s σ H Q I hq
  refine wpAny_Tuple_spliced (thn (h pos pins s σ H _ I hq) fun us s1 ⟨xs,H1,I1,r,z,q⟩=>⟨by rw [← r.length];exact z,?_⟩)
  have hf:H1 s1.heap.objs.size=none:=I1.hok.fresh (Nat.le_refl _)
  refine ⟨.ref s1.heap.objs.size,upd H1 s1.heap.objs.size (.tup xs),I1.laid (t':=s1.toks) (fun b u e=>Heap.get?_push_of_some _ e) (Nat.le_refl _) ?_,rfl,q _ hf⟩
  exact ⟨z,us,r,⟨_,Heap.get?_push_size _ rfl,rfl,_,rfl⟩⟩
theorem pe_lst (h:PA X es t):PE X (.List es pos) (tLst t):=by
  intro pins s σ H Q I hq
  refine wpAny_List_spliced (thn (h pos pins s σ H _ I hq) fun us s1 ⟨xs,H1,I1,r,z,q⟩=>⟨by rw [← r.length];exact z,?_⟩)
  have hf:H1 s1.heap.objs.size=none:=I1.hok.fresh (Nat.le_refl _)
  refine ⟨.ref s1.heap.objs.size,upd H1 s1.heap.objs.size (.lst xs),I1.laid (t':=s1.toks) (fun b u e=>Heap.get?_push_of_some _ e) (Nat.le_refl _) ?_,rfl,q _ hf⟩
  exact ⟨z,us,0,r,Heap.get?_push_size _ rfl⟩
end
abbrev Sp:=List V→Hp→VK→XK→Prop
abbrev CXT:=List Env→Hp→Shared→XK→Value→Shared→Prop
structure Env0 (P:Program) (w:World) (K:PySem.W.Frag) (mg:Str→Option Value) (base:Heap) (A:Around) (outer:List Env) (s:Shared) (H:Hp):Prop where
  frames:A.frames=some outer
  mod:Mod K mg base
  bs:∀ b o,base.get? b=some o→s.heap.get? b=some o∧H b=none
  bsz:base.objs.size≤s.heap.objs.size
  funs:s.heap.FunFrames base outer
  frf:∀ b∈frs outer,H b=none
  hok:HOk P w H s.heap
  bare:AllBare s.gens
def CE (outer:List Env) (P:Program) (w:World) (H:Hp) (s:Shared) (Q:VK) (u:Value) (s':Shared):Prop :=
  ∃ v H',s'.os=s.os∧AllBare s'.gens∧Un (frs outer) [] H H' s.heap s'.heap∧HOk P w H' s'.heap∧RelV v u∧Q v H'
def CR (CX:CXT) (outer:List Env) (P:Program) (w:World) (H:Hp) (s:Shared) (Q:VK) (E:XK) (r:Result) (s':Shared):Prop :=
  match r with
  | .ok (.ret u)=>CE outer P w H s Q u s'
  | .ok _=>False
  | .error e=>CX outer H s E e s'
structure FnOk (P:Program) (w:World) (K:PySem.W.Frag) (mg:Str→Option Value) (base:Heap) (CX:CXT) (k:Nat) (f:Addr) (fd:FuncData) (ps:List Str) (sp:Sp):Prop where
  len:∀ vs H Q E,sp vs H Q E→vs.length=ps.length
  run:∀ (A:Around) (outer:List Env) (s:Shared) (H:Hp) (args:Args) (us:List Value) (vs:List V) (Q:VK) (E:XK),Room k A→Env0 P w K mg base A outer s H→BindsTo s fd args (ps.zip us)→Vals vs us→sp vs H Q E →
    codeAny (model P w) A (.call (.ref f) args) (CR CX outer P w H s Q E) s
theorem FnOk.mono {P:Program} {w:World} {K:PySem.W.Frag} {mg:Str→Option Value} {base:Heap} {CX:CXT} {j k:Nat} {f:Addr} {fd:FuncData} {ps:List Str} {sp:Sp} (F:FnOk P w K mg base CX j f fd ps sp) (h:j≤k) :
    FnOk P w K mg base CX k f fd ps sp:=⟨F.len,fun A outer s H args us vs Q E hr=>F.run A outer s H args us vs Q E (hr.mono h)⟩
section
variable {X:Cx} {pins:List (Addr × Obj)} {σ:St} {H:Hp} {s s':Shared}
theorem Inv.env0 (I:Inv X pins σ H s):Env0 X.prog X.w X.K X.mg X.base X.A X.stack s H :=
  ⟨I.ok.frames,I.ok.mod,I.bs,Nat.le_trans I.ok.bsz I.sz,I.stack,I.stkFree,I.hok,I.bare⟩
theorem Inv.after {Q:VK} {u:Value} (I:Inv X pins σ H s) (h:CE X.stack X.prog X.w H s Q u s'):EP X pins σ Q u s':=by
  obtain ⟨v,H',os,bare,un,hok,r,q⟩:=h
  obtain ⟨hh,g,d,t,os'⟩:=s'
  obtain rfl:os'=s.os:=os
  exact ⟨v,H',I.call (h':=hh) (g':=g) (d':=d) (t':=t) (ch:=[]) un hok bare (fun b z=>absurd z (by simp)),r,q⟩
end
def tCall (sp:Sp) (dvs:List V) (E:XK) (t:TA):TE:=fun σ H Q=>t σ H fun vs H1=>sp (vs ++ dvs) H1 Q E
def tMeth (C:Addr) (m:Str) (sp:Sp) (dvs:List V) (E:XK) (ta:TE) (t:TA):TE:=fun σ H Q=>ta σ H fun x H1=>∃ a dx fs,x=.ref a∧H1 a=some (.ins C dx fs)∧fs.lookup m=none ∧
  t σ H1 fun vs H2=>sp (x :: (vs ++ dvs)) H2 Q E
def tMake (C:Addr) (sp:Sp) (dvs:List V) (E:XK) (t:TA):TE:=fun σ H Q=>t σ H fun vs H1=>∀ x dx,H1 x=none→H1 dx=none→dx≠x →
  sp (.ref x :: (vs ++ dvs)) (upd (upd H1 dx (.own x)) x (.ins C dx [])) (fun v H2=>v=.non∧Q (.ref x) H2) E
def Binds (K:PySem.W.Frag) (fd:FuncData) (ps:List Str) (ds:List Value):Prop :=
  ∀ (s:Shared) (us:List Value),K.In s.heap→(us ++ ds).length=ps.length→BindsTo s fd ⟨us,[]⟩ (ps.zip (us ++ ds))
theorem Binds.all {K:PySem.W.Frag} {fd:FuncData} {ps:List Str} (h:∀ us:List Value,us.length=ps.length→bindArgs fd ⟨us,[]⟩=pure (ps.zip us)):Binds K fd ps []:=fun s us _ hl=>by
  rw [List.append_nil] at hl ⊢
  exact .of_eq (h us hl)
def Passes (CX:CXT) (X:Cx) (E:XK):Prop:=∀ (pins:List (Addr × Obj)) (σ:St) (H:Hp) (s:Shared) (e:Value) (s':Shared),Inv X pins σ H s→CX X.stack H s E e s'→X.xe e s'
section
variable {X:Cx} {CX:CXT} {k:Nat} {f C:Addr} {fd:FuncData} {ps:List Str} {sp:Sp} {dvs:List V} {ds:List Value} {E:XK} {x m:Str} {p pos apos:Pos} {e o:Expr} {es:List Expr} {ta:TE} {t:TA}
theorem run_fn {pins:List (Addr × Obj)} {σ:St} {H:Hp} {s:Shared} {Q:VK} {us:List Value} {vs:List V} (F:FnOk X.prog X.w X.K X.mg X.base CX k f fd ps sp) (hr:Room k X.A) (hb:Binds X.K fd ps ds) (hd:Vals dvs ds) (hx:Passes CX X E)
    (I:Inv X pins σ H s) (r:Vals vs us) (h:sp (vs ++ dvs) H Q E):wpAny (model X.prog X.w) X.A (call (.ref f) us) (EP X pins σ Q) X.xe s:=by
  have r2:Vals (vs ++ dvs) (us ++ ds):=r.append hd
  have hl:(us ++ ds).length=ps.length:=by rw [← r2.length];exact F.len _ _ _ _ h
  refine wpAny_call (codeAny_mono (F.run X.A X.stack s H ⟨us,[]⟩ (us ++ ds) (vs ++ dvs) Q E hr I.env0 (hb s us I.kIn hl) r2 h) fun r s' hq=>?_)
  cases r with
  | error e=>exact hx pins σ H s e s' I hq
  | ok fl =>
    cases fl with
    | ret u=>exact I.after hq
    | next=>exact False.elim hq
    | brk=>exact False.elim hq
    | cont=>exact False.elim hq
theorem pe_call (F:FnOk X.prog X.w X.K X.mg X.base CX k f fd ps sp) (hr:Room k X.A) (hg:Gl X x) (hm:X.mg x=some (.ref f)) (hk:PySem.W.keepIn X.K (.ref f)=true) (hb:Binds X.K fd ps ds) (hd:Vals dvs ds) (hx:Passes CX X E)
    (ha:PA X (e :: es) t) (hdb:(x == ("__debug__":Str))=false:=by decide) (he:starEach (e :: es) X.env=(false,eval e X.env) :: starEach es X.env:=by rfl) (hpl:(backTo pos (starEach es X.env)).any (·.1)=false:=by rfl) :
    PE X (.Call (.Name x p) (e :: es) [] pos) (tCall sp dvs E t):=by
  intro pins s σ H Q I h
  refine wpAny_Call_Name_kw (ld_glob I hg hm ?_ hdb)
  refine PySem.W.callWith_K (h₀:=X.base) I.ok.mod.kin hk (thn (ha pos pins s σ H _ I h) fun us s1 ⟨vs,H1,I1,r,q⟩=>⟨I1.kIn,?_⟩) he hpl
  exact run_fn F hr hb hd hx I1 r q
end
section
variable {X:Cx} {CX:CXT} {k:Nat} {f C:Addr} {fd:FuncData} {ps ks:List Str} {sp:Sp} {E:XK} {x m:Str} {p pos apos kpos:Pos} {e o:Expr} {es:List Expr} {kws:List Keyword} {te ta:TE} {t tk:TA} {nm:Option Str}
variable {g:List Value→List Value→List Value} {gV:List V→List V→List V}
end
structure FnScope (N P:List Str) (sc:Scope):Prop where
  kind:sc.kind=.function
  co:sc.isCoroutine=false
  gen:sc.isGenerator=false
  nd:N.Nodup
  pre:N.take P.length=P
  par:∀ x∈P,sc.names.lookup x=some .local∨sc.names.lookup x=some .cell
  nofree:∀ y∈sc.names,y.2≠.free
theorem bindL_out {kindOf:Str→Option NameKind} {x:Str}:∀ {binds:List (Str × Value)} {m:Str→Option Value},(∀ v,(x,v) ∉ binds)→bindL kindOf binds m x=m x
  | [],_,_=>rfl
  | (n,v) :: r,m,h=>by
    unfold bindL
    rw [bindL_out fun w hw=>h w (List.mem_cons_of_mem _ hw)]
    split
    · have:x≠n:=by rintro rfl;exact h v List.mem_cons_self
      simp [this]
    · rfl
theorem bindC_out {kindOf:Str→Option NameKind} {x:Str}:∀ {binds:List (Str × Value)} {m:Str→Option Value},(∀ v,(x,v) ∉ binds)→bindC kindOf binds m x=m x
  | [],_,_=>rfl
  | (n,v) :: r,m,h=>by
    unfold bindC
    rw [bindC_out fun w hw=>h w (List.mem_cons_of_mem _ hw)]
    split
    · rfl
    · have:x≠n:=by rintro rfl;exact h v List.mem_cons_self
      simp [this]
theorem bindL_get {kindOf:Str→Option NameKind} {x:Str} {v:Value}:∀ {P:List Str} {vs:List Value} {i:Nat} {m:Str→Option Value},P.Nodup→P[i]?=some x→vs[i]?=some v→kindOf x=some .local →
    bindL kindOf (P.zip vs) m x=some v
  | [],_,_,_,_,h,_,_=>by simp at h
  | _ :: _,[],_,_,_,_,h,_=>by simp at h
  | p :: P,w :: vs,0,m,nd,h1,h2,hk=>by
    simp at h1 h2;subst h1;subst h2
    show bindL kindOf ((p,w) :: P.zip vs) m p=_
    unfold bindL
    rw [bindL_out fun v hv=>(List.nodup_cons.mp nd).1 (List.of_mem_zip hv).1,if_pos hk]
    simp
  | p :: P,w :: vs,i + 1,m,nd,h1,h2,hk=>by
    show bindL kindOf ((p,w) :: P.zip vs) m x=_
    unfold bindL
    exact bindL_get (i:=i) (List.nodup_cons.mp nd).2 (by simpa using h1) (by simpa using h2) hk
theorem bindC_get {kindOf:Str→Option NameKind} {x:Str} {v:Value}:∀ {P:List Str} {vs:List Value} {i:Nat} {m:Str→Option Value},P.Nodup→P[i]?=some x→vs[i]?=some v→kindOf x≠some .local →
    bindC kindOf (P.zip vs) m x=some v
  | [],_,_,_,_,h,_,_=>by simp at h
  | _ :: _,[],_,_,_,_,h,_=>by simp at h
  | p :: P,w :: vs,0,m,nd,h1,h2,hk=>by
    simp at h1 h2;subst h1;subst h2
    show bindC kindOf ((p,w) :: P.zip vs) m p=_
    unfold bindC
    rw [bindC_out fun v hv=>(List.nodup_cons.mp nd).1 (List.of_mem_zip hv).1,if_neg hk]
    simp
  | p :: P,w :: vs,i + 1,m,nd,h1,h2,hk=>by
    show bindC kindOf ((p,w) :: P.zip vs) m x=_
    unfold bindC
    exact bindC_get (i:=i) (List.nodup_cons.mp nd).2 (by simpa using h1) (by simpa using h2) hk
def start (N:List Str) (vs:List V):St:=vs.map some ++ List.replicate (N.length - vs.length) none
def cxOf (CX:CXT) (P:Program) (w:World) (K:PySem.W.Frag) (mg:Str→Option Value) (base:Heap) (N:List Str) (qual:Str) (scope:Scope) (f:Addr) (cd:Value) (A:Around) (outer:List Env) (s:Shared) (H:Hp) (E:XK):Cx where
  prog:=P
  w:=w
  K:=K
  mg:=mg
  base:=base
  A:=A.deeper (envOfC qual scope s.heap.objs.size f cd)
  N:=N
  s₀:=s
  H₀:=H
  env:=envOfC qual scope s.heap.objs.size f cd
  outer:=outer
  stack:=envOfC qual scope s.heap.objs.size f cd :: outer
  ex:=[]
  calm:=true
  fn:=fun _=>true
  pn:=[]
  xe:=fun e s'=>wpAny (model P w) (A.deeper (envOfC qual scope s.heap.objs.size f cd)) (leaving (envOfC qual scope s.heap.objs.size f cd) e) (fun _ s''=>CX outer H s E e s'') (fun e' s''=>CX outer H s E e' s'') s'
theorem cell_has {sc:Scope} {n:Nat} {x:Str} (h:sc.names.lookup x=some .cell):∃ c,(cellsFrom n sc.names []).lookup x=some c:=by
  have q:=PySem.W.cellsFrom_some sc.names n [] (.inl h)
  exact Option.isSome_iff_exists.mp q
theorem inv_start {CX:CXT} {P:Program} {w:World} {K:PySem.W.Frag} {mg:Str→Option Value} {base:Heap} {N ps:List Str} {qual:Str} {scope:Scope} {f:Addr} {cd:Value} {A:Around} {outer:List Env} {s s1:Shared} {H:Hp} {E:XK} {us:List Value} {vs:List V}
    (S:FnScope N ps scope) (hd:A.handled=none) (e0:Env0 P w K mg base A outer s H) (hl:vs.length=ps.length) (r:Vals vs us)
    (x:InCallC s s.heap.objs.size (bindL (envOfC qual scope s.heap.objs.size f cd).kindOf (ps.zip us) fun _=>none) (cellsFrom (s.heap.objs.size + 1) scope.names []) (bindC (envOfC qual scope s.heap.objs.size f cd).kindOf (ps.zip us) fun _=>none) s1) :
    Inv (cxOf CX P w K mg base N qual scope f cd A outer s H E) [] (start N vs) H s1:=by
  have hpl:ps.length≤N.length:=by have:=congrArg List.length S.pre;rw [List.length_take] at this;omega
  obtain ⟨h1,tk,rfl,hk⟩:=x.done
  have noA:∀ b:Addr,b ∉ (cxOf CX P w K mg base N qual scope f cd A outer s H E).ex:=fun b z=>absurd (show b∈([]:List Addr) from z) (by simp)
  refine ⟨⟨e0.mod,S.kind,rfl,rfl,Nat.le_refl _,fun y z c h1 h2=>?_,fun y hy=>?_,fun y c _ h=>?_,fun _=>hd,Around.frames_deeper e0.frames,.inr ⟨rfl,rfl⟩,fun b z=>absurd z (noA b),e0.bs,e0.bsz,fun b _ _=>noA b,fun b z=>absurd z (noA b),e0.funs,e0.frf⟩,
    rfl,e0.bare,Un.kept hk,⟨_,x.toInCall.ns,fun i y v h1 h2 h3=>?_⟩,fun y c h=>⟨_,x.cell y c h⟩,e0.hok.fresh (Nat.le_refl _),fun y c h=>?_,fun p hp=>absurd (show p∈([]:List (Addr × Obj)) from hp) (by simp),e0.hok.kept hk,?_⟩
  · exact name_of_addr x.apart (PySem.mem_of_lookup h1) (PySem.mem_of_lookup h2)
  · have hy:scope.names.lookup y=some .cell∨scope.names.lookup y=some .free:=hy
    rcases hy with hy | hy
    · exact cell_has hy
    · exact absurd rfl (S.nofree _ (PySem.mem_of_lookup hy))
  · exact Nat.le_of_lt (x.above y c (PySem.mem_of_lookup h))
  · have hi:i < vs.length:=by
      unfold start at h2
      by_cases hi:i < vs.length
      · exact hi
      · rw [List.getElem?_append_right (by simpa using hi)] at h2
        rw [List.getElem?_replicate] at h2
        split at h2 <;> cases h2
    have ha:vs[i]?=some v:=by
      unfold start at h2
      rw [List.getElem?_append_left (by simpa using hi),List.getElem?_map] at h2
      cases e:vs[i]? with
      | none=>rw [e] at h2;cases h2
      | some a=>rw [e] at h2;cases h2;rfl
    obtain ⟨u,hu,rv⟩:=r.get ha
    have hp:ps[i]?=some y:=by
      rw [← S.pre,List.getElem?_take_of_lt (by omega)];exact h1
    have ndP:ps.Nodup:=by rw [← S.pre];exact S.nd.sublist (List.take_sublist _ _)
    refine ⟨u,rv,?_⟩
    rcases S.par y (List.mem_of_getElem? hp) with k | k
    · exact .inl ⟨k,bindL_get ndP hp hu k⟩
    · obtain ⟨c,e⟩:=cell_has (n:=s.heap.objs.size + 1) k
      refine .inr ⟨.inl k,c,e,?_⟩
      have q:=x.cell y c e
      rw [bindC_get ndP hp hu (by show scope.names.lookup y≠_;rw [k];decide)] at q
      exact q
  · exact e0.hok.fresh (Nat.le_of_lt (x.above y c (PySem.mem_of_lookup h)))
  · unfold start
    show _=N.length
    rw [List.length_append,List.length_map,List.length_replicate]
    omega
theorem fn_of {CX:CXT} {P:Program} {w:World} {K:PySem.W.Frag} {mg:Str→Option Value} {base:Heap} {k:Nat} {f:Addr} {name qual:Str} {params:Arguments} {body:List Stmt} {scope:Scope} {dV kV doc pm cdv ct oc:Value} {an od:Option Addr}
    {osl:Array (Option Value)} {N ps:List Str} {sp:Sp} (lk:K.lookup f=some ⟨oc,od,.func (PySem.W.fnOf name qual params body scope dV kV doc pm an cdv ct),osl⟩) (hcd:PySem.W.codeIn K cdv qual=true) (S:FnScope N ps scope)
    (len:∀ vs H Q E,sp vs H Q E→vs.length=ps.length)
    (hbody:∀ (A:Around) (outer:List Env) (s:Shared) (H:Hp) (vs:List V) (Q:VK) (E:XK),Room k (A.deeper (envOfC qual scope s.heap.objs.size f cdv))→sp vs H Q E →
      ∃ t,PSs (cxOf CX P w K mg base N qual scope f cdv A outer s H E) body t∧t { nx:=fun _ H'=>Q .non H',rt:=Q } (start N vs) H) :
    FnOk P w K mg base CX (k + 1) f (PySem.W.fnOf name qual params body scope dV kV doc pm an cdv ct) ps sp:=by
  refine ⟨len,fun A outer s H args us vs Q E hr e0 hb r hsp=>?_⟩
  have hl:=len _ _ _ _ hsp
  have KX:K.In s.heap:=e0.mod.kin.keeps fun b o e=>(e0.bs b o e).1
  have lim:s.heap.NoLimit:=e0.mod.nolimit.keeps fun b o e=>(e0.bs b o e).1
  have hkind:∀ y∈ps.zip us,scope.names.lookup y.1=some .local∨(scope.names.lookup y.1=some .cell∧((cellsFrom (s.heap.objs.size + 1) scope.names []).lookup y.1).isSome=true):=fun ⟨n,v⟩ hy=>by
    rcases S.par n (List.of_mem_zip hy).1 with q | q
    · exact .inl q
    · exact .inr ⟨q,PySem.W.cellsFrom_some _ _ _ (.inl q)⟩
  refine codeAny_call_function hr.depth (KX _ _ lk) rfl S.co S.gen rfl (PySem.W.codeRec_of KX hcd) (hb _ _ _ _ ?_)
  refine wpAny_newFunctionEnv_cells S.kind hkind fun env he s1 x=>?_
  subst he
  refine ⟨lim.keeps x.toInCall.keep,codeAny_func ?_⟩
  obtain ⟨t,ht,hq⟩:=hbody A outer s H vs Q E (hr.deeper _) hsp
  have I:Inv (cxOf CX P w K mg base N qual scope f cdv A outer s H E) [] (start N vs) H s1:=inv_start S hr.hd e0 hl r x
  refine wpAny_mono (ht [] s1 (start N vs) H _ I hq) (fun fl s' hs=>?_) fun e s' hs=>hs
  have fin:∀ {σ':St} {H':Hp} {v:V} {u:Value},Inv (cxOf CX P w K mg base N qual scope f cdv A outer s H E) [] σ' H' s'→RelV v u→Q v H'→CE outer P w H s Q u s' :=
    fun {σ' H' v u} J rv q=>⟨v,H',J.os,J.bare,J.base,J.hok,rv,q⟩
  cases fl with
  | ret u =>
    obtain ⟨v,σ',H',J,rv,q⟩:=hs
    exact fin J rv q
  | next =>
    obtain ⟨σ',H',J,q⟩:=hs
    exact fin (v:=V.non) (u:=Value.none) J rfl q
  | brk =>
    obtain ⟨_,_,_,q⟩:=hs
    exact False.elim q
  | cont =>
    obtain ⟨_,_,_,q⟩:=hs
    exact False.elim q
end L2
namespace L2
open PySem PySem.Spec PyProof.Rows
section
variable {X:Cx} {x:Str} {p pos:Pos} {e:Expr} {es:List Expr} {t:TA} {id T:String} {r:List V→Hp→VK→Prop}
def tCB (r:List V→Hp→VK→Prop) (t:TA):TE:=fun σ H Q=>t σ H fun vs H1=>r vs H1 Q
theorem pe_callB (hc:CallR X (.builtin id) r) (hg:Gl X x) (hm:X.mg x=none) (hv:bootBuiltins x=some (.builtin id)) (ha:PA X (e :: es) t) (hn:x≠"__name__":=by decide) (hdb:(x == ("__debug__":Str))=false:=by decide)
    (he:starEach (e :: es) X.env=(false,eval e X.env) :: starEach es X.env:=by rfl) (hpl:(backTo pos (starEach es X.env)).any (·.1)=false:=by rfl):PE X (.Call (.Name x p) (e :: es) [] pos) (tCB r t):=by
  intro pins s σ H Q I h
  refine wpAny_Call_Name_kw (ld_blt I hg hm hv ?_ hn hdb)
  exact PyProof.Rows.callWith_builtin1 (thn (ha pos pins s σ H _ I h) fun us s1 ⟨vs,H1,I1,r1,q1⟩=>hc pins s1 σ H1 vs us Q I1 r1 q1) he hpl
theorem pe_callTy (hc:CallR X (.type T) r) (hg:Gl X x) (hm:X.mg x=none) (hv:bootBuiltins x=some (.type T)) (ha:PA X (e :: es) t) (hn:x≠"__name__":=by decide) (hdb:(x == ("__debug__":Str))=false:=by decide)
    (he:starEach (e :: es) X.env=(false,eval e X.env) :: starEach es X.env:=by rfl) (hpl:(backTo pos (starEach es X.env)).any (·.1)=false:=by rfl):PE X (.Call (.Name x p) (e :: es) [] pos) (tCB r t):=by
  intro pins s σ H Q I h
  refine wpAny_Call_Name_kw (ld_blt I hg hm hv ?_ hn hdb)
  exact PyProof.Rows.callWith_type1 (thn (ha pos pins s σ H _ I h) fun us s1 ⟨vs,H1,I1,r1,q1⟩=>hc pins s1 σ H1 vs us Q I1 r1 q1) he hpl
end
end L2
namespace HT
open PySem PyProof.Rows
def lexLt:List Int→List Int→Bool
  | [],[]=>false
  | [],_ :: _=>true
  | _ :: _,[]=>false
  | x :: xs,y :: ys=>if x=y then lexLt xs ys else decide (x < y)
theorem rcLt_int (A:Around) (s:Shared) (a:Int) (t:Tok) (c:Int) (u:Tok) (prog:Program) (w:World) (E:Value→Shared→Prop) (Q:Value→Shared→Prop) (h:Q (.bool (decide (a < c))) s) :
    wpAny (model prog w) A (richCompare .Lt (.int a t) (.int c u)) Q E s :=
  (PyProof.Rows.lt_int h:wpAny (model prog w) A (compareOp .Lt (.int a t) (.int c u)) Q E s)
section
open PySem.SeqAt
open PySem.AutoSeq1 (wpAny_loadPart')
open PySem.MeetsSeq PySem.MeetsSeq2 PySem.MeetsSeq3
end
section
variable {prog:Program} {w:World} {A:Around} {E:Value→Shared→Prop} {s:Shared}
def sIx (n d:Nat):Option Int→Nat
  | none=>d
  | some v=>if v < 0 then (v + (n:Int)).toNat else min v.toNat n
theorem sIx_none (n d:Nat):sIx n d none=d:=rfl
theorem sIx_nat (n d k:Nat):sIx n d (some (k:Int))=min k n:=by
  show (if (k:Int) < 0 then ((k:Int) + (n:Int)).toNat else min (k:Int).toNat n)=min k n
  rw [if_neg (by omega),Int.toNat_natCast]
theorem sIx_le (n d:Nat) (hd:d≤n) (o:Option Int):sIx n d o≤n:=by
  cases o with
  | none=>exact hd
  | some v =>
    show (if v < 0 then (v + (n:Int)).toNat else min v.toNat n)≤n
    by_cases hv:v < 0
    · rw [if_pos hv];omega
    · rw [if_neg hv];exact Nat.min_le_right _ _
end
end HT
namespace L2
open PySem PySem.Spec PyProof.Rows
abbrev TO:=St→Hp→(Option Int→Hp→Prop)→Prop
def PO (X:Cx) (e:Option Expr) (t:TO):Prop :=
  ∀ (pins:List (Addr × Obj)) (s:Shared) (σ:St) (H:Hp) (Q:Option Int→Hp→Prop),Inv X pins σ H s→t σ H Q →
    wpAny (model X.prog X.w) X.A (evalPart e X.env) (fun u s'=>∃ o H',Inv X pins σ H' s'∧IsPart u o∧Q o H') X.xe s
def tNoPart:TO:=fun _ H Q=>Q none H
def tPart (t:TE):TO:=fun σ H Q=>t σ H fun x H1=>∃ i,x=.int i∧Q (some i) H1
section
variable {X:Cx} {e:Expr} {te:TE} {lo hi:Option Expr} {tl th:TO} {pos p2:Pos}
theorem po_none:PO X none tNoPart:=by
  intro pins s σ H Q I h
  rw [evalPart_none]
  exact wpAny_pure ⟨none,H,I,.none,h⟩
theorem po_some (h:PE X e te):PO X (some e) (tPart te):=by
  intro pins s σ H Q I hw
  rw [evalPart_some]
  refine thn (h pins s σ H _ I hw) fun u s1 ⟨x,H1,I1,r1,q1⟩=>?_
  obtain ⟨i,rfl,q⟩:=q1
  obtain ⟨t,rfl⟩:=r1
  exact ⟨some i,H1,I1,.int i t,q⟩
def SlR (X:Cx) (r:V→Option Int→Option Int→Hp→VK→Prop):Prop :=
  ∀ (pins:List (Addr × Obj)) (s:Shared) (σ:St) (H:Hp) (x:V) (v vl vu:Value) (lo hi:Option Int) (sl:Addr) (Q:VK),Inv X pins σ H s→RelV x v→s.heap.IsSliceOf sl vl vu .none→IsPart vl lo→IsPart vu hi→r x lo hi H Q →
    ∃ T id,typeLookup (.type T) "__getitem__"=pure (some (.builtin id))∧s.TypeIs v T∧wpAny (model X.prog X.w) X.A (getItem v (.ref sl)) (EP X pins σ Q) X.xe s
def tSl (r:V→Option Int→Option Int→Hp→VK→Prop) (te:TE) (tl th:TO):TE:=fun σ H Q=>te σ H fun x H1=>tl σ H1 fun l H2=>th σ H2 fun u H3=>r x l u H3 Q
theorem pe_slice {r:V→Option Int→Option Int→Hp→VK→Prop} (hr:SlR X r) (he:PE X e te) (hl:PO X lo tl) (hu:PO X hi th):PE X (.Subscript e (.Slice lo hi none p2) pos) (tSl r te tl th):=by
  intro pins s σ H Q I h
  refine Subscript_ (thn (he pins s σ H _ I h) fun v s1 ⟨x,H1,I1,r1,q1⟩=>?_)
  refine wpAny_Slice (thn (hl pins s1 σ H1 _ I1 q1) fun vl s2 ⟨l,H2,I2,pl,q2⟩=>thn (hu pins s2 σ H2 _ I2 q2) fun vu s3 ⟨u,H3,I3,pu,q3⟩=>?_)
  rw [evalPart_none]
  refine wpAny_pure ?_
  have I4:Inv X pins σ H3 { s3 with heap:=s3.heap.push { cls:=.type "slice",data:=.fields #[vl,vu,.none] } }:=I3.kept (t':=s3.toks) fun b ob q=>Heap.get?_push_of_some _ q
  obtain ⟨T,id,hT,ht,hg⟩:=hr pins { s3 with heap:=s3.heap.push { cls:=.type "slice",data:=.fields #[vl,vu,.none] } } σ H3 x v vl vu l u s3.heap.objs.size Q I4 r1 (Heap.IsSliceOf.new ..) pl pu q3
  show wpAny (model X.prog X.w) X.A (subscriptTail e (.Slice lo hi none p2) v (.ref s3.heap.objs.size)) (EP X pins σ Q) X.xe { s3 with heap:=s3.heap.push { cls:=.type "slice",data:=.fields #[vl,vu,.none] } }
  exact tail_any (ops:=[.ref s3.heap.objs.size,v]) ht hT hg (by with_unfolding_all rfl)
def cutV (xs:List V) (lo hi:Option Int):List V:=(xs.drop (HT.sIx xs.length 0 lo)).take (HT.sIx xs.length xs.length hi - HT.sIx xs.length 0 lo)
theorem cutV_length (xs:List V) (lo hi:Option Int):(cutV xs lo hi).length≤xs.length:=by
  unfold cutV
  rw [List.length_take,List.length_drop]
  omega
def rCatT (K:PySem.W.Frag):R2:=fun x y H Q=>∃ a b xs ys,x=.ref a∧y=.ref b∧SqT K H a xs∧SqT K H b ys∧xs≠[]∧xs.length + ys.length≤sizeLine ∧
  (ys=[]→Q (.ref a) H)∧(ys≠[]→∀ p,H p=none→Q (.ref p) (upd H p (.tup (xs ++ ys))))
end
end L2
namespace L2
open PySem PySem.Spec PyProof.Rows
def ixN (n:Nat) (i:Int):Option Nat:=if 0≤i then (if i < n then some i.toNat else none) else if -(n:Int)≤i then some (i + n).toNat else none
def atI {α:Type} (xs:List α) (i:Int):Option α:=(ixN xs.length i).bind fun j=>xs[j]?
theorem ixN_seq {n:Nat} {i:Int} {j:Nat} (h:ixN n i=some j):seqIndex? i n=some j∧j < n∧-(n:Int)≤i∧i < n:=by
  unfold ixN at h
  by_cases h0:0≤i
  · rw [if_pos h0] at h
    by_cases h1:i < n
    · rw [if_pos h1] at h
      have e:i.toNat=j:=Option.some.inj h
      exact ⟨by rw [seqIndex_of h0 h1,e],by omega,by omega,h1⟩
    · rw [if_neg h1] at h;cases h
  · rw [if_neg h0] at h
    by_cases h1:-(n:Int)≤i
    · rw [if_pos h1] at h
      have e:(i + n).toNat=j:=Option.some.inj h
      exact ⟨by rw [seqIndex_neg (by omega) h1,e],by omega,h1,by omega⟩
    · rw [if_neg h1] at h;cases h
theorem atI_get {α:Type} {xs:List α} {i:Int} {v:α} (h:atI xs i=some v):∃ j,seqIndex? i xs.length=some j∧xs[j]?=some v∧j < xs.length∧-(xs.length:Int)≤i∧i < xs.length:=by
  unfold atI at h
  cases e:ixN xs.length i with
  | none=>rw [e] at h;cases h
  | some j =>
    rw [e] at h
    obtain ⟨h1,h2,h3,h4⟩:=ixN_seq e
    exact ⟨j,h1,h,h2,h3,h4⟩
theorem atI_nat {α:Type} {xs:List α} {j:Nat} {v:α} (h:xs[j]?=some v):atI xs (j:Int)=some v:=by
  have hj:j < xs.length:=(List.getElem?_eq_some_iff.mp h).1
  have e:ixN xs.length (j:Int)=some j:=by
    unfold ixN
    rw [if_pos (by omega),if_pos (by omega)];simp
  unfold atI;rw [e];exact h
def PlainIx (b:Expr):Prop:=∀ o i,subscripted b false o i=operate [o,i] (getItem o i)
def IxR (X:Cx) (r:R2):Prop :=
  ∀ (value slice:Expr) (pins:List (Addr × Obj)) (s:Shared) (σ:St) (H:Hp) (x y:V) (v u:Value) (Q:VK),Inv X pins σ H s→RelV x v→RelV y u→r x y H Q →
    subscripted slice false v u=operate [v,u] (getItem v u)→wpAny (model X.prog X.w) X.A (subscriptTail value slice v u) (EP X pins σ Q) X.xe s
def MtR (X:Cx) (id:String) (r:V→List V→Hp→VK→Prop):Prop :=
  ∀ (pins:List (Addr × Obj)) (s:Shared) (σ:St) (H:Hp) (x:V) (xs:List V) (v:Value) (us:List Value) (Q:VK),Inv X pins σ H s→RelV x v→Vals xs us→r x xs H Q →
    wpAny (model X.prog X.w) X.A (call (.builtin id) (v :: us)) (EP X pins σ Q) X.xe s
section
variable {X:Cx} {a b:Expr} {ta tb:TE} {pos:Pos}
theorem pe_ix {r:R2} (hr:IxR X r) (ha:PE X a ta) (hb:PE X b tb) (hs:PlainIx b):PE X (.Subscript a b pos) (tOp r ta tb):=by
  intro pins s σ H Q I h
  exact Subscript_ (binT ha hb I h fun v u s2 x y H2 I2 rx ry q=>hr a b pins s2 σ H2 x y v u Q I2 rx ry q (hs _ _))
def rIxL (K:PySem.W.Frag):R2:=fun x y H Q=>∃ p xs i v,x=.ref p∧y=.int i∧SqL K H p xs∧atI xs i=some v∧Q v H
def rIxT (K:PySem.W.Frag):R2:=fun x y H Q=>∃ p xs i v,x=.ref p∧y=.int i∧SqT K H p xs∧atI xs i=some v∧Q v H
def rIxS:R2:=fun x y H Q=>∃ z i c,x=.str z∧y=.int i∧z.length≤sizeLine∧atI z.cps.toList i=some c∧Q (.str ⟨#[c]⟩) H
theorem ix_list:IxR X (rIxL X.K):=by
  intro value slice pins s σ H x y v u Q I rx ry h hs
  obtain ⟨p,xs,i,z,rfl,rfl,hq,he,q⟩:=h
  cases rx
  obtain ⟨t,rfl⟩:=ry
  obtain ⟨its,r,pl,hz⟩:=I.list hq
  obtain ⟨j,h1,h2,h3,h4,h5⟩:=atI_get he
  obtain ⟨w,ew,rw'⟩:=r.get h2
  have hl:=r.length
  have hn:=line63
  have fin:EP X pins σ Q w s:=⟨z,H,I,rw',q⟩
  by_cases h0:0≤i
  · have hj:i.toNat=j:=by
      rw [seqIndex_of h0 h5] at h1
      exact Option.some.inj h1
    exact item_listR pl.isList h0 (by omega) (by rw [hj];simpa using ew) fin hs
  · have hj:(i + (its.toArray.size:Int)).toNat=j:=by
      rw [seqIndex_neg (by omega) h4] at h1
      rw [List.size_toArray,← hl]
      exact Option.some.inj h1
    exact subscriptTail_builtinR (x:=w) pl.isList.typeIs slot_list_getitem.lookup
      (wpAny_getItem_list_neg (Q:=fun r s'=>r=w∧EP X pins σ Q r s') pl.isList (by omega) (by rw [List.size_toArray] <;> omega) (by omega) (by rw [hj];simpa using ew) ⟨rfl,fin⟩) hs
theorem ix_tup:IxR X (rIxT X.K):=by
  intro value slice pins s σ H x y v u Q I rx ry h hs
  obtain ⟨p,xs,i,z,rfl,rfl,hq,he,q⟩:=h
  cases rx
  obtain ⟨t,rfl⟩:=ry
  obtain ⟨its,r,pl,hz⟩:=I.tuple hq
  obtain ⟨j,h1,h2,h3,h4,h5⟩:=atI_get he
  obtain ⟨w,ew,rw'⟩:=r.get h2
  have hl:=r.length
  have hn:=line63
  have fin:EP X pins σ Q w s:=⟨z,H,I,rw',q⟩
  exact subscriptTail_builtinR (x:=w) pl.typeIs slot_tuple_getitem.lookup
    (getItem_tuple (j:=j) (Q:=fun r s'=>r=w∧EP X pins σ Q r s') pl (by omega) (by omega) (by rw [List.size_toArray,← hl];exact h1) (by simpa using ew) ⟨rfl,fin⟩) hs
theorem ix_str:IxR X rIxS:=by
  intro value slice pins s σ H x y v u Q I rx ry h hs
  obtain ⟨z,i,c,rfl,rfl,hz,he,q⟩:=h
  obtain ⟨t,rfl⟩:=rx
  obtain ⟨t',rfl⟩:=ry
  obtain ⟨j,h1,h2,h3,h4,h5⟩:=atI_get he
  have hl:z.cps.toList.length=z.length:=by simp [Str.length]
  rw [hl] at h1 h4 h5
  have hn:=line63
  exact tail_any (typeIs_str s z t) slot_str_getitem.lookup (getItem_str (c:=c) (by
    have e1:decide (i < -(2 ^ 63:Int))=false:=decide_eq_false (by omega)
    have e2:decide (i ≥ 2 ^ 63)=false:=decide_eq_false (by omega)
    rw [e1,e2,Bool.or_false]) (by rw [h1];simpa using h2) ⟨.str ⟨#[c]⟩,H,I.tok _,⟨_,rfl⟩,q⟩) hs
theorem slice_bounds (lo hi:Option Int) (n:Nat):(sliceBounds lo hi none n).1=((HT.sIx n 0 lo:Nat):Int)∧(sliceBounds lo hi none n).2.1=((HT.sIx n n hi:Nat):Int)∧(sliceBounds lo hi none n).2.2=1:=by
  refine ⟨?_,?_,rfl⟩
  · cases lo with
    | none=>simp [sliceBounds,HT.sIx]
    | some i =>
      simp only [sliceBounds,HT.sIx,Option.getD_none,show (1:Int) > 0 by decide,if_true]
      by_cases h:i < 0
      · simp only [h,if_true] <;> omega
      · simp only [h,if_false] <;> omega
  · cases hi with
    | none=>simp [sliceBounds,HT.sIx]
    | some i =>
      simp only [sliceBounds,HT.sIx,Option.getD_none,show (1:Int) > 0 by decide,if_true]
      by_cases h:i < 0
      · simp only [h,if_true] <;> omega
      · simp only [h,if_false] <;> omega
theorem slicePick_cut (its:List Value) (lo hi:Option Int):slicePick its.toArray lo hi none=((its.drop (HT.sIx its.length 0 lo)).take (HT.sIx its.length its.length hi - HT.sIx its.length 0 lo)).toArray:=by
  obtain ⟨h1,h2,h3⟩:=slice_bounds lo hi its.toArray.size
  unfold slicePick
  rw [h1,h2,h3]
  simp only [sliceRange_one,pick_run,List.size_toArray] <;> rfl
def rSlL (K:PySem.W.Frag):V→Option Int→Option Int→Hp→VK→Prop:=fun x lo hi H Q=>∃ a xs,x=.ref a∧SqL K H a xs∧∀ p,H p=none→Q (.ref p) (upd H p (.lst (cutV xs lo hi)))
theorem sl_list:SlR X (rSlL X.K):=by
  intro pins s σ H x v vl vu lo hi sl Q I rx hs pl pu h
  obtain ⟨a,xs,rfl,hx,q⟩:=h
  cases rx
  obtain ⟨its,r,ht,hz⟩:=I.list hx
  have hlen:=r.length
  refine ⟨"list",_,slot_list_getitem.lookup,ht.isList.typeIs,?_⟩
  refine wpAny_getItem_list_slice ht.isList hs pl pu .none (by simp) ?_ (by rw [List.size_toArray] <;> omega)
  rw [slicePick_cut,← hlen]
  refine ⟨.ref s.heap.objs.size,_,I.laid (t':=s.toks) (o:=.lst (cutV xs lo hi)) (fun b ob q=>Heap.get?_push_of_some _ q) (Nat.le_refl _) ?_,rfl,q _ (I.hok.fresh (Nat.le_refl _))⟩
  exact ⟨Nat.le_trans (cutV_length xs lo hi) hz,_,0,(r.drop (HT.sIx xs.length 0 lo)).take (HT.sIx xs.length xs.length hi - HT.sIx xs.length 0 lo),Heap.get?_push_size _ rfl⟩
def flatV:V→Bool
  | .non=>true
  | .bl _=>true
  | .int _=>true
  | .str _=>true
  | _=>false
def eqV:V→V→Bool
  | .non,.non=>true
  | .bl a,.bl b=>a == b
  | .bl a,.int b=>(if a then 1 else 0) == b
  | .int a,.bl b=>a == (if b then 1 else 0)
  | .int a,.int b=>a == b
  | .str a,.str b=>a == b
  | _,_=>false
def inV (x:V) (xs:List V):Bool:=xs.any fun y=>eqV y x
def rIn (K:PySem.W.Frag) (neg:Bool):R2:=fun x y H Q=>∃ p xs,y=.ref p∧(SqL K H p xs∨SqT K H p xs)∧flatV x=true∧xs.all flatV=true∧Q (.bl (if neg then !inV x xs else inV x xs)) H
theorem call_list_of:CallR X (.type "list") (fun xs H Q=>∃ p ys,xs=[.ref p]∧(SqL X.K H p ys∨SqT X.K H p ys)∧∀ l,H l=none→Q (.ref l) (upd H l (.lst ys))):=by
  intro pins s σ H xs us Q I r h
  obtain ⟨p,ys,rfl,hq,q⟩:=h
  obtain ⟨u,rfl,rx⟩:=vals1 r
  cases rx
  have fin:∀ (its:List Value),Vals ys its→ys.length≤sizeLine→∀ (h':Heap) (c':Nat),(∀ b o',s.heap.get? b=some o'→h'.get? b=some o') →
      h'.get? s.heap.objs.size=some { cls:=.type "list",dict:=none,data:=.seq its.toArray c',slots:=#[] }→EP X pins σ Q (.ref s.heap.objs.size) { s with heap:=h' }:=fun its r' hz h' c' kp e =>
    ⟨.ref s.heap.objs.size,_,I.laid (t':=s.toks) kp (Nat.le_refl _) (show ObjOk X.prog X.w _ h' _ (.lst ys) from ⟨hz,its,c',r',e⟩),rfl,q _ (I.hok.fresh (Nat.le_refl _))⟩
  rcases hq with hq | hq
  · obtain ⟨its,r',pl,hz⟩:=I.list hq
    have hlen:=r'.length
    obtain ⟨o,ho,hc,n,hd⟩:=pl.isList
    exact call_list_seq p (.inl rfl) ho hc hd (fun h' c' kp e=>fin its r' hz h' c' kp e) (by simp only [List.size_toArray] <;> omega)
  · obtain ⟨its,r',pl,hz⟩:=I.tuple hq
    have hlen:=r'.length
    obtain ⟨o,ho,hc,n,hd⟩:=pl
    exact call_list_seq p (.inr rfl) ho hc hd (fun h' c' kp e=>fin its r' hz h' c' kp e) (by simp only [List.size_toArray] <;> omega)
def tyV (K:PySem.W.Frag) (T:String) (x:V) (H:Hp):Prop:=match x with
  | .str _=>T="str"
  | .int _=>T="int"
  | .ref p=>(T="list"∧∃ xs,SqL K H p xs)∨(T="tuple"∧∃ o,K.lookup p=some o∧o.cls=.type "tuple"∧o.dict=none) ∨
      (T="dict"∧((∃ kvs,H p=some (.dK kvs))∨∃ kvs,H p=some (.dT kvs)))∨(T="set"∧∃ S n,H p=some (.set S n))
  | _=>False
theorem tyV_is {pins:List (Addr × Obj)} {σ:St} {H:Hp} {s:Shared} {T:String} {x:V} {v:Value} (I:Inv X pins σ H s) (r:RelV x v) (ty:tyV X.K T x H) :
    s.TypeIs v T∧∀ a,v=.ref a→∃ ob,s.heap.get? a=some ob∧ob.dict=none:=by
  cases x with
  | str z =>
    obtain ⟨t,rfl⟩:=r
    cases (show T="str" from ty)
    exact ⟨typeIs_str s z t,fun _ e=>nomatch e⟩
  | int i =>
    obtain ⟨t,rfl⟩:=r
    cases (show T="int" from ty)
    exact ⟨typeIs_int s i t,fun _ e=>nomatch e⟩
  | ref p =>
    cases r
    rcases ty with ⟨rfl,xs,hq⟩ | ⟨rfl,o,hk,hc,hd⟩ | ⟨rfl,hk⟩ | ⟨rfl,S,n,hk⟩
    · obtain ⟨its,_,pl,_⟩:=I.list hq
      refine ⟨pl.isList.typeIs,fun a e=>?_⟩
      cases e
      obtain ⟨o,n,e,c,hd,_⟩:=pl
      exact ⟨o,e,hd⟩
    · refine ⟨⟨o,I.kIn p o hk,hc⟩,fun a e=>?_⟩
      cases e
      exact ⟨o,I.kIn _ o hk,hd⟩
    · have z:∃ o,s.heap.get? p=some o∧o.ExactDict:=by
        rcases hk with ⟨kvs,hk⟩ | ⟨kvs,hk⟩
        · obtain ⟨_,_,_,_,o,_,_,e,ex,_⟩:=I.hok p _ hk
          exact ⟨o,e,ex⟩
        · obtain ⟨_,_,_,_,o,_,_,e,ex,_⟩:=I.hok p _ hk
          exact ⟨o,e,ex⟩
      obtain ⟨o,e,ex⟩:=z
      refine ⟨⟨o,e,ex.1⟩,fun a e2=>?_⟩
      cases e2
      exact ⟨o,e,ex.2.1⟩
    · obtain ⟨o,_,_,_,e,ex,_⟩:=I.hok p _ hk
      refine ⟨⟨o,e,ex.1⟩,fun a e2=>?_⟩
      cases e2
      exact ⟨o,e,ex.2.1⟩
  | _=>exact False.elim ty
def tBM0 (K:PySem.W.Frag) (T:String) (r:V→List V→Hp→VK→Prop) (to:TE):TE:=fun σ H Q=>to σ H fun x H1=>tyV K T x H1∧r x [] H1 Q
def tBM (K:PySem.W.Frag) (T:String) (r:V→List V→Hp→VK→Prop) (to:TE) (t:TA):TE:=fun σ H Q=>to σ H fun x H1=>tyV K T x H1∧t σ H1 fun xs H2=>r x xs H2 Q
variable {o e:Expr} {es:List Expr} {to:TE} {t:TA} {name:Str} {apos cpos:Pos} {T id:String} {r:V→List V→Hp→VK→Prop}
theorem pe_bm (pa:PlainAttrs T) (slot:Slot T name id) (hty:typeOf (.builtin id)=pure (.type "method_descriptor")) (hm:MtR X id r) (ho:PE X o to) (ha:PA X (e :: es) t)
    (hbase:attributeBase o name X.env (eval o X.env)=eval o X.env:=by rfl)
    (hfew:((backTo cpos (starEach (e :: es) X.env)).all (fun x=>!x.1) && (backToKw cpos (keywordEach [] X.env)).all (fun x=>x.1.isSome)
      && decide ((e :: es).length + ([]:List Keyword).length + (if ([]:List Keyword).isEmpty then 0 else 1) < 30))=true:=by rfl)
    (hline:(apos.endLine == cpos.line)=true:=by rfl) (hs:starEach (e :: es) X.env=(false,eval e X.env) :: starEach es X.env:=by rfl) (hplain:(backTo cpos (starEach es X.env)).any (·.1)=false:=by rfl) :
    PE X (.Call (.Attribute o name apos) (e :: es) [] cpos) (tBM X.K T r to t):=by
  intro pins s σ H Q I h
  refine wpAny_Call_method_late hbase hfew hline rfl (thn (ho pins s σ H _ I h) fun v s1 ⟨x,H1,I1,r1,ty,q1⟩=>?_)
  obtain ⟨h1,h2⟩:=tyV_is I1 r1 ty
  refine ⟨T,id,pa,slot,hty,h1,h2,?_⟩
  have hA:=ha cpos pins s1 σ H1 _ I1 q1
  rw [hs] at hA ⊢
  refine Calls.callWith_builtin (by show (false || (backTo cpos (starEach es X.env)).any (·.1))=false;rw [hplain] <;> rfl) (Calls.evalArgs_plain ?_)
  exact thn hA fun us s2 ⟨vs,H2,I2,r2,q2⟩=>hm pins s2 σ H2 x vs v us Q I2 r1 r2 q2
end
end L2
namespace L2
open PySem PySem.Spec PyProof.Rows
def MtM (X:Cx) (id:String) (r:V→List V→Hp→VK→Prop):Prop :=
  ∀ (pins:List (Addr × Obj)) (s:Shared) (σ:St) (H:Hp) (x:V) (xs:List V) (v:Value) (us:List Value) (Q:VK),Inv X pins σ H s→RelV x v→Vals xs us→r x xs H Q →
    wpAny (model X.prog X.w) X.A (call (.builtin id) (v :: us)) (EP X pins σ Q) X.xe s
theorem Vals.one:∀ {x:V} {us:List Value},Vals [x] us→∃ u,us=[u]∧RelV x u
  | _,_,.cons r .nil=>⟨_,rfl,r⟩
section
variable {X:Cx} {pins:List (Addr × Obj)} {σ:St} {H:Hp} {s:Shared} {l b:Addr} {xs ys zs:List V}
theorem Inv.lset {its its':List Value} {n:Nat} {f:Array Value→Array Value} {t':Nat} (I:Inv X pins σ H s) (hH:H l=some (.lst xs))
    (e:s.heap.get? l=some { cls:=.type "list",data:=.seq its.toArray n }) (hf:f its.toArray=its'.toArray) (hv:Vals ys its') (hz:ys.length≤sizeLine) :
    Inv X pins σ (upd H l (.lst ys)) { s with heap:=s.heap.update l (Obj.mapSeq f),toks:=t' }:=by
  have q:=PySem.IsL.update e f
  rw [hf] at q
  refine I.write (x:=l) (e:=l) (by rw [hH];exact trivial) (.inl rfl) (fun b' u hb hu=>(Heap.get?_update_other s.heap (Obj.mapSeq f) (Ne.symm hb)).trans hu) ⟨_,q⟩ ?_
  exact ⟨hz,its',_,hv,q⟩
theorem Inv.lnew {its:List Value} {t':Nat} (I:Inv X pins σ H s) (hv:Vals ys its) (hz:ys.length≤sizeLine) :
    Inv X pins σ (upd H s.heap.objs.size (.lst ys)) { s with heap:=s.heap.push { cls:=.type "list",data:=.seq its.toArray },toks:=t' } :=
  I.laid (fun _ _ q=>Heap.get?_push_of_some _ q) (Nat.le_refl _) ⟨hz,its,0,hv,Heap.get?_push_size _ rfl⟩
theorem Inv.fresh (I:Inv X pins σ H s):H s.heap.objs.size=none:=I.hok.fresh (Nat.le_refl _)
theorem Inv.lstM (I:Inv X pins σ H s) (hH:H l=some (.lst xs)):xs.length≤sizeLine∧∃ (its:List Value) (n:Nat),Vals xs its∧xs.length=its.length∧s.heap.get? l=some { cls:=.type "list",data:=.seq its.toArray n }:=by
  obtain ⟨z,its,n,r,e⟩:=I.hok l _ hH
  exact ⟨z,its,n,r,r.length,e⟩
end
section
variable {X:Cx}
def rAppend:V→List V→Hp→VK→Prop:=fun x vs H Q=>∃ l xs y,x=.ref l∧vs=[y]∧H l=some (.lst xs)∧xs.length < sizeLine∧Q .non (upd H l (.lst (xs ++ [y])))
theorem mt_append:MtM X "list.append" rAppend:=by
  intro pins s σ H x vs v us Q I rx rv h
  obtain ⟨l,xs,y,rfl,rfl,hH,hz,q⟩:=h
  cases rx
  obtain ⟨u,rfl,ru⟩:=rv.one
  obtain ⟨z,its,n,r,hl,e⟩:=I.lstM hH
  refine call_meets F.slot_list_append ⟨_,e,rfl⟩ F.entry_list_append (F.args_list_append_2 _ _) (PySem.list_append l its.toArray n u (by rw [List.size_toArray];omega)) ⟨e,?_⟩
  refine ⟨.non,_,I.lset (its':=its ++ [u]) hH e (by simp) (r.append (.cons ru .nil)) ?_,rfl,q⟩
  rw [List.length_append,List.length_singleton]
  omega
def rExtend:V→List V→Hp→VK→Prop:=fun x vs H Q=>∃ l b xs zs,x=.ref l∧vs=[.ref b]∧H l=some (.lst xs)∧H b=some (.lst zs)∧xs.length + zs.length≤sizeLine∧Q .non (upd H l (.lst (xs ++ zs)))
def rPop:V→List V→Hp→VK→Prop:=fun x vs H Q=>∃ l xs y,x=.ref l∧vs=[]∧H l=some (.lst xs)∧xs[xs.length - 1]?=some y∧Q y (upd H l (.lst xs.dropLast))
def rClear:V→List V→Hp→VK→Prop:=fun x vs H Q=>∃ l xs,x=.ref l∧vs=[]∧H l=some (.lst xs)∧Q .non (upd H l (.lst []))
def rCat:R2:=fun x y H Q=>∃ l b xs zs,x=.ref l∧y=.ref b∧H l=some (.lst xs)∧H b=some (.lst zs)∧xs.length + zs.length≤sizeLine∧∀ p,H p=none→Q (.ref p) (upd H p (.lst (xs ++ zs)))
theorem op_cat:OpR X (binaryOp .Add) rCat:=by
  intro pins s σ H x y v u Q I rx ry h
  obtain ⟨l,b,xs,zs,rfl,rfl,hH,hB,hz,q⟩:=h
  cases rx
  cases ry
  obtain ⟨z,its,n,r,hl,e⟩:=I.lstM hH
  obtain ⟨z2,its2,n2,r2,hl2,e2⟩:=I.lstM hB
  refine PySem.P.add_list e e2 ?_ (by rw [List.size_toArray,List.size_toArray];omega)
  have ea:its.toArray ++ its2.toArray=(its ++ its2).toArray:=by simp
  rw [ea]
  exact ⟨.ref _,_,I.lnew (t':=s.toks) (r.append r2) (by rw [List.length_append];omega),rfl,q _ I.fresh⟩
def rRep:R2:=fun x y H Q=>∃ l k xs,x=.ref l∧y=.int k∧H l=some (.lst xs)∧-(2 ^ 63)≤k∧k < 2 ^ 63∧xs.length * k.toNat≤sizeLine ∧
  ∀ p,H p=none→Q (.ref p) (upd H p (.lst (List.replicate k.toNat xs).flatten))
end
section
variable {prog:Program} {w:World} {A:Around} {E:Value→Shared→Prop} {s:Shared}
set_option maxRecDepth 100000 in
end
section
variable {X:Cx}
end
end L2
namespace L2
open PySem PySem.Spec PyProof.Rows
section
variable {κ:Type} [DecidableEq κ]
def valV (kvs:List (κ × V)) (k:κ):Option V:=(kvs.find? fun kv=>decide (kv.1=k)).map (·.2)
def putK (kvs:List (κ × V)) (k:κ) (v:V):List (κ × V) :=
  if (kvs.any fun kv=>decide (kv.1=k))=true then kvs.map (fun kv=>if kv.1=k then (kv.1,v) else kv) else kvs ++ [(k,v)]
def dropK (kvs:List (κ × V)) (k:κ):List (κ × V):=kvs.filter fun kv=>decide (kv.1≠k)
theorem valV_nil {k:κ}:valV ([]:List (κ × V)) k=none:=rfl
theorem valV_pos {p:κ × V} {r:List (κ × V)} {k:κ} (e:p.1=k):valV (p :: r) k=some p.2:=by simp [valV,List.find?_cons,e]
theorem valV_neg {p:κ × V} {r:List (κ × V)} {k:κ} (e:¬ p.1=k):valV (p :: r) k=valV r k:=by simp [valV,List.find?_cons,e]
theorem valV_any (k:κ):∀ kvs:List (κ × V),(kvs.any fun kv=>decide (kv.1=k))=(valV kvs k).isSome
  | []=>rfl
  | p :: r=>by
    rw [List.any_cons]
    by_cases e:p.1=k
    · simp only [valV_pos e,decide_eq_true e,Bool.true_or,Option.isSome_some]
    · rw [valV_neg e,decide_eq_false e,Bool.false_or];exact valV_any k r
theorem valV_map (k j:κ) (y:V):∀ kvs:List (κ × V),valV (kvs.map fun kv=>if kv.1=k then (kv.1,y) else kv) j=(valV kvs j).map fun x=>if j=k then y else x
  | []=>rfl
  | p :: r=>by
    have ih:=valV_map k j y r
    rw [List.map_cons]
    by_cases h:p.1=k
    · rw [if_pos h]
      by_cases e:p.1=j
      · rw [valV_pos (p:=(p.1,y)) e,valV_pos e,Option.map_some,if_pos (e.symm.trans h)]
      · rw [valV_neg (p:=(p.1,y)) e,valV_neg e,ih]
    · rw [if_neg h]
      by_cases e:p.1=j
      · rw [valV_pos (p:=p) e,valV_pos e,Option.map_some,if_neg (fun z=>h (e.trans z))]
      · rw [valV_neg (p:=p) e,valV_neg e,ih]
theorem valV_snoc (k j:κ) (y:V):∀ kvs:List (κ × V),valV kvs k=none→valV (kvs ++ [(k,y)]) j=if j=k then some y else valV kvs j
  | [],_=>by
    by_cases e:k=j
    · rw [if_pos e.symm];exact valV_pos (p:=(k,y)) e
    · rw [if_neg (fun z=>e z.symm)];exact valV_neg (p:=(k,y)) e
  | p :: r,hn=>by
    rw [List.cons_append]
    have hk:¬ p.1=k:=fun z=>by rw [valV_pos z] at hn;cases hn
    rw [valV_neg hk] at hn
    have ih:=valV_snoc k j y r hn
    by_cases e:p.1=j
    · rw [valV_pos e,valV_pos e,if_neg (fun z=>hk (e.trans z))]
    · rw [valV_neg e,valV_neg e,ih]
theorem valV_put (kvs:List (κ × V)) (k j:κ) (y:V):valV (putK kvs k y) j=if j=k then some y else valV kvs j:=by
  unfold putK
  by_cases a:(kvs.any fun kv=>decide (kv.1=k))=true
  · rw [if_pos a,valV_map]
    rw [valV_any] at a
    by_cases e:j=k
    · obtain ⟨x,hx⟩:=Option.isSome_iff_exists.mp a
      rw [if_pos e,e,hx,Option.map_some,if_pos rfl]
    · rw [if_neg e]
      cases valV kvs j with
      | none=>rfl
      | some x=>rw [Option.map_some,if_neg e]
  · rw [if_neg a]
    refine valV_snoc k j y kvs ?_
    rw [valV_any] at a
    cases q:valV kvs k with
    | none=>rfl
    | some x=>rw [q] at a;exact (a rfl).elim
theorem length_putK (kvs:List (κ × V)) (k:κ) (v:V):(putK kvs k v).length≤kvs.length + 1:=by
  unfold putK
  split
  · rw [List.length_map];omega
  · rw [List.length_append,List.length_cons,List.length_nil];omega
theorem putK_new {kvs:List (κ × V)} {k:κ} (v:V) (h:valV kvs k=none):putK kvs k v=kvs ++ [(k,v)]:=by
  unfold putK
  rw [valV_any,h]
  exact if_neg (by decide)
theorem RelO.isSome_eq {o:Option V} {u:Option Value} (r:RelO o u):o.isSome=u.isSome:=by
  cases o with
  | none=>cases u with
    | none=>rfl
    | some _=>exact (show False from r).elim
  | some _=>cases u with
    | none=>exact (show False from r).elim
    | some _=>rfl
theorem KV.val {kvs:List (κ × V)} {vs:List (κ × Value)} (r:KV kvs vs) (k:κ):RelO (valV kvs k) (valueAt vs k):=by
  unfold KV at r
  induction r with
  | nil=>exact True.intro
  | @cons p q ps qs h t ih =>
    obtain ⟨h1,h2⟩:=h
    by_cases e:p.1=k
    · have e':q.1=k:=h1.symm.trans e
      have b:valueAt (q :: qs) k=some q.2:=by simp [valueAt,List.find?_cons,e']
      rw [valV_pos e,b];exact h2
    · have e':¬ q.1=k:=fun z=>e (h1.trans z)
      have b:valueAt (q :: qs) k=valueAt qs k:=by simp [valueAt,List.find?_cons,e']
      rw [valV_neg e,b];exact ih
theorem KV.any {kvs:List (κ × V)} {vs:List (κ × Value)} (r:KV kvs vs) (k:κ):(kvs.any fun kv=>decide (kv.1=k))=vs.any fun kv=>decide (kv.1=k):=by
  unfold KV at r
  induction r with
  | nil=>rfl
  | cons h t ih=>rw [List.any_cons,List.any_cons,ih,h.1]
theorem KV.repl {kvs:List (κ × V)} {vs:List (κ × Value)} (r:KV kvs vs) (k:κ) {y:V} {u:Value} (ry:RelV y u) :
    KV (kvs.map fun kv=>if kv.1=k then (kv.1,y) else kv) (vs.map fun kv=>if kv.1=k then (kv.1,u) else kv):=by
  unfold KV at r ⊢
  induction r with
  | nil=>exact .nil
  | @cons p q ps qs h t ih =>
    rw [List.map_cons,List.map_cons]
    refine .cons ?_ ih
    obtain ⟨h1,h2⟩:=h
    by_cases e:p.1=k
    · rw [if_pos e,if_pos (h1.symm.trans e)];exact ⟨h1,ry⟩
    · rw [if_neg e,if_neg (fun z=>e (h1.trans z))];exact ⟨h1,h2⟩
theorem KV.put {kvs:List (κ × V)} {vs:List (κ × Value)} (r:KV kvs vs) (k:κ) {y:V} {u:Value} (ry:RelV y u):KV (putK kvs k y) (stored vs k u):=by
  unfold putK stored
  rw [r.any k]
  by_cases e:(vs.any fun kv=>decide (kv.1=k))=true
  · rw [if_pos e,if_pos e];exact r.repl k ry
  · rw [if_neg e,if_neg e];exact Paired.snoc r ⟨rfl,ry⟩
theorem KV.length {kvs:List (κ × V)} {vs:List (κ × Value)} (r:KV kvs vs):kvs.length=vs.length:=Paired.length r
end
theorem kV_is {P:Program} {w:World} {k:Key} {u:Value} (r:RelV (kV k) u):(mixKind P w).is k u=true:=by
  cases k with
  | inl i=>obtain ⟨t,e⟩:=(show ∃ t,u=Value.int i t from r);subst e;exact mixKind_int P w i t
  | inr x=>obtain ⟨t,e⟩:=(show ∃ t,u=Value.str x t from r);subst e;exact mixKind_str P w x t
theorem items_are {P:Program} {w:World}:∀ {ks:List Key} {us:List Value},Vals (ks.map kV) us→ItemsAre (mixKind P w) ks us
  | [],_,r=>by rw [List.map_nil] at r;cases r;exact .nil
  | k :: ks,_,r=>by
    rw [List.map_cons] at r
    cases r with
    | cons h t=>exact .cons (kV_is h) (items_are t)
abbrev KT (H:Hp):List (List Key × V)→List (List Key × Addr × Value)→Prop:=Paired fun p q=>p.1=q.1∧H q.2.1=some (.tup (p.1.map kV))∧RelV p.2 q.2.2
theorem KT.val {H:Hp} {kvs:List (List Key × V)} {xs:List (List Key × Addr × Value)} (r:KT H kvs xs) (k:List Key):RelO (valV kvs k) ((atKey xs k).map (·.2)):=by
  induction r with
  | nil=>exact True.intro
  | @cons p q ps qs h t ih =>
    obtain ⟨h1,_,h2⟩:=h
    by_cases e:p.1=k
    · have e':q.1=k:=h1.symm.trans e
      have b:atKey (q :: qs) k=some q.2:=by simp [atKey,List.find?_cons,e']
      rw [valV_pos e,b];exact h2
    · have e':¬ q.1=k:=fun z=>e (h1.trans z)
      have b:atKey (q :: qs) k=atKey qs k:=by simp [atKey,List.find?_cons,e']
      rw [valV_neg e,b];exact ih
theorem KT.repl {H:Hp} {kvs:List (List Key × V)} {xs:List (List Key × Addr × Value)} (r:KT H kvs xs) (k:List Key) {y:V} {u:Value} (ry:RelV y u) :
    KT H (kvs.map fun kv=>if kv.1=k then (kv.1,y) else kv) (xs.map (putAt k u)):=by
  induction r with
  | nil=>exact .nil
  | @cons p q ps qs h t ih =>
    rw [List.map_cons,List.map_cons]
    refine .cons ?_ ih
    obtain ⟨h1,h2,h3⟩:=h
    unfold putAt
    by_cases e:p.1=k
    · rw [if_pos e,if_pos (h1.symm.trans e)];exact ⟨h1,h2,ry⟩
    · rw [if_neg e,if_neg (fun z=>e (h1.trans z))];exact ⟨h1,h2,h3⟩
theorem KT.put {H:Hp} {kvs:List (List Key × V)} {xs:List (List Key × Addr × Value)} (r:KT H kvs xs) (k:List Key) {b:Addr} {y:V} {u:Value} (hb:H b=some (.tup (k.map kV))) (ry:RelV y u) :
    KT H (putK kvs k y) (storedH xs k b u):=by
  have e:(kvs.any fun kv=>decide (kv.1=k))=(atKey xs k).isSome:=by
    rw [valV_any,(r.val k).isSome_eq,Option.isSome_map]
  unfold putK storedH
  rw [e]
  by_cases q:(atKey xs k).isSome=true
  · rw [if_pos q,if_pos q];exact r.repl k ry
  · rw [if_neg q,if_neg q];exact Paired.snoc r ⟨rfl,hb,ry⟩
theorem KT.keeps {H H':Hp} {kvs:List (List Key × V)} {xs:List (List Key × Addr × Value)} (r:KT H kvs xs) (ht:∀ b ys,H b=some (.tup ys)→H' b=some (.tup ys)):KT H' kvs xs :=
  Paired.mapP r fun _ _ z=>⟨z.1,ht _ _ z.2.1,z.2.2⟩
section
variable {P:Program} {w:World} {H:Hp} {h:Heap} {a:Addr}
theorem rd_of {u:HO} (ok:HOk P w H h) (e:Rd H a u):ObjOk P w H h a u:=e.ok ok
theorem dk_rd {kvs:List (Key × V)} (ok:HOk P w H h) (e:Rd H a (.dK kvs)):kvs.length≤sizeLine∧(a == sysModules)=false∧∃ vs,KV kvs vs∧h.DictOf (mixKind P w) a vs :=
  show ObjOk P w H h a (.dK kvs) from rd_of ok e
theorem dk_of {kvs:List (Key × V)} (ok:HOk P w H h) (e:H a=some (.dK kvs)):kvs.length≤sizeLine∧(a == sysModules)=false∧∃ vs,KV kvs vs∧h.DictOf (mixKind P w) a vs:=dk_rd ok (.inl e)
theorem key_of {ks:List Key} (ok:HOk P w H h) (e:H a=some (.tup (ks.map kV))):(tupleKind (mixKind P w)).is h ks a:=by
  obtain ⟨_,its,r,o,h1,h2,n,h3⟩:=(show ObjOk P w H h a (.tup (ks.map kV)) from ok a _ e)
  exact ⟨o,its.toArray,n,h1,h2,h3,by simpa using items_are r⟩
theorem dt_rd {kvs:List (List Key × V)} (ok:HOk P w H h) (e:Rd H a (.dT kvs)):kvs.length≤sizeLine∧(a == sysModules)=false ∧
    ∃ xs,KT H kvs xs∧h.DictOfH (tupleKind (mixKind P w)) a xs:=by
  obtain ⟨z,y,xs,r,o,es,ep,h1,h2,h3,h4,h5⟩:=(show ObjOk P w H h a (.dT kvs) from rd_of ok e)
  refine ⟨z,y,xs,r,o,es,ep,h1,h2,h3,h4,fun x hx=>?_,h5⟩
  have all:∀ {l:List (List Key × V)} {m:List (List Key × Addr × Value)},KT H l m→∀ x∈m,(tupleKind (mixKind P w)).is h x.1 x.2.1:=by
    intro l m q
    induction q with
    | nil=>intro x hx;exact nomatch hx
    | @cons p q ps qs hq t ih =>
      intro x hx
      rcases List.mem_cons.mp hx with e | hx
      · subst e
        exact key_of ok (by rw [← hq.1];exact hq.2.1)
      · exact ih x hx
  exact all r x hx
theorem dt_of {kvs:List (List Key × V)} (ok:HOk P w H h) (e:H a=some (.dT kvs)):kvs.length≤sizeLine∧(a == sysModules)=false ∧
    ∃ xs,KT H kvs xs∧h.DictOfH (tupleKind (mixKind P w)) a xs:=dt_rd ok (.inl e)
end
def DGet (H:Hp) (a:Addr) (y:V) (r:Option V):Prop :=
  (∃ kvs k,Rd H a (.dK kvs)∧y=kV k∧r=valV kvs k)∨∃ kvs k b,Rd H a (.dT kvs)∧y=.ref b∧H b=some (.tup (k.map kV))∧r=valV kvs k
def DPut (H:Hp) (a:Addr) (y v:V) (H':Hp):Prop :=
  (∃ kvs k,H a=some (.dK kvs)∧y=kV k∧kvs.length < sizeLine∧H'=upd H a (.dK (putK kvs k v))) ∨
  ∃ kvs k b,H a=some (.dT kvs)∧y=.ref b∧H b=some (.tup (k.map kV))∧kvs.length < sizeLine∧H'=upd H a (.dT (putK kvs k v))
theorem DGet.t {H:Hp} {a b:Addr} {kvs:List (List Key × V)} {k:List Key} (e:H a=some (.dT kvs)) (eb:H b=some (.tup (k.map kV))):DGet H a (.ref b) (valV kvs k):=.inr ⟨kvs,k,b,.inl e,rfl,eb,rfl⟩
theorem DPut.t {H:Hp} {a b:Addr} {kvs:List (List Key × V)} {k:List Key} {v:V} (e:H a=some (.dT kvs)) (eb:H b=some (.tup (k.map kV))) (hl:kvs.length < sizeLine) :
    DPut H a (.ref b) v (upd H a (.dT (putK kvs k v))):=.inr ⟨kvs,k,b,e,rfl,eb,hl,rfl⟩
section
variable {X:Cx} {pins:List (Addr × Obj)} {σ:St} {H:Hp} {s:Shared} {a:Addr} {y v:V} {u r:Value} {o:Option V} {A:Around} {E:Value→Shared→Prop}
theorem Inv.big (I:Inv X pins σ H s):sysModules < s.heap.objs.size:=by
  have h:mainGlobals < s.heap.objs.size:=(I.mod.glob.keeps I.bk).lt
  exact Nat.lt_trans (by decide) h
theorem d_in {Q:Value→Shared→Prop} (hu:A.units + 1 < cLine) (I:Inv X pins σ H s) (g:DGet H a y o) (ry:RelV y u) (h:∀ s',Inv X pins σ H s'→Q (.bool o.isSome) s') :
    wpAny (model X.prog X.w) A (compareOp .In u (.ref a)) Q E s:=by
  rcases g with ⟨kvs,k,e,ey,l⟩ | ⟨kvs,k,b,e,ey,eb,l⟩
  · subst ey
    obtain ⟨z,hd,vs,rel,dd⟩:=dk_rd I.hok e
    refine wpAny_in_of (kV_is ry) hd dd.mapOf ?_
    rw [← (rel.val k).isSome_eq,← l]
    exact h _ (I.tok _)
  · subst ey
    cases (show u=Value.ref b from ry)
    obtain ⟨z,hd,xs,rel,dd⟩:=dt_rd I.hok e
    refine wpAny_in_heap (tupleKind_room_in1 hu) (key_of I.hok eb) hd dd ?_
    have q:=(rel.val k).isSome_eq
    rw [Option.isSome_map] at q
    rw [← q,← l]
    exact h _ (I.tok _)
theorem d_write {h':Heap} {t':Nat} {ob:HO} (I:Inv X pins σ H s) (mu:Mut (H a)) (hs:Heap.SameBut a s.heap h') (he:∃ q,h'.get? a=some q) (new:ObjOk X.prog X.w (upd H a ob) h' a ob) :
    Inv X pins σ (upd H a ob) { s with heap:=h',toks:=t' } :=
  I.write (x:=a) (e:=a) mu (.inl rfl) (fun b q hb z=>(hs.2 b hb).trans z) he new
theorem dk_new {P:Program} {w:World} {H':Hp} {h':Heap} {kvs:List (Key × V)} {vs:List (Key × Value)} (z:kvs.length≤sizeLine) (hd:(a == sysModules)=false) (rel:KV kvs vs) (dd:h'.DictOf (mixKind P w) a vs) :
    ObjOk P w H' h' a (.dK kvs):=⟨z,hd,vs,rel,dd⟩
theorem d_setItem {H':Hp} {Q:Unit→Shared→Prop} (hu:A.units + 1 < cLine) (I:Inv X pins σ H s) (g:DPut H a y v H') (ry:RelV y u) (rv:RelV v r) (h:∀ s',Inv X pins σ H' s'→Q () s') :
    wpAny (model X.prog X.w) A (setItem (.ref a) u r) Q E s:=by
  rcases g with ⟨kvs,k,e,ey,l,eH⟩ | ⟨kvs,k,b,e,ey,eb,l,eH⟩
  · subst ey eH
    obtain ⟨z,hd,vs,rel,dd⟩:=dk_of I.hok e
    have hz:vs.length≤sizeLine:=by rw [← rel.length];exact z
    have hl:(putK kvs k v).length≤sizeLine:=by have:=length_putK kvs k v;omega
    refine wpAny_setItem_pairs (hsz:=hz) (kV_is ry) dd fun h' dd' hs=>h _ ?_
    have he:∃ q,h'.get? a=some q:=let ⟨q,_,_,hq,_⟩:=dd';⟨q,hq⟩
    exact d_write I (by rw [e];exact True.intro) hs he (dk_new hl hd (rel.put k rv) dd')
  · subst ey eH
    cases (show u=Value.ref b from ry)
    obtain ⟨z,hd,xs,rel,dd⟩:=dt_of I.hok e
    have hz:xs.length≤sizeLine:=by rw [← Paired.length rel];exact z
    have hl:(putK kvs k v).length≤sizeLine:=by have:=length_putK kvs k v;omega
    refine wpAny_setItem_heap (hsz:=hz) (tupleKind_room_in1 hu) (key_of I.hok eb) dd fun h' dd' hs=>h _ ?_
    obtain ⟨q,es,ep,hq,h2,h3,h4,_,h5⟩:=dd'
    refine d_write I (by rw [e];exact True.intro) hs ⟨q,hq⟩ ⟨hl,hd,_,(rel.put k eb rv).keeps fun c ys ec=>?_,q,es,ep,hq,h2,h3,h4,h5⟩
    rw [upd_ne (ne_of ec e (fun z=>nomatch z))]
    exact ec
end
section
variable {X:Cx} {pins:List (Addr × Obj)} {σ:St} {H:Hp} {s:Shared} {a:Addr} {kvs:List (Key × V)} {k:Key} {u:Value} {A:Around} {E:Value→Shared→Prop}
end
def tDGet (td ty:TE):TE:=fun σ H Q=>td σ H fun x H1=>ty σ H1 fun y H2=>∃ a v,x=.ref a∧DGet H2 a y (some v)∧Q v H2
def sDPut (td ty tv:TE):TS:=fun D σ H=>tv σ H fun v H1=>td σ H1 fun x H2=>ty σ H2 fun y H3=>∃ a H4,x=.ref a∧DPut H3 a y v H4∧D.nx σ H4
section
variable {X:Cx} {o i e value:Expr} {pos pos' tpos:Pos} {td ty tv:TE}
theorem ps_dput (hu:X.A.units + 1 < cLine) (ho:PE X o td) (hi:PE X i ty) (hv:PE X value tv) (hs:swapsWith value (some (.Subscript o i pos')) pos.line X.env=pure false) :
    PS X (.Assign [.Subscript o i pos'] value pos) (sDPut td ty tv):=by
  intro pins s σ H D I h
  refine wpAny_Assign_Subscript (thn (hv pins s σ H _ I h) fun r s1 ⟨v,H1,I1,rv,q1⟩=>thn (ho pins s1 σ H1 _ I1 q1) fun u s2 ⟨x,H2,I2,rx,q2⟩=>thn (hi pins s2 σ H2 _ I2 q2) fun iv s3 ⟨y,H3,I3,ry,a,H4,ex,g,q3⟩=>?_) hs
  subst ex
  obtain rfl:u=Value.ref a:=rx
  exact d_setItem hu I3 g ry rv fun s4 I4=>⟨σ,H4,I4,q3⟩
end
theorem dk_empty {P:Program} {w:World} {H:Hp} (h:Heap) (hb:sysModules < h.objs.size):ObjOk P w H (h.push { cls:=.type "dict",data:=.dict #[] }) h.objs.size (.dK []) :=
  ⟨Nat.zero_le _,beq_eq_false_iff_ne.mpr (Ne.symm (Nat.ne_of_lt hb)),[],.nil,Heap.DictOf.new h⟩
theorem dt_empty {P:Program} {w:World} {H:Hp} (h:Heap) (hb:sysModules < h.objs.size):ObjOk P w H (h.push { cls:=.type "dict",data:=.dict #[] }) h.objs.size (.dT []) :=
  ⟨Nat.zero_le _,beq_eq_false_iff_ne.mpr (Ne.symm (Nat.ne_of_lt hb)),[],.nil,_,#[],0,Heap.get?_push_size _ rfl,⟨rfl,rfl,rfl⟩,rfl,rfl,List.nodup_nil⟩
def tDNewK:TE:=fun _ H Q=>∀ p,H p=none→Q (.ref p) (upd H p (.dK []))
def tDNewT:TE:=fun _ H Q=>∀ p,H p=none→Q (.ref p) (upd H p (.dT []))
section
variable {X:Cx} {pos:Pos}
theorem pe_dnewK:PE X (.Dict [] [] pos) tDNewK:=fun pins s σ H Q I h =>
  wpAny_Dict_empty ⟨.ref s.heap.objs.size,_,I.laid (a:=s.heap.objs.size) (o:=.dK []) (t':=s.toks) (fun _ _ q=>Heap.get?_push_of_some _ q) (Nat.le_refl _) (dk_empty s.heap I.big),rfl,h _ (I.hok.fresh (Nat.le_refl _))⟩
theorem pe_dnewT:PE X (.Dict [] [] pos) tDNewT:=fun pins s σ H Q I h =>
  wpAny_Dict_empty ⟨.ref s.heap.objs.size,_,I.laid (a:=s.heap.objs.size) (o:=.dT []) (t':=s.toks) (fun _ _ q=>Heap.get?_push_of_some _ q) (Nat.le_refl _) (dt_empty s.heap I.big),rfl,h _ (I.hok.fresh (Nat.le_refl _))⟩
end
def tPairs:List (TE × TE)→St→Hp→(List (V × V)→Hp→Prop)→Prop
  | [],_,H,Q=>Q [] H
  | (tk,tv) :: r,σ,H,Q=>tk σ H fun x H1=>tv σ H1 fun y H2=>tPairs r σ H2 fun ps H3=>Q ((x,y) :: ps) H3
def mergeK (kvs more:List (Key × V)):List (Key × V):=more.foldl (fun acc kv=>putK acc kv.1 kv.2) kvs
def tDisp (trs:List (TE × TE)):TE:=fun σ H Q=>∀ p,H p=none→tPairs trs σ (upd H p (.dK [])) fun ps H2=>H2 p=some (.dK [])∧∃ kvs:List (Key × V),ps=kvs.map (fun kv=>(kV kv.1,kv.2))∧kvs.length≤15∧Q (.ref p) (upd H2 p (.dK (mergeK [] kvs)))
def IsD (H:Hp) (a:Addr):Prop:=(∃ kvs,Rd H a (.dK kvs))∨∃ kvs,Rd H a (.dT kvs)
theorem isD_at {X:Cx} {pins:List (Addr × Obj)} {σ:St} {H:Hp} {s:Shared} {a:Addr} (I:Inv X pins σ H s) (d:IsD H a) :
    s.TypeIs (.ref a) "dict"∧(∀ b,Value.ref a=.ref b→∃ ob,s.heap.get? b=some ob∧ob.dict=none)∧(a == sysModules)=false:=by
  rcases d with ⟨kvs,e⟩ | ⟨kvs,e⟩
  · obtain ⟨_,hd,vs,_,dd⟩:=dk_rd I.hok e
    refine ⟨dd.typeIs,fun b q=>?_,hd⟩
    cases q
    obtain ⟨ob,_,_,h1,h2,_⟩:=dd
    exact ⟨ob,h1,h2.2.1⟩
  · obtain ⟨_,hd,xs,_,dd⟩:=dt_rd I.hok e
    refine ⟨dd.typeIs,fun b q=>?_,hd⟩
    cases q
    obtain ⟨ob,_,_,h1,h2,_⟩:=dd
    exact ⟨ob,h1,h2.2.1⟩
section
variable {X:Cx} {pins:List (Addr × Obj)} {σ:St} {H:Hp} {s:Shared} {a:Addr} {y d:V} {u r:Value} {o:Option V} {A:Around} {E:Value→Shared→Prop}
end
def tDGet2 (td ty tx:TE):TE:=fun σ H Q=>td σ H fun x H1=>∃ a,x=.ref a∧IsD H1 a∧ty σ H1 fun y H2=>tx σ H2 fun z H3=>∃ o,DGet H3 a y o∧Q (o.getD z) H3
def tDPop2 (td ty tx:TE):TE:=fun σ H Q=>td σ H fun x H1=>∃ a,x=.ref a∧IsD H1 a∧ty σ H1 fun y H2=>tx σ H2 fun z H3=>∃ kvs k,H3 a=some (.dK kvs)∧y=kV k ∧
  (∀ v,valV kvs k=some v→Q v (upd H3 a (.dK (dropK kvs k))))∧(valV kvs k=none→Q z H3)
section
variable {X:Cx} {o e f:Expr} {apos cpos:Pos} {td ty tx:TE}
end
section
variable {X:Cx} {pins:List (Addr × Obj)} {σ:St} {H:Hp} {s:Shared} {a:Addr} {kvs:List (Key × V)} {A:Around} {E:Value→Shared→Prop}
end
section
variable {X:Cx} {pins:List (Addr × Obj)} {σ:St} {H:Hp} {s:Shared} {a:Addr} {y:V} {u:Value} {A:Around} {E:Value→Shared→Prop}
end
end L2
namespace Att
open PySem PySem.W PySem.Calls PyProof.Rows
theorem ints_of_wellAll {P:Params} {h:Heap}:∀ (ns:List Int) (vs:List Value),WellAll P h vs (ns.map WData.int)→IntsAre vs ns:=by
  intro ns
  induction ns with
  | nil =>
    intro vs w
    rw [List.map_nil] at w
    cases w
    exact .nil
  | cons n ns ih =>
    intro vs w
    rw [List.map_cons] at w
    cases w with
    | cons a b =>
      cases a
      exact .cons _ _ (ih _ b)
theorem script_of {l:OpenLaw} {n:Nat} (hn:l.most=some n) {P:Params} {h:Heap} {args:List WData} {vals:List Value}
    (hpre:l.row.toRowW.claim.pre args=true) (hwl:WellAll P h vals args) :
    ∃ a vs ns,vals=[Value.ref a]∧args=[WData.list (ns.map WData.int)]∧h.get? a=some { cls:=.type "list",data:=.seq vs.toArray }∧IntsAre vs ns∧ns.length≤n:=by
  have hsh:WShape.hasAll [] args [.list .int]=true:=(pre_splitW hpre).1
  have hc:l.pre.holds [] { args:=args }=true:=(pre_splitW hpre).2
  obtain ⟨d,r,rfl,h1,h2⟩:=hasAllW_cons hsh
  obtain rfl:=hasAllW_nil h2
  obtain ⟨xs,rfl,h3⟩:=hasW_list h1
  obtain ⟨ns,rfl⟩:=items_int h3
  have hlen:ns.length≤n:=by
    unfold OpenLaw.pre at hc
    have h4:(WTm.not (.lt (.lit (.int (n:Int))) (.len (.arg 0)))).holds [] { args:=[.list (ns.map .int)] }=true:=by
      have h4:=(holds_andW hc).1
      rw [hn] at h4
      exact h4
    have h5:=condW_of h4 (w_not (w_lt w_lit (w_len_list (w_arg rfl))))
    rw [List.length_map] at h5
    refine Nat.le_of_not_lt fun q=>?_
    have q':(n:Int) < ((ns.length:Nat):Int):=by omega
    first
      | (rw [decide_eq_true q'] at h5;exact absurd h5 (by decide))
      | (simp at h5;omega)
  cases hwl with
  | cons w1 w2 =>
    cases w2
    cases w1 with
    | list ho hall=>exact ⟨_,_,ns,rfl,rfl,ho,ints_of_wellAll ns _ hall,hlen⟩
theorem post_true (l:OpenLaw) (args:List WData):l.row.toRowW.claim.post args (.bool true) args=true :=
  postW_of (r:=l.row.toRowW) (X:=(true == true))
    (show WShape.has [] (.bool true) .bool=true by first | rfl | decide | simp [WShape.has,WShape.arms,WShape.armsAll])
    (show (WTm.eq .res (.lit (.bool true))).value [] { args:=args,res:=some (.bool true),after:=args }=some (.bool (true == true)) from w_eq_bool (w_res rfl) w_lit) rfl
theorem attach_call {l:OpenLaw} {n:Nat} {q:Program} {loose:List Str} {XP:(Str→Option Value)→Heap→Prop} {YP:World→Heap→Prop} {d:DefRec}
    (hn:l.most=some n) (hdf:d.params.defaults=[])
    (call:∀ (w:World) (s₀ s₁:Shared) (mg mb:Str→Option Value) (fa:Addr) (o:Obj) (pm cd doc:Value) (a:Addr) (vs:List Value) (ns:List Int),
      Ground q loose [] XP w s₀ mg mb s₁.heap→YP w s₁.heap →
      s₁.heap.get? fa=some o→o.data=.func (docDef d.name d.params d.body d.scope pm cd doc)→s₁.heap.CodeRec cd d.name→mg d.name=some (.ref fa) →
      s₁.heap.get? a=some { cls:=.type "list",data:=.seq vs.toArray }→IntsAre vs ns→ns.length≤n→s₁.gens=#[] →
      codeAny (model l.prog w) callerA (.call (.ref fa) ⟨[.ref a],[]⟩) (fun r s'=>r=.ok (.ret (.bool true))∧OldK s₁.heap s'.heap∧s'.os=s₁.os∧AllBare s'.gens) s₁) :
    WalkO q loose XP YP l.row.toRowW d [] (fun f vs=>PySem.call f vs):=by
  intro w s₀ s₁ mg mb G Y fa o pm cd doc dV kV ho hd hcd hD hmg hg args vals as hpre hlay hrd hwl hlo
  obtain rfl:dV=.none:=Dflts.none hD hdf
  obtain rfl:kV=.none:=Dflts.noKw hD
  obtain ⟨a,vs,ns,rfl,rfl,hobj,hints,hlen⟩:=script_of hn hpre hwl
  refine enter_call (codeAny_mono (call w s₀ s₁ mg mb fa o pm cd doc a vs ns G Y ho (fd_plain hd) hcd hmg hobj hints hlen hg) fun r s' hq=>?_)
  obtain ⟨rfl,h2,h3,h4⟩:=hq
  exact ⟨.inl ⟨.bool true,.bool true,[],rfl,fun _=>rfl,.bool true,post_true l _,fun _=>⟨List.Pairwise.nil,fun _ hm=>(nomatch hm)⟩⟩,h2,h3,h4⟩
section
variable {prog:Program} {w:World} {A:Around} {E:Value→Shared→Prop} {s:Shared} {K:Frag}
def ledger (h:Heap) (L d:Addr):List (Addr × Obj):=(List.range h.objs.size).filterMap fun a=>if a=L∨a=d then none else (h.get? a).map fun o=>(a,o)
end
end Att
namespace L2
open PySem PySem.Spec PyProof.Rows
theorem vals_ints:∀ {vs:List Value} {ns:List Int},IntsAre vs ns→Vals (ns.map V.int) vs
  | _,_,.nil=>.nil
  | _,_,.cons n t h=>.cons ⟨t,rfl⟩ (vals_ints h)
def Only (H:Hp):Prop:=∀ b,H b=none∨∃ o xs,H b=some (.frz o (.lst xs))
theorem law_call {P:Program} {w:World} {K:PySem.W.Frag} {mg mb:Str→Option Value} {CX:CXT} {k:Nat} {fa a:Addr} {fd:FuncData} {x:Str} {sp:Sp} {s₁:Shared} {vs:List Value} {ns:List Int}
    (KX:K.In s₁.heap) (hns:s₁.heap.Ns mainGlobals mg) (hb:s₁.heap.Ns builtinsNs mb) (hbb:∀ x:Str,x≠"__name__"→mb x=bootBuiltins x) (hlim:s₁.heap.NoLimit) (hg:s₁.gens=#[])
    (ha:s₁.heap.get? a=some { cls:=.type "list",data:=.seq vs.toArray }) (hi:IntsAre vs ns) (hl:ns.length≤sizeLine) (hr:Room k callerA)
    (F:∀ base:Heap,K.In base→base.Ns mainGlobals mg→FnOk P w K mg base CX k fa fd [x] sp) (hbind:∀ (s:Shared) (u:Value),BindsTo s fd ⟨[u],[]⟩ [(x,u)])
    (hsp:∀ H:Hp,Only H→SqL K H a (ns.map V.int)→sp [.ref a] H (fun v _=>v=.bl true) fun _ _ _=>False)
    (hCX:∀ H e s',CX [] H s₁ (fun _ _ _=>False) e s'→False) :
    codeAny (model P w) callerA (.call (.ref fa) ⟨[.ref a],[]⟩) (fun r s'=>r=.ok (.ret (.bool true))∧OldK s₁.heap s'.heap∧s'.os=s₁.os∧AllBare s'.gens) s₁:=by
  have rv:=vals_ints hi
  have lenV:=hi.length
  -- from an abstract heap in which nothing but the script may be tracked
  have core:∀ H:Hp,Only H→SqL K H a (ns.map V.int)→HOk P w H s₁.heap→(∀ b,H b≠none→b=a)→(H a≠none→K.lookup a=none) →
      codeAny (model P w) callerA (.call (.ref fa) ⟨[.ref a],[]⟩) (fun r s'=>r=.ok (.ret (.bool true))∧OldK s₁.heap s'.heap∧s'.os=s₁.os∧AllBare s'.gens) s₁:=by
    intro H hO hS hok hA hK
    have base_of:∀ {b:Addr} {o:Obj},s₁.heap.get? b=some o→H b=none→(hidT s₁.heap H).get? b=some o:=fun e n=>hidT_get e n
    have noA:∀ {b:Addr} {o:Obj} {es:Array DictEntry} {ep:Nat},s₁.heap.get? b=some o→o.data=.dict es ep→H b=none:=fun {b o es ep} e d=>by
      cases q:H b with
      | none=>rfl
      | some u =>
        have e':b=a:=hA b (by rw [q];simp)
        subst e'
        rw [ha] at e;cases e
        have d':Data.seq vs.toArray _=Data.dict es ep:=d
        cases d'
    have nsK:∀ {b:Addr} {m:Str→Option Value},s₁.heap.Ns b m→(hidT s₁.heap H).Ns b m:=fun {b m} ⟨o,es,ep,e,d,r⟩=>⟨o,es,ep,base_of e (noA e d),d,r⟩
    have hKb:K.In (hidT s₁.heap H):=fun b o e=>base_of (KX b o e) (by
      cases q:H b with
      | none=>rfl
      | some u =>
        have e':b=a:=hA b (by rw [q];simp)
        subst e'
        rw [hK (by rw [q];simp)] at e;cases e)
    have hM:Mod K mg (hidT s₁.heap H):=⟨hKb,nsK hns,⟨mb,nsK hb,hbb⟩,let ⟨mc,h1,h2⟩:=hlim;⟨mc,nsK h1,h2⟩⟩
    have e0:Env0 P w K mg (hidT s₁.heap H) callerA [] s₁ H:=⟨rfl,hM,fun b o e=>of_hidT e,Nat.le_of_eq (hidT_size _ _),trivial,fun b hb=>absurd (show b∈([]:List Addr) from hb) (by simp),hok,.of_eq hg⟩
    refine codeAny_mono ((F _ hKb (nsK hns)).run callerA [] s₁ H ⟨[.ref a],[]⟩ [.ref a] [.ref a] _ _ hr e0 (hbind s₁ (.ref a)) (.cons rfl .nil) (hsp H hO hS)) fun r s' h=>?_
    cases r with
    | error e=>exact (hCX H e s' h).elim
    | ok fl =>
      cases fl with
      | next=>exact False.elim h
      | brk=>exact False.elim h
      | cont=>exact False.elim h
      | ret u =>
        obtain ⟨v,H',os,bare,un,hok',r',q⟩:=h
        have q':v=.bl true:=q
        subst q'
        obtain rfl:u=Value.bool true:=r'
        refine ⟨rfl,OldK.of_keep fun b o e=>?_,os,bare⟩
        cases q:H b with
        | none=>exact un.keep b o e q (by intro z;exact absurd (show b∈([]:List Addr) from z) (by simp)) (by simp)
        | some u =>
          rcases hO b with z | ⟨ob,xs,z⟩
          · rw [q] at z;cases z
          · have z2:=un.frzs b ob _ z
            obtain ⟨e1,_⟩:=hok b _ z
            obtain ⟨e2,_⟩:=hok' b _ z2
            rw [e] at e1;cases e1
            exact e2
  cases hk:K.lookup a with
  | some o =>
    -- the script is one of the module's own objects
    have e:=KX a o hk
    rw [ha] at e
    cases e
    refine core (fun _=>none) (fun _=>.inl rfl) (.inr ⟨_,vs.toArray,_,hk,rfl,rfl,rfl,by rw [List.size_toArray,lenV];exact hl,by simpa using rv⟩) (fun b u z=>by have z':(none:Option HO)=some u:=z;cases z') (fun b z=>absurd rfl z) fun z=>absurd rfl z
  | none =>
    refine core (fun b=>if b=a then some (.frz { cls:=.type "list",data:=.seq vs.toArray } (.lst (ns.map V.int))) else none) (fun b=>?_) (.inl (.inr ⟨{ cls:=.type "list",data:=.seq vs.toArray },if_pos rfl⟩)) (fun b u z=>?_) (fun b z=>?_) fun _=>hk
    · by_cases hb:b=a
      · exact .inr ⟨_,_,if_pos hb⟩
      · exact .inl (if_neg hb)
    · by_cases hb:b=a
      · have z':=(if_pos hb).symm.trans z
        cases z'
        subst hb
        exact ⟨ha,by rw [List.length_map];exact hl,vs,_,rv,ha⟩
      · have z':=(if_neg hb).symm.trans z
        cases z'
    · by_cases hb:b=a
      · exact hb
      · exact absurd (if_neg hb) z
end L2
namespace L2
open PySem PySem.Spec PyProof.Rows
abbrev KOf {K:PySem.W.Frag} {h:Heap} (_:K.In h):PySem.W.Frag:=K
theorem walk_of {l:PySem.W.OpenLaw} {n k:Nat} {q:Program} {loose:List Str} {XP:(Str→Option Value)→Heap→Prop} {YP:World→Heap→Prop} {d:DefRec} {K:Params→PySem.W.Frag} {CX:World→CXT} {sp:World→Sp} {x:Str}
    (hn:l.most=some n) (hn2:n≤sizeLine) (hdf:d.params.defaults=[]) (hr:Room k callerA)
    (hY:∀ (w:World) (h:Heap),YP w h→(K w.params).In h)
    (F:∀ (w:World) (mg:Str→Option Value) (fa:Addr) (h:Heap),(K w.params).In h→h.Ns mainGlobals mg→mg d.name=some (.ref fa) →
      ∃ fd:FuncData,(∀ (s:Shared) (u:Value),BindsTo s fd ⟨[u],[]⟩ [(x,u)]) ∧
        ∀ base:Heap,(K w.params).In base→base.Ns mainGlobals mg→FnOk l.prog w (K w.params) mg base (CX w) k fa fd [x] (sp w))
    (hsp:∀ (w:World) (H:Hp) (a:Addr) (ns:List Int),ns.length≤n→Only H→SqL (K w.params) H a (ns.map V.int)→sp w [.ref a] H (fun v _=>v=.bl true) fun _ _ _=>False)
    (hCX:∀ (w:World) (H:Hp) (s:Shared) (e:Value) (s':Shared),CX w [] H s (fun _ _ _=>False) e s'→False) :
    PySem.W.WalkO q loose XP YP l.row.toRowW d [] (fun f vs=>PySem.call f vs):=by
  refine Att.attach_call hn hdf fun w s₀ s₁ mg mb fa o pm cd doc a vs ns G Y ho hd hcd hmg hobj hints hlen hg=>?_
  have KX:=hY w _ Y
  obtain ⟨fd,hb,hF⟩:=F w mg fa _ KX G.T.g hmg
  exact law_call KX G.T.g G.T.b G.T.builtins G.T.nolimit hg hobj hints (Nat.le_trans hlen hn2) hr hF hb (fun H hO hS=>hsp w H a ns hlen hO hS) fun H e s'=>hCX w H s₁ e s'
theorem walk_ofK {l:PySem.W.OpenLaw} {n k:Nat} {q:Program} {loose:List Str} {XP:(Str→Option Value)→Heap→Prop} {YP:World→Heap→Prop} {d:DefRec} {K:Params→PySem.W.Frag} {CX:CXT} {sp:PySem.W.Frag→Sp} {x:Str}
    (hn:l.most=some n) (hn2:n≤sizeLine) (hdf:d.params.defaults=[]) (hr:Room k callerA)
    (hY:∀ (w:World) (h:Heap),YP w h→(K w.params).In h)
    (F:∀ (w:World) (mg:Str→Option Value) (fa:Addr) (h:Heap),(K w.params).In h→h.Ns mainGlobals mg→mg d.name=some (.ref fa) →
      ∃ fd:FuncData,(∀ (s:Shared) (u:Value),BindsTo s fd ⟨[u],[]⟩ [(x,u)]) ∧
        ∀ base:Heap,(K w.params).In base→base.Ns mainGlobals mg→FnOk l.prog w (K w.params) mg base CX k fa fd [x] (sp (K w.params)))
    (hsp:∀ (K:PySem.W.Frag) (H:Hp) (a:Addr) (ns:List Int),ns.length≤n→Only H→SqL K H a (ns.map V.int)→sp K [.ref a] H (fun v _=>v=.bl true) fun _ _ _=>False)
    (hCX:∀ (H:Hp) (s:Shared) (e:Value) (s':Shared),CX [] H s (fun _ _ _=>False) e s'→False) :
    PySem.W.WalkO q loose XP YP l.row.toRowW d [] (fun f vs=>PySem.call f vs) :=
  walk_of (K:=K) (CX:=fun _=>CX) (sp:=fun w=>sp (K w.params)) hn hn2 hdf hr hY F (fun w H a ns h1 h2 h3=>hsp (K w.params) H a ns h1 h2 h3) fun _ H s e s'=>hCX H s e s'
end L2
namespace L2
open PySem PySem.Spec PyProof.Rows
def defArgs (s:Stmt):Arguments:=match s with
  | .FunctionDef _ a _ _ _ _ _ _ _ _=>a
  | _=>{ posonlyargs:=[],args:=[],vararg:=none,kwonlyargs:=[],kw_defaults:=[],kwarg:=none,defaults:=[] }
def defBody (s:Stmt):List Stmt:=match s with
  | .FunctionDef _ _ b _ _ _ _ _ _ _=>b
  | _=>[]
def defScope (s:Stmt):Scope:=match s with
  | .FunctionDef _ _ _ _ _ _ sc _ _ _=>sc
  | _=>{ kind:=.function,names:=[],isGenerator:=false,isCoroutine:=false }
abbrev E0:XK:=fun _ _ _=>False
structure Fun (K:PySem.W.Frag) (x qual:Str) (st:Stmt) (f:Addr) (fd:FuncData):Prop where
  ex:∃ (oc:Value) (od:Option Addr) (kV doc pm:Value) (an:Option Addr) (cdv ct:Value) (osl:Array (Option Value)),
    fd=PySem.W.fnOf x qual (defArgs st) (defBody st) (defScope st) .none kV doc pm an cdv ct∧K.lookup f=some ⟨oc,od,.func fd,osl⟩∧PySem.W.codeIn K cdv qual=true
  kp:PySem.W.keepIn K (.ref f)=true
section
variable {P:Program} {w:World} {K:PySem.W.Frag} {mg:Str→Option Value} {base:Heap}
theorem Fun.binds {x qual:Str} {st:Stmt} {f:Addr} {fd:FuncData} {ps:List Str} (F:Fun K x qual st f fd)
    (h:∀ (kV doc pm:Value) (an:Option Addr) (cdv ct:Value) (us:List Value),us.length=ps.length→bindArgs (PySem.W.fnOf x qual (defArgs st) (defBody st) (defScope st) .none kV doc pm an cdv ct) ⟨us,[]⟩=pure (ps.zip us)):Binds K fd ps []:=by
  obtain ⟨oc,od,kV,doc,pm,an,cdv,ct,osl,rfl,lk,hcd⟩:=F.ex
  exact .all (h kV doc pm an cdv ct)
theorem fun_mk {x qual:Str} {st:Stmt} {f:Addr} {oc:Value} {od an:Option Addr} {osl:Array (Option Value)} {kV doc pm cdv ct:Value} (l:K.lookup f=some ⟨oc,od,.func (PySem.W.fnOf x qual (defArgs st) (defBody st) (defScope st) .none kV doc pm an cdv ct),osl⟩)
    (c:PySem.W.codeIn K cdv qual=true) (k:PySem.W.keepIn K (.ref f)=true):Fun K x qual st f (PySem.W.fnOf x qual (defArgs st) (defBody st) (defScope st) .none kV doc pm an cdv ct):=⟨⟨oc,od,kV,doc,pm,an,cdv,ct,osl,rfl,l,c⟩,k⟩
end
theorem hu_of {A:Around} {k:Nat} (hr:Room k A):A.units + 1 < cLine:=Nat.lt_of_le_of_lt (Nat.add_le_add_left (by decide:1≤64) _) hr.units
section
variable {X:Cx}
theorem pv (i:Nat) {x:Str} {pos:Pos} (hN:X.N[i]?=some x:=by rfl) (hv:Vis X.env.scope x:=by first | exact Or.inl rfl | exact Or.inr (Or.inl rfl) | exact Or.inr (Or.inr rfl)) (hd:(x == ("__debug__":Str))=false:=by decide)
    (hcd:(x == ("__classdict__":Str))=false:=by decide):PE X (.Name x pos) (tVar i):=pe_var hN hv hd hcd
end
theorem ite2 {c A B:Prop} [Decidable c] (h1:c→A) (h2:¬ c→B):if c then A else B:=by
  by_cases h:c
  · rw [if_pos h]
    exact h1 h
  · rw [if_neg h]
    exact h2 h
def Same (H H':Hp):Prop:=∀ b o,H b=some o→H' b=some o
theorem Same.refl (H:Hp):Same H H:=fun _ _ h=>h
theorem Same.trans {H H1 H2:Hp} (a:Same H H1) (b:Same H1 H2):Same H H2:=fun c o h=>b c o (a c o h)
end L2
namespace L2
open PySem PySem.Spec PyProof.Rows
section
variable {X:Cx}
end
section
variable {κ:Type} [DecidableEq κ]
theorem valV_not {kvs:List (κ × V)} {k:κ} (h:valV kvs k=none):¬ k∈kvs.map (·.1):=by
  intro m
  obtain ⟨p,hp,e⟩:=List.mem_map.mp m
  have q:(kvs.any fun kv=>decide (kv.1=k))=true:=List.any_eq_true.mpr ⟨p,hp,decide_eq_true e⟩
  rw [valV_any,h] at q
  exact absurd q (by simp)
theorem valV_in {kvs:List (κ × V)} {k:κ} {v:V} (h:valV kvs k=some v):k∈kvs.map (·.1):=by
  have q:(kvs.any fun kv=>decide (kv.1=k))=true:=by
    rw [valV_any,h]
    all_goals rfl
  obtain ⟨p,hp,e⟩:=List.any_eq_true.mp q
  exact List.mem_map.mpr ⟨p,hp,of_decide_eq_true e⟩
theorem nd_snoc:∀ {l:List κ} {k:κ},l.Nodup→¬ k∈l→(l ++ [k]).Nodup
  | [],k,_,_=>by simp
  | a :: r,k,h,hk=>by
    obtain ⟨h1,h2⟩:=List.nodup_cons.mp h
    show (a :: (r ++ [k])).Nodup
    refine List.nodup_cons.mpr ⟨fun m=>?_,nd_snoc h2 fun m=>hk (List.mem_cons.mpr (Or.inr m))⟩
    rcases List.mem_append.mp m with q | q
    · exact h1 q
    · exact hk (List.mem_cons.mpr (Or.inl (List.mem_singleton.mp q).symm))
theorem nd_putK {kvs:List (κ × V)} {k:κ} (v:V) (hn:(kvs.map (·.1)).Nodup) (h:valV kvs k=none):((putK kvs k v).map (·.1)).Nodup:=by
  rw [putK_new v h,List.map_append]
  exact nd_snoc hn (valV_not h)
theorem dropK_neg {p:κ × V} {r:List (κ × V)} {k:κ} (e:¬ p.1=k):dropK (p :: r) k=p :: dropK r k:=by
  unfold dropK
  rw [List.filter_cons,if_pos (by simp [e])]
theorem dropK_no:∀ {kvs:List (κ × V)} {k:κ},¬ k∈kvs.map (·.1)→dropK kvs k=kvs
  | [],_,_=>rfl
  | p :: r,k,h=>by
    have h':¬ k∈r.map (·.1):=fun m=>by
      obtain ⟨q,hq,e⟩:=List.mem_map.mp m
      exact h (List.mem_map.mpr ⟨q,List.mem_cons.mpr (Or.inr hq),e⟩)
    rw [dropK_neg fun e=>h (List.mem_map.mpr ⟨p,List.mem_cons.mpr (Or.inl rfl),e⟩),dropK_no h']
end
end L2
set_option Elab.async false
set_option linter.all false
set_option maxRecDepth 100000
set_option maxHeartbeats 4000000
namespace L2
open PySem PySem.Spec PyProof.Rows
def Cx.comp (X:Cx) (scope:Scope) (cl:List (Str × Addr)) (C:Addr) (N:List Str) (fp:List Addr) (s:Shared) (H:Hp):Cx :=
  { X with env:=compEnvC scope cl C X.env,N:=N,s₀:=s,H₀:=H,outer:=X.stack,ex:=fp,fn:=fun _=>false,pn:=[],xe:=fun _ _=>False }
structure CompScope (X:Cx) (scope:Scope) (cl:List (Str × Addr)) (ix:List Nat):Prop where
  clos:closureFor scope X.env=pure cl
  nocell:∀ y∈scope.names,y.2≠.cell
  kind:scope.kind=.function
  names:∀ y∈scope.names,y.2=.local→scope.names.lookup y.1=some .local
  sub:∀ y c,cl.lookup y=some c→X.env.cells.lookup y=some c
  has:∀ y,((relabel scope X.env).names.lookup y=some .cell∨(relabel scope X.env).names.lookup y=some .free)→∃ c,cl.lookup y=some c
  cap:∀ i∈ix,∃ y,X.N[i]?=some y∧(X.env.kindOf y=some .cell∨X.env.kindOf y=some .free)∧((relabel scope X.env).names.lookup y=some .cell∨(relabel scope X.env).names.lookup y=some .free)
def closOf (scope:Scope) (env:Env):List (Str × Addr):=scope.names.foldl (fun cs y=>if y.2 == .free then (y.1,(env.cells.lookup y.1).getD 0) :: cs else cs) []
def compD (osc:Scope) (N:List Str) (sc:Scope) (ix:List Nat):Bool :=
  sc.kind == .function && sc.names.all (fun y=>y.2 != .cell && (y.2 != .local || sc.names.lookup y.1 == some .local) && (y.2 != .free || osc.names.lookup y.1 == some .cell || osc.names.lookup y.1 == some .free)) &&
    ix.all fun i=>match N[i]? with
      | some y=>sc.names.lookup y == some .free
      | none=>false
theorem mem_of_look {l:List (Str × NameKind)} {y:Str} {k:NameKind} (h:l.lookup y=some k):(y,k)∈l:=PySem.mem_of_lookup h
theorem relabel_look {env:Env}:∀ {names:List (Str × NameKind)} {x:Str} {k:NameKind},(names.map fun (n,k)=>if (k == NameKind.free && env.scope.kind == .function && env.kindOf n == some .cell) then (n,NameKind.cell) else (n,k)).lookup x=some k →
    ∃ k',names.lookup x=some k'∧(k'=.free∨k'=k)
  | [],_,_,h=>by simp at h
  | (n,k') :: r,x,k,h=>by
    have ih:=@relabel_look env r x k
    rw [List.map_cons] at h
    cases hx:x == n with
    | true =>
      by_cases hc:(k' == NameKind.free && env.scope.kind == .function && env.kindOf n == some .cell)=true
      · have e:k'=.free:=by
          have:=(Bool.and_eq_true _ _ ▸ (Bool.and_eq_true _ _ ▸ hc).1).1
          simpa using this
        exact ⟨k',by simp [List.lookup_cons,hx],.inl e⟩
      · simp only [if_neg hc,List.lookup_cons,hx] at h
        exact ⟨k',by simp [List.lookup_cons,hx],.inr (Option.some.inj h)⟩
    | false =>
      have h':(r.map fun (n,k)=>if (k == NameKind.free && env.scope.kind == .function && env.kindOf n == some .cell) then (n,NameKind.cell) else (n,k)).lookup x=some k:=by
        by_cases hc:(k' == NameKind.free && env.scope.kind == .function && env.kindOf n == some .cell)=true
        · simp only [if_pos hc,List.lookup_cons,hx] at h;exact h
        · simp only [if_neg hc,List.lookup_cons,hx] at h;exact h
      obtain ⟨q,e,r'⟩:=ih h'
      exact ⟨q,by simp only [List.lookup_cons,hx];exact e,r'⟩
theorem relabel_free {env:Env}:∀ {names:List (Str × NameKind)} {x:Str},names.lookup x=some .free →
    ((names.map fun (n,k)=>if (k == NameKind.free && env.scope.kind == .function && env.kindOf n == some .cell) then (n,NameKind.cell) else (n,k)).lookup x=some .cell ∨
      (names.map fun (n,k)=>if (k == NameKind.free && env.scope.kind == .function && env.kindOf n == some .cell) then (n,NameKind.cell) else (n,k)).lookup x=some .free)
  | [],_,h=>by simp at h
  | (n,k') :: r,x,h=>by
    have ih:=@relabel_free env r x
    rw [List.map_cons]
    cases hx:x == n with
    | true =>
      simp only [List.lookup_cons,hx] at h
      cases h
      by_cases hc:(NameKind.free == NameKind.free && env.scope.kind == .function && env.kindOf n == some .cell)=true
      · left;simp only [if_pos hc,List.lookup_cons,hx]
      · right;simp only [if_neg hc,List.lookup_cons,hx]
    | false =>
      simp only [List.lookup_cons,hx] at h
      by_cases hc:(k' == NameKind.free && env.scope.kind == .function && env.kindOf n == some .cell)=true
      · simp only [if_pos hc,List.lookup_cons,hx];exact ih h
      · simp only [if_neg hc,List.lookup_cons,hx];exact ih h
theorem clos_fold {env:Env}:∀ (l:List (Str × NameKind)) (cs:List (Str × Addr)),(∀ y∈l,y.2=.free→∃ c,env.cells.lookup y.1=some c) →
    (∀ y c,cs.lookup y=some c→env.cells.lookup y=some c)→∀ y c,(l.foldl (fun cs y=>if y.2 == .free then (y.1,(env.cells.lookup y.1).getD 0) :: cs else cs) cs).lookup y=some c→env.cells.lookup y=some c
  | [],_,_,h,y,c,e=>h y c e
  | z :: r,cs,hl,h,y,c,e=>by
    rw [List.foldl_cons] at e
    refine clos_fold r _ (fun y hy=>hl y (List.mem_cons_of_mem _ hy)) (fun y' c' e'=>?_) y c e
    by_cases hz:z.2=.free
    · obtain ⟨c0,h0⟩:=hl z List.mem_cons_self hz
      have hb:(z.2 == NameKind.free)=true:=by simpa using hz
      rw [if_pos hb,h0,List.lookup_cons] at e'
      cases hq:y' == z.1 with
      | true =>
        rw [hq] at e'
        have e2:y'=z.1:=by simpa using hq
        cases e'
        rw [e2];exact h0
      | false=>rw [hq] at e';exact h _ _ e'
    · have hb:(z.2 == NameKind.free)=false:=by simpa using hz
      rw [hb] at e'
      exact h _ _ e'
theorem clos_has {env:Env}:∀ (l:List (Str × NameKind)) (cs:List (Str × Addr)) (y:Str),((∃ c,cs.lookup y=some c)∨(y,NameKind.free)∈l) →
    ∃ c,(l.foldl (fun cs y=>if y.2 == .free then (y.1,(env.cells.lookup y.1).getD 0) :: cs else cs) cs).lookup y=some c
  | [],_,_,h=>h.elim id fun z=>nomatch z
  | z :: r,cs,y,h=>by
    rw [List.foldl_cons]
    refine clos_has r _ y ?_
    rcases h with ⟨c,h⟩ | h
    · left
      by_cases hz:(z.2 == NameKind.free)=true
      · rw [if_pos hz,List.lookup_cons]
        cases y == z.1 with
        | true=>exact ⟨_,rfl⟩
        | false=>exact ⟨c,h⟩
      · rw [if_neg hz];exact ⟨c,h⟩
    · rcases List.mem_cons.mp h with h | h
      · left
        subst h
        rw [if_pos (by rfl),List.lookup_cons]
        simp
      · exact .inr h
theorem clos_eq {env:Env}:∀ (l:List (Str × NameKind)) (cs:List (Str × Addr)),(∀ y∈l,y.2=.free→∃ c,env.cells.lookup y.1=some c) →
    forIn (m:=Sem) l cs (fun x r=>match x with | (name,kind)=>if (kind == NameKind.free)=true then do let c ← cellOf env name;pure (ForInStep.yield ((name,c) :: r)) else pure (ForInStep.yield r)) =
      pure (l.foldl (fun cs y=>if y.2 == .free then (y.1,(env.cells.lookup y.1).getD 0) :: cs else cs) cs)
  | [],_,_=>rfl
  | (n,k) :: r,cs,h=>by
    rw [List.forIn_cons,List.foldl_cons]
    by_cases hz:(k == NameKind.free)=true
    · obtain ⟨c,hc⟩:=h (n,k) List.mem_cons_self (by simpa using hz)
      have e:cellOf env n=pure c:=by unfold cellOf;rw [hc]
      simp only [hz,if_true,e,pure_bind]
      rw [clos_eq r _ fun y hy=>h y (List.mem_cons_of_mem _ hy)]
      simp only [hc,Option.getD_some]
    · simp only [hz,if_false,pure_bind]
      exact clos_eq r _ fun y hy=>h y (List.mem_cons_of_mem _ hy)
theorem compScope_of {X:Cx} {osc scope:Scope} {N:List Str} {ix:List Nat} (ok:X.Ok) (h:compD osc N scope ix=true) (hs:X.env.scope=osc) (hN:X.N=N):CompScope X scope (closOf scope X.env) ix:=by
  subst hs hN
  unfold compD at h
  rw [Bool.and_eq_true,Bool.and_eq_true,List.all_eq_true,List.all_eq_true] at h
  obtain ⟨⟨h1,h2⟩,h3⟩:=h
  have p:∀ y∈scope.names,y.2≠.cell∧(y.2=.local→scope.names.lookup y.1=some .local)∧(y.2=.free→X.env.kindOf y.1=some .cell∨X.env.kindOf y.1=some .free):=fun y hy=>by
    have q:=h2 y hy
    rw [Bool.and_eq_true,Bool.and_eq_true] at q
    obtain ⟨⟨q1,q2⟩,q3⟩:=q
    refine ⟨by simpa using q1,fun e=>?_,fun e=>?_⟩
    · rw [e] at q2;simpa using q2
    · rw [e] at q3
      have q3':X.env.scope.names.lookup y.1=some .cell∨X.env.scope.names.lookup y.1=some .free:=by simpa using q3
      exact q3'
  have f:∀ y∈scope.names,y.2=.free→∃ c,X.env.cells.lookup y.1=some c:=fun y hy e=>ok.has y.1 ((p y hy).2.2 e)
  refine ⟨?_,fun y hy=>(p y hy).1,by simpa using h1,fun y hy=>(p y hy).2.1,fun y c e=>clos_fold scope.names [] f (fun _ _ z=>by simp at z) y c e,fun y hy=>?_,fun i hi=>?_⟩
  · have e:=clos_eq scope.names [] f
    unfold closureFor closOf
    refine Eq.trans (congrArg (fun m=>m >>= fun s=>(pure s:Sem (List (Str × Addr)))) e) ?_
    rw [pure_bind]
  · refine clos_has scope.names [] y (.inr ?_)
    rcases hy with hy | hy
    · obtain ⟨k',e,z | z⟩:=relabel_look hy
      · subst z;exact mem_of_look e
      · subst z;exact absurd rfl (p _ (mem_of_look e)).1
    · obtain ⟨k',e,z | z⟩:=relabel_look hy
      · subst z;exact mem_of_look e
      · subst z;exact mem_of_look e
  · have q:=h3 i hi
    cases hy:X.N[i]? with
    | none=>rw [hy] at q;cases q
    | some y =>
      rw [hy] at q
      have q':scope.names.lookup y=some .free:=by simpa using q
      exact ⟨y,rfl,(p _ (mem_of_look q')).2.2 rfl,relabel_free q'⟩
def capV (ix:List Nat) (σ:St):St:=ix.map fun i=>(σ[i]?).getD none
def capN (ix:List Nat) (N:List Str):List Str:=ix.map fun i=>(N[i]?).getD ""
section
variable {X:Cx} {pins:List (Addr × Obj)} {σ:St} {H:Hp} {s:Shared} {scope:Scope} {cl:List (Str × Addr)} {ix:List Nat} {fp:List Addr} {C:Addr} {xs:List Str}
theorem Inv.compOk (I:Inv X pins σ H s) (S:CompScope X scope cl ix) (hC:C=s.heap.objs.size) (hf:∀ b∈fp,FpOk X pins H b) (hl:∀ b∈fp,b < s.heap.objs.size) (N':List Str) :
    (X.comp scope cl C N' fp s H).Ok where
  mod:=I.ok.mod
  kind:=S.kind
  glob:=I.ok.glob
  blt:=I.ok.blt
  above:=Nat.le_of_eq hC.symm
  inj:=fun x y c h1 h2=>I.ok.inj x y c (S.sub x c h1) (S.sub y c h2)
  has:=fun x hx=>S.has x hx
  cab:=fun x c h1 _=>nomatch h1
  hd:=I.ok.hd
  frames:=I.ok.frames
  stk:=.inl rfl
  exf:=fun b hb=>⟨fun z=>absurd (hl b hb) (by rw [z];show ¬ C < _;rw [hC];exact Nat.lt_irrefl _),fun x c h=>(hf b hb).2.2.2.2.1 x c (S.sub x c h)⟩
  bs:=I.bs
  bsz:=Nat.le_trans I.ok.bsz I.sz
  noex:=fun b o e hb=>by
    rcases (hf b hb).2.2.2.1 with z | z
    · exact I.ok.noex b o e z
    · exact absurd (Nat.lt_of_lt_of_le (Heap.lt_size e) (Nat.le_trans I.ok.bsz z)) (Nat.lt_irrefl _)
  exfs:=fun b hb z=>by
    rcases List.mem_cons.mp (I.stkSub b z) with e | e
    · exact (hf b hb).2.1 e
    · exact (hf b hb).2.2.1 e
  funs:=I.stack
  frf:=I.stkFree
theorem Inv.comp {h₁:Heap} {m₁:Str→Option Value} {t':Nat} (I:Inv X pins σ H s) (S:CompScope X scope cl ix) (hC:C=s.heap.objs.size) (hf:∀ b∈fp,FpOk X pins H b) (hl:∀ b∈fp,b < s.heap.objs.size)
    (hn:h₁.Ns C m₁) (hk:∀ b o,s.heap.get? b=some o→h₁.get? b=some o) :
    Inv (X.comp scope cl C (xs ++ capN ix X.N) fp s H) [] (List.replicate xs.length none ++ capV ix σ) H { s with heap:=h₁,toks:=t' } where
  ok:=I.compOk S hC hf hl _
  os:=rfl
  bare:=I.bare
  base:=Un.kept hk
  loc:=by
    refine ⟨m₁,hn,fun i y v e1 e2 e3=>?_⟩
    by_cases hi:i < xs.length
    · rw [List.getElem?_append_left (by simpa using hi),List.getElem?_replicate,if_pos hi] at e2
      cases e2
    · have e1':(xs ++ capN ix X.N)[i]?=some y:=e1
      rw [List.getElem?_append_right (by omega)] at e1'
      rw [List.getElem?_append_right (by rw [List.length_replicate];omega),List.length_replicate] at e2
      generalize i - xs.length=j at e1' e2
      unfold capN at e1'
      unfold capV at e2
      rw [List.getElem?_map] at e1' e2
      cases hj:ix[j]? with
      | none=>rw [hj] at e1';cases e1'
      | some k =>
        rw [hj] at e1' e2
        obtain ⟨y',c1,c2,c3⟩:=S.cap k (List.mem_of_getElem? hj)
        have ey:y'=y:=by
          have q:(X.N[k]?).getD ""=y:=Option.some.inj e1'
          rw [c1] at q
          exact q
        subst ey
        have ev:σ[k]?=some (some v):=by
          have q:(σ[k]?).getD none=some v:=Option.some.inj e2
          cases hs:σ[k]? with
          | none=>rw [hs] at q;cases q
          | some o=>rw [hs] at q;exact congrArg some q
        obtain ⟨m,hm,hv⟩:=I.loc
        obtain ⟨u,r,l⟩:=hv k y' v c1 ev (c2.elim (fun z=>.inr (.inl z)) fun z=>.inr (.inr z))
        refine ⟨u,r,.inr ⟨c3,?_⟩⟩
        rcases l with ⟨l1,_⟩ | ⟨_,c,lc,⟨o,ho,hd⟩⟩
        · rcases c2 with z | z <;> (rw [l1] at z;cases z)
        · obtain ⟨c',hc'⟩:=S.has y' c3
          have e:=S.sub _ _ hc'
          rw [lc] at e
          cases e
          exact ⟨c,hc',o,hk _ _ ho,hd⟩
  cell:=fun x c e=>by
    obtain ⟨v,o,ho,hd⟩:=I.cell x c (S.sub x c e)
    exact ⟨v,o,hk _ _ ho,hd⟩
  free:=I.hok.fresh (Nat.le_of_eq hC.symm)
  freeC:=fun x c e=>I.freeC x c (S.sub x c e)
  pin:=fun p hp=>absurd (show p∈([]:List (Addr × Obj)) from hp) (by simp)
  hok:=I.hok.kept hk
  len:=by
    show (List.replicate xs.length none ++ capV ix σ).length=(xs ++ capN ix X.N).length
    rw [List.length_append,List.length_append,List.length_replicate,capV,capN,List.length_map,List.length_map]
theorem Inv.uncomp {s':Shared} {σ':St} {H':Hp} {N':List Str} {h':Heap} (I:Inv X pins σ H s) (hC:C=s.heap.objs.size) (hf:∀ b∈fp,FpOk X pins H b)
    (J:Inv (X.comp scope cl C N' fp s H) [] σ' H' s') (hb:Heap.SameBut C s'.heap h'):Inv X pins σ H' { s' with heap:=h' }:=by
  have lt:∀ b o,s.heap.get? b=some o→b≠C:=fun b o e=>by
    rw [hC];exact Nat.ne_of_lt (Heap.lt_size e)
  have B:Un (frs X.stack) fp H H' s.heap s'.heap:=J.base
  refine I.call' (s':={ s' with heap:=h' }) (ch:=fp) J.os ?_ ?_ J.bare ?_
  · exact ⟨fun b o e n h1 h2=>(hb.2 b (lt b o e)).trans (B.keep b o e n h1 h2),fun b o e n h1 h2=>by
      obtain ⟨sl,q⟩:=B.slot b o e n h1 h2
      exact ⟨sl,(hb.2 b (lt b o e)).trans q⟩,B.free,fun b o e h1=>by
      obtain ⟨o',q⟩:=B.there b o e h1
      exact ⟨o',(hb.2 b (lt b o e)).trans q⟩,B.tups,B.frzs,B.tbls⟩
  · intro b o e
    refine (J.hok b o e).stay (fun c u hc q=>(hb.2 c ?_).trans q) (fun _ q=>q) fun _ _ q=>q
    have hC0:H' C=none:=J.free
    rintro rfl
    rcases hc with rfl | hc
    · rw [hC0] at e;cases e
    · rw [hC0] at hc;cases hc
  · intro b hb'
    obtain ⟨f0,f1,f2,f3,f4,f5⟩:=hf b hb'
    exact ⟨f3,f1,f4,f5⟩
end
def PTs (X:Cx) (ifs:List Expr) (t:TT):Prop :=
  ∀ (pins:List (Addr × Obj)) (s:Shared) (σ:St) (H:Hp) (Q:Bool→Hp→Prop),Inv X pins σ H s→t σ H Q →
    wpAny (model X.prog X.w) X.A (forIn ifs true fun c r=>if r=true then do let ok ← isTrue c X.env (eval c X.env);pure (ForInStep.yield ok) else pure (ForInStep.yield r)) (TP X pins σ Q) X.xe s
def tYes:TT:=fun _ H Q=>Q true H
theorem pts_nil {X:Cx}:PTs X [] tYes:=fun _ _ _ H _ I h=>wpAny_tests_nil ⟨H,I,h⟩
theorem pts_one {X:Cx} {c:Expr} {t:TT} (h:PT X c t):PTs X [c] t:=fun pins s σ H Q I q=>wpAny_tests_one (h pins s σ H Q I q)
section
variable {prog:Program} {w:World} {A:Around} {R:Result→Shared→Prop} {s:Shared}
theorem compLoop_any {elt target iter:Expr} {ifs:List Expr} {scope:Scope} {pos:Pos} {it acc:Value} {env:Env} (W:Nat→Shared→Prop) {EE:Value→Shared→Prop}
    (hE:∀ e s',EE e s'→notedBy (model prog w) A env (fun e s'=>R (.error e) s') e s')
    (turn:∀ n s,W n s→wpAny (model prog w) A (pyNext it) (fun r s₁=>match r with
      | none=>R (.ok .next) s₁
      | some v=>wpAny (model prog w) A (letOwnedTupleGo target it v) (fun _ t₁=>wpAny (model prog w) A (assign target env v) (fun _ s₂ =>
          wpAny (model prog w) A (forIn ifs true fun c r=>if r=true then do let ok ← isTrue c env (eval c env);pure (ForInStep.yield ok) else pure (ForInStep.yield r)) (fun ok s₃ =>
            if ok=true then wpAny (model prog w) A (eval elt env) (fun x s₄=>wpAny (model prog w) A (call (.builtin "list.append") [acc,x]) (fun _ s₅=>∃ m,m < n∧W m s₅) EE s₄) EE s₃
            else ∃ m,m < n∧W m s₃) EE s₂) EE t₁) EE s₁) EE s)
    (n:Nat) (h:W n s):codeAny (model prog w) A (.compLoop (.ListComp elt [⟨target,iter,ifs,0⟩] scope pos) 0 it acc env) R s:=by
  refine codeAny_loop rfl W (fun n s hW=>?_) n h
  show wpAny _ A ((compTurn (.ListComp elt [⟨target,iter,ifs,0⟩] scope pos) 0 it acc env).onRaise (fun x=>do noteFrame x env;theTreesLotGoes x)) _ _ s
  refine wpAny_noted (wpAny_mono ?_ (fun _ _ q=>q) hE)
  rw [compTurn_list]
  refine wpAny_bind (wpAny_standAt (wpAny_bind (thn (turn n s hW) fun r s₁ h₁=>?_)))
  cases r with
  | none=>exact wpAny_pure h₁
  | some v =>
    refine wpAny_bind (thn h₁ fun _ t₁ k₁=>?_)
    refine wpAny_bind (thn k₁ fun _ s₂ h₂=>wpAny_bind (thn h₂ fun ok s₃ h₃=>?_))
    cases ok with
    | false=>exact wpAny_pure ⟨rfl,h₃⟩
    | true=>exact wpAny_bind (wpAny_bind (thn h₃ fun x s₄ h₄=>wpAny_bind (thn h₄ fun _ s₅ h₅=>wpAny_pure (wpAny_pure ⟨rfl,h₅⟩))))
end
def tComp (wi:TI) (g:TG) (tt:TT) (te:TE) (k:Nat) (ix:List Nat):TE:=fun σ H Q=>wi σ H fun J H1=>∀ D,H1 D=none →
  ∃ W:Nat→Nat→List V→St→Hp→Prop,(∃ m,W 0 m [] (List.replicate k none ++ capV ix σ) (upd H1 D (.lst [])))∧∀ i m ys τ H,W i m ys τ H→H D=some (.lst ys) ∧
    ((J.stop i H∧Q (.ref D) H)∨(J.go i H∧ys.length < sizeLine∧∃ N:V→St→Hp→Prop,
      (∀ v τ' H',N v τ' H'→H' D=some (.lst ys)∧∃ m',m' < m∧W (i + 1) m' (ys ++ [v]) τ' (upd H' D (.lst (ys ++ [v]))))∧∃ Nf:St→Hp→Prop,(∀ τ' H',Nf τ' H'→∃ m',m' < m∧W (i + 1) m' ys τ' H') ∧
      ∀ x H',J.yld i H x H'→g x τ H' fun τ2 H2=>tt τ2 H2 fun b H3=>if b=true then te τ2 H3 fun v H4=>N v τ2 H4 else Nf τ2 H3))
section
variable {X:Cx} {elt iter tg:Expr} {ifs:List Expr} {scope:Scope} {pos:Pos} {cl:List (Str × Addr)} {ix:List Nat} {xs:List Str} {wi:TI} {g:TG} {tt:TT} {te:TE}
theorem comp_block (S:CompScope X scope cl ix) (hc:X.calm=true) (hi:PI X tg iter wi)
    (hg:∀ C fp s H,PG (X.comp scope cl C (xs ++ capN ix X.N) fp s H) tg g) (ht:∀ C fp s H,PTs (X.comp scope cl C (xs ++ capN ix X.N) fp s H) ifs tt)
    (he:∀ C fp s H,PE (X.comp scope cl C (xs ++ capN ix X.N) fp s H) elt te)
    {pins:List (Addr × Obj)} {s:Shared} {σ:St} {H:Hp} {Q:VK} (I:Inv X pins σ H s) (h:tComp wi g tt te xs.length ix σ H Q) {RR:Value→Addr→Result→Shared→Prop}
    (hR:∀ v u s' C,RelV v u→(∃ H',Q v H'∧(∃ m,s'.heap.Ns C m)∧(∀ h',Heap.SameBut C s'.heap h'→Inv X pins σ H' { s' with heap:=h' })∧FpOk X pins H' C)→RR u C (.ok .next) s') :
    wpAny (model X.prog X.w) X.A (eval iter X.env) (fun x s₁=>wpAny (model X.prog X.w) X.A (pyIter x) (fun it s₂=>wpAny (model X.prog X.w) X.A (newList []) (fun acc s₃ =>
      wpAny (model X.prog X.w) X.A (newFunctionEnv scope X.env.globals cl [] X.env.qual none .none (some X.env)) (fun cenv s₄ =>
        codeAny (model X.prog X.w) X.A (.compStart (.ListComp elt [⟨tg,iter,ifs,0⟩] scope pos) 0 it acc { cenv with scope:=relabel scope X.env }) (RR acc cenv.locals) s₄) X.xe s₃) X.xe s₂) X.xe s₁) X.xe s:=by
  refine thn (hi pins s σ H _ I h) fun v s1 h1=>thn h1 fun itv s2 h2=>?_
  obtain ⟨it,fp,tn,J,H2,e,I2,T,st2,f2,hW⟩:=h2
  subst e
  refine wpAny_newObj_type (wpAny_newFunctionEnv S.nocell (fun y hy=>nomatch hy) (fun h₁ hns₁ hsb₁=>?_) S.kind)
  dsimp only at hns₁ hsb₁ ⊢
  obtain ⟨W,⟨m0,w0⟩,turn⟩:=hW s2.heap.objs.size I2.fresh
  have I3:=I2.lnew (t':=s2.toks) (ys:=[]) (its:=[]) .nil (Nat.zero_le _)
  have hl3:∀ b∈fp,b < s2.heap.objs.size:=fun b hb=>by
    obtain ⟨o,e,_⟩:=T.obj _ _ st2 b hb
    exact Heap.lt_size e
  generalize hs3:({ s2 with heap:=s2.heap.push { cls:=.type "list",data:=.seq ([]:List Value).toArray },toks:=s2.toks }:Shared)=s3 at I3
  have hs3h:s3.heap=s2.heap.push { cls:=.type "list",data:=.seq ([]:List Value).toArray }:=by rw [← hs3]
  have hsz:s3.heap.objs.size=s2.heap.objs.size + 1:=by rw [hs3h,Heap.size_push]
  have f3:∀ b∈fp,FpOk X pins (upd H2 s2.heap.objs.size (.lst [])) b:=fun b hb=>by
    obtain ⟨q0,q⟩:=f2 b hb
    exact ⟨by rw [upd_ne (Nat.ne_of_lt (hl3 b hb))];exact q0,q⟩
  have hl3':∀ b∈fp,b < s3.heap.objs.size:=fun b hb=>by rw [hsz];exact Nat.lt_succ_of_lt (hl3 b hb)
  rw [← hs3h] at hns₁ hsb₁ ⊢
  have hk:∀ b o,s3.heap.get? b=some o→h₁.get? b=some o:=fun b o e=>(hsb₁.2 b (Nat.ne_of_lt (Heap.lt_size e))).trans (Heap.get?_push_of_some _ e)
  have hk2:∀ b o,s2.heap.get? b=some o→s3.heap.get? b=some o:=fun b o e=>by rw [hs3h];exact Heap.get?_push_of_some _ e
  have J0:=I3.comp (xs:=xs) (t':=s2.toks) (C:=s3.heap.objs.size) S rfl f3 hl3' hns₁ hk
  have st3:tn 0 h₁:=T.keep _ _ _ st2 fun b _ o e=>hk b o (hk2 b o e)
  have loop:∀ tk,codeAny (model X.prog X.w) X.A (.compLoop (.ListComp elt [⟨tg,iter,ifs,0⟩] scope pos) 0 (.ref it) (.ref s2.heap.objs.size) (compEnvC scope cl s3.heap.objs.size X.env))
      (RR (.ref s2.heap.objs.size) s3.heap.objs.size) { s3 with heap:=h₁,toks:=tk }:=by
    intro tk
    refine compLoop_any (EE:=fun _ _=>False) (fun n s'=>∃ i ys τ H',Inv (X.comp scope cl s3.heap.objs.size (xs ++ capN ix X.N) fp s3 (upd H2 s2.heap.objs.size (.lst []))) [] τ H' s'∧tn i s'.heap∧(∀ b∈fp,H' b=none)∧W i n ys τ H')
      (fun _ _ z=>z.elim) ?_ m0 ⟨0,[],_,_,J0.tok tk,st3,fun b hb=>(f3 b hb).1,w0⟩
    rintro n s' ⟨i,ys,τ,H',I',st',fr',w'⟩
    have stat:∀ {H':Hp},(∀ b∈fp,H' b=none)→∀ b∈fp,FpOk (X.comp scope cl s3.heap.objs.size (xs ++ capN ix X.N) fp s3 (upd H2 s2.heap.objs.size (.lst []))) [] H' b:=fun hn b hb =>
      ⟨hn b hb,(I'.ok.exf b hb).1,I'.ok.exfs b hb,.inl hb,(I'.ok.exf b hb).2,fun p hp=>absurd (show p∈([]:List (Addr × Obj)) from hp) (by simp)⟩
    obtain ⟨hD,⟨stop,q⟩ | ⟨go,hz,N,hN,Nf,hNf,step⟩⟩:=turn i n ys τ H' w'
    · refine thn (T.done (X.comp scope cl s3.heap.objs.size (xs ++ capN ix X.N) fp s3 (upd H2 s2.heap.objs.size (.lst []))) rfl rfl rfl hc i [] s' τ H' _ I' (stat fr') st' stop) fun r s4 ⟨hr,I4⟩=>?_
      subst hr
      refine hR (.ref s2.heap.objs.size) _ s4 _ rfl ⟨H',q,?_,fun h' hb=>I3.uncomp rfl f3 I4 hb,I3.fpOk (Nat.le_refl _) I4.free⟩
      obtain ⟨m,hn,_⟩:=I4.loc
      exact ⟨m,hn⟩
    · refine thn (T.item (X.comp scope cl s3.heap.objs.size (xs ++ capN ix X.N) fp s3 (upd H2 s2.heap.objs.size (.lst []))) rfl rfl rfl hc i [] s' τ H' _ I' (stat fr') st' go) fun r s4 ⟨u,hr,h4⟩=>?_
      subst hr
      refine thn h4 fun _ s5 ⟨x,H5,I5,r5,y5,st5,fr5⟩=>?_
      have I5':=I5.pinned (stat fr5) (T.obj _ _ st5)
      refine thn (hg _ _ _ _ _ s5 τ H5 x u _ I5' r5 (step x H5 y5)) fun _ s6 ⟨τ6,H6,I6,q6⟩=>?_
      refine thn (ht _ _ _ _ _ s6 τ6 H6 _ I6 q6) fun ok s7 ⟨H7,I7,q7⟩=>?_
      have back:∀ {s8:Shared} {H8:Hp} {m:Nat} {zs:List V},Inv (X.comp scope cl s3.heap.objs.size (xs ++ capN ix X.N) fp s3 (upd H2 s2.heap.objs.size (.lst []))) ([] ++ pinsAt fp s5.heap) τ6 H8 s8→W (i + 1) m zs τ6 H8 →
          ∃ i ys τ H',Inv (X.comp scope cl s3.heap.objs.size (xs ++ capN ix X.N) fp s3 (upd H2 s2.heap.objs.size (.lst []))) [] τ H' s8∧tn i s8.heap∧(∀ b∈fp,H' b=none)∧W i m ys τ H':=fun {s8 H8 m zs} I8 w8=>by
        refine ⟨i + 1,zs,τ6,H8,I8.unpinned,T.keep _ _ _ st5 fun b hb o e=>(I8.pin (b,o) (List.mem_append_right _ (List.mem_append_right _ (mem_pinsAt hb e)))).1,fun b hb=>?_,w8⟩
        obtain ⟨o,e,d⟩:=T.obj _ _ st5 b hb
        exact (I8.pin (b,o) (List.mem_append_right _ (List.mem_append_right _ (mem_pinsAt hb e)))).2.1
      cases ok with
      | false =>
        rw [if_neg Bool.false_ne_true] at q7 ⊢
        obtain ⟨m',hm,w7⟩:=hNf _ _ q7
        exact ⟨m',hm,back I7 w7⟩
      | true =>
        rw [if_pos rfl] at q7 ⊢
        refine thn (he _ _ _ _ _ s7 τ6 H7 _ I7 q7) fun y s8 ⟨v8,H8,I8,r8,n8⟩=>?_
        obtain ⟨hD8,m',hm,w8⟩:=hN _ _ _ n8
        refine thn (mt_append _ s8 τ6 H8 (.ref s2.heap.objs.size) [v8] (.ref s2.heap.objs.size) [y] (fun _ Hn=>∃ m,m < n∧W (i + 1) m (ys ++ [v8]) τ6 Hn) I8 rfl (.cons r8 .nil) ⟨_,ys,v8,rfl,rfl,hD8,hz,m',hm,w8⟩) fun _ s9 ⟨_,H9,I9,_,m9,hm9,w9⟩=>?_
        exact ⟨m9,hm9,back I9 w9⟩
  have e3:∀ tk,({ s3 with heap:=h₁,toks:=tk }:Shared)={ s2 with heap:=h₁,toks:=tk }:=fun tk=>by rw [← hs3]
  have loop':∀ tk,codeAny (model X.prog X.w) X.A (.compLoop (.ListComp elt [⟨tg,iter,ifs,0⟩] scope pos) 0 (.ref it) (.ref s2.heap.objs.size) (compEnvC scope cl s3.heap.objs.size X.env))
      (RR (.ref s2.heap.objs.size) s3.heap.objs.size) { s2 with heap:=h₁,toks:=tk }:=fun tk=>by rw [← e3];exact loop tk
  exact codeAny_compStart_list (loop' _) (T.self _ 0 _ _ _ st3 (loop' _))
theorem pe_comp {osc:Scope} {N:List Str} (hc:X.calm=true) (hD:compD osc N scope ix=true) (hi:PI X tg iter wi)
    (hg:∀ C fp s H,PG (X.comp scope (closOf scope X.env) C (xs ++ capN ix X.N) fp s H) tg g) (ht:∀ C fp s H,PTs (X.comp scope (closOf scope X.env) C (xs ++ capN ix X.N) fp s H) ifs tt)
    (he:∀ C fp s H,PE (X.comp scope (closOf scope X.env) C (xs ++ capN ix X.N) fp s H) elt te) (hsc:X.env.scope=osc:=by rfl) (hN:X.N=N:=by rfl) (hs:∀ x,foldedSetIterable iter X.env x=pure x:=by intro _;rfl) :
    PE X (.ListComp elt [⟨tg,iter,ifs,0⟩] scope pos) (tComp wi g tt te xs.length ix):=by
  intro pins s σ H Q I h
  have S:=compScope_of I.ok hD hsc hN
  rw [eval_ListComp]
  refine wpAny_comprehension_free (use:=none) rfl hs S.clos S.kind S.names (comp_block S hc hi hg ht he I h (RR:=fun acc C=>compPost (model X.prog X.w) X.A X.xe none (EP X pins σ Q) acc C) ?_)
  rintro v u s' C r ⟨H',q,⟨m,hn⟩,hI,_⟩
  exact ⟨m,hn,fun h' hb=>⟨v,H',hI h' hb,r,q⟩⟩
theorem ps_setComp {osc:Scope} {N:List Str} {y:Str} {py:Pos} {j:Nat} {spos:Pos} (hNd:X.N.Nodup) (hj:X.N[j]?=some y) (hc:X.calm=true) (hy:Loc X.env.scope y) (hD:compD osc N scope ix=true) (hi:PI X tg iter wi)
    (hg:∀ C fp s H,PG (X.comp scope (closOf scope X.env) C (xs ++ capN ix X.N) fp s H) tg g) (ht:∀ C fp s H,PTs (X.comp scope (closOf scope X.env) C (xs ++ capN ix X.N) fp s H) ifs tt)
    (he:∀ C fp s H,PE (X.comp scope (closOf scope X.env) C (xs ++ capN ix X.N) fp s H) elt te) (hsc:X.env.scope=osc:=by rfl) (hN:X.N=N:=by rfl)
    (hsw:swapsWith (.ListComp elt [⟨tg,iter,ifs,0⟩] scope pos) (some (.Name y py)) spos.line X.env=pure true:=by rfl)
    (hs:∀ x,foldedSetIterable iter X.env x=pure x:=by intro _;rfl) (hf:X.fn y=true∨X.env.scope.names.lookup y=some .local:=by first | exact .inl rfl | exact .inr rfl | assumption) :
    PS X (.Assign [.Name y py] (.ListComp elt [⟨tg,iter,ifs,0⟩] scope pos) spos) (tAsg (tComp wi g tt te xs.length ix) (gName j)):=by
  intro pins s σ H D I h
  have S:=compScope_of I.ok hD hsc hN
  rw [exec_Assign_Name_used _ _ _ _ hsw]
  refine wpAny_bind (wpAny_standAt (wpAny_bind ?_))
  show wpAny _ X.A (do let _ ← comprehension (.ListComp elt [⟨tg,iter,ifs,0⟩] scope pos) scope X.env _ (newList []) false (eval iter X.env) (some (assign (.Name y py) X.env))) _ _ s
  refine wpAny_bind (thn (wpAny_comprehension_free (use:=some (assign (.Name y py) X.env)) (Q:=fun _ s'=>SP X pins D .next s') rfl hs S.clos S.kind S.names
    (comp_block S hc hi hg ht he I h (RR:=fun acc C=>compPost (model X.prog X.w) X.A X.xe (some (assign (.Name y py) X.env)) (fun _ s'=>SP X pins D .next s') acc C) ?_)) fun _ s' hq=>wpAny_pure (wpAny_pure hq))
  rintro v u s' C r ⟨H',q,⟨m,hn⟩,hI,f0,f1,f2,f3,f4,f5⟩
  have I':Inv X pins σ H' s':=hI s'.heap (.refl ..)
  show wpAny _ X.A (assign (.Name y py) X.env u) _ _ _
  refine wpAny_assign_Name (store_ok2 I' hNd hj hy r (fun s2 I2 hx=>?_) hf)
  obtain ⟨a,hb,ha⟩:=hx
  have hCa:C≠a:=by
    rcases ha with rfl | ha
    · exact f1
    · exact Ne.symm (f4 _ _ ha)
  refine ⟨m,hn.sameBut hb hCa,fun h' hb'=>⟨_,H',?_,q⟩⟩
  exact I2.turned (t':=s2.toks) (fun b o hne e=>(hb'.2 b hne).trans e) f0 f1 f3 f4 f5
end
end L2
namespace L2
open PySem PySem.Spec PyProof.Rows
abbrev rAddS:R2:=fun x y H Q=>∃ i j,x=.str i∧y=.str j∧i.length + j.length≤sizeLine∧Q (.str (i ++ j)) H
abbrev rInS:R2:=fun x y H Q=>∃ i j,x=.str i∧y=.str j∧Q (.bl (!(Builtin.Str.occurrences j i 0 j.length 1).isEmpty)) H
abbrev rNotInS:R2:=fun x y H Q=>∃ i j,x=.str i∧y=.str j∧Q (.bl (!(!(Builtin.Str.occurrences j i 0 j.length 1).isEmpty))) H
abbrev rIsB:R2:=fun x y H Q=>∃ a b,x=.bl a∧y=.bl b∧Q (.bl (a == b)) H
abbrev rIsNotB:R2:=fun x y H Q=>∃ a b,x=.bl a∧y=.bl b∧Q (.bl (a != b)) H
abbrev rIsN:R2:=fun x y H Q=>y=.non∧Q (.bl (decide (x=.non))) H
abbrev rNotN:R2:=fun x y H Q=>y=.non∧Q (.bl (!decide (x=.non))) H
abbrev RC:=List V→Hp→VK→Prop
abbrev cLen (K:PySem.W.Frag):RC:=fun xs H Q=>∃ x n,xs=[x]∧LenV K x H n∧Q (.int n) H
abbrev cIsi (K:PySem.W.Frag):RC:=fun xs H Q=>∃ x c t b,xs=[x,c]∧TyOf K H x t∧(∃ T,c=.ty T∧PySem.W.kitOne K t (.type T)=some b)∧Q (.bl b) H
abbrev cAll (K:PySem.W.Frag):RC:=fun xs H Q=>∃ (a:Addr) (bs:List Bool),xs=[.ref a]∧SqL K H a (bs.map V.bl)∧Q (.bl (bs.all id)) H
abbrev cAbs:RC:=fun xs H Q=>∃ i,xs=[.int i]∧Q (.int (if i < 0 then -i else i)) H
abbrev cStr:RC:=fun xs H Q=>∃ i,xs=[.int i]∧i.natAbs.log2 < 1920∧Q (.str (toString i)) H
abbrev RM:=V→List V→Hp→VK→Prop
abbrev r_mt_startswith:RM:=fun x xs H Q=>∃ a b,x=.str a∧xs=[.str b]∧Q (.bl (0 + b.length≤a.length && Builtin.Str.subAt a b 0)) H
def spP (pre:List V→Hp→Prop) (post:List V→Hp→V→Hp→Prop):Sp:=fun vs H Q _=>pre vs H∧∀ r H',post vs H r H'→Same H H'→Q r H'
abbrev cInt:RC:=fun xs H Q=>∃ (x:Str) (n:Int),xs=[.str x]∧PySem.intText? x=some n∧x.length≤640∧Q (.int n) H
abbrev r_mt_upper:RM:=fun x xs H Q=>∃ a:Str,x=.str a∧xs=[]∧(∀ c∈a.cps.toList,c < 128)∧a.length≤sizeLine∧∀ y:Str,y.length=a.length→Q (.str y) H
theorem isV (p:Addr) {H:Hp} {o:HO} (h:H p=none):Same H (upd H p o):=fun b u e=>by rw [upd_ne (ne_of_none e h)];exact e
theorem small_size {n:Nat} (h:n≤100000):n≤sizeLine:=Nat.le_trans h (by decide)
theorem bt_len:bootBuiltins "len"=some (.builtin "len"):=by decide +kernel
theorem bt_isinstance:bootBuiltins "isinstance"=some (.builtin "isinstance"):=by decide +kernel
theorem bt_any:bootBuiltins "any"=some (.builtin "any"):=by decide +kernel
theorem bt_sorted:bootBuiltins "sorted"=some (.builtin "sorted"):=by decide +kernel
theorem bt_enumerate:bootBuiltins "enumerate"=some (.type "enumerate"):=by decide +kernel
theorem bt_bool:bootBuiltins "bool"=some (.type "bool"):=by decide +kernel
theorem bt_list:bootBuiltins "list"=some (.type "list"):=by decide +kernel
theorem bt_dict:bootBuiltins "dict"=some (.type "dict"):=by decide +kernel
theorem bt_ValueError:bootBuiltins "ValueError"=some (.type "ValueError"):=by decide +kernel
section
variable {X:Cx}
def big:Int:=10 ^ 200
def CDivB (_ j:Int):Prop:=0 < j∧j < big
def CMulB (i j:Int):Prop:=(-big < i∧i < big)∧(-big < j∧j < big)
theorem log2_big {j:Int} (h:j.natAbs < 10 ^ 200):j.natAbs.log2 < 700:=by
  by_cases h0:j.natAbs=0
  · rw [h0];decide
  · exact (Nat.log2_lt h0).mpr (Nat.lt_of_lt_of_le h (by decide +kernel))
theorem abs_big {j:Int} (h:-big < j∧j < big):j.natAbs < 10 ^ 200:=by
  have e:big=((10 ^ 200:Nat):Int):=by decide +kernel
  rw [e] at h
  omega
theorem CMulB.ok {i j:Int} (h:CMulB i j):IntMulOk i j:=by
  have b:∀ k:Int,(-big < k∧k < big)→Builtin.Int.intBits k≤2 ^ 20:=fun k hk=>by
    have q:=log2_big (abs_big hk)
    unfold Builtin.Int.intBits
    split <;> omega
  exact .of_bits (b i h.1) (b j h.2)
theorem op_mulB:OpR X (binaryOp .Mult) (rI CMulB fun i j=>.int (i * j)):=opI fun _ _ _ _ _ _ _ hc q=>mul_int q hc.ok
theorem op_fdivB:OpR X (binaryOp .FloorDiv) (rI CDivB fun i j=>.int (i / j)):=opI fun i j _ _ _ _ _ hc q=>by
  have h1:(0:Int) < j:=hc.1
  refine floordiv_int (by omega) ?_ (.inl (PyProof.noPylong_of_log2 (Nat.lt_trans (log2_big (abs_big ⟨by have:=hc.2;omega,hc.2⟩)) (by decide))))
  rw [Int.fdiv_eq_ediv_of_nonneg i (by omega)]
  exact q
theorem op_is_bl:OpR X (compareOp .Is) (fun x y H Q=>∃ a b,x=.bl a∧y=.bl b∧Q (.bl (a == b)) H):=by
  intro pins s σ H x y v u Q I rx ry h
  obtain ⟨a,b,rfl,rfl,q⟩:=h
  cases rx
  cases ry
  exact is_bool ⟨.bl (a == b),H,I,rfl,q⟩
theorem call_isi:CallR X (.builtin "isinstance") (cIsi X.K):=by
  intro pins s σ H xs us Q I r h
  obtain ⟨x,c,t,b,rfl,ty,⟨T,rfl,e⟩,q⟩:=h
  obtain ⟨u,w',rfl,r1,r2⟩:=vals2 r
  cases r2
  exact isinst_ok I r1 ty e fun tk=>⟨.bl b,H,I.tok tk,rfl,q⟩
def Its (x:Str):It:=⟨fun i _=>i < x.cps.size,fun i H v H'=>H'=H∧∃ c,x.cps[i]?=some c∧v=.str ⟨#[c]⟩,fun i _=>x.cps.size≤i⟩
def iStr (tl:TE):TI:=fun σ H R=>tl σ H fun x H1=>∃ z,x=.str z∧R (Its z) H1
def rSlS:V→Option Int→Option Int→Hp→VK→Prop:=fun x lo hi H Q=>∃ z,x=.str z∧z.length≤sizeLine∧Q (.str (Txt.slice z lo hi)) H
theorem sl_str:SlR X rSlS:=by
  intro pins s σ H x v vl vu lo hi sl Q I rx hs pl pu h
  obtain ⟨z,rfl,hz,q⟩:=h
  obtain ⟨t,rfl⟩:=rx
  obtain ⟨o,ho,hc,hd⟩:=hs
  refine ⟨"str",_,F.slot_str_getitem.lookup,typeIs_str _ _ _,?_⟩
  obtain ⟨l,e1,e2⟩:∃ l:Option (Int × Tok),vl=partValue l∧lo=l.map (·.1):=by
    cases pl with
    | none=>exact ⟨none,rfl,rfl⟩
    | int i t=>exact ⟨some (i,t),rfl,rfl⟩
  obtain ⟨u,e3,e4⟩:∃ l:Option (Int × Tok),vu=partValue l∧hi=l.map (·.1):=by
    cases pu with
    | none=>exact ⟨none,rfl,rfl⟩
    | int i t=>exact ⟨some (i,t),rfl,rfl⟩
  subst e1 e2 e3 e4
  exact wpAny_getItem_str_slice (l:=l) (u:=u) (st:=none) ⟨o,ho,hc,hd⟩ rfl
    (post_val_or_str ⟨Nat.le_trans (Txt.slice_le z _ _) hz,fun t' k=>⟨.str (Txt.slice z (l.map (·.1)) (u.map (·.1))),H,I.tok k,⟨t',rfl⟩,q⟩⟩)
end
end L2
namespace L2
open PySem PySem.Spec PyProof.Rows
theorem ObjOk.there {P:Program} {w:World} {H:Hp} {h:Heap} {a:Addr} {o:HO} (x:ObjOk P w H h a o):∃ u,h.get? a=some u:=by
  cases o with
  | lst xs=>obtain ⟨_,_,_,_,e⟩:=x;exact ⟨_,e⟩
  | tup xs=>obtain ⟨_,_,_,o,e,_⟩:=x;exact ⟨_,e⟩
  | dK kvs=>obtain ⟨_,_,_,_,o,_,_,e,_⟩:=x;exact ⟨_,e⟩
  | dT kvs=>obtain ⟨_,_,_,_,o,_,_,e,_⟩:=x;exact ⟨_,e⟩
  | set S n=>obtain ⟨o,_,_,_,e,_⟩:=x;exact ⟨_,e⟩
  | ins C dx fs=>obtain ⟨_,_,_,e,_⟩:=x;exact ⟨_,e⟩
  | own y=>exact x
  | xd fs=>obtain ⟨_,⟨o,_,_,e,_⟩,_⟩:=x;exact ⟨_,e⟩
  | rng lo hi=>obtain ⟨_,_,_,e⟩:=x;exact ⟨_,e⟩
  | frz ob u=>obtain ⟨e,_⟩:=x;exact ⟨_,e⟩
  | tbl ps=>exact ⟨_,(show h.get? a=some _ from x)⟩
  | met f y=>exact ⟨_,(show h.get? a=some _ from x)⟩
  | ext φ=>obtain ⟨_,e,_⟩:=x;exact e
def XF (g h:Heap) (H:Hp) (e:Addr) (cls:Value):Prop :=
  ∃ oe vs a0 T oT ts,h.get? e=some oe∧(oe.cls=cls∧vs[0]?=some a0)∧oe.data=.fields vs∧vs[1]?=some (.ref T)∧T≠e∧h.get? T=some oT∧oT.data=.fields ts∧ts[3]?=some .none ∧
    g.get? e=none∧g.get? T=none∧H e=none∧H T=none
def CX1 (P:Program) (w:World):CXT:=fun outer H s E ev s'=>∃ e cls H',ev=.ref e∧s'.os=s.os∧AllBare s'.gens∧Un (frs outer) [] H H' s.heap s'.heap∧HOk P w H' s'.heap∧XF s.heap s'.heap H' e cls∧E cls none H'
theorem none_back {g h:Heap} (k:∀ b o,g.get? b=some o→∃ o',h.get? b=some o') {b:Addr} (e:h.get? b=none):g.get? b=none:=by
  cases q:g.get? b with
  | none=>rfl
  | some o =>
    obtain ⟨o',z⟩:=k b o q
    rw [e] at z;cases z
theorem XF.older {g g' h:Heap} {H:Hp} {e:Addr} {cls:Value} (x:XF g h H e cls) (k:∀ b o,g'.get? b=some o→∃ o',g.get? b=some o'):XF g' h H e cls:=by
  obtain ⟨oe,vs,a0,T,oT,ts,h1,h2,h3,h4,h5,h6,h7,h8,h9,h10,h11,h12⟩:=x
  exact ⟨oe,vs,a0,T,oT,ts,h1,h2,h3,h4,h5,h6,h7,h8,none_back k h9,none_back k h10,h11,h12⟩
section
variable {X:Cx} {pins:List (Addr × Obj)} {σ:St} {H:Hp} {s:Shared}
theorem Inv.stackFields (J:Inv X pins σ H s) {b:Addr} (hb:b∈frs X.stack):∃ o,s.heap.get? b=some o∧∀ vs,o.data≠.fields vs:=(J.stack.mem hb).2
theorem Inv.there0 (hex:X.ex=[]) (J:Inv X pins σ H s):∀ b o,X.s₀.heap.get? b=some o→∃ o',s.heap.get? b=some o':=fun b o e=>J.base.there b o e (by rw [hex];simp)
theorem Inv.behind {h2:Heap} {cs:List Addr} (hex:X.ex=[]) (J:Inv X pins σ H s) (hcs:∀ b∈cs,H b=none∧X.s₀.heap.get? b=none)
    (hB:∀ b o,s.heap.get? b=some o→b ∉ frs X.stack→b ∉ cs→h2.get? b=some o) (hF:∀ b o,s.heap.get? b=some o→b∈frs X.stack→∃ sl,h2.get? b=some { o with slots:=sl }) :
    Un X.fs [] X.H₀ H X.s₀.heap h2∧HOk X.prog X.w H h2:=by
  have B:Un X.fs [] X.H₀ H X.s₀.heap s.heap:=by have:=J.base;rw [hex] at this;exact this
  have nL:∀ b o,X.s₀.heap.get? b=some o→b≠X.env.locals:=fun b o e=>Nat.ne_of_lt (Nat.lt_of_lt_of_le (Heap.lt_size e) J.ok.above)
  have nC:∀ b o,X.s₀.heap.get? b=some o→b ∉ cs:=fun b o e z=>by rw [(hcs b z).2] at e;cases e
  have any:∀ b o,s.heap.get? b=some o→b ∉ cs→∃ sl,h2.get? b=some { o with slots:=sl }:=fun b o e n=>by
    by_cases hb:b∈frs X.stack
    · exact hF b o e hb
    · exact ⟨o.slots,hB b o e hb n⟩
  refine ⟨⟨fun b o e n h1 _=>?_,fun b o e n h1 _=>?_,B.free,fun b o e h1=>?_,B.tups,B.frzs,B.tbls⟩,fun b u e=>?_⟩
  · refine hB b o (B.keep b o e n h1 (by simp)) (fun z=>?_) (nC b o e)
    rcases List.mem_cons.mp (J.stkSub b z) with q | q
    · exact nL b o e q
    · exact h1 q
  · obtain ⟨sl,q⟩:=B.slot b o e n h1 (by simp)
    obtain ⟨sl',q'⟩:=any b _ q (nC b o e)
    exact ⟨sl',q'⟩
  · obtain ⟨o',q⟩:=B.there b o e (by simp)
    obtain ⟨sl,q'⟩:=any b o' q (nC b o e)
    exact ⟨_,q'⟩
  · refine (J.hok b u e).stay (fun c v hc q=>?_) (fun _ q=>q) fun _ _ q=>q
    have hn:H c≠none:=by
      rcases hc with rfl | hc
      · rw [e];simp
      · rw [hc];simp
    exact hB c v q (fun z=>hn (J.stkFree c z)) fun z=>hn (hcs c z).1
theorem Inv.flown {B h2:Heap} {cs:List Addr} {e:Addr} {cls a0:Value} (hex:X.ex=[]) (J:Inv X pins σ H s) (hcs:∀ b∈cs,H b=none∧X.s₀.heap.get? b=none)
    (hB:∀ b o,s.heap.get? b=some o→b ∉ frs X.stack→b ∉ cs→B.get? b=some o) (hF:∀ b o,s.heap.get? b=some o→b∈frs X.stack→∃ sl,h2.get? b=some { o with slots:=sl })
    (he:H e=none) (he0:X.s₀.heap.get? e=none) (kb:B.StaysIn h2) (tr:h2.TracedW B e cls a0) :
    Un X.fs [] X.H₀ H X.s₀.heap h2∧HOk X.prog X.w H h2∧XF X.s₀.heap h2 H e cls:=by
  have hk:=J.behind (h2:=h2) hex hcs (fun b o q n1 n2=>kb b o (hB b o q n1 n2)) hF
  refine ⟨hk.1,hk.2,?_⟩
  obtain ⟨oe,vs,T,oT,ts,h1,h2',h3,h4,h5,h6,h7,h8,h9⟩:=tr
  have noT:∀ o,s.heap.get? T=some o→T∈cs:=fun o q=>by
    by_cases hb:T∈frs X.stack
    · obtain ⟨o',q',nf⟩:=J.stackFields hb
      obtain ⟨sl,z⟩:=hF T o' q' hb
      rw [h7] at z
      have z':oT={ o' with slots:=sl }:=Option.some.inj z
      exact absurd (by rw [← h8,z']) (nf ts)
    · by_cases hc:T∈cs
      · exact hc
      · rw [hB T o q hb hc] at h5;cases h5
  refine ⟨oe,vs,a0,T,oT,ts,h1,h2',h3,h4,h6,h7,h8,h9,he0,?_,he,?_⟩
  · cases q:X.s₀.heap.get? T with
    | none=>rfl
    | some o =>
      obtain ⟨o',q'⟩:=J.there0 hex T o q
      rw [(hcs T (noT o' q')).2] at q;cases q
  · cases q:H T with
    | none=>rfl
    | some u =>
      obtain ⟨o,z⟩:=(J.hok T u q).there
      rw [(hcs T (noT o z)).1] at q;cases q
theorem leave_new {h':Heap} {e:Addr} {cls:Value} {vs:List Value} {E:XK} {EE:Value→Shared→Prop} (hst:X.stack=X.env :: X.outer∧X.env.frame=some X.env.locals) (hex:X.ex=[]) (J:Inv X pins σ H s) (hx:Heap.MadeExcOf s.heap h' e cls vs) (hE:E cls none H) :
    wpAny (model X.prog X.w) X.A (leaving X.env (.ref e)) (fun _ s2=>CX1 X.prog X.w X.outer X.H₀ X.s₀ E (.ref e) s2) EE { s with heap:=h' }:=by
  have fr:s.heap.FunFrames (PySem.W.hideAll s.heap (frs X.stack)) (X.env :: X.outer):=by
    have q:=PySem.W.funFrames_hide (as:=frs X.stack) J.stack fun env he a ha=>List.mem_filterMap.mpr ⟨env,he,ha⟩
    rw [hst.1] at q ⊢
    exact q
  refine wpAny_leaves_madeW (s:={ s with heap:=h' }) (base:=PySem.W.hideAll s.heap (frs X.stack)) (h:=s.heap) (by rw [J.ok.frames,hst.1]) hst.2 (fun b o q=>PySem.W.of_hideAll _ q) fr hx fun h2 t hfl _ _ hup=>?_
  obtain ⟨f1,f2,f3,f4⟩:=hfl
  have hF:∀ b o,s.heap.get? b=some o→b∈frs X.stack→∃ sl,h2.get? b=some { o with slots:=sl }:=fun b o q hb=>by
    obtain ⟨o',q',nf⟩:=J.stackFields hb
    rw [q] at q';cases q'
    exact hup b o (hx.keeps b o q) nf
  obtain ⟨r1,r2,r3⟩:=J.flown (cs:=[]) hex (fun b z=>nomatch z) (fun b o q n _=>PySem.W.hideAll_get _ q n) hF
    (by
      cases q:H e with
      | none=>rfl
      | some u =>
        obtain ⟨o,z⟩:=(J.hok e u q).there
        rw [hx.new] at z;cases z)
    (none_back (J.there0 hex) hx.new) f1 f4
  exact ⟨e,cls,H,rfl,J.os,J.bare,r1,r2,r3,hE⟩
theorem leave_on {e:Addr} {cls:Value} {E:XK} {EE:Value→Shared→Prop} (hst:X.stack=X.env :: X.outer∧X.env.frame=some X.env.locals) (hex:X.ex=[]) (J:Inv X pins σ H s) (xf:XF X.s₀.heap s.heap H e cls) (hE:E cls none H) :
    wpAny (model X.prog X.w) X.A (leaving X.env (.ref e)) (fun _ s2=>CX1 X.prog X.w X.outer X.H₀ X.s₀ E (.ref e) s2) EE s:=by
  obtain ⟨oe,vs,a0,T,oT,ts,h1,h2,h3,h4,h5,h6,h7,h8,h9,h10,h11,h12⟩:=id xf
  have fr:s.heap.FunFrames (PySem.W.hideAll s.heap (frs X.stack ++ [e,T])) (X.env :: X.outer):=by
    have q:=PySem.W.funFrames_hide (as:=frs X.stack ++ [e,T]) J.stack fun env he a ha=>List.mem_append_left _ (List.mem_filterMap.mpr ⟨env,he,ha⟩)
    rw [hst.1] at q ⊢
    exact q
  refine wpAny_leaves_onW (base:=PySem.W.hideAll s.heap (frs X.stack ++ [e,T])) (a0:=a0) (by rw [J.ok.frames,hst.1]) hst.2
    ⟨fun b o q=>PySem.W.of_hideAll _ q,PySem.W.hideAll_none _ (List.mem_append_right _ (by simp)),fr,oe,vs,T,oT,ts,h1,h2,h3,h4,PySem.W.hideAll_none _ (List.mem_append_right _ (by simp)),h5,h6,h7,h8⟩ fun h2' hfl hup=>?_
  obtain ⟨f1,f2,f3,f4⟩:=hfl
  have hF:∀ b o,s.heap.get? b=some o→b∈frs X.stack→∃ sl,h2'.get? b=some { o with slots:=sl }:=fun b o q hb=>by
    obtain ⟨o',q',nf⟩:=J.stackFields hb
    rw [q] at q';cases q'
    exact hup b o q nf
  obtain ⟨r1,r2,r3⟩:=J.flown (cs:=[e,T]) hex (fun b z=>by
      have z':b=e∨b=T:=by simpa using z
      rcases z' with rfl | rfl
      · exact ⟨h11,h9⟩
      · exact ⟨h12,h10⟩) (fun b o q n n2=>PySem.W.hideAll_get _ q fun z=>(List.mem_append.mp z).elim n n2) hF h11 h9 f1 f4
  exact ⟨e,cls,H,rfl,J.os,J.bare,r1,r2,r3,hE⟩
end
def Raises (X:Cx) (E:XK):Prop:=∀ (pins:List (Addr × Obj)) (σ:St) (H:Hp) (s:Shared) (h':Heap) (e:Addr) (cls:Value) (vs:List Value),Inv X pins σ H s→Heap.MadeExcOf s.heap h' e cls vs→E cls none H→X.xe (.ref e) { s with heap:=h' }
section
variable {P:Program} {w:World} {K:PySem.W.Frag} {mg:Str→Option Value} {base:Heap} {N:List Str} {qual:Str} {scope:Scope} {f:Addr} {cd:Value} {A:Around} {outer:List Env} {s₀:Shared} {H₀:Hp} {E:XK}
theorem pass1:Passes (CX1 P w) (cxOf (CX1 P w) P w K mg base N qual scope f cd A outer s₀ H₀ E) E:=by
  intro pins σ H s ev s' I hcx
  obtain ⟨e,cls,H',rfl,os,bare,un,hok,xf,hE⟩:=hcx
  have J:=I.call' (ch:=[]) os un hok bare (fun b z=>nomatch z)
  exact leave_on (X:=cxOf (CX1 P w) P w K mg base N qual scope f cd A outer s₀ H₀ E) ⟨rfl,rfl⟩ rfl J (xf.older (I.there0 rfl)) hE
theorem raises1:Raises (cxOf (CX1 P w) P w K mg base N qual scope f cd A outer s₀ H₀ E) E:=by
  intro pins σ H s h' e cls vs I hx hE
  exact leave_new (X:=cxOf (CX1 P w) P w K mg base N qual scope f cd A outer s₀ H₀ E) ⟨rfl,rfl⟩ rfl I hx hE
theorem own1:PassesOwn (model P w) (cxOf (CX1 P w) P w K mg base N qual scope f cd A outer s₀ H₀ E).A (cxOf (CX1 P w) P w K mg base N qual scope f cd A outer s₀ H₀ E).env (cxOf (CX1 P w) P w K mg base N qual scope f cd A outer s₀ H₀ E).xe:=PassesOwn.leaving
end
abbrev bmVal:List Value:=[.type "ValueError",.type "Exception",.type "BaseException",.type "object"]
abbrev newVal:String:="ValueError.__new__"
def tRaise (C:Addr) (ta:TA) (E:XK):TS:=fun _ σ H=>ta σ H fun vs H1=>vs.length≤sizeLine∧E (.ref C) none H1
theorem own_cls {K:PySem.W.Frag} {h:Heap} {C:Addr} {bmB:List Value} {newId:String} (X:K.In h) (q:PySem.W.excIn K C bmB newId=true) :
    ∃ bm N nm qn bs hdct sn sub ab col dd k0 k1 k2 k3 k5 mN,h.get? C=some (excClassObj nm qn C N bs bm hdct sn sub ab col dd k0 k1 k2 k3 k5 newId)∧h.Ns N mN∧mN "__init__"=none∧OwnTail h bmB bm:=by
  unfold PySem.W.excIn at q
  split at q
  case h_2=>cases q
  rename_i dd cd sl ho
  split at q
  case h_2=>cases q
  rename_i C' bm k0 k1 k2 k3 n k5 hm hs
  rw [Bool.and_eq_true,Bool.and_eq_true,Bool.and_eq_true,Bool.and_eq_true,Bool.and_eq_true] at q
  obtain ⟨⟨⟨⟨⟨q1,q2⟩,q3⟩,q4⟩,q5⟩,q6⟩:=q
  obtain rfl:C'=C:=by simpa using q1
  obtain rfl:n=newId:=by simpa using q2
  obtain ⟨nm,bs,mro,ns,qn,hd,sn,sub,ab,col,del⟩:=cd
  have hdel:del=false:=by simpa using q3
  have hm':mro=.ref C' :: bm:=hm
  subst hdel hm'
  have hsl:sl=#[k0,k1,k2,k3,some (.builtin n),k5]:=by
    apply Array.ext'
    exact hs
  subst hsl
  exact ⟨bm,ns,nm,qn,bs,hd,sn,sub,ab,col,dd,k0,k1,k2,k3,k5,_,X _ _ ho,.of_isNs (PySem.W.isNs_of_in X q5),PySem.W.nsMap_none_of_in X q5 (by simpa using q6),PySem.W.tail_of_in X q4⟩
section
variable {X:Cx} {x:Str} {C:Addr} {np cpos pos:Pos} {e₀:Expr} {rest:List Expr} {ta:TA} {E:XK}
theorem ps_raise (hc:X.calm=true) (q:PySem.W.excIn X.K C bmVal newVal=true) (hr:Raises X E) (hg:Gl X x) (hm:X.mg x=some (.ref C)) (ha:PA X (e₀ :: rest) ta)
    (he:starEach (e₀ :: rest) X.env=(false,eval e₀ X.env) :: starEach rest X.env:=by rfl) (hp:(backTo cpos (starEach rest X.env)).any (·.1)=false:=by rfl) (hd:(x == ("__debug__":Str))=false:=by decide) :
    PS X (.Raise (some (.Call (.Name x np) (e₀ :: rest) [] cpos)) none pos) (tRaise C ta E):=by
  intro pins s σ H D I h
  obtain ⟨tl,N,nm,qn,bs,hdct,sn,sub,ab,col,dd,k0,k1,k2,k3,k5,mN,hC,hN,hni,T⟩:=own_cls I.ok.mod.kin q
  refine wpAny_Raise_call_subT (C:=C) (nm:=nm) (q:=qn) (N:=N) (bs:=bs) (bm:=tl) (hdct:=hdct) (sn:=sn) (sub:=sub) (ab:=ab) (col:=col) (dd:=dd) (k0:=k0) (k1:=k1) (k2:=k2) (k3:=k3) (k5:=k5) (newId:=newVal)
    PySem.F.excBase_ValueError (mN:=mN) (T.hasType PySem.F.excBase_ValueError.hasBase) (I.ok.hd hc) (by rw [he];exact hp) hni (ld_glob I hg hm ⟨rfl,?_⟩ hd)
  have hA:=ha cpos pins s σ H _ I h
  rw [he] at hA ⊢
  refine Calls.evalArgs_plain (thn hA fun us s2 ⟨vs,H2,I2,r2,z2,q2⟩=>?_)
  exact ⟨rfl,by rw [← r2.length];exact z2,I2.bk _ _ hC,hN.keeps I2.bk,T.keeps I2.bk,fun h' e hm=>hr pins σ H2 s2 h' e _ _ I2 hm q2⟩
end
def Asc (x:Str):Prop:=∀ c∈x.cps.toList,c < 128
section
variable {X:Cx} {e:Expr} {te:TE} {a:Str} {j:Nat} {p1 p2 p3:Pos}
def tMsgR (te:TE):TE:=fun σ H Q=>te σ H fun v H1=>∃ x:Str,v=.str x∧x.length≤100000∧Asc x∧∀ y:Str,Q (.str y) H1
def tMsgS (te:TE):TE:=fun σ H Q=>te σ H fun v H1=>∃ x:Str,v=.str x∧x.length≤100000∧∀ y:Str,Q (.str y) H1
end
end L2
namespace L2
open PySem PySem.Spec PyProof.Rows
structure ExC (K:PySem.W.Frag) (C:Addr):Prop where
  ga:PySem.W.findIn K (.ref C) "__getattribute__"=some (some (.builtin "BaseException.__getattribute__"))
  gx:PySem.W.findIn K (.ref C) "__getattr__"=some none
  cl:PySem.W.findIn K (.ref C) "__class__"=some (some (.builtin "object.__class__"))
  ob:PySem.W.mroIn K C (.type "object")=some true
  be:PySem.W.mroIn K C (.type "BaseException")=some true
  ge:PySem.W.specialIn K (.builtin "object.__class__") "__get__"=some (some (.builtin "getset_descriptor.__get__"))
  tk:PySem.W.takesIn K (.builtin "object.__class__")=some true
section
variable {prog:Program} {w:World} {A:Around} {E:Value→Shared→Prop} {K:PySem.W.Frag} {e C:Addr} {s:Shared}
theorem exc_find {M:Model} {h:Heap} (X:K.In h) (c:ExC K C):PySem.W.Looks M h (PySem.Builtin.ObjectAttr.find (.ref e) (.ref C) "__class__") (.bind (.builtin "getset_descriptor.__get__") (.builtin "object.__class__")):=by
  have l1:=PySem.W.looks_findIn (M:=M) X c.cl
  have l2:PySem.W.Looks M h (PySem.Builtin.ObjectAttr.getOf (some (.builtin "object.__class__"))) (some (.builtin "getset_descriptor.__get__")):=PySem.W.looks_specialIn X c.ge
  have l3:=PySem.W.looks_takesIn (M:=M) X c.tk
  refine l1.andThen (l2.andThen ?_)
  exact (show PySem.W.Looks M h (PySem.Builtin.ObjectAttr.dataDescriptor? (some (.builtin "object.__class__")) (some (.builtin "getset_descriptor.__get__"))) (some ((.builtin "getset_descriptor.__get__"),(.builtin "object.__class__"))) from l3.andThen .now).andThen (PySem.W.Looks.tag .now)
open PySem.Builtin PySem.Builtin.Getset_descriptor in
theorem exc_get {R:Result→Shared→Prop} {tp:Value} (X:K.In s.heap) (c:ExC K C) (t0:PySem.W.Looks (model prog w) s.heap (typeOf (.ref e)) (.ref C)) (hr:R (.ok (.ret (.ref C))) s) :
    codeAny (model prog w) A (.call (.builtin "getset_descriptor.__get__") ⟨[.builtin "object.__class__",.ref e,tp],[]⟩) R s:=by
  obtain ⟨hh,gs,dr,tt,os⟩:=s
  have t5:=PySem.W.looks_mroIn (M:=model prog w) X c.ob
  refine codeAny_call_builtin PySem.W.KF.slot_gs.plain PySem.W.KF.entry_gs (PySem.W.KF.slot_gs.check _ _ _ _ _ _ _ _ PySem.W.KF.type_class (PySem.W.KF.args_gs _ _ _) ?_)
  unfold Builtin.«getset_descriptor.__get__» descrGet
  rw [PySem.W.dga_obj]
  refine wpAny_bind (wpAny_pure ?_)
  unfold descrGetter descrCheckInstance descrNameAndClass isInstance
  simp only [PySem.W.KF.owner_class]
  repeat lk
  refine ⟨Code.quiet_builtin _ (by decide +kernel),codeAny_builtin PySem.W.KF.entry_class ?_⟩
  unfold Builtin.«object.__class__» shownTypeOf
  repeat lk
  exact hr
theorem exc_class {Q:Option Value→Shared→Prop} (X:K.In s.heap) (c:ExC K C) (LT:∀ M:Model,PySem.W.Looks M s.heap (typeOf (.ref e)) (.ref C)) (hq:Q (some (.ref C)) { s with toks:=s.toks + 1 }) :
    wpAny (model prog w) A (getAttr? (.ref e) "__class__") Q E s:=by
  obtain ⟨hh,gs,dr,tt,os⟩:=s
  have t0:=LT (model prog w)
  have t1:=PySem.W.looks_findIn (M:=model prog w) X c.ga
  have t2:=PySem.W.looks_findIn (M:=model prog w) X c.gx
  have t3:=PySem.W.looks_mroIn (M:=model prog w) X c.be
  have t4:=exc_find (M:=model prog w) (e:=e) X c
  have t5:=PySem.W.looks_mroIn (M:=model prog w) X c.ob
  have t6:bindSpecial (.builtin "BaseException.__getattribute__") (.ref e)=pure (.builtin "BaseException.__getattribute__",[.ref e]):=F.excAttr_ValueError.ga.bind (.ref e)
  have b2:(Value.builtin "BaseException.__getattribute__" == Value.builtin "object.__getattribute__")=false:=by decide +kernel
  unfold getAttr? getAttrBy? getAttrBy
  refine wpAny_bind (wpAny_mkText (wpAny_bind (wpAny_attempt (wpAny_holding (wpAny_bind (t0.at (wpAny_bind (t1.at ?_))))))))
  simp only [b2,Bool.and_false,Bool.false_eq_true,if_false]
  unfold getAttrByItsOwn hookBefore
  refine wpAny_bind (t2.at ?_)
  unfold callGetattribute boundAndCalled
  simp only [Bool.false_and,Bool.false_eq_true,if_false,Option.toList,t6]
  refine wpAny_bind (wpAny_attempt (wpAny_holding (wpAny_bind (wpAny_pure (wpAny_call ?_)))))
  refine codeAny_call_builtin F.excAttr_ValueError.ga.plain F.entry_bexc_ga ?_
  have k1:builtinKind "BaseException.__getattribute__"=some .slot:=by decide +kernel
  have k2:splitId "BaseException.__getattribute__"=some ("BaseException","__getattribute__"):=by decide +kernel
  have k3:=F.args_bexc_ga (.ref e) (.str "__class__" tt)
  simp only [checkBuiltinCall,k1,k2]
  refine wpAny_bind (?_:wpAny _ _ (isInstance (.ref e) (.type "BaseException")) _ _ _)
  have k4:PySem.W.Looks (model prog w) hh (isInstance (.ref e) (.type "BaseException")) true:=t0.andThen t3
  refine k4.at ?_
  simp only [Bool.not_true,Bool.false_eq_true,if_false,List.cons_append,List.nil_append]
  refine wpAny_of_eq (show _=pure () from k3) ?_
  refine wpAny_bind (wpAny_pure (wpAny_bind (wpAny_pure (wpAny_bind (t0.at (wpAny_bind (t4.at ?_)))))))
  show wpAny _ _ (holding [.builtin "object.__class__"] (call (.builtin "getset_descriptor.__get__") [.builtin "object.__class__",.ref e,.ref C]) >>= ret) _ _ _
  refine wpAny_bind (wpAny_holding (wpAny_call (exc_get X c t0 (wpAny_pure ?_))))
  exact PySem.W.handed_on rfl (wpAny_pure hq)
theorem kitx_exc {a:Addr} (c:ExC K C) (hc:(PySem.W.clsIn K C).isSome=true):PySem.W.KitX K (.ref a) (.ref C) (fun h=>∃ o,h.get? a=some o∧o.cls=.ref C) where
  ty:=fun M h _ p=>by
    obtain ⟨o,p1,p2⟩:=p
    exact p2 ▸ (PySem.W.Looks.ld p1).andThen .now
  it:=fun _ _ X _=>by
    obtain ⟨cd,z⟩:=Option.isSome_iff_exists.mp hc
    unfold PySem.W.clsIn at z
    split at z
    · rename_i y
      intro A' Q' E' s' k q
      unfold isType loadHead
      exact wpAny_bind (wpAny_loadPart (k _ _ (X _ _ y)) (wpAny_pure q))
    · cases z
  ne:=fun h tp dd its n sl X p=>by
    obtain ⟨cd,z⟩:=Option.isSome_iff_exists.mp hc
    refine Bool.eq_false_iff.mpr fun q=>?_
    obtain rfl:C=tp:=Value.ref.inj (beq_iff_eq.mp q)
    unfold PySem.W.clsIn at z
    split at z
    · rename_i y
      cases (X _ _ y).symm.trans p
    · cases z
  ca:=fun X p k=>by
    obtain ⟨o,p1,p2⟩:=p
    exact exc_class X c (fun M=>p2 ▸ (PySem.W.Looks.ld p1).andThen .now) k
end
end L2
namespace L2
open PySem PySem.Spec PyProof.Rows
section
variable {X:Cx} {pins:List (Addr × Obj)} {σ:St} {H:Hp} {s:Shared}
theorem Inv.land {h2:Heap} {cs:List Addr} (hex:X.ex=[]) (I:Inv X pins σ H s) (hcs:∀ b∈cs,H b=none∧X.s₀.heap.get? b=none) (hcp:∀ b∈cs,∀ p∈X.pn ++ pins,p.1≠b)
    (hB:∀ b o,s.heap.get? b=some o→b ∉ frs X.stack→b ∉ cs→h2.get? b=some o) (sm:s.heap.UpToSlots h2):Inv X pins σ H { s with heap:=h2 }:=by
  have hF:∀ b o,s.heap.get? b=some o→b∈frs X.stack→∃ sl,h2.get? b=some { o with slots:=sl }:=fun b o q hb=>by
    obtain ⟨o',q',nf⟩:=I.stackFields hb
    rw [q] at q';cases q'
    exact sm b o q nf
  obtain ⟨r1,r2⟩:=I.behind hex hcs hB hF
  have ce:∀ c v,s.heap.IsCell c v→h2.IsCell c v:=fun c v ⟨o,ho,hd⟩=>by
    obtain ⟨sl,q⟩:=sm c o ho fun vs z=>by rw [hd] at z;cases z
    exact ⟨_,q,hd⟩
  refine ⟨I.ok,I.os,I.bare,by rw [hex];exact r1,?_,fun x c e=>?_,I.free,I.freeC,fun p hp=>?_,r2,I.len⟩
  · obtain ⟨m,hn,hl⟩:=I.loc
    refine ⟨m,sm.ns hn,fun i x v e1 e2 e3=>?_⟩
    obtain ⟨u,r,l⟩:=hl i x v e1 e2 e3
    refine ⟨u,r,?_⟩
    rcases l with l | ⟨k,c,e,z⟩
    · exact .inl l
    · exact .inr ⟨k,c,e,ce c _ z⟩
  · obtain ⟨v,z⟩:=I.cell x c e
    exact ⟨v,ce c v z⟩
  · obtain ⟨e,n,ne,nf,d⟩:=I.pin p hp
    exact ⟨hB _ _ e (fun z=>(List.mem_cons.mp (I.stkSub _ z)).elim ne nf) fun z=>hcp _ z p hp rfl,n,ne,nf,d⟩
theorem Inv.track {e:Addr} {φ:Heap→Prop} (I:Inv X pins σ H s) (hn:H e=none) (h0:X.s₀.heap.get? e=none) (hex:X.ex=[]) (hL:e≠X.env.locals) (hc:∀ x c,X.env.cells.lookup x=some c→c≠e) (hp:∀ p∈X.pn ++ pins,p.1≠e)
    (ok:φ s.heap∧(∃ o,s.heap.get? e=some o)∧∀ h1 h2:Heap,φ h1→(∀ o,h1.get? e=some o→h2.get? e=some o)→φ h2):Inv X pins σ (upd H e (.ext φ)) s:=by
  have ne:∀ b u,H b=some u→b≠e:=fun b u q z=>by rw [z,hn] at q;cases q
  have B:=I.base
  refine ⟨I.ok,I.os,I.bare,⟨B.keep,B.slot,fun b o q n x=>?_,B.there,fun b xs q=>?_,fun b o u q=>?_,fun b ps q=>?_⟩,I.loc,I.cell,?_,fun x c q=>?_,fun p q=>?_,fun b u q=>?_,I.len⟩
  · rw [upd_ne fun z=>by rw [z,h0] at q;cases q];exact B.free b o q n x
  · have z:=B.tups b xs q
    rw [upd_ne (ne _ _ z)];exact z
  · have z:=B.frzs b o u q
    rw [upd_ne (ne _ _ z)];exact z
  · obtain ⟨m,z⟩:=B.tbls b ps q
    exact ⟨m,by rw [upd_ne (ne _ _ z)];exact z⟩
  · rw [upd_ne (Ne.symm hL)];exact I.free
  · rw [upd_ne (hc x c q)];exact I.freeC x c q
  · obtain ⟨z1,z2,z3,z4,z5⟩:=I.pin p q
    exact ⟨z1,by rw [upd_ne (hp p q)];exact z2,z3,z4,z5⟩
  · by_cases hb:b=e
    · subst hb
      rw [upd_same] at q;cases q
      exact ok
    · rw [upd_ne hb] at q
      exact (I.hok b u q).stay (fun c v _ z=>z) (fun c z=>by rw [upd_ne (ne _ _ z)];exact z) fun c xs z=>by rw [upd_ne (ne _ _ z)];exact z
theorem Inv.forget {h':Heap} {t':Nat} {i:Nat} {n:Str} {m:Str→Option Value} {v:Option Value} (I:Inv X pins σ H s) (hN:X.N.Nodup) (hi:X.N[i]?=some n)
    (hm:s.heap.Ns X.env.locals m) (hl:∀ (i:Nat) (x:Str) (v:V),X.N[i]?=some x→σ[i]?=some (some v)→Vis X.env.scope x→∃ u,RelV v u∧Look X.env s.heap m x u)
    (hn:h'.Ns X.env.locals (fun x=>if x=n then v else m x)) (hs:Heap.SameBut X.env.locals s.heap h'):Inv X pins (σ.set i none) H { s with heap:=h',toks:=t' }:=by
  have nL:∀ b o,X.s₀.heap.get? b=some o→b≠X.env.locals:=fun b o e=>Nat.ne_of_lt (Nat.lt_of_lt_of_le (Heap.lt_size e) I.ok.above)
  have hiσ:i < σ.length:=by rw [I.len];exact (List.getElem?_eq_some_iff.mp hi).1
  refine ⟨I.ok,I.os,I.bare,⟨fun b o e n hb hx=>(hs.2 b (nL b o e)).trans (I.base.keep b o e n hb hx),fun b o e n hb hx=>?_,I.base.free,fun b o e hx=>?_,I.base.tups,I.base.frzs,I.base.tbls⟩,⟨_,hn,fun j y w e1 e2 e3=>?_⟩,fun y c e=>?_,I.free,I.freeC,fun p hp=>?_,fun b u e=>?_,by simpa using I.len⟩
  · obtain ⟨sl,e1⟩:=I.base.slot b o e n hb hx
    exact ⟨sl,(hs.2 b (nL b o e)).trans e1⟩
  · obtain ⟨o',e1⟩:=I.base.there b o e hx
    exact ⟨o',(hs.2 b (nL b o e)).trans e1⟩
  · by_cases hj:j=i
    · subst hj
      rw [List.getElem?_set_self hiσ] at e2
      cases e2
    · rw [List.getElem?_set_ne (Ne.symm hj)] at e2
      obtain ⟨u,r,q⟩:=hl j y w e1 e2 e3
      refine ⟨u,r,?_⟩
      rcases q with ⟨k,e⟩ | ⟨k,c,e,z⟩
      · have:y≠n:=fun e=>hj (nodup_ix hN e1 (e ▸ hi))
        exact .inl ⟨k,by simp [this,e]⟩
      · exact .inr ⟨k,c,e,z.sameBut hs (I.cne y c e)⟩
  · obtain ⟨w',z⟩:=I.cell y c e
    exact ⟨w',z.sameBut hs (I.cne y c e)⟩
  · obtain ⟨e,n,ne,nf,d⟩:=I.pin p hp
    exact ⟨(hs.2 p.1 ne).trans e,n,ne,nf,d⟩
  · refine (I.hok b u e).stay (fun c w' hc q=>(hs.2 c ?_).trans q) (fun _ q=>q) fun _ _ q=>q
    rintro rfl
    rcases hc with rfl | hc
    · rw [I.free] at e;cases e
    · rw [I.free] at hc;cases hc
end
def exO (e C:Addr):HO:=.ext fun h=>∃ o,h.get? e=some o∧o.cls=.ref C
abbrev Cx.sub (X:Cx) (e:Addr):Cx:={ X with A:=X.A.mark (some (.ref e)),calm:=false,xe:=fun _ _=>False }
section
variable {X:Cx} {pins:List (Addr × Obj)} {σ:St} {H:Hp} {s:Shared} {e:Addr}
theorem Inv.toSub (I:Inv X pins σ H s):Inv (X.sub e) pins σ H s :=
  ⟨⟨I.ok.mod,I.ok.kind,I.ok.glob,I.ok.blt,I.ok.above,I.ok.inj,I.ok.has,I.ok.cab,(fun z=>nomatch z),I.ok.frames,I.ok.stk,I.ok.exf,I.ok.bs,I.ok.bsz,I.ok.noex,I.ok.exfs,I.ok.funs,I.ok.frf⟩,I.os,I.bare,I.base,I.loc,I.cell,I.free,I.freeC,I.pin,I.hok,I.len⟩
theorem Inv.ofSub {J:Inv X pins σ H s} {σ':St} {H':Hp} {s':Shared} (I:Inv (X.sub e) pins σ' H' s'):Inv X pins σ' H' s' :=
  ⟨J.ok,I.os,I.bare,I.base,I.loc,I.cell,I.free,I.freeC,I.pin,I.hok,I.len⟩
end
abbrev EXK:=Value→St→Hp→Prop
def PX (X:Cx) (pins:List (Addr × Obj)) (EX:EXK):Value→Shared→Prop:=fun ev s'=>∃ e cls σ s1 H1 H',ev=.ref e∧Inv X pins σ H1 s1∧Inv X pins σ H' s'∧XF s1.heap s'.heap H' e cls∧EX cls σ H'
def PEX (X:Cx) (ex:Expr) (t:EXK→TE):Prop :=
  ∀ (pins:List (Addr × Obj)) (s:Shared) (σ:St) (H:Hp) (Q:VK) (EX:EXK),Inv X pins σ H s→t EX σ H Q→wpAny (model X.prog X.w) X.A (eval ex X.env) (EP X pins σ Q) (PX X pins EX) s
def PSX (X:Cx) (st:Stmt) (t:EXK→TS):Prop :=
  ∀ (pins:List (Addr × Obj)) (s:Shared) (σ:St) (H:Hp) (D:Ends) (EX:EXK),Inv X pins σ H s→t EX D σ H→wpAny (model X.prog X.w) X.A (exec st X.env) (SP X pins D) (PX X pins EX) s
section
variable {X:Cx} {k:Nat} {f:Addr} {fd:FuncData} {ps:List Str} {sp:Sp} {x:Str} {p pos:Pos} {e:Expr} {es:List Expr} {t:TA}
def tCallX (sp:Sp) (ta:TA) (EX:EXK):TE:=fun σ H Q=>ta σ H fun vs H1=>sp (vs ++ []) H1 Q fun cls _ H2=>EX cls σ H2
theorem pex_call (F:FnOk X.prog X.w X.K X.mg X.base (CX1 X.prog X.w) k f fd ps sp) (hr:Room k X.A) (hg:Gl X x) (hm:X.mg x=some (.ref f)) (hk:PySem.W.keepIn X.K (.ref f)=true) (hb:Binds X.K fd ps []) 
    (ha:PA X.nox (e :: es) t) (hdb:(x == ("__debug__":Str))=false:=by decide) (he:starEach (e :: es) X.env=(false,eval e X.env) :: starEach es X.env:=by rfl) (hpl:(backTo pos (starEach es X.env)).any (·.1)=false:=by rfl) :
    PEX X (.Call (.Name x p) (e :: es) [] pos) (tCallX sp t):=by
  intro pins s σ H Q EX I h
  refine wpAny_Call_Name_kw (ld_glob I hg hm ?_ hdb)
  refine PySem.W.callWith_K (h₀:=X.base) I.ok.mod.kin hk (wpAny_mono (ha pos pins s σ H _ (I.wish _) h) (fun us s1 ⟨vs,H1,I1',r,q⟩=>⟨I1'.kIn,?_⟩) fun _ _ z=>False.elim z) he hpl
  have I1:=I1'.unwish
  have r2:Vals (vs ++ []) (us ++ []):=r.append .nil
  have hl:(us ++ []).length=ps.length:=by rw [← r2.length];exact F.len _ _ _ _ q
  refine wpAny_call (codeAny_mono (F.run X.A X.stack s1 H1 ⟨us,[]⟩ (us ++ []) (vs ++ []) _ _ hr I1.env0 (hb s1 us I1.kIn hl) r2 q) fun r s' hq=>?_)
  cases r with
  | error ev =>
    obtain ⟨e,cls,H',rfl,os,bare,un,hok,xf,hE⟩:=hq
    exact ⟨e,cls,σ,s1,H1,H',rfl,I1,I1.call' (ch:=[]) os un hok bare (fun b z=>nomatch z),xf,hE⟩
  | ok fl =>
    cases fl with
    | ret u=>exact I1.after hq
    | next=>exact False.elim hq
    | brk=>exact False.elim hq
    | cont=>exact False.elim hq
end
section
variable {X:Cx} {ex:Expr} {tx:EXK→TE} {pos p1:Pos} {i:Nat} {y:Str}
def tDropX (tx:EXK→TE) (EX:EXK):TS:=fun D σ H=>tx EX σ H fun _ H1=>D.nx σ H1
theorem psx_expr (he:PEX X ex tx) (hs:swapsWith ex none pos.line X.env=pure false:=by rfl):PSX X (.Expr ex pos) (tDropX tx):=by
  intro pins s σ H D EX I h
  exact wpAny_Expr_any (thn (he pins s σ H _ EX I h) fun v s1 ⟨x,H1,I1,r1,q1⟩=>⟨σ,H1,I1,q1⟩) I.quiet hs
def tRetX (tx:EXK→TE) (EX:EXK):TS:=fun D σ H=>tx EX σ H D.rt
def tAsgX (tx:EXK→TE) (i:Nat) (EX:EXK):TS:=fun D σ H=>tx EX σ H fun v H1=>D.nx (σ.set i (some v)) H1
end
structure ExK (K:PySem.W.Frag) (C:Addr):Prop extends ExC K C where
  has:(PySem.W.clsIn K C).isSome=true
def endT (i:Nat) (D:Ends):Ends:={ nx:=fun σ H=>D.nx (σ.set i none) H,rt:=D.rt,bk:=fun σ H=>D.bk (σ.set i none) H,ct:=fun σ H=>D.ct (σ.set i none) H }
def tTry (K:PySem.W.Frag) (tb:EXK→TS) (C0:Addr) (i:Nat) (th:TS):TS:=fun D σ H=>tb (fun cls σ1 H1=>∃ C,cls=.ref C∧ExK K C∧PySem.W.exmOne K (.ref C) (.ref C0)=some true ∧
  ∀ e,H1 e=none→th (endT i D) (σ1.set i (some (.ref e))) (upd H1 e (exO e C))) D σ H
section
variable {X:Cx} {st b₀:Stmt} {suite:List Stmt} {tb:EXK→TS} {th:TS} {c n:Str} {C0:Addr} {i:Nat} {np hpos pos:Pos}
theorem ps_try (hst:X.stack=X.env :: X.outer∧X.env.frame=some X.env.locals) (hex:X.ex=[]) (hN:X.N.Nodup) (hb:PSX X st tb) (hg:Gl X c) (hm:X.mg c=some (.ref C0)) (hi:X.N[i]?=some n) (hl:X.env.scope.names.lookup n=some .local)
    (hs:∀ e,PSs (X.sub e) (b₀ :: suite) th) (hdb:(c == ("__debug__":Str))=false:=by decide) :
    PS X (.Try [st] [.ExceptHandler (some (.Name c np)) (some n) (b₀ :: suite) hpos] [] [] pos) (tTry X.K tb C0 i th):=by
  intro pins s σ H D I h
  refine wpAny_Try_except (wpAny_execs_cons (wpAny_mono (hb pins s σ H D _ I h) (fun f s1 q=>?_) fun ev s1 q=>?_))
  · cases f with
    | next=>exact wpAny_execs_nil (wpAny_execs_nil q)
    | ret v=>exact q
    | brk=>exact q
    | cont=>exact q
  obtain ⟨e,cls,σ1,s0,H0,H1,rfl,I0,I1,xf,C,rfl,ek,hx,hth⟩:=q
  obtain ⟨oe,vs,a0,T,oT,ts,h1,h2,h3,h4,h5,h6,h7,h8,h9,h10,h11,h12⟩:=xf
  have fr:s1.heap.FunFrames (PySem.W.hideAll s1.heap (frs X.stack ++ [e,T])) (X.env :: X.outer):=by
    have q:=PySem.W.funFrames_hide (as:=frs X.stack ++ [e,T]) I1.stack fun env he a ha=>List.mem_append_left _ (List.mem_filterMap.mpr ⟨env,he,ha⟩)
    rw [hst.1] at q ⊢
    exact q
  have two:∀ b∈[e,T],s0.heap.get? b=none∧H1 b=none:=fun b z=>by
    have z':b=e∨b=T:=by simpa using z
    rcases z' with rfl | rfl
    · exact ⟨h9,h11⟩
    · exact ⟨h10,h12⟩
  have hcs:∀ b∈[e,T],H1 b=none∧X.s₀.heap.get? b=none:=fun b z=>⟨(two b z).2,none_back (I0.there0 hex) (two b z).1⟩
  have hcp:∀ b∈[e,T],∀ p∈X.pn ++ pins,p.1≠b:=fun b z p hp q=>by
    have:=(I0.pin p hp).1
    rw [q,(two b z).1] at this;cases this
  refine wpAny_looks_onW (base:=PySem.W.hideAll s1.heap (frs X.stack ++ [e,T])) (a0:=a0) (cls:=.ref C) (by rw [I1.ok.frames,hst.1]) hst.2
    ⟨fun b o q=>PySem.W.of_hideAll _ q,PySem.W.hideAll_none _ (List.mem_append_right _ (by simp)),fr,oe,vs,T,oT,ts,h1,h2,h3,h4,PySem.W.hideAll_none _ (List.mem_append_right _ (by simp)),h5,h6,h7,h8⟩ fun g4 held4 sm4=>?_
  refine wpAny_landsW held4 fun g5 fly5 sm5=>?_
  have hB:∀ {g:Heap},(PySem.W.hideAll s1.heap (frs X.stack ++ [e,T])).StaysIn g→∀ b o,s1.heap.get? b=some o→b ∉ frs X.stack→b ∉ [e,T]→g.get? b=some o :=
    fun {g} k b o q n1 n2=>k b o (PySem.W.hideAll_get _ q fun z=>(List.mem_append.mp z).elim n1 n2)
  have I5:Inv X pins σ1 H1 { s1 with heap:=g5 }:=I1.land hex hcs hcp (hB fly5.1) (sm4.trans sm5)
  have K5:=I5.kIn
  refine wpAny_handleBy_cons (codeAny_handlers_test ?_) (by intro q;cases q)
  refine ld_glob (X:=X.sub e) (I5.toSub (e:=e)) hg hm ?_ hdb
  have ty5:PySem.W.Looks (model X.prog X.w) g5 (typeOf (.ref e)) (.ref C):=by
    obtain ⟨o,p1,p2⟩:=fly5.there
    exact p2 ▸ (PySem.W.Looks.ld p1).andThen .now
  refine (PySem.W.exm_one K5 ty5 hx).here ?_
  refine codeAny_handlers_suite_as ?_
  refine lands_againW fly5 fun g6 fly6 sm6=>?_
  have I6:Inv X pins σ1 H1 { s1 with heap:=g6 }:=I1.land hex hcs hcp (hB fly6.1) ((sm4.trans sm5).trans sm6)
  have neL:e≠X.env.locals:=fun z=>by
    obtain ⟨m,⟨o,_,_,ho,_⟩,_⟩:=I0.loc
    rw [← z,h9] at ho;cases ho
  have neC:∀ x c,X.env.cells.lookup x=some c→c≠e:=fun x c q z=>by
    obtain ⟨v,o,ho,_⟩:=I0.cell x c q
    rw [z,h9] at ho;cases ho
  obtain ⟨o6,p6,q6⟩:=fly6.there
  have I7:Inv X pins σ1 (upd H1 e (exO e C)) { s1 with heap:=g6 }:=I6.track h11 (hcs e (by simp)).2 hex neL neC (hcp e (by simp))
    ⟨⟨o6,p6,q6⟩,⟨o6,p6⟩,fun a b ⟨o,z1,z2⟩ k=>⟨o,k o z1,z2⟩⟩
  refine store_ok (X:=X) (v:=.ref e) I7 hN hi (.inl hl) rfl (fun s8 I8=>?_) (.inr hl)
  refine wpAny_mono (hs e pins s8 _ _ _ I8.toSub (hth e h11)) (fun f s9 q=>?_) fun _ _ z=>False.elim z
  have hcls:(X.env.scope.kind == .class || (X.env.scope.kind == .module && X.env.locals != X.env.globals))=false:=by rw [I.ok.kind];rfl
  have go:∀ {σ9:St} {H9:Hp} {R:Shared→Prop},Inv (X.sub e) pins σ9 H9 s9→(∀ s',Inv X pins (σ9.set i none) H9 s'→R s') →
      wpAny (model X.prog X.w) X.A (do bindName X.env n .none;unbindBehindTheSuite X.env n hpos) (fun _ s3=>R s3) X.xe s9:=fun {σ9 H9 R} J k=>by
    have J':Inv X pins σ9 H9 s9:=Inv.ofSub (J:=I) J
    obtain ⟨m,hm9,hl9⟩:=J'.loc
    exact wpAny_nameGoes_keeps (Q:=fun _ s3=>R s3) hl hm9 hcls fun h' v a b=>k _ (J'.forget hN hi hm9 hl9 a b)
  cases f with
  | next =>
    obtain ⟨σ9,H9,J,z⟩:=q
    exact go (R:=fun s3=>SP X pins D .next s3) J fun s' J'=>⟨_,_,J',z⟩
  | brk =>
    obtain ⟨σ9,H9,J,z⟩:=q
    exact go (R:=fun s3=>SP X pins D .brk s3) J fun s' J'=>⟨_,_,J',z⟩
  | cont =>
    obtain ⟨σ9,H9,J,z⟩:=q
    exact go (R:=fun s3=>SP X pins D .cont s3) J fun s' J'=>⟨_,_,J',z⟩
  | ret u =>
    obtain ⟨v,σ9,H9,J,r,z⟩:=q
    exact go (R:=fun s3=>SP X pins D (.ret u) s3) J fun s' J'=>⟨v,_,_,J',r,z⟩
end
end L2
namespace L2
open PySem PySem.Spec PyProof.Rows
def clsV:V→Option Value
  | .ty T=>some (.type T)
  | .ref D=>some (.ref D)
  | _=>none
abbrev cIsx (K:PySem.W.Frag):RC:=fun xs H Q=>∃ a C c cv b,xs=[.ref a,c]∧H a=some (exO a C)∧ExK K C∧clsV c=some cv∧PySem.W.kitOne K (.ref C) cv=some b∧Q (.bl b) H
abbrev cIsxT (K:PySem.W.Frag):RC:=fun xs H Q=>∃ a C p,∃ cs:List Addr,∃ b,xs=[.ref a,.ref p]∧H a=some (exO a C)∧ExK K C∧H p=some (.tup (cs.map V.ref))∧PySem.W.kitAny K (.ref C) (cs.map Value.ref)=some b∧Q (.bl b) H
theorem vals_refs:∀ {cs:List Addr} {us:List Value},Vals (cs.map V.ref) us→us=cs.map Value.ref
  | [],_,.nil=>rfl
  | c :: r,_,.cons h t=>by rw [vals_refs t];cases h;rfl
section
variable {X:Cx}
theorem exO_at {P:Program} {w:World} {H:Hp} {h:Heap} {a C:Addr} (k:HOk P w H h) (e:H a=some (exO a C)):∃ o,h.get? a=some o∧o.cls=.ref C:=(k a _ e).1
theorem call_isx:CallR X (.builtin "isinstance") (cIsx X.K):=by
  intro pins s σ H xs us Q I r h
  obtain ⟨a,C,c,cv,b,rfl,ha,ek,hc,hk,q⟩:=h
  obtain ⟨u,w',rfl,r1,r2⟩:=vals2 r
  cases r1
  have e2:w'=cv:=by
    cases c <;> simp only [clsV,Option.some.injEq,reduceCtorEq] at hc
    · subst hc;exact r2
    · subst hc;exact r2
  subst e2
  exact PySem.W.kia_one (kitx_exc ek.toExC ek.has) I.kIn (exO_at I.hok ha) hk (fun z=>nomatch z) fun tk=>⟨.bl b,H,I.tok _,rfl,q⟩
theorem call_isxT:CallR X (.builtin "isinstance") (cIsxT X.K):=by
  intro pins s σ H xs us Q I r h
  obtain ⟨a,C,p,cs,b,rfl,ha,ek,hp,hk,q⟩:=h
  obtain ⟨u,w',rfl,r1,r2⟩:=vals2 r
  cases r1
  cases r2
  obtain ⟨_,its,rv,o,o1,o2,n,o3⟩:=(show ObjOk X.prog X.w H s.heap p (.tup (cs.map V.ref)) from I.hok p _ hp)
  obtain rfl:=vals_refs rv
  obtain ⟨oc,od,oda,osl⟩:=o
  obtain rfl:oc=.type "tuple":=o2
  obtain rfl:oda=.seq (cs.map Value.ref).toArray n:=o3
  exact PySem.W.kia_tup (kitx_exc ek.toExC ek.has) I.kIn (exO_at I.hok ha) o1 hk (fun z=>nomatch z) fun tk=>⟨.bl b,H,I.tok _,rfl,q⟩
end
theorem pass10 {P:Program} {w:World} {X:Cx}:Passes (CX1 P w) X E0:=fun _ _ _ _ _ _ _ h=>by
  obtain ⟨_,_,_,_,_,_,_,_,_,z⟩:=h
  exact z.elim
section
variable {P:Program} {w:World} {K:PySem.W.Frag} {mg:Str→Option Value} {base:Heap}
theorem Fun.ok1 {x qual:Str} {st:Stmt} {f:Addr} {fd:FuncData} {N ps:List Str} {k:Nat} {sp:Sp} (F:Fun K x qual st f fd) (S:FnScope N ps (defScope st)) (len:∀ vs H Q E,sp vs H Q E→vs.length=ps.length)
    (hbody:∀ (cdv:Value) (A:Around) (outer:List Env) (s:Shared) (H:Hp) (vs:List V) (Q:VK) (E:XK),Room k (A.deeper (envOfC qual (defScope st) s.heap.objs.size f cdv))→sp vs H Q E →
      ∃ t,PSs (cxOf (CX1 P w) P w K mg base N qual (defScope st) f cdv A outer s H E) (defBody st) t∧t { nx:=fun _ H'=>Q .non H',rt:=Q } (start N vs) H):FnOk P w K mg base (CX1 P w) (k + 1) f fd ps sp:=by
  obtain ⟨oc,od,kV,doc,pm,an,cdv,ct,osl,rfl,lk,hcd⟩:=F.ex
  exact fn_of lk hcd S len fun A outer s H vs Q E hr hsp=>hbody cdv A outer s H vs Q E hr hsp
theorem Fun.ok0 {x qual:Str} {st:Stmt} {f:Addr} {fd:FuncData} {N ps:List Str} {k:Nat} {sp:Sp} (F:Fun K x qual st f fd) (S:FnScope N ps (defScope st)) (len:∀ vs H Q E,sp vs H Q E→vs.length=ps.length)
    (hbody:∀ (cdv:Value) (A:Around) (outer:List Env) (s:Shared) (H:Hp) (vs:List V) (Q:VK) (E:XK),Room k (A.deeper (envOfC qual (defScope st) s.heap.objs.size f cdv))→sp vs H Q E →
      ∃ t,PSs (cxOf (CX1 P w) P w K mg base N qual (defScope st) f cdv A outer s H E).nox (defBody st) t∧t { nx:=fun _ H'=>Q .non H',rt:=Q } (start N vs) H):FnOk P w K mg base (CX1 P w) (k + 1) f fd ps sp :=
  F.ok1 S len fun cdv A outer s H vs Q E hr h=>let ⟨t,a,b⟩:=hbody cdv A outer s H vs Q E hr h;⟨t,a.nox,b⟩
end
theorem walk_ofX {l:PySem.W.OpenLaw} {n k:Nat} {q:Program} {loose:List Str} {XP:(Str→Option Value)→Heap→Prop} {YP:World→Heap→Prop} {d:DefRec} {K:Params→PySem.W.Frag} {sp:PySem.W.Frag→Sp} {x:Str}
    (hn:l.most=some n) (hn2:n≤sizeLine) (hdf:d.params.defaults=[]) (hr:Room k callerA)
    (hY:∀ (w:World) (h:Heap),YP w h→(K w.params).In h)
    (F:∀ (w:World) (mg:Str→Option Value) (fa:Addr) (h:Heap),(K w.params).In h→h.Ns mainGlobals mg→mg d.name=some (.ref fa) →
      ∃ fd:FuncData,(∀ (s:Shared) (u:Value),BindsTo s fd ⟨[u],[]⟩ [(x,u)]) ∧
        ∀ base:Heap,(K w.params).In base→base.Ns mainGlobals mg→FnOk l.prog w (K w.params) mg base (CX1 l.prog w) k fa fd [x] (sp (K w.params)))
    (hsp:∀ (K:PySem.W.Frag) (H:Hp) (a:Addr) (ns:List Int),ns.length≤n→Only H→SqL K H a (ns.map V.int)→sp K [.ref a] H (fun v _=>v=.bl true) fun _ _ _=>False) :
    PySem.W.WalkO q loose XP YP l.row.toRowW d [] (fun f vs=>PySem.call f vs) :=
  walk_of (K:=K) (CX:=fun w=>CX1 l.prog w) (sp:=fun w=>sp (K w.params)) hn hn2 hdf hr hY F (fun w H a ns h1 h2 h3=>hsp (K w.params) H a ns h1 h2 h3) fun _ _ _ _ _ z=>by
    obtain ⟨_,_,_,_,_,_,_,_,_,y⟩:=z
    exact y
end L2
namespace L2
open PySem
section
variable {σ:St} {H:Hp} {nx:St→Hp→Prop} {B:V→St→Hp→(St→Hp→Prop)→Prop}
theorem loop_range {lo:Int} {n:Nat} (Pv:Nat→St→Hp→Prop) (h0:Pv 0 σ H) (hs:∀ i σ H,i < n→Pv i σ H→B (.int (lo + i)) σ H (Pv (i + 1))) (hd:∀ σ H,Pv n σ H→nx σ H) :
    ∃ W:Nat→Nat→St→Hp→Prop,(∃ m,W 0 m σ H)∧∀ i m σ H,W i m σ H→((Itr lo n).stop i H∧nx σ H)∨((Itr lo n).go i H∧∃ N:St→Hp→Prop,(∀ σ' H',N σ' H'→∃ m',m' < m∧W (i + 1) m' σ' H')∧∀ x H',(Itr lo n).yld i H x H'→B x σ H' N):=by
  refine ⟨fun i m σ H=>m=n - i∧i≤n∧Pv i σ H,⟨n,by simp,Nat.zero_le _,h0⟩,?_⟩
  rintro i m σ H ⟨rfl,hi,p⟩
  by_cases hlt:i < n
  · refine .inr ⟨hlt,Pv (i + 1),fun σ' H' p'=>⟨n - (i + 1),by omega,rfl,hlt,p'⟩,?_⟩
    rintro x H' ⟨rfl,rfl⟩
    exact hs i σ _ hlt p
  · obtain rfl:i=n:=by omega
    exact .inl ⟨Nat.le_refl _,hd σ H p⟩
theorem loop_list {K:PySem.W.Frag} {a:Addr} (xs:List V) (Pv:Nat→St→Hp→Prop) (h0:Pv 0 σ H) (hl:∀ i σ H,Pv i σ H→SqL K H a xs) (hs:∀ i x σ H,xs[i]?=some x→Pv i σ H→B x σ H (Pv (i + 1))) (hd:∀ σ H,Pv xs.length σ H→nx σ H) :
    ∃ W:Nat→Nat→St→Hp→Prop,(∃ m,W 0 m σ H)∧∀ i m σ H,W i m σ H→((Itl K a).stop i H∧nx σ H)∨((Itl K a).go i H∧∃ N:St→Hp→Prop,(∀ σ' H',N σ' H'→∃ m',m' < m∧W (i + 1) m' σ' H')∧∀ x H',(Itl K a).yld i H x H'→B x σ H' N):=by
  refine ⟨fun i m σ H=>m=xs.length - i∧i≤xs.length∧Pv i σ H,⟨xs.length,by simp,Nat.zero_le _,h0⟩,?_⟩
  rintro i m σ H ⟨rfl,hi,p⟩
  have q:=hl i σ H p
  by_cases hlt:i < xs.length
  · refine .inr ⟨⟨xs,xs[i],q,by simp [hlt]⟩,Pv (i + 1),fun σ' H' p'=>⟨xs.length - (i + 1),by omega,rfl,hlt,p'⟩,?_⟩
    rintro x H' ⟨rfl,y⟩
    exact hs i x σ _ (y xs q) p
  · obtain rfl:i=xs.length:=by omega
    exact .inl ⟨⟨xs,q,Nat.le_refl _⟩,hd σ H p⟩
end
theorem comp_gen {J:It} {D:Addr} {τ₀:St} {H1:Hp} {Q:Hp→Prop} {B:V→St→Hp→(V→St→Hp→Prop)→(St→Hp→Prop)→Prop} (n:Nat) (hn:n≤1000000) (C:St→Prop) (R:Nat→V→Prop) (hC:C τ₀)
    (go:∀ i H,Same H1 H→i < n→J.go i H) (stop:∀ H,Same H1 H→J.stop n H) (hD:H1 D=none)
    (hs:∀ i x τ H H',C τ→Same H1 H→i < n→J.yld i H x H'→B x τ H' (fun v τ' H4=>C τ'∧R i v∧Same H H4) (fun _ _=>False))
    (hd:∀ ys H,ys.length=n→(∀ i v,ys[i]?=some v→R i v)→Same H1 H→H D=some (.lst ys)→Q H) :
    ∃ W:Nat→Nat→List V→St→Hp→Prop,(∃ m,W 0 m [] τ₀ (upd H1 D (.lst [])))∧∀ i m ys τ H,W i m ys τ H→H D=some (.lst ys) ∧
    ((J.stop i H∧Q H)∨(J.go i H∧ys.length < sizeLine∧∃ N:V→St→Hp→Prop,
      (∀ v τ' H',N v τ' H'→H' D=some (.lst ys)∧∃ m',m' < m∧W (i + 1) m' (ys ++ [v]) τ' (upd H' D (.lst (ys ++ [v]))))∧∃ Nf:St→Hp→Prop,(∀ τ' H',Nf τ' H'→∃ m',m' < m∧W (i + 1) m' ys τ' H') ∧
      ∀ x H',J.yld i H x H'→B x τ H' N Nf)):=by
  have ext:∀ {H:Hp} {o:HO},Same H1 H→Same H1 (upd H D o):=fun {H o} h b u e=>by
    rw [upd_ne (ne_of_none e hD)];exact h b u e
  refine ⟨fun i m ys τ H=>m=n - i∧i≤n∧ys.length=i∧(∀ j v,ys[j]?=some v→R j v)∧Same H1 H∧H D=some (.lst ys)∧C τ,⟨n,by simp,Nat.zero_le _,rfl,by simp,ext (Same.refl _),upd_same,hC⟩,?_⟩
  rintro i m ys τ H ⟨rfl,hi,hl,hR,hS,hy,hc⟩
  refine ⟨hy,?_⟩
  by_cases hlt:i < n
  · refine .inr ⟨go i H hS hlt,Nat.lt_of_le_of_lt (by omega:ys.length≤1000000) (by decide),(fun v τ' H4=>C τ'∧R i v∧Same H H4),?_,(fun _ _=>False),fun _ _ z=>z.elim,fun x H' y=>hs i x τ H H' hc hS hlt y⟩
    rintro v τ' H4 ⟨c4,r4,s4⟩
    refine ⟨s4 _ _ hy,n - (i + 1),by omega,rfl,hlt,by simp [hl],fun j u hj=>?_,ext (hS.trans s4),upd_same,c4⟩
    rcases Nat.lt_trichotomy j ys.length with h | h | h
    · exact hR j u (by rwa [List.getElem?_append_left h] at hj)
    · subst h
      simp at hj
      subst hj
      rw [hl];exact r4
    · rw [List.getElem?_eq_none (by simp;omega)] at hj;cases hj
  · obtain rfl:i=n:=by omega
    exact .inl ⟨stop H hS,hd ys H hl hR hS hy⟩
theorem sIx_eq (n d:Nat) (v:Int):max (0:Int) (min (if v < 0 then v + n else v) n)=((HT.sIx n d (some v):Nat):Int):=by
  show _=(((if v < 0 then (v + (n:Int)).toNat else min v.toNat n):Nat):Int)
  by_cases hv:v < 0
  · simp only [if_pos hv];omega
  · simp only [if_neg hv];omega
theorem rng_one (a b:Nat):sliceRange (a:Int) (b:Int) 1=(List.range (b - a)).map fun k=>a + k:=by
  simp only [sliceRange,show ((1:Int) > 0)=True from by simp,if_true]
  by_cases hlt:(a:Int) < b
  · have e3:(((b:Int) - a + 1 - 1) / 1).toNat=b - a:=by rw [Int.ediv_one];omega
    simp only [hlt,if_true,e3]
    refine List.map_congr_left fun k _=>?_
    omega
  · have:b - a=0:=by omega
    simp [hlt,this]
theorem slice_ix (lo hi:Option Int) (n:Nat):Builtin.Str.strSliceIndices lo hi 1 n=(List.range (HT.sIx n n hi - HT.sIx n 0 lo)).map fun k=>HT.sIx n 0 lo + k:=by
  rw [← rng_one]
  unfold Builtin.Str.strSliceIndices
  simp only [show ((1:Int) > 0)=True from by simp,if_true]
  cases lo with
  | none =>
    cases hi with
    | none=>rfl
    | some v=>simp only [sIx_eq n n v];rfl
  | some u =>
    cases hi with
    | none=>simp only [sIx_eq n 0 u];rfl
    | some v=>simp only [sIx_eq n n v,sIx_eq n 0 u]
theorem slice_cps (x:Str) (lo hi:Option Int):(Txt.slice x lo hi).cps.toList=(x.cps.toList.drop (HT.sIx x.length 0 lo)).take (HT.sIx x.length x.length hi - HT.sIx x.length 0 lo):=by
  have hb:=HT.sIx_le x.length x.length (Nat.le_refl _) hi
  have hn:x.cps.toList.length=x.length:=by simp [Str.length]
  unfold Txt.slice
  rw [slice_ix]
  split
  · rename_i h
    have h':HT.sIx x.length x.length hi - HT.sIx x.length 0 lo=x.length:=by simpa using h
    have e0:HT.sIx x.length 0 lo=0∨x.length=0:=by omega
    rcases e0 with e0 | e0
    · rw [e0,List.drop_zero,List.take_of_length_le]
      omega
    · rw [List.eq_nil_of_length_eq_zero (by omega:x.cps.toList.length=0)];simp
  · by_cases hab:HT.sIx x.length 0 lo≤HT.sIx x.length x.length hi
    · have h:=StrLaws.picks x.cps.toList (HT.sIx x.length x.length hi - HT.sIx x.length 0 lo) (HT.sIx x.length 0 lo) (by omega)
      simpa using h
    · have:HT.sIx x.length x.length hi - HT.sIx x.length 0 lo=0:=by omega
      rw [this];simp
theorem slice_from (x:Str) (k:Nat):(Txt.slice x (some (k:Int)) none).cps.toList=x.cps.toList.drop k:=by
  rw [slice_cps,HT.sIx_none,HT.sIx_nat]
  have hn:x.cps.toList.length=x.length:=by simp [Str.length]
  by_cases h:k≤x.length
  · rw [Nat.min_eq_left h,List.take_of_length_le (by rw [List.length_drop];omega)]
  · rw [List.drop_eq_nil_of_le (by omega:x.cps.toList.length≤k),Nat.min_eq_right (by omega),List.drop_eq_nil_of_le (by omega)];simp
theorem slice_to (x:Str) (k:Nat):(Txt.slice x none (some (k:Int))).cps.toList=x.cps.toList.take k:=by
  rw [slice_cps,HT.sIx_none,HT.sIx_nat,List.drop_zero,Nat.sub_zero]
  have hn:x.cps.toList.length=x.length:=by simp [Str.length]
  by_cases h:k≤x.length
  · rw [Nat.min_eq_left h]
  · rw [Nat.min_eq_right (by omega),List.take_of_length_le (by omega),List.take_of_length_le (by omega)]
theorem str_ext {x y:Str} (h:x.cps.toList=y.cps.toList):x=y:=by
  obtain ⟨a⟩:=x
  obtain ⟨b⟩:=y
  have:a=b:=Array.toList_inj.mp h
  rw [this]
theorem cps_app (x y:Str):(x ++ y).cps.toList=x.cps.toList ++ y.cps.toList:=by
  show (x.cps ++ y.cps).toList=_
  simp
open PySem.NumText in
section
def numS (w:Int):Str:=Str.ofString (toString w)
theorem len_cps (x:Str):x.length=x.cps.toList.length:=by simp [Str.length]
def inF (c:Nat):Bool:=!(Builtin.Str.occurrences "0123456789" ⟨#[c]⟩ 0 (Str.length "0123456789") 1).isEmpty
def isFig (x:Str):Bool:=!decide (x="") && x.cps.toList.all inF
def inW (i:Int):Bool:=decide (-1000000000000000000000000000000≤i∧i≤1000000000000000000000000000000)
def fpart (x:Str):Str:=if (x.cps.toList.take 1 == [45])=true then Txt.slice x (some 1) none else x
def valOf (x:Str):Int:=(intText? x).getD 0
def isNum (x:Str):Bool:=!(decide (31 < (fpart x).length) || !isFig (fpart x)) && (inW (valOf x) && decide (numS (valOf x)=x))
end
end L2
namespace L2
open PySem PySem.Spec PyProof.Rows
def findS (x y:Str):Int:=match Builtin.Str.occurrences x y 0 x.length 1 with | i :: _=>(i:Int) | []=>-1
abbrev r_mt_find:RM:=fun x xs H Q=>∃ a b,x=.str a∧xs=[.str b]∧Q (.int (findS a b)) H
def joinS (sep:Str):List Str→Str
  | [p]=>p
  | l=>Builtin.Str.glued sep l
def sumL (sep:Str) (ls:List Str):Nat:=ls.foldl (fun n p=>n + p.length + sep.length) 0
abbrev r_mt_join (K:PySem.W.Frag):RM:=fun x xs H Q=>∃ sep a ls,x=.str sep∧xs=[.ref a]∧SqL K H a (ls.map V.str)∧sumL sep ls≤sizeLine∧Q (.str (joinS sep ls)) H
def repS (x:Str) (n:Int):Str:=if n < 1 then Str.empty else if (n == 1 || x.length == 0)=true then x else ⟨(List.replicate n.toNat x.cps).foldl (· ++ ·) #[]⟩
abbrev rMulS:R2:=fun x y H Q=>∃ a n,x=.str a∧y=.int n∧(n < 1000000∧-1000000 < n∧a.length * n.toNat≤1000000)∧Q (.str (repS a n)) H
section
variable {X:Cx}
end
theorem len_app (x y:Str):(x ++ y).length=x.length + y.length:=Str.length_append x y
end L2
namespace L2
open PySem PySem.Spec PyProof.Rows
section
open PySem.NumText
end
end L2
namespace L2
open PySem PySem.Spec PyProof.Rows
section
variable {X:Cx}
abbrev cIntB:RC:=fun xs H Q=>∃ b:Bool,xs=[.bl b]∧Q (.int (if b then 1 else 0)) H
end
theorem hu64 {k:Nat} {A:Around} (r:Room k A):A.units + 64 < cLine:=by have:=r.un;omega
def datV:V→PyData
  | .non=>.none
  | .bl b=>.bool b
  | .int i=>.int i
  | .str x=>.str x
  | _=>.none
def isFlat:V→Bool
  | .non=>true
  | .bl _=>true
  | .int _=>true
  | .str x=>PyData.strOk x
  | _=>false
theorem Asc.flat {x:Str} (h:Asc x):isFlat (.str x)=true:=by
  unfold isFlat PyData.strOk
  rw [Array.all_eq_true]
  intro i hi
  have:=h x.cps[i] (by simp)
  exact decide_eq_true (by omega)
def mixV:V→V→Bool
  | .bl _,.int _=>false
  | .int _,.bl _=>false
  | _,_=>true
def mixAll:List V→List V→Bool
  | x :: xs,y :: ys=>mixV x y && mixAll xs ys
  | _,_=>true
theorem carried_of:∀ {xs:List V} {us:List Value},xs.all isFlat=true→Vals xs us→CarriedAll us (xs.map datV)
  | [],_,_,.nil=>.nil
  | x :: r,_,h,.cons rx t=>by
    rw [List.all_cons,Bool.and_eq_true] at h
    refine .cons ?_ (carried_of h.2 t)
    cases x with
    | non=>cases rx;exact .none
    | bl b=>cases rx;exact .bool b
    | int i=>obtain ⟨t,rfl⟩:=rx;exact .int i t
    | str x=>obtain ⟨t,rfl⟩:=rx;exact .str x t
    | byt b=>exact absurd h.1 (by simp [isFlat])
    | flt b=>exact absurd h.1 (by simp [isFlat])
    | ref a=>exact absurd h.1 (by simp [isFlat])
    | ty n=>exact absurd h.1 (by simp [isFlat])
theorem same_dat {x y:V} (hx:isFlat x=true) (hy:isFlat y=true):PySem.Spec.same (datV x) (datV y)=decide (x=y):=by
  cases x <;> cases y <;> simp_all [isFlat,datV,PySem.Spec.same] <;> (rename_i a b;by_cases e:a=b <;> simp [e])
theorem sameAll_dat:∀ {xs ys:List V},xs.all isFlat=true→ys.all isFlat=true→PySem.Spec.sameAll (xs.map datV) (ys.map datV)=decide (xs=ys)
  | [],[],_,_=>by simp [PySem.Spec.sameAll]
  | [],_ :: _,_,_=>by simp [PySem.Spec.sameAll]
  | _ :: _,[],_,_=>by simp [PySem.Spec.sameAll]
  | x :: r,y :: t,hx,hy=>by
    rw [List.all_cons,Bool.and_eq_true] at hx hy
    rw [List.map_cons,List.map_cons,PySem.Spec.sameAll,same_dat hx.1 hy.1,sameAll_dat hx.2 hy.2]
    by_cases a:x=y <;> by_cases b:r=t <;> simp [a,b]
theorem noMix_dat {x y:V} (hx:isFlat x=true) (hy:isFlat y=true) (h:mixV x y=true):SeqAt.noMix (datV x) (datV y)=true:=by
  cases x <;> cases y <;> simp_all [isFlat,datV,SeqAt.noMix,mixV]
theorem noMixAll_dat:∀ {xs ys:List V},xs.all isFlat=true→ys.all isFlat=true→mixAll xs ys=true→SeqAt.noMixAll (xs.map datV) (ys.map datV)=true
  | [],[],_,_,_=>by simp [SeqAt.noMixAll]
  | [],_ :: _,_,_,_=>by simp [SeqAt.noMixAll]
  | _ :: _,[],_,_,_=>by simp [SeqAt.noMixAll]
  | x :: r,y :: t,hx,hy,h=>by
    rw [List.all_cons,Bool.and_eq_true] at hx hy
    rw [mixAll,Bool.and_eq_true] at h
    rw [List.map_cons,List.map_cons,SeqAt.noMixAll,noMix_dat hx.1 hy.1 h.1,noMixAll_dat hx.2 hy.2 h.2]
    rfl
theorem shaped_dat {xs:List V} (h:xs.all isFlat=true):SeqAt.shaped (.list (xs.map datV))=true∧SeqAt.shaped (.tuple (xs.map datV))=true:=by
  have a:∀ x,isFlat x=true→(datV x).canLay0=true∧(datV x).depth=0:=fun x=>by cases x <;> simp [datV,PyData.canLay0,PyData.depth,isFlat]
  have l:∀ ys:List V,ys.all isFlat=true→PyData.canLayAll0 (ys.map datV)=true∧PyData.depthAll (ys.map datV)=0:=by
    intro ys
    induction ys with
    | nil=>exact fun _=>⟨rfl,rfl⟩
    | cons y r ih =>
      intro h
      rw [List.all_cons,Bool.and_eq_true] at h
      exact ⟨by rw [List.map_cons,PyData.canLayAll0,(a y h.1).1,(ih h.2).1];rfl,by rw [List.map_cons,PyData.depthAll,(a y h.1).2,(ih h.2).2];rfl⟩
  exact ⟨by simp [SeqAt.shaped,PyData.canLay0,PyData.depth,(l xs h).1,(l xs h).2],by simp [SeqAt.shaped,PyData.canLay0,PyData.depth,(l xs h).1,(l xs h).2]⟩
abbrev rEqL (K:PySem.W.Frag) (neg:Bool):R2:=fun x y H Q=>∃ a b xs ys,x=.ref a∧y=.ref b∧SqL K H a xs∧SqL K H b ys∧(xs.all isFlat=true∧ys.all isFlat=true∧mixAll xs ys=true)∧Q (.bl (if neg then !decide (xs=ys) else decide (xs=ys))) H
section
variable {X:Cx}
theorem op_neL (hu:X.A.units + 64 < cLine):OpR X (compareOp .NotEq) (rEqL X.K true):=by
  intro pins s σ H x y v u Q I rx ry h
  obtain ⟨a,b,xs,ys,rfl,rfl,ha,hb,⟨f1,f2,f3⟩,q⟩:=h
  cases rx
  cases ry
  obtain ⟨us,r1,p1,_⟩:=I.list ha
  obtain ⟨ws,r2,p2,_⟩:=I.list hb
  refine ne_dataH_same (reads_newData p1.isList (carried_of f1 r1)) (reads_newData p2.isList (carried_of f2 r2)) (shaped_dat f1).1 (shaped_dat f2).1 hu (by rw [SeqAt.noMix];exact noMixAll_dat f1 f2 f3) ?_
  rw [PySem.Spec.same,sameAll_dat f1 f2]
  exact ⟨.bl _,H,I,rfl,q⟩
abbrev rEqNil (K:PySem.W.Frag):R2:=fun x y H Q=>∃ a b xs,x=.ref a∧y=.ref b∧SqL K H a xs∧SqL K H b []∧Q (.bl (decide (xs=[]))) H
end
end L2
namespace L2
open PySem PySem.Spec PyProof.Rows
abbrev r_mt_append:RM:=rAppend
abbrev r_mt_pop:RM:=rPop
def jw:List V:=[.str "plus",.str "minus",.str "times",.str "over",.str "rest",.str "under",.str "same"]
def isJ (v:V):Bool:=inV v jw
inductive Er where
  | nought | great | stuck
  deriving DecidableEq
def comeV (w:Str) (a b:Int):Int :=
  if w="plus" then a + b else if w="minus" then a - b else if w="times" then a * b else if w="under" then (if a < b then 1 else 0) else if w="same" then (if a=b then 1 else 0) else if w="over" then a.fdiv b else a.fmod b
def isDiv (w:Str):Prop:=¬ w="plus"∧¬ w="minus"∧¬ w="times"∧¬ w="under"∧¬ w="same"
instance (w:Str):Decidable (isDiv w):=by unfold isDiv;infer_instance
def joinE (w:Str) (a b:Int):Except Er Int:=if isDiv w∧b=0 then .error .nought else if inW (comeV w a b)=true then .ok (comeV w a b) else .error .great
def wrth (kvs:List (Key × V)):V→Int
  | .int i=>i
  | .str x=>(match valV kvs (.inr x) with | some (.int i)=>i | _=>0)
  | _=>0
def stepE (kvs:List (Key × V)) (st:List Int) (v:V):Except Er (List Int) :=
  if isJ v=true then (match v,st.reverse with | .str w,b :: a :: r=>(match joinE w a b with | .ok c=>.ok (r.reverse ++ [c]) | .error e=>.error e) | _,_=>.error .stuck) else .ok (st ++ [wrth kvs v])
def runE (kvs:List (Key × V)):List V→List Int→Except Er (List Int)
  | [],st=>.ok st
  | v :: r,st=>match stepE kvs st v with | .ok st'=>runE kvs r st' | .error e=>.error e
section
variable {kvs:List (Key × V)}
def Good (kvs:List (Key × V)) (ps:List V) (r:Except Er Int):Prop:=(∀ st,runE kvs ps st=match r with | .ok i=>.ok (st ++ [i]) | .error e=>.error e)∧r≠.error .stuck
end
def okPart (v:V):Prop:=(∃ i,v=.int i∧inW i=true)∨∃ x:Str,v=.str x∧x.length≤1000
def SlotsOk (kvs:List (Key × V)):Prop:=∀ k v,valV kvs k=some v→∃ i,v=.int i∧inW i=true
theorem wrth_inW {kvs:List (Key × V)} (h:SlotsOk kvs) {v:V} (hv:okPart v):inW (wrth kvs v)=true:=by
  rcases hv with ⟨i,rfl,hi⟩ | ⟨x,rfl,_⟩
  · exact hi
  · show inW (match valV kvs (.inr x) with | some (.int i)=>i | _=>0)=true
    cases e:valV kvs (.inr x) with
    | none=>rfl
    | some u =>
      obtain ⟨i,rfl,hi⟩:=h _ _ e
      exact hi
theorem inW_iff {i:Int}:inW i=true↔-1000000000000000000000000000000≤i∧i≤1000000000000000000000000000000:=by unfold inW;rw [decide_eq_true_eq]
end L2
namespace L2
open PySem PySem.Spec PyProof.Rows
def Itv (K:PySem.W.Frag) (a:Addr) (xs:List V):It:=⟨fun i H=>i < xs.length∧SqL K H a xs,fun i H x H'=>H'=H∧xs[xs.length - 1 - i]?=some x,fun i _=>xs.length≤i⟩
def iRev (K:PySem.W.Frag) (ta:TA):TI:=fun σ H R=>ta σ H fun vs H1=>∃ a xs,vs=[.ref a]∧SqL K H1 a xs∧R (Itv K a xs) H1
section
variable {X:Cx} {tg:Expr}
end
section
variable {σ:St} {H:Hp} {nx:St→Hp→Prop} {B:V→St→Hp→(St→Hp→Prop)→Prop}
end
end L2
namespace L2
open PySem PySem.Spec PyProof.Rows
abbrev cLst (K:PySem.W.Frag):RC:=fun xs H Q=>∃ p ys,xs=[.ref p]∧(SqL K H p ys∨SqT K H p ys)∧∀ l,H l=none→Q (.ref l) (upd H l (.lst ys))
abbrev cMin:RC:=fun xs H Q=>∃ i j,xs=[.int i,.int j]∧Q (.int (if j < i then j else i)) H
def inL (c:Nat):Bool:=!(Builtin.Str.occurrences "abcdefghijklmnopqrstuvwxyz" ⟨#[c]⟩ 0 (Str.length "abcdefghijklmnopqrstuvwxyz") 1).isEmpty
def wl:List V:=[.str "take",.str "give",.str "let",.str "say",.str "off",.str "if",.str "else",.str "end",.str "as"]
def isName (x:Str):Bool:=!(decide (x="") || decide (6 < x.length)) && !(inV (.str x) jw || inV (.str x) wl) && x.cps.toList.all inL
theorem inL_iff (c:Nat):inL c=true→97≤c∧c≤122:=by
  unfold inL
  rw [StrLaws.found_one]
  have e:(Str.ofString "abcdefghijklmnopqrstuvwxyz").cps.toList=[97,98,99,100,101,102,103,104,105,106,107,108,109,110,111,112,113,114,115,116,117,118,119,120,121,122]:=by decide +kernel
  rw [e]
  simp only [decide_eq_true_eq,List.mem_cons,List.not_mem_nil,or_false]
  omega
theorem isName_parts {x:Str} (h:isName x=true):x.cps.toList≠[]∧x.length≤6∧isJ (.str x)=false∧x.cps.toList.all inL=true:=by
  unfold isName at h
  rw [Bool.and_eq_true,Bool.and_eq_true,Bool.not_eq_true',Bool.not_eq_true',Bool.or_eq_false_iff,Bool.or_eq_false_iff,decide_eq_false_iff_not,decide_eq_false_iff_not] at h
  refine ⟨fun z=>h.1.1.1 (str_ext (by rw [z];decide +kernel)),by omega,h.1.2.1,h.2⟩
def partW (w:Str):Option V:=if isName w=true then some (.str w) else if isNum w=true then some (.int (valOf w)) else none
inductive Tw where
  | leaf (w:Str) | node (w:Str) (a b:Tw)
def pre:Tw→List Str
  | .leaf w=>[w]
  | .node w a b=>w :: (pre a ++ pre b)
def wfT:Tw→Prop
  | .leaf w=>isJ (.str w)=false
  | .node w a b=>isJ (.str w)=true∧wfT a∧wfT b
def okT:Tw→Bool
  | .leaf w=>(partW w).isSome
  | .node _ a b=>okT a && okT b
def pvw (w:Str):V:=(partW w).getD (.str w)
def pst:Tw→List V
  | .leaf w=>[pvw w]
  | .node w a b=>pst a ++ pst b ++ [.str w]
def scanE:List Str→Nat→Option Nat
  | _,0=>some 0
  | [],_ + 1=>none
  | w :: r,d + 1=>(scanE r (if isJ (.str w)=true then d + 2 else d)).map (· + 1)
def stepR (st:List (List V)) (w:Str):Except Bool (List (List V)) :=
  if isJ (.str w)=true then (match st.reverse with | a :: b :: r=>.ok (r.reverse ++ [a ++ b ++ [.str w]]) | _=>.error false) else (match partW w with | some v=>.ok (st ++ [[v]]) | none=>.error true)
def runR:List Str→List (List V)→Except Bool (List (List V))
  | [],st=>.ok st
  | w :: r,st=>match stepR st w with | .ok st'=>runR r st' | .error e=>.error e
theorem runR_app:∀ (p q:List Str) (st:List (List V)),runR (p ++ q) st=match runR p st with | .ok st'=>runR q st' | .error e=>.error e
  | [],q,st=>rfl
  | v :: r,q,st=>by
    show (match stepR st v with | .ok st'=>runR (r ++ q) st' | .error e=>.error e)=match (match stepR st v with | .ok st'=>runR r st' | .error e=>.error e) with | .ok st'=>runR q st' | .error e=>.error e
    cases stepR st v with
    | error e=>rfl
    | ok st'=>exact runR_app r q st'
end L2
namespace L2
open PySem PySem.Spec PyProof.Rows
abbrev cDct:RC:=fun xs H Q=>∃ a kvs,xs=[.ref a]∧H a=some (.dK kvs)∧∀ p,H p=none→Q (.ref p) (upd H p (.dK kvs))
abbrev rNeD:R2:=fun x y H Q=>∃ a b kvs,x=.ref a∧y=.ref b∧H a=some (.dK kvs)∧H b=some (.dK kvs)∧(∀ p∈kvs,∃ i,p.2=V.int i)∧Q (.bl false) H
section
variable {X:Cx}
end
theorem name_asc {x:Str} (h:isName x=true):Asc x:=fun c hc=>by
  have:=inL_iff c (List.all_eq_true.mp (isName_parts h).2.2.2 c hc)
  omega
end L2
namespace L2
open PySem PySem.Spec PyProof.Rows
section
variable {P:Program} {w:World} {A:Around} {E:Value→Shared→Prop} {s:Shared}
end
section
variable {P:Program} {w:World} {A:Around} {E:Value→Shared→Prop} {s:Shared}
end
section
variable {P:Program} {w:World} {A:Around} {E:Value→Shared→Prop} {s:Shared}
end
theorem Inv.turnedL {X:Cx} {pins:List (Addr × Obj)} {σ:St} {H:Hp} {s:Shared} {h':Heap} {t':Nat} {ch:List Addr} (I:Inv X pins σ H s) (k:∀ b o,b ∉ ch→s.heap.get? b=some o→h'.get? b=some o) (hf:∀ b∈ch,FpOk X pins H b) :
    Inv X pins σ H { s with heap:=h',toks:=t' }:=by
  have nit:∀ b u,H b=some u→b ∉ ch:=fun b u e z=>by rw [(hf b z).1] at e;cases e
  refine I.step (g':=s.gens) (d':=s.drawn) (ch:=ch) (fun b hb=>?_) (fun b o _ _ hc e _=>k b o hc e) (fun b o _ _ hc e _=>⟨o.slots,k b o hc e⟩) (fun _ _ _ _ n=>n) (fun b o hc e=>⟨o,k b o hc e⟩) (fun _ _ e=>e) (fun _ _ _ e=>e) (fun b ps e=>⟨#[],by rw [e];simp⟩) (fun m hm=>?_) (fun b u e=>?_) I.bare
  · obtain ⟨f0,f1,f2,f3,f4,f5⟩:=hf b hb
    exact ⟨f3,f1,f4,f5⟩
  · obtain ⟨o,es,ep,ho,r⟩:=hm
    exact ⟨o,es,ep,k _ o (fun z=>(hf _ z).2.1 rfl) ho,r⟩
  · refine (I.hok b u e).stay (fun c v hc q=>k c v ?_ q) (fun _ q=>q) fun _ _ q=>q
    rcases hc with z | z
    · rw [z];exact nit b u e
    · exact nit c _ z
def Itz (K:PySem.W.Frag) (p q:Addr) (xs ys:List V):It:=⟨fun i H=>i < xs.length∧SqT K H p xs∧SqT K H q ys,fun i H x H'=>∃ T u v,x=.ref T∧H T=none∧H'=upd H T (.tup [u,v])∧xs[i]?=some u∧ys[i]?=some v,fun i H=>xs.length≤i∧SqT K H p xs∧SqT K H q ys⟩
def iZip (K:PySem.W.Frag) (ta:TA):TI:=fun σ H R=>ta σ H fun vs H1=>∃ p q xs ys,vs=[.ref p,.ref q]∧SqT K H1 p xs∧SqT K H1 q ys∧xs.length=ys.length∧R (Itz K p q xs ys) H1
section
variable {X:Cx}
end
section
variable {σ:St} {H:Hp} {nx:St→Hp→Prop} {B:V→St→Hp→(St→Hp→Prop)→Prop}
end
abbrev cTup (K:PySem.W.Frag):RC:=fun xs H Q=>∃ p ys,xs=[.ref p]∧((SqL K H p ys∧∀ l,H l=none→Q (.ref l) (upd H l (.tup ys)))∨(SqT K H p ys∧Q (.ref p) H))
def stepA (st:List (List V)) (v:V):Option (List (List V)):=if isJ v=true then (match st.reverse with | b :: a :: r=>some (r.reverse ++ [v :: (a ++ b)]) | _=>none) else some (st ++ [[v]])
def runA:List V→List (List V)→Option (List (List V))
  | [],st=>some st
  | v :: r,st=>(stepA st v).bind (runA r)
theorem runA_app:∀ (p q:List V) (st:List (List V)),runA (p ++ q) st=(runA p st).bind (runA q)
  | [],q,st=>rfl
  | v :: r,q,st=>by
    show (stepA st v).bind (runA (r ++ q))=((stepA st v).bind (runA r)).bind (runA q)
    cases stepA st v with
    | none=>rfl
    | some st'=>exact runA_app r q st'
end L2
namespace L2
open PySem PySem.W PyProof.Rows
section
variable {α β:Type} {lt:Nat→Nat→Bool} {n:Nat}
def kOk (lt:Nat→Nat→Bool) (n:Nat):KasT α→(α→Prop)→Prop
  | .ret a,R=>R a
  | .ask i j k,R=>i < n∧j < n∧i≠j∧kOk lt n (k (lt i j)) R
theorem kOk_bind:∀ {t:KasT α} {f:α→KasT β} {R:β→Prop},kOk lt n t (fun a=>kOk lt n (f a) R)→kOk lt n (t.bind f) R
  | .ret _,_,_,h=>h
  | .ask _ _ _,_,_,h=>⟨h.1,h.2.1,h.2.2.1,kOk_bind h.2.2.2⟩
theorem kOk_mono:∀ {t:KasT α} {R R':α→Prop},kOk lt n t R→(∀ a,R a→R' a)→kOk lt n t R'
  | .ret _,_,_,h,m=>m _ h
  | .ask _ _ _,_,_,h,m=>⟨h.1,h.2.1,h.2.2.1,kOk_mono h.2.2.2 m⟩
structure SO (lt:Nat→Nat→Bool) (n:Nat):Prop where
  irr:∀ i,i < n→lt i i=false
  trans:∀ i j k,i < n→j < n→k < n→lt i j=true→lt j k=true→lt i k=true
  tot:∀ i j,i < n→j < n→i≠j→lt i j=false→lt j i=true
def PP (n:Nat) (p:Array Nat):Prop:=p.Perm (List.range n).toArray
def gt (p:Array Nat) (k:Nat):Nat:=p.getD k 0
theorem gt_eq {p:Array Nat} {k:Nat} (h:k < p.size):p[k]?=some (gt p k):=by
  unfold gt
  rw [Array.getD_eq_getD_getElem?,Array.getElem?_eq_getElem h]
  rfl
theorem PP.size {p:Array Nat} (h:PP n p):p.size=n:=by
  have:=h.size_eq
  simpa using this
theorem PP.blt {p:Array Nat} (h:PP n p) {k:Nat} (hk:k < n):gt p k < n:=by
  have hs:=h.size
  have m:gt p k∈p:=Array.mem_of_getElem? (gt_eq (by omega))
  have m2:gt p k∈(List.range n).toArray:=(Array.Perm.mem_iff h).mp m
  simpa using m2
theorem PP.inj {p:Array Nat} (h:PP n p) {i j:Nat} (hi:i < n) (hj:j < n) (e:gt p i=gt p j):i=j:=by
  have hs:=h.size
  have nd:p.toList.Nodup:=by
    have:p.toList.Perm (List.range n):=by
      have:=Array.perm_iff_toList_perm.mp h
      simpa using this
    exact this.nodup_iff.mpr List.nodup_range
  have e1:=gt_eq (p:=p) (k:=i) (by omega)
  have e2:=gt_eq (p:=p) (k:=j) (by omega)
  rw [← e] at e2
  have e1':p.toList[i]?=some (gt p i):=by simpa using e1
  have e2':p.toList[j]?=some (gt p i):=by simpa using e2
  obtain ⟨a1,b1⟩:=List.getElem?_eq_some_iff.mp e1'
  obtain ⟨a2,b2⟩:=List.getElem?_eq_some_iff.mp e2'
  exact (List.getElem_inj nd).mp (b1.trans b2.symm)
def Rise (lt:Nat→Nat→Bool) (p:Array Nat) (m:Nat):Prop:=∀ i j,i < j→j < m→lt (gt p i) (gt p j)=true
def Fall (lt:Nat→Nat→Bool) (p:Array Nat) (m:Nat):Prop:=∀ i j,i < j→j < m→lt (gt p j) (gt p i)=true
theorem asc_ok (S:SO lt n) {p:Array Nat} (hp:PP n p):∀ (f a:Nat),1≤a→a + f≤n→Rise lt p a→kOk lt n (kas_asc p f a) fun m=>a≤m∧m≤a + f∧Rise lt p m∧(m < a + f→lt (gt p m) (gt p (m - 1))=true)
  | 0,a,h1,h2,hr=>⟨Nat.le_refl _,Nat.le_refl _,hr,fun z=>absurd z (Nat.lt_irrefl _)⟩
  | f + 1,a,h1,h2,hr=>by
    refine ⟨hp.blt (by omega),hp.blt (by omega),(fun z=>by have:=hp.inj (by omega) (by omega) z;omega),?_⟩
    show kOk lt n (if lt (gt p a) (gt p (a - 1))=true then .ret a else kas_asc p f (a + 1)) _
    by_cases c:lt (gt p a) (gt p (a - 1))=true
    · rw [if_pos c]
      exact ⟨Nat.le_refl _,by omega,hr,fun _=>c⟩
    · rw [if_neg c]
      have up:lt (gt p (a - 1)) (gt p a)=true:=S.tot _ _ (hp.blt (by omega)) (hp.blt (by omega)) (fun z=>by have:=hp.inj (by omega) (by omega) z;omega) (Bool.eq_false_iff.mpr c)
      refine kOk_mono (asc_ok S hp f (a + 1) (by omega) (by omega) fun i j hij hj=>?_) fun m ⟨x1,x2,x3,x4⟩=>⟨by omega,by omega,x3,fun z=>x4 (by omega)⟩
      by_cases hja:j < a
      · exact hr i j hij hja
      · obtain rfl:j=a:=by omega
        by_cases hi:i=j - 1
        · rw [hi];exact up
        · exact S.trans _ _ _ (hp.blt (by omega)) (hp.blt (by omega)) (hp.blt (by omega)) (hr i (j - 1) (by omega) (by omega)) up
theorem desc_ok (S:SO lt n) {p:Array Nat} (hp:PP n p):∀ (f a:Nat),1≤a→a + f≤n→Fall lt p a→kOk lt n (kas_desc f p a 0) fun r=>r.1=p∧r.2.2=0∧a≤r.2.1∧r.2.1≤a + f∧Fall lt p r.2.1
  | 0,a,h1,h2,hr=>⟨rfl,rfl,Nat.le_refl _,Nat.le_refl _,hr⟩
  | f + 1,a,h1,h2,hr=>by
    refine ⟨hp.blt (by omega),hp.blt (by omega),(fun z=>by have:=hp.inj (by omega) (by omega) z;omega),?_⟩
    show kOk lt n (if lt (gt p a) (gt p (a - 1))=true then (if 0 > 0 then _ else kas_desc f p (a + 1) 0) else .ask (gt p (a - 1)) (gt p a) fun d=>if d=true then .ret (p,a,0) else kas_desc f p (a + 1) (0 + 1)) _
    by_cases c:lt (gt p a) (gt p (a - 1))=true
    · rw [if_pos c,if_neg (by omega)]
      refine kOk_mono (desc_ok S hp f (a + 1) (by omega) (by omega) fun i j hij hj=>?_) fun m ⟨x1,x2,x3,x4,x5⟩=>⟨x1,x2,by omega,by omega,x5⟩
      by_cases hja:j < a
      · exact hr i j hij hja
      · obtain rfl:j=a:=by omega
        by_cases hi:i=j - 1
        · rw [hi];exact c
        · exact S.trans _ _ _ (hp.blt (by omega)) (hp.blt (by omega)) (hp.blt (by omega)) c (hr i (j - 1) (by omega) (by omega))
    · rw [if_neg c]
      have up:lt (gt p (a - 1)) (gt p a)=true:=S.tot _ _ (hp.blt (by omega)) (hp.blt (by omega)) (fun z=>by have:=hp.inj (by omega) (by omega) z;omega) (Bool.eq_false_iff.mpr c)
      refine ⟨hp.blt (by omega),hp.blt (by omega),(fun z=>by have:=hp.inj (by omega) (by omega) z;omega),?_⟩
      show kOk lt n (if lt (gt p (a - 1)) (gt p a)=true then .ret (p,a,0) else _) _
      rw [if_pos up]
      exact ⟨rfl,rfl,Nat.le_refl _,Nat.le_add_right _ _,hr⟩
theorem rev_gt {p:Array Nat} {m k:Nat} (hm:m≤p.size) (hk:k < m):gt (kas_rev p 0 m) k=gt p (m - 1 - k):=by
  have e:=getElem?_mirror_all (xs:=p) (i:=0) (j:=m) hm k
  rw [if_pos ⟨Nat.zero_le _,hk⟩] at e
  have e1:=gt_eq (p:=kas_rev p 0 m) (k:=k) (by unfold kas_rev;rw [mirror_size];omega)
  have e2:=gt_eq (p:=p) (k:=m - 1 - k) (by omega)
  unfold kas_rev at e1 ⊢
  rw [e,show 0 + m - 1 - k=m - 1 - k by omega,e2] at e1
  exact (Option.some.inj e1).symm
theorem PP.rev {p:Array Nat} (h:PP n p) (m:Nat):PP n (kas_rev p 0 m):=Array.Perm.trans (mirror_perm _ _ _ _) h
theorem tail_ok (S:SO lt n) {p:Array Nat} (hp:PP n p) {m:Nat} (h1:1≤m) (h2:m≤n) (hf:Fall lt p m):kOk lt n (kas_tail3 m n p) fun r=>PP n r.2∧Rise lt r.2 r.1∧1≤r.1∧r.1≤n:=by
  refine kOk_bind (kOk_mono (asc_ok S (hp.rev m) (n - m) m h1 (by omega) fun i j hij hj=>?_) fun a ⟨x1,x2,x3,_⟩=>⟨hp.rev m,x3,by omega,by omega⟩)
  have hs:=hp.size
  rw [rev_gt (by omega) (by omega),rev_gt (by omega) hj]
  exact hf _ _ (by omega) (by omega)
theorem count_ok (S:SO lt n) {p:Array Nat} (hp:PP n p) (hn:1≤n):kOk lt n (kas_count n p) fun r=>PP n r.2∧Rise lt r.2 r.1∧1≤r.1∧r.1≤n:=by
  refine kOk_bind (kOk_mono (asc_ok S hp (n - 1) 1 (Nat.le_refl _) (by omega) fun i j hij hj=>by omega) fun m ⟨x1,x2,x3,x4⟩=>?_)
  by_cases e:(m == n)=true
  · rw [if_pos e]
    exact ⟨hp,x3,x1,by omega⟩
  · rw [if_neg e]
    have ne:m≠n:=by simpa using e
    by_cases h:m > 1
    · rw [if_pos h]
      refine ⟨hp.blt (by omega),hp.blt (by omega),(fun z=>by have:=hp.inj (by omega) (by omega) z;omega),?_⟩
      show kOk lt n (if lt (gt p 0) (gt p (m - 1))=true then .ret (m,p) else _) _
      rw [if_pos (x3 0 (m - 1) (by omega) (by omega))]
      exact ⟨hp,x3,x1,by omega⟩
    · rw [if_neg h]
      obtain rfl:m=1:=by omega
      have c:=x4 (by omega)
      refine kOk_bind (kOk_mono (desc_ok S hp (n - 2) 2 (by omega) (by omega) fun i j hij hj=>?_) fun r ⟨y1,y2,y3,y4,y5⟩=>?_)
      · obtain rfl:j=1:=by omega
        obtain rfl:i=0:=by omega
        exact c
      · rw [if_neg (by omega),y1]
        exact tail_ok S hp (by omega) (by omega) y5
theorem place_ok (S:SO lt n) {p:Array Nat} (hp:PP n p) {k:Nat} (hk:k < n) (hr:Rise lt p k):∀ (f l r:Nat),l≤r→r≤k→r - l≤f→(∀ i,i < l→lt (gt p i) (gt p k)=true)→(∀ i,r≤i→i < k→lt (gt p k) (gt p i)=true) →
    kOk lt n (kas_place p k f l r) fun m=>m≤k∧(∀ i,i < m→lt (gt p i) (gt p k)=true)∧∀ i,m≤i→i < k→lt (gt p k) (gt p i)=true
  | 0,l,r,h1,h2,h3,h4,h5=>⟨by omega,h4,fun i hi hik=>h5 i (by omega) hik⟩
  | f + 1,l,r,h1,h2,h3,h4,h5=>by
    unfold kas_place
    by_cases c:l ≥ r
    · rw [if_pos c]
      exact ⟨by omega,h4,fun i hi hik=>h5 i (by omega) hik⟩
    · rw [if_neg c]
      refine ⟨hp.blt (by omega),hp.blt (by omega),(fun z=>by have:=hp.inj (by omega) (by omega) z;omega),?_⟩
      show kOk lt n (if lt (gt p k) (gt p ((l + r) / 2))=true then _ else _) _
      by_cases d:lt (gt p k) (gt p ((l + r) / 2))=true
      · rw [if_pos d]
        refine place_ok S hp hk hr f l ((l + r) / 2) (by omega) (by omega) (by omega) h4 fun i hi hik=>?_
        by_cases e:i=(l + r) / 2
        · rw [e];exact d
        · exact S.trans _ _ _ (hp.blt (by omega)) (hp.blt (by omega)) (hp.blt (by omega)) d (hr _ i (by omega) hik)
      · rw [if_neg d]
        have up:lt (gt p ((l + r) / 2)) (gt p k)=true:=S.tot _ _ (hp.blt (by omega)) (hp.blt (by omega)) (fun z=>by have:=hp.inj (by omega) (by omega) z;omega) (Bool.eq_false_iff.mpr d)
        refine place_ok S hp hk hr f ((l + r) / 2 + 1) r (by omega) (by omega) (by omega) (fun i hi=>?_) h5
        by_cases e:i=(l + r) / 2
        · rw [e];exact up
        · exact S.trans _ _ _ (hp.blt (by omega)) (hp.blt (by omega)) (hp.blt (by omega)) (hr i _ (by omega) (by omega)) up
theorem bub_gt {p:Array Nat} {k d j:Nat} (hk:k < p.size) (hd:d≤k) (hj:j < p.size):gt (bubble p k d) j=if j=k - d then gt p k else if k - d < j∧j≤k then gt p (j - 1) else gt p j:=by
  have e:=getElem?_bubble hk d hd j
  rw [gt_eq (p:=bubble p k d) (k:=j) (by rw [bubble_size];exact hj)] at e
  by_cases h1:j=k - d
  · rw [if_pos h1,gt_eq hk] at e
    rw [if_pos h1];exact Option.some.inj e
  · rw [if_neg h1] at e ⊢
    by_cases h2:k - d < j∧j≤k
    · rw [if_pos h2,gt_eq (by omega)] at e
      rw [if_pos h2];exact Option.some.inj e
    · rw [if_neg h2,gt_eq hj] at e
      rw [if_neg h2];exact Option.some.inj e
theorem bin_ok (S:SO lt n):∀ (f:Nat) {p:Array Nat} (k:Nat),PP n p→k + f=n→Rise lt p k→kOk lt n (kas_bin f p k) fun p'=>PP n p'∧Rise lt p' n
  | 0,p,k,hp,hk,hr=>⟨hp,by rw [← hk];exact hr⟩
  | f + 1,p,k,hp,hk,hr=>by
    have hs:=hp.size
    refine kOk_bind (kOk_mono (place_ok S hp (by omega) hr k 0 k (Nat.zero_le _) (Nat.le_refl _) (by omega) (fun i hi=>by omega) (fun i h1 h2=>by omega)) fun l ⟨x1,x2,x3⟩=>?_)
    refine bin_ok S f (k + 1) (Array.Perm.trans (bubble_perm _ _ _) hp) (by omega) fun i j hij hj=>?_
    rw [bub_gt (by omega) (by omega) (by omega),bub_gt (by omega) (by omega) (by omega)]
    have e:k - (k - l)=l:=by omega
    rw [e]
    by_cases hi:i=l
    · rw [if_pos hi,if_neg (by omega),if_pos (by omega)]
      exact x3 _ (by omega) (by omega)
    · rw [if_neg hi]
      by_cases hi2:l < i∧i≤k
      · rw [if_pos hi2,if_neg (by omega),if_pos (by omega)]
        exact hr _ _ (by omega) (by omega)
      · rw [if_neg hi2]
        by_cases hj1:j=l
        · rw [if_pos hj1]
          exact x2 _ (by omega)
        · rw [if_neg hj1]
          by_cases hj2:l < j∧j≤k
          · rw [if_pos hj2]
            by_cases hij2:i < j - 1
            · exact hr _ _ hij2 (by omega)
            · omega
          · rw [if_neg hj2]
            exact hr _ _ hij (by omega)
theorem sort_ok (S:SO lt n) (hn:1≤n):kOk lt n (kas_sort n) fun p=>PP n p∧Rise lt p n:=by
  refine kOk_bind (kOk_mono (count_ok S (p:=List.toArray (List.range n)) (Array.Perm.refl _) hn) fun r ⟨x1,x2,x3,x4⟩=>?_)
  by_cases h:r.1 < n
  · rw [if_pos h,Nat.max_eq_left x3]
    exact bin_ok S _ _ x1 (by omega) x2
  · rw [if_neg h]
    obtain e:r.1=n:=by omega
    exact ⟨x1,by rw [← e];rw [e] at x2 ⊢;exact x2⟩
end
end L2
namespace L2
open PySem PySem.W PyProof.Rows
theorem kOk_at {α:Type} {lt:Nat→Nat→Bool} {n:Nat} {s:Shared} {cmp:Nat→Nat→(Bool→Shared→Prop)→Shared→Prop} (hc:∀ i j C,i < n→j < n→i≠j→C (lt i j) s→cmp i j C s):∀ {t:KasT α} {R:α→Prop} {Q:α→Shared→Prop},kOk lt n t R→(∀ a,R a→Q a s)→t.kasWp cmp Q s
  | .ret _,_,_,h,m=>m _ h
  | .ask _ _ _,_,_,h,m=>hc _ _ _ h.1 h.2.1 h.2.2.1 (kOk_at hc h.2.2.2 m)
def Kp (a:Addr) (h h':Heap):Prop:=∀ b o,b≠a→h.get? b=some o→h'.get? b=some o
def outOf (vs:List Value) (p:Array Nat):List Value:=p.toList.map fun i=>vs.getD i Value.none
theorem outOf_range (vs:List Value):outOf vs (List.toArray (List.range vs.length))=vs:=by
  unfold outOf
  apply List.ext_getElem?
  intro i
  simp only [List.getElem?_map]
  by_cases h:i < vs.length
  · rw [List.getElem?_eq_getElem (l:=vs) h]
    simp [List.getElem?_range h,h]
  · rw [List.getElem?_eq_none (by omega:vs.length≤i)]
    simp
    omega
section
variable {P:Program} {w:World} {A:Around} {E:Value→Shared→Prop} {s:Shared}
theorem lsort_pure {a:Addr} {vs:List Value} {n:Nat} {κ:SortKind} {lt:Nat→Nat→Bool} {R:PySem.Fin→Shared→Prop} (ho:s.heap.get? a=some (seqObj "list" vs.toArray n)) (h64:vs.length < 64)
    (hk:2≤vs.length→∀ (h:Heap) (Q:SortKind→Shared→Prop),Kp a s.heap h→Q κ { s with heap:=h }→wpAny (model P w) A (keyKind' vs.toArray) Q (fun _ _=>False) { s with heap:=h })
    (hc:∀ (h:Heap) i j C,Kp a s.heap h→i < vs.length→j < vs.length→i≠j→C (lt i j) { s with heap:=h }→kas_ask P w A κ vs i j C { s with heap:=h }) (S:SO lt vs.length)
    (fin:∀ h p c,Kp a s.heap h→h.get? a=some (seqObj "list" (outOf vs p).toArray c)→PP vs.length p→Rise lt p vs.length→R (.done (.ret .none)) { s with heap:=h }) :
    wpAny (model P w) A (Builtin.«list.sort» ⟨[.ref a],[]⟩) R E s:=by
  have ha:a < s.heap.objs.size:=Heap.lt_size ho
  obtain ⟨e1,o1⟩:∃ e1,(s.heap.update a (Obj.mapSeq fun _=>(#[]:Array Value))).get? a=some (seqObj "list" #[] e1):=⟨_,get?_update_seq ho fun _=>#[]⟩
  have k1:Kp a s.heap (((s.heap.update a (Obj.mapSeq fun _=>(#[]:Array Value))).push (seqObj "tuple" vs.toArray 0)).push (seqObj "list" #[] 0)):=fun b o hb e =>
    Heap.get?_push_of_some _ (Heap.get?_push_of_some _ ((Heap.get?_update_other _ _ (Ne.symm hb)).trans e))
  have o3:(((s.heap.update a (Obj.mapSeq fun _=>(#[]:Array Value))).push (seqObj "tuple" vs.toArray 0)).push (seqObj "list" #[] 0)).get? a=some (seqObj "list" #[] e1):=Heap.get?_push_of_some _ (Heap.get?_push_of_some _ o1)
  have last:∀ out:List Value,out.length=vs.length→∃ c,((((s.heap.update a (Obj.mapSeq fun _=>(#[]:Array Value))).push (seqObj "tuple" vs.toArray 0)).push (seqObj "list" #[] 0)).update a (Obj.mapSeq fun _=>out.toArray)).get? a=some (seqObj "list" out.toArray c):=fun out _=>⟨_,get?_update_seq o3 fun _=>out.toArray⟩
  have keep2:∀ out:List Value,Kp a s.heap ((((s.heap.update a (Obj.mapSeq fun _=>(#[]:Array Value))).push (seqObj "tuple" vs.toArray 0)).push (seqObj "list" #[] 0)).update a (Obj.mapSeq fun _=>out.toArray)):=fun out b o hb e =>
    (Heap.get?_update_other _ _ (Ne.symm hb)).trans (k1 b o hb e)
  rw [list_sort_plain];refine wpAny_bind (listItems_at ho rfl ?_)
  refine wpAny_bind (listUpdate_at ho rfl ?_ (by rw [List.size_toArray,sizeLine_eq];omega) (Nat.zero_le _));refine wpAny_bind (seqEpoch_at o1 rfl ?_)
  refine wpAny_bind (wpAny_newTuple ?_ (by show vs.length≤_;rw [sizeLine_eq];omega));refine wpAny_bind (wpAny_newList ?_ (Nat.zero_le _));refine wpAny_holding ?_
  show wpAny (model P w) A _ R E { s with heap:=((s.heap.update a (Obj.mapSeq fun _=>(#[]:Array Value))).push (seqObj "tuple" vs.toArray 0)).push (seqObj "list" #[] 0) }
  generalize hH:((s.heap.update a (Obj.mapSeq fun _=>(#[]:Array Value))).push (seqObj "tuple" vs.toArray 0)).push (seqObj "list" #[] 0)=g at *
  dsimp only
  have up:∀ out:List Value,out.length=vs.length→∀ p,out=outOf vs p→PP vs.length p→Rise lt p vs.length→R (.done (.ret .none)) { s with heap:=g.update a (Obj.mapSeq fun _=>out.toArray) }:=fun out hl p e hp hr=>by
    obtain ⟨c,hcc⟩:=last out hl
    refine fin _ p c (keep2 out) ?_ hp hr
    rw [← e];exact hcc
  by_cases h2:vs.toArray.size < 2
  · have hl2:vs.length < 2:=by simpa using h2
    rw [if_pos h2,if_pos h2];refine wpAny_bind (wpAny_pure ?_);rw [StateT.run_pure];refine wpAny_bind (wpAny_pure ?_)
    dsimp only
    have ez:((vs.toArray.zip vs.toArray).map (·.2))=vs.toArray:=by
      apply Array.toList_inj.mp
      rw [Array.toList_map,Array.toList_zip]
      simp [List.map_snd_zip]
    refine wpAny_bind (seqEpoch_at o3 rfl ?_)
    rw [show (arrOf (SortSt.mk' general' (vs.toArray.zip vs.toArray) #[] 7 none))=vs.toArray.zip vs.toArray from rfl,ez]
    refine wpAny_bind (listUpdate_at o3 rfl ?_ (Nat.zero_le _) (by rw [List.size_toArray,sizeLine_eq];omega))
    simp only [bne_self_eq_false,Bool.false_eq_true,if_false]
    exact wpAny_pure (up vs rfl _ (outOf_range vs).symm (Array.Perm.refl _) fun i j hij hj=>by omega)
  · have hl2:2≤vs.length:=by simpa using h2
    rw [if_neg h2,if_neg h2];refine wpAny_bind (wpAny_mono (hk hl2 g (fun κ' s'=>κ'=κ∧s'={ s with heap:=g }) k1 ⟨rfl,rfl⟩) (fun κ' s' hs=>?_) fun _ _ x=>x.elim)
    obtain ⟨rfl,rfl⟩:=hs
    have run:=kOk_at (s:={ s with heap:=g }) (cmp:=kas_ask P w A κ' vs) (fun i j C hi hj hij hC=>hc g i j C k1 hi hj hij hC) (sort_ok S (by omega)) (Q:=fun p s'=>s'={ s with heap:=g }∧PP vs.length p∧Rise lt p vs.length) fun p hp=>⟨rfl,hp⟩
    refine wpAny_bind (wpAny_mono (kat_run (ks:=vs) (Q:=fun st s'=>∃ p:Array Nat,arrOf st=p.map (kas_item (vs.toArray.zip vs.toArray))∧failedOf st=none∧s'={ s with heap:=g }∧PP vs.length p∧Rise lt p vs.length) rfl hl2 h64 (fun p st s' _ a2 a3 a4=>⟨p,a2,a3,a4⟩) run) ?_ fun _ _ e=>e)
    rintro ⟨⟨⟩,st⟩ s' ⟨p,har,hf,rfl,hp,hr⟩
    dsimp only
    have out:=kat_snds (ks:=vs) rfl har
    have ol:(outOf vs p).length=vs.length:=by unfold outOf;rw [List.length_map,Array.length_toList,hp.size]
    rw [out];refine wpAny_bind (seqEpoch_at o3 rfl ?_)
    refine wpAny_bind (listUpdate_at o3 rfl ?_ (Nat.zero_le _) (by show (List.toArray (outOf vs p)).size≤_;rw [List.size_toArray,ol,sizeLine_eq];omega));rw [hf]
    simp only [bne_self_eq_false,Bool.false_eq_true,if_false]
    exact wpAny_pure (up (outOf vs p) ol p rfl hp hr)
end
end L2
namespace L2
open PySem PySem.W PyProof.Rows
section
variable {lt:Nat→Nat→Bool} {n:Nat}
theorem PP.rev2 {p:Array Nat} (h:PP n p) (i j:Nat):PP n (kas_rev p i j):=Array.Perm.trans (mirror_perm _ _ _ _) h
theorem PP.ask {p:Array Nat} (h:PP n p) {i j:Nat} (hi:i < n) (hj:j < n) (hij:i≠j):gt p i < n∧gt p j < n∧gt p i≠gt p j:=⟨h.blt hi,h.blt hj,fun z=>hij (h.inj hi hj z)⟩
theorem asc_any {p:Array Nat} (hp:PP n p):∀ (f a:Nat),1≤a→a + f≤n→kOk lt n (kas_asc p f a) fun m=>a≤m∧m≤a + f
  | 0,a,h1,h2=>⟨Nat.le_refl _,Nat.le_refl _⟩
  | f + 1,a,h1,h2=>by
    obtain ⟨x,y,z⟩:=hp.ask (i:=a) (j:=a - 1) (by omega) (by omega) (by omega)
    refine ⟨x,y,z,?_⟩
    show kOk lt n (if lt (gt p a) (gt p (a - 1))=true then .ret a else kas_asc p f (a + 1)) _
    split
    · exact ⟨Nat.le_refl _,by omega⟩
    · exact kOk_mono (asc_any hp f (a + 1) (by omega) (by omega)) fun m h=>⟨by omega,by omega⟩
theorem desc_any:∀ (f:Nat) {p:Array Nat} (a q:Nat),PP n p→1≤a→a + f≤n→kOk lt n (kas_desc f p a q) fun r=>PP n r.1∧a≤r.2.1∧r.2.1≤a + f
  | 0,p,a,q,hp,h1,h2=>⟨hp,Nat.le_refl _,Nat.le_refl _⟩
  | f + 1,p,a,q,hp,h1,h2=>by
    obtain ⟨x,y,z⟩:=hp.ask (i:=a) (j:=a - 1) (by omega) (by omega) (by omega)
    refine ⟨x,y,z,?_⟩
    show kOk lt n (if lt (gt p a) (gt p (a - 1))=true then (if q > 0 then kas_desc f (kas_rev p (a - (q + 1)) a) (a + 1) 0 else kas_desc f p (a + 1) 0) else .ask (gt p (a - 1)) (gt p a) fun d=>if d=true then .ret (p,a,q) else kas_desc f p (a + 1) (q + 1)) _
    split
    · split
      · exact kOk_mono (desc_any f (a + 1) 0 (hp.rev2 _ _) (by omega) (by omega)) fun m h=>⟨h.1,by omega,by omega⟩
      · exact kOk_mono (desc_any f (a + 1) 0 hp (by omega) (by omega)) fun m h=>⟨h.1,by omega,by omega⟩
    · refine ⟨y,x,Ne.symm z,?_⟩
      show kOk lt n (if lt (gt p (a - 1)) (gt p a)=true then .ret (p,a,q) else kas_desc f p (a + 1) (q + 1)) _
      split
      · exact ⟨hp,Nat.le_refl _,by show a≤a + (f + 1);omega⟩
      · exact kOk_mono (desc_any f (a + 1) (q + 1) hp (by omega) (by omega)) fun m h=>⟨h.1,by omega,by omega⟩
theorem tailPm {p:Array Nat} (hp:PP n p) {m:Nat} (h1:1≤m) (h2:m≤n):kOk lt n (kas_tail3 m n p) fun r=>PP n r.2∧1≤r.1∧r.1≤n :=
  kOk_bind (kOk_mono (asc_any (hp.rev2 0 m) (n - m) m h1 (by omega)) fun a h=>⟨hp.rev2 0 m,by omega,by omega⟩)
theorem part_any {p:Array Nat} (hp:PP n p) {m:Nat} (h1:1≤m) (h2:m + 1≤n):kOk lt n (kas_descPart m n p) fun r=>PP n r.2∧1≤r.1∧r.1≤n:=by
  refine kOk_bind (kOk_mono (desc_any (n - (m + 1)) (m + 1) 0 hp (by omega) (by omega)) fun r h=>?_)
  split
  · exact tailPm (h.1.rev2 _ _) (by omega) (by omega)
  · exact tailPm h.1 (by omega) (by omega)
theorem count_any {p:Array Nat} (hp:PP n p) (hn:1≤n):kOk lt n (kas_count n p) fun r=>PP n r.2∧1≤r.1∧r.1≤n:=by
  refine kOk_bind (kOk_mono (asc_any hp (n - 1) 1 (Nat.le_refl _) (by omega)) fun m ⟨x1,x2⟩=>?_)
  by_cases e:(m == n)=true
  · rw [if_pos e]
    exact ⟨hp,x1,by omega⟩
  · rw [if_neg e]
    have ne:m≠n:=by simpa using e
    by_cases h:m > 1
    · rw [if_pos h]
      obtain ⟨x,y,z⟩:=hp.ask (i:=0) (j:=m - 1) (by omega) (by omega) (by omega)
      refine ⟨x,y,z,?_⟩
      show kOk lt n (if lt (gt p 0) (gt p (m - 1))=true then .ret (m,p) else kas_descPart m n (kas_rev p 0 m)) _
      split
      · exact ⟨hp,x1,by omega⟩
      · exact part_any (hp.rev2 _ _) x1 (by omega)
    · rw [if_neg h]
      exact part_any hp x1 (by omega)
theorem place_any {p:Array Nat} (hp:PP n p) {k:Nat} (hk:k < n):∀ (f l r:Nat),l≤r→r≤k→kOk lt n (kas_place p k f l r) fun m=>m≤k
  | 0,l,r,h1,h2=>Nat.le_trans h1 h2
  | f + 1,l,r,h1,h2=>by
    unfold kas_place
    split
    · exact Nat.le_trans h1 h2
    · obtain ⟨x,y,z⟩:=hp.ask (i:=k) (j:=(l + r) / 2) (by omega) (by omega) (by omega)
      refine ⟨x,y,z,?_⟩
      show kOk lt n (if lt (gt p k) (gt p ((l + r) / 2))=true then kas_place p k f l ((l + r) / 2) else kas_place p k f ((l + r) / 2 + 1) r) _
      split
      · exact place_any hp hk f l _ (by omega) (by omega)
      · exact place_any hp hk f _ r (by omega) (by omega)
theorem bin_any:∀ (f:Nat) {p:Array Nat} (k:Nat),PP n p→k + f=n→kOk lt n (kas_bin f p k) (PP n)
  | 0,p,k,hp,hk=>hp
  | f + 1,p,k,hp,hk=>kOk_bind (kOk_mono (place_any hp (by omega) k 0 k (Nat.zero_le _) (Nat.le_refl _)) fun l _=>bin_any f (k + 1) (Array.Perm.trans (bubble_perm _ _ _) hp) (by omega))
theorem sort_perm (hn:1≤n):kOk lt n (kas_sort n) (PP n):=by
  refine kOk_bind (kOk_mono (count_any (p:=List.toArray (List.range n)) (Array.Perm.refl _) hn) fun r ⟨x1,x2,x3⟩=>?_)
  split
  · rw [Nat.max_eq_left x2]
    exact bin_any _ _ x1 (by omega)
  · exact x1
theorem sort_any (hn:1≤n):kOk lt n (kas_sort n) fun p=>PP n p∧(SO lt n→Rise lt p n):=by
  by_cases S:SO lt n
  · exact kOk_mono (sort_ok S hn) fun p h=>⟨h.1,fun _=>h.2⟩
  · exact kOk_mono (sort_perm hn) fun p h=>⟨h,fun z=>absurd z S⟩
end
section
variable {P:Program} {w:World} {A:Around} {E:Value→Shared→Prop} {s:Shared}
theorem lsort_any {a:Addr} {vs:List Value} {n:Nat} {κ:SortKind} {lt:Nat→Nat→Bool} {R:PySem.Fin→Shared→Prop} (ho:s.heap.get? a=some (seqObj "list" vs.toArray n)) (h64:vs.length < 64)
    (hk:2≤vs.length→∀ (h:Heap) (Q:SortKind→Shared→Prop),Kp a s.heap h→Q κ { s with heap:=h }→wpAny (model P w) A (keyKind' vs.toArray) Q (fun _ _=>False) { s with heap:=h })
    (hc:∀ (h:Heap) i j C,Kp a s.heap h→i < vs.length→j < vs.length→i≠j→C (lt i j) { s with heap:=h }→kas_ask P w A κ vs i j C { s with heap:=h })
    (fin:∀ h p c,Kp a s.heap h→h.get? a=some (seqObj "list" (outOf vs p).toArray c)→PP vs.length p→(SO lt vs.length→Rise lt p vs.length)→R (.done (.ret .none)) { s with heap:=h }) :
    wpAny (model P w) A (Builtin.«list.sort» ⟨[.ref a],[]⟩) R E s:=by
  have ha:a < s.heap.objs.size:=Heap.lt_size ho
  obtain ⟨e1,o1⟩:∃ e1,(s.heap.update a (Obj.mapSeq fun _=>(#[]:Array Value))).get? a=some (seqObj "list" #[] e1):=⟨_,get?_update_seq ho fun _=>#[]⟩
  have k1:Kp a s.heap (((s.heap.update a (Obj.mapSeq fun _=>(#[]:Array Value))).push (seqObj "tuple" vs.toArray 0)).push (seqObj "list" #[] 0)):=fun b o hb e =>
    Heap.get?_push_of_some _ (Heap.get?_push_of_some _ ((Heap.get?_update_other _ _ (Ne.symm hb)).trans e))
  have o3:(((s.heap.update a (Obj.mapSeq fun _=>(#[]:Array Value))).push (seqObj "tuple" vs.toArray 0)).push (seqObj "list" #[] 0)).get? a=some (seqObj "list" #[] e1):=Heap.get?_push_of_some _ (Heap.get?_push_of_some _ o1)
  have last:∀ out:List Value,out.length=vs.length→∃ c,((((s.heap.update a (Obj.mapSeq fun _=>(#[]:Array Value))).push (seqObj "tuple" vs.toArray 0)).push (seqObj "list" #[] 0)).update a (Obj.mapSeq fun _=>out.toArray)).get? a=some (seqObj "list" out.toArray c):=fun out _=>⟨_,get?_update_seq o3 fun _=>out.toArray⟩
  have keep2:∀ out:List Value,Kp a s.heap ((((s.heap.update a (Obj.mapSeq fun _=>(#[]:Array Value))).push (seqObj "tuple" vs.toArray 0)).push (seqObj "list" #[] 0)).update a (Obj.mapSeq fun _=>out.toArray)):=fun out b o hb e =>
    (Heap.get?_update_other _ _ (Ne.symm hb)).trans (k1 b o hb e)
  rw [list_sort_plain];refine wpAny_bind (listItems_at ho rfl ?_)
  refine wpAny_bind (listUpdate_at ho rfl ?_ (by rw [List.size_toArray,sizeLine_eq];omega) (Nat.zero_le _));refine wpAny_bind (seqEpoch_at o1 rfl ?_)
  refine wpAny_bind (wpAny_newTuple ?_ (by show vs.length≤_;rw [sizeLine_eq];omega));refine wpAny_bind (wpAny_newList ?_ (Nat.zero_le _));refine wpAny_holding ?_
  show wpAny (model P w) A _ R E { s with heap:=((s.heap.update a (Obj.mapSeq fun _=>(#[]:Array Value))).push (seqObj "tuple" vs.toArray 0)).push (seqObj "list" #[] 0) }
  generalize hH:((s.heap.update a (Obj.mapSeq fun _=>(#[]:Array Value))).push (seqObj "tuple" vs.toArray 0)).push (seqObj "list" #[] 0)=g at *
  dsimp only
  have up:∀ out:List Value,out.length=vs.length→∀ p,out=outOf vs p→PP vs.length p→(SO lt vs.length→Rise lt p vs.length)→R (.done (.ret .none)) { s with heap:=g.update a (Obj.mapSeq fun _=>out.toArray) }:=fun out hl p e hp hr=>by
    obtain ⟨c,hcc⟩:=last out hl
    refine fin _ p c (keep2 out) ?_ hp hr
    rw [← e];exact hcc
  by_cases h2:vs.toArray.size < 2
  · have hl2:vs.length < 2:=by simpa using h2
    rw [if_pos h2,if_pos h2];refine wpAny_bind (wpAny_pure ?_);rw [StateT.run_pure];refine wpAny_bind (wpAny_pure ?_)
    dsimp only
    have ez:((vs.toArray.zip vs.toArray).map (·.2))=vs.toArray:=by
      apply Array.toList_inj.mp
      rw [Array.toList_map,Array.toList_zip]
      simp [List.map_snd_zip]
    refine wpAny_bind (seqEpoch_at o3 rfl ?_)
    rw [show (arrOf (SortSt.mk' general' (vs.toArray.zip vs.toArray) #[] 7 none))=vs.toArray.zip vs.toArray from rfl,ez]
    refine wpAny_bind (listUpdate_at o3 rfl ?_ (Nat.zero_le _) (by rw [List.size_toArray,sizeLine_eq];omega))
    simp only [bne_self_eq_false,Bool.false_eq_true,if_false]
    exact wpAny_pure (up vs rfl _ (outOf_range vs).symm (Array.Perm.refl _) fun _ i j hij hj=>by omega)
  · have hl2:2≤vs.length:=by simpa using h2
    rw [if_neg h2,if_neg h2];refine wpAny_bind (wpAny_mono (hk hl2 g (fun κ' s'=>κ'=κ∧s'={ s with heap:=g }) k1 ⟨rfl,rfl⟩) (fun κ' s' hs=>?_) fun _ _ x=>x.elim)
    obtain ⟨rfl,rfl⟩:=hs
    have run:=kOk_at (s:={ s with heap:=g }) (cmp:=kas_ask P w A κ' vs) (fun i j C hi hj hij hC=>hc g i j C k1 hi hj hij hC) (sort_any (by omega)) (Q:=fun p s'=>s'={ s with heap:=g }∧PP vs.length p∧(SO lt vs.length→Rise lt p vs.length)) fun p hp=>⟨rfl,hp⟩
    refine wpAny_bind (wpAny_mono (kat_run (ks:=vs) (Q:=fun st s'=>∃ p:Array Nat,arrOf st=p.map (kas_item (vs.toArray.zip vs.toArray))∧failedOf st=none∧s'={ s with heap:=g }∧PP vs.length p∧(SO lt vs.length→Rise lt p vs.length)) rfl hl2 h64 (fun p st s' _ a2 a3 a4=>⟨p,a2,a3,a4⟩) run) ?_ fun _ _ e=>e)
    rintro ⟨⟨⟩,st⟩ s' ⟨p,har,hf,rfl,hp,hr⟩
    dsimp only
    have out:=kat_snds (ks:=vs) rfl har
    have ol:(outOf vs p).length=vs.length:=by unfold outOf;rw [List.length_map,Array.length_toList,hp.size]
    rw [out];refine wpAny_bind (seqEpoch_at o3 rfl ?_)
    refine wpAny_bind (listUpdate_at o3 rfl ?_ (Nat.zero_le _) (by show (List.toArray (outOf vs p)).size≤_;rw [List.size_toArray,ol,sizeLine_eq];omega));rw [hf]
    simp only [bne_self_eq_false,Bool.false_eq_true,if_false]
    exact wpAny_pure (up (outOf vs p) ol p rfl hp hr)
theorem sorted_any {l:Addr} {vs:List Value} {κ:SortKind} {lt:Nat→Nat→Bool} {Q:Value→Shared→Prop} (h64:vs.length < 64)
    (coll:∀ R:List Value→Shared→Prop,(∀ (h:Heap) (tk:Nat),(∀ b o,s.heap.get? b=some o→h.get? b=some o)→R vs { s with heap:=h,toks:=tk })→wpAny (model P w) A.in1 (collect (.ref l)) R E s)
    (hk:2≤vs.length→∀ (h:Heap) (tk:Nat) (Q:SortKind→Shared→Prop),(∀ b o,s.heap.get? b=some o→h.get? b=some o)→Q κ { s with heap:=h,toks:=tk }→wpAny (model P w) A.in1.in1 (keyKind' vs.toArray) Q (fun _ _=>False) { s with heap:=h,toks:=tk })
    (hc:∀ (h:Heap) (tk:Nat) i j C,(∀ b o,s.heap.get? b=some o→h.get? b=some o)→i < vs.length→j < vs.length→i≠j→C (lt i j) { s with heap:=h,toks:=tk }→kas_ask P w A.in1.in1 κ vs i j C { s with heap:=h,toks:=tk })
    (fin:∀ (h:Heap) (tk:Nat) (h':Heap) (p:Array Nat) (c:Nat),(∀ b o,s.heap.get? b=some o→h.get? b=some o)→(∀ b o,h.get? b=some o→h'.get? b=some o)→h'.get? h.objs.size=some (seqObj "list" (outOf vs p).toArray c)→PP vs.length p→(SO lt vs.length→Rise lt p vs.length)→Q (.ref h.objs.size) { s with heap:=h',toks:=tk }) :
    wpAny (model P w) A (call (.builtin "sorted") [.ref l]) Q E s:=by
  refine Calls.call_function_entry kind_sorted plain_sorted entry_sorted (args_sorted1 _) ?_;unfold Builtin.«sorted»
  refine wpAny_bind (m:=checkCount "sorted" 1 1 _) (wpAny_pure ?_);refine wpAny_bind (coll _ fun h tk hk1=>?_)
  refine wpAny_bind (wpAny_newList ?_ (by rw [sizeLine_eq];omega))
  have hoL:(h.push (seqObj "list" vs.toArray 0)).get? h.objs.size=some (seqObj "list" vs.toArray 0):=Heap.get?_push_size _ rfl
  have kept:∀ h',Kp h.objs.size (h.push (seqObj "list" vs.toArray 0)) h'→∀ b o,h.get? b=some o→h'.get? b=some o:=fun h' k b o e=>k b o (Nat.ne_of_lt (Heap.lt_size e)) (Heap.get?_push_of_some _ e)
  refine wpAny_bind (wpAny_holding (wpAny_call_entry slot_list_sort ⟨_,hoL,rfl⟩ entry_list_sort (lsort_any (s:={ s with heap:=h.push (seqObj "list" vs.toArray 0),toks:=tk }) hoL h64 (κ:=κ) (lt:=lt) (fun h2 h' Q' k q=>?_) (fun h' i j C k hi hj hij q=>?_) fun h' p c k ho hp hr=>?_) (args_list_sort _)))
  · exact hk h2 h' tk Q' (fun b o e=>kept h' k b o (hk1 b o e)) q
  · exact hc h' tk i j C (fun b o e=>kept h' k b o (hk1 b o e)) hi hj hij q
  · exact ⟨_,rfl,wpAny_pure ⟨_,rfl,fin h tk h' p c hk1 (kept h' k) ho hp hr⟩⟩
end
end L2
namespace L2
open PySem PySem.W PyProof.Rows
def placeLt (a b:Str × Int):Bool:=if a.1=b.1 then decide (a.2 < b.2) else decide (a.1.cps.toList < b.1.cps.toList)
def PlAt (h:Heap) (v:Value) (q:Str × Int):Prop:=∃ a o t u n,v=.ref a∧h.get? a=some o∧o.cls=.type "tuple"∧o.data=.seq #[.str q.1 t,.int q.2 u] n
section
variable {P:Program} {w:World} {A:Around} {E:Value→Shared→Prop} {s:Shared}
end
theorem str_cps_inj {x y:Str} (h:x.cps.toList=y.cps.toList):x=y:=by
  obtain ⟨a⟩:=x
  obtain ⟨b⟩:=y
  have:a=b:=Array.toList_inj.mp h
  rw [this]
theorem placeLt_so {qs:List (Str × Int)} (hn:qs.Nodup):SO (fun i j=>placeLt (qs.getD i ("",0)) (qs.getD j ("",0))) qs.length where
  irr:=fun i _=>by
    unfold placeLt
    rw [if_pos rfl]
    exact decide_eq_false (by omega)
  trans:=fun i j k _ _ _ h1 h2=>by
    generalize qs.getD i ("",0)=a at *
    generalize qs.getD j ("",0)=b at *
    generalize qs.getD k ("",0)=c at *
    unfold placeLt at *
    by_cases e1:a.1=b.1
    · rw [if_pos e1] at h1
      by_cases e2:b.1=c.1
      · rw [if_pos e2] at h2
        rw [if_pos (e1.trans e2)]
        have h1:=of_decide_eq_true h1
        have h2:=of_decide_eq_true h2
        exact decide_eq_true (by omega)
      · rw [if_neg e2] at h2
        rw [if_neg (by rw [e1];exact e2),e1]
        exact h2
    · rw [if_neg e1] at h1
      have h1:=of_decide_eq_true h1
      by_cases e2:b.1=c.1
      · rw [if_neg (by rw [← e2];exact e1),← e2]
        exact decide_eq_true h1
      · rw [if_neg e2] at h2
        have h2:=of_decide_eq_true h2
        have h3:=List.lt_trans h1 h2
        rw [if_neg (fun z=>by rw [z] at h3;exact List.lt_irrefl _ h3)]
        exact decide_eq_true h3
  tot:=fun i j hi hj hij h=>by
    have ne:qs.getD i ("",0)≠qs.getD j ("",0):=fun z=>hij (by
      rw [List.getD_eq_getElem?_getD,List.getD_eq_getElem?_getD,List.getElem?_eq_getElem hi,List.getElem?_eq_getElem hj] at z
      exact (List.getElem_inj hn).mp z)
    generalize qs.getD i ("",0)=a at *
    generalize qs.getD j ("",0)=b at *
    unfold placeLt at *
    by_cases e:a.1=b.1
    · rw [if_pos e] at h
      rw [if_pos e.symm]
      have h:=of_decide_eq_false h
      have:a.2≠b.2:=fun z=>ne (Prod.ext e z)
      exact decide_eq_true (by omega)
    · rw [if_neg e] at h
      rw [if_neg (fun z=>e z.symm)]
      have h:=of_decide_eq_false h
      refine decide_eq_true ?_
      rcases List.le_iff_lt_or_eq.mp (List.not_lt.mp h) with z | z
      · exact z
      · exact absurd (str_cps_inj z.symm) e
end L2
namespace L2
open PySem
def RawD (h:Heap) (d:Addr) (es:Array DictEntry) (ep:Nat):Prop:=∃ o,h.get? d=some o∧o.ExactDict∧o.data=.dict es ep
section
variable {P:Program} {w:World} {A:Around} {E:Value→Shared→Prop} {s:Shared}
theorem RawD.at {h h':Heap} {d:Addr} {es:Array DictEntry} {ep:Nat} (x:RawD h d es ep) (e:∀ o,h.get? d=some o→h'.get? d=some o):RawD h' d es ep:=let ⟨o,ho,r⟩:=x;⟨o,e _ ho,r⟩
end
end L2
namespace L2
open PySem PySem.Spec PyProof.Rows
section
open PySem.SeqAt
open PySem.AutoSeq1 (wpAny_loadPart')
open PySem.MeetsSeq PySem.MeetsSeq2 PySem.MeetsSeq3
theorem tuple_lt_place (l b:Addr) (x y:Str) (i j:Int) (t u t2 u2:Tok) (n n2:Nat) (dd dd2:Option Addr) (sl sl2:Array (Option Value)) :
    Meets (Builtin.«tuple.__lt__» ⟨[.ref l,.ref b],[]⟩) (fun _ R s=>s.heap.get? l=some { cls:=.type "tuple",dict:=dd,data:=.seq #[.str x t,.int i u] n,slots:=sl } ∧
      s.heap.get? b=some { cls:=.type "tuple",dict:=dd2,data:=.seq #[.str y t2,.int j u2] n2,slots:=sl2 }∧R (.ok (.ret (.bool (placeLt (x,i) (y,j))))) s) :=
  .of_wp fun prog w A R s h=>by
    obtain ⟨hp,g,d,tk,os⟩:=s;obtain ⟨hl,hb,h⟩:=h
    have f2:=AutoSeq1.sub_tuple_tuple
    have lt1:∀ (E:Value→Shared→Prop) (Q:Value→Shared→Prop) (s:Shared),Q (.bool (decide (x.cps.toList < y.cps.toList))) s→wpAny (model prog w) A.in1 (richCompare .Lt (.str x t) (.str y t2)) Q E s:=fun E Q s q=>(PyProof.Rows.lt_str q:wpAny (model prog w) A.in1 (compareOp .Lt (.str x t) (.str y t2)) Q E s)
    have lt2:=HT.rcLt_int A.in1 ⟨hp,g,d,tk,os⟩ i u j u2 prog w
    by_cases e:x=y
    · subst e
      have eq1:=SeqAt.EqAt.str_str (A:=A.in1) (s:=⟨hp,g,d,tk,os⟩) x t x t2 prog w
      rw [beq_self_eq_true] at eq1
      unfold placeLt at h
      rw [if_pos rfl] at h
      by_cases e2:i=j
      · subst e2
        have eq2:=SeqAt.EqAt.int_int (A:=A.in1) (s:=⟨hp,g,d,tk,os⟩) i u i u2 prog w
        rw [beq_self_eq_true] at eq2
        wp_walk using wpAny_loadPart' hl,wpAny_loadPart' hb,eq1,eq2
        exact ⟨_,rfl,by simpa [Builtin.Tuple.tupleCompareSizes] using h⟩
      · have eq2:=SeqAt.EqAt.int_int (A:=A.in1) (s:=⟨hp,g,d,tk,os⟩) i u j u2 prog w
        rw [show (i == j)=false from by simpa using e2] at eq2
        wp_walk using wpAny_loadPart' hl,wpAny_loadPart' hb,eq1,eq2,lt2
        exact ⟨_,rfl,by simpa using h⟩
    · have eq1:=SeqAt.EqAt.str_str (A:=A.in1) (s:=⟨hp,g,d,tk,os⟩) x t y t2 prog w
      rw [show (x == y)=false from by simpa using e] at eq1
      unfold placeLt at h
      rw [if_neg e] at h
      wp_walk using wpAny_loadPart' hl,wpAny_loadPart' hb,eq1,lt1
      exact ⟨_,rfl,by simpa using h⟩
end
end L2
namespace L2
open PySem PySem.Spec PyProof.Rows
section
variable {P:Program} {w:World} {A:Around} {E:Value→Shared→Prop} {s:Shared}
theorem RawD.lt {h:Heap} {d:Addr} {es:Array DictEntry} {ep:Nat} (x:RawD h d es ep):d < h.objs.size:=let ⟨_,ho,_⟩:=x;Heap.lt_size ho
end
end L2
namespace L2
open PySem PySem.Spec PyProof.Rows
def plKey (q:Str × Int):List Key:=[.inr q.1,.inl q.2]
abbrev cSrtD:RC:=fun xs H Q=>∃ (a:Addr) (kvs:List (List Key × V)) (qs:List (Str × Int)),xs=[.ref a]∧H a=some (.dT kvs)∧kvs.map (·.1)=qs.map plKey∧kvs.length < 64 ∧
  ∀ (l:Addr) (ps:List (Addr × (Str × Int))),H l=none→(ps.map (·.2)).Perm qs→(ps.map (·.2)).Pairwise (fun a b=>placeLt a b=true)→(∀ n∈ps,H n.1=some (.tup [.str n.2.1,.int n.2.2]))→Q (.ref l) (upd H l (.lst (ps.map fun n=>V.ref n.1)))
theorem paired_get {α β:Type} {F:α→β→Prop}:∀ {l₁:List α} {l₂:List β},Paired F l₁ l₂→∀ {i:Nat} {a:α} {b:β},l₁[i]?=some a→l₂[i]?=some b→F a b
  | _,_,.nil,i,a,b,h,_=>by simp at h
  | _,_,.cons x r,0,a,b,h1,h2=>by
    simp only [List.getElem?_cons_zero,Option.some.injEq] at h1 h2
    subst h1 h2
    exact x
  | _,_,.cons x r,i + 1,a,b,h1,h2=>paired_get r (by simpa using h1) (by simpa using h2)
theorem PlAt.keep {h h':Heap} {v:Value} {q:Str × Int} (x:PlAt h v q) (k:∀ b o,h.get? b=some o→h'.get? b=some o):PlAt h' v q:=by
  obtain ⟨a,o,t,u,n,e,ho,r⟩:=x
  exact ⟨a,o,t,u,n,e,k _ _ ho,r⟩
section
variable {X:Cx}
theorem place_at {pins:List (Addr × Obj)} {σ:St} {H:Hp} {s:Shared} {a:Addr} {q:Str × Int} (I:Inv X pins σ H s) (h:H a=some (.tup [.str q.1,.int q.2])):PlAt s.heap (.ref a) q:=by
  obtain ⟨its,rv,⟨o,ho,hc,n,hd⟩,_⟩:=I.tuple (SqT.of h)
  cases rv with
  | cons r1 rr =>
    cases rr with
    | cons r2 rn =>
      cases rn
      obtain ⟨t,rfl⟩:=r1
      obtain ⟨u,rfl⟩:=r2
      exact ⟨a,o,t,u,n,rfl,ho,hc,hd⟩
theorem nodup_map_inj {α β:Type} {f:α→β}:∀ {l:List α},(l.map f).Nodup→l.Nodup
  | [],_=>List.nodup_nil
  | a :: r,h=>by
    rw [List.map_cons,List.nodup_cons] at h
    exact List.nodup_cons.mpr ⟨fun z=>h.1 (List.mem_map_of_mem z),nodup_map_inj h.2⟩
end
end L2
namespace L2
open PySem PySem.Spec PyProof.Rows
def Itd (a:Addr) (o:Obj) (kvs:List (List Key × V)):It :=
  ⟨fun i H=>H a=some (.frz o (.dT kvs))∧i < kvs.length,fun i H x H'=>H'=H∧∃ k v p,kvs[i]?=some (k,v)∧x=.ref p∧H p=some (.tup (k.map kV)),fun i H=>H a=some (.frz o (.dT kvs))∧kvs.length≤i⟩
section
variable {X:Cx}
def iDT (tl:TE):TI:=fun σ H R=>tl σ H fun x H1=>∃ a o kvs,x=.ref a∧H1 a=some (.frz o (.dT kvs))∧R (Itd a o kvs) H1
end
section
variable {σ:St} {H:Hp} {nx:St→Hp→Prop} {B:V→St→Hp→(St→Hp→Prop)→Prop}
end
end L2
namespace L2
open PySem PySem.Spec PyProof.Rows
mutual
inductive Dat (K:PySem.W.Frag) (H:Hp):V→PyData→Prop
  | non:Dat K H .non .none
  | bl (b:Bool):Dat K H (.bl b) (.bool b)
  | int (i:Int):Dat K H (.int i) (.int i)
  | str (x:Str):Dat K H (.str x) (.str x)
  | lst {a:Addr} {xs:List V} {ds:List PyData}:SqL K H a xs→DatAll K H xs ds→Dat K H (.ref a) (.list ds)
  | tup {a:Addr} {xs:List V} {ds:List PyData}:SqT K H a xs→DatAll K H xs ds→Dat K H (.ref a) (.tuple ds)
inductive DatAll (K:PySem.W.Frag) (H:Hp):List V→List PyData→Prop
  | nil:DatAll K H [] []
  | cons {x:V} {d:PyData} {xs:List V} {ds:List PyData}:Dat K H x d→DatAll K H xs ds→DatAll K H (x :: xs) (d :: ds)
end
section
variable {X:Cx} {pins:List (Addr × Obj)} {σ:St} {H:Hp} {s:Shared}
mutual
theorem Dat.reads (I:Inv X pins σ H s):∀ {x:V} {d:PyData} {u:Value},Dat X.K H x d→RelV x u→∃ as,Reads s.heap u d as
  | _,_,_,.non,r=>by cases r;exact ⟨_,.none⟩
  | _,_,_,.bl b,r=>by cases r;exact ⟨_,.bool b⟩
  | _,_,_,.int i,r=>by obtain ⟨t,rfl⟩:=r;exact ⟨_,.int i t⟩
  | _,_,_,.str x,r=>by obtain ⟨t,rfl⟩:=r;exact ⟨_,.str x t⟩
  | _,_,_,.lst hq ha,r=>by
    cases r
    obtain ⟨its,rv,⟨o,n,e,c,_,d⟩,_⟩:=I.list hq
    obtain ⟨as,ra⟩:=DatAll.reads I ha rv
    exact ⟨_,.list e c d (by simpa using ra)⟩
  | _,_,_,.tup hq ha,r=>by
    cases r
    obtain ⟨its,rv,⟨o,e,c,n,d⟩,_⟩:=I.tuple hq
    obtain ⟨as,ra⟩:=DatAll.reads I ha rv
    exact ⟨_,.tuple e c d (by simpa using ra)⟩
theorem DatAll.reads (I:Inv X pins σ H s):∀ {xs:List V} {ds:List PyData} {us:List Value},DatAll X.K H xs ds→Vals xs us→∃ as,ReadsAll s.heap us ds as
  | _,_,_,.nil,r=>by cases r;exact ⟨_,.nil⟩
  | _,_,_,.cons hx ht,r=>by
    cases r with
    | cons r1 rr =>
      obtain ⟨as,ra⟩:=Dat.reads I hx r1
      obtain ⟨bs,rb⟩:=DatAll.reads I ht rr
      exact ⟨_,.cons ra rb⟩
end
end
section
variable {K:PySem.W.Frag} {H H':Hp}
theorem SqL.mono {a:Addr} {xs:List V} (k:Same H H') (h:SqL K H a xs):SqL K H' a xs:=by
  rcases h with (h | ⟨o,h⟩) | h
  · exact .inl (.inl (k _ _ h))
  · exact .inl (.inr ⟨o,k _ _ h⟩)
  · exact .inr h
theorem DatAll.of {α:Type} {f:α→V} {g:α→PyData}:∀ {l:List α},(∀ a∈l,Dat K H (f a) (g a))→DatAll K H (l.map f) (l.map g)
  | [],_=>.nil
  | a :: r,h=>.cons (h a List.mem_cons_self) (DatAll.of fun b hb=>h b (List.mem_cons_of_mem _ hb))
end
section
variable {X:Cx} {pins:List (Addr × Obj)} {σ:St} {H:Hp} {s:Shared}
end
mutual
def plainD:PyData→Bool
  | .none=>true
  | .int _=>true
  | .str x=>PyData.strOk x
  | .list xs=>plainDs xs
  | .tuple xs=>plainDs xs
  | .bool _=>false
  | .dict _=>false
def plainDs:List PyData→Bool
  | []=>true
  | x :: xs=>plainD x && plainDs xs
end
mutual
theorem plain_lay:∀ {d:PyData},plainD d=true→d.canLay0=true
  | .none,_=>by simp [PyData.canLay0]
  | .int _,_=>by simp [PyData.canLay0]
  | .str x,h=>by simpa [PyData.canLay0,plainD] using h
  | .list xs,h=>by rw [PyData.canLay0];exact plains_lay (by simpa [plainD] using h)
  | .tuple xs,h=>by rw [PyData.canLay0];exact plains_lay (by simpa [plainD] using h)
  | .bool _,h=>by simp [plainD] at h
  | .dict _,h=>by simp [plainD] at h
theorem plains_lay:∀ {ds:List PyData},plainDs ds=true→PyData.canLayAll0 ds=true
  | [],_=>by simp [PyData.canLayAll0]
  | x :: xs,h=>by
    rw [plainDs,Bool.and_eq_true] at h
    rw [PyData.canLayAll0,plain_lay h.1,plains_lay h.2];rfl
end
mutual
theorem plain_eqv:∀ {d e:PyData},plainD d=true→plainD e=true→(PyData.eqv d e=true↔d=e)
  | .list xs,.list ys,h,h'=>by
    rw [PyData.eqv,plains_eqv (by simpa [plainD] using h) (by simpa [plainD] using h'),PyData.list.injEq]
  | .tuple xs,.tuple ys,h,h'=>by
    rw [PyData.eqv,plains_eqv (by simpa [plainD] using h) (by simpa [plainD] using h'),PyData.tuple.injEq]
  | .bool _,_,h,_=>by simp [plainD] at h
  | .dict _,_,h,_=>by simp [plainD] at h
  | .none,.bool _,_,h=>by simp [plainD] at h
  | .int _,.bool _,_,h=>by simp [plainD] at h
  | .str _,.bool _,_,h=>by simp [plainD] at h
  | .list _,.bool _,_,h=>by simp [plainD] at h
  | .tuple _,.bool _,_,h=>by simp [plainD] at h
  | .none,.dict _,_,h=>by simp [plainD] at h
  | .int _,.dict _,_,h=>by simp [plainD] at h
  | .str _,.dict _,_,h=>by simp [plainD] at h
  | .list _,.dict _,_,h=>by simp [plainD] at h
  | .tuple _,.dict _,_,h=>by simp [plainD] at h
  | .none,.none,_,_ | .none,.int _,_,_ | .none,.str _,_,_ | .none,.list _,_,_ | .none,.tuple _,_,_=>by simp [PyData.eqv]
  | .int _,.none,_,_ | .int _,.int _,_,_ | .int _,.str _,_,_ | .int _,.list _,_,_ | .int _,.tuple _,_,_=>by simp [PyData.eqv]
  | .str _,.none,_,_ | .str _,.int _,_,_ | .str _,.str _,_,_ | .str _,.list _,_,_ | .str _,.tuple _,_,_=>by simp [PyData.eqv]
  | .list _,.none,_,_ | .list _,.int _,_,_ | .list _,.str _,_,_ | .list _,.tuple _,_,_=>by simp [PyData.eqv]
  | .tuple _,.none,_,_ | .tuple _,.int _,_,_ | .tuple _,.str _,_,_ | .tuple _,.list _,_,_=>by simp [PyData.eqv]
theorem plains_eqv:∀ {xs ys:List PyData},plainDs xs=true→plainDs ys=true→(PyData.eqvAll xs ys=true↔xs=ys)
  | [],[],_,_=>by simp [PyData.eqvAll]
  | [],_ :: _,_,_=>by simp [PyData.eqvAll]
  | _ :: _,[],_,_=>by simp [PyData.eqvAll]
  | x :: xs,y :: ys,h,h'=>by
    rw [plainDs,Bool.and_eq_true] at h h'
    rw [PyData.eqvAll,Bool.and_eq_true,plain_eqv h.1 h'.1,plains_eqv h.2 h'.2,List.cons.injEq]
end
abbrev rEqD (K:PySem.W.Frag) (neg:Bool):R2:=fun x y H Q=>∃ d e,Dat K H x d∧Dat K H y e∧(plainD d=true∧plainD e=true∧d.depth≤64∧e.depth≤64)∧∀ b:Bool,(b=true↔d=e)→Q (.bl (if neg then !b else b)) H
section
variable {X:Cx}
theorem shaped_plain {d:PyData} (h:plainD d=true) (h':d.depth≤64):SeqAt.shaped d=true:=by
  unfold SeqAt.shaped
  rw [plain_lay h,decide_eq_true h'];rfl
theorem op_eqAll (hu:X.A.units + 64 < cLine):OpR X (compareOp .Eq) (rEqD X.K false):=by
  intro pins s σ H x y v u Q I rx ry h
  obtain ⟨d,e,hd,he,⟨p1,p2,l1,l2⟩,q⟩:=h
  obtain ⟨as,ra⟩:=hd.reads I rx
  obtain ⟨bs,rb⟩:=he.reads I ry
  exact eq_dataH ra rb (shaped_plain p1 l1) (shaped_plain p2 l2) hu ⟨.bl _,H,I,rfl,q _ (plain_eqv p1 p2)⟩
theorem op_neAll (hu:X.A.units + 64 < cLine):OpR X (compareOp .NotEq) (rEqD X.K true):=by
  intro pins s σ H x y v u Q I rx ry h
  obtain ⟨d,e,hd,he,⟨p1,p2,l1,l2⟩,q⟩:=h
  obtain ⟨as,ra⟩:=hd.reads I rx
  obtain ⟨bs,rb⟩:=he.reads I ry
  exact ne_dataH ra rb (shaped_plain p1 l1) (shaped_plain p2 l2) hu ⟨.bl _,H,I,rfl,q _ (plain_eqv p1 p2)⟩
end
end L2
namespace L2
open PySem PySem.Spec PyProof.Rows
abbrev rGtS:R2:=fun x y H Q=>∃ i j,x=.str i∧y=.str j∧Q (.bl (decide (j.cps.toList < i.cps.toList))) H
abbrev rInD (neg:Bool):R2:=fun x y H Q=>∃ a o,y=.ref a∧DGet H a x o∧Q (.bl (if neg then !o.isSome else o.isSome)) H
section
variable {X:Cx}
theorem op_in_d (hu:X.A.units + 1 < cLine):OpR X (compareOp .In) (rInD false):=by
  intro pins s σ H x y v u Q I rx ry h
  obtain ⟨a,o,rfl,g,q⟩:=h
  cases ry
  exact d_in hu I g rx fun s' I'=>⟨.bl _,H,I',rfl,q⟩
end
end L2
namespace L2
open PySem
abbrev Pl:=Str × Int
abbrev Row:=Pl × Int
def lastW:List Row→Pl→Option Int
  | [],_=>none
  | r :: t,p=>(lastW t p).or (if r.1=p then some r.2 else none)
def dStep (kvs:List (List Key × V)) (q:Row):List (List Key × V):=putK kvs (plKey q.1) (.int q.2)
def dOf (rows:List Row):List (List Key × V):=rows.foldl dStep []
theorem plKey_inj {p q:Pl} (h:plKey p=plKey q):p=q:=by
  unfold plKey at h
  simp only [List.cons.injEq,Sum.inr.injEq,Sum.inl.injEq,and_true] at h
  exact Prod.ext h.1 h.2
theorem val_fold:∀ (rows:List Row) (kvs:List (List Key × V)) (p:Pl),valV (rows.foldl dStep kvs) (plKey p)=((lastW rows p).map V.int).or (valV kvs (plKey p))
  | [],_,_=>rfl
  | r :: t,kvs,p=>by
    rw [List.foldl_cons,val_fold t,lastW]
    show _=_
    rw [dStep,valV_put]
    cases lastW t p with
    | some w=>rfl
    | none =>
      by_cases e:r.1=p
      · subst e;simp
      · rw [if_neg (fun z=>e (plKey_inj z).symm)];simp [e]
theorem val_dOf (rows:List Row) (p:Pl):valV (dOf rows) (plKey p)=(lastW rows p).map V.int:=by
  unfold dOf
  rw [val_fold,valV_nil]
  cases lastW rows p <;> rfl
theorem dOf_snoc (rows:List Row) (q:Row):dOf (rows ++ [q])=putK (dOf rows) (plKey q.1) (.int q.2):=by
  unfold dOf
  rw [List.foldl_append];rfl
def OkKv (kvs:List (List Key × V)):Prop:=(kvs.map (·.1)).Nodup∧∀ kv∈kvs,∃ (p:Pl) (w:Int),kv=(plKey p,.int w)
theorem OkKv.put {kvs:List (List Key × V)} (h:OkKv kvs) (p:Pl) (w:Int):OkKv (putK kvs (plKey p) (.int w)):=by
  cases e:valV kvs (plKey p) with
  | none =>
    refine ⟨nd_putK _ h.1 e,fun kv hk=>?_⟩
    rw [putK_new _ e] at hk
    rcases List.mem_append.mp hk with hk | hk
    · exact h.2 kv hk
    · exact ⟨p,w,List.mem_singleton.mp hk⟩
  | some v =>
    have q:(kvs.any fun kv=>decide (kv.1=plKey p))=true:=by rw [valV_any,e];rfl
    unfold putK
    rw [if_pos q]
    constructor
    · rw [List.map_map]
      have:((fun x:List Key × V=>x.1) ∘ fun kv:List Key × V=>if kv.1=plKey p then (kv.1,V.int w) else kv)=fun x=>x.1:=by
        funext kv
        show (if kv.1=plKey p then (kv.1,V.int w) else kv).1=kv.1
        split <;> rfl
      rw [this];exact h.1
    · intro kv hk
      obtain ⟨z,hz,rfl⟩:=List.mem_map.mp hk
      by_cases e:z.1=plKey p
      · exact ⟨p,w,by rw [if_pos e,e]⟩
      · rw [if_neg e];exact h.2 z hz
theorem okKv_fold:∀ (rows:List Row) (kvs:List (List Key × V)),OkKv kvs→OkKv (rows.foldl dStep kvs)
  | [],_,h=>h
  | r :: t,kvs,h=>okKv_fold t _ (h.put r.1 r.2)
theorem okKv_dOf (rows:List Row):OkKv (dOf rows):=okKv_fold rows [] ⟨List.nodup_nil,fun _ h=>nomatch h⟩
theorem len_put (kvs:List (List Key × V)) (k:List Key) (v:V):(putK kvs k v).length≤kvs.length + 1:=by
  unfold putK
  split
  · rw [List.length_map];omega
  · rw [List.length_append];simp
theorem len_fold:∀ (rows:List Row) (kvs:List (List Key × V)),(rows.foldl dStep kvs).length≤kvs.length + rows.length
  | [],_=>by simp
  | r :: t,kvs=>by
    have:=len_fold t (dStep kvs r)
    have:=len_put kvs (plKey r.1) (.int r.2)
    rw [List.foldl_cons,List.length_cons]
    unfold dStep at *
    omega
theorem len_dOf (rows:List Row):(dOf rows).length≤rows.length:=by have:=len_fold rows [];simpa [dOf] using this
theorem valV_nd {kvs:List (List Key × V)}:(kvs.map (·.1)).Nodup→∀ kv∈kvs,valV kvs kv.1=some kv.2:=by
  induction kvs with
  | nil=>exact fun _ kv h=>nomatch h
  | cons a r ih =>
    intro hn kv hk
    rw [List.map_cons,List.nodup_cons] at hn
    rcases List.mem_cons.mp hk with rfl | hk
    · exact valV_pos rfl
    · rw [valV_neg fun z=>hn.1 (by rw [z];exact List.mem_map_of_mem hk)]
      exact ih hn.2 kv hk
theorem mem_dOf {rows:List Row} {kv:List Key × V}:kv∈dOf rows↔∃ p w,kv=(plKey p,.int w)∧lastW rows p=some w:=by
  constructor
  · intro h
    obtain ⟨p,w,rfl⟩:=(okKv_dOf rows).2 kv h
    have:=valV_nd (okKv_dOf rows).1 _ h
    rw [val_dOf] at this
    obtain ⟨w',e1,e2⟩:=Option.map_eq_some_iff.mp this
    cases e2
    exact ⟨p,w,rfl,e1⟩
  · rintro ⟨p,w,rfl,h⟩
    have e:valV (dOf rows) (plKey p)=some (.int w):=by rw [val_dOf,h];rfl
    obtain ⟨kv,hk,e1⟩:=List.mem_map.mp (valV_in e)
    have:=valV_nd (okKv_dOf rows).1 _ hk
    rw [e1,e] at this
    have e2:kv=(plKey p,V.int w):=Prod.ext e1 (Option.some.inj this).symm
    rw [← e2];exact hk
theorem placeLt_irr (a:Pl):placeLt a a=false:=by
  unfold placeLt
  rw [if_pos rfl]
  exact decide_eq_false (by omega)
def Rising (l:List Row):Prop:=l.Pairwise fun a b=>placeLt a.1 b.1=true
def IsTab (rows out:List Row):Prop:=Rising out∧∀ p w,(p,w)∈out↔lastW rows p=some w∧w≠0
theorem Rising.nd {l:List Row} (h:Rising l):(l.map (·.1)).Nodup:=by
  unfold List.Nodup
  rw [List.pairwise_map]
  exact List.Pairwise.imp (fun {a b} h z=>by rw [z,placeLt_irr] at h;cases h) h
theorem last_none {p:Pl}:∀ {l:List Row},(∀ r∈l,r.1≠p)→lastW l p=none
  | [],_=>rfl
  | r :: t,h=>by
    rw [lastW,last_none fun r hr=>h r (List.mem_cons_of_mem _ hr),if_neg (h r List.mem_cons_self)];rfl
theorem nd_len_le {α:Type} [DecidableEq α]:∀ {a b:List α},a.Nodup→(∀ x∈a,x∈b)→a.length≤b.length
  | [],_,_,_=>Nat.zero_le _
  | x :: a,b,hn,h=>by
    rw [List.nodup_cons] at hn
    have hx:=h x List.mem_cons_self
    have:=nd_len_le (a:=a) (b:=b.erase x) hn.2 fun y hy=>(List.mem_erase_of_ne fun z=>hn.1 (by rw [← z];exact hy)).mpr (h y (List.mem_cons_of_mem _ hy))
    rw [List.length_erase_of_mem hx] at this
    have:0 < b.length:=List.length_pos_of_mem hx
    rw [List.length_cons];omega
end L2
namespace L2
open PySem PySem.Spec PyProof.Rows
def Itzl (K:PySem.W.Frag) (p q:Addr) (xs ys:List V):It:=⟨fun i H=>i < xs.length∧SqL K H p xs∧SqL K H q ys,fun i H x H'=>∃ T u v,x=.ref T∧H T=none∧H'=upd H T (.tup [u,v])∧xs[i]?=some u∧ys[i]?=some v,fun i H=>xs.length≤i∧SqL K H p xs∧SqL K H q ys⟩
def iZipL (K:PySem.W.Frag) (ta:TA):TI:=fun σ H R=>ta σ H fun vs H1=>∃ p q xs ys,vs=[.ref p,.ref q]∧SqL K H1 p xs∧SqL K H1 q ys∧xs.length=ys.length∧R (Itzl K p q xs ys) H1
section
variable {X:Cx}
end
section
variable {σ:St} {H:Hp} {nx:St→Hp→Prop} {B:V→St→Hp→(St→Hp→Prop)→Prop}
end
end L2
namespace L2
open PySem PySem.Spec PyProof.Rows
theorem plain_dul:plainId "dict.update.loop"=true:=by decide +kernel
theorem entry_dul:entryFor table "dict.update.loop"=some Builtin.«dict.update.loop»:=entryFor_of_fast (by kernel_rfl)
section
variable {X:Cx} {A:Around} {R:Result→Shared→Prop}
def PrAt (H:Hp) (v:V) (q:Row):Prop:=∃ r p,v=.ref r∧H r=some (.tup [.ref p,.int q.2])∧H p=some (.tup [.str q.1.1,.int q.1.2])
theorem dul_store {pins:List (Addr × Obj)} {σ:St} {H:Hp} {s:Shared} {d b:Addr} {kvs:List (List Key × V)} {k:List Key} {v:V} {u:Value} {E:Value→Shared→Prop} {Q:Unit→Shared→Prop} (hu:A.units + 1 < cLine) (I:Inv X pins σ H s) (e:H d=some (.dT kvs)) (eb:H b=some (.tup (k.map kV))) (l:kvs.length < sizeLine) (rv:RelV v u)
    (h:∀ h' tk,Inv X pins σ (upd H d (.dT (putK kvs k v))) { s with heap:=h',toks:=tk }→Heap.SameBut d s.heap h'→Q () { s with heap:=h',toks:=tk }):wpAny (model X.prog X.w) A.in1 (dictSet d (.ref b) u) Q E s:=by
  obtain ⟨z,hd,xs,rel,dd⟩:=dt_of I.hok e
  have hz:xs.length≤sizeLine:=by rw [← Paired.length rel];exact z
  have hl:(putK kvs k v).length≤sizeLine:=by have:=length_putK kvs k v;omega
  refine wpAny_dictSet_heap (hsz:=hz) (tupleKind_room_in1 hu) (key_of I.hok eb) dd fun h' dd' hs=>h _ _ ?_ hs
  obtain ⟨q,es,ep,hq,h2,h3,h4,_,h5⟩:=dd'
  refine d_write I (by rw [e];exact True.intro) hs ⟨q,hq⟩ ⟨hl,hd,_,(rel.put k eb rv).keeps fun c ys ec=>?_,q,es,ep,hq,h2,h3,h4,h5⟩
  rw [upd_ne (ne_of ec e (fun z=>nomatch z))]
  exact ec
theorem dul_loop {pins:List (Addr × Obj)} {σ:St} {H:Hp} {d it l:Addr} {xs:List V} {rows:List Row} {res:Value} (hu:A.units + 1 < cLine) (hh:A.handled=none) (hd:H d=none) (hl:H l=some (.lst xs)) (hr:Paired (PrAt H) xs rows) (h63:rows.length≤1000) (dit:it≠d) (lit:l≠it) :
    ∀ (k i:Nat) (s:Shared),rows.length - i=k→i≤rows.length→Inv X pins σ (upd H d (.dT (dOf (rows.take i)))) s→s.heap.IsListIter it l i→(∀ u,FpOk X pins (upd H d u) it) →
    (∀ s',Inv X pins σ (upd H d (.dT (dOf rows))) s'→R (.ok (.ret res)) s') →
    codeAny (model X.prog X.w) A (.builtin "dict.update.loop" ⟨[.ref d,.ref it,rawInt i,res],[]⟩) R s:=by
  have lx:xs.length=rows.length:=Paired.length hr
  have S:∀ u:HO,Same H (upd H d u):=fun u=>isV (o:=u) d hd
  intro k
  induction k with
  | zero =>
    intro i s hk hi I st hf fin
    have e:i=rows.length:=by omega
    subst e
    refine codeAny_builtin entry_dul ?_
    rw [Around.under_plainId plain_dul _]
    show wpAny _ A.in1 (pyNext (.ref it) >>= _) _ _ s
    obtain ⟨its,rv,p,hz⟩:=I.list (SqL.of (S _ _ _ hl))
    obtain ⟨f0,f1,f2,f3,f4,f5⟩:=hf (.dT (dOf (rows.take rows.length)))
    have hl2:=rv.length
    refine wpAny_bind (wpAny_pyNext_list_end hh st p.isList (by simp;omega) fun h' eb=>?_)
    have I1:=I.turned (t':=s.toks) (fun b o hb e=>eb b o hb e) f0 f1 f3 f4 f5
    rw [List.take_length] at I1
    show wpAny _ A.in1 (Builtin.Dict.addKeywords d [] >>= _) _ _ _
    exact wpAny_bind (wpAny_pure (wpAny_pure (fin _ I1)))
  | succ k ih =>
    intro i s hk hi I st hf fin
    have hlt:i < rows.length:=by omega
    refine codeAny_builtin entry_dul ?_
    rw [Around.under_plainId plain_dul _]
    show wpAny _ A.in1 (pyNext (.ref it) >>= _) _ _ s
    obtain ⟨its,rv,p,hz⟩:=I.list (SqL.of (S _ _ _ hl))
    obtain ⟨f0,f1,f2,f3,f4,f5⟩:=hf (.dT (dOf (rows.take i)))
    have hx:xs[i]?=some xs[i]:=List.getElem?_eq_getElem (by omega)
    have hq:rows[i]?=some rows[i]:=List.getElem?_eq_getElem hlt
    obtain ⟨r,pl,e1,t1,u1⟩:=paired_get hr hx hq
    obtain ⟨u,hu',ru⟩:=rv.get hx
    rw [e1] at ru
    cases ru
    refine wpAny_bind (wpAny_pyNext_list_item st p.isList (x:=.ref r) (by simpa using hu') fun h' st' sb=>?_)
    have I1:=I.turned (t':=s.toks) (fun b o hb e=>(sb.2 b hb).trans e) f0 f1 f3 f4 f5
    obtain ⟨tis,tv,⟨o,ho,hc,n,hdt⟩,_⟩:=I1.tuple (SqT.of (S _ _ _ t1))
    cases tv with
    | cons r1 rr =>
      cases rr with
      | cons r2 rn =>
        cases rn
        cases r1
        obtain ⟨tk,rfl⟩:=r2
        refine wpAny_bind (wpAny_holding ?_)
        have T:({ s with heap:=h' }:Shared).TypeIs (.ref r) "tuple":=⟨o,ho,hc⟩
        refine wpAny_bind (wpAny_tryCatch ?_)
        unfold Builtin.Dict.pairItems
        refine wpAny_bind (wpAny_typeOf T ?_)
        rw [if_pos (by decide)]
        refine wpAny_bind ?_
        unfold seqItems?
        refine wpAny_bind (wpAny_load ho ?_)
        rw [hdt]
        refine wpAny_pure (wpAny_pure ?_)
        show wpAny _ _ (holding [.ref pl,.int rows[i].2 tk] (dictSet d (.ref pl) (.int rows[i].2 tk))) _ _ _
        refine wpAny_holding ?_
        have tk2:dOf (rows.take (i + 1))=putK (dOf (rows.take i)) (plKey rows[i].1) (.int rows[i].2):=by rw [List.take_add_one,hq,← dOf_snoc];rfl
        have l2:(dOf (rows.take i)).length < sizeLine:=by
          have h1:=len_dOf (rows.take i)
          have h2:=List.length_take_le' i rows
          exact Nat.lt_of_le_of_lt (by omega:_≤1000) (by decide)
        refine dul_store (k:=plKey rows[i].1) (v:=.int rows[i].2) hu I1 upd_same (S _ _ _ u1) l2 ⟨tk,rfl⟩ fun h2 tk3 I2 sb2=>?_
        rw [upd_upd,← tk2] at I2
        refine wpAny_pure ⟨plainId_quiet plain_dul _,ih (i + 1) _ (by omega) hlt I2 (st'.at fun o e=>(sb2.2 it dit).trans e) hf fin⟩
end
end L2
namespace L2
open PySem PySem.Spec PyProof.Rows
theorem lk_list_keys:typeLookup (.type "list") "keys"=pure none:=by rw [typeLookup_type,builtinLookup_eq_fast];kernel_rfl
section
variable {prog:Program} {w:World} {A:Around} {E:Value→Shared→Prop} {s:Shared} {a:Addr} {o:Obj} {xs:Array Value} {k:Nat}
theorem keys_none_list {Q:Option Value→Shared→Prop} (hx:s.heap.get? a=some o) (hc:o.cls=.type "list") (hdat:o.data=.seq xs k) (hd:o.dict=none) (hA:A.handled=none)
    (h:∀ h' tk,(∀ b ob,s.heap.get? b=some ob→h'.get? b=some ob)→Q none { s with heap:=h',toks:=tk }):wpAny (model prog w) A (getAttr? (.ref a) "keys") Q E s:=by
  obtain ⟨c,dct,dat,sl⟩:=o;simp only at hc hdat hd;subst hc hdat hd
  obtain ⟨hp,g,d,tk,os⟩:=s;have hT:∀ tk',(⟨hp,g,d,tk',os⟩:Shared).TypeIs (.ref a) "list":=fun _=>⟨_,hx,rfl⟩
  have f1:=sub_AttributeError;have f3:=F.slot_list_getattribute.lookup;have f4:=F.slot_list_getattribute.bind (.ref a);have f5:=am_list_getattr_none
  unfold getAttr? getAttrBy? getAttrBy
  repeat (any_goals (first | assumption | exact hT _ | ((with_reducible show wpAny _ _ (call (Value.builtin "list.__getattribute__") _ _) _ _ _);refine call_meets F.slot_list_getattribute (hT _) am_entry_list_getattribute (F.args_list_getattribute_2 _ _) (meets_getattribute_miss_list a xs k sl "keys" _ lk_list_keys (by decide +kernel) (by decide +kernel)) ⟨hx,hA,fun h' tk' e hx'=>?_⟩) | wp_step))
  obtain ⟨t',u',he⟩:=hx'.there;have kp:=hx'.keeps
  show wpAny _ _ (getattributeRaised _ _ _ _ _ _ _) _ _ _;unfold getattributeRaised
  repeat (any_goals (first | assumption | wp_step))
  all_goals exact h _ _ fun b ob e=>kp b ob e
end
theorem hu3 {k:Nat} {A:Around} (r:Room k A):A.units + 3 < cLine:=by have:=hu64 r;omega
abbrev cDctP:RC:=fun vs H Q=>∃ (a:Addr) (xs:List V) (rows:List Row),vs=[.ref a]∧H a=some (.lst xs)∧Paired (PrAt H) xs rows∧rows.length≤1000∧∀ p,H p=none→Q (.ref p) (upd H p (.dT (dOf rows)))
section
variable {X:Cx}
theorem call_dict_pairs (hc:X.calm=true) (hu:X.A.units + 3 < cLine):CallR X (.type "dict") cDctP:=by
  intro pins s σ H vs us Q I r h
  obtain ⟨a,xs,rows,rfl,ha,hr,hl,q⟩:=h
  obtain ⟨u,rfl,ru⟩:=vals1 r
  cases ru
  have hh:X.A.handled=none:=I.ok.hd hc
  refine callType_codes (Q₁:=fun obj s₁=>obj=.ref s.heap.objs.size∧s₁={ s with heap:=s.heap.push { cls:=.type "dict",data:=.dict #[] } }) F.kt_called_dict (F.kt_typeCall_dict_1 _) F.entry_dict_init (kt_code_dict_new _ ⟨rfl,rfl⟩) ?_;rintro obj s₁ ⟨rfl,rfl⟩
  have T0:({ s with heap:=s.heap.push { cls:=.type "dict",data:=.dict #[] } }:Shared).TypeIs (.ref s.heap.objs.size) "dict":=⟨_,Heap.get?_push_size _ rfl,rfl⟩
  refine ⟨T0,F.args_dict_init_2 _ _,?_⟩;unfold Builtin.«dict.__init__»;refine wpAny_bind ?_;unfold Builtin.Dict.selfAndRest
  refine wpAny_bind (wpAny_notOrdered_dict T0 ?_);show wpAny _ _ (pure (s.heap.objs.size,[Value.ref a])) _ _ _;refine wpAny_pure ?_
  show wpAny _ _ (Builtin.Dict.updateFrom "dict.__init__" s.heap.objs.size (.ref a) [] .none) _ _ _;unfold Builtin.Dict.updateFrom
  have hn:H s.heap.objs.size=none:=I.hok.fresh (Nat.le_refl _)
  have S:∀ u:HO,Same H (upd H s.heap.objs.size u):=fun u=>isV (o:=u) _ hn
  have I1:Inv X pins σ (upd H s.heap.objs.size (.dT [])) { s with heap:=s.heap.push { cls:=.type "dict",data:=.dict #[] } } :=
    I.laid (a:=s.heap.objs.size) (o:=.dT []) (t':=s.toks) (fun b o z=>Heap.get?_push_of_some _ z) (Nat.le_refl _) (dt_empty s.heap I.big)
  obtain ⟨its,rv,pl,_⟩:=I1.list (SqL.of (S _ _ _ ha))
  obtain ⟨o,n,ho,oc,od,odat⟩:=id pl
  have T1:({ s with heap:=s.heap.push { cls:=.type "dict",data:=.dict #[] } }:Shared).TypeIs (.ref a) "list":=⟨o,ho,oc⟩
  refine wpAny_bind (wpAny_typeOf T1 ?_);rw [if_pos (by decide)]
  refine wpAny_bind (keys_none_list ho oc odat od (by exact hh) fun h2 tk2 k2=>?_);rw [if_pos (show (none:Option Value).isNone=true from rfl)]
  refine wpAny_bind (wpAny_rule ?_)
  have I2:Inv X pins σ (upd H s.heap.objs.size (.dT [])) { s with heap:=h2,toks:=tk2 }:=I1.kept k2
  obtain ⟨its2,rv2,pl2,_⟩:=I2.list (SqL.of (S _ _ _ ha))
  refine wpAny_bind (wpAny_pyIter_list pl2.isList ?_)
  have I3:Inv X pins σ (upd H s.heap.objs.size (.dT (dOf (rows.take 0)))) { s with heap:=h2.push { cls:=.type "list_iterator",data:=.fields #[.ref a,.int 0 0] },toks:=tk2 }:=I2.kept (t':=tk2) fun b o e=>Heap.get?_push_of_some _ e
  refine wpAny_pure ⟨plainId_quiet plain_dul _,?_⟩
  have lt:s.heap.objs.size < h2.objs.size:=Heap.lt_size (k2 s.heap.objs.size _ (Heap.get?_push_size _ rfl))
  have la:a < h2.objs.size:=by obtain ⟨_,_,z,_⟩:=pl2;exact Heap.lt_size z
  refine dul_loop (A:=X.A.in1) (H:=H) (d:=s.heap.objs.size) (it:=h2.objs.size) (l:=a) (xs:=xs) (rows:=rows) (res:=.none) ?_ hh hn ha hr hl (Nat.ne_of_gt lt) (Nat.ne_of_lt la) rows.length 0 _ (by omega) (Nat.zero_le _) I3 ⟨_,Heap.get?_push_size _ rfl,rfl,rfl⟩ (fun u=>?_) fun s' I'=>⟨rfl,.ref s.heap.objs.size,_,I',rfl,q _ hn⟩
  · have e:X.A.in1.units=X.A.units + 1:=rfl
    omega
  · refine I2.fpOk (Nat.le_refl _) ?_
    rw [upd_ne (Nat.ne_of_gt lt)]
    have:=I2.hok.fresh (Nat.le_refl h2.objs.size)
    rw [upd_ne (Nat.ne_of_gt lt)] at this
    exact this
end
end L2
namespace L2
open PySem PySem.Spec PyProof.Rows
section
variable {X:Cx} {k:Nat} {f C:Addr} {fd:FuncData} {ps:List Str} {sp:Sp} {m:Str} {pos apos:Pos} {e o:Expr} {es:List Expr} {ta:TE} {t:TA}
def tMethX (C:Addr) (m:Str) (sp:Sp) (ta:TE) (t:TA) (EX:EXK):TE:=fun σ H Q=>ta σ H fun x H1=>∃ a dx fs,x=.ref a∧H1 a=some (.ins C dx fs)∧fs.lookup m=none ∧
  t σ H1 fun vs H2=>sp (x :: (vs ++ [])) H2 Q fun cls _ H3=>EX cls σ H3
end
def tTryN (K:PySem.W.Frag) (tb:EXK→TS) (C1:Addr) (th1:TS):TS:=fun D σ H=>tb (fun cls σ1 H1=>∃ C,cls=.ref C∧PySem.W.exmOne K (.ref C) (.ref C1)=some true∧th1 D σ1 H1) D σ H
def tTryNN (K:PySem.W.Frag) (tb:EXK→TS) (C1:Addr) (th1:TS) (C2:Addr) (th2:TS):TS:=fun D σ H=>tb (fun cls σ1 H1=>∃ C,cls=.ref C ∧
  ((PySem.W.exmOne K (.ref C) (.ref C1)=some true∧th1 D σ1 H1)∨(PySem.W.exmOne K (.ref C) (.ref C1)=some false∧PySem.W.exmOne K (.ref C) (.ref C2)=some true∧th2 D σ1 H1))) D σ H
section
variable {X:Cx} {st b₀ b₁:Stmt} {suite suite1:List Stmt} {tb:EXK→TS} {th1 th2:TS} {c1 c2:Str} {C1 C2:Addr} {np hpos np2 hpos2 pos:Pos}
end
section
variable {X:Cx} {k:Nat} {f:Addr} {fd:FuncData} {ps:List Str} {sp:Sp} {x:Str} {p pos:Pos} {e:Expr} {es:List Expr} {t:TA}
end
end L2
namespace L2
open PySem
def rk (kvs:List (Key × V)) (ps:List V):Except Er Int:=match runE kvs ps [] with
  | .ok [i]=>.ok i
  | .ok _=>.error .stuck
  | .error e=>.error e
theorem step_inW {kvs:List (Key × V)} (hs:SlotsOk kvs) {v:V} (hv:okPart v) {st st':List Int} (h:∀ x∈st,inW x=true) (e:stepE kvs st v=.ok st'):∀ x∈st',inW x=true:=by
  unfold stepE at e
  split at e
  · split at e
    · rename_i w b a r hr hj
      unfold joinE at e
      by_cases c1:isDiv w∧b=0
      · rw [if_pos c1] at e;cases e
      · rw [if_neg c1] at e
        by_cases c2:inW (comeV w a b)=true
        · rw [if_pos c2] at e
          cases e
          intro x hx
          rcases List.mem_append.mp hx with hx | hx
          · refine h x (List.mem_reverse.mp ?_)
            rw [hr]
            exact List.mem_cons_of_mem _ (List.mem_cons_of_mem _ (List.mem_reverse.mp hx))
          · rw [List.mem_singleton.mp hx];exact c2
        · rw [if_neg c2] at e;cases e
    · cases e
  · cases e
    intro x hx
    rcases List.mem_append.mp hx with hx | hx
    · exact h x hx
    · rw [List.mem_singleton.mp hx];exact wrth_inW hs hv
theorem run_inW {kvs:List (Key × V)} (hs:SlotsOk kvs):∀ {ps:List V} {st st':List Int},(∀ v∈ps,okPart v)→(∀ x∈st,inW x=true)→runE kvs ps st=.ok st'→∀ x∈st',inW x=true
  | [],st,st',_,h,e=>by cases e;exact h
  | v :: r,st,st',hp,h,e=>by
    unfold runE at e
    split at e
    · rename_i st1 e1
      exact run_inW hs (fun v hv=>hp v (List.mem_cons_of_mem _ hv)) (step_inW hs (hp v List.mem_cons_self) h e1) e
    · cases e
def TermOk (e:List V):Prop:=(∀ kvs,∃ r,Good kvs e r)∧(∀ v∈e,okPart v)∧e.length≤1000
mutual
inductive Rw where
  | take (sh:Str) (e:List V) (sl:Str)
  | give (sh:Str) (e f:List V)
  | lt (sl:Str) (e:List V)
  | say (e:List V)
  | off (e:List V)
  | iff (e:List V) (a b:Rws)
inductive Rws where
  | nil
  | cons (r:Rw) (rs:Rws)
end
set_option genSizeOf false in
set_option genInjectivity false in
structure Sta where
  sl:List (Key × V)
  wo:List Row
  sa:List Int
inductive Res where
  | go (s:Sta)
  | off
  | er (e:Er)
mutual
def goR:Rw→Sta→Res
  | .take sh e sl,s=>match rk s.sl e with
    | .ok n=>.go { s with sl:=putK s.sl (.inr sl) (.int ((lastW s.wo (sh,n)).getD 0)) }
    | .error x=>.er x
  | .give sh e f,s=>match rk s.sl e with
    | .ok n=>(match rk s.sl f with
      | .ok w=>.go { s with wo:=s.wo ++ [((sh,n),w)] }
      | .error x=>.er x)
    | .error x=>.er x
  | .lt sl e,s=>match rk s.sl e with
    | .ok n=>.go { s with sl:=putK s.sl (.inr sl) (.int n) }
    | .error x=>.er x
  | .say e,s=>match rk s.sl e with
    | .ok n=>.go { s with sa:=s.sa ++ [n] }
    | .error x=>.er x
  | .off e,s=>match rk s.sl e with
    | .ok n=>if n=0 then .go s else .off
    | .error x=>.er x
  | .iff e a b,s=>match rk s.sl e with
    | .ok n=>if n=0 then goRs b s else goRs a s
    | .error x=>.er x
def goRs:Rws→Sta→Res
  | .nil,s=>.go s
  | .cons r rs,s=>match goR r s with
    | .go s'=>goRs rs s'
    | x=>x
end
mutual
def RwAt (F:Addr→Prop) (H:Hp) (v:V):Rw→Prop
  | .take sh e sl=>∃ r te,v=.ref r∧F r∧F te∧H r=some (.tup [.str "take",.str sh,.ref te,.str sl])∧H te=some (.tup e)
  | .give sh e f=>∃ r te tf,v=.ref r∧F r∧F te∧F tf∧H r=some (.tup [.str "give",.str sh,.ref te,.ref tf])∧H te=some (.tup e)∧H tf=some (.tup f)
  | .lt sl e=>∃ r te,v=.ref r∧F r∧F te∧H r=some (.tup [.str "let",.str sl,.ref te])∧H te=some (.tup e)
  | .say e=>∃ r te,v=.ref r∧F r∧F te∧H r=some (.tup [.str "say",.ref te])∧H te=some (.tup e)
  | .off e=>∃ r te,v=.ref r∧F r∧F te∧H r=some (.tup [.str "off",.ref te])∧H te=some (.tup e)
  | .iff e a b=>∃ r te la lb xs ys,v=.ref r∧F r∧F te∧F la∧F lb∧H r=some (.tup [.str "if",.ref te,.ref la,.ref lb])∧H te=some (.tup e)∧H la=some (.lst xs)∧RwsAt F H xs a∧H lb=some (.lst ys)∧RwsAt F H ys b
def RwsAt (F:Addr→Prop) (H:Hp) (vs:List V):Rws→Prop
  | .nil=>vs=[]
  | .cons r rs=>∃ v ws,vs=v :: ws∧RwAt F H v r∧RwsAt F H ws rs
end
mutual
def RwOk:Rw→Prop
  | .take _ e _=>TermOk e
  | .give _ e f=>TermOk e∧TermOk f
  | .lt _ e=>TermOk e
  | .say e=>TermOk e
  | .off e=>TermOk e
  | .iff e a b=>TermOk e∧RwsOk a∧RwsOk b
def RwsOk:Rws→Prop
  | .nil=>True
  | .cons r rs=>RwOk r∧RwsOk rs
end
mutual
def Rw.deep:Rw→Nat
  | .iff _ a b=>max a.deep b.deep + 1
  | _=>0
def Rws.deep:Rws→Nat
  | .nil=>0
  | .cons r rs=>max r.deep rs.deep
end
mutual
def Rw.cnt:Rw→Nat
  | .iff _ a b=>max a.cnt b.cnt + 1
  | _=>1
def Rws.cnt:Rws→Nat
  | .nil=>0
  | .cons r rs=>r.cnt + rs.cnt
end
end L2
namespace L2
open PySem
abbrev ItA (h:Heap) (it d:Addr) (i n ep:Nat) (o0:Value) (f:Bool) (ok ov:Value):Prop :=
  h.get? it=some { cls:=.type "dict_itemiterator",dict:=none,data:=.fields #[o0,.bool f,.ref d,.int i 0,.int n 0,.int ep 0,ok,ov],slots:=#[] }
section
variable {P:Program} {w:World} {A:Around} {E:Value→Shared→Prop} {s:Shared}
theorem rit_iter {v d:Addr} {es:Array DictEntry} {ep:Nat} {Q:Value→Shared→Prop} (hv:s.heap.IsItemsView v d) (hm:RawD s.heap d es ep)
    (q:Q (.ref s.heap.objs.size) { s with heap:=s.heap.push { cls:=.type "dict_itemiterator",data:=.fields #[.none,.bool false,.ref d,.int 0 0,.int es.size 0,.int ep 0,.none,.none] } }):wpAny (model P w) A (pyIter (.ref v)) Q E s:=by
  obtain ⟨ov,hov,hcv,hdv⟩:=id hv;obtain ⟨o,ho,hc,hdat⟩:=id hm
  refine wpAny_pyIter_slot hv.typeIs F.slot_dict_items_iter (wpAny_call_entry F.slot_dict_items_iter hv.typeIs F.entry_dict_items_iter ?_ (F.args_dict_items_iter_1 _));unfold Builtin.«dict_items.__iter__»
  refine wpAny_bind (wpAny_pure ?_);refine wpAny_bind ?_;unfold Builtin.Dict_items.dictOf
  refine wpAny_bind (wpAny_field hov hdv (x:=.ref d) rfl (wpAny_pure ?_));refine wpAny_bind ?_;unfold Builtin.Dict_items.newIterator
  refine wpAny_bind (wpAny_dictEntries ho hdat ?_);refine wpAny_bind (wpAny_dictEpoch ho hdat ?_)
  have own:Builtin.Dict_items.ownsTuple "dict_itemiterator"=true:=by decide
  simp only [own,if_true];refine wpAny_newObj_type (wpAny_pure ⟨_,rfl,"dict_itemiterator",_,⟨_,Heap.get?_push_size _ rfl,rfl⟩,F.slot_dict_itemiterator_next.lookup,?_⟩) (by simp only [sizeOk,Builtin.Dict_items.ownedTupleFields,List.size_toArray,List.length_append,List.length_cons,List.length_nil,sizeLine_eq];omega)
  simpa [rawInt,Builtin.Dict_items.ownedTupleFields] using q
theorem rit_next {it d:Addr} {i ep:Nat} {es:Array DictEntry} {e:DictEntry} {o0 ok ov:Value} {f:Bool} {Q:Option Value→Shared→Prop} (hit:ItA s.heap it d i es.size ep o0 f ok ov) (hm:RawD s.heap d es ep) (hx:es[i]?=some e)
    (ho0:(o0=.none∧f=false)∨∃ (a:Addr) (oa:Obj),o0=rawInt (a:Nat)∧s.heap.get? a=some oa∧a≠it)
    (q:∀ h' o1 f1 k1 v1,ItA h' it d (i + 1) es.size ep o1 f1 k1 v1→((o1=.none∧f1=false)∨∃ (a:Addr) (oa:Obj),o1=rawInt (a:Nat)∧h'.get? a=some oa∧a≠it)→h'.get? s.heap.objs.size=some { cls:=.type "tuple",data:=.seq #[e.key,e.val] }→h'.objs.size=s.heap.objs.size + 1 →
      (∀ b o,b≠it→s.heap.get? b=some o→h'.get? b=some o)→(∀ a:Addr,o1=rawInt (a:Nat)→a=s.heap.objs.size∨o0=rawInt (a:Nat))→Q (some (.ref s.heap.objs.size)) { s with heap:=h' }):wpAny (model P w) A (pyNext (.ref it)) Q E s:=by
  obtain ⟨hp,g,dr,tk,os⟩:=s;obtain ⟨od,hod,hcd,hdd⟩:=id hm
  have T:Shared.TypeIs ⟨hp,g,dr,tk,os⟩ (.ref it) "dict_itemiterator":=⟨_,hit,rfl⟩
  unfold pyNext;refine wpAny_bind (wpAny_attempt (wpAny_callSpecial?_slot (name:=Str.ofString "__next__") T F.slot_dict_itemiterator_next (wpAny_call_entry F.slot_dict_itemiterator_next T F.entry_dict_itemiterator_next ?_ (F.args_dict_itemiterator_next_1 _))))
  refine wpAny_bind (wpAny_pure ?_);refine wpAny_bind ?_;refine wpAny_bind ?_
  first | (refine wpAny_bind (wpAny_typeNameOfWhole_itemiter T (wpAny_pure ?_))) | (refine wpAny_bind (wpAny_typeNameOf_itemiter T (wpAny_pure ?_)))
  refine wpAny_bind (wpAny_fieldsOf hit rfl ?_);have own:Builtin.Dict_items.ownsTuple "dict_itemiterator"=true:=by decide
  simp only [own,if_true];show wpAny _ _ (if (Value.ref d == Value.none)=true then _ else _) _ _ _
  rw [if_neg (show ¬ ((Value.ref d == Value.none)=true) from Bool.false_ne_true)];refine wpAny_bind (wpAny_pure ?_);refine wpAny_bind (wpAny_dictEntries hod hdd ?_)
  rw [if_neg (by simp)];refine wpAny_bind (wpAny_pure ?_);refine wpAny_bind (wpAny_dictEpoch hod hdd ?_);rw [if_neg (by simp)];refine wpAny_pure ?_
  simp only [show ¬ ((i:Int) < 0) from by omega,if_false,Int.toNat_natCast,hx];refine wpAny_bind ?_
  first | (refine wpAny_bind (wpAny_typeNameOfWhole_itemiter T (wpAny_pure ?_))) | (refine wpAny_bind (wpAny_typeNameOf_itemiter T (wpAny_pure ?_)))
  refine wpAny_bind (wpAny_isOneOf_itemiter T ?_);show wpAny _ _ (setField (.ref it) 3 (rawInt ((i:Int) + 1)) >>= _) _ _ ⟨hp,g,dr,tk,os⟩
  refine wpAny_bind (wpAny_setField_rec hit (by simp) fun h₁ e1 s1=>?_)
  replace s1:Heap.SameBut it hp h₁:=s1
  replace e1:ItA h₁ it d (i + 1) es.size ep o0 f ok ov:=by
    have z:((i + 1:Nat):Int)=(i:Int) + 1:=by omega
    unfold ItA;rw [z];simpa [rawInt] using e1
  have T1:Shared.TypeIs ⟨h₁,g,dr,tk,os⟩ (.ref it) "dict_itemiterator":=⟨_,e1,rfl⟩
  refine wpAny_bind (wpAny_holding ?_);refine wpAny_bind (wpAny_isOneOf_itemiter T1 ?_);refine wpAny_bind (wpAny_isOneOf_itemiter T1 ?_)
  show wpAny _ _ (Builtin.Dict_items.pairFromOwner (.ref it) 6 e.key e.val) _ _ ⟨h₁,g,dr,tk,os⟩
  unfold Builtin.Dict_items.pairFromOwner;refine wpAny_bind (wpAny_newTuple ?_)
  have e2:ItA (h₁.push { cls:=.type "tuple",data:=.seq #[e.key,e.val] }) it d (i + 1) es.size ep o0 f ok ov:=Heap.get?_push_of_some _ e1
  generalize hg:h₁.push { cls:=.type "tuple",data:=.seq #[e.key,e.val] }=h₂ at e2
  have z1:h₁.objs.size=hp.objs.size:=s1.1;have il:it < hp.objs.size:=Heap.lt_size hit
  have t2:h₂.get? hp.objs.size=some { cls:=.type "tuple",data:=.seq #[e.key,e.val] }:=by rw [← hg,← z1];exact Heap.get?_push_size _ rfl
  have z2:h₂.objs.size=hp.objs.size + 1:=by rw [← hg,Heap.size_push,z1]
  have k2:∀ b o,b≠it→hp.get? b=some o→h₂.get? b=some o:=fun b o hb z=>by rw [← hg];exact Heap.get?_push_of_some _ (s1.extBut b o hb z)
  show wpAny _ _ (Builtin.Dict_items.ownedTupleIsFree (.ref it) >>= _) _ _ ⟨h₂,g,dr,tk,os⟩;rw [z1]
  clear hg e1 s1 T1 z1 h₁;refine wpAny_bind ?_;unfold Builtin.Dict_items.ownedTupleIsFree
  rcases ho0 with ⟨rfl,rfl⟩ | ⟨a,oa,rfl,ha,hai⟩
  · refine wpAny_bind (wpAny_field e2 rfl (x:=.none) rfl (wpAny_pure ?_));simp only [if_true]
    refine wpAny_bind (wpAny_field e2 rfl (x:=ok) rfl ?_);refine wpAny_bind (wpAny_field e2 rfl (x:=ov) rfl ?_)
    refine wpAny_bind (wpAny_setField_rec e2 (by simp) fun h₃ e3 s3=>?_);replace s3:Heap.SameBut it h₂ h₃:=s3;replace e3:ItA h₃ it d (i + 1) es.size ep .none false e.key ov:=e3
    refine wpAny_bind (wpAny_setField_rec e3 (by simp) fun h₄ e4 s4=>?_);replace s4:Heap.SameBut it h₃ h₄:=s4;replace e4:ItA h₄ it d (i + 1) es.size ep .none false e.key e.val:=e4
    refine wpAny_bind (wpAny_setField_rec e4 (by simp) fun h₅ e5 s5=>?_);replace s5:Heap.SameBut it h₄ h₅:=s5;replace e5:ItA h₅ it d (i + 1) es.size ep (rawInt (hp.objs.size:Nat)) false e.key e.val:=e5
    refine wpAny_bind (wpAny_setField_rec e5 (by simp) fun h₆ e6 s6=>?_);replace s6:Heap.SameBut it h₅ h₆:=s6;replace e6:ItA h₆ it d (i + 1) es.size ep (rawInt (hp.objs.size:Nat)) false e.key e.val:=e6
    have k6:∀ b o,b≠it→h₂.get? b=some o→h₆.get? b=some o:=fun b o hb z=>s6.extBut b o hb (s5.extBut b o hb (s4.extBut b o hb (s3.extBut b o hb z)))
    have t6:=k6 _ _ (Nat.ne_of_gt il) t2
    refine wpAny_bind (wpAny_letGo (wpAny_pure (wpAny_pure ⟨_,rfl,wpAny_pure (q h₆ _ _ _ _ e6 (.inr ⟨_,_,rfl,t6,Nat.ne_of_gt il⟩) t6 ?_ (fun b o hb z=>k6 b o hb (k2 b o hb z)) fun a z=>?_)⟩)))
    · show h₆.objs.size=hp.objs.size + 1;rw [s6.1,s5.1,s4.1,s3.1,z2]
    · refine .inl ?_
      have z':(Value.int (hp.objs.size:Nat) 0:Value)=Value.int (a:Nat) 0:=z
      have z'':((hp.objs.size:Nat):Int)=((a:Nat):Int):=by injection z'
      exact (Int.ofNat.inj z'').symm
  · refine wpAny_bind (wpAny_field e2 rfl (x:=rawInt (a:Nat)) rfl ?_);show wpAny _ _ (loadIfAlive (((a:Nat):Int).toNat) >>= _) _ _ _;rw [Int.toNat_natCast]
    have a2:h₂.get? a=some oa:=k2 a oa hai ha
    refine wpAny_bind (PySem.W.kdx_alive a2 ?_);simp only [Option.isNone_some,Bool.false_eq_true,if_false];refine wpAny_bind (wpAny_field e2 rfl (x:=.bool f) rfl ?_)
    cases f with
    | true =>
      rw [if_neg (show ¬ ((Value.bool true != Value.bool true)=true) from Bool.false_ne_true)];refine wpAny_pure ?_;simp only [Bool.false_eq_true,if_false]
      exact wpAny_pure (wpAny_pure ⟨_,rfl,wpAny_pure (q h₂ _ _ _ _ e2 (.inr ⟨_,_,rfl,a2,hai⟩) t2 z2 k2 fun a z=>.inr z)⟩)
    | false =>
      rw [if_pos (show (Value.bool false != Value.bool true)=true from rfl)];refine wpAny_bind (wpAny_setField_rec e2 (by simp) fun h₃ e3 s3=>?_)
      replace s3:Heap.SameBut it h₂ h₃:=s3;replace e3:ItA h₃ it d (i + 1) es.size ep (rawInt (a:Nat)) true ok ov:=e3
      refine wpAny_pure ?_;simp only [Bool.false_eq_true,if_false]
      exact wpAny_pure (wpAny_pure ⟨_,rfl,wpAny_pure (q h₃ _ _ _ _ e3 (.inr ⟨_,_,rfl,s3.extBut _ _ hai a2,hai⟩) (s3.extBut _ _ (Nat.ne_of_gt il) t2) (by show h₃.objs.size=_;rw [s3.1,z2]) (fun b o hb z=>s3.extBut b o hb (k2 b o hb z)) fun a z=>.inr z)⟩)
theorem rit_end {it d:Addr} {i ep:Nat} {es:Array DictEntry} {o0 ok ov:Value} {f:Bool} {Q:Option Value→Shared→Prop} (hh:A.handled=none) (hit:ItA s.heap it d i es.size ep o0 f ok ov) (hm:RawD s.heap d es ep) (hx:es.size≤i)
    (q:∀ h',Heap.ExtBut it s.heap h'→Q none { s with heap:=h' }):wpAny (model P w) A (pyNext (.ref it)) Q E s:=by
  obtain ⟨od,hod,hcd,hdd⟩:=id hm;have T:s.TypeIs (.ref it) "dict_itemiterator":=⟨_,hit,rfl⟩
  unfold pyNext;refine wpAny_bind (wpAny_attempt (wpAny_callSpecial?_slot (name:=Str.ofString "__next__") T F.slot_dict_itemiterator_next (wpAny_call_entry F.slot_dict_itemiterator_next T F.entry_dict_itemiterator_next ?_ (F.args_dict_itemiterator_next_1 _))))
  refine wpAny_bind (wpAny_pure ?_);refine wpAny_bind ?_;refine wpAny_bind ?_
  first | (refine wpAny_bind (wpAny_typeNameOfWhole_itemiter T (wpAny_pure ?_))) | (refine wpAny_bind (wpAny_typeNameOf_itemiter T (wpAny_pure ?_)))
  refine wpAny_bind (wpAny_fieldsOf hit rfl ?_);have own:Builtin.Dict_items.ownsTuple "dict_itemiterator"=true:=by decide
  simp only [own,if_true];show wpAny _ _ (if (Value.ref d == Value.none)=true then _ else _) _ _ s
  rw [if_neg (show ¬ ((Value.ref d == Value.none)=true) from Bool.false_ne_true)];refine wpAny_bind (wpAny_pure ?_);refine wpAny_bind (wpAny_dictEntries hod hdd ?_)
  rw [if_neg (by simp)];refine wpAny_bind (wpAny_pure ?_);refine wpAny_bind (wpAny_dictEpoch hod hdd ?_);rw [if_neg (by simp)];refine wpAny_pure ?_
  simp only [show ¬ ((i:Int) < 0) from by omega,if_false,Int.toNat_natCast,Array.getElem?_eq_none hx];refine wpAny_bind ?_
  first | (refine wpAny_bind (wpAny_typeNameOfWhole_itemiter T (wpAny_pure ?_))) | (refine wpAny_bind (wpAny_typeNameOf_itemiter T (wpAny_pure ?_)))
  show wpAny _ _ (setField (.ref it) 2 .none >>= _) _ _ s;refine wpAny_bind (wpAny_setField hit rfl (by simp) ?_)
  show wpAny _ _ (newExc (.type "StopIteration") [] >>= _) _ _ _;refine wpAny_bind ?_;simp only [newExc,newTuple];refine wpAny_bind (wpAny_newObj_type ?_ (by size_fits))
  refine wpAny_bind (m:=firstArgMember _ _) (wpAny_of_eq (a:=Value.none) (by first | rfl | (simp only [firstArgMember];rfl)) ?_);refine wpAny_newObj_type ?_ (by size_fits)
  simp only [raiseNew];refine wpAny_bind (wpAny_handled ?_);rw [show A.in1.handled=none from hh];refine wpAny_bind (wpAny_pure (wpAny_throw ?_))
  refine wpAny_bind (wpAny_isInstance (T:="StopIteration") (b:=true) ⟨_,Heap.get?_push_size _ rfl,rfl⟩ isSubtype_stop ?_);exact wpAny_pure (q _ (((Heap.SameBut.update ..).extBut.push _).push _))
end
end L2
namespace L2
open PySem PySem.Spec PyProof.Rows
def viewO (r d:Addr):HO:=.ext fun h=>h.IsItemsView r d
def tItems (td:TE):TE:=fun σ H Q=>td σ H fun x H1=>∃ d kvs,x=.ref d∧H1 d=some (.dT kvs)∧∀ r,H1 r=none→Q (.ref r) (upd H1 r (viewO r d))
section
variable {X:Cx} {o:Expr} {apos cpos:Pos} {td:TE}
theorem pe_items (ho:PE X o td) (hbase:attributeBase o "items" X.env (eval o X.env)=eval o X.env:=by rfl) (hline:(apos.endLine == cpos.line)=true:=by rfl):PE X (.Call (.Attribute o "items" apos) [] [] cpos) (tItems td):=by
  intro pins s σ H Q I h
  refine wpAny_Call_method0_late hbase hline (thn (ho pins s σ H _ I h) fun v s1 ⟨x,H1,I1,r1,d,kvs,ex,hd,q1⟩=>?_)
  subst ex
  obtain rfl:v=Value.ref d:=r1
  obtain ⟨t1,t2,t3⟩:=isD_at I1 (.inr ⟨kvs,.inl hd⟩)
  refine ⟨"dict","dict.items",PySem.F.plainAttrs_dict,PySem.F.slot_dict_items,PySem.F.type_dict_items,t1,t2,Calls.callWith_builtin rfl (PySem.evalArgs_none ?_)⟩
  refine wpAny_call_entry PySem.F.slot_dict_items t1 PySem.F.entry_dict_items ?_ (PySem.F.args_dict_items_1 _)
  unfold Builtin.«dict.items»;refine wpAny_bind ?_;unfold Builtin.Dict.noArgs;refine wpAny_bind (wpAny_notOrdered_dict t1 ?_)
  show wpAny _ _ (pure d) _ _ s1;refine wpAny_pure ?_
  show wpAny _ _ (Builtin.Dict.showsAll d >>= _) _ _ s1;unfold Builtin.Dict.showsAll
  rw [if_neg (by rw [t3];exact Bool.false_ne_true)];refine wpAny_bind (wpAny_pure ?_)
  refine wpAny_bind (wpAny_newObj_type (wpAny_pure ⟨_,rfl,?_⟩))
  have hn:H1 s1.heap.objs.size=none:=I1.hok.fresh (Nat.le_refl _)
  have at0:(s1.heap.push { cls:=.type "dict_items",data:=.fields #[.ref d] }).get? s1.heap.objs.size=some { cls:=.type "dict_items",data:=.fields #[.ref d] }:=Heap.get?_push_size _ rfl
  refine ⟨.ref s1.heap.objs.size,_,I1.laid (a:=s1.heap.objs.size) (o:=viewO s1.heap.objs.size d) (t':=s1.toks) (fun b u e=>Heap.get?_push_of_some _ e) (Nat.le_refl _) ?_,rfl,q1 _ hn⟩
  exact ⟨⟨_,at0,rfl,rfl⟩,⟨_,at0⟩,fun h1 h2 ⟨o,e1,e2⟩ k=>⟨o,k o e1,e2⟩⟩
end
def KvAt (H:Hp) (v:V) (kv:List Key × V):Prop:=∃ r p,v=.ref r∧H r=some (.tup [.ref p,kv.2])∧H p=some (.tup (kv.1.map kV))
theorem kvs_mono {H H':Hp} (s:∀ b ys,H b=some (.tup ys)→H' b=some (.tup ys)):∀ {vs:List V} {kvs:List (List Key × V)},Paired (KvAt H) vs kvs→Paired (KvAt H') vs kvs
  | _,_,.nil=>.nil
  | _,_,.cons ⟨r,p,e,h1,h2⟩ t=>.cons ⟨r,p,e,s _ _ h1,s _ _ h2⟩ (kvs_mono s t)
theorem kvs_snoc {H:Hp} {v:V} {q:List Key × V}:∀ {ys:List V} {kvs:List (List Key × V)},Paired (KvAt H) ys kvs→KvAt H v q→Paired (KvAt H) (ys ++ [v]) (kvs ++ [q])
  | _,_,.nil,h=>.cons h .nil
  | _,_,.cons a r,h=>.cons a (kvs_snoc r h)
section
variable {X:Cx} {A:Around} {R:Result→Shared→Prop}
theorem itl_loop {pins:List (Addr × Obj)} {σ:St} {H:Hp} {S it d:Addr} {kvs:List (List Key × V)} {es:Array DictEntry} {ep:Nat} {res:Value} (hh:A.handled=none) (hS:H S=none) (hd:H d=some (.dT kvs)) (Sit:S≠it) (dit:d≠it) (hz:kvs.length≤1000)
    (hes:es.size=kvs.length) (hen:∀ (i:Nat) (e:DictEntry) (kv:List Key × V),es[i]?=some e→kvs[i]?=some kv→∃ p,e.key=.ref p∧H p=some (.tup (kv.1.map kV))∧RelV kv.2 e.val) (fin:∀ s' H' ys,Inv X pins σ H' s'→Same H H'→H' S=some (.lst ys)→Paired (KvAt H') ys kvs→R (.ok (.ret res)) s') :
    ∀ (k i:Nat) (s:Shared) (Hi:Hp) (ys:List V) (o0 ok ov:Value) (f:Bool),kvs.length - i=k→i≤kvs.length→Inv X pins σ Hi s→Same H Hi→Hi S=some (.lst ys)→Paired (KvAt Hi) ys (kvs.take i)→RawD s.heap d es ep→ItA s.heap it d i es.size ep o0 f ok ov →
    ((o0=.none∧f=false)∨∃ (a:Addr) (oa:Obj),o0=rawInt (a:Nat)∧s.heap.get? a=some oa∧a≠it∧a≠S)→FpOk X pins Hi it →
    codeAny (model X.prog X.w) A (.builtin "list.extend.loop" ⟨[.ref S,.ref it,res],[]⟩) R s:=by
  intro k
  induction k with
  | zero =>
    intro i s Hi ys o0 ok ov f hk hi I sm hy pr rd hit ho0 hf
    have e:i=kvs.length:=by omega
    subst e
    refine codeAny_builtin PySem.F.entry_extend_loop ?_;rw [Around.under_plainId PySem.F.plain_extend_loop _]
    show wpAny _ A.in1 (pyNext (.ref it) >>= _) _ _ s
    obtain ⟨f0,f1,f2,f3,f4,f5⟩:=hf
    refine wpAny_bind (rit_end (A:=A.in1) hh hit rd (by omega) fun h' eb=>?_)
    have I1:=I.turned (t':=s.toks) (fun b o hb e=>eb b o hb e) f0 f1 f3 f4 f5
    rw [List.take_length] at pr
    exact wpAny_pure (fin _ Hi ys I1 sm hy pr)
  | succ k ih =>
    intro i s Hi ys o0 ok ov f hk hi I sm hy pr rd hit ho0 hf
    have hlt:i < kvs.length:=by omega
    have hx:es[i]?=some es[i]:=Array.getElem?_eq_getElem (by omega)
    have hkv:kvs[i]?=some kvs[i]:=List.getElem?_eq_getElem hlt
    obtain ⟨p,ek,hp,rv⟩:=hen i _ _ hx hkv
    refine codeAny_builtin PySem.F.entry_extend_loop ?_;rw [Around.under_plainId PySem.F.plain_extend_loop _]
    show wpAny _ A.in1 (pyNext (.ref it) >>= _) _ _ s
    obtain ⟨f0,f1,f2,f3,f4,f5⟩:=id hf
    have ho0':(o0=.none∧f=false)∨∃ (a:Addr) (oa:Obj),o0=rawInt (a:Nat)∧s.heap.get? a=some oa∧a≠it:=by
      rcases ho0 with z | ⟨a,oa,z1,z2,z3,_⟩
      · exact .inl z
      · exact .inr ⟨a,oa,z1,z2,z3⟩
    refine wpAny_bind (rit_next (A:=A.in1) hit rd hx ho0' fun h' o1 f1' k1 v1 hit' ho1 ht hz' kp own=>?_)
    have Sl:S < s.heap.objs.size:=by
      obtain ⟨_,_,_,_,e⟩:=(show ObjOk X.prog X.w Hi s.heap S (.lst ys) from I.hok S _ hy)
      exact Heap.lt_size e
    have tn:s.heap.objs.size≠it:=Nat.ne_of_gt (Heap.lt_size hit)
    have hTn:Hi s.heap.objs.size=none:=I.hok.fresh (Nat.le_refl _)
    have STn:S≠s.heap.objs.size:=Nat.ne_of_lt Sl
    generalize hT:s.heap.objs.size=T at *
    have I6:Inv X pins σ (upd Hi T (.tup [.ref p,kvs[i].2])) { s with heap:=s.heap.push { cls:=.type "tuple",data:=.seq #[es[i].key,es[i].val] } } :=
      I.laid (a:=T) (o:=.tup [.ref p,kvs[i].2]) (t':=s.toks) (fun b u e=>Heap.get?_push_of_some _ e) (by rw [hT];exact Nat.le_refl _) ⟨by show 2≤sizeLine;decide,[es[i].key,es[i].val],.cons (by rw [ek];exact rfl) (.cons rv .nil),⟨_,by rw [← hT];exact Heap.get?_push_size _ rfl,rfl,_,rfl⟩⟩
    have S6:Same Hi (upd Hi T (.tup [.ref p,kvs[i].2])):=isV T hTn
    have I7:Inv X pins σ (upd Hi T (.tup [.ref p,kvs[i].2])) { s with heap:=h' }:=I6.turned (s:={ s with heap:=s.heap.push { cls:=.type "tuple",data:=.seq #[es[i].key,es[i].val] } }) (t':=s.toks) (fun b o hb e=>by
      rcases Heap.get?_push_cases (show (s.heap.push { cls:=.type "tuple",data:=.seq #[es[i].key,es[i].val] }).get? b=some o from e) with ⟨rfl,rfl⟩ | e
      · rw [hT];exact ht
      · exact kp b o hb e) (by rw [upd_ne (Ne.symm tn)];exact f0) f1 f3 f4 f5
    have hy7:(upd Hi T (.tup [.ref p,kvs[i].2])) S=some (.lst ys):=S6 _ _ hy
    obtain ⟨z,its,n,r,hl,e⟩:=I7.lstM hy7
    have yl:ys.length=i:=by
      have:=Paired.length pr
      rw [List.length_take] at this
      omega
    show wpAny _ A.in1 (updateSeq S (·.push (Value.ref T)) >>= _) _ _ _
    have e':h'.get? S=some { cls:=.type "list",data:=.seq its.toArray n }:=e
    refine wpAny_bind (wpAny_updateSeq (s:={ s with heap:=h' }) e' rfl ?_ (by rw [List.size_toArray,← r.length,yl];exact Nat.le_trans (by omega:i≤1000) (by decide)) (by rw [Array.size_push,List.size_toArray,← r.length,yl];exact Nat.le_trans (by omega:i + 1≤1001) (by decide)))
    have I8:=I7.lset (f:=fun xs=>xs.push (Value.ref T)) (t':=s.toks) (its':=its ++ [Value.ref T]) hy7 e' (by simp) (r.append (.cons (show RelV (.ref T) (.ref T) from rfl) .nil)) (by rw [List.length_append,yl];exact Nat.le_trans (by show i + 1≤1001;omega) (by decide))
    have up:∀ b o,b≠S→h'.get? b=some o→(h'.update S (Obj.mapSeq (·.push (Value.ref T)))).get? b=some o:=fun b o hb z=>(Heap.get?_update_other _ _ (Ne.symm hb)).trans z
    have dS:d≠S:=ne_of_none hd hS
    have tS:∀ b zs,Hi b=some (.tup zs)→(upd (upd Hi T (.tup [.ref p,kvs[i].2])) S (.lst (ys ++ [.ref T]))) b=some (.tup zs):=fun b zs z=>by
      rw [upd_ne (ne_of z hy (by intro z;cases z))];exact S6 _ _ z
    have ri:∀ {a b:Nat},(rawInt (a:Int):Value)=rawInt (b:Int)→a=b:=fun {a b} z=>by
      have z':(Value.int (a:Int) 0:Value)=Value.int (b:Int) 0:=z
      have z'':(a:Int)=(b:Int):=by injection z'
      exact Int.ofNat.inj z''
    refine wpAny_pure ⟨plainId_quiet PySem.F.plain_extend_loop _,ih (i + 1) _ _ (ys ++ [.ref T]) o1 k1 v1 f1' (by omega) hlt I8 (fun b o z=>?_) upd_same ?_ (rd.at fun o z=>up d o dS (kp d o dit z)) (up it _ (Ne.symm Sit) hit') ?_ ⟨?_,f1,f2,f3,f4,f5⟩⟩
    · rw [upd_ne (ne_of_none z hS)];exact S6 _ _ (sm _ _ z)
    · rw [List.take_add_one,hkv]
      exact kvs_snoc (kvs_mono tS pr) ⟨T,p,rfl,by rw [upd_ne (Ne.symm STn),upd_same],tS _ _ (sm _ _ hp)⟩
    · rcases ho1 with z | ⟨a,oa,z1,z2,z3⟩
      · exact .inl z
      · have aS:a≠S:=by
          rcases own a z1 with z | z
          · rw [z];exact Ne.symm STn
          · rcases ho0 with ⟨y1,_⟩ | ⟨a',oa',y1,_,_,y4⟩
            · rw [y1] at z;cases z
            · rw [y1] at z
              rw [← ri z];exact y4
        exact .inr ⟨a,oa,z1,up a _ aS z2,z3,aS⟩
    · rw [upd_ne (Ne.symm Sit),upd_ne (Ne.symm tn)];exact f0
end
end L2
namespace L2
open PySem PySem.Spec PyProof.Rows
abbrev cLstI:RC:=fun vs H Q=>∃ r d kvs,vs=[.ref r]∧H r=some (viewO r d)∧H d=some (.dT kvs)∧kvs.length≤1000∧∀ l ys H',Same H H'→H l=none→H' l=some (.lst ys)→Paired (KvAt H') ys kvs→Q (.ref l) H'
theorem view_at {P:Program} {w:World} {H:Hp} {h:Heap} {r d:Addr} (k:HOk P w H h) (e:H r=some (viewO r d)):h.IsItemsView r d:=(k r _ e).1
theorem rel_get {H:Hp}:∀ {kvs:List (List Key × V)} {xs:List (List Key × Addr × Value)},Paired (fun (p:List Key × V) (q:List Key × Addr × Value)=>p.1=q.1∧H q.2.1=some (.tup (p.1.map kV))∧RelV p.2 q.2.2) kvs xs→∀ {i:Nat} {kv:List Key × V} {x:List Key × Addr × Value},kvs[i]?=some kv→xs[i]?=some x→H x.2.1=some (.tup (kv.1.map kV))∧RelV kv.2 x.2.2 :=
  fun {_ _} h {_ _ _} e1 e2=>(paired_get h e1 e2).2
section
variable {X:Cx}
theorem raw_of {pins:List (Addr × Obj)} {σ:St} {H:Hp} {s:Shared} {d:Addr} {kvs:List (List Key × V)} (I:Inv X pins σ H s) (e:H d=some (.dT kvs)):∃ es ep,RawD s.heap d es ep∧es.size=kvs.length ∧
    ∀ (i:Nat) (en:DictEntry) (kv:List Key × V),es[i]?=some en→kvs[i]?=some kv→∃ p,en.key=.ref p∧H p=some (.tup (kv.1.map kV))∧RelV kv.2 en.val:=by
  obtain ⟨z,hd,xs,rel,o,es,ep,h1,h2,h3,h4,_⟩:=(show ObjOk X.prog X.w H s.heap d (.dT kvs) from I.hok d _ e)
  have l1:es.size=xs.length:=by rw [← Array.length_toList,h4,List.length_map]
  refine ⟨es,ep,⟨o,h1,h2,h3⟩,by rw [l1,← Paired.length rel],fun i en kv e1 e2=>?_⟩
  have e3:es.toList[i]?=some en:=by rw [Array.getElem?_toList];exact e1
  rw [h4,List.getElem?_map] at e3
  obtain ⟨x,hx,rfl⟩:=Option.map_eq_some_iff.mp e3
  obtain ⟨g1,g2⟩:=rel_get rel e2 hx
  exact ⟨x.2.1,rfl,g1,g2⟩
theorem ext_items {A:Around} {R:Result→Shared→Prop} {pins:List (Addr × Obj)} {σ:St} {H:Hp} {s:Shared} {S r d:Addr} {kvs:List (List Key × V)} {res:Value} {c:Nat} (hh:A.handled=none) (hS:H S=none) (hr:H r=some (viewO r d)) (hd:H d=some (.dT kvs)) (hl:kvs.length≤1000)
    (I2:Inv X pins σ (upd H S (.lst [])) s) (T2:s.heap.get? S=some { cls:=.type "list",data:=.seq #[] c }) (hR:∀ s' H' ys,Inv X pins σ H' s'→Same H H'→H' S=some (.lst ys)→Paired (KvAt H') ys kvs→R (.ok (.ret res)) s') :
    wpAny (model X.prog X.w) A.in1 (Builtin.List.listExtendWith (.ref S) (.ref r) res) (fun fin s'=>match fin with | .done f=>R (.ok f) s' | .again c'=>c'.quiet=true∧codeAny (model X.prog X.w) A c' R s') (fun e s'=>R (.error e) s') s:=by
  have Sr:r≠S:=ne_of_none hr hS
  have Sd:d≠S:=ne_of_none hd hS
  have SS:Same H (upd H S (.lst [])):=isV S hS
  obtain ⟨es,ep,rd,hes,hen0⟩:=raw_of I2 (SS _ _ hd)
  have hen:∀ (i:Nat) (en:DictEntry) (kv:List Key × V),es[i]?=some en→kvs[i]?=some kv→∃ p,en.key=.ref p∧H p=some (.tup (kv.1.map kV))∧RelV kv.2 en.val:=fun i en kv e1 e2=>by
    obtain ⟨p,g1,g2,g3⟩:=hen0 i en kv e1 e2
    refine ⟨p,g1,?_,g3⟩
    by_cases hp:p=S
    · rw [hp,upd_same] at g2;cases g2
    · rwa [upd_ne hp] at g2
  have vw:=view_at I2.hok (SS _ _ hr)
  unfold Builtin.List.listExtendWith
  refine wpAny_bind (wpAny_typeOf (T:="dict_items") vw.typeIs ?_)
  have c1:Builtin.List.listSameRef (.ref S) (.ref r)=false:=by simp [Builtin.List.listSameRef,Ne.symm Sr]
  have c2:(Value.type "dict_items" == Value.type "list")=false:=by decide
  have c3:(Value.type "dict_items" == Value.type "tuple")=false:=by decide
  simp only [c1,c2,c3,Bool.or_false,Bool.false_eq_true,if_false]
  refine wpAny_bind (rit_iter vw rd ?_)
  have ni:(upd H S (.lst [])) s.heap.objs.size=none:=I2.hok.fresh (Nat.le_refl _)
  have fp:FpOk X pins (upd H S (.lst [])) s.heap.objs.size:=I2.fpOk (Nat.le_refl _) ni
  have Si:S≠s.heap.objs.size:=Nat.ne_of_lt (Heap.lt_size T2)
  have di:d≠s.heap.objs.size:=Nat.ne_of_lt rd.lt
  have I3:Inv X pins σ (upd H S (.lst [])) { s with heap:=s.heap.push { cls:=.type "dict_itemiterator",data:=.fields #[.none,.bool false,.ref d,.int 0 0,.int es.size 0,.int ep 0,.none,.none] } }:=I2.kept (t':=s.toks) fun b o e=>Heap.get?_push_of_some _ e
  have T3:=Heap.get?_push_of_some { cls:=.type "dict_itemiterator",data:=.fields #[.none,.bool false,.ref d,.int 0 0,.int es.size 0,.int ep 0,.none,.none] } T2
  have it3:ItA (s.heap.push { cls:=.type "dict_itemiterator",data:=.fields #[.none,.bool false,.ref d,.int 0 0,.int es.size 0,.int ep 0,.none,.none] }) s.heap.objs.size d 0 es.size ep .none false .none .none:=Heap.get?_push_size _ rfl
  have rd3:RawD (s.heap.push { cls:=.type "dict_itemiterator",data:=.fields #[.none,.bool false,.ref d,.int 0 0,.int es.size 0,.int ep 0,.none,.none] }) d es ep:=rd.at fun o e=>Heap.get?_push_of_some _ e
  have vw3:(s.heap.push { cls:=.type "dict_itemiterator",data:=.fields #[.none,.bool false,.ref d,.int 0 0,.int es.size 0,.int ep 0,.none,.none] }).IsItemsView r d:=let ⟨o,ho,x⟩:=vw;⟨o,Heap.get?_push_of_some _ ho,x⟩
  generalize hh3:s.heap.push { cls:=.type "dict_itemiterator",data:=.fields #[.none,.bool false,.ref d,.int 0 0,.int es.size 0,.int ep 0,.none,.none] }=h3 at *
  generalize s.heap.objs.size=it at *
  refine wpAny_bind (wpAny_holding (PySem.W.kdx_hint vw3.typeIs ?_))
  have fin:∀ (h4:Heap) (tk:Nat) (R:Result→Shared→Prop),(∀ s' H' ys,Inv X pins σ H' s'→Same H H'→H' S=some (.lst ys)→Paired (KvAt H') ys kvs→R (.ok (.ret res)) s')→Inv X pins σ (upd H S (.lst [])) { s with heap:=h4,toks:=tk }→RawD h4 d es ep→ItA h4 it d 0 es.size ep .none false .none .none →
      codeAny (model X.prog X.w) A (.builtin "list.extend.loop" ⟨[.ref S,.ref it,res],[]⟩) R { s with heap:=h4,toks:=tk }:=fun h4 tk R hR I4 rd4 it4 =>
    itl_loop (A:=A) (H:=H) (es:=es) (ep:=ep) hh hS hd Si di hl hes hen hR kvs.length 0 _ (upd H S (.lst [])) [] .none .none .none false (Nat.sub_zero _) (Nat.zero_le _) I4 SS upd_same .nil rd4 it4 (.inl ⟨rfl,rfl⟩) fp
  refine wpAny_ite_split (fun _=>?_) (fun _=>wpAny_pure ⟨plainId_quiet PySem.F.plain_extend_loop _,fin h3 s.toks _ hR I3 rd3 it3⟩)
  refine wpAny_bind (wpAny_rule ?_);refine wpAny_bind ?_
  show wpAny _ _ (updateSeq S (·.push .none) >>= fun _=>updateSeq S (·.pop)) _ _ _;refine wpAny_bind (wpAny_updateSeq T3 rfl ?_)
  have T4:=Heap.get?_update_self (Obj.mapSeq (·.push Value.none)) T3 rfl
  refine wpAny_updateSeq (hz:=by seq_fits) T4 rfl ?_
  have I4:=I3.lset (f:=fun xs=>xs.push Value.none) (its:=[]) (its':=[Value.none]) (ys:=[V.non]) (t':=s.toks) upd_same T3 rfl (.cons rfl .nil) (by show 1≤sizeLine;decide)
  have I5:=I4.lset (f:=fun xs=>xs.pop) (its:=[Value.none]) (its':=[]) (ys:=[]) (t':=s.toks) upd_same T4 rfl .nil (Nat.zero_le _)
  rw [upd_upd,upd_upd] at I5
  have oth:∀ b o,b≠S→h3.get? b=some o→((h3.update S (Obj.mapSeq (·.push Value.none))).update S (Obj.mapSeq (·.pop))).get? b=some o:=fun b o hb e=>(Heap.get?_update_other _ _ (Ne.symm hb)).trans ((Heap.get?_update_other _ _ (Ne.symm hb)).trans e)
  exact wpAny_pure ⟨plainId_quiet PySem.F.plain_extend_loop _,fin _ s.toks _ hR I5 (rd3.at fun o e=>oth d o Sd e) (oth it _ (Ne.symm Si) it3)⟩
theorem call_list_items (hc:X.calm=true):CallR X (.type "list") cLstI:=by
  intro pins s σ H vs us Q I r0 h
  obtain ⟨r,d,kvs,rfl,hr,hd,hl,q⟩:=h
  obtain ⟨u,rfl,ru⟩:=vals1 r0
  cases ru
  have hh:X.A.handled=none:=I.ok.hd hc
  refine callType_codes (Q₁:=fun obj s₁=>obj=.ref s.heap.objs.size∧s₁={ s with heap:=s.heap.push { cls:=.type "list",data:=.seq #[] } }) PySem.F.called_list (PySem.F.typeCall_list_1 _) PySem.F.entry_list_init (code_list_new _ ⟨rfl,rfl⟩) ?_;rintro obj s₁ ⟨rfl,rfl⟩
  have hS:H s.heap.objs.size=none:=I.hok.fresh (Nat.le_refl _)
  have I1:Inv X pins σ (upd H s.heap.objs.size (.lst [])) { s with heap:=s.heap.push { cls:=.type "list",data:=.seq #[] } }:=I.lnew (its:=[]) (t':=s.toks) .nil (Nat.zero_le _)
  have T0:(s.heap.push { cls:=.type "list",data:=.seq #[] }).get? s.heap.objs.size=some { cls:=.type "list",data:=.seq #[] }:=Heap.get?_push_size _ rfl
  generalize hT:s.heap.objs.size=S at *
  refine ⟨⟨_,T0,rfl⟩,PySem.F.args_list_init_2 _ _,?_⟩
  show wpAny _ _ (do let old ← Builtin.List.listItems (.ref S);Builtin.List.listUpdate (.ref S) (fun _=>#[]);letGo old.toList.reverse;Builtin.List.listExtendWith (.ref S) (.ref r) .none) _ _ _
  refine wpAny_bind ?_;unfold Builtin.List.listItems;refine wpAny_bind (wpAny_seqItems T0 rfl (wpAny_pure ?_))
  show wpAny _ _ (updateSeq S (fun _=>#[]) >>= fun _=>letGo (#[]:Array Value).toList.reverse >>= fun _=>Builtin.List.listExtendWith (.ref S) (.ref r) .none) _ _ _
  refine wpAny_bind (wpAny_updateSeq T0 rfl ?_)
  have I2:=I1.lset (f:=fun _=>(#[]:Array Value)) (its:=[]) (its':=[]) (ys:=[]) (t':=s.toks) upd_same T0 rfl .nil (Nat.zero_le _)
  rw [upd_upd] at I2
  have T2:=Heap.get?_update_self (Obj.mapSeq (fun _=>(#[]:Array Value))) T0 rfl
  refine wpAny_bind (wpAny_letGo ?_)
  generalize hh2:(s.heap.push { cls:=.type "list",data:=.seq #[] }).update S (Obj.mapSeq (fun _=>(#[]:Array Value)))=h2 at *
  exact ext_items (A:=X.A.in1) (H:=H) hh hS hr hd hl I2 T2 fun s' H' ys I' sm hy pr=>⟨rfl,.ref S,H',I',rfl,q S ys H' sm hS hy pr⟩
end
end L2
namespace L2
open PySem PySem.Spec PyProof.Rows PySem.W
section
variable {X:Cx}
theorem coll_items {A:Around} {E:Value→Shared→Prop} {R:List Value→Shared→Prop} {pins:List (Addr × Obj)} {σ:St} {H:Hp} {s:Shared} {r d:Addr} {kvs:List (List Key × V)} (hh:A.handled=none) (hr:H r=some (viewO r d)) (hd:H d=some (.dT kvs)) (hl:kvs.length≤1000) (I:Inv X pins σ H s)
    (h:∀ s1 H' ys us,Inv X pins σ H' s1→Same H H'→Paired (KvAt H') ys kvs→Vals ys us→R us s1):wpAny (model X.prog X.w) A (collect (.ref r)) R E s:=by
  have hS:H s.heap.objs.size=none:=I.hok.fresh (Nat.le_refl _)
  have I1:Inv X pins σ (upd H s.heap.objs.size (.lst [])) { s with heap:=s.heap.push { cls:=.type "list",data:=.seq ([]:List Value).toArray } }:=I.lnew (its:=[]) (t':=s.toks) .nil (Nat.zero_le _)
  have T1:(s.heap.push { cls:=.type "list",data:=.seq ([]:List Value).toArray }).get? s.heap.objs.size=some { cls:=.type "list",data:=.seq #[] }:=Heap.get?_push_size _ rfl
  unfold collect;refine wpAny_bind (wpAny_runValue (codeAny_builtin entry_proto_collect' ?_));rw [Around.under_plainId PySem.F.plain_proto_collect _]
  show wpAny _ A.in1 (newList [] >>= fun l=>again (.builtin "list.__iadd__" ⟨[l,.ref r],[]⟩)) _ _ s;refine wpAny_bind (wpAny_newObj_type ?_)
  refine wpAny_pure ⟨plainId_quiet PySem.F.plain_list_iadd _,codeAny_builtin entry_list_iadd' ?_⟩;rw [Around.under_plainId PySem.F.plain_list_iadd _]
  generalize s.heap.objs.size=S at *
  show wpAny _ A.in1 (Builtin.List.listExtendWith (.ref S) (.ref r) (.ref S)) _ _ _
  have key:=ext_items (A:=A) (R:=fun (q:Result) (s':Shared)=>∃ H' ys,q=.ok (.ret (.ref S))∧Inv X pins σ H' s'∧Same H H'∧H' S=some (.lst ys)∧Paired (KvAt H') ys kvs) (res:=.ref S) hh hS hr hd hl I1 T1 fun s' H' ys I' sm hy pr=>⟨H',ys,rfl,I',sm,hy,pr⟩
  have fin:∀ s':Shared,(∃ H' ys,Inv X pins σ H' s'∧Same H H'∧H' S=some (.lst ys)∧Paired (KvAt H') ys kvs)→wpAny (model X.prog X.w) A (load S >>= fun o=>match o.data with | .seq xs _=>pure xs.toList | _=>unsupported "internal:collect") R E s':=fun s' ⟨H',ys,I',sm,hy,pr⟩=>by
    obtain ⟨z,its,n,rv,hl',e⟩:=I'.lstM hy
    refine wpAny_bind (wpAny_load e ?_)
    refine wpAny_pure ?_
    exact h s' H' ys its I' sm pr rv
  refine wpAny_mono key (fun f s' x=>?_) fun e s' x=>?_
  · cases f with
    | done f =>
      obtain ⟨H',ys,e,x⟩:=x
      cases e
      exact fin s' ⟨H',ys,x⟩
    | again c₁ =>
      refine ⟨x.1,codeAny_mono x.2 fun q s₂ y=>?_⟩
      obtain ⟨H',ys,rfl,y⟩:=y
      exact fin s₂ ⟨H',ys,y⟩
  · obtain ⟨_,_,e',_⟩:=x
    cases e'
end
section
variable {P:Program} {w:World} {A:Around} {E:Value→Shared→Prop} {s:Shared}
theorem lt_place {x y:Addr} {a b:Str × Int} {Q:Bool→Shared→Prop} (hu:A.units < cLine) (hx:PlAt s.heap (.ref x) a) (hy:PlAt s.heap (.ref y) b) (h:Q (placeLt a b) s):wpAny (model P w) A (oneLt' false (.ref x) (.ref y)) Q E s:=by
  obtain ⟨p,o,t,u,n,e1,ho,hc,hd⟩:=hx
  obtain ⟨p2,o2,t2,u2,n2,e2,ho2,hc2,hd2⟩:=hy
  cases e1
  cases e2
  obtain ⟨c,dd,dat,sl⟩:=o
  obtain ⟨c2,dd2,dat2,sl2⟩:=o2
  simp only at hc hd hc2 hd2
  subst hc hd hc2 hd2
  have T1:s.TypeIs (.ref x) "tuple":=⟨_,ho,rfl⟩
  have T2:s.TypeIs (.ref y) "tuple":=⟨_,ho2,rfl⟩
  refine kat_one _ _ ?_
  show wpAny _ _ (richCompare .Lt (.ref x) (.ref y)) _ _ _
  refine wpAny_richCompare_same_room T1 T2 PySem.F.slot_tuple_lt ?_ hu
  exact call_meets PySem.F.slot_tuple_lt T1 PySem.F.entry_tuple_lt (PySem.F.args_tuple_lt_2 _ _) (tuple_lt_place x y a.1 b.1 a.2 b.2 t u t2 u2 n n2 dd dd2 sl sl2) ⟨ho,ho2,by simp,h⟩
theorem pl_key {h:Heap} {x:Addr} {a:Str × Int} (hx:PlAt h (.ref x) a):IsTupleKey (mixKind P w) h (plKey a) x:=by
  obtain ⟨p,o,t,u,n,e1,ho,hc,hd⟩:=hx
  cases e1
  exact ⟨o,_,n,ho,hc,hd,items_are (ks:=plKey a) (.cons ⟨t,rfl⟩ (.cons ⟨u,rfl⟩ .nil))⟩
def RvAt (h:Heap) (v:Value) (q:Row):Prop:=∃ a o p t n,v=.ref a∧h.get? a=some o∧o.cls=.type "tuple"∧o.data=.seq #[.ref p,.int q.2 t] n∧PlAt h (.ref p) q.1
theorem RvAt.keep {h h':Heap} {v:Value} {q:Row} (x:RvAt h v q) (k:∀ b o,h.get? b=some o→h'.get? b=some o):RvAt h' v q:=by
  obtain ⟨a,o,p,t,n,e,ho,hc,hd,hp⟩:=x
  exact ⟨a,o,p,t,n,e,k _ _ ho,hc,hd,hp.keep k⟩
theorem ask_row {x y:Value} {a b:Row} {Q:Bool→Shared→Prop} (hu:A.units < cLine) (hx:RvAt s.heap x a) (hy:RvAt s.heap y b) (h:Q (placeLt a.1 b.1) s) (hn:a.1≠b.1):wpAny (model P w) A (keyLt' (tuples' false) x y) Q E s:=by
  obtain ⟨p,o,pp,t,n,rfl,ho,hc,hd,hp⟩:=hx
  obtain ⟨p2,o2,pp2,t2,n2,rfl,ho2,hc2,hd2,hp2⟩:=hy
  refine kat_lt ho hd ho2 hd2 (kat_cons (wpAny_eqBool_tuple (knd:=mixKind P w) hu (pl_key hp) (pl_key hp2) (kat_go (fun e=>?_) fun e=>kat_no ?_)))
  · exact absurd (plKey_inj (of_decide_eq_true e)) hn
  · exact lt_place hu hp hp2 h
theorem kind_row {vs:List Value} {qs:List Row} {Q:SortKind→Shared→Prop} (hl:vs.length=qs.length) (hv:∀ (i:Nat) (v:Value) (q:Row),vs[i]?=some v→qs[i]?=some q→RvAt s.heap v q) (h2:0 < vs.length) (h:Q (tuples' false) s) :
    wpAny (model P w) A (keyKind' vs.toArray) Q E s:=by
  have T:∀ (vs:List Value) (qs:List Row),vs.length=qs.length→(∀ (i:Nat) (v:Value) (q:Row),vs[i]?=some v→qs[i]?=some q→RvAt s.heap v q)→∃ fs,KatTups s.heap vs fs∧fs.length=vs.length∧∀ v∈fs,∃ p o,v=Value.ref p∧s.heap.get? p=some o∧o.cls=.type "tuple":=by
    intro vs
    induction vs with
    | nil=>exact fun qs _ _=>⟨[],trivial,rfl,fun _ z=>nomatch z⟩
    | cons v r ih =>
      intro qs hl hv
      match qs,hl with
      | q :: qr,hl =>
        obtain ⟨fs,k,kl,kf⟩:=ih qr (by simpa using hl) fun i v' q' e1 e2=>hv (i + 1) v' q' (by simpa using e1) (by simpa using e2)
        obtain ⟨a,o,p,t,n,rfl,ho,hc,hd,hp⟩:=hv 0 v q rfl rfl
        refine ⟨.ref p :: fs,KatTups.cons ho hc hd rfl k,by simp [kl],fun z hz=>?_⟩
        rcases List.mem_cons.mp hz with rfl | hz
        · obtain ⟨p',o',_,_,_,e,g1,g2,_⟩:=hp
          cases e
          exact ⟨_,o',rfl,g1,g2⟩
        · exact kf z hz
  obtain ⟨fs,k,kl,kf⟩:=T vs qs hl hv
  refine kat_kind (T:=.type "tuple") k (by omega) (fun v hv=>?_) (by decide) h
  obtain ⟨p,o,rfl,g1,g2⟩:=kf v hv
  exact g2 ▸ (PySem.W.Looks.ld g1).andThen .now
theorem sorted_pure2 {l:Addr} {κ:SortKind} {Q:Value→Shared→Prop} (G:List Value→(Nat→Nat→Bool)→Shared→Prop)
    (coll:∀ R:List Value→Shared→Prop,(∀ vs lt s1,G vs lt s1→R vs s1)→wpAny (model P w) A.in1 (collect (.ref l)) R E s)
    (h64:∀ vs lt s1,G vs lt s1→vs.length < 64∧SO lt vs.length)
    (hk:∀ vs lt s1,G vs lt s1→2≤vs.length→∀ (h:Heap) (Q:SortKind→Shared→Prop),(∀ b o,s1.heap.get? b=some o→h.get? b=some o)→Q κ { s1 with heap:=h }→wpAny (model P w) A.in1.in1 (keyKind' vs.toArray) Q (fun _ _=>False) { s1 with heap:=h })
    (hc:∀ vs lt s1,G vs lt s1→∀ (h:Heap) i j C,(∀ b o,s1.heap.get? b=some o→h.get? b=some o)→i < vs.length→j < vs.length→i≠j→C (lt i j) { s1 with heap:=h }→kas_ask P w A.in1.in1 κ vs i j C { s1 with heap:=h })
    (fin:∀ vs lt s1,G vs lt s1→∀ (h':Heap) (p:Array Nat) (c:Nat),(∀ b o,s1.heap.get? b=some o→h'.get? b=some o)→h'.get? s1.heap.objs.size=some (seqObj "list" (outOf vs p).toArray c)→PP vs.length p→Rise lt p vs.length→Q (.ref s1.heap.objs.size) { s1 with heap:=h' }) :
    wpAny (model P w) A (call (.builtin "sorted") [.ref l]) Q E s:=by
  refine Calls.call_function_entry kind_sorted plain_sorted entry_sorted (args_sorted1 _) ?_;unfold Builtin.«sorted»
  refine wpAny_bind (m:=checkCount "sorted" 1 1 _) (wpAny_pure ?_);refine wpAny_bind (coll _ fun vs lt s1 g=>?_)
  obtain ⟨l64,S⟩:=h64 vs lt s1 g
  refine wpAny_bind (wpAny_newList ?_ (by rw [sizeLine_eq];omega))
  have hoL:(s1.heap.push (seqObj "list" vs.toArray 0)).get? s1.heap.objs.size=some (seqObj "list" vs.toArray 0):=Heap.get?_push_size _ rfl
  have kept:∀ h',Kp s1.heap.objs.size (s1.heap.push (seqObj "list" vs.toArray 0)) h'→∀ b o,s1.heap.get? b=some o→h'.get? b=some o:=fun h' k b o e=>k b o (Nat.ne_of_lt (Heap.lt_size e)) (Heap.get?_push_of_some _ e)
  refine wpAny_bind (wpAny_holding (wpAny_call_entry slot_list_sort ⟨_,hoL,rfl⟩ entry_list_sort (lsort_pure (s:={ s1 with heap:=s1.heap.push (seqObj "list" vs.toArray 0) }) hoL l64 (κ:=κ) (lt:=lt) (fun h2 h' Q' k q=>?_) (fun h' i j C k hi hj hij q=>?_) S fun h' p c k ho hp hr=>?_) (args_list_sort _)))
  · exact hk vs lt s1 g h2 h' Q' (kept h' k) q
  · exact hc vs lt s1 g h' i j C (kept h' k) hi hj hij q
  · exact ⟨_,rfl,wpAny_pure ⟨_,rfl,fin vs lt s1 g h' p c (kept h' k) ho hp hr⟩⟩
end
end L2
namespace L2
open PySem PySem.Spec PyProof.Rows PySem.W
def d0:Row:=(("",0),0)
theorem its_of (rows:List Row):∃ its:List Row,dOf rows=its.map (fun q=>(plKey q.1,V.int q.2))∧(its.map (·.1)).Nodup∧∀ p w,(p,w)∈its↔lastW rows p=some w:=by
  have h:=okKv_dOf rows
  have:∀ (kvs:List (List Key × V)),(∀ kv∈kvs,∃ (p:Pl) (w:Int),kv=(plKey p,.int w))→∃ its:List Row,kvs=its.map (fun q=>(plKey q.1,V.int q.2)):=fun kvs=>by
    induction kvs with
    | nil=>exact fun _=>⟨[],rfl⟩
    | cons kv r ih =>
      intro hk
      obtain ⟨qs,e⟩:=ih fun z hz=>hk z (List.mem_cons_of_mem _ hz)
      obtain ⟨p,w,e2⟩:=hk kv List.mem_cons_self
      exact ⟨(p,w) :: qs,by rw [List.map_cons,← e,e2]⟩
  obtain ⟨its,e⟩:=this _ h.2
  refine ⟨its,e,?_,fun p w=>?_⟩
  · have:=h.1
    rw [e,List.map_map] at this
    refine nodup_map_inj (f:=plKey) ?_
    rw [List.map_map]
    exact this
  · have m:=mem_dOf (rows:=rows) (kv:=(plKey p,V.int w))
    constructor
    · intro hm
      obtain ⟨p',w',e1,e2⟩:=m.mp (by rw [e];exact List.mem_map.mpr ⟨_,hm,rfl⟩)
      have e3:=plKey_inj (Prod.mk.inj e1).1
      have e4:=V.int.inj (Prod.mk.inj e1).2
      rw [e3,e4];exact e2
    · intro hw
      have hm:=m.mpr ⟨p,w,rfl,hw⟩
      rw [e] at hm
      obtain ⟨q,hq,e1⟩:=List.mem_map.mp hm
      have e3:=plKey_inj (Prod.mk.inj e1).1
      have e4:=V.int.inj (Prod.mk.inj e1).2
      rw [← e3,← e4];exact hq
theorem range_getD {α:Type} (l:List α) (d:α):(List.range l.length).map (fun i=>l.getD i d)=l:=by
  apply List.ext_getElem?
  intro i
  rw [List.getElem?_map]
  by_cases hi:i < l.length
  · rw [List.getElem?_range hi,List.getElem?_eq_getElem hi]
    simp [List.getD_eq_getElem?_getD,List.getElem?_eq_getElem hi]
  · rw [List.getElem?_eq_none (by simpa using hi),List.getElem?_eq_none (by omega)]
    rfl
theorem PP.list {n:Nat} {p:Array Nat} (h:PP n p):p.toList.Perm (List.range n):=by
  have:=Array.perm_iff_toList_perm.mp h
  simpa using this
theorem PP.lt {n:Nat} {p:Array Nat} (h:PP n p):∀ i∈p.toList,i < n:=fun i hi=>by
  have:=h.list.mem_iff.mp hi
  simpa using this
theorem rise_pairs {α:Type} {F:α→α→Bool} {l:List α} {d:α} {n:Nat} {p:Array Nat} (hp:PP n p) (hr:Rise (fun i j=>F (l.getD i d) (l.getD j d)) p n):(p.toList.map fun i=>l.getD i d).Pairwise fun a b=>F a b=true:=by
  rw [List.pairwise_map,List.pairwise_iff_getElem]
  intro i j hi hj hij
  rw [Array.length_toList] at hi hj
  have g1:=gt_eq hi
  have g2:=gt_eq hj
  have sz:=hp.size
  have r:=hr i j hij (by omega)
  have x1:p.toList[i]=gt p i:=by
    rw [Array.getElem?_eq_getElem hi] at g1
    simpa using g1
  have x2:p.toList[j]=gt p j:=by
    rw [Array.getElem?_eq_getElem hj] at g2
    simpa using g2
  rw [x1,x2];exact r
theorem paired_pick {α β:Type} {F:α→β→Prop} {l₁:List α} {l₂:List β} (h:Paired F l₁ l₂) (a:α) (b:β):∀ {is:List Nat},(∀ i∈is,i < l₁.length)→Paired F (is.map fun i=>l₁.getD i a) (is.map fun i=>l₂.getD i b)
  | [],_=>.nil
  | i :: r,hi=>by
    have l:=Paired.length h
    have h1:=hi i List.mem_cons_self
    refine .cons ?_ (paired_pick h a b fun j hj=>hi j (List.mem_cons_of_mem _ hj))
    show F (l₁.getD i a) (l₂.getD i b)
    have e1:=List.getElem?_eq_getElem h1
    have e2:l₂[i]?=some l₂[i]:=List.getElem?_eq_getElem (by omega)
    rw [List.getD_eq_getElem?_getD,List.getD_eq_getElem?_getD,e1,e2]
    exact paired_get h e1 e2
abbrev cSrtI:RC:=fun vs H Q=>∃ r d rows,vs=[.ref r]∧H r=some (viewO r d)∧H d=some (.dT (dOf rows))∧(dOf rows).length < 64 ∧
  ∀ l ys srt H',Same H H'→H l=none→H' l=some (.lst ys)→Paired (PrAt H') ys srt→Rising srt→(∀ p w,(p,w)∈srt↔lastW rows p=some w)→Q (.ref l) H'
theorem kv_pr {H:Hp}:∀ {ys:List V} {its:List Row},Paired (KvAt H) ys (its.map fun q=>(plKey q.1,V.int q.2))→Paired (PrAt H) ys its
  | _,[],h=>by cases h;exact .nil
  | _,q :: r,h=>by
    rw [List.map_cons] at h
    cases h with
    | cons a t=>exact .cons a (kv_pr t)
section
variable {X:Cx}
theorem rv_at {pins:List (Addr × Obj)} {σ:St} {H:Hp} {s:Shared} {v:V} {u:Value} {q:Row} (I:Inv X pins σ H s) (h:PrAt H v q) (r:RelV v u):RvAt s.heap u q:=by
  obtain ⟨a,p,rfl,h1,h2⟩:=h
  cases r
  obtain ⟨_,its,rv,o,o1,o2,n,o3⟩:=(show ObjOk X.prog X.w H s.heap a (.tup [.ref p,.int q.2]) from I.hok a _ h1)
  cases rv with
  | cons r1 rr =>
    cases rr with
    | cons r2 rn =>
      cases rn
      cases r1
      obtain ⟨t,rfl⟩:=r2
      exact ⟨a,o,p,t,n,rfl,o1,o2,o3,place_at I h2⟩
theorem call_sorted_items (hc:X.calm=true) (hu:X.A.units + 3 < cLine):CallR X (.builtin "sorted") cSrtI:=by
  intro pins s σ H vs us Q I r0 h
  obtain ⟨r,d,rows,rfl,hr,hd,h64,q⟩:=h
  obtain ⟨u,rfl,ru⟩:=vals1 r0
  cases ru
  have hh:X.A.handled=none:=I.ok.hd hc
  obtain ⟨its,ei,nd,mi⟩:=its_of rows
  have li:(dOf rows).length=its.length:=by rw [ei,List.length_map]
  have so:=placeLt_so nd
  have vat:∀ {s1:Shared} {H':Hp} {ys:List V} {vs:List Value},Inv X pins σ H' s1→Paired (PrAt H') ys its→Vals ys vs→∀ (i:Nat) (q:Row),its[i]?=some q→∃ v,vs[i]?=some v∧RvAt s1.heap v q:=fun {s1 H' ys vs} I' pr rv i q hq=>by
    have hi:=(List.getElem?_eq_some_iff.mp hq).1
    have l1:=Paired.length pr
    obtain ⟨y,hy⟩:∃ y,ys[i]?=some y:=⟨_,List.getElem?_eq_getElem (by omega)⟩
    obtain ⟨u,hu',ru⟩:=rv.get hy
    exact ⟨u,hu',rv_at I' (paired_get pr hy hq) ru⟩
  refine sorted_pure2 (κ:=tuples' false) (fun vs lt s1=>∃ H' ys,Inv X pins σ H' s1∧Same H H'∧Paired (PrAt H') ys its∧Vals ys vs∧lt=fun i j=>placeLt ((its.map (·.1)).getD i (("",0):Pl)) ((its.map (·.1)).getD j (("",0):Pl)))
    (fun R hR=>coll_items (A:=X.A.in1) hh hr hd (by omega) I fun s1 H' ys us I' sm pr rv=>hR us _ s1 ⟨H',ys,I',sm,kv_pr (by rw [← ei];exact pr),rv,rfl⟩) ?_ ?_ ?_ ?_
  · rintro vs lt s1 ⟨H',ys,I',sm,pr,rv,rfl⟩
    have l1:=Paired.length pr
    have l2:=rv.length
    refine ⟨by omega,?_⟩
    rw [show vs.length=(its.map (·.1)).length by rw [List.length_map];omega]
    exact so
  · rintro vs lt s1 ⟨H',ys,I',sm,pr,rv,rfl⟩ h2 h Q' k q'
    have l1:=Paired.length pr
    have l2:=rv.length
    refine kind_row (s:={ s1 with heap:=h }) (qs:=its) (by omega) (fun i v q hv hq=>?_) (by omega) q'
    obtain ⟨v',hv',rr⟩:=vat I' pr rv i q hq
    rw [hv] at hv'
    cases hv'
    exact rr.keep k
  · rintro vs lt s1 ⟨H',ys,I',sm,pr,rv,rfl⟩ h i j C k hi hj hij q'
    have l1:=Paired.length pr
    have l2:=rv.length
    have e1:its[i]?=some its[i]:=List.getElem?_eq_getElem (by omega)
    have e2:its[j]?=some its[j]:=List.getElem?_eq_getElem (by omega)
    obtain ⟨v1,g1,r1⟩:=vat I' pr rv i _ e1
    obtain ⟨v2,g2,r2⟩:=vat I' pr rv j _ e2
    have n1:(its.map (·.1)).getD i (("",0):Pl)=its[i].1:=by rw [List.getD_eq_getElem?_getD,List.getElem?_map,e1];rfl
    have n2:(its.map (·.1)).getD j (("",0):Pl)=its[j].1:=by rw [List.getD_eq_getElem?_getD,List.getElem?_map,e2];rfl
    have m1:vs.getD i Value.none=v1:=by rw [List.getD_eq_getElem?_getD,g1];rfl
    have m2:vs.getD j Value.none=v2:=by rw [List.getD_eq_getElem?_getD,g2];rfl
    simp only [n1,n2] at q'
    have key:=ask_row (P:=X.prog) (w:=X.w) (A:=X.A.in1.in1) (E:=fun _ _=>False) (s:={ s1 with heap:=h }) (Q:=C) (by have e:X.A.in1.in1.units=X.A.units + 2:=rfl;omega) (r1.keep k) (r2.keep k) q' fun z=>hij (by
      have e3:(its.map (·.1))[i]?=some its[i].1:=by rw [List.getElem?_map,e1];rfl
      have e4:(its.map (·.1))[j]?=some its[j].1:=by rw [List.getElem?_map,e2];rfl
      rw [z] at e3
      exact (List.getElem?_inj (by rw [List.length_map];omega) nd).mp (e3.trans e4.symm))
    rw [← m1,← m2] at key
    exact key
  · rintro vs lt s1 ⟨H',ys,I',sm,pr,rv,rfl⟩ h' p c k hD hp hr
    have l1:=Paired.length pr
    have l2:=rv.length
    have hp':PP its.length p:=by rw [show its.length=vs.length by omega];exact hp
    have fr:H' s1.heap.objs.size=none:=I'.hok.fresh (Nat.le_refl _)
    have sz:=hp'.size
    have pk:=paired_pick pr V.non d0 (is:=p.toList) fun i hi=>by have:=hp'.lt i hi;omega
    have vk:Vals (p.toList.map fun i=>ys.getD i V.non) (outOf vs p):=paired_pick rv V.non Value.none (is:=p.toList) fun i hi=>by have:=hp'.lt i hi;omega
    have I2:Inv X pins σ (upd H' s1.heap.objs.size (.lst (p.toList.map fun i=>ys.getD i V.non))) { s1 with heap:=h' }:=I'.laid (a:=s1.heap.objs.size) (o:=.lst (p.toList.map fun i=>ys.getD i V.non)) (t':=s1.toks) k (Nat.le_refl _)
      ⟨by rw [List.length_map,Array.length_toList];exact Nat.le_trans (by omega:_≤64) (by decide),outOf vs p,c,vk,hD⟩
    have S2:Same H' (upd H' s1.heap.objs.size (.lst (p.toList.map fun i=>ys.getD i V.non))):=isV _ fr
    have hn:H s1.heap.objs.size=none:=by
      cases e:H s1.heap.objs.size with
      | none=>rfl
      | some o=>rw [sm _ _ e] at fr;cases fr
    have mono:∀ {us:List V} {ws:List Row},Paired (PrAt H') us ws→Paired (PrAt (upd H' s1.heap.objs.size (.lst (p.toList.map fun i=>ys.getD i V.non)))) us ws:=fun {us ws} h=>by
      induction h with
      | nil=>exact .nil
      | cons a _ ih =>
        obtain ⟨r,p,e,h1,h2⟩:=a
        exact .cons ⟨r,p,e,S2 _ _ h1,S2 _ _ h2⟩ ih
    refine ⟨.ref s1.heap.objs.size,_,I2,rfl,q _ _ (p.toList.map fun i=>its.getD i d0) _ (sm.trans S2) hn upd_same (mono pk) ?_ fun pl wv=>?_⟩
    · have hr':Rise (fun i j=>placeLt ((its.map (·.1)).getD i (("",0):Pl)) ((its.map (·.1)).getD j (("",0):Pl))) p its.length:=by rw [show its.length=vs.length by omega];exact hr
      have pw:=rise_pairs (F:=placeLt) hp' hr'
      have eq:(p.toList.map fun i=>its.getD i d0).map (·.1)=p.toList.map fun i=>(its.map (·.1)).getD i (("",0):Pl):=by
        rw [List.map_map]
        refine List.map_congr_left fun i hi=>?_
        have hi:=hp'.lt i hi
        simp [List.getD_eq_getElem?_getD,List.getElem?_map,List.getElem?_eq_getElem hi]
      rw [← eq,List.pairwise_map] at pw
      exact pw
    · have pm:(p.toList.map fun i=>its.getD i d0).Perm its:=by
        refine (hp'.list.map _).trans ?_
        rw [range_getD]
      rw [pm.mem_iff]
      exact mi pl wv
end
end L2
namespace L2
open PySem PySem.Spec PyProof.Rows
def Itr3 (lo c:Int) (n:Nat):It:=⟨fun i _=>i < n,fun i H x H'=>H'=H∧x=.int (lo + i * c),fun i _=>n≤i⟩
theorem turn_range3 {P:Program} {w:World} {K:PySem.W.Frag} {tg:Expr} (it:Addr) (lo c:Int) (n:Nat):Turn P w K tg (Itr3 lo c n) [it] it (fun i h=>IsRangeIter h it (lo + (i:Nat) * c) ((n:Int) - (i:Nat)) c) where
  mem:=by simp
  obj:=fun i h st b hb=>by
    have e:b=it:=by simpa using hb
    subst e
    refine ⟨_,st,fun v z=>?_⟩
    have z':Data.fields _=Data.cell v:=z
    cases z'
  keep:=fun i h h' st k=>k it (by simp) _ st
  item:=by
    intro X hP hw hK hc i pins s σ H E I hf st hg;subst hP hw hK
    obtain ⟨f0,f1,f2,f3,f4,f5⟩:=hf it (by simp)
    refine (Walks.range (prog:=X.prog) (w:=X.w) (I.ok.hd hc) it lo c n).item i s _ _ hg st fun v h' tk hv st' kk=>?_
    obtain ⟨t,rfl⟩:=hv
    have I1:Inv X pins σ H { s with heap:=h',toks:=tk }:=I.turned (fun b o hb e=>kk b o (by simpa using hb) e) f0 f1 f3 f4 f5
    exact ⟨_,rfl,go_of (s:={ s with heap:=h',toks:=tk }) (n:="range_iterator") st' rfl rfl (by decide) ⟨.int (lo + i * c),H,I1,⟨t,rfl⟩,⟨rfl,rfl⟩,st',fun b hb=>(hf b hb).1⟩⟩
  done:=by
    intro X hP hw hK hc i pins s σ H E I hf st hg;subst hP hw hK
    obtain ⟨f0,f1,f2,f3,f4,f5⟩:=hf it (by simp)
    exact wpAny_pyNext_range_end (I.ok.hd hc) st (by have:n≤i:=hg;omega) fun h' eb=>⟨rfl,I.turned (t':=s.toks) (fun b o hb e=>eb b o hb e) f0 f1 f3 f4 f5⟩
  self:=fun _ _ _ _ _ st h=>wpAny_pyIter_rangeiter st h
def cntR (i j c:Int):Nat:=if i < j then ((j - i - 1) / c + 1).toNat else 0
def iRng3 (ta:TA):TI:=fun σ H R=>ta σ H fun vs H1=>∃ i j c:Int,vs=[.int i,.int j,.int c]∧(0≤i∧i < 1073741824∧0≤j∧j < 1073741824∧0 < c∧c < 1073741824)∧R (Itr3 i c (cntR i j c)) H1
section
variable {X:Cx} {tg:Expr}
theorem pi_range3 {a b c:Expr} {ta:TA} {p pos:Pos} (hg:Gl X "range") (hm:X.mg "range"=none) (ha:PA X [a,b,c] ta) (hs:starEach [a,b,c] X.env=[(false,eval a X.env),(false,eval b X.env),(false,eval c X.env)]:=by rfl) (hs2:starEach [b,c] X.env=[(false,eval b X.env),(false,eval c X.env)]:=by rfl) :
    PI X tg (.Call (.Name "range" p) [a,b,c] [] pos) (iRng3 ta):=by
  intro pins s σ H R I h
  refine Call_ (ld_blt I hg hm boot_range (PyProof.Rows.callWith_type1 (thn (ha pos pins s σ H _ I h) fun us s1 ⟨vs,H1,I1,r1,q1⟩=>?_) (by rw [hs,hs2]) (by rw [hs2];rfl)))
  obtain ⟨i,j,c,e,⟨q1,q2,q3,q4,q5,q6⟩,q⟩:=q1
  subst e
  cases r1 with
  | cons r rr =>
    cases rr with
    | cons r' rr =>
      cases rr with
      | cons r'' rr =>
        cases rr
        obtain ⟨t,rfl⟩:=r
        obtain ⟨t',rfl⟩:=r'
        obtain ⟨t'',rfl⟩:=r''
        refine call_range_3 (by omega) ?_ (.inl (PyProof.noPylong_small (by omega)))
        have hz:Builtin.Range.rangeSize i j c=(cntR i j c:Int):=by
          unfold Builtin.Range.rangeSize cntR
          rw [if_pos q5]
          split
          · rename_i h
            have:=Int.ediv_nonneg (a:=j - i - 1) (b:=c) (by omega) (by omega)
            omega
          · rfl
        have hb:(cntR i j c:Int)≤1073741824∧(cntR i j c:Int) * c≤2147483648:=by
          unfold cntR
          split
          · rename_i h
            have h1:=Int.ediv_nonneg (a:=j - i - 1) (b:=c) (by omega) (by omega)
            have h2:=Int.ediv_le_self (a:=j - i - 1) c (by omega)
            have h3:=Int.ediv_mul_le (j - i - 1) (b:=c) (by omega)
            rw [Int.toNat_of_nonneg (by omega),Int.add_mul]
            omega
          · simp
        generalize cntR i j c=n at *
        have sm:Builtin.Range.small i j c=true:=by
          unfold Builtin.Range.small
          rw [hz]
          simp only [Builtin.Range.rangeFitsLong,Bool.and_eq_true,Bool.or_eq_true,decide_eq_true_eq,beq_iff_eq,show c > 0 from q5,if_true]
          omega
        refine wpAny_pyIter_range (IsRange.new ..) sm ?_
        rw [hz]
        have I2:Inv X pins σ H1 { s1 with heap:=s1.heap.push { cls:=.type "range",data:=.fields #[.int i t,.int j t',.int c t''] },toks:=s1.toks }:=I1.kept fun b o e=>Heap.get?_push_of_some _ e
        refine ⟨(s1.heap.push { cls:=.type "range",data:=.fields #[.int i t,.int j t',.int c t''] }).objs.size,[(s1.heap.push { cls:=.type "range",data:=.fields #[.int i t,.int j t',.int c t''] }).objs.size],_,_,H1,rfl,I2.kept (t':=s1.toks) fun b o e=>Heap.get?_push_of_some _ e,turn_range3 _ i c n,?_,fun b hb=>?_,q⟩
        · show IsRangeIter _ _ (i + ((0:Nat):Int) * c) ((n:Int) - ((0:Nat):Int)) c
          rw [show i + ((0:Nat):Int) * c=i by simp,show (n:Int) - ((0:Nat):Int)=n by simp]
          exact Heap.get?_push_size _ rfl
        · have e:b=(s1.heap.push { cls:=.type "range",data:=.fields #[.int i t,.int j t',.int c t''] }).objs.size:=by simpa using hb
          subst e
          exact I2.fpOk (Nat.le_refl _) (I2.hok.fresh (Nat.le_refl _))
end
end L2
namespace L2
open PySem
structure StOk (n:Nat) (s:Sta):Prop where
  so:SlotsOk s.sl
  wo:∀ r∈s.wo,inW r.2=true
  l1:s.sl.length≤n
  l2:s.wo.length≤n
  l3:s.sa.length≤n
theorem StOk.mono {n m:Nat} {s:Sta} (h:StOk n s) (l:n≤m):StOk m s:=⟨h.so,h.wo,Nat.le_trans h.l1 l,Nat.le_trans h.l2 l,Nat.le_trans h.l3 l⟩
theorem last_in {P:Row→Prop} {p:Pl} {w:Int}:∀ {l:List Row},(∀ r∈l,P r)→lastW l p=some w→P (p,w)
  | [],_,h=>by cases h
  | r :: t,hp,h=>by
    rw [lastW] at h
    cases e:lastW t p with
    | some w' =>
      rw [e] at h
      have:w'=w:=by simpa using h
      subst this
      exact last_in (fun r hr=>hp r (List.mem_cons_of_mem _ hr)) e
    | none =>
      rw [e] at h
      by_cases c:r.1=p
      · rw [if_pos c] at h
        have:r.2=w:=by simpa using h
        rw [← c,← this];exact hp r List.mem_cons_self
      · rw [if_neg c] at h;cases h
mutual
def RwIn (P:Pl→Prop):Rw→Prop
  | .give sh e _=>∀ kvs n,rk kvs e=.ok n→P (sh,n)
  | .iff _ a b=>RwsIn P a∧RwsIn P b
  | _=>True
def RwsIn (P:Pl→Prop):Rws→Prop
  | .nil=>True
  | .cons r rs=>RwIn P r∧RwsIn P rs
end
inductive Oc where
  | done (sa:List Int)
  | off (why:Str)
def whyOf:Er→Str
  | .great=>"great"
  | _=>"nought"
def AloneR (rws:Rws) (tab:List Row) (oc:Oc) (out:List Row):Prop:=match goRs rws ⟨[],tab,[]⟩ with
  | .go s=>oc=.done s.sa∧IsTab s.wo out
  | .off=>oc=.off "told"∧out=tab
  | .er e=>oc=.off (whyOf e)∧out=tab
inductive SeqR:List Rws→List Row→List Oc→List Row→Prop
  | nil {tab:List Row}:SeqR [] tab [] tab
  | cons {d:Rws} {ds:List Rws} {tab mid out:List Row} {oc:Oc} {ocs:List Oc}:AloneR d tab oc mid→SeqR ds mid ocs out→SeqR (d :: ds) tab (oc :: ocs) out
def partD:V→PyData
  | .int i=>.int i
  | .str x=>.str x
  | _=>.none
def plV (v:V):Prop:=(∃ i,v=.int i)∨∃ x,v=.str x∧PyData.strOk x=true
def termD (e:List V):PyData:=.tuple (e.map partD)
mutual
def rwD:Rw→PyData
  | .take sh e sl=>.tuple [.str "take",.str sh,termD e,.str sl]
  | .give sh e f=>.tuple [.str "give",.str sh,termD e,termD f]
  | .lt sl e=>.tuple [.str "let",.str sl,termD e]
  | .say e=>.tuple [.str "say",termD e]
  | .off e=>.tuple [.str "off",termD e]
  | .iff e a b=>.tuple [.str "if",termD e,.list (rwsD a),.list (rwsD b)]
def rwsD:Rws→List PyData
  | .nil=>[]
  | .cons r rs=>rwD r :: rwsD rs
end
def tmP (e:List V):Prop:=∀ v∈e,plV v
mutual
def RwPl:Rw→Prop
  | .take sh e sl=>PyData.strOk sh=true∧tmP e∧PyData.strOk sl=true
  | .give sh e f=>PyData.strOk sh=true∧tmP e∧tmP f
  | .lt sl e=>PyData.strOk sl=true∧tmP e
  | .say e=>tmP e
  | .off e=>tmP e
  | .iff e a b=>tmP e∧RwsPl a∧RwsPl b
def RwsPl:Rws→Prop
  | .nil=>True
  | .cons r rs=>RwPl r∧RwsPl rs
end
section
variable {K:PySem.W.Frag} {H:Hp} {F:Addr→Prop}
theorem part_dat {v:V} (h:plV v):Dat K H v (partD v):=by
  rcases h with ⟨i,rfl⟩ | ⟨x,rfl,_⟩
  · exact .int i
  · exact .str x
theorem parts_dat:∀ {e:List V},tmP e→DatAll K H e (e.map partD)
  | [],_=>.nil
  | v :: r,h=>.cons (part_dat (h v List.mem_cons_self)) (parts_dat fun u hu=>h u (List.mem_cons_of_mem _ hu))
end
theorem parts_plain:∀ {e:List V},tmP e→plainDs (e.map partD)=true
  | [],_=>by simp [plainDs]
  | v :: r,h=>by
    rw [List.map_cons,plainDs,parts_plain fun u hu=>h u (List.mem_cons_of_mem _ hu),Bool.and_true]
    rcases h v List.mem_cons_self with ⟨i,rfl⟩ | ⟨x,rfl,hx⟩
    · rw [partD,plainD]
    · rw [partD,plainD];exact hx
theorem parts_deep:∀ (e:List V),PyData.depthAll (e.map partD)=0
  | []=>by simp [PyData.depthAll]
  | v :: r=>by
    rw [List.map_cons,PyData.depthAll,parts_deep r]
    cases v <;> simp [partD,PyData.depth]
theorem sok_off:PyData.strOk "off"=true:=by decide +kernel
def Rws.snoc:Rws→Rw→Rws
  | .nil,x=>.cons x .nil
  | .cons r rs,x=>.cons r (rs.snoc x)
def Rws.app:Rws→Rws→Rws
  | .nil,x=>x
  | .cons r rs,x=>.cons r (rs.app x)
theorem Paired.snocP {α β:Type} {F:α→β→Prop} {x:α} {y:β}:∀ {a:List α} {b:List β},Paired F a b→F x y→Paired F (a ++ [x]) (b ++ [y])
  | _,_,.nil,h=>.cons h .nil
  | _,_,.cons a r,h=>.cons a (Paired.snocP r h)
theorem Paired.getP {α β:Type} {F:α→β→Prop} {a:List α} {b:List β} {i:Nat} {x:α} (h:Paired F a b) (e:a[i]?=some x):∃ y,b[i]?=some y∧F x y:=by
  have hi:=(List.getElem?_eq_some_iff.mp e).1
  have l:=Paired.length h
  exact ⟨b[i],List.getElem?_eq_getElem (by omega),paired_get h e (List.getElem?_eq_getElem (by omega))⟩
end L2
namespace L2
open PySem PySem.Spec PyProof.Rows
abbrev r_mt_split:RM:=fun x xs H Q=>∃ a b,x=.str a∧xs=[.str b]∧(b.length == 0)=false∧a.length≤100000∧(Txt.split a b).length≤100000∧∀ l,H l=none→Q (.ref l) (upd H l (.lst ((Txt.split a b).map V.str)))
section
variable {X:Cx}
end
def EL (e it p:Addr) (k:Nat) (h:Heap):Prop:=(∃ old,IsEnum h e it (k:Int) old)∧h.IsListIter it p k
def Itel (K:PySem.W.Frag) (p:Addr) (xs:List V):It:=⟨fun i H=>i < xs.length∧SqL K H p xs,fun i H x H'=>∃ T u,x=.ref T∧H T=none∧H'=upd H T (.tup [.int i,u])∧xs[i]?=some u,fun i H=>xs.length≤i∧SqL K H p xs⟩
theorem turn_enumL {P:Program} {w:World} {K:PySem.W.Frag} {elts:List Expr} {x1} {pos:Pos} {e it p:Addr} {xs:List V} (hei:e≠it) :
    Turn P w K (.Tuple elts x1 pos) (Itel K p xs) [e,it] e (EL e it p) where
  mem:=by simp
  obj:=fun k h st c hc=>by
    obtain ⟨⟨old,he⟩,⟨oi,hi,ci,di⟩⟩:=st
    simp only [List.mem_cons,List.not_mem_nil,or_false] at hc
    rcases hc with rfl | rfl
    · exact ⟨_,he,fun v z=>by cases z⟩
    · exact ⟨_,hi,fun v z=>by rw [di] at z;cases z⟩
  keep:=fun k h h' st kk=>by
    obtain ⟨⟨old,he⟩,⟨oi,hi,ci⟩⟩:=st
    exact ⟨⟨old,kk e (by simp) _ he⟩,⟨oi,kk it (by simp) _ hi,ci⟩⟩
  item:=by
    intro X hP hw hK hc k pins s σ H E I hf st hg
    subst hP hw hK
    obtain ⟨hlt,h1⟩:=hg
    obtain ⟨us,r1,p1,_⟩:=I.list h1
    obtain ⟨u,hu,ru⟩:=r1.get (i:=k) (x:=xs[k]) (List.getElem?_eq_getElem hlt)
    have old:∀ c∈[e,it],c≠s.heap.objs.size:=fun c hc=>by
      obtain ⟨⟨old,he⟩,⟨oi,hi,ci⟩⟩:=st
      simp only [List.mem_cons,List.not_mem_nil,or_false] at hc
      rcases hc with rfl | rfl
      · exact Nat.ne_of_lt (Heap.lt_size he)
      · exact Nat.ne_of_lt (Heap.lt_size hi)
    obtain ⟨⟨o0,he⟩,hi⟩:=st
    refine wpAny_pyNext_enum_item he hi p1.isList (x:=u) (by simpa using hu) hei fun h e8 i5 t5 sz k5=>?_
    have I6:Inv X pins σ (upd H s.heap.objs.size (.tup [.int k,xs[k]])) { s with heap:=s.heap.push { cls:=.type "tuple",data:=.seq #[.int k s.toks,u] },toks:=s.toks + 1 } :=
      I.laid (a:=s.heap.objs.size) (o:=.tup [.int k,xs[k]]) (t':=s.toks + 1) (fun b u e=>Heap.get?_push_of_some _ e) (Nat.le_refl _) ⟨by show 2≤sizeLine;decide,[.int k s.toks,u],.cons ⟨_,rfl⟩ (.cons ru .nil),⟨_,Heap.get?_push_size _ rfl,rfl,_,rfl⟩⟩
    have free:∀ c∈[e,it],upd H s.heap.objs.size (HO.tup [.int k,xs[k]]) c=none:=fun c hc=>by rw [upd_ne (old c hc)];exact (hf c hc).1
    have fz:∀ c∈[e,it],FpOk X pins (upd H s.heap.objs.size (HO.tup [.int k,xs[k]])) c:=fun c hc=>⟨free c hc,(hf c hc).2⟩
    refine ⟨.ref s.heap.objs.size,rfl,wpAny_letOwnedTupleGo_enum e8 fun h2 z9 sb2=>?_⟩
    have up:∀ c o,c≠e→h.get? c=some o→h2.get? c=some o:=fun c o hc e=>by
      rw [show h2.get? c=h.get? c from sb2.2 c hc];exact e
    have I7:Inv X pins σ (upd H s.heap.objs.size (.tup [.int k,xs[k]])) { s with heap:=h2,toks:=s.toks + 1 }:=I6.turnedL (s:={ s with heap:=s.heap.push { cls:=.type "tuple",data:=.seq #[.int k s.toks,u] },toks:=s.toks + 1 }) (t':=s.toks + 1) (ch:=[e,it]) (fun c o hc e=>by
      simp only [List.mem_cons,List.not_mem_nil,or_false,not_or] at hc
      refine up c o hc.1 ?_
      rcases Heap.get?_push_cases (show (s.heap.push { cls:=.type "tuple",data:=.seq #[.int k s.toks,u] }).get? c=some o from e) with ⟨rfl,rfl⟩ | e
      · exact t5
      · exact k5 c o hc.1 hc.2 e) fun c hc=>fz c hc
    refine ⟨.ref s.heap.objs.size,_,I7,rfl,⟨_,_,rfl,I.hok.fresh (Nat.le_refl _),rfl,List.getElem?_eq_getElem hlt⟩,?_,free⟩
    obtain ⟨oi,hi,ci⟩:=i5
    exact ⟨⟨_,z9⟩,⟨oi,up it _ (Ne.symm hei) hi,ci⟩⟩
  done:=by
    intro X hP hw hK hc k pins s σ H E I hf st hg
    subst hP hw hK
    obtain ⟨hlt,h1⟩:=hg
    obtain ⟨us,r1,p1,_⟩:=I.list h1
    have hl1:=r1.length
    obtain ⟨⟨o0,he⟩,hi⟩:=st
    refine wpAny_pyNext_enum_end (I.ok.hd hc) he hi p1.isList (by simp;omega) fun h hk=>⟨rfl,I.turnedL (t':=s.toks) (ch:=[e,it]) (fun c o hc e=>?_) fun c hc=>hf c hc⟩
    simp only [List.mem_cons,List.not_mem_nil,or_false,not_or] at hc
    exact hk c o hc.2 e
  self:=fun _ _ _ _ _ st h=>by
    obtain ⟨⟨o0,he⟩,hi⟩:=st
    exact wpAny_pyIter_enum he h
def iEnm (K:PySem.W.Frag) (ta:TA):TI:=fun σ H R=>ta σ H fun vs H1=>∃ p xs,vs=[.ref p]∧SqL K H1 p xs∧R (Itel K p xs) H1
section
variable {X:Cx}
theorem pi_enum {elts:List Expr} {x1} {tp:Pos} {e1:Expr} {ta:TA} {p pos:Pos} (hg:Gl X "enumerate") (hm:X.mg "enumerate"=none) (ha:PA X [e1] ta) (he:starEach [e1] X.env=(false,eval e1 X.env) :: starEach [] X.env:=by rfl) (hpl:(backTo pos (starEach [] X.env)).any (·.1)=false:=by rfl) :
    PI X (.Tuple elts x1 tp) (.Call (.Name "enumerate" p) [e1] [] pos) (iEnm X.K ta):=by
  intro pins s σ H R I h
  refine Call_ (ld_blt I hg hm bt_enumerate (PyProof.Rows.callWith_type1 (thn (ha pos pins s σ H _ I h) fun us s1 ⟨vs,H1,I1,r1,q1⟩=>?_) he hpl))
  obtain ⟨a,xs,e,h1,q⟩:=q1
  subst e
  obtain ⟨u1,rfl,ra⟩:=vals1 r1
  cases ra
  obtain ⟨us1,r1,p1,_⟩:=I1.list h1
  refine call_enumerate_list p1.isList fun h' e0 i0 _ k=>?_
  refine wpAny_pyIter_enum (s:={ s1 with heap:=h' }) e0 ?_
  generalize hn:s1.heap.objs.size=n at *
  have ne:∀ {x y:Nat},x≠y→(show Addr from x)≠(show Addr from y):=fun h=>h
  refine ⟨_,_,_,_,H1,rfl,I1.kept (t':=s1.toks) k,turn_enumL (e:=n + 1) (it:=n) (ne (by omega)),⟨⟨_,e0⟩,i0⟩,fun c hc=>?_,q⟩
  simp only [List.mem_cons,List.not_mem_nil,or_false] at hc
  have hc:n≤c:=by rcases hc with rfl | rfl <;> first | exact Nat.le_add_right _ _ | exact Nat.le_refl _
  exact I1.fpOk (by rw [hn];exact hc) (I1.hok.fresh (by rw [hn];exact hc))
end
section
variable {σ:St} {H:Hp} {nx:St→Hp→Prop} {B:V→St→Hp→(St→Hp→Prop)→Prop}
theorem loop_enumL {K:PySem.W.Frag} {p:Addr} (xs:List V) (Pv:Nat→St→Hp→Prop) (h0:Pv 0 σ H) (hl:∀ i σ H,Pv i σ H→SqL K H p xs)
    (hs:∀ i u T σ H,xs[i]?=some u→H T=none→Pv i σ H→B (.ref T) σ (upd H T (.tup [.int i,u])) (Pv (i + 1))) (hd:∀ σ H,Pv xs.length σ H→nx σ H) :
    ∃ W:Nat→Nat→St→Hp→Prop,(∃ m,W 0 m σ H)∧∀ i m σ H,W i m σ H→((Itel K p xs).stop i H∧nx σ H)∨((Itel K p xs).go i H∧∃ N:St→Hp→Prop,(∀ σ' H',N σ' H'→∃ m',m' < m∧W (i + 1) m' σ' H')∧∀ x H',(Itel K p xs).yld i H x H'→B x σ H' N):=by
  refine ⟨fun i m σ H=>m=xs.length - i∧i≤xs.length∧Pv i σ H,⟨xs.length,by simp,Nat.zero_le _,h0⟩,?_⟩
  rintro i m σ H ⟨rfl,hi,pv⟩
  by_cases hlt:i < xs.length
  · refine .inr ⟨⟨hlt,hl i σ H pv⟩,Pv (i + 1),fun σ' H' p'=>⟨xs.length - (i + 1),by omega,rfl,hlt,p'⟩,?_⟩
    rintro x H' ⟨T,u,rfl,hT,rfl,hu⟩
    exact hs i u T σ H hu hT pv
  · obtain rfl:i=xs.length:=by omega
    exact .inl ⟨⟨Nat.le_refl _,hl _ σ H pv⟩,hd σ H pv⟩
end
end L2
namespace L2
open PySem PySem.Spec PyProof.Rows
theorem cut_eq {c:Nat}:∀ {a b r s:List Nat},c ∉ a→c ∉ b→a ++ c :: r=b ++ c :: s→a=b∧r=s
  | [],[],r,s,_,_,h=>by simpa using h
  | [],y :: b,r,s,_,hb,h=>by
    simp only [List.nil_append,List.cons_append,List.cons.injEq] at h
    exact absurd h.1 (fun z=>hb (by rw [z];exact List.mem_cons_self))
  | x :: a,[],r,s,ha,_,h=>by
    simp only [List.nil_append,List.cons_append,List.cons.injEq] at h
    exact absurd h.1.symm (fun z=>ha (by rw [z];exact List.mem_cons_self))
  | x :: a,y :: b,r,s,ha,hb,h=>by
    simp only [List.cons_append,List.cons.injEq] at h
    obtain ⟨e1,e2⟩:=cut_eq (fun z=>ha (List.mem_cons_of_mem _ z)) (fun z=>hb (List.mem_cons_of_mem _ z)) h.2
    exact ⟨by rw [h.1,e1],e2⟩
end L2
namespace L2
open PySem PySem.Spec PyProof.Rows
abbrev cIsiT (K:PySem.W.Frag):RC:=fun xs H Q=>∃ (x:V) (p:Addr) (t:Value) (Ts:List String) (b:Bool),xs=[x,.ref p]∧TyOf K H x t∧H p=some (.tup (Ts.map V.ty))∧PySem.W.kitAny K t (Ts.map Value.type)=some b∧Q (.bl b) H
section
variable {X:Cx}
end
section
variable {prog:Program} {w:World} {A:Around} {E:Value→Shared→Prop} {s:Shared}
end
def sLPut (td ty tv:TE):TS:=fun D σ H=>tv σ H fun v H1=>td σ H1 fun x H2=>ty σ H2 fun y H3=>∃ a xs i j,x=.ref a∧y=.int i∧H3 a=some (.lst xs)∧ixN xs.length i=some j∧(-1000≤i∧i≤1000)∧D.nx σ (upd H3 a (.lst (xs.set j v)))
section
variable {X:Cx} {o i value:Expr} {pos pos':Pos} {td ty tv:TE}
end
section
variable {X:Cx} {st:Stmt} {hs:List ExceptHandler} {pos:Pos} {tb:TS}
end
end L2
namespace L2
open PySem PySem.Spec PyProof.Rows
def iZipB (K:PySem.W.Frag) (ta:TA):TI:=fun σ H R=>ta σ H fun vs H1=>∃ p q xs ys,vs=[.ref p,.ref q]∧xs.length=ys.length∧((SqL K H1 p xs∧SqL K H1 q ys∧R (Itzl K p q xs ys) H1)∨(SqT K H1 p xs∧SqT K H1 q ys∧R (Itz K p q xs ys) H1))
section
variable {X:Cx}
abbrev rNeNil (K:PySem.W.Frag):R2:=fun x y H Q=>∃ a b xs,x=.ref a∧y=.ref b∧SqL K H a xs∧SqL K H b []∧Q (.bl (!decide (xs=[]))) H
theorem op_neNil (hu:X.A.units + 64 < cLine):OpR X (compareOp .NotEq) (rNeNil X.K):=by
  intro pins s σ H x y v u Q I rx ry h
  obtain ⟨a,b,xs,rfl,rfl,ha,hb,q⟩:=h
  by_cases e:xs=[]
  · subst e
    exact op_neL hu pins s σ H _ _ v u Q I rx ry ⟨a,b,[],[],rfl,rfl,ha,hb,⟨rfl,rfl,rfl⟩,q⟩
  · cases rx
    cases ry
    obtain ⟨us,r1,p1,_⟩:=I.list ha
    obtain ⟨ws,r2,p2,_⟩:=I.list hb
    cases r2
    have e1:=r1.length
    have e2:xs.length≠0:=fun z=>e (List.eq_nil_of_length_eq_zero z)
    rw [decide_eq_false e] at q
    exact PySem.SeqAt.RcNeAt.lists_lengths p1.isList p2.isList (by simp;intro z;rw [z] at e1;exact e2 e1) (by omega) X.prog X.w X.xe _ ⟨.bl true,H,I,rfl,q⟩
end
mutual
inductive DatS (H:Hp):V→PyData→Prop
  | int (i:Int):DatS H (.int i) (.int i)
  | str (x:Str):DatS H (.str x) (.str x)
  | lst {a:Addr} {xs:List V} {ds:List PyData}:H a=some (.lst xs)→DatSs H xs ds→DatS H (.ref a) (.list ds)
  | tup {a:Addr} {xs:List V} {ds:List PyData}:H a=some (.tup xs)→DatSs H xs ds→DatS H (.ref a) (.tuple ds)
inductive DatSs (H:Hp):List V→List PyData→Prop
  | nil:DatSs H [] []
  | cons {x:V} {d:PyData} {xs:List V} {ds:List PyData}:DatS H x d→DatSs H xs ds→DatSs H (x :: xs) (d :: ds)
end
end L2
namespace L2
open PySem
end L2
namespace L2
open PySem
abbrev r_mt_extend:RM:=rExtend
end L2
namespace L2
open PySem PySem.Spec PyProof.Rows
abbrev r_mt_clear:RM:=rClear
abbrev cSumL (K:PySem.W.Frag):RC:=fun xs H Q=>∃ a,∃ ns:List Int,xs=[.ref a]∧SqL K H a (ns.map V.int)∧Q (.int ns.sum) H
abbrev cMaxL (K:PySem.W.Frag):RC:=fun xs H Q=>∃ a,∃ ns:List Int,xs=[.ref a]∧SqL K H a (ns.map V.int)∧0 < ns.length∧∀ M,M∈ns→(∀ x∈ns,x≤M)→Q (.int M) H
section
variable {X:Cx}
end
end L2
namespace L2
open PySem PySem.Spec PyProof.Rows
abbrev cMax2:RC:=fun xs H Q=>∃ i j,xs=[.int i,.int j]∧Q (.int (if j > i then j else i)) H
abbrev rInA (K:PySem.W.Frag) (neg:Bool):R2:=fun x y H Q=>∃ (p:Addr) (xs:List V) (d:PyData) (ds:List PyData),y=.ref p∧(SqL K H p xs∨SqT K H p xs)∧Dat K H x d∧DatAll K H xs ds∧(plainD d=true∧d.depth≤50∧∀ e∈ds,plainD e=true) ∧
  ∀ b:Bool,(b=true↔d∈ds)→Q (.bl (if neg then !b else b)) H
section
variable {X:Cx}
open Classical in
noncomputable def hitD (K:PySem.W.Frag) (H:Hp) (d:PyData) (u:Value):Bool:=decide (∃ x,RelV x u∧Dat K H x d)
open Classical in
end
abbrev cSrtL (K:PySem.W.Frag):RC:=fun vs H Q=>∃ r xs its,vs=[.ref r]∧SqL K H r xs∧Paired (PrAt H) xs its∧(its.map (·.1)).Nodup∧its.length < 64 ∧
  ∀ l ys srt H',Same H H'→H l=none→H' l=some (.lst ys)→Paired (PrAt H') ys srt→Rising srt→srt.Perm its→Q (.ref l) H'
section
variable {X:Cx}
end
def Cb (i:Int):Prop:=Builtin.Int.intBits i≤1048576
section
variable {X:Cx}
end
open Att PySem.W PySem.Calls in
theorem walk_ofB {l:PySem.W.OpenLaw} {n k:Nat} {q:Program} {loose:List Str} {XP:(Str→Option Value)→Heap→Prop} {YP:World→Heap→Prop} {d:DefRec} {K:Params→PySem.W.Frag} {CX:World→CXT} {sp:World→Sp} {x:Str}
    (hn:l.most=some n) (hn2:n≤sizeLine) (hdf:d.params.defaults=[]) (hr:Room k callerA) (hY:∀ (w:World) (h:Heap),YP w h→(K w.params).In h)
    (F:∀ (w:World) (mg:Str→Option Value) (fa:Addr) (h:Heap),(K w.params).In h→h.Ns mainGlobals mg→mg d.name=some (.ref fa) →
      ∃ fd:FuncData,(∀ (s:Shared) (u:Value),BindsTo s fd ⟨[u],[]⟩ [(x,u)]) ∧
        ∀ base:Heap,(K w.params).In base→base.Ns mainGlobals mg→FnOk l.prog w (K w.params) mg base (CX w) k fa fd [x] (sp w))
    (hsp:∀ (w:World) (H:Hp) (a:Addr) (ns:List Int),ns.length≤n→(∀ i∈ns,Cb i)→Only H→SqL (K w.params) H a (ns.map V.int)→sp w [.ref a] H (fun v _=>v=.bl true) fun _ _ _=>False)
    (hCX:∀ (w:World) (H:Hp) (s:Shared) (e:Value) (s':Shared),CX w [] H s (fun _ _ _=>False) e s'→False) :
    PySem.W.WalkO q loose XP YP l.row.toRowW d [] (fun f vs=>PySem.call f vs):=by
  intro w s₀ s₁ mg mb G Y fa o pm cd doc dV kV ho hd hcd hD hmg hg args vals as hpre hlay hrd hwl hlo
  obtain rfl:dV=.none:=Dflts.none hD hdf
  obtain rfl:kV=.none:=Dflts.noKw hD
  obtain ⟨a,vs,ns,rfl,rfl,hobj,hints,hlen⟩:=script_of hn hpre hwl
  have hb:∀ i∈ns,Cb i:=fun i hi=>intBits_le_of_layable (layable_of_mem (lay0_int (layableW_item (layableW_arg hlay _ List.mem_cons_self) _ (List.mem_map.mpr ⟨i,hi,rfl⟩))) List.mem_cons_self)
  have KX:=hY w _ Y
  obtain ⟨fd,hbd,hF⟩:=F w mg fa _ KX G.T.g hmg
  refine enter_call (codeAny_mono (law_call KX G.T.g G.T.b G.T.builtins G.T.nolimit hg hobj hints (Nat.le_trans hlen hn2) hr hF hbd (fun H hO hS=>hsp w H a ns hlen hb hO hS) fun H e s'=>hCX w H s₁ e s') fun r s' hq=>?_)
  obtain ⟨rfl,h2,h3,h4⟩:=hq
  exact ⟨.inl ⟨.bool true,.bool true,[],rfl,fun _=>rfl,.bool true,post_true l _,fun _=>⟨List.Pairwise.nil,fun _ hm=>(nomatch hm)⟩⟩,h2,h3,h4⟩
theorem walk_ofXB {l:PySem.W.OpenLaw} {n k:Nat} {q:Program} {loose:List Str} {XP:(Str→Option Value)→Heap→Prop} {YP:World→Heap→Prop} {d:DefRec} {K:Params→PySem.W.Frag} {sp:PySem.W.Frag→Sp} {x:Str}
    (hn:l.most=some n) (hn2:n≤sizeLine) (hdf:d.params.defaults=[]) (hr:Room k callerA) (hY:∀ (w:World) (h:Heap),YP w h→(K w.params).In h)
    (F:∀ (w:World) (mg:Str→Option Value) (fa:Addr) (h:Heap),(K w.params).In h→h.Ns mainGlobals mg→mg d.name=some (.ref fa) →
      ∃ fd:FuncData,(∀ (s:Shared) (u:Value),BindsTo s fd ⟨[u],[]⟩ [(x,u)]) ∧
        ∀ base:Heap,(K w.params).In base→base.Ns mainGlobals mg→FnOk l.prog w (K w.params) mg base (CX1 l.prog w) k fa fd [x] (sp (K w.params)))
    (hsp:∀ (K:PySem.W.Frag) (H:Hp) (a:Addr) (ns:List Int),ns.length≤n→(∀ i∈ns,Cb i)→Only H→SqL K H a (ns.map V.int)→sp K [.ref a] H (fun v _=>v=.bl true) fun _ _ _=>False) :
    PySem.W.WalkO q loose XP YP l.row.toRowW d [] (fun f vs=>PySem.call f vs) :=
  walk_ofB (K:=K) (CX:=fun w=>CX1 l.prog w) (sp:=fun w=>sp (K w.params)) hn hn2 hdf hr hY F (fun w H a ns h1 hb h2 h3=>hsp (K w.params) H a ns h1 hb h2 h3) fun _ _ _ _ _ z=>by
    obtain ⟨_,_,_,_,_,_,_,_,_,y⟩:=z
    exact y
end L2
namespace L2
open PySem PySem.Spec PyProof.Rows
def Itk (a:Addr) (o:Obj) (kvs:List (Key × V)):It :=
  ⟨fun i H=>H a=some (.frz o (.dK kvs))∧i < kvs.length,fun i H x H'=>H'=H∧∃ k v,kvs[i]?=some (k,v)∧x=kV k,fun i H=>H a=some (.frz o (.dK kvs))∧kvs.length≤i⟩
section
variable {X:Cx}
def iDK (tl:TE):TI:=fun σ H R=>tl σ H fun x H1=>∃ a o kvs,x=.ref a∧H1 a=some (.frz o (.dK kvs))∧R (Itk a o kvs) H1
end
section
variable {σ:St} {H:Hp} {nx:St→Hp→Prop} {B:V→St→Hp→(St→Hp→Prop)→Prop}
end
end L2
namespace L2
open PySem PySem.Spec PyProof.Rows
def PcAt (H:Hp) (v:V) (q:Pl):Prop:=∃ p,v=.ref p∧H p=some (.tup [.str q.1,.int q.2])
abbrev cSrtP (K:PySem.W.Frag):RC:=fun vs H Q=>∃ r xs its,vs=[.ref r]∧SqL K H r xs∧Paired (PcAt H) xs its∧its.Nodup∧its.length < 64 ∧
  ∀ l ys srt H',Same H H'→H l=none→H' l=some (.lst ys)→Paired (PcAt H') ys srt→srt.Pairwise (fun a b=>placeLt a b=true)→srt.Perm its→Q (.ref l) H'
section
variable {X:Cx}
end
end L2
namespace L2
open PySem PySem.Spec PyProof.Rows
section
variable {K:Type} [DecidableEq K]
end
section
variable {prog:Program} {w:World} {K:Type} [DecidableEq K] {knd:HeapKind prog w K} {A:Around} {E:Value→Shared→Prop} {s:Shared} {d a:Addr} {xs:List (K × Addr × Value)} {k:K}
end
section
variable {X:Cx} {pins:List (Addr × Obj)} {σ:St} {H:Hp} {s:Shared} {a b:Addr} {kvs:List (List Key × V)} {k:List Key} {A:Around} {E:Value→Shared→Prop}
end
def tDPopT (td ty:TE):TE:=fun σ H Q=>td σ H fun x H1=>∃ a,x=.ref a∧IsD H1 a∧ty σ H1 fun y H2=>∃ kvs k b v,H2 a=some (.dT kvs)∧y=.ref b∧H2 b=some (.tup (k.map kV))∧valV kvs k=some v∧Q v (upd H2 a (.dT (dropK kvs k)))
def tDSetD (td ty tx:TE):TE:=fun σ H Q=>td σ H fun x H1=>∃ a,x=.ref a∧IsD H1 a∧ty σ H1 fun y H2=>tx σ H2 fun z H3=>∃ kvs k b,H3 a=some (.dT kvs)∧y=.ref b∧H3 b=some (.tup (k.map kV))∧kvs.length < sizeLine ∧
  (∀ v,valV kvs k=some v→Q v H3)∧(valV kvs k=none→Q z (upd H3 a (.dT (putK kvs k z))))
section
variable {X:Cx} {o e f:Expr} {apos cpos:Pos} {td ty tx:TE}
end
abbrev r_mt_insert:RM:=fun x vs H Q=>∃ (l:Addr) (xs:List V) (k:Nat) (y:V),x=.ref l∧vs=[.int k,y]∧H l=some (.lst xs)∧k≤xs.length∧xs.length < 1000000∧Q .non (upd H l (.lst (xs.take k ++ y :: xs.drop k)))
abbrev r_mt_remove:RM:=fun x vs H Q=>∃ (l:Addr) (ns:List Int) (i:Int),x=.ref l∧vs=[.int i]∧H l=some (.lst (ns.map V.int))∧i∈ns∧Q .non (upd H l (.lst ((ns.erase i).map V.int)))
theorem Vals.takeV:∀ (k:Nat) {xs:List V} {us:List Value},Vals xs us→Vals (xs.take k) (us.take k)
  | 0,_,_,_=>by rw [List.take_zero,List.take_zero];exact .nil
  | _ + 1,_,_,.nil=>.nil
  | k + 1,_,_,.cons h r=>.cons h (Vals.takeV k r)
theorem Vals.dropV:∀ (k:Nat) {xs:List V} {us:List Value},Vals xs us→Vals (xs.drop k) (us.drop k)
  | 0,_,_,h=>h
  | _ + 1,_,_,.nil=>.nil
  | k + 1,_,_,.cons _ r=>Vals.dropV k r
section
variable {X:Cx}
theorem mt_insert:MtM X "list.insert" r_mt_insert:=by
  intro pins s σ H x vs v us Q I rx rv h
  obtain ⟨l,xs,k,y,rfl,rfl,hH,hk,hz,q⟩:=h
  cases rx
  cases rv with
  | cons r1 rr =>
    obtain ⟨u,rfl,ru⟩:=(show Vals [y] _ from rr).one
    obtain ⟨t,rfl⟩:=r1
    obtain ⟨z,its,n,r,hl,e⟩:=I.lstM hH
    have h1:(1000000:Nat) < sizeLine:=by rw [sizeLine_eq];decide
    obtain ⟨i,hi⟩:∃ i:Int,i=k:=⟨_,rfl⟩
    rw [← hi]
    have hc:¬ (!Builtin.List.listFitsIndex i)=true:=by rw [fitsIndex_both (by omega) (by omega)];exact Bool.false_ne_true
    have hs:its.toArray.size≤sizeLine:=by rw [List.size_toArray];omega
    have M:=AutoSeq1.list_insert_list_int_val_1 l its.toArray n i t u hc hs
    refine call_meets F.slot_list_insert ⟨_,e,rfl⟩ F.entry_list_insert (F.args_list_insert_3 _ _ _) M ⟨e,?_⟩
    refine ⟨.non,_,I.lset (its':=its.take k ++ u :: its.drop k) hH e ?_ ((r.takeV k).append (.cons ru (r.dropV k))) ?_,rfl,q⟩
    · have hk2:k≤its.length:=by omega
      subst hi
      have hn:¬ ((k:Int) < 0):=by omega
      simp [Nat.min_eq_left hk2,hn]
      rw [List.take_of_length_le (by rw [List.length_drop];omega)]
    · rw [List.length_append,List.length_cons,List.length_take,List.length_drop];omega
end
def KyAt (H:Hp) (y:V) (kv:List Key × V):Prop:=∃ p,y=.ref p∧H p=some (.tup (kv.1.map kV))
abbrev cLstD:RC:=fun vs H Q=>∃ a kvs,vs=[.ref a]∧H a=some (.dT kvs)∧∀ l ys,H l=none→Paired (KyAt H) ys kvs→Q (.ref l) (upd H l (.lst ys))
abbrev cLenT:RC:=fun vs H Q=>∃ a kvs,vs=[.ref a]∧H a=some (.dT kvs)∧Q (.int (kvs.length:Nat)) H
section
variable {X:Cx}
end
end L2
namespace L2
open PySem PySem.Spec PyProof.Rows
section
variable {X:Cx} {c:Expr} {s₁ s₂:Stmt} {tc:TT} {t1 t2:EXK→TS} {pos:Pos}
end
section
variable {X:Cx} {e:Expr} {te:TE} {a b:Str} {j k:Nat} {p1 p2 p3 p4:Pos}
def tMsgI (te:TE):TE:=fun σ H Q=>te σ H fun v H1=>∃ i:Int,v=.int i∧i.natAbs.log2 < 1920∧∀ y:Str,Q (.str y) H1
theorem pe_msgI (he:PE X e te) (hl:a.length≤1000:=by decide +kernel) (hl2:b.length≤1000:=by decide +kernel):PE X (.JoinedStr [.Constant (.str a) j p1,.FormattedValue e (-1) none p2,.Constant (.str b) k p4] p3) (tMsgI te):=by
  intro pins s σ H Q I h
  have hs:sizeLine=16777216:=sizeLine_eq
  refine wpAny_JoinedStr ?_
  show wpAny _ _ (eval (.Constant (.str a) j p1) X.env) _ _ s
  have e0:(Str.empty ++ a).length=a.length:=by rw [Str.length_append];simp [Str.empty,Str.length]
  refine Calls.Constant_str ⟨a,_,rfl,by rw [e0];exact small_size (by omega),?_⟩
  show wpAny _ _ (eval (.FormattedValue e (-1) none p2) X.env) _ _ _
  refine wpAny_FormattedValue_plain (thn (he pins _ σ H _ (I.tok _) h) fun v s1 ⟨x,H1,I1,r1,i,ex,hz,q⟩=>?_)
  subst ex
  obtain ⟨t,rfl⟩:=r1
  have le:(Str.ofString (toString i)).length≤2000:=by
    have e:=int_text_length_le (k:=1920) (by decide) hz
    rw [PySem.ofString_length];omega
  refine wpAny_formatField_int hz ⟨Str.ofString (toString i),_,rfl,by rw [Str.length_append,e0];omega,?_⟩
  show wpAny _ _ (eval (.Constant (.str b) k p4) X.env) _ _ _
  have hz2:(Str.empty ++ a ++ Str.ofString (toString i) ++ b).length≤sizeLine:=by rw [Str.length_append,Str.length_append,e0];omega
  exact Calls.Constant_str ⟨b,_,rfl,hz2,hz2,.str _,H1,I1.tok _,⟨_,rfl⟩,q _⟩
end
end L2
namespace L2
open PySem PySem.Spec PyProof.Rows
section
variable {P:Program} {w:World} {K:PySem.W.Frag} {mg:Str→Option Value} {base:Heap} {x qual:Str} {st:Stmt} {f:Addr} {fd:FuncData} {N ps:List Str} {k:Nat} {sp:Sp}
end
section
variable {X:Cx} {o value:Expr} {f:Str} {pos pos':Pos} {ta:TE} {tx:EXK→TE}
def sFldX (K:PySem.W.Frag) (ta:TE) (tx:EXK→TE) (f:Str) (EX:EXK):TS:=sFld K ta (tx EX) f
end
def tTryT (K:PySem.W.Frag) (tb:EXK→TS) (C1 C2:Addr) (th:TS):TS:=fun D σ H=>tb (fun cls σ1 H1=>∃ C,cls=.ref C∧PySem.W.exmAny K (.ref C) [.ref C1,.ref C2]=some true∧th D σ1 H1) D σ H
section
variable {X:Cx} {st b₀:Stmt} {suite:List Stmt} {tb:EXK→TS} {th:TS} {c1 c2:Str} {C1 C2:Addr} {np np2 hpos tpos pos:Pos} {x1:Nat}
end
section
variable {X:Cx} {CX:CXT} {k:Nat} {f C:Addr} {fd:FuncData} {ps:List Str} {sp:Sp} {dvs:List V} {E:XK} {m:Str} {pos apos:Pos} {o:Expr} {ta:TE}
end
end L2
namespace L2
open PySem PySem.Spec PyProof.Rows
abbrev rLtP:R2:=fun x y H Q=>∃ a b p r,x=.ref a∧y=.ref b∧H a=some (.tup [.str p.1,.int p.2])∧H b=some (.tup [.str r.1,.int r.2])∧Q (.bl (placeLt p r)) H
section
variable {X:Cx}
open PySem.SeqAt
open PySem.AutoSeq1 (wpAny_loadPart')
open PySem.MeetsSeq PySem.MeetsSeq2 PySem.MeetsSeq3
end
end L2
namespace L2
open PySem PySem.Spec PyProof.Rows
def tMakeO (C:Addr):TE:=fun _ H Q=>∀ x dx,H x=none→H dx=none→dx≠x→Q (.ref x) (upd (upd H dx (.own x)) x (.ins C dx []))
section
variable {X:Cx} {C:Addr} {x:Str} {p pos:Pos}
end
def tMethU (L:List (Addr × Sp)) (m:Str) (E:XK) (ta:TE) (t:TA):TE:=fun σ H Q=>ta σ H fun x H1=>∃ a dx fs C sp,x=.ref a∧H1 a=some (.ins C dx fs)∧fs.lookup m=none∧(C,sp)∈L∧t σ H1 fun vs H2=>sp (x :: vs) H2 Q E
section
variable {X:Cx} {CX:CXT} {E:XK} {m:Str} {pos apos:Pos} {e o:Expr} {es:List Expr} {ta:TE} {t:TA} {L:List (Addr × Sp)} {C:Addr} {sp:Sp}
end
structure InsK (K:PySem.W.Frag) (C:Addr):Prop where
  cl:Cls K C
  ha:PySem.W.findIn K (.ref C) "__class__"=some (some (.builtin "object.__class__"))
  hn:PySem.W.specialIn K (.builtin "object.__class__") "__get__"=some (some (.builtin "getset_descriptor.__get__"))
  tk:PySem.W.takesIn K (.builtin "object.__class__")=some true
  hm:PySem.W.mroIn K C (.type "object")=some true
abbrev cIsn (K:PySem.W.Frag):RC:=fun xs H Q=>∃ a C dx fs D b,xs=[.ref a,.ref D]∧H a=some (.ins C dx fs)∧InsK K C∧PySem.W.kitOne K (.ref C) (.ref D)=some b∧Q (.bl b) H
section
variable {X:Cx}
end
end L2
namespace L2
open PySem PySem.Spec PyProof.Rows
abbrev cAny (K:PySem.W.Frag):RC:=fun xs H Q=>∃ (a:Addr) (bs:List Bool),xs=[.ref a]∧SqL K H a (bs.map V.bl)∧Q (.bl (bs.any id)) H
section
variable {X:Cx}
theorem call_anyL (hc:X.calm=true):CallR X (.builtin "any") (cAny X.K):=by
  intro pins s σ H xs us Q I r h
  obtain ⟨a,bs,rfl,hq,q⟩:=h
  obtain ⟨u,rfl,r1⟩:=vals1 r
  cases r1
  obtain ⟨its,rv,p,hz⟩:=I.list hq
  have hl:=rv.length
  rw [List.length_map] at hl
  have hne:a≠s.heap.objs.size:=by
    obtain ⟨o,n,e,_⟩:=p
    exact Nat.ne_of_lt (Heap.lt_size e)
  refine call_any_walk (wpAny_pyIter_list p.isList ?_)
  refine ⟨s.heap.objs.size,_,_,its.toArray.size,fun i v=>its.toArray[i]?=some v,_,fun i=>bs.getD i false,rfl,Walks.list (A:=X.A.in1) (I.ok.hd hc) _ a hne its.toArray,?_,?_,fun h' tk k=>?_⟩
  · exact ⟨⟨_,Heap.get?_push_size _ rfl,rfl,rfl⟩,p.isList.at fun o e=>Heap.get?_push_of_some _ e⟩
  · intro i v s' Q' E' hv hQ
    have hv':its[i]?=some v:=by simpa using hv
    have hi:i < bs.length:=by
      rw [hl]
      exact (List.getElem?_eq_some_iff.mp hv').1
    obtain ⟨u',hu,ru⟩:=rv.get (i:=i) (x:=V.bl bs[i]) (by simp [hi])
    rw [hv'] at hu
    cases hu
    cases ru
    have e:bs.getD i false=bs[i]:=by simp [hi]
    have hQ':Q' (bs.getD i false) s':=hQ
    rw [e] at hQ'
    exact wpAny_truthy_bool hQ'
  · have e:(List.range its.toArray.size).any (fun i=>bs.getD i false)=bs.any id:=by
      rw [List.size_toArray,← hl]
      have:bs.map id=(List.range bs.length).map fun i=>bs.getD i false:=by
        apply List.ext_getElem?
        intro i
        by_cases hi:i < bs.length <;> simp [hi]
      have h2:bs.any id=(bs.map id).any id:=by simp
      rw [h2,this,List.any_map]
      rfl
    rw [e]
    refine ⟨.bl (bs.any id),H,?_,rfl,q⟩
    exact I.kept fun b o e=>k b o (by
      have:=Nat.ne_of_lt (Heap.lt_size e)
      simpa using this) (Heap.get?_push_of_some _ e)
end
def tSRev (te ts:TE):TE:=fun σ H Q=>te σ H fun x H1=>ts σ H1 fun k H2=>∃ z y,x=.str z∧k=.int (-1)∧z.length≤sizeLine∧(∀ u,Txt.sliceBy z none none (-1,u)=y)∧Q (.str y) H2
section
variable {X:Cx} {e st:Expr} {p2 pos:Pos} {te ts:TE}
theorem pe_srev (he:PE X e te) (hst:PE X st ts):PE X (.Subscript e (.Slice none none (some st) p2) pos) (tSRev te ts):=by
  intro pins s σ H Q I h
  refine Subscript_ (thn (he pins s σ H _ I h) fun v s1 ⟨x,H1,I1,r1,h1⟩=>?_)
  refine wpAny_Slice ?_
  rw [evalPart_none]
  refine wpAny_pure ?_
  refine wpAny_pure ?_
  rw [evalPart_some]
  refine thn (hst pins s1 σ H1 _ I1 h1) fun u s2 ⟨k,H2,I2,r2,z,y,ex,ek,hz,hy,q1⟩=>?_
  subst ex ek
  obtain ⟨t,rfl⟩:=r1
  obtain ⟨uk,rfl⟩:=r2
  have I4:Inv X pins σ H2 { s2 with heap:=s2.heap.push { cls:=.type "slice",data:=.fields #[.none,.none,.int (-1) uk] } }:=I2.kept (t':=s2.toks) fun b ob q=>Heap.get?_push_of_some _ q
  refine tail_any (ops:=[.ref s2.heap.objs.size,.str z t]) (typeIs_str _ _ _) F.slot_str_getitem.lookup ?_ (by with_unfolding_all rfl)
  refine wpAny_getItem_str_slice (l:=none) (u:=none) (st:=some (-1,uk)) ⟨_,Heap.get?_push_size _ rfl,rfl,rfl⟩ (show ((-1:Int) == 0)=false by decide) ?_
  refine post_val_or_str ⟨Nat.le_trans (Txt.sliceBy_le z _ _ (-1,uk) (show (-1:Int)≠0 by decide)) hz,fun t' k=>⟨.str y,H2,I4.tok k,⟨t',by rw [← hy uk];rfl⟩,q1⟩⟩
end
section
variable {P:Program} {w:World} {A:Around} {E:Value→Shared→Prop} {s:Shared}
end
def tLRev (K:PySem.W.Frag) (ta:TA):TE:=fun σ H Q=>ta σ H fun vs H1=>∃ a xs,vs=[.ref a]∧SqL K H1 a xs∧∀ l,H1 l=none→Q (.ref l) (upd H1 l (.lst xs.reverse))
section
variable {X:Cx} {a:Expr} {ta:TA} {p p2 pos pos2:Pos}
end
end L2
namespace L2
open PySem PySem.Spec PyProof.Rows
abbrev cLenK:RC:=fun vs H Q=>∃ a kvs,vs=[.ref a]∧H a=some (.dK kvs)∧Q (.int (kvs.length:Nat)) H
section
variable {X:Cx}
end
end L2
namespace L2
open PySem PySem.Spec PyProof.Rows
section
variable {X:Cx} {CX:CXT} {k:Nat} {f C:Addr} {fd:FuncData} {ps:List Str} {sp:Sp} {dvs:List V} {E:XK} {x:Str} {p pos:Pos} {e:Expr} {es:List Expr} {t:TA}
end
section
variable {X:Cx} {e:Expr} {te:TE} {a:Str} {j:Nat} {p1 p2 p3:Pos}
end
section
variable {X:Cx} {st b₀:Stmt} {suite:List Stmt} {tb:EXK→TS} {th1:TS} {c1:Str} {C1:Addr} {np hpos pos:Pos}
end
end L2
namespace L2
open PySem PySem.Spec PyProof.Rows
section
variable {X:Cx} {tg:Expr}
def iSeq (K:PySem.W.Frag) (tl:TE):TI:=fun σ H R=>tl σ H fun x H1=>∃ a,x=.ref a∧(((∃ xs,SqL K H1 a xs)∧R (Itl K a) H1)∨((∃ xs,SqT K H1 a xs)∧R (Itt K a) H1))
end
end L2
namespace HT
open PySem PySem.Spec PyProof.Rows
section
variable {prog:Program} {w:World} {A:Around} {E:Value→Shared→Prop} {s:Shared}
end
end HT
namespace L2
open PySem PySem.Spec PyProof.Rows
section
variable {X:Cx}
def rSlT2 (K:PySem.W.Frag):V→Option Int→Option Int→Hp→VK→Prop:=fun x lo hi H Q=>∃ a xs,x=.ref a∧SqT K H a xs ∧
  ((HT.sIx xs.length 0 lo=0∧HT.sIx xs.length xs.length hi=xs.length)→Q (.ref a) H)∧(¬ (HT.sIx xs.length 0 lo=0∧HT.sIx xs.length xs.length hi=xs.length)→∀ p,H p=none→Q (.ref p) (upd H p (.tup (cutV xs lo hi))))
end
end L2
namespace L2
open PySem PySem.Spec PyProof.Rows
def tLRevS (K:PySem.W.Frag) (te ts:TE):TE:=fun σ H Q=>te σ H fun x H1=>ts σ H1 fun k H2=>∃ a xs,x=.ref a∧k=.int (-1)∧SqL K H2 a xs∧∀ p,H2 p=none→Q (.ref p) (upd H2 p (.lst xs.reverse))
section
variable {X:Cx} {e st:Expr} {p2 pos:Pos} {te ts:TE}
end
end L2
namespace L2
open PySem
section
variable {P:Program} {w:World} {A:Around} {E:Value→Shared→Prop} {s:Shared}
end
end L2
namespace L2
open PySem PySem.Spec PyProof.Rows
def Itm (a:Addr) (o:Obj) (kvs:List (List Key × V)):It :=
  ⟨fun i H=>H a=some (.frz o (.dT kvs))∧i < kvs.length,fun i H x H'=>∃ T k v p,kvs[i]?=some (k,v)∧x=.ref T∧H T=none∧H p=some (.tup (k.map kV))∧H'=upd H T (.tup [.ref p,v]),fun i H=>H a=some (.frz o (.dT kvs))∧kvs.length≤i⟩
section
variable {X:Cx}
def iItm (td:TE):TI:=fun σ H R=>td σ H fun x H1=>∃ a o kvs,x=.ref a∧H1 a=some (.frz o (.dT kvs))∧R (Itm a o kvs) H1
end
end L2
namespace L2
open PySem PySem.Spec PySem.W PyProof.Rows
abbrev cSrtN (K:PySem.W.Frag):RC:=fun vs H Q=>∃ r ns,vs=[.ref r]∧SqL K H r (List.map V.int ns)∧ns.length < 64 ∧
  ∀ (l:Addr) (srt:List Int),H l=none→srt.Perm ns→(ns.Nodup→srt.Pairwise (· < ·))→Q (.ref l) (upd H l (.lst (srt.map V.int)))
theorem intLt_so {qs:List Int} (hn:qs.Nodup):SO (fun i j=>decide (qs.getD i 0 < qs.getD j 0)) qs.length where
  irr:=fun i _=>decide_eq_false (by omega)
  trans:=fun i j k _ _ _ h1 h2=>by
    have h1:=of_decide_eq_true h1
    have h2:=of_decide_eq_true h2
    exact decide_eq_true (by omega)
  tot:=fun i j hi hj hij h=>by
    have ne:qs.getD i 0≠qs.getD j 0:=fun z=>hij (by
      rw [List.getD_eq_getElem?_getD,List.getD_eq_getElem?_getD,List.getElem?_eq_getElem hi,List.getElem?_eq_getElem hj] at z
      exact (List.getElem_inj hn).mp z)
    have h:=of_decide_eq_false h
    exact decide_eq_true (by omega)
section
variable {X:Cx}
theorem call_sortedN (hc:X.calm=true) (hu:X.A.units + 3 < cLine):CallR X (.builtin "sorted") (cSrtN X.K):=by
  intro pins s σ H vs us Q I r0 h
  obtain ⟨r,rs,rfl,hq,h64,q⟩:=h
  obtain ⟨u,rfl,ru⟩:=vals1 r0
  cases ru
  obtain ⟨vs,rv,⟨o,n,ho,oc,_,od⟩,hz⟩:=I.list hq
  have l2:=rv.length
  rw [List.length_map] at l2
  have klen:vs.length=rs.length:=by omega
  have kat:∀ (i:Nat) (n:Int),rs[i]?=some n→∃ t,vs[i]?=some (.int n t):=fun i n hi=>by
    obtain ⟨u,hu',ru⟩:=rv.get (show (rs.map V.int)[i]?=some (V.int n) by rw [List.getElem?_map,hi];rfl)
    obtain ⟨t,e⟩:=ru
    exact ⟨t,by rw [hu',e]⟩
  have getI:∀ i,i < rs.length→∃ t,vs.getD i Value.none=.int (rs.getD i 0) t:=fun i hi=>by
    obtain ⟨t,ht⟩:=kat i rs[i] (List.getElem?_eq_getElem hi)
    exact ⟨t,by rw [List.getD_eq_getElem?_getD,ht,List.getD_eq_getElem?_getD,List.getElem?_eq_getElem hi];rfl⟩
  refine sorted_any (vs:=vs) (κ:=oneType') (lt:=fun i j=>decide (rs.getD i 0 < rs.getD j 0)) (by omega) (fun R hR=>?_) (fun h2 h tk Q' kp q'=>?_) (fun h tk i j C kp hi hj hij q'=>?_) fun h tk h' p c k1 k2 hD hp hr=>?_
  · refine wpAny_collect_seq r (.inl rfl) ho oc od (fun h' k=>?_) (by rw [List.size_toArray];exact Nat.le_trans (by omega:_≤64) (by decide))
    have e:({ s with heap:=h' }:Shared)={ s with heap:=h',toks:=s.toks }:=rfl
    rw [e]
    exact hR h' s.toks k
  · refine kas_kind (T:=.type "int") h2 (fun v hv=>?_) (by decide) (by decide) q'
    obtain ⟨i,hi⟩:=List.getElem?_of_mem hv
    have hl:=(List.getElem?_eq_some_iff.mp hi).1
    obtain ⟨t,ht⟩:=kat i rs[i] (List.getElem?_eq_getElem (by omega))
    rw [hi] at ht
    cases ht
    exact Looks.of_pure rfl
  · rw [klen] at hi hj
    obtain ⟨t1,e1⟩:=getI i hi
    obtain ⟨t2,e2⟩:=getI j hj
    have key2:=kat_lt_int (prog:=X.prog) (w:=X.w) (A:=X.A.in1.in1) (E:=fun _ _=>False) (s:={ s with heap:=h,toks:=tk }) (t:=t1) (u:=t2) (Q:=C) q'
    rw [← e1,← e2] at key2
    exact key2
  · have I1:Inv X pins σ H { s with heap:=h,toks:=tk }:=I.kept k1
    rw [klen] at hp hr
    have fr:H h.objs.size=none:=I1.hok.fresh (Nat.le_refl _)
    have sz:=hp.size
    have vk:Vals (p.toList.map fun i=>(rs.map V.int).getD i V.non) (outOf vs p):=paired_pick rv V.non Value.none (is:=p.toList) fun i hi=>by have:=hp.lt i hi;rw [List.length_map];exact this
    have e3:(p.toList.map fun i=>(rs.map V.int).getD i V.non)=(p.toList.map fun i=>rs.getD i 0).map V.int:=by
      rw [List.map_map]
      refine List.map_congr_left fun i hi=>?_
      have:=hp.lt i hi
      rw [List.getD_eq_getElem?_getD,List.getElem?_map,List.getElem?_eq_getElem this]
      show V.int rs[i]=V.int (rs.getD i 0)
      rw [List.getD_eq_getElem?_getD,List.getElem?_eq_getElem this]
      rfl
    rw [e3] at vk
    have I2:Inv X pins σ (upd H h.objs.size (.lst ((p.toList.map fun i=>rs.getD i 0).map V.int))) { s with heap:=h',toks:=tk }:=I1.laid (s:={ s with heap:=h,toks:=tk }) (a:=h.objs.size) (o:=.lst ((p.toList.map fun i=>rs.getD i 0).map V.int)) (t':=tk) k2 (Nat.le_refl _)
      ⟨by rw [List.length_map,List.length_map,Array.length_toList];exact Nat.le_trans (by omega:_≤1000) (by decide),_,c,vk,hD⟩
    refine ⟨.ref h.objs.size,_,I2,rfl,q _ _ fr ?_ fun nd=>?_⟩
    · refine (hp.list.map _).trans ?_
      rw [range_getD]
    · exact (rise_pairs (F:=fun a b:Int=>decide (a < b)) hp (hr (intLt_so nd))).imp fun h=>of_decide_eq_true h
end
theorem paired_ofGet {α β:Type} {F:α→β→Prop}:∀ {a:List α} {b:List β},a.length=b.length→(∀ (i:Nat) (x:α) (y:β),a[i]?=some x→b[i]?=some y→F x y)→Paired F a b
  | [],[],_,_=>.nil
  | x :: a,y :: b,h,f=>.cons (f 0 x y rfl rfl) (paired_ofGet (by simpa using h) fun i x' y' h1 h2=>f (i + 1) x' y' h1 h2)
  | [],_ :: _,h,_=>by simp at h
  | _ :: _,[],h,_=>by simp at h
theorem vals_ix (n:Nat) (us:List Value) (hl:us.length=n) (h:∀ (i:Nat) (v:Value),us[i]?=some v→∃ t,v=.int (i:Nat) t):Vals ((List.range n).map fun i=>V.int (i:Nat)) us:=by
  refine paired_ofGet (by simp [hl]) fun i a b ha hb=>?_
  rw [List.getElem?_map] at ha
  obtain ⟨j,hj,rfl⟩:=Option.map_eq_some_iff.mp ha
  have:=List.getElem?_eq_some_iff.mp hj
  obtain ⟨lt,e⟩:=this
  rw [List.getElem_range] at e
  subst e
  obtain ⟨t,e⟩:=h _ _ hb
  exact ⟨t,e⟩
def tLRng (ta:TA):TE:=fun σ H Q=>ta σ H fun vs H1=>∃ n:Nat,vs=[.int n]∧n≤1000∧∀ l,H1 l=none→Q (.ref l) (upd H1 l (.lst ((List.range n).map fun i=>V.int (i:Nat))))
section
variable {X:Cx} {a:Expr} {ta:TA} {p p2 pos pos2:Pos}
theorem pe_lrng (hc:X.calm=true) (hg1:Gl X "list") (hm1:X.mg "list"=none) (hg2:Gl X "range") (hm2:X.mg "range"=none) (ha:PA X [a] ta) (hs:starEach [a] X.env=[(false,eval a X.env)]:=by rfl)
    (he:starEach [.Call (.Name "range" p2) [a] [] pos2] X.env=[(false,eval (.Call (.Name "range" p2) [a] [] pos2) X.env)]:=by rfl):PE X (.Call (.Name "list" p) [.Call (.Name "range" p2) [a] [] pos2] [] pos) (tLRng ta):=by
  intro pins s σ H Q I h
  refine wpAny_Call_Name_kw (ld_blt I hg1 hm1 bt_list ?_ (by decide) (by decide))
  refine PyProof.Rows.callWith_type1 ?_ he rfl
  rw [he]
  show wpAny _ _ (spliced ((false,eval (.Call (.Name "range" p2) [a] [] pos2) X.env) :: backTo pos (starEach [] X.env))) _ _ s
  refine Calls.spliced_cons ?_
  refine Call_ (ld_blt I hg2 hm2 boot_range (PyProof.Rows.callWith_type1 (thn (ha pos2 pins s σ H _ I h) fun us s1 ⟨vs,H1,I1,r1,q1⟩=>?_) hs rfl))
  obtain ⟨n,e,hn,q⟩:=q1
  subst e
  cases r1 with
  | cons r rr =>
    cases rr
    obtain ⟨t,rfl⟩:=r
    refine call_range_1 ?_
    refine Calls.spliced_nil ?_
    have e2:Builtin.Range.rangeSize 0 (n:Int) 1=(n:Int):=by rw [rangeSize_one];split <;> omega
    refine call_list_range (I1.ok.hd hc) (IsRange.new ..) (small_one (by omega) (by omega) (by omega) (by omega)) e2 (Nat.le_trans hn (by decide)) fun h' tk acc c k hS it=>?_
    have sz:(s1.heap.push { cls:=.type "range",data:=.fields #[.int 0 s1.toks,.int (n:Int) t,.int 1 (s1.toks + 1)] }).objs.size=s1.heap.objs.size + 1:=Heap.size_push ..
    rw [sz] at hS ⊢
    refine ⟨.ref (s1.heap.objs.size + 1),upd H1 (s1.heap.objs.size + 1) (.lst ((List.range n).map fun i=>V.int (i:Nat))),?_,rfl,q _ (I1.hok.fresh (Nat.le_succ _))⟩
    refine I1.laid (a:=s1.heap.objs.size + 1) (o:=.lst ((List.range n).map fun i=>V.int (i:Nat))) (t':=tk) (fun c o e=>k c o (Heap.get?_push_of_some _ e)) (Nat.le_succ _) ⟨by rw [List.length_map,List.length_range];exact Nat.le_trans hn (by decide),acc.toList,c,?_,by rw [Array.toArray_toList];exact hS⟩
    have rv:=vals_ix n acc.toList (by rw [Array.length_toList];exact it.1) fun i v hv=>by
      obtain ⟨t,e⟩:=it.2 i v (by rw [← Array.getElem?_toList];exact hv)
      exact ⟨t,by rw [e];simp⟩
    exact rv
end
end L2
namespace L2
open PySem PySem.Spec PySem.W PyProof.Rows PySem.Calls
abbrev rEqDE:R2:=fun x y H Q=>∃ a b kvs,x=.ref a∧y=.ref b∧H a=some (.dT kvs)∧H b=some (.dK [])∧Q (.bl (decide (kvs.length=0))) H
section
variable {X:Cx}
theorem same_pairs0 {P:Program} {w:World} {A:Around} {E:Value→Shared→Prop} {s:Shared} {nm:String} {a b:Addr} {oa ob:Obj} {es:Array DictEntry} {ep ep':Nat} {Q:Bool→Shared→Prop} (ha:(a == sysModules)=false) (hb:(b == sysModules)=false)
    (hoa:s.heap.get? a=some oa) (hda:oa.data=.dict es ep) (hob:s.heap.get? b=some ob) (hdb:ob.data=.dict #[] ep') (h:Q (decide (es.size=0)) s):wpAny (model P w) A (Builtin.Dict.samePairs nm a b) Q E s:=by
  unfold Builtin.Dict.samePairs Builtin.Dict.showsAll
  rw [if_neg (show ¬ (a == sysModules)=true by rw [ha];exact Bool.false_ne_true),if_neg (show ¬ (b == sysModules)=true by rw [hb];exact Bool.false_ne_true)]
  refine wpAny_bind (wpAny_pure (wpAny_bind (wpAny_pure ?_)))
  refine wpAny_bind (wpAny_dictEntries hoa hda ?_)
  dsimp only
  refine wpAny_bind (wpAny_dictEntries hob hdb ?_)
  by_cases hsz:es.size=0
  · rw [if_neg (by simp [hsz])]
    rw [decide_eq_true hsz] at h
    refine wpAny_bind (wpAny_dictEpoch hoa hda ?_)
    refine wpAny_bind ?_
    rw [Std.Legacy.Range.forIn_eq_forIn_range']
    simp only [Std.Legacy.Range.size,Nat.sub_zero,Nat.add_sub_cancel,Nat.div_one,hsz,List.range'_zero]
    exact wpAny_pure (wpAny_pure h)
  · rw [if_pos (by simp [hsz])]
    rw [decide_eq_false hsz] at h
    exact wpAny_bind (wpAny_rule (wpAny_pure h))
theorem op_eqDE (hu:X.A.units + 64 < cLine):OpR X (compareOp .Eq) rEqDE:=by
  intro pins s σ H x y v u Q I rx ry h
  obtain ⟨a,b,kvs,rfl,rfl,ha,hb,q⟩:=h
  cases rx
  cases ry
  obtain ⟨hz,la,xs,pr,oa,es,ep,hoa,hxa,hda,he,hn⟩:=(show ObjOk X.prog X.w H s.heap a (.dT kvs) from I.hok a _ ha)
  obtain ⟨_,lb,vb,rb,ob,es',ep',hob,hxb,hdb,hkb,hpb,_⟩:=(show ObjOk X.prog X.w H s.heap b (.dK []) from I.hok b _ hb)
  have l1:es.size=kvs.length:=by
    have:=congrArg List.length he
    rw [Array.length_toList,List.length_map] at this
    have:=Paired.length pr
    omega
  have l2:vb=[]:=List.length_eq_zero_iff.mp (by rw [← rb.length];rfl)
  have l3:es'=#[]:=by
    have:=hpb.length
    rw [l2] at this
    have:es'.size=0:=by rw [Array.length_toList] at this;exact this
    exact Array.eq_empty_of_size_eq_zero this
  subst l3
  have ta:s.TypeIs (.ref a) "dict":=⟨oa,hoa,hxa.1⟩
  have tb:s.TypeIs (.ref b) "dict":=⟨ob,hob,hxb.1⟩
  refine wpAny_richCompare_same_room (op:=.Eq) ta tb PySem.F.slot_dict_eq (wpAny_call_entry PySem.F.slot_dict_eq ta PySem.F.entry_dict_eq ?_ (PySem.F.args_dict_eq_2 _ _)) (Nat.lt_of_le_of_lt (Nat.le_add_right _ 64) hu)
  show wpAny _ _ (Builtin.Dict.dictSlotArgs "__eq__" ⟨[.ref a,.ref b],[]⟩ >>= _) _ _ s
  refine wpAny_bind ?_
  unfold Builtin.Dict.dictSlotArgs
  refine wpAny_bind (wpAny_notOrdered_dict ta ?_)
  show wpAny _ _ (pure (Value.ref a,Value.ref b)) _ _ s
  refine wpAny_pure ?_
  refine wpAny_bind (wpAny_isInstance (T:="dict") tb PySem.F.sub_dict_dict ?_)
  simp only [Bool.not_true,Bool.false_eq_true,if_false]
  refine wpAny_bind (wpAny_pure (wpAny_bind (wpAny_pure ?_)))
  refine wpAny_bind (same_pairs0 la lb hoa hda hob hdb ?_)
  refine wpAny_pure ⟨_,rfl,(fun x=>nomatch x),?_⟩
  rw [l1,show (decide (kvs.length=0) == true)=decide (kvs.length=0) by cases decide (kvs.length=0) <;> rfl]
  exact ⟨.bl _,H,I,rfl,q⟩
end
end L2
namespace K53
open PySem L2
theorem jqa {α:Type} {a:α} {l m:List α}:a :: l ++ m=a :: (l ++ m):=rfl
theorem jqb {α:Type} (l:List α):[] ++ l=l:=rfl
theorem jqc {α:Type} (l:List α):l ++ []=l:=List.append_nil l
theorem jqd {α:Type} {a:α} {l:List α}:(a :: l)[0]?=some a:=rfl
theorem jqe {α:Type} {a:α} {l:List α} {i:Nat}:(a :: l)[i + 1]?=l[i]?:=rfl
theorem jqf {α:Type} (a b:α):(some a=some b)=(a=b):=Option.some.injEq a b
theorem jqg {α:Sort _} {p:α→Prop} {a:α}:(∃ x,a=x∧p x)↔p a:=exists_eq_left'
theorem jqh {α:Sort _} {p:α→Prop} {a:α}:(∃ x,x=a∧p x)↔p a:=exists_eq_left
theorem jqi (a b:Int):(V.int a=V.int b)=(a=b):=V.int.injEq a b
theorem jqj (a b:Addr):(V.ref a=V.ref b)=(a=b):=V.ref.injEq a b
theorem jqk (a b:Str):(V.str a=V.str b)=(a=b):=V.str.injEq a b
theorem jql (a b:Bool):(V.bl a=V.bl b)=(a=b):=V.bl.injEq a b
theorem jqm (a b:String):(V.ty a=V.ty b)=(a=b):=V.ty.injEq a b
theorem jqn {α:Type} (a:α) (l:List α) (b:α) (m:List α):(a :: l=b :: m)=(a=b∧l=m):=List.cons.injEq a l b m
theorem jqo {α:Sort _} {p:α→Prop} {b:Prop}:(∃ x,b∧p x)↔b∧(∃ x,p x):=exists_and_left
theorem jqp {α:Type} {x:α} {l:List α} {a:α}:(x :: l).set 0 a=a :: l:=rfl
theorem jqq {α:Type} {x:α} {l:List α} {i:Nat} {a:α}:(x :: l).set (i + 1) a=x :: l.set i a:=rfl
theorem jqr {p:Prop} [Decidable p]:(decide p=true)=p:=decide_eq_true_eq
theorem jqs (b:Bool):((!b)=true)=(b=false):=Bool.not_eq_true' b
theorem jqt {p:Prop} {_:Decidable p}:decide p=false↔¬p:=decide_eq_false_iff_not
theorem jqu:(false=true)=False:=Bool.false_eq_true
def top (i:Nat):Stmt:=PySem.Challenge.pw_forerun_k53_orders_that_keep.main.body.getD i (.Pass ⟨0,0,0,0⟩)
abbrev s__law_draw:Stmt:=top 21
abbrev s__law_names:Stmt:=top 22
abbrev s__law_shelves:Stmt:=top 23
abbrev s__law_worth:Stmt:=top 24
abbrev s__law_paper:Stmt:=top 25
abbrev s__law_cell_at:Stmt:=top 20
abbrev s__law_papers:Stmt:=top 26
abbrev s__law_met:Stmt:=top 27
abbrev s__law_order:Stmt:=top 28
abbrev s__law_kept:Stmt:=top 29
abbrev s_heed_order:Stmt:=top 17
abbrev s_gives_into:Stmt:=top 13
abbrev s_meet:Stmt:=top 14
abbrev s_meeting:Stmt:=top 15
abbrev s_keeps:Stmt:=top 18
abbrev s__law_none:Stmt:=top 30
abbrev s__law_refused:Stmt:=top 31
abbrev s_law:Stmt:=top 32
theorem sc__law_draw:FnScope ["cell","j","far"] ["cell","j"] (defScope s__law_draw):=⟨rfl,rfl,rfl,by decide +kernel,rfl,by decide +kernel,by decide +kernel⟩
theorem sc__law_names:FnScope ["cell","many","size","signs","stem","k","at","turn"] ["cell","many"] (defScope s__law_names):=⟨rfl,rfl,rfl,by decide +kernel,rfl,by decide +kernel,by decide +kernel⟩
theorem sc__law_shelves:FnScope ["cell","many","signs","stem","more","some","turn"] ["cell","many"] (defScope s__law_shelves):=⟨rfl,rfl,rfl,by decide +kernel,rfl,by decide +kernel,by decide +kernel⟩
theorem sc__law_worth:FnScope ["cell","j"] ["cell","j"] (defScope s__law_worth):=⟨rfl,rfl,rfl,by decide +kernel,rfl,by decide +kernel,by decide +kernel⟩
theorem sc__law_paper:FnScope ["cells","shelves","wide","notes","gifts","cell","number","place"] ["cells","shelves","wide"] (defScope s__law_paper):=⟨rfl,rfl,rfl,by decide +kernel,rfl,by decide +kernel,by decide +kernel⟩
theorem sc__law_cell_at:FnScope ["script","k"] ["script","k"] (defScope s__law_cell_at):=⟨rfl,rfl,rfl,by decide +kernel,rfl,by decide +kernel,by decide +kernel⟩
theorem sc__law_papers:FnScope ["script","shelves","many","wide","cells"] ["script","shelves"] (defScope s__law_papers):=⟨rfl,rfl,rfl,by decide +kernel,rfl,by decide +kernel,by decide +kernel⟩
theorem sc__law_met:FnScope ["one","other","gifts","row","theirs"] ["one","other"] (defScope s__law_met):=⟨rfl,rfl,rfl,by decide +kernel,rfl,by decide +kernel,by decide +kernel⟩
theorem sc__law_order:FnScope ["script","papers","order","stay","rank","far","at"] ["script","papers"] (defScope s__law_order):=⟨rfl,rfl,rfl,by decide +kernel,rfl,by decide +kernel,by decide +kernel⟩
theorem sc__law_kept:FnScope ["papers","order","k","j"] ["papers","order"] (defScope s__law_kept):=⟨rfl,rfl,rfl,by decide +kernel,rfl,by decide +kernel,by decide +kernel⟩
theorem sc_heed_order:FnScope ["order","many"] ["order","many"] (defScope s_heed_order):=⟨rfl,rfl,rfl,by decide +kernel,rfl,by decide +kernel,by decide +kernel⟩
theorem sc_gives_into:FnScope ["one","other","known"] ["one","other"] (defScope s_gives_into):=⟨rfl,rfl,rfl,by decide +kernel,rfl,by decide +kernel,by decide +kernel⟩
theorem sc_meet:FnScope ["one","other"] ["one","other"] (defScope s_meet):=⟨rfl,rfl,rfl,by decide +kernel,rfl,by decide +kernel,by decide +kernel⟩
theorem sc_meeting:FnScope ["papers","ranks","rank"] ["papers","ranks","rank"] (defScope s_meeting):=⟨rfl,rfl,rfl,by decide +kernel,rfl,by decide +kernel,by decide +kernel⟩
theorem sc_keeps:FnScope ["papers","order","at","rank","higher"] ["papers","order"] (defScope s_keeps):=⟨rfl,rfl,rfl,by decide +kernel,rfl,by decide +kernel,by decide +kernel⟩
theorem sc__law_none:FnScope ["cell","order","many","at","some","other","way","rank"] ["cell","order"] (defScope s__law_none):=⟨rfl,rfl,rfl,by decide +kernel,rfl,by decide +kernel,by decide +kernel⟩
theorem sc__law_refused:FnScope ["papers","none","handed","right","other","e"] ["papers","none"] (defScope s__law_refused):=⟨rfl,rfl,rfl,by decide +kernel,rfl,by decide +kernel,by decide +kernel⟩
theorem sc_law:FnScope ["script","shelves","papers","order","handed","given","due","told","none"] ["script"] (defScope s_law):=⟨rfl,rfl,rfl,by decide +kernel,rfl,by decide +kernel,by decide +kernel⟩
set_option genSizeOf false in
set_option genInjectivity false in
structure Adr where
  a__law_draw:Addr
  d__law_draw:FuncData
  a__law_names:Addr
  d__law_names:FuncData
  a__law_shelves:Addr
  d__law_shelves:FuncData
  a__law_worth:Addr
  d__law_worth:FuncData
  a__law_paper:Addr
  d__law_paper:FuncData
  a__law_cell_at:Addr
  d__law_cell_at:FuncData
  a__law_papers:Addr
  d__law_papers:FuncData
  a__law_met:Addr
  d__law_met:FuncData
  a__law_order:Addr
  d__law_order:FuncData
  a__law_kept:Addr
  d__law_kept:FuncData
  a_heed_order:Addr
  d_heed_order:FuncData
  a_gives_into:Addr
  d_gives_into:FuncData
  a_meet:Addr
  d_meet:FuncData
  a_meeting:Addr
  d_meeting:FuncData
  a_keeps:Addr
  d_keeps:FuncData
  a__law_none:Addr
  d__law_none:FuncData
  a__law_refused:Addr
  d__law_refused:FuncData
  a_law:Addr
  d_law:FuncData
  c_Folded:Addr
  c_ForerunError:Addr
  c_Great:Addr
  c_NoDealing:Addr
  c_NoHand:Addr
  c_NoLine:Addr
  c_NoLog:Addr
  c_NoNumber:Addr
  c_NoOrder:Addr
  c_NoTerm:Addr
  c_Nought:Addr
structure Txt (K:PySem.W.Frag) (mg:Str→Option Value) (t:Adr):Prop where
  f__law_draw:Fun K "_law_draw" "_law_draw" s__law_draw t.a__law_draw t.d__law_draw
  b__law_draw:Binds K t.d__law_draw ["cell","j"] []
  m__law_draw:mg "_law_draw"=some (.ref t.a__law_draw)
  f__law_names:Fun K "_law_names" "_law_names" s__law_names t.a__law_names t.d__law_names
  b__law_names:Binds K t.d__law_names ["cell","many"] []
  m__law_names:mg "_law_names"=some (.ref t.a__law_names)
  f__law_shelves:Fun K "_law_shelves" "_law_shelves" s__law_shelves t.a__law_shelves t.d__law_shelves
  b__law_shelves:Binds K t.d__law_shelves ["cell","many"] []
  m__law_shelves:mg "_law_shelves"=some (.ref t.a__law_shelves)
  f__law_worth:Fun K "_law_worth" "_law_worth" s__law_worth t.a__law_worth t.d__law_worth
  b__law_worth:Binds K t.d__law_worth ["cell","j"] []
  m__law_worth:mg "_law_worth"=some (.ref t.a__law_worth)
  f__law_paper:Fun K "_law_paper" "_law_paper" s__law_paper t.a__law_paper t.d__law_paper
  b__law_paper:Binds K t.d__law_paper ["cells","shelves","wide"] []
  m__law_paper:mg "_law_paper"=some (.ref t.a__law_paper)
  f__law_cell_at:Fun K "_law_cell_at" "_law_cell_at" s__law_cell_at t.a__law_cell_at t.d__law_cell_at
  b__law_cell_at:Binds K t.d__law_cell_at ["script","k"] []
  m__law_cell_at:mg "_law_cell_at"=some (.ref t.a__law_cell_at)
  f__law_papers:Fun K "_law_papers" "_law_papers" s__law_papers t.a__law_papers t.d__law_papers
  b__law_papers:Binds K t.d__law_papers ["script","shelves"] []
  m__law_papers:mg "_law_papers"=some (.ref t.a__law_papers)
  f__law_met:Fun K "_law_met" "_law_met" s__law_met t.a__law_met t.d__law_met
  b__law_met:Binds K t.d__law_met ["one","other"] []
  m__law_met:mg "_law_met"=some (.ref t.a__law_met)
  f__law_order:Fun K "_law_order" "_law_order" s__law_order t.a__law_order t.d__law_order
  b__law_order:Binds K t.d__law_order ["script","papers"] []
  m__law_order:mg "_law_order"=some (.ref t.a__law_order)
  f__law_kept:Fun K "_law_kept" "_law_kept" s__law_kept t.a__law_kept t.d__law_kept
  b__law_kept:Binds K t.d__law_kept ["papers","order"] []
  m__law_kept:mg "_law_kept"=some (.ref t.a__law_kept)
  f_heed_order:Fun K "heed_order" "heed_order" s_heed_order t.a_heed_order t.d_heed_order
  b_heed_order:Binds K t.d_heed_order ["order","many"] []
  m_heed_order:mg "heed_order"=some (.ref t.a_heed_order)
  f_gives_into:Fun K "gives_into" "gives_into" s_gives_into t.a_gives_into t.d_gives_into
  b_gives_into:Binds K t.d_gives_into ["one","other"] []
  m_gives_into:mg "gives_into"=some (.ref t.a_gives_into)
  f_meet:Fun K "meet" "meet" s_meet t.a_meet t.d_meet
  b_meet:Binds K t.d_meet ["one","other"] []
  m_meet:mg "meet"=some (.ref t.a_meet)
  f_meeting:Fun K "meeting" "meeting" s_meeting t.a_meeting t.d_meeting
  b_meeting:Binds K t.d_meeting ["papers","ranks","rank"] []
  m_meeting:mg "meeting"=some (.ref t.a_meeting)
  f_keeps:Fun K "keeps" "keeps" s_keeps t.a_keeps t.d_keeps
  b_keeps:Binds K t.d_keeps ["papers","order"] []
  m_keeps:mg "keeps"=some (.ref t.a_keeps)
  f__law_none:Fun K "_law_none" "_law_none" s__law_none t.a__law_none t.d__law_none
  b__law_none:Binds K t.d__law_none ["cell","order"] []
  m__law_none:mg "_law_none"=some (.ref t.a__law_none)
  f__law_refused:Fun K "_law_refused" "_law_refused" s__law_refused t.a__law_refused t.d__law_refused
  b__law_refused:Binds K t.d__law_refused ["papers","none"] []
  m__law_refused:mg "_law_refused"=some (.ref t.a__law_refused)
  f_law:Fun K "law" "law" s_law t.a_law t.d_law
  b_law:Binds K t.d_law ["script"] []
  m_law:mg "law"=some (.ref t.a_law)
  w_law:∀ (s:Shared) (v:Value),BindsTo s t.d_law ⟨[v],[]⟩ [("script",v)]
  b_ValueError:mg "ValueError"=none
  b_any:mg "any"=none
  b_bool:mg "bool"=none
  b_dict:mg "dict"=none
  b_enumerate:mg "enumerate"=none
  b_isinstance:mg "isinstance"=none
  b_len:mg "len"=none
  b_list:mg "list"=none
  b_range:mg "range"=none
  b_sorted:mg "sorted"=none
  g_Folded:mg "Folded"=some (.ref t.c_Folded)
  g_ForerunError:mg "ForerunError"=some (.ref t.c_ForerunError)
  g_Great:mg "Great"=some (.ref t.c_Great)
  g_NoDealing:mg "NoDealing"=some (.ref t.c_NoDealing)
  g_NoHand:mg "NoHand"=some (.ref t.c_NoHand)
  g_NoLine:mg "NoLine"=some (.ref t.c_NoLine)
  g_NoLog:mg "NoLog"=some (.ref t.c_NoLog)
  g_NoNumber:mg "NoNumber"=some (.ref t.c_NoNumber)
  g_NoOrder:mg "NoOrder"=some (.ref t.c_NoOrder)
  g_NoTerm:mg "NoTerm"=some (.ref t.c_NoTerm)
  g_Nought:mg "Nought"=some (.ref t.c_Nought)
  x_NoOrder:PySem.W.excIn K t.c_NoOrder bmVal newVal=true
  y_NoOrder:ExK K t.c_NoOrder
  e_NoOrder_ForerunError:PySem.W.exmOne K (.ref t.c_NoOrder) (.ref t.c_ForerunError)=some true
  i_NoOrder_ValueError:PySem.W.kitOne K (.ref t.c_NoOrder) (.type "ValueError")=some true
  i_NoOrder_NoOrder:PySem.W.kitOne K (.ref t.c_NoOrder) (.ref t.c_NoOrder)=some true
  j_NoOrder_0:PySem.W.kitAny K (.ref t.c_NoOrder) [.ref t.c_Folded,.ref t.c_NoDealing,.ref t.c_NoHand,.ref t.c_NoLine,.ref t.c_NoLog,.ref t.c_NoNumber,.ref t.c_NoTerm,.ref t.c_Great,.ref t.c_Nought]=some false
theorem txt_mk {K:PySem.W.Frag} {h:Heap} {mg:Str→Option Value} (X:K.In h) (G:h.Ns mainGlobals mg)
    {f0:Addr} {od0 an0:Option Addr} {sl0:Array (Option Value)} {oc0 kV0 dc0 pm0 cd0 ct0:Value}
    {f1:Addr} {od1 an1:Option Addr} {sl1:Array (Option Value)} {oc1 kV1 dc1 pm1 cd1 ct1:Value}
    {f2:Addr} {od2 an2:Option Addr} {sl2:Array (Option Value)} {oc2 kV2 dc2 pm2 cd2 ct2:Value}
    {f3:Addr} {od3 an3:Option Addr} {sl3:Array (Option Value)} {oc3 kV3 dc3 pm3 cd3 ct3:Value}
    {f4:Addr} {od4 an4:Option Addr} {sl4:Array (Option Value)} {oc4 kV4 dc4 pm4 cd4 ct4:Value}
    {f5:Addr} {od5 an5:Option Addr} {sl5:Array (Option Value)} {oc5 kV5 dc5 pm5 cd5 ct5:Value}
    {f6:Addr} {od6 an6:Option Addr} {sl6:Array (Option Value)} {oc6 kV6 dc6 pm6 cd6 ct6:Value}
    {f7:Addr} {od7 an7:Option Addr} {sl7:Array (Option Value)} {oc7 kV7 dc7 pm7 cd7 ct7:Value}
    {f8:Addr} {od8 an8:Option Addr} {sl8:Array (Option Value)} {oc8 kV8 dc8 pm8 cd8 ct8:Value}
    {f9:Addr} {od9 an9:Option Addr} {sl9:Array (Option Value)} {oc9 kV9 dc9 pm9 cd9 ct9:Value}
    {f10:Addr} {od10 an10:Option Addr} {sl10:Array (Option Value)} {oc10 kV10 dc10 pm10 cd10 ct10:Value}
    {f11:Addr} {od11 an11:Option Addr} {sl11:Array (Option Value)} {oc11 kV11 dc11 pm11 cd11 ct11:Value}
    {f12:Addr} {od12 an12:Option Addr} {sl12:Array (Option Value)} {oc12 kV12 dc12 pm12 cd12 ct12:Value}
    {f13:Addr} {od13 an13:Option Addr} {sl13:Array (Option Value)} {oc13 kV13 dc13 pm13 cd13 ct13:Value}
    {f14:Addr} {od14 an14:Option Addr} {sl14:Array (Option Value)} {oc14 kV14 dc14 pm14 cd14 ct14:Value}
    {f15:Addr} {od15 an15:Option Addr} {sl15:Array (Option Value)} {oc15 kV15 dc15 pm15 cd15 ct15:Value}
    {f16:Addr} {od16 an16:Option Addr} {sl16:Array (Option Value)} {oc16 kV16 dc16 pm16 cd16 ct16:Value}
    {f17:Addr} {od17 an17:Option Addr} {sl17:Array (Option Value)} {oc17 kV17 dc17 pm17 cd17 ct17:Value}
    {ca0:Addr}
    {ca1:Addr}
    {ca2:Addr}
    {ca3:Addr}
    {ca4:Addr}
    {ca5:Addr}
    {ca6:Addr}
    {ca7:Addr}
    {ca8:Addr}
    {ca9:Addr}
    {ca10:Addr}
    {cl0:ClassData}
    (qa0:PySem.W.nsIn K mainGlobals "_law_draw"=some (some (.ref f0))) (ql0:K.lookup f0=some ⟨oc0,od0,.func (PySem.W.fnOf "_law_draw" "_law_draw" (defArgs s__law_draw) (defBody s__law_draw) (defScope s__law_draw) .none kV0 dc0 pm0 an0 cd0 ct0),sl0⟩) (qc0:PySem.W.codeIn K cd0 "_law_draw"=true) (qk0:PySem.W.keepIn K (.ref f0)=true)
    (qa1:PySem.W.nsIn K mainGlobals "_law_names"=some (some (.ref f1))) (ql1:K.lookup f1=some ⟨oc1,od1,.func (PySem.W.fnOf "_law_names" "_law_names" (defArgs s__law_names) (defBody s__law_names) (defScope s__law_names) .none kV1 dc1 pm1 an1 cd1 ct1),sl1⟩) (qc1:PySem.W.codeIn K cd1 "_law_names"=true) (qk1:PySem.W.keepIn K (.ref f1)=true)
    (qa2:PySem.W.nsIn K mainGlobals "_law_shelves"=some (some (.ref f2))) (ql2:K.lookup f2=some ⟨oc2,od2,.func (PySem.W.fnOf "_law_shelves" "_law_shelves" (defArgs s__law_shelves) (defBody s__law_shelves) (defScope s__law_shelves) .none kV2 dc2 pm2 an2 cd2 ct2),sl2⟩) (qc2:PySem.W.codeIn K cd2 "_law_shelves"=true) (qk2:PySem.W.keepIn K (.ref f2)=true)
    (qa3:PySem.W.nsIn K mainGlobals "_law_worth"=some (some (.ref f3))) (ql3:K.lookup f3=some ⟨oc3,od3,.func (PySem.W.fnOf "_law_worth" "_law_worth" (defArgs s__law_worth) (defBody s__law_worth) (defScope s__law_worth) .none kV3 dc3 pm3 an3 cd3 ct3),sl3⟩) (qc3:PySem.W.codeIn K cd3 "_law_worth"=true) (qk3:PySem.W.keepIn K (.ref f3)=true)
    (qa4:PySem.W.nsIn K mainGlobals "_law_paper"=some (some (.ref f4))) (ql4:K.lookup f4=some ⟨oc4,od4,.func (PySem.W.fnOf "_law_paper" "_law_paper" (defArgs s__law_paper) (defBody s__law_paper) (defScope s__law_paper) .none kV4 dc4 pm4 an4 cd4 ct4),sl4⟩) (qc4:PySem.W.codeIn K cd4 "_law_paper"=true) (qk4:PySem.W.keepIn K (.ref f4)=true)
    (qa5:PySem.W.nsIn K mainGlobals "_law_cell_at"=some (some (.ref f5))) (ql5:K.lookup f5=some ⟨oc5,od5,.func (PySem.W.fnOf "_law_cell_at" "_law_cell_at" (defArgs s__law_cell_at) (defBody s__law_cell_at) (defScope s__law_cell_at) .none kV5 dc5 pm5 an5 cd5 ct5),sl5⟩) (qc5:PySem.W.codeIn K cd5 "_law_cell_at"=true) (qk5:PySem.W.keepIn K (.ref f5)=true)
    (qa6:PySem.W.nsIn K mainGlobals "_law_papers"=some (some (.ref f6))) (ql6:K.lookup f6=some ⟨oc6,od6,.func (PySem.W.fnOf "_law_papers" "_law_papers" (defArgs s__law_papers) (defBody s__law_papers) (defScope s__law_papers) .none kV6 dc6 pm6 an6 cd6 ct6),sl6⟩) (qc6:PySem.W.codeIn K cd6 "_law_papers"=true) (qk6:PySem.W.keepIn K (.ref f6)=true)
    (qa7:PySem.W.nsIn K mainGlobals "_law_met"=some (some (.ref f7))) (ql7:K.lookup f7=some ⟨oc7,od7,.func (PySem.W.fnOf "_law_met" "_law_met" (defArgs s__law_met) (defBody s__law_met) (defScope s__law_met) .none kV7 dc7 pm7 an7 cd7 ct7),sl7⟩) (qc7:PySem.W.codeIn K cd7 "_law_met"=true) (qk7:PySem.W.keepIn K (.ref f7)=true)
    (qa8:PySem.W.nsIn K mainGlobals "_law_order"=some (some (.ref f8))) (ql8:K.lookup f8=some ⟨oc8,od8,.func (PySem.W.fnOf "_law_order" "_law_order" (defArgs s__law_order) (defBody s__law_order) (defScope s__law_order) .none kV8 dc8 pm8 an8 cd8 ct8),sl8⟩) (qc8:PySem.W.codeIn K cd8 "_law_order"=true) (qk8:PySem.W.keepIn K (.ref f8)=true)
    (qa9:PySem.W.nsIn K mainGlobals "_law_kept"=some (some (.ref f9))) (ql9:K.lookup f9=some ⟨oc9,od9,.func (PySem.W.fnOf "_law_kept" "_law_kept" (defArgs s__law_kept) (defBody s__law_kept) (defScope s__law_kept) .none kV9 dc9 pm9 an9 cd9 ct9),sl9⟩) (qc9:PySem.W.codeIn K cd9 "_law_kept"=true) (qk9:PySem.W.keepIn K (.ref f9)=true)
    (qa10:PySem.W.nsIn K mainGlobals "heed_order"=some (some (.ref f10))) (ql10:K.lookup f10=some ⟨oc10,od10,.func (PySem.W.fnOf "heed_order" "heed_order" (defArgs s_heed_order) (defBody s_heed_order) (defScope s_heed_order) .none kV10 dc10 pm10 an10 cd10 ct10),sl10⟩) (qc10:PySem.W.codeIn K cd10 "heed_order"=true) (qk10:PySem.W.keepIn K (.ref f10)=true)
    (qa11:PySem.W.nsIn K mainGlobals "gives_into"=some (some (.ref f11))) (ql11:K.lookup f11=some ⟨oc11,od11,.func (PySem.W.fnOf "gives_into" "gives_into" (defArgs s_gives_into) (defBody s_gives_into) (defScope s_gives_into) .none kV11 dc11 pm11 an11 cd11 ct11),sl11⟩) (qc11:PySem.W.codeIn K cd11 "gives_into"=true) (qk11:PySem.W.keepIn K (.ref f11)=true)
    (qa12:PySem.W.nsIn K mainGlobals "meet"=some (some (.ref f12))) (ql12:K.lookup f12=some ⟨oc12,od12,.func (PySem.W.fnOf "meet" "meet" (defArgs s_meet) (defBody s_meet) (defScope s_meet) .none kV12 dc12 pm12 an12 cd12 ct12),sl12⟩) (qc12:PySem.W.codeIn K cd12 "meet"=true) (qk12:PySem.W.keepIn K (.ref f12)=true)
    (qa13:PySem.W.nsIn K mainGlobals "meeting"=some (some (.ref f13))) (ql13:K.lookup f13=some ⟨oc13,od13,.func (PySem.W.fnOf "meeting" "meeting" (defArgs s_meeting) (defBody s_meeting) (defScope s_meeting) .none kV13 dc13 pm13 an13 cd13 ct13),sl13⟩) (qc13:PySem.W.codeIn K cd13 "meeting"=true) (qk13:PySem.W.keepIn K (.ref f13)=true)
    (qa14:PySem.W.nsIn K mainGlobals "keeps"=some (some (.ref f14))) (ql14:K.lookup f14=some ⟨oc14,od14,.func (PySem.W.fnOf "keeps" "keeps" (defArgs s_keeps) (defBody s_keeps) (defScope s_keeps) .none kV14 dc14 pm14 an14 cd14 ct14),sl14⟩) (qc14:PySem.W.codeIn K cd14 "keeps"=true) (qk14:PySem.W.keepIn K (.ref f14)=true)
    (qa15:PySem.W.nsIn K mainGlobals "_law_none"=some (some (.ref f15))) (ql15:K.lookup f15=some ⟨oc15,od15,.func (PySem.W.fnOf "_law_none" "_law_none" (defArgs s__law_none) (defBody s__law_none) (defScope s__law_none) .none kV15 dc15 pm15 an15 cd15 ct15),sl15⟩) (qc15:PySem.W.codeIn K cd15 "_law_none"=true) (qk15:PySem.W.keepIn K (.ref f15)=true)
    (qa16:PySem.W.nsIn K mainGlobals "_law_refused"=some (some (.ref f16))) (ql16:K.lookup f16=some ⟨oc16,od16,.func (PySem.W.fnOf "_law_refused" "_law_refused" (defArgs s__law_refused) (defBody s__law_refused) (defScope s__law_refused) .none kV16 dc16 pm16 an16 cd16 ct16),sl16⟩) (qc16:PySem.W.codeIn K cd16 "_law_refused"=true) (qk16:PySem.W.keepIn K (.ref f16)=true)
    (qa17:PySem.W.nsIn K mainGlobals "law"=some (some (.ref f17))) (ql17:K.lookup f17=some ⟨oc17,od17,.func (PySem.W.fnOf "law" "law" (defArgs s_law) (defBody s_law) (defScope s_law) .none kV17 dc17 pm17 an17 cd17 ct17),sl17⟩) (qc17:PySem.W.codeIn K cd17 "law"=true) (qk17:PySem.W.keepIn K (.ref f17)=true)
    (qz0:PySem.W.nsIn K mainGlobals "ValueError"=some none)
    (qz1:PySem.W.nsIn K mainGlobals "any"=some none)
    (qz2:PySem.W.nsIn K mainGlobals "bool"=some none)
    (qz3:PySem.W.nsIn K mainGlobals "dict"=some none)
    (qz4:PySem.W.nsIn K mainGlobals "enumerate"=some none)
    (qz5:PySem.W.nsIn K mainGlobals "isinstance"=some none)
    (qz6:PySem.W.nsIn K mainGlobals "len"=some none)
    (qz7:PySem.W.nsIn K mainGlobals "list"=some none)
    (qz8:PySem.W.nsIn K mainGlobals "range"=some none)
    (qz9:PySem.W.nsIn K mainGlobals "sorted"=some none)
    (qv0:PySem.W.nsIn K mainGlobals "Folded"=some (some (.ref ca0)))
    (qv1:PySem.W.nsIn K mainGlobals "ForerunError"=some (some (.ref ca1)))
    (qv2:PySem.W.nsIn K mainGlobals "Great"=some (some (.ref ca2)))
    (qv3:PySem.W.nsIn K mainGlobals "NoDealing"=some (some (.ref ca3)))
    (qv4:PySem.W.nsIn K mainGlobals "NoHand"=some (some (.ref ca4)))
    (qv5:PySem.W.nsIn K mainGlobals "NoLine"=some (some (.ref ca5)))
    (qv6:PySem.W.nsIn K mainGlobals "NoLog"=some (some (.ref ca6)))
    (qv7:PySem.W.nsIn K mainGlobals "NoNumber"=some (some (.ref ca7)))
    (qv8:PySem.W.nsIn K mainGlobals "NoOrder"=some (some (.ref ca8)))
    (qv9:PySem.W.nsIn K mainGlobals "NoTerm"=some (some (.ref ca9)))
    (qv10:PySem.W.nsIn K mainGlobals "Nought"=some (some (.ref ca10)))
    (rx0:PySem.W.excIn K ca8 bmVal newVal=true)
    (ry0_0:PySem.W.findIn K (.ref ca8) "__getattribute__"=some (some (.builtin "BaseException.__getattribute__")))
    (ry0_1:PySem.W.findIn K (.ref ca8) "__getattr__"=some none)
    (ry0_2:PySem.W.findIn K (.ref ca8) "__class__"=some (some (.builtin "object.__class__")))
    (ry0_3:PySem.W.mroIn K ca8 (.type "object")=some true)
    (ry0_4:PySem.W.mroIn K ca8 (.type "BaseException")=some true)
    (ry0_5:PySem.W.specialIn K (.builtin "object.__class__") "__get__"=some (some (.builtin "getset_descriptor.__get__")))
    (ry0_6:PySem.W.takesIn K (.builtin "object.__class__")=some true)
    (ry0_7:PySem.W.clsIn K ca8=some cl0)
    (re0_0:PySem.W.exmOne K (.ref ca8) (.ref ca1)=some true)
    (ri0_0:PySem.W.kitOne K (.ref ca8) (.type "ValueError")=some true)
    (ri0_1:PySem.W.kitOne K (.ref ca8) (.ref ca8)=some true)
    (rj0_0:PySem.W.kitAny K (.ref ca8) [(.ref ca0),(.ref ca3),(.ref ca4),(.ref ca5),(.ref ca6),(.ref ca7),(.ref ca9),(.ref ca2),(.ref ca10)]=some false):∃ t,Txt K mg t:=by
  have F0:=fun_mk (st:=s__law_draw) ql0 qc0 qk0
  have F1:=fun_mk (st:=s__law_names) ql1 qc1 qk1
  have F2:=fun_mk (st:=s__law_shelves) ql2 qc2 qk2
  have F3:=fun_mk (st:=s__law_worth) ql3 qc3 qk3
  have F4:=fun_mk (st:=s__law_paper) ql4 qc4 qk4
  have F5:=fun_mk (st:=s__law_cell_at) ql5 qc5 qk5
  have F6:=fun_mk (st:=s__law_papers) ql6 qc6 qk6
  have F7:=fun_mk (st:=s__law_met) ql7 qc7 qk7
  have F8:=fun_mk (st:=s__law_order) ql8 qc8 qk8
  have F9:=fun_mk (st:=s__law_kept) ql9 qc9 qk9
  have F10:=fun_mk (st:=s_heed_order) ql10 qc10 qk10
  have F11:=fun_mk (st:=s_gives_into) ql11 qc11 qk11
  have F12:=fun_mk (st:=s_meet) ql12 qc12 qk12
  have F13:=fun_mk (st:=s_meeting) ql13 qc13 qk13
  have F14:=fun_mk (st:=s_keeps) ql14 qc14 qk14
  have F15:=fun_mk (st:=s__law_none) ql15 qc15 qk15
  have F16:=fun_mk (st:=s__law_refused) ql16 qc16 qk16
  have F17:=fun_mk (st:=s_law) ql17 qc17 qk17
  exact ⟨⟨f0,_,f1,_,f2,_,f3,_,f4,_,f5,_,f6,_,f7,_,f8,_,f9,_,f10,_,f11,_,f12,_,f13,_,f14,_,f15,_,f16,_,f17,_,ca0,ca1,ca2,ca3,ca4,ca5,ca6,ca7,ca8,ca9,ca10⟩,⟨F0,F0.binds (ps:=["cell","j"]) (fun _ _ _ _ _ _ us hl=>match us,hl with | [_,_],_=>rfl),PySem.W.mg_of X G qa0,
    F1,F1.binds (ps:=["cell","many"]) (fun _ _ _ _ _ _ us hl=>match us,hl with | [_,_],_=>rfl),PySem.W.mg_of X G qa1,
    F2,F2.binds (ps:=["cell","many"]) (fun _ _ _ _ _ _ us hl=>match us,hl with | [_,_],_=>rfl),PySem.W.mg_of X G qa2,
    F3,F3.binds (ps:=["cell","j"]) (fun _ _ _ _ _ _ us hl=>match us,hl with | [_,_],_=>rfl),PySem.W.mg_of X G qa3,
    F4,F4.binds (ps:=["cells","shelves","wide"]) (fun _ _ _ _ _ _ us hl=>match us,hl with | [_,_,_],_=>rfl),PySem.W.mg_of X G qa4,
    F5,F5.binds (ps:=["script","k"]) (fun _ _ _ _ _ _ us hl=>match us,hl with | [_,_],_=>rfl),PySem.W.mg_of X G qa5,
    F6,F6.binds (ps:=["script","shelves"]) (fun _ _ _ _ _ _ us hl=>match us,hl with | [_,_],_=>rfl),PySem.W.mg_of X G qa6,
    F7,F7.binds (ps:=["one","other"]) (fun _ _ _ _ _ _ us hl=>match us,hl with | [_,_],_=>rfl),PySem.W.mg_of X G qa7,
    F8,F8.binds (ps:=["script","papers"]) (fun _ _ _ _ _ _ us hl=>match us,hl with | [_,_],_=>rfl),PySem.W.mg_of X G qa8,
    F9,F9.binds (ps:=["papers","order"]) (fun _ _ _ _ _ _ us hl=>match us,hl with | [_,_],_=>rfl),PySem.W.mg_of X G qa9,
    F10,F10.binds (ps:=["order","many"]) (fun _ _ _ _ _ _ us hl=>match us,hl with | [_,_],_=>rfl),PySem.W.mg_of X G qa10,
    F11,F11.binds (ps:=["one","other"]) (fun _ _ _ _ _ _ us hl=>match us,hl with | [_,_],_=>rfl),PySem.W.mg_of X G qa11,
    F12,F12.binds (ps:=["one","other"]) (fun _ _ _ _ _ _ us hl=>match us,hl with | [_,_],_=>rfl),PySem.W.mg_of X G qa12,
    F13,F13.binds (ps:=["papers","ranks","rank"]) (fun _ _ _ _ _ _ us hl=>match us,hl with | [_,_,_],_=>rfl),PySem.W.mg_of X G qa13,
    F14,F14.binds (ps:=["papers","order"]) (fun _ _ _ _ _ _ us hl=>match us,hl with | [_,_],_=>rfl),PySem.W.mg_of X G qa14,
    F15,F15.binds (ps:=["cell","order"]) (fun _ _ _ _ _ _ us hl=>match us,hl with | [_,_],_=>rfl),PySem.W.mg_of X G qa15,
    F16,F16.binds (ps:=["papers","none"]) (fun _ _ _ _ _ _ us hl=>match us,hl with | [_,_],_=>rfl),PySem.W.mg_of X G qa16,
    F17,F17.binds (ps:=["script"]) (fun _ _ _ _ _ _ us hl=>match us,hl with | [_],_=>rfl),PySem.W.mg_of X G qa17,
    fun s v=>.of_eq rfl,
    PySem.W.mg_none_of X G qz0,
    PySem.W.mg_none_of X G qz1,
    PySem.W.mg_none_of X G qz2,
    PySem.W.mg_none_of X G qz3,
    PySem.W.mg_none_of X G qz4,
    PySem.W.mg_none_of X G qz5,
    PySem.W.mg_none_of X G qz6,
    PySem.W.mg_none_of X G qz7,
    PySem.W.mg_none_of X G qz8,
    PySem.W.mg_none_of X G qz9,
    PySem.W.mg_of X G qv0,
    PySem.W.mg_of X G qv1,
    PySem.W.mg_of X G qv2,
    PySem.W.mg_of X G qv3,
    PySem.W.mg_of X G qv4,
    PySem.W.mg_of X G qv5,
    PySem.W.mg_of X G qv6,
    PySem.W.mg_of X G qv7,
    PySem.W.mg_of X G qv8,
    PySem.W.mg_of X G qv9,
    PySem.W.mg_of X G qv10,
    rx0,
    ⟨⟨ry0_0,ry0_1,ry0_2,ry0_3,ry0_4,ry0_5,ry0_6⟩,by rw [ry0_7];rfl⟩,
    re0_0,
    ri0_0,
    ri0_1,
    rj0_0⟩⟩
structure KF (K:PySem.W.Frag):Prop where
  i_b:PySem.W.kitOne K (.type "int") (.type "bool")=some false
  l_l:PySem.W.kitOne K (.type "list") (.type "list")=some true
def NamesAt (H:Hp) (nm:Addr) (ws:List Str):Prop:=H nm=some (.lst (ws.map V.str))∧∀ w∈ws,isName w=true
def LsAt (H:Hp) (a:Addr) (rows:List Row):Prop:=∃ xs,H a=some (.lst xs)∧Paired (PrAt H) xs rows
def OcAt (H:Hp) (v:V):Oc→Prop
  | .done sa=>∃ o y,v=.ref o∧H o=some (.tup [.str "done",.ref y])∧H y=some (.tup (sa.map V.int))
  | .off w=>∃ o,v=.ref o∧H o=some (.tup [.str "off",.str w])
structure Pp where
  oc:Oc
  no:List Row
  gi:List Row
def PpV (H:Hp) (v:V) (p:Pp):Prop:=∃ r o nl gl,v=.ref r∧H r=some (.tup [o,.ref nl,.ref gl])∧OcAt H o p.oc∧LsAt H nl p.no∧LsAt H gl p.gi
def PpN (H H':Hp) (v:V) (p:Pp):Prop:=∃ r o nl gl,v=.ref r∧H' r=some (.tup [o,.ref nl,.ref gl])∧OcAt H' o p.oc∧LsAt H' nl p.no∧LsAt H' gl p.gi∧H nl=none∧H gl=none
structure ppOk (p:Pp):Prop where
  ln:p.no.length≤40
  lg:p.gi.length≤40
  sn:∀ r∈p.no,PyData.strOk r.1.1=true
  sg:∀ r∈p.gi,PyData.strOk r.1.1=true
  so:∀ w,p.oc=.off w→PyData.strOk w=true
structure PpsAt (H:Hp) (a:Addr) (P:List Pp):Prop where
  at_:∃ xs,H a=some (.lst xs)∧Paired (PpV H) xs P
  ok:∀ p∈P,ppOk p
  le:P.length≤63
def pIn (p:Pl) (l:List Row):Bool:=l.any fun r=>decide (r.1=p)
def givB (a b:Pp):Bool:=a.gi.any fun r=>pIn r.1 (b.no ++ b.gi)
def metB (a b:Pp):Bool:=givB a b || givB b a
def pAt (P:List Pp) (i:Nat):Pp:=P.getD i ⟨.done [],[],[]⟩
def mtB (P:List Pp) (i j:Nat):Bool:=metB (pAt P i) (pAt P j)
def natV (n:Nat):V:=.int n
def sp__law_cell_at (K:PySem.W.Frag):Sp:=fun vs H Q _=>∃ (a:Addr) (ns:List Int) (k:Nat),vs=[.ref a,.int k]∧SqL K H a (ns.map V.int)∧ns.length≤63∧∀ c H',Same H H'→Q (.int c) H'
def sp__law_draw:Sp:=fun vs H Q _=>∃ c j,vs=[.int c,.int j]∧0≤j∧j≤1000∧∀ r H',0≤r→r < 2147483648→Same H H'→Q (.int r) H'
def sp__law_names:Sp:=fun vs H Q _=>∃ c m,vs=[.int c,.int m]∧0≤m∧m≤6∧∀ nm ws H',Same H H'→NamesAt H' nm ws→(ws.length:Int)=m→Q (.ref nm) H'
def sp__law_shelves:Sp:=fun vs H Q _=>∃ c,vs=[.int c,.int 3]∧∀ nm ws H',Same H H'→NamesAt H' nm ws→ws.length=3→Q (.ref nm) H'
def sp__law_worth:Sp:=fun vs H Q _=>∃ c j,vs=[.int c,.int j]∧0≤j∧j≤900∧∀ w H',Same H H'→Q (.int w) H'
def sp__law_paper:Sp:=fun vs H Q _=>∃ (c s:Addr) (w:Int) (ns:List Int) (ws:List Str),vs=[.ref c,.ref s,.int w]∧H c=some (.lst (ns.map V.int))∧0 < ns.length∧ns.length≤30∧NamesAt H s ws∧ws.length=3∧1≤w∧w≤60∧∀ v p H',Same H H'→PpN H H' v p→ppOk p→Q v H'
def sp__law_papers (K:PySem.W.Frag):Sp:=fun vs H Q _=>∃ (a s:Addr) (ns:List Int) (ws:List Str),vs=[.ref a,.ref s]∧SqL K H a (ns.map V.int)∧ns.length≤63∧NamesAt H s ws∧ws.length=3∧∀ l P H',Same H H'→PpsAt H' l P→P.length≤40→Q (.ref l) H'
def sp_gives_into:Sp:=fun vs H Q _=>∃ (v u:V) (a b:Pp),vs=[v,u]∧PpV H v a∧PpV H u b∧ppOk a∧ppOk b∧∀ H',Same H H'→Q (.bl (givB a b)) H'
def sp_meet:Sp:=fun vs H Q _=>∃ (v u:V) (a b:Pp),vs=[v,u]∧PpV H v a∧PpV H u b∧ppOk a∧ppOk b∧∀ H',Same H H'→Q (.bl (metB a b)) H'
def sp__law_met:Sp:=fun vs H Q _=>∃ (v u:V) (a b:Pp),vs=[v,u]∧PpV H v a∧PpV H u b∧ppOk a∧ppOk b∧∀ H',Same H H'→Q (.bl (metB a b)) H'
def sp_meeting:Sp:=fun vs H Q _=>∃ (p l:Addr) (k:Nat) (P:List Pp) (rs:List Nat),vs=[.ref p,.ref l,.int k]∧PpsAt H p P∧H l=some (.lst (rs.map natV))∧rs.length≤63∧(∀ j∈rs,j < P.length)∧k < P.length∧∀ q H',Same H H'→H q=none→H' q=some (.lst ((rs.filter fun j=>mtB P j k).map natV))→Q (.ref q) H'
def badA (P:List Pp) (os:List Nat) (k:Nat):Bool:=(os.take k).any fun j=>decide (os.getD k 0 < j) && mtB P j (os.getD k 0)
def kpB (P:List Pp) (os:List Nat):Bool:=(List.range os.length).all fun k=>!badA P os k
def ordB (n:Nat) (ns:List Int):Prop:=ns.Perm ((List.range n).map fun (i:Nat)=>(i:Int))
def sp_heed_order (t:Adr):Sp:=fun vs H Q E=>∃ (l:Addr) (n:Nat) (ns:List Int),vs=[.ref l,.int n]∧H l=some (.lst (ns.map V.int))∧ns.length < 64∧n≤63∧(∀ i∈ns,i.natAbs.log2 < 1920)∧(ordB n ns→∀ H',Same H H'→Q .non H')∧(¬ ordB n ns→∀ H',Same H H'→E (.ref t.c_NoOrder) none H')
def sp_keeps (t:Adr):Sp:=fun vs H Q E=>∃ (p l:Addr) (P:List Pp) (ns:List Int),vs=[.ref p,.ref l]∧PpsAt H p P∧H l=some (.lst (ns.map V.int))∧ns.length < 64∧(∀ i∈ns,i.natAbs.log2 < 1920)∧(∀ os:List Nat,ns=(os.map fun (i:Nat)=>(i:Int))→os.Perm (List.range P.length)→∀ H',Same H H'→Q (.bl (kpB P os)) H')∧(¬ ordB P.length ns→∀ H',Same H H'→E (.ref t.c_NoOrder) none H')
def sp__law_order (K:PySem.W.Frag):Sp:=fun vs H Q _=>∃ (a p:Addr) (ns:List Int) (P:List Pp),vs=[.ref a,.ref p]∧SqL K H a (ns.map V.int)∧ns.length≤63∧PpsAt H p P∧P.length≤40∧∀ (l:Addr) (os:List Nat) (H':Hp),Same H H'→H l=none→H' l=some (.lst (os.map natV))→os.Perm (List.range P.length)→Q (.ref l) H'
def sp__law_kept:Sp:=fun vs H Q _=>∃ (p l:Addr) (P:List Pp) (os:List Nat),vs=[.ref p,.ref l]∧PpsAt H p P∧H l=some (.lst (os.map natV))∧os.length≤63∧(∀ j∈os,j < P.length)∧∀ H',Same H H'→Q (.bl (kpB P os)) H'
def sp__law_none:Sp:=fun vs H Q _=>∃ (c:Int) (l:Addr) (os:List Nat) (n:Nat),vs=[.int c,.ref l]∧H l=some (.lst (os.map natV))∧os.Perm (List.range n)∧n≤40∧∀ (l':Addr) (ns:List Int) (H':Hp),Same H H'→H' l'=some (.lst (ns.map V.int))→ns.length≤n + 1→(∀ i∈ns,i.natAbs.log2 < 1920)→¬ ordB n ns→Q (.ref l') H'
def sp__law_refused:Sp:=fun vs H Q _=>∃ (p l:Addr) (P:List Pp) (ns:List Int),vs=[.ref p,.ref l]∧PpsAt H p P∧H l=some (.lst (ns.map V.int))∧ns.length < 64∧(∀ i∈ns,i.natAbs.log2 < 1920)∧¬ ordB P.length ns∧∀ H',Same H H'→Q (.bl true) H'
def sp_law (K:PySem.W.Frag):Sp:=fun vs H Q _=>∃ (a:Addr) (ns:List Int),vs=[.ref a]∧SqL K H a (ns.map V.int)∧ns.length≤63∧∀ H',Q (.bl true) H'
def rd__law_draw (K:PySem.W.Frag) (t:Adr):TS:=(tSeq (tAsg (tOp (rI (fun _ j=>0 < j) fun i j=>.int (i % j)) (tOp (rI0 fun i j=>.int (i + j)) (tOp (rI CMulB fun i j=>.int (i * j)) (tOp (rI (fun _ j=>0 < j) fun i j=>.int (i % j)) (tVar 0) (tC (.int 1000000007))) (tC (.int 6700417))) (tOp (rI CMulB fun i j=>.int (i * j)) (tOp (rI CMulB fun i j=>.int (i * j)) (tOp (rI0 fun i j=>.int (i + j)) (tVar 1) (tC (.int 1))) (tC (.int 104729))) (tC (.int 65537)))) (tC (.int 1000000009))) (gName 2))
    (tRet (tOp (rI CDivB fun i j=>.int (i / j)) (tOp (rI (fun _ j=>0 < j) fun i j=>.int (i % j)) (tOp (rI CMulB fun i j=>.int (i * j)) (tOp (rI (fun _ j=>0 < j) fun i j=>.int (i % j)) (tOp (rI CMulB fun i j=>.int (i * j)) (tVar 2) (tVar 2)) (tC (.int 1000000009))) (tVar 2)) (tC (.int 1000000009))) (tC (.int 32)))))
def rd__law_names_8 (K:PySem.W.Frag) (t:Adr):TS:=(tRet (tComp (iRng1 (tCons (tVar 1) tNil)) (gName 0) tYes (tOp rAddS (tOp rAddS (tSl rSlS (tVar 1) tNoPart (tPart (tVar 2))) (tOp rIxS (tVar 3) (tVar 0))) (tSl rSlS (tVar 1) (tPart (tOp (rI0 fun i j=>.int (i + j)) (tVar 2) (tC (.int 1)))) tNoPart)) 1 [4,6,3]))
def rd__law_names_5 (K:PySem.W.Frag) (t:Adr):TS:=(tSeq (tAsg (tOp (rI (fun _ j=>0 < j) fun i j=>.int (i % j)) (tCall sp__law_draw [] E0 (tCons (tVar 0) (tCons (tC (.int 8)) tNil))) (tVar 2)) (gName 6))
    (tSeq (tAsg (tOp (rI (fun _ j=>0 < j) fun i j=>.int (i % j)) (tCall sp__law_draw [] E0 (tCons (tVar 0) (tCons (tC (.int 9)) tNil))) (tCB (cLen K) (tCons (tVar 3) tNil))) (gName 7))
    (tSeq (tAsg (tOp rAddS (tSl rSlS (tVar 3) (tPart (tVar 7)) tNoPart) (tSl rSlS (tVar 3) tNoPart (tPart (tVar 7)))) (gName 3))
    (rd__law_names_8 K t))))
def rd__law_names_3 (K:PySem.W.Frag) (t:Adr):TS:=(tSeq (tAsg (tC (.str "")) (gName 4))
    (tSeq (tFor (iRng1 (tCons (tVar 2) tNil)) (gName 5)
      (tAsg (tOp rAddS (tVar 4) (tOp rIxS (tVar 3) (tOp (rI (fun _ j=>0 < j) fun i j=>.int (i % j)) (tCall sp__law_draw [] E0 (tCons (tVar 0) (tCons (tOp (rI0 fun i j=>.int (i + j)) (tC (.int 2)) (tVar 5)) tNil))) (tCB (cLen K) (tCons (tVar 3) tNil))))) (gName 4)))
    (rd__law_names_5 K t)))
def rd__law_names (K:PySem.W.Frag) (t:Adr):TS:=(tSeq (tAsg (tOp (rI0 fun i j=>.int (i + j)) (tC (.int 1)) (tOp (rI (fun _ j=>0 < j) fun i j=>.int (i % j)) (tCall sp__law_draw [] E0 (tCons (tVar 0) (tCons (tC (.int 1)) tNil))) (tC (.int 6)))) (gName 2))
    (tSeq (tAsg (tC (.str "zyxwvtsrqpnmlkjhgfdcb")) (gName 3))
    (tSeq (tIfS (tTest (tOp rEq (tVar 2) (tC (.int 6))))
      (tAsg (tC (.str "zyxwvutsrqponmlkjihgfedcba")) (gName 3))
      tNext)
    (rd__law_names_3 K t))))
def rd__law_shelves_6 (K:PySem.W.Frag) (t:Adr):TS:=(tRet (tComp (iRng1 (tCons (tVar 1) tNil)) (gName 0) tYes (tOp (rIxL K) (tVar 1) (tOp (rI (fun _ j=>0 < j) fun i j=>.int (i % j)) (tOp (rI0 fun i j=>.int (i + j)) (tVar 2) (tVar 0)) (tC (.int 4)))) 1 [5,6]))
def rd__law_shelves_4 (K:PySem.W.Frag) (t:Adr):TS:=(tSeq (tAsg (tLst (tCons (tVar 3) (tCons (tOp rAddS (tVar 4) (tVar 3)) (tCons (tSRev (tVar 3) (tUn (rU fun i=>.int (-i)) (tC (.int 1)))) (tCons (tOp rAddS (tVar 3) (tVar 4)) tNil))))) (gName 5))
    (tSeq (tAsg (tOp (rI (fun _ j=>0 < j) fun i j=>.int (i % j)) (tCall sp__law_draw [] E0 (tCons (tVar 0) (tCons (tC (.int 15)) tNil))) (tC (.int 4))) (gName 6))
    (rd__law_shelves_6 K t)))
def rd__law_shelves_1 (K:PySem.W.Frag) (t:Adr):TS:=(tSeq (tAsg (tC (.str "zyxwvtsrqpnmlkjhgfdcb")) (gName 2))
    (tSeq (tAsg (tOp rAddS (tOp rIxS (tVar 2) (tOp (rI (fun _ j=>0 < j) fun i j=>.int (i % j)) (tCall sp__law_draw [] E0 (tCons (tVar 0) (tCons (tC (.int 12)) tNil))) (tC (.int 21)))) (tOp rIxS (tVar 2) (tOp (rI (fun _ j=>0 < j) fun i j=>.int (i % j)) (tCall sp__law_draw [] E0 (tCons (tVar 0) (tCons (tC (.int 13)) tNil))) (tC (.int 21))))) (gName 3))
    (tSeq (tAsg (tOp rIxS (tVar 2) (tOp (rI (fun _ j=>0 < j) fun i j=>.int (i % j)) (tCall sp__law_draw [] E0 (tCons (tVar 0) (tCons (tC (.int 14)) tNil))) (tC (.int 21)))) (gName 4))
    (rd__law_shelves_4 K t))))
def rd__law_shelves (K:PySem.W.Frag) (t:Adr):TS:=(tSeq (tIfS (tTest (tOp (rI0 fun i j=>.bl (decide (j < i))) (tOp (rI (fun _ j=>0 < j) fun i j=>.int (i % j)) (tCall sp__law_draw [] E0 (tCons (tVar 0) (tCons (tC (.int 11)) tNil))) (tC (.int 3))) (tC (.int 0))))
      (tRet (tCall sp__law_names [] E0 (tCons (tVar 0) (tCons (tVar 1) tNil))))
      tNext)
    (rd__law_shelves_1 K t))
def rd__law_worth (K:PySem.W.Frag) (t:Adr):TS:=(tRet (tOp (rI0 fun i j=>.int (i - j)) (tOp (rI (fun _ j=>0 < j) fun i j=>.int (i % j)) (tOp (rI0 fun i j=>.int (i + j)) (tOp (rI CMulB fun i j=>.int (i * j)) (tOp (rI CMulB fun i j=>.int (i * j)) (tOp (rI (fun _ j=>0 < j) fun i j=>.int (i % j)) (tVar 0) (tOp (rI CPow fun i j=>.int (i ^ j.toNat)) (tC (.int 10)) (tC (.int 40)))) (tOp (rI0 fun i j=>.int (i + j)) (tVar 1) (tC (.int 2)))) (tC (.int 1000003))) (tVar 1)) (tOp (rI0 fun i j=>.int (i + j)) (tOp (rI CMulB fun i j=>.int (i * j)) (tC (.int 2)) (tOp (rI CPow fun i j=>.int (i ^ j.toNat)) (tC (.int 10)) (tC (.int 30)))) (tC (.int 1)))) (tOp (rI CPow fun i j=>.int (i ^ j.toNat)) (tC (.int 10)) (tC (.int 30)))))
def rd__law_paper_C (K:PySem.W.Frag) (t:Adr):TS:=(tIfS (tTest (tOp rEq (tOp (rI (fun _ j=>0 < j) fun i j=>.int (i % j)) (tCall sp__law_draw [] E0 (tCons (tVar 5) (tCons (tC (.int 6)) tNil))) (tC (.int 2))) (tC (.int 0))))
      (sDPut (tVar 3) (tVar 7) (tCall sp__law_worth [] E0 (tCons (tVar 5) (tCons (tC (.int 7)) tNil))))
      (sDPut (tVar 4) (tVar 7) (tCall sp__law_worth [] E0 (tCons (tVar 5) (tCons (tC (.int 8)) tNil)))))
def rd__law_paper_E (K:PySem.W.Frag) (t:Adr):TS:=(tRet (tTup (tCons (tTup (tCons (tC (.str "off")) (tCons (tC (.str "nought")) tNil))) (tCons (tCB cLstI (tCons (tItems (tVar 3)) tNil)) (tCons (tLst tNil) tNil)))))
def rd__law_paper_B (K:PySem.W.Frag) (t:Adr):TS:=(tSeq (tAsg (tOp (rI0 fun i j=>.int (i - j)) (tOp (rI (fun _ j=>0 < j) fun i j=>.int (i % j)) (tCall sp__law_draw [] E0 (tCons (tVar 5) (tCons (tC (.int 2)) tNil))) (tVar 2)) (tC (.int 1))) (gName 6))
    (tSeq (tIfS (tTest (tOp rEq (tOp (rI (fun _ j=>0 < j) fun i j=>.int (i % j)) (tCall sp__law_draw [] E0 (tCons (tVar 5) (tCons (tC (.int 3)) tNil))) (tC (.int 9))) (tC (.int 0))))
      (tAsg (tCall sp__law_worth [] E0 (tCons (tVar 5) (tCons (tC (.int 4)) tNil))) (gName 6))
      tNext)
    (tSeq (tAsg (tTup (tCons (tOp (rIxL K) (tVar 1) (tOp (rI (fun _ j=>0 < j) fun i j=>.int (i % j)) (tCall sp__law_draw [] E0 (tCons (tVar 5) (tCons (tC (.int 5)) tNil))) (tC (.int 3)))) (tCons (tVar 6) tNil))) (gName 7))
    (rd__law_paper_C K t))))
def rd__law_paper_4 (K:PySem.W.Frag) (t:Adr):TS:=(tRet (tTup (tCons (tTup (tCons (tC (.str "done")) (tCons (tTup (tCons (tC (.int 3)) tNil)) tNil))) (tCons (tCB cLstI (tCons (tItems (tVar 3)) tNil)) (tCons (tCB cSrtI (tCons (tItems (tVar 4)) tNil)) tNil)))))
def rd__law_paper_3 (K:PySem.W.Frag) (t:Adr):TS:=(tSeq (tIfS (tAnd (tTest (tOp rEqDE (tVar 4) tDNewK)) (tTest (tOp rEq (tOp (rI (fun _ j=>0 < j) fun i j=>.int (i % j)) (tCall sp__law_draw [] E0 (tCons (tOp (rIxL K) (tVar 0) (tC (.int 0))) (tCons (tC (.int 9)) tNil))) (tC (.int 2))) (tC (.int 0)))))
      (rd__law_paper_E K t)
      tNext)
    (rd__law_paper_4 K t))
def rd__law_paper_2 (K:PySem.W.Frag) (t:Adr):TS:=(tSeq (tFor (iList K (tVar 0)) (gName 5)
      (rd__law_paper_B K t))
    (rd__law_paper_3 K t))
def rd__law_paper (K:PySem.W.Frag) (t:Adr):TS:=(tSeq (tAsg tDNewT (gName 3))
    (tSeq (tAsg tDNewT (gName 4))
    (rd__law_paper_2 K t)))
def rd__law_cell_at (K:PySem.W.Frag) (t:Adr):TS:=(tSeq (tIfS (tTest (tOp (rI0 fun i j=>.bl (decide (i < j))) (tVar 1) (tCB (cLen K) (tCons (tVar 0) tNil))))
      (tRet (tOp (rIxL K) (tVar 0) (tVar 1)))
      tNext)
    (tRet (tC (.int 0))))
def rd__law_papers_4 (K:PySem.W.Frag) (t:Adr):TS:=(tRet (tComp (iRng3 (tCons (tC (.int 0)) (tCons (tCB (cLen K) (tCons (tVar 4) tNil)) (tCons (tVar 2) tNil)))) (gName 0) tYes (tCall sp__law_paper [] E0 (tCons (tSl (rSlL K) (tVar 1) (tPart (tVar 0)) (tPart (tOp (rI0 fun i j=>.int (i + j)) (tVar 0) (tVar 2)))) (tCons (tVar 3) (tCons (tVar 4) tNil)))) 1 [4,2,1,3]))
def rd__law_papers_3 (K:PySem.W.Frag) (t:Adr):TS:=(tSeq (tAsg (tSl (rSlL K) (tVar 0) tNoPart (tPart (tC (.int 120)))) (gName 4))
    (rd__law_papers_4 K t))
def rd__law_papers_2 (K:PySem.W.Frag) (t:Adr):TS:=(tSeq (tAsg (tOp (rI0 fun i j=>.int (i + j)) (tC (.int 2)) (tOp (rI (fun _ j=>0 < j) fun i j=>.int (i % j)) (tCall sp__law_draw [] E0 (tCons (tCall (sp__law_cell_at K) [] E0 (tCons (tVar 0) (tCons (tC (.int 0)) tNil))) (tCons (tC (.int 201)) tNil))) (tC (.int 40)))) (gName 3))
    (rd__law_papers_3 K t))
def rd__law_papers (K:PySem.W.Frag) (t:Adr):TS:=(tSeq (tAsg (tOp (rI0 fun i j=>.int (i + j)) (tC (.int 2)) (tOp (rI (fun _ j=>0 < j) fun i j=>.int (i % j)) (tCall sp__law_draw [] E0 (tCons (tCall (sp__law_cell_at K) [] E0 (tCons (tVar 0) (tCons (tC (.int 0)) tNil))) (tCons (tC (.int 200)) tNil))) (tC (.int 3)))) (gName 2))
    (tSeq (tIfS (tTest (tOp rEq (tOp (rI (fun _ j=>0 < j) fun i j=>.int (i % j)) (tCall sp__law_draw [] E0 (tCons (tCall (sp__law_cell_at K) [] E0 (tCons (tVar 0) (tCons (tC (.int 0)) tNil))) (tCons (tC (.int 202)) tNil))) (tC (.int 8))) (tC (.int 0))))
      (tAsg (tC (.int 30)) (gName 2))
      tNext)
    (rd__law_papers_2 K t)))
def rd__law_met_5 (K:PySem.W.Frag) (t:Adr):TS:=(tSeq (tFor (iList K (tOp (rIxT K) (tVar 0) (tC (.int 1)))) (gName 3)
      (tIfS (tTest (tOp (rInD false) (tOp (rIxT K) (tVar 3) (tC (.int 0))) (tVar 4)))
      (tRet (tC (.bl true)))
      tNext))
    (tRet (tC (.bl false))))
def rd__law_met_4 (K:PySem.W.Frag) (t:Adr):TS:=(tSeq (tFor (iList K (tOp rCat (tOp (rIxT K) (tVar 1) (tC (.int 1))) (tOp (rIxT K) (tVar 1) (tC (.int 2))))) (gName 3)
      (tIfS (tTest (tOp (rInD false) (tOp (rIxT K) (tVar 3) (tC (.int 0))) (tVar 2)))
      (tRet (tC (.bl true)))
      tNext))
    (rd__law_met_5 K t))
def rd__law_met_2 (K:PySem.W.Frag) (t:Adr):TS:=(tSeq (tAsg tDNewT (gName 4))
    (tSeq (tFor (iList K (tOp (rIxT K) (tVar 1) (tC (.int 2)))) (gName 3)
      (sDPut (tVar 4) (tOp (rIxT K) (tVar 3) (tC (.int 0))) (tC (.bl true))))
    (rd__law_met_4 K t)))
def rd__law_met (K:PySem.W.Frag) (t:Adr):TS:=(tSeq (tAsg tDNewT (gName 2))
    (tSeq (tFor (iList K (tOp (rIxT K) (tVar 0) (tC (.int 2)))) (gName 3)
      (sDPut (tVar 2) (tOp (rIxT K) (tVar 3) (tC (.int 0))) (tC (.bl true))))
    (rd__law_met_2 K t)))
def rd__law_order_W (K:PySem.W.Frag) (t:Adr):TS:=(tSeq (tWhile (tTest (tOp (rI0 fun i j=>.bl (decide (j < i))) (tVar 6) (tOp (rI0 fun i j=>.int (i - j)) (tVar 4) (tVar 5)))) (tSeq (tIfS (tAnd (tB (tVar 3)) (tB (tCall sp__law_met [] E0 (tCons (tOp (rIxL K) (tVar 1) (tOp (rIxL K) (tVar 2) (tOp (rI0 fun i j=>.int (i - j)) (tVar 6) (tC (.int 1))))) (tCons (tOp (rIxL K) (tVar 1) (tVar 4)) tNil)))))
      tBreak
      tNext)
    (tAsg (tOp (rI0 fun i j=>.int (i - j)) (tVar 6) (tC (.int 1))) (gName 6))))
    (tDrop (tBM K "list" r_mt_insert (tVar 2) (tCons (tVar 6) (tCons (tVar 4) tNil)))))
def rd__law_order_B (K:PySem.W.Frag) (t:Adr):TS:=(tSeq (tAsg (tOp (rI (fun _ j=>0 < j) fun i j=>.int (i % j)) (tCall sp__law_draw [] E0 (tCons (tCall (sp__law_cell_at K) [] E0 (tCons (tVar 0) (tCons (tVar 4) tNil))) (tCons (tC (.int 203)) tNil))) (tOp (rI0 fun i j=>.int (i + j)) (tC (.int 1)) (tVar 4))) (gName 5))
    (tSeq (tIfS (tAnd (tNot (tB (tVar 3))) (tTest (tOp rEq (tOp (rI (fun _ j=>0 < j) fun i j=>.int (i % j)) (tCall sp__law_draw [] E0 (tCons (tCall (sp__law_cell_at K) [] E0 (tCons (tVar 0) (tCons (tC (.int 3)) tNil))) (tCons (tC (.int 204)) tNil))) (tC (.int 2))) (tC (.int 0)))))
      (tAsg (tOp (rI (fun _ j=>0 < j) fun i j=>.int (i % j)) (tVar 5) (tC (.int 2))) (gName 5))
      tNext)
    (tSeq (tAsg (tVar 4) (gName 6))
    (rd__law_order_W K t))))
def rd__law_order_2 (K:PySem.W.Frag) (t:Adr):TS:=(tSeq (tFor (iRng1 (tCons (tCB (cLen K) (tCons (tVar 1) tNil)) tNil)) (gName 4)
      (rd__law_order_B K t))
    (tRet (tVar 2)))
def rd__law_order (K:PySem.W.Frag) (t:Adr):TS:=(tSeq (tAsg (tLst tNil) (gName 2))
    (tSeq (tAsg (tOp rEq (tOp (rI (fun _ j=>0 < j) fun i j=>.int (i % j)) (tCall sp__law_draw [] E0 (tCons (tCall (sp__law_cell_at K) [] E0 (tCons (tVar 0) (tCons (tC (.int 2)) tNil))) (tCons (tC (.int 202)) tNil))) (tC (.int 3))) (tC (.int 0))) (gName 3))
    (rd__law_order_2 K t)))
def rd__law_kept_C (K:PySem.W.Frag) (t:Adr):TS:=(tIfS (tAnd (tTest (tOp (rI0 fun i j=>.bl (decide (j < i))) (tOp (rIxL K) (tVar 1) (tVar 3)) (tOp (rIxL K) (tVar 1) (tVar 2)))) (tB (tCall sp__law_met [] E0 (tCons (tOp (rIxL K) (tVar 0) (tOp (rIxL K) (tVar 1) (tVar 3))) (tCons (tOp (rIxL K) (tVar 0) (tOp (rIxL K) (tVar 1) (tVar 2))) tNil)))))
      (tRet (tC (.bl false)))
      tNext)
def rd__law_kept_B (K:PySem.W.Frag) (t:Adr):TS:=(tFor (iRng1 (tCons (tVar 2) tNil)) (gName 3)
      (rd__law_kept_C K t))
def rd__law_kept (K:PySem.W.Frag) (t:Adr):TS:=(tSeq (tFor (iRng1 (tCons (tCB (cLen K) (tCons (tVar 1) tNil)) tNil)) (gName 2)
      (rd__law_kept_B K t))
    (tRet (tC (.bl true))))
def rd_heed_order (K:PySem.W.Frag) (t:Adr) (E:XK):TS:=(tIfS (tTest (tOp (rEqD K true) (tCB (cSrtN K) (tCons (tVar 0) tNil)) (tLRng (tCons (tVar 1) tNil))))
      (tRaise t.c_NoOrder (tCons (tMsgI (tVar 1)) tNil) E)
      tNext)
def rd_gives_into (K:PySem.W.Frag) (t:Adr):TS:=(tSeq (tAsg (tCB cDctP (tCons (tOp rCat (tOp (rIxT K) (tVar 1) (tC (.int 1))) (tOp (rIxT K) (tVar 1) (tC (.int 2)))) tNil)) (gName 2))
    (tRet (tCB (cAny K) (tCons (tComp (iList K (tOp (rIxT K) (tVar 0) (tC (.int 2)))) (gTup K 2 (gCons (gName 0) (gCons (gName 1) gNil))) tYes (tOp (rInD false) (tVar 0) (tVar 2)) 2 [2]) tNil))))
def rd_meet (K:PySem.W.Frag) (t:Adr):TS:=(tRet (tOrV (tCall sp_gives_into [] E0 (tCons (tVar 0) (tCons (tVar 1) tNil))) (tCall sp_gives_into [] E0 (tCons (tVar 1) (tCons (tVar 0) tNil)))))
def rd_meeting (K:PySem.W.Frag) (t:Adr):TS:=(tRet (tComp (iList K (tVar 1)) (gName 0) (tB (tCall sp_meet [] E0 (tCons (tOp (rIxL K) (tVar 1) (tVar 0)) (tCons (tOp (rIxL K) (tVar 1) (tVar 2)) tNil)))) (tVar 0) 1 [0,2]))
def rd_keeps_B (K:PySem.W.Frag) (t:Adr) (E:XK):TS:=(tSeq (tAsg (tComp (iList K (tSl (rSlL K) (tVar 1) tNoPart (tPart (tVar 2)))) (gName 0) (tTest (tOp (rI0 fun i j=>.bl (decide (j < i))) (tVar 0) (tVar 1))) (tVar 0) 1 [3]) (gName 4))
    (tIfS (tTest (tOp (rNeNil K) (tCall sp_meeting [] E (tCons (tVar 0) (tCons (tVar 4) (tCons (tVar 3) tNil)))) (tLst tNil)))
      (tRet (tC (.bl false)))
      tNext))
def rd_keeps_1 (K:PySem.W.Frag) (t:Adr) (E:XK):TS:=(tSeq (tFor (iEnm K (tCons (tVar 1) tNil)) (gTup K 2 (gCons (gName 2) (gCons (gName 3) gNil)))
      (rd_keeps_B K t E))
    (tRet (tC (.bl true))))
def rd_keeps (K:PySem.W.Frag) (t:Adr) (E:XK):TS:=(tSeq (tDrop (tCall (sp_heed_order t) [] E (tCons (tVar 1) (tCons (tCB (cLen K) (tCons (tVar 0) tNil)) tNil))))
    (rd_keeps_1 K t E))
def rd__law_none_G (K:PySem.W.Frag) (t:Adr):TS:=(tRet (tOp rCat (tVar 1) (tLst (tCons (tVar 7) tNil))))
def rd__law_none_C (K:PySem.W.Frag) (t:Adr):TS:=(tRet (tOp rCat (tOp rCat (tSl (rSlL K) (tVar 1) tNoPart (tPart (tVar 3))) (tLst (tCons (tVar 7) tNil))) (tSl (rSlL K) (tVar 1) (tPart (tOp (rI0 fun i j=>.int (i + j)) (tVar 3) (tC (.int 1)))) tNoPart)))
def rd__law_none_B (K:PySem.W.Frag) (t:Adr):TS:=(tRet (tOp rCat (tOp rCat (tSl (rSlL K) (tVar 1) tNoPart (tPart (tVar 3))) (tLst (tCons (tVar 5) tNil))) (tSl (rSlL K) (tVar 1) (tPart (tOp (rI0 fun i j=>.int (i + j)) (tVar 3) (tC (.int 1)))) tNoPart)))
def rd__law_none_A (K:PySem.W.Frag) (t:Adr):TS:=(tRet (tOp rCat (tSl (rSlL K) (tVar 1) tNoPart (tPart (tVar 3))) (tSl (rSlL K) (tVar 1) (tPart (tOp (rI0 fun i j=>.int (i + j)) (tVar 3) (tC (.int 1)))) tNoPart)))
def rd__law_none_E (K:PySem.W.Frag) (t:Adr):TS:=(tRet (tOp rCat (tOp rCat (tSl (rSlL K) (tVar 1) tNoPart (tPart (tVar 3))) (tLst (tCons (tVar 5) tNil))) (tSl (rSlL K) (tVar 1) (tPart (tVar 3)) tNoPart)))
def rd__law_none_7 (K:PySem.W.Frag) (t:Adr):TS:=(tSeq (tAsg (tOp (rI (fun _ j=>0 < j) fun i j=>.int (i % j)) (tVar 3) (tVar 2)) (gName 3))
    (tSeq (tIfS (tTest (tOp rEq (tVar 6) (tC (.int 1))))
      (rd__law_none_A K t)
      tNext)
    (tSeq (tIfS (tTest (tOp rEq (tVar 6) (tC (.int 2))))
      (rd__law_none_B K t)
      tNext)
    (tSeq (tAsg (tOp (rIxL K) (tVar 1) (tOp (rI (fun _ j=>0 < j) fun i j=>.int (i % j)) (tCall sp__law_draw [] E0 (tCons (tVar 0) (tCons (tC (.int 214)) tNil))) (tVar 2))) (gName 7))
    (tSeq (tIfS (tTest (tOp rEq (tVar 7) (tOp (rIxL K) (tVar 1) (tVar 3))))
      (rd__law_none_G K t)
      tNext)
    (rd__law_none_C K t))))))
def rd__law_none_5 (K:PySem.W.Frag) (t:Adr):TS:=(tSeq (tAsg (tOp (rI (fun _ j=>0 < j) fun i j=>.int (i % j)) (tCall sp__law_draw [] E0 (tCons (tVar 0) (tCons (tC (.int 213)) tNil))) (tC (.int 4))) (gName 6))
    (tSeq (tIfS (tOr (tTest (tOp rEq (tVar 2) (tC (.int 0)))) (tTest (tOp rEq (tVar 6) (tC (.int 0)))))
      (rd__law_none_E K t)
      tNext)
    (rd__law_none_7 K t)))
def rd__law_none_3 (K:PySem.W.Frag) (t:Adr):TS:=(tSeq (tAsg (tOp rCat (tVar 4) (tLst (tCons (tOp (rI0 fun i j=>.int (i + j)) (tOp (rI CPow fun i j=>.int (i ^ j.toNat)) (tC (.int 10)) (tC (.int 29))) (tOp (rI (fun _ j=>0 < j) fun i j=>.int (i % j)) (tVar 0) (tOp (rI CPow fun i j=>.int (i ^ j.toNat)) (tC (.int 10)) (tC (.int 29))))) (tCons (tOp (rI0 fun i j=>.int (i + j)) (tVar 2) (tOp (rI (fun _ j=>0 < j) fun i j=>.int (i % j)) (tVar 0) (tOp (rI CPow fun i j=>.int (i ^ j.toNat)) (tC (.int 10)) (tC (.int 29))))) tNil)))) (gName 4))
    (tSeq (tAsg (tOp (rIxL K) (tVar 4) (tOp (rI (fun _ j=>0 < j) fun i j=>.int (i % j)) (tCall sp__law_draw [] E0 (tCons (tVar 0) (tCons (tC (.int 212)) tNil))) (tC (.int 6)))) (gName 5))
    (rd__law_none_5 K t)))
def rd__law_none_2 (K:PySem.W.Frag) (t:Adr):TS:=(tSeq (tAsg (tLst (tCons (tUn (rU fun i=>.int (-i)) (tC (.int 1))) (tCons (tVar 2) (tCons (tOp (rI0 fun i j=>.int (i - j)) (tUn (rU fun i=>.int (-i)) (tC (.int 1))) (tOp (rI (fun _ j=>0 < j) fun i j=>.int (i % j)) (tCall sp__law_draw [] E0 (tCons (tVar 0) (tCons (tC (.int 211)) tNil))) (tOp (rI CPow fun i j=>.int (i ^ j.toNat)) (tC (.int 10)) (tC (.int 6))))) (tCons (tOp (rI0 fun i j=>.int (i + j)) (tVar 2) (tOp (rI (fun _ j=>0 < j) fun i j=>.int (i % j)) (tCall sp__law_draw [] E0 (tCons (tVar 0) (tCons (tC (.int 211)) tNil))) (tC (.int 5)))) tNil))))) (gName 4))
    (rd__law_none_3 K t))
def rd__law_none (K:PySem.W.Frag) (t:Adr):TS:=(tSeq (tAsg (tCB (cLen K) (tCons (tVar 1) tNil)) (gName 2))
    (tSeq (tAsg (tOp (rI (fun _ j=>0 < j) fun i j=>.int (i % j)) (tCall sp__law_draw [] E0 (tCons (tVar 0) (tCons (tC (.int 210)) tNil))) (tOp (rI0 fun i j=>.int (i + j)) (tVar 2) (tC (.int 1)))) (gName 3))
    (rd__law_none_2 K t)))
def rd__law_refused_4 (K:PySem.W.Frag) (t:Adr):TS:=(tRet (tAndV (tVar 3) (tAndV (tNotV (tVar 4)) (tOp (rEqD K false) (tVar 2) (tVar 1)))))
def rd__law_refused_3 (K:PySem.W.Frag) (t:Adr):TS:=(tSeq (tTry K (tDropX (tCallX (sp_keeps t) (tCons (tVar 0) (tCons (tVar 2) tNil)))) t.c_ForerunError 5 (tSeq (tAsg (tAndV (tCB (cIsx K) (tCons (tVar 5) (tCons (tC (.ref t.c_NoOrder)) tNil))) (tCB (cIsx K) (tCons (tVar 5) (tCons (tC (.ty "ValueError")) tNil)))) (gName 3))
    (tAsg (tCB (cIsxT K) (tCons (tVar 5) (tCons (tTup (tCons (tC (.ref t.c_Folded)) (tCons (tC (.ref t.c_NoDealing)) (tCons (tC (.ref t.c_NoHand)) (tCons (tC (.ref t.c_NoLine)) (tCons (tC (.ref t.c_NoLog)) (tCons (tC (.ref t.c_NoNumber)) (tCons (tC (.ref t.c_NoTerm)) (tCons (tC (.ref t.c_Great)) (tCons (tC (.ref t.c_Nought)) tNil)))))))))) tNil))) (gName 4))))
    (rd__law_refused_4 K t))
def rd__law_refused (K:PySem.W.Frag) (t:Adr):TS:=(tSeq (tAsg (tCB (cLst K) (tCons (tVar 1) tNil)) (gName 2))
    (tSeq (tAsg (tC (.bl false)) (gName 3))
    (tSeq (tAsg (tC (.bl false)) (gName 4))
    (rd__law_refused_3 K t))))
def rd_law_11 (K:PySem.W.Frag) (t:Adr):TS:=(tRet (tOp rIsB (tCall (sp_keeps t) [] E0 (tCons (tVar 4) (tCons (tCB (cSrtN K) (tCons (tVar 3) tNil)) tNil))) (tC (.bl true))))
def rd_law_10 (K:PySem.W.Frag) (t:Adr):TS:=(tSeq (tIfS (tOr (tTest (tOp rNe (tCall (sp_keeps t) [] E0 (tCons (tVar 4) (tCons (tVar 5) tNil))) (tVar 6))) (tOr (tTest (tOp (rEqD K true) (tVar 4) (tVar 2))) (tTest (tOp (rEqD K true) (tVar 5) (tVar 3)))))
      (tRet (tC (.bl false)))
      tNext)
    (rd_law_11 K t))
def rd_law_9 (K:PySem.W.Frag) (t:Adr):TS:=(tSeq (tIfS (tNot (tB (tCall sp__law_refused [] E0 (tCons (tVar 4) (tCons (tCB (cLst K) (tCons (tVar 8) tNil)) tNil)))))
      (tRet (tC (.bl false)))
      tNext)
    (rd_law_10 K t))
def rd_law_8 (K:PySem.W.Frag) (t:Adr):TS:=(tSeq (tAsg (tCall sp__law_none [] E0 (tCons (tCall (sp__law_cell_at K) [] E0 (tCons (tVar 0) (tCons (tC (.int 4)) tNil))) (tCons (tVar 3) tNil))) (gName 8))
    (rd_law_9 K t))
def rd_law_7 (K:PySem.W.Frag) (t:Adr):TS:=(tSeq (tIfS (tOr (tNot (tB (tCB (cIsi K) (tCons (tVar 7) (tCons (tC (.ty "bool")) tNil))))) (tTest (tOp rNe (tVar 7) (tVar 6))))
      (tRet (tC (.bl false)))
      tNext)
    (rd_law_8 K t))
def rd_law_6 (K:PySem.W.Frag) (t:Adr):TS:=(tSeq (tAsg (tCall (sp_keeps t) [] E0 (tCons (tVar 4) (tCons (tVar 5) tNil))) (gName 7))
    (rd_law_7 K t))
def rd_law_5 (K:PySem.W.Frag) (t:Adr):TS:=(tSeq (tAsg (tCall sp__law_kept [] E0 (tCons (tVar 2) (tCons (tVar 3) tNil))) (gName 6))
    (rd_law_6 K t))
def rd_law_4 (K:PySem.W.Frag) (t:Adr):TS:=(tSeq (tAsg (tCB (cLst K) (tCons (tVar 3) tNil)) (gName 5))
    (rd_law_5 K t))
def rd_law_3 (K:PySem.W.Frag) (t:Adr):TS:=(tSeq (tAsg (tComp (iList K (tVar 2)) (gName 0) tYes (tTup (tCons (tOp (rIxT K) (tVar 0) (tC (.int 0))) (tCons (tCB (cLst K) (tCons (tOp (rIxT K) (tVar 0) (tC (.int 1))) tNil)) (tCons (tCB (cLst K) (tCons (tOp (rIxT K) (tVar 0) (tC (.int 2))) tNil)) tNil)))) 1 []) (gName 4))
    (rd_law_4 K t))
def rd_law_2 (K:PySem.W.Frag) (t:Adr):TS:=(tSeq (tAsg (tCall (sp__law_order K) [] E0 (tCons (tVar 0) (tCons (tVar 2) tNil))) (gName 3))
    (rd_law_3 K t))
def rd_law (K:PySem.W.Frag) (t:Adr):TS:=(tSeq (tAsg (tCall sp__law_shelves [] E0 (tCons (tCall (sp__law_cell_at K) [] E0 (tCons (tVar 0) (tCons (tC (.int 1)) tNil))) (tCons (tC (.int 3)) tNil))) (gName 1))
    (tSeq (tAsg (tCall (sp__law_papers K) [] E0 (tCons (tVar 0) (tCons (tVar 1) tNil))) (gName 2))
    (rd_law_2 K t)))
section
variable {K:PySem.W.Frag} {t:Adr} {H:Hp} {Q:VK}
theorem pow10 {j:Int} (h0:0≤j) (h1:j≤100):CPow 10 j:=⟨h0,by omega,by decide⟩
theorem small_size {n:Nat} (h:n≤100000):n≤sizeLine:=Nat.le_trans h (by decide)
theorem kit_same (T:String):PySem.W.kitOne K (.type T) (.type T)=some true:=by
  unfold PySem.W.kitOne
  rw [if_pos (by simp)]
theorem kf (K:PySem.W.Frag):KF K:=⟨by with_unfolding_all rfl,kit_same _⟩
theorem dB {i j:Int} (h0:0 < j:=by decide) (h1:j < 10000000000000000000000000000000000000000000000:=by decide):CDivB i j:=by
  have hb:(10000000000000000000000000000000000000000000000:Int) < big:=by decide +kernel
  exact ⟨h0,by omega⟩
theorem at_lt {α:Type} {xs:List α} {i:Int} (h0:0≤i) (h1:i < xs.length):∃ x,atI xs i=some x∧x∈xs:=by
  obtain ⟨n,rfl⟩:∃ n:Nat,i=(n:Int):=⟨i.toNat,by omega⟩
  have hn:n < xs.length:=by omega
  refine ⟨xs[n],?_,List.getElem_mem hn⟩
  unfold atI ixN
  rw [if_pos h0,if_pos h1]
  simp [hn]
theorem at_mod {α:Type} {xs:List α} (e:Int) (n:Nat) (hl:xs.length=n) (hn:0 < (n:Int)):∃ x,atI xs (e % n)=some x∧x∈xs :=
  at_lt (Int.emod_nonneg _ (by omega)) (by rw [hl];exact Int.emod_lt_of_pos _ hn)
theorem same_upd {H H':Hp} {w:Addr} {o:HO} (s:Same H H') (hw:H w=none):Same H (upd H' w o):=fun b u e=>by rw [upd_ne (ne_of_none e hw)];exact s b u e
theorem rdp__law_cell_at {a:Addr} {ns:List Int} {k:Nat} (hS:SqL K H a (ns.map V.int)) (hl:ns.length≤63) (q:∀ c H',Same H H'→Q (.int c) H') :
    rd__law_cell_at K t { nx:=fun _ H'=>Q .non H',rt:=Q } (L2.start ["script","k"] [.ref a,.int k]) H:=by
  simp only [rd__law_cell_at,L2.start,tSeq,tRet,tNext,tOp,tVar,tC,tCons,tNil,tIfS,tTest,tCB,LenV,rIxL,rI0,cLen,List.map,List.replicate,List.length,List.append,jqa,jqb,jqc,jqd,jqe,jqf,jqg,jqh,jqi,jqj,jqk,jql,jqm,jqn,and_true,true_and,and_assoc,jqo,jqp,jqq,Nat.reduceSub,Nat.reduceAdd,jqr,jqs,jqt,Int.reduceToNat,Int.reducePow,Int.reduceNeg,Int.reduceMul,Int.reduceAdd,if_true,ite_true,jqu,ite_false,if_false]
  refine ⟨_,.inl ⟨_,hS,rfl⟩,ite2 (fun c=>?_) fun _=>q _ _ (Same.refl H)⟩
  obtain ⟨v,hv,hm⟩:=at_lt (xs:=ns.map V.int) (i:=(k:Int)) (by omega) c
  obtain ⟨i,_,rfl⟩:=List.mem_map.mp hm
  exact ⟨_,hS,_,hv,q _ _ (Same.refl H)⟩
theorem one_len (c:Nat):({ cps:=#[c] }:Str).length=1:=rfl
theorem fresh_of {H H':Hp} {D:Addr} (s:Same H H') (h:H' D=none):H D=none:=by
  cases e:H D with
  | none=>rfl
  | some o=>rw [s _ _ e] at h;cases h
theorem last_mem {p:Pl} {w:Int}:∀ {l:List Row},lastW l p=some w→(p,w)∈l
  | [],h=>by cases h
  | r :: t,h=>by
    rw [lastW] at h
    cases e:lastW t p with
    | some w' =>
      rw [e] at h
      have:w'=w:=by simpa using h
      subst this
      exact List.mem_cons_of_mem _ (last_mem e)
    | none =>
      rw [e] at h
      by_cases c:r.1=p
      · rw [if_pos c] at h
        have:r.2=w:=by simpa using h
        rw [← c,← this];exact List.mem_cons_self
      · rw [if_neg c] at h;cases h
theorem rdp__law_draw {c j:Int} (h1:0≤j) (h2:j≤1000) (q:∀ r H',0≤r→r < 2147483648→Same H H'→Q (.int r) H') :
    rd__law_draw K t { nx:=fun _ H'=>Q .non H',rt:=Q } (L2.start ["cell","j","far"] [.int c,.int j]) H:=by
  simp only [rd__law_draw,L2.start,tSeq,tAsg,gName,tRet,tOp,tVar,tC,rI,rI0,List.map,List.replicate,List.length,List.append,jqa,jqb,jqc,jqd,jqe,jqf,jqg,jqh,jqi,jqj,jqk,jql,jqm,jqn,and_true,true_and,and_assoc,jqo,jqp,jqq,Nat.reduceSub,Nat.reduceAdd,jqr,jqs,jqt,Int.reduceToNat,Int.reducePow,Int.reduceNeg,Int.reduceMul,Int.reduceAdd,if_true,ite_true,jqu,ite_false,if_false]
  have hb:(10000000000000000000000000000000000000000000000:Int) < big:=by decide +kernel
  have g1:=Int.emod_nonneg c (b:=1000000007) (by decide)
  have g2:=Int.emod_lt_of_pos c (b:=1000000007) (by decide)
  generalize c % 1000000007=a at *
  have g3:=Int.emod_nonneg (a * 6700417 + (j + 1) * 104729 * 65537) (b:=1000000009) (by decide)
  have g4:=Int.emod_lt_of_pos (a * 6700417 + (j + 1) * 104729 * 65537) (b:=1000000009) (by decide)
  generalize hf:(a * 6700417 + (j + 1) * 104729 * 65537) % 1000000009=f at *
  have g5:=Int.emod_nonneg (f * f) (b:=1000000009) (by decide)
  have g6:=Int.emod_lt_of_pos (f * f) (b:=1000000009) (by decide)
  generalize hg:f * f % 1000000009=g at *
  have g7:=Int.emod_nonneg (g * f) (b:=1000000009) (by decide)
  have g8:=Int.emod_lt_of_pos (g * f) (b:=1000000009) (by decide)
  refine ⟨by decide,⟨⟨by omega,by omega⟩,by omega,by omega⟩,⟨⟨by omega,by omega⟩,by omega,by omega⟩,⟨⟨by omega,by omega⟩,by omega,by omega⟩,by decide,?_⟩
  refine ⟨⟨⟨by omega,by omega⟩,by omega,by omega⟩,by decide,⟨⟨by omega,by omega⟩,by omega,by omega⟩,by decide,dB,q _ _ ?_ ?_ (Same.refl H)⟩
  · exact Int.ediv_nonneg g7 (by decide)
  · omega
def TSm (H H':Hp):Prop:=∀ b ys,H b=some (.tup ys)→H' b=some (.tup ys)
theorem cut_one (ns:List Int) (lo hi:Option Int):∃ ys:List Int,cutV (ns.map V.int) lo hi=ys.map V.int∧ys.length≤ns.length:=by
  refine ⟨(ns.drop (HT.sIx ns.length 0 lo)).take (HT.sIx ns.length ns.length hi - HT.sIx ns.length 0 lo),?_,?_⟩
  · unfold cutV
    rw [List.map_take,List.map_drop,List.length_map]
  · rw [List.length_take,List.length_drop];omega
theorem cnt_lt {i:Nat} {j c:Int} (hj:0≤j) (hc:0 < c) (h:i < cntR 0 j c):(i:Int) * c < j:=by
  unfold cntR at h
  split at h
  · have h2:(i:Int)≤(j - 0 - 1) / c:=by omega
    have h3:=(Int.le_ediv_iff_mul_le hc).mp h2
    omega
  · omega
theorem cut_two (ns:List Int) (k m:Nat) (hk:k < ns.length) (hm:1≤m):∃ ys:List Int,cutV (ns.map V.int) (some (k:Int)) (some ((k + m:Nat):Int))=ys.map V.int∧ys.length≤m∧0 < ys.length:=by
  refine ⟨(ns.drop k).take m,?_,?_,?_⟩
  · unfold cutV
    rw [List.length_map,HT.sIx_nat,HT.sIx_nat,List.map_take,List.map_drop,Nat.min_eq_left (by omega:k≤ns.length)]
    by_cases c:k + m≤ns.length
    · rw [Nat.min_eq_left c,Nat.add_sub_cancel_left]
    · rw [Nat.min_eq_right (by omega)]
      rw [List.take_of_length_le (by simp),List.take_of_length_le (by simp;omega)]
  · rw [List.length_take];omega
  · rw [List.length_take,List.length_drop];omega
theorem pIn_iff {p:Pl} {l:List Row}:pIn p l=true↔∃ r∈l,r.1=p:=by
  unfold pIn
  rw [List.any_eq_true]
  exact ⟨fun ⟨r,h1,h2⟩=>⟨r,h1,of_decide_eq_true h2⟩,fun ⟨r,h1,h2⟩=>⟨r,h1,decide_eq_true h2⟩⟩
theorem pIn_last {p:Pl} {l:List Row}:(lastW l p).isSome=pIn p l:=by
  cases h:lastW l p with
  | none =>
    cases e:pIn p l with
    | false=>rfl
    | true =>
      obtain ⟨r,hr,rfl⟩:=pIn_iff.mp e
      have:∀ l:List Row,r∈l→lastW l r.1≠none:=by
        intro l
        induction l with
        | nil=>exact fun h=>nomatch h
        | cons x t ih =>
          intro hm hn
          unfold lastW at hn
          cases e:lastW t r.1 with
          | some w=>rw [e] at hn;cases hn
          | none =>
            rw [e] at hn
            rcases List.mem_cons.mp hm with z | hm
            · rw [z] at hn;rw [if_pos rfl] at hn;cases hn
            · exact ih hm e
      exact absurd h (this l hr)
  | some w=>exact (pIn_iff.mpr ⟨(p,w),last_mem h,rfl⟩).symm
theorem name_ok {x:Str} (h:isName x=true):PyData.strOk x=true:=(name_asc h).flat
def TSame (H H':Hp):Prop:=∀ b ys,H b=some (.tup ys)→H' b=some (.tup ys)
theorem Same.ts {H H':Hp} (s:Same H H'):TSame H H':=fun b ys e=>s _ _ e
theorem comp_inv {J:It} {D:Addr} {τ₀:St} {H1:Hp} {Q:Hp→Prop} {B:V→St→Hp→(V→St→Hp→Prop)→(St→Hp→Prop)→Prop} (n:Nat) (hn:n≤1000000) (C:St→Prop) (R:Nat→List V→Hp→Prop) (hm:∀ i ys H H',TSame H H'→R i ys H→R i ys H') (hC:C τ₀) (h0:R 0 [] H1)
    (go:∀ i H,Same H1 H→i < n→J.go i H) (stop:∀ H,Same H1 H→J.stop n H) (hD:H1 D=none)
    (hs:∀ i x τ ys H H',C τ→Same H1 H→i < n→R i ys H→J.yld i H x H'→B x τ H' (fun v τ' H4=>C τ'∧R (i + 1) (ys ++ [v]) H4∧Same H H4) (fun τ' H4=>C τ'∧R (i + 1) ys H4∧Same H H4))
    (hd:∀ ys H,ys.length≤n→R n ys H→Same H1 H→H D=some (.lst ys)→Q H) :
    ∃ W:Nat→Nat→List V→St→Hp→Prop,(∃ m,W 0 m [] τ₀ (upd H1 D (.lst [])))∧∀ i m ys τ H,W i m ys τ H→H D=some (.lst ys) ∧
    ((J.stop i H∧Q H)∨(J.go i H∧ys.length < sizeLine∧∃ N:V→St→Hp→Prop,
      (∀ v τ' H',N v τ' H'→H' D=some (.lst ys)∧∃ m',m' < m∧W (i + 1) m' (ys ++ [v]) τ' (upd H' D (.lst (ys ++ [v]))))∧∃ Nf:St→Hp→Prop,(∀ τ' H',Nf τ' H'→∃ m',m' < m∧W (i + 1) m' ys τ' H') ∧
      ∀ x H',J.yld i H x H'→B x τ H' N Nf)):=by
  have ext:∀ {H:Hp} {o:HO},Same H1 H→Same H1 (upd H D o):=fun {H o} h b u e=>by
    rw [upd_ne (ne_of_none e hD)];exact h b u e
  refine ⟨fun i m ys τ H=>m=n - i∧i≤n∧ys.length≤i∧R i ys H∧Same H1 H∧H D=some (.lst ys)∧C τ,⟨n,by simp,Nat.zero_le _,Nat.le_refl _,hm _ _ _ _ (Same.ts (ext (Same.refl _))) h0,ext (Same.refl _),upd_same,hC⟩,?_⟩
  rintro i m ys τ H ⟨rfl,hi,hl,hR,hS,hy,hc⟩
  refine ⟨hy,?_⟩
  by_cases hlt:i < n
  · refine .inr ⟨go i H hS hlt,Nat.lt_of_le_of_lt (by omega:ys.length≤1000000) (by decide),_,?_,_,?_,fun x H' y=>hs i x τ ys H H' hc hS hlt hR y⟩
    · rintro v τ' H4 ⟨c4,r4,s4⟩
      have y4:=s4 _ _ hy
      exact ⟨y4,n - (i + 1),by omega,rfl,hlt,by simp;omega,hm _ _ _ _ (fun b zs e=>by rw [upd_ne (ne_of e y4 (by simp))];exact e) r4,ext (hS.trans s4),upd_same,c4⟩
    · rintro τ' H4 ⟨c4,r4,s4⟩
      exact ⟨n - (i + 1),by omega,rfl,hlt,by omega,r4,hS.trans s4,s4 _ _ hy,c4⟩
  · obtain rfl:i=n:=by omega
    exact .inl ⟨stop H hS,hd ys H hl hR hS hy⟩
def allP (P:Nat→Bool) (x:Str):Prop:=x.cps.toList.all P=true
theorem allP_app {P:Nat→Bool} {x y:Str} (h:allP P x) (h':allP P y):allP P (x ++ y):=by
  unfold allP at *
  rw [cps_app,List.all_append,h,h'];rfl
theorem allP_one {P:Nat→Bool} {c:Nat} (h:P c=true):allP P ⟨#[c]⟩:=by
  show [c].all P=true
  rw [List.all_cons,h];rfl
theorem allP_to {P:Nat→Bool} {x:Str} (h:allP P x) (k:Nat):allP P (Txt.slice x none (some (k:Int))):=by
  unfold allP at *
  rw [slice_to]
  rw [List.all_eq_true] at *
  exact fun c hc=>h c (List.mem_of_mem_take hc)
theorem allP_from {P:Nat→Bool} {x:Str} (h:allP P x) (k:Nat):allP P (Txt.slice x (some (k:Int)) none):=by
  unfold allP at *
  rw [slice_from]
  rw [List.all_eq_true] at *
  exact fun c hc=>h c (List.mem_of_mem_drop hc)
theorem len_to (x:Str) (k:Nat) (h:k≤x.length):(Txt.slice x none (some (k:Int))).length=k:=by
  rw [len_cps] at *
  rw [slice_to,List.length_take];omega
theorem len_from (x:Str) (k:Nat):(Txt.slice x (some (k:Int)) none).length=x.length - k:=by
  rw [len_cps,len_cps,slice_from,List.length_drop]
def inC (c:Nat):Bool:=(Str.ofString "zyxwvtsrqpnmlkjhgfdcb").cps.toList.contains c
theorem inC_L:∀ c∈(Str.ofString "zyxwvtsrqpnmlkjhgfdcb").cps.toList,inL c=true:=by decide +kernel
theorem c_in:∀ c∈(Str.ofString "zyxwvtsrqpnmlkjhgfdcb").cps.toList,inC c=true:=fun c hc=>by unfold inC;exact List.contains_iff_mem.mpr hc
theorem z_in:∀ c∈(Str.ofString "zyxwvutsrqponmlkjihgfedcba").cps.toList,inL c=true:=by decide +kernel
theorem words_six:∀ v∈jw ++ wl,(match v with | .str w=>decide (w.length≠6) && !(w.cps.toList.all inC) | _=>true)=true:=by decide +kernel
theorem no_word {x:Str} (h:x.length=6∨allP inC x):(inV (.str x) jw || inV (.str x) wl)=false:=by
  have key:∀ v∈jw ++ wl,eqV v (.str x)=false:=fun v hv=>by
    have w:=words_six v hv
    cases e:eqV v (.str x) with
    | false=>rfl
    | true =>
      cases v <;> simp only [eqV,Bool.false_eq_true] at e
      rename_i y
      have e':y=x:=by simpa using e
      subst e'
      simp only [Bool.and_eq_true,decide_eq_true_eq,Bool.not_eq_true'] at w
      rcases h with h | h
      · exact absurd h w.1
      · unfold allP at h;rw [h] at w;exact absurd w.2 (by decide)
  rw [Bool.or_eq_false_iff]
  unfold inV
  constructor
  · rw [List.any_eq_false]
    exact fun v hv=>by rw [key v (List.mem_append_left _ hv)];decide
  · rw [List.any_eq_false]
    exact fun v hv=>by rw [key v (List.mem_append_right _ hv)];decide
theorem name_of {x:Str} (h1:1≤x.length) (h2:x.length≤6) (h3:(x.length=6∧allP inL x)∨allP inC x):isName x=true:=by
  have nw:(inV (.str x) jw || inV (.str x) wl)=false:=no_word (h3.imp (·.1) id)
  have al:x.cps.toList.all inL=true:=by
    rcases h3 with h | h
    · exact h.2
    · unfold allP at h
      rw [List.all_eq_true] at *
      exact fun c hc=>inC_L c (List.contains_iff_mem.mp (h c hc))
  have ne:decide (x="")=false:=decide_eq_false fun z=>by rw [z] at h1;exact absurd h1 (by decide)
  have nl:decide (6 < x.length)=false:=decide_eq_false (by omega)
  unfold isName
  rw [nw,al,ne,nl];rfl
structure Sgn (P:Nat→Bool) (sz:Nat) (sg:Str):Prop where
  al:allP P sg
  lo:21≤sg.length
  hi:sg.length≤26
  s1:1≤sz
  s6:sz≤6
  nm:∀ x:Str,x.length=sz→allP P x→isName x=true
theorem sgn_at {P:Nat→Bool} {sz:Nat} {sg:Str} (S:Sgn P sz sg) {i:Int} (h0:0≤i) (h1:i < sg.length):∃ c,atI sg.cps.toList i=some c∧P c=true:=by
  obtain ⟨c,hc,hm⟩:=at_lt (xs:=sg.cps.toList) (i:=i) h0 (by rw [← len_cps];exact h1)
  exact ⟨c,hc,List.all_eq_true.mp S.al c hm⟩
theorem strs_of {P:Str→Prop}:∀ {ys:List V},(∀ v∈ys,∃ x,v=.str x∧P x)→∃ ls:List Str,ys=ls.map V.str∧∀ x∈ls,P x
  | [],_=>⟨[],rfl,fun _ z=>nomatch z⟩
  | v :: r,h=>by
    obtain ⟨x,rfl,px⟩:=h v List.mem_cons_self
    obtain ⟨ls,rfl,pl⟩:=strs_of (ys:=r) fun u hu=>h u (List.mem_cons_of_mem _ hu)
    exact ⟨x :: ls,rfl,fun y hy=>by
      rcases List.mem_cons.mp hy with rfl | hy
      · exact px
      · exact pl y hy⟩
def nmV (v:V):Prop:=∃ x:Str,v=.str x∧isName x=true
theorem rdp_nm8 {P:Nat→Bool} {sz:Nat} {sg stem:Str} {c m tn:Int} {o5:Option V} {at_:Nat} (S:Sgn P sz sg) (hs:stem.length=sz) (hp:allP P stem) (ha:at_ < sz) (h1:0≤m) (h2:m≤6) (q:∀ nm ws H',Same H H'→NamesAt H' nm ws→(ws.length:Int)=m→Q (.ref nm) H') :
    rd__law_names_8 K t { nx:=fun _ H'=>Q .non H',rt:=Q } [some (.int c),some (.int m),some (.int sz),some (.str sg),some (.str stem),o5,some (.int at_),some (.int tn)] H:=by
  simp only [rd__law_names_8,L2.start,gName,tRet,tOp,tVar,tC,tCons,tNil,tSl,tPart,tNoPart,tComp,tYes,capV,iRng1,rIxS,rI0,rSlS,rAddS,List.map,List.replicate,List.length,List.append,jqa,jqb,jqc,jqd,jqe,jqf,jqg,jqh,jqi,jqj,jqk,jql,jqm,jqn,and_true,true_and,and_assoc,jqo,jqp,jqq,Nat.reduceSub,Nat.reduceAdd,jqr,jqs,jqt,Int.reduceToNat,Int.reducePow,Int.reduceNeg,Int.reduceMul,Int.reduceAdd,if_true,ite_true,jqu,ite_false,if_false]
  have lo:=S.lo
  have hi:=S.hi
  have s6:=S.s6
  refine ⟨by omega,by omega,fun D hD=>?_⟩
  refine comp_gen (J:=Itr 0 m.toNat) m.toNat (by omega) (fun τ=>∃ o,τ=[o,some (.str stem),some (.int (at_:Int)),some (.str sg)]) (fun i v=>nmV v) ⟨_,rfl⟩ (fun i H _ h=>h) (fun H _=>Nat.le_refl _) hD ?_ ?_
  · rintro i v τ H2 H' ⟨o,rfl⟩ s hi ⟨rfl,rfl⟩
    simp only [L2.start,gName,tRet,tOp,tVar,tC,tCons,tNil,tSl,tPart,tNoPart,tComp,tYes,capV,iRng1,rIxS,rI0,rSlS,rAddS,List.map,List.replicate,List.length,List.append,jqa,jqb,jqc,jqd,jqe,jqf,jqg,jqh,jqi,jqj,jqk,jql,jqm,jqn,and_true,true_and,and_assoc,jqo,jqp,jqq,Nat.reduceSub,Nat.reduceAdd,jqr,jqs,jqt,Int.reduceToNat,Int.reducePow,Int.reduceNeg,Int.reduceMul,Int.reduceAdd,if_true,ite_true,jqu,ite_false,if_false]
    obtain ⟨d,hd,hP⟩:=sgn_at S (i:=0 + (i:Int)) (by omega) (by omega)
    have l1:=len_to stem at_ (by omega)
    have l2:=len_from stem (at_ + 1)
    have p1:=allP_to hp at_
    have p2:=allP_from hp (at_ + 1)
    rw [show ((at_ + 1:Nat):Int)=(at_:Int) + 1 by omega] at l2 p2
    exact ⟨small_size (by omega),small_size (by omega),d,hd,small_size (by rw [one_len];omega),small_size (by omega),small_size (by rw [len_app,one_len];omega),⟨_,rfl⟩,⟨_,rfl,S.nm _ (by rw [len_app,len_app,one_len];omega) (allP_app (allP_app p1 (allP_one hP)) p2)⟩,Same.refl _⟩
  · intro ys H' hly hv s hq
    obtain ⟨ls,rfl,hp⟩:=strs_of (P:=fun x=>isName x=true) (ys:=ys) fun v hv2=>by
      obtain ⟨i,hi⟩:=List.getElem?_of_mem hv2
      exact hv i v hi
    rw [List.length_map] at hly
    exact q D ls H' s ⟨hq,hp⟩ (by omega)
theorem rdp_nm5 {P:Nat→Bool} {sz:Nat} {sg stem:Str} {c m:Int} {o5:Option V} (S:Sgn P sz sg) (hs:stem.length=sz) (hp:allP P stem) (h1:0≤m) (h2:m≤6) (q:∀ nm ws H',Same H H'→NamesAt H' nm ws→(ws.length:Int)=m→Q (.ref nm) H') :
    rd__law_names_5 K t { nx:=fun _ H'=>Q .non H',rt:=Q } [some (.int c),some (.int m),some (.int sz),some (.str sg),some (.str stem),o5,none,none] H:=by
  simp only [rd__law_names_5,sp__law_draw,L2.start,tSeq,tAsg,gName,tRet,tOp,tVar,tC,tCons,tNil,tCB,tSl,tPart,tNoPart,tCall,tComp,tYes,capV,LenV,iRng1,rIxS,rI,rI0,rSlS,rAddS,cLen,List.map,List.replicate,List.length,List.append,jqa,jqb,jqc,jqd,jqe,jqf,jqg,jqh,jqi,jqj,jqk,jql,jqm,jqn,and_true,true_and,and_assoc,jqo,jqp,jqq,Nat.reduceSub,Nat.reduceAdd,jqr,jqs,jqt,Int.reduceToNat,Int.reducePow,Int.reduceNeg,Int.reduceMul,Int.reduceAdd,if_true,ite_true,jqu,ite_false,if_false]
  have lo:=S.lo
  have hi:=S.hi
  have s1:=S.s1
  have s6:=S.s6
  refine ⟨by decide,by decide,fun r1 H1 a1 b1 s1'=>⟨by omega,by decide,by decide,fun r2 H2 a2 b2 s2'=>⟨small_size (by omega),by omega,?_⟩⟩⟩
  obtain ⟨k,ek⟩:∃ k:Nat,r1 % (sz:Int)=k:=⟨_,(Int.toNat_of_nonneg (Int.emod_nonneg _ (by omega))).symm⟩
  have hk:(k:Int) < sz:=by rw [← ek];exact Int.emod_lt_of_pos _ (by omega)
  obtain ⟨u,eu⟩:∃ u:Nat,r2 % (sg.length:Int)=u:=⟨_,(Int.toNat_of_nonneg (Int.emod_nonneg _ (by omega))).symm⟩
  have hu:(u:Int) < sg.length:=by rw [← eu];exact Int.emod_lt_of_pos _ (by omega)
  rw [ek,eu]
  have l1:=len_to sg u (by omega)
  have l2:=len_from sg u
  refine ⟨small_size (by omega),small_size (by omega),small_size (by omega),?_⟩
  have S':Sgn P sz (Txt.slice sg (some (u:Int)) none ++ Txt.slice sg none (some (u:Int))):=⟨allP_app (allP_from S.al u) (allP_to S.al u),by rw [len_app];omega,by rw [len_app];omega,S.s1,S.s6,S.nm⟩
  exact rdp_nm8 S' hs hp (by omega) h1 h2 fun nm ws H' s hn hl=>q nm ws H' (s1'.trans (s2'.trans s)) hn hl
def nmI (P:Nat→Bool) (c m:Int) (sz:Nat) (sg:Str) (H:Hp) (i:Nat) (σ:St) (H':Hp):Prop:=(∃ (x:Str) (o:Option V),σ=[some (.int c),some (.int m),some (.int sz),some (.str sg),some (.str x),o,none,none]∧x.length=i∧allP P x)∧Same H H'
theorem rdp_nm3 {P:Nat→Bool} {sz:Nat} {sg:Str} {c m:Int} (S:Sgn P sz sg) (h1:0≤m) (h2:m≤6) (q:∀ nm ws H',Same H H'→NamesAt H' nm ws→(ws.length:Int)=m→Q (.ref nm) H') :
    rd__law_names_3 K t { nx:=fun _ H'=>Q .non H',rt:=Q } [some (.int c),some (.int m),some (.int sz),some (.str sg),none,none,none,none] H:=by
  simp only [rd__law_names_3,sp__law_draw,L2.start,tSeq,tAsg,gName,tRet,tOp,tVar,tC,tCons,tNil,tFor,tCB,tSl,tPart,tNoPart,tCall,tComp,tYes,capV,LenV,iRng1,rIxS,rI,rI0,rSlS,rAddS,cLen,List.map,List.replicate,List.length,List.append,jqa,jqb,jqc,jqd,jqe,jqf,jqg,jqh,jqi,jqj,jqk,jql,jqm,jqn,and_true,true_and,and_assoc,jqo,jqp,jqq,Nat.reduceSub,Nat.reduceAdd,jqr,jqs,jqt,Int.reduceToNat,Int.reducePow,Int.reduceNeg,Int.reduceMul,Int.reduceAdd,if_true,ite_true,jqu,ite_false,if_false]
  have lo:=S.lo
  have hi:=S.hi
  have s1:=S.s1
  have s6:=S.s6
  refine ⟨by omega,by omega,loop_range (nmI P c m sz sg H) ⟨⟨_,none,rfl,by decide +kernel,by show [].all P=true;rfl⟩,Same.refl H⟩ ?_ ?_⟩
  · rintro i σ H' hi ⟨⟨x,o,rfl,hx,hp⟩,s⟩
    simp only [L2.start,tSeq,tAsg,gName,tRet,tOp,tVar,tC,tCons,tNil,tFor,tCB,tSl,tPart,tNoPart,tCall,tComp,tYes,capV,LenV,iRng1,rIxS,rI,rI0,rSlS,rAddS,cLen,List.map,List.replicate,List.length,List.append,jqa,jqb,jqc,jqd,jqe,jqf,jqg,jqh,jqi,jqj,jqk,jql,jqm,jqn,and_true,true_and,and_assoc,jqo,jqp,jqq,Nat.reduceSub,Nat.reduceAdd,jqr,jqs,jqt,Int.reduceToNat,Int.reducePow,Int.reduceNeg,Int.reduceMul,Int.reduceAdd,if_true,ite_true,jqu,ite_false,if_false]
    refine ⟨by omega,by omega,fun r1 H1 a1 b1 s1'=>⟨small_size (by omega),by omega,?_⟩⟩
    obtain ⟨d,hd,hP⟩:=sgn_at S (i:=r1 % (sg.length:Int)) (Int.emod_nonneg _ (by omega)) (Int.emod_lt_of_pos _ (by omega))
    exact ⟨small_size (by omega),d,hd,small_size (by rw [one_len];omega),⟨_,_,rfl,by rw [len_app,one_len];omega,allP_app hp (allP_one hP)⟩,s.trans s1'⟩
  · rintro σ H' ⟨⟨x,o,rfl,hx,hp⟩,s⟩
    exact rdp_nm5 S (by omega) hp h1 h2 fun nm ws H2 s2 hn hl=>q nm ws H2 (s.trans s2) hn hl
theorem rdp__law_names {c m:Int} (h1:0≤m) (h2:m≤6) (q:∀ nm ws H',Same H H'→NamesAt H' nm ws→(ws.length:Int)=m→Q (.ref nm) H') :
    rd__law_names K t { nx:=fun _ H'=>Q .non H',rt:=Q } (L2.start ["cell","many","size","signs","stem","k","at","turn"] [.int c,.int m]) H:=by
  simp only [rd__law_names,sp__law_draw,L2.start,tSeq,tAsg,gName,tRet,tNext,tOp,tVar,tC,tCons,tNil,tFor,tIfS,tTest,tCB,tSl,tPart,tNoPart,tCall,tComp,tYes,capV,LenV,iRng1,rIxS,rEq,rI,rI0,rSlS,rAddS,cLen,scal,List.map,List.replicate,List.length,List.append,jqa,jqb,jqc,jqd,jqe,jqf,jqg,jqh,jqi,jqj,jqk,jql,jqm,jqn,and_true,true_and,and_assoc,jqo,jqp,jqq,Nat.reduceSub,Nat.reduceAdd,jqr,jqs,jqt,Int.reduceToNat,Int.reducePow,Int.reduceNeg,Int.reduceMul,Int.reduceAdd,if_true,ite_true,jqu,ite_false,if_false]
  refine ⟨by decide,by decide,fun r1 H1 a1 b1 s1'=>⟨by decide,?_⟩⟩
  obtain ⟨k,ek⟩:∃ k:Nat,1 + r1 % 6=k:=⟨(1 + r1 % 6).toNat,by omega⟩
  rw [ek]
  have lc:(Str.ofString "zyxwvtsrqpnmlkjhgfdcb").length=21:=by decide +kernel
  have lz:(Str.ofString "zyxwvutsrqponmlkjihgfedcba").length=26:=by decide +kernel
  refine ite2 (fun e=>?_) fun e=>?_
  · have e5:(k:Int)=6:=by simpa using e
    have e6:k=6:=by omega
    exact rdp_nm3 (P:=inL) (sg:="zyxwvutsrqponmlkjihgfedcba") ⟨List.all_eq_true.mpr z_in,by rw [lz];omega,by rw [lz];omega,by omega,by omega,fun x hx hp=>name_of (by omega) (by omega) (.inl ⟨by omega,hp⟩)⟩ h1 h2 fun nm ws H2 s2 hn hl=>q nm ws H2 (s1'.trans s2) hn hl
  · exact rdp_nm3 (P:=inC) (sg:="zyxwvtsrqpnmlkjhgfdcb") ⟨List.all_eq_true.mpr c_in,by rw [lc];omega,by rw [lc];omega,by omega,by omega,fun x hx hp=>name_of (by omega) (by omega) (.inr hp)⟩ h1 h2 fun nm ws H2 s2 hn hl=>q nm ws H2 (s1'.trans s2) hn hl
theorem prs_same {H H':Hp} (s:Same H H'):∀ {ys:List V} {rows:List Row},Paired (PrAt H) ys rows→Paired (PrAt H') ys rows
  | _,_,.nil=>.nil
  | _,_,.cons ⟨r,p,e1,e2,e3⟩ t=>.cons ⟨r,p,e1,s _ _ e2,s _ _ e3⟩ (prs_same s t)
section
variable {l:Addr}
theorem ls_kp {H':Hp} {rows:List Row} (h:LsAt H l rows) (k:∀ o,H l=some o→H' l=some o) (ts:TSm H H'):LsAt H' l rows:=by
  obtain ⟨xs,h1,h2⟩:=h
  exact ⟨xs,k _ h1,Paired.mapP h2 fun _ _ ⟨r,p,e1,e2,e3⟩=>⟨r,p,e1,ts _ _ e2,ts _ _ e3⟩⟩
theorem ls_same {H':Hp} {rows:List Row} (h:LsAt H l rows) (s:Same H H'):LsAt H' l rows:=ls_kp h (fun o e=>s _ _ e) fun b ys e=>s _ _ e
end
def plD (p:Pl):PyData:=.tuple [.str p.1,.int p.2]
def rwD' (r:Row):PyData:=.tuple [plD r.1,.int r.2]
theorem pl_dat {q:Addr} {p:Pl} (h:H q=some (.tup [.str p.1,.int p.2])):Dat K H (.ref q) (plD p):=.tup (SqT.of h) (.cons (.str _) (.cons (.int _) .nil))
theorem pl_plain {p:Pl} (h:PyData.strOk p.1=true):plainD (plD p)=true:=by simp [plD,plainD,plainDs,h]
theorem pl_depth (p:Pl):(plD p).depth≤2:=by simp [plD,PyData.depth,PyData.depthAll]
theorem prs_dat:∀ {ys:List V} {rows:List Row},Paired (PrAt H) ys rows→DatAll K H ys (rows.map rwD')
  | _,_,.nil=>.nil
  | _,_,.cons ⟨r,p,e1,e2,e3⟩ t=>by
    rw [List.map_cons,e1]
    exact .cons (.tup (SqT.of e2) (.cons (pl_dat e3) (.cons (.int _) .nil))) (prs_dat t)
theorem ls_dat {l:Addr} {rows:List Row} (h:LsAt H l rows):Dat K H (.ref l) (.list (rows.map rwD')):=by
  obtain ⟨xs,h1,h2⟩:=h
  exact .lst (SqL.of h1) (prs_dat h2)
theorem rw_plainD:∀ {rows:List Row},(∀ r∈rows,PyData.strOk r.1.1=true)→plainDs (rows.map rwD')=true
  | [],_=>rfl
  | r :: t,h=>by
    rw [List.map_cons,plainDs,rw_plainD (fun x hx=>h x (List.mem_cons_of_mem _ hx))]
    have:=pl_plain (h r List.mem_cons_self)
    simp [rwD',plainD,plainDs,this]
theorem rw_deepD:∀ (rows:List Row),PyData.depthAll (rows.map rwD')≤3
  | []=>by simp [PyData.depthAll]
  | r :: t=>by
    have h:=rw_deepD t
    have h2:=pl_depth r.1
    rw [List.map_cons,PyData.depthAll]
    simp only [rwD',PyData.depth,PyData.depthAll] at h2 ⊢
    omega
theorem ls_plain {rows:List Row} (h:∀ r∈rows,PyData.strOk r.1.1=true):plainD (.list (rows.map rwD'))=true:=by rw [plainD];exact rw_plainD h
theorem ls_deep (rows:List Row):(PyData.list (rows.map rwD')).depth≤4:=by
  have:=rw_deepD rows
  rw [PyData.depth];omega
theorem sok_done:PyData.strOk (Str.ofString "done")=true:=by decide +kernel
def ocD:Oc→PyData
  | .done sa=>.tuple [.str (Str.ofString "done"),.tuple (sa.map PyData.int)]
  | .off w=>.tuple [.str (Str.ofString "off"),.str w]
theorem oc_same {H':Hp} {v:V} {oc:Oc} (h:OcAt H v oc) (s:Same H H'):OcAt H' v oc:=by
  cases oc with
  | done sa=>obtain ⟨o,y,e1,e2,e3⟩:=h;exact ⟨o,y,e1,s _ _ e2,s _ _ e3⟩
  | off w=>obtain ⟨o,e1,e2⟩:=h;exact ⟨o,e1,s _ _ e2⟩
theorem oc_ts {H':Hp} {v:V} {oc:Oc} (h:OcAt H v oc) (s:TSm H H'):OcAt H' v oc:=by
  cases oc with
  | done sa=>obtain ⟨o,y,e1,e2,e3⟩:=h;exact ⟨o,y,e1,s _ _ e2,s _ _ e3⟩
  | off w=>obtain ⟨o,e1,e2⟩:=h;exact ⟨o,e1,s _ _ e2⟩
theorem oc_dat {v:V} {oc:Oc} (h:OcAt H v oc):Dat K H v (ocD oc):=by
  cases oc with
  | done sa =>
    obtain ⟨o,y,rfl,e2,e3⟩:=h
    exact .tup (SqT.of e2) (.cons (.str _) (.cons (.tup (SqT.of e3) (DatAll.of fun i _=>.int i)) .nil))
  | off w =>
    obtain ⟨o,rfl,e2⟩:=h
    exact .tup (SqT.of e2) (.cons (.str _) (.cons (.str _) .nil))
theorem ints_plain:∀ (sa:List Int),plainDs (sa.map PyData.int)=true
  | []=>rfl
  | i :: t=>by rw [List.map_cons,plainDs,ints_plain t];rfl
theorem ints_deep:∀ (sa:List Int),PyData.depthAll (sa.map PyData.int)=0
  | []=>by simp [PyData.depthAll]
  | i :: t=>by rw [List.map_cons,PyData.depthAll,ints_deep t,PyData.depth];rfl
theorem oc_plain {oc:Oc} (h:∀ w,oc=.off w→PyData.strOk w=true):plainD (ocD oc)=true:=by
  cases oc with
  | done sa=>have:=sok_done;simp [ocD,plainD,plainDs,ints_plain,this]
  | off w=>have:=h w rfl;have k:=sok_off;simp [ocD,plainD,plainDs,this,k]
theorem oc_deep (oc:Oc):(ocD oc).depth≤3:=by
  cases oc with
  | done sa=>simp only [ocD,PyData.depth,PyData.depthAll,ints_deep];omega
  | off w=>simp only [ocD,PyData.depth,PyData.depthAll];omega
section
variable {H':Hp}
theorem PpV.same {v:V} {p:Pp} (h:PpV H v p) (s:Same H H'):PpV H' v p:=by
  obtain ⟨r,o,nl,gl,e,h1,h2,h3,h4⟩:=h
  exact ⟨r,o,nl,gl,e,s _ _ h1,oc_same h2 s,ls_same h3 s,ls_same h4 s⟩
theorem PpsAt.same {a:Addr} {P:List Pp} (h:PpsAt H a P) (s:Same H H'):PpsAt H' a P:=by
  obtain ⟨⟨xs,h1,h2⟩,h3,h4⟩:=h
  exact ⟨⟨xs,s _ _ h1,Paired.mapP h2 fun _ _ z=>z.same s⟩,h3,h4⟩
theorem PpsAt.get {a:Addr} {P:List Pp} (h:PpsAt H a P) {k:Nat} (hk:k < P.length):∃ xs v,H a=some (.lst xs)∧atI xs (k:Nat)=some v∧PpV H v (pAt P k)∧ppOk (pAt P k)∧xs.length=P.length:=by
  obtain ⟨⟨xs,h1,h2⟩,h3,h4⟩:=h
  have lx:=Paired.length h2
  have hv:xs[k]?=some xs[k]:=List.getElem?_eq_getElem (by omega)
  have hp:P[k]?=some P[k]:=List.getElem?_eq_getElem hk
  have e:pAt P k=P[k]:=by unfold pAt;rw [List.getD_eq_getElem?_getD,hp];rfl
  exact ⟨xs,_,h1,atI_nat hv,by rw [e];exact paired_get h2 hv hp,by rw [e];exact h3 _ (List.getElem_mem hk),lx⟩
end
section
variable {v u:V} {a b:Pp}
theorem paired_app {α β:Type} {R:α→β→Prop}:∀ {xs:List α} {ys:List β} {us:List α} {vs:List β},Paired R xs ys→Paired R us vs→Paired R (xs ++ us) (ys ++ vs)
  | _,_,_,_,.nil,h=>h
  | _,_,_,_,.cons a t,h=>.cons a (paired_app t h)
def gvR (gi:List Row) (all:List Row) (i:Nat) (ys:List V) (_:Hp):Prop:=ys=((gi.take i).map fun r=>V.bl (pIn r.1 all))
theorem rdp_gives_into (h1:PpV H v a) (h2:PpV H u b) (oa:ppOk a) (ob:ppOk b) (q:∀ H',Same H H'→Q (.bl (givB a b)) H') :
    rd_gives_into K t { nx:=fun _ H'=>Q .non H',rt:=Q } (L2.start ["one","other","known"] [v,u]) H:=by
  obtain ⟨r1,o1,n1,g1,rfl,e1,_,f1,f2⟩:=h1
  obtain ⟨r2,o2,n2,g2,rfl,e2,_,f3,f4⟩:=h2
  obtain ⟨xs,hx,px⟩:=f2
  obtain ⟨ys,hy,py⟩:=f3
  obtain ⟨zs,hz,pz⟩:=f4
  have lx:=Paired.length px
  have ly:=Paired.length py
  have lz:=Paired.length pz
  have la:=oa.lg
  have lb:=ob.lg
  have lc:=ob.ln
  simp only [rd_gives_into,rInD,cDctP,rCat,cAny,L2.start,rIxT,tSeq,tAsg,gName,gTup,gCons,gNil,tRet,tOp,tVar,tC,tCons,tNil,tCB,tComp,tYes,capV,iList,rCat,rIxT,List.map,List.replicate,List.length,List.append,jqa,jqb,jqc,jqd,jqe,jqf,jqg,jqh,jqi,jqj,jqk,jql,jqm,jqn,and_true,true_and,and_assoc,jqo,jqp,jqq,Nat.reduceSub,Nat.reduceAdd,jqr,jqs,jqt,Int.reduceToNat,Int.reducePow,Int.reduceNeg,Int.reduceMul,Int.reduceAdd,if_true,ite_true,jqu,ite_false,if_false]
  refine ⟨_,SqT.of e2,_,rfl,_,SqT.of e2,_,rfl,n2,rfl,g2,rfl,ys,hy,zs,hz,small_size (by omega),fun l hl=>?_⟩
  have s1:=isV (o:=HO.lst (ys ++ zs)) l hl
  have pr:Paired (PrAt (upd H l (HO.lst (ys ++ zs)))) (ys ++ zs) (b.no ++ b.gi):=paired_app (prs_same s1 py) (prs_same s1 pz)
  refine ⟨_,upd_same,b.no ++ b.gi,pr,by rw [List.length_append];omega,fun d hd=>?_⟩
  generalize upd H l (HO.lst (ys ++ zs))=H1 at *
  have s2:=isV (o:=HO.dT (dOf (b.no ++ b.gi))) d hd
  have S2:=s1.trans s2
  have e1':=S2 _ _ e1
  have hx':=S2 _ _ hx
  have hd':upd H1 d (HO.dT (dOf (b.no ++ b.gi))) d=some (.dT (dOf (b.no ++ b.gi))):=upd_same
  have px':=prs_same S2 px
  generalize upd H1 d (HO.dT (dOf (b.no ++ b.gi)))=H2 at *
  refine ⟨_,SqT.of e1',_,rfl,g1,rfl,⟨_,SqL.of hx'⟩,fun D hD=>?_⟩
  refine comp_inv (J:=Itl K g1) xs.length (by omega) (fun τ=>∃ o0 o1,τ=[o0,o1,some (.ref d)]) (gvR a.gi (b.no ++ b.gi)) (fun i ys H H' s h=>h) ⟨_,_,rfl⟩ rfl (fun i H s h=>⟨_,_,SqL.of (s _ _ hx'),List.getElem?_eq_getElem h⟩) (fun H s=>⟨_,SqL.of (s _ _ hx'),Nat.le_refl _⟩) hD ?_ ?_
  · rintro i v τ us H4 H5 ⟨o0,o1,rfl⟩ s4 hi hR ⟨rfl,hv⟩
    have hv:=hv _ (SqL.of (s4 _ _ hx'))
    obtain ⟨row,hrow,r,p0,rfl,q2,q3⟩:=Paired.getP px' hv
    simp only [rInD,cDctP,rCat,cAny,L2.start,rIxT,tSeq,tAsg,gName,gTup,gCons,gNil,tRet,tOp,tVar,tC,tCons,tNil,tCB,tComp,tYes,capV,iList,rCat,rIxT,List.map,List.replicate,List.length,List.append,jqa,jqb,jqc,jqd,jqe,jqf,jqg,jqh,jqi,jqj,jqk,jql,jqm,jqn,and_true,true_and,and_assoc,jqo,jqp,jqq,Nat.reduceSub,Nat.reduceAdd,jqr,jqs,jqt,Int.reduceToNat,Int.reducePow,Int.reduceNeg,Int.reduceMul,Int.reduceAdd,if_true,ite_true,jqu,ite_false,if_false]
    refine ⟨_,SqT.of (s4 _ _ q2),rfl,_,_,rfl,_,_,rfl,rfl,_,DGet.t (k:=plKey row.1) (s4 _ _ hd') (s4 _ _ q3),⟨_,rfl⟩,?_,Same.refl _⟩
    unfold gvR at hR ⊢
    rw [List.take_add_one,hrow,List.map_append,hR]
    have e:(valV (dOf (b.no ++ b.gi)) (plKey row.1)).isSome=pIn row.1 (b.no ++ b.gi):=by
      rw [← pIn_last,val_dOf]
      cases lastW (b.no ++ b.gi) row.1 <;> rfl
    rw [e]
    rfl
  · rintro us H4 hl hR s4 hDl
    unfold gvR at hR
    rw [lx,List.take_length] at hR
    have e:us=(a.gi.map fun r=>pIn r.1 (b.no ++ b.gi)).map V.bl:=by rw [hR,List.map_map];rfl
    rw [e] at hDl
    refine ⟨_,SqL.of hDl,?_⟩
    have:=q H4 (S2.trans s4)
    unfold givB at this
    rw [List.any_map]
    exact this
theorem rdp_meet (h1:PpV H v a) (h2:PpV H u b) (oa:ppOk a) (ob:ppOk b) (q:∀ H',Same H H'→Q (.bl (metB a b)) H') :
    rd_meet K t { nx:=fun _ H'=>Q .non H',rt:=Q } (L2.start ["one","other"] [v,u]) H:=by
  simp only [rd_meet,sp_gives_into,L2.start,tRet,tVar,tCons,tNil,tOrV,tCall,List.map,List.replicate,List.length,List.append,jqa,jqb,jqc,jqd,jqe,jqf,jqg,jqh,jqi,jqj,jqk,jql,jqm,jqn,and_true,true_and,and_assoc,jqo,jqp,jqq,Nat.reduceSub,Nat.reduceAdd,jqr,jqs,jqt,Int.reduceToNat,Int.reducePow,Int.reduceNeg,Int.reduceMul,Int.reduceAdd,if_true,ite_true,jqu,ite_false,if_false]
  refine ⟨a,h1,b,h2,oa,ob,fun H1 s1=>?_⟩
  have e:metB a b=(givB a b || givB b a):=rfl
  cases g:givB a b with
  | true =>
    rw [if_pos rfl]
    rw [g,Bool.true_or] at e
    have:=q H1 s1
    rw [e] at this
    exact this
  | false =>
    rw [if_neg (by decide)]
    rw [g,Bool.false_or] at e
    refine ⟨b,h2.same s1,a,h1.same s1,ob,oa,fun H2 s2=>?_⟩
    have:=q H2 (s1.trans s2)
    rw [e] at this
    exact this
end
section
variable {p l a:Addr} {k:Nat} {P:List Pp} {rs:List Nat} {ls:List Addr} {T:List (List Nat)}
def mgR (P:List Pp) (rs:List Nat) (k:Nat) (i:Nat) (ys:List V) (_:Hp):Prop:=ys=(((rs.take i).filter fun j=>mtB P j k).map natV)
theorem take_nat {ws:List Nat} {k:Nat} {w:Nat} (h:ws[k]?=some w):ws.take (k + 1)=ws.take k ++ [w]:=by rw [List.take_add_one,h];rfl
theorem rdp_meeting (h1:PpsAt H p P) (h2:H l=some (.lst (rs.map natV))) (h3:rs.length≤63) (h4:∀ j∈rs,j < P.length) (h5:k < P.length) (q:∀ q H',Same H H'→H q=none→H' q=some (.lst ((rs.filter fun j=>mtB P j k).map natV))→Q (.ref q) H') :
    rd_meeting K t { nx:=fun _ H'=>Q .non H',rt:=Q } (L2.start ["papers","ranks","rank"] [.ref p,.ref l,.int k]) H:=by
  simp only [rd_meeting,sp_meet,L2.start,gName,tRet,tOp,tVar,tCons,tNil,tB,tCall,tComp,capV,iList,rIxL,List.map,List.replicate,List.length,List.append,jqa,jqb,jqc,jqd,jqe,jqf,jqg,jqh,jqi,jqj,jqk,jql,jqm,jqn,and_true,true_and,and_assoc,jqo,jqp,jqq,Nat.reduceSub,Nat.reduceAdd,jqr,jqs,jqt,Int.reduceToNat,Int.reducePow,Int.reduceNeg,Int.reduceMul,Int.reduceAdd,if_true,ite_true,jqu,ite_false,if_false]
  have lr:(rs.map natV).length=rs.length:=List.length_map ..
  refine ⟨⟨_,SqL.of h2⟩,fun D hD=>?_⟩
  refine comp_inv (J:=Itl K l) rs.length (by omega) (fun τ=>∃ o0,τ=[o0,some (.ref p),some (.int k)]) (mgR P rs k) (fun i ys H H' s h=>h) ⟨_,rfl⟩ rfl (fun i H s h=>⟨_,_,SqL.of (s _ _ h2),List.getElem?_eq_getElem (by rw [lr];exact h)⟩) (fun H s=>⟨_,SqL.of (s _ _ h2),by rw [lr];exact Nat.le_refl _⟩) hD ?_ ?_
  · rintro i v τ us H4 H5 ⟨o0,rfl⟩ s4 hi hR ⟨rfl,hv⟩
    have hv:=hv _ (SqL.of (s4 _ _ h2))
    have hj:rs[i]?=some rs[i]:=List.getElem?_eq_getElem hi
    rw [List.getElem?_map,hj] at hv
    obtain rfl:natV rs[i]=v:=Option.some.inj hv
    have tk:=take_nat (ws:=rs) hj
    have hlt:=h4 _ (List.getElem_mem hi)
    generalize rs[i]=j at *
    have h1':=h1.same s4
    obtain ⟨xs,v1,x1,x2,x3,x4,_⟩:=h1'.get hlt
    obtain ⟨xs',v2,y1,y2,y3,y4,_⟩:=h1'.get h5
    simp only [natV,L2.start,gName,tRet,tOp,tVar,tCons,tNil,tB,tCall,tComp,capV,iList,rIxL,List.map,List.replicate,List.length,List.append,jqa,jqb,jqc,jqd,jqe,jqf,jqg,jqh,jqi,jqj,jqk,jql,jqm,jqn,and_true,true_and,and_assoc,jqo,jqp,jqq,Nat.reduceSub,Nat.reduceAdd,jqr,jqs,jqt,Int.reduceToNat,Int.reducePow,Int.reduceNeg,Int.reduceMul,Int.reduceAdd,if_true,ite_true,jqu,ite_false,if_false]
    refine ⟨_,SqL.of x1,_,x2,_,SqL.of y1,_,y2,_,x3,_,y3,x4,y4,fun H6 s6=>?_⟩
    have em:metB (pAt P j) (pAt P k)=mtB P j k:=rfl
    rw [em]
    unfold mgR at hR ⊢
    rw [tk,List.filter_append,List.map_append]
    cases g:mtB P j k with
    | true =>
      rw [if_pos rfl]
      exact ⟨⟨_,rfl⟩,by rw [hR];simp [g,natV],s6⟩
    | false =>
      rw [if_neg (by decide)]
      exact ⟨⟨_,rfl⟩,by rw [hR];simp [g],s6⟩
  · rintro us H4 hl hR s4 hDl
    unfold mgR at hR
    rw [List.take_length] at hR
    rw [hR] at hDl
    exact q D H4 s4 hD hDl
end
theorem allP_rev {P:Nat→Bool} {x:Str} (h:allP P x) (u:Tok):allP P (Txt.sliceBy x none none (-1,u)):=by
  unfold allP at *
  rw [PyProof.Rows.step_rev_list]
  rw [List.all_eq_true] at *
  intro c hc
  obtain ⟨k,hk,rfl⟩:=List.mem_map.mp hc
  have hk:=List.mem_range.mp hk
  refine h _ ?_
  have hlt:x.length - 1 - k < x.cps.size:=by show _ < x.length;omega
  rw [Array.getD_eq_getD_getElem?,Array.getElem?_eq_getElem hlt]
  exact Array.getElem_mem_toList ..
theorem rev_any (x:Str) (u:Tok):Txt.sliceBy x none none (-1,u)=Txt.sliceBy x none none (-1,0):=by
  have h:=(PyProof.Rows.step_rev_list x u).trans (PyProof.Rows.step_rev_list x 0).symm
  generalize Txt.sliceBy x none none (-1,u)=y at *
  generalize Txt.sliceBy x none none (-1,0)=z at *
  obtain ⟨y⟩:=y
  obtain ⟨z⟩:=z
  exact congrArg Str.mk (Array.toList_inj.mp h)
def c21:Str:="zyxwvtsrqpnmlkjhgfdcb"
theorem c21_at (e:Int):∃ c,atI c21.cps.toList (e % 21)=some c∧inC c=true:=by
  have g1:=Int.emod_nonneg e (b:=21) (by decide)
  have g2:=Int.emod_lt_of_pos e (b:=21) (by decide)
  obtain ⟨v,h1,h2⟩:=at_lt (xs:=c21.cps.toList) (i:=e % 21) g1 (by rw [show c21.cps.toList.length=21 from by decide +kernel];exact g2)
  exact ⟨v,h1,c_in v h2⟩
theorem rdp__law_worth {c j:Int} (h1:0≤j) (h2:j≤900) (q:∀ w H',Same H H'→Q (.int w) H') :
    rd__law_worth K t { nx:=fun _ H'=>Q .non H',rt:=Q } (L2.start ["cell","j"] [.int c,.int j]) H:=by
  simp only [rd__law_worth,L2.start,tRet,tOp,tVar,tC,rI,rI0,List.map,List.replicate,List.length,List.append,jqa,jqb,jqc,jqd,jqe,jqf,jqg,jqh,jqi,jqj,jqk,jql,jqm,jqn,and_true,true_and,and_assoc,jqo,jqp,jqq,Nat.reduceSub,Nat.reduceAdd,jqr,jqs,jqt,Int.reduceToNat,Int.reducePow,Int.reduceNeg,Int.reduceMul,Int.reduceAdd,if_true,ite_true,jqu,ite_false,if_false]
  have P30:=pow10 (j:=30) (by decide) (by decide)
  have P40:=pow10 (j:=40) (by decide) (by decide)
  have hb:(1000000000000000000000000000000000000000000000000000000000000:Int) < big:=by decide +kernel
  have g1:=Int.emod_nonneg c (b:=10000000000000000000000000000000000000000) (by decide)
  have g2:=Int.emod_lt_of_pos c (b:=10000000000000000000000000000000000000000) (by decide)
  generalize c % 10000000000000000000000000000000000000000=d at *
  have m1:0≤d * (j + 2):=Int.mul_nonneg g1 (by omega)
  have m2:d * (j + 2)≤10000000000000000000000000000000000000000 * 1000:=Int.mul_le_mul (by omega) (by omega) (by omega) (by decide)
  generalize d * (j + 2)=f at *
  exact ⟨P40,by decide,⟨⟨by omega,by omega⟩,by omega,by omega⟩,⟨⟨by omega,by omega⟩,by omega,by omega⟩,P30,⟨⟨by omega,by omega⟩,by omega,by omega⟩,by decide,P30,q _ _ (Same.refl _)⟩
theorem rdp_shel4 {c:Int} {x y:Str} (lx:x.length=2) (ly:y.length=1) (px:allP inC x) (py:allP inC y) (q:∀ nm ws H',Same H H'→NamesAt H' nm ws→ws.length=3→Q (.ref nm) H') :
    rd__law_shelves_4 K t { nx:=fun _ H'=>Q .non H',rt:=Q } [some (.int c),some (.int 3),some (.str "zyxwvtsrqpnmlkjhgfdcb"),some (.str x),some (.str y),none,none] H:=by
  simp only [rd__law_shelves_4,rd__law_shelves_6,sp__law_draw,tSRev,L2.start,tSeq,tAsg,gName,tRet,tOp,tUn,tVar,tC,tLst,tCons,tNil,tCall,tComp,tYes,capV,iRng1,rIxL,rI,rI0,rU,rAddS,List.map,List.replicate,List.length,List.append,jqa,jqb,jqc,jqd,jqe,jqf,jqg,jqh,jqi,jqj,jqk,jql,jqm,jqn,and_true,true_and,and_assoc,jqo,jqp,jqq,Nat.reduceSub,Nat.reduceAdd,jqr,jqs,jqt,Int.reduceToNat,Int.reducePow,Int.reduceNeg,Int.reduceMul,Int.reduceAdd,if_true,ite_true,jqu,ite_false,if_false]
  have lr:(Txt.sliceBy x none none (-1,0)).length=x.length:=PyProof.Rows.step_rev_len x 0
  have pr:=allP_rev px 0
  refine ⟨small_size (by omega),small_size (by omega),_,rev_any x,small_size (by omega),by decide,fun p hp=>⟨by decide,by decide,fun r H1 r0 r1 s1=>⟨by decide,by decide,by decide,fun D hD=>?_⟩⟩⟩
  have hp1:=s1 _ _ (upd_same (H:=H) (a:=p) (o:=HO.lst [V.str x,V.str (y ++ x),V.str (Txt.sliceBy x none none (-1,0)),V.str (x ++ y)]))
  have S1:Same H H1:=(isV p hp).trans s1
  have nmz:∀ v∈[V.str x,V.str (y ++ x),V.str (Txt.sliceBy x none none (-1,0)),V.str (x ++ y)],nmV v:=fun v hv=>by
    simp only [List.mem_cons,List.not_mem_nil,or_false] at hv
    rcases hv with rfl | rfl | rfl | rfl
    · exact ⟨_,rfl,name_of (by omega) (by omega) (.inr px)⟩
    · exact ⟨_,rfl,name_of (by rw [len_app];omega) (by rw [len_app];omega) (.inr (allP_app py px))⟩
    · exact ⟨_,rfl,name_of (by omega) (by omega) (.inr pr)⟩
    · exact ⟨_,rfl,name_of (by rw [len_app];omega) (by rw [len_app];omega) (.inr (allP_app px py))⟩
  generalize hM:[V.str x,V.str (y ++ x),V.str (Txt.sliceBy x none none (-1,0)),V.str (x ++ y)]=M at *
  have lM:M.length=4:=by rw [← hM];rfl
  refine comp_gen (J:=Itr 0 3) 3 (by decide) (fun τ=>∃ o,τ=[o,some (.ref p),some (.int (r % 4))]) (fun i v=>nmV v) ⟨_,rfl⟩ (fun i H _ h=>h) (fun H _=>Nat.le_refl _) hD ?_ ?_
  · rintro i v τ H2 H' ⟨o,rfl⟩ s hi ⟨rfl,rfl⟩
    simp only [tSRev,L2.start,tSeq,tAsg,gName,tRet,tOp,tUn,tVar,tC,tLst,tCons,tNil,tCall,tComp,tYes,capV,iRng1,rIxL,rI,rI0,rU,rAddS,List.map,List.replicate,List.length,List.append,jqa,jqb,jqc,jqd,jqe,jqf,jqg,jqh,jqi,jqj,jqk,jql,jqm,jqn,and_true,true_and,and_assoc,jqo,jqp,jqq,Nat.reduceSub,Nat.reduceAdd,jqr,jqs,jqt,Int.reduceToNat,Int.reducePow,Int.reduceNeg,Int.reduceMul,Int.reduceAdd,if_true,ite_true,jqu,ite_false,if_false]
    obtain ⟨v,hv,hm⟩:=at_mod (r % 4 + (0 + (i:Int))) 4 (xs:=M) lM (by decide)
    exact ⟨by decide,_,SqL.of (s _ _ hp1),v,hv,⟨_,rfl⟩,nmz v hm,Same.refl _⟩
  · intro ys H' hly hv s hq
    obtain ⟨ls,rfl,hp⟩:=strs_of (P:=fun x=>isName x=true) (ys:=ys) fun v hv2=>by
      obtain ⟨i,hi⟩:=List.getElem?_of_mem hv2
      exact hv i v hi
    rw [List.length_map] at hly
    exact q D ls H' (S1.trans s) ⟨hq,hp⟩ hly
theorem rdp__law_shelves {c:Int} (q:∀ nm ws H',Same H H'→NamesAt H' nm ws→ws.length=3→Q (.ref nm) H') :
    rd__law_shelves K t { nx:=fun _ H'=>Q .non H',rt:=Q } (L2.start ["cell","many","signs","stem","more","some","turn"] [.int c,.int 3]) H:=by
  simp only [rd__law_shelves,rd__law_shelves_1,sp__law_names,sp__law_draw,tSRev,L2.start,tSeq,tAsg,gName,tRet,tNext,tOp,tUn,tVar,tC,tLst,tCons,tNil,tIfS,tTest,tCall,tComp,tYes,capV,iRng1,rIxL,rIxS,rI,rI0,rU,rAddS,List.map,List.replicate,List.length,List.append,jqa,jqb,jqc,jqd,jqe,jqf,jqg,jqh,jqi,jqj,jqk,jql,jqm,jqn,and_true,true_and,and_assoc,jqo,jqp,jqq,Nat.reduceSub,Nat.reduceAdd,jqr,jqs,jqt,Int.reduceToNat,Int.reducePow,Int.reduceNeg,Int.reduceMul,Int.reduceAdd,if_true,ite_true,jqu,ite_false,if_false]
  refine ⟨by decide,by decide,fun r H1 _ _ s1=>⟨by decide,ite2 (fun _=>⟨by decide,by decide,fun nm ws H2 s2 hn hl=>q nm ws H2 (s1.trans s2) hn (by omega)⟩) fun _=>⟨by decide,by decide,fun r2 H2 _ _ s2=>?_⟩⟩⟩
  have sz:(Str.ofString "zyxwvtsrqpnmlkjhgfdcb").length≤sizeLine:=by decide +kernel
  obtain ⟨c1,e1,i1⟩:=c21_at r2
  refine ⟨by decide,sz,c1,e1,by decide,by decide,fun r3 H3 _ _ s3=>?_⟩
  obtain ⟨c2,e2,i2⟩:=c21_at r3
  refine ⟨by decide,sz,c2,e2,small_size (by rw [one_len,one_len];decide),by decide,by decide,fun r4 H4 _ _ s4=>?_⟩
  obtain ⟨c3,e3,i3⟩:=c21_at r4
  refine ⟨by decide,sz,c3,e3,?_⟩
  exact rdp_shel4 (by rw [len_app,one_len,one_len]) (one_len _) (allP_app (allP_one i1) (allP_one i2)) (allP_one i3) fun nm ws H5 s5 hn hl=>q nm ws H5 (s1.trans (s2.trans (s3.trans (s4.trans s5)))) hn hl
section
variable {v u:V} {a b:Pp}
theorem giv_iff:givB a b=true↔∃ r∈a.gi,pIn r.1 (b.no ++ b.gi)=true:=by unfold givB;exact List.any_eq_true
theorem pIn_app {p:Pl} {l m:List Row}:pIn p (l ++ m)=true↔pIn p l=true∨pIn p m=true:=by unfold pIn;rw [List.any_append,Bool.or_eq_true]
theorem met_iff:metB a b=true↔(∃ r∈b.gi,pIn r.1 a.gi=true)∨(∃ r∈b.no,pIn r.1 a.gi=true)∨∃ r∈a.no,pIn r.1 b.gi=true:=by
  have sw:∀ {l m:List Row},(∃ r∈l,pIn r.1 m=true)→∃ r∈m,pIn r.1 l=true:=fun ⟨r,h1,h2⟩=>by
    obtain ⟨s,h3,h4⟩:=pIn_iff.mp h2
    exact ⟨s,h3,pIn_iff.mpr ⟨r,h1,h4.symm⟩⟩
  unfold metB
  rw [Bool.or_eq_true,giv_iff,giv_iff]
  constructor
  · rintro (⟨r,h1,h2⟩ | ⟨r,h1,h2⟩)
    · rcases pIn_app.mp h2 with h2 | h2
      · exact .inr (.inl (sw ⟨r,h1,h2⟩))
      · exact .inl (sw ⟨r,h1,h2⟩)
    · rcases pIn_app.mp h2 with h2 | h2
      · exact .inr (.inr (sw ⟨r,h1,h2⟩))
      · exact .inl ⟨r,h1,h2⟩
  · rintro (h | h | h)
    · obtain ⟨r,h1,h2⟩:=h
      exact .inr ⟨r,h1,pIn_app.mpr (.inr h2)⟩
    · obtain ⟨r,h1,h2⟩:=sw h
      exact .inl ⟨r,h1,pIn_app.mpr (.inl h2)⟩
    · obtain ⟨r,h1,h2⟩:=sw h
      exact .inr ⟨r,h1,pIn_app.mpr (.inl h2)⟩
def setP (H:Hp) (d:Addr) (n:Nat) (rows:List Row):Prop:=∃ kvs,H d=some (.dT kvs)∧kvs.length≤n∧∀ q:Pl,(valV kvs (plKey q)).isSome=pIn q rows
theorem setP.add {H':Hp} {d p:Addr} {i:Nat} {rows:List Row} {r:Row} (S:setP H d i (rows.take i)) (hr:rows[i]?=some r) (hp:H p=some (.tup [.str r.1.1,.int r.1.2])) (hi:i≤100):∃ H',DPut H d (.ref p) (.bl true) H'∧setP H' d (i + 1) (rows.take (i + 1))∧∀ c o,c≠d→H c=some o→H' c=some o:=by
  obtain ⟨kvs,h1,h2,h3⟩:=S
  refine ⟨_,DPut.t (k:=plKey r.1) h1 hp (Nat.lt_of_le_of_lt (by omega:_≤900) (by decide)),⟨_,upd_same,?_,fun q=>?_⟩,fun c o n e=>by rw [upd_ne n];exact e⟩
  · have:=length_putK kvs (plKey r.1) (V.bl true);omega
  · rw [valV_put,List.take_add_one,hr]
    have e:pIn q (rows.take i ++ [r])=(pIn q (rows.take i) || decide (r.1=q)):=by unfold pIn;rw [List.any_append];simp
    show _=pIn q (rows.take i ++ [r])
    rw [e]
    by_cases c:plKey q=plKey r.1
    · rw [if_pos c,decide_eq_true (plKey_inj c).symm,Bool.or_true];rfl
    · rw [if_neg c,h3 q,decide_eq_false (fun z=>c (by rw [z])),Bool.or_false]
theorem setP.get {d p:Addr} {n:Nat} {rows:List Row} {r:Row} (S:setP H d n rows) (hp:H p=some (.tup [.str r.1.1,.int r.1.2])):∃ o,DGet H d (.ref p) o∧o.isSome=pIn r.1 rows:=by
  obtain ⟨kvs,h1,h2,h3⟩:=S
  exact ⟨_,DGet.t (k:=plKey r.1) h1 hp,h3 r.1⟩
theorem setP.same {H':Hp} {d:Addr} {n:Nat} {rows:List Row} (S:setP H d n rows) (s:Same H H'):setP H' d n rows:=by
  obtain ⟨kvs,h1,h2⟩:=S
  exact ⟨kvs,s _ _ h1,h2⟩
def srI (σ0:Option V→St) (H0 H:Hp) (rows X:List Row) (i:Nat) (σ:St) (H':Hp):Prop:=(∃ o,σ=σ0 o)∧H'=H∧∀ r∈rows.take i,pIn r.1 X=false
def bdI (σ0:Option V→St) (d:Addr) (H0:Hp) (rows:List Row) (i:Nat) (σ:St) (H':Hp):Prop:=(∃ o,σ=σ0 o)∧Same H0 H'∧setP H' d i (rows.take i)
theorem pin_step {rows X:List Row} {i:Nat} {r:Row} (h:∀ r∈rows.take i,pIn r.1 X=false) (hr:rows[i]?=some r) (hn:pIn r.1 X=false):∀ r∈rows.take (i + 1),pIn r.1 X=false:=fun s hs=>by
  rw [List.take_add_one,hr] at hs
  rcases List.mem_append.mp hs with hs | hs
  · exact h s hs
  · rw [List.mem_singleton.mp (show s∈[r] from hs)];exact hn
end
section
variable {c s:Addr} {w:Int} {ns:List Int} {ws:List Str}
structure PgI (H:Hp) (n g:Addr) (no gi:List Row) (i:Nat):Prop where
  hn:H n=some (.dT (dOf no))
  hg:H g=some (.dT (dOf gi))
  ne:n≠g
  ln:no.length≤i
  lg:gi.length≤i
  sn:∀ r∈no,PyData.strOk r.1.1=true
  sg:∀ r∈gi,PyData.strOk r.1.1=true
theorem PgI.same {H':Hp} {n g:Addr} {no gi:List Row} {i:Nat} (I:PgI H n g no gi i) (s:Same H H'):PgI H' n g no gi i:=⟨s _ _ I.hn,s _ _ I.hg,I.ne,I.ln,I.lg,I.sn,I.sg⟩
theorem PgI.putN {n g p:Addr} {no gi:List Row} {i:Nat} {x:Str} {num v:Int} (I:PgI H n g no gi i) (hi:i≤30) (hp:H p=some (.tup [.str x,.int num])) (hx:PyData.strOk x=true):∃ H',DPut H n (.ref p) (.int v) H'∧PgI H' n g (no ++ [((x,num),v)]) gi (i + 1)∧∀ a o,a≠n→a≠g→H a=some o→H' a=some o:=by
  have l1:=len_dOf no
  have l2:=I.ln
  have l3:=I.lg
  refine ⟨_,DPut.t (k:=plKey (x,num)) I.hn hp (Nat.lt_of_le_of_lt (by omega:_≤900) (by decide)),⟨by rw [upd_same,dOf_snoc],by rw [upd_ne (Ne.symm I.ne)];exact I.hg,I.ne,by rw [List.length_append,List.length_singleton];omega,by omega,fun r hr=>?_,I.sg⟩,fun a o n1 _ e=>by rw [upd_ne n1];exact e⟩
  rcases List.mem_append.mp hr with hr | hr
  · exact I.sn r hr
  · rw [List.mem_singleton.mp hr];exact hx
theorem PgI.putG {n g p:Addr} {no gi:List Row} {i:Nat} {x:Str} {num v:Int} (I:PgI H n g no gi i) (hi:i≤30) (hp:H p=some (.tup [.str x,.int num])) (hx:PyData.strOk x=true):∃ H',DPut H g (.ref p) (.int v) H'∧PgI H' n g no (gi ++ [((x,num),v)]) (i + 1)∧∀ a o,a≠n→a≠g→H a=some o→H' a=some o:=by
  have l1:=len_dOf gi
  have l2:=I.ln
  have l3:=I.lg
  refine ⟨_,DPut.t (k:=plKey (x,num)) I.hg hp (Nat.lt_of_le_of_lt (by omega:_≤900) (by decide)),⟨by rw [upd_ne I.ne];exact I.hn,by rw [upd_same,dOf_snoc],I.ne,by omega,by rw [List.length_append,List.length_singleton];omega,I.sn,fun r hr=>?_⟩,fun a o _ n1 e=>by rw [upd_ne n1];exact e⟩
  rcases List.mem_append.mp hr with hr | hr
  · exact I.sg r hr
  · rw [List.mem_singleton.mp hr];exact hx
theorem ex_rows:∀ (kvs:List (List Key × V)),(∀ kv∈kvs,∃ (p:Pl) (w:Int),kv=(plKey p,.int w))→∃ its:List Row,kvs=its.map fun q=>(plKey q.1,V.int q.2)
  | [],_=>⟨[],rfl⟩
  | kv :: t,h=>by
    obtain ⟨p,w,e⟩:=h kv List.mem_cons_self
    obtain ⟨its,e2⟩:=ex_rows t fun x hx=>h x (List.mem_cons_of_mem _ hx)
    exact ⟨(p,w) :: its,by rw [List.map_cons,e,← e2]⟩
theorem srt_len {rows srt:List Row} (h1:Rising srt) (h2:∀ p w,(p,w)∈srt↔lastW rows p=some w):srt.length≤rows.length:=by
  have:=nd_len_le h1.nd (b:=rows.map (·.1)) fun p hp=>by
    obtain ⟨r,hr,rfl⟩:=List.mem_map.mp hp
    exact List.mem_map_of_mem (f:=(·.1)) (last_mem ((h2 r.1 r.2).mp hr))
  rw [List.length_map,List.length_map] at this
  exact this
end
theorem log_inW {w:Int} (hw:inW w=true):w.natAbs.log2 < 1920:=by
  have hw':-1000000000000000000000000000000≤w∧w≤1000000000000000000000000000000:=of_decide_eq_true hw
  by_cases h0:w.natAbs=0
  · rw [h0];decide
  · exact Nat.lt_of_lt_of_le ((Nat.log2_lt h0 (k:=100)).mpr (Nat.lt_of_le_of_lt (by omega:w.natAbs≤1000000000000000000000000000000) (by decide +kernel))) (by decide)
def ppDat (p:Pp):PyData:=.tuple [ocD p.oc,.list (p.no.map rwD'),.list (p.gi.map rwD')]
theorem ppv_dat {v:V} {p:Pp} (h:PpV H v p):Dat K H v (ppDat p):=by
  obtain ⟨r,o,nl,gl,rfl,a1,a2,a3,a4⟩:=h
  exact .tup (SqT.of a1) (.cons (oc_dat a2) (.cons (ls_dat a3) (.cons (ls_dat a4) .nil)))
theorem pps_dat:∀ {xs:List V} {P:List Pp},Paired (PpV H) xs P→DatAll K H xs (P.map ppDat)
  | _,_,.nil=>.nil
  | _,_,.cons h t=>.cons (ppv_dat h) (pps_dat t)
theorem pps_plain:∀ {P:List Pp},(∀ p∈P,ppOk p)→plainDs (P.map ppDat)=true∧PyData.depthAll (P.map ppDat)≤8
  | [],_=>⟨rfl,by simp [PyData.depthAll]⟩
  | p :: P,h=>by
    have k:=h p List.mem_cons_self
    have ih:=pps_plain (P:=P) fun x hx=>h x (List.mem_cons_of_mem _ hx)
    have a1:=oc_plain k.so
    have a2:=ls_plain k.sn
    have a3:=ls_plain k.sg
    have b1:=oc_deep p.oc
    have b2:=ls_deep p.no
    have b3:=ls_deep p.gi
    have c1:plainD (ppDat p)=true:=by simp only [ppDat,plainD,plainDs,Bool.and_eq_true,and_true] at a1 a2 a3 ⊢;exact ⟨a1,a2,a3⟩
    have c2:(ppDat p).depth≤8:=by simp only [ppDat,PyData.depth,PyData.depthAll] at b1 b2 b3 ⊢;omega
    rw [List.map_cons,plainDs,PyData.depthAll,c1,ih.1]
    exact ⟨rfl,by omega⟩
section
variable {c s:Addr} {w:Int} {ns:List Int} {ws:List Str}
theorem rdp_paperC {D:Ends} {n g p:Addr} {cell num:Int} {no gi:List Row} {i:Nat} {x:Str} (I:PgI H n g no gi i) (hi:i≤30) (hp:H p=some (.tup [.str x,.int num])) (hx:PyData.strOk x=true)
    (q:∀ H' no' gi',(∀ a o,a≠n→a≠g→H a=some o→H' a=some o)→PgI H' n g no' gi' (i + 1)→D.nx [some (.ref c),some (.ref s),some (.int w),some (.ref n),some (.ref g),some (.int cell),some (.int num),some (.ref p)] H') :
    rd__law_paper_C K t D [some (.ref c),some (.ref s),some (.int w),some (.ref n),some (.ref g),some (.int cell),some (.int num),some (.ref p)] H:=by
  simp only [rd__law_paper_C,sp__law_draw,sp__law_worth,sDPut,L2.start,tOp,tVar,tC,tCons,tNil,tIfS,tTest,tCall,rEq,rI,scal,List.map,List.replicate,List.length,List.append,jqa,jqb,jqc,jqd,jqe,jqf,jqg,jqh,jqi,jqj,jqk,jql,jqm,jqn,and_true,true_and,and_assoc,jqo,jqp,jqq,Nat.reduceSub,Nat.reduceAdd,jqr,jqs,jqt,Int.reduceToNat,Int.reducePow,Int.reduceNeg,Int.reduceMul,Int.reduceAdd,if_true,ite_true,jqu,ite_false,if_false]
  refine ⟨by decide,by decide,fun r H1 _ _ s1=>⟨by decide,ite2 (fun _=>⟨by decide,by decide,fun v H2 s2=>?_⟩) fun _=>⟨by decide,by decide,fun v H2 s2=>?_⟩⟩⟩
  · have S:=s1.trans s2
    obtain ⟨H3,a1,a2,a3⟩:=(I.same S).putN (v:=v) hi (S _ _ hp) hx
    exact ⟨H3,a1,q H3 _ _ (fun a o n1 n2 e=>a3 a o n1 n2 (S _ _ e)) a2⟩
  · have S:=s1.trans s2
    obtain ⟨H3,a1,a2,a3⟩:=(I.same S).putG (v:=v) hi (S _ _ hp) hx
    exact ⟨H3,a1,q H3 _ _ (fun a o n1 n2 e=>a3 a o n1 n2 (S _ _ e)) a2⟩
theorem rdp_paperB {D:Ends} {n g:Addr} {cell:Int} {no gi:List Row} {i:Nat} {o7 o8:Option V} (I:PgI H n g no gi i) (hi:i≤30) (hs:NamesAt H s ws) (hl:ws.length=3) (w1:1≤w) (w2:w≤60)
    (q:∀ H' no' gi' o7 o8,(∀ a o,a≠n→a≠g→H a=some o→H' a=some o)→PgI H' n g no' gi' (i + 1)→D.nx [some (.ref c),some (.ref s),some (.int w),some (.ref n),some (.ref g),some (.int cell),o7,o8] H') :
    rd__law_paper_B K t D [some (.ref c),some (.ref s),some (.int w),some (.ref n),some (.ref g),some (.int cell),o7,o8] H:=by
  simp only [rd__law_paper_B,sp__law_draw,sp__law_worth,sDPut,L2.start,tSeq,tAsg,gName,tNext,tOp,tVar,tC,tTup,tCons,tNil,tIfS,tTest,tCall,rIxL,rEq,rI,rI0,scal,List.map,List.replicate,List.length,List.append,jqa,jqb,jqc,jqd,jqe,jqf,jqg,jqh,jqi,jqj,jqk,jql,jqm,jqn,and_true,true_and,and_assoc,jqo,jqp,jqq,Nat.reduceSub,Nat.reduceAdd,jqr,jqs,jqt,Int.reduceToNat,Int.reducePow,Int.reduceNeg,Int.reduceMul,Int.reduceAdd,if_true,ite_true,jqu,ite_false,if_false]
  have fin:∀ H1,Same H H1→∀ (num r:Int),∃ x,SqL K H1 s x∧∃ x_1,atI x (r % 3)=some x_1∧2≤sizeLine∧∀ p,H1 p=none→rd__law_paper_C K t D [some (.ref c),some (.ref s),some (.int w),some (.ref n),some (.ref g),some (.int cell),some (.int num),some (.ref p)] (upd H1 p (.tup [x_1,.int num])):=fun H1 s1 num r=>by
    obtain ⟨v,hv,hm⟩:=at_mod r 3 (xs:=ws.map V.str) (by rw [List.length_map,hl]) (by decide)
    obtain ⟨x,hx,rfl⟩:=List.mem_map.mp hm
    refine ⟨_,SqL.of (s1 _ _ hs.1),_,hv,by decide,fun p hp=>?_⟩
    have s2:=isV (o:=HO.tup [V.str x,V.int num]) p hp
    exact rdp_paperC (I.same (s1.trans s2)) hi upd_same (name_ok (hs.2 x hx)) fun H3 no' gi' k3 I3=>q H3 no' gi' _ _ (fun a o n1 n2 e=>k3 a o n1 n2 ((s1.trans s2) _ _ e)) I3
  refine ⟨by decide,by decide,fun r H1 _ _ s1=>⟨by omega,by decide,by decide,fun r2 H2 _ _ s2=>⟨by decide,ite2 (fun _=>⟨by decide,by decide,fun num H3 s3=>⟨by decide,by decide,fun r4 H4 _ _ s4=>⟨by decide,fin H4 (s1.trans (s2.trans (s3.trans s4))) num r4⟩⟩⟩) fun _=>⟨by decide,by decide,fun r4 H4 _ _ s4=>⟨by decide,fin H4 (s1.trans (s2.trans s4)) _ r4⟩⟩⟩⟩⟩
theorem its_no {no:List Row} {n:Nat} (sn:∀ r∈no,PyData.strOk r.1.1=true) (ln:no.length≤n):∃ its:List Row,dOf no=its.map (fun q=>(plKey q.1,V.int q.2))∧its.length≤n∧∀ r∈its,PyData.strOk r.1.1=true:=by
  obtain ⟨its,ei⟩:=ex_rows (dOf no) (okKv_dOf no).2
  have l1:=len_dOf no
  refine ⟨its,ei,by have:=congrArg List.length ei;rw [List.length_map] at this;omega,fun r hr=>?_⟩
  have:(plKey r.1,V.int r.2)∈dOf no:=by rw [ei];exact List.mem_map_of_mem (f:=fun q:Row=>(plKey q.1,V.int q.2)) hr
  obtain ⟨p,w,e1,e2⟩:=mem_dOf.mp this
  have ep:r.1=p:=plKey_inj (congrArg Prod.fst e1)
  rw [ep]
  exact sn _ (last_mem e2)
theorem rdp_paperE {nx0:St→Hp→Prop} {n g:Addr} {no gi:List Row} {i:Nat} {o6 o7 o8:Option V} (I:PgI H n g no gi i) (hi:i≤30) (q:∀ v p H',Same H H'→PpN H H' v p→ppOk p→Q v H') :
    rd__law_paper_E K t { nx:=nx0,rt:=Q } [some (.ref c),some (.ref s),some (.int w),some (.ref n),some (.ref g),o6,o7,o8] H:=by
  simp only [rd__law_paper_E,tItems,cLstI,L2.start,tRet,tVar,tC,tLst,tTup,tCons,tNil,tCB,List.map,List.replicate,List.length,List.append,jqa,jqb,jqc,jqd,jqe,jqf,jqg,jqh,jqi,jqj,jqk,jql,jqm,jqn,and_true,true_and,and_assoc,jqo,jqp,jqq,Nat.reduceSub,Nat.reduceAdd,jqr,jqs,jqt,Int.reduceToNat,Int.reducePow,Int.reduceNeg,Int.reduceMul,Int.reduceAdd,if_true,ite_true,jqu,ite_false,if_false]
  have l1:=len_dOf no
  have l3:=I.ln
  obtain ⟨its,ei,li,si⟩:=its_no I.sn I.ln
  refine ⟨by decide,fun p hp=>?_⟩
  have s1:=isV (o:=HO.tup [V.str (Str.ofString "off"),V.str (Str.ofString "nought")]) p hp
  have hp1:upd H p (HO.tup [V.str (Str.ofString "off"),V.str (Str.ofString "nought")]) p=some (.tup [.str "off",.str "nought"]):=upd_same
  generalize upd H p (HO.tup [V.str (Str.ofString "off"),V.str (Str.ofString "nought")])=H1 at *
  refine ⟨_,s1 _ _ I.hn,fun r hr=>⟨n,upd_same,_,isV r hr _ _ (s1 _ _ I.hn),by omega,fun l ys H2 s2 fl hl pr=>⟨by decide,fun p1 hp1'=>⟨by decide,fun p2 hp2=>?_⟩⟩⟩⟩
  rw [ei] at pr
  have pr:=kv_pr pr
  have S2:=(isV (o:=viewO r n) r hr).trans s2
  have s3:=isV (o:=HO.lst []) p1 hp1'
  have s4:=isV (o:=HO.tup [V.ref p,V.ref l,V.ref p1]) p2 hp2
  have T:=s3.trans s4
  refine q _ ⟨.off "nought",its,[]⟩ _ (s1.trans (S2.trans T)) ⟨p2,.ref p,l,p1,rfl,upd_same,⟨p,rfl,(S2.trans T) _ _ hp1⟩,⟨ys,T _ _ hl,prs_same T pr⟩,⟨[],s4 _ _ upd_same,.nil⟩,fresh_of (s1.trans (isV (o:=viewO r n) r hr)) fl,fresh_of (s1.trans S2) hp1'⟩ ⟨by show its.length≤40;omega,Nat.zero_le _,si,(fun r h=>nomatch h),fun w e=>by cases e;decide +kernel⟩
theorem rdp_paper4 {n g:Addr} {no gi:List Row} {i:Nat} {o6 o7 o8:Option V} (I:PgI H n g no gi i) (hi:i≤30) (q:∀ v p H',Same H H'→PpN H H' v p→ppOk p→Q v H') :
    rd__law_paper_4 K t { nx:=fun _ H'=>Q .non H',rt:=Q } [some (.ref c),some (.ref s),some (.int w),some (.ref n),some (.ref g),o6,o7,o8] H:=by
  simp only [rd__law_paper_4,tItems,cLstI,cSrtI,L2.start,tRet,tVar,tC,tTup,tCons,tNil,tCB,List.map,List.replicate,List.length,List.append,jqa,jqb,jqc,jqd,jqe,jqf,jqg,jqh,jqi,jqj,jqk,jql,jqm,jqn,and_true,true_and,and_assoc,jqo,jqp,jqq,Nat.reduceSub,Nat.reduceAdd,jqr,jqs,jqt,Int.reduceToNat,Int.reducePow,Int.reduceNeg,Int.reduceMul,Int.reduceAdd,if_true,ite_true,jqu,ite_false,if_false]
  have l1:=len_dOf no
  have l2:=len_dOf gi
  have l3:=I.ln
  have l4:=I.lg
  obtain ⟨its,ei,li,si⟩:=its_no I.sn I.ln
  refine ⟨by decide,fun p0 hp0=>⟨by decide,fun p hp=>?_⟩⟩
  have s0:=isV (o:=HO.tup [V.int 3]) p0 hp0
  have s1:=isV (o:=HO.tup [V.str (Str.ofString "done"),V.ref p0]) p hp
  have h0:=s1 _ _ (upd_same (H:=H) (a:=p0) (o:=HO.tup [V.int 3]))
  have hp1:upd (upd H p0 (HO.tup [V.int 3])) p (HO.tup [V.str (Str.ofString "done"),V.ref p0]) p=some (.tup [.str "done",.ref p0]):=upd_same
  have S1:=s0.trans s1
  generalize upd (upd H p0 (HO.tup [V.int 3])) p (HO.tup [V.str (Str.ofString "done"),V.ref p0])=H1 at *
  refine ⟨_,S1 _ _ I.hn,fun r hr=>⟨n,upd_same,_,isV r hr _ _ (S1 _ _ I.hn),by omega,fun l ys H2 s2 fl hl pr=>?_⟩⟩
  rw [ei] at pr
  have pr:=kv_pr pr
  have S2:=(isV (o:=viewO r n) r hr).trans s2
  have hg2:=(S1.trans S2) _ _ I.hg
  refine ⟨_,hg2,fun r2 hr2=>⟨g,upd_same,gi,isV r2 hr2 _ _ hg2,by omega,fun l1 zs srt H3 s3 fl1 hl1 pz ri mi=>⟨by decide,fun p1 hp1'=>?_⟩⟩⟩
  have S3:=(isV (o:=viewO r2 g) r2 hr2).trans s3
  have s4:=isV (o:=HO.tup [V.ref p,V.ref l,V.ref l1]) p1 hp1'
  have T:=S3.trans s4
  have ls:=srt_len ri mi
  refine q _ ⟨.done [3],its,srt⟩ _ (S1.trans (S2.trans T)) ⟨p1,.ref p,l,l1,rfl,upd_same,⟨p,p0,rfl,(S2.trans T) _ _ hp1,(S2.trans T) _ _ h0⟩,⟨ys,T _ _ hl,prs_same T pr⟩,⟨zs,s4 _ _ hl1,prs_same s4 pz⟩,fresh_of (S1.trans (isV (o:=viewO r n) r hr)) fl,fresh_of (S1.trans (S2.trans (isV (o:=viewO r2 g) r2 hr2))) fl1⟩ ⟨by show its.length≤40;omega,by show srt.length≤40;omega,si,fun r hr=>I.sg _ (last_mem ((mi r.1 r.2).mp hr)),fun w e=>nomatch e⟩
theorem PpN.back {H1 H':Hp} {v:V} {p:Pp} (s:Same H H1) (h:PpN H1 H' v p):PpN H H' v p:=by
  obtain ⟨r,o,nl,gl,e,a1,a2,a3,a4,a5,a6⟩:=h
  exact ⟨r,o,nl,gl,e,a1,a2,a3,a4,fresh_of s a5,fresh_of s a6⟩
theorem rdp_paper3 {n g:Addr} {no gi:List Row} {i:Nat} {o6 o7 o8:Option V} (hc:H c=some (.lst (ns.map V.int))) (h0:0 < ns.length) (I:PgI H n g no gi i) (hi:i≤30) (q:∀ v p H',Same H H'→PpN H H' v p→ppOk p→Q v H') :
    rd__law_paper_3 K t { nx:=fun _ H'=>Q .non H',rt:=Q } [some (.ref c),some (.ref s),some (.int w),some (.ref n),some (.ref g),o6,o7,o8] H:=by
  simp only [rd__law_paper_3,sp__law_draw,tItems,cLstI,cSrtI,rEqDE,L2.start,tSeq,tRet,tNext,tOp,tVar,tC,tLst,tTup,tCons,tNil,tIfS,tAnd,tTest,tCB,tCall,tDNewK,rIxL,rEq,rI,scal,List.map,List.replicate,List.length,List.append,jqa,jqb,jqc,jqd,jqe,jqf,jqg,jqh,jqi,jqj,jqk,jql,jqm,jqn,and_true,true_and,and_assoc,jqo,jqp,jqq,Nat.reduceSub,Nat.reduceAdd,jqr,jqs,jqt,Int.reduceToNat,Int.reducePow,Int.reduceNeg,Int.reduceMul,Int.reduceAdd,if_true,ite_true,jqu,ite_false,if_false]
  intro p hp
  have s1:=isV (o:=HO.dK []) p hp
  have e1:upd H p (HO.dK []) p=some (.dK []):=upd_same
  generalize upd H p (HO.dK [])=H1 at *
  obtain ⟨v0,a0,b0⟩:=at_lt (xs:=ns.map V.int) (i:=0) (by decide) (by rw [List.length_map];omega)
  obtain ⟨c0,_,rfl⟩:=List.mem_map.mp b0
  have fin:∀ H2,Same H H2→rd__law_paper_4 K t { nx:=fun _ H'=>Q .non H',rt:=Q } [some (.ref c),some (.ref s),some (.int w),some (.ref n),some (.ref g),o6,o7,o8] H2:=fun H2 s2=>rdp_paper4 (I.same s2) hi fun v p H3 s3 h ok=>q v p H3 (s2.trans s3) (PpN.back s2 h) ok
  refine ⟨_,s1 _ _ I.hg,e1,ite2 (fun _=>⟨_,SqL.of (s1 _ _ hc),_,a0,c0,rfl,by decide,by decide,fun r H2 _ _ s2=>⟨by decide,ite2 (fun _=>?_) fun _=>fin H2 (s1.trans s2)⟩⟩) fun _=>fin H1 s1⟩
  have S:=s1.trans s2
  exact rdp_paperE (I.same S) hi fun v p H3 s3 h ok=>q v p H3 (S.trans s3) (PpN.back S h) ok
def ppI (c s:Addr) (w:Int) (n g:Addr) (H0:Hp) (i:Nat) (σ:St) (H:Hp):Prop:=(∃ o6 o7 o8,σ=[some (.ref c),some (.ref s),some (.int w),some (.ref n),some (.ref g),o6,o7,o8])∧Same H0 H∧∃ no gi,PgI H n g no gi i
theorem rdp__law_paper (h1:H c=some (.lst (ns.map V.int))) (h2:0 < ns.length) (h3:ns.length≤30) (h4:NamesAt H s ws) (h5:ws.length=3) (h6:1≤w) (h7:w≤60) (q:∀ v p H',Same H H'→PpN H H' v p→ppOk p→Q v H') :
    rd__law_paper K t { nx:=fun _ H'=>Q .non H',rt:=Q } (L2.start ["cells","shelves","wide","notes","gifts","cell","number","place"] [.ref c,.ref s,.int w]) H:=by
  simp only [rd__law_paper,rd__law_paper_2,sDPut,tDNewT,tItems,cLstI,cSrtI,rEqDE,L2.start,tSeq,tAsg,gName,tRet,tNext,tOp,tVar,tC,tLst,tTup,tCons,tNil,tFor,tIfS,tAnd,tTest,tCB,tCall,tDNewK,iList,rIxL,rEq,rI,rI0,scal,List.map,List.replicate,List.length,List.append,jqa,jqb,jqc,jqd,jqe,jqf,jqg,jqh,jqi,jqj,jqk,jql,jqm,jqn,and_true,true_and,and_assoc,jqo,jqp,jqq,Nat.reduceSub,Nat.reduceAdd,jqr,jqs,jqt,Int.reduceToNat,Int.reducePow,Int.reduceNeg,Int.reduceMul,Int.reduceAdd,if_true,ite_true,jqu,ite_false,if_false]
  intro n hn g hg
  have s1:=isV (o:=HO.dT []) n hn
  have s2:=isV (o:=HO.dT []) g hg
  have S2:=s1.trans s2
  have eg:upd (upd H n (HO.dT [])) g (HO.dT []) g=some (.dT []):=upd_same
  have en:=s2 _ _ (upd_same (H:=H) (a:=n) (o:=HO.dT []))
  have nng:n≠g:=fun z=>by have:=(upd_same (H:=H) (a:=n) (o:=HO.dT []));rw [z] at this;rw [z] at hg;rw [this] at hg;cases hg
  have fg:H g=none:=fresh_of s1 hg
  generalize upd (upd H n (HO.dT [])) g (HO.dT [])=H2 at *
  refine ⟨⟨_,SqL.of (S2 _ _ h1)⟩,loop_list (ns.map V.int) (ppI c s w n g H) ⟨⟨_,_,_,rfl⟩,S2,[],[],en,eg,nng,Nat.le_refl _,Nat.le_refl _,(fun r h=>nomatch h),fun r h=>nomatch h⟩ (fun i σ H' z=>SqL.of (z.2.1 _ _ h1)) ?_ ?_⟩
  · rintro i v σ H4 hv ⟨⟨o6,o7,o8,rfl⟩,S4,no,gi,I⟩
    have hi:=(List.getElem?_eq_some_iff.mp hv).1
    rw [List.length_map] at hi
    obtain ⟨cell,_,rfl⟩:=List.mem_map.mp (List.mem_of_getElem? hv)
    exact rdp_paperB I (by omega) ⟨S4 _ _ h4.1,h4.2⟩ h5 h6 h7 fun H5 no' gi' o7 o8 k5 I5=>⟨⟨_,_,_,rfl⟩,fun a o e=>k5 a o (fun z=>by rw [z,hn] at e;cases e) (fun z=>by rw [z,fg] at e;cases e) (S4 a o e),no',gi',I5⟩
  · rintro σ H4 ⟨⟨o6,o7,o8,rfl⟩,S4,no,gi,I⟩
    exact rdp_paper3 (S4 _ _ h1) h2 I (by rw [List.length_map];omega) fun v p H5 s5 hp ok=>q v p H5 (S4.trans s5) (PpN.back S4 hp) ok
end
theorem comp_inv2 {J:It} {D:Addr} {τ₀:St} {H1:Hp} {Q:Hp→Prop} {B:V→St→Hp→(V→St→Hp→Prop)→(St→Hp→Prop)→Prop} (n:Nat) (hn:n≤1000000) (C:St→Prop) (R:Nat→List V→Hp→Prop) (hm:∀ i ys H H',(∀ zs,H D≠some (.tup zs))→(∀ b o,b≠D→H b=some o→H' b=some o)→R i ys H→R i ys H') (hC:C τ₀) (h0:R 0 [] H1)
    (go:∀ i H,Same H1 H→i < n→J.go i H) (stop:∀ H,Same H1 H→J.stop n H) (hD:H1 D=none)
    (hs:∀ i x τ ys H H',C τ→Same H1 H→i < n→R i ys H→H D=some (.lst ys)→J.yld i H x H'→B x τ H' (fun v τ' H4=>C τ'∧R (i + 1) (ys ++ [v]) H4∧Same H H4) (fun τ' H4=>C τ'∧R (i + 1) ys H4∧Same H H4))
    (hd:∀ ys H,ys.length≤n→R n ys H→Same H1 H→H D=some (.lst ys)→Q H) :
    ∃ W:Nat→Nat→List V→St→Hp→Prop,(∃ m,W 0 m [] τ₀ (upd H1 D (.lst [])))∧∀ i m ys τ H,W i m ys τ H→H D=some (.lst ys) ∧
    ((J.stop i H∧Q H)∨(J.go i H∧ys.length < sizeLine∧∃ N:V→St→Hp→Prop,
      (∀ v τ' H',N v τ' H'→H' D=some (.lst ys)∧∃ m',m' < m∧W (i + 1) m' (ys ++ [v]) τ' (upd H' D (.lst (ys ++ [v]))))∧∃ Nf:St→Hp→Prop,(∀ τ' H',Nf τ' H'→∃ m',m' < m∧W (i + 1) m' ys τ' H') ∧
      ∀ x H',J.yld i H x H'→B x τ H' N Nf)):=by
  have ext:∀ {H:Hp} {o:HO},Same H1 H→Same H1 (upd H D o):=fun {H o} h b u e=>by
    rw [upd_ne (ne_of_none e hD)];exact h b u e
  refine ⟨fun i m ys τ H=>m=n - i∧i≤n∧ys.length≤i∧R i ys H∧Same H1 H∧H D=some (.lst ys)∧C τ,⟨n,by simp,Nat.zero_le _,Nat.le_refl _,hm _ _ _ _ (fun zs z=>by rw [hD] at z;cases z) (fun b o n e=>by rw [upd_ne n];exact e) h0,ext (Same.refl _),upd_same,hC⟩,?_⟩
  rintro i m ys τ H ⟨rfl,hi,hl,hR,hS,hy,hc⟩
  refine ⟨hy,?_⟩
  by_cases hlt:i < n
  · refine .inr ⟨go i H hS hlt,Nat.lt_of_le_of_lt (by omega:ys.length≤1000000) (by decide),_,?_,_,?_,fun x H' y=>hs i x τ ys H H' hc hS hlt hR hy y⟩
    · rintro v τ' H4 ⟨c4,r4,s4⟩
      have y4:=s4 _ _ hy
      exact ⟨y4,n - (i + 1),by omega,rfl,hlt,by simp;omega,hm _ _ _ _ (fun zs z=>by rw [y4] at z;cases z) (fun b o n e=>by rw [upd_ne n];exact e) r4,ext (hS.trans s4),upd_same,c4⟩
    · rintro τ' H4 ⟨c4,r4,s4⟩
      exact ⟨n - (i + 1),by omega,rfl,hlt,by omega,r4,hS.trans s4,s4 _ _ hy,c4⟩
  · obtain rfl:i=n:=by omega
    exact .inl ⟨stop H hS,hd ys H hl hR hS hy⟩
def PpD (D:Addr) (H:Hp) (v:V) (p:Pp):Prop:=∃ r o nl gl,v=.ref r∧H r=some (.tup [o,.ref nl,.ref gl])∧OcAt H o p.oc∧LsAt H nl p.no∧LsAt H gl p.gi∧nl≠D∧gl≠D
theorem PpD.v {D:Addr} {v:V} {p:Pp} (h:PpD D H v p):PpV H v p:=by
  obtain ⟨r,o,nl,gl,e,a1,a2,a3,a4,_⟩:=h
  exact ⟨r,o,nl,gl,e,a1,a2,a3,a4⟩
theorem PpD.keep {H':Hp} {D:Addr} {v:V} {p:Pp} (h:PpD D H v p) (hD:∀ zs,H D≠some (.tup zs)) (k:∀ b o,b≠D→H b=some o→H' b=some o):PpD D H' v p:=by
  have ts:TSm H H':=fun b zs e=>k b _ (fun z=>hD zs (by rw [← z];exact e)) e
  obtain ⟨r,o,nl,gl,e,a1,a2,a3,a4,a5,a6⟩:=h
  exact ⟨r,o,nl,gl,e,ts _ _ a1,oc_ts a2 ts,ls_kp a3 (fun o e=>k _ _ a5 e) ts,ls_kp a4 (fun o e=>k _ _ a6 e) ts,a5,a6⟩
theorem PpD.same {H':Hp} {D:Addr} {v:V} {p:Pp} (h:PpD D H v p) (s:Same H H'):PpD D H' v p:=by
  obtain ⟨r,o,nl,gl,e,a1,a2,a3,a4,a5,a6⟩:=h
  exact ⟨r,o,nl,gl,e,s _ _ a1,oc_same a2 s,ls_same a3 s,ls_same a4 s,a5,a6⟩
theorem ppd_keep {H':Hp} {D:Addr} (hD:∀ zs,H D≠some (.tup zs)) (k:∀ b o,b≠D→H b=some o→H' b=some o) {ys:List V} {P:List Pp} (h:Paired (PpD D H) ys P):Paired (PpD D H') ys P:=Paired.mapP h fun _ _ z=>z.keep hD k
def psR (D:Addr) (i:Nat) (ys:List V) (H:Hp):Prop:=∃ P,P.length=i∧Paired (PpD D H) ys P∧∀ p∈P,ppOk p
theorem rdp_papers2 {a s:Addr} {ns:List Int} {ws:List Str} {mn:Int} {H0:Hp} (hS:SqL K H a (ns.map V.int)) (hn:ns.length≤63) (hs:NamesAt H s ws) (hl:ws.length=3) (m1:2≤mn) (m2:mn≤30) (q:∀ l P H',Same H H'→PpsAt H' l P→P.length≤40→Q (.ref l) H') :
    rd__law_papers_2 K t { nx:=fun _ H'=>Q .non H',rt:=Q } [some (.ref a),some (.ref s),some (.int mn),none,none] H:=by
  simp only [rd__law_papers_2,rd__law_papers_3,rd__law_papers_4,sp__law_cell_at,sp__law_draw,sp__law_paper,iRng3,L2.start,tSeq,tAsg,gName,tRet,tOp,tVar,tC,tCons,tNil,tCB,tSl,tPart,tNoPart,tCall,tComp,tYes,capV,LenV,rI,rI0,rSlL,cLen,List.map,List.replicate,List.length,List.append,jqa,jqb,jqc,jqd,jqe,jqf,jqg,jqh,jqi,jqj,jqk,jql,jqm,jqn,and_true,true_and,and_assoc,jqo,jqp,jqq,Nat.reduceSub,Nat.reduceAdd,jqr,jqs,jqt,Int.reduceToNat,Int.reducePow,Int.reduceNeg,Int.reduceMul,Int.reduceAdd,if_true,ite_true,jqu,ite_false,if_false]
  refine ⟨ns,0,rfl,hS,hn,fun c1 H1 s1=>⟨by decide,by decide,fun r H2 _ _ s2=>⟨by decide,_,hS.mono (s1.trans s2),fun cl hcl=>?_⟩⟩⟩
  obtain ⟨cs,ec,lc⟩:=cut_one ns none (some 120)
  rw [ec]
  have s3:=isV (o:=HO.lst (cs.map V.int)) cl hcl
  have hc:upd H2 cl (HO.lst (cs.map V.int)) cl=some (.lst (cs.map V.int)):=upd_same
  have S3:=s1.trans (s2.trans s3)
  have g1:=Int.emod_nonneg r (b:=40) (by decide)
  have g2:=Int.emod_lt_of_pos r (b:=40) (by decide)
  generalize upd H2 cl (HO.lst (cs.map V.int))=H3 at *
  have lm:(cs.map V.int).length=cs.length:=List.length_map ..
  refine ⟨cs.length,.inl ⟨_,SqL.of hc,by rw [lm]⟩,by omega,by omega,by omega,by omega,by omega,by omega,fun D hD=>?_⟩
  have cn:cntR 0 cs.length mn≤40:=Nat.le_of_not_lt fun z=>by
    have:=cnt_lt (i:=40) (j:=cs.length) (c:=mn) (by omega) (by omega) z
    omega
  refine comp_inv2 (J:=Itr3 0 mn (cntR 0 cs.length mn)) (cntR 0 cs.length mn) (by omega) (fun τ=>∃ o,τ=[o,some (.ref cl),some (.int mn),some (.ref s),some (.int (2 + r % 40))]) (psR D) (fun i ys H H' hz k ⟨P,e,h,ok⟩=>⟨P,e,ppd_keep hz k h,ok⟩) ⟨_,rfl⟩ ⟨[],rfl,.nil,fun p h=>nomatch h⟩ (fun i H s h=>h) (fun H s=>Nat.le_refl _) hD ?_ ?_
  · rintro i v τ us H4 H5 ⟨o,rfl⟩ s4 hi hR hDs ⟨rfl,rfl⟩
    simp only [iRng3,L2.start,tSeq,tAsg,gName,tRet,tOp,tVar,tC,tCons,tNil,tCB,tSl,tPart,tNoPart,tCall,tComp,tYes,capV,LenV,rI,rI0,rSlL,cLen,List.map,List.replicate,List.length,List.append,jqa,jqb,jqc,jqd,jqe,jqf,jqg,jqh,jqi,jqj,jqk,jql,jqm,jqn,and_true,true_and,and_assoc,jqo,jqp,jqq,Nat.reduceSub,Nat.reduceAdd,jqr,jqs,jqt,Int.reduceToNat,Int.reducePow,Int.reduceNeg,Int.reduceMul,Int.reduceAdd,if_true,ite_true,jqu,ite_false,if_false,Int.zero_add]
    refine ⟨_,SqL.of (s4 _ _ hc),fun p hp=>?_⟩
    have lt:=cnt_lt (by omega) (by omega) hi
    have im:0≤(i:Int) * mn:=Int.mul_nonneg (by omega) (by omega)
    obtain ⟨k,ek⟩:∃ k:Nat,(i:Int) * mn=k:=⟨((i:Int) * mn).toNat,(Int.toNat_of_nonneg im).symm⟩
    obtain ⟨m,em⟩:∃ m:Nat,mn=m:=⟨mn.toNat,by omega⟩
    obtain ⟨es,ee,le,pe⟩:=cut_two cs k m (by omega) (by omega)
    have e2:(i:Int) * mn + mn=((k + m:Nat):Int):=by rw [ek,em];omega
    rw [e2,ek,ee]
    have s5:=isV (o:=HO.lst (es.map V.int)) p hp
    have S5:=S3.trans (s4.trans s5)
    refine ⟨es,upd_same,pe,by omega,ws,⟨S5 _ _ hs.1,hs.2⟩,hl,by omega,by omega,fun v p1 H6 s6 hp1 ok=>⟨⟨_,rfl⟩,?_,s5.trans s6⟩⟩
    obtain ⟨P,e,h,oks⟩:=hR
    have hDs5:=s5 _ _ hDs
    refine ⟨P ++ [p1],by rw [List.length_append,e];rfl,Paired.snocP (Paired.mapP h fun _ _ z=>z.same (s5.trans s6)) ?_,fun x hx=>?_⟩
    · obtain ⟨r,o,nl,gl,e0,a1,a2,a3,a4,a5,a6⟩:=hp1
      exact ⟨r,o,nl,gl,e0,a1,a2,a3,a4,(fun z=>by rw [z,hDs5] at a5;cases a5),fun z=>by rw [z,hDs5] at a6;cases a6⟩
    · rcases List.mem_append.mp hx with hx | hx
      · exact oks x hx
      · rw [List.mem_singleton.mp hx];exact ok
  · rintro us H4 hl hR s4 hDl
    obtain ⟨P,e,h,ok⟩:=hR
    exact q D P H4 (S3.trans s4) ⟨⟨us,hDl,Paired.mapP h fun _ _ z=>z.v⟩,ok,by omega⟩ (by omega)
theorem rdp__law_papers {a s:Addr} {ns:List Int} {ws:List Str} (hS:SqL K H a (ns.map V.int)) (hn:ns.length≤63) (hs:NamesAt H s ws) (hl:ws.length=3) (q:∀ l P H',Same H H'→PpsAt H' l P→P.length≤40→Q (.ref l) H') :
    rd__law_papers K t { nx:=fun _ H'=>Q .non H',rt:=Q } (L2.start ["script","shelves","many","wide","cells"] [.ref a,.ref s]) H:=by
  simp only [rd__law_papers,sp__law_cell_at,sp__law_draw,iRng3,L2.start,tSeq,tAsg,gName,tRet,tNext,tOp,tVar,tC,tCons,tNil,tIfS,tTest,tCB,tSl,tPart,tNoPart,tCall,tComp,tYes,capV,LenV,rEq,rI,rI0,rSlL,cLen,scal,List.map,List.replicate,List.length,List.append,jqa,jqb,jqc,jqd,jqe,jqf,jqg,jqh,jqi,jqj,jqk,jql,jqm,jqn,and_true,true_and,and_assoc,jqo,jqp,jqq,Nat.reduceSub,Nat.reduceAdd,jqr,jqs,jqt,Int.reduceToNat,Int.reducePow,Int.reduceNeg,Int.reduceMul,Int.reduceAdd,if_true,ite_true,jqu,ite_false,if_false]
  refine ⟨ns,0,rfl,hS,hn,fun c1 H1 s1=>⟨by decide,by decide,fun r H2 _ _ s2=>⟨by decide,ns,0,rfl,hS.mono (s1.trans s2),hn,fun c2 H3 s3=>⟨by decide,by decide,fun r2 H4 _ _ s4=>⟨by decide,?_⟩⟩⟩⟩⟩
  have S4:=s1.trans (s2.trans (s3.trans s4))
  have g1:=Int.emod_nonneg r (b:=3) (by decide)
  have g2:=Int.emod_lt_of_pos r (b:=3) (by decide)
  have hs4:NamesAt H4 s ws:=⟨S4 _ _ hs.1,hs.2⟩
  exact ite2 (fun _=>rdp_papers2 (H0:=H) (hS.mono S4) hn hs4 hl (by decide) (by decide) fun l P H5 s5 h le=>q l P H5 (S4.trans s5) h le) fun _=>rdp_papers2 (H0:=H) (hS.mono S4) hn hs4 hl (by omega) (by omega) fun l P H5 s5 h le=>q l P H5 (S4.trans s5) h le
section
variable {v u:V} {a b:Pp}
theorem rdp_met5 {r1 r2 d2 d4:Addr} {o3:Option V} {m:Nat} (h1:PpV H (.ref r1) a) (h2:PpV H (.ref r2) b) (oa:ppOk a) (ob:ppOk b) (S:setP H d4 m b.gi) (n1:∀ r∈b.gi,pIn r.1 a.gi=false) (n2:∀ r∈b.no,pIn r.1 a.gi=false) (q:∀ H',Same H H'→Q (.bl (metB a b)) H') :
    rd__law_met_5 K t { nx:=fun _ H'=>Q .non H',rt:=Q } [some (.ref r1),some (.ref r2),some (.ref d2),o3,some (.ref d4)] H:=by
  have k1:=h1
  have k2:=h2
  obtain ⟨r,o,nl,gl,e,h,_,f1,f2⟩:=h1
  cases e
  obtain ⟨xs,hx,px⟩:=f1
  simp only [rd__law_met_5,rInD,L2.start,rIxT,tSeq,gName,tRet,tNext,tOp,tVar,tC,tFor,tIfS,tTest,iList,rIxT,List.map,List.replicate,List.length,List.append,jqa,jqb,jqc,jqd,jqe,jqf,jqg,jqh,jqi,jqj,jqk,jql,jqm,jqn,and_true,true_and,and_assoc,jqo,jqp,jqq,Nat.reduceSub,Nat.reduceAdd,jqr,jqs,jqt,Int.reduceToNat,Int.reducePow,Int.reduceNeg,Int.reduceMul,Int.reduceAdd,if_true,ite_true,jqu,ite_false,if_false]
  refine ⟨_,SqT.of h,_,rfl,_,rfl,⟨_,SqL.of hx⟩,loop_list xs (srI (fun o=>[some (.ref r1),some (.ref r2),some (.ref d2),o,some (.ref d4)]) H H a.no b.gi) ⟨⟨_,rfl⟩,rfl,fun r h=>by simp at h⟩ (fun i σ H' ⟨_,e,_⟩=>by rw [e];exact SqL.of hx) ?_ ?_⟩
  · rintro i v σ H' hv ⟨⟨o,rfl⟩,eH,hn⟩
    subst eH
    obtain ⟨row,hr,r',p',rfl,e2,e3⟩:=Paired.getP px hv
    obtain ⟨oo,g1,g2⟩:=S.get e3
    simp only [rInD,L2.start,rIxT,tSeq,gName,tRet,tNext,tOp,tVar,tC,tFor,tIfS,tTest,iList,rIxT,List.map,List.replicate,List.length,List.append,jqa,jqb,jqc,jqd,jqe,jqf,jqg,jqh,jqi,jqj,jqk,jql,jqm,jqn,and_true,true_and,and_assoc,jqo,jqp,jqq,Nat.reduceSub,Nat.reduceAdd,jqr,jqs,jqt,Int.reduceToNat,Int.reducePow,Int.reduceNeg,Int.reduceMul,Int.reduceAdd,if_true,ite_true,jqu,ite_false,if_false]
    refine ⟨_,SqT.of e2,_,rfl,oo,g1,?_⟩
    cases c:pIn row.1 b.gi with
    | true =>
      rw [g2,c,if_pos rfl]
      have m:metB a b=true:=met_iff.mpr (.inr (.inr ⟨row,List.mem_of_getElem? hr,c⟩))
      have:=q _ (Same.refl _)
      rw [m] at this
      exact this
    | false =>
      rw [g2,c,if_neg (by decide)]
      exact ⟨⟨_,rfl⟩,rfl,pin_step hn hr c⟩
  · rintro σ H' ⟨⟨o,rfl⟩,eH,hn⟩
    subst eH
    have hn:∀ r∈a.no,pIn r.1 b.gi=false:=fun r hr=>hn r (by rw [List.take_of_length_le (by rw [Paired.length px];exact Nat.le_refl _)];exact hr)
    have m:metB a b=false:=by
      cases c:metB a b with
      | false=>rfl
      | true =>
        rcases met_iff.mp c with ⟨r,h1,h2⟩ | ⟨r,h1,h2⟩ | ⟨r,h1,h2⟩
        · rw [n1 r h1] at h2;cases h2
        · rw [n2 r h1] at h2;cases h2
        · rw [hn r h1] at h2;cases h2
    have:=q _ (Same.refl _)
    rw [m] at this
    exact this
theorem rdp_met4 {r1 r2 d2 d4:Addr} {o3:Option V} {m n:Nat} (h1:PpV H (.ref r1) a) (h2:PpV H (.ref r2) b) (oa:ppOk a) (ob:ppOk b) (S:setP H d2 m a.gi) (S4:setP H d4 n b.gi) (q:∀ H',Same H H'→Q (.bl (metB a b)) H') :
    rd__law_met_4 K t { nx:=fun _ H'=>Q .non H',rt:=Q } [some (.ref r1),some (.ref r2),some (.ref d2),o3,some (.ref d4)] H:=by
  have k1:=h1
  have k2:=h2
  obtain ⟨r,o,nl,gl,e,h,_,f1,f2⟩:=h2
  cases e
  obtain ⟨ys,hy,py⟩:=f1
  obtain ⟨zs,hz,pz⟩:=f2
  have ly:=Paired.length py
  have lz:=Paired.length pz
  have lb:=ob.lg
  have lc:=ob.ln
  simp only [rd__law_met_4,rInD,rCat,L2.start,rIxT,tSeq,gName,tRet,tNext,tOp,tVar,tC,tFor,tIfS,tTest,iList,rCat,rIxT,List.map,List.replicate,List.length,List.append,jqa,jqb,jqc,jqd,jqe,jqf,jqg,jqh,jqi,jqj,jqk,jql,jqm,jqn,and_true,true_and,and_assoc,jqo,jqp,jqq,Nat.reduceSub,Nat.reduceAdd,jqr,jqs,jqt,Int.reduceToNat,Int.reducePow,Int.reduceNeg,Int.reduceMul,Int.reduceAdd,if_true,ite_true,jqu,ite_false,if_false]
  refine ⟨_,SqT.of h,_,rfl,_,SqT.of h,_,rfl,nl,rfl,gl,rfl,ys,hy,zs,hz,small_size (by omega),fun l hl=>?_⟩
  have s1:=isV (o:=HO.lst (ys ++ zs)) l hl
  have hx:upd H l (HO.lst (ys ++ zs)) l=some (.lst (ys ++ zs)):=upd_same
  generalize upd H l (HO.lst (ys ++ zs))=H1 at *
  have px:Paired (PrAt H1) (ys ++ zs) (b.no ++ b.gi):=paired_app (prs_same s1 py) (prs_same s1 pz)
  have S1:=S.same s1
  refine ⟨⟨_,SqL.of hx⟩,loop_list (ys ++ zs) (srI (fun o=>[some (.ref r1),some (.ref r2),some (.ref d2),o,some (.ref d4)]) H1 H1 (b.no ++ b.gi) a.gi) ⟨⟨_,rfl⟩,rfl,fun r h=>by simp at h⟩ (fun i σ H' ⟨_,e,_⟩=>by rw [e];exact SqL.of hx) ?_ ?_⟩
  · rintro i v σ H' hv ⟨⟨o,rfl⟩,eH,hn⟩
    subst eH
    obtain ⟨row,hr,r',p',rfl,e2,e3⟩:=Paired.getP px hv
    obtain ⟨oo,g1,g2⟩:=S1.get e3
    simp only [rInD,rCat,L2.start,rIxT,tSeq,gName,tRet,tNext,tOp,tVar,tC,tFor,tIfS,tTest,iList,rCat,rIxT,List.map,List.replicate,List.length,List.append,jqa,jqb,jqc,jqd,jqe,jqf,jqg,jqh,jqi,jqj,jqk,jql,jqm,jqn,and_true,true_and,and_assoc,jqo,jqp,jqq,Nat.reduceSub,Nat.reduceAdd,jqr,jqs,jqt,Int.reduceToNat,Int.reducePow,Int.reduceNeg,Int.reduceMul,Int.reduceAdd,if_true,ite_true,jqu,ite_false,if_false]
    refine ⟨_,SqT.of e2,_,rfl,oo,g1,?_⟩
    cases c:pIn row.1 a.gi with
    | true =>
      rw [g2,c,if_pos rfl]
      have m:metB a b=true:=by
        rcases List.mem_append.mp (List.mem_of_getElem? hr) with z | z
        · exact met_iff.mpr (.inr (.inl ⟨row,z,c⟩))
        · exact met_iff.mpr (.inl ⟨row,z,c⟩)
      have:=q _ s1
      rw [m] at this
      exact this
    | false =>
      rw [g2,c,if_neg (by decide)]
      exact ⟨⟨_,rfl⟩,rfl,pin_step hn hr c⟩
  · rintro σ H' ⟨⟨o,rfl⟩,eH,hn⟩
    subst eH
    have hn:∀ r∈b.no ++ b.gi,pIn r.1 a.gi=false:=fun r hr=>hn r (by rw [List.take_of_length_le (by rw [Paired.length px];exact Nat.le_refl _)];exact hr)
    exact rdp_met5 (k1.same s1) (k2.same s1) oa ob (S4.same s1) (fun r hr=>hn r (List.mem_append_right _ hr)) (fun r hr=>hn r (List.mem_append_left _ hr)) fun H2 s2=>q H2 (s1.trans s2)
theorem rdp_met2 {r1 r2 d2:Addr} {o3:Option V} (h1:PpV H (.ref r1) a) (h2:PpV H (.ref r2) b) (oa:ppOk a) (ob:ppOk b) {m:Nat} (S0:setP H d2 m a.gi) (q:∀ H',Same H H'→Q (.bl (metB a b)) H') :
    rd__law_met_2 K t { nx:=fun _ H'=>Q .non H',rt:=Q } [some (.ref r1),some (.ref r2),some (.ref d2),o3,none] H:=by
  have k1:=h1
  have k2:=h2
  obtain ⟨r,o,nl,gl,e,h,_,f1,f2⟩:=h2
  cases e
  obtain ⟨xs,hx,px⟩:=f2
  have lx:=Paired.length px
  have lg:=ob.lg
  simp only [rd__law_met_2,sDPut,rInD,tDNewT,rCat,L2.start,rIxT,tSeq,tAsg,gName,tRet,tNext,tOp,tVar,tC,tFor,tIfS,tTest,iList,rCat,rIxT,List.map,List.replicate,List.length,List.append,jqa,jqb,jqc,jqd,jqe,jqf,jqg,jqh,jqi,jqj,jqk,jql,jqm,jqn,and_true,true_and,and_assoc,jqo,jqp,jqq,Nat.reduceSub,Nat.reduceAdd,jqr,jqs,jqt,Int.reduceToNat,Int.reducePow,Int.reduceNeg,Int.reduceMul,Int.reduceAdd,if_true,ite_true,jqu,ite_false,if_false]
  intro d4 hd
  have s0:=isV (o:=HO.dT []) d4 hd
  refine ⟨_,SqT.of (s0 _ _ h),_,rfl,_,rfl,⟨_,SqL.of (s0 _ _ hx)⟩,loop_list xs (bdI (fun o=>[some (.ref r1),some (.ref r2),some (.ref d2),o,some (.ref d4)]) d4 H b.gi) ⟨⟨_,rfl⟩,s0,[],upd_same,Nat.le_refl _,fun q=>rfl⟩ (fun i σ H' ⟨_,s,_⟩=>SqL.of (s _ _ hx)) ?_ ?_⟩
  · rintro i v σ H' hv ⟨⟨o,rfl⟩,s,S⟩
    obtain ⟨row,hr,r',p',rfl,e2,e3⟩:=Paired.getP px hv
    have hi:=(List.getElem?_eq_some_iff.mp hv).1
    obtain ⟨H2,g1,g2,g3⟩:=S.add (H':=H') hr (s _ _ e3) (by omega)
    simp only [sDPut,rInD,tDNewT,rCat,L2.start,rIxT,tSeq,tAsg,gName,tRet,tNext,tOp,tVar,tC,tFor,tIfS,tTest,iList,rCat,rIxT,List.map,List.replicate,List.length,List.append,jqa,jqb,jqc,jqd,jqe,jqf,jqg,jqh,jqi,jqj,jqk,jql,jqm,jqn,and_true,true_and,and_assoc,jqo,jqp,jqq,Nat.reduceSub,Nat.reduceAdd,jqr,jqs,jqt,Int.reduceToNat,Int.reducePow,Int.reduceNeg,Int.reduceMul,Int.reduceAdd,if_true,ite_true,jqu,ite_false,if_false]
    exact ⟨_,SqT.of (s _ _ e2),_,rfl,H2,g1,⟨_,rfl⟩,fun c o e=>g3 c o (fun z=>by rw [z,hd] at e;cases e) (s c o e),g2⟩
  · rintro σ H' ⟨⟨o,rfl⟩,s,S⟩
    rw [List.take_of_length_le (by omega)] at S
    exact rdp_met4 (k1.same s) (k2.same s) oa ob (S0.same s) S fun H2 s2=>q H2 (s.trans s2)
theorem rdp__law_met (h1:PpV H v a) (h2:PpV H u b) (oa:ppOk a) (ob:ppOk b) (q:∀ H',Same H H'→Q (.bl (metB a b)) H') :
    rd__law_met K t { nx:=fun _ H'=>Q .non H',rt:=Q } (L2.start ["one","other","gifts","row","theirs"] [v,u]) H:=by
  obtain ⟨r1,_,_,_,rfl,_⟩:=id h1
  obtain ⟨r2,_,_,_,rfl,_⟩:=id h2
  have k1:=h1
  have k2:=h2
  obtain ⟨r,o,nl,gl,e,h,_,f1,f2⟩:=h1
  cases e
  obtain ⟨xs,hx,px⟩:=f2
  have lx:=Paired.length px
  have lg:=oa.lg
  simp only [rd__law_met,sDPut,rInD,tDNewT,rCat,L2.start,rIxT,tSeq,tAsg,gName,tRet,tNext,tOp,tVar,tC,tFor,tIfS,tTest,iList,rCat,rIxT,List.map,List.replicate,List.length,List.append,jqa,jqb,jqc,jqd,jqe,jqf,jqg,jqh,jqi,jqj,jqk,jql,jqm,jqn,and_true,true_and,and_assoc,jqo,jqp,jqq,Nat.reduceSub,Nat.reduceAdd,jqr,jqs,jqt,Int.reduceToNat,Int.reducePow,Int.reduceNeg,Int.reduceMul,Int.reduceAdd,if_true,ite_true,jqu,ite_false,if_false]
  intro d2 hd
  have s0:=isV (o:=HO.dT []) d2 hd
  refine ⟨_,SqT.of (s0 _ _ h),_,rfl,_,rfl,⟨_,SqL.of (s0 _ _ hx)⟩,loop_list xs (bdI (fun o=>[some (.ref r1),some (.ref r2),some (.ref d2),o,none]) d2 H a.gi) ⟨⟨_,rfl⟩,s0,[],upd_same,Nat.le_refl _,fun q=>rfl⟩ (fun i σ H' ⟨_,s,_⟩=>SqL.of (s _ _ hx)) ?_ ?_⟩
  · rintro i v σ H' hv ⟨⟨o,rfl⟩,s,S⟩
    obtain ⟨row,hr,r',p',rfl,e2,e3⟩:=Paired.getP px hv
    have hi:=(List.getElem?_eq_some_iff.mp hv).1
    obtain ⟨H2,g1,g2,g3⟩:=S.add (H':=H') hr (s _ _ e3) (by omega)
    simp only [sDPut,rInD,tDNewT,rCat,L2.start,rIxT,tSeq,tAsg,gName,tRet,tNext,tOp,tVar,tC,tFor,tIfS,tTest,iList,rCat,rIxT,List.map,List.replicate,List.length,List.append,jqa,jqb,jqc,jqd,jqe,jqf,jqg,jqh,jqi,jqj,jqk,jql,jqm,jqn,and_true,true_and,and_assoc,jqo,jqp,jqq,Nat.reduceSub,Nat.reduceAdd,jqr,jqs,jqt,Int.reduceToNat,Int.reducePow,Int.reduceNeg,Int.reduceMul,Int.reduceAdd,if_true,ite_true,jqu,ite_false,if_false]
    exact ⟨_,SqT.of (s _ _ e2),_,rfl,H2,g1,⟨_,rfl⟩,fun c o e=>g3 c o (fun z=>by rw [z,hd] at e;cases e) (s c o e),g2⟩
  · rintro σ H' ⟨⟨o,rfl⟩,s,S⟩
    rw [List.take_of_length_le (by omega)] at S
    exact rdp_met2 (k1.same s) (k2.same s) oa ob S fun H2 s2=>q H2 (s.trans s2)
end
theorem cut_take (xs:List V) (n:Nat):cutV xs none (some (n:Int))=xs.take n:=by
  unfold cutV
  rw [HT.sIx_none,HT.sIx_nat,List.drop_zero,Nat.sub_zero]
  by_cases c:n≤xs.length
  · rw [Nat.min_eq_left c]
  · rw [Nat.min_eq_right (by omega),List.take_of_length_le (Nat.le_refl _),List.take_of_length_le (by omega)]
section
variable {p l:Addr} {P:List Pp} {os:List Nat} {H0:Hp}
theorem nat_at {k:Nat} (hk:k < os.length):(os.map natV)[k]?=some (.int ((os.getD k 0:Nat):Int)):=by
  rw [List.getElem?_map,List.getElem?_eq_getElem hk,List.getD_eq_getElem?_getD,List.getElem?_eq_getElem hk];rfl
theorem getD_mem {k:Nat} (hk:k < os.length):os.getD k 0∈os:=by
  rw [List.getD_eq_getElem?_getD,List.getElem?_eq_getElem hk];exact List.getElem_mem hk
theorem take_getD {j:Nat} (hj:j < os.length):os.take (j + 1)=os.take j ++ [os.getD j 0]:=by
  rw [List.take_add_one,List.getD_eq_getElem?_getD,List.getElem?_eq_getElem hj];rfl
def hitB (P:List Pp) (os:List Nat) (k j:Nat):Bool:=decide (os.getD k 0 < j) && mtB P j (os.getD k 0)
theorem bad_hit {k:Nat}:badA P os k=(os.take k).any (hitB P os k):=rfl
theorem kp_false {k:Nat} (hk:k < os.length) (h:badA P os k=true):kpB P os=false:=by
  unfold kpB
  rw [List.all_eq_false]
  exact ⟨k,List.mem_range.mpr hk,by rw [h];simp⟩
theorem kp_true (h:∀ k,k < os.length→badA P os k=false):kpB P os=true:=by
  unfold kpB
  rw [List.all_eq_true]
  exact fun k hk=>by rw [h k (List.mem_range.mp hk)];rfl
def knI (p l:Addr) (P:List Pp) (os:List Nat) (k:Nat) (H0:Hp) (j:Nat) (σ:St) (H:Hp):Prop:=(∃ o3,σ=[some (.ref p),some (.ref l),some (.int (k:Nat)),o3])∧Same H0 H∧(os.take j).any (hitB P os k)=false
theorem rdp_keptB {D:Ends} {k:Nat} {o3:Option V} (h1:PpsAt H p P) (h2:H l=some (.lst (os.map natV))) (h3:os.length≤63) (h4:∀ j∈os,j < P.length) (hk:k < os.length) (qt:∀ H',Same H H'→badA P os k=true→D.rt (.bl false) H') (qn:∀ H' o3,Same H H'→badA P os k=false→D.nx [some (.ref p),some (.ref l),some (.int (k:Nat)),o3] H') :
    rd__law_kept_B K t D [some (.ref p),some (.ref l),some (.int (k:Nat)),o3] H:=by
  simp only [rd__law_kept_B,L2.start,gName,tRet,tNext,tOp,tVar,tC,tCons,tNil,tFor,tIfS,tAnd,tTest,tB,tCall,iRng1,rIxL,rI0,List.map,List.replicate,List.length,List.append,jqa,jqb,jqc,jqd,jqe,jqf,jqg,jqh,jqi,jqj,jqk,jql,jqm,jqn,and_true,true_and,and_assoc,jqo,jqp,jqq,Nat.reduceSub,Nat.reduceAdd,jqr,jqs,jqt,Int.reduceToNat,Int.reducePow,Int.reduceNeg,Int.reduceMul,Int.reduceAdd,if_true,ite_true,jqu,ite_false,if_false]
  refine ⟨by omega,by omega,loop_range (knI p l P os k H) ⟨⟨_,rfl⟩,Same.refl H,by simp⟩ ?_ ?_⟩
  · rintro j σ H1 hj ⟨⟨o3,rfl⟩,s1,ha⟩
    simp only [rd__law_kept_C,sp__law_met,L2.start,gName,tRet,tNext,tOp,tVar,tC,tCons,tNil,tFor,tIfS,tAnd,tTest,tB,tCall,iRng1,rIxL,rI0,List.map,List.replicate,List.length,List.append,jqa,jqb,jqc,jqd,jqe,jqf,jqg,jqh,jqi,jqj,jqk,jql,jqm,jqn,and_true,true_and,and_assoc,jqo,jqp,jqq,Nat.reduceSub,Nat.reduceAdd,jqr,jqs,jqt,Int.reduceToNat,Int.reducePow,Int.reduceNeg,Int.reduceMul,Int.reduceAdd,if_true,ite_true,jqu,ite_false,if_false,Int.zero_add]
    have hj:j < k:=by omega
    have q1:=nat_at (os:=os) (k:=j) (by omega)
    have q2:=nat_at (os:=os) hk
    have g1:=h1.same s1
    have hl:=s1 _ _ h2
    have st:(os.take (j + 1)).any (hitB P os k)=hitB P os k (os.getD j 0):=by rw [take_getD (by omega),List.any_append,ha];simp
    refine ⟨_,SqL.of hl,_,atI_nat q1,_,SqL.of hl,_,atI_nat q2,_,rfl,_,rfl,ite2 (fun c=>?_) fun c=>⟨⟨_,rfl⟩,s1,by rw [st];unfold hitB;rw [decide_eq_false (by omega),Bool.false_and]⟩⟩
    obtain ⟨xs,v1,x1,x2,x3,x4,_⟩:=g1.get (h4 _ (getD_mem (os:=os) (k:=j) (by omega)))
    obtain ⟨xs',v2,y1,y2,y3,y4,_⟩:=g1.get (h4 _ (getD_mem hk))
    refine ⟨_,SqL.of hl,_,atI_nat q1,_,_,rfl,SqL.of x1,_,x2,_,SqL.of hl,_,atI_nat q2,_,_,rfl,SqL.of y1,_,y2,_,x3,_,y3,x4,y4,fun H2 s2=>?_⟩
    have em:metB (pAt P (os.getD j 0)) (pAt P (os.getD k 0))=mtB P (os.getD j 0) (os.getD k 0):=rfl
    rw [em]
    have hh:hitB P os k (os.getD j 0)=mtB P (os.getD j 0) (os.getD k 0):=by unfold hitB;rw [decide_eq_true (by omega),Bool.true_and]
    cases g:mtB P (os.getD j 0) (os.getD k 0) with
    | true =>
      rw [if_pos rfl]
      refine qt H2 (s1.trans s2) ?_
      rw [bad_hit,List.any_eq_true]
      refine ⟨os.getD j 0,?_,by rw [hh,g]⟩
      have:os.getD j 0∈os.take (j + 1):=by rw [take_getD (by omega)];simp
      exact (List.take_prefix_take_left (by omega:j + 1≤k)).subset this
    | false =>
      rw [if_neg (by decide)]
      exact ⟨⟨_,rfl⟩,s1.trans s2,by rw [st,hh,g]⟩
  · rintro σ H1 ⟨⟨o3,rfl⟩,s1,ha⟩
    exact qn H1 o3 s1 (by rw [bad_hit];simpa using ha)
def koI (p l:Addr) (P:List Pp) (os:List Nat) (H0:Hp) (i:Nat) (σ:St) (H:Hp):Prop:=(∃ o2 o3,σ=[some (.ref p),some (.ref l),o2,o3])∧Same H0 H∧∀ k,k < i→badA P os k=false
theorem rdp__law_kept (h1:PpsAt H p P) (h2:H l=some (.lst (os.map natV))) (h3:os.length≤63) (h4:∀ j∈os,j < P.length) (q:∀ H',Same H H'→Q (.bl (kpB P os)) H') :
    rd__law_kept K t { nx:=fun _ H'=>Q .non H',rt:=Q } (L2.start ["papers","order","k","j"] [.ref p,.ref l]) H:=by
  simp only [rd__law_kept,L2.start,tSeq,gName,tRet,tNext,tOp,tVar,tC,tCons,tNil,tFor,tIfS,tAnd,tTest,tB,tCB,tCall,LenV,iRng1,rIxL,rI0,cLen,List.map,List.replicate,List.length,List.append,jqa,jqb,jqc,jqd,jqe,jqf,jqg,jqh,jqi,jqj,jqk,jql,jqm,jqn,and_true,true_and,and_assoc,jqo,jqp,jqq,Nat.reduceSub,Nat.reduceAdd,jqr,jqs,jqt,Int.reduceToNat,Int.reducePow,Int.reduceNeg,Int.reduceMul,Int.reduceAdd,if_true,ite_true,jqu,ite_false,if_false]
  have ln:(os.map natV).length=os.length:=List.length_map ..
  refine ⟨os.length,.inl ⟨_,SqL.of h2,ln.symm⟩,by omega,by omega,loop_range (koI p l P os H) ⟨⟨_,_,rfl⟩,Same.refl H,fun k z=>by omega⟩ ?_ ?_⟩
  · rintro i σ H1 hi ⟨⟨o2,o3,rfl⟩,s1,hb⟩
    simp only [L2.start,tSeq,gName,tRet,tNext,tOp,tVar,tC,tCons,tNil,tFor,tIfS,tAnd,tTest,tB,tCB,tCall,LenV,iRng1,rIxL,rI0,cLen,List.map,List.replicate,List.length,List.append,jqa,jqb,jqc,jqd,jqe,jqf,jqg,jqh,jqi,jqj,jqk,jql,jqm,jqn,and_true,true_and,and_assoc,jqo,jqp,jqq,Nat.reduceSub,Nat.reduceAdd,jqr,jqs,jqt,Int.reduceToNat,Int.reducePow,Int.reduceNeg,Int.reduceMul,Int.reduceAdd,if_true,ite_true,jqu,ite_false,if_false,Int.zero_add]
    have hi:i < os.length:=by omega
    refine rdp_keptB (h1.same s1) (s1 _ _ h2) h3 h4 hi (fun H2 s2 b=>?_) fun H2 o3 s2 b=>⟨⟨_,_,rfl⟩,s1.trans s2,fun k hk=>?_⟩
    · have:=q H2 (s1.trans s2)
      rw [kp_false hi b] at this
      exact this
    · by_cases z:k=i
      · rw [z];exact b
      · exact hb k (by omega)
  · rintro σ H1 ⟨⟨o2,o3,rfl⟩,s1,hb⟩
    have:=q H1 s1
    rw [kp_true fun k hk=>hb k (by omega)] at this
    exact this
end
def inD (ns:List Int):PyData:=.list (ns.map PyData.int)
theorem in_dat {a:Addr} {ns:List Int} (h:H a=some (.lst (ns.map V.int))):Dat K H (.ref a) (inD ns):=.lst (SqL.of h) (DatAll.of fun i _=>.int i)
theorem in_plain:∀ (ns:List Int),plainDs (ns.map PyData.int)=true∧PyData.depthAll (ns.map PyData.int)≤1
  | []=>⟨rfl,by simp [PyData.depthAll]⟩
  | n :: r=>by
    have ih:=in_plain r
    rw [List.map_cons,plainDs,PyData.depthAll,ih.1]
    refine ⟨by simp [plainD],?_⟩
    simp only [PyData.depth];omega
theorem in_pl (ns:List Int):plainD (inD ns)=true∧(inD ns).depth≤64:=by
  obtain ⟨h1,h2⟩:=in_plain ns
  exact ⟨by unfold inD;rw [plainD];exact h1,by unfold inD;rw [PyData.depth];omega⟩
theorem in_inj {a b:List Int} (h:inD a=inD b):a=b:=by
  have h:a.map PyData.int=b.map PyData.int:=by unfold inD at h;injection h
  exact (List.map_inj_right fun x y z=>by injection z).mp h
def rgI (n:Nat):List Int:=(List.range n).map fun (i:Nat)=>(i:Int)
theorem rg_lst (n:Nat):((List.range n).map fun i=>V.int (i:Nat))=(rgI n).map V.int:=by unfold rgI;rw [List.map_map];rfl
theorem rg_up (n:Nat):(rgI n).Pairwise (· < ·):=by
  unfold rgI
  rw [List.pairwise_map]
  exact List.pairwise_lt_range.imp fun h=>by omega
theorem rg_nd (n:Nat):(rgI n).Nodup:=(rg_up n).imp fun h e=>by omega
theorem up_eq:∀ {a b:List Int},a.Pairwise (· < ·)→b.Pairwise (· < ·)→a.Perm b→a=b
  | [],b,_,_,h=>h.nil_eq
  | x :: a,[],_,_,h=>absurd h.length_eq (by simp)
  | x :: a,y :: b,ha,hb,h=>by
    rw [List.pairwise_cons] at ha hb
    have e:x=y:=by
      rcases List.mem_cons.mp (h.mem_iff.mp (List.mem_cons_self ..)) with e | e
      · exact e
      · rcases List.mem_cons.mp (h.mem_iff.mpr (List.mem_cons_self ..)) with e' | e'
        · exact e'.symm
        · have:=ha.1 y e'
          have:=hb.1 x e
          omega
    subst e
    rw [up_eq ha.2 hb.2 (List.perm_cons x |>.mp h)]
theorem rdp_heed_order {l:Addr} {n:Nat} {ns:List Int} {E:XK} (h1:H l=some (.lst (ns.map V.int))) (h2:ns.length < 64) (h3:n≤63) (h4:∀ i∈ns,i.natAbs.log2 < 1920) (q1:ordB n ns→∀ H',Same H H'→Q .non H') (q2:¬ ordB n ns→∀ H',Same H H'→E (.ref t.c_NoOrder) none H') :
    rd_heed_order K t E { nx:=fun _ H'=>Q .non H',rt:=Q } (L2.start ["order","many"] [.ref l,.int n]) H:=by
  simp only [rd_heed_order,tMsgI,rEqD,cSrtN,tLRng,L2.start,tRaise,tNext,tOp,tVar,tCons,tNil,tIfS,tTest,tCB,List.map,List.replicate,List.length,List.append,jqa,jqb,jqc,jqd,jqe,jqf,jqg,jqh,jqi,jqj,jqk,jql,jqm,jqn,and_true,true_and,and_assoc,jqo,jqp,jqq,Nat.reduceSub,Nat.reduceAdd,jqr,jqs,jqt,Int.reduceToNat,Int.reducePow,Int.reduceNeg,Int.reduceMul,Int.reduceAdd,if_true,ite_true,jqu,ite_false,if_false]
  refine ⟨ns,SqL.of h1,h2,fun a srt ha pm up=>⟨n,rfl,by omega,fun b hb=>?_⟩⟩
  have s1:=isV (o:=HO.lst (srt.map V.int)) a ha
  have e1:upd H a (HO.lst (srt.map V.int)) a=some (.lst (srt.map V.int)):=upd_same
  generalize upd H a (HO.lst (srt.map V.int))=H1 at *
  rw [rg_lst]
  have s2:=isV (o:=HO.lst ((rgI n).map V.int)) b hb
  have e2:upd H1 b (HO.lst ((rgI n).map V.int)) b=some (.lst ((rgI n).map V.int)):=upd_same
  generalize upd H1 b (HO.lst ((rgI n).map V.int))=H2 at *
  have S:=s1.trans s2
  refine ⟨_,in_dat (s2 _ _ e1),_,in_dat e2,(in_pl _).1,(in_pl _).1,(in_pl _).2,(in_pl _).2,fun c hc=>?_⟩
  by_cases o:ordB n ns
  · have nd:ns.Nodup:=(List.Perm.nodup_iff o).mpr (rg_nd n)
    have e:srt=rgI n:=up_eq (up nd) (rg_up n) (pm.trans o)
    rw [hc.mpr (by rw [e]),if_neg (by decide)]
    exact q1 o _ S
  · have ne:c=false:=by
      cases c with
      | false=>rfl
      | true=>exact absurd (pm.symm.trans (by rw [in_inj (hc.mp rfl)];exact List.Perm.refl _)) o
    rw [ne,if_pos rfl]
    exact ⟨by rw [Int.natAbs_natCast];have:=Nat.log2_le_self n;omega,fun y=>⟨by decide,q2 o _ S⟩⟩
theorem ord_nat {n:Nat} {ns:List Int} (h:ordB n ns):∃ os:List Nat,ns=(os.map fun (i:Nat)=>(i:Int))∧os.Perm (List.range n):=by
  refine ⟨ns.map Int.toNat,?_,?_⟩
  · rw [List.map_map]
    symm
    refine (List.map_congr_left fun i hi=>?_).trans (List.map_id ns)
    have:i∈(List.range n).map fun (i:Nat)=>(i:Int):=h.mem_iff.mp hi
    obtain ⟨k,_,e⟩:=List.mem_map.mp this
    show ((i.toNat:Nat):Int)=i
    omega
  · have:=List.Perm.map Int.toNat h
    rw [List.map_map] at this
    rw [show (Int.toNat ∘ fun (i:Nat)=>(i:Int))=id from funext fun i=>by simp] at this
    rwa [List.map_id] at this
theorem ord_of {n:Nat} {os:List Nat} (h:os.Perm (List.range n)):ordB n (os.map fun (i:Nat)=>(i:Int)):=List.Perm.map _ h
section
variable {p l:Addr} {P:List Pp} {os:List Nat} {H0:Hp} {E:XK}
theorem nat_lst (os:List Nat):os.map natV=(os.map fun (i:Nat)=>(i:Int)).map V.int:=by rw [List.map_map];rfl
def hiR (os:List Nat) (r:Nat) (m:Nat) (i:Nat) (ys:List V) (_:Hp):Prop:=ys=(((os.take m).take i).filter fun j=>decide (r < j)).map natV
theorem rdp_keepsB {D:Ends} {k:Nat} {A:V} {o4:Option V} (h1:PpsAt H p P) (h2:H l=some (.lst (os.map natV))) (h3:os.length≤63) (h4:∀ j∈os,j < P.length) (hk:k < os.length) (qt:∀ H',Same H H'→badA P os k=true→D.rt (.bl false) H') (qn:∀ H' o4,Same H H'→badA P os k=false→D.nx [some (.ref p),some (.ref l),some (.int (k:Nat)),some (.int ((os.getD k 0:Nat):Int)),o4] H') :
    rd_keeps_B K t E D [some (.ref p),some (.ref l),some (.int (k:Nat)),some (.int ((os.getD k 0:Nat):Int)),o4] H:=by
  simp only [rd_keeps_B,sp_meeting,rNeNil,L2.start,tSeq,tAsg,gName,tRet,tNext,tOp,tVar,tC,tLst,tCons,tNil,tIfS,tTest,tSl,tPart,tNoPart,tCall,tComp,capV,iList,rI0,rSlL,List.map,List.replicate,List.length,List.append,jqa,jqb,jqc,jqd,jqe,jqf,jqg,jqh,jqi,jqj,jqk,jql,jqm,jqn,and_true,true_and,and_assoc,jqo,jqp,jqq,Nat.reduceSub,Nat.reduceAdd,jqr,jqs,jqt,Int.reduceToNat,Int.reducePow,Int.reduceNeg,Int.reduceMul,Int.reduceAdd,if_true,ite_true,jqu,ite_false,if_false]
  refine ⟨_,SqL.of h2,fun l1 hl1=>?_⟩
  rw [cut_take,← List.map_take]
  have s1:=isV (o:=HO.lst ((os.take k).map natV)) l1 hl1
  have e1:upd H l1 (HO.lst ((os.take k).map natV)) l1=some (.lst ((os.take k).map natV)):=upd_same
  generalize upd H l1 (HO.lst ((os.take k).map natV))=H1 at *
  have lk:((os.take k).map natV).length=k:=by rw [List.length_map,List.length_take];omega
  refine ⟨⟨_,SqL.of e1⟩,fun D1 hD1=>?_⟩
  refine comp_inv (J:=Itl K l1) k (by omega) (fun τ=>∃ o0,τ=[o0,some (.int ((os.getD k 0:Nat):Int))]) (hiR os (os.getD k 0) k) (fun i ys H H' s h=>h) ⟨_,rfl⟩ rfl (fun i H s h=>⟨_,_,SqL.of (s _ _ e1),List.getElem?_eq_getElem (by rw [lk];exact h)⟩) (fun H s=>⟨_,SqL.of (s _ _ e1),by rw [lk];exact Nat.le_refl _⟩) hD1 ?_ ?_
  · rintro i v τ us H4 H5 ⟨o0,rfl⟩ s4 hi hR ⟨rfl,hv⟩
    have hv:=hv _ (SqL.of (s4 _ _ e1))
    have hik:i < (os.take k).length:=by rw [List.length_take];omega
    have hj:(os.take k)[i]?=some (os.take k)[i]:=List.getElem?_eq_getElem hik
    rw [List.getElem?_map,hj] at hv
    obtain rfl:natV (os.take k)[i]=v:=Option.some.inj hv
    have tk:=take_nat (ws:=os.take k) hj
    generalize (os.take k)[i]=j at *
    simp only [natV,rNeNil,L2.start,tSeq,tAsg,gName,tRet,tNext,tOp,tVar,tC,tLst,tCons,tNil,tIfS,tTest,tSl,tPart,tNoPart,tCall,tComp,capV,iList,rI0,rSlL,List.map,List.replicate,List.length,List.append,jqa,jqb,jqc,jqd,jqe,jqf,jqg,jqh,jqi,jqj,jqk,jql,jqm,jqn,and_true,true_and,and_assoc,jqo,jqp,jqq,Nat.reduceSub,Nat.reduceAdd,jqr,jqs,jqt,Int.reduceToNat,Int.reducePow,Int.reduceNeg,Int.reduceMul,Int.reduceAdd,if_true,ite_true,jqu,ite_false,if_false]
    unfold hiR at hR ⊢
    refine ite2 (fun c=>⟨⟨_,rfl⟩,?_,Same.refl _⟩) fun c=>⟨⟨_,rfl⟩,?_,Same.refl _⟩
    · rw [tk,List.filter_append,List.map_append,hR,List.filter_cons,if_pos (decide_eq_true (by omega))];rfl
    · rw [tk,List.filter_append,List.map_append,hR,List.filter_cons,if_neg (by rw [decide_eq_true_eq];omega)];simp
  · rintro us H4 hle hR s4 hDl
    unfold hiR at hR
    rw [List.take_of_length_le (l:=os.take k) (by rw [List.length_take];omega)] at hR
    rw [hR] at hDl
    have S4:=s1.trans s4
    have lf:=List.length_filter_le (fun j=>decide (os.getD k 0 < j)) (os.take k)
    have lt:(os.take k).length≤os.length:=by rw [List.length_take];omega
    refine ⟨os.getD k 0,rfl,P,h1.same S4,_,hDl,by omega,fun j hj=>h4 j (List.mem_of_mem_take (List.mem_filter.mp hj).1),h4 _ (getD_mem hk),fun q0 H5 s5 _ hq=>⟨by decide,fun p1 hp1=>?_⟩⟩
    have s6:=isV (o:=HO.lst []) p1 hp1
    refine ⟨_,SqL.of (s6 _ _ hq),SqL.of upd_same,?_⟩
    have S6:=S4.trans (s5.trans s6)
    have ef:((os.take k).filter (fun j=>decide (os.getD k 0 < j))).filter (fun j=>mtB P j (os.getD k 0))=(os.take k).filter (hitB P os k):=by
      rw [List.filter_filter]
      refine List.filter_congr fun j _=>?_
      unfold hitB
      rw [Bool.and_comm]
    rw [ef]
    cases hf:(os.take k).filter (hitB P os k) with
    | nil =>
      rw [if_neg (by simp)]
      refine qn _ _ S6 ?_
      rw [bad_hit,List.any_eq_false]
      exact fun j hj z=>by
        have:j∈(os.take k).filter (hitB P os k):=List.mem_filter.mpr ⟨hj,z⟩
        rw [hf] at this;cases this
    | cons j r =>
      rw [if_pos (by simp)]
      refine qt _ S6 ?_
      have:j∈(os.take k).filter (hitB P os k):=by rw [hf];exact List.mem_cons_self
      rw [bad_hit]
      exact List.any_eq_true.mpr ⟨j,List.mem_filter.mp this⟩
def keI (p l:Addr) (P:List Pp) (os:List Nat) (H0:Hp) (i:Nat) (σ:St) (H:Hp):Prop:=(∃ o2 o3 o4,σ=[some (.ref p),some (.ref l),o2,o3,o4])∧Same H0 H∧∀ k,k < i→badA P os k=false
theorem rdp_keeps1 (h1:PpsAt H p P) (h2:H l=some (.lst (os.map natV))) (h3:os.length≤63) (h4:∀ j∈os,j < P.length) (q:∀ H',Same H H'→Q (.bl (kpB P os)) H') :
    rd_keeps_1 K t E { nx:=fun _ H'=>Q .non H',rt:=Q } [some (.ref p),some (.ref l),none,none,none] H:=by
  simp only [rd_keeps_1,rNeNil,iEnm,L2.start,tSeq,tAsg,gName,gTup,gCons,gNil,tRet,tNext,tOp,tVar,tC,tLst,tCons,tNil,tFor,tIfS,tTest,tSl,tPart,tNoPart,tCall,tComp,capV,iList,rI0,rSlL,List.map,List.replicate,List.length,List.append,jqa,jqb,jqc,jqd,jqe,jqf,jqg,jqh,jqi,jqj,jqk,jql,jqm,jqn,and_true,true_and,and_assoc,jqo,jqp,jqq,Nat.reduceSub,Nat.reduceAdd,jqr,jqs,jqt,Int.reduceToNat,Int.reducePow,Int.reduceNeg,Int.reduceMul,Int.reduceAdd,if_true,ite_true,jqu,ite_false,if_false]
  have ln:(os.map natV).length=os.length:=List.length_map ..
  refine ⟨_,SqL.of h2,loop_enumL (os.map natV) (keI p l P os H) ⟨⟨_,_,_,rfl⟩,Same.refl H,fun k z=>by omega⟩ (fun i σ H' z=>SqL.of (z.2.1 _ _ h2)) ?_ ?_⟩
  · rintro i u A σ H1 hu hA ⟨⟨o2,o3,o4,rfl⟩,s1,hb⟩
    have hi:=(List.getElem?_eq_some_iff.mp hu).1
    rw [ln] at hi
    rw [nat_at hi] at hu
    obtain rfl:=Option.some.inj hu
    have s2:=isV (o:=HO.tup [V.int (i:Int),V.int ((os.getD i 0:Nat):Int)]) A hA
    simp only [rNeNil,iEnm,L2.start,tSeq,tAsg,gName,gTup,gCons,gNil,tRet,tNext,tOp,tVar,tC,tLst,tCons,tNil,tFor,tIfS,tTest,tSl,tPart,tNoPart,tCall,tComp,capV,iList,rI0,rSlL,List.map,List.replicate,List.length,List.append,jqa,jqb,jqc,jqd,jqe,jqf,jqg,jqh,jqi,jqj,jqk,jql,jqm,jqn,and_true,true_and,and_assoc,jqo,jqp,jqq,Nat.reduceSub,Nat.reduceAdd,jqr,jqs,jqt,Int.reduceToNat,Int.reducePow,Int.reduceNeg,Int.reduceMul,Int.reduceAdd,if_true,ite_true,jqu,ite_false,if_false]
    refine ⟨_,SqT.of upd_same,rfl,_,_,rfl,_,_,rfl,rfl,?_⟩
    have S2:=s1.trans s2
    refine rdp_keepsB (A:=.non) (h1.same S2) (S2 _ _ h2) h3 h4 hi (fun H3 s3 b=>?_) fun H3 o4 s3 b=>⟨⟨_,_,_,rfl⟩,S2.trans s3,fun k hk=>?_⟩
    · have:=q H3 (S2.trans s3)
      rw [kp_false hi b] at this
      exact this
    · by_cases z:k=i
      · rw [z];exact b
      · exact hb k (by omega)
  · rintro σ H1 ⟨⟨o2,o3,o4,rfl⟩,s1,hb⟩
    have:=q H1 s1
    rw [kp_true fun k hk=>hb k (by omega)] at this
    exact this
theorem rdp_keeps {ns:List Int} (h1:PpsAt H p P) (h2:H l=some (.lst (ns.map V.int))) (h3:ns.length < 64) (h4:∀ i∈ns,i.natAbs.log2 < 1920) (q1:∀ os:List Nat,ns=(os.map fun (i:Nat)=>(i:Int))→os.Perm (List.range P.length)→∀ H',Same H H'→Q (.bl (kpB P os)) H') (q2:¬ ordB P.length ns→∀ H',Same H H'→E (.ref t.c_NoOrder) none H') :
    rd_keeps K t E { nx:=fun _ H'=>Q .non H',rt:=Q } (L2.start ["papers","order","at","rank","higher"] [.ref p,.ref l]) H:=by
  simp only [rd_keeps,sp_heed_order,rNeNil,iEnm,L2.start,tSeq,tAsg,gName,gTup,gCons,gNil,tRet,tDrop,tNext,tOp,tVar,tC,tLst,tCons,tNil,tFor,tIfS,tTest,tCB,tSl,tPart,tNoPart,tCall,tComp,capV,LenV,iList,rI0,rSlL,cLen,List.map,List.replicate,List.length,List.append,jqa,jqb,jqc,jqd,jqe,jqf,jqg,jqh,jqi,jqj,jqk,jql,jqm,jqn,and_true,true_and,and_assoc,jqo,jqp,jqq,Nat.reduceSub,Nat.reduceAdd,jqr,jqs,jqt,Int.reduceToNat,Int.reducePow,Int.reduceNeg,Int.reduceMul,Int.reduceAdd,if_true,ite_true,jqu,ite_false,if_false]
  obtain ⟨⟨xs,hx,px⟩,_,hle⟩:=id h1
  have lx:=Paired.length px
  refine ⟨P.length,.inl ⟨_,SqL.of hx,lx.symm⟩,P.length,rfl,ns,h2,h3,by omega,h4,fun o H1 s1=>?_,q2⟩
  obtain ⟨os,e,pm⟩:=ord_nat o
  have lo:=pm.length_eq
  rw [List.length_range] at lo
  refine rdp_keeps1 (h1.same s1) (by rw [nat_lst,← e];exact s1 _ _ h2) (by omega) (fun j hj=>List.mem_range.mp (pm.mem_iff.mp hj)) fun H2 s2=>q1 os e pm H2 (s1.trans s2)
end
section
variable {a p l:Addr} {P:List Pp} {os:List Nat} {ns:List Int} {H0:Hp} {b:Bool} {f:Int} {i:Nat}
def odS (a p l:Addr) (b:Bool) (o4 o5 o6:Option V):St:=[some (.ref a),some (.ref p),some (.ref l),some (.bl b),o4,o5,o6]
def woI (a p l:Addr) (b:Bool) (i:Nat) (f:Int) (H0:Hp) (v:Nat) (σ:St) (H:Hp):Prop:=∃ m:Nat,σ=odS a p l b (some (.int (i:Nat))) (some (.int f)) (some (.int (m:Nat)))∧Same H0 H∧v=m∧m≤i∧(i:Int) - f≤m
theorem rdp_orderW {D:Ends} (h1:PpsAt H p P) (hi:i < P.length) (h2:H l=some (.lst (os.map natV))) (pm:os.Perm (List.range i)) (f0:0≤f) (fi:f≤i) (q:∀ H' m o4 o5 o6,Same H H'→m≤i→D.nx (odS a p l b o4 o5 o6) (upd H' l (.lst ((os.take m ++ i :: os.drop m).map natV)))) :
    rd__law_order_W K t D (odS a p l b (some (.int (i:Nat))) (some (.int f)) (some (.int (i:Nat)))) H:=by
  simp only [rd__law_order_W,odS,tBreak,sp__law_met,r_mt_insert,L2.start,tSeq,tAsg,gName,tDrop,tNext,tOp,tVar,tC,tCons,tNil,tIfS,tAnd,tTest,tB,tBM,tyV,tCall,rIxL,rI0,List.map,List.replicate,List.length,List.append,jqa,jqb,jqc,jqd,jqe,jqf,jqg,jqh,jqi,jqj,jqk,jql,jqm,jqn,and_true,true_and,and_assoc,jqo,jqp,jqq,Nat.reduceSub,Nat.reduceAdd,jqr,jqs,jqt,Int.reduceToNat,Int.reducePow,Int.reduceNeg,Int.reduceMul,Int.reduceAdd,if_true,ite_true,jqu,ite_false,if_false]
  unfold tWhile
  refine ⟨woI a p l b i f H,⟨i,i,rfl,Same.refl H,rfl,Nat.le_refl _,by omega⟩,?_⟩
  rintro v σ H1 ⟨m,rfl,s1,hv,hm,hf⟩
  have le63:=h1.le
  have lo:=pm.length_eq
  rw [List.length_range] at lo
  have lm:(os.map natV).length=os.length:=List.length_map ..
  have fin:∀ H2,Same H H2→tDrop (tBM K "list" r_mt_insert (tVar 2) (tCons (tVar 6) (tCons (tVar 4) tNil))) D (odS a p l b (some (.int (i:Nat))) (some (.int f)) (some (.int (m:Nat)))) H2:=fun H2 s2=>by
    simp only [odS,r_mt_insert,L2.start,tSeq,tAsg,gName,tDrop,tNext,tOp,tVar,tC,tCons,tNil,tIfS,tAnd,tTest,tB,tBM,tyV,tCall,rIxL,rI0,List.map,List.replicate,List.length,List.append,jqa,jqb,jqc,jqd,jqe,jqf,jqg,jqh,jqi,jqj,jqk,jql,jqm,jqn,and_true,true_and,and_assoc,jqo,jqp,jqq,Nat.reduceSub,Nat.reduceAdd,jqr,jqs,jqt,Int.reduceToNat,Int.reducePow,Int.reduceNeg,Int.reduceMul,Int.reduceAdd,if_true,ite_true,jqu,ite_false,if_false]
    refine ⟨.inl ⟨_,SqL.of (s2 _ _ h2)⟩,os.map natV,m,rfl,s2 _ _ h2,by omega,by omega,?_⟩
    have:=q H2 m (some (.int (i:Nat))) (some (.int f)) (some (.int (m:Nat))) s2 hm
    rw [List.map_append,List.map_cons,List.map_take,List.map_drop] at this
    exact this
  simp only [odS,r_mt_insert,L2.start,tSeq,tAsg,gName,tDrop,tNext,tOp,tVar,tC,tCons,tNil,tIfS,tAnd,tTest,tB,tBM,tyV,tCall,rIxL,rI0,List.map,List.replicate,List.length,List.append,jqa,jqb,jqc,jqd,jqe,jqf,jqg,jqh,jqi,jqj,jqk,jql,jqm,jqn,and_true,true_and,and_assoc,jqo,jqp,jqq,Nat.reduceSub,Nat.reduceAdd,jqr,jqs,jqt,Int.reduceToNat,Int.reducePow,Int.reduceNeg,Int.reduceMul,Int.reduceAdd,if_true,ite_true,jqu,ite_false,if_false]
  refine ite2 (fun c=>⟨woI a p l b i f H (v - 1),fun σ' H' z=>⟨v - 1,by omega,z⟩,?_⟩) fun c=>?_
  · have m1:((m - 1:Nat):Int)=(m:Int) - 1:=by omega
    have nx:∀ H2,Same H H2→woI a p l b i f H (v - 1) [some (.ref a),some (.ref p),some (.ref l),some (.bl b),some (.int (i:Nat)),some (.int f),some (.int ((m:Int) - 1))] H2:=fun H2 s2=>⟨m - 1,by rw [← m1];rfl,s2,by omega,by omega,by omega⟩
    refine ite2 (fun _=>?_) fun _=>nx H1 s1
    have q1:=nat_at (os:=os) (k:=m - 1) (by omega)
    have g1:=h1.same s1
    have hj:os.getD (m - 1) 0 < P.length:=by
      have:=List.mem_range.mp (pm.mem_iff.mp (getD_mem (os:=os) (k:=m - 1) (by omega)))
      omega
    obtain ⟨xs,v1,x1,x2,x3,x4,_⟩:=g1.get hj
    obtain ⟨xs',v2,y1,y2,y3,y4,_⟩:=g1.get hi
    refine ⟨_,SqL.of (s1 _ _ h2),_,by rw [← m1];exact atI_nat q1,_,_,rfl,SqL.of x1,_,x2,_,SqL.of y1,_,y2,?_⟩
    refine ⟨_,_,_,_,rfl,x3,y3,x4,y4,fun H2 s2=>⟨_,rfl,?_⟩⟩
    cases metB (pAt P (os.getD (m - 1) 0)) (pAt P i) with
    | true =>
      rw [if_pos rfl]
      exact fin H2 (s1.trans s2)
    | false =>
      rw [if_neg (by decide)]
      exact nx H2 (s1.trans s2)
  · have:=fin H1 s1
    simp only [odS,r_mt_insert,L2.start,tSeq,tAsg,gName,tDrop,tNext,tOp,tVar,tC,tCons,tNil,tIfS,tAnd,tTest,tB,tBM,tyV,tCall,rIxL,rI0,List.map,List.replicate,List.length,List.append,jqa,jqb,jqc,jqd,jqe,jqf,jqg,jqh,jqi,jqj,jqk,jql,jqm,jqn,and_true,true_and,and_assoc,jqo,jqp,jqq,Nat.reduceSub,Nat.reduceAdd,jqr,jqs,jqt,Int.reduceToNat,Int.reducePow,Int.reduceNeg,Int.reduceMul,Int.reduceAdd,if_true,ite_true,jqu,ite_false,if_false] at this
    exact this
theorem ins_perm {m:Nat} (pm:os.Perm (List.range i)):(os.take m ++ i :: os.drop m).Perm (List.range (i + 1)):=by
  refine (List.perm_middle).trans ?_
  rw [List.take_append_drop,List.range_succ]
  exact (List.Perm.cons i pm).trans (List.perm_append_singleton i (List.range i)).symm
theorem rdp_orderB {D:Ends} {o5 o6:Option V} (hS:SqL K H a (ns.map V.int)) (hn:ns.length≤63) (h1:PpsAt H p P) (hi:i < P.length) (h2:H l=some (.lst (os.map natV))) (pm:os.Perm (List.range i)) (q:∀ H' m o4 o5 o6,Same H H'→m≤i→D.nx (odS a p l b o4 o5 o6) (upd H' l (.lst ((os.take m ++ i :: os.drop m).map natV)))) :
    rd__law_order_B K t D (odS a p l b (some (.int (i:Nat))) o5 o6) H:=by
  simp only [rd__law_order_B,odS,sp__law_cell_at,sp__law_draw,r_mt_insert,L2.start,tSeq,tAsg,gName,tDrop,tNext,tOp,tVar,tC,tCons,tNil,tIfS,tAnd,tNot,tTest,tB,tBM,tyV,tCall,rIxL,rEq,rI,rI0,scal,List.map,List.replicate,List.length,List.append,jqa,jqb,jqc,jqd,jqe,jqf,jqg,jqh,jqi,jqj,jqk,jql,jqm,jqn,and_true,true_and,and_assoc,jqo,jqp,jqq,Nat.reduceSub,Nat.reduceAdd,jqr,jqs,jqt,Int.reduceToNat,Int.reducePow,Int.reduceNeg,Int.reduceMul,Int.reduceAdd,if_true,ite_true,jqu,ite_false,if_false]
  refine ⟨ns,i,rfl,hS,hn,fun c1 H1 s1=>⟨by decide,by decide,fun r H2 g1 g2 s2=>⟨by omega,?_⟩⟩⟩
  have e1:=Int.emod_nonneg r (b:=1 + (i:Int)) (by omega)
  have e2:=Int.emod_lt_of_pos r (b:=1 + (i:Int)) (by omega)
  generalize r % (1 + (i:Int))=f at *
  have S2:=s1.trans s2
  have go:∀ (f:Int) H3,Same H H3→0≤f→f≤i→rd__law_order_W K t D [some (.ref a),some (.ref p),some (.ref l),some (.bl b),some (.int (i:Nat)),some (.int f),some (.int (i:Nat))] H3:=fun f H3 s3 f0 fi =>
    rdp_orderW (h1.same s3) hi (s3 _ _ h2) pm f0 fi fun H4 m o4 o5 o6 s4 hm=>q H4 m o4 o5 o6 (s3.trans s4) hm
  refine ite2 (fun _=>⟨ns,3,rfl,hS.mono S2,hn,fun c2 H3 s3=>⟨by decide,by decide,fun r2 H4 _ _ s4=>⟨by decide,ite2 (fun _=>⟨by decide,?_⟩) fun _=>go f H4 (S2.trans (s3.trans s4)) e1 (by omega)⟩⟩⟩) fun _=>go f H2 S2 e1 (by omega)
  exact go (f % 2) H4 (S2.trans (s3.trans s4)) (by omega) (by omega)
def odI (a p l:Addr) (b:Bool) (H0:Hp) (i:Nat) (σ:St) (H:Hp):Prop:=∃ os:List Nat,(∃ o4 o5 o6,σ=odS a p l b o4 o5 o6)∧Same H0 H∧H l=some (.lst (os.map natV))∧os.Perm (List.range i)
theorem rdp__law_order (hS:SqL K H a (ns.map V.int)) (hn:ns.length≤63) (h1:PpsAt H p P) (h2:P.length≤40) (q:∀ (l:Addr) (os:List Nat) (H':Hp),Same H H'→H l=none→H' l=some (.lst (os.map natV))→os.Perm (List.range P.length)→Q (.ref l) H') :
    rd__law_order K t { nx:=fun _ H'=>Q .non H',rt:=Q } (L2.start ["script","papers","order","stay","rank","far","at"] [.ref a,.ref p]) H:=by
  simp only [rd__law_order,rd__law_order_2,sp__law_cell_at,sp__law_draw,r_mt_insert,L2.start,tSeq,tAsg,gName,tRet,tDrop,tNext,tOp,tVar,tC,tLst,tCons,tNil,tFor,tIfS,tAnd,tNot,tTest,tB,tCB,tBM,tyV,tCall,LenV,iRng1,rIxL,rEq,rI,rI0,cLen,scal,List.map,List.replicate,List.length,List.append,jqa,jqb,jqc,jqd,jqe,jqf,jqg,jqh,jqi,jqj,jqk,jql,jqm,jqn,and_true,true_and,and_assoc,jqo,jqp,jqq,Nat.reduceSub,Nat.reduceAdd,jqr,jqs,jqt,Int.reduceToNat,Int.reducePow,Int.reduceNeg,Int.reduceMul,Int.reduceAdd,if_true,ite_true,jqu,ite_false,if_false]
  refine ⟨by decide,fun l hl=>?_⟩
  have s0:=isV (o:=HO.lst []) l hl
  have e0:upd H l (HO.lst []) l=some (.lst []):=upd_same
  generalize upd H l (HO.lst [])=H0 at *
  obtain ⟨⟨xs,hx,px⟩,_,_⟩:=id h1
  have lx:=Paired.length px
  refine ⟨ns,2,rfl,hS.mono s0,hn,fun c1 H1 s1=>⟨by decide,by decide,fun r H2 _ _ s2=>⟨by decide,?_⟩⟩⟩
  have S2:=s0.trans (s1.trans s2)
  generalize decide (r % 3=0)=b
  refine ⟨P.length,.inl ⟨_,SqL.of (S2 _ _ hx),lx.symm⟩,by omega,by omega,loop_range (odI a p l b H) ⟨[],⟨_,_,_,rfl⟩,S2,(s1.trans s2) _ _ e0,List.Perm.refl _⟩ ?_ ?_⟩
  · rintro i σ H3 hi ⟨os,⟨o4,o5,o6,rfl⟩,s3,e3,pm⟩
    simp only [odS,r_mt_insert,L2.start,tSeq,tAsg,gName,tRet,tDrop,tNext,tOp,tVar,tC,tLst,tCons,tNil,tFor,tIfS,tAnd,tNot,tTest,tB,tCB,tBM,tyV,tCall,LenV,iRng1,rIxL,rEq,rI,rI0,cLen,scal,List.map,List.replicate,List.length,List.append,jqa,jqb,jqc,jqd,jqe,jqf,jqg,jqh,jqi,jqj,jqk,jql,jqm,jqn,and_true,true_and,and_assoc,jqo,jqp,jqq,Nat.reduceSub,Nat.reduceAdd,jqr,jqs,jqt,Int.reduceToNat,Int.reducePow,Int.reduceNeg,Int.reduceMul,Int.reduceAdd,if_true,ite_true,jqu,ite_false,if_false,Int.zero_add]
    exact rdp_orderB (hS.mono s3) hn (h1.same s3) (by omega) e3 pm fun H4 m o4 o5 o6 s4 hm=>⟨_,⟨_,_,_,rfl⟩,same_upd (s3.trans s4) hl,upd_same,ins_perm pm⟩
  · rintro σ H3 ⟨os,⟨o4,o5,o6,rfl⟩,s3,e3,pm⟩
    simp only [odS,r_mt_insert,L2.start,tSeq,tAsg,gName,tRet,tDrop,tNext,tOp,tVar,tC,tLst,tCons,tNil,tFor,tIfS,tAnd,tNot,tTest,tB,tCB,tBM,tyV,tCall,LenV,iRng1,rIxL,rEq,rI,rI0,cLen,scal,List.map,List.replicate,List.length,List.append,jqa,jqb,jqc,jqd,jqe,jqf,jqg,jqh,jqi,jqj,jqk,jql,jqm,jqn,and_true,true_and,and_assoc,jqo,jqp,jqq,Nat.reduceSub,Nat.reduceAdd,jqr,jqs,jqt,Int.reduceToNat,Int.reducePow,Int.reduceNeg,Int.reduceMul,Int.reduceAdd,if_true,ite_true,jqu,ite_false,if_false]
    exact q l os H3 s3 hl e3 (by simpa using pm)
end
theorem cut_drop (xs:List V) (n:Nat):cutV xs (some (n:Int)) none=xs.drop n:=by
  unfold cutV
  rw [HT.sIx_none,HT.sIx_nat]
  by_cases c:n≤xs.length
  · rw [Nat.min_eq_left c]
    exact List.take_of_length_le (by rw [List.length_drop];exact Nat.le_refl _)
  · rw [Nat.min_eq_right (by omega),List.drop_of_length_le (Nat.le_refl _),List.drop_of_length_le (by omega),List.take_nil]
def cI (os:List Nat):List Int:=os.map fun (i:Nat)=>(i:Int)
theorem not_len {n:Nat} {ns:List Int} (h:ns.length≠n):¬ ordB n ns:=fun o=>h (by have:=o.length_eq;rw [List.length_map,List.length_range] at this;exact this)
theorem not_mem {n:Nat} {ns:List Int} {x:Int} (hx:x∈ns) (h:x < 0∨(n:Int)≤x):¬ ordB n ns:=fun o=>by
  have:=o.mem_iff.mp hx
  obtain ⟨k,hk,e⟩:=List.mem_map.mp this
  have:=List.mem_range.mp hk
  omega
theorem not_has {n k:Nat} {ns:List Int} (hk:k < n) (h:(k:Int) ∉ ns):¬ ordB n ns:=fun o=>h (o.mem_iff.mpr (List.mem_map.mpr ⟨k,List.mem_range.mpr hk,rfl⟩))
theorem log_c {os:List Nat} {n:Nat} (pm:os.Perm (List.range n)) (hn:n≤40):∀ i∈cI os,i.natAbs.log2 < 1920:=fun i hi=>by
  obtain ⟨k,hk,e⟩:=List.mem_map.mp hi
  have:=List.mem_range.mp (pm.mem_iff.mp hk)
  have e2:i.natAbs=k:=by omega
  rw [e2]
  have:=Nat.log2_le_self k
  omega
theorem c_take (os:List Nat) (m:Nat):(os.map natV).take m=((cI os).take m).map V.int:=by rw [nat_lst,List.map_take];rfl
theorem c_drop (os:List Nat) (m:Nat):(os.map natV).drop m=((cI os).drop m).map V.int:=by rw [nat_lst,List.map_drop];rfl
section
variable {c:Int} {l:Addr} {os:List Nat} {n:Nat} {a5:Int}
theorem rdp_noneE {nx0:St→Hp→Prop} {m:Nat} {x:Int} {o4 o5 o6 o7:Option V} (h1:H l=some (.lst (os.map natV))) (le:os.length≤50) (q:∀ l' H',Same H H'→H' l'=some (.lst (((cI os).take m ++ [x] ++ (cI os).drop m).map V.int))→Q (.ref l') H') :
    rd__law_none_E K t { nx:=nx0,rt:=Q } [some (.int c),some (.ref l),some (.int (n:Nat)),some (.int (m:Nat)),o4,some (.int x),o6,o7] H:=by
  simp only [rd__law_none_E,rCat,L2.start,tRet,tOp,tVar,tLst,tCons,tNil,tSl,tPart,tNoPart,rCat,rSlL,List.map,List.replicate,List.length,List.append,jqa,jqb,jqc,jqd,jqe,jqf,jqg,jqh,jqi,jqj,jqk,jql,jqm,jqn,and_true,true_and,and_assoc,jqo,jqp,jqq,Nat.reduceSub,Nat.reduceAdd,jqr,jqs,jqt,Int.reduceToNat,Int.reducePow,Int.reduceNeg,Int.reduceMul,Int.reduceAdd,if_true,ite_true,jqu,ite_false,if_false]
  have lm:(os.map natV).length=os.length:=List.length_map ..
  refine ⟨_,SqL.of h1,fun p1 hp1=>?_⟩
  rw [cut_take]
  have s1:=isV (o:=HO.lst ((os.map natV).take m)) p1 hp1
  have e1:upd H p1 (HO.lst ((os.map natV).take m)) p1=some (.lst ((os.map natV).take m)):=upd_same
  generalize upd H p1 (HO.lst ((os.map natV).take m))=H1 at *
  refine ⟨by decide,fun p2 hp2=>?_⟩
  have s2:=isV (o:=HO.lst [V.int x]) p2 hp2
  have e2:upd H1 p2 (HO.lst [V.int x]) p2=some (.lst [V.int x]):=upd_same
  generalize upd H1 p2 (HO.lst [V.int x])=H2 at *
  have l1:((os.map natV).take m).length≤50:=by rw [List.length_take];omega
  have l2:((os.map natV).drop m).length≤50:=by rw [List.length_drop];omega
  refine ⟨_,s2 _ _ e1,_,e2,Nat.le_trans (by show ((os.map natV).take m).length + 1≤100;omega) (by decide),fun p3 hp3=>?_⟩
  have s3:=isV (o:=HO.lst ((os.map natV).take m ++ [V.int x])) p3 hp3
  have e3:upd H2 p3 (HO.lst ((os.map natV).take m ++ [V.int x])) p3=some (.lst ((os.map natV).take m ++ [V.int x])):=upd_same
  generalize upd H2 p3 (HO.lst ((os.map natV).take m ++ [V.int x]))=H3 at *
  have S3:=s1.trans (s2.trans s3)
  refine ⟨_,SqL.of (S3 _ _ h1),fun p4 hp4=>?_⟩
  rw [cut_drop]
  have s4:=isV (o:=HO.lst ((os.map natV).drop m)) p4 hp4
  have e4:upd H3 p4 (HO.lst ((os.map natV).drop m)) p4=some (.lst ((os.map natV).drop m)):=upd_same
  generalize upd H3 p4 (HO.lst ((os.map natV).drop m))=H4 at *
  refine ⟨_,s4 _ _ e3,_,e4,Nat.le_trans (by rw [List.length_append];show ((os.map natV).take m).length + 1 + _≤200;omega) (by decide),fun p5 hp5=>?_⟩
  refine q p5 _ (S3.trans (s4.trans (isV p5 hp5))) ?_
  rw [upd_same,c_take,c_drop,List.map_append,List.map_append]
  rfl
theorem rdp_noneB {nx0:St→Hp→Prop} {m:Nat} {x:Int} {o4 o5 o6 o7:Option V} (h1:H l=some (.lst (os.map natV))) (le:os.length≤50) (q:∀ l' H',Same H H'→H' l'=some (.lst (((cI os).take m ++ [x] ++ (cI os).drop (m + 1)).map V.int))→Q (.ref l') H') :
    rd__law_none_B K t { nx:=nx0,rt:=Q } [some (.int c),some (.ref l),some (.int (n:Nat)),some (.int (m:Nat)),o4,some (.int x),o6,o7] H:=by
  simp only [rd__law_none_B,rCat,L2.start,tRet,tOp,tVar,tC,tLst,tCons,tNil,tSl,tPart,tNoPart,rCat,rI0,rSlL,List.map,List.replicate,List.length,List.append,jqa,jqb,jqc,jqd,jqe,jqf,jqg,jqh,jqi,jqj,jqk,jql,jqm,jqn,and_true,true_and,and_assoc,jqo,jqp,jqq,Nat.reduceSub,Nat.reduceAdd,jqr,jqs,jqt,Int.reduceToNat,Int.reducePow,Int.reduceNeg,Int.reduceMul,Int.reduceAdd,if_true,ite_true,jqu,ite_false,if_false]
  rw [show ((m:Int) + 1)=((m + 1:Nat):Int) by omega]
  have lm:(os.map natV).length=os.length:=List.length_map ..
  refine ⟨_,SqL.of h1,fun p1 hp1=>?_⟩
  rw [cut_take]
  have s1:=isV (o:=HO.lst ((os.map natV).take m)) p1 hp1
  have e1:upd H p1 (HO.lst ((os.map natV).take m)) p1=some (.lst ((os.map natV).take m)):=upd_same
  generalize upd H p1 (HO.lst ((os.map natV).take m))=H1 at *
  refine ⟨by decide,fun p2 hp2=>?_⟩
  have s2:=isV (o:=HO.lst [V.int x]) p2 hp2
  have e2:upd H1 p2 (HO.lst [V.int x]) p2=some (.lst [V.int x]):=upd_same
  generalize upd H1 p2 (HO.lst [V.int x])=H2 at *
  have l1:((os.map natV).take m).length≤50:=by rw [List.length_take];omega
  have l2:((os.map natV).drop (m + 1)).length≤50:=by rw [List.length_drop];omega
  refine ⟨_,s2 _ _ e1,_,e2,Nat.le_trans (by show ((os.map natV).take m).length + 1≤100;omega) (by decide),fun p3 hp3=>?_⟩
  have s3:=isV (o:=HO.lst ((os.map natV).take m ++ [V.int x])) p3 hp3
  have e3:upd H2 p3 (HO.lst ((os.map natV).take m ++ [V.int x])) p3=some (.lst ((os.map natV).take m ++ [V.int x])):=upd_same
  generalize upd H2 p3 (HO.lst ((os.map natV).take m ++ [V.int x]))=H3 at *
  have S3:=s1.trans (s2.trans s3)
  refine ⟨_,SqL.of (S3 _ _ h1),fun p4 hp4=>?_⟩
  rw [cut_drop]
  have s4:=isV (o:=HO.lst ((os.map natV).drop (m + 1))) p4 hp4
  have e4:upd H3 p4 (HO.lst ((os.map natV).drop (m + 1))) p4=some (.lst ((os.map natV).drop (m + 1))):=upd_same
  generalize upd H3 p4 (HO.lst ((os.map natV).drop (m + 1)))=H4 at *
  refine ⟨_,s4 _ _ e3,_,e4,Nat.le_trans (by rw [List.length_append];show ((os.map natV).take m).length + 1 + _≤200;omega) (by decide),fun p5 hp5=>?_⟩
  refine q p5 _ (S3.trans (s4.trans (isV p5 hp5))) ?_
  rw [upd_same,c_take,c_drop,List.map_append,List.map_append]
  rfl
theorem rdp_noneC {nx0:St→Hp→Prop} {m:Nat} {x:Int} {o4 o5 o6 o7:Option V} (h1:H l=some (.lst (os.map natV))) (le:os.length≤50) (q:∀ l' H',Same H H'→H' l'=some (.lst (((cI os).take m ++ [x] ++ (cI os).drop (m + 1)).map V.int))→Q (.ref l') H') :
    rd__law_none_C K t { nx:=nx0,rt:=Q } [some (.int c),some (.ref l),some (.int (n:Nat)),some (.int (m:Nat)),o4,o5,o6,some (.int x)] H:=by
  simp only [rd__law_none_C,rCat,L2.start,tRet,tOp,tVar,tC,tLst,tCons,tNil,tSl,tPart,tNoPart,rCat,rI0,rSlL,List.map,List.replicate,List.length,List.append,jqa,jqb,jqc,jqd,jqe,jqf,jqg,jqh,jqi,jqj,jqk,jql,jqm,jqn,and_true,true_and,and_assoc,jqo,jqp,jqq,Nat.reduceSub,Nat.reduceAdd,jqr,jqs,jqt,Int.reduceToNat,Int.reducePow,Int.reduceNeg,Int.reduceMul,Int.reduceAdd,if_true,ite_true,jqu,ite_false,if_false]
  rw [show ((m:Int) + 1)=((m + 1:Nat):Int) by omega]
  have lm:(os.map natV).length=os.length:=List.length_map ..
  refine ⟨_,SqL.of h1,fun p1 hp1=>?_⟩
  rw [cut_take]
  have s1:=isV (o:=HO.lst ((os.map natV).take m)) p1 hp1
  have e1:upd H p1 (HO.lst ((os.map natV).take m)) p1=some (.lst ((os.map natV).take m)):=upd_same
  generalize upd H p1 (HO.lst ((os.map natV).take m))=H1 at *
  refine ⟨by decide,fun p2 hp2=>?_⟩
  have s2:=isV (o:=HO.lst [V.int x]) p2 hp2
  have e2:upd H1 p2 (HO.lst [V.int x]) p2=some (.lst [V.int x]):=upd_same
  generalize upd H1 p2 (HO.lst [V.int x])=H2 at *
  have l1:((os.map natV).take m).length≤50:=by rw [List.length_take];omega
  have l2:((os.map natV).drop (m + 1)).length≤50:=by rw [List.length_drop];omega
  refine ⟨_,s2 _ _ e1,_,e2,Nat.le_trans (by show ((os.map natV).take m).length + 1≤100;omega) (by decide),fun p3 hp3=>?_⟩
  have s3:=isV (o:=HO.lst ((os.map natV).take m ++ [V.int x])) p3 hp3
  have e3:upd H2 p3 (HO.lst ((os.map natV).take m ++ [V.int x])) p3=some (.lst ((os.map natV).take m ++ [V.int x])):=upd_same
  generalize upd H2 p3 (HO.lst ((os.map natV).take m ++ [V.int x]))=H3 at *
  have S3:=s1.trans (s2.trans s3)
  refine ⟨_,SqL.of (S3 _ _ h1),fun p4 hp4=>?_⟩
  rw [cut_drop]
  have s4:=isV (o:=HO.lst ((os.map natV).drop (m + 1))) p4 hp4
  have e4:upd H3 p4 (HO.lst ((os.map natV).drop (m + 1))) p4=some (.lst ((os.map natV).drop (m + 1))):=upd_same
  generalize upd H3 p4 (HO.lst ((os.map natV).drop (m + 1)))=H4 at *
  refine ⟨_,s4 _ _ e3,_,e4,Nat.le_trans (by rw [List.length_append];show ((os.map natV).take m).length + 1 + _≤200;omega) (by decide),fun p5 hp5=>?_⟩
  refine q p5 _ (S3.trans (s4.trans (isV p5 hp5))) ?_
  rw [upd_same,c_take,c_drop,List.map_append,List.map_append]
  rfl
theorem rdp_noneA {nx0:St→Hp→Prop} {m:Nat} {o4 o5 o6 o7:Option V} (h1:H l=some (.lst (os.map natV))) (le:os.length≤50) (q:∀ l' H',Same H H'→H' l'=some (.lst (((cI os).take m ++ (cI os).drop (m + 1)).map V.int))→Q (.ref l') H') :
    rd__law_none_A K t { nx:=nx0,rt:=Q } [some (.int c),some (.ref l),some (.int (n:Nat)),some (.int (m:Nat)),o4,o5,o6,o7] H:=by
  simp only [rd__law_none_A,rCat,L2.start,tRet,tOp,tVar,tC,tSl,tPart,tNoPart,rCat,rI0,rSlL,List.map,List.replicate,List.length,List.append,jqa,jqb,jqc,jqd,jqe,jqf,jqg,jqh,jqi,jqj,jqk,jql,jqm,jqn,and_true,true_and,and_assoc,jqo,jqp,jqq,Nat.reduceSub,Nat.reduceAdd,jqr,jqs,jqt,Int.reduceToNat,Int.reducePow,Int.reduceNeg,Int.reduceMul,Int.reduceAdd,if_true,ite_true,jqu,ite_false,if_false]
  rw [show ((m:Int) + 1)=((m + 1:Nat):Int) by omega]
  have lm:(os.map natV).length=os.length:=List.length_map ..
  refine ⟨_,SqL.of h1,fun p1 hp1=>?_⟩
  rw [cut_take]
  have s1:=isV (o:=HO.lst ((os.map natV).take m)) p1 hp1
  have e1:upd H p1 (HO.lst ((os.map natV).take m)) p1=some (.lst ((os.map natV).take m)):=upd_same
  generalize upd H p1 (HO.lst ((os.map natV).take m))=H1 at *
  have l1:((os.map natV).take m).length≤50:=by rw [List.length_take];omega
  have l2:((os.map natV).drop (m + 1)).length≤50:=by rw [List.length_drop];omega
  refine ⟨_,SqL.of (s1 _ _ h1),fun p4 hp4=>?_⟩
  rw [cut_drop]
  have s4:=isV (o:=HO.lst ((os.map natV).drop (m + 1))) p4 hp4
  have e4:upd H1 p4 (HO.lst ((os.map natV).drop (m + 1))) p4=some (.lst ((os.map natV).drop (m + 1))):=upd_same
  generalize upd H1 p4 (HO.lst ((os.map natV).drop (m + 1)))=H4 at *
  refine ⟨_,s4 _ _ e1,_,e4,Nat.le_trans (by omega:_≤200) (by decide),fun p5 hp5=>?_⟩
  refine q p5 _ (s1.trans (s4.trans (isV p5 hp5))) ?_
  rw [upd_same,c_take,c_drop,List.map_append]
theorem rdp_noneG {nx0:St→Hp→Prop} {x:Int} {o2 o3 o4 o5 o6:Option V} (h1:H l=some (.lst (os.map natV))) (le:os.length≤50) (q:∀ l' H',Same H H'→H' l'=some (.lst ((cI os ++ [x]).map V.int))→Q (.ref l') H') :
    rd__law_none_G K t { nx:=nx0,rt:=Q } [some (.int c),some (.ref l),o2,o3,o4,o5,o6,some (.int x)] H:=by
  simp only [rd__law_none_G,rCat,L2.start,tRet,tOp,tVar,tLst,tCons,tNil,rCat,List.map,List.replicate,List.length,List.append,jqa,jqb,jqc,jqd,jqe,jqf,jqg,jqh,jqi,jqj,jqk,jql,jqm,jqn,and_true,true_and,and_assoc,jqo,jqp,jqq,Nat.reduceSub,Nat.reduceAdd,jqr,jqs,jqt,Int.reduceToNat,Int.reducePow,Int.reduceNeg,Int.reduceMul,Int.reduceAdd,if_true,ite_true,jqu,ite_false,if_false]
  have lm:(os.map natV).length=os.length:=List.length_map ..
  refine ⟨by decide,fun p1 hp1=>?_⟩
  have s1:=isV (o:=HO.lst [V.int x]) p1 hp1
  refine ⟨_,s1 _ _ h1,_,upd_same,Nat.le_trans (by show (os.map natV).length + 1≤100;omega) (by decide),fun p2 hp2=>?_⟩
  refine q p2 _ (s1.trans (isV p2 hp2)) ?_
  rw [upd_same,nat_lst,List.map_append]
  rfl
end
theorem len_mid {A B:List Int} {x:Int} {m k n:Nat} (hA:A.length=n) (hB:B.length=n) (hm:m≤n) (hk:k≤n):(A.take m ++ [x] ++ B.drop k).length=m + 1 + (n - k):=by
  rw [List.length_append,List.length_append,List.length_take,List.length_drop,List.length_singleton];omega
theorem nd_mid {A:List Int} {m:Nat} {c x:Int} (nd:A.Nodup) (hc:A[m]?=some c) (hx:x≠c):c ∉ A.take m ++ [x] ++ A.drop (m + 1):=by
  have hm:=(List.getElem?_eq_some_iff.mp hc).1
  have e:A=A.take m ++ (c :: A.drop (m + 1)):=by
    have h:=List.drop_eq_getElem_cons hm
    rw [(List.getElem?_eq_some_iff.mp hc).2] at h
    rw [← h,List.take_append_drop]
  have nd2:=nd
  rw [e,List.nodup_append] at nd2
  obtain ⟨_,n2,n3⟩:=nd2
  rw [List.nodup_cons] at n2
  intro z
  rcases List.mem_append.mp z with z | z
  · rcases List.mem_append.mp z with z | z
    · exact n3 c z c (List.mem_cons_self ..) rfl
    · exact hx (List.mem_singleton.mp z).symm
  · exact n2.1 z
section
variable {c:Int} {l:Addr} {os:List Nat} {n:Nat}
theorem rdp_none7 {o4 o7:Option V} {way other at_:Int} (h1:H l=some (.lst (os.map natV))) (pm:os.Perm (List.range n)) (hn:n≤40) (h0:0 < n) (oth:other < 0∨(n:Int)≤other) (ol:other.natAbs.log2 < 1920) (q:∀ (l':Addr) (ns:List Int) (H':Hp),Same H H'→H' l'=some (.lst (ns.map V.int))→ns.length≤n + 1→(∀ i∈ns,i.natAbs.log2 < 1920)→¬ ordB n ns→Q (.ref l') H') :
    rd__law_none_7 K t { nx:=fun _ H'=>Q .non H',rt:=Q } [some (.int c),some (.ref l),some (.int (n:Nat)),some (.int at_),o4,some (.int other),some (.int way),o7] H:=by
  simp only [rd__law_none_7,sp__law_draw,rCat,L2.start,tSeq,tAsg,gName,tRet,tNext,tOp,tVar,tC,tLst,tCons,tNil,tIfS,tTest,tSl,tPart,tNoPart,tCall,rCat,rIxL,rEq,rI,rI0,rSlL,scal,List.map,List.replicate,List.length,List.append,jqa,jqb,jqc,jqd,jqe,jqf,jqg,jqh,jqi,jqj,jqk,jql,jqm,jqn,and_true,true_and,and_assoc,jqo,jqp,jqq,Nat.reduceSub,Nat.reduceAdd,jqr,jqs,jqt,Int.reduceToNat,Int.reducePow,Int.reduceNeg,Int.reduceMul,Int.reduceAdd,if_true,ite_true,jqu,ite_false,if_false]
  have e1:=Int.emod_nonneg at_ (b:=n) (by omega)
  have e2:=Int.emod_lt_of_pos at_ (b:=n) (by omega)
  obtain ⟨m,em⟩:∃ m:Nat,at_ % (n:Int)=m:=⟨(at_ % (n:Int)).toNat,(Int.toNat_of_nonneg e1).symm⟩
  rw [em] at e2 ⊢
  have hm:m < n:=by omega
  have lo:os.length=n:=by have:=pm.length_eq;rw [List.length_range] at this;exact this
  have lc:(cI os).length=n:=by unfold cI;rw [List.length_map,lo]
  have lg:=log_c pm hn
  have ndI:(cI os).Nodup:=(List.Perm.nodup_iff (ord_of pm)).mpr (rg_nd n)
  have lgm:∀ {x:Int} {k:Nat},x.natAbs.log2 < 1920→∀ i∈(cI os).take m ++ [x] ++ (cI os).drop k,i.natAbs.log2 < 1920:=fun {x k} hx i hi=>by
    rcases List.mem_append.mp hi with hi | hi
    · rcases List.mem_append.mp hi with hi | hi
      · exact lg i (List.mem_of_mem_take hi)
      · rw [List.mem_singleton.mp hi];exact hx
    · exact lg i (List.mem_of_mem_drop hi)
  refine ⟨by omega,ite2 (fun w1=>?_) fun w1=>ite2 (fun w2=>?_) fun w2=>⟨by decide,by decide,fun r H1 g1 g2 s1=>⟨by omega,?_⟩⟩⟩
  · refine rdp_noneA h1 (by omega) fun l' H' s e=>q l' _ H' s e ?_ (fun i hi=>?_) (not_len ?_)
    · rw [List.length_append,List.length_take,List.length_drop];omega
    · rcases List.mem_append.mp hi with hi | hi
      · exact lg i (List.mem_of_mem_take hi)
      · exact lg i (List.mem_of_mem_drop hi)
    · rw [List.length_append,List.length_take,List.length_drop];omega
  · refine rdp_noneB (o5:=none) h1 (by omega) fun l' H' s e=>q l' _ H' s e ?_ (lgm ol) (not_mem (x:=other) (by simp) oth)
    rw [len_mid lc lc (by omega) (by omega)];omega
  · have f1:=Int.emod_nonneg r (b:=n) (by omega)
    have f2:=Int.emod_lt_of_pos r (b:=n) (by omega)
    obtain ⟨j,ej⟩:∃ j:Nat,r % (n:Int)=j:=⟨(r % (n:Int)).toNat,(Int.toNat_of_nonneg f1).symm⟩
    rw [ej] at f2 ⊢
    have qj:=nat_at (os:=os) (k:=j) (by omega)
    have qm:=nat_at (os:=os) (k:=m) (by omega)
    have hl:=s1 _ _ h1
    have xl:((os.getD j 0:Nat):Int).natAbs.log2 < 1920:=lg _ (List.mem_map_of_mem (getD_mem (os:=os) (k:=j) (by omega)))
    refine ⟨_,SqL.of hl,_,atI_nat qj,_,SqL.of hl,_,atI_nat qm,rfl,ite2 (fun c=>?_) fun c=>?_⟩
    · refine rdp_noneG hl (by omega) fun l' H' s e=>q l' _ H' (s1.trans s) e ?_ (fun i hi=>?_) (not_len ?_)
      · rw [List.length_append,lc];exact Nat.le_refl _
      · rcases List.mem_append.mp hi with hi | hi
        · exact lg i hi
        · rw [List.mem_singleton.mp hi];exact xl
      · rw [List.length_append,lc,List.length_singleton];omega
    · refine rdp_noneC (o7:=none) hl (by omega) fun l' H' s e=>q l' _ H' (s1.trans s) e ?_ (lgm xl) ?_
      · rw [len_mid lc lc (by omega) (by omega)];omega
      · have hc:(cI os)[m]?=some ((os.getD m 0:Nat):Int):=by
          unfold cI
          rw [List.getElem?_map,List.getElem?_eq_getElem (by omega),List.getD_eq_getElem?_getD,List.getElem?_eq_getElem (by omega)];rfl
        have hr:=List.mem_range.mp (pm.mem_iff.mp (getD_mem (os:=os) (k:=m) (by omega)))
        exact not_has hr (nd_mid ndI hc (fun z=>c (by rw [z])))
theorem rdp_none5 {o4 o6 o7:Option V} {other:Int} {m:Nat} (h1:H l=some (.lst (os.map natV))) (pm:os.Perm (List.range n)) (hn:n≤40) (hm:m≤n) (oth:other < 0∨(n:Int)≤other) (ol:other.natAbs.log2 < 1920) (q:∀ (l':Addr) (ns:List Int) (H':Hp),Same H H'→H' l'=some (.lst (ns.map V.int))→ns.length≤n + 1→(∀ i∈ns,i.natAbs.log2 < 1920)→¬ ordB n ns→Q (.ref l') H') :
    rd__law_none_5 K t { nx:=fun _ H'=>Q .non H',rt:=Q } [some (.int c),some (.ref l),some (.int (n:Nat)),some (.int (m:Nat)),o4,some (.int other),o6,o7] H:=by
  simp only [rd__law_none_5,sp__law_draw,rCat,L2.start,tSeq,tAsg,gName,tRet,tNext,tOp,tVar,tC,tLst,tCons,tNil,tIfS,tOr,tTest,tSl,tPart,tNoPart,tCall,rCat,rIxL,rEq,rI,rI0,rSlL,scal,List.map,List.replicate,List.length,List.append,jqa,jqb,jqc,jqd,jqe,jqf,jqg,jqh,jqi,jqj,jqk,jql,jqm,jqn,and_true,true_and,and_assoc,jqo,jqp,jqq,Nat.reduceSub,Nat.reduceAdd,jqr,jqs,jqt,Int.reduceToNat,Int.reducePow,Int.reduceNeg,Int.reduceMul,Int.reduceAdd,if_true,ite_true,jqu,ite_false,if_false]
  have lo:os.length=n:=by have:=pm.length_eq;rw [List.length_range] at this;exact this
  have lc:(cI os).length=n:=by unfold cI;rw [List.length_map,lo]
  have lg:=log_c pm hn
  refine ⟨by decide,by decide,fun r H1 g1 g2 s1=>⟨by decide,?_⟩⟩
  have E:rd__law_none_E K t { nx:=rd__law_none_7 K t { nx:=fun _ H'=>Q .non H',rt:=Q },rt:=Q } [some (.int c),some (.ref l),some (.int (n:Nat)),some (.int (m:Nat)),o4,some (.int other),some (.int (r % 4)),o7] H1:=by
    refine rdp_noneE (o5:=none) (s1 _ _ h1) (by omega) fun l' H' s e=>q l' _ H' (s1.trans s) e ?_ (fun i hi=>?_) (not_len ?_)
    · rw [len_mid lc lc hm hm];omega
    · rcases List.mem_append.mp hi with hi | hi
      · rcases List.mem_append.mp hi with hi | hi
        · exact lg i (List.mem_of_mem_take hi)
        · rw [List.mem_singleton.mp hi];exact ol
      · exact lg i (List.mem_of_mem_drop hi)
    · rw [len_mid lc lc hm hm];omega
  refine ite2 (fun _=>E) fun z=>ite2 (fun _=>E) fun _=>?_
  exact rdp_none7 (s1 _ _ h1) pm hn (by omega) oth ol fun l' ns H' s e a1 a2 a3=>q l' ns H' (s1.trans s) e a1 a2 a3
def otV (n:Nat) (v:V):Prop:=∃ x:Int,v=.int x∧(x < 0∨(n:Int)≤x)∧inW x=true
theorem rdp_none3 {o5 o6 o7:Option V} {sl:Addr} {M:List V} {m:Nat} (h1:H l=some (.lst (os.map natV))) (pm:os.Perm (List.range n)) (hn:n≤40) (hm:m≤n) (hs:H sl=some (.lst M)) (lM:M.length=4) (hM:∀ v∈M,otV n v) (q:∀ (l':Addr) (ns:List Int) (H':Hp),Same H H'→H' l'=some (.lst (ns.map V.int))→ns.length≤n + 1→(∀ i∈ns,i.natAbs.log2 < 1920)→¬ ordB n ns→Q (.ref l') H') :
    rd__law_none_3 K t { nx:=fun _ H'=>Q .non H',rt:=Q } [some (.int c),some (.ref l),some (.int (n:Nat)),some (.int (m:Nat)),some (.ref sl),o5,o6,o7] H:=by
  simp only [rd__law_none_3,sp__law_draw,rCat,L2.start,tSeq,tAsg,gName,tRet,tNext,tOp,tVar,tC,tLst,tCons,tNil,tIfS,tOr,tTest,tSl,tPart,tNoPart,tCall,rCat,rIxL,rEq,rI,rI0,rSlL,scal,List.map,List.replicate,List.length,List.append,jqa,jqb,jqc,jqd,jqe,jqf,jqg,jqh,jqi,jqj,jqk,jql,jqm,jqn,and_true,true_and,and_assoc,jqo,jqp,jqq,Nat.reduceSub,Nat.reduceAdd,jqr,jqs,jqt,Int.reduceToNat,Int.reducePow,Int.reduceNeg,Int.reduceMul,Int.reduceAdd,if_true,ite_true,jqu,ite_false,if_false]
  have P29:=pow10 (j:=29) (by decide) (by decide)
  have g1:=Int.emod_nonneg c (b:=100000000000000000000000000000) (by decide)
  have g2:=Int.emod_lt_of_pos c (b:=100000000000000000000000000000) (by decide)
  refine ⟨P29,P29,by decide,P29,by decide,by decide,fun p1 hp1=>?_⟩
  generalize c % 100000000000000000000000000000=d at *
  have s1:=isV (o:=HO.lst [V.int (100000000000000000000000000000 + d),V.int ((n:Int) + d)]) p1 hp1
  have e1:upd H p1 (HO.lst [V.int (100000000000000000000000000000 + d),V.int ((n:Int) + d)]) p1=some (.lst [V.int (100000000000000000000000000000 + d),V.int ((n:Int) + d)]):=upd_same
  generalize upd H p1 (HO.lst [V.int (100000000000000000000000000000 + d),V.int ((n:Int) + d)])=H1 at *
  refine ⟨M,s1 _ _ hs,_,e1,Nat.le_trans (by rw [lM];show 4 + 2≤10;decide:_≤10) (by decide),fun p2 hp2=>⟨by decide,by decide,fun r H3 _ _ s3=>⟨by decide,?_⟩⟩⟩
  have s2:=isV (o:=HO.lst (M ++ [V.int (100000000000000000000000000000 + d),V.int ((n:Int) + d)])) p2 hp2
  have e2:upd H1 p2 (HO.lst (M ++ [V.int (100000000000000000000000000000 + d),V.int ((n:Int) + d)])) p2=some (.lst (M ++ [V.int (100000000000000000000000000000 + d),V.int ((n:Int) + d)])):=upd_same
  generalize upd H1 p2 (HO.lst (M ++ [V.int (100000000000000000000000000000 + d),V.int ((n:Int) + d)]))=H2 at *
  have S:=s1.trans (s2.trans s3)
  obtain ⟨v,hv,mv⟩:=at_mod r 6 (xs:=M ++ [V.int (100000000000000000000000000000 + d),V.int ((n:Int) + d)]) (by rw [List.length_append,lM];rfl) (by decide)
  have ov:otV n v:=by
    rcases List.mem_append.mp mv with mv | mv
    · exact hM v mv
    · simp only [List.mem_cons,List.not_mem_nil,or_false] at mv
      rcases mv with rfl | rfl
      · exact ⟨_,rfl,.inr (by omega),inW_iff.mpr (by omega)⟩
      · exact ⟨_,rfl,.inr (by omega),inW_iff.mpr (by omega)⟩
  obtain ⟨x,rfl,ox,wx⟩:=ov
  refine ⟨_,SqL.of (s3 _ _ e2),_,hv,?_⟩
  exact rdp_none5 (S _ _ h1) pm hn hm ox (log_inW wx) fun l' ns H' s e a1 a2 a3=>q l' ns H' (S.trans s) e a1 a2 a3
theorem rdp__law_none (h1:H l=some (.lst (os.map natV))) (pm:os.Perm (List.range n)) (hn:n≤40) (q:∀ (l':Addr) (ns:List Int) (H':Hp),Same H H'→H' l'=some (.lst (ns.map V.int))→ns.length≤n + 1→(∀ i∈ns,i.natAbs.log2 < 1920)→¬ ordB n ns→Q (.ref l') H') :
    rd__law_none K t { nx:=fun _ H'=>Q .non H',rt:=Q } (L2.start ["cell","order","many","at","some","other","way","rank"] [.int c,.ref l]) H:=by
  simp only [rd__law_none,rd__law_none_2,sp__law_draw,rCat,L2.start,tSeq,tAsg,gName,tRet,tNext,tOp,tUn,tVar,tC,tLst,tCons,tNil,tIfS,tOr,tTest,tCB,tSl,tPart,tNoPart,tCall,LenV,rCat,rIxL,rEq,rI,rI0,rU,rSlL,cLen,scal,List.map,List.replicate,List.length,List.append,jqa,jqb,jqc,jqd,jqe,jqf,jqg,jqh,jqi,jqj,jqk,jql,jqm,jqn,and_true,true_and,and_assoc,jqo,jqp,jqq,Nat.reduceSub,Nat.reduceAdd,jqr,jqs,jqt,Int.reduceToNat,Int.reducePow,Int.reduceNeg,Int.reduceMul,Int.reduceAdd,if_true,ite_true,jqu,ite_false,if_false]
  have lo:os.length=n:=by have:=pm.length_eq;rw [List.length_range] at this;exact this
  have lm:(os.map natV).length=os.length:=List.length_map ..
  refine ⟨n,.inl ⟨_,SqL.of h1,by omega⟩,by decide,by decide,fun r H1 g1 g2 s1=>⟨by omega,?_⟩⟩
  have e1:=Int.emod_nonneg r (b:=(n:Int) + 1) (by omega)
  have e2:=Int.emod_lt_of_pos r (b:=(n:Int) + 1) (by omega)
  obtain ⟨m,em⟩:∃ m:Nat,r % ((n:Int) + 1)=m:=⟨(r % ((n:Int) + 1)).toNat,(Int.toNat_of_nonneg e1).symm⟩
  rw [em] at e2 ⊢
  have P6:=pow10 (j:=6) (by decide) (by decide)
  refine ⟨by decide,by decide,fun r2 H2 _ _ s2=>⟨P6,by decide,by decide,by decide,fun r3 H3 _ _ s3=>⟨by decide,by decide,fun p hp=>?_⟩⟩⟩
  have s4:=isV (o:=HO.lst [V.int (-1),V.int (n:Int),V.int (-1 - r2 % 1000000),V.int ((n:Int) + r3 % 5)]) p hp
  have S:=s1.trans (s2.trans (s3.trans s4))
  refine rdp_none3 (S _ _ h1) pm hn (by omega) upd_same rfl (fun v hv=>?_) fun l' ns H' s e a1 a2 a3=>q l' ns H' (S.trans s) e a1 a2 a3
  simp only [List.mem_cons,List.not_mem_nil,or_false] at hv
  rcases hv with rfl | rfl | rfl | rfl
  · exact ⟨_,rfl,.inl (by decide),by decide +kernel⟩
  · exact ⟨_,rfl,.inr (Int.le_refl _),inW_iff.mpr (by omega)⟩
  · exact ⟨_,rfl,.inl (by omega),inW_iff.mpr (by omega)⟩
  · exact ⟨_,rfl,.inr (by omega),inW_iff.mpr (by omega)⟩
end
theorem svV {H H':Hp} {a:Addr} {o:HO} (e:upd H a o=H') (h:H a=none):Same H H':=e ▸ isV a h
section
variable {p l:Addr} {P:List Pp} {ns:List Int} {mg:Str→Option Value}
theorem rdp__law_refused (T:Txt K mg t) (h1:PpsAt H p P) (h2:H l=some (.lst (ns.map V.int))) (h3:ns.length < 64) (h4:∀ i∈ns,i.natAbs.log2 < 1920) (h5:¬ ordB P.length ns) (q:∀ H',Same H H'→Q (.bl true) H') :
    rd__law_refused K t { nx:=fun _ H'=>Q .non H',rt:=Q } (L2.start ["papers","none","handed","right","other","e"] [.ref p,.ref l]) H:=by
  simp only [rd__law_refused,rd__law_refused_3,sp_keeps,tTry,rEqD,L2.start,cLst,tTry,endT,tDropX,tCallX,cIsx,cIsxT,clsV,tSeq,tAsg,gName,tRet,tOp,tVar,tC,tTup,tCons,tNil,tAndV,tNotV,tCB,List.map,List.replicate,List.length,List.append,jqa,jqb,jqc,jqd,jqe,jqf,jqg,jqh,jqi,jqj,jqk,jql,jqm,jqn,and_true,true_and,and_assoc,jqo,jqp,jqq,Nat.reduceSub,Nat.reduceAdd,jqr,jqs,jqt,Int.reduceToNat,Int.reducePow,Int.reduceNeg,Int.reduceMul,Int.reduceAdd,if_true,ite_true,jqu,ite_false,if_false]
  refine ⟨_,.inl (SqL.of h2),fun hd hhd=>?_⟩
  have s0:=isV (o:=HO.lst (ns.map V.int)) hd hhd
  have e0:upd H hd (HO.lst (ns.map V.int)) hd=some (.lst (ns.map V.int)):=upd_same
  generalize upd H hd (HO.lst (ns.map V.int))=H0 at *
  refine ⟨P,h1.same s0,ns,e0,h3,h4,fun os e pm=>absurd (by rw [e];exact ord_of pm) h5,fun _ H1 s1=>⟨_,rfl,T.y_NoOrder,T.e_NoOrder_ForerunError,fun e he=>?_⟩⟩
  have s2:=isV (o:=exO e t.c_NoOrder) e he
  have he:upd H1 e (exO e t.c_NoOrder) e=some (exO e t.c_NoOrder):=upd_same
  generalize upd H1 e (exO e t.c_NoOrder)=H2 at *
  refine ⟨_,he,T.y_NoOrder,true,T.i_NoOrder_NoOrder,?_⟩
  rw [if_pos rfl]
  refine ⟨_,he,T.y_NoOrder,true,T.i_NoOrder_ValueError,by decide,fun p1 hp1=>?_⟩
  generalize e3:upd H2 p1 _=H3
  have s3:=svV e3 hp1
  have q3:H3 p1=some (HO.tup [V.ref t.c_Folded,V.ref t.c_NoDealing,V.ref t.c_NoHand,V.ref t.c_NoLine,V.ref t.c_NoLog,V.ref t.c_NoNumber,V.ref t.c_NoTerm,V.ref t.c_Great,V.ref t.c_Nought]):=e3 ▸ upd_same
  refine ⟨_,s3 _ _ he,T.y_NoOrder,[t.c_Folded,t.c_NoDealing,t.c_NoHand,t.c_NoLine,t.c_NoLog,t.c_NoNumber,t.c_NoTerm,t.c_Great,t.c_Nought],q3,false,T.j_NoOrder_0,?_⟩
  simp only [endT,rd__law_refused_4,rEqD,L2.start,cLst,tTry,endT,tDropX,tCallX,cIsx,cIsxT,clsV,tSeq,tAsg,gName,tRet,tOp,tVar,tC,tTup,tCons,tNil,tAndV,tNotV,tCB,List.map,List.replicate,List.length,List.append,jqa,jqb,jqc,jqd,jqe,jqf,jqg,jqh,jqi,jqj,jqk,jql,jqm,jqn,and_true,true_and,and_assoc,jqo,jqp,jqq,Nat.reduceSub,Nat.reduceAdd,jqr,jqs,jqt,Int.reduceToNat,Int.reducePow,Int.reduceNeg,Int.reduceMul,Int.reduceAdd,if_true,ite_true,jqu,ite_false,if_false]
  have U:=s1.trans (s2.trans s3)
  exact ⟨_,in_dat (U _ _ e0),_,in_dat ((s0.trans U) _ _ h2),(in_pl _).1,(in_pl _).1,(in_pl _).2,(in_pl _).2,fun b hb=>by rw [hb.mpr rfl];exact q _ (s0.trans U)⟩
end
section
variable {a sh p hd gv:Addr} {P:List Pp} {os:List Nat} {l:Addr} {H0:Hp} {ns:List Int}
theorem os_log {n:Nat} (pm:os.Perm (List.range n)) (hn:n≤40):∀ i∈cI os,i.natAbs.log2 < 1920:=log_c pm hn
theorem up_id {n:Nat} {srt:List Int} (h1:srt.Perm (cI os)) (pm:os.Perm (List.range n)) (up:(cI os).Nodup→srt.Pairwise (· < ·)):srt=rgI n:=up_eq (up ((List.Perm.nodup_iff (ord_of pm)).mpr (rg_nd n))) (rg_up n) (h1.trans (ord_of pm))
theorem cI_inj {a b:List Nat} (h:cI a=(b.map fun (i:Nat)=>(i:Int))):a=b:=(List.map_inj_right fun x y z=>by exact Int.ofNat.inj z).mp h
theorem kp_range (P:List Pp) (n:Nat):kpB P (List.range n)=true:=kp_true fun k hk=>by
  rw [List.length_range] at hk
  rw [bad_hit,List.any_eq_false]
  intro j hj
  have hj:j < k:=by
    obtain ⟨i,hi⟩:=List.getElem?_of_mem hj
    rw [List.getElem?_take] at hi
    split at hi
    · rename_i ik
      rw [List.getElem?_range (by omega)] at hi
      have:=Option.some.inj hi
      omega
    · cases hi
  unfold hitB
  have e:(List.range n).getD k 0=k:=by rw [List.getD_eq_getElem?_getD,List.getElem?_range hk];rfl
  rw [e,decide_eq_false (by omega)]
  simp
theorem rdp_law8 {o8:Option V} {v7:V} (hS:SqL K H a (ns.map V.int)) (hn:ns.length≤63) (hP:PpsAt H hd P) (hP2:PpsAt H p P) (le:P.length≤40) (hl:H l=some (.lst (os.map natV))) (hg:H gv=some (.lst (os.map natV))) (pm:os.Perm (List.range P.length)) (q:∀ H',Q (.bl true) H') :
    rd_law_8 K t { nx:=fun _ H'=>Q .non H',rt:=Q } [some (.ref a),some (.ref sh),some (.ref p),some (.ref l),some (.ref hd),some (.ref gv),some (.bl (kpB P os)),some v7,o8] H:=by
  simp only [rd_law_8,rd_law_9,rd_law_10,rd_law_11,sp__law_none,sp__law_cell_at,sp__law_refused,sp_keeps,rEqD,cSrtN,L2.start,cLst,tSeq,tAsg,gName,tRet,tNext,tOp,tVar,tC,tCons,tNil,tIfS,tOr,tNot,tTest,tB,tCB,tCall,rNe,rIsB,scal,List.map,List.replicate,List.length,List.append,jqa,jqb,jqc,jqd,jqe,jqf,jqg,jqh,jqi,jqj,jqk,jql,jqm,jqn,and_true,true_and,and_assoc,jqo,jqp,jqq,Nat.reduceSub,Nat.reduceAdd,jqr,jqs,jqt,Int.reduceToNat,Int.reducePow,Int.reduceNeg,Int.reduceMul,Int.reduceAdd,if_true,ite_true,jqu,ite_false,if_false]
  have lo:os.length=P.length:=by have:=pm.length_eq;rw [List.length_range] at this;exact this
  have lc:(cI os).length=P.length:=by unfold cI;rw [List.length_map,lo]
  have lg:=os_log pm le
  refine ⟨ns,4,rfl,hS,hn,fun c1 H1 s1=>⟨os,s1 _ _ hl,P.length,pm,le,fun l1 us H2 s2 h2 b1 b2 b3=>⟨_,.inl (SqL.of h2),fun l2 hl2=>?_⟩⟩⟩
  have s3:=isV (o:=HO.lst (us.map V.int)) l2 hl2
  have e3:upd H2 l2 (HO.lst (us.map V.int)) l2=some (.lst (us.map V.int)):=upd_same
  generalize upd H2 l2 (HO.lst (us.map V.int))=H3 at *
  have S3:=s1.trans (s2.trans s3)
  refine ⟨P,hP.same S3,us,e3,by omega,b2,b3,fun H4 s4=>?_⟩
  rw [if_neg (by decide)]
  have S4:=S3.trans s4
  have hg4:=S4 _ _ hg
  rw [nat_lst] at hg4
  refine ⟨P,hP.same S4,cI os,hg4,by omega,lg,fun os' e' pm' H5 s5=>?_,fun z=>absurd (ord_of pm) z⟩
  obtain rfl:=cI_inj e'
  have S5:=S4.trans s5
  rw [if_neg (fun z=>z rfl)]
  obtain ⟨xs,hx,px⟩:=(hP.same S5).at_
  obtain ⟨ys,hy,py⟩:=(hP2.same S5).at_
  have pl:=pps_plain hP.ok
  have d1:plainD (.list (P.map ppDat))=true:=by rw [plainD];exact pl.1
  have d2:(PyData.list (P.map ppDat)).depth≤64:=by rw [PyData.depth];omega
  refine ⟨_,.lst (SqL.of hx) (pps_dat px),_,.lst (SqL.of hy) (pps_dat py),d1,d1,d2,d2,fun b hb=>?_⟩
  rw [hb.mpr rfl,if_neg (by decide)]
  have hg5:=s5 _ _ hg4
  have hl5:=S5 _ _ hl
  rw [nat_lst] at hl5
  refine ⟨_,in_dat hg5,_,in_dat (ns:=cI os) hl5,(in_pl _).1,(in_pl _).1,(in_pl _).2,(in_pl _).2,fun b hb=>?_⟩
  rw [hb.mpr rfl,if_neg (by decide)]
  refine ⟨cI os,SqL.of hl5,by omega,fun l6 srt hl6 p6 u6=>?_⟩
  have e6:=up_id p6 pm u6
  have s6:=isV (o:=HO.lst (srt.map V.int)) l6 hl6
  refine ⟨P,hP.same (S5.trans s6),srt,upd_same,by have:=p6.length_eq;omega,fun i hi=>lg i (p6.mem_iff.mp hi),fun os' e' pm' H7 s7=>?_,fun z=>absurd (p6.trans (ord_of pm)) z⟩
  have e8:List.range P.length=os':=cI_inj (by rw [← e',e6];rfl)
  rw [← e8,kp_range]
  exact q _
theorem rdp_law3 (hS:SqL K H a (ns.map V.int)) (hn:ns.length≤63) (hP:PpsAt H hd P) (hP2:PpsAt H p P) (le:P.length≤40) (hl:H l=some (.lst (os.map natV))) (pm:os.Perm (List.range P.length)) (kf:KF K) (bb:PySem.W.kitOne K (.type "bool") (.type "bool")=some true) (q:∀ H',Q (.bl true) H') :
    rd_law_4 K t { nx:=fun _ H'=>Q .non H',rt:=Q } [some (.ref a),some (.ref sh),some (.ref p),some (.ref l),some (.ref hd),none,none,none,none] H:=by
  simp only [rd_law_4,rd_law_5,rd_law_6,rd_law_7,sp__law_kept,sp_keeps,rEqD,cSrtN,L2.start,cLst,tSeq,tAsg,gName,tRet,tNext,tOp,tVar,tC,tCons,tNil,tIfS,tOr,tNot,tTest,tB,tCB,tCall,rNe,rIsB,cIsi,scal,List.map,List.replicate,List.length,List.append,jqa,jqb,jqc,jqd,jqe,jqf,jqg,jqh,jqi,jqj,jqk,jql,jqm,jqn,and_true,true_and,and_assoc,jqo,jqp,jqq,Nat.reduceSub,Nat.reduceAdd,jqr,jqs,jqt,Int.reduceToNat,Int.reducePow,Int.reduceNeg,Int.reduceMul,Int.reduceAdd,if_true,ite_true,jqu,ite_false,if_false]
  have lo:os.length=P.length:=by have:=pm.length_eq;rw [List.length_range] at this;exact this
  have lc:(cI os).length=P.length:=by unfold cI;rw [List.length_map,lo]
  have lg:=os_log pm le
  refine ⟨_,.inl (SqL.of hl),fun gv hgv=>?_⟩
  have s1:=isV (o:=HO.lst (os.map natV)) gv hgv
  have e1:upd H gv (HO.lst (os.map natV)) gv=some (.lst (os.map natV)):=upd_same
  generalize upd H gv (HO.lst (os.map natV))=H1 at *
  refine ⟨P,hP2.same s1,os,s1 _ _ hl,by omega,fun j hj=>List.mem_range.mp (pm.mem_iff.mp hj),fun H2 s2=>?_⟩
  have S2:=s1.trans s2
  have g2:=s2 _ _ e1
  have g2':=g2
  rw [nat_lst] at g2'
  refine ⟨P,hP.same S2,cI os,g2',by omega,lg,fun os' e' pm' H3 s3=>?_,fun z=>absurd (ord_of pm) z⟩
  obtain rfl:=cI_inj e'
  have S3:=S2.trans s3
  refine ⟨_,.bl _,true,bb,?_⟩
  rw [if_neg (by decide),if_neg (fun z=>z rfl)]
  exact rdp_law8 (hS.mono S3) hn (hP.same S3) (hP2.same S3) le (S3 _ _ hl) (s3 _ _ g2) pm q
def hdR (P:List Pp) (D:Addr) (i:Nat) (ys:List V) (H:Hp):Prop:=Paired (PpD D H) ys (P.take i)
theorem rdp_law2 (hS:SqL K H a (ns.map V.int)) (hn:ns.length≤63) (hP2:PpsAt H p P) (le:P.length≤40) (kf:KF K) (bb:PySem.W.kitOne K (.type "bool") (.type "bool")=some true) (q:∀ H',Q (.bl true) H') :
    rd_law_2 K t { nx:=fun _ H'=>Q .non H',rt:=Q } [some (.ref a),some (.ref sh),some (.ref p),none,none,none,none,none,none] H:=by
  simp only [rd_law_2,rd_law_3,sp__law_order,rEqD,cSrtN,L2.start,cLst,rIxT,tSeq,tAsg,gName,tRet,tNext,tOp,tVar,tC,tTup,tCons,tNil,tIfS,tOr,tNot,tTest,tB,tCB,tCall,tComp,tYes,capV,iList,rIxT,rNe,rIsB,cIsi,scal,List.map,List.replicate,List.length,List.append,jqa,jqb,jqc,jqd,jqe,jqf,jqg,jqh,jqi,jqj,jqk,jql,jqm,jqn,and_true,true_and,and_assoc,jqo,jqp,jqq,Nat.reduceSub,Nat.reduceAdd,jqr,jqs,jqt,Int.reduceToNat,Int.reducePow,Int.reduceNeg,Int.reduceMul,Int.reduceAdd,if_true,ite_true,jqu,ite_false,if_false]
  refine ⟨ns,hS,hn,P,hP2,le,fun l os H0 s0 _ hl pm=>?_⟩
  have hP2:=hP2.same s0
  obtain ⟨xs,hx,px⟩:=hP2.at_
  have lx:=Paired.length px
  have le63:=hP2.le
  refine ⟨⟨_,SqL.of hx⟩,fun D hD=>?_⟩
  refine comp_inv2 (J:=Itl K p) xs.length (by omega) (fun τ=>∃ o,τ=[o]) (hdR P D) (fun i ys H H' hz k h=>ppd_keep hz k h) ⟨_,rfl⟩ .nil (fun i H s h=>⟨_,_,SqL.of (s _ _ hx),List.getElem?_eq_getElem h⟩) (fun H s=>⟨_,SqL.of (s _ _ hx),Nat.le_refl _⟩) hD ?_ ?_
  · rintro i v τ us H4 H5 ⟨o0,rfl⟩ s4 hi hR hDs ⟨rfl,hv⟩
    have hv:=hv _ (SqL.of (s4 _ _ hx))
    obtain ⟨pp,hp,r,o,nl,gl,rfl,a1,a2,a3,a4⟩:=Paired.getP px hv
    obtain ⟨ns,b1,b2⟩:=a3
    obtain ⟨gs,c1,c2⟩:=a4
    simp only [rEqD,cSrtN,L2.start,cLst,rIxT,tSeq,tAsg,gName,tRet,tNext,tOp,tVar,tC,tTup,tCons,tNil,tIfS,tOr,tNot,tTest,tB,tCB,tCall,tComp,tYes,capV,iList,rIxT,rNe,rIsB,cIsi,scal,List.map,List.replicate,List.length,List.append,jqa,jqb,jqc,jqd,jqe,jqf,jqg,jqh,jqi,jqj,jqk,jql,jqm,jqn,and_true,true_and,and_assoc,jqo,jqp,jqq,Nat.reduceSub,Nat.reduceAdd,jqr,jqs,jqt,Int.reduceToNat,Int.reducePow,Int.reduceNeg,Int.reduceMul,Int.reduceAdd,if_true,ite_true,jqu,ite_false,if_false]
    refine ⟨_,SqT.of (s4 _ _ a1),_,rfl,_,SqT.of (s4 _ _ a1),_,rfl,nl,rfl,ns,.inl (SqL.of (s4 _ _ b1)),fun l1 hl1=>?_⟩
    have t1:=isV (o:=HO.lst ns) l1 hl1
    refine ⟨_,SqT.of ((s4.trans t1) _ _ a1),_,rfl,gl,rfl,gs,.inl (SqL.of ((s4.trans t1) _ _ c1)),fun l2 hl2=>⟨by decide,fun l3 hl3=>?_⟩⟩
    have t2:=isV (o:=HO.lst gs) l2 hl2
    have t3:=isV (o:=HO.tup [o,V.ref l1,V.ref l2]) l3 hl3
    have T:=t1.trans (t2.trans t3)
    have U:=s4.trans T
    refine ⟨⟨_,rfl⟩,?_,T⟩
    unfold hdR at hR ⊢
    rw [List.take_add_one,hp]
    refine Paired.snocP (Paired.mapP hR fun _ _ z=>z.same T) ⟨l3,o,l1,l2,rfl,upd_same,oc_same a2 U,⟨ns,(t2.trans t3) _ _ upd_same,prs_same U b2⟩,⟨gs,t3 _ _ upd_same,prs_same U c2⟩,(fun z=>by rw [z,hDs] at hl1;cases hl1),fun z=>by have:=t1 _ _ hDs;rw [z,this] at hl2;cases hl2⟩
  · rintro us H4 hle hR s4 hDl
    unfold hdR at hR
    rw [lx,List.take_length] at hR
    exact rdp_law3 (hS.mono (s0.trans s4)) hn ⟨⟨us,hDl,Paired.mapP hR fun _ _ z=>z.v⟩,hP2.ok,hP2.le⟩ (hP2.same s4) le (s4 _ _ hl) pm kf bb q
end
theorem rdp_law {a:Addr} {ns:List Int} (kf:KF K) (bb:PySem.W.kitOne K (.type "bool") (.type "bool")=some true) (hS:SqL K H a (ns.map V.int)) (hn:ns.length≤63) (q:∀ H',Q (.bl true) H') :
    rd_law K t { nx:=fun _ H'=>Q .non H',rt:=Q } (L2.start ["script","shelves","papers","order","handed","given","due","told","none"] [.ref a]) H:=by
  simp only [rd_law,sp__law_cell_at,sp__law_shelves,sp__law_papers,rEqD,cSrtN,L2.start,cLst,rIxT,tSeq,tAsg,gName,tRet,tNext,tOp,tVar,tC,tTup,tCons,tNil,tIfS,tOr,tNot,tTest,tB,tCB,tCall,tComp,tYes,capV,iList,rIxT,rNe,rIsB,cIsi,scal,List.map,List.replicate,List.length,List.append,jqa,jqb,jqc,jqd,jqe,jqf,jqg,jqh,jqi,jqj,jqk,jql,jqm,jqn,and_true,true_and,and_assoc,jqo,jqp,jqq,Nat.reduceSub,Nat.reduceAdd,jqr,jqs,jqt,Int.reduceToNat,Int.reducePow,Int.reduceNeg,Int.reduceMul,Int.reduceAdd,if_true,ite_true,jqu,ite_false,if_false]
  exact ⟨ns,1,rfl,hS,hn,fun c1 H1 s1 sh ws H2 s2 h2 l2=>⟨ns,hS.mono (s1.trans s2),hn,ws,h2,l2,fun p P H3 s3 h3 le=>rdp_law2 (hS.mono (s1.trans (s2.trans s3))) hn h3 le kf bb q⟩⟩
end
section
variable {P:Program} {w:World} {K:PySem.W.Frag} {mg:Str→Option Value} {base:Heap} {t:Adr}
theorem ok__law_draw (T:Txt K mg t):FnOk P w K mg base (CX1 P w) 1 t.a__law_draw t.d__law_draw ["cell","j"] (sp__law_draw):=by
  refine T.f__law_draw.ok0 sc__law_draw (fun vs H Q E h=>?_) (fun cdv A outer s H vs Q E hr h=>?_)
  · obtain ⟨c,j,rfl,_⟩:=h;rfl
  obtain ⟨c,j,rfl,h1,h2,q⟩:=h
  exact ⟨rd__law_draw K t,(pss_cons (ps_set (i:=2) sc__law_draw.nd rfl (Or.inl rfl) (pe_op op_mod (pe_op op_add (pe_op op_mulB (pe_op op_mod (pv 0) (pe_int (i:=1000000007))) (pe_int (i:=6700417))) (pe_op op_mulB (pe_op op_mulB (pe_op op_add (pv 1) (pe_int (i:=1))) (pe_int (i:=104729))) (pe_int (i:=65537)))) (pe_int (i:=1000000009))))
    (pss_one (ps_ret (pe_op op_fdivB (pe_op op_mod (pe_op op_mulB (pe_op op_mod (pe_op op_mulB (pv 2) (pv 2)) (pe_int (i:=1000000009))) (pv 2)) (pe_int (i:=1000000009))) (pe_int (i:=32)))))),rdp__law_draw h1 h2 q⟩
theorem ok__law_names (T:Txt K mg t):FnOk P w K mg base (CX1 P w) 2 t.a__law_names t.d__law_names ["cell","many"] (sp__law_names):=by
  refine T.f__law_names.ok0 sc__law_names (fun vs H Q E h=>?_) (fun cdv A outer s H vs Q E hr h=>?_)
  · obtain ⟨c,m,rfl,_⟩:=h;rfl
  obtain ⟨c,m,rfl,h1,h2,q⟩:=h
  exact ⟨rd__law_names K t,(pss_cons (ps_set (i:=2) sc__law_names.nd rfl (Or.inl rfl) (pe_op op_add (pe_int (i:=1)) (pe_op op_mod (pe_call (FnOk.mono (ok__law_draw T) (by decide)) hr rfl T.m__law_draw T.f__law_draw.kp T.b__law_draw .nil pass10 (pa_cons (pv 0) (pa_cons (pe_int (i:=1)) pa_nil))) (pe_int (i:=6)))))
    (pss_cons (ps_set (i:=3) sc__law_names.nd rfl (Or.inr rfl) (pe_str (x:="zyxwvtsrqpnmlkjhgfdcb")))
    (pss_cons (ps_if (pt_cmpR op_eq (pv 2) (pe_int (i:=6)) (nomark _)) (pss_one (ps_set (i:=3) sc__law_names.nd rfl (Or.inr rfl) (pe_str (x:="zyxwvutsrqponmlkjihgfedcba"))))
      pss_nil)
    (pss_cons (ps_set (i:=4) sc__law_names.nd rfl (Or.inr rfl) (pe_str (x:="")))
    (pss_cons (ps_for PassesOwn.never rfl (pi_range1 rfl T.b_range (pa_cons (pv 2) pa_nil)) (pg_name (i:=5) sc__law_names.nd rfl (Or.inl rfl)) (pss_one (ps_set (i:=4) sc__law_names.nd rfl (Or.inr rfl) (pe_op op_add_str (pv 4) (pe_ix ix_str (pv 3) (pe_op op_mod (pe_call (FnOk.mono (ok__law_draw T) (by decide)) hr rfl T.m__law_draw T.f__law_draw.kp T.b__law_draw .nil pass10 (pa_cons (pv 0) (pa_cons (pe_op op_add (pe_int (i:=2)) (pv 5)) pa_nil))) (pe_callB call_len rfl T.b_len bt_len (pa_cons (pv 3) pa_nil))) (fun _ _=>rfl))))))
    (pss_cons (ps_set (i:=6) sc__law_names.nd rfl (Or.inr rfl) (pe_op op_mod (pe_call (FnOk.mono (ok__law_draw T) (by decide)) hr rfl T.m__law_draw T.f__law_draw.kp T.b__law_draw .nil pass10 (pa_cons (pv 0) (pa_cons (pe_int (i:=8)) pa_nil))) (pv 2)))
    (pss_cons (ps_set (i:=7) sc__law_names.nd rfl (Or.inl rfl) (pe_op op_mod (pe_call (FnOk.mono (ok__law_draw T) (by decide)) hr rfl T.m__law_draw T.f__law_draw.kp T.b__law_draw .nil pass10 (pa_cons (pv 0) (pa_cons (pe_int (i:=9)) pa_nil))) (pe_callB call_len rfl T.b_len bt_len (pa_cons (pv 3) pa_nil))))
    (pss_cons (ps_set (i:=3) sc__law_names.nd rfl (Or.inr rfl) (pe_op op_add_str (pe_slice sl_str (pv 3) (po_some (pv 7)) po_none) (pe_slice sl_str (pv 3) po_none (po_some (pv 7)))))
    (pss_one (ps_ret (pe_comp rfl (osc:=defScope s__law_names) (N:=["cell","many","size","signs","stem","k","at","turn"]) (xs:=["k"]) (ix:=[4,6,3]) (by decide +kernel) (pi_range1 rfl T.b_range (pa_cons (pv 1) pa_nil)) (fun _ _ _ _=>(pg_name (i:=0) (show List.Nodup (["k","stem","at","signs"]:List Str) from (by decide +kernel)) rfl (Or.inl rfl) (.inr rfl))) (fun _ _ _ _=>pts_nil) (fun _ _ _ _=>(pe_op op_add_str (pe_op op_add_str (pe_slice sl_str (pv 1) po_none (po_some (pv 2))) (pe_ix ix_str (pv 3) (pv 0) (fun _ _=>rfl))) (pe_slice sl_str (pv 1) (po_some (pe_op op_add (pv 2) (pe_int (i:=1)))) po_none)))))))))))))),rdp__law_names h1 h2 q⟩
theorem ok__law_shelves (T:Txt K mg t):FnOk P w K mg base (CX1 P w) 3 t.a__law_shelves t.d__law_shelves ["cell","many"] (sp__law_shelves):=by
  refine T.f__law_shelves.ok0 sc__law_shelves (fun vs H Q E h=>?_) (fun cdv A outer s H vs Q E hr h=>?_)
  · obtain ⟨c,rfl,_⟩:=h;rfl
  obtain ⟨c,rfl,q⟩:=h
  exact ⟨rd__law_shelves K t,(pss_cons (ps_if (pt_cmpR op_gt (pe_op op_mod (pe_call (FnOk.mono (ok__law_draw T) (by decide)) hr rfl T.m__law_draw T.f__law_draw.kp T.b__law_draw .nil pass10 (pa_cons (pv 0) (pa_cons (pe_int (i:=11)) pa_nil))) (pe_int (i:=3))) (pe_int (i:=0)) (nomark _)) (pss_one (ps_ret (pe_call (FnOk.mono (ok__law_names T) (by decide)) hr rfl T.m__law_names T.f__law_names.kp T.b__law_names .nil pass10 (pa_cons (pv 0) (pa_cons (pv 1) pa_nil)))))
      pss_nil)
    (pss_cons (ps_set (i:=2) sc__law_shelves.nd rfl (Or.inl rfl) (pe_str (x:="zyxwvtsrqpnmlkjhgfdcb")))
    (pss_cons (ps_set (i:=3) sc__law_shelves.nd rfl (Or.inl rfl) (pe_op op_add_str (pe_ix ix_str (pv 2) (pe_op op_mod (pe_call (FnOk.mono (ok__law_draw T) (by decide)) hr rfl T.m__law_draw T.f__law_draw.kp T.b__law_draw .nil pass10 (pa_cons (pv 0) (pa_cons (pe_int (i:=12)) pa_nil))) (pe_int (i:=21))) (fun _ _=>rfl)) (pe_ix ix_str (pv 2) (pe_op op_mod (pe_call (FnOk.mono (ok__law_draw T) (by decide)) hr rfl T.m__law_draw T.f__law_draw.kp T.b__law_draw .nil pass10 (pa_cons (pv 0) (pa_cons (pe_int (i:=13)) pa_nil))) (pe_int (i:=21))) (fun _ _=>rfl))))
    (pss_cons (ps_set (i:=4) sc__law_shelves.nd rfl (Or.inl rfl) (pe_ix ix_str (pv 2) (pe_op op_mod (pe_call (FnOk.mono (ok__law_draw T) (by decide)) hr rfl T.m__law_draw T.f__law_draw.kp T.b__law_draw .nil pass10 (pa_cons (pv 0) (pa_cons (pe_int (i:=14)) pa_nil))) (pe_int (i:=21))) (fun _ _=>rfl)))
    (pss_cons (ps_set (i:=5) sc__law_shelves.nd rfl (Or.inr rfl) (pe_lst (pa_cons (pv 3) (pa_cons (pe_op op_add_str (pv 4) (pv 3)) (pa_cons (pe_srev (pv 3) (pe_un un_neg (pe_int (i:=1)))) (pa_cons (pe_op op_add_str (pv 3) (pv 4)) pa_nil))))))
    (pss_cons (ps_set (i:=6) sc__law_shelves.nd rfl (Or.inr rfl) (pe_op op_mod (pe_call (FnOk.mono (ok__law_draw T) (by decide)) hr rfl T.m__law_draw T.f__law_draw.kp T.b__law_draw .nil pass10 (pa_cons (pv 0) (pa_cons (pe_int (i:=15)) pa_nil))) (pe_int (i:=4))))
    (pss_one (ps_ret (pe_comp rfl (osc:=defScope s__law_shelves) (N:=["cell","many","signs","stem","more","some","turn"]) (xs:=["k"]) (ix:=[5,6]) (by decide +kernel) (pi_range1 rfl T.b_range (pa_cons (pv 1) pa_nil)) (fun _ _ _ _=>(pg_name (i:=0) (show List.Nodup (["k","some","turn"]:List Str) from (by decide +kernel)) rfl (Or.inl rfl) (.inr rfl))) (fun _ _ _ _=>pts_nil) (fun _ _ _ _=>(pe_ix ix_list (pv 1) (pe_op op_mod (pe_op op_add (pv 2) (pv 0)) (pe_int (i:=4))) (fun _ _=>rfl)))))))))))),rdp__law_shelves q⟩
theorem ok__law_worth (T:Txt K mg t):FnOk P w K mg base (CX1 P w) 1 t.a__law_worth t.d__law_worth ["cell","j"] (sp__law_worth):=by
  refine T.f__law_worth.ok0 sc__law_worth (fun vs H Q E h=>?_) (fun cdv A outer s H vs Q E hr h=>?_)
  · obtain ⟨c,j,rfl,_⟩:=h;rfl
  obtain ⟨c,j,rfl,h1,h2,q⟩:=h
  exact ⟨rd__law_worth K t,(pss_one (ps_ret (pe_op op_sub (pe_op op_mod (pe_op op_add (pe_op op_mulB (pe_op op_mulB (pe_op op_mod (pv 0) (pe_op op_pow (pe_int (i:=10)) (pe_int (i:=40)))) (pe_op op_add (pv 1) (pe_int (i:=2)))) (pe_int (i:=1000003))) (pv 1)) (pe_op op_add (pe_op op_mulB (pe_int (i:=2)) (pe_op op_pow (pe_int (i:=10)) (pe_int (i:=30)))) (pe_int (i:=1)))) (pe_op op_pow (pe_int (i:=10)) (pe_int (i:=30)))))),rdp__law_worth h1 h2 q⟩
theorem ok__law_paper (T:Txt K mg t):FnOk P w K mg base (CX1 P w) 2 t.a__law_paper t.d__law_paper ["cells","shelves","wide"] (sp__law_paper):=by
  refine T.f__law_paper.ok0 sc__law_paper (fun vs H Q E h=>?_) (fun cdv A outer s H vs Q E hr h=>?_)
  · obtain ⟨c,s,w,ns,ws,rfl,_⟩:=h;rfl
  obtain ⟨c,s,w,ns,ws,rfl,h1,h2,h3,h4,h5,h6,h7,q⟩:=h
  exact ⟨rd__law_paper K t,(pss_cons (ps_set (i:=3) sc__law_paper.nd rfl (Or.inl rfl) pe_dnewT)
    (pss_cons (ps_set (i:=4) sc__law_paper.nd rfl (Or.inl rfl) pe_dnewT)
    (pss_cons (ps_for PassesOwn.never rfl (pi_list (pv 0)) (pg_name (i:=5) sc__law_paper.nd rfl (Or.inl rfl)) (pss_cons (ps_set (i:=6) sc__law_paper.nd rfl (Or.inl rfl) (pe_op op_sub (pe_op op_mod (pe_call (FnOk.mono (ok__law_draw T) (by decide)) hr rfl T.m__law_draw T.f__law_draw.kp T.b__law_draw .nil pass10 (pa_cons (pv 5) (pa_cons (pe_int (i:=2)) pa_nil))) (pv 2)) (pe_int (i:=1))))
    (pss_cons (ps_if (pt_cmpR op_eq (pe_op op_mod (pe_call (FnOk.mono (ok__law_draw T) (by decide)) hr rfl T.m__law_draw T.f__law_draw.kp T.b__law_draw .nil pass10 (pa_cons (pv 5) (pa_cons (pe_int (i:=3)) pa_nil))) (pe_int (i:=9))) (pe_int (i:=0)) (nomark _)) (pss_one (ps_set (i:=6) sc__law_paper.nd rfl (Or.inl rfl) (pe_call (FnOk.mono (ok__law_worth T) (by decide)) hr rfl T.m__law_worth T.f__law_worth.kp T.b__law_worth .nil pass10 (pa_cons (pv 5) (pa_cons (pe_int (i:=4)) pa_nil)))))
      pss_nil)
    (pss_cons (ps_set (i:=7) sc__law_paper.nd rfl (Or.inl rfl) (pe_tup (pa_cons (pe_ix ix_list (pv 1) (pe_op op_mod (pe_call (FnOk.mono (ok__law_draw T) (by decide)) hr rfl T.m__law_draw T.f__law_draw.kp T.b__law_draw .nil pass10 (pa_cons (pv 5) (pa_cons (pe_int (i:=5)) pa_nil))) (pe_int (i:=3))) (fun _ _=>rfl)) (pa_cons (pv 6) pa_nil))))
    (pss_one (ps_if (pt_cmpR op_eq (pe_op op_mod (pe_call (FnOk.mono (ok__law_draw T) (by decide)) hr rfl T.m__law_draw T.f__law_draw.kp T.b__law_draw .nil pass10 (pa_cons (pv 5) (pa_cons (pe_int (i:=6)) pa_nil))) (pe_int (i:=2))) (pe_int (i:=0)) (nomark _)) (pss_one (ps_dput (hu_of hr) (pv 3) (pv 7) (pe_call (FnOk.mono (ok__law_worth T) (by decide)) hr rfl T.m__law_worth T.f__law_worth.kp T.b__law_worth .nil pass10 (pa_cons (pv 5) (pa_cons (pe_int (i:=7)) pa_nil))) rfl))
      (pss_one (ps_dput (hu_of hr) (pv 4) (pv 7) (pe_call (FnOk.mono (ok__law_worth T) (by decide)) hr rfl T.m__law_worth T.f__law_worth.kp T.b__law_worth .nil pass10 (pa_cons (pv 5) (pa_cons (pe_int (i:=8)) pa_nil))) rfl))))))))
    (pss_cons (ps_if (PW.pt (pw_and (pt_cmpR (op_eqDE (hu64 hr)) (pv 4) pe_dnewK (nomark _)) (pw_and1 (pt_cmpR op_eq (pe_op op_mod (pe_call (FnOk.mono (ok__law_draw T) (by decide)) hr rfl T.m__law_draw T.f__law_draw.kp T.b__law_draw .nil pass10 (pa_cons (pe_ix ix_list (pv 0) (pe_int (i:=0)) (fun _ _=>rfl)) (pa_cons (pe_int (i:=9)) pa_nil))) (pe_int (i:=2))) (pe_int (i:=0)) (nomark _))))) (pss_one (ps_ret (pe_tup (pa_cons (pe_tup (pa_cons (pe_str (x:="off")) (pa_cons (pe_str (x:="nought")) pa_nil))) (pa_cons (pe_callTy (call_list_items rfl) rfl T.b_list bt_list (pa_cons (pe_items (pv 3)) pa_nil)) (pa_cons (pe_lst pa_nil) pa_nil))))))
      pss_nil)
    (pss_one (ps_ret (pe_tup (pa_cons (pe_tup (pa_cons (pe_str (x:="done")) (pa_cons (pe_tup (pa_cons (pe_int (i:=3)) pa_nil)) pa_nil))) (pa_cons (pe_callTy (call_list_items rfl) rfl T.b_list bt_list (pa_cons (pe_items (pv 3)) pa_nil)) (pa_cons (pe_callB (call_sorted_items rfl (hu3 hr)) rfl T.b_sorted bt_sorted (pa_cons (pe_items (pv 4)) pa_nil)) pa_nil)))))))))),rdp__law_paper h1 h2 h3 h4 h5 h6 h7 q⟩
theorem ok__law_cell_at (T:Txt K mg t):FnOk P w K mg base (CX1 P w) 1 t.a__law_cell_at t.d__law_cell_at ["script","k"] (sp__law_cell_at K):=by
  refine T.f__law_cell_at.ok0 sc__law_cell_at (fun vs H Q E h=>?_) (fun cdv A outer s H vs Q E hr h=>?_)
  · obtain ⟨a,ns,k,rfl,_⟩:=h;rfl
  obtain ⟨a,ns,k,rfl,hS,hl,q⟩:=h
  exact ⟨rd__law_cell_at K t,(pss_cons (ps_if (pt_cmpR op_lt (pv 1) (pe_callB call_len rfl T.b_len bt_len (pa_cons (pv 0) pa_nil)) (nomark _)) (pss_one (ps_ret (pe_ix ix_list (pv 0) (pv 1) (fun _ _=>rfl))))
      pss_nil)
    (pss_one (ps_ret (pe_int (i:=0))))),rdp__law_cell_at hS hl q⟩
theorem ok__law_papers (T:Txt K mg t):FnOk P w K mg base (CX1 P w) 3 t.a__law_papers t.d__law_papers ["script","shelves"] (sp__law_papers K):=by
  refine T.f__law_papers.ok0 sc__law_papers (fun vs H Q E h=>?_) (fun cdv A outer s H vs Q E hr h=>?_)
  · obtain ⟨a,s,ns,ws,rfl,_⟩:=h;rfl
  obtain ⟨a,s,ns,ws,rfl,h1,h2,h3,h4,q⟩:=h
  exact ⟨rd__law_papers K t,(pss_cons (ps_set (i:=2) sc__law_papers.nd rfl (Or.inr rfl) (pe_op op_add (pe_int (i:=2)) (pe_op op_mod (pe_call (FnOk.mono (ok__law_draw T) (by decide)) hr rfl T.m__law_draw T.f__law_draw.kp T.b__law_draw .nil pass10 (pa_cons (pe_call (FnOk.mono (ok__law_cell_at T) (by decide)) hr rfl T.m__law_cell_at T.f__law_cell_at.kp T.b__law_cell_at .nil pass10 (pa_cons (pv 0) (pa_cons (pe_int (i:=0)) pa_nil))) (pa_cons (pe_int (i:=200)) pa_nil))) (pe_int (i:=3)))))
    (pss_cons (ps_if (pt_cmpR op_eq (pe_op op_mod (pe_call (FnOk.mono (ok__law_draw T) (by decide)) hr rfl T.m__law_draw T.f__law_draw.kp T.b__law_draw .nil pass10 (pa_cons (pe_call (FnOk.mono (ok__law_cell_at T) (by decide)) hr rfl T.m__law_cell_at T.f__law_cell_at.kp T.b__law_cell_at .nil pass10 (pa_cons (pv 0) (pa_cons (pe_int (i:=0)) pa_nil))) (pa_cons (pe_int (i:=202)) pa_nil))) (pe_int (i:=8))) (pe_int (i:=0)) (nomark _)) (pss_one (ps_set (i:=2) sc__law_papers.nd rfl (Or.inr rfl) (pe_int (i:=30))))
      pss_nil)
    (pss_cons (ps_set (i:=3) sc__law_papers.nd rfl (Or.inr rfl) (pe_op op_add (pe_int (i:=2)) (pe_op op_mod (pe_call (FnOk.mono (ok__law_draw T) (by decide)) hr rfl T.m__law_draw T.f__law_draw.kp T.b__law_draw .nil pass10 (pa_cons (pe_call (FnOk.mono (ok__law_cell_at T) (by decide)) hr rfl T.m__law_cell_at T.f__law_cell_at.kp T.b__law_cell_at .nil pass10 (pa_cons (pv 0) (pa_cons (pe_int (i:=0)) pa_nil))) (pa_cons (pe_int (i:=201)) pa_nil))) (pe_int (i:=40)))))
    (pss_cons (ps_set (i:=4) sc__law_papers.nd rfl (Or.inr rfl) (pe_slice sl_list (pv 0) po_none (po_some (pe_int (i:=120)))))
    (pss_one (ps_ret (pe_comp rfl (osc:=defScope s__law_papers) (N:=["script","shelves","many","wide","cells"]) (xs:=["at"]) (ix:=[4,2,1,3]) (by decide +kernel) (pi_range3 rfl T.b_range (pa_cons (pe_int (i:=0)) (pa_cons (pe_callB call_len rfl T.b_len bt_len (pa_cons (pv 4) pa_nil)) (pa_cons (pv 2) pa_nil)))) (fun _ _ _ _=>(pg_name (i:=0) (show List.Nodup (["at","cells","many","shelves","wide"]:List Str) from (by decide +kernel)) rfl (Or.inl rfl) (.inr rfl))) (fun _ _ _ _=>pts_nil) (fun _ _ _ _=>(pe_call (FnOk.mono (ok__law_paper T) (by decide)) hr rfl T.m__law_paper T.f__law_paper.kp T.b__law_paper .nil pass10 (pa_cons (pe_slice sl_list (pv 1) (po_some (pv 0)) (po_some (pe_op op_add (pv 0) (pv 2)))) (pa_cons (pv 3) (pa_cons (pv 4) pa_nil)))))))))))),rdp__law_papers h1 h2 h3 h4 q⟩
theorem ok__law_met (T:Txt K mg t):FnOk P w K mg base (CX1 P w) 1 t.a__law_met t.d__law_met ["one","other"] (sp__law_met):=by
  refine T.f__law_met.ok0 sc__law_met (fun vs H Q E h=>?_) (fun cdv A outer s H vs Q E hr h=>?_)
  · obtain ⟨v,u,a,b,rfl,_⟩:=h;rfl
  obtain ⟨v,u,a,b,rfl,h1,h2,h3,h4,q⟩:=h
  exact ⟨rd__law_met K t,(pss_cons (ps_set (i:=2) sc__law_met.nd rfl (Or.inl rfl) pe_dnewT)
    (pss_cons (ps_for PassesOwn.never rfl (pi_list (pe_ix ix_tup (pv 0) (pe_int (i:=2)) (fun _ _=>rfl))) (pg_name (i:=3) sc__law_met.nd rfl (Or.inl rfl)) (pss_one (ps_dput (hu_of hr) (pv 2) (pe_ix ix_tup (pv 3) (pe_int (i:=0)) (fun _ _=>rfl)) (pe_bl (b:=true)) rfl)))
    (pss_cons (ps_set (i:=4) sc__law_met.nd rfl (Or.inl rfl) pe_dnewT)
    (pss_cons (ps_for PassesOwn.never rfl (pi_list (pe_ix ix_tup (pv 1) (pe_int (i:=2)) (fun _ _=>rfl))) (pg_name (i:=3) sc__law_met.nd rfl (Or.inl rfl)) (pss_one (ps_dput (hu_of hr) (pv 4) (pe_ix ix_tup (pv 3) (pe_int (i:=0)) (fun _ _=>rfl)) (pe_bl (b:=true)) rfl)))
    (pss_cons (ps_for PassesOwn.never rfl (pi_list (pe_op op_cat (pe_ix ix_tup (pv 1) (pe_int (i:=1)) (fun _ _=>rfl)) (pe_ix ix_tup (pv 1) (pe_int (i:=2)) (fun _ _=>rfl)))) (pg_name (i:=3) sc__law_met.nd rfl (Or.inl rfl)) (pss_one (ps_if (pt_cmpR (op_in_d (hu_of hr)) (pe_ix ix_tup (pv 3) (pe_int (i:=0)) (fun _ _=>rfl)) (pv 2) (by with_unfolding_all rfl)) (pss_one (ps_ret (pe_bl (b:=true))))
      pss_nil)))
    (pss_cons (ps_for PassesOwn.never rfl (pi_list (pe_ix ix_tup (pv 0) (pe_int (i:=1)) (fun _ _=>rfl))) (pg_name (i:=3) sc__law_met.nd rfl (Or.inl rfl)) (pss_one (ps_if (pt_cmpR (op_in_d (hu_of hr)) (pe_ix ix_tup (pv 3) (pe_int (i:=0)) (fun _ _=>rfl)) (pv 4) (by with_unfolding_all rfl)) (pss_one (ps_ret (pe_bl (b:=true))))
      pss_nil)))
    (pss_one (ps_ret (pe_bl (b:=false)))))))))),rdp__law_met h1 h2 h3 h4 q⟩
theorem ok__law_order (T:Txt K mg t):FnOk P w K mg base (CX1 P w) 2 t.a__law_order t.d__law_order ["script","papers"] (sp__law_order K):=by
  refine T.f__law_order.ok0 sc__law_order (fun vs H Q E h=>?_) (fun cdv A outer s H vs Q E hr h=>?_)
  · obtain ⟨a,p,ns,P,rfl,_⟩:=h;rfl
  obtain ⟨a,p,ns,P,rfl,h1,h2,h3,h4,q⟩:=h
  exact ⟨rd__law_order K t,(pss_cons (ps_set (i:=2) sc__law_order.nd rfl (Or.inl rfl) (pe_lst pa_nil))
    (pss_cons (ps_set (i:=3) sc__law_order.nd rfl (Or.inl rfl) (pe_cmpR op_eq (pe_op op_mod (pe_call (FnOk.mono (ok__law_draw T) (by decide)) hr rfl T.m__law_draw T.f__law_draw.kp T.b__law_draw .nil pass10 (pa_cons (pe_call (FnOk.mono (ok__law_cell_at T) (by decide)) hr rfl T.m__law_cell_at T.f__law_cell_at.kp T.b__law_cell_at .nil pass10 (pa_cons (pv 0) (pa_cons (pe_int (i:=2)) pa_nil))) (pa_cons (pe_int (i:=202)) pa_nil))) (pe_int (i:=3))) (pe_int (i:=0)) (nomark _)))
    (pss_cons (ps_for PassesOwn.never rfl (pi_range1 rfl T.b_range (pa_cons (pe_callB call_len rfl T.b_len bt_len (pa_cons (pv 1) pa_nil)) pa_nil)) (pg_name (i:=4) sc__law_order.nd rfl (Or.inl rfl)) (pss_cons (ps_set (i:=5) sc__law_order.nd rfl (Or.inl rfl) (pe_op op_mod (pe_call (FnOk.mono (ok__law_draw T) (by decide)) hr rfl T.m__law_draw T.f__law_draw.kp T.b__law_draw .nil pass10 (pa_cons (pe_call (FnOk.mono (ok__law_cell_at T) (by decide)) hr rfl T.m__law_cell_at T.f__law_cell_at.kp T.b__law_cell_at .nil pass10 (pa_cons (pv 0) (pa_cons (pv 4) pa_nil))) (pa_cons (pe_int (i:=203)) pa_nil))) (pe_op op_add (pe_int (i:=1)) (pv 4))))
    (pss_cons (ps_if (PW.pt (pw_and (pt_not (pt_val (pv 3))) (pw_and1 (pt_cmpR op_eq (pe_op op_mod (pe_call (FnOk.mono (ok__law_draw T) (by decide)) hr rfl T.m__law_draw T.f__law_draw.kp T.b__law_draw .nil pass10 (pa_cons (pe_call (FnOk.mono (ok__law_cell_at T) (by decide)) hr rfl T.m__law_cell_at T.f__law_cell_at.kp T.b__law_cell_at .nil pass10 (pa_cons (pv 0) (pa_cons (pe_int (i:=3)) pa_nil))) (pa_cons (pe_int (i:=204)) pa_nil))) (pe_int (i:=2))) (pe_int (i:=0)) (nomark _))))) (pss_one (ps_set (i:=5) sc__law_order.nd rfl (Or.inl rfl) (pe_op op_mod (pv 5) (pe_int (i:=2)))))
      pss_nil)
    (pss_cons (ps_set (i:=6) sc__law_order.nd rfl (Or.inl rfl) (pv 4))
    (pss_cons (ps_while PassesOwn.never (pt_cmpR op_gt (pv 6) (pe_op op_sub (pv 4) (pv 5)) (nomark _)) (pss_cons (ps_if (PW.pt (pw_and (pt_val (pv 3)) (pw_and1 (pt_val (pe_call (FnOk.mono (ok__law_met T) (by decide)) hr rfl T.m__law_met T.f__law_met.kp T.b__law_met .nil pass10 (pa_cons (pe_ix ix_list (pv 1) (pe_ix ix_list (pv 2) (pe_op op_sub (pv 6) (pe_int (i:=1))) (fun _ _=>rfl)) (fun _ _=>rfl)) (pa_cons (pe_ix ix_list (pv 1) (pv 4) (fun _ _=>rfl)) pa_nil))))))) (pss_one ps_break)
      pss_nil)
    (pss_one (ps_set (i:=6) sc__law_order.nd rfl (Or.inl rfl) (pe_op op_sub (pv 6) (pe_int (i:=1)))))))
    (pss_one (ps_expr (pe_bm PySem.F.plainAttrs_list PySem.F.slot_list_insert PySem.F.type_list_insert mt_insert (pv 2) (pa_cons (pv 6) (pa_cons (pv 4) pa_nil))))))))))
    (pss_one (ps_ret (pv 2)))))),rdp__law_order h1 h2 h3 h4 q⟩
theorem ok__law_kept (T:Txt K mg t):FnOk P w K mg base (CX1 P w) 2 t.a__law_kept t.d__law_kept ["papers","order"] (sp__law_kept):=by
  refine T.f__law_kept.ok0 sc__law_kept (fun vs H Q E h=>?_) (fun cdv A outer s H vs Q E hr h=>?_)
  · obtain ⟨p,l,P,os,rfl,_⟩:=h;rfl
  obtain ⟨p,l,P,os,rfl,h1,h2,h3,h4,q⟩:=h
  exact ⟨rd__law_kept K t,(pss_cons (ps_for PassesOwn.never rfl (pi_range1 rfl T.b_range (pa_cons (pe_callB call_len rfl T.b_len bt_len (pa_cons (pv 1) pa_nil)) pa_nil)) (pg_name (i:=2) sc__law_kept.nd rfl (Or.inl rfl)) (pss_one (ps_for PassesOwn.never rfl (pi_range1 rfl T.b_range (pa_cons (pv 2) pa_nil)) (pg_name (i:=3) sc__law_kept.nd rfl (Or.inl rfl)) (pss_one (ps_if (PW.pt (pw_and (pt_cmpR op_gt (pe_ix ix_list (pv 1) (pv 3) (fun _ _=>rfl)) (pe_ix ix_list (pv 1) (pv 2) (fun _ _=>rfl)) (nomark _)) (pw_and1 (pt_val (pe_call (FnOk.mono (ok__law_met T) (by decide)) hr rfl T.m__law_met T.f__law_met.kp T.b__law_met .nil pass10 (pa_cons (pe_ix ix_list (pv 0) (pe_ix ix_list (pv 1) (pv 3) (fun _ _=>rfl)) (fun _ _=>rfl)) (pa_cons (pe_ix ix_list (pv 0) (pe_ix ix_list (pv 1) (pv 2) (fun _ _=>rfl)) (fun _ _=>rfl)) pa_nil))))))) (pss_one (ps_ret (pe_bl (b:=false))))
      pss_nil)))))
    (pss_one (ps_ret (pe_bl (b:=true))))),rdp__law_kept h1 h2 h3 h4 q⟩
theorem ok_heed_order (T:Txt K mg t):FnOk P w K mg base (CX1 P w) 1 t.a_heed_order t.d_heed_order ["order","many"] (sp_heed_order t):=by
  refine T.f_heed_order.ok1 sc_heed_order (fun vs H Q E h=>?_) (fun cdv A outer s H vs Q E hr h=>?_)
  · obtain ⟨l,n,ns,rfl,_⟩:=h;rfl
  obtain ⟨l,n,ns,rfl,h1,h2,h3,h4,q1,q2⟩:=h
  exact ⟨rd_heed_order K t E,(pss_one (ps_if (pt_cmpR (op_neAll (hu64 hr)) (pe_callB (call_sortedN rfl (hu3 hr)) rfl T.b_sorted bt_sorted (pa_cons (pv 0) pa_nil)) (pe_lrng rfl rfl T.b_list rfl T.b_range (pa_cons (pv 1) pa_nil)) (nomark _)) (pss_one (ps_raise rfl T.x_NoOrder raises1 rfl T.g_NoOrder (pa_cons (pe_msgI (pv 1)) pa_nil)))
      pss_nil)),rdp_heed_order h1 h2 h3 h4 q1 q2⟩
theorem ok_gives_into (T:Txt K mg t):FnOk P w K mg base (CX1 P w) 1 t.a_gives_into t.d_gives_into ["one","other"] (sp_gives_into):=by
  refine T.f_gives_into.ok0 sc_gives_into (fun vs H Q E h=>?_) (fun cdv A outer s H vs Q E hr h=>?_)
  · obtain ⟨v,u,a,b,rfl,_⟩:=h;rfl
  obtain ⟨v,u,a,b,rfl,h1,h2,h3,h4,q⟩:=h
  exact ⟨rd_gives_into K t,(pss_cons (ps_set (i:=2) sc_gives_into.nd rfl (Or.inr rfl) (pe_callTy (call_dict_pairs rfl (hu3 hr)) rfl T.b_dict bt_dict (pa_cons (pe_op op_cat (pe_ix ix_tup (pv 1) (pe_int (i:=1)) (fun _ _=>rfl)) (pe_ix ix_tup (pv 1) (pe_int (i:=2)) (fun _ _=>rfl))) pa_nil)))
    (pss_one (ps_ret (pe_callB (call_anyL rfl) rfl T.b_any bt_any (pa_cons (pe_comp rfl (osc:=defScope s_gives_into) (N:=["one","other","known"]) (xs:=["place","worth"]) (ix:=[2]) (by decide +kernel) (pi_list (pe_ix ix_tup (pv 0) (pe_int (i:=2)) (fun _ _=>rfl))) (fun _ _ _ _=>(pg_tup rfl (pgs_cons (pg_name (i:=0) (show List.Nodup (["place","worth","known"]:List Str) from (by decide +kernel)) rfl (Or.inl rfl)) (pgs_cons (pg_name (i:=1) (show List.Nodup (["place","worth","known"]:List Str) from (by decide +kernel)) rfl (Or.inl rfl)) pgs_nil)))) (fun _ _ _ _=>pts_nil) (fun _ _ _ _=>(pe_cmpR (op_in_d (hu_of hr)) (pv 0) (pv 2) (by with_unfolding_all rfl)))) pa_nil))))),rdp_gives_into h1 h2 h3 h4 q⟩
theorem ok_meet (T:Txt K mg t):FnOk P w K mg base (CX1 P w) 2 t.a_meet t.d_meet ["one","other"] (sp_meet):=by
  refine T.f_meet.ok0 sc_meet (fun vs H Q E h=>?_) (fun cdv A outer s H vs Q E hr h=>?_)
  · obtain ⟨v,u,a,b,rfl,_⟩:=h;rfl
  obtain ⟨v,u,a,b,rfl,h1,h2,h3,h4,q⟩:=h
  exact ⟨rd_meet K t,(pss_one (ps_ret (pe_or (pe_call (FnOk.mono (ok_gives_into T) (by decide)) hr rfl T.m_gives_into T.f_gives_into.kp T.b_gives_into .nil pass10 (pa_cons (pv 0) (pa_cons (pv 1) pa_nil))) (pe_one (pe_call (FnOk.mono (ok_gives_into T) (by decide)) hr rfl T.m_gives_into T.f_gives_into.kp T.b_gives_into .nil pass10 (pa_cons (pv 1) (pa_cons (pv 0) pa_nil))))))),rdp_meet h1 h2 h3 h4 q⟩
theorem ok_meeting (T:Txt K mg t):FnOk P w K mg base (CX1 P w) 3 t.a_meeting t.d_meeting ["papers","ranks","rank"] (sp_meeting):=by
  refine T.f_meeting.ok0 sc_meeting (fun vs H Q E h=>?_) (fun cdv A outer s H vs Q E hr h=>?_)
  · obtain ⟨p,l,k,P,rs,rfl,_⟩:=h;rfl
  obtain ⟨p,l,k,P,rs,rfl,h1,h2,h3,h4,h5,q⟩:=h
  exact ⟨rd_meeting K t,(pss_one (ps_ret (pe_comp rfl (osc:=defScope s_meeting) (N:=["papers","ranks","rank"]) (xs:=["one"]) (ix:=[0,2]) (by decide +kernel) (pi_list (pv 1)) (fun _ _ _ _=>(pg_name (i:=0) (show List.Nodup (["one","papers","rank"]:List Str) from (by decide +kernel)) rfl (Or.inl rfl) (.inr rfl))) (fun _ _ _ _=>(pts_one (pt_val (pe_call (FnOk.mono (ok_meet T) (by decide)) hr rfl T.m_meet T.f_meet.kp T.b_meet .nil pass10 (pa_cons (pe_ix ix_list (pv 1) (pv 0) (fun _ _=>rfl)) (pa_cons (pe_ix ix_list (pv 1) (pv 2) (fun _ _=>rfl)) pa_nil)))))) (fun _ _ _ _=>(pv 0))))),rdp_meeting h1 h2 h3 h4 h5 q⟩
theorem ok_keeps (T:Txt K mg t):FnOk P w K mg base (CX1 P w) 4 t.a_keeps t.d_keeps ["papers","order"] (sp_keeps t):=by
  refine T.f_keeps.ok1 sc_keeps (fun vs H Q E h=>?_) (fun cdv A outer s H vs Q E hr h=>?_)
  · obtain ⟨p,l,P,ns,rfl,_⟩:=h;rfl
  obtain ⟨p,l,P,ns,rfl,h1,h2,h3,h4,q1,q2⟩:=h
  exact ⟨rd_keeps K t E,(pss_cons (ps_expr (pe_call (FnOk.mono (ok_heed_order T) (by decide)) hr rfl T.m_heed_order T.f_heed_order.kp T.b_heed_order .nil pass1 (pa_cons (pv 1) (pa_cons (pe_callB call_len rfl T.b_len bt_len (pa_cons (pv 0) pa_nil)) pa_nil))))
    (pss_cons (ps_for own1 rfl (pi_enum rfl T.b_enumerate (pa_cons (pv 1) pa_nil)) (pg_tup rfl (pgs_cons (pg_name (i:=2) sc_keeps.nd rfl (Or.inl rfl)) (pgs_cons (pg_name (i:=3) sc_keeps.nd rfl (Or.inr rfl)) pgs_nil))) (pss_cons (ps_setComp (j:=4) sc_keeps.nd rfl rfl (Or.inl rfl) (osc:=defScope s_keeps) (N:=["papers","order","at","rank","higher"]) (xs:=["other"]) (ix:=[3]) (by decide +kernel) (pi_list (pe_slice sl_list (pv 1) po_none (po_some (pv 2)))) (fun _ _ _ _=>(pg_name (i:=0) (show List.Nodup (["other","rank"]:List Str) from (by decide +kernel)) rfl (Or.inl rfl) (.inr rfl))) (fun _ _ _ _=>(pts_one (pt_cmpR op_gt (pv 0) (pv 1) (nomark _)))) (fun _ _ _ _=>(pv 0)))
    (pss_one (ps_if (pt_cmpR (op_neNil (hu64 hr)) (pe_call (FnOk.mono (ok_meeting T) (by decide)) hr rfl T.m_meeting T.f_meeting.kp T.b_meeting .nil pass1 (pa_cons (pv 0) (pa_cons (pv 4) (pa_cons (pv 3) pa_nil)))) (pe_lst pa_nil) (nomark _)) (pss_one (ps_ret (pe_bl (b:=false))))
      pss_nil))))
    (pss_one (ps_ret (pe_bl (b:=true)))))),rdp_keeps h1 h2 h3 h4 q1 q2⟩
theorem ok__law_none (T:Txt K mg t):FnOk P w K mg base (CX1 P w) 2 t.a__law_none t.d__law_none ["cell","order"] (sp__law_none):=by
  refine T.f__law_none.ok0 sc__law_none (fun vs H Q E h=>?_) (fun cdv A outer s H vs Q E hr h=>?_)
  · obtain ⟨c,l,os,n,rfl,_⟩:=h;rfl
  obtain ⟨c,l,os,n,rfl,h1,h2,h3,q⟩:=h
  exact ⟨rd__law_none K t,(pss_cons (ps_set (i:=2) sc__law_none.nd rfl (Or.inl rfl) (pe_callB call_len rfl T.b_len bt_len (pa_cons (pv 1) pa_nil)))
    (pss_cons (ps_set (i:=3) sc__law_none.nd rfl (Or.inl rfl) (pe_op op_mod (pe_call (FnOk.mono (ok__law_draw T) (by decide)) hr rfl T.m__law_draw T.f__law_draw.kp T.b__law_draw .nil pass10 (pa_cons (pv 0) (pa_cons (pe_int (i:=210)) pa_nil))) (pe_op op_add (pv 2) (pe_int (i:=1)))))
    (pss_cons (ps_set (i:=4) sc__law_none.nd rfl (Or.inl rfl) (pe_lst (pa_cons (pe_un un_neg (pe_int (i:=1))) (pa_cons (pv 2) (pa_cons (pe_op op_sub (pe_un un_neg (pe_int (i:=1))) (pe_op op_mod (pe_call (FnOk.mono (ok__law_draw T) (by decide)) hr rfl T.m__law_draw T.f__law_draw.kp T.b__law_draw .nil pass10 (pa_cons (pv 0) (pa_cons (pe_int (i:=211)) pa_nil))) (pe_op op_pow (pe_int (i:=10)) (pe_int (i:=6))))) (pa_cons (pe_op op_add (pv 2) (pe_op op_mod (pe_call (FnOk.mono (ok__law_draw T) (by decide)) hr rfl T.m__law_draw T.f__law_draw.kp T.b__law_draw .nil pass10 (pa_cons (pv 0) (pa_cons (pe_int (i:=211)) pa_nil))) (pe_int (i:=5)))) pa_nil))))))
    (pss_cons (ps_set (i:=4) sc__law_none.nd rfl (Or.inl rfl) (pe_op op_cat (pv 4) (pe_lst (pa_cons (pe_op op_add (pe_op op_pow (pe_int (i:=10)) (pe_int (i:=29))) (pe_op op_mod (pv 0) (pe_op op_pow (pe_int (i:=10)) (pe_int (i:=29))))) (pa_cons (pe_op op_add (pv 2) (pe_op op_mod (pv 0) (pe_op op_pow (pe_int (i:=10)) (pe_int (i:=29))))) pa_nil)))))
    (pss_cons (ps_set (i:=5) sc__law_none.nd rfl (Or.inl rfl) (pe_ix ix_list (pv 4) (pe_op op_mod (pe_call (FnOk.mono (ok__law_draw T) (by decide)) hr rfl T.m__law_draw T.f__law_draw.kp T.b__law_draw .nil pass10 (pa_cons (pv 0) (pa_cons (pe_int (i:=212)) pa_nil))) (pe_int (i:=6))) (fun _ _=>rfl)))
    (pss_cons (ps_set (i:=6) sc__law_none.nd rfl (Or.inl rfl) (pe_op op_mod (pe_call (FnOk.mono (ok__law_draw T) (by decide)) hr rfl T.m__law_draw T.f__law_draw.kp T.b__law_draw .nil pass10 (pa_cons (pv 0) (pa_cons (pe_int (i:=213)) pa_nil))) (pe_int (i:=4))))
    (pss_cons (ps_if (PW.pt (pw_or (pt_cmpR op_eq (pv 2) (pe_int (i:=0)) (nomark _)) (pw_or1 (pt_cmpR op_eq (pv 6) (pe_int (i:=0)) (nomark _))))) (pss_one (ps_ret (pe_op op_cat (pe_op op_cat (pe_slice sl_list (pv 1) po_none (po_some (pv 3))) (pe_lst (pa_cons (pv 5) pa_nil))) (pe_slice sl_list (pv 1) (po_some (pv 3)) po_none))))
      pss_nil)
    (pss_cons (ps_set (i:=3) sc__law_none.nd rfl (Or.inl rfl) (pe_op op_mod (pv 3) (pv 2)))
    (pss_cons (ps_if (pt_cmpR op_eq (pv 6) (pe_int (i:=1)) (nomark _)) (pss_one (ps_ret (pe_op op_cat (pe_slice sl_list (pv 1) po_none (po_some (pv 3))) (pe_slice sl_list (pv 1) (po_some (pe_op op_add (pv 3) (pe_int (i:=1)))) po_none))))
      pss_nil)
    (pss_cons (ps_if (pt_cmpR op_eq (pv 6) (pe_int (i:=2)) (nomark _)) (pss_one (ps_ret (pe_op op_cat (pe_op op_cat (pe_slice sl_list (pv 1) po_none (po_some (pv 3))) (pe_lst (pa_cons (pv 5) pa_nil))) (pe_slice sl_list (pv 1) (po_some (pe_op op_add (pv 3) (pe_int (i:=1)))) po_none))))
      pss_nil)
    (pss_cons (ps_set (i:=7) sc__law_none.nd rfl (Or.inl rfl) (pe_ix ix_list (pv 1) (pe_op op_mod (pe_call (FnOk.mono (ok__law_draw T) (by decide)) hr rfl T.m__law_draw T.f__law_draw.kp T.b__law_draw .nil pass10 (pa_cons (pv 0) (pa_cons (pe_int (i:=214)) pa_nil))) (pv 2)) (fun _ _=>rfl)))
    (pss_cons (ps_if (pt_cmpR op_eq (pv 7) (pe_ix ix_list (pv 1) (pv 3) (fun _ _=>rfl)) (nomark _)) (pss_one (ps_ret (pe_op op_cat (pv 1) (pe_lst (pa_cons (pv 7) pa_nil)))))
      pss_nil)
    (pss_one (ps_ret (pe_op op_cat (pe_op op_cat (pe_slice sl_list (pv 1) po_none (po_some (pv 3))) (pe_lst (pa_cons (pv 7) pa_nil))) (pe_slice sl_list (pv 1) (po_some (pe_op op_add (pv 3) (pe_int (i:=1)))) po_none)))))))))))))))),rdp__law_none h1 h2 h3 q⟩
theorem ok__law_refused (T:Txt K mg t):FnOk P w K mg base (CX1 P w) 5 t.a__law_refused t.d__law_refused ["papers","none"] (sp__law_refused):=by
  refine T.f__law_refused.ok0 sc__law_refused (fun vs H Q E h=>?_) (fun cdv A outer s H vs Q E hr h=>?_)
  · obtain ⟨p,l,P,ns,rfl,_⟩:=h;rfl
  obtain ⟨p,l,P,ns,rfl,h1,h2,h3,h4,h5,q⟩:=h
  exact ⟨rd__law_refused K t,(pss_cons (ps_set (i:=2) sc__law_refused.nd rfl (Or.inl rfl) (pe_callTy call_list_of rfl T.b_list bt_list (pa_cons (pv 1) pa_nil)))
    (pss_cons (ps_set (i:=3) sc__law_refused.nd rfl (Or.inl rfl) (pe_bl (b:=false)))
    (pss_cons (ps_set (i:=4) sc__law_refused.nd rfl (Or.inl rfl) (pe_bl (b:=false)))
    (pss_cons (ps_try (i:=5) (And.intro rfl rfl) rfl sc__law_refused.nd (psx_expr (pex_call (FnOk.mono (ok_keeps T) (by decide)) hr rfl T.m_keeps T.f_keeps.kp T.b_keeps (pa_cons (pv 0) (pa_cons (pv 2) pa_nil)))) rfl T.g_ForerunError rfl rfl (fun _=>(pss_cons (ps_set (i:=3) sc__law_refused.nd rfl (Or.inl rfl) (pe_and (pe_callB call_isx rfl T.b_isinstance bt_isinstance (pa_cons (pv 5) (pa_cons (pe_glob rfl T.g_NoOrder rfl) pa_nil))) (pe_one (pe_callB call_isx rfl T.b_isinstance bt_isinstance (pa_cons (pv 5) (pa_cons (pe_bltn rfl T.b_ValueError bt_ValueError rfl) pa_nil))))))
    (pss_one (ps_set (i:=4) sc__law_refused.nd rfl (Or.inl rfl) (pe_callB call_isxT rfl T.b_isinstance bt_isinstance (pa_cons (pv 5) (pa_cons (pe_tup (pa_cons (pe_glob rfl T.g_Folded rfl) (pa_cons (pe_glob rfl T.g_NoDealing rfl) (pa_cons (pe_glob rfl T.g_NoHand rfl) (pa_cons (pe_glob rfl T.g_NoLine rfl) (pa_cons (pe_glob rfl T.g_NoLog rfl) (pa_cons (pe_glob rfl T.g_NoNumber rfl) (pa_cons (pe_glob rfl T.g_NoTerm rfl) (pa_cons (pe_glob rfl T.g_Great rfl) (pa_cons (pe_glob rfl T.g_Nought rfl) pa_nil)))))))))) pa_nil))))))))
    (pss_one (ps_ret (pe_and (pv 3) (pe_and (pe_not (pv 4)) (pe_one (pe_cmpR (op_eqAll (hu64 hr)) (pv 2) (pv 1) (nomark _))))))))))),rdp__law_refused T h1 h2 h3 h4 h5 q⟩
theorem ok_law (T:Txt K mg t):FnOk P w K mg base (CX1 P w) 6 t.a_law t.d_law ["script"] (sp_law K):=by
  refine T.f_law.ok0 sc_law (fun vs H Q E h=>?_) (fun cdv A outer s H vs Q E hr h=>?_)
  · obtain ⟨a,ns,rfl,_⟩:=h;rfl
  obtain ⟨a,ns,rfl,hS,hn,q⟩:=h
  exact ⟨rd_law K t,(pss_cons (ps_set (i:=1) sc_law.nd rfl (Or.inl rfl) (pe_call (FnOk.mono (ok__law_shelves T) (by decide)) hr rfl T.m__law_shelves T.f__law_shelves.kp T.b__law_shelves .nil pass10 (pa_cons (pe_call (FnOk.mono (ok__law_cell_at T) (by decide)) hr rfl T.m__law_cell_at T.f__law_cell_at.kp T.b__law_cell_at .nil pass10 (pa_cons (pv 0) (pa_cons (pe_int (i:=1)) pa_nil))) (pa_cons (pe_int (i:=3)) pa_nil))))
    (pss_cons (ps_set (i:=2) sc_law.nd rfl (Or.inl rfl) (pe_call (FnOk.mono (ok__law_papers T) (by decide)) hr rfl T.m__law_papers T.f__law_papers.kp T.b__law_papers .nil pass10 (pa_cons (pv 0) (pa_cons (pv 1) pa_nil))))
    (pss_cons (ps_set (i:=3) sc_law.nd rfl (Or.inl rfl) (pe_call (FnOk.mono (ok__law_order T) (by decide)) hr rfl T.m__law_order T.f__law_order.kp T.b__law_order .nil pass10 (pa_cons (pv 0) (pa_cons (pv 2) pa_nil))))
    (pss_cons (ps_setComp (j:=4) sc_law.nd rfl rfl (Or.inl rfl) (osc:=defScope s_law) (N:=["script","shelves","papers","order","handed","given","due","told","none"]) (xs:=["paper"]) (ix:=[]) (by decide +kernel) (pi_list (pv 2)) (fun _ _ _ _=>(pg_name (i:=0) (show List.Nodup (["paper"]:List Str) from (by decide +kernel)) rfl (Or.inl rfl) (.inr rfl))) (fun _ _ _ _=>pts_nil) (fun _ _ _ _=>(pe_tup (pa_cons (pe_ix ix_tup (pv 0) (pe_int (i:=0)) (fun _ _=>rfl)) (pa_cons (pe_callTy call_list_of rfl T.b_list bt_list (pa_cons (pe_ix ix_tup (pv 0) (pe_int (i:=1)) (fun _ _=>rfl)) pa_nil)) (pa_cons (pe_callTy call_list_of rfl T.b_list bt_list (pa_cons (pe_ix ix_tup (pv 0) (pe_int (i:=2)) (fun _ _=>rfl)) pa_nil)) pa_nil))))))
    (pss_cons (ps_set (i:=5) sc_law.nd rfl (Or.inl rfl) (pe_callTy call_list_of rfl T.b_list bt_list (pa_cons (pv 3) pa_nil)))
    (pss_cons (ps_set (i:=6) sc_law.nd rfl (Or.inl rfl) (pe_call (FnOk.mono (ok__law_kept T) (by decide)) hr rfl T.m__law_kept T.f__law_kept.kp T.b__law_kept .nil pass10 (pa_cons (pv 2) (pa_cons (pv 3) pa_nil))))
    (pss_cons (ps_set (i:=7) sc_law.nd rfl (Or.inl rfl) (pe_call (FnOk.mono (ok_keeps T) (by decide)) hr rfl T.m_keeps T.f_keeps.kp T.b_keeps .nil pass10 (pa_cons (pv 4) (pa_cons (pv 5) pa_nil))))
    (pss_cons (ps_if (PW.pt (pw_or (pt_not (pt_val (pe_callB call_isi rfl T.b_isinstance bt_isinstance (pa_cons (pv 7) (pa_cons (pe_bltn rfl T.b_bool bt_bool rfl) pa_nil))))) (pw_or1 (pt_cmpR op_ne (pv 7) (pv 6) (nomark _))))) (pss_one (ps_ret (pe_bl (b:=false))))
      pss_nil)
    (pss_cons (ps_set (i:=8) sc_law.nd rfl (Or.inl rfl) (pe_call (FnOk.mono (ok__law_none T) (by decide)) hr rfl T.m__law_none T.f__law_none.kp T.b__law_none .nil pass10 (pa_cons (pe_call (FnOk.mono (ok__law_cell_at T) (by decide)) hr rfl T.m__law_cell_at T.f__law_cell_at.kp T.b__law_cell_at .nil pass10 (pa_cons (pv 0) (pa_cons (pe_int (i:=4)) pa_nil))) (pa_cons (pv 3) pa_nil))))
    (pss_cons (ps_if (pt_not (pt_val (pe_call (FnOk.mono (ok__law_refused T) (by decide)) hr rfl T.m__law_refused T.f__law_refused.kp T.b__law_refused .nil pass10 (pa_cons (pv 4) (pa_cons (pe_callTy call_list_of rfl T.b_list bt_list (pa_cons (pv 8) pa_nil)) pa_nil))))) (pss_one (ps_ret (pe_bl (b:=false))))
      pss_nil)
    (pss_cons (ps_if (PW.pt (pw_or (pt_cmpR op_ne (pe_call (FnOk.mono (ok_keeps T) (by decide)) hr rfl T.m_keeps T.f_keeps.kp T.b_keeps .nil pass10 (pa_cons (pv 4) (pa_cons (pv 5) pa_nil))) (pv 6) (nomark _)) (pw_or (pt_cmpR (op_neAll (hu64 hr)) (pv 4) (pv 2) (nomark _)) (pw_or1 (pt_cmpR (op_neAll (hu64 hr)) (pv 5) (pv 3) (nomark _)))))) (pss_one (ps_ret (pe_bl (b:=false))))
      pss_nil)
    (pss_one (ps_ret (pe_cmpR op_is_bl (pe_call (FnOk.mono (ok_keeps T) (by decide)) hr rfl T.m_keeps T.f_keeps.kp T.b_keeps .nil pass10 (pa_cons (pv 4) (pa_cons (pe_callB (call_sortedN rfl (hu3 hr)) rfl T.b_sorted bt_sorted (pa_cons (pv 3) pa_nil)) pa_nil))) (pe_bl (b:=true)) (nomark _))))))))))))))),rdp_law (kf K) (kit_same "bool") hS hn q⟩
end
end K53
open PySem PySem.W PyProof.Rows
def PySem.W.Fast.tw4192374848302568187:Unit:=()
def PySem.W.Fast.tw16449728489183794956:Unit:=()
def PySem.W.Fast.tw9830337699925905488:Unit:=()
def PySem.W.Fast.tw1852700881098724885:Unit:=()
def PySem.W.Fast.tw12734569841593584246:Unit:=()
def PySem.W.Fast.tw3472988610885035761:Unit:=()
def PySem.W.Fast.tw1447728755600770079:Unit:=()
def PySem.W.Fast.tw12388813491881258673:Unit:=()
def PySem.W.Fast.tw16598676553008801832:Unit:=()
def PySem.W.Fast.tw2917159600956708800:Unit:=()
def PySem.W.Fast.tw4391746883519747098:Unit:=()
def PySem.W.Fast.tw8494064737056602365:Unit:=()
def PySem.W.Fast.tw15102713620014627169:Unit:=()
def PySem.W.Fast.tw1023593246113637671:Unit:=()
def PySem.W.Fast.tw15120621390569699708:Unit:=()
def PySem.W.Fast.tw14885227640692942851:Unit:=()
def PySem.W.Fast.tw3529485112171127676:Unit:=()
def PySem.W.Fast.tw5429203748558401506:Unit:=()
def PySem.W.Fast.tw17117538728550200202:Unit:=()
def PySem.W.Fast.tw4167626958180590445:Unit:=()
def PySem.W.Fast.tw15597763427454282389:Unit:=()
def PySem.W.Fast.tw11472401861825394282:Unit:=()
def PySem.W.Fast.tw9976812469178805740:Unit:=()
def PySem.W.Fast.tw5606438725891268574:Unit:=()
def PySem.W.Fast.tw7502978325038671576:Unit:=()
def PySem.W.Fast.tw2630218289842080999:Unit:=()
def PySem.W.Fast.tw13218984147247812941:Unit:=()
def PySem.W.Fast.tw12897636124896107622:Unit:=()
def PySem.W.Fast.tw2212379436082128344:Unit:=()
def PySem.W.Fast.tw5083109116123846585:Unit:=()
def PySem.W.Fast.tw14610751001230803760:Unit:=()
def PySem.W.Fast.tw9943147393141413524:Unit:=()
def PySem.W.Fast.tw9427542099291711489:Unit:=()
def PySem.W.Fast.tw12924683627687741168:Unit:=()
def PySem.W.Fast.tw17585772499859362938:Unit:=()
def PySem.W.Fast.tw8901243888994774271:Unit:=()
def PySem.W.Fast.tw7813263354483384391:Unit:=()
def PySem.W.Fast.tw17519905195826848710:Unit:=()
def PySem.W.Fast.tw11370554754259087134:Unit:=()
def PySem.W.Fast.tw5440181393001446818:Unit:=()
def PySem.W.Fast.tw16907740273709995197:Unit:=()
def PySem.W.Fast.tw17078743663802794832:Unit:=()
def PySem.W.Fast.tw1484763782459990276:Unit:=()
def PySem.W.Fast.tw4706930254801164373:Unit:=()
def PySem.W.Fast.tw8600678578912204374:Unit:=()
def PySem.W.Fast.tw17794869072453033347:Unit:=()
def PySem.W.Fast.tw9112210755414944731:Unit:=()
def PySem.W.Fast.tw1009646807178171827:Unit:=()
def PySem.W.Fast.tw5506957372121154278:Unit:=()
def PySem.W.Fast.tw2315522832929771736:Unit:=()
def PySem.W.Fast.tw1153401455985134335:Unit:=()
def PySem.W.Fast.tw6322733729901125389:Unit:=()
def PySem.W.Fast.tw6518492416812095609:Unit:=()
def PySem.W.Fast.tw18361000464691344125:Unit:=()
def PySem.W.Fast.tw7536702532895890663:Unit:=()
def PySem.W.Fast.tw3741594928037950856:Unit:=()
def PySem.W.Fast.tw9216662549704964627:Unit:=()
def PySem.W.Fast.tw12097771460859819879:Unit:=()
def PySem.W.Fast.tw10747920898556091995:Unit:=()
def PySem.W.Fast.tw13476206742041654248:Unit:=()
def PySem.W.Fast.tw17133754740844609057:Unit:=()
def PySem.W.Fast.tw17040602910894649229:Unit:=()
def PySem.W.Fast.tw2427702956129300129:Unit:=()
def PySem.W.Fast.tw307705072352871912:Unit:=()
def PySem.W.Fast.tw8824728122334336342:Unit:=()
def PySem.W.Fast.tw11163698113493771275:Unit:=()
def PySem.W.Fast.tw9568221416976597632:Unit:=()
def PySem.W.Fast.tw17614173269633068572:Unit:=()
def PySem.W.Fast.tw17300406447963484423:Unit:=()
def PySem.W.Fast.tw11225928971278020060:Unit:=()
def PySem.W.Fast.tw449690296289527440:Unit:=()
def PySem.W.Fast.tw13164690201311506837:Unit:=()
def PySem.W.Fast.tw10233305293247235975:Unit:=()
def PySem.W.Fast.tw3829265525306190137:Unit:=()
def PySem.W.Fast.tw4606172929696930616:Unit:=()
def PySem.W.Fast.tw14225271060974766401:Unit:=()
def PySem.W.Fast.tw12232850234958898426:Unit:=()
def PySem.W.Fast.tw8460735531639522732:Unit:=()
def PySem.W.Fast.tw11688949764537936399:Unit:=()
def PySem.W.Fast.tw5591829865747332516:Unit:=()
def PySem.W.Fast.tw7969865620588980759:Unit:=()
def PySem.W.Fast.tw17807469781125496746:Unit:=()
def PySem.W.Fast.tw2953346621979472433:Unit:=()
def PySem.W.Fast.tw9372950767575452401:Unit:=()
def PySem.W.Fast.tw6982548809794713345:Unit:=()
def PySem.W.Fast.tw7535766472831084418:Unit:=()
def PySem.W.Fast.tw15910322700646425775:Unit:=()
def PySem.W.Fast.tw14327527335088102799:Unit:=()
def PySem.W.Fast.tw6942168174797416863:Unit:=()
def PySem.W.Fast.tw16054476143439172562:Unit:=()
def PySem.W.Fast.tw8600853577506475821:Unit:=()
def PySem.W.Fast.tw9272540409510984592:Unit:=()
def PySem.W.Fast.tw5956246140339162637:Unit:=()
def PySem.W.Fast.tw8442321394235655002:Unit:=()
def PySem.W.Fast.tw17841714649000594276:Unit:=()
def PySem.W.Fast.tw15183998347255054031:Unit:=()
def PySem.W.Fast.tw15229128517604552121:Unit:=()
def PySem.W.Fast.tw6836057656992912871:Unit:=()
def PySem.W.Fast.tw606187070495999546:Unit:=()
def PySem.W.Fast.tw7205642078282227877:Unit:=()
def PySem.W.Fast.tw11461485246677467328:Unit:=()
def PySem.W.Fast.tw15138566110121959105:Unit:=()
def PySem.W.Fast.tw1143355355087932474:Unit:=()
def PySem.W.Fast.tw17743026129038513700:Unit:=()
def PySem.W.Fast.tw9249697631076853541:Unit:=()
def PySem.W.Fast.tw11288662931840487445:Unit:=()
def PySem.W.Fast.tw10309056452729342648:Unit:=()
def PySem.W.Fast.tw7070307569500976977:Unit:=()
def PySem.W.Fast.tw13463635573103861245:Unit:=()
def PySem.W.Fast.tw1250552928610841911:Unit:=()
def PySem.W.Fast.tw4988931226969903280:Unit:=()
def PySem.W.Fast.tw10052467909006581803:Unit:=()
def PySem.W.Fast.tw5570562803851758463:Unit:=()
def PySem.W.Fast.tw5321883179803304430:Unit:=()
def PySem.W.Fast.tw12184732084726522448:Unit:=()
def PySem.W.Fast.tw7297402958834508050:Unit:=()
def PySem.W.Fast.tw1038253215977813339:Unit:=()
def PySem.W.Fast.tw2375428021204797745:Unit:=()
def PySem.W.Fast.tw2792512673196843243:Unit:=()
def PySem.W.Fast.tw3650170235006991059:Unit:=()
def PySem.W.Fast.tw12526472663573383501:Unit:=()
def PySem.W.Fast.tw3135617490726327582:Unit:=()
def PySem.W.Fast.tw9552362762072792905:Unit:=()
def PySem.W.Fast.tw14527374502589810595:Unit:=()
def PySem.W.Fast.tw12107056834293141728:Unit:=()
def PySem.W.Fast.tw10964135742514495292:Unit:=()
def PySem.W.Fast.tw11481573751011921464:Unit:=()
def PySem.W.Fast.tw16137241153422094744:Unit:=()
def PySem.W.Fast.tw18060174932843934483:Unit:=()
def PySem.W.Fast.tw9854312286638915053:Unit:=()
def PySem.W.Fast.tw14514802494387534849:Unit:=()
def PySem.W.Fast.tw16884648116108234150:Unit:=()
def PySem.W.Fast.tw2062280796225019408:Unit:=()
def PySem.W.Fast.tw8948574363926097080:Unit:=()
def PySem.W.Fast.tw17634748852287613638:Unit:=()
def PySem.W.Fast.tw572223653578769920:Unit:=()
def PySem.W.Fast.tw7638376130334709235:Unit:=()
def PySem.W.Fast.tw11481548295428316226:Unit:=()
def PySem.W.Fast.tw7274646461874146352:Unit:=()
def PySem.W.Fast.tw2935249548471984033:Unit:=()
def PySem.W.Fast.tw896508928473977314:Unit:=()
def PySem.W.Fast.tw3444258074575670733:Unit:=()
def PySem.W.Fast.tw192894042943159299:Unit:=()
def PySem.W.Fast.tw2644979391559752179:Unit:=()
def PySem.W.Fast.tw16176247286491430084:Unit:=()
def PySem.W.Fast.tw14480937383032060873:Unit:=()
def PySem.W.Fast.tw4808472220863336461:Unit:=()
def PySem.W.Fast.tw10935346406752486739:Unit:=()
def PySem.W.Fast.tw620233786942287785:Unit:=()
def PySem.W.Fast.tw564169022499411278:Unit:=()
def PySem.W.Fast.tw5848682401253788887:Unit:=()
def PySem.W.Fast.tw18081578791950592571:Unit:=()
def PySem.W.Fast.tw9788752640188197614:Unit:=()
def PySem.W.Fast.tw2563887509252296065:Unit:=()
def PySem.W.Fast.tw9034086590801592591:Unit:=()
def PySem.W.Fast.tw12775666217653542215:Unit:=()
def PySem.W.Fast.tw2655933855991015201:Unit:=()
def PySem.W.Fast.tw5489812224178232607:Unit:=()
def PySem.W.Fast.tw15801077596056494273:Unit:=()
def PySem.W.Fast.tw9160979159967049172:Unit:=()
def PySem.W.Fast.tw8587440883606982556:Unit:=()
def PySem.W.Fast.tw12941388767159243452:Unit:=()
def PySem.W.Fast.tw3461106851180913376:Unit:=()
def PySem.W.Fast.tw16763512274569693662:Unit:=()
def PySem.W.Fast.tw17351229889393970764:Unit:=()
def PySem.W.Fast.tw12369649539463938820:Unit:=()
def PySem.W.Fast.tw11177306204375083580:Unit:=()
def PySem.W.Fast.tw5397928376078979774:Unit:=()
def PySem.W.Fast.tw3966379658897419647:Unit:=()
def PySem.W.Fast.tw9328136855126330208:Unit:=()
def PySem.W.Fast.tw7795614850837523553:Unit:=()
def PySem.W.Fast.tw10857426627324814553:Unit:=()
def PySem.W.Fast.tw9492354445783043987:Unit:=()
def PySem.W.Fast.tw1543204107648839902:Unit:=()
def PySem.W.Fast.tw522008704800199401:Unit:=()
def PySem.W.Fast.tw14371471859548996660:Unit:=()
def PySem.W.Fast.tw4868086941638143074:Unit:=()
def PySem.W.Fast.tw6533396559381860397:Unit:=()
def PySem.W.Fast.tw7862397131919153998:Unit:=()
def PySem.W.Fast.tw3730012814959881259:Unit:=()
def PySem.W.Fast.tw12618858367128285937:Unit:=()
def PySem.W.Fast.tw1486859612806123788:Unit:=()
def PySem.W.Fast.tw16682656406369421590:Unit:=()
def PySem.W.Fast.tw7758411536393292290:Unit:=()
def PySem.W.Fast.tw13214077787280392193:Unit:=()
def PySem.W.Fast.tw15582607598066838918:Unit:=()
def PySem.W.Fast.tw5471064759338057914:Unit:=()
def PySem.W.Fast.tw820626102229712976:Unit:=()
def PySem.W.Fast.tw5606034084513315608:Unit:=()
def PySem.W.Fast.tw773385923564534993:Unit:=()
def PySem.W.Fast.tw3200910515423405401:Unit:=()
def PySem.W.Fast.tw8200189526687853979:Unit:=()
def PySem.W.Fast.tw8569754976173014642:Unit:=()
def PySem.W.Fast.tw683965016587438940:Unit:=()
def PySem.W.Fast.tw11003648181241065758:Unit:=()
def PySem.W.Fast.tw5773833916400650970:Unit:=()
def PySem.W.Fast.tw18021567338391110788:Unit:=()
def PySem.W.Fast.tw9754532187309191820:Unit:=()
def PySem.W.Fast.tw10734038348067532354:Unit:=()
def PySem.W.Fast.tw6377810267703112486:Unit:=()
def PySem.W.Fast.tw13640660419168410571:Unit:=()
def PySem.W.Fast.tw3372552734229643740:Unit:=()
def PySem.W.Fast.tw10886090902434705884:Unit:=()
def PySem.W.Fast.tw3716465584225707905:Unit:=()
def PySem.W.Fast.tw1026013602352458776:Unit:=()
def PySem.W.Fast.tw12846903191214395399:Unit:=()
def PySem.W.Fast.tw4346281383874813843:Unit:=()
def PySem.W.Fast.tw18095294433373610756:Unit:=()
def PySem.W.Fast.tw12448188784021224532:Unit:=()
def PySem.W.Fast.tw1185779587994691863:Unit:=()
def PySem.W.Fast.tw17912514636069839532:Unit:=()
def PySem.W.Fast.tw4585139595232965352:Unit:=()
def PySem.W.Fast.tw16922135663267411353:Unit:=()
def PySem.W.Fast.tw3614882416607574889:Unit:=()
def PySem.W.Fast.tw9995730396151568357:Unit:=()
def PySem.W.Fast.tw3723346133563845613:Unit:=()
def PySem.W.Fast.tw4130375923408774265:Unit:=()
def PySem.W.Fast.tw6779457332187795096:Unit:=()
def PySem.W.Fast.tw1245248292605705250:Unit:=()
def PySem.W.Fast.tw17966475650444027842:Unit:=()
def PySem.W.Fast.tw1817120285232261870:Unit:=()
def PySem.W.Fast.tw9370261370961754419:Unit:=()
def PySem.W.Fast.tw11728191809003656050:Unit:=()
def PySem.W.Fast.tw1654210311508037411:Unit:=()
def PySem.W.Fast.tw4164433000567093691:Unit:=()
def PySem.W.Fast.tw2775599133329153015:Unit:=()
def PySem.W.Fast.tw5200236852022200727:Unit:=()
def PySem.W.Fast.tw14439059350312596488:Unit:=()
def PySem.W.Fast.tw14723160680166177929:Unit:=()
def PySem.W.Fast.tw624809356231058922:Unit:=()
def PySem.W.Fast.tw12451857364363397563:Unit:=()
def PySem.W.Fast.tw4428432424266443297:Unit:=()
def PySem.W.Fast.tw2736884156973903752:Unit:=()
def PySem.W.Fast.tw12136452634167346505:Unit:=()
def PySem.W.Fast.tw8769308733721074189:Unit:=()
def PySem.W.Fast.tw11200687355913398007:Unit:=()
def PySem.W.Fast.tw248595670020880172:Unit:=()
def PySem.W.Fast.tw1827665003264028329:Unit:=()
def PySem.W.Fast.tw17322037478403275913:Unit:=()
def PySem.W.Fast.tw9370963548918250571:Unit:=()
def PySem.W.Fast.tw13796672946581273696:Unit:=()
def PySem.W.Fast.tw14204178555063428743:Unit:=()
def PySem.W.Fast.tw338380165399628553:Unit:=()
def PySem.W.Fast.tw226605423388362151:Unit:=()
def PySem.W.Fast.tw17640891015365684693:Unit:=()
def PySem.W.Fast.tw8289188695604313554:Unit:=()
def PySem.W.Fast.tw9003741955326450221:Unit:=()
def PySem.W.Fast.tw9543144232177122447:Unit:=()
def PySem.W.Fast.tw4771235219103652064:Unit:=()
def PySem.W.Fast.tw14987927958305115776:Unit:=()
def PySem.W.Fast.tw3635744157159048566:Unit:=()
def PySem.W.Fast.tw161761556912706444:Unit:=()
def PySem.W.Fast.tw10070996194124697959:Unit:=()
def PySem.W.Fast.tw251342875792254239:Unit:=()
def PySem.W.Fast.tw11332188201646740092:Unit:=()
def PySem.W.Fast.tw7541614136459110254:Unit:=()
def PySem.W.Fast.tw17515314934294746230:Unit:=()
def PySem.W.Fast.tw10654252979257804071:Unit:=()
def PySem.W.Fast.tw8121163264542766971:Unit:=()
def PySem.W.Fast.tw1678872987883071011:Unit:=()
def PySem.W.Fast.tw17393046308734004641:Unit:=()
def PySem.W.Fast.tw13392756189736867066:Unit:=()
def PySem.W.Fast.tw3507665007767851682:Unit:=()
def PySem.W.Fast.tw15820931301573173502:Unit:=()
def PySem.W.Fast.tw15648604021062902750:Unit:=()
def PySem.W.Fast.tw16718099671396281219:Unit:=()
def PySem.W.Fast.tw82435227508128200:Unit:=()
def PySem.W.Fast.tw6000763652127176626:Unit:=()
def PySem.W.Fast.tw7411397504912026336:Unit:=()
def PySem.W.Fast.tw16305728173257112879:Unit:=()
def PySem.W.Fast.tw5757172978851692618:Unit:=()
def PySem.W.Fast.tw3014376121122216701:Unit:=()
def PySem.W.Fast.tw12233374365928040769:Unit:=()
def PySem.W.Fast.tw10316852126297066304:Unit:=()
def PySem.W.Fast.tw9400534204799567935:Unit:=()
def PySem.W.Fast.tw15409887630992336796:Unit:=()
def PySem.W.Fast.tw15495379087267005159:Unit:=()
def PySem.W.Fast.tw5944922738396819028:Unit:=()
def PySem.W.Fast.tw8135707870461879814:Unit:=()
def PySem.W.Fast.tw4194341579601267235:Unit:=()
def PySem.W.Fast.tw16257931471092813558:Unit:=()
def PySem.W.Fast.tw4182590497305706900:Unit:=()
set_option maxRecDepth 100000 in
set_option maxHeartbeats 0 in
theorem PySem.Challenge.cw_forerun_k53_orders_that_keep_holds : PySem.Challenge.rw_forerun_k53_orders_that_keep.Holds := by
  w_on; o_law; k_head; (case hw => w_witness2)
  k_fill
  refine L2.walk_ofX (l := PySem.Challenge.rw_forerun_k53_orders_that_keep) (n := 63) (k := 6) (x := "script") (sp := K53.sp_law) rfl (by decide) rfl ⟨rfl, by decide, by decide⟩ (fun w h Y => PySem.W.kIn_of Y) ?F ?S
  case F =>
    intro w mg fa h KX G hmg
    have T : ∃ t, K53.Txt (L2.KOf KX) mg t := by
      dsimp only [L2.KOf]
      refine' K53.txt_mk KX G ?qa0 ?ql0 ?qc0 ?qk0 ?qa1 ?ql1 ?qc1 ?qk1 ?qa2 ?ql2 ?qc2 ?qk2 ?qa3 ?ql3 ?qc3 ?qk3 ?qa4 ?ql4 ?qc4 ?qk4 ?qa5 ?ql5 ?qc5 ?qk5 ?qa6 ?ql6 ?qc6 ?qk6 ?qa7 ?ql7 ?qc7 ?qk7 ?qa8 ?ql8 ?qc8 ?qk8 ?qa9 ?ql9 ?qc9 ?qk9 ?qa10 ?ql10 ?qc10 ?qk10 ?qa11 ?ql11 ?qc11 ?qk11 ?qa12 ?ql12 ?qc12 ?qk12 ?qa13 ?ql13 ?qc13 ?qk13 ?qa14 ?ql14 ?qc14 ?qk14 ?qa15 ?ql15 ?qc15 ?qk15 ?qa16 ?ql16 ?qc16 ?qk16 ?qa17 ?ql17 ?qc17 ?qk17 ?qz0 ?qz1 ?qz2 ?qz3 ?qz4 ?qz5 ?qz6 ?qz7 ?qz8 ?qz9 ?qv0 ?qv1 ?qv2 ?qv3 ?qv4 ?qv5 ?qv6 ?qv7 ?qv8 ?qv9 ?qv10 ?rx0 ?ry0_0 ?ry0_1 ?ry0_2 ?ry0_3 ?ry0_4 ?ry0_5 ?ry0_6 ?ry0_7 ?re0_0 ?ri0_0 ?ri0_1 ?rj0_0
      (case qv0 => k_is)
      (case qv1 => k_is)
      (case qv2 => k_is)
      (case qv3 => k_is)
      (case qv4 => k_is)
      (case qv5 => k_is)
      (case qv6 => k_is)
      (case qv7 => k_is)
      (case qv8 => k_is)
      (case qv9 => k_is)
      (case qv10 => k_is)
      (case qa0 => k_is)
      (case ql0 => k_is)
      (case qc0 => k_is)
      (case qk0 => k_is)
      (case qa1 => k_is)
      (case ql1 => k_is)
      (case qc1 => k_is)
      (case qk1 => k_is)
      (case qa2 => k_is)
      (case ql2 => k_is)
      (case qc2 => k_is)
      (case qk2 => k_is)
      (case qa3 => k_is)
      (case ql3 => k_is)
      (case qc3 => k_is)
      (case qk3 => k_is)
      (case qa4 => k_is)
      (case ql4 => k_is)
      (case qc4 => k_is)
      (case qk4 => k_is)
      (case qa5 => k_is)
      (case ql5 => k_is)
      (case qc5 => k_is)
      (case qk5 => k_is)
      (case qa6 => k_is)
      (case ql6 => k_is)
      (case qc6 => k_is)
      (case qk6 => k_is)
      (case qa7 => k_is)
      (case ql7 => k_is)
      (case qc7 => k_is)
      (case qk7 => k_is)
      (case qa8 => k_is)
      (case ql8 => k_is)
      (case qc8 => k_is)
      (case qk8 => k_is)
      (case qa9 => k_is)
      (case ql9 => k_is)
      (case qc9 => k_is)
      (case qk9 => k_is)
      (case qa10 => k_is)
      (case ql10 => k_is)
      (case qc10 => k_is)
      (case qk10 => k_is)
      (case qa11 => k_is)
      (case ql11 => k_is)
      (case qc11 => k_is)
      (case qk11 => k_is)
      (case qa12 => k_is)
      (case ql12 => k_is)
      (case qc12 => k_is)
      (case qk12 => k_is)
      (case qa13 => k_is)
      (case ql13 => k_is)
      (case qc13 => k_is)
      (case qk13 => k_is)
      (case qa14 => k_is)
      (case ql14 => k_is)
      (case qc14 => k_is)
      (case qk14 => k_is)
      (case qa15 => k_is)
      (case ql15 => k_is)
      (case qc15 => k_is)
      (case qk15 => k_is)
      (case qa16 => k_is)
      (case ql16 => k_is)
      (case qc16 => k_is)
      (case qk16 => k_is)
      (case qa17 => k_is)
      (case ql17 => k_is)
      (case qc17 => k_is)
      (case qk17 => k_is)
      (case qz0 => k_is)
      (case qz1 => k_is)
      (case qz2 => k_is)
      (case qz3 => k_is)
      (case qz4 => k_is)
      (case qz5 => k_is)
      (case qz6 => k_is)
      (case qz7 => k_is)
      (case qz8 => k_is)
      (case qz9 => k_is)
      (case rx0 => k_exc)
      (case ry0_0 => k_is)
      (case ry0_1 => k_is)
      (case ry0_2 => k_is)
      (case ry0_3 => k_is)
      (case ry0_4 => k_is)
      (case ry0_5 => k_is)
      (case ry0_6 => k_is)
      (case ry0_7 => k_is)
      (case re0_0 => kernel_rfl)
      (case ri0_0 => kit_is)
      (case ri0_1 => kit_is)
      (case rj0_0 => kit_is)
    obtain ⟨t, T⟩ := T
    have e0 := hmg.symm.trans T.m_law
    cases e0
    exact ⟨_, T.w_law, fun base _ _ => K53.ok_law T⟩
  case S => exact fun K H a ns hl _ hS => ⟨a, ns, rfl, hS, hl, fun _ => rfl⟩
