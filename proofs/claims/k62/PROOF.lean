import PyProof.Rows.All
import Wide.All
import OpenK.AllK
import Wide.FinOn
import Lean
import PyProof.EqAt
import PyProof.EqKinds
import PyProof.TupleCall
import PySem.Challenge.RW_forerun_k62_one_sign_exchanged
import KE.IntBitsLaws
import KE.KDictList
import KE.KDictOf
import KE.KEqDict
import KE.KIntText
import KE.KItemsList
import KE.KRevIter
import KE.KSortAsk
import KE.KSortTup
import KE.KSorted
import KE.KTryMore
import KE.LcSums
import PyProof.AttrMissHeap
import PyProof.Conv_int_bool
import PyProof.DictItems
import PyProof.DictKinds
import PyProof.DictWalks
import PyProof.EnumFor
import PyProof.EnumMake
import PyProof.EqAt
import PyProof.EqKinds
import PyProof.FitsStr
import PyProof.IsRules
import PyProof.ListIndexNeg
import PyProof.MeetsStr
import PyProof.MeetsStr3
import PyProof.NeKinds
import PyProof.NsDelKeeps
import PyProof.P3Eq
import PyProof.Rows.EqDataRows
import PyProof.Rows.Range3
import PyProof.Rows.SetFrom
import PyProof.SetKind
import PyProof.SetNew
import PyProof.StrCalls2
import PyProof.StrLaws
import PyProof.StrLawsTight
import PyProof.StrOps
import PyProof.StrOps2
import PyProof.StrWalks
import PyProof.TupleIter
import PyProof.TupleKey
import PyProof.TupleOfSeq
import PyProof.ZipIter
import Wide.ObjOpen
import Wide.RegSB
set_option Elab.async false
set_option linter.all false
set_option maxRecDepth 100000
namespace L2
open PySem PySem.Spec PyProof.Rows
abbrev Key:=Sum Int Str
def keyIs:Key→Value→Bool
  | .inl k,v=>Value.isInt k v
  | .inr x,v=>Value.isStrOf x v
def keyH (w:World):Key→Int
  | .inl k=>hashInt k
  | .inr x=>hashStr w x
theorem keyIs_shape:∀ {k:Key} {v:Value},keyIs k v=true→(∃ i t,k=Sum.inl i∧v=Value.int i t)∨(∃ x t,k=Sum.inr x∧v=Value.str x t)
  | .inl i,v,h=>by
    obtain ⟨t,e⟩:=Value.isInt_shape (k:=i) (v:=v) h
    exact .inl ⟨i,t,rfl,e⟩
  | .inr x,v,h=>by
    obtain ⟨t,e⟩:=Value.isStrOf_shape (x:=x) (v:=v) h
    exact .inr ⟨x,t,rfl,e⟩
theorem keyIs_int (i:Int) (t:Tok):keyIs (.inl i) (.int i t)=true:=by simp [keyIs,Value.isInt]
theorem keyIs_str (x:Str) (t:Tok):keyIs (.inr x) (.str x t)=true:=by simp [keyIs,Value.isStrOf]
theorem key_ll (a b:Int):decide ((Sum.inl a:Key)=Sum.inl b)=(a == b):=by
  by_cases e:a=b
  · subst e;simp
  · have h:¬ (Sum.inl a:Key)=Sum.inl b:=fun q=>e (Sum.inl.inj q)
    rw [decide_eq_false h]
    exact (beq_eq_false_iff_ne.mpr e).symm
theorem key_rr (a b:Str):decide ((Sum.inr a:Key)=Sum.inr b)=decide (a=b):=by
  by_cases e:a=b
  · subst e;simp
  · have h:¬ (Sum.inr a:Key)=Sum.inr b:=fun q=>e (Sum.inr.inj q)
    rw [decide_eq_false h,decide_eq_false e]
theorem key_lr (a:Int) (b:Str):decide ((Sum.inl a:Key)=Sum.inr b)=false:=decide_eq_false (fun q=>nomatch q)
theorem key_rl (a:Str) (b:Int):decide ((Sum.inr a:Key)=Sum.inl b)=false:=decide_eq_false (fun q=>nomatch q)
def mixKind (prog:Program) (w:World):PySem.KeyKind prog w Key where
  is:=keyIs
  hash:=keyH w
  inj:=fun v a b ha hb=>by
    rcases keyIs_shape ha with ⟨i,t,rfl,rfl⟩ | ⟨x,t,rfl,rfl⟩
    · rcases keyIs_shape hb with ⟨j,u,rfl,e⟩ | ⟨y,u,rfl,e⟩
      · injection e with e1 _;rw [e1]
      · exact nomatch e
    · rcases keyIs_shape hb with ⟨j,u,rfl,e⟩ | ⟨y,u,rfl,e⟩
      · exact nomatch e
      · injection e with e1 _;rw [e1]
  byValue:=fun k v h=>by
    rcases keyIs_shape h with ⟨i,t,rfl,rfl⟩ | ⟨x,t,rfl,rfl⟩ <;> rfl
  pyHash:=fun hv h=>by
    rcases keyIs_shape hv with ⟨i,t,rfl,rfl⟩ | ⟨x,t,rfl,rfl⟩
    · exact wpAny_pyHash_int h
    · exact wpAny_pyHash_str h
  eqBool:=fun hu hv h=>by
    rcases keyIs_shape hu with ⟨i,t,rfl,rfl⟩ | ⟨x,t,rfl,rfl⟩
    · rcases keyIs_shape hv with ⟨j,u,rfl,rfl⟩ | ⟨y,u,rfl,rfl⟩
      · rw [key_ll] at h;exact wpAny_eqBool_int h
      · rw [key_lr] at h;exact SeqAt.EqAt.int_str i t y u _ _ _ _ h
    · rcases keyIs_shape hv with ⟨j,u,rfl,rfl⟩ | ⟨y,u,rfl,rfl⟩
      · rw [key_rl] at h;exact SeqAt.EqAt.str_int x t j u _ _ _ _ h
      · rw [key_rr] at h;exact wpAny_eqBool_str h
  «strs»:=fun k x t v h=>by
    rcases keyIs_shape h with ⟨i,u,rfl,e⟩ | ⟨y,u,rfl,e⟩
    · exact nomatch e
    · injection e with e1 _
      subst e1
      cases v <;> rfl
theorem mixKind_int (prog:Program) (w:World) (i:Int) (t:Tok):(mixKind prog w).is (.inl i) (.int i t)=true:=keyIs_int i t
theorem mixKind_str (prog:Program) (w:World) (x:Str) (t:Tok):(mixKind prog w).is (.inr x) (.str x t)=true:=keyIs_str x t
end L2
namespace L2
open PySem PySem.Spec PyProof.Rows
inductive V where
  | non | bl (b:Bool) | int (i:Int) | str (x:Str) | byt (b:Array UInt8) | flt (b:UInt64) | ref (a:Addr) | ty (n:String)
  deriving DecidableEq
def RelV:V→Value→Prop
  | .non,u=>u=Value.none
  | .bl b,u=>u=Value.bool b
  | .int i,u=>∃ t,u=Value.int i t
  | .str x,u=>∃ t,u=Value.str x t
  | .byt b,u=>∃ t,u=Value.bytes b t
  | .flt b,u=>∃ t,u=Value.float b t
  | .ref a,u=>u=Value.ref a
  | .ty n,u=>u=Value.type n
abbrev Vals:List V→List Value→Prop:=Paired RelV
theorem Vals.length {xs:List V} {us:List Value} (r:Vals xs us):xs.length=us.length:=Paired.length r
theorem Vals.get:∀ {xs:List V} {us:List Value} {i:Nat} {x:V},Vals xs us→xs[i]?=some x→∃ u,us[i]?=some u∧RelV x u
  | _,_,_,_,.nil,e=>by simp at e
  | _,_,0,_,.cons r _,e=>by simp at e;subst e;exact ⟨_,rfl,r⟩
  | _,_,i + 1,x,.cons _ t,e=>by
    obtain ⟨u,h1,h2⟩:=Vals.get (i:=i) (x:=x) t (by simpa using e)
    exact ⟨u,by simpa using h1,h2⟩
theorem Vals.append:∀ {xs ys:List V} {us ws:List Value},Vals xs us→Vals ys ws→Vals (xs ++ ys) (us ++ ws)
  | _,_,_,_,.nil,s=>s
  | _,_,_,_,.cons r t,s=>.cons r (Vals.append t s)
theorem Vals.take:∀ {xs:List V} {us:List Value} (n:Nat),Vals xs us→Vals (xs.take n) (us.take n)
  | _,_,0,_=>.nil
  | _,_,_ + 1,.nil=>.nil
  | _,_,n + 1,.cons r t=>.cons r (Vals.take n t)
theorem Vals.drop:∀ {xs:List V} {us:List Value} (n:Nat),Vals xs us→Vals (xs.drop n) (us.drop n)
  | _,_,0,r=>r
  | _,_,_ + 1,.nil=>.nil
  | _,_,n + 1,.cons _ t=>Vals.drop n t
def RelO:Option V→Option Value→Prop
  | some v,some u=>RelV v u
  | none,none=>True
  | _,_=>False
def KV {κ:Type}:List (κ × V)→List (κ × Value)→Prop:=Paired fun (p:κ × V) (q:κ × Value)=>p.1=q.1∧RelV p.2 q.2
def kV:Key→V
  | .inl i=>.int i
  | .inr x=>.str x
inductive HO where
    | lst (xs:List V)
    | tup (xs:List V)
    | dK (kvs:List (Key × V)) | dT (kvs:List (List Key × V))
    | set (S:Int→Bool) (n:Nat)
    | ins (C dx:Addr) (fs:List (Str × V))
    | own (x:Addr)
    | xd (fs:List (Str × V))
    | met (f x:Addr)
    | rng (lo hi:Int)
    | frz (o:Obj) (u:HO)
    | tbl (ps:Array Value)
    | ext (φ:Heap→Prop)
abbrev Hp:=Addr→Option HO
def upd (H:Hp) (a:Addr) (o:HO):Hp:=fun b=>if b=a then some o else H b
theorem upd_same {H:Hp} {a:Addr} {o:HO}:upd H a o a=some o:=by unfold upd;rw [if_pos rfl]
theorem upd_ne {H:Hp} {a b:Addr} {o:HO} (h:b≠a):upd H a o b=H b:=by unfold upd;rw [if_neg h]
theorem ne_of {H:Hp} {a b:Addr} {o u:HO} (h:H a=some o) (h':H b=some u) (d:o≠u):a≠b:=by
  intro e;subst e;rw [h] at h';exact d (Option.some.inj h')
theorem ne_of_none {H:Hp} {a b:Addr} {o:HO} (h:H a=some o) (h':H b=none):a≠b:=by
  intro e;subst e;rw [h] at h';cases h'
section
variable (P:Program) (w:World)
def ObjOk (H:Hp) (h:Heap) (a:Addr):HO→Prop
  | .lst xs=>xs.length≤sizeLine∧∃ (its:List Value) (n:Nat),Vals xs its∧h.get? a=some { cls:=.type "list",data:=.seq its.toArray n }
  | .tup xs=>xs.length≤sizeLine∧∃ its:List Value,Vals xs its∧IsTup h a its.toArray
  | .dK kvs=>kvs.length≤sizeLine∧(a == sysModules)=false∧∃ vs,KV kvs vs∧h.DictOf (mixKind P w) a vs
  | .dT kvs=>kvs.length≤sizeLine∧(a == sysModules)=false∧∃ xs:List (List Key × Addr × Value),
      Paired (fun (p:List Key × V) (q:List Key × Addr × Value)=>p.1=q.1∧H q.2.1=some (.tup (p.1.map kV))∧RelV p.2 q.2.2) kvs xs ∧
      ∃ o es ep,h.get? a=some o∧o.ExactDict∧o.data=.dict es ep∧es.toList=xs.map (entryOfKey (tupleKind (mixKind P w)))∧(xs.map (·.1)).Nodup
  | .set S n=>h.SetOf (intKind P w) a S n
  | .ins C dx fs=>H dx=some (.own a)∧fs.length≤1000∧dx≠a∧h.get? a=some (PySem.W.instObj C dx) ∧
      ∃ mA,h.Ns1 dx mA∧(∀ f,RelO (fs.lookup f) (mA f))∧PySem.Within mA (fs.map (·.1))
  | .own _=>∃ o,h.get? a=some o
  | .xd fs=>∃ mA,h.Ns1 a mA∧∀ f,RelO (fs.lookup f) (mA f)
  | .rng lo hi=>∃ t u v,h.get? a=some { cls:=.type "range",data:=.fields #[.int lo t,.int hi u,.int 1 v] }
  | .frz o u=>h.get? a=some o∧ObjOk H h a u
  | .tbl ps=>h.get? a=some { cls:=.none,data:=.fields ps }
  | .met f x=>h.get? a=some (PySem.W.methodObj (.ref f) (.ref x))
  | .ext φ=>φ h∧(∃ o,h.get? a=some o)∧∀ h1 h2:Heap,φ h1→(∀ o,h1.get? a=some o→h2.get? a=some o)→φ h2
def HOk (H:Hp) (h:Heap):Prop:=∀ a o,H a=some o→ObjOk P w H h a o
end
section
variable {P:Program} {w:World} {H H':Hp} {h h':Heap} {a:Addr} {o:HO}
theorem ObjOk.lt (x:ObjOk P w H h a o):a < h.objs.size:=by
  cases o with
  | lst xs=>obtain ⟨_,_,_,_,e⟩:=x;exact Heap.lt_size e
  | tup xs=>obtain ⟨_,_,_,p⟩:=x;exact p.lt
  | dK kvs=>obtain ⟨_,_,_,_,o,_,_,e,_⟩:=x;exact Heap.lt_size e
  | dT kvs=>obtain ⟨_,_,_,_,o,_,_,e,_⟩:=x;exact Heap.lt_size e
  | set S n=>obtain ⟨o,_,_,_,e,_⟩:=x;exact Heap.lt_size e
  | ins C dx fs=>obtain ⟨_,_,_,e,_⟩:=x;exact Heap.lt_size e
  | own y=>obtain ⟨_,e⟩:=x;exact Heap.lt_size e
  | xd fs=>obtain ⟨_,⟨_,_,_,e,_⟩,_⟩:=x;exact Heap.lt_size e
  | rng lo hi=>obtain ⟨_,_,_,e⟩:=x;exact Heap.lt_size e
  | frz ob u=>obtain ⟨e,_⟩:=x;exact Heap.lt_size e
  | tbl ps=>exact Heap.lt_size (show h.get? a=some _ from x)
  | met f y=>exact Heap.lt_size (show h.get? a=some _ from x)
  | ext φ=>obtain ⟨_,⟨_,e⟩,_⟩:=x;exact Heap.lt_size e
theorem Paired.mapP {α β:Type} {F G:α→β→Prop}:∀ {l₁:List α} {l₂:List β},Paired F l₁ l₂→(∀ a b,F a b→G a b)→Paired G l₁ l₂
  | _,_,.nil,_=>.nil
  | _,_,.cons r t,f=>.cons (f _ _ r) (Paired.mapP t f)
theorem ObjOk.stay (x:ObjOk P w H h a o) (k:∀ b u,(b=a∨H b=some (.own a))→h.get? b=some u→h'.get? b=some u)
    (ho:∀ b,H b=some (.own a)→H' b=some (.own a)) (ht:∀ b xs,H b=some (.tup xs)→H' b=some (.tup xs)):ObjOk P w H' h' a o:=by
  induction o with
  | lst xs=>obtain ⟨z,its,n,r,e⟩:=x;exact ⟨z,its,n,r,k _ _ (.inl rfl) e⟩
  | tup xs=>obtain ⟨z,its,r,ob,e,c⟩:=x;exact ⟨z,its,r,ob,k _ _ (.inl rfl) e,c⟩
  | dK kvs=>obtain ⟨z,y,vs,r,ob,es,ep,e,c⟩:=x;exact ⟨z,y,vs,r,ob,es,ep,k _ _ (.inl rfl) e,c⟩
  | dT kvs =>
    obtain ⟨z,y,xs,r,ob,es,ep,e,c⟩:=x
    exact ⟨z,y,xs,Paired.mapP r fun p q z=>⟨z.1,ht _ _ z.2.1,z.2.2⟩,ob,es,ep,k _ _ (.inl rfl) e,c⟩
  | set S n=>obtain ⟨ob,es,ep,t,e,c⟩:=x;exact ⟨ob,es,ep,t,k _ _ (.inl rfl) e,c⟩
  | ins C dx fs =>
    obtain ⟨d,z,ne,e,mA,⟨od,es,ep,e2,c⟩,r⟩:=x
    exact ⟨ho _ d,z,ne,k _ _ (.inl rfl) e,mA,⟨od,es,ep,k _ _ (.inr d) e2,c⟩,r⟩
  | own y=>obtain ⟨ob,e⟩:=x;exact ⟨ob,k _ _ (.inl rfl) e⟩
  | xd fs=>obtain ⟨mA,⟨od,es,ep,e,c⟩,r⟩:=x;exact ⟨mA,⟨od,es,ep,k _ _ (.inl rfl) e,c⟩,r⟩
  | rng lo hi=>obtain ⟨t,u,v,e⟩:=x;exact ⟨t,u,v,k _ _ (.inl rfl) e⟩
  | frz ob u ih=>obtain ⟨e,q⟩:=x;exact ⟨k _ _ (.inl rfl) e,ih q⟩
  | tbl ps =>
    have e:h.get? a=some { cls:=.none,data:=.fields ps }:=x
    show h'.get? a=some { cls:=.none,data:=.fields ps }
    exact k a _ (.inl rfl) e
  | met f y =>
    have e:h.get? a=some (PySem.W.methodObj (.ref f) (.ref y)):=x
    show h'.get? a=some (PySem.W.methodObj (.ref f) (.ref y))
    exact k a _ (.inl rfl) e
  | ext φ=>obtain ⟨p,⟨o,e⟩,st⟩:=x;exact ⟨st _ _ p fun o q=>k _ _ (.inl rfl) q,⟨o,k _ _ (.inl rfl) e⟩,st⟩
theorem HOk.lt (x:HOk P w H h) (e:H a=some o):a < h.objs.size:=(x a o e).lt
theorem HOk.fresh (x:HOk P w H h) (e:h.objs.size≤a):H a=none:=by
  cases q:H a with
  | none=>rfl
  | some u=>exact absurd (Nat.lt_of_lt_of_le (x.lt q) e) (Nat.lt_irrefl _)
theorem HOk.kept (x:HOk P w H h) (k:∀ b u,h.get? b=some u→h'.get? b=some u):HOk P w H h':=fun a o e =>
  (x a o e).stay (fun b u _ q=>k b u q) (fun _ q=>q) fun _ _ q=>q
theorem HOk.laid (x:HOk P w H h) (k:∀ b u,h.get? b=some u→h'.get? b=some u) (hp:h.objs.size≤a) (new:ObjOk P w (upd H a o) h' a o):HOk P w (upd H a o) h':=fun b u e=>by
  have hn:=x.fresh hp
  by_cases hb:b=a
  · subst hb;rw [upd_same] at e;cases e;exact new
  · rw [upd_ne hb] at e
    exact (x b u e).stay (fun c v _ q=>k c v q) (fun c q=>by rw [upd_ne (ne_of_none q hn)];exact q) fun c xs q=>by rw [upd_ne (ne_of_none q hn)];exact q
end
def Rd (H:Hp) (a:Addr) (u:HO):Prop:=H a=some u∨∃ o,H a=some (.frz o u)
theorem Rd.ok {P:Program} {w:World} {H:Hp} {h:Heap} {a:Addr} {u:HO} (r:Rd H a u) (x:HOk P w H h):ObjOk P w H h a u:=by
  rcases r with r | ⟨o,r⟩
  · exact x a u r
  · obtain ⟨_,q⟩:=x a _ r
    exact q
def Mut:Option HO→Prop
  | some (.lst _)=>True
  | some (.dK _)=>True
  | some (.dT _)=>True
  | some (.set _ _)=>True
  | some (.ins _ _ _)=>True
  | some (.ext _)=>True
  | _=>False
section
variable {P:Program} {w:World} {H:Hp} {h h':Heap} {x e:Addr} {o':HO}
theorem HOk.write (ok:HOk P w H h) (mu:Mut (H x)) (he:e=x∨H e=some (.own x)) (k:∀ b u,b≠e→h.get? b=some u→h'.get? b=some u) (heo:∃ u,h'.get? e=some u)
    (new:ObjOk P w (upd H x o') h' x o'):HOk P w (upd H x o') h':=fun b u q=>by
  have nown:∀ c y,H c=some (.own y)→c≠x:=fun c y r z=>by subst z;rw [r] at mu;exact mu
  have ntup:∀ c xs,H c=some (.tup xs)→c≠x:=fun c xs r z=>by subst z;rw [r] at mu;exact mu
  by_cases hb:b=x
  · subst hb;rw [upd_same] at q;cases q;exact new
  · rw [upd_ne hb] at q
    by_cases hbe:b=e
    · have q':H b=some (.own x):=by
        rcases he with z | z
        · exact absurd (hbe.trans z) hb
        · rw [hbe];exact z
      rw [q] at q';cases q'
      obtain ⟨v,hv⟩:=heo
      exact ⟨v,by rw [hbe];exact hv⟩
    · refine (ok b u q).stay (fun c v hc r=>k c v ?_ r) (fun c r=>by rw [upd_ne (nown c b r)];exact r) fun c xs r=>by rw [upd_ne (ntup c xs r)];exact r
      rcases hc with rfl | hc
      · exact hbe
      · rintro rfl
        rcases he with z | z
        · exact nown c b hc z
        · rw [hc] at z;cases z;exact hb rfl
end
structure Un (fs ex:List Addr) (H H':Hp) (h h':Heap):Prop where
  keep:∀ b o,h.get? b=some o→H b=none→b ∉ fs→b ∉ ex→h'.get? b=some o
  slot:∀ b o,h.get? b=some o→H b=none→b∈fs→b ∉ ex→∃ sl,h'.get? b=some { o with slots:=sl }
  free:∀ b o,h.get? b=some o→H b=none→b ∉ ex→H' b=none
  there:∀ b o,h.get? b=some o→b ∉ ex→∃ o',h'.get? b=some o'
  tups:∀ b xs,H b=some (.tup xs)→H' b=some (.tup xs)
  frzs:∀ b o u,H b=some (.frz o u)→H' b=some (.frz o u)
  tbls:∀ b ps,H b=some (.tbl ps)→∃ more,H' b=some (.tbl (ps ++ more))
section
variable {fs fs' ex ex':List Addr} {H H1 H2:Hp} {h h1 h2 h':Heap} {a x e:Addr} {o:HO}
theorem Un.any (u:Un fs ex H H1 h h1) {b:Addr} {ob:Obj} (q:h.get? b=some ob) (n:H b=none) (hx:b ∉ ex):∃ sl,h1.get? b=some { ob with slots:=sl }:=by
  by_cases hb:b∈fs
  · exact u.slot b ob q n hb hx
  · exact ⟨ob.slots,u.keep b ob q n hb hx⟩
theorem Un.kept (k:∀ b u,h.get? b=some u→h'.get? b=some u):Un fs ex H H h h' :=
  ⟨fun b ob q _ _ _=>k b ob q,fun b ob q _ _ _=>⟨ob.slots,k b ob q⟩,fun _ _ _ n _=>n,fun b ob q _=>⟨ob,k b ob q⟩,fun _ _ q=>q,fun _ _ _ q=>q,fun _ ps q=>⟨#[],by rw [q];simp⟩⟩
theorem Un.refl:Un fs ex H H h h:=Un.kept fun _ _ q=>q
theorem Un.laid (k:∀ b u,h.get? b=some u→h'.get? b=some u) (hp:h.objs.size≤a) (hn:H a=none):Un fs ex H (upd H a o) h h' where
  keep:=fun b u q _ _ _=>k b u q
  slot:=fun b u q _ _ _=>⟨u.slots,k b u q⟩
  free:=fun b u q n _=>by rw [upd_ne (Nat.ne_of_lt (Nat.lt_of_lt_of_le (Heap.lt_size q) hp))];exact n
  there:=fun b u q _=>⟨u,k b u q⟩
  tups:=fun b xs q=>by rw [upd_ne (ne_of_none q hn)];exact q
  frzs:=fun b u xs q=>by rw [upd_ne (ne_of_none q hn)];exact q
  tbls:=fun b ps q=>⟨#[],by rw [upd_ne (ne_of_none q hn),q];simp⟩
theorem Un.write (mu:Mut (H x)) (he:e=x∨H e=some (.own x)) (k:∀ b u,b≠e→h.get? b=some u→h'.get? b=some u) (heo:∃ u,h'.get? e=some u):Un fs ex H (upd H x o) h h':=by
  have hx:∀ b,H b=none→b≠x:=fun b n z=>by subst z;rw [n] at mu;exact mu
  have hb:∀ b,H b=none→b≠e:=fun b n z=>by
    subst z
    rcases he with r | r
    · exact hx b n r
    · rw [n] at r;cases r
  have hm:∀ b u,H b=some u→¬ Mut (some u)→b≠x:=fun b u q nm z=>by subst z;rw [q] at mu;exact nm mu
  refine ⟨fun b u q n _ _=>k b u (hb b n) q,fun b u q n _ _=>⟨u.slots,k b u (hb b n) q⟩,fun b u q n _=>by rw [upd_ne (hx b n)];exact n,fun b u q _=>?_,
    fun b xs q=>by rw [upd_ne (hm b _ q fun z=>z)];exact q,fun b u xs q=>by rw [upd_ne (hm b _ q fun z=>z)];exact q,fun b ps q=>⟨#[],by rw [upd_ne (hm b _ q fun z=>z),q];simp⟩⟩
  by_cases hbe:b=e
  · subst hbe;exact heo
  · exact ⟨u,k b u hbe q⟩
end
def trk (h:Heap) (H:Hp):List Addr:=(List.range h.objs.size).filter fun a=>(H a).isSome
def hidT (h:Heap) (H:Hp):Heap:=PySem.W.hideAll h (trk h H)
theorem hidT_size (h:Heap) (H:Hp):(hidT h H).objs.size=h.objs.size:=PySem.W.hideAll_size _ _
theorem hidT_get {h:Heap} {H:Hp} {b:Addr} {o:Obj} (e:h.get? b=some o) (n:H b=none):(hidT h H).get? b=some o :=
  PySem.W.hideAll_get _ e fun hm=>by
    have q:(H b).isSome=true:=(List.mem_filter.mp hm).2
    rw [n] at q;simp at q
theorem of_hidT {h:Heap} {H:Hp} {b:Addr} {o:Obj} (e:(hidT h H).get? b=some o):h.get? b=some o∧H b=none:=by
  have e':h.get? b=some o:=PySem.W.of_hideAll (trk h H) e
  refine ⟨e',?_⟩
  cases q:H b with
  | none=>rfl
  | some x =>
    have hm:b∈trk h H:=List.mem_filter.mpr ⟨List.mem_range.mpr (Heap.lt_size e'),by simp [q]⟩
    have z:(hidT h H).get? b=none:=PySem.W.hideAll_none (trk h H) hm
    rw [z] at e;cases e
def allNews (g h:Heap) (L:Addr):List (Addr × Obj):=(List.range h.objs.size).filterMap fun a=>if a=L∨(g.get? a).isSome=true then none else (h.get? a).map fun o=>(a,o)
def rest (g h:Heap) (L d:Addr):List (Addr × Obj):=(allNews g h L).filter fun p=>decide (p.1≠d)
end L2
namespace L2
open PySem PySem.Spec PyProof.Rows
structure Mod (K:PySem.W.Frag) (mg:Str→Option Value) (base:Heap):Prop where
  kin:K.In base
  glob:base.Ns mainGlobals mg
  blt:∃ mb,base.Ns builtinsNs mb∧∀ x:Str,x≠"__name__"→mb x=bootBuiltins x
  nolimit:base.NoLimit
set_option genSizeOf false in
set_option genInjectivity false in
structure Cx where
  prog:Program
  w:World
  K:PySem.W.Frag
  mg:Str→Option Value
  base:Heap
  A:Around
  N:List Str
  s₀:Shared
  H₀:Hp
  env:Env
  outer:List Env
  stack:List Env
  ex:List Addr
  fn:Str→Bool
  calm:Bool
  pn:List (Addr × Obj)
  xe:Value→Shared→Prop
def frs (l:List Env):List Addr:=l.filterMap (·.frame)
abbrev Cx.fs (X:Cx):List Addr:=frs X.outer
def Vis (sc:Scope) (x:Str):Prop:=sc.names.lookup x=some .local∨sc.names.lookup x=some .cell∨sc.names.lookup x=some .free
def Loc (sc:Scope) (x:Str):Prop:=sc.names.lookup x=some .local∨sc.names.lookup x=some .cell
def Look (env:Env) (h:Heap) (m:Str→Option Value) (x:Str) (u:Value):Prop :=
  (env.kindOf x=some .local∧m x=some u)∨((env.kindOf x=some .cell∨env.kindOf x=some .free)∧∃ c,env.cells.lookup x=some c∧h.IsCell c (some u))
structure Cx.Ok (X:Cx):Prop where
  mod:Mod X.K X.mg X.base
  kind:X.env.scope.kind=.function
  glob:X.env.globals=mainGlobals
  blt:X.env.builtins=builtinsNs
  above:X.s₀.heap.objs.size≤X.env.locals
  inj:∀ x y c,X.env.cells.lookup x=some c→X.env.cells.lookup y=some c→x=y
  has:∀ x,(X.env.kindOf x=some .cell∨X.env.kindOf x=some .free)→∃ c,X.env.cells.lookup x=some c
  cab:∀ x c,X.fn x=true→X.env.cells.lookup x=some c→X.s₀.heap.objs.size≤c
  hd:X.calm=true→X.A.handled=none
  frames:X.A.frames=some X.stack
  stk:X.stack=X.outer∨(X.stack=X.env :: X.outer∧X.env.frame=some X.env.locals)
  exf:∀ b∈X.ex,b≠X.env.locals∧∀ x c,X.env.cells.lookup x=some c→c≠b
  bs:∀ b o,X.base.get? b=some o→X.s₀.heap.get? b=some o∧X.H₀ b=none
  bsz:X.base.objs.size≤X.s₀.heap.objs.size
  noex:∀ b o,X.base.get? b=some o→b ∉ X.ex
  exfs:∀ b∈X.ex,b ∉ X.fs
  funs:X.s₀.heap.FunFrames X.base X.outer
  frf:∀ b∈X.fs,X.H₀ b=none
structure Inv (X:Cx) (pins:List (Addr × Obj)) (σ:List (Option V)) (H:Hp) (s:Shared):Prop where
  ok:X.Ok
  os:s.os=X.s₀.os
  bare:AllBare s.gens
  base:Un X.fs X.ex X.H₀ H X.s₀.heap s.heap
  loc:∃ m,s.heap.Ns X.env.locals m∧∀ (i:Nat) (x:Str) (v:V),X.N[i]?=some x→σ[i]?=some (some v)→Vis X.env.scope x→∃ u,RelV v u∧Look X.env s.heap m x u
  cell:∀ x c,X.env.cells.lookup x=some c→∃ v,s.heap.IsCell c v
  free:H X.env.locals=none
  freeC:∀ x c,X.env.cells.lookup x=some c→H c=none
  pin:∀ p∈X.pn ++ pins,s.heap.get? p.1=some p.2∧H p.1=none∧p.1≠X.env.locals∧p.1 ∉ X.fs∧∀ v,p.2.data≠.cell v
  hok:HOk X.prog X.w H s.heap
  len:σ.length=X.N.length
section
variable {X:Cx} {pins:List (Addr × Obj)} {σ:List (Option V)} {H H':Hp} {s:Shared} {h':Heap}
theorem Cx.Ok.nofr (ok:X.Ok) {b:Addr} {o:Obj} (e:X.base.get? b=some o):b ∉ X.fs:=fun hb=>by
  have:=(ok.funs.mem hb).1
  rw [e] at this;cases this
theorem Inv.bs (I:Inv X pins σ H s):∀ b o,X.base.get? b=some o→s.heap.get? b=some o∧H b=none:=fun b o e =>
  ⟨I.base.keep b o (I.ok.bs b o e).1 (I.ok.bs b o e).2 (I.ok.nofr e) (I.ok.noex b o e),I.base.free b o (I.ok.bs b o e).1 (I.ok.bs b o e).2 (I.ok.noex b o e)⟩
theorem Inv.bk (I:Inv X pins σ H s):∀ b o,X.base.get? b=some o→s.heap.get? b=some o:=fun b o e=>(I.bs b o e).1
theorem Inv.mod (I:Inv X pins σ H s):Mod X.K X.mg X.base:=I.ok.mod
theorem Inv.kIn (I:Inv X pins σ H s):X.K.In s.heap:=I.ok.mod.kin.keeps I.bk
theorem Inv.lt (I:Inv X pins σ H s):X.env.locals < s.heap.objs.size:=let ⟨_,hn,_⟩:=I.loc;hn.lt
theorem Inv.sz (I:Inv X pins σ H s):X.s₀.heap.objs.size≤s.heap.objs.size:=Nat.le_trans I.ok.above (Nat.le_of_lt I.lt)
theorem Inv.nofs (I:Inv X pins σ H s) {a:Addr} (h:s.heap.objs.size≤a):a ∉ X.fs:=fun hb=>by
  obtain ⟨_,o,ho,_⟩:=I.ok.funs.mem hb
  exact absurd (Nat.lt_of_lt_of_le (Heap.lt_size ho) (Nat.le_trans I.sz h)) (Nat.lt_irrefl _)
theorem Inv.cne (I:Inv X pins σ H s):∀ x c,X.env.cells.lookup x=some c→c≠X.env.locals:=fun x c e z=>by
  obtain ⟨v,o,ho,hd⟩:=I.cell x c e
  obtain ⟨m,⟨o',es,ep,ho',hd',_⟩,_⟩:=I.loc
  rw [z,ho'] at ho;cases ho;rw [hd'] at hd;cases hd
theorem Inv.funs (I:Inv X pins σ H s):s.heap.FunFrames X.base X.outer:=by
  have all:∀ (l:List Env),(∀ b∈frs l,b∈X.fs)→X.s₀.heap.FunFrames X.base l→s.heap.FunFrames X.base l:=by
    intro l
    induction l with
    | nil=>intro _ _;trivial
    | cons env r ih =>
      intro hs hl
      obtain ⟨hk,⟨L,o,hf,hn,ho,hd⟩,hr⟩:=hl
      have hL:L∈X.fs:=hs L (by unfold frs;rw [List.filterMap_cons,hf];exact List.mem_cons_self)
      obtain ⟨sl,e⟩:=I.base.slot L o ho (I.ok.frf L hL) hL fun z=>I.ok.exfs L z hL
      exact ⟨hk,⟨L,_,hf,hn,e,hd⟩,ih (fun b hb=>hs b (by unfold frs;rw [List.filterMap_cons,hf];exact List.mem_cons_of_mem _ hb)) hr⟩
  exact all X.outer (fun _ hb=>hb) I.ok.funs
theorem Inv.stack (I:Inv X pins σ H s):s.heap.FunFrames X.base X.stack:=by
  rcases I.ok.stk with e | ⟨e,hf⟩
  · rw [e];exact I.funs
  · rw [e]
    obtain ⟨m,hn,_⟩:=I.loc
    refine .cons (by rw [I.ok.kind];decide) hf hn ?_ I.funs
    exact Heap.get?_none_of_le (Nat.le_trans I.ok.bsz I.ok.above)
theorem Inv.stkSub (I:Inv X pins σ H s):∀ b∈frs X.stack,b∈X.env.locals :: X.fs:=fun b hb=>by
  rcases I.ok.stk with e | ⟨e,hf⟩
  · rw [e] at hb;exact List.mem_cons_of_mem _ hb
  · rw [e] at hb
    unfold frs at hb
    rw [List.filterMap_cons,hf] at hb
    exact hb
theorem Inv.stkFree (I:Inv X pins σ H s):∀ b∈frs X.stack,H b=none:=fun b hb=>by
  rcases List.mem_cons.mp (I.stkSub b hb) with e | hb
  · rw [e];exact I.free
  · obtain ⟨_,o,ho,_⟩:=I.ok.funs.mem hb
    exact I.base.free b o ho (I.ok.frf b hb) fun z=>I.ok.exfs b z hb
theorem Inv.step {g':Array GenState} {t':Nat} {d':Drawn} {ch:List Addr} (I:Inv X pins σ H s)
    (hch:∀ b∈ch,(b∈X.ex∨X.s₀.heap.objs.size≤b)∧b≠X.env.locals∧(∀ x c,X.env.cells.lookup x=some c→c≠b)∧∀ p∈X.pn ++ pins,p.1≠b)
    (keep:∀ b o,b≠X.env.locals→b ∉ X.fs→b ∉ ch→s.heap.get? b=some o→H b=none→h'.get? b=some o)
    (slot:∀ b o,b≠X.env.locals→b∈X.fs→b ∉ ch→s.heap.get? b=some o→H b=none→∃ sl,h'.get? b=some { o with slots:=sl }) (free:∀ b o,b ∉ ch→s.heap.get? b=some o→H b=none→H' b=none)
    (there:∀ b o,b ∉ ch→s.heap.get? b=some o→∃ o',h'.get? b=some o')
    (tups:∀ b xs,H b=some (.tup xs)→H' b=some (.tup xs)) (frzs:∀ b o u,H b=some (.frz o u)→H' b=some (.frz o u)) (tbls:∀ b ps,H b=some (.tbl ps)→∃ more,H' b=some (.tbl (ps ++ more)))
    (ns:∀ m,s.heap.Ns X.env.locals m→h'.Ns X.env.locals m) (hok:HOk X.prog X.w H' h') (hg:AllBare g') :
    Inv X pins σ H' { s with heap:=h',gens:=g',drawn:=d',toks:=t' }:=by
  have neL:∀ b o,X.s₀.heap.get? b=some o→b≠X.env.locals:=fun b o e=>Nat.ne_of_lt (Nat.lt_of_lt_of_le (Heap.lt_size e) I.ok.above)
  have neC:∀ b o,X.s₀.heap.get? b=some o→b ∉ X.ex→b ∉ ch:=fun b o e hx hb=>by
    rcases (hch b hb).1 with z | z
    · exact hx z
    · exact absurd (Nat.lt_of_lt_of_le (Heap.lt_size e) z) (Nat.lt_irrefl _)
  have cellK:∀ x c,X.env.cells.lookup x=some c→∀ v,s.heap.IsCell c v→h'.IsCell c v:=fun x c e v ⟨o,ho,hd⟩=>by
    have nch:c ∉ ch:=fun z=>(hch c z).2.2.1 x c e rfl
    by_cases hc:c∈X.fs
    · obtain ⟨sl,q⟩:=slot c o (I.cne x c e) hc nch ho (I.freeC x c e)
      exact ⟨_,q,hd⟩
    · exact ⟨o,keep c o (I.cne x c e) hc nch ho (I.freeC x c e),hd⟩
  refine ⟨I.ok,I.os,hg,⟨fun b o e n hb hx=>?_,fun b o e n hb hx=>?_,fun b o e n hx=>?_,fun b o e hx=>?_,fun b xs e=>tups b xs (I.base.tups b xs e),fun b o xs e=>frzs b o xs (I.base.frzs b o xs e),fun b ps e=>?_⟩,?_,fun x c e=>?_,?_,fun x c e=>?_,fun p hp=>?_,hok,I.len⟩
  · exact keep b o (neL b o e) hb (neC b o e hx) (I.base.keep b o e n hb hx) (I.base.free b o e n hx)
  · obtain ⟨sl,e1⟩:=I.base.slot b o e n hb hx
    obtain ⟨sl',e2⟩:=slot b _ (neL b o e) hb (neC b o e hx) e1 (I.base.free b o e n hx)
    exact ⟨sl',e2⟩
  · obtain ⟨o',e1⟩:=I.base.there b o e hx
    exact free b o' (neC b o e hx) e1 (I.base.free b o e n hx)
  · obtain ⟨o',e1⟩:=I.base.there b o e hx
    exact there b o' (neC b o e hx) e1
  · obtain ⟨m1,e1⟩:=I.base.tbls b ps e
    obtain ⟨m2,e2⟩:=tbls b _ e1
    exact ⟨m1 ++ m2,by rw [e2,Array.append_assoc]⟩
  · obtain ⟨m,hn,hl⟩:=I.loc
    refine ⟨m,ns m hn,fun i x v e1 e2 e3=>?_⟩
    obtain ⟨u,r,l⟩:=hl i x v e1 e2 e3
    refine ⟨u,r,?_⟩
    rcases l with l | ⟨k,c,e,z⟩
    · exact .inl l
    · exact .inr ⟨k,c,e,cellK x c e _ z⟩
  · obtain ⟨v,z⟩:=I.cell x c e
    exact ⟨v,cellK x c e v z⟩
  · obtain ⟨m,⟨o,_,_,ho,_⟩,_⟩:=I.loc
    exact free _ o (fun z=>(hch _ z).2.1 rfl) ho I.free
  · obtain ⟨v,o,ho,hd⟩:=I.cell x c e
    exact free c o (fun z=>(hch c z).2.2.1 x c e rfl) ho (I.freeC x c e)
  · obtain ⟨e,n,ne,nf,d⟩:=I.pin p hp
    have nch:p.1 ∉ ch:=fun z=>(hch p.1 z).2.2.2 p hp rfl
    exact ⟨keep p.1 p.2 ne nf nch e n,free p.1 p.2 nch e n,ne,nf,d⟩
theorem Inv.un {t':Nat} (I:Inv X pins σ H s) (u:Un X.fs [] H H' s.heap h') (hok:HOk X.prog X.w H' h'):Inv X pins σ H' { s with heap:=h',toks:=t' }:=by
  obtain ⟨m,⟨o,es,ep,ho,r⟩,_⟩:=id I.loc
  obtain ⟨sl,hL⟩:=u.any ho I.free (by simp)
  exact I.step (g':=s.gens) (d':=s.drawn) (ch:=[]) (fun _ z=>nomatch z) (fun b o _ hb _ e n=>u.keep b o e n hb (by simp)) (fun b o _ hb _ e n=>u.slot b o e n hb (by simp)) (fun b o _ e n=>u.free b o e n (by simp)) (fun b o _ e=>u.there b o e (by simp)) u.tups u.frzs u.tbls (fun m' hm=>by
    obtain ⟨o',es',ep',ho',r'⟩:=hm
    rw [ho] at ho';cases ho'
    exact ⟨_,es',ep',hL,r'⟩) hok I.bare
theorem Inv.call {g':Array GenState} {t':Nat} {d':Drawn} {ch:List Addr} (I:Inv X pins σ H s) (u:Un (frs X.stack) ch H H' s.heap h') (hok:HOk X.prog X.w H' h') (hg:AllBare g')
    (hch:∀ b∈ch,(b∈X.ex∨X.s₀.heap.objs.size≤b)∧b≠X.env.locals∧(∀ x c,X.env.cells.lookup x=some c→c≠b)∧∀ p∈X.pn ++ pins,p.1≠b) :
    Inv X pins σ H' { s with heap:=h',gens:=g',drawn:=d',toks:=t' }:=by
  obtain ⟨m,⟨o,es,ep,ho,r⟩,_⟩:=id I.loc
  obtain ⟨sl,hL⟩:=u.any ho I.free fun z=>(hch _ z).2.1 rfl
  exact I.step (ch:=ch) hch (fun b o hL hb hc e n=>u.keep b o e n (fun z=>(List.mem_cons.mp (I.stkSub b z)).elim hL hb) hc) (fun b o _ _ hc e n=>u.any e n hc) (fun b o hc e n=>u.free b o e n hc) (fun b o hc e=>u.there b o e hc) u.tups u.frzs u.tbls (fun m' hm=>by
    obtain ⟨o',es',ep',ho',r'⟩:=hm
    rw [ho] at ho';cases ho'
    exact ⟨_,es',ep',hL,r'⟩) hok hg
theorem Inv.turned {t':Nat} {it:Addr} (I:Inv X pins σ H s) (k:∀ b o,b≠it→s.heap.get? b=some o→h'.get? b=some o) (hn:H it=none) (hL:it≠X.env.locals)
    (h1:it∈X.ex∨X.s₀.heap.objs.size≤it) (h2:∀ x c,X.env.cells.lookup x=some c→c≠it) (h3:∀ p∈X.pn ++ pins,p.1≠it):Inv X pins σ H { s with heap:=h',toks:=t' }:=by
  have nit:∀ b u,H b=some u→b≠it:=fun b u e z=>by rw [z,hn] at e;cases e
  refine I.step (g':=s.gens) (d':=s.drawn) (ch:=[it]) (fun b hb=>?_) (fun b o _ _ hc e _=>k b o (fun z=>hc (by simp [z])) e) (fun b o _ _ hc e _=>⟨o.slots,k b o (fun z=>hc (by simp [z])) e⟩) (fun _ _ _ _ n=>n)
    (fun b o hc e=>⟨o,k b o (fun z=>hc (by simp [z])) e⟩) (fun _ _ e=>e) (fun _ _ _ e=>e) (fun b ps e=>⟨#[],by rw [e];simp⟩) (fun m hm=>?_) (fun b u e=>?_) I.bare
  · have e:b=it:=by simpa using hb
    subst e
    exact ⟨h1,hL,h2,h3⟩
  · obtain ⟨o,es,ep,ho,r⟩:=hm
    exact ⟨o,es,ep,k _ o (Ne.symm hL) ho,r⟩
  · refine (I.hok b u e).stay (fun c v hc q=>k c v ?_ q) (fun _ q=>q) fun _ _ q=>q
    rcases hc with z | z
    · rw [z];exact nit b u e
    · exact nit c _ z
theorem Inv.tok (I:Inv X pins σ H s) (t:Nat):Inv X pins σ H { s with toks:=t }:=I.un (h':=s.heap) (t':=t) Un.refl I.hok
theorem Inv.kept {t':Nat} (I:Inv X pins σ H s) (k:∀ b u,s.heap.get? b=some u→h'.get? b=some u):Inv X pins σ H { s with heap:=h',toks:=t' }:=I.un (Un.kept k) (I.hok.kept k)
theorem Inv.laid {a:Addr} {o:HO} {t':Nat} (I:Inv X pins σ H s) (k:∀ b u,s.heap.get? b=some u→h'.get? b=some u) (hp:s.heap.objs.size≤a) (new:ObjOk X.prog X.w (upd H a o) h' a o) :
    Inv X pins σ (upd H a o) { s with heap:=h',toks:=t' }:=I.un (Un.laid k hp (I.hok.fresh hp)) (I.hok.laid k hp new)
theorem Inv.write {x e:Addr} {o:HO} {t':Nat} (I:Inv X pins σ H s) (mu:Mut (H x)) (he:e=x∨H e=some (.own x)) (k:∀ b u,b≠e→s.heap.get? b=some u→h'.get? b=some u) (heo:∃ u,h'.get? e=some u)
    (new:ObjOk X.prog X.w (upd H x o) h' x o):Inv X pins σ (upd H x o) { s with heap:=h',toks:=t' }:=I.un (Un.write mu he k heo) (I.hok.write mu he k heo new)
theorem Inv.pins_of {pins':List (Addr × Obj)} (I:Inv X pins σ H s) (h:∀ p∈pins',s.heap.get? p.1=some p.2∧H p.1=none∧p.1≠X.env.locals∧p.1 ∉ X.fs∧∀ v,p.2.data≠.cell v):Inv X pins' σ H s :=
  ⟨I.ok,I.os,I.bare,I.base,I.loc,I.cell,I.free,I.freeC,fun p hp=>(List.mem_append.mp hp).elim (fun z=>I.pin p (List.mem_append_left _ z)) (h p),I.hok,I.len⟩
theorem nodup_ix {N:List Str} (hN:N.Nodup) {i j:Nat} {x:Str} (a:N[i]?=some x) (b:N[j]?=some x):i=j:=by
  obtain ⟨h1,e1⟩:=List.getElem?_eq_some_iff.mp a
  obtain ⟨h2,e2⟩:=List.getElem?_eq_some_iff.mp b
  exact (List.getElem_inj hN).mp (e1.trans e2.symm)
theorem store_ok2 {M:Model} {A:Around} {E:Value→Shared→Prop} {i:Nat} {x:Str} {v:V} {u:Value} {Q:Unit→Shared→Prop} (I:Inv X pins σ H s) (hN:X.N.Nodup) (hi:X.N[i]?=some x) (hx:Loc X.env.scope x) (r:RelV v u)
    (h:∀ s',Inv X pins (σ.set i (some v)) H s'→(∃ a,Heap.SameBut a s.heap s'.heap∧(a=X.env.locals∨X.env.cells.lookup x=some a))→Q () s') (hf:X.fn x=true∨X.env.scope.names.lookup x=some .local:=by first | exact .inl rfl | exact .inr rfl | assumption):wpAny M A (storeName X.env x u) Q E s:=by
  obtain ⟨m,hn,hl⟩:=id I.loc
  have hcls:(X.env.scope.kind == .class || (X.env.scope.kind == .module && X.env.locals != X.env.globals))=false:=by rw [I.ok.kind];rfl
  have hiσ:i < σ.length:=by rw [I.len];exact (List.getElem?_eq_some_iff.mp hi).1
  have cne:=I.cne
  have tracked:∀ {a:Addr} {h':Heap},(∃ o,s.heap.get? a=some o∧H a=none)→Heap.SameBut a s.heap h'→HOk X.prog X.w H h':=fun {a h'} ha hs b ob e=>by
    obtain ⟨_,_,hfree⟩:=ha
    refine (I.hok b ob e).stay (fun c w' hc q=>(hs.2 c ?_).trans q) (fun _ q=>q) fun _ _ q=>q
    rintro rfl
    rcases hc with rfl | hc
    · rw [hfree] at e;cases e
    · rw [hfree] at hc;cases hc
  rcases hx with hk | hk
  · refine wpAny_storeName_local hk hn (fun h' hn' hs=>?_) hcls
    obtain ⟨oL,_,_,hoL,_⟩:=id hn
    refine h _ ⟨I.ok,I.os,I.bare,⟨fun b o e n hb hx=>?_,fun b o e n hb hx=>?_,I.base.free,fun b o e hx=>?_,I.base.tups,I.base.frzs,I.base.tbls⟩,⟨_,hn',fun j y v' e1 e2 e3=>?_⟩,fun y c e=>?_,I.free,I.freeC,fun p hp=>?_,tracked ⟨oL,hoL,I.free⟩ hs,by simpa using I.len⟩ ⟨_,hs,.inl rfl⟩
    · exact (hs.2 b (Nat.ne_of_lt (Nat.lt_of_lt_of_le (Heap.lt_size e) I.ok.above))).trans (I.base.keep b o e n hb hx)
    · obtain ⟨sl,e1⟩:=I.base.slot b o e n hb hx
      exact ⟨sl,(hs.2 b (Nat.ne_of_lt (Nat.lt_of_lt_of_le (Heap.lt_size e) I.ok.above))).trans e1⟩
    · obtain ⟨o',e1⟩:=I.base.there b o e hx
      exact ⟨o',(hs.2 b (Nat.ne_of_lt (Nat.lt_of_lt_of_le (Heap.lt_size e) I.ok.above))).trans e1⟩
    · by_cases hj:j=i
      · subst hj
        rw [hi] at e1;cases e1
        rw [List.getElem?_set_self hiσ] at e2
        cases e2
        exact ⟨u,r,.inl ⟨hk,by simp⟩⟩
      · rw [List.getElem?_set_ne (Ne.symm hj)] at e2
        obtain ⟨u',r',q⟩:=hl j y v' e1 e2 e3
        refine ⟨u',r',?_⟩
        rcases q with ⟨k,e⟩ | ⟨k,c,e,z⟩
        · refine .inl ⟨k,?_⟩
          have:y≠x:=fun e=>hj (nodup_ix hN e1 (e ▸ hi))
          simp [this,e]
        · exact .inr ⟨k,c,e,z.sameBut hs (cne y c e)⟩
    · obtain ⟨w',z⟩:=I.cell y c e
      exact ⟨w',z.sameBut hs (cne y c e)⟩
    · obtain ⟨e,n,ne,nf,d⟩:=I.pin p hp
      exact ⟨(hs.2 p.1 ne).trans e,n,ne,nf,d⟩
  · have hfn:X.fn x=true:=by
      rcases hf with z | z
      · exact z
      · rw [z] at hk;cases hk
    obtain ⟨c,hc⟩:=I.ok.has x (.inl hk)
    obtain ⟨w',z⟩:=I.cell x c hc
    refine wpAny_storeName_cell I.ok.kind hk hc z (fun h' hc' hs=>?_)
    obtain ⟨oc,hoc,hocd⟩:=id z
    refine h { s with heap:=h' } ⟨I.ok,I.os,I.bare,⟨fun b o e n hb hx=>?_,fun b o e n hb hx=>?_,I.base.free,fun b o e hx=>?_,I.base.tups,I.base.frzs,I.base.tbls⟩,⟨m,hn.sameBut hs (Ne.symm (cne x c hc)),fun j y v' e1 e2 e3=>?_⟩,fun y c' e=>?_,I.free,I.freeC,fun p hp=>?_,tracked ⟨oc,hoc,I.freeC x c hc⟩ hs,by simpa using I.len⟩ ⟨c,hs,.inr hc⟩
    · exact (hs.2 b (Nat.ne_of_lt (Nat.lt_of_lt_of_le (Heap.lt_size e) (I.ok.cab x c hfn hc)))).trans (I.base.keep b o e n hb hx)
    · obtain ⟨sl,e1⟩:=I.base.slot b o e n hb hx
      exact ⟨sl,(hs.2 b (Nat.ne_of_lt (Nat.lt_of_lt_of_le (Heap.lt_size e) (I.ok.cab x c hfn hc)))).trans e1⟩
    · obtain ⟨o',e1⟩:=I.base.there b o e hx
      exact ⟨o',(hs.2 b (Nat.ne_of_lt (Nat.lt_of_lt_of_le (Heap.lt_size e) (I.ok.cab x c hfn hc)))).trans e1⟩
    · by_cases hj:j=i
      · subst hj
        rw [hi] at e1;cases e1
        rw [List.getElem?_set_self hiσ] at e2
        cases e2
        exact ⟨u,r,.inr ⟨.inl hk,c,hc,hc'⟩⟩
      · rw [List.getElem?_set_ne (Ne.symm hj)] at e2
        obtain ⟨u',r',q⟩:=hl j y v' e1 e2 e3
        refine ⟨u',r',?_⟩
        rcases q with q | ⟨k,c',e,z'⟩
        · exact .inl q
        · refine .inr ⟨k,c',e,z'.sameBut hs ?_⟩
          rintro rfl
          exact hj (nodup_ix hN e1 (I.ok.inj _ _ _ e hc ▸ hi))
    · by_cases hcc:c'=c
      · subst hcc;exact ⟨_,hc'⟩
      · obtain ⟨w2,z2⟩:=I.cell y c' e
        exact ⟨w2,z2.sameBut hs hcc⟩
    · obtain ⟨e,n,ne,nf,d⟩:=I.pin p hp
      refine ⟨(hs.2 p.1 ?_).trans e,n,ne,nf,d⟩
      intro q
      rw [q,hoc] at e
      have q':oc=p.2:=Option.some.inj e
      exact d w' (by rw [← q'];exact hocd)
theorem store_ok {M:Model} {A:Around} {E:Value→Shared→Prop} {i:Nat} {x:Str} {v:V} {u:Value} {Q:Unit→Shared→Prop} (I:Inv X pins σ H s) (hN:X.N.Nodup) (hi:X.N[i]?=some x) (hx:Loc X.env.scope x) (r:RelV v u)
    (h:∀ s',Inv X pins (σ.set i (some v)) H s'→Q () s') (hf:X.fn x=true∨X.env.scope.names.lookup x=some .local:=by first | exact .inl rfl | exact .inr rfl | assumption):wpAny M A (storeName X.env x u) Q E s :=
  store_ok2 I hN hi hx r (fun s' I' _=>h s' I') hf
theorem Inv.call' {s':Shared} {ch:List Addr} (I:Inv X pins σ H s) (ho:s'.os=s.os) (u:Un (frs X.stack) ch H H' s.heap s'.heap) (hok:HOk X.prog X.w H' s'.heap) (hg:AllBare s'.gens)
    (hch:∀ b∈ch,(b∈X.ex∨X.s₀.heap.objs.size≤b)∧b≠X.env.locals∧(∀ x c,X.env.cells.lookup x=some c→c≠b)∧∀ p∈X.pn ++ pins,p.1≠b):Inv X pins σ H' s':=by
  obtain ⟨h',g',d',t',o'⟩:=s'
  have e:o'=s.os:=ho
  subst e
  exact I.call (g':=g') (t':=t') (d':=d') u hok hg hch
end
abbrev XK:=Value→Option Addr→Hp→Prop
abbrev St:=List (Option V)
abbrev VK:=V→Hp→Prop
abbrev TE:=St→Hp→VK→Prop
abbrev TT:=St→Hp→(Bool→Hp→Prop)→Prop
abbrev TA:=St→Hp→(List V→Hp→Prop)→Prop
set_option genSizeOf false in
set_option genInjectivity false in
structure Ends where
  nx:St→Hp→Prop
  rt:VK
  bk:St→Hp→Prop:=fun _ _=>False
  ct:St→Hp→Prop:=fun _ _=>False
abbrev TS:=Ends→St→Hp→Prop
def EP (X:Cx) (pins:List (Addr × Obj)) (σ:St) (Q:VK) (u:Value) (s':Shared):Prop:=∃ v H',Inv X pins σ H' s'∧RelV v u∧Q v H'
def TP (X:Cx) (pins:List (Addr × Obj)) (σ:St) (Q:Bool→Hp→Prop) (b:Bool) (s':Shared):Prop:=∃ H',Inv X pins σ H' s'∧Q b H'
def AP (X:Cx) (pins:List (Addr × Obj)) (σ:St) (Q:List V→Hp→Prop) (us:List Value) (s':Shared):Prop:=∃ vs H',Inv X pins σ H' s'∧Vals vs us∧Q vs H'
def SP (X:Cx) (pins:List (Addr × Obj)) (D:Ends) (f:Flow) (s':Shared):Prop :=
  match f with
  | .next=>∃ σ' H',Inv X pins σ' H' s'∧D.nx σ' H'
  | .brk=>∃ σ' H',Inv X pins σ' H' s'∧D.bk σ' H'
  | .cont=>∃ σ' H',Inv X pins σ' H' s'∧D.ct σ' H'
  | .ret u=>∃ v σ' H',Inv X pins σ' H' s'∧RelV v u∧D.rt v H'
def PE (X:Cx) (e:Expr) (t:TE):Prop :=
  ∀ (pins:List (Addr × Obj)) (s:Shared) (σ:St) (H:Hp) (Q:VK),Inv X pins σ H s→t σ H Q→wpAny (model X.prog X.w) X.A (eval e X.env) (EP X pins σ Q) X.xe s
def PT (X:Cx) (e:Expr) (t:TT):Prop :=
  ∀ (pins:List (Addr × Obj)) (s:Shared) (σ:St) (H:Hp) (Q:Bool→Hp→Prop),Inv X pins σ H s→t σ H Q→wpAny (model X.prog X.w) X.A (isTrue e X.env (eval e X.env)) (TP X pins σ Q) X.xe s
def PW (X:Cx) (e:Expr) (t:TT):Prop :=
  ∀ (whole:Sem Value) (pins:List (Addr × Obj)) (s:Shared) (σ:St) (H:Hp) (Q:Bool→Hp→Prop),Inv X pins σ H s→t σ H Q→wpAny (model X.prog X.w) X.A (isTrue e X.env whole) (TP X pins σ Q) X.xe s
theorem PW.pt {X:Cx} {e:Expr} {t:TT} (h:PW X e t):PT X e t:=h _
def PA (X:Cx) (es:List Expr) (t:TA):Prop :=
  ∀ (pos:Pos) (pins:List (Addr × Obj)) (s:Shared) (σ:St) (H:Hp) (Q:List V→Hp→Prop),Inv X pins σ H s→t σ H Q→wpAny (model X.prog X.w) X.A (spliced (backTo pos (starEach es X.env))) (AP X pins σ Q) X.xe s
def PS (X:Cx) (st:Stmt) (t:TS):Prop :=
  ∀ (pins:List (Addr × Obj)) (s:Shared) (σ:St) (H:Hp) (D:Ends),Inv X pins σ H s→t D σ H→wpAny (model X.prog X.w) X.A (exec st X.env) (SP X pins D) X.xe s
def PSs (X:Cx) (st:List Stmt) (t:TS):Prop :=
  ∀ (pins:List (Addr × Obj)) (s:Shared) (σ:St) (H:Hp) (D:Ends),Inv X pins σ H s→t D σ H→wpAny (model X.prog X.w) X.A (execs st X.env) (SP X pins D) X.xe s
theorem thn {α:Type} {t:Sem α} {Q Q':α→Shared→Prop} {M:Model} {A:Around} {E:Value→Shared→Prop} {s:Shared} (h:wpAny M A t Q E s) (hQ:∀ a s,Q a s→Q' a s):wpAny M A t Q' E s:=wpAny_mono h hQ fun _ _ x=>x
end L2
namespace L2
open PySem PySem.Spec PyProof.Rows
section
variable {X:Cx}
def tVar (i:Nat):TE:=fun σ H Q=>∃ v,σ[i]?=some (some v)∧Q v H
def tC (v:V):TE:=fun _ H Q=>Q v H
theorem pe_var {i:Nat} {x:Str} {pos:Pos} (hN:X.N[i]?=some x) (hv:Vis X.env.scope x) (hd:(x == ("__debug__":Str))=false:=by decide) (hcd:(x == ("__classdict__":Str))=false:=by decide):PE X (.Name x pos) (tVar i):=by
  intro pins s σ H Q I h
  obtain ⟨v,e,h⟩:=h
  obtain ⟨m,hn,hl⟩:=I.loc
  obtain ⟨u,r,l⟩:=hl i x v hN e hv
  have fin:EP X pins σ Q u s:=⟨v,H,I,r,h⟩
  rcases l with ⟨hk,hm⟩ | ⟨hk,c,hc,hcell⟩
  · exact wpAny_Name (wpAny_loadName_local I.ok.kind hk hn hm fin) hd
  · rcases hk with hk | hk
    · exact wpAny_Name (wpAny_loadName_cell I.ok.kind hk hc hcell fin) hd
    · exact wpAny_Name (wpAny_loadName_free I.ok.kind hk hc hcell fin hcd) hd
theorem pe_int {i j pos}:PE X (.Constant (.int i) j pos) (tC (.int i)):=fun _ _ _ H _ I h=>wpAny_Constant_int ⟨.int i,H,I.tok _,⟨_,rfl⟩,h⟩
theorem pe_bl {b j pos}:PE X (.Constant (.bool b) j pos) (tC (.bl b)):=fun _ _ _ H _ I h=>Constant_bool ⟨.bl b,H,I,rfl,h⟩
theorem pe_str {x j pos}:PE X (.Constant (.str x) j pos) (tC (.str x)):=fun _ _ _ H _ I h=>Calls.Constant_str ⟨.str x,H,I.tok _,⟨_,rfl⟩,h⟩
def Gl (X:Cx) (x:Str):Prop:=X.env.kindOf x=some .globalImplicit
theorem ld_glob {E:Value→Shared→Prop} {pins:List (Addr × Obj)} {s:Shared} {σ:St} {H:Hp} {x:Str} {u:Value} {pos:Pos} {Q:Value→Shared→Prop} (I:Inv X pins σ H s) (hg:Gl X x) (hm:X.mg x=some u) (h:Q u s)
    (hd:(x == ("__debug__":Str))=false:=by decide):wpAny (model X.prog X.w) X.A (eval (.Name x pos) X.env) Q E s :=
  Calls.Name_function_global I.ok.kind hg (Calls.loadGlobal_global (by rw [I.ok.glob];exact I.mod.glob.keeps I.bk) hm h) hd
theorem ld_blt {E:Value→Shared→Prop} {pins:List (Addr × Obj)} {s:Shared} {σ:St} {H:Hp} {x:Str} {u:Value} {pos:Pos} {Q:Value→Shared→Prop} (I:Inv X pins σ H s) (hg:Gl X x) (hm:X.mg x=none) (hv:bootBuiltins x=some u) (h:Q u s)
    (hn:x≠"__name__":=by decide) (hd:(x == ("__debug__":Str))=false:=by decide):wpAny (model X.prog X.w) X.A (eval (.Name x pos) X.env) Q E s:=by
  obtain ⟨mb,h1,h2⟩:=I.mod.blt
  exact Calls.Name_function_global I.ok.kind hg (Calls.loadGlobal_builtin (by rw [I.ok.glob];exact I.mod.glob.keeps I.bk) hm (by rw [I.ok.blt];exact h1.keeps I.bk) ((h2 x hn).trans hv) h) hd
theorem pe_glob {x:Str} {v:V} {u:Value} {pos:Pos} (hg:Gl X x) (hm:X.mg x=some u) (r:RelV v u) (hd:(x == ("__debug__":Str))=false:=by decide):PE X (.Name x pos) (tC v) :=
  fun _ _ _ H _ I h=>ld_glob I hg hm ⟨v,H,I,r,h⟩ hd
theorem pe_bltn {x:Str} {v:V} {u:Value} {pos:Pos} (hg:Gl X x) (hm:X.mg x=none) (hv:bootBuiltins x=some u) (r:RelV v u) (hn:x≠"__name__":=by decide) (hd:(x == ("__debug__":Str))=false:=by decide):PE X (.Name x pos) (tC v) :=
  fun _ _ _ H _ I h=>ld_blt I hg hm hv ⟨v,H,I,r,h⟩ hn hd
variable {a b:Expr} {ta tb:TE} {pos:Pos}
def tB (t:TE):TT:=fun σ H Q=>t σ H fun x H1=>∃ c,x=.bl c∧Q c H1
theorem pt_val {e:Expr} {t:TE} (h:PE X e t) (he:∀ whole,isTrue e X.env whole=(do let v ← whole;standAt e.pos;holding [v] (truthy v)):=by intro _;rfl):PT X e (tB t):=by
  intro pins s σ H Q I hw
  refine isTrue_plain (thn (h pins s σ H _ I hw) fun v s1 ⟨x,H1,I1,r1,q1⟩=>?_) (he _)
  obtain ⟨d,rfl,q⟩:=q1
  cases r1
  exact wpAny_truthy_bool ⟨H1,I1,q⟩
variable {tA tB':TT} {rest:List Expr}
def tAnd (t u:TT):TT:=fun σ H Q=>t σ H fun c H1=>if c=true then u σ H1 Q else Q false H1
def tOr (t u:TT):TT:=fun σ H Q=>t σ H fun c H1=>if c=true then Q true H1 else u σ H1 Q
def tNot (t:TT):TT:=fun σ H Q=>t σ H fun c H1=>Q (!c) H1
theorem pw_and1 (ha:PT X a tA):PW X (.BoolOp .And [a] pos) tA:=by
  intro wh pins s σ H Q I h
  refine isTrue_and (thn (ha pins s σ H Q I h) fun c s1 e=>?_)
  cases c with
  | true=>exact isTrue_and_nil e
  | false=>exact e
theorem pw_or1 (ha:PT X a tA):PW X (.BoolOp .Or [a] pos) tA:=by
  intro wh pins s σ H Q I h
  refine isTrue_or (thn (ha pins s σ H Q I h) fun c s1 e=>?_)
  cases c with
  | false=>exact isTrue_or_nil e
  | true=>exact e
theorem pw_and (ha:PT X a tA) (hb:PW X (.BoolOp .And (b :: rest) pos) tB'):PW X (.BoolOp .And (a :: b :: rest) pos) (tAnd tA tB'):=by
  intro wh pins s σ H Q I h
  refine isTrue_and (thn (ha pins s σ H _ I h) fun c s1 ⟨H1,I1,q1⟩=>?_)
  cases c with
  | true=>exact hb wh pins s1 σ H1 Q I1 q1
  | false=>exact ⟨H1,I1,q1⟩
theorem pw_or (ha:PT X a tA) (hb:PW X (.BoolOp .Or (b :: rest) pos) tB'):PW X (.BoolOp .Or (a :: b :: rest) pos) (tOr tA tB'):=by
  intro wh pins s σ H Q I h
  refine isTrue_or (thn (ha pins s σ H _ I h) fun c s1 ⟨H1,I1,q1⟩=>?_)
  cases c with
  | true=>exact ⟨H1,I1,q1⟩
  | false=>exact hb wh pins s1 σ H1 Q I1 q1
theorem pt_not (ha:PT X a tA):PT X (.UnaryOp .Not a pos) (tNot tA):=by
  intro pins s σ H Q I h
  exact isTrue_not (ha pins s σ H (fun c H1=>Q (!c) H1) I h)
def tAndV (ta tb:TE):TE:=fun σ H Q=>ta σ H fun x H1=>∃ c,x=.bl c∧if c=true then tb σ H1 Q else Q (.bl false) H1
def tOrV (ta tb:TE):TE:=fun σ H Q=>ta σ H fun x H1=>∃ c,x=.bl c∧if c=true then Q (.bl true) H1 else tb σ H1 Q
def tNotV (ta:TE):TE:=fun σ H Q=>ta σ H fun x H1=>∃ c,x=.bl c∧Q (.bl (!c)) H1
theorem pe_one {op} {t:TE} (h:PE X a t):PE X (.BoolOp op [a] pos) t:=fun pins s σ H Q I hw=>BoolOp_one (h pins s σ H Q I hw)
theorem pe_and (ha:PE X a ta) (hb:PE X (.BoolOp .And (b :: rest) pos) tb):PE X (.BoolOp .And (a :: b :: rest) pos) (tAndV ta tb):=by
  intro pins s σ H Q I h
  refine BoolOp_and (thn (ha pins s σ H _ I h) fun v s1 ⟨x,H1,I1,r1,q1⟩=>?_)
  obtain ⟨c,rfl,q1⟩:=q1
  cases r1
  refine wpAny_truthy_bool ?_
  cases c with
  | true=>exact hb pins s1 σ H1 Q I1 q1
  | false=>exact ⟨.bl false,H1,I1,rfl,q1⟩
theorem pe_not (ha:PE X a ta):PE X (.UnaryOp .Not a pos) (tNotV ta):=by
  intro pins s σ H Q I h
  refine UnaryOp_ (thn (ha pins s σ H _ I h) fun v s1 ⟨x,H1,I1,r1,q1⟩=>?_)
  obtain ⟨c,rfl,q1⟩:=q1
  cases r1
  exact not_of (wpAny_truthy_bool ⟨.bl (!c),H1,I1,rfl,q1⟩)
def tIf (t:TT) (ta tb:TE):TE:=fun σ H Q=>t σ H fun c H1=>if c=true then ta σ H1 Q else tb σ H1 Q
theorem pe_ifExp {c:Expr} (hc:PT X c tA) (ha:PE X a ta) (hb:PE X b tb):PE X (.IfExp c a b pos) (tIf tA ta tb):=by
  intro pins s σ H Q I h
  refine wpAny_IfExp (thn (hc pins s σ H _ I h) fun d s1 ⟨H1,I1,q1⟩=>?_)
  cases d with
  | true=>exact ha pins s1 σ H1 Q I1 q1
  | false=>exact hb pins s1 σ H1 Q I1 q1
end
end L2
namespace L2
open PySem PySem.Spec PyProof.Rows
def SqL (K:PySem.W.Frag) (H:Hp) (a:Addr) (xs:List V):Prop :=
  Rd H a (.lst xs) ∨
    ∃ (o:Obj) (its:Array Value) (n:Nat),K.lookup a=some o∧o.cls=.type "list"∧o.dict=none∧o.data=.seq its n∧its.size≤sizeLine∧Vals xs its.toList
def SqT (K:PySem.W.Frag) (H:Hp) (a:Addr) (xs:List V):Prop :=
  Rd H a (.tup xs) ∨
    ∃ (o:Obj) (its:Array Value) (n:Nat),K.lookup a=some o∧o.cls=.type "tuple"∧o.data=.seq its n∧its.size≤sizeLine∧Vals xs its.toList
def absV:Value→Option V
  | .none=>some .non
  | .bool b=>some (.bl b)
  | .int i _=>some (.int i)
  | .str x _=>some (.str x)
  | .bytes b _=>some (.byt b)
  | .float b _=>some (.flt b)
  | .ref a=>some (.ref a)
  | .type n=>some (.ty n)
  | _=>none
theorem RelV.abs {x:V} {u:Value} (r:RelV x u):absV u=some x:=by
  cases x with
  | non=>cases r;rfl
  | bl _=>cases r;rfl
  | int _=>obtain ⟨t,rfl⟩:=r;rfl
  | str _=>obtain ⟨t,rfl⟩:=r;rfl
  | byt _=>obtain ⟨t,rfl⟩:=r;rfl
  | flt _=>obtain ⟨t,rfl⟩:=r;rfl
  | ref _=>cases r;rfl
  | ty _=>cases r;rfl
theorem RelV.inj {x y:V} {u:Value} (r:RelV x u) (q:RelV y u):x=y:=Option.some.inj (r.abs.symm.trans q.abs)
theorem Vals.inj:∀ {xs ys:List V} {us:List Value},Vals xs us→Vals ys us→xs=ys
  | _,_,_,.nil,.nil=>rfl
  | _,_,_,.cons r t,.cons r' t'=>by rw [r.inj r',Vals.inj t t']
section
variable {X:Cx} {pins:List (Addr × Obj)} {σ:St} {H:Hp} {s:Shared} {a:Addr} {xs ys:List V}
theorem SqL.of {K:PySem.W.Frag} (h:H a=some (.lst xs)):SqL K H a xs:=.inl (.inl h)
theorem SqT.of {K:PySem.W.Frag} (h:H a=some (.tup xs)):SqT K H a xs:=.inl (.inl h)
theorem Inv.list (I:Inv X pins σ H s) (h:SqL X.K H a xs):∃ its:List Value,Vals xs its∧PlainL s.heap a its.toArray∧xs.length≤sizeLine:=by
  rcases h with h | ⟨o,its,n,hk,hc,hd,hs,hz,r⟩
  · obtain ⟨z,its,n,r,e⟩:=h.ok I.hok
    exact ⟨its,r,⟨_,n,e,rfl,rfl,rfl⟩,z⟩
  · refine ⟨its.toList,r,⟨o,n,I.kIn a o hk,hc,hd,by simpa using hs⟩,?_⟩
    have e:=r.length
    simp only [Array.length_toList] at e
    omega
theorem Inv.tuple (I:Inv X pins σ H s) (h:SqT X.K H a xs):∃ its:List Value,Vals xs its∧IsTup s.heap a its.toArray∧xs.length≤sizeLine:=by
  rcases h with h | ⟨o,its,n,hk,hc,hs,hz,r⟩
  · obtain ⟨z,its,r,p⟩:=h.ok I.hok
    exact ⟨its,r,p,z⟩
  · refine ⟨its.toList,r,⟨o,I.kIn a o hk,hc,n,by simpa using hs⟩,?_⟩
    have e:=r.length
    simp only [Array.length_toList] at e
    omega
theorem Inv.list_inj (I:Inv X pins σ H s) (h:SqL X.K H a xs) (h':SqL X.K H a ys):xs=ys:=by
  obtain ⟨its,r,⟨o,n,e,_,_,d⟩,_⟩:=I.list h
  obtain ⟨its',r',⟨o',n',e',_,_,d'⟩,_⟩:=I.list h'
  rw [e] at e';cases e'
  rw [d] at d'
  injection d' with d1 _
  have:its=its':=by simpa using congrArg Array.toList d1
  subst this
  exact r.inj r'
end
abbrev Cx.wish (X:Cx) (E:Value→Shared→Prop):Cx:={ X with xe:=E }
abbrev Cx.nox (X:Cx):Cx:=X.wish fun _ _=>False
theorem Cx.Ok.wish {X:Cx} (ok:X.Ok) (E:Value→Shared→Prop):(X.wish E).Ok :=
  ⟨ok.mod,ok.kind,ok.glob,ok.blt,ok.above,ok.inj,ok.has,ok.cab,ok.hd,ok.frames,ok.stk,ok.exf,ok.bs,ok.bsz,ok.noex,ok.exfs,ok.funs,ok.frf⟩
theorem Cx.Ok.unwish {X:Cx} {E:Value→Shared→Prop} (ok:(X.wish E).Ok):X.Ok :=
  ⟨ok.mod,ok.kind,ok.glob,ok.blt,ok.above,ok.inj,ok.has,ok.cab,ok.hd,ok.frames,ok.stk,ok.exf,ok.bs,ok.bsz,ok.noex,ok.exfs,ok.funs,ok.frf⟩
section
variable {X:Cx} {pins:List (Addr × Obj)} {σ:St} {H:Hp} {s:Shared} {E:Value→Shared→Prop}
theorem Inv.wish (I:Inv X pins σ H s) (E:Value→Shared→Prop):Inv (X.wish E) pins σ H s:=⟨I.ok.wish E,I.os,I.bare,I.base,I.loc,I.cell,I.free,I.freeC,I.pin,I.hok,I.len⟩
theorem Inv.unwish (I:Inv (X.wish E) pins σ H s):Inv X pins σ H s:=⟨I.ok.unwish,I.os,I.bare,I.base,I.loc,I.cell,I.free,I.freeC,I.pin,I.hok,I.len⟩
theorem SP.unwish {D:Ends} {f:Flow} {s':Shared} (h:SP (X.wish E) pins D f s'):SP X pins D f s':=by
  cases f with
  | next=>obtain ⟨σ',H',I,q⟩:=h;exact ⟨σ',H',I.unwish,q⟩
  | brk=>obtain ⟨σ',H',I,q⟩:=h;exact ⟨σ',H',I.unwish,q⟩
  | cont=>obtain ⟨σ',H',I,q⟩:=h;exact ⟨σ',H',I.unwish,q⟩
  | ret u=>obtain ⟨v,σ',H',I,r,q⟩:=h;exact ⟨v,σ',H',I.unwish,r,q⟩
theorem PSs.nox {st:List Stmt} {t:TS} (h:PSs X.nox st t):PSs X st t:=fun pins s σ H D I hw =>
  wpAny_mono (h pins s σ H D (I.wish _) hw) (fun _ _ q=>q.unwish) fun _ _ z=>False.elim z
end
section
variable {X:Cx} {st:Stmt} {rest:List Stmt} {t u:TS} {e:Expr} {te:TE} {pos:Pos}
def tNext:TS:=fun D σ H=>D.nx σ H
def tSeq (t u:TS):TS:=fun D σ H=>t { D with nx:=u D } σ H
theorem pss_nil:PSs X [] tNext:=fun _ _ σ H _ I h=>wpAny_execs_nil ⟨σ,H,I,h⟩
theorem pss_cons (h1:PS X st t) (h2:PSs X rest u):PSs X (st :: rest) (tSeq t u):=by
  intro pins s σ H D I h
  refine wpAny_execs_cons (thn (h1 pins s σ H { D with nx:=u D } I h) fun f s1 q=>?_)
  cases f with
  | next =>
    obtain ⟨σ',H',I',q⟩:=q
    exact h2 pins s1 σ' H' D I' q
  | ret v=>exact q
  | brk=>exact q
  | cont=>exact q
theorem pss_one (h1:PS X st t):PSs X [st] t:=by
  intro pins s σ H D I h
  refine wpAny_execs_cons (thn (h1 pins s σ H D I h) fun f s1 q=>?_)
  cases f with
  | next=>exact wpAny_execs_nil q
  | ret v=>exact q
  | brk=>exact q
  | cont=>exact q
theorem Inv.quiet {pins:List (Addr × Obj)} {σ:St} {H:Hp} {s:Shared} (I:Inv X pins σ H s):interactive X.env=false:=by simp [interactive,I.ok.kind]
def tDrop (te:TE):TS:=fun D σ H=>te σ H fun _ H1=>D.nx σ H1
theorem ps_expr (he:PE X e te) (hs:swapsWith e none pos.line X.env=pure false:=by rfl):PS X (.Expr e pos) (tDrop te):=by
  intro pins s σ H D I h
  exact wpAny_Expr_any (thn (he pins s σ H _ I h) fun v s1 ⟨x,H1,I1,r1,q1⟩=>⟨σ,H1,I1,q1⟩) I.quiet hs
def tRet (te:TE):TS:=fun D σ H=>te σ H D.rt
theorem ps_ret (he:PE X e te):PS X (.Return (some e) pos) (tRet te):=by
  intro pins s σ H D I h
  exact wpAny_Return_some (thn (he pins s σ H _ I h) fun v s1 ⟨x,H1,I1,r1,q1⟩=>⟨x,σ,H1,I1,r1,q1⟩)
def tRetN:TS:=fun D _ H=>D.rt .non H
def tIfS (c:TT) (t u:TS):TS:=fun D σ H=>c σ H fun b H1=>if b=true then t D σ H1 else u D σ H1
theorem ps_if {c:Expr} {a b:List Stmt} {tc:TT} (hc:PT X c tc) (ha:PSs X a t) (hb:PSs X b u):PS X (.If c a b pos) (tIfS tc t u):=by
  intro pins s σ H D I h
  refine wpAny_If (thn (hc pins s σ H _ I h) fun d s1 ⟨H1,I1,q1⟩=>?_)
  cases d with
  | true=>exact ha pins s1 σ H1 D I1 q1
  | false=>exact hb pins s1 σ H1 D I1 q1
def tNever:TS:=fun _ _ _=>False
theorem ps_never:PS X st tNever:=fun _ _ _ _ _ _ h=>h.elim
end
abbrev TG:=V→St→Hp→(St→Hp→Prop)→Prop
abbrev TGs:=List V→St→Hp→(St→Hp→Prop)→Prop
def PG (X:Cx) (target:Expr) (t:TG):Prop :=
  ∀ (pins:List (Addr × Obj)) (s:Shared) (σ:St) (H:Hp) (v:V) (u:Value) (Q:St→Hp→Prop),Inv X pins σ H s→RelV v u→t v σ H Q →
    wpAny (model X.prog X.w) X.A (assign target X.env u) (fun _ s'=>∃ σ' H',Inv X pins σ' H' s'∧Q σ' H') X.xe s
def PGs (X:Cx) (ts:List Expr) (t:TGs):Prop :=
  ∀ (pins:List (Addr × Obj)) (s:Shared) (σ:St) (H:Hp) (vs:List V) (us:List Value) (Q:St→Hp→Prop),Inv X pins σ H s→Vals vs us→t vs σ H Q →
    wpAny (model X.prog X.w) X.A (assignInOrder ((assignEach ts X.env).map (·.2)) us) (fun _ s'=>∃ σ' H',Inv X pins σ' H' s'∧Q σ' H') X.xe s
abbrev TIp:=V→V→Hp→VK→Prop
section
variable {X:Cx} {pos:Pos}
def gName (i:Nat):TG:=fun v σ H Q=>Q (σ.set i (some v)) H
theorem pg_name {i:Nat} {x:Str} (hN:X.N.Nodup) (hi:X.N[i]?=some x) (hx:Loc X.env.scope x) (hf:X.fn x=true∨X.env.scope.names.lookup x=some .local:=by first | exact .inl rfl | exact .inr rfl | assumption):PG X (.Name x pos) (gName i):=by
  intro pins s σ H v u Q I r h
  exact wpAny_assign_Name (store_ok I hN hi hx r (fun s' I'=>⟨_,H,I',h⟩) hf)
def gNil:TGs:=fun vs σ H Q=>vs=[]∧Q σ H
def gCons (t:TG) (u:TGs):TGs:=fun vs σ H Q=>∃ v r,vs=v :: r∧t v σ H fun σ' H'=>u r σ' H' Q
theorem pgs_nil:PGs X [] gNil:=by
  intro pins s σ H vs us Q I r h
  obtain ⟨e,h⟩:=h
  subst e
  cases r
  exact assignInOrder_nil ⟨σ,H,I,h⟩
theorem pgs_cons {e:Expr} {es:List Expr} {t:TG} {u:TGs} (h1:PG X e t) (h2:PGs X es u)
    (hs:(assignEach (e :: es) X.env).map (·.2)=assign e X.env :: (assignEach es X.env).map (·.2):=by rfl):PGs X (e :: es) (gCons t u):=by
  intro pins s σ H vs us Q I r h
  obtain ⟨v,vr,e1,h⟩:=h
  subst e1
  cases r with
  | cons r rr =>
    rw [hs]
    refine assignInOrder_cons (thn (h1 pins s σ H _ _ _ I r h) fun _ s1 ⟨σ1,H1,I1,q1⟩=>?_)
    exact h2 pins s1 σ1 H1 _ _ Q I1 rr q1
def gTup (K:PySem.W.Frag) (n:Nat) (t:TGs):TG:=fun v σ H Q=>∃ a xs,v=.ref a∧SqT K H a xs∧xs.length=n∧t xs σ H Q
theorem pg_tup {es:List Expr} {k:Nat} {t:TGs} {n:Nat} (hc:X.calm=true) (h:PGs X es t)
    (hn:(assignEach es X.env).length=n:=by rfl) (hst:(assignEach es X.env).findIdx? (·.1)=none:=by rfl):PG X (.Tuple es k pos) (gTup X.K n t):=by
  intro pins s σ H v u Q I r hw
  obtain ⟨a,xs,e1,hq,hl,hw⟩:=hw
  subst e1
  cases r
  obtain ⟨its,rv,ht,hz⟩:=I.tuple hq
  refine assign_Tuple_tuple (I.ok.hd hc) ht (by simp [hn,← hl,rv.length]) hst fun h' hx=>?_
  have I1:Inv X pins σ H { s with heap:=h' }:=I.kept (t':=s.toks) fun b o e=>hx b o (Nat.ne_of_lt (Heap.lt_size e)) e
  exact h pins _ σ H xs _ Q I1 (by simpa using rv) hw
def tAsg (te:TE) (g:TG):TS:=fun D σ H=>te σ H fun x H1=>g x σ H1 D.nx
theorem ps_set {i:Nat} {x:Str} {e:Expr} {te:TE} {pos':Pos} (hN:X.N.Nodup) (hi:X.N[i]?=some x) (hx:Loc X.env.scope x) (he:PE X e te) (hs:swapsWith e (some (.Name x pos')) pos.line X.env=pure false:=by rfl) (hf:X.fn x=true∨X.env.scope.names.lookup x=some .local:=by first | exact .inl rfl | exact .inr rfl | assumption) :
    PS X (.Assign [.Name x pos'] e pos) (tAsg te (gName i)):=by
  intro pins s σ H D I h
  refine wpAny_Assign_Name (thn (he pins s σ H _ I h) fun v s1 ⟨y,H1,I1,r1,q1⟩=>?_) hs
  exact store_ok I1 hN hi hx r1 (fun s2 I2=>⟨_,H1,I2,q1⟩) hf
def tAug (i:Nat) (te:TE) (ti:TIp):TS:=fun D σ H=>∃ x,σ[i]?=some (some x)∧te σ H fun y H1=>ti x y H1 fun z H2=>D.nx (σ.set i (some z)) H2
def ipI (f:Int→Int→Int):TIp:=fun x y H Q=>∃ i j,x=.int i∧y=.int j∧Q (.int (f i j)) H
end
section
variable {X:Cx} {pos:Pos}
end
set_option genSizeOf false in
set_option genInjectivity false in
structure It where
  go:Nat→Hp→Prop
  yld:Nat→Hp→V→Hp→Prop
  stop:Nat→Hp→Prop
def FpOk (X:Cx) (pins:List (Addr × Obj)) (H:Hp) (b:Addr):Prop :=
  H b=none∧b≠X.env.locals∧b ∉ X.fs∧(b∈X.ex∨X.s₀.heap.objs.size≤b)∧(∀ x c,X.env.cells.lookup x=some c→c≠b)∧∀ p∈X.pn ++ pins,p.1≠b
theorem Inv.fpOk {X:Cx} {pins:List (Addr × Obj)} {σ:St} {H H':Hp} {s:Shared} {b:Addr} (I:Inv X pins σ H s) (hb:s.heap.objs.size≤b) (hn:H' b=none):FpOk X pins H' b:=by
  refine ⟨hn,Nat.ne_of_gt (Nat.lt_of_lt_of_le I.lt hb),I.nofs hb,.inr (Nat.le_trans I.sz hb),fun x c e z=>?_,fun p hp z=>?_⟩
  · obtain ⟨v,q⟩:=I.cell x c e
    exact absurd (Nat.lt_of_lt_of_le q.lt (by rw [z];exact hb)) (Nat.lt_irrefl _)
  · exact absurd (Nat.lt_of_lt_of_le (Heap.lt_size (I.pin p hp).1) (by rw [z];exact hb)) (Nat.lt_irrefl _)
structure Turn (P:Program) (w:World) (K:PySem.W.Frag) (tg:Expr) (J:It) (fp:List Addr) (it:Addr) (tn:Nat→Heap→Prop):Prop where
  mem:it∈fp
  obj:∀ i h,tn i h→∀ b∈fp,∃ o,h.get? b=some o∧∀ v,o.data≠.cell v
  keep:∀ i h h',tn i h→(∀ b∈fp,∀ o,h.get? b=some o→h'.get? b=some o)→tn i h'
  item:∀ (X:Cx),X.prog=P→X.w=w→X.K=K→X.calm=true→∀ (i:Nat) (pins:List (Addr × Obj)) (s:Shared) (σ:St) (H:Hp) (E:Value→Shared→Prop),Inv X pins σ H s→(∀ b∈fp,FpOk X pins H b)→tn i s.heap→J.go i H →
    wpAny (model P w) X.A (pyNext (.ref it)) (fun r s1=>∃ u,r=some u ∧
      wpAny (model P w) X.A (letOwnedTupleGo tg (.ref it) u) (fun _ s2=>∃ x H',Inv X pins σ H' s2∧RelV x u∧J.yld i H x H'∧tn (i + 1) s2.heap∧∀ b∈fp,H' b=none) E s1) E s
  done:∀ (X:Cx),X.prog=P→X.w=w→X.K=K→X.calm=true→∀ (i:Nat) (pins:List (Addr × Obj)) (s:Shared) (σ:St) (H:Hp) (E:Value→Shared→Prop),Inv X pins σ H s→(∀ b∈fp,FpOk X pins H b)→tn i s.heap→J.stop i H →
    wpAny (model P w) X.A (pyNext (.ref it)) (fun r s1=>r=none∧Inv X pins σ H s1) E s
  self:∀ (A:Around) (i:Nat) (s:Shared) (Q:Value→Shared→Prop) (E:Value→Shared→Prop),tn i s.heap→Q (.ref it) s→wpAny (model P w) A (pyIter (.ref it)) Q E s
abbrev TI:=St→Hp→(It→Hp→Prop)→Prop
def PIE (X:Cx) (pins:List (Addr × Obj)) (σ:St) (tg:Expr) (R:It→Hp→Prop) (itv:Value) (s2:Shared):Prop :=
  ∃ (it:Addr) (fp:List Addr) (tn:Nat→Heap→Prop) (J:It) (H':Hp),itv=.ref it∧Inv X pins σ H' s2∧Turn X.prog X.w X.K tg J fp it tn∧tn 0 s2.heap∧(∀ b∈fp,FpOk X pins H' b)∧R J H'
def PI (X:Cx) (tg iter:Expr) (wi:TI):Prop :=
  ∀ (pins:List (Addr × Obj)) (s:Shared) (σ:St) (H:Hp) (R:It→Hp→Prop),Inv X pins σ H s→wi σ H R →
    wpAny (model X.prog X.w) X.A (eval iter X.env) (fun v s1=>wpAny (model X.prog X.w) X.A (pyIter v) (PIE X pins σ tg R) X.xe s1) X.xe s
theorem go_of {M:Model} {A:Around} {E:Value→Shared→Prop} {s:Shared} {tg:Expr} {it:Addr} {u:Value} {o:Obj} {n:String} {vs:Array Value} {Q:Unit→Shared→Prop} (ho:s.heap.get? it=some o) (hc:o.cls=.type n) (hd:o.data=.fields vs)
    (hn:["enumerate","zip","dict_itemiterator","dict_reverseitemiterator","odict_iterator","itertools.zip_longest","itertools.pairwise"].contains n=false) (hQ:Q () s):wpAny M A (letOwnedTupleGo tg (.ref it) u) Q E s:=by
  unfold letOwnedTupleGo
  cases tg <;> first
    | exact wpAny_pure hQ
    | (cases u <;> first
        | exact wpAny_pure hQ
        | (refine wpAny_bind (wpAny_load ho ?_)
           rw [hc,hd]
           show wpAny M A (if (["enumerate","zip","dict_itemiterator","dict_reverseitemiterator","odict_iterator","itertools.zip_longest","itertools.pairwise"].contains n && vs[0]? == some (rawInt _))=true then _ else _) Q E s
           rw [if_neg (by intro h;rw [hn,Bool.false_and] at h;cases h)]
           exact wpAny_pure hQ))
def Itl (K:PySem.W.Frag) (a:Addr):It :=
  ⟨fun i H=>∃ xs x,SqL K H a xs∧xs[i]?=some x,fun i H x H'=>H'=H∧∀ xs,SqL K H a xs→xs[i]?=some x,fun i H=>∃ xs,SqL K H a xs∧xs.length≤i⟩
def Itt (K:PySem.W.Frag) (a:Addr):It :=
  ⟨fun i H=>∃ xs x,SqT K H a xs∧xs[i]?=some x,fun i H x H'=>H'=H∧∀ xs,SqT K H a xs→xs[i]?=some x,fun i H=>∃ xs,SqT K H a xs∧xs.length≤i⟩
def Itr (lo:Int) (n:Nat):It:=⟨fun i _=>i < n,fun i H x H'=>H'=H∧x=.int (lo + i),fun i _=>n≤i⟩
theorem turn_list {P:Program} {w:World} {K:PySem.W.Frag} {tg:Expr} (a it:Addr):Turn P w K tg (Itl K a) [it] it (fun i h=>h.IsListIter it a i) where
  mem:=by simp
  obj:=fun i h st b hb=>by
    have e:b=it:=by simpa using hb
    subst e
    obtain ⟨o,e,c,d⟩:=st
    exact ⟨o,e,fun v z=>by rw [d] at z;cases z⟩
  keep:=fun i h h' st k=>st.at fun o e=>k it (by simp) o e
  item:=by
    intro X hP hw hK hc i pins s σ H E I hf st hg
    subst hP hw hK
    obtain ⟨xs,x,hq,hx⟩:=hg
    obtain ⟨its,rv,p,hz⟩:=I.list hq
    obtain ⟨u,hu,ru⟩:=rv.get hx
    obtain ⟨f0,f1,f2,f3,f4,f5⟩:=hf it (by simp)
    refine wpAny_pyNext_list_item st p.isList (x:=u) (by simpa using hu) fun h' st' sb=>?_
    have I1:Inv X pins σ H { s with heap:=h' }:=I.turned (t':=s.toks) (fun b o hb e=>(sb.2 b hb).trans e) f0 f1 f3 f4 f5
    obtain ⟨o,e,c,d⟩:=id st'
    exact ⟨u,rfl,go_of (s:={ s with heap:=h' }) e c d (by decide) ⟨x,H,I1,ru,⟨rfl,fun ys hy=>by rw [I.list_inj hy hq];exact hx⟩,st',fun b hb=>(hf b hb).1⟩⟩
  done:=by
    intro X hP hw hK hc i pins s σ H E I hf st hg
    subst hP hw hK
    obtain ⟨xs,hq,hx⟩:=hg
    obtain ⟨its,rv,p,hz⟩:=I.list hq
    obtain ⟨f0,f1,f2,f3,f4,f5⟩:=hf it (by simp)
    have hl:=rv.length
    exact wpAny_pyNext_list_end (I.ok.hd hc) st p.isList (by simp;omega) fun h' eb=>⟨rfl,I.turned (t':=s.toks) (fun b o hb e=>eb b o hb e) f0 f1 f3 f4 f5⟩
  self:=fun _ _ _ _ _ st h=>wpAny_pyIter_listiter st h
theorem turn_range {P:Program} {w:World} {K:PySem.W.Frag} {tg:Expr} (it:Addr) (lo:Int) (n:Nat):Turn P w K tg (Itr lo n) [it] it (fun i h=>IsRangeIter h it (lo + (i:Nat) * 1) ((n:Int) - (i:Nat)) 1) where
  mem:=by simp
  obj:=fun i h st b hb=>by
    have e:b=it:=by simpa using hb
    subst e
    exact ⟨_,st,fun v z=>by
      have z':Data.fields _=Data.cell v:=z
      cases z'⟩
  keep:=fun i h h' st k=>k it (by simp) _ st
  item:=by
    intro X hP hw hK hc i pins s σ H E I hf st hg
    subst hP hw hK
    obtain ⟨f0,f1,f2,f3,f4,f5⟩:=hf it (by simp)
    have W:=Walks.range (prog:=X.prog) (w:=X.w) (I.ok.hd hc) it lo 1 n
    refine W.item i s _ _ hg st fun v h' tk hv st' kk=>?_
    obtain ⟨t,rfl⟩:=hv
    have I1:Inv X pins σ H { s with heap:=h',toks:=tk }:=I.turned (fun b o hb e=>kk b o (by simpa using hb) e) f0 f1 f3 f4 f5
    refine ⟨_,rfl,go_of (s:={ s with heap:=h',toks:=tk }) (n:="range_iterator") st' rfl rfl (by decide) ⟨.int (lo + i),H,I1,⟨t,?_⟩,⟨rfl,rfl⟩,st',fun b hb=>(hf b hb).1⟩⟩
    rw [Int.mul_one]
  done:=by
    intro X hP hw hK hc i pins s σ H E I hf st hg
    subst hP hw hK
    obtain ⟨f0,f1,f2,f3,f4,f5⟩:=hf it (by simp)
    exact wpAny_pyNext_range_end (I.ok.hd hc) st (by have:n≤i:=hg;omega) fun h' eb=>⟨rfl,I.turned (t':=s.toks) (fun b o hb e=>eb b o hb e) f0 f1 f3 f4 f5⟩
  self:=fun _ _ _ _ _ st h=>wpAny_pyIter_rangeiter st h
end L2
namespace L2
open PySem PySem.Spec PyProof.Rows
section
variable {X:Cx} {tg:Expr}
def iList (K:PySem.W.Frag) (tl:TE):TI:=fun σ H R=>tl σ H fun x H1=>∃ a,x=.ref a∧(∃ xs,SqL K H1 a xs)∧R (Itl K a) H1
def iTup (K:PySem.W.Frag) (tl:TE):TI:=fun σ H R=>tl σ H fun x H1=>∃ a,x=.ref a∧(∃ xs,SqT K H1 a xs)∧R (Itt K a) H1
theorem pi_list {l:Expr} {tl:TE} (hl:PE X l tl):PI X tg l (iList X.K tl):=by
  intro pins s σ H R I h
  refine thn (hl pins s σ H _ I h) fun v s1 ⟨x,H1,I1,r1,q1⟩=>?_
  obtain ⟨a,e,⟨xs,hq⟩,q⟩:=q1
  subst e
  cases r1
  obtain ⟨its,rv,p,hz⟩:=I1.list hq
  refine wpAny_pyIter_list p.isList ?_
  refine ⟨s1.heap.objs.size,[s1.heap.objs.size],_,_,H1,rfl,I1.kept (t':=s1.toks) fun b o e=>Heap.get?_push_of_some _ e,turn_list a _,⟨_,Heap.get?_push_size _ rfl,rfl,rfl⟩,fun b hb=>?_,q⟩
  have e:b=s1.heap.objs.size:=by simpa using hb
  subst e
  exact I1.fpOk (Nat.le_refl _) (I1.hok.fresh (Nat.le_refl _))
theorem range_it {pins:List (Addr × Obj)} {σ:St} {H:Hp} {s:Shared} {R:It→Hp→Prop} {E:Value→Shared→Prop} {lo hi:Int} {t u v:Tok} {tk:Nat} (I:Inv X pins σ H s) (h1:-(2 ^ 62)≤lo) (h2:lo < 2 ^ 62) (h3:-(2 ^ 62)≤hi) (h4:hi < 2 ^ 62)
    (q:R (Itr lo (hi - lo).toNat) H):wpAny (model X.prog X.w) X.A (pyIter (.ref s.heap.objs.size)) (PIE X pins σ tg R) E { s with heap:=s.heap.push { cls:=.type "range",data:=.fields #[.int lo t,.int hi u,.int 1 v] },toks:=tk }:=by
  refine wpAny_pyIter_range (IsRange.new ..) (small_one h1 h2 h3 h4) ?_
  have I1:Inv X pins σ H { s with heap:=s.heap.push { cls:=.type "range",data:=.fields #[.int lo t,.int hi u,.int 1 v] },toks:=tk }:=I.kept fun b o e=>Heap.get?_push_of_some _ e
  refine ⟨(s.heap.push { cls:=.type "range",data:=.fields #[.int lo t,.int hi u,.int 1 v] }).objs.size,[(s.heap.push { cls:=.type "range",data:=.fields #[.int lo t,.int hi u,.int 1 v] }).objs.size],_,_,H,rfl,
    I1.kept (t':=tk) fun b o e=>Heap.get?_push_of_some _ e,turn_range _ lo (hi - lo).toNat,?_,fun b hb=>?_,q⟩
  · have e1:lo + ((0:Nat):Int) * 1=lo:=by simp
    have e2:(((hi - lo).toNat:Nat):Int) - ((0:Nat):Int)=Builtin.Range.rangeSize lo hi 1:=by rw [rangeSize_one];split <;> omega
    show IsRangeIter _ _ (lo + ((0:Nat):Int) * 1) ((((hi - lo).toNat:Nat):Int) - ((0:Nat):Int)) 1
    rw [e1,e2]
    exact Heap.get?_push_size _ rfl
  · have e:b=(s.heap.push { cls:=.type "range",data:=.fields #[.int lo t,.int hi u,.int 1 v] }).objs.size:=by simpa using hb
    subst e
    exact I1.fpOk (Nat.le_refl _) (I1.hok.fresh (Nat.le_refl _))
def iRng1 (ta:TA):TI:=fun σ H R=>ta σ H fun vs H1=>∃ j:Int,vs=[.int j]∧-(2 ^ 62)≤j∧j < 2 ^ 62∧R (Itr 0 j.toNat) H1
def iRng2 (ta:TA):TI:=fun σ H R=>ta σ H fun vs H1=>∃ i j:Int,vs=[.int i,.int j]∧(-(2 ^ 62)≤i∧i < 2 ^ 62∧-(2 ^ 62)≤j∧j < 2 ^ 62)∧R (Itr i (j - i).toNat) H1
theorem pi_range1 {a:Expr} {ta:TA} {p pos:Pos} (hg:Gl X "range") (hm:X.mg "range"=none) (ha:PA X [a] ta) (hs:starEach [a] X.env=[(false,eval a X.env)]:=by rfl):PI X tg (.Call (.Name "range" p) [a] [] pos) (iRng1 ta):=by
  intro pins s σ H R I h
  refine Call_ (ld_blt I hg hm boot_range (PyProof.Rows.callWith_type1 (thn (ha pos pins s σ H _ I h) fun us s1 ⟨vs,H1,I1,r1,q1⟩=>?_) hs rfl))
  obtain ⟨j,e,q1,q2,q⟩:=q1
  subst e
  cases r1 with
  | cons r rr =>
    cases rr
    obtain ⟨t,rfl⟩:=r
    exact call_range_1 (range_it I1 (by omega) (by omega) q1 q2 (by simpa using q))
def tFor (wi:TI) (g:TG) (tb:TS):TS:=fun D σ H=>wi σ H fun J H1=>∃ W:Nat→Nat→St→Hp→Prop,(∃ m,W 0 m σ H1)∧∀ i m σ H,W i m σ H →
  (J.stop i H∧D.nx σ H)∨(J.go i H∧∃ N:St→Hp→Prop,(∀ σ' H',N σ' H'→∃ m',m' < m∧W (i + 1) m' σ' H')∧∀ x H',J.yld i H x H'→g x σ H' fun σ2 H2=>tb { D with nx:=N,ct:=N,bk:=D.nx } σ2 H2)
def pinsAt (fp:List Addr) (h:Heap):List (Addr × Obj):=fp.filterMap fun b=>(h.get? b).map fun o=>(b,o)
theorem mem_pinsAt {fp:List Addr} {h:Heap} {b:Addr} {o:Obj} (hb:b∈fp) (e:h.get? b=some o):(b,o)∈pinsAt fp h:=List.mem_filterMap.mpr ⟨b,hb,by rw [e];rfl⟩
theorem of_pinsAt {fp:List Addr} {h:Heap} {p:Addr × Obj} (hp:p∈pinsAt fp h):p.1∈fp∧h.get? p.1=some p.2:=by
  obtain ⟨b,hb,e⟩:=List.mem_filterMap.mp hp
  cases q:h.get? b with
  | none=>rw [q] at e;cases e
  | some o =>
    rw [q] at e
    have e':(b,o)=p:=Option.some.inj e
    subst e'
    exact ⟨hb,q⟩
theorem Inv.pinned {pins:List (Addr × Obj)} {σ:St} {H:Hp} {s:Shared} {fp:List Addr} (I:Inv X pins σ H s) (hf:∀ b∈fp,FpOk X pins H b) (ho:∀ b∈fp,∃ o,s.heap.get? b=some o∧∀ v,o.data≠.cell v):Inv X (pins ++ pinsAt fp s.heap) σ H s :=
  I.pins_of fun p hp=>(List.mem_append.mp hp).elim (fun z=>I.pin p (List.mem_append_right _ z)) fun z=>by
    obtain ⟨hb,e⟩:=of_pinsAt z
    obtain ⟨f0,f1,f2,_⟩:=hf p.1 hb
    obtain ⟨o,e',d⟩:=ho p.1 hb
    rw [e] at e';cases e'
    exact ⟨e,f0,f1,f2,d⟩
theorem Inv.unpinned {pins pl:List (Addr × Obj)} {σ:St} {H:Hp} {s:Shared} (I:Inv X (pins ++ pl) σ H s):Inv X pins σ H s:=I.pins_of fun p hp=>I.pin p (List.mem_append_right _ (List.mem_append_left _ hp))
theorem ps_for {iter:Expr} {body:List Stmt} {wi:TI} {g:TG} {tb:TS} {pos:Pos} (hp:PassesOwn (model X.prog X.w) X.A X.env X.xe) (hc:X.calm=true) (hi:PI X tg iter wi) (hg:PG X tg g) (hb:PSs X body tb)
    (hs:∀ x,foldedSetIterable iter X.env x=pure x:=by intro _;rfl):PS X (.For tg iter body [] pos) (tFor wi g tb):=by
  intro pins s σ H D I h
  refine wpAny_For (thn (hi pins s σ H _ I h) fun v s1 h1=>thn h1 fun itv s2 h2=>?_) hs
  obtain ⟨it,fp,tn,J,H2,e,I2,T,st2,f2,W,⟨m0,w0⟩,turn⟩:=h2
  subst e
  -- what stays true of the iterator's objects through the loop
  have stat:∀ {H':Hp},(∀ b∈fp,H' b=none)→∀ b∈fp,FpOk X pins H' b:=fun hn b hb=>⟨hn b hb,(f2 b hb).2⟩
  refine codeAny_forLoop_any (fun n s'=>∃ i σ' H',Inv X pins σ' H' s'∧tn i s'.heap∧(∀ b∈fp,H' b=none)∧W i n σ' H') ?_ m0 ⟨0,σ,H2,I2,st2,fun b hb=>(f2 b hb).1,w0⟩
  rintro n s3 ⟨i,σ3,H3,I3,st3,fr3,w3⟩
  rcases turn i n σ3 H3 w3 with ⟨stop,qn⟩ | ⟨go,N,hN,step⟩
  · refine wpAny_passesOwn hp (thn (T.done X rfl rfl rfl hc i pins s3 σ3 H3 X.xe I3 (stat fr3) st3 stop) fun r s4 ⟨hr,I4⟩=>?_)
    subst hr
    exact wpAny_execs_nil ⟨σ3,H3,I4,qn⟩
  · refine wpAny_passesOwn hp (thn (T.item X rfl rfl rfl hc i pins s3 σ3 H3 X.xe I3 (stat fr3) st3 go) fun r s4 ⟨u,hr,h4⟩=>?_)
    subst hr
    refine wpAny_passesOwn hp (thn h4 fun _ s5 ⟨x,H5,I5,r5,y5,st5,fr5⟩=>?_)
    have I5':=I5.pinned (stat fr5) (T.obj _ _ st5)
    refine wpAny_passesOwn hp (thn (hg _ s5 σ3 H5 x u _ I5' r5 (step x H5 y5)) fun _ s6 ⟨σ6,H6,I6,q6⟩=>?_)
    refine wpAny_passesOwn hp (thn (hb _ s6 σ6 H6 _ I6 q6) fun f s7 q7=>?_)
    have again:∀ {σ7:St} {H7:Hp},Inv X (pins ++ pinsAt fp s5.heap) σ7 H7 s7→N σ7 H7→∃ m,m < n∧∃ i σ' H',Inv X pins σ' H' s7∧tn i s7.heap∧(∀ b∈fp,H' b=none)∧W i m σ' H':=fun {σ7 H7} I7 n7=>by
      obtain ⟨m',hm,w7⟩:=hN σ7 H7 n7
      refine ⟨m',hm,i + 1,σ7,H7,I7.unpinned,T.keep _ _ _ st5 fun b hb o e=>(I7.pin (b,o) (List.mem_append_right _ (List.mem_append_right _ (mem_pinsAt hb e)))).1,fun b hb=>?_,w7⟩
      obtain ⟨o,e,d⟩:=T.obj _ _ st5 b hb
      exact (I7.pin (b,o) (List.mem_append_right _ (List.mem_append_right _ (mem_pinsAt hb e)))).2.1
    cases f with
    | next=>obtain ⟨σ7,H7,I7,n7⟩:=q7;exact again I7 n7
    | cont=>obtain ⟨σ7,H7,I7,n7⟩:=q7;exact again I7 n7
    | brk=>obtain ⟨σ7,H7,I7,q7⟩:=q7;exact ⟨σ7,H7,I7.unpinned,q7⟩
    | ret v=>obtain ⟨x7,σ7,H7,I7,r7,q7⟩:=q7;exact ⟨x7,σ7,H7,I7.unpinned,r7,q7⟩
end
end L2
namespace L2
open PySem PySem.Spec PyProof.Rows
abbrev R2:=V→V→Hp→VK→Prop
def OpR (X:Cx) (f:Value→Value→Sem Value) (r:R2):Prop :=
  ∀ (pins:List (Addr × Obj)) (s:Shared) (σ:St) (H:Hp) (x y:V) (v u:Value) (Q:VK),Inv X pins σ H s→RelV x v→RelV y u→r x y H Q →
    wpAny (model X.prog X.w) X.A (f v u) (EP X pins σ Q) X.xe s
def UnR (X:Cx) (f:Value→Sem Value) (r:V→Hp→VK→Prop):Prop :=
  ∀ (pins:List (Addr × Obj)) (s:Shared) (σ:St) (H:Hp) (x:V) (v:Value) (Q:VK),Inv X pins σ H s→RelV x v→r x H Q →
    wpAny (model X.prog X.w) X.A (f v) (EP X pins σ Q) X.xe s
def CallR (X:Cx) (f:Value) (r:List V→Hp→VK→Prop):Prop :=
  ∀ (pins:List (Addr × Obj)) (s:Shared) (σ:St) (H:Hp) (xs:List V) (us:List Value) (Q:VK),Inv X pins σ H s→Vals xs us→r xs H Q →
    wpAny (model X.prog X.w) X.A (call f us) (EP X pins σ Q) X.xe s
def tOp (r:R2) (ta tb:TE):TE:=fun σ H Q=>ta σ H fun x H1=>tb σ H1 fun y H2=>r x y H2 Q
def tUn (r:V→Hp→VK→Prop) (ta:TE):TE:=fun σ H Q=>ta σ H fun x H1=>r x H1 Q
def rI (C:Int→Int→Prop) (g:Int→Int→V):R2:=fun x y H Q=>∃ i j,x=.int i∧y=.int j∧C i j∧Q (g i j) H
def rI0 (g:Int→Int→V):R2:=fun x y H Q=>∃ i j,x=.int i∧y=.int j∧Q (g i j) H
def rU (g:Int→V):V→Hp→VK→Prop:=fun x H Q=>∃ i,x=.int i∧Q (g i) H
section
variable {X:Cx} {a b c:Expr} {ta tb tc:TE} {pos:Pos}
theorem binT (ha:PE X a ta) (hb:PE X b tb) {pins:List (Addr × Obj)} {s:Shared} {σ:St} {H:Hp} {R:V→V→Hp→Prop} (I:Inv X pins σ H s)
    (h:ta σ H fun x H1=>tb σ H1 fun y H2=>R x y H2) {Q:Value→Shared→Prop} {f:Value→Value→Sem Value}
    (hf:∀ v u s2 x y H2,Inv X pins σ H2 s2→RelV x v→RelV y u→R x y H2→wpAny (model X.prog X.w) X.A (f v u) Q X.xe s2) :
    wpAny (model X.prog X.w) X.A (eval a X.env) (fun v s₁=>wpAny (model X.prog X.w) X.A (eval b X.env) (fun u s₂=>wpAny (model X.prog X.w) X.A (f v u) Q X.xe s₂) X.xe s₁) X.xe s:=by
  refine thn (ha pins s σ H _ I h) fun v s1 ⟨x,H1,I1,r1,q1⟩=>?_
  refine thn (hb pins s1 σ H1 _ I1 q1) fun u s2 ⟨y,H2,I2,r2,q2⟩=>?_
  exact hf v u s2 x y H2 I2 r1 r2 q2
theorem pe_op {op:Operator} {r:R2} (ho:OpR X (binaryOp op) r) (ha:PE X a ta) (hb:PE X b tb):PE X (.BinOp a op b pos) (tOp r ta tb):=by
  intro pins s σ H Q I h
  exact wpAny_BinOp (binT ha hb I h fun v u s2 x y H2 I2 rx ry q=>ho pins s2 σ H2 x y v u Q I2 rx ry q)
theorem pe_un {op:UnaryOp} {r:V→Hp→VK→Prop} (ho:UnR X (unaryOp op) r) (ha:PE X a ta):PE X (.UnaryOp op a pos) (tUn r ta):=by
  intro pins s σ H Q I h
  exact UnaryOp_ (thn (ha pins s σ H _ I h) fun v s1 ⟨x,H1,I1,r1,q1⟩=>ho pins s1 σ H1 x v Q I1 r1 q1)
theorem opI {f:Value→Value→Sem Value} {C:Int→Int→Prop} {g:Int→Int→Int}
    (rule:∀ (i j:Int) (t u:Tok) (s:Shared) (Q:Value→Shared→Prop) (E:Value→Shared→Prop),C i j→Q (.int (g i j) s.toks) { s with toks:=s.toks + 1 }→wpAny (model X.prog X.w) X.A (f (.int i t) (.int j u)) Q E s) :
    OpR X f (rI C fun i j=>.int (g i j)):=by
  intro pins s σ H x y v u Q I rx ry h
  obtain ⟨i,j,rfl,rfl,hc,q⟩:=h
  obtain ⟨t,rfl⟩:=rx
  obtain ⟨t',rfl⟩:=ry
  exact rule i j t t' s _ _ hc ⟨.int (g i j),H,I.tok _,⟨_,rfl⟩,q⟩
theorem opI0 {f:Value→Value→Sem Value} {g:Int→Int→Int}
    (rule:∀ (i j:Int) (t u:Tok) (s:Shared) (Q:Value→Shared→Prop) (E:Value→Shared→Prop),Q (.int (g i j) s.toks) { s with toks:=s.toks + 1 }→wpAny (model X.prog X.w) X.A (f (.int i t) (.int j u)) Q E s) :
    OpR X f (rI0 fun i j=>.int (g i j)):=by
  intro pins s σ H x y v u Q I rx ry h
  obtain ⟨i,j,rfl,rfl,q⟩:=h
  obtain ⟨t,rfl⟩:=rx
  obtain ⟨t',rfl⟩:=ry
  exact rule i j t t' s _ _ ⟨.int (g i j),H,I.tok _,⟨_,rfl⟩,q⟩
theorem opB0 {f:Value→Value→Sem Value} {g:Int→Int→Bool}
    (rule:∀ (i j:Int) (t u:Tok) (s:Shared) (Q:Value→Shared→Prop) (E:Value→Shared→Prop),Q (.bool (g i j)) s→wpAny (model X.prog X.w) X.A (f (.int i t) (.int j u)) Q E s) :
    OpR X f (rI0 fun i j=>.bl (g i j)):=by
  intro pins s σ H x y v u Q I rx ry h
  obtain ⟨i,j,rfl,rfl,q⟩:=h
  obtain ⟨t,rfl⟩:=rx
  obtain ⟨t',rfl⟩:=ry
  exact rule i j t t' s _ _ ⟨.bl (g i j),H,I,rfl,q⟩
def CPow (i j:Int):Prop:=0≤j∧j≤1000000∧i.natAbs < 2 ^ 64
theorem op_add:OpR X (binaryOp .Add) (rI0 fun i j=>.int (i + j)):=opI0 fun _ _ _ _ _ _ _ q=>add_int q
theorem op_sub:OpR X (binaryOp .Sub) (rI0 fun i j=>.int (i - j)):=opI0 fun _ _ _ _ _ _ _ q=>sub_int q
theorem op_mod:OpR X (binaryOp .Mod) (rI (fun _ j=>0 < j) fun i j=>.int (i % j)):=opI fun i j _ _ _ _ _ hc q=>by
  have h1:(0:Int) < j:=hc
  exact mod_int' (by omega) (by rw [Int.fmod_eq_emod_of_nonneg i (by omega)];exact q)
theorem op_pow:OpR X (binaryOp .Pow) (rI CPow fun i j=>.int (i ^ j.toNat)):=opI fun _ _ _ _ _ _ _ hc q=>pow_int_small hc.1 hc.2.1 hc.2.2 q
theorem unI {f:Value→Sem Value} {g:Int→Int}
    (rule:∀ (i:Int) (t:Tok) (s:Shared) (Q:Value→Shared→Prop) (E:Value→Shared→Prop),Q (.int (g i) s.toks) { s with toks:=s.toks + 1 }→wpAny (model X.prog X.w) X.A (f (.int i t)) Q E s) :
    UnR X f (rU fun i=>.int (g i)):=by
  intro pins s σ H x v Q I rx h
  obtain ⟨i,rfl,q⟩:=h
  obtain ⟨t,rfl⟩:=rx
  exact rule i t s _ _ ⟨.int (g i),H,I.tok _,⟨_,rfl⟩,q⟩
theorem un_neg:UnR X (unaryOp .USub) (rU fun i=>.int (-i)):=unI fun _ _ _ _ _ q=>neg_int q
end
def scal:V→V→Bool
  | .non,.non=>true | .non,.int _=>true | .int _,.non=>true | .non,.bl _=>true | .bl _,.non=>true | .non,.str _=>true | .str _,.non=>true
  | .int _,.int _=>true | .bl _,.bl _=>true | .str _,.str _=>true | .byt _,.byt _=>true
  | .int _,.str _=>true | .str _,.int _=>true | .bl _,.str _=>true | .str _,.bl _=>true
  | _,_=>false
def rEq:R2:=fun x y H Q=>scal x y=true∧Q (.bl (decide (x=y))) H
def rNe:R2:=fun x y H Q=>scal x y=true∧Q (.bl (!decide (x=y))) H
theorem dec_int {i j:Int}:decide (V.int i=V.int j)=(i == j):=by
  rw [Bool.eq_iff_iff]
  simp
theorem dec_bl {i j:Bool}:decide (V.bl i=V.bl j)=(i == j):=by
  rw [Bool.eq_iff_iff]
  simp
theorem dec_str {i j:Str}:decide (V.str i=V.str j)=(i == j):=by
  rw [Bool.eq_iff_iff]
  simp
theorem dec_byt {i j:Array UInt8}:decide (V.byt i=V.byt j)=(i.toList == j.toList):=by
  rw [Bool.eq_iff_iff]
  cases i
  cases j
  simp
section
variable {X:Cx} {a b c:Expr} {ta tb tc:TE} {pos:Pos}
theorem fin_bl {pins:List (Addr × Obj)} {σ:St} {H:Hp} {s:Shared} {Q:VK} {k k':Bool} (I:Inv X pins σ H s) (q:Q (.bl k) H) (e:k=k'):EP X pins σ Q (.bool k') s:=by
  subst e
  exact ⟨.bl k,H,I,rfl,q⟩
theorem op_eq:OpR X (compareOp .Eq) rEq:=by
  intro pins s σ H x y v u Q I rx ry h
  obtain ⟨hs,q⟩:=h
  cases x with
  | non =>
    cases rx
    cases y with
    | non=>cases ry;exact PySem.EqNone.eq_none_none (fin_bl I q (by simp))
    | bl j=>cases ry;exact PySem.EqNone.eq_none_bool (fin_bl I q (by simp))
    | int j=>obtain ⟨t',rfl⟩:=ry;exact PySem.EqNone.eq_none_int (fin_bl I q (by simp))
    | str j=>obtain ⟨t',rfl⟩:=ry;exact PySem.EqNone.eq_none_str (fin_bl I q (by simp))
    | _=>exact absurd (show false=true from hs) Bool.false_ne_true
  | bl i =>
    cases rx
    cases y with
    | non=>cases ry;exact PySem.EqNone.eq_bool_none (fin_bl I q (by simp))
    | bl j=>cases ry;exact eq_bool (fin_bl I q dec_bl)
    | str j=>obtain ⟨t',rfl⟩:=ry;exact PySem.EqMixed.eq_bool_str (fin_bl I q (by simp))
    | _=>exact absurd (show false=true from hs) Bool.false_ne_true
  | int i =>
    obtain ⟨t,rfl⟩:=rx
    cases y with
    | non=>cases ry;exact PySem.EqNone.eq_int_none (fin_bl I q (by simp))
    | int j=>obtain ⟨t',rfl⟩:=ry;exact eq_int (fin_bl I q dec_int)
    | str j=>obtain ⟨t',rfl⟩:=ry;exact PySem.EqMixed.eq_int_str (fin_bl I q (by simp))
    | _=>exact absurd (show false=true from hs) Bool.false_ne_true
  | str i =>
    obtain ⟨t,rfl⟩:=rx
    cases y with
    | non=>cases ry;exact PySem.EqNone.eq_str_none (fin_bl I q (by simp))
    | bl j=>cases ry;exact PySem.EqMixed.eq_str_bool (fin_bl I q (by simp))
    | int j=>obtain ⟨t',rfl⟩:=ry;exact PySem.EqMixed.eq_str_int (fin_bl I q (by simp))
    | str j=>obtain ⟨t',rfl⟩:=ry;exact eq_str (fin_bl I q dec_str)
    | _=>exact absurd (show false=true from hs) Bool.false_ne_true
  | byt i =>
    obtain ⟨t,rfl⟩:=rx
    cases y with
    | byt j=>obtain ⟨t',rfl⟩:=ry;exact PySem.W.eq_bytes (fin_bl I q dec_byt)
    | _=>exact absurd (show false=true from hs) Bool.false_ne_true
  | _=>cases y <;> exact absurd (show false=true from hs) Bool.false_ne_true
theorem op_ne:OpR X (compareOp .NotEq) rNe:=by
  intro pins s σ H x y v u Q I rx ry h
  obtain ⟨hs,q⟩:=h
  cases x with
  | non =>
    cases rx
    cases y with
    | non=>cases ry;exact PySem.EqNone.ne_none_none (fin_bl I q (by simp))
    | bl j=>cases ry;exact PySem.EqNone.ne_none_bool (fin_bl I q (by simp))
    | int j=>obtain ⟨t',rfl⟩:=ry;exact PySem.EqNone.ne_none_int (fin_bl I q (by simp))
    | str j=>obtain ⟨t',rfl⟩:=ry;exact PySem.EqNone.ne_none_str (fin_bl I q (by simp))
    | _=>exact absurd (show false=true from hs) Bool.false_ne_true
  | bl i =>
    cases rx
    cases y with
    | non=>cases ry;exact PySem.EqNone.ne_bool_none (fin_bl I q (by simp))
    | bl j=>cases ry;exact ne_bool (fin_bl I q (congrArg not dec_bl))
    | str j=>obtain ⟨t',rfl⟩:=ry;exact PySem.EqMixed.ne_bool_str (fin_bl I q (by simp))
    | _=>exact absurd (show false=true from hs) Bool.false_ne_true
  | int i =>
    obtain ⟨t,rfl⟩:=rx
    cases y with
    | non=>cases ry;exact PySem.EqNone.ne_int_none (fin_bl I q (by simp))
    | int j=>obtain ⟨t',rfl⟩:=ry;exact ne_int (fin_bl I q (congrArg not dec_int))
    | str j=>obtain ⟨t',rfl⟩:=ry;exact PySem.EqMixed.ne_int_str (fin_bl I q (by simp))
    | _=>exact absurd (show false=true from hs) Bool.false_ne_true
  | str i =>
    obtain ⟨t,rfl⟩:=rx
    cases y with
    | non=>cases ry;exact PySem.EqNone.ne_str_none (fin_bl I q (by simp))
    | bl j=>cases ry;exact PySem.EqMixed.ne_str_bool (fin_bl I q (by simp))
    | int j=>obtain ⟨t',rfl⟩:=ry;exact PySem.EqMixed.ne_str_int (fin_bl I q (by simp))
    | str j=>obtain ⟨t',rfl⟩:=ry;exact ne_str (fin_bl I q (congrArg not dec_str))
    | _=>exact absurd (show false=true from hs) Bool.false_ne_true
  | byt i =>
    obtain ⟨t,rfl⟩:=rx
    cases y with
    | byt j=>obtain ⟨t',rfl⟩:=ry;exact PySem.W.ne_bytes (fin_bl I q (congrArg not dec_byt))
    | _=>exact absurd (show false=true from hs) Bool.false_ne_true
  | _=>cases y <;> exact absurd (show false=true from hs) Bool.false_ne_true
theorem op_lt:OpR X (compareOp .Lt) (rI0 fun i j=>.bl (decide (i < j))):=opB0 fun _ _ _ _ _ _ _ q=>lt_int q
theorem op_le:OpR X (compareOp .LtE) (rI0 fun i j=>.bl (decide (i≤j))):=opB0 fun _ _ _ _ _ _ _ q=>le_int q
theorem op_gt:OpR X (compareOp .Gt) (rI0 fun i j=>.bl (decide (j < i))):=opB0 fun _ _ _ _ _ _ _ q=>gt_int q
theorem op_in_str:OpR X (compareOp .In) (fun x y H Q=>∃ i j,x=.str i∧y=.str j∧Q (.bl (!(Builtin.Str.occurrences j i 0 j.length 1).isEmpty)) H):=by
  intro pins s σ H x y v u Q I rx ry h
  obtain ⟨i,j,rfl,rfl,q⟩:=h
  obtain ⟨t,rfl⟩:=rx
  obtain ⟨t',rfl⟩:=ry
  exact in_str (fin_bl I q rfl)
theorem nomark (b:Expr) {op:CmpOp} (h:op≠.In:=by decide) (h2:op≠.NotIn:=by decide):behindInMarks op b=false:=by
  have e1:(op == CmpOp.In)=false:=by cases op <;> first | rfl | exact absurd rfl h
  have e2:(op == CmpOp.NotIn)=false:=by cases op <;> first | rfl | exact absurd rfl h2
  cases b <;> simp [behindInMarks,e1,e2]
theorem pe_cmpR {op:CmpOp} {r:R2} (ho:OpR X (compareOp op) r) (ha:PE X a ta) (hb:PE X b tb) (hm:behindInMarks op b=false):PE X (.Compare a [op] [b] pos) (tOp r ta tb):=by
  intro pins s σ H Q I h
  exact wpAny_Compare1 (binT ha hb I h fun v u s2 x y H2 I2 rx ry q=>ho pins s2 σ H2 x y v u Q I2 rx ry q) hm
def tTest (t:TE):TT:=fun σ H Q=>t σ H fun x H'=>∃ k,x=.bl k∧Q k H'
theorem pt_cmpR {op:CmpOp} {r:R2} (ho:OpR X (compareOp op) r) (ha:PE X a ta) (hb:PE X b tb) (hm:behindInMarks op b=false):PT X (.Compare a [op] [b] pos) (tTest (tOp r ta tb)):=by
  intro pins s σ H Q I h
  refine wpAny_isTrue_Compare1 (thn (ha pins s σ H _ I h) fun v s1 ⟨x,H1,I1,r1,q1⟩=>thn (hb pins s1 σ H1 _ I1 q1) fun u s2 ⟨y,H2,I2,r2,q2⟩ =>
    thn (ho pins s2 σ H2 x y v u _ I2 r1 r2 q2) fun c s3 ⟨z,H3,I3,r3,k,e,q3⟩=>?_) hm
  subst e
  cases r3
  exact wpAny_truthy_bool ⟨H3,I3,q3⟩
def tChain (r r':R2) (ta tb tc:TE):TE:=fun σ H Q=>ta σ H fun x H1=>tb σ H1 fun y H2=>r x y H2 fun z H3=>∃ k,z=.bl k ∧
  (if k=true then tc σ H3 fun w' H4=>r' y w' H4 Q else Q (.bl false) H3)
theorem pe_chain {op op':CmpOp} {r r':R2} (ho:OpR X (compareOp op) r) (ho':OpR X (compareOp op') r') (ha:PE X a ta) (hb:PE X b tb) (hc:PE X c tc)
    (hm:lastMarks [op,op'] [b,c]=false:=by with_unfolding_all rfl):PE X (.Compare a [op,op'] [b,c] pos) (tChain r r' ta tb tc):=by
  intro pins s σ H Q I h
  refine Compare_chain (thn (ha pins s σ H _ I h) fun v s1 ⟨x,H1,I1,r1,q1⟩=>chain_link (thn (hb pins s1 σ H1 _ I1 q1) fun u s2 ⟨y,H2,I2,r2,q2⟩ =>
    thn (ho pins s2 σ H2 x y v u _ I2 r1 r2 q2) fun d s3 ⟨z,H3,I3,r3,k,e,q3⟩=>?_)) hm
  subst e
  cases r3
  refine wpAny_truthy_bool ?_
  cases k with
  | false=>exact ite_ff ⟨.bl false,H3,I3,rfl,q3⟩
  | true=>exact ite_tt (chain_last (thn (hc pins s3 σ H3 _ I3 q3) fun w' s4 ⟨z',H4,I4,r4,q4⟩=>ho' pins s4 σ H4 y z' u w' Q I4 r2 r4 q4))
theorem line63:(sizeLine:Nat) < 2 ^ 63:=by rw [sizeLine_eq];decide
theorem op_add_str:OpR X (binaryOp .Add) (fun x y H Q=>∃ i j,x=.str i∧y=.str j∧i.length + j.length≤sizeLine∧Q (.str (i ++ j)) H):=by
  intro pins s σ H x y v u Q I rx ry h
  obtain ⟨i,j,rfl,rfl,hz,q⟩:=h
  obtain ⟨t,rfl⟩:=rx
  obtain ⟨t',rfl⟩:=ry
  exact add_str (fun t' tk=>⟨.str (i ++ j),H,I.tok _,⟨_,rfl⟩,q⟩) hz
theorem vals1 {x:V} {us:List Value} (r:Vals [x] us):∃ u,us=[u]∧RelV x u:=by
  cases r with
  | cons r1 r2=>cases r2;exact ⟨_,rfl,r1⟩
theorem vals2 {x y:V} {us:List Value} (r:Vals [x,y] us):∃ u w',us=[u,w']∧RelV x u∧RelV y w':=by
  cases r with
  | cons r1 r2 =>
    cases r2 with
    | cons r3 r4=>cases r4;exact ⟨_,_,rfl,r1,r3⟩
theorem call_max2 (hc:X.calm=true):CallR X (.builtin "max") (fun xs H Q=>∃ i j,xs=[.int i,.int j]∧Q (.int (if j > i then j else i)) H):=by
  intro pins s σ H xs us Q I r h
  obtain ⟨i,j,rfl,q⟩:=h
  obtain ⟨u,w',rfl,⟨t,rfl⟩,⟨t',rfl⟩⟩:=vals2 r
  refine max_two_ints (I.ok.hd hc) fun h' tk k=>⟨_,H,I.kept k,?_,q⟩
  by_cases hj:j > i
  · rw [if_pos hj,if_pos hj];exact ⟨_,rfl⟩
  · rw [if_neg hj,if_neg hj];exact ⟨_,rfl⟩
theorem call_str_int:CallR X (.type "str") (fun xs H Q=>∃ i,xs=[.int i]∧i.natAbs.log2 < 1920∧Q (.str (toString i)) H):=by
  intro pins s σ H xs us Q I r h
  obtain ⟨i,rfl,hz,q⟩:=h
  obtain ⟨u,rfl,t,rfl⟩:=vals1 r
  exact PySem.P.str_of_int hz ⟨.str _,H,I.tok _,⟨_,rfl⟩,q⟩
theorem call_ord:CallR X (.builtin "ord") (fun xs H Q=>∃ x,xs=[.str x]∧x.length=1∧Q (.int (x.cps.getD 0 0:Nat)) H):=by
  intro pins s σ H xs us Q I r h
  obtain ⟨x,rfl,hz,q⟩:=h
  obtain ⟨u,rfl,t,rfl⟩:=vals1 r
  exact ord_of_one hz ⟨.int _,H,I.tok _,⟨_,rfl⟩,q⟩
def LenV (K:PySem.W.Frag) (x:V) (H:Hp) (n:Nat):Prop :=
  match x with
  | .str y=>y.length≤sizeLine∧n=y.length
  | .byt y=>y.size≤sizeLine∧n=y.size
  | .ref p=>(∃ xs,SqL K H p xs∧n=xs.length)∨∃ xs,SqT K H p xs∧n=xs.length
  | _=>False
theorem call_len:CallR X (.builtin "len") (fun xs H Q=>∃ x n,xs=[x]∧LenV X.K x H n∧Q (.int n) H):=by
  intro pins s σ H xs us Q I r h
  obtain ⟨x,n,rfl,e,q⟩:=h
  obtain ⟨u,rfl,rx⟩:=vals1 r
  have hl:=line63
  have hs:sizeLine=16777216:=sizeLine_eq
  cases x with
  | str y =>
    obtain ⟨t,rfl⟩:=rx
    obtain ⟨hy,e'⟩:y.length≤sizeLine∧n=y.length:=e
    subst e'
    exact len_str (by omega) ⟨.int _,H,I.tok _,⟨_,rfl⟩,q⟩
  | byt y =>
    obtain ⟨t,rfl⟩:=rx
    obtain ⟨hy,e'⟩:y.size≤sizeLine∧n=y.size:=e
    subst e'
    exact PySem.W.len_bytes (by omega) ⟨.int _,H,I.tok _,⟨_,rfl⟩,q⟩
  | ref p =>
    cases rx
    have e':(∃ xs,SqL X.K H p xs∧n=xs.length)∨∃ xs,SqT X.K H p xs∧n=xs.length:=e
    rcases e' with ⟨xs,hx,e'⟩ | ⟨xs,hx,e'⟩
    · subst e'
      obtain ⟨its,r',pl,hz⟩:=I.list hx
      have hlen:=r'.length
      exact Calls.call_len_list pl.isList (by simp only [List.size_toArray];omega) ⟨.int xs.length,H,I.tok _,⟨_,by simp only [List.size_toArray];rw [hlen]⟩,q⟩
    · subst e'
      obtain ⟨its,r',pl,hz⟩:=I.tuple hx
      have hlen:=r'.length
      exact len_tuple pl (by simp only [List.size_toArray];omega) ⟨.int xs.length,H,I.tok _,⟨_,by simp only [List.size_toArray];rw [hlen]⟩,q⟩
  | _=>exact (show False from e).elim
end
end L2
namespace L2
open PySem PySem.Spec PyProof.Rows
structure ObjM (h:Heap) (x dx C:Addr) (mA:Str→Option Value):Prop where
  obj:h.get? x=some (PySem.W.instObj C dx)
  ns:h.Ns1 dx mA
  ne:dx≠x
theorem lookIn_ns {h:Heap} {dx:Addr} {mA:Str→Option Value} (n:h.Ns1 dx mA):∃ od,h.get? dx=some od∧∀ name,PySem.W.lookIn name od=some (mA name):=by
  obtain ⟨o,es,ep,ho,hd,hk,_,hm⟩:=n
  refine ⟨o,ho,fun name=>?_⟩
  have e:=hm name
  unfold nsFind findBy at e
  rw [← Array.find?_toList] at e
  unfold PySem.W.lookIn
  rw [hd]
  dsimp only
  split
  · rename_i y q
    rw [q] at e
    exact congrArg some e
  · rename_i q
    rw [q] at e
    have a:es.toList.any (·.refKey)=false:=by
      rw [List.any_eq_false]
      intro y hy
      obtain ⟨z,t,hkey⟩:=hk y (Array.mem_toList_iff.mp hy)
      simp [DictEntry.refKey,hkey]
    have a':¬ es.toList.any (·.refKey)=true:=by rw [a];exact Bool.false_ne_true
    rw [if_neg a']
    exact congrArg some e
theorem ObjM.look {h:Heap} {x dx C:Addr} {mA:Str→Option Value} (I:ObjM h x dx C mA):∃ od,PySem.W.InstAt h x (PySem.W.instObj C dx) C (some od)∧∀ name,PySem.W.lookIn name od=some (mA name) :=
  let ⟨od,ho,hl⟩:=lookIn_ns I.ns
  ⟨od,⟨I.obj,rfl,rfl,ho⟩,hl⟩
section
variable {prog:Program} {w:World} {A:Around} {E:Value→Shared→Prop} {s:Shared} {K:PySem.W.Frag} {x dx C f:Addr} {mA:Str→Option Value} {name:Str} {v:Value}
end
def putF (f:Str) (v:V):List (Str × V)→List (Str × V)
  | []=>[(f,v)]
  | (g,x) :: r=>if g=f then (g,v) :: r else (g,x) :: putF f v r
theorem RelO.some_of {v:V} {o:Option Value} (r:RelO (some v) o):∃ u,o=some u∧RelV v u:=by
  cases o with
  | none=>exact (show False from r).elim
  | some u=>exact ⟨u,rfl,r⟩
section
variable {P:Program} {w:World} {H H':Hp} {h h':Heap} {a C dx:Addr} {fs fs':List (Str × V)}
theorem ins_get (hok:HOk P w H h) (e:H a=some (.ins C dx fs)):∃ mA,ObjM h a dx C mA∧(∀ f,RelO (fs.lookup f) (mA f))∧PySem.Within mA (fs.map (·.1))∧fs.length≤1000∧H dx=some (.own a):=by
  obtain ⟨d,z,ne,ob,mA,n,r,q⟩:=(show ObjOk P w H h a (.ins C dx fs) from hok a _ e)
  exact ⟨mA,⟨ob,n,ne⟩,r,q,z,d⟩
end
structure Cls (K:PySem.W.Frag) (C:Addr):Prop where
  pg:PySem.W.plainGet K C Str.empty=true
  hd:PySem.W.hasDictIn K C=true
  po:PySem.W.plainOver K C=true
  sa:PySem.W.findIn K (.ref C) "__setattr__"=some (some (.builtin "object.__setattr__"))
theorem Cls.get {K:PySem.W.Frag} {C:Addr} (c:Cls K C) (f:Str):PySem.W.plainGet K C f=true:=c.pg
def NoAttr (K:PySem.W.Frag) (C:Addr) (f:Str):Prop:=PySem.W.findIn K (.ref C) f=some none
section
variable {X:Cx} {pins:List (Addr × Obj)} {σ:St} {H:Hp} {s:Shared} {a C dx:Addr} {fs:List (Str × V)} {f:Str} {v:V} {A:Around} {E:Value→Shared→Prop}
end
def tFld (K:PySem.W.Frag) (ta:TE) (f:Str):TE:=fun σ H Q=>ta σ H fun x H1=>∃ a C dx fs v,x=.ref a∧H1 a=some (.ins C dx fs)∧Cls K C∧NoAttr K C f∧fs.lookup f=some v∧Q v H1
def sFld (K:PySem.W.Frag) (ta tv:TE) (f:Str):TS:=fun D σ H=>tv σ H fun y H1=>ta σ H1 fun x H2=>∃ a C dx fs,x=.ref a∧H2 a=some (.ins C dx fs)∧Cls K C∧NoAttr K C f∧fs.length < 1000 ∧
  D.nx σ (upd H2 a (.ins C dx (putF f y fs)))
def sFldAug (K:PySem.W.Frag) (ta tv:TE) (rd:V→V→Hp→VK→Prop) (f:Str):TS:=fun D σ H=>ta σ H fun x H1=>∃ a C dx fs v,x=.ref a∧H1 a=some (.ins C dx fs)∧Cls K C∧NoAttr K C f∧fs.lookup f=some v ∧
  tv σ H1 fun y H2=>rd v y H2 fun z H3=>∃ dx' fs',H3 a=some (.ins C dx' fs')∧fs'.length < 1000∧D.nx σ (upd H3 a (.ins C dx' (putF f z fs')))
section
variable {X:Cx} {o e value:Expr} {f:Str} {pos pos' tpos:Pos} {ta tv:TE}
def rAdd:V→V→Hp→VK→Prop:=fun x y H Q=>∃ i j,x=.int i∧y=.int j∧Q (.int (i + j)) H
end
section
variable {X:Cx} {pins:List (Addr × Obj)} {σ:St} {H:Hp} {s:Shared} {A:Around} {E:Value→Shared→Prop} {Q:Value→Shared→Prop} {c:Value} {b:Bool}
inductive TyOf (K:PySem.W.Frag) (H:Hp):V→Value→Prop where
  | non:TyOf K H .non (.type "NoneType")
  | bl (x:Bool):TyOf K H (.bl x) (.type "bool")
  | int (i:Int):TyOf K H (.int i) (.type "int")
  | str (x:Str):TyOf K H (.str x) (.type "str")
  | flt (x:UInt64):TyOf K H (.flt x) (.type "float")
  | lst {a:Addr} {xs:List V} (e:H a=some (.lst xs)):TyOf K H (.ref a) (.type "list")
  | frz {a:Addr} {o:Obj} {xs:List V} (e:H a=some (.frz o (.lst xs))):TyOf K H (.ref a) (.type "list")
  | tup {a:Addr} {xs:List V} (e:H a=some (.tup xs)):TyOf K H (.ref a) (.type "tuple")
  | dK {a:Addr} {kvs:List (Key × V)} (e:H a=some (.dK kvs)):TyOf K H (.ref a) (.type "dict")
  | dT {a:Addr} {kvs:List (List Key × V)} (e:H a=some (.dT kvs)):TyOf K H (.ref a) (.type "dict")
  | ins {a C dx:Addr} {fs:List (Str × V)} (e:H a=some (.ins C dx fs)) (cl:Cls K C) (ha:PySem.W.findIn K (.ref C) "__class__"=some (some (.builtin "object.__class__")))
      (hn:PySem.W.specialIn K (.builtin "object.__class__") "__get__"=some (some (.builtin "getset_descriptor.__get__"))) (htk:PySem.W.takesIn K (.builtin "object.__class__")=some true)
      (hm:PySem.W.mroIn K C (.type "object")=some true):TyOf K H (.ref a) (.ref C)
theorem isinst_ok {x:V} {u t:Value} (I:Inv X pins σ H s) (rx:RelV x u) (ty:TyOf X.K H x t) (e:PySem.W.kitOne X.K t c=some b) (h:∀ tk,Q (.bool b) { s with toks:=tk }) :
    wpAny (model X.prog X.w) A (call (.builtin "isinstance") [u,c]) Q E s:=by
  cases ty with
  | non=>cases (show u=Value.none from rx);exact PySem.W.kia_one PySem.W.kitx_none I.kIn True.intro e (fun z=>nomatch z) h
  | bl y=>cases (show u=Value.bool y from rx);exact PySem.W.kia_one PySem.W.kitx_bool I.kIn True.intro e (fun z=>nomatch z) h
  | int i=>obtain ⟨t,q⟩:=(show ∃ t,u=Value.int i t from rx);cases q;exact PySem.W.kia_one PySem.W.kitx_int I.kIn True.intro e (fun z=>nomatch z) h
  | str y=>obtain ⟨t,q⟩:=(show ∃ t,u=Value.str y t from rx);cases q;exact PySem.W.kia_one PySem.W.kitx_str I.kIn True.intro e (fun z=>nomatch z) h
  | flt y=>obtain ⟨t,q⟩:=(show ∃ t,u=Value.float y t from rx);cases q;exact PySem.W.kia_one PySem.W.kitx_float I.kIn True.intro e (fun z=>nomatch z) h
  | @lst a xs ea =>
    cases (show u=Value.ref a from rx)
    obtain ⟨_,_,n,_,h1⟩:=(show ObjOk X.prog X.w H s.heap a (.lst xs) from I.hok a _ ea)
    exact PySem.W.kia_one PySem.W.kitx_list I.kIn ⟨_,h1,rfl⟩ e (fun z=>nomatch z) h
  | @frz a ob xs ea =>
    cases (show u=Value.ref a from rx)
    obtain ⟨_,_,_,n,_,h1⟩:=(show ObjOk X.prog X.w H s.heap a (.frz ob (.lst xs)) from I.hok a _ ea)
    exact PySem.W.kia_one PySem.W.kitx_list I.kIn ⟨_,h1,rfl⟩ e (fun z=>nomatch z) h
  | @tup a xs ea =>
    cases (show u=Value.ref a from rx)
    obtain ⟨_,_,_,p⟩:=(show ObjOk X.prog X.w H s.heap a (.tup xs) from I.hok a _ ea)
    obtain ⟨o,h1,h2,_⟩:=p
    exact PySem.W.kia_one PySem.W.kitx_tuple I.kIn ⟨o,h1,h2⟩ e (fun z=>nomatch z) h
  | @dK a kvs ea =>
    cases (show u=Value.ref a from rx)
    obtain ⟨_,_,vs,_,p⟩:=(show ObjOk X.prog X.w H s.heap a (.dK kvs) from I.hok a _ ea)
    obtain ⟨o,es,ep,h1,h2,_⟩:=p
    exact PySem.W.kia_one PySem.W.kitx_dict I.kIn ⟨o,h1,h2.1⟩ e (fun z=>nomatch z) h
  | @dT a kvs ea =>
    cases (show u=Value.ref a from rx)
    obtain ⟨_,_,xs,_,o,es,ep,h1,h2,_⟩:=(show ObjOk X.prog X.w H s.heap a (.dT kvs) from I.hok a _ ea)
    exact PySem.W.kia_one PySem.W.kitx_dict I.kIn ⟨o,h1,h2.1⟩ e (fun z=>nomatch z) h
  | @ins a C dx fs ea cl ha hn htk hm =>
    cases (show u=Value.ref a from rx)
    obtain ⟨mA,O,_⟩:=ins_get I.hok ea
    obtain ⟨od,J,_⟩:=O.look
    exact PySem.W.kia_one (PySem.W.kitx_own (cl.get _) cl.hd ha hn htk hm) I.kIn J e (fun z=>nomatch z) h
end
end L2
namespace L2
open PySem PySem.Spec PyProof.Rows
structure Room (k:Nat) (A:Around):Prop where
  hd:A.handled=none
  dp:A.depth + 3 * k + 5 < recursionLimit
  un:A.units + 16 * k + 200 < cLine
theorem Room.mono {j k:Nat} {A:Around} (r:Room k A) (h:j≤k):Room j A:=⟨r.hd,by have:=r.dp;omega,by have:=r.un;omega⟩
theorem Room.deeper {k:Nat} {A:Around} (r:Room (k + 1) A) (env:Env):Room k (A.deeper env) :=
  ⟨r.hd,by have:=r.dp;show A.depth + 1 + 3 * k + 5 < _;omega,by have:=r.un;show A.units + 3 + 16 * k + 200 < _;omega⟩
theorem Room.depth {k:Nat} {A:Around} (r:Room k A):A.depth < recursionLimit:=by have:=r.dp;omega
theorem Room.units {k:Nat} {A:Around} (r:Room k A):A.units + 64 < cLine:=by have:=r.un;omega
def tNil:TA:=fun _ H Q=>Q [] H
def tCons (ta:TE) (tr:TA):TA:=fun σ H Q=>ta σ H fun x H1=>tr σ H1 fun xs H2=>Q (x :: xs) H2
section
variable {X:Cx} {e:Expr} {es:List Expr} {te:TE} {t:TA} {pos:Pos}
theorem pa_nil:PA X [] tNil:=fun _ _ _ _ H Q I h=>Calls.spliced_nil ⟨[],H,I,.nil,h⟩
theorem pa_cons (ha:PE X e te) (hr:PA X es t) (hs:starEach (e :: es) X.env=(false,eval e X.env) :: starEach es X.env:=by rfl):PA X (e :: es) (tCons te t):=by
  intro pos pins s σ H Q I h
  rw [hs]
  show wpAny _ _ (spliced ((false,eval e X.env) :: backTo pos (starEach es X.env))) _ _ s
  refine Calls.spliced_cons (thn (ha pins s σ H _ I h) fun u s1 ⟨x,H1,I1,r1,q1⟩=>?_)
  exact thn (hr pos pins s1 σ H1 _ I1 q1) fun us s2 ⟨xs,H2,I2,r2,q2⟩=>⟨x :: xs,H2,I2,.cons r1 r2,q2⟩
def tTup (t:TA):TE:=fun σ H Q=>t σ H fun xs H1=>xs.length≤sizeLine∧∀ p,H1 p=none→Q (.ref p) (upd H1 p (.tup xs))
def tLst (t:TA):TE:=fun σ H Q=>t σ H fun xs H1=>xs.length≤sizeLine∧∀ p,H1 p=none→Q (.ref p) (upd H1 p (.lst xs))
theorem pe_tup {x1} (h:PA X es t):PE X (.Tuple es x1 pos) (tTup t):=by
  intro pins s σ H Q I hq
  refine wpAny_Tuple_spliced (thn (h pos pins s σ H _ I hq) fun us s1 ⟨xs,H1,I1,r,z,q⟩=>⟨by rw [← r.length];exact z,?_⟩)
  have hf:H1 s1.heap.objs.size=none:=I1.hok.fresh (Nat.le_refl _)
  refine ⟨.ref s1.heap.objs.size,upd H1 s1.heap.objs.size (.tup xs),I1.laid (t':=s1.toks) (fun b u e=>Heap.get?_push_of_some _ e) (Nat.le_refl _) ?_,rfl,q _ hf⟩
  exact ⟨z,us,r,⟨_,Heap.get?_push_size _ rfl,rfl,_,rfl⟩⟩
theorem pe_lst (h:PA X es t):PE X (.List es pos) (tLst t):=by
  intro pins s σ H Q I hq
  refine wpAny_List_spliced (thn (h pos pins s σ H _ I hq) fun us s1 ⟨xs,H1,I1,r,z,q⟩=>⟨by rw [← r.length];exact z,?_⟩)
  have hf:H1 s1.heap.objs.size=none:=I1.hok.fresh (Nat.le_refl _)
  refine ⟨.ref s1.heap.objs.size,upd H1 s1.heap.objs.size (.lst xs),I1.laid (t':=s1.toks) (fun b u e=>Heap.get?_push_of_some _ e) (Nat.le_refl _) ?_,rfl,q _ hf⟩
  exact ⟨z,us,0,r,Heap.get?_push_size _ rfl⟩
end
abbrev Sp:=List V→Hp→VK→XK→Prop
abbrev CXT:=List Env→Hp→Shared→XK→Value→Shared→Prop
structure Env0 (P:Program) (w:World) (K:PySem.W.Frag) (mg:Str→Option Value) (base:Heap) (A:Around) (outer:List Env) (s:Shared) (H:Hp):Prop where
  frames:A.frames=some outer
  mod:Mod K mg base
  bs:∀ b o,base.get? b=some o→s.heap.get? b=some o∧H b=none
  bsz:base.objs.size≤s.heap.objs.size
  funs:s.heap.FunFrames base outer
  frf:∀ b∈frs outer,H b=none
  hok:HOk P w H s.heap
  bare:AllBare s.gens
def CE (outer:List Env) (P:Program) (w:World) (H:Hp) (s:Shared) (Q:VK) (u:Value) (s':Shared):Prop :=
  ∃ v H',s'.os=s.os∧AllBare s'.gens∧Un (frs outer) [] H H' s.heap s'.heap∧HOk P w H' s'.heap∧RelV v u∧Q v H'
def CR (CX:CXT) (outer:List Env) (P:Program) (w:World) (H:Hp) (s:Shared) (Q:VK) (E:XK) (r:Result) (s':Shared):Prop :=
  match r with
  | .ok (.ret u)=>CE outer P w H s Q u s'
  | .ok _=>False
  | .error e=>CX outer H s E e s'
structure FnOk (P:Program) (w:World) (K:PySem.W.Frag) (mg:Str→Option Value) (base:Heap) (CX:CXT) (k:Nat) (f:Addr) (fd:FuncData) (ps:List Str) (sp:Sp):Prop where
  len:∀ vs H Q E,sp vs H Q E→vs.length=ps.length
  run:∀ (A:Around) (outer:List Env) (s:Shared) (H:Hp) (args:Args) (us:List Value) (vs:List V) (Q:VK) (E:XK),Room k A→Env0 P w K mg base A outer s H→BindsTo s fd args (ps.zip us)→Vals vs us→sp vs H Q E →
    codeAny (model P w) A (.call (.ref f) args) (CR CX outer P w H s Q E) s
theorem FnOk.mono {P:Program} {w:World} {K:PySem.W.Frag} {mg:Str→Option Value} {base:Heap} {CX:CXT} {j k:Nat} {f:Addr} {fd:FuncData} {ps:List Str} {sp:Sp} (F:FnOk P w K mg base CX j f fd ps sp) (h:j≤k) :
    FnOk P w K mg base CX k f fd ps sp:=⟨F.len,fun A outer s H args us vs Q E hr=>F.run A outer s H args us vs Q E (hr.mono h)⟩
section
variable {X:Cx} {pins:List (Addr × Obj)} {σ:St} {H:Hp} {s s':Shared}
theorem Inv.env0 (I:Inv X pins σ H s):Env0 X.prog X.w X.K X.mg X.base X.A X.stack s H :=
  ⟨I.ok.frames,I.ok.mod,I.bs,Nat.le_trans I.ok.bsz I.sz,I.stack,I.stkFree,I.hok,I.bare⟩
theorem Inv.after {Q:VK} {u:Value} (I:Inv X pins σ H s) (h:CE X.stack X.prog X.w H s Q u s'):EP X pins σ Q u s':=by
  obtain ⟨v,H',os,bare,un,hok,r,q⟩:=h
  obtain ⟨hh,g,d,t,os'⟩:=s'
  obtain rfl:os'=s.os:=os
  exact ⟨v,H',I.call (h':=hh) (g':=g) (d':=d) (t':=t) (ch:=[]) un hok bare (fun b z=>absurd z (by simp)),r,q⟩
end
def tCall (sp:Sp) (dvs:List V) (E:XK) (t:TA):TE:=fun σ H Q=>t σ H fun vs H1=>sp (vs ++ dvs) H1 Q E
def tMeth (C:Addr) (m:Str) (sp:Sp) (dvs:List V) (E:XK) (ta:TE) (t:TA):TE:=fun σ H Q=>ta σ H fun x H1=>∃ a dx fs,x=.ref a∧H1 a=some (.ins C dx fs)∧fs.lookup m=none ∧
  t σ H1 fun vs H2=>sp (x :: (vs ++ dvs)) H2 Q E
def tMake (C:Addr) (sp:Sp) (dvs:List V) (E:XK) (t:TA):TE:=fun σ H Q=>t σ H fun vs H1=>∀ x dx,H1 x=none→H1 dx=none→dx≠x →
  sp (.ref x :: (vs ++ dvs)) (upd (upd H1 dx (.own x)) x (.ins C dx [])) (fun v H2=>v=.non∧Q (.ref x) H2) E
def Binds (K:PySem.W.Frag) (fd:FuncData) (ps:List Str) (ds:List Value):Prop :=
  ∀ (s:Shared) (us:List Value),K.In s.heap→(us ++ ds).length=ps.length→BindsTo s fd ⟨us,[]⟩ (ps.zip (us ++ ds))
theorem Binds.all {K:PySem.W.Frag} {fd:FuncData} {ps:List Str} (h:∀ us:List Value,us.length=ps.length→bindArgs fd ⟨us,[]⟩=pure (ps.zip us)):Binds K fd ps []:=fun s us _ hl=>by
  rw [List.append_nil] at hl ⊢
  exact .of_eq (h us hl)
def Passes (CX:CXT) (X:Cx) (E:XK):Prop:=∀ (pins:List (Addr × Obj)) (σ:St) (H:Hp) (s:Shared) (e:Value) (s':Shared),Inv X pins σ H s→CX X.stack H s E e s'→X.xe e s'
section
variable {X:Cx} {CX:CXT} {k:Nat} {f C:Addr} {fd:FuncData} {ps:List Str} {sp:Sp} {dvs:List V} {ds:List Value} {E:XK} {x m:Str} {p pos apos:Pos} {e o:Expr} {es:List Expr} {ta:TE} {t:TA}
theorem run_fn {pins:List (Addr × Obj)} {σ:St} {H:Hp} {s:Shared} {Q:VK} {us:List Value} {vs:List V} (F:FnOk X.prog X.w X.K X.mg X.base CX k f fd ps sp) (hr:Room k X.A) (hb:Binds X.K fd ps ds) (hd:Vals dvs ds) (hx:Passes CX X E)
    (I:Inv X pins σ H s) (r:Vals vs us) (h:sp (vs ++ dvs) H Q E):wpAny (model X.prog X.w) X.A (call (.ref f) us) (EP X pins σ Q) X.xe s:=by
  have r2:Vals (vs ++ dvs) (us ++ ds):=r.append hd
  have hl:(us ++ ds).length=ps.length:=by rw [← r2.length];exact F.len _ _ _ _ h
  refine wpAny_call (codeAny_mono (F.run X.A X.stack s H ⟨us,[]⟩ (us ++ ds) (vs ++ dvs) Q E hr I.env0 (hb s us I.kIn hl) r2 h) fun r s' hq=>?_)
  cases r with
  | error e=>exact hx pins σ H s e s' I hq
  | ok fl =>
    cases fl with
    | ret u=>exact I.after hq
    | next=>exact False.elim hq
    | brk=>exact False.elim hq
    | cont=>exact False.elim hq
theorem pe_call (F:FnOk X.prog X.w X.K X.mg X.base CX k f fd ps sp) (hr:Room k X.A) (hg:Gl X x) (hm:X.mg x=some (.ref f)) (hk:PySem.W.keepIn X.K (.ref f)=true) (hb:Binds X.K fd ps ds) (hd:Vals dvs ds) (hx:Passes CX X E)
    (ha:PA X (e :: es) t) (hdb:(x == ("__debug__":Str))=false:=by decide) (he:starEach (e :: es) X.env=(false,eval e X.env) :: starEach es X.env:=by rfl) (hpl:(backTo pos (starEach es X.env)).any (·.1)=false:=by rfl) :
    PE X (.Call (.Name x p) (e :: es) [] pos) (tCall sp dvs E t):=by
  intro pins s σ H Q I h
  refine wpAny_Call_Name_kw (ld_glob I hg hm ?_ hdb)
  refine PySem.W.callWith_K (h₀:=X.base) I.ok.mod.kin hk (thn (ha pos pins s σ H _ I h) fun us s1 ⟨vs,H1,I1,r,q⟩=>⟨I1.kIn,?_⟩) he hpl
  exact run_fn F hr hb hd hx I1 r q
end
section
variable {X:Cx} {CX:CXT} {k:Nat} {f C:Addr} {fd:FuncData} {ps ks:List Str} {sp:Sp} {E:XK} {x m:Str} {p pos apos kpos:Pos} {e o:Expr} {es:List Expr} {kws:List Keyword} {te ta:TE} {t tk:TA} {nm:Option Str}
variable {g:List Value→List Value→List Value} {gV:List V→List V→List V}
end
structure FnScope (N P:List Str) (sc:Scope):Prop where
  kind:sc.kind=.function
  co:sc.isCoroutine=false
  gen:sc.isGenerator=false
  nd:N.Nodup
  pre:N.take P.length=P
  par:∀ x∈P,sc.names.lookup x=some .local∨sc.names.lookup x=some .cell
  nofree:∀ y∈sc.names,y.2≠.free
theorem bindL_out {kindOf:Str→Option NameKind} {x:Str}:∀ {binds:List (Str × Value)} {m:Str→Option Value},(∀ v,(x,v) ∉ binds)→bindL kindOf binds m x=m x
  | [],_,_=>rfl
  | (n,v) :: r,m,h=>by
    unfold bindL
    rw [bindL_out fun w hw=>h w (List.mem_cons_of_mem _ hw)]
    split
    · have:x≠n:=by rintro rfl;exact h v List.mem_cons_self
      simp [this]
    · rfl
theorem bindC_out {kindOf:Str→Option NameKind} {x:Str}:∀ {binds:List (Str × Value)} {m:Str→Option Value},(∀ v,(x,v) ∉ binds)→bindC kindOf binds m x=m x
  | [],_,_=>rfl
  | (n,v) :: r,m,h=>by
    unfold bindC
    rw [bindC_out fun w hw=>h w (List.mem_cons_of_mem _ hw)]
    split
    · rfl
    · have:x≠n:=by rintro rfl;exact h v List.mem_cons_self
      simp [this]
theorem bindL_get {kindOf:Str→Option NameKind} {x:Str} {v:Value}:∀ {P:List Str} {vs:List Value} {i:Nat} {m:Str→Option Value},P.Nodup→P[i]?=some x→vs[i]?=some v→kindOf x=some .local →
    bindL kindOf (P.zip vs) m x=some v
  | [],_,_,_,_,h,_,_=>by simp at h
  | _ :: _,[],_,_,_,_,h,_=>by simp at h
  | p :: P,w :: vs,0,m,nd,h1,h2,hk=>by
    simp at h1 h2;subst h1;subst h2
    show bindL kindOf ((p,w) :: P.zip vs) m p=_
    unfold bindL
    rw [bindL_out fun v hv=>(List.nodup_cons.mp nd).1 (List.of_mem_zip hv).1,if_pos hk]
    simp
  | p :: P,w :: vs,i + 1,m,nd,h1,h2,hk=>by
    show bindL kindOf ((p,w) :: P.zip vs) m x=_
    unfold bindL
    exact bindL_get (i:=i) (List.nodup_cons.mp nd).2 (by simpa using h1) (by simpa using h2) hk
theorem bindC_get {kindOf:Str→Option NameKind} {x:Str} {v:Value}:∀ {P:List Str} {vs:List Value} {i:Nat} {m:Str→Option Value},P.Nodup→P[i]?=some x→vs[i]?=some v→kindOf x≠some .local →
    bindC kindOf (P.zip vs) m x=some v
  | [],_,_,_,_,h,_,_=>by simp at h
  | _ :: _,[],_,_,_,_,h,_=>by simp at h
  | p :: P,w :: vs,0,m,nd,h1,h2,hk=>by
    simp at h1 h2;subst h1;subst h2
    show bindC kindOf ((p,w) :: P.zip vs) m p=_
    unfold bindC
    rw [bindC_out fun v hv=>(List.nodup_cons.mp nd).1 (List.of_mem_zip hv).1,if_neg hk]
    simp
  | p :: P,w :: vs,i + 1,m,nd,h1,h2,hk=>by
    show bindC kindOf ((p,w) :: P.zip vs) m x=_
    unfold bindC
    exact bindC_get (i:=i) (List.nodup_cons.mp nd).2 (by simpa using h1) (by simpa using h2) hk
def start (N:List Str) (vs:List V):St:=vs.map some ++ List.replicate (N.length - vs.length) none
def cxOf (CX:CXT) (P:Program) (w:World) (K:PySem.W.Frag) (mg:Str→Option Value) (base:Heap) (N:List Str) (qual:Str) (scope:Scope) (f:Addr) (cd:Value) (A:Around) (outer:List Env) (s:Shared) (H:Hp) (E:XK):Cx where
  prog:=P
  w:=w
  K:=K
  mg:=mg
  base:=base
  A:=A.deeper (envOfC qual scope s.heap.objs.size f cd)
  N:=N
  s₀:=s
  H₀:=H
  env:=envOfC qual scope s.heap.objs.size f cd
  outer:=outer
  stack:=envOfC qual scope s.heap.objs.size f cd :: outer
  ex:=[]
  calm:=true
  fn:=fun _=>true
  pn:=[]
  xe:=fun e s'=>wpAny (model P w) (A.deeper (envOfC qual scope s.heap.objs.size f cd)) (leaving (envOfC qual scope s.heap.objs.size f cd) e) (fun _ s''=>CX outer H s E e s'') (fun e' s''=>CX outer H s E e' s'') s'
theorem cell_has {sc:Scope} {n:Nat} {x:Str} (h:sc.names.lookup x=some .cell):∃ c,(cellsFrom n sc.names []).lookup x=some c:=by
  have q:=PySem.W.cellsFrom_some sc.names n [] (.inl h)
  exact Option.isSome_iff_exists.mp q
theorem inv_start {CX:CXT} {P:Program} {w:World} {K:PySem.W.Frag} {mg:Str→Option Value} {base:Heap} {N ps:List Str} {qual:Str} {scope:Scope} {f:Addr} {cd:Value} {A:Around} {outer:List Env} {s s1:Shared} {H:Hp} {E:XK} {us:List Value} {vs:List V}
    (S:FnScope N ps scope) (hd:A.handled=none) (e0:Env0 P w K mg base A outer s H) (hl:vs.length=ps.length) (r:Vals vs us)
    (x:InCallC s s.heap.objs.size (bindL (envOfC qual scope s.heap.objs.size f cd).kindOf (ps.zip us) fun _=>none) (cellsFrom (s.heap.objs.size + 1) scope.names []) (bindC (envOfC qual scope s.heap.objs.size f cd).kindOf (ps.zip us) fun _=>none) s1) :
    Inv (cxOf CX P w K mg base N qual scope f cd A outer s H E) [] (start N vs) H s1:=by
  have hpl:ps.length≤N.length:=by have:=congrArg List.length S.pre;rw [List.length_take] at this;omega
  obtain ⟨h1,tk,rfl,hk⟩:=x.done
  have noA:∀ b:Addr,b ∉ (cxOf CX P w K mg base N qual scope f cd A outer s H E).ex:=fun b z=>absurd (show b∈([]:List Addr) from z) (by simp)
  refine ⟨⟨e0.mod,S.kind,rfl,rfl,Nat.le_refl _,fun y z c h1 h2=>?_,fun y hy=>?_,fun y c _ h=>?_,fun _=>hd,Around.frames_deeper e0.frames,.inr ⟨rfl,rfl⟩,fun b z=>absurd z (noA b),e0.bs,e0.bsz,fun b _ _=>noA b,fun b z=>absurd z (noA b),e0.funs,e0.frf⟩,
    rfl,e0.bare,Un.kept hk,⟨_,x.toInCall.ns,fun i y v h1 h2 h3=>?_⟩,fun y c h=>⟨_,x.cell y c h⟩,e0.hok.fresh (Nat.le_refl _),fun y c h=>?_,fun p hp=>absurd (show p∈([]:List (Addr × Obj)) from hp) (by simp),e0.hok.kept hk,?_⟩
  · exact name_of_addr x.apart (PySem.mem_of_lookup h1) (PySem.mem_of_lookup h2)
  · have hy:scope.names.lookup y=some .cell∨scope.names.lookup y=some .free:=hy
    rcases hy with hy | hy
    · exact cell_has hy
    · exact absurd rfl (S.nofree _ (PySem.mem_of_lookup hy))
  · exact Nat.le_of_lt (x.above y c (PySem.mem_of_lookup h))
  · have hi:i < vs.length:=by
      unfold start at h2
      by_cases hi:i < vs.length
      · exact hi
      · rw [List.getElem?_append_right (by simpa using hi)] at h2
        rw [List.getElem?_replicate] at h2
        split at h2 <;> cases h2
    have ha:vs[i]?=some v:=by
      unfold start at h2
      rw [List.getElem?_append_left (by simpa using hi),List.getElem?_map] at h2
      cases e:vs[i]? with
      | none=>rw [e] at h2;cases h2
      | some a=>rw [e] at h2;cases h2;rfl
    obtain ⟨u,hu,rv⟩:=r.get ha
    have hp:ps[i]?=some y:=by
      rw [← S.pre,List.getElem?_take_of_lt (by omega)];exact h1
    have ndP:ps.Nodup:=by rw [← S.pre];exact S.nd.sublist (List.take_sublist _ _)
    refine ⟨u,rv,?_⟩
    rcases S.par y (List.mem_of_getElem? hp) with k | k
    · exact .inl ⟨k,bindL_get ndP hp hu k⟩
    · obtain ⟨c,e⟩:=cell_has (n:=s.heap.objs.size + 1) k
      refine .inr ⟨.inl k,c,e,?_⟩
      have q:=x.cell y c e
      rw [bindC_get ndP hp hu (by show scope.names.lookup y≠_;rw [k];decide)] at q
      exact q
  · exact e0.hok.fresh (Nat.le_of_lt (x.above y c (PySem.mem_of_lookup h)))
  · unfold start
    show _=N.length
    rw [List.length_append,List.length_map,List.length_replicate]
    omega
theorem fn_of {CX:CXT} {P:Program} {w:World} {K:PySem.W.Frag} {mg:Str→Option Value} {base:Heap} {k:Nat} {f:Addr} {name qual:Str} {params:Arguments} {body:List Stmt} {scope:Scope} {dV kV doc pm cdv ct oc:Value} {an od:Option Addr}
    {osl:Array (Option Value)} {N ps:List Str} {sp:Sp} (lk:K.lookup f=some ⟨oc,od,.func (PySem.W.fnOf name qual params body scope dV kV doc pm an cdv ct),osl⟩) (hcd:PySem.W.codeIn K cdv qual=true) (S:FnScope N ps scope)
    (len:∀ vs H Q E,sp vs H Q E→vs.length=ps.length)
    (hbody:∀ (A:Around) (outer:List Env) (s:Shared) (H:Hp) (vs:List V) (Q:VK) (E:XK),Room k (A.deeper (envOfC qual scope s.heap.objs.size f cdv))→sp vs H Q E →
      ∃ t,PSs (cxOf CX P w K mg base N qual scope f cdv A outer s H E) body t∧t { nx:=fun _ H'=>Q .non H',rt:=Q } (start N vs) H) :
    FnOk P w K mg base CX (k + 1) f (PySem.W.fnOf name qual params body scope dV kV doc pm an cdv ct) ps sp:=by
  refine ⟨len,fun A outer s H args us vs Q E hr e0 hb r hsp=>?_⟩
  have hl:=len _ _ _ _ hsp
  have KX:K.In s.heap:=e0.mod.kin.keeps fun b o e=>(e0.bs b o e).1
  have lim:s.heap.NoLimit:=e0.mod.nolimit.keeps fun b o e=>(e0.bs b o e).1
  have hkind:∀ y∈ps.zip us,scope.names.lookup y.1=some .local∨(scope.names.lookup y.1=some .cell∧((cellsFrom (s.heap.objs.size + 1) scope.names []).lookup y.1).isSome=true):=fun ⟨n,v⟩ hy=>by
    rcases S.par n (List.of_mem_zip hy).1 with q | q
    · exact .inl q
    · exact .inr ⟨q,PySem.W.cellsFrom_some _ _ _ (.inl q)⟩
  refine codeAny_call_function hr.depth (KX _ _ lk) rfl S.co S.gen rfl (PySem.W.codeRec_of KX hcd) (hb _ _ _ _ ?_)
  refine wpAny_newFunctionEnv_cells S.kind hkind fun env he s1 x=>?_
  subst he
  refine ⟨lim.keeps x.toInCall.keep,codeAny_func ?_⟩
  obtain ⟨t,ht,hq⟩:=hbody A outer s H vs Q E (hr.deeper _) hsp
  have I:Inv (cxOf CX P w K mg base N qual scope f cdv A outer s H E) [] (start N vs) H s1:=inv_start S hr.hd e0 hl r x
  refine wpAny_mono (ht [] s1 (start N vs) H _ I hq) (fun fl s' hs=>?_) fun e s' hs=>hs
  have fin:∀ {σ':St} {H':Hp} {v:V} {u:Value},Inv (cxOf CX P w K mg base N qual scope f cdv A outer s H E) [] σ' H' s'→RelV v u→Q v H'→CE outer P w H s Q u s' :=
    fun {σ' H' v u} J rv q=>⟨v,H',J.os,J.bare,J.base,J.hok,rv,q⟩
  cases fl with
  | ret u =>
    obtain ⟨v,σ',H',J,rv,q⟩:=hs
    exact fin J rv q
  | next =>
    obtain ⟨σ',H',J,q⟩:=hs
    exact fin (v:=V.non) (u:=Value.none) J rfl q
  | brk =>
    obtain ⟨_,_,_,q⟩:=hs
    exact False.elim q
  | cont =>
    obtain ⟨_,_,_,q⟩:=hs
    exact False.elim q
end L2
namespace L2
open PySem PySem.Spec PyProof.Rows
section
variable {X:Cx} {x:Str} {p pos:Pos} {e:Expr} {es:List Expr} {t:TA} {id T:String} {r:List V→Hp→VK→Prop}
def tCB (r:List V→Hp→VK→Prop) (t:TA):TE:=fun σ H Q=>t σ H fun vs H1=>r vs H1 Q
theorem pe_callB (hc:CallR X (.builtin id) r) (hg:Gl X x) (hm:X.mg x=none) (hv:bootBuiltins x=some (.builtin id)) (ha:PA X (e :: es) t) (hn:x≠"__name__":=by decide) (hdb:(x == ("__debug__":Str))=false:=by decide)
    (he:starEach (e :: es) X.env=(false,eval e X.env) :: starEach es X.env:=by rfl) (hpl:(backTo pos (starEach es X.env)).any (·.1)=false:=by rfl):PE X (.Call (.Name x p) (e :: es) [] pos) (tCB r t):=by
  intro pins s σ H Q I h
  refine wpAny_Call_Name_kw (ld_blt I hg hm hv ?_ hn hdb)
  exact PyProof.Rows.callWith_builtin1 (thn (ha pos pins s σ H _ I h) fun us s1 ⟨vs,H1,I1,r1,q1⟩=>hc pins s1 σ H1 vs us Q I1 r1 q1) he hpl
theorem pe_callTy (hc:CallR X (.type T) r) (hg:Gl X x) (hm:X.mg x=none) (hv:bootBuiltins x=some (.type T)) (ha:PA X (e :: es) t) (hn:x≠"__name__":=by decide) (hdb:(x == ("__debug__":Str))=false:=by decide)
    (he:starEach (e :: es) X.env=(false,eval e X.env) :: starEach es X.env:=by rfl) (hpl:(backTo pos (starEach es X.env)).any (·.1)=false:=by rfl):PE X (.Call (.Name x p) (e :: es) [] pos) (tCB r t):=by
  intro pins s σ H Q I h
  refine wpAny_Call_Name_kw (ld_blt I hg hm hv ?_ hn hdb)
  exact PyProof.Rows.callWith_type1 (thn (ha pos pins s σ H _ I h) fun us s1 ⟨vs,H1,I1,r1,q1⟩=>hc pins s1 σ H1 vs us Q I1 r1 q1) he hpl
end
end L2
namespace HT
open PySem PyProof.Rows
def lexLt:List Int→List Int→Bool
  | [],[]=>false
  | [],_ :: _=>true
  | _ :: _,[]=>false
  | x :: xs,y :: ys=>if x=y then lexLt xs ys else decide (x < y)
theorem rcLt_int (A:Around) (s:Shared) (a:Int) (t:Tok) (c:Int) (u:Tok) (prog:Program) (w:World) (E:Value→Shared→Prop) (Q:Value→Shared→Prop) (h:Q (.bool (decide (a < c))) s) :
    wpAny (model prog w) A (richCompare .Lt (.int a t) (.int c u)) Q E s :=
  (PyProof.Rows.lt_int h:wpAny (model prog w) A (compareOp .Lt (.int a t) (.int c u)) Q E s)
section
open PySem.SeqAt
open PySem.AutoSeq1 (wpAny_loadPart')
open PySem.MeetsSeq PySem.MeetsSeq2 PySem.MeetsSeq3
end
section
variable {prog:Program} {w:World} {A:Around} {E:Value→Shared→Prop} {s:Shared}
def sIx (n d:Nat):Option Int→Nat
  | none=>d
  | some v=>if v < 0 then (v + (n:Int)).toNat else min v.toNat n
theorem sIx_none (n d:Nat):sIx n d none=d:=rfl
theorem sIx_nat (n d k:Nat):sIx n d (some (k:Int))=min k n:=by
  show (if (k:Int) < 0 then ((k:Int) + (n:Int)).toNat else min (k:Int).toNat n)=min k n
  rw [if_neg (by omega),Int.toNat_natCast]
theorem sIx_le (n d:Nat) (hd:d≤n) (o:Option Int):sIx n d o≤n:=by
  cases o with
  | none=>exact hd
  | some v =>
    show (if v < 0 then (v + (n:Int)).toNat else min v.toNat n)≤n
    by_cases hv:v < 0
    · rw [if_pos hv];omega
    · rw [if_neg hv];exact Nat.min_le_right _ _
end
end HT
namespace L2
open PySem PySem.Spec PyProof.Rows
abbrev TO:=St→Hp→(Option Int→Hp→Prop)→Prop
def PO (X:Cx) (e:Option Expr) (t:TO):Prop :=
  ∀ (pins:List (Addr × Obj)) (s:Shared) (σ:St) (H:Hp) (Q:Option Int→Hp→Prop),Inv X pins σ H s→t σ H Q →
    wpAny (model X.prog X.w) X.A (evalPart e X.env) (fun u s'=>∃ o H',Inv X pins σ H' s'∧IsPart u o∧Q o H') X.xe s
def tNoPart:TO:=fun _ H Q=>Q none H
def tPart (t:TE):TO:=fun σ H Q=>t σ H fun x H1=>∃ i,x=.int i∧Q (some i) H1
theorem intsAre_of {ns:List Int}:∀ {us:List Value},Vals (ns.map V.int) us→IntsAre us ns:=by
  induction ns with
  | nil=>intro us r;rw [List.map_nil] at r;cases r;exact .nil
  | cons n ns ih =>
    intro us r
    rw [List.map_cons] at r
    cases r with
    | cons r1 r2 =>
      obtain ⟨t,e⟩:=r1
      subst e
      exact .cons n t (ih r2)
section
variable {X:Cx} {e:Expr} {te:TE} {lo hi:Option Expr} {tl th:TO} {pos p2:Pos}
theorem po_none:PO X none tNoPart:=by
  intro pins s σ H Q I h
  rw [evalPart_none]
  exact wpAny_pure ⟨none,H,I,.none,h⟩
theorem po_some (h:PE X e te):PO X (some e) (tPart te):=by
  intro pins s σ H Q I hw
  rw [evalPart_some]
  refine thn (h pins s σ H _ I hw) fun u s1 ⟨x,H1,I1,r1,q1⟩=>?_
  obtain ⟨i,rfl,q⟩:=q1
  obtain ⟨t,rfl⟩:=r1
  exact ⟨some i,H1,I1,.int i t,q⟩
def SlR (X:Cx) (r:V→Option Int→Option Int→Hp→VK→Prop):Prop :=
  ∀ (pins:List (Addr × Obj)) (s:Shared) (σ:St) (H:Hp) (x:V) (v vl vu:Value) (lo hi:Option Int) (sl:Addr) (Q:VK),Inv X pins σ H s→RelV x v→s.heap.IsSliceOf sl vl vu .none→IsPart vl lo→IsPart vu hi→r x lo hi H Q →
    ∃ T id,typeLookup (.type T) "__getitem__"=pure (some (.builtin id))∧s.TypeIs v T∧wpAny (model X.prog X.w) X.A (getItem v (.ref sl)) (EP X pins σ Q) X.xe s
def tSl (r:V→Option Int→Option Int→Hp→VK→Prop) (te:TE) (tl th:TO):TE:=fun σ H Q=>te σ H fun x H1=>tl σ H1 fun l H2=>th σ H2 fun u H3=>r x l u H3 Q
theorem pe_slice {r:V→Option Int→Option Int→Hp→VK→Prop} (hr:SlR X r) (he:PE X e te) (hl:PO X lo tl) (hu:PO X hi th):PE X (.Subscript e (.Slice lo hi none p2) pos) (tSl r te tl th):=by
  intro pins s σ H Q I h
  refine Subscript_ (thn (he pins s σ H _ I h) fun v s1 ⟨x,H1,I1,r1,q1⟩=>?_)
  refine wpAny_Slice (thn (hl pins s1 σ H1 _ I1 q1) fun vl s2 ⟨l,H2,I2,pl,q2⟩=>thn (hu pins s2 σ H2 _ I2 q2) fun vu s3 ⟨u,H3,I3,pu,q3⟩=>?_)
  rw [evalPart_none]
  refine wpAny_pure ?_
  have I4:Inv X pins σ H3 { s3 with heap:=s3.heap.push { cls:=.type "slice",data:=.fields #[vl,vu,.none] } }:=I3.kept (t':=s3.toks) fun b ob q=>Heap.get?_push_of_some _ q
  obtain ⟨T,id,hT,ht,hg⟩:=hr pins { s3 with heap:=s3.heap.push { cls:=.type "slice",data:=.fields #[vl,vu,.none] } } σ H3 x v vl vu l u s3.heap.objs.size Q I4 r1 (Heap.IsSliceOf.new ..) pl pu q3
  show wpAny (model X.prog X.w) X.A (subscriptTail e (.Slice lo hi none p2) v (.ref s3.heap.objs.size)) (EP X pins σ Q) X.xe { s3 with heap:=s3.heap.push { cls:=.type "slice",data:=.fields #[vl,vu,.none] } }
  exact tail_any (ops:=[.ref s3.heap.objs.size,v]) ht hT hg (by with_unfolding_all rfl)
def cutV (xs:List V) (lo hi:Option Int):List V:=(xs.drop (HT.sIx xs.length 0 lo)).take (HT.sIx xs.length xs.length hi - HT.sIx xs.length 0 lo)
theorem cutV_length (xs:List V) (lo hi:Option Int):(cutV xs lo hi).length≤xs.length:=by
  unfold cutV
  rw [List.length_take,List.length_drop]
  omega
def rCatT (K:PySem.W.Frag):R2:=fun x y H Q=>∃ a b xs ys,x=.ref a∧y=.ref b∧SqT K H a xs∧SqT K H b ys∧xs≠[]∧xs.length + ys.length≤sizeLine ∧
  (ys=[]→Q (.ref a) H)∧(ys≠[]→∀ p,H p=none→Q (.ref p) (upd H p (.tup (xs ++ ys))))
end
end L2
namespace L2
open PySem PySem.Spec PyProof.Rows
def ixN (n:Nat) (i:Int):Option Nat:=if 0≤i then (if i < n then some i.toNat else none) else if -(n:Int)≤i then some (i + n).toNat else none
def atI {α:Type} (xs:List α) (i:Int):Option α:=(ixN xs.length i).bind fun j=>xs[j]?
theorem ixN_seq {n:Nat} {i:Int} {j:Nat} (h:ixN n i=some j):seqIndex? i n=some j∧j < n∧-(n:Int)≤i∧i < n:=by
  unfold ixN at h
  by_cases h0:0≤i
  · rw [if_pos h0] at h
    by_cases h1:i < n
    · rw [if_pos h1] at h
      have e:i.toNat=j:=Option.some.inj h
      exact ⟨by rw [seqIndex_of h0 h1,e],by omega,by omega,h1⟩
    · rw [if_neg h1] at h;cases h
  · rw [if_neg h0] at h
    by_cases h1:-(n:Int)≤i
    · rw [if_pos h1] at h
      have e:(i + n).toNat=j:=Option.some.inj h
      exact ⟨by rw [seqIndex_neg (by omega) h1,e],by omega,h1,by omega⟩
    · rw [if_neg h1] at h;cases h
theorem atI_get {α:Type} {xs:List α} {i:Int} {v:α} (h:atI xs i=some v):∃ j,seqIndex? i xs.length=some j∧xs[j]?=some v∧j < xs.length∧-(xs.length:Int)≤i∧i < xs.length:=by
  unfold atI at h
  cases e:ixN xs.length i with
  | none=>rw [e] at h;cases h
  | some j =>
    rw [e] at h
    obtain ⟨h1,h2,h3,h4⟩:=ixN_seq e
    exact ⟨j,h1,h,h2,h3,h4⟩
theorem atI_nat {α:Type} {xs:List α} {j:Nat} {v:α} (h:xs[j]?=some v):atI xs (j:Int)=some v:=by
  have hj:j < xs.length:=(List.getElem?_eq_some_iff.mp h).1
  have e:ixN xs.length (j:Int)=some j:=by
    unfold ixN
    rw [if_pos (by omega),if_pos (by omega)];simp
  unfold atI;rw [e];exact h
def PlainIx (b:Expr):Prop:=∀ o i,subscripted b false o i=operate [o,i] (getItem o i)
def IxR (X:Cx) (r:R2):Prop :=
  ∀ (value slice:Expr) (pins:List (Addr × Obj)) (s:Shared) (σ:St) (H:Hp) (x y:V) (v u:Value) (Q:VK),Inv X pins σ H s→RelV x v→RelV y u→r x y H Q →
    subscripted slice false v u=operate [v,u] (getItem v u)→wpAny (model X.prog X.w) X.A (subscriptTail value slice v u) (EP X pins σ Q) X.xe s
def MtR (X:Cx) (id:String) (r:V→List V→Hp→VK→Prop):Prop :=
  ∀ (pins:List (Addr × Obj)) (s:Shared) (σ:St) (H:Hp) (x:V) (xs:List V) (v:Value) (us:List Value) (Q:VK),Inv X pins σ H s→RelV x v→Vals xs us→r x xs H Q →
    wpAny (model X.prog X.w) X.A (call (.builtin id) (v :: us)) (EP X pins σ Q) X.xe s
section
variable {X:Cx} {a b:Expr} {ta tb:TE} {pos:Pos}
theorem pe_ix {r:R2} (hr:IxR X r) (ha:PE X a ta) (hb:PE X b tb) (hs:PlainIx b):PE X (.Subscript a b pos) (tOp r ta tb):=by
  intro pins s σ H Q I h
  exact Subscript_ (binT ha hb I h fun v u s2 x y H2 I2 rx ry q=>hr a b pins s2 σ H2 x y v u Q I2 rx ry q (hs _ _))
def rIxL (K:PySem.W.Frag):R2:=fun x y H Q=>∃ p xs i v,x=.ref p∧y=.int i∧SqL K H p xs∧atI xs i=some v∧Q v H
def rIxT (K:PySem.W.Frag):R2:=fun x y H Q=>∃ p xs i v,x=.ref p∧y=.int i∧SqT K H p xs∧atI xs i=some v∧Q v H
def rIxS:R2:=fun x y H Q=>∃ z i c,x=.str z∧y=.int i∧z.length≤sizeLine∧atI z.cps.toList i=some c∧Q (.str ⟨#[c]⟩) H
theorem ix_list:IxR X (rIxL X.K):=by
  intro value slice pins s σ H x y v u Q I rx ry h hs
  obtain ⟨p,xs,i,z,rfl,rfl,hq,he,q⟩:=h
  cases rx
  obtain ⟨t,rfl⟩:=ry
  obtain ⟨its,r,pl,hz⟩:=I.list hq
  obtain ⟨j,h1,h2,h3,h4,h5⟩:=atI_get he
  obtain ⟨w,ew,rw'⟩:=r.get h2
  have hl:=r.length
  have hn:=line63
  have fin:EP X pins σ Q w s:=⟨z,H,I,rw',q⟩
  by_cases h0:0≤i
  · have hj:i.toNat=j:=by
      rw [seqIndex_of h0 h5] at h1
      exact Option.some.inj h1
    exact item_listR pl.isList h0 (by omega) (by rw [hj];simpa using ew) fin hs
  · have hj:(i + (its.toArray.size:Int)).toNat=j:=by
      rw [seqIndex_neg (by omega) h4] at h1
      rw [List.size_toArray,← hl]
      exact Option.some.inj h1
    exact subscriptTail_builtinR (x:=w) pl.isList.typeIs slot_list_getitem.lookup
      (wpAny_getItem_list_neg (Q:=fun r s'=>r=w∧EP X pins σ Q r s') pl.isList (by omega) (by rw [List.size_toArray] <;> omega) (by omega) (by rw [hj];simpa using ew) ⟨rfl,fin⟩) hs
theorem ix_tup:IxR X (rIxT X.K):=by
  intro value slice pins s σ H x y v u Q I rx ry h hs
  obtain ⟨p,xs,i,z,rfl,rfl,hq,he,q⟩:=h
  cases rx
  obtain ⟨t,rfl⟩:=ry
  obtain ⟨its,r,pl,hz⟩:=I.tuple hq
  obtain ⟨j,h1,h2,h3,h4,h5⟩:=atI_get he
  obtain ⟨w,ew,rw'⟩:=r.get h2
  have hl:=r.length
  have hn:=line63
  have fin:EP X pins σ Q w s:=⟨z,H,I,rw',q⟩
  exact subscriptTail_builtinR (x:=w) pl.typeIs slot_tuple_getitem.lookup
    (getItem_tuple (j:=j) (Q:=fun r s'=>r=w∧EP X pins σ Q r s') pl (by omega) (by omega) (by rw [List.size_toArray,← hl];exact h1) (by simpa using ew) ⟨rfl,fin⟩) hs
theorem ix_str:IxR X rIxS:=by
  intro value slice pins s σ H x y v u Q I rx ry h hs
  obtain ⟨z,i,c,rfl,rfl,hz,he,q⟩:=h
  obtain ⟨t,rfl⟩:=rx
  obtain ⟨t',rfl⟩:=ry
  obtain ⟨j,h1,h2,h3,h4,h5⟩:=atI_get he
  have hl:z.cps.toList.length=z.length:=by simp [Str.length]
  rw [hl] at h1 h4 h5
  have hn:=line63
  exact tail_any (typeIs_str s z t) slot_str_getitem.lookup (getItem_str (c:=c) (by
    have e1:decide (i < -(2 ^ 63:Int))=false:=decide_eq_false (by omega)
    have e2:decide (i ≥ 2 ^ 63)=false:=decide_eq_false (by omega)
    rw [e1,e2,Bool.or_false]) (by rw [h1];simpa using h2) ⟨.str ⟨#[c]⟩,H,I.tok _,⟨_,rfl⟩,q⟩) hs
theorem slice_bounds (lo hi:Option Int) (n:Nat):(sliceBounds lo hi none n).1=((HT.sIx n 0 lo:Nat):Int)∧(sliceBounds lo hi none n).2.1=((HT.sIx n n hi:Nat):Int)∧(sliceBounds lo hi none n).2.2=1:=by
  refine ⟨?_,?_,rfl⟩
  · cases lo with
    | none=>simp [sliceBounds,HT.sIx]
    | some i =>
      simp only [sliceBounds,HT.sIx,Option.getD_none,show (1:Int) > 0 by decide,if_true]
      by_cases h:i < 0
      · simp only [h,if_true] <;> omega
      · simp only [h,if_false] <;> omega
  · cases hi with
    | none=>simp [sliceBounds,HT.sIx]
    | some i =>
      simp only [sliceBounds,HT.sIx,Option.getD_none,show (1:Int) > 0 by decide,if_true]
      by_cases h:i < 0
      · simp only [h,if_true] <;> omega
      · simp only [h,if_false] <;> omega
theorem slicePick_cut (its:List Value) (lo hi:Option Int):slicePick its.toArray lo hi none=((its.drop (HT.sIx its.length 0 lo)).take (HT.sIx its.length its.length hi - HT.sIx its.length 0 lo)).toArray:=by
  obtain ⟨h1,h2,h3⟩:=slice_bounds lo hi its.toArray.size
  unfold slicePick
  rw [h1,h2,h3]
  simp only [sliceRange_one,pick_run,List.size_toArray] <;> rfl
def rSlL (K:PySem.W.Frag):V→Option Int→Option Int→Hp→VK→Prop:=fun x lo hi H Q=>∃ a xs,x=.ref a∧SqL K H a xs∧∀ p,H p=none→Q (.ref p) (upd H p (.lst (cutV xs lo hi)))
theorem sl_list:SlR X (rSlL X.K):=by
  intro pins s σ H x v vl vu lo hi sl Q I rx hs pl pu h
  obtain ⟨a,xs,rfl,hx,q⟩:=h
  cases rx
  obtain ⟨its,r,ht,hz⟩:=I.list hx
  have hlen:=r.length
  refine ⟨"list",_,slot_list_getitem.lookup,ht.isList.typeIs,?_⟩
  refine wpAny_getItem_list_slice ht.isList hs pl pu .none (by simp) ?_ (by rw [List.size_toArray] <;> omega)
  rw [slicePick_cut,← hlen]
  refine ⟨.ref s.heap.objs.size,_,I.laid (t':=s.toks) (o:=.lst (cutV xs lo hi)) (fun b ob q=>Heap.get?_push_of_some _ q) (Nat.le_refl _) ?_,rfl,q _ (I.hok.fresh (Nat.le_refl _))⟩
  exact ⟨Nat.le_trans (cutV_length xs lo hi) hz,_,0,(r.drop (HT.sIx xs.length 0 lo)).take (HT.sIx xs.length xs.length hi - HT.sIx xs.length 0 lo),Heap.get?_push_size _ rfl⟩
def flatV:V→Bool
  | .non=>true
  | .bl _=>true
  | .int _=>true
  | .str _=>true
  | _=>false
def eqV:V→V→Bool
  | .non,.non=>true
  | .bl a,.bl b=>a == b
  | .bl a,.int b=>(if a then 1 else 0) == b
  | .int a,.bl b=>a == (if b then 1 else 0)
  | .int a,.int b=>a == b
  | .str a,.str b=>a == b
  | _,_=>false
theorem eqAt_V {A:Around} {s:Shared} {y x:V} {u v:Value} (ry:RelV y u) (rx:RelV x v) (fy:flatV y=true) (fx:flatV x=true):SeqAt.EqAt A s u v (eqV y x):=by
  cases y with
  | non =>
    cases ry
    cases x with
    | non=>cases rx;exact SeqAt.EqAt.same _
    | bl b=>cases rx;exact SeqAt.EqAt.none_bool b
    | int b=>obtain ⟨t,rfl⟩:=rx;exact SeqAt.EqAt.none_int b t
    | str b=>obtain ⟨t,rfl⟩:=rx;exact SeqAt.EqAt.none_str b t
    | _=>exact absurd (show false=true from fx) Bool.false_ne_true
  | bl a =>
    cases ry
    cases x with
    | non=>cases rx;exact SeqAt.EqAt.bool_none a
    | bl b=>cases rx;exact SeqAt.EqAt.bool_bool a b
    | int b=>obtain ⟨t,rfl⟩:=rx;exact SeqAt.EqAt.bool_int a b t
    | str b=>obtain ⟨t,rfl⟩:=rx;exact SeqAt.EqAt.bool_str a b t
    | _=>exact absurd (show false=true from fx) Bool.false_ne_true
  | int a =>
    obtain ⟨t',rfl⟩:=ry
    cases x with
    | non=>cases rx;exact SeqAt.EqAt.int_none a t'
    | bl b=>cases rx;exact SeqAt.EqAt.int_bool a t' b
    | int b=>obtain ⟨t,rfl⟩:=rx;exact SeqAt.EqAt.int_int a t' b t
    | str b=>obtain ⟨t,rfl⟩:=rx;exact SeqAt.EqAt.int_str a t' b t
    | _=>exact absurd (show false=true from fx) Bool.false_ne_true
  | str a =>
    obtain ⟨t',rfl⟩:=ry
    cases x with
    | non=>cases rx;exact SeqAt.EqAt.str_none a t'
    | bl b=>cases rx;exact SeqAt.EqAt.str_bool a t' b
    | int b=>obtain ⟨t,rfl⟩:=rx;exact SeqAt.EqAt.str_int a t' b t
    | str b=>obtain ⟨t,rfl⟩:=rx;exact SeqAt.EqAt.str_str a t' b t
    | _=>exact absurd (show false=true from fx) Bool.false_ne_true
  | _=>exact absurd (show false=true from fy) Bool.false_ne_true
def eqU (x:V) (u:Value):Bool:=match u with
  | .none=>eqV .non x
  | .bool b=>eqV (.bl b) x
  | .int i _=>eqV (.int i) x
  | .str z _=>eqV (.str z) x
  | _=>false
theorem eqU_of {x y:V} {u:Value} (r:RelV y u) (f:flatV y=true):eqU x u=eqV y x:=by
  cases y with
  | non=>cases r;rfl
  | bl b=>cases r;rfl
  | int i=>obtain ⟨t,rfl⟩:=r;rfl
  | str z=>obtain ⟨t,rfl⟩:=r;rfl
  | _=>exact absurd (show false=true from f) Bool.false_ne_true
theorem any_eqU {x:V}:∀ {xs:List V} {us:List Value},Vals xs us→xs.all flatV=true→us.any (eqU x)=xs.any fun y=>eqV y x
  | _,_,.nil,_=>rfl
  | y :: xs,u :: us,.cons r t,f=>by
    rw [List.all_cons,Bool.and_eq_true] at f
    rw [List.any_cons,List.any_cons,eqU_of r f.1,any_eqU t f.2]
theorem mem_eqAt {A:Around} {s:Shared} {x:V} {v:Value} (rx:RelV x v) (fx:flatV x=true):∀ {xs:List V} {us:List Value},Vals xs us→xs.all flatV=true→∀ u∈us,SeqAt.EqAt A s u v (eqU x u)
  | _,_,.nil,_=>fun u hu=>by cases hu
  | y :: xs,u :: us,.cons r t,f=>fun u' hu=>by
    rw [List.all_cons,Bool.and_eq_true] at f
    rcases List.mem_cons.mp hu with rfl | hu
    · rw [eqU_of r f.1];exact eqAt_V r rx f.1 fx
    · exact mem_eqAt rx fx t f.2 u' hu
def inV (x:V) (xs:List V):Bool:=xs.any fun y=>eqV y x
def rIn (K:PySem.W.Frag) (neg:Bool):R2:=fun x y H Q=>∃ p xs,y=.ref p∧(SqL K H p xs∨SqT K H p xs)∧flatV x=true∧xs.all flatV=true∧Q (.bl (if neg then !inV x xs else inV x xs)) H
theorem op_in_seq:OpR X (compareOp .In) (rIn X.K false):=by
  intro pins s σ H x y v u Q I rx ry h
  obtain ⟨p,xs,rfl,hq,fx,fs,q⟩:=h
  cases ry
  rcases hq with hq | hq
  · obtain ⟨its,r,pl,hz⟩:=I.list hq
    refine SeqAt.in_listAt (eqU x) pl.isList (fun w hw=>mem_eqAt rx fx r fs w (by simpa using hw)) ⟨.bl _,H,I,rfl,?_⟩
    rw [show its.toArray.any (eqU x)=its.any (eqU x) by simp,any_eqU r fs]
    exact q
  · obtain ⟨its,r,pl,hz⟩:=I.tuple hq
    refine SeqAt.in_tupleAt (eqU x) pl (fun w hw=>mem_eqAt rx fx r fs w (by simpa using hw)) ⟨.bl _,H,I,rfl,?_⟩
    rw [show its.toArray.any (eqU x)=its.any (eqU x) by simp,any_eqU r fs]
    exact q
theorem op_notIn_seq:OpR X (compareOp .NotIn) (rIn X.K true):=by
  intro pins s σ H x y v u Q I rx ry h
  obtain ⟨p,xs,rfl,hq,fx,fs,q⟩:=h
  cases ry
  rcases hq with hq | hq
  · obtain ⟨its,r,pl,hz⟩:=I.list hq
    refine SeqAt.notIn_listAt (eqU x) pl.isList (fun w hw=>mem_eqAt rx fx r fs w (by simpa using hw)) ⟨.bl _,H,I,rfl,?_⟩
    rw [show its.toArray.any (eqU x)=its.any (eqU x) by simp,any_eqU r fs]
    exact q
  · obtain ⟨its,r,pl,hz⟩:=I.tuple hq
    refine SeqAt.notIn_tupleAt (eqU x) pl (fun w hw=>mem_eqAt rx fx r fs w (by simpa using hw)) ⟨.bl _,H,I,rfl,?_⟩
    rw [show its.toArray.any (eqU x)=its.any (eqU x) by simp,any_eqU r fs]
    exact q
theorem call_tuple_of:CallR X (.type "tuple") (fun xs H Q=>∃ p ys,xs=[.ref p]∧((SqL X.K H p ys∧∀ l,H l=none→Q (.ref l) (upd H l (.tup ys)))∨(SqT X.K H p ys∧Q (.ref p) H))):=by
  intro pins s σ H xs us Q I r h
  obtain ⟨p,ys,rfl,h⟩:=h
  obtain ⟨u,rfl,rx⟩:=vals1 r
  cases rx
  rcases h with ⟨hq,q⟩ | ⟨hq,q⟩
  · obtain ⟨its,r',pl,hz⟩:=I.list hq
    have hlen:=r'.length
    refine call_tuple_list pl.isList (fun h' kp=>?_) (by simp only [List.size_toArray] <;> omega)
    have I1:Inv X pins σ H { s with heap:=h' }:=I.kept (t':=s.toks) kp
    have I2:Inv X pins σ (upd H h'.objs.size (.tup ys)) { s with heap:=h'.push { cls:=.type "tuple",data:=.seq its.toArray } } :=
      I1.laid (t':=s.toks) (fun b o e=>Heap.get?_push_of_some _ e) (Nat.le_refl _) (show ObjOk X.prog X.w _ _ _ (.tup ys) from ⟨hz,its,r',IsTup.new _ _⟩)
    exact ⟨.ref h'.objs.size,_,I2,rfl,q _ (I1.hok.fresh (Nat.le_refl _))⟩
  · obtain ⟨its,r',pl,hz⟩:=I.tuple hq
    exact call_tuple_same pl ⟨.ref p,H,I,rfl,q⟩
def tyV (K:PySem.W.Frag) (T:String) (x:V) (H:Hp):Prop:=match x with
  | .str _=>T="str"
  | .int _=>T="int"
  | .ref p=>(T="list"∧∃ xs,SqL K H p xs)∨(T="tuple"∧∃ o,K.lookup p=some o∧o.cls=.type "tuple"∧o.dict=none) ∨
      (T="dict"∧((∃ kvs,H p=some (.dK kvs))∨∃ kvs,H p=some (.dT kvs)))∨(T="set"∧∃ S n,H p=some (.set S n))
  | _=>False
theorem tyV_is {pins:List (Addr × Obj)} {σ:St} {H:Hp} {s:Shared} {T:String} {x:V} {v:Value} (I:Inv X pins σ H s) (r:RelV x v) (ty:tyV X.K T x H) :
    s.TypeIs v T∧∀ a,v=.ref a→∃ ob,s.heap.get? a=some ob∧ob.dict=none:=by
  cases x with
  | str z =>
    obtain ⟨t,rfl⟩:=r
    cases (show T="str" from ty)
    exact ⟨typeIs_str s z t,fun _ e=>nomatch e⟩
  | int i =>
    obtain ⟨t,rfl⟩:=r
    cases (show T="int" from ty)
    exact ⟨typeIs_int s i t,fun _ e=>nomatch e⟩
  | ref p =>
    cases r
    rcases ty with ⟨rfl,xs,hq⟩ | ⟨rfl,o,hk,hc,hd⟩ | ⟨rfl,hk⟩ | ⟨rfl,S,n,hk⟩
    · obtain ⟨its,_,pl,_⟩:=I.list hq
      refine ⟨pl.isList.typeIs,fun a e=>?_⟩
      cases e
      obtain ⟨o,n,e,c,hd,_⟩:=pl
      exact ⟨o,e,hd⟩
    · refine ⟨⟨o,I.kIn p o hk,hc⟩,fun a e=>?_⟩
      cases e
      exact ⟨o,I.kIn _ o hk,hd⟩
    · have z:∃ o,s.heap.get? p=some o∧o.ExactDict:=by
        rcases hk with ⟨kvs,hk⟩ | ⟨kvs,hk⟩
        · obtain ⟨_,_,_,_,o,_,_,e,ex,_⟩:=I.hok p _ hk
          exact ⟨o,e,ex⟩
        · obtain ⟨_,_,_,_,o,_,_,e,ex,_⟩:=I.hok p _ hk
          exact ⟨o,e,ex⟩
      obtain ⟨o,e,ex⟩:=z
      refine ⟨⟨o,e,ex.1⟩,fun a e2=>?_⟩
      cases e2
      exact ⟨o,e,ex.2.1⟩
    · obtain ⟨o,_,_,_,e,ex,_⟩:=I.hok p _ hk
      refine ⟨⟨o,e,ex.1⟩,fun a e2=>?_⟩
      cases e2
      exact ⟨o,e,ex.2.1⟩
  | _=>exact False.elim ty
def tBM0 (K:PySem.W.Frag) (T:String) (r:V→List V→Hp→VK→Prop) (to:TE):TE:=fun σ H Q=>to σ H fun x H1=>tyV K T x H1∧r x [] H1 Q
def tBM (K:PySem.W.Frag) (T:String) (r:V→List V→Hp→VK→Prop) (to:TE) (t:TA):TE:=fun σ H Q=>to σ H fun x H1=>tyV K T x H1∧t σ H1 fun xs H2=>r x xs H2 Q
variable {o e:Expr} {es:List Expr} {to:TE} {t:TA} {name:Str} {apos cpos:Pos} {T id:String} {r:V→List V→Hp→VK→Prop}
theorem pe_bm (pa:PlainAttrs T) (slot:Slot T name id) (hty:typeOf (.builtin id)=pure (.type "method_descriptor")) (hm:MtR X id r) (ho:PE X o to) (ha:PA X (e :: es) t)
    (hbase:attributeBase o name X.env (eval o X.env)=eval o X.env:=by rfl)
    (hfew:((backTo cpos (starEach (e :: es) X.env)).all (fun x=>!x.1) && (backToKw cpos (keywordEach [] X.env)).all (fun x=>x.1.isSome)
      && decide ((e :: es).length + ([]:List Keyword).length + (if ([]:List Keyword).isEmpty then 0 else 1) < 30))=true:=by rfl)
    (hline:(apos.endLine == cpos.line)=true:=by rfl) (hs:starEach (e :: es) X.env=(false,eval e X.env) :: starEach es X.env:=by rfl) (hplain:(backTo cpos (starEach es X.env)).any (·.1)=false:=by rfl) :
    PE X (.Call (.Attribute o name apos) (e :: es) [] cpos) (tBM X.K T r to t):=by
  intro pins s σ H Q I h
  refine wpAny_Call_method_late hbase hfew hline rfl (thn (ho pins s σ H _ I h) fun v s1 ⟨x,H1,I1,r1,ty,q1⟩=>?_)
  obtain ⟨h1,h2⟩:=tyV_is I1 r1 ty
  refine ⟨T,id,pa,slot,hty,h1,h2,?_⟩
  have hA:=ha cpos pins s1 σ H1 _ I1 q1
  rw [hs] at hA ⊢
  refine Calls.callWith_builtin (by show (false || (backTo cpos (starEach es X.env)).any (·.1))=false;rw [hplain] <;> rfl) (Calls.evalArgs_plain ?_)
  exact thn hA fun us s2 ⟨vs,H2,I2,r2,q2⟩=>hm pins s2 σ H2 x vs v us Q I2 r1 r2 q2
end
end L2
namespace L2
open PySem PySem.Spec PyProof.Rows
def MtM (X:Cx) (id:String) (r:V→List V→Hp→VK→Prop):Prop :=
  ∀ (pins:List (Addr × Obj)) (s:Shared) (σ:St) (H:Hp) (x:V) (xs:List V) (v:Value) (us:List Value) (Q:VK),Inv X pins σ H s→RelV x v→Vals xs us→r x xs H Q →
    wpAny (model X.prog X.w) X.A (call (.builtin id) (v :: us)) (EP X pins σ Q) X.xe s
theorem Vals.one:∀ {x:V} {us:List Value},Vals [x] us→∃ u,us=[u]∧RelV x u
  | _,_,.cons r .nil=>⟨_,rfl,r⟩
section
variable {X:Cx} {pins:List (Addr × Obj)} {σ:St} {H:Hp} {s:Shared} {l b:Addr} {xs ys zs:List V}
theorem Inv.lset {its its':List Value} {n:Nat} {f:Array Value→Array Value} {t':Nat} (I:Inv X pins σ H s) (hH:H l=some (.lst xs))
    (e:s.heap.get? l=some { cls:=.type "list",data:=.seq its.toArray n }) (hf:f its.toArray=its'.toArray) (hv:Vals ys its') (hz:ys.length≤sizeLine) :
    Inv X pins σ (upd H l (.lst ys)) { s with heap:=s.heap.update l (Obj.mapSeq f),toks:=t' }:=by
  have q:=PySem.IsL.update e f
  rw [hf] at q
  refine I.write (x:=l) (e:=l) (by rw [hH];exact trivial) (.inl rfl) (fun b' u hb hu=>(Heap.get?_update_other s.heap (Obj.mapSeq f) (Ne.symm hb)).trans hu) ⟨_,q⟩ ?_
  exact ⟨hz,its',_,hv,q⟩
theorem Inv.lnew {its:List Value} {t':Nat} (I:Inv X pins σ H s) (hv:Vals ys its) (hz:ys.length≤sizeLine) :
    Inv X pins σ (upd H s.heap.objs.size (.lst ys)) { s with heap:=s.heap.push { cls:=.type "list",data:=.seq its.toArray },toks:=t' } :=
  I.laid (fun _ _ q=>Heap.get?_push_of_some _ q) (Nat.le_refl _) ⟨hz,its,0,hv,Heap.get?_push_size _ rfl⟩
theorem Inv.fresh (I:Inv X pins σ H s):H s.heap.objs.size=none:=I.hok.fresh (Nat.le_refl _)
theorem Inv.lstM (I:Inv X pins σ H s) (hH:H l=some (.lst xs)):xs.length≤sizeLine∧∃ (its:List Value) (n:Nat),Vals xs its∧xs.length=its.length∧s.heap.get? l=some { cls:=.type "list",data:=.seq its.toArray n }:=by
  obtain ⟨z,its,n,r,e⟩:=I.hok l _ hH
  exact ⟨z,its,n,r,r.length,e⟩
end
section
variable {X:Cx}
def rAppend:V→List V→Hp→VK→Prop:=fun x vs H Q=>∃ l xs y,x=.ref l∧vs=[y]∧H l=some (.lst xs)∧xs.length < sizeLine∧Q .non (upd H l (.lst (xs ++ [y])))
theorem mt_append:MtM X "list.append" rAppend:=by
  intro pins s σ H x vs v us Q I rx rv h
  obtain ⟨l,xs,y,rfl,rfl,hH,hz,q⟩:=h
  cases rx
  obtain ⟨u,rfl,ru⟩:=rv.one
  obtain ⟨z,its,n,r,hl,e⟩:=I.lstM hH
  refine call_meets F.slot_list_append ⟨_,e,rfl⟩ F.entry_list_append (F.args_list_append_2 _ _) (PySem.list_append l its.toArray n u (by rw [List.size_toArray];omega)) ⟨e,?_⟩
  refine ⟨.non,_,I.lset (its':=its ++ [u]) hH e (by simp) (r.append (.cons ru .nil)) ?_,rfl,q⟩
  rw [List.length_append,List.length_singleton]
  omega
def rExtend:V→List V→Hp→VK→Prop:=fun x vs H Q=>∃ l b xs zs,x=.ref l∧vs=[.ref b]∧H l=some (.lst xs)∧H b=some (.lst zs)∧xs.length + zs.length≤sizeLine∧Q .non (upd H l (.lst (xs ++ zs)))
def rPop:V→List V→Hp→VK→Prop:=fun x vs H Q=>∃ l xs y,x=.ref l∧vs=[]∧H l=some (.lst xs)∧xs[xs.length - 1]?=some y∧Q y (upd H l (.lst xs.dropLast))
def rClear:V→List V→Hp→VK→Prop:=fun x vs H Q=>∃ l xs,x=.ref l∧vs=[]∧H l=some (.lst xs)∧Q .non (upd H l (.lst []))
def rCat:R2:=fun x y H Q=>∃ l b xs zs,x=.ref l∧y=.ref b∧H l=some (.lst xs)∧H b=some (.lst zs)∧xs.length + zs.length≤sizeLine∧∀ p,H p=none→Q (.ref p) (upd H p (.lst (xs ++ zs)))
theorem op_cat:OpR X (binaryOp .Add) rCat:=by
  intro pins s σ H x y v u Q I rx ry h
  obtain ⟨l,b,xs,zs,rfl,rfl,hH,hB,hz,q⟩:=h
  cases rx
  cases ry
  obtain ⟨z,its,n,r,hl,e⟩:=I.lstM hH
  obtain ⟨z2,its2,n2,r2,hl2,e2⟩:=I.lstM hB
  refine PySem.P.add_list e e2 ?_ (by rw [List.size_toArray,List.size_toArray];omega)
  have ea:its.toArray ++ its2.toArray=(its ++ its2).toArray:=by simp
  rw [ea]
  exact ⟨.ref _,_,I.lnew (t':=s.toks) (r.append r2) (by rw [List.length_append];omega),rfl,q _ I.fresh⟩
def rRep:R2:=fun x y H Q=>∃ l k xs,x=.ref l∧y=.int k∧H l=some (.lst xs)∧-(2 ^ 63)≤k∧k < 2 ^ 63∧xs.length * k.toNat≤sizeLine ∧
  ∀ p,H p=none→Q (.ref p) (upd H p (.lst (List.replicate k.toNat xs).flatten))
end
section
variable {prog:Program} {w:World} {A:Around} {E:Value→Shared→Prop} {s:Shared}
set_option maxRecDepth 100000 in
end
section
variable {X:Cx}
end
end L2
namespace L2
open PySem PySem.Spec PyProof.Rows
section
variable {κ:Type} [DecidableEq κ]
def valV (kvs:List (κ × V)) (k:κ):Option V:=(kvs.find? fun kv=>decide (kv.1=k)).map (·.2)
def putK (kvs:List (κ × V)) (k:κ) (v:V):List (κ × V) :=
  if (kvs.any fun kv=>decide (kv.1=k))=true then kvs.map (fun kv=>if kv.1=k then (kv.1,v) else kv) else kvs ++ [(k,v)]
def dropK (kvs:List (κ × V)) (k:κ):List (κ × V):=kvs.filter fun kv=>decide (kv.1≠k)
theorem valV_nil {k:κ}:valV ([]:List (κ × V)) k=none:=rfl
theorem valV_pos {p:κ × V} {r:List (κ × V)} {k:κ} (e:p.1=k):valV (p :: r) k=some p.2:=by simp [valV,List.find?_cons,e]
theorem valV_neg {p:κ × V} {r:List (κ × V)} {k:κ} (e:¬ p.1=k):valV (p :: r) k=valV r k:=by simp [valV,List.find?_cons,e]
theorem valV_any (k:κ):∀ kvs:List (κ × V),(kvs.any fun kv=>decide (kv.1=k))=(valV kvs k).isSome
  | []=>rfl
  | p :: r=>by
    rw [List.any_cons]
    by_cases e:p.1=k
    · simp only [valV_pos e,decide_eq_true e,Bool.true_or,Option.isSome_some]
    · rw [valV_neg e,decide_eq_false e,Bool.false_or];exact valV_any k r
theorem valV_map (k j:κ) (y:V):∀ kvs:List (κ × V),valV (kvs.map fun kv=>if kv.1=k then (kv.1,y) else kv) j=(valV kvs j).map fun x=>if j=k then y else x
  | []=>rfl
  | p :: r=>by
    have ih:=valV_map k j y r
    rw [List.map_cons]
    by_cases h:p.1=k
    · rw [if_pos h]
      by_cases e:p.1=j
      · rw [valV_pos (p:=(p.1,y)) e,valV_pos e,Option.map_some,if_pos (e.symm.trans h)]
      · rw [valV_neg (p:=(p.1,y)) e,valV_neg e,ih]
    · rw [if_neg h]
      by_cases e:p.1=j
      · rw [valV_pos (p:=p) e,valV_pos e,Option.map_some,if_neg (fun z=>h (e.trans z))]
      · rw [valV_neg (p:=p) e,valV_neg e,ih]
theorem valV_snoc (k j:κ) (y:V):∀ kvs:List (κ × V),valV kvs k=none→valV (kvs ++ [(k,y)]) j=if j=k then some y else valV kvs j
  | [],_=>by
    by_cases e:k=j
    · rw [if_pos e.symm];exact valV_pos (p:=(k,y)) e
    · rw [if_neg (fun z=>e z.symm)];exact valV_neg (p:=(k,y)) e
  | p :: r,hn=>by
    rw [List.cons_append]
    have hk:¬ p.1=k:=fun z=>by rw [valV_pos z] at hn;cases hn
    rw [valV_neg hk] at hn
    have ih:=valV_snoc k j y r hn
    by_cases e:p.1=j
    · rw [valV_pos e,valV_pos e,if_neg (fun z=>hk (e.trans z))]
    · rw [valV_neg e,valV_neg e,ih]
theorem valV_put (kvs:List (κ × V)) (k j:κ) (y:V):valV (putK kvs k y) j=if j=k then some y else valV kvs j:=by
  unfold putK
  by_cases a:(kvs.any fun kv=>decide (kv.1=k))=true
  · rw [if_pos a,valV_map]
    rw [valV_any] at a
    by_cases e:j=k
    · obtain ⟨x,hx⟩:=Option.isSome_iff_exists.mp a
      rw [if_pos e,e,hx,Option.map_some,if_pos rfl]
    · rw [if_neg e]
      cases valV kvs j with
      | none=>rfl
      | some x=>rw [Option.map_some,if_neg e]
  · rw [if_neg a]
    refine valV_snoc k j y kvs ?_
    rw [valV_any] at a
    cases q:valV kvs k with
    | none=>rfl
    | some x=>rw [q] at a;exact (a rfl).elim
theorem length_putK (kvs:List (κ × V)) (k:κ) (v:V):(putK kvs k v).length≤kvs.length + 1:=by
  unfold putK
  split
  · rw [List.length_map];omega
  · rw [List.length_append,List.length_cons,List.length_nil];omega
theorem putK_new {kvs:List (κ × V)} {k:κ} (v:V) (h:valV kvs k=none):putK kvs k v=kvs ++ [(k,v)]:=by
  unfold putK
  rw [valV_any,h]
  exact if_neg (by decide)
theorem RelO.isSome_eq {o:Option V} {u:Option Value} (r:RelO o u):o.isSome=u.isSome:=by
  cases o with
  | none=>cases u with
    | none=>rfl
    | some _=>exact (show False from r).elim
  | some _=>cases u with
    | none=>exact (show False from r).elim
    | some _=>rfl
theorem KV.val {kvs:List (κ × V)} {vs:List (κ × Value)} (r:KV kvs vs) (k:κ):RelO (valV kvs k) (valueAt vs k):=by
  unfold KV at r
  induction r with
  | nil=>exact True.intro
  | @cons p q ps qs h t ih =>
    obtain ⟨h1,h2⟩:=h
    by_cases e:p.1=k
    · have e':q.1=k:=h1.symm.trans e
      have b:valueAt (q :: qs) k=some q.2:=by simp [valueAt,List.find?_cons,e']
      rw [valV_pos e,b];exact h2
    · have e':¬ q.1=k:=fun z=>e (h1.trans z)
      have b:valueAt (q :: qs) k=valueAt qs k:=by simp [valueAt,List.find?_cons,e']
      rw [valV_neg e,b];exact ih
theorem KV.any {kvs:List (κ × V)} {vs:List (κ × Value)} (r:KV kvs vs) (k:κ):(kvs.any fun kv=>decide (kv.1=k))=vs.any fun kv=>decide (kv.1=k):=by
  unfold KV at r
  induction r with
  | nil=>rfl
  | cons h t ih=>rw [List.any_cons,List.any_cons,ih,h.1]
theorem KV.repl {kvs:List (κ × V)} {vs:List (κ × Value)} (r:KV kvs vs) (k:κ) {y:V} {u:Value} (ry:RelV y u) :
    KV (kvs.map fun kv=>if kv.1=k then (kv.1,y) else kv) (vs.map fun kv=>if kv.1=k then (kv.1,u) else kv):=by
  unfold KV at r ⊢
  induction r with
  | nil=>exact .nil
  | @cons p q ps qs h t ih =>
    rw [List.map_cons,List.map_cons]
    refine .cons ?_ ih
    obtain ⟨h1,h2⟩:=h
    by_cases e:p.1=k
    · rw [if_pos e,if_pos (h1.symm.trans e)];exact ⟨h1,ry⟩
    · rw [if_neg e,if_neg (fun z=>e (h1.trans z))];exact ⟨h1,h2⟩
theorem KV.put {kvs:List (κ × V)} {vs:List (κ × Value)} (r:KV kvs vs) (k:κ) {y:V} {u:Value} (ry:RelV y u):KV (putK kvs k y) (stored vs k u):=by
  unfold putK stored
  rw [r.any k]
  by_cases e:(vs.any fun kv=>decide (kv.1=k))=true
  · rw [if_pos e,if_pos e];exact r.repl k ry
  · rw [if_neg e,if_neg e];exact Paired.snoc r ⟨rfl,ry⟩
theorem KV.length {kvs:List (κ × V)} {vs:List (κ × Value)} (r:KV kvs vs):kvs.length=vs.length:=Paired.length r
end
theorem kV_is {P:Program} {w:World} {k:Key} {u:Value} (r:RelV (kV k) u):(mixKind P w).is k u=true:=by
  cases k with
  | inl i=>obtain ⟨t,e⟩:=(show ∃ t,u=Value.int i t from r);subst e;exact mixKind_int P w i t
  | inr x=>obtain ⟨t,e⟩:=(show ∃ t,u=Value.str x t from r);subst e;exact mixKind_str P w x t
theorem items_are {P:Program} {w:World}:∀ {ks:List Key} {us:List Value},Vals (ks.map kV) us→ItemsAre (mixKind P w) ks us
  | [],_,r=>by rw [List.map_nil] at r;cases r;exact .nil
  | k :: ks,_,r=>by
    rw [List.map_cons] at r
    cases r with
    | cons h t=>exact .cons (kV_is h) (items_are t)
abbrev KT (H:Hp):List (List Key × V)→List (List Key × Addr × Value)→Prop:=Paired fun p q=>p.1=q.1∧H q.2.1=some (.tup (p.1.map kV))∧RelV p.2 q.2.2
theorem KT.val {H:Hp} {kvs:List (List Key × V)} {xs:List (List Key × Addr × Value)} (r:KT H kvs xs) (k:List Key):RelO (valV kvs k) ((atKey xs k).map (·.2)):=by
  induction r with
  | nil=>exact True.intro
  | @cons p q ps qs h t ih =>
    obtain ⟨h1,_,h2⟩:=h
    by_cases e:p.1=k
    · have e':q.1=k:=h1.symm.trans e
      have b:atKey (q :: qs) k=some q.2:=by simp [atKey,List.find?_cons,e']
      rw [valV_pos e,b];exact h2
    · have e':¬ q.1=k:=fun z=>e (h1.trans z)
      have b:atKey (q :: qs) k=atKey qs k:=by simp [atKey,List.find?_cons,e']
      rw [valV_neg e,b];exact ih
theorem KT.repl {H:Hp} {kvs:List (List Key × V)} {xs:List (List Key × Addr × Value)} (r:KT H kvs xs) (k:List Key) {y:V} {u:Value} (ry:RelV y u) :
    KT H (kvs.map fun kv=>if kv.1=k then (kv.1,y) else kv) (xs.map (putAt k u)):=by
  induction r with
  | nil=>exact .nil
  | @cons p q ps qs h t ih =>
    rw [List.map_cons,List.map_cons]
    refine .cons ?_ ih
    obtain ⟨h1,h2,h3⟩:=h
    unfold putAt
    by_cases e:p.1=k
    · rw [if_pos e,if_pos (h1.symm.trans e)];exact ⟨h1,h2,ry⟩
    · rw [if_neg e,if_neg (fun z=>e (h1.trans z))];exact ⟨h1,h2,h3⟩
theorem KT.put {H:Hp} {kvs:List (List Key × V)} {xs:List (List Key × Addr × Value)} (r:KT H kvs xs) (k:List Key) {b:Addr} {y:V} {u:Value} (hb:H b=some (.tup (k.map kV))) (ry:RelV y u) :
    KT H (putK kvs k y) (storedH xs k b u):=by
  have e:(kvs.any fun kv=>decide (kv.1=k))=(atKey xs k).isSome:=by
    rw [valV_any,(r.val k).isSome_eq,Option.isSome_map]
  unfold putK storedH
  rw [e]
  by_cases q:(atKey xs k).isSome=true
  · rw [if_pos q,if_pos q];exact r.repl k ry
  · rw [if_neg q,if_neg q];exact Paired.snoc r ⟨rfl,hb,ry⟩
theorem KT.keeps {H H':Hp} {kvs:List (List Key × V)} {xs:List (List Key × Addr × Value)} (r:KT H kvs xs) (ht:∀ b ys,H b=some (.tup ys)→H' b=some (.tup ys)):KT H' kvs xs :=
  Paired.mapP r fun _ _ z=>⟨z.1,ht _ _ z.2.1,z.2.2⟩
section
variable {P:Program} {w:World} {H:Hp} {h:Heap} {a:Addr}
theorem rd_of {u:HO} (ok:HOk P w H h) (e:Rd H a u):ObjOk P w H h a u:=e.ok ok
theorem dk_rd {kvs:List (Key × V)} (ok:HOk P w H h) (e:Rd H a (.dK kvs)):kvs.length≤sizeLine∧(a == sysModules)=false∧∃ vs,KV kvs vs∧h.DictOf (mixKind P w) a vs :=
  show ObjOk P w H h a (.dK kvs) from rd_of ok e
theorem dk_of {kvs:List (Key × V)} (ok:HOk P w H h) (e:H a=some (.dK kvs)):kvs.length≤sizeLine∧(a == sysModules)=false∧∃ vs,KV kvs vs∧h.DictOf (mixKind P w) a vs:=dk_rd ok (.inl e)
theorem key_of {ks:List Key} (ok:HOk P w H h) (e:H a=some (.tup (ks.map kV))):(tupleKind (mixKind P w)).is h ks a:=by
  obtain ⟨_,its,r,o,h1,h2,n,h3⟩:=(show ObjOk P w H h a (.tup (ks.map kV)) from ok a _ e)
  exact ⟨o,its.toArray,n,h1,h2,h3,by simpa using items_are r⟩
theorem dt_rd {kvs:List (List Key × V)} (ok:HOk P w H h) (e:Rd H a (.dT kvs)):kvs.length≤sizeLine∧(a == sysModules)=false ∧
    ∃ xs,KT H kvs xs∧h.DictOfH (tupleKind (mixKind P w)) a xs:=by
  obtain ⟨z,y,xs,r,o,es,ep,h1,h2,h3,h4,h5⟩:=(show ObjOk P w H h a (.dT kvs) from rd_of ok e)
  refine ⟨z,y,xs,r,o,es,ep,h1,h2,h3,h4,fun x hx=>?_,h5⟩
  have all:∀ {l:List (List Key × V)} {m:List (List Key × Addr × Value)},KT H l m→∀ x∈m,(tupleKind (mixKind P w)).is h x.1 x.2.1:=by
    intro l m q
    induction q with
    | nil=>intro x hx;exact nomatch hx
    | @cons p q ps qs hq t ih =>
      intro x hx
      rcases List.mem_cons.mp hx with e | hx
      · subst e
        exact key_of ok (by rw [← hq.1];exact hq.2.1)
      · exact ih x hx
  exact all r x hx
theorem dt_of {kvs:List (List Key × V)} (ok:HOk P w H h) (e:H a=some (.dT kvs)):kvs.length≤sizeLine∧(a == sysModules)=false ∧
    ∃ xs,KT H kvs xs∧h.DictOfH (tupleKind (mixKind P w)) a xs:=dt_rd ok (.inl e)
end
def DGet (H:Hp) (a:Addr) (y:V) (r:Option V):Prop :=
  (∃ kvs k,Rd H a (.dK kvs)∧y=kV k∧r=valV kvs k)∨∃ kvs k b,Rd H a (.dT kvs)∧y=.ref b∧H b=some (.tup (k.map kV))∧r=valV kvs k
def DPut (H:Hp) (a:Addr) (y v:V) (H':Hp):Prop :=
  (∃ kvs k,H a=some (.dK kvs)∧y=kV k∧kvs.length < sizeLine∧H'=upd H a (.dK (putK kvs k v))) ∨
  ∃ kvs k b,H a=some (.dT kvs)∧y=.ref b∧H b=some (.tup (k.map kV))∧kvs.length < sizeLine∧H'=upd H a (.dT (putK kvs k v))
theorem DPut.t {H:Hp} {a b:Addr} {kvs:List (List Key × V)} {k:List Key} {v:V} (e:H a=some (.dT kvs)) (eb:H b=some (.tup (k.map kV))) (hl:kvs.length < sizeLine) :
    DPut H a (.ref b) v (upd H a (.dT (putK kvs k v))):=.inr ⟨kvs,k,b,e,rfl,eb,hl,rfl⟩
section
variable {X:Cx} {pins:List (Addr × Obj)} {σ:St} {H:Hp} {s:Shared} {a:Addr} {y v:V} {u r:Value} {o:Option V} {A:Around} {E:Value→Shared→Prop}
theorem Inv.big (I:Inv X pins σ H s):sysModules < s.heap.objs.size:=by
  have h:mainGlobals < s.heap.objs.size:=(I.mod.glob.keeps I.bk).lt
  exact Nat.lt_trans (by decide) h
theorem d_getItem {Q:Value→Shared→Prop} (hu:A.units + 1 < cLine) (I:Inv X pins σ H s) (g:DGet H a y (some v)) (ry:RelV y u) (h:∀ w' s',Inv X pins σ H s'→RelV v w'→Q w' s') :
    wpAny (model X.prog X.w) A (getItem (.ref a) u) Q E s:=by
  rcases g with ⟨kvs,k,e,ey,l⟩ | ⟨kvs,k,b,e,ey,eb,l⟩
  · subst ey
    obtain ⟨z,hd,vs,rel,dd⟩:=dk_rd I.hok e
    obtain ⟨w',hw,rw'⟩:=RelO.some_of (v:=v) (o:=valueAt vs k) (by rw [l];exact rel.val k)
    exact wpAny_getItem_of (kV_is ry) dd.mapOf hw (h w' _ (I.tok _) rw')
  · subst ey
    cases (show u=Value.ref b from ry)
    obtain ⟨z,hd,xs,rel,dd⟩:=dt_rd I.hok e
    obtain ⟨w',hw,rw'⟩:=RelO.some_of (v:=v) (o:=(atKey xs k).map (·.2)) (by rw [l];exact rel.val k)
    obtain ⟨p,hp,hp2⟩:=Option.map_eq_some_iff.mp hw
    refine wpAny_getItem_heap (tupleKind_room_in1 hu) (key_of I.hok eb) dd hp ?_
    rw [hp2]
    exact h w' _ (I.tok _) rw'
theorem d_write {h':Heap} {t':Nat} {ob:HO} (I:Inv X pins σ H s) (mu:Mut (H a)) (hs:Heap.SameBut a s.heap h') (he:∃ q,h'.get? a=some q) (new:ObjOk X.prog X.w (upd H a ob) h' a ob) :
    Inv X pins σ (upd H a ob) { s with heap:=h',toks:=t' } :=
  I.write (x:=a) (e:=a) mu (.inl rfl) (fun b q hb z=>(hs.2 b hb).trans z) he new
theorem dk_new {P:Program} {w:World} {H':Hp} {h':Heap} {kvs:List (Key × V)} {vs:List (Key × Value)} (z:kvs.length≤sizeLine) (hd:(a == sysModules)=false) (rel:KV kvs vs) (dd:h'.DictOf (mixKind P w) a vs) :
    ObjOk P w H' h' a (.dK kvs):=⟨z,hd,vs,rel,dd⟩
theorem d_setItem {H':Hp} {Q:Unit→Shared→Prop} (hu:A.units + 1 < cLine) (I:Inv X pins σ H s) (g:DPut H a y v H') (ry:RelV y u) (rv:RelV v r) (h:∀ s',Inv X pins σ H' s'→Q () s') :
    wpAny (model X.prog X.w) A (setItem (.ref a) u r) Q E s:=by
  rcases g with ⟨kvs,k,e,ey,l,eH⟩ | ⟨kvs,k,b,e,ey,eb,l,eH⟩
  · subst ey eH
    obtain ⟨z,hd,vs,rel,dd⟩:=dk_of I.hok e
    have hz:vs.length≤sizeLine:=by rw [← rel.length];exact z
    have hl:(putK kvs k v).length≤sizeLine:=by have:=length_putK kvs k v;omega
    refine wpAny_setItem_pairs (hsz:=hz) (kV_is ry) dd fun h' dd' hs=>h _ ?_
    have he:∃ q,h'.get? a=some q:=let ⟨q,_,_,hq,_⟩:=dd';⟨q,hq⟩
    exact d_write I (by rw [e];exact True.intro) hs he (dk_new hl hd (rel.put k rv) dd')
  · subst ey eH
    cases (show u=Value.ref b from ry)
    obtain ⟨z,hd,xs,rel,dd⟩:=dt_of I.hok e
    have hz:xs.length≤sizeLine:=by rw [← Paired.length rel];exact z
    have hl:(putK kvs k v).length≤sizeLine:=by have:=length_putK kvs k v;omega
    refine wpAny_setItem_heap (hsz:=hz) (tupleKind_room_in1 hu) (key_of I.hok eb) dd fun h' dd' hs=>h _ ?_
    obtain ⟨q,es,ep,hq,h2,h3,h4,_,h5⟩:=dd'
    refine d_write I (by rw [e];exact True.intro) hs ⟨q,hq⟩ ⟨hl,hd,_,(rel.put k eb rv).keeps fun c ys ec=>?_,q,es,ep,hq,h2,h3,h4,h5⟩
    rw [upd_ne (ne_of ec e (fun z=>nomatch z))]
    exact ec
end
section
variable {X:Cx} {pins:List (Addr × Obj)} {σ:St} {H:Hp} {s:Shared} {a:Addr} {kvs:List (Key × V)} {k:Key} {u:Value} {A:Around} {E:Value→Shared→Prop}
end
def NoSl (i:Expr):Prop:=∀ ov iv,subscripted i false ov iv=operate [ov,iv] (getItem ov iv)
theorem subD_of {prog:Program} {w:World} {A:Around} {E:Value→Shared→Prop} {s:Shared} {env:Env} {value slice:Expr} {pos:Pos} {T id:String} {Q:Value→Shared→Prop}
    (hl:typeLookup (.type T) "__getitem__"=pure (some (.builtin id))) (hs:NoSl slice)
    (h:wpAny (model prog w) A (eval value env) (fun o s₁=>wpAny (model prog w) A (eval slice env) (fun i s₂=>s₂.TypeIs o T∧wpAny (model prog w) A (getItem o i) Q E s₂) E s₁) E s) :
    wpAny (model prog w) A (eval (.Subscript value slice pos) env) Q E s:=by
  refine Subscript_ (wpAny_mono h (fun o s₁ h₁=>wpAny_mono h₁ (fun i s₂ h₂=>?_) fun _ _ x=>x) fun _ _ x=>x)
  obtain ⟨hT,h₂⟩:=h₂
  unfold subscriptTail
  refine wpAny_bind ?_
  rw [getitemInPython_of_ne hT.not_modules]
  refine wpAny_bind (wpAny_specialOf hT hl ?_)
  have fin:wpAny (model prog w) A (subscripted slice false o i) (fun r s₃=>wpAny (model prog w) A (letTemporaryGo value o r >>= fun _=>pure r) Q E s₃) E s₂:=by
    rw [hs o i]
    exact wpAny_operating (wpAny_mono h₂ (fun r s₃ h₃=>wpAny_bind (wpAny_letTemporaryGo (wpAny_pure h₃))) fun _ _ x=>x)
  first
    | exact wpAny_pure (wpAny_bind fin)
    | exact wpAny_bind (wpAny_pure (wpAny_bind fin))
    | exact wpAny_bind fin
theorem dict_typeIs {X:Cx} {pins:List (Addr × Obj)} {σ:St} {H:Hp} {s:Shared} {a:Addr} {y:V} {o:Option V} (I:Inv X pins σ H s) (g:DGet H a y o):s.TypeIs (.ref a) "dict":=by
  rcases g with ⟨kvs,k,e,_,_⟩ | ⟨kvs,k,b,e,_,_,_⟩
  · obtain ⟨_,_,vs,_,dd⟩:=dk_rd I.hok e
    exact dd.typeIs
  · obtain ⟨_,_,xs,_,dd⟩:=dt_rd I.hok e
    exact dd.typeIs
def tDGet (td ty:TE):TE:=fun σ H Q=>td σ H fun x H1=>ty σ H1 fun y H2=>∃ a v,x=.ref a∧DGet H2 a y (some v)∧Q v H2
def sDPut (td ty tv:TE):TS:=fun D σ H=>tv σ H fun v H1=>td σ H1 fun x H2=>ty σ H2 fun y H3=>∃ a H4,x=.ref a∧DPut H3 a y v H4∧D.nx σ H4
section
variable {X:Cx} {o i e value:Expr} {pos pos' tpos:Pos} {td ty tv:TE}
theorem pe_dget (hu:X.A.units + 1 < cLine) (ho:PE X o td) (hi:PE X i ty) (hs:NoSl i):PE X (.Subscript o i pos) (tDGet td ty):=by
  intro pins s σ H Q I h
  refine subD_of PySem.F.slot_dict_getitem.lookup hs (thn (ho pins s σ H _ I h) fun u s1 ⟨x,H1,I1,rx,q1⟩=>thn (hi pins s1 σ H1 _ I1 q1) fun iv s2 ⟨y,H2,I2,ry,a,v,ex,g,q2⟩=>?_)
  subst ex
  obtain rfl:u=Value.ref a:=rx
  exact ⟨dict_typeIs I2 g,d_getItem hu I2 g ry fun w' s3 I3 rw'=>⟨v,H2,I3,rw',q2⟩⟩
theorem ps_dput (hu:X.A.units + 1 < cLine) (ho:PE X o td) (hi:PE X i ty) (hv:PE X value tv) (hs:swapsWith value (some (.Subscript o i pos')) pos.line X.env=pure false) :
    PS X (.Assign [.Subscript o i pos'] value pos) (sDPut td ty tv):=by
  intro pins s σ H D I h
  refine wpAny_Assign_Subscript (thn (hv pins s σ H _ I h) fun r s1 ⟨v,H1,I1,rv,q1⟩=>thn (ho pins s1 σ H1 _ I1 q1) fun u s2 ⟨x,H2,I2,rx,q2⟩=>thn (hi pins s2 σ H2 _ I2 q2) fun iv s3 ⟨y,H3,I3,ry,a,H4,ex,g,q3⟩=>?_) hs
  subst ex
  obtain rfl:u=Value.ref a:=rx
  exact d_setItem hu I3 g ry rv fun s4 I4=>⟨σ,H4,I4,q3⟩
end
theorem dt_empty {P:Program} {w:World} {H:Hp} (h:Heap) (hb:sysModules < h.objs.size):ObjOk P w H (h.push { cls:=.type "dict",data:=.dict #[] }) h.objs.size (.dT []) :=
  ⟨Nat.zero_le _,beq_eq_false_iff_ne.mpr (Ne.symm (Nat.ne_of_lt hb)),[],.nil,_,#[],0,Heap.get?_push_size _ rfl,⟨rfl,rfl,rfl⟩,rfl,rfl,List.nodup_nil⟩
def tDNewK:TE:=fun _ H Q=>∀ p,H p=none→Q (.ref p) (upd H p (.dK []))
def tDNewT:TE:=fun _ H Q=>∀ p,H p=none→Q (.ref p) (upd H p (.dT []))
section
variable {X:Cx} {pos:Pos}
theorem pe_dnewT:PE X (.Dict [] [] pos) tDNewT:=fun pins s σ H Q I h =>
  wpAny_Dict_empty ⟨.ref s.heap.objs.size,_,I.laid (a:=s.heap.objs.size) (o:=.dT []) (t':=s.toks) (fun _ _ q=>Heap.get?_push_of_some _ q) (Nat.le_refl _) (dt_empty s.heap I.big),rfl,h _ (I.hok.fresh (Nat.le_refl _))⟩
end
def tPairs:List (TE × TE)→St→Hp→(List (V × V)→Hp→Prop)→Prop
  | [],_,H,Q=>Q [] H
  | (tk,tv) :: r,σ,H,Q=>tk σ H fun x H1=>tv σ H1 fun y H2=>tPairs r σ H2 fun ps H3=>Q ((x,y) :: ps) H3
def mergeK (kvs more:List (Key × V)):List (Key × V):=more.foldl (fun acc kv=>putK acc kv.1 kv.2) kvs
def tDisp (trs:List (TE × TE)):TE:=fun σ H Q=>∀ p,H p=none→tPairs trs σ (upd H p (.dK [])) fun ps H2=>H2 p=some (.dK [])∧∃ kvs:List (Key × V),ps=kvs.map (fun kv=>(kV kv.1,kv.2))∧kvs.length≤15∧Q (.ref p) (upd H2 p (.dK (mergeK [] kvs)))
def IsD (H:Hp) (a:Addr):Prop:=(∃ kvs,Rd H a (.dK kvs))∨∃ kvs,Rd H a (.dT kvs)
section
variable {X:Cx} {pins:List (Addr × Obj)} {σ:St} {H:Hp} {s:Shared} {a:Addr} {y d:V} {u r:Value} {o:Option V} {A:Around} {E:Value→Shared→Prop}
end
def tDGet2 (td ty tx:TE):TE:=fun σ H Q=>td σ H fun x H1=>∃ a,x=.ref a∧IsD H1 a∧ty σ H1 fun y H2=>tx σ H2 fun z H3=>∃ o,DGet H3 a y o∧Q (o.getD z) H3
def tDPop2 (td ty tx:TE):TE:=fun σ H Q=>td σ H fun x H1=>∃ a,x=.ref a∧IsD H1 a∧ty σ H1 fun y H2=>tx σ H2 fun z H3=>∃ kvs k,H3 a=some (.dK kvs)∧y=kV k ∧
  (∀ v,valV kvs k=some v→Q v (upd H3 a (.dK (dropK kvs k))))∧(valV kvs k=none→Q z H3)
section
variable {X:Cx} {o e f:Expr} {apos cpos:Pos} {td ty tx:TE}
end
section
variable {X:Cx} {pins:List (Addr × Obj)} {σ:St} {H:Hp} {s:Shared} {a:Addr} {kvs:List (Key × V)} {A:Around} {E:Value→Shared→Prop}
end
section
variable {X:Cx} {pins:List (Addr × Obj)} {σ:St} {H:Hp} {s:Shared} {a:Addr} {y:V} {u:Value} {A:Around} {E:Value→Shared→Prop}
end
end L2
namespace Att
open PySem PySem.W PySem.Calls PyProof.Rows
theorem ints_of_wellAll {P:Params} {h:Heap}:∀ (ns:List Int) (vs:List Value),WellAll P h vs (ns.map WData.int)→IntsAre vs ns:=by
  intro ns
  induction ns with
  | nil =>
    intro vs w
    rw [List.map_nil] at w
    cases w
    exact .nil
  | cons n ns ih =>
    intro vs w
    rw [List.map_cons] at w
    cases w with
    | cons a b =>
      cases a
      exact .cons _ _ (ih _ b)
theorem script_of {l:OpenLaw} {n:Nat} (hn:l.most=some n) {P:Params} {h:Heap} {args:List WData} {vals:List Value}
    (hpre:l.row.toRowW.claim.pre args=true) (hwl:WellAll P h vals args) :
    ∃ a vs ns,vals=[Value.ref a]∧args=[WData.list (ns.map WData.int)]∧h.get? a=some { cls:=.type "list",data:=.seq vs.toArray }∧IntsAre vs ns∧ns.length≤n:=by
  have hsh:WShape.hasAll [] args [.list .int]=true:=(pre_splitW hpre).1
  have hc:l.pre.holds [] { args:=args }=true:=(pre_splitW hpre).2
  obtain ⟨d,r,rfl,h1,h2⟩:=hasAllW_cons hsh
  obtain rfl:=hasAllW_nil h2
  obtain ⟨xs,rfl,h3⟩:=hasW_list h1
  obtain ⟨ns,rfl⟩:=items_int h3
  have hlen:ns.length≤n:=by
    unfold OpenLaw.pre at hc
    have h4:(WTm.not (.lt (.lit (.int (n:Int))) (.len (.arg 0)))).holds [] { args:=[.list (ns.map .int)] }=true:=by
      have h4:=(holds_andW hc).1
      rw [hn] at h4
      exact h4
    have h5:=condW_of h4 (w_not (w_lt w_lit (w_len_list (w_arg rfl))))
    rw [List.length_map] at h5
    refine Nat.le_of_not_lt fun q=>?_
    have q':(n:Int) < ((ns.length:Nat):Int):=by omega
    first
      | (rw [decide_eq_true q'] at h5;exact absurd h5 (by decide))
      | (simp at h5;omega)
  cases hwl with
  | cons w1 w2 =>
    cases w2
    cases w1 with
    | list ho hall=>exact ⟨_,_,ns,rfl,rfl,ho,ints_of_wellAll ns _ hall,hlen⟩
theorem post_true (l:OpenLaw) (args:List WData):l.row.toRowW.claim.post args (.bool true) args=true :=
  postW_of (r:=l.row.toRowW) (X:=(true == true))
    (show WShape.has [] (.bool true) .bool=true by first | rfl | decide | simp [WShape.has,WShape.arms,WShape.armsAll])
    (show (WTm.eq .res (.lit (.bool true))).value [] { args:=args,res:=some (.bool true),after:=args }=some (.bool (true == true)) from w_eq_bool (w_res rfl) w_lit) rfl
theorem attach_call {l:OpenLaw} {n:Nat} {q:Program} {loose:List Str} {XP:(Str→Option Value)→Heap→Prop} {YP:World→Heap→Prop} {d:DefRec}
    (hn:l.most=some n) (hdf:d.params.defaults=[])
    (call:∀ (w:World) (s₀ s₁:Shared) (mg mb:Str→Option Value) (fa:Addr) (o:Obj) (pm cd doc:Value) (a:Addr) (vs:List Value) (ns:List Int),
      Ground q loose [] XP w s₀ mg mb s₁.heap→YP w s₁.heap →
      s₁.heap.get? fa=some o→o.data=.func (docDef d.name d.params d.body d.scope pm cd doc)→s₁.heap.CodeRec cd d.name→mg d.name=some (.ref fa) →
      s₁.heap.get? a=some { cls:=.type "list",data:=.seq vs.toArray }→IntsAre vs ns→ns.length≤n→s₁.gens=#[] →
      codeAny (model l.prog w) callerA (.call (.ref fa) ⟨[.ref a],[]⟩) (fun r s'=>r=.ok (.ret (.bool true))∧OldK s₁.heap s'.heap∧s'.os=s₁.os∧AllBare s'.gens) s₁) :
    WalkO q loose XP YP l.row.toRowW d [] (fun f vs=>PySem.call f vs):=by
  intro w s₀ s₁ mg mb G Y fa o pm cd doc dV kV ho hd hcd hD hmg hg args vals as hpre hlay hrd hwl hlo
  obtain rfl:dV=.none:=Dflts.none hD hdf
  obtain rfl:kV=.none:=Dflts.noKw hD
  obtain ⟨a,vs,ns,rfl,rfl,hobj,hints,hlen⟩:=script_of hn hpre hwl
  refine enter_call (codeAny_mono (call w s₀ s₁ mg mb fa o pm cd doc a vs ns G Y ho (fd_plain hd) hcd hmg hobj hints hlen hg) fun r s' hq=>?_)
  obtain ⟨rfl,h2,h3,h4⟩:=hq
  exact ⟨.inl ⟨.bool true,.bool true,[],rfl,fun _=>rfl,.bool true,post_true l _,fun _=>⟨List.Pairwise.nil,fun _ hm=>(nomatch hm)⟩⟩,h2,h3,h4⟩
section
variable {prog:Program} {w:World} {A:Around} {E:Value→Shared→Prop} {s:Shared} {K:Frag}
def ledger (h:Heap) (L d:Addr):List (Addr × Obj):=(List.range h.objs.size).filterMap fun a=>if a=L∨a=d then none else (h.get? a).map fun o=>(a,o)
end
end Att
namespace L2
open PySem PySem.Spec PyProof.Rows
theorem vals_ints:∀ {vs:List Value} {ns:List Int},IntsAre vs ns→Vals (ns.map V.int) vs
  | _,_,.nil=>.nil
  | _,_,.cons n t h=>.cons ⟨t,rfl⟩ (vals_ints h)
def Only (H:Hp):Prop:=∀ b,H b=none∨∃ o xs,H b=some (.frz o (.lst xs))
theorem law_call {P:Program} {w:World} {K:PySem.W.Frag} {mg mb:Str→Option Value} {CX:CXT} {k:Nat} {fa a:Addr} {fd:FuncData} {x:Str} {sp:Sp} {s₁:Shared} {vs:List Value} {ns:List Int}
    (KX:K.In s₁.heap) (hns:s₁.heap.Ns mainGlobals mg) (hb:s₁.heap.Ns builtinsNs mb) (hbb:∀ x:Str,x≠"__name__"→mb x=bootBuiltins x) (hlim:s₁.heap.NoLimit) (hg:s₁.gens=#[])
    (ha:s₁.heap.get? a=some { cls:=.type "list",data:=.seq vs.toArray }) (hi:IntsAre vs ns) (hl:ns.length≤sizeLine) (hr:Room k callerA)
    (F:∀ base:Heap,K.In base→base.Ns mainGlobals mg→FnOk P w K mg base CX k fa fd [x] sp) (hbind:∀ (s:Shared) (u:Value),BindsTo s fd ⟨[u],[]⟩ [(x,u)])
    (hsp:∀ H:Hp,Only H→SqL K H a (ns.map V.int)→sp [.ref a] H (fun v _=>v=.bl true) fun _ _ _=>False)
    (hCX:∀ H e s',CX [] H s₁ (fun _ _ _=>False) e s'→False) :
    codeAny (model P w) callerA (.call (.ref fa) ⟨[.ref a],[]⟩) (fun r s'=>r=.ok (.ret (.bool true))∧OldK s₁.heap s'.heap∧s'.os=s₁.os∧AllBare s'.gens) s₁:=by
  have rv:=vals_ints hi
  have lenV:=hi.length
  -- from an abstract heap in which nothing but the script may be tracked
  have core:∀ H:Hp,Only H→SqL K H a (ns.map V.int)→HOk P w H s₁.heap→(∀ b,H b≠none→b=a)→(H a≠none→K.lookup a=none) →
      codeAny (model P w) callerA (.call (.ref fa) ⟨[.ref a],[]⟩) (fun r s'=>r=.ok (.ret (.bool true))∧OldK s₁.heap s'.heap∧s'.os=s₁.os∧AllBare s'.gens) s₁:=by
    intro H hO hS hok hA hK
    have base_of:∀ {b:Addr} {o:Obj},s₁.heap.get? b=some o→H b=none→(hidT s₁.heap H).get? b=some o:=fun e n=>hidT_get e n
    have noA:∀ {b:Addr} {o:Obj} {es:Array DictEntry} {ep:Nat},s₁.heap.get? b=some o→o.data=.dict es ep→H b=none:=fun {b o es ep} e d=>by
      cases q:H b with
      | none=>rfl
      | some u =>
        have e':b=a:=hA b (by rw [q];simp)
        subst e'
        rw [ha] at e;cases e
        have d':Data.seq vs.toArray _=Data.dict es ep:=d
        cases d'
    have nsK:∀ {b:Addr} {m:Str→Option Value},s₁.heap.Ns b m→(hidT s₁.heap H).Ns b m:=fun {b m} ⟨o,es,ep,e,d,r⟩=>⟨o,es,ep,base_of e (noA e d),d,r⟩
    have hKb:K.In (hidT s₁.heap H):=fun b o e=>base_of (KX b o e) (by
      cases q:H b with
      | none=>rfl
      | some u =>
        have e':b=a:=hA b (by rw [q];simp)
        subst e'
        rw [hK (by rw [q];simp)] at e;cases e)
    have hM:Mod K mg (hidT s₁.heap H):=⟨hKb,nsK hns,⟨mb,nsK hb,hbb⟩,let ⟨mc,h1,h2⟩:=hlim;⟨mc,nsK h1,h2⟩⟩
    have e0:Env0 P w K mg (hidT s₁.heap H) callerA [] s₁ H:=⟨rfl,hM,fun b o e=>of_hidT e,Nat.le_of_eq (hidT_size _ _),trivial,fun b hb=>absurd (show b∈([]:List Addr) from hb) (by simp),hok,.of_eq hg⟩
    refine codeAny_mono ((F _ hKb (nsK hns)).run callerA [] s₁ H ⟨[.ref a],[]⟩ [.ref a] [.ref a] _ _ hr e0 (hbind s₁ (.ref a)) (.cons rfl .nil) (hsp H hO hS)) fun r s' h=>?_
    cases r with
    | error e=>exact (hCX H e s' h).elim
    | ok fl =>
      cases fl with
      | next=>exact False.elim h
      | brk=>exact False.elim h
      | cont=>exact False.elim h
      | ret u =>
        obtain ⟨v,H',os,bare,un,hok',r',q⟩:=h
        have q':v=.bl true:=q
        subst q'
        obtain rfl:u=Value.bool true:=r'
        refine ⟨rfl,OldK.of_keep fun b o e=>?_,os,bare⟩
        cases q:H b with
        | none=>exact un.keep b o e q (by intro z;exact absurd (show b∈([]:List Addr) from z) (by simp)) (by simp)
        | some u =>
          rcases hO b with z | ⟨ob,xs,z⟩
          · rw [q] at z;cases z
          · have z2:=un.frzs b ob _ z
            obtain ⟨e1,_⟩:=hok b _ z
            obtain ⟨e2,_⟩:=hok' b _ z2
            rw [e] at e1;cases e1
            exact e2
  cases hk:K.lookup a with
  | some o =>
    -- the script is one of the module's own objects
    have e:=KX a o hk
    rw [ha] at e
    cases e
    refine core (fun _=>none) (fun _=>.inl rfl) (.inr ⟨_,vs.toArray,_,hk,rfl,rfl,rfl,by rw [List.size_toArray,lenV];exact hl,by simpa using rv⟩) (fun b u z=>by have z':(none:Option HO)=some u:=z;cases z') (fun b z=>absurd rfl z) fun z=>absurd rfl z
  | none =>
    refine core (fun b=>if b=a then some (.frz { cls:=.type "list",data:=.seq vs.toArray } (.lst (ns.map V.int))) else none) (fun b=>?_) (.inl (.inr ⟨{ cls:=.type "list",data:=.seq vs.toArray },if_pos rfl⟩)) (fun b u z=>?_) (fun b z=>?_) fun _=>hk
    · by_cases hb:b=a
      · exact .inr ⟨_,_,if_pos hb⟩
      · exact .inl (if_neg hb)
    · by_cases hb:b=a
      · have z':=(if_pos hb).symm.trans z
        cases z'
        subst hb
        exact ⟨ha,by rw [List.length_map];exact hl,vs,_,rv,ha⟩
      · have z':=(if_neg hb).symm.trans z
        cases z'
    · by_cases hb:b=a
      · exact hb
      · exact absurd (if_neg hb) z
end L2
namespace L2
open PySem PySem.Spec PyProof.Rows
abbrev KOf {K:PySem.W.Frag} {h:Heap} (_:K.In h):PySem.W.Frag:=K
theorem walk_of {l:PySem.W.OpenLaw} {n k:Nat} {q:Program} {loose:List Str} {XP:(Str→Option Value)→Heap→Prop} {YP:World→Heap→Prop} {d:DefRec} {K:Params→PySem.W.Frag} {CX:World→CXT} {sp:World→Sp} {x:Str}
    (hn:l.most=some n) (hn2:n≤sizeLine) (hdf:d.params.defaults=[]) (hr:Room k callerA)
    (hY:∀ (w:World) (h:Heap),YP w h→(K w.params).In h)
    (F:∀ (w:World) (mg:Str→Option Value) (fa:Addr) (h:Heap),(K w.params).In h→h.Ns mainGlobals mg→mg d.name=some (.ref fa) →
      ∃ fd:FuncData,(∀ (s:Shared) (u:Value),BindsTo s fd ⟨[u],[]⟩ [(x,u)]) ∧
        ∀ base:Heap,(K w.params).In base→base.Ns mainGlobals mg→FnOk l.prog w (K w.params) mg base (CX w) k fa fd [x] (sp w))
    (hsp:∀ (w:World) (H:Hp) (a:Addr) (ns:List Int),ns.length≤n→Only H→SqL (K w.params) H a (ns.map V.int)→sp w [.ref a] H (fun v _=>v=.bl true) fun _ _ _=>False)
    (hCX:∀ (w:World) (H:Hp) (s:Shared) (e:Value) (s':Shared),CX w [] H s (fun _ _ _=>False) e s'→False) :
    PySem.W.WalkO q loose XP YP l.row.toRowW d [] (fun f vs=>PySem.call f vs):=by
  refine Att.attach_call hn hdf fun w s₀ s₁ mg mb fa o pm cd doc a vs ns G Y ho hd hcd hmg hobj hints hlen hg=>?_
  have KX:=hY w _ Y
  obtain ⟨fd,hb,hF⟩:=F w mg fa _ KX G.T.g hmg
  exact law_call KX G.T.g G.T.b G.T.builtins G.T.nolimit hg hobj hints (Nat.le_trans hlen hn2) hr hF hb (fun H hO hS=>hsp w H a ns hlen hO hS) fun H e s'=>hCX w H s₁ e s'
theorem walk_ofK {l:PySem.W.OpenLaw} {n k:Nat} {q:Program} {loose:List Str} {XP:(Str→Option Value)→Heap→Prop} {YP:World→Heap→Prop} {d:DefRec} {K:Params→PySem.W.Frag} {CX:CXT} {sp:PySem.W.Frag→Sp} {x:Str}
    (hn:l.most=some n) (hn2:n≤sizeLine) (hdf:d.params.defaults=[]) (hr:Room k callerA)
    (hY:∀ (w:World) (h:Heap),YP w h→(K w.params).In h)
    (F:∀ (w:World) (mg:Str→Option Value) (fa:Addr) (h:Heap),(K w.params).In h→h.Ns mainGlobals mg→mg d.name=some (.ref fa) →
      ∃ fd:FuncData,(∀ (s:Shared) (u:Value),BindsTo s fd ⟨[u],[]⟩ [(x,u)]) ∧
        ∀ base:Heap,(K w.params).In base→base.Ns mainGlobals mg→FnOk l.prog w (K w.params) mg base CX k fa fd [x] (sp (K w.params)))
    (hsp:∀ (K:PySem.W.Frag) (H:Hp) (a:Addr) (ns:List Int),ns.length≤n→Only H→SqL K H a (ns.map V.int)→sp K [.ref a] H (fun v _=>v=.bl true) fun _ _ _=>False)
    (hCX:∀ (H:Hp) (s:Shared) (e:Value) (s':Shared),CX [] H s (fun _ _ _=>False) e s'→False) :
    PySem.W.WalkO q loose XP YP l.row.toRowW d [] (fun f vs=>PySem.call f vs) :=
  walk_of (K:=K) (CX:=fun _=>CX) (sp:=fun w=>sp (K w.params)) hn hn2 hdf hr hY F (fun w H a ns h1 h2 h3=>hsp (K w.params) H a ns h1 h2 h3) fun _ H s e s'=>hCX H s e s'
end L2
namespace L2
open PySem PySem.Spec PyProof.Rows
def defArgs (s:Stmt):Arguments:=match s with
  | .FunctionDef _ a _ _ _ _ _ _ _ _=>a
  | _=>{ posonlyargs:=[],args:=[],vararg:=none,kwonlyargs:=[],kw_defaults:=[],kwarg:=none,defaults:=[] }
def defBody (s:Stmt):List Stmt:=match s with
  | .FunctionDef _ _ b _ _ _ _ _ _ _=>b
  | _=>[]
def defScope (s:Stmt):Scope:=match s with
  | .FunctionDef _ _ _ _ _ _ sc _ _ _=>sc
  | _=>{ kind:=.function,names:=[],isGenerator:=false,isCoroutine:=false }
abbrev E0:XK:=fun _ _ _=>False
structure Fun (K:PySem.W.Frag) (x qual:Str) (st:Stmt) (f:Addr) (fd:FuncData):Prop where
  ex:∃ (oc:Value) (od:Option Addr) (kV doc pm:Value) (an:Option Addr) (cdv ct:Value) (osl:Array (Option Value)),
    fd=PySem.W.fnOf x qual (defArgs st) (defBody st) (defScope st) .none kV doc pm an cdv ct∧K.lookup f=some ⟨oc,od,.func fd,osl⟩∧PySem.W.codeIn K cdv qual=true
  kp:PySem.W.keepIn K (.ref f)=true
section
variable {P:Program} {w:World} {K:PySem.W.Frag} {mg:Str→Option Value} {base:Heap}
theorem Fun.binds {x qual:Str} {st:Stmt} {f:Addr} {fd:FuncData} {ps:List Str} (F:Fun K x qual st f fd)
    (h:∀ (kV doc pm:Value) (an:Option Addr) (cdv ct:Value) (us:List Value),us.length=ps.length→bindArgs (PySem.W.fnOf x qual (defArgs st) (defBody st) (defScope st) .none kV doc pm an cdv ct) ⟨us,[]⟩=pure (ps.zip us)):Binds K fd ps []:=by
  obtain ⟨oc,od,kV,doc,pm,an,cdv,ct,osl,rfl,lk,hcd⟩:=F.ex
  exact .all (h kV doc pm an cdv ct)
theorem fun_mk {x qual:Str} {st:Stmt} {f:Addr} {oc:Value} {od an:Option Addr} {osl:Array (Option Value)} {kV doc pm cdv ct:Value} (l:K.lookup f=some ⟨oc,od,.func (PySem.W.fnOf x qual (defArgs st) (defBody st) (defScope st) .none kV doc pm an cdv ct),osl⟩)
    (c:PySem.W.codeIn K cdv qual=true) (k:PySem.W.keepIn K (.ref f)=true):Fun K x qual st f (PySem.W.fnOf x qual (defArgs st) (defBody st) (defScope st) .none kV doc pm an cdv ct):=⟨⟨oc,od,kV,doc,pm,an,cdv,ct,osl,rfl,l,c⟩,k⟩
end
theorem hu_of {A:Around} {k:Nat} (hr:Room k A):A.units + 1 < cLine:=Nat.lt_of_le_of_lt (Nat.add_le_add_left (by decide:1≤64) _) hr.units
section
variable {X:Cx}
theorem pv (i:Nat) {x:Str} {pos:Pos} (hN:X.N[i]?=some x:=by rfl) (hv:Vis X.env.scope x:=by first | exact Or.inl rfl | exact Or.inr (Or.inl rfl) | exact Or.inr (Or.inr rfl)) (hd:(x == ("__debug__":Str))=false:=by decide)
    (hcd:(x == ("__classdict__":Str))=false:=by decide):PE X (.Name x pos) (tVar i):=pe_var hN hv hd hcd
end
theorem ite2 {c A B:Prop} [Decidable c] (h1:c→A) (h2:¬ c→B):if c then A else B:=by
  by_cases h:c
  · rw [if_pos h]
    exact h1 h
  · rw [if_neg h]
    exact h2 h
def Same (H H':Hp):Prop:=∀ b o,H b=some o→H' b=some o
theorem Same.refl (H:Hp):Same H H:=fun _ _ h=>h
theorem Same.trans {H H1 H2:Hp} (a:Same H H1) (b:Same H1 H2):Same H H2:=fun c o h=>b c o (a c o h)
end L2
namespace L2
open PySem PySem.Spec PyProof.Rows
section
variable {X:Cx}
end
section
variable {κ:Type} [DecidableEq κ]
theorem valV_not {kvs:List (κ × V)} {k:κ} (h:valV kvs k=none):¬ k∈kvs.map (·.1):=by
  intro m
  obtain ⟨p,hp,e⟩:=List.mem_map.mp m
  have q:(kvs.any fun kv=>decide (kv.1=k))=true:=List.any_eq_true.mpr ⟨p,hp,decide_eq_true e⟩
  rw [valV_any,h] at q
  exact absurd q (by simp)
theorem valV_in {kvs:List (κ × V)} {k:κ} {v:V} (h:valV kvs k=some v):k∈kvs.map (·.1):=by
  have q:(kvs.any fun kv=>decide (kv.1=k))=true:=by
    rw [valV_any,h]
    all_goals rfl
  obtain ⟨p,hp,e⟩:=List.any_eq_true.mp q
  exact List.mem_map.mpr ⟨p,hp,of_decide_eq_true e⟩
theorem nd_snoc:∀ {l:List κ} {k:κ},l.Nodup→¬ k∈l→(l ++ [k]).Nodup
  | [],k,_,_=>by simp
  | a :: r,k,h,hk=>by
    obtain ⟨h1,h2⟩:=List.nodup_cons.mp h
    show (a :: (r ++ [k])).Nodup
    refine List.nodup_cons.mpr ⟨fun m=>?_,nd_snoc h2 fun m=>hk (List.mem_cons.mpr (Or.inr m))⟩
    rcases List.mem_append.mp m with q | q
    · exact h1 q
    · exact hk (List.mem_cons.mpr (Or.inl (List.mem_singleton.mp q).symm))
theorem nd_putK {kvs:List (κ × V)} {k:κ} (v:V) (hn:(kvs.map (·.1)).Nodup) (h:valV kvs k=none):((putK kvs k v).map (·.1)).Nodup:=by
  rw [putK_new v h,List.map_append]
  exact nd_snoc hn (valV_not h)
theorem dropK_neg {p:κ × V} {r:List (κ × V)} {k:κ} (e:¬ p.1=k):dropK (p :: r) k=p :: dropK r k:=by
  unfold dropK
  rw [List.filter_cons,if_pos (by simp [e])]
theorem dropK_no:∀ {kvs:List (κ × V)} {k:κ},¬ k∈kvs.map (·.1)→dropK kvs k=kvs
  | [],_,_=>rfl
  | p :: r,k,h=>by
    have h':¬ k∈r.map (·.1):=fun m=>by
      obtain ⟨q,hq,e⟩:=List.mem_map.mp m
      exact h (List.mem_map.mpr ⟨q,List.mem_cons.mpr (Or.inr hq),e⟩)
    rw [dropK_neg fun e=>h (List.mem_map.mpr ⟨p,List.mem_cons.mpr (Or.inl rfl),e⟩),dropK_no h']
end
end L2
set_option Elab.async false
set_option linter.all false
set_option maxRecDepth 100000
set_option maxHeartbeats 4000000
namespace L2
open PySem PySem.Spec PyProof.Rows
def Cx.comp (X:Cx) (scope:Scope) (cl:List (Str × Addr)) (C:Addr) (N:List Str) (fp:List Addr) (s:Shared) (H:Hp):Cx :=
  { X with env:=compEnvC scope cl C X.env,N:=N,s₀:=s,H₀:=H,outer:=X.stack,ex:=fp,fn:=fun _=>false,pn:=[],xe:=fun _ _=>False }
structure CompScope (X:Cx) (scope:Scope) (cl:List (Str × Addr)) (ix:List Nat):Prop where
  clos:closureFor scope X.env=pure cl
  nocell:∀ y∈scope.names,y.2≠.cell
  kind:scope.kind=.function
  names:∀ y∈scope.names,y.2=.local→scope.names.lookup y.1=some .local
  sub:∀ y c,cl.lookup y=some c→X.env.cells.lookup y=some c
  has:∀ y,((relabel scope X.env).names.lookup y=some .cell∨(relabel scope X.env).names.lookup y=some .free)→∃ c,cl.lookup y=some c
  cap:∀ i∈ix,∃ y,X.N[i]?=some y∧(X.env.kindOf y=some .cell∨X.env.kindOf y=some .free)∧((relabel scope X.env).names.lookup y=some .cell∨(relabel scope X.env).names.lookup y=some .free)
def closOf (scope:Scope) (env:Env):List (Str × Addr):=scope.names.foldl (fun cs y=>if y.2 == .free then (y.1,(env.cells.lookup y.1).getD 0) :: cs else cs) []
def compD (osc:Scope) (N:List Str) (sc:Scope) (ix:List Nat):Bool :=
  sc.kind == .function && sc.names.all (fun y=>y.2 != .cell && (y.2 != .local || sc.names.lookup y.1 == some .local) && (y.2 != .free || osc.names.lookup y.1 == some .cell || osc.names.lookup y.1 == some .free)) &&
    ix.all fun i=>match N[i]? with
      | some y=>sc.names.lookup y == some .free
      | none=>false
theorem mem_of_look {l:List (Str × NameKind)} {y:Str} {k:NameKind} (h:l.lookup y=some k):(y,k)∈l:=PySem.mem_of_lookup h
theorem relabel_look {env:Env}:∀ {names:List (Str × NameKind)} {x:Str} {k:NameKind},(names.map fun (n,k)=>if (k == NameKind.free && env.scope.kind == .function && env.kindOf n == some .cell) then (n,NameKind.cell) else (n,k)).lookup x=some k →
    ∃ k',names.lookup x=some k'∧(k'=.free∨k'=k)
  | [],_,_,h=>by simp at h
  | (n,k') :: r,x,k,h=>by
    have ih:=@relabel_look env r x k
    rw [List.map_cons] at h
    cases hx:x == n with
    | true =>
      by_cases hc:(k' == NameKind.free && env.scope.kind == .function && env.kindOf n == some .cell)=true
      · have e:k'=.free:=by
          have:=(Bool.and_eq_true _ _ ▸ (Bool.and_eq_true _ _ ▸ hc).1).1
          simpa using this
        exact ⟨k',by simp [List.lookup_cons,hx],.inl e⟩
      · simp only [if_neg hc,List.lookup_cons,hx] at h
        exact ⟨k',by simp [List.lookup_cons,hx],.inr (Option.some.inj h)⟩
    | false =>
      have h':(r.map fun (n,k)=>if (k == NameKind.free && env.scope.kind == .function && env.kindOf n == some .cell) then (n,NameKind.cell) else (n,k)).lookup x=some k:=by
        by_cases hc:(k' == NameKind.free && env.scope.kind == .function && env.kindOf n == some .cell)=true
        · simp only [if_pos hc,List.lookup_cons,hx] at h;exact h
        · simp only [if_neg hc,List.lookup_cons,hx] at h;exact h
      obtain ⟨q,e,r'⟩:=ih h'
      exact ⟨q,by simp only [List.lookup_cons,hx];exact e,r'⟩
theorem relabel_free {env:Env}:∀ {names:List (Str × NameKind)} {x:Str},names.lookup x=some .free →
    ((names.map fun (n,k)=>if (k == NameKind.free && env.scope.kind == .function && env.kindOf n == some .cell) then (n,NameKind.cell) else (n,k)).lookup x=some .cell ∨
      (names.map fun (n,k)=>if (k == NameKind.free && env.scope.kind == .function && env.kindOf n == some .cell) then (n,NameKind.cell) else (n,k)).lookup x=some .free)
  | [],_,h=>by simp at h
  | (n,k') :: r,x,h=>by
    have ih:=@relabel_free env r x
    rw [List.map_cons]
    cases hx:x == n with
    | true =>
      simp only [List.lookup_cons,hx] at h
      cases h
      by_cases hc:(NameKind.free == NameKind.free && env.scope.kind == .function && env.kindOf n == some .cell)=true
      · left;simp only [if_pos hc,List.lookup_cons,hx]
      · right;simp only [if_neg hc,List.lookup_cons,hx]
    | false =>
      simp only [List.lookup_cons,hx] at h
      by_cases hc:(k' == NameKind.free && env.scope.kind == .function && env.kindOf n == some .cell)=true
      · simp only [if_pos hc,List.lookup_cons,hx];exact ih h
      · simp only [if_neg hc,List.lookup_cons,hx];exact ih h
theorem clos_fold {env:Env}:∀ (l:List (Str × NameKind)) (cs:List (Str × Addr)),(∀ y∈l,y.2=.free→∃ c,env.cells.lookup y.1=some c) →
    (∀ y c,cs.lookup y=some c→env.cells.lookup y=some c)→∀ y c,(l.foldl (fun cs y=>if y.2 == .free then (y.1,(env.cells.lookup y.1).getD 0) :: cs else cs) cs).lookup y=some c→env.cells.lookup y=some c
  | [],_,_,h,y,c,e=>h y c e
  | z :: r,cs,hl,h,y,c,e=>by
    rw [List.foldl_cons] at e
    refine clos_fold r _ (fun y hy=>hl y (List.mem_cons_of_mem _ hy)) (fun y' c' e'=>?_) y c e
    by_cases hz:z.2=.free
    · obtain ⟨c0,h0⟩:=hl z List.mem_cons_self hz
      have hb:(z.2 == NameKind.free)=true:=by simpa using hz
      rw [if_pos hb,h0,List.lookup_cons] at e'
      cases hq:y' == z.1 with
      | true =>
        rw [hq] at e'
        have e2:y'=z.1:=by simpa using hq
        cases e'
        rw [e2];exact h0
      | false=>rw [hq] at e';exact h _ _ e'
    · have hb:(z.2 == NameKind.free)=false:=by simpa using hz
      rw [hb] at e'
      exact h _ _ e'
theorem clos_has {env:Env}:∀ (l:List (Str × NameKind)) (cs:List (Str × Addr)) (y:Str),((∃ c,cs.lookup y=some c)∨(y,NameKind.free)∈l) →
    ∃ c,(l.foldl (fun cs y=>if y.2 == .free then (y.1,(env.cells.lookup y.1).getD 0) :: cs else cs) cs).lookup y=some c
  | [],_,_,h=>h.elim id fun z=>nomatch z
  | z :: r,cs,y,h=>by
    rw [List.foldl_cons]
    refine clos_has r _ y ?_
    rcases h with ⟨c,h⟩ | h
    · left
      by_cases hz:(z.2 == NameKind.free)=true
      · rw [if_pos hz,List.lookup_cons]
        cases y == z.1 with
        | true=>exact ⟨_,rfl⟩
        | false=>exact ⟨c,h⟩
      · rw [if_neg hz];exact ⟨c,h⟩
    · rcases List.mem_cons.mp h with h | h
      · left
        subst h
        rw [if_pos (by rfl),List.lookup_cons]
        simp
      · exact .inr h
theorem clos_eq {env:Env}:∀ (l:List (Str × NameKind)) (cs:List (Str × Addr)),(∀ y∈l,y.2=.free→∃ c,env.cells.lookup y.1=some c) →
    forIn (m:=Sem) l cs (fun x r=>match x with | (name,kind)=>if (kind == NameKind.free)=true then do let c ← cellOf env name;pure (ForInStep.yield ((name,c) :: r)) else pure (ForInStep.yield r)) =
      pure (l.foldl (fun cs y=>if y.2 == .free then (y.1,(env.cells.lookup y.1).getD 0) :: cs else cs) cs)
  | [],_,_=>rfl
  | (n,k) :: r,cs,h=>by
    rw [List.forIn_cons,List.foldl_cons]
    by_cases hz:(k == NameKind.free)=true
    · obtain ⟨c,hc⟩:=h (n,k) List.mem_cons_self (by simpa using hz)
      have e:cellOf env n=pure c:=by unfold cellOf;rw [hc]
      simp only [hz,if_true,e,pure_bind]
      rw [clos_eq r _ fun y hy=>h y (List.mem_cons_of_mem _ hy)]
      simp only [hc,Option.getD_some]
    · simp only [hz,if_false,pure_bind]
      exact clos_eq r _ fun y hy=>h y (List.mem_cons_of_mem _ hy)
theorem compScope_of {X:Cx} {osc scope:Scope} {N:List Str} {ix:List Nat} (ok:X.Ok) (h:compD osc N scope ix=true) (hs:X.env.scope=osc) (hN:X.N=N):CompScope X scope (closOf scope X.env) ix:=by
  subst hs hN
  unfold compD at h
  rw [Bool.and_eq_true,Bool.and_eq_true,List.all_eq_true,List.all_eq_true] at h
  obtain ⟨⟨h1,h2⟩,h3⟩:=h
  have p:∀ y∈scope.names,y.2≠.cell∧(y.2=.local→scope.names.lookup y.1=some .local)∧(y.2=.free→X.env.kindOf y.1=some .cell∨X.env.kindOf y.1=some .free):=fun y hy=>by
    have q:=h2 y hy
    rw [Bool.and_eq_true,Bool.and_eq_true] at q
    obtain ⟨⟨q1,q2⟩,q3⟩:=q
    refine ⟨by simpa using q1,fun e=>?_,fun e=>?_⟩
    · rw [e] at q2;simpa using q2
    · rw [e] at q3
      have q3':X.env.scope.names.lookup y.1=some .cell∨X.env.scope.names.lookup y.1=some .free:=by simpa using q3
      exact q3'
  have f:∀ y∈scope.names,y.2=.free→∃ c,X.env.cells.lookup y.1=some c:=fun y hy e=>ok.has y.1 ((p y hy).2.2 e)
  refine ⟨?_,fun y hy=>(p y hy).1,by simpa using h1,fun y hy=>(p y hy).2.1,fun y c e=>clos_fold scope.names [] f (fun _ _ z=>by simp at z) y c e,fun y hy=>?_,fun i hi=>?_⟩
  · have e:=clos_eq scope.names [] f
    unfold closureFor closOf
    refine Eq.trans (congrArg (fun m=>m >>= fun s=>(pure s:Sem (List (Str × Addr)))) e) ?_
    rw [pure_bind]
  · refine clos_has scope.names [] y (.inr ?_)
    rcases hy with hy | hy
    · obtain ⟨k',e,z | z⟩:=relabel_look hy
      · subst z;exact mem_of_look e
      · subst z;exact absurd rfl (p _ (mem_of_look e)).1
    · obtain ⟨k',e,z | z⟩:=relabel_look hy
      · subst z;exact mem_of_look e
      · subst z;exact mem_of_look e
  · have q:=h3 i hi
    cases hy:X.N[i]? with
    | none=>rw [hy] at q;cases q
    | some y =>
      rw [hy] at q
      have q':scope.names.lookup y=some .free:=by simpa using q
      exact ⟨y,rfl,(p _ (mem_of_look q')).2.2 rfl,relabel_free q'⟩
def capV (ix:List Nat) (σ:St):St:=ix.map fun i=>(σ[i]?).getD none
def capN (ix:List Nat) (N:List Str):List Str:=ix.map fun i=>(N[i]?).getD ""
section
variable {X:Cx} {pins:List (Addr × Obj)} {σ:St} {H:Hp} {s:Shared} {scope:Scope} {cl:List (Str × Addr)} {ix:List Nat} {fp:List Addr} {C:Addr} {xs:List Str}
theorem Inv.compOk (I:Inv X pins σ H s) (S:CompScope X scope cl ix) (hC:C=s.heap.objs.size) (hf:∀ b∈fp,FpOk X pins H b) (hl:∀ b∈fp,b < s.heap.objs.size) (N':List Str) :
    (X.comp scope cl C N' fp s H).Ok where
  mod:=I.ok.mod
  kind:=S.kind
  glob:=I.ok.glob
  blt:=I.ok.blt
  above:=Nat.le_of_eq hC.symm
  inj:=fun x y c h1 h2=>I.ok.inj x y c (S.sub x c h1) (S.sub y c h2)
  has:=fun x hx=>S.has x hx
  cab:=fun x c h1 _=>nomatch h1
  hd:=I.ok.hd
  frames:=I.ok.frames
  stk:=.inl rfl
  exf:=fun b hb=>⟨fun z=>absurd (hl b hb) (by rw [z];show ¬ C < _;rw [hC];exact Nat.lt_irrefl _),fun x c h=>(hf b hb).2.2.2.2.1 x c (S.sub x c h)⟩
  bs:=I.bs
  bsz:=Nat.le_trans I.ok.bsz I.sz
  noex:=fun b o e hb=>by
    rcases (hf b hb).2.2.2.1 with z | z
    · exact I.ok.noex b o e z
    · exact absurd (Nat.lt_of_lt_of_le (Heap.lt_size e) (Nat.le_trans I.ok.bsz z)) (Nat.lt_irrefl _)
  exfs:=fun b hb z=>by
    rcases List.mem_cons.mp (I.stkSub b z) with e | e
    · exact (hf b hb).2.1 e
    · exact (hf b hb).2.2.1 e
  funs:=I.stack
  frf:=I.stkFree
theorem Inv.comp {h₁:Heap} {m₁:Str→Option Value} {t':Nat} (I:Inv X pins σ H s) (S:CompScope X scope cl ix) (hC:C=s.heap.objs.size) (hf:∀ b∈fp,FpOk X pins H b) (hl:∀ b∈fp,b < s.heap.objs.size)
    (hn:h₁.Ns C m₁) (hk:∀ b o,s.heap.get? b=some o→h₁.get? b=some o) :
    Inv (X.comp scope cl C (xs ++ capN ix X.N) fp s H) [] (List.replicate xs.length none ++ capV ix σ) H { s with heap:=h₁,toks:=t' } where
  ok:=I.compOk S hC hf hl _
  os:=rfl
  bare:=I.bare
  base:=Un.kept hk
  loc:=by
    refine ⟨m₁,hn,fun i y v e1 e2 e3=>?_⟩
    by_cases hi:i < xs.length
    · rw [List.getElem?_append_left (by simpa using hi),List.getElem?_replicate,if_pos hi] at e2
      cases e2
    · have e1':(xs ++ capN ix X.N)[i]?=some y:=e1
      rw [List.getElem?_append_right (by omega)] at e1'
      rw [List.getElem?_append_right (by rw [List.length_replicate];omega),List.length_replicate] at e2
      generalize i - xs.length=j at e1' e2
      unfold capN at e1'
      unfold capV at e2
      rw [List.getElem?_map] at e1' e2
      cases hj:ix[j]? with
      | none=>rw [hj] at e1';cases e1'
      | some k =>
        rw [hj] at e1' e2
        obtain ⟨y',c1,c2,c3⟩:=S.cap k (List.mem_of_getElem? hj)
        have ey:y'=y:=by
          have q:(X.N[k]?).getD ""=y:=Option.some.inj e1'
          rw [c1] at q
          exact q
        subst ey
        have ev:σ[k]?=some (some v):=by
          have q:(σ[k]?).getD none=some v:=Option.some.inj e2
          cases hs:σ[k]? with
          | none=>rw [hs] at q;cases q
          | some o=>rw [hs] at q;exact congrArg some q
        obtain ⟨m,hm,hv⟩:=I.loc
        obtain ⟨u,r,l⟩:=hv k y' v c1 ev (c2.elim (fun z=>.inr (.inl z)) fun z=>.inr (.inr z))
        refine ⟨u,r,.inr ⟨c3,?_⟩⟩
        rcases l with ⟨l1,_⟩ | ⟨_,c,lc,⟨o,ho,hd⟩⟩
        · rcases c2 with z | z <;> (rw [l1] at z;cases z)
        · obtain ⟨c',hc'⟩:=S.has y' c3
          have e:=S.sub _ _ hc'
          rw [lc] at e
          cases e
          exact ⟨c,hc',o,hk _ _ ho,hd⟩
  cell:=fun x c e=>by
    obtain ⟨v,o,ho,hd⟩:=I.cell x c (S.sub x c e)
    exact ⟨v,o,hk _ _ ho,hd⟩
  free:=I.hok.fresh (Nat.le_of_eq hC.symm)
  freeC:=fun x c e=>I.freeC x c (S.sub x c e)
  pin:=fun p hp=>absurd (show p∈([]:List (Addr × Obj)) from hp) (by simp)
  hok:=I.hok.kept hk
  len:=by
    show (List.replicate xs.length none ++ capV ix σ).length=(xs ++ capN ix X.N).length
    rw [List.length_append,List.length_append,List.length_replicate,capV,capN,List.length_map,List.length_map]
theorem Inv.uncomp {s':Shared} {σ':St} {H':Hp} {N':List Str} {h':Heap} (I:Inv X pins σ H s) (hC:C=s.heap.objs.size) (hf:∀ b∈fp,FpOk X pins H b)
    (J:Inv (X.comp scope cl C N' fp s H) [] σ' H' s') (hb:Heap.SameBut C s'.heap h'):Inv X pins σ H' { s' with heap:=h' }:=by
  have lt:∀ b o,s.heap.get? b=some o→b≠C:=fun b o e=>by
    rw [hC];exact Nat.ne_of_lt (Heap.lt_size e)
  have B:Un (frs X.stack) fp H H' s.heap s'.heap:=J.base
  refine I.call' (s':={ s' with heap:=h' }) (ch:=fp) J.os ?_ ?_ J.bare ?_
  · exact ⟨fun b o e n h1 h2=>(hb.2 b (lt b o e)).trans (B.keep b o e n h1 h2),fun b o e n h1 h2=>by
      obtain ⟨sl,q⟩:=B.slot b o e n h1 h2
      exact ⟨sl,(hb.2 b (lt b o e)).trans q⟩,B.free,fun b o e h1=>by
      obtain ⟨o',q⟩:=B.there b o e h1
      exact ⟨o',(hb.2 b (lt b o e)).trans q⟩,B.tups,B.frzs,B.tbls⟩
  · intro b o e
    refine (J.hok b o e).stay (fun c u hc q=>(hb.2 c ?_).trans q) (fun _ q=>q) fun _ _ q=>q
    have hC0:H' C=none:=J.free
    rintro rfl
    rcases hc with rfl | hc
    · rw [hC0] at e;cases e
    · rw [hC0] at hc;cases hc
  · intro b hb'
    obtain ⟨f0,f1,f2,f3,f4,f5⟩:=hf b hb'
    exact ⟨f3,f1,f4,f5⟩
end
def PTs (X:Cx) (ifs:List Expr) (t:TT):Prop :=
  ∀ (pins:List (Addr × Obj)) (s:Shared) (σ:St) (H:Hp) (Q:Bool→Hp→Prop),Inv X pins σ H s→t σ H Q →
    wpAny (model X.prog X.w) X.A (forIn ifs true fun c r=>if r=true then do let ok ← isTrue c X.env (eval c X.env);pure (ForInStep.yield ok) else pure (ForInStep.yield r)) (TP X pins σ Q) X.xe s
def tYes:TT:=fun _ H Q=>Q true H
theorem pts_nil {X:Cx}:PTs X [] tYes:=fun _ _ _ H _ I h=>wpAny_tests_nil ⟨H,I,h⟩
section
variable {prog:Program} {w:World} {A:Around} {R:Result→Shared→Prop} {s:Shared}
theorem compLoop_any {elt target iter:Expr} {ifs:List Expr} {scope:Scope} {pos:Pos} {it acc:Value} {env:Env} (W:Nat→Shared→Prop) {EE:Value→Shared→Prop}
    (hE:∀ e s',EE e s'→notedBy (model prog w) A env (fun e s'=>R (.error e) s') e s')
    (turn:∀ n s,W n s→wpAny (model prog w) A (pyNext it) (fun r s₁=>match r with
      | none=>R (.ok .next) s₁
      | some v=>wpAny (model prog w) A (letOwnedTupleGo target it v) (fun _ t₁=>wpAny (model prog w) A (assign target env v) (fun _ s₂ =>
          wpAny (model prog w) A (forIn ifs true fun c r=>if r=true then do let ok ← isTrue c env (eval c env);pure (ForInStep.yield ok) else pure (ForInStep.yield r)) (fun ok s₃ =>
            if ok=true then wpAny (model prog w) A (eval elt env) (fun x s₄=>wpAny (model prog w) A (call (.builtin "list.append") [acc,x]) (fun _ s₅=>∃ m,m < n∧W m s₅) EE s₄) EE s₃
            else ∃ m,m < n∧W m s₃) EE s₂) EE t₁) EE s₁) EE s)
    (n:Nat) (h:W n s):codeAny (model prog w) A (.compLoop (.ListComp elt [⟨target,iter,ifs,0⟩] scope pos) 0 it acc env) R s:=by
  refine codeAny_loop rfl W (fun n s hW=>?_) n h
  show wpAny _ A ((compTurn (.ListComp elt [⟨target,iter,ifs,0⟩] scope pos) 0 it acc env).onRaise (fun x=>do noteFrame x env;theTreesLotGoes x)) _ _ s
  refine wpAny_noted (wpAny_mono ?_ (fun _ _ q=>q) hE)
  rw [compTurn_list]
  refine wpAny_bind (wpAny_standAt (wpAny_bind (thn (turn n s hW) fun r s₁ h₁=>?_)))
  cases r with
  | none=>exact wpAny_pure h₁
  | some v =>
    refine wpAny_bind (thn h₁ fun _ t₁ k₁=>?_)
    refine wpAny_bind (thn k₁ fun _ s₂ h₂=>wpAny_bind (thn h₂ fun ok s₃ h₃=>?_))
    cases ok with
    | false=>exact wpAny_pure ⟨rfl,h₃⟩
    | true=>exact wpAny_bind (wpAny_bind (thn h₃ fun x s₄ h₄=>wpAny_bind (thn h₄ fun _ s₅ h₅=>wpAny_pure (wpAny_pure ⟨rfl,h₅⟩))))
end
def tComp (wi:TI) (g:TG) (tt:TT) (te:TE) (k:Nat) (ix:List Nat):TE:=fun σ H Q=>wi σ H fun J H1=>∀ D,H1 D=none →
  ∃ W:Nat→Nat→List V→St→Hp→Prop,(∃ m,W 0 m [] (List.replicate k none ++ capV ix σ) (upd H1 D (.lst [])))∧∀ i m ys τ H,W i m ys τ H→H D=some (.lst ys) ∧
    ((J.stop i H∧Q (.ref D) H)∨(J.go i H∧ys.length < sizeLine∧∃ N:V→St→Hp→Prop,
      (∀ v τ' H',N v τ' H'→H' D=some (.lst ys)∧∃ m',m' < m∧W (i + 1) m' (ys ++ [v]) τ' (upd H' D (.lst (ys ++ [v]))))∧∃ Nf:St→Hp→Prop,(∀ τ' H',Nf τ' H'→∃ m',m' < m∧W (i + 1) m' ys τ' H') ∧
      ∀ x H',J.yld i H x H'→g x τ H' fun τ2 H2=>tt τ2 H2 fun b H3=>if b=true then te τ2 H3 fun v H4=>N v τ2 H4 else Nf τ2 H3))
section
variable {X:Cx} {elt iter tg:Expr} {ifs:List Expr} {scope:Scope} {pos:Pos} {cl:List (Str × Addr)} {ix:List Nat} {xs:List Str} {wi:TI} {g:TG} {tt:TT} {te:TE}
theorem comp_block (S:CompScope X scope cl ix) (hc:X.calm=true) (hi:PI X tg iter wi)
    (hg:∀ C fp s H,PG (X.comp scope cl C (xs ++ capN ix X.N) fp s H) tg g) (ht:∀ C fp s H,PTs (X.comp scope cl C (xs ++ capN ix X.N) fp s H) ifs tt)
    (he:∀ C fp s H,PE (X.comp scope cl C (xs ++ capN ix X.N) fp s H) elt te)
    {pins:List (Addr × Obj)} {s:Shared} {σ:St} {H:Hp} {Q:VK} (I:Inv X pins σ H s) (h:tComp wi g tt te xs.length ix σ H Q) {RR:Value→Addr→Result→Shared→Prop}
    (hR:∀ v u s' C,RelV v u→(∃ H',Q v H'∧(∃ m,s'.heap.Ns C m)∧(∀ h',Heap.SameBut C s'.heap h'→Inv X pins σ H' { s' with heap:=h' })∧FpOk X pins H' C)→RR u C (.ok .next) s') :
    wpAny (model X.prog X.w) X.A (eval iter X.env) (fun x s₁=>wpAny (model X.prog X.w) X.A (pyIter x) (fun it s₂=>wpAny (model X.prog X.w) X.A (newList []) (fun acc s₃ =>
      wpAny (model X.prog X.w) X.A (newFunctionEnv scope X.env.globals cl [] X.env.qual none .none (some X.env)) (fun cenv s₄ =>
        codeAny (model X.prog X.w) X.A (.compStart (.ListComp elt [⟨tg,iter,ifs,0⟩] scope pos) 0 it acc { cenv with scope:=relabel scope X.env }) (RR acc cenv.locals) s₄) X.xe s₃) X.xe s₂) X.xe s₁) X.xe s:=by
  refine thn (hi pins s σ H _ I h) fun v s1 h1=>thn h1 fun itv s2 h2=>?_
  obtain ⟨it,fp,tn,J,H2,e,I2,T,st2,f2,hW⟩:=h2
  subst e
  refine wpAny_newObj_type (wpAny_newFunctionEnv S.nocell (fun y hy=>nomatch hy) (fun h₁ hns₁ hsb₁=>?_) S.kind)
  dsimp only at hns₁ hsb₁ ⊢
  obtain ⟨W,⟨m0,w0⟩,turn⟩:=hW s2.heap.objs.size I2.fresh
  have I3:=I2.lnew (t':=s2.toks) (ys:=[]) (its:=[]) .nil (Nat.zero_le _)
  have hl3:∀ b∈fp,b < s2.heap.objs.size:=fun b hb=>by
    obtain ⟨o,e,_⟩:=T.obj _ _ st2 b hb
    exact Heap.lt_size e
  generalize hs3:({ s2 with heap:=s2.heap.push { cls:=.type "list",data:=.seq ([]:List Value).toArray },toks:=s2.toks }:Shared)=s3 at I3
  have hs3h:s3.heap=s2.heap.push { cls:=.type "list",data:=.seq ([]:List Value).toArray }:=by rw [← hs3]
  have hsz:s3.heap.objs.size=s2.heap.objs.size + 1:=by rw [hs3h,Heap.size_push]
  have f3:∀ b∈fp,FpOk X pins (upd H2 s2.heap.objs.size (.lst [])) b:=fun b hb=>by
    obtain ⟨q0,q⟩:=f2 b hb
    exact ⟨by rw [upd_ne (Nat.ne_of_lt (hl3 b hb))];exact q0,q⟩
  have hl3':∀ b∈fp,b < s3.heap.objs.size:=fun b hb=>by rw [hsz];exact Nat.lt_succ_of_lt (hl3 b hb)
  rw [← hs3h] at hns₁ hsb₁ ⊢
  have hk:∀ b o,s3.heap.get? b=some o→h₁.get? b=some o:=fun b o e=>(hsb₁.2 b (Nat.ne_of_lt (Heap.lt_size e))).trans (Heap.get?_push_of_some _ e)
  have hk2:∀ b o,s2.heap.get? b=some o→s3.heap.get? b=some o:=fun b o e=>by rw [hs3h];exact Heap.get?_push_of_some _ e
  have J0:=I3.comp (xs:=xs) (t':=s2.toks) (C:=s3.heap.objs.size) S rfl f3 hl3' hns₁ hk
  have st3:tn 0 h₁:=T.keep _ _ _ st2 fun b _ o e=>hk b o (hk2 b o e)
  have loop:∀ tk,codeAny (model X.prog X.w) X.A (.compLoop (.ListComp elt [⟨tg,iter,ifs,0⟩] scope pos) 0 (.ref it) (.ref s2.heap.objs.size) (compEnvC scope cl s3.heap.objs.size X.env))
      (RR (.ref s2.heap.objs.size) s3.heap.objs.size) { s3 with heap:=h₁,toks:=tk }:=by
    intro tk
    refine compLoop_any (EE:=fun _ _=>False) (fun n s'=>∃ i ys τ H',Inv (X.comp scope cl s3.heap.objs.size (xs ++ capN ix X.N) fp s3 (upd H2 s2.heap.objs.size (.lst []))) [] τ H' s'∧tn i s'.heap∧(∀ b∈fp,H' b=none)∧W i n ys τ H')
      (fun _ _ z=>z.elim) ?_ m0 ⟨0,[],_,_,J0.tok tk,st3,fun b hb=>(f3 b hb).1,w0⟩
    rintro n s' ⟨i,ys,τ,H',I',st',fr',w'⟩
    have stat:∀ {H':Hp},(∀ b∈fp,H' b=none)→∀ b∈fp,FpOk (X.comp scope cl s3.heap.objs.size (xs ++ capN ix X.N) fp s3 (upd H2 s2.heap.objs.size (.lst []))) [] H' b:=fun hn b hb =>
      ⟨hn b hb,(I'.ok.exf b hb).1,I'.ok.exfs b hb,.inl hb,(I'.ok.exf b hb).2,fun p hp=>absurd (show p∈([]:List (Addr × Obj)) from hp) (by simp)⟩
    obtain ⟨hD,⟨stop,q⟩ | ⟨go,hz,N,hN,Nf,hNf,step⟩⟩:=turn i n ys τ H' w'
    · refine thn (T.done (X.comp scope cl s3.heap.objs.size (xs ++ capN ix X.N) fp s3 (upd H2 s2.heap.objs.size (.lst []))) rfl rfl rfl hc i [] s' τ H' _ I' (stat fr') st' stop) fun r s4 ⟨hr,I4⟩=>?_
      subst hr
      refine hR (.ref s2.heap.objs.size) _ s4 _ rfl ⟨H',q,?_,fun h' hb=>I3.uncomp rfl f3 I4 hb,I3.fpOk (Nat.le_refl _) I4.free⟩
      obtain ⟨m,hn,_⟩:=I4.loc
      exact ⟨m,hn⟩
    · refine thn (T.item (X.comp scope cl s3.heap.objs.size (xs ++ capN ix X.N) fp s3 (upd H2 s2.heap.objs.size (.lst []))) rfl rfl rfl hc i [] s' τ H' _ I' (stat fr') st' go) fun r s4 ⟨u,hr,h4⟩=>?_
      subst hr
      refine thn h4 fun _ s5 ⟨x,H5,I5,r5,y5,st5,fr5⟩=>?_
      have I5':=I5.pinned (stat fr5) (T.obj _ _ st5)
      refine thn (hg _ _ _ _ _ s5 τ H5 x u _ I5' r5 (step x H5 y5)) fun _ s6 ⟨τ6,H6,I6,q6⟩=>?_
      refine thn (ht _ _ _ _ _ s6 τ6 H6 _ I6 q6) fun ok s7 ⟨H7,I7,q7⟩=>?_
      have back:∀ {s8:Shared} {H8:Hp} {m:Nat} {zs:List V},Inv (X.comp scope cl s3.heap.objs.size (xs ++ capN ix X.N) fp s3 (upd H2 s2.heap.objs.size (.lst []))) ([] ++ pinsAt fp s5.heap) τ6 H8 s8→W (i + 1) m zs τ6 H8 →
          ∃ i ys τ H',Inv (X.comp scope cl s3.heap.objs.size (xs ++ capN ix X.N) fp s3 (upd H2 s2.heap.objs.size (.lst []))) [] τ H' s8∧tn i s8.heap∧(∀ b∈fp,H' b=none)∧W i m ys τ H':=fun {s8 H8 m zs} I8 w8=>by
        refine ⟨i + 1,zs,τ6,H8,I8.unpinned,T.keep _ _ _ st5 fun b hb o e=>(I8.pin (b,o) (List.mem_append_right _ (List.mem_append_right _ (mem_pinsAt hb e)))).1,fun b hb=>?_,w8⟩
        obtain ⟨o,e,d⟩:=T.obj _ _ st5 b hb
        exact (I8.pin (b,o) (List.mem_append_right _ (List.mem_append_right _ (mem_pinsAt hb e)))).2.1
      cases ok with
      | false =>
        rw [if_neg Bool.false_ne_true] at q7 ⊢
        obtain ⟨m',hm,w7⟩:=hNf _ _ q7
        exact ⟨m',hm,back I7 w7⟩
      | true =>
        rw [if_pos rfl] at q7 ⊢
        refine thn (he _ _ _ _ _ s7 τ6 H7 _ I7 q7) fun y s8 ⟨v8,H8,I8,r8,n8⟩=>?_
        obtain ⟨hD8,m',hm,w8⟩:=hN _ _ _ n8
        refine thn (mt_append _ s8 τ6 H8 (.ref s2.heap.objs.size) [v8] (.ref s2.heap.objs.size) [y] (fun _ Hn=>∃ m,m < n∧W (i + 1) m (ys ++ [v8]) τ6 Hn) I8 rfl (.cons r8 .nil) ⟨_,ys,v8,rfl,rfl,hD8,hz,m',hm,w8⟩) fun _ s9 ⟨_,H9,I9,_,m9,hm9,w9⟩=>?_
        exact ⟨m9,hm9,back I9 w9⟩
  have e3:∀ tk,({ s3 with heap:=h₁,toks:=tk }:Shared)={ s2 with heap:=h₁,toks:=tk }:=fun tk=>by rw [← hs3]
  have loop':∀ tk,codeAny (model X.prog X.w) X.A (.compLoop (.ListComp elt [⟨tg,iter,ifs,0⟩] scope pos) 0 (.ref it) (.ref s2.heap.objs.size) (compEnvC scope cl s3.heap.objs.size X.env))
      (RR (.ref s2.heap.objs.size) s3.heap.objs.size) { s2 with heap:=h₁,toks:=tk }:=fun tk=>by rw [← e3];exact loop tk
  exact codeAny_compStart_list (loop' _) (T.self _ 0 _ _ _ st3 (loop' _))
theorem pe_comp {osc:Scope} {N:List Str} (hc:X.calm=true) (hD:compD osc N scope ix=true) (hi:PI X tg iter wi)
    (hg:∀ C fp s H,PG (X.comp scope (closOf scope X.env) C (xs ++ capN ix X.N) fp s H) tg g) (ht:∀ C fp s H,PTs (X.comp scope (closOf scope X.env) C (xs ++ capN ix X.N) fp s H) ifs tt)
    (he:∀ C fp s H,PE (X.comp scope (closOf scope X.env) C (xs ++ capN ix X.N) fp s H) elt te) (hsc:X.env.scope=osc:=by rfl) (hN:X.N=N:=by rfl) (hs:∀ x,foldedSetIterable iter X.env x=pure x:=by intro _;rfl) :
    PE X (.ListComp elt [⟨tg,iter,ifs,0⟩] scope pos) (tComp wi g tt te xs.length ix):=by
  intro pins s σ H Q I h
  have S:=compScope_of I.ok hD hsc hN
  rw [eval_ListComp]
  refine wpAny_comprehension_free (use:=none) rfl hs S.clos S.kind S.names (comp_block S hc hi hg ht he I h (RR:=fun acc C=>compPost (model X.prog X.w) X.A X.xe none (EP X pins σ Q) acc C) ?_)
  rintro v u s' C r ⟨H',q,⟨m,hn⟩,hI,_⟩
  exact ⟨m,hn,fun h' hb=>⟨v,H',hI h' hb,r,q⟩⟩
theorem ps_setComp {osc:Scope} {N:List Str} {y:Str} {py:Pos} {j:Nat} {spos:Pos} (hNd:X.N.Nodup) (hj:X.N[j]?=some y) (hc:X.calm=true) (hy:Loc X.env.scope y) (hD:compD osc N scope ix=true) (hi:PI X tg iter wi)
    (hg:∀ C fp s H,PG (X.comp scope (closOf scope X.env) C (xs ++ capN ix X.N) fp s H) tg g) (ht:∀ C fp s H,PTs (X.comp scope (closOf scope X.env) C (xs ++ capN ix X.N) fp s H) ifs tt)
    (he:∀ C fp s H,PE (X.comp scope (closOf scope X.env) C (xs ++ capN ix X.N) fp s H) elt te) (hsc:X.env.scope=osc:=by rfl) (hN:X.N=N:=by rfl)
    (hsw:swapsWith (.ListComp elt [⟨tg,iter,ifs,0⟩] scope pos) (some (.Name y py)) spos.line X.env=pure true:=by rfl)
    (hs:∀ x,foldedSetIterable iter X.env x=pure x:=by intro _;rfl) (hf:X.fn y=true∨X.env.scope.names.lookup y=some .local:=by first | exact .inl rfl | exact .inr rfl | assumption) :
    PS X (.Assign [.Name y py] (.ListComp elt [⟨tg,iter,ifs,0⟩] scope pos) spos) (tAsg (tComp wi g tt te xs.length ix) (gName j)):=by
  intro pins s σ H D I h
  have S:=compScope_of I.ok hD hsc hN
  rw [exec_Assign_Name_used _ _ _ _ hsw]
  refine wpAny_bind (wpAny_standAt (wpAny_bind ?_))
  show wpAny _ X.A (do let _ ← comprehension (.ListComp elt [⟨tg,iter,ifs,0⟩] scope pos) scope X.env _ (newList []) false (eval iter X.env) (some (assign (.Name y py) X.env))) _ _ s
  refine wpAny_bind (thn (wpAny_comprehension_free (use:=some (assign (.Name y py) X.env)) (Q:=fun _ s'=>SP X pins D .next s') rfl hs S.clos S.kind S.names
    (comp_block S hc hi hg ht he I h (RR:=fun acc C=>compPost (model X.prog X.w) X.A X.xe (some (assign (.Name y py) X.env)) (fun _ s'=>SP X pins D .next s') acc C) ?_)) fun _ s' hq=>wpAny_pure (wpAny_pure hq))
  rintro v u s' C r ⟨H',q,⟨m,hn⟩,hI,f0,f1,f2,f3,f4,f5⟩
  have I':Inv X pins σ H' s':=hI s'.heap (.refl ..)
  show wpAny _ X.A (assign (.Name y py) X.env u) _ _ _
  refine wpAny_assign_Name (store_ok2 I' hNd hj hy r (fun s2 I2 hx=>?_) hf)
  obtain ⟨a,hb,ha⟩:=hx
  have hCa:C≠a:=by
    rcases ha with rfl | ha
    · exact f1
    · exact Ne.symm (f4 _ _ ha)
  refine ⟨m,hn.sameBut hb hCa,fun h' hb'=>⟨_,H',?_,q⟩⟩
  exact I2.turned (t':=s2.toks) (fun b o hne e=>(hb'.2 b hne).trans e) f0 f1 f3 f4 f5
end
end L2
namespace L2
open PySem PySem.Spec PyProof.Rows
abbrev rAddS:R2:=fun x y H Q=>∃ i j,x=.str i∧y=.str j∧i.length + j.length≤sizeLine∧Q (.str (i ++ j)) H
abbrev rInS:R2:=fun x y H Q=>∃ i j,x=.str i∧y=.str j∧Q (.bl (!(Builtin.Str.occurrences j i 0 j.length 1).isEmpty)) H
abbrev rNotInS:R2:=fun x y H Q=>∃ i j,x=.str i∧y=.str j∧Q (.bl (!(!(Builtin.Str.occurrences j i 0 j.length 1).isEmpty))) H
abbrev rIsB:R2:=fun x y H Q=>∃ a b,x=.bl a∧y=.bl b∧Q (.bl (a == b)) H
abbrev rIsNotB:R2:=fun x y H Q=>∃ a b,x=.bl a∧y=.bl b∧Q (.bl (a != b)) H
abbrev rIsN:R2:=fun x y H Q=>y=.non∧Q (.bl (decide (x=.non))) H
abbrev rNotN:R2:=fun x y H Q=>y=.non∧Q (.bl (!decide (x=.non))) H
abbrev RC:=List V→Hp→VK→Prop
abbrev cLen (K:PySem.W.Frag):RC:=fun xs H Q=>∃ x n,xs=[x]∧LenV K x H n∧Q (.int n) H
abbrev cIsi (K:PySem.W.Frag):RC:=fun xs H Q=>∃ x c t b,xs=[x,c]∧TyOf K H x t∧(∃ T,c=.ty T∧PySem.W.kitOne K t (.type T)=some b)∧Q (.bl b) H
abbrev cAll (K:PySem.W.Frag):RC:=fun xs H Q=>∃ (a:Addr) (bs:List Bool),xs=[.ref a]∧SqL K H a (bs.map V.bl)∧Q (.bl (bs.all id)) H
abbrev cAbs:RC:=fun xs H Q=>∃ i,xs=[.int i]∧Q (.int (if i < 0 then -i else i)) H
abbrev cStr:RC:=fun xs H Q=>∃ i,xs=[.int i]∧i.natAbs.log2 < 1920∧Q (.str (toString i)) H
abbrev RM:=V→List V→Hp→VK→Prop
abbrev r_mt_startswith:RM:=fun x xs H Q=>∃ a b,x=.str a∧xs=[.str b]∧Q (.bl (0 + b.length≤a.length && Builtin.Str.subAt a b 0)) H
def spP (pre:List V→Hp→Prop) (post:List V→Hp→V→Hp→Prop):Sp:=fun vs H Q _=>pre vs H∧∀ r H',post vs H r H'→Same H H'→Q r H'
abbrev cInt:RC:=fun xs H Q=>∃ (x:Str) (n:Int),xs=[.str x]∧PySem.intText? x=some n∧x.length≤640∧Q (.int n) H
abbrev r_mt_upper:RM:=fun x xs H Q=>∃ a:Str,x=.str a∧xs=[]∧(∀ c∈a.cps.toList,c < 128)∧a.length≤sizeLine∧∀ y:Str,y.length=a.length→Q (.str y) H
theorem isV (p:Addr) {H:Hp} {o:HO} (h:H p=none):Same H (upd H p o):=fun b u e=>by rw [upd_ne (ne_of_none e h)];exact e
theorem small_size {n:Nat} (h:n≤100000):n≤sizeLine:=Nat.le_trans h (by decide)
theorem bt_len:bootBuiltins "len"=some (.builtin "len"):=by decide +kernel
theorem bt_isinstance:bootBuiltins "isinstance"=some (.builtin "isinstance"):=by decide +kernel
theorem bt_all:bootBuiltins "all"=some (.builtin "all"):=by decide +kernel
theorem bt_any:bootBuiltins "any"=some (.builtin "any"):=by decide +kernel
theorem bt_max:bootBuiltins "max"=some (.builtin "max"):=by decide +kernel
theorem bt_ord:bootBuiltins "ord"=some (.builtin "ord"):=by decide +kernel
theorem bt_sorted:bootBuiltins "sorted"=some (.builtin "sorted"):=by decide +kernel
theorem bt_sum:bootBuiltins "sum"=some (.builtin "sum"):=by decide +kernel
theorem bt_enumerate:bootBuiltins "enumerate"=some (.type "enumerate"):=by decide +kernel
theorem bt_str:bootBuiltins "str"=some (.type "str"):=by decide +kernel
theorem bt_int:bootBuiltins "int"=some (.type "int"):=by decide +kernel
theorem bt_bool:bootBuiltins "bool"=some (.type "bool"):=by decide +kernel
theorem bt_tuple:bootBuiltins "tuple"=some (.type "tuple"):=by decide +kernel
theorem bt_set:bootBuiltins "set"=some (.type "set"):=by decide +kernel
theorem bt_ValueError:bootBuiltins "ValueError"=some (.type "ValueError"):=by decide +kernel
section
variable {X:Cx}
def big:Int:=10 ^ 200
def CDivB (_ j:Int):Prop:=0 < j∧j < big
def CMulB (i j:Int):Prop:=(-big < i∧i < big)∧(-big < j∧j < big)
theorem log2_big {j:Int} (h:j.natAbs < 10 ^ 200):j.natAbs.log2 < 700:=by
  by_cases h0:j.natAbs=0
  · rw [h0];decide
  · exact (Nat.log2_lt h0).mpr (Nat.lt_of_lt_of_le h (by decide +kernel))
theorem abs_big {j:Int} (h:-big < j∧j < big):j.natAbs < 10 ^ 200:=by
  have e:big=((10 ^ 200:Nat):Int):=by decide +kernel
  rw [e] at h
  omega
theorem CMulB.ok {i j:Int} (h:CMulB i j):IntMulOk i j:=by
  have b:∀ k:Int,(-big < k∧k < big)→Builtin.Int.intBits k≤2 ^ 20:=fun k hk=>by
    have q:=log2_big (abs_big hk)
    unfold Builtin.Int.intBits
    split <;> omega
  exact .of_bits (b i h.1) (b j h.2)
theorem op_mulB:OpR X (binaryOp .Mult) (rI CMulB fun i j=>.int (i * j)):=opI fun _ _ _ _ _ _ _ hc q=>mul_int q hc.ok
theorem op_fdivB:OpR X (binaryOp .FloorDiv) (rI CDivB fun i j=>.int (i / j)):=opI fun i j _ _ _ _ _ hc q=>by
  have h1:(0:Int) < j:=hc.1
  refine floordiv_int (by omega) ?_ (.inl (PyProof.noPylong_of_log2 (Nat.lt_trans (log2_big (abs_big ⟨by have:=hc.2;omega,hc.2⟩)) (by decide))))
  rw [Int.fdiv_eq_ediv_of_nonneg i (by omega)]
  exact q
theorem call_isi:CallR X (.builtin "isinstance") (cIsi X.K):=by
  intro pins s σ H xs us Q I r h
  obtain ⟨x,c,t,b,rfl,ty,⟨T,rfl,e⟩,q⟩:=h
  obtain ⟨u,w',rfl,r1,r2⟩:=vals2 r
  cases r2
  exact isinst_ok I r1 ty e fun tk=>⟨.bl b,H,I.tok tk,rfl,q⟩
def Its (x:Str):It:=⟨fun i _=>i < x.cps.size,fun i H v H'=>H'=H∧∃ c,x.cps[i]?=some c∧v=.str ⟨#[c]⟩,fun i _=>x.cps.size≤i⟩
theorem turn_str {P:Program} {w:World} {K:PySem.W.Frag} {tg:Expr} {it:Addr} {x:Str} {t:Tok} {ty:String} (hty:["enumerate","zip","dict_itemiterator","dict_reverseitemiterator","odict_iterator","itertools.zip_longest","itertools.pairwise"].contains ty=false)
    (W:∀ A:Around,A.handled=none→Walks P w A it [it] [it] x.cps.size (SignAt x) (fun i h=>h.IsStrIter it ty x t i))
    (self:∀ (A:Around) (i:Nat) (s:Shared) (Q:Value→Shared→Prop) (E:Value→Shared→Prop),s.heap.IsStrIter it ty x t i→Q (.ref it) s→wpAny (model P w) A (pyIter (.ref it)) Q E s) :
    Turn P w K tg (Its x) [it] it (fun i h=>i≤x.cps.size∧h.IsStrIter it ty x t i) where
  mem:=by simp
  obj:=fun i h st b hb=>by
    have e:b=it:=by simpa using hb
    subst e
    obtain ⟨_,o,e,c,d⟩:=st
    exact ⟨o,e,fun v z=>by rw [d] at z;cases z⟩
  keep:=fun i h h' st k=>by
    obtain ⟨hi,o,e,r⟩:=st
    exact ⟨hi,o,k it (by simp) o e,r⟩
  item:=by
    intro X hP hw hK hc i pins s σ H E I hf st hg
    subst hP hw hK
    obtain ⟨f0,f1,f2,f3,f4,f5⟩:=hf it (by simp)
    refine (W X.A (I.ok.hd hc)).item i s _ _ hg st.2 fun v h' tk hv st' kk=>?_
    obtain ⟨c,u,hc',rfl⟩:=hv
    have I1:Inv X pins σ H { s with heap:=h',toks:=tk }:=I.turned (fun b o hb e=>kk b o (by simpa using hb) e) f0 f1 f3 f4 f5
    obtain ⟨o,e,c1,d1⟩:=id st'
    exact ⟨_,rfl,go_of (s:={ s with heap:=h',toks:=tk }) e c1 d1 hty ⟨.str ⟨#[c]⟩,H,I1,⟨u,rfl⟩,⟨rfl,c,hc',rfl⟩,⟨hg,st'⟩,fun b hb=>(hf b hb).1⟩⟩
  done:=by
    intro X hP hw hK hc i pins s σ H E I hf st hg
    subst hP hw hK
    obtain ⟨f0,f1,f2,f3,f4,f5⟩:=hf it (by simp)
    have e:i=x.cps.size:=Nat.le_antisymm st.1 hg
    subst e
    exact (W X.A (I.ok.hd hc)).done s _ _ st.2 fun h' tk kk=>⟨rfl,I.turned (fun b o hb e=>kk b o (by simpa using hb) e) f0 f1 f3 f4 f5⟩
  self:=fun A i s Q E st h=>self A i s Q E st.2 h
def iStr (tl:TE):TI:=fun σ H R=>tl σ H fun x H1=>∃ z,x=.str z∧R (Its z) H1
theorem pi_str {l tg:Expr} {tl:TE} (hl:PE X l tl):PI X tg l (iStr tl):=by
  intro pins s σ H R I h
  refine thn (hl pins s σ H _ I h) fun v s1 ⟨x,H1,I1,r1,q1⟩=>?_
  obtain ⟨z,rfl,q⟩:=q1
  obtain ⟨t,rfl⟩:=r1
  have new:∀ b∈[s1.heap.objs.size],FpOk X pins H1 b:=fun b hb=>by
    have e:b=s1.heap.objs.size:=by simpa using hb
    subst e
    exact I1.fpOk (Nat.le_refl _) (I1.hok.fresh (Nat.le_refl _))
  cases ha:z.cps.all (· < 128)
  · refine wpAny_pyIter_wide ha ?_
    exact ⟨s1.heap.objs.size,[s1.heap.objs.size],_,_,H1,rfl,I1.kept (t':=s1.toks) fun b o e=>Heap.get?_push_of_some _ e,
      turn_str (t:=t) (by decide) (fun A hA=>Walks.strWide hA _ z t) fun A i s Q E st h=>wpAny_pyIter_striter_wide st h,⟨Nat.zero_le _,_,Heap.get?_push_size _ rfl,rfl,rfl⟩,new,q⟩
  · refine wpAny_pyIter_ascii ha ?_
    exact ⟨s1.heap.objs.size,[s1.heap.objs.size],_,_,H1,rfl,I1.kept (t':=s1.toks) fun b o e=>Heap.get?_push_of_some _ e,
      turn_str (t:=t) (by decide) (fun A hA=>Walks.strAscii hA _ z t) fun A i s Q E st h=>wpAny_pyIter_striter_ascii st h,⟨Nat.zero_le _,_,Heap.get?_push_size _ rfl,rfl,rfl⟩,new,q⟩
theorem call_allL (hc:X.calm=true):CallR X (.builtin "all") (cAll X.K):=by
  intro pins s σ H xs us Q I r h
  obtain ⟨a,bs,rfl,hq,q⟩:=h
  obtain ⟨u,rfl,r1⟩:=vals1 r
  cases r1
  obtain ⟨its,rv,p,hz⟩:=I.list hq
  have hl:=rv.length
  rw [List.length_map] at hl
  have hne:a≠s.heap.objs.size:=by
    obtain ⟨o,n,e,_⟩:=p
    exact Nat.ne_of_lt (Heap.lt_size e)
  refine call_all_walk (wpAny_pyIter_list p.isList ?_)
  refine ⟨s.heap.objs.size,_,_,its.toArray.size,fun i v=>its.toArray[i]?=some v,_,fun i=>bs.getD i false,rfl,Walks.list (A:=X.A.in1) (I.ok.hd hc) _ a hne its.toArray,?_,?_,fun h' tk k=>?_⟩
  · refine ⟨⟨_,Heap.get?_push_size _ rfl,rfl,rfl⟩,?_⟩
    exact p.isList.at fun o e=>Heap.get?_push_of_some _ e
  · intro i v s' Q' E' hv hQ
    have hv':its[i]?=some v:=by simpa using hv
    have hi:i < bs.length:=by
      rw [hl]
      exact (List.getElem?_eq_some_iff.mp hv').1
    obtain ⟨u',hu,ru⟩:=rv.get (i:=i) (x:=V.bl bs[i]) (by simp [hi])
    rw [hv'] at hu
    cases hu
    cases ru
    have e:bs.getD i false=bs[i]:=by simp [hi]
    have hQ':Q' (bs.getD i false) s':=hQ
    rw [e] at hQ'
    exact wpAny_truthy_bool hQ'
  · have e:(List.range its.toArray.size).all (fun i=>bs.getD i false)=bs.all id:=by
      rw [List.size_toArray,← hl]
      have:bs.map id=(List.range bs.length).map fun i=>bs.getD i false:=by
        apply List.ext_getElem?
        intro i
        by_cases hi:i < bs.length <;> simp [hi]
      have h2:bs.all id=(bs.map id).all id:=by simp
      rw [h2,this,List.all_map]
      rfl
    rw [e]
    refine ⟨.bl (bs.all id),H,?_,rfl,q⟩
    exact I.kept fun b o e=>k b o (by
      have:=Nat.ne_of_lt (Heap.lt_size e)
      simpa using this) (Heap.get?_push_of_some _ e)
theorem mt_startswith:MtR X "str.startswith" r_mt_startswith:=by
  intro pins s σ H x xs v us Q I rx rs h
  obtain ⟨a,b,rfl,rfl,q⟩:=h
  obtain ⟨t,rfl⟩:=rx
  obtain ⟨u,rfl,t',rfl⟩:=vals1 rs
  exact call_meets F.slot_str_startswith (typeIs_str s a t) F.entry_str_startswith (F.args_str_startswith_2 _ _) (gives_str_startswith a b t t').meets (show _ from ⟨.bl _,H,I,rfl,q⟩)
def rSlS:V→Option Int→Option Int→Hp→VK→Prop:=fun x lo hi H Q=>∃ z,x=.str z∧z.length≤sizeLine∧Q (.str (Txt.slice z lo hi)) H
theorem sl_str:SlR X rSlS:=by
  intro pins s σ H x v vl vu lo hi sl Q I rx hs pl pu h
  obtain ⟨z,rfl,hz,q⟩:=h
  obtain ⟨t,rfl⟩:=rx
  obtain ⟨o,ho,hc,hd⟩:=hs
  refine ⟨"str",_,F.slot_str_getitem.lookup,typeIs_str _ _ _,?_⟩
  obtain ⟨l,e1,e2⟩:∃ l:Option (Int × Tok),vl=partValue l∧lo=l.map (·.1):=by
    cases pl with
    | none=>exact ⟨none,rfl,rfl⟩
    | int i t=>exact ⟨some (i,t),rfl,rfl⟩
  obtain ⟨u,e3,e4⟩:∃ l:Option (Int × Tok),vu=partValue l∧hi=l.map (·.1):=by
    cases pu with
    | none=>exact ⟨none,rfl,rfl⟩
    | int i t=>exact ⟨some (i,t),rfl,rfl⟩
  subst e1 e2 e3 e4
  exact wpAny_getItem_str_slice (l:=l) (u:=u) (st:=none) ⟨o,ho,hc,hd⟩ rfl
    (post_val_or_str ⟨Nat.le_trans (Txt.slice_le z _ _) hz,fun t' k=>⟨.str (Txt.slice z (l.map (·.1)) (u.map (·.1))),H,I.tok k,⟨t',rfl⟩,q⟩⟩)
theorem call_int_str:CallR X (.type "int") cInt:=by
  intro pins s σ H xs us Q I r h
  obtain ⟨x,n,rfl,hn,hl,q⟩:=h
  obtain ⟨u,rfl,t,rfl⟩:=vals1 r
  exact PySem.W.KIN.call_text hn hl ⟨.int n,H,I.tok _,⟨_,rfl⟩,q⟩
end
end L2
namespace L2
open PySem PySem.Spec PyProof.Rows
theorem ObjOk.there {P:Program} {w:World} {H:Hp} {h:Heap} {a:Addr} {o:HO} (x:ObjOk P w H h a o):∃ u,h.get? a=some u:=by
  cases o with
  | lst xs=>obtain ⟨_,_,_,_,e⟩:=x;exact ⟨_,e⟩
  | tup xs=>obtain ⟨_,_,_,o,e,_⟩:=x;exact ⟨_,e⟩
  | dK kvs=>obtain ⟨_,_,_,_,o,_,_,e,_⟩:=x;exact ⟨_,e⟩
  | dT kvs=>obtain ⟨_,_,_,_,o,_,_,e,_⟩:=x;exact ⟨_,e⟩
  | set S n=>obtain ⟨o,_,_,_,e,_⟩:=x;exact ⟨_,e⟩
  | ins C dx fs=>obtain ⟨_,_,_,e,_⟩:=x;exact ⟨_,e⟩
  | own y=>exact x
  | xd fs=>obtain ⟨_,⟨o,_,_,e,_⟩,_⟩:=x;exact ⟨_,e⟩
  | rng lo hi=>obtain ⟨_,_,_,e⟩:=x;exact ⟨_,e⟩
  | frz ob u=>obtain ⟨e,_⟩:=x;exact ⟨_,e⟩
  | tbl ps=>exact ⟨_,(show h.get? a=some _ from x)⟩
  | met f y=>exact ⟨_,(show h.get? a=some _ from x)⟩
  | ext φ=>obtain ⟨_,e,_⟩:=x;exact e
def XF (g h:Heap) (H:Hp) (e:Addr) (cls:Value):Prop :=
  ∃ oe vs a0 T oT ts,h.get? e=some oe∧(oe.cls=cls∧vs[0]?=some a0)∧oe.data=.fields vs∧vs[1]?=some (.ref T)∧T≠e∧h.get? T=some oT∧oT.data=.fields ts∧ts[3]?=some .none ∧
    g.get? e=none∧g.get? T=none∧H e=none∧H T=none
def CX1 (P:Program) (w:World):CXT:=fun outer H s E ev s'=>∃ e cls H',ev=.ref e∧s'.os=s.os∧AllBare s'.gens∧Un (frs outer) [] H H' s.heap s'.heap∧HOk P w H' s'.heap∧XF s.heap s'.heap H' e cls∧E cls none H'
theorem none_back {g h:Heap} (k:∀ b o,g.get? b=some o→∃ o',h.get? b=some o') {b:Addr} (e:h.get? b=none):g.get? b=none:=by
  cases q:g.get? b with
  | none=>rfl
  | some o =>
    obtain ⟨o',z⟩:=k b o q
    rw [e] at z;cases z
theorem XF.older {g g' h:Heap} {H:Hp} {e:Addr} {cls:Value} (x:XF g h H e cls) (k:∀ b o,g'.get? b=some o→∃ o',g.get? b=some o'):XF g' h H e cls:=by
  obtain ⟨oe,vs,a0,T,oT,ts,h1,h2,h3,h4,h5,h6,h7,h8,h9,h10,h11,h12⟩:=x
  exact ⟨oe,vs,a0,T,oT,ts,h1,h2,h3,h4,h5,h6,h7,h8,none_back k h9,none_back k h10,h11,h12⟩
section
variable {X:Cx} {pins:List (Addr × Obj)} {σ:St} {H:Hp} {s:Shared}
theorem Inv.stackFields (J:Inv X pins σ H s) {b:Addr} (hb:b∈frs X.stack):∃ o,s.heap.get? b=some o∧∀ vs,o.data≠.fields vs:=(J.stack.mem hb).2
theorem Inv.there0 (hex:X.ex=[]) (J:Inv X pins σ H s):∀ b o,X.s₀.heap.get? b=some o→∃ o',s.heap.get? b=some o':=fun b o e=>J.base.there b o e (by rw [hex];simp)
theorem Inv.behind {h2:Heap} {cs:List Addr} (hex:X.ex=[]) (J:Inv X pins σ H s) (hcs:∀ b∈cs,H b=none∧X.s₀.heap.get? b=none)
    (hB:∀ b o,s.heap.get? b=some o→b ∉ frs X.stack→b ∉ cs→h2.get? b=some o) (hF:∀ b o,s.heap.get? b=some o→b∈frs X.stack→∃ sl,h2.get? b=some { o with slots:=sl }) :
    Un X.fs [] X.H₀ H X.s₀.heap h2∧HOk X.prog X.w H h2:=by
  have B:Un X.fs [] X.H₀ H X.s₀.heap s.heap:=by have:=J.base;rw [hex] at this;exact this
  have nL:∀ b o,X.s₀.heap.get? b=some o→b≠X.env.locals:=fun b o e=>Nat.ne_of_lt (Nat.lt_of_lt_of_le (Heap.lt_size e) J.ok.above)
  have nC:∀ b o,X.s₀.heap.get? b=some o→b ∉ cs:=fun b o e z=>by rw [(hcs b z).2] at e;cases e
  have any:∀ b o,s.heap.get? b=some o→b ∉ cs→∃ sl,h2.get? b=some { o with slots:=sl }:=fun b o e n=>by
    by_cases hb:b∈frs X.stack
    · exact hF b o e hb
    · exact ⟨o.slots,hB b o e hb n⟩
  refine ⟨⟨fun b o e n h1 _=>?_,fun b o e n h1 _=>?_,B.free,fun b o e h1=>?_,B.tups,B.frzs,B.tbls⟩,fun b u e=>?_⟩
  · refine hB b o (B.keep b o e n h1 (by simp)) (fun z=>?_) (nC b o e)
    rcases List.mem_cons.mp (J.stkSub b z) with q | q
    · exact nL b o e q
    · exact h1 q
  · obtain ⟨sl,q⟩:=B.slot b o e n h1 (by simp)
    obtain ⟨sl',q'⟩:=any b _ q (nC b o e)
    exact ⟨sl',q'⟩
  · obtain ⟨o',q⟩:=B.there b o e (by simp)
    obtain ⟨sl,q'⟩:=any b o' q (nC b o e)
    exact ⟨_,q'⟩
  · refine (J.hok b u e).stay (fun c v hc q=>?_) (fun _ q=>q) fun _ _ q=>q
    have hn:H c≠none:=by
      rcases hc with rfl | hc
      · rw [e];simp
      · rw [hc];simp
    exact hB c v q (fun z=>hn (J.stkFree c z)) fun z=>hn (hcs c z).1
theorem Inv.flown {B h2:Heap} {cs:List Addr} {e:Addr} {cls a0:Value} (hex:X.ex=[]) (J:Inv X pins σ H s) (hcs:∀ b∈cs,H b=none∧X.s₀.heap.get? b=none)
    (hB:∀ b o,s.heap.get? b=some o→b ∉ frs X.stack→b ∉ cs→B.get? b=some o) (hF:∀ b o,s.heap.get? b=some o→b∈frs X.stack→∃ sl,h2.get? b=some { o with slots:=sl })
    (he:H e=none) (he0:X.s₀.heap.get? e=none) (kb:B.StaysIn h2) (tr:h2.TracedW B e cls a0) :
    Un X.fs [] X.H₀ H X.s₀.heap h2∧HOk X.prog X.w H h2∧XF X.s₀.heap h2 H e cls:=by
  have hk:=J.behind (h2:=h2) hex hcs (fun b o q n1 n2=>kb b o (hB b o q n1 n2)) hF
  refine ⟨hk.1,hk.2,?_⟩
  obtain ⟨oe,vs,T,oT,ts,h1,h2',h3,h4,h5,h6,h7,h8,h9⟩:=tr
  have noT:∀ o,s.heap.get? T=some o→T∈cs:=fun o q=>by
    by_cases hb:T∈frs X.stack
    · obtain ⟨o',q',nf⟩:=J.stackFields hb
      obtain ⟨sl,z⟩:=hF T o' q' hb
      rw [h7] at z
      have z':oT={ o' with slots:=sl }:=Option.some.inj z
      exact absurd (by rw [← h8,z']) (nf ts)
    · by_cases hc:T∈cs
      · exact hc
      · rw [hB T o q hb hc] at h5;cases h5
  refine ⟨oe,vs,a0,T,oT,ts,h1,h2',h3,h4,h6,h7,h8,h9,he0,?_,he,?_⟩
  · cases q:X.s₀.heap.get? T with
    | none=>rfl
    | some o =>
      obtain ⟨o',q'⟩:=J.there0 hex T o q
      rw [(hcs T (noT o' q')).2] at q;cases q
  · cases q:H T with
    | none=>rfl
    | some u =>
      obtain ⟨o,z⟩:=(J.hok T u q).there
      rw [(hcs T (noT o z)).1] at q;cases q
theorem leave_new {h':Heap} {e:Addr} {cls:Value} {vs:List Value} {E:XK} {EE:Value→Shared→Prop} (hst:X.stack=X.env :: X.outer∧X.env.frame=some X.env.locals) (hex:X.ex=[]) (J:Inv X pins σ H s) (hx:Heap.MadeExcOf s.heap h' e cls vs) (hE:E cls none H) :
    wpAny (model X.prog X.w) X.A (leaving X.env (.ref e)) (fun _ s2=>CX1 X.prog X.w X.outer X.H₀ X.s₀ E (.ref e) s2) EE { s with heap:=h' }:=by
  have fr:s.heap.FunFrames (PySem.W.hideAll s.heap (frs X.stack)) (X.env :: X.outer):=by
    have q:=PySem.W.funFrames_hide (as:=frs X.stack) J.stack fun env he a ha=>List.mem_filterMap.mpr ⟨env,he,ha⟩
    rw [hst.1] at q ⊢
    exact q
  refine wpAny_leaves_madeW (s:={ s with heap:=h' }) (base:=PySem.W.hideAll s.heap (frs X.stack)) (h:=s.heap) (by rw [J.ok.frames,hst.1]) hst.2 (fun b o q=>PySem.W.of_hideAll _ q) fr hx fun h2 t hfl _ _ hup=>?_
  obtain ⟨f1,f2,f3,f4⟩:=hfl
  have hF:∀ b o,s.heap.get? b=some o→b∈frs X.stack→∃ sl,h2.get? b=some { o with slots:=sl }:=fun b o q hb=>by
    obtain ⟨o',q',nf⟩:=J.stackFields hb
    rw [q] at q';cases q'
    exact hup b o (hx.keeps b o q) nf
  obtain ⟨r1,r2,r3⟩:=J.flown (cs:=[]) hex (fun b z=>nomatch z) (fun b o q n _=>PySem.W.hideAll_get _ q n) hF
    (by
      cases q:H e with
      | none=>rfl
      | some u =>
        obtain ⟨o,z⟩:=(J.hok e u q).there
        rw [hx.new] at z;cases z)
    (none_back (J.there0 hex) hx.new) f1 f4
  exact ⟨e,cls,H,rfl,J.os,J.bare,r1,r2,r3,hE⟩
theorem leave_on {e:Addr} {cls:Value} {E:XK} {EE:Value→Shared→Prop} (hst:X.stack=X.env :: X.outer∧X.env.frame=some X.env.locals) (hex:X.ex=[]) (J:Inv X pins σ H s) (xf:XF X.s₀.heap s.heap H e cls) (hE:E cls none H) :
    wpAny (model X.prog X.w) X.A (leaving X.env (.ref e)) (fun _ s2=>CX1 X.prog X.w X.outer X.H₀ X.s₀ E (.ref e) s2) EE s:=by
  obtain ⟨oe,vs,a0,T,oT,ts,h1,h2,h3,h4,h5,h6,h7,h8,h9,h10,h11,h12⟩:=id xf
  have fr:s.heap.FunFrames (PySem.W.hideAll s.heap (frs X.stack ++ [e,T])) (X.env :: X.outer):=by
    have q:=PySem.W.funFrames_hide (as:=frs X.stack ++ [e,T]) J.stack fun env he a ha=>List.mem_append_left _ (List.mem_filterMap.mpr ⟨env,he,ha⟩)
    rw [hst.1] at q ⊢
    exact q
  refine wpAny_leaves_onW (base:=PySem.W.hideAll s.heap (frs X.stack ++ [e,T])) (a0:=a0) (by rw [J.ok.frames,hst.1]) hst.2
    ⟨fun b o q=>PySem.W.of_hideAll _ q,PySem.W.hideAll_none _ (List.mem_append_right _ (by simp)),fr,oe,vs,T,oT,ts,h1,h2,h3,h4,PySem.W.hideAll_none _ (List.mem_append_right _ (by simp)),h5,h6,h7,h8⟩ fun h2' hfl hup=>?_
  obtain ⟨f1,f2,f3,f4⟩:=hfl
  have hF:∀ b o,s.heap.get? b=some o→b∈frs X.stack→∃ sl,h2'.get? b=some { o with slots:=sl }:=fun b o q hb=>by
    obtain ⟨o',q',nf⟩:=J.stackFields hb
    rw [q] at q';cases q'
    exact hup b o q nf
  obtain ⟨r1,r2,r3⟩:=J.flown (cs:=[e,T]) hex (fun b z=>by
      have z':b=e∨b=T:=by simpa using z
      rcases z' with rfl | rfl
      · exact ⟨h11,h9⟩
      · exact ⟨h12,h10⟩) (fun b o q n n2=>PySem.W.hideAll_get _ q fun z=>(List.mem_append.mp z).elim n n2) hF h11 h9 f1 f4
  exact ⟨e,cls,H,rfl,J.os,J.bare,r1,r2,r3,hE⟩
end
def Raises (X:Cx) (E:XK):Prop:=∀ (pins:List (Addr × Obj)) (σ:St) (H:Hp) (s:Shared) (h':Heap) (e:Addr) (cls:Value) (vs:List Value),Inv X pins σ H s→Heap.MadeExcOf s.heap h' e cls vs→E cls none H→X.xe (.ref e) { s with heap:=h' }
section
variable {P:Program} {w:World} {K:PySem.W.Frag} {mg:Str→Option Value} {base:Heap} {N:List Str} {qual:Str} {scope:Scope} {f:Addr} {cd:Value} {A:Around} {outer:List Env} {s₀:Shared} {H₀:Hp} {E:XK}
theorem pass1:Passes (CX1 P w) (cxOf (CX1 P w) P w K mg base N qual scope f cd A outer s₀ H₀ E) E:=by
  intro pins σ H s ev s' I hcx
  obtain ⟨e,cls,H',rfl,os,bare,un,hok,xf,hE⟩:=hcx
  have J:=I.call' (ch:=[]) os un hok bare (fun b z=>nomatch z)
  exact leave_on (X:=cxOf (CX1 P w) P w K mg base N qual scope f cd A outer s₀ H₀ E) ⟨rfl,rfl⟩ rfl J (xf.older (I.there0 rfl)) hE
theorem raises1:Raises (cxOf (CX1 P w) P w K mg base N qual scope f cd A outer s₀ H₀ E) E:=by
  intro pins σ H s h' e cls vs I hx hE
  exact leave_new (X:=cxOf (CX1 P w) P w K mg base N qual scope f cd A outer s₀ H₀ E) ⟨rfl,rfl⟩ rfl I hx hE
end
abbrev bmVal:List Value:=[.type "ValueError",.type "Exception",.type "BaseException",.type "object"]
abbrev newVal:String:="ValueError.__new__"
def tRaise (C:Addr) (ta:TA) (E:XK):TS:=fun _ σ H=>ta σ H fun vs H1=>vs.length≤sizeLine∧E (.ref C) none H1
theorem own_cls {K:PySem.W.Frag} {h:Heap} {C:Addr} {bmB:List Value} {newId:String} (X:K.In h) (q:PySem.W.excIn K C bmB newId=true) :
    ∃ bm N nm qn bs hdct sn sub ab col dd k0 k1 k2 k3 k5 mN,h.get? C=some (excClassObj nm qn C N bs bm hdct sn sub ab col dd k0 k1 k2 k3 k5 newId)∧h.Ns N mN∧mN "__init__"=none∧OwnTail h bmB bm:=by
  unfold PySem.W.excIn at q
  split at q
  case h_2=>cases q
  rename_i dd cd sl ho
  split at q
  case h_2=>cases q
  rename_i C' bm k0 k1 k2 k3 n k5 hm hs
  rw [Bool.and_eq_true,Bool.and_eq_true,Bool.and_eq_true,Bool.and_eq_true,Bool.and_eq_true] at q
  obtain ⟨⟨⟨⟨⟨q1,q2⟩,q3⟩,q4⟩,q5⟩,q6⟩:=q
  obtain rfl:C'=C:=by simpa using q1
  obtain rfl:n=newId:=by simpa using q2
  obtain ⟨nm,bs,mro,ns,qn,hd,sn,sub,ab,col,del⟩:=cd
  have hdel:del=false:=by simpa using q3
  have hm':mro=.ref C' :: bm:=hm
  subst hdel hm'
  have hsl:sl=#[k0,k1,k2,k3,some (.builtin n),k5]:=by
    apply Array.ext'
    exact hs
  subst hsl
  exact ⟨bm,ns,nm,qn,bs,hd,sn,sub,ab,col,dd,k0,k1,k2,k3,k5,_,X _ _ ho,.of_isNs (PySem.W.isNs_of_in X q5),PySem.W.nsMap_none_of_in X q5 (by simpa using q6),PySem.W.tail_of_in X q4⟩
section
variable {X:Cx} {x:Str} {C:Addr} {np cpos pos:Pos} {e₀:Expr} {rest:List Expr} {ta:TA} {E:XK}
theorem ps_raise (hc:X.calm=true) (q:PySem.W.excIn X.K C bmVal newVal=true) (hr:Raises X E) (hg:Gl X x) (hm:X.mg x=some (.ref C)) (ha:PA X (e₀ :: rest) ta)
    (he:starEach (e₀ :: rest) X.env=(false,eval e₀ X.env) :: starEach rest X.env:=by rfl) (hp:(backTo cpos (starEach rest X.env)).any (·.1)=false:=by rfl) (hd:(x == ("__debug__":Str))=false:=by decide) :
    PS X (.Raise (some (.Call (.Name x np) (e₀ :: rest) [] cpos)) none pos) (tRaise C ta E):=by
  intro pins s σ H D I h
  obtain ⟨tl,N,nm,qn,bs,hdct,sn,sub,ab,col,dd,k0,k1,k2,k3,k5,mN,hC,hN,hni,T⟩:=own_cls I.ok.mod.kin q
  refine wpAny_Raise_call_subT (C:=C) (nm:=nm) (q:=qn) (N:=N) (bs:=bs) (bm:=tl) (hdct:=hdct) (sn:=sn) (sub:=sub) (ab:=ab) (col:=col) (dd:=dd) (k0:=k0) (k1:=k1) (k2:=k2) (k3:=k3) (k5:=k5) (newId:=newVal)
    PySem.F.excBase_ValueError (mN:=mN) (T.hasType PySem.F.excBase_ValueError.hasBase) (I.ok.hd hc) (by rw [he];exact hp) hni (ld_glob I hg hm ⟨rfl,?_⟩ hd)
  have hA:=ha cpos pins s σ H _ I h
  rw [he] at hA ⊢
  refine Calls.evalArgs_plain (thn hA fun us s2 ⟨vs,H2,I2,r2,z2,q2⟩=>?_)
  exact ⟨rfl,by rw [← r2.length];exact z2,I2.bk _ _ hC,hN.keeps I2.bk,T.keeps I2.bk,fun h' e hm=>hr pins σ H2 s2 h' e _ _ I2 hm q2⟩
end
def Asc (x:Str):Prop:=∀ c∈x.cps.toList,c < 128
section
variable {X:Cx} {e:Expr} {te:TE} {a:Str} {j:Nat} {p1 p2 p3:Pos}
def tMsgR (te:TE):TE:=fun σ H Q=>te σ H fun v H1=>∃ x:Str,v=.str x∧x.length≤100000∧Asc x∧∀ y:Str,Q (.str y) H1
theorem pe_msgR (he:PE X e te) (hl:a.length≤1000:=by decide +kernel):PE X (.JoinedStr [.Constant (.str a) j p1,.FormattedValue e 114 none p2] p3) (tMsgR te):=by
  intro pins s σ H Q I h
  refine wpAny_JoinedStr ?_
  show wpAny _ _ (eval (.Constant (.str a) j p1) X.env) _ _ s
  have e0:(Str.empty ++ a).length=a.length:=by rw [Str.length_append];simp [Str.empty,Str.length]
  refine Calls.Constant_str ⟨a,_,rfl,by rw [e0];exact small_size (by omega),?_⟩
  show wpAny _ _ (eval (.FormattedValue e 114 none p2) X.env) _ _ _
  refine wpAny_FormattedValue_repr (thn (he pins _ σ H _ (I.tok _) h) fun v s1 ⟨x,H1,I1,r1,z,ex,hz,hA,q⟩=>?_)
  subst ex
  obtain ⟨t,rfl⟩:=r1
  have hr:(reprText z).length≤10 * z.length + 2:=StrLaws.reprText_len z fun c hc=>Nat.lt_trans (hA c hc) (by decide)
  have hs:sizeLine=16777216:=sizeLine_eq
  refine wpAny_pyReprObj_gives (typeIs_str _ z t) PySem.F.slot_str_repr PySem.F.entry_str_repr (PySem.F.args_str_repr_1 _) (gives_str_repr z t) ?_ rfl (by omega)
  have fin:∀ (t':Tok) (tk:Nat),∃ y u,Value.str (reprText z) t'=Value.str y u∧(Str.empty ++ a ++ y).length≤sizeLine∧Joins (model X.prog X.w) X.A X.xe (evalEach [] X.env) (Str.empty ++ a ++ y) (fun out s₁=>out.length≤sizeLine∧EP X pins σ Q (.str out s₁.toks) { s₁ with toks:=s₁.toks + 1 }) { s1 with toks:=tk }:=fun t' tk=>by
    have hz2:(Str.empty ++ a ++ reprText z).length≤sizeLine:=by rw [Str.length_append,e0];omega
    exact ⟨_,_,rfl,hz2,hz2,.str _,H1,I1.tok _,⟨_,rfl⟩,q _⟩
  exact wpAny_formatField_str (fin _ _) (fin _ _) (by omega)
def tMsgS (te:TE):TE:=fun σ H Q=>te σ H fun v H1=>∃ x:Str,v=.str x∧x.length≤100000∧∀ y:Str,Q (.str y) H1
end
end L2
namespace L2
open PySem PySem.Spec PyProof.Rows
structure ExC (K:PySem.W.Frag) (C:Addr):Prop where
  ga:PySem.W.findIn K (.ref C) "__getattribute__"=some (some (.builtin "BaseException.__getattribute__"))
  gx:PySem.W.findIn K (.ref C) "__getattr__"=some none
  cl:PySem.W.findIn K (.ref C) "__class__"=some (some (.builtin "object.__class__"))
  ob:PySem.W.mroIn K C (.type "object")=some true
  be:PySem.W.mroIn K C (.type "BaseException")=some true
  ge:PySem.W.specialIn K (.builtin "object.__class__") "__get__"=some (some (.builtin "getset_descriptor.__get__"))
  tk:PySem.W.takesIn K (.builtin "object.__class__")=some true
section
variable {prog:Program} {w:World} {A:Around} {E:Value→Shared→Prop} {K:PySem.W.Frag} {e C:Addr} {s:Shared}
theorem exc_find {M:Model} {h:Heap} (X:K.In h) (c:ExC K C):PySem.W.Looks M h (PySem.Builtin.ObjectAttr.find (.ref e) (.ref C) "__class__") (.bind (.builtin "getset_descriptor.__get__") (.builtin "object.__class__")):=by
  have l1:=PySem.W.looks_findIn (M:=M) X c.cl
  have l2:PySem.W.Looks M h (PySem.Builtin.ObjectAttr.getOf (some (.builtin "object.__class__"))) (some (.builtin "getset_descriptor.__get__")):=PySem.W.looks_specialIn X c.ge
  have l3:=PySem.W.looks_takesIn (M:=M) X c.tk
  refine l1.andThen (l2.andThen ?_)
  exact (show PySem.W.Looks M h (PySem.Builtin.ObjectAttr.dataDescriptor? (some (.builtin "object.__class__")) (some (.builtin "getset_descriptor.__get__"))) (some ((.builtin "getset_descriptor.__get__"),(.builtin "object.__class__"))) from l3.andThen .now).andThen (PySem.W.Looks.tag .now)
open PySem.Builtin PySem.Builtin.Getset_descriptor in
theorem exc_get {R:Result→Shared→Prop} {tp:Value} (X:K.In s.heap) (c:ExC K C) (t0:PySem.W.Looks (model prog w) s.heap (typeOf (.ref e)) (.ref C)) (hr:R (.ok (.ret (.ref C))) s) :
    codeAny (model prog w) A (.call (.builtin "getset_descriptor.__get__") ⟨[.builtin "object.__class__",.ref e,tp],[]⟩) R s:=by
  obtain ⟨hh,gs,dr,tt,os⟩:=s
  have t5:=PySem.W.looks_mroIn (M:=model prog w) X c.ob
  refine codeAny_call_builtin PySem.W.KF.slot_gs.plain PySem.W.KF.entry_gs (PySem.W.KF.slot_gs.check _ _ _ _ _ _ _ _ PySem.W.KF.type_class (PySem.W.KF.args_gs _ _ _) ?_)
  unfold Builtin.«getset_descriptor.__get__» descrGet
  rw [PySem.W.dga_obj]
  refine wpAny_bind (wpAny_pure ?_)
  unfold descrGetter descrCheckInstance descrNameAndClass isInstance
  simp only [PySem.W.KF.owner_class]
  repeat lk
  refine ⟨Code.quiet_builtin _ (by decide +kernel),codeAny_builtin PySem.W.KF.entry_class ?_⟩
  unfold Builtin.«object.__class__» shownTypeOf
  repeat lk
  exact hr
theorem exc_class {Q:Option Value→Shared→Prop} (X:K.In s.heap) (c:ExC K C) (LT:∀ M:Model,PySem.W.Looks M s.heap (typeOf (.ref e)) (.ref C)) (hq:Q (some (.ref C)) { s with toks:=s.toks + 1 }) :
    wpAny (model prog w) A (getAttr? (.ref e) "__class__") Q E s:=by
  obtain ⟨hh,gs,dr,tt,os⟩:=s
  have t0:=LT (model prog w)
  have t1:=PySem.W.looks_findIn (M:=model prog w) X c.ga
  have t2:=PySem.W.looks_findIn (M:=model prog w) X c.gx
  have t3:=PySem.W.looks_mroIn (M:=model prog w) X c.be
  have t4:=exc_find (M:=model prog w) (e:=e) X c
  have t5:=PySem.W.looks_mroIn (M:=model prog w) X c.ob
  have t6:bindSpecial (.builtin "BaseException.__getattribute__") (.ref e)=pure (.builtin "BaseException.__getattribute__",[.ref e]):=F.excAttr_ValueError.ga.bind (.ref e)
  have b2:(Value.builtin "BaseException.__getattribute__" == Value.builtin "object.__getattribute__")=false:=by decide +kernel
  unfold getAttr? getAttrBy? getAttrBy
  refine wpAny_bind (wpAny_mkText (wpAny_bind (wpAny_attempt (wpAny_holding (wpAny_bind (t0.at (wpAny_bind (t1.at ?_))))))))
  simp only [b2,Bool.and_false,Bool.false_eq_true,if_false]
  unfold getAttrByItsOwn hookBefore
  refine wpAny_bind (t2.at ?_)
  unfold callGetattribute boundAndCalled
  simp only [Bool.false_and,Bool.false_eq_true,if_false,Option.toList,t6]
  refine wpAny_bind (wpAny_attempt (wpAny_holding (wpAny_bind (wpAny_pure (wpAny_call ?_)))))
  refine codeAny_call_builtin F.excAttr_ValueError.ga.plain F.entry_bexc_ga ?_
  have k1:builtinKind "BaseException.__getattribute__"=some .slot:=by decide +kernel
  have k2:splitId "BaseException.__getattribute__"=some ("BaseException","__getattribute__"):=by decide +kernel
  have k3:=F.args_bexc_ga (.ref e) (.str "__class__" tt)
  simp only [checkBuiltinCall,k1,k2]
  refine wpAny_bind (?_:wpAny _ _ (isInstance (.ref e) (.type "BaseException")) _ _ _)
  have k4:PySem.W.Looks (model prog w) hh (isInstance (.ref e) (.type "BaseException")) true:=t0.andThen t3
  refine k4.at ?_
  simp only [Bool.not_true,Bool.false_eq_true,if_false,List.cons_append,List.nil_append]
  refine wpAny_of_eq (show _=pure () from k3) ?_
  refine wpAny_bind (wpAny_pure (wpAny_bind (wpAny_pure (wpAny_bind (t0.at (wpAny_bind (t4.at ?_)))))))
  show wpAny _ _ (holding [.builtin "object.__class__"] (call (.builtin "getset_descriptor.__get__") [.builtin "object.__class__",.ref e,.ref C]) >>= ret) _ _ _
  refine wpAny_bind (wpAny_holding (wpAny_call (exc_get X c t0 (wpAny_pure ?_))))
  exact PySem.W.handed_on rfl (wpAny_pure hq)
theorem kitx_exc {a:Addr} (c:ExC K C) (hc:(PySem.W.clsIn K C).isSome=true):PySem.W.KitX K (.ref a) (.ref C) (fun h=>∃ o,h.get? a=some o∧o.cls=.ref C) where
  ty:=fun M h _ p=>by
    obtain ⟨o,p1,p2⟩:=p
    exact p2 ▸ (PySem.W.Looks.ld p1).andThen .now
  it:=fun _ _ X _=>by
    obtain ⟨cd,z⟩:=Option.isSome_iff_exists.mp hc
    unfold PySem.W.clsIn at z
    split at z
    · rename_i y
      intro A' Q' E' s' k q
      unfold isType loadHead
      exact wpAny_bind (wpAny_loadPart (k _ _ (X _ _ y)) (wpAny_pure q))
    · cases z
  ne:=fun h tp dd its n sl X p=>by
    obtain ⟨cd,z⟩:=Option.isSome_iff_exists.mp hc
    refine Bool.eq_false_iff.mpr fun q=>?_
    obtain rfl:C=tp:=Value.ref.inj (beq_iff_eq.mp q)
    unfold PySem.W.clsIn at z
    split at z
    · rename_i y
      cases (X _ _ y).symm.trans p
    · cases z
  ca:=fun X p k=>by
    obtain ⟨o,p1,p2⟩:=p
    exact exc_class X c (fun M=>p2 ▸ (PySem.W.Looks.ld p1).andThen .now) k
end
end L2
namespace L2
open PySem PySem.Spec PyProof.Rows
section
variable {X:Cx} {pins:List (Addr × Obj)} {σ:St} {H:Hp} {s:Shared}
theorem Inv.land {h2:Heap} {cs:List Addr} (hex:X.ex=[]) (I:Inv X pins σ H s) (hcs:∀ b∈cs,H b=none∧X.s₀.heap.get? b=none) (hcp:∀ b∈cs,∀ p∈X.pn ++ pins,p.1≠b)
    (hB:∀ b o,s.heap.get? b=some o→b ∉ frs X.stack→b ∉ cs→h2.get? b=some o) (sm:s.heap.UpToSlots h2):Inv X pins σ H { s with heap:=h2 }:=by
  have hF:∀ b o,s.heap.get? b=some o→b∈frs X.stack→∃ sl,h2.get? b=some { o with slots:=sl }:=fun b o q hb=>by
    obtain ⟨o',q',nf⟩:=I.stackFields hb
    rw [q] at q';cases q'
    exact sm b o q nf
  obtain ⟨r1,r2⟩:=I.behind hex hcs hB hF
  have ce:∀ c v,s.heap.IsCell c v→h2.IsCell c v:=fun c v ⟨o,ho,hd⟩=>by
    obtain ⟨sl,q⟩:=sm c o ho fun vs z=>by rw [hd] at z;cases z
    exact ⟨_,q,hd⟩
  refine ⟨I.ok,I.os,I.bare,by rw [hex];exact r1,?_,fun x c e=>?_,I.free,I.freeC,fun p hp=>?_,r2,I.len⟩
  · obtain ⟨m,hn,hl⟩:=I.loc
    refine ⟨m,sm.ns hn,fun i x v e1 e2 e3=>?_⟩
    obtain ⟨u,r,l⟩:=hl i x v e1 e2 e3
    refine ⟨u,r,?_⟩
    rcases l with l | ⟨k,c,e,z⟩
    · exact .inl l
    · exact .inr ⟨k,c,e,ce c _ z⟩
  · obtain ⟨v,z⟩:=I.cell x c e
    exact ⟨v,ce c v z⟩
  · obtain ⟨e,n,ne,nf,d⟩:=I.pin p hp
    exact ⟨hB _ _ e (fun z=>(List.mem_cons.mp (I.stkSub _ z)).elim ne nf) fun z=>hcp _ z p hp rfl,n,ne,nf,d⟩
theorem Inv.track {e:Addr} {φ:Heap→Prop} (I:Inv X pins σ H s) (hn:H e=none) (h0:X.s₀.heap.get? e=none) (hex:X.ex=[]) (hL:e≠X.env.locals) (hc:∀ x c,X.env.cells.lookup x=some c→c≠e) (hp:∀ p∈X.pn ++ pins,p.1≠e)
    (ok:φ s.heap∧(∃ o,s.heap.get? e=some o)∧∀ h1 h2:Heap,φ h1→(∀ o,h1.get? e=some o→h2.get? e=some o)→φ h2):Inv X pins σ (upd H e (.ext φ)) s:=by
  have ne:∀ b u,H b=some u→b≠e:=fun b u q z=>by rw [z,hn] at q;cases q
  have B:=I.base
  refine ⟨I.ok,I.os,I.bare,⟨B.keep,B.slot,fun b o q n x=>?_,B.there,fun b xs q=>?_,fun b o u q=>?_,fun b ps q=>?_⟩,I.loc,I.cell,?_,fun x c q=>?_,fun p q=>?_,fun b u q=>?_,I.len⟩
  · rw [upd_ne fun z=>by rw [z,h0] at q;cases q];exact B.free b o q n x
  · have z:=B.tups b xs q
    rw [upd_ne (ne _ _ z)];exact z
  · have z:=B.frzs b o u q
    rw [upd_ne (ne _ _ z)];exact z
  · obtain ⟨m,z⟩:=B.tbls b ps q
    exact ⟨m,by rw [upd_ne (ne _ _ z)];exact z⟩
  · rw [upd_ne (Ne.symm hL)];exact I.free
  · rw [upd_ne (hc x c q)];exact I.freeC x c q
  · obtain ⟨z1,z2,z3,z4,z5⟩:=I.pin p q
    exact ⟨z1,by rw [upd_ne (hp p q)];exact z2,z3,z4,z5⟩
  · by_cases hb:b=e
    · subst hb
      rw [upd_same] at q;cases q
      exact ok
    · rw [upd_ne hb] at q
      exact (I.hok b u q).stay (fun c v _ z=>z) (fun c z=>by rw [upd_ne (ne _ _ z)];exact z) fun c xs z=>by rw [upd_ne (ne _ _ z)];exact z
theorem Inv.forget {h':Heap} {t':Nat} {i:Nat} {n:Str} {m:Str→Option Value} {v:Option Value} (I:Inv X pins σ H s) (hN:X.N.Nodup) (hi:X.N[i]?=some n)
    (hm:s.heap.Ns X.env.locals m) (hl:∀ (i:Nat) (x:Str) (v:V),X.N[i]?=some x→σ[i]?=some (some v)→Vis X.env.scope x→∃ u,RelV v u∧Look X.env s.heap m x u)
    (hn:h'.Ns X.env.locals (fun x=>if x=n then v else m x)) (hs:Heap.SameBut X.env.locals s.heap h'):Inv X pins (σ.set i none) H { s with heap:=h',toks:=t' }:=by
  have nL:∀ b o,X.s₀.heap.get? b=some o→b≠X.env.locals:=fun b o e=>Nat.ne_of_lt (Nat.lt_of_lt_of_le (Heap.lt_size e) I.ok.above)
  have hiσ:i < σ.length:=by rw [I.len];exact (List.getElem?_eq_some_iff.mp hi).1
  refine ⟨I.ok,I.os,I.bare,⟨fun b o e n hb hx=>(hs.2 b (nL b o e)).trans (I.base.keep b o e n hb hx),fun b o e n hb hx=>?_,I.base.free,fun b o e hx=>?_,I.base.tups,I.base.frzs,I.base.tbls⟩,⟨_,hn,fun j y w e1 e2 e3=>?_⟩,fun y c e=>?_,I.free,I.freeC,fun p hp=>?_,fun b u e=>?_,by simpa using I.len⟩
  · obtain ⟨sl,e1⟩:=I.base.slot b o e n hb hx
    exact ⟨sl,(hs.2 b (nL b o e)).trans e1⟩
  · obtain ⟨o',e1⟩:=I.base.there b o e hx
    exact ⟨o',(hs.2 b (nL b o e)).trans e1⟩
  · by_cases hj:j=i
    · subst hj
      rw [List.getElem?_set_self hiσ] at e2
      cases e2
    · rw [List.getElem?_set_ne (Ne.symm hj)] at e2
      obtain ⟨u,r,q⟩:=hl j y w e1 e2 e3
      refine ⟨u,r,?_⟩
      rcases q with ⟨k,e⟩ | ⟨k,c,e,z⟩
      · have:y≠n:=fun e=>hj (nodup_ix hN e1 (e ▸ hi))
        exact .inl ⟨k,by simp [this,e]⟩
      · exact .inr ⟨k,c,e,z.sameBut hs (I.cne y c e)⟩
  · obtain ⟨w',z⟩:=I.cell y c e
    exact ⟨w',z.sameBut hs (I.cne y c e)⟩
  · obtain ⟨e,n,ne,nf,d⟩:=I.pin p hp
    exact ⟨(hs.2 p.1 ne).trans e,n,ne,nf,d⟩
  · refine (I.hok b u e).stay (fun c w' hc q=>(hs.2 c ?_).trans q) (fun _ q=>q) fun _ _ q=>q
    rintro rfl
    rcases hc with rfl | hc
    · rw [I.free] at e;cases e
    · rw [I.free] at hc;cases hc
end
def exO (e C:Addr):HO:=.ext fun h=>∃ o,h.get? e=some o∧o.cls=.ref C
abbrev Cx.sub (X:Cx) (e:Addr):Cx:={ X with A:=X.A.mark (some (.ref e)),calm:=false,xe:=fun _ _=>False }
section
variable {X:Cx} {pins:List (Addr × Obj)} {σ:St} {H:Hp} {s:Shared} {e:Addr}
theorem Inv.toSub (I:Inv X pins σ H s):Inv (X.sub e) pins σ H s :=
  ⟨⟨I.ok.mod,I.ok.kind,I.ok.glob,I.ok.blt,I.ok.above,I.ok.inj,I.ok.has,I.ok.cab,(fun z=>nomatch z),I.ok.frames,I.ok.stk,I.ok.exf,I.ok.bs,I.ok.bsz,I.ok.noex,I.ok.exfs,I.ok.funs,I.ok.frf⟩,I.os,I.bare,I.base,I.loc,I.cell,I.free,I.freeC,I.pin,I.hok,I.len⟩
theorem Inv.ofSub {J:Inv X pins σ H s} {σ':St} {H':Hp} {s':Shared} (I:Inv (X.sub e) pins σ' H' s'):Inv X pins σ' H' s' :=
  ⟨J.ok,I.os,I.bare,I.base,I.loc,I.cell,I.free,I.freeC,I.pin,I.hok,I.len⟩
end
abbrev EXK:=Value→St→Hp→Prop
def PX (X:Cx) (pins:List (Addr × Obj)) (EX:EXK):Value→Shared→Prop:=fun ev s'=>∃ e cls σ s1 H1 H',ev=.ref e∧Inv X pins σ H1 s1∧Inv X pins σ H' s'∧XF s1.heap s'.heap H' e cls∧EX cls σ H'
def PEX (X:Cx) (ex:Expr) (t:EXK→TE):Prop :=
  ∀ (pins:List (Addr × Obj)) (s:Shared) (σ:St) (H:Hp) (Q:VK) (EX:EXK),Inv X pins σ H s→t EX σ H Q→wpAny (model X.prog X.w) X.A (eval ex X.env) (EP X pins σ Q) (PX X pins EX) s
def PSX (X:Cx) (st:Stmt) (t:EXK→TS):Prop :=
  ∀ (pins:List (Addr × Obj)) (s:Shared) (σ:St) (H:Hp) (D:Ends) (EX:EXK),Inv X pins σ H s→t EX D σ H→wpAny (model X.prog X.w) X.A (exec st X.env) (SP X pins D) (PX X pins EX) s
section
variable {X:Cx} {k:Nat} {f:Addr} {fd:FuncData} {ps:List Str} {sp:Sp} {x:Str} {p pos:Pos} {e:Expr} {es:List Expr} {t:TA}
def tCallX (sp:Sp) (ta:TA) (EX:EXK):TE:=fun σ H Q=>ta σ H fun vs H1=>sp (vs ++ []) H1 Q fun cls _ H2=>EX cls σ H2
theorem pex_call (F:FnOk X.prog X.w X.K X.mg X.base (CX1 X.prog X.w) k f fd ps sp) (hr:Room k X.A) (hg:Gl X x) (hm:X.mg x=some (.ref f)) (hk:PySem.W.keepIn X.K (.ref f)=true) (hb:Binds X.K fd ps []) 
    (ha:PA X.nox (e :: es) t) (hdb:(x == ("__debug__":Str))=false:=by decide) (he:starEach (e :: es) X.env=(false,eval e X.env) :: starEach es X.env:=by rfl) (hpl:(backTo pos (starEach es X.env)).any (·.1)=false:=by rfl) :
    PEX X (.Call (.Name x p) (e :: es) [] pos) (tCallX sp t):=by
  intro pins s σ H Q EX I h
  refine wpAny_Call_Name_kw (ld_glob I hg hm ?_ hdb)
  refine PySem.W.callWith_K (h₀:=X.base) I.ok.mod.kin hk (wpAny_mono (ha pos pins s σ H _ (I.wish _) h) (fun us s1 ⟨vs,H1,I1',r,q⟩=>⟨I1'.kIn,?_⟩) fun _ _ z=>False.elim z) he hpl
  have I1:=I1'.unwish
  have r2:Vals (vs ++ []) (us ++ []):=r.append .nil
  have hl:(us ++ []).length=ps.length:=by rw [← r2.length];exact F.len _ _ _ _ q
  refine wpAny_call (codeAny_mono (F.run X.A X.stack s1 H1 ⟨us,[]⟩ (us ++ []) (vs ++ []) _ _ hr I1.env0 (hb s1 us I1.kIn hl) r2 q) fun r s' hq=>?_)
  cases r with
  | error ev =>
    obtain ⟨e,cls,H',rfl,os,bare,un,hok,xf,hE⟩:=hq
    exact ⟨e,cls,σ,s1,H1,H',rfl,I1,I1.call' (ch:=[]) os un hok bare (fun b z=>nomatch z),xf,hE⟩
  | ok fl =>
    cases fl with
    | ret u=>exact I1.after hq
    | next=>exact False.elim hq
    | brk=>exact False.elim hq
    | cont=>exact False.elim hq
end
section
variable {X:Cx} {ex:Expr} {tx:EXK→TE} {pos p1:Pos} {i:Nat} {y:Str}
def tDropX (tx:EXK→TE) (EX:EXK):TS:=fun D σ H=>tx EX σ H fun _ H1=>D.nx σ H1
theorem psx_expr (he:PEX X ex tx) (hs:swapsWith ex none pos.line X.env=pure false:=by rfl):PSX X (.Expr ex pos) (tDropX tx):=by
  intro pins s σ H D EX I h
  exact wpAny_Expr_any (thn (he pins s σ H _ EX I h) fun v s1 ⟨x,H1,I1,r1,q1⟩=>⟨σ,H1,I1,q1⟩) I.quiet hs
def tRetX (tx:EXK→TE) (EX:EXK):TS:=fun D σ H=>tx EX σ H D.rt
theorem psx_ret (he:PEX X ex tx):PSX X (.Return (some ex) pos) (tRetX tx):=by
  intro pins s σ H D EX I h
  exact wpAny_Return_some (thn (he pins s σ H _ EX I h) fun v s1 ⟨x,H1,I1,r1,q1⟩=>⟨x,σ,H1,I1,r1,q1⟩)
def tAsgX (tx:EXK→TE) (i:Nat) (EX:EXK):TS:=fun D σ H=>tx EX σ H fun v H1=>D.nx (σ.set i (some v)) H1
end
structure ExK (K:PySem.W.Frag) (C:Addr):Prop extends ExC K C where
  has:(PySem.W.clsIn K C).isSome=true
def endT (i:Nat) (D:Ends):Ends:={ nx:=fun σ H=>D.nx (σ.set i none) H,rt:=D.rt,bk:=fun σ H=>D.bk (σ.set i none) H,ct:=fun σ H=>D.ct (σ.set i none) H }
def tTry (K:PySem.W.Frag) (tb:EXK→TS) (C0:Addr) (i:Nat) (th:TS):TS:=fun D σ H=>tb (fun cls σ1 H1=>∃ C,cls=.ref C∧ExK K C∧PySem.W.exmOne K (.ref C) (.ref C0)=some true ∧
  ∀ e,H1 e=none→th (endT i D) (σ1.set i (some (.ref e))) (upd H1 e (exO e C))) D σ H
section
variable {X:Cx} {st b₀:Stmt} {suite:List Stmt} {tb:EXK→TS} {th:TS} {c n:Str} {C0:Addr} {i:Nat} {np hpos pos:Pos}
theorem ps_try (hst:X.stack=X.env :: X.outer∧X.env.frame=some X.env.locals) (hex:X.ex=[]) (hN:X.N.Nodup) (hb:PSX X st tb) (hg:Gl X c) (hm:X.mg c=some (.ref C0)) (hi:X.N[i]?=some n) (hl:X.env.scope.names.lookup n=some .local)
    (hs:∀ e,PSs (X.sub e) (b₀ :: suite) th) (hdb:(c == ("__debug__":Str))=false:=by decide) :
    PS X (.Try [st] [.ExceptHandler (some (.Name c np)) (some n) (b₀ :: suite) hpos] [] [] pos) (tTry X.K tb C0 i th):=by
  intro pins s σ H D I h
  refine wpAny_Try_except (wpAny_execs_cons (wpAny_mono (hb pins s σ H D _ I h) (fun f s1 q=>?_) fun ev s1 q=>?_))
  · cases f with
    | next=>exact wpAny_execs_nil (wpAny_execs_nil q)
    | ret v=>exact q
    | brk=>exact q
    | cont=>exact q
  obtain ⟨e,cls,σ1,s0,H0,H1,rfl,I0,I1,xf,C,rfl,ek,hx,hth⟩:=q
  obtain ⟨oe,vs,a0,T,oT,ts,h1,h2,h3,h4,h5,h6,h7,h8,h9,h10,h11,h12⟩:=xf
  have fr:s1.heap.FunFrames (PySem.W.hideAll s1.heap (frs X.stack ++ [e,T])) (X.env :: X.outer):=by
    have q:=PySem.W.funFrames_hide (as:=frs X.stack ++ [e,T]) I1.stack fun env he a ha=>List.mem_append_left _ (List.mem_filterMap.mpr ⟨env,he,ha⟩)
    rw [hst.1] at q ⊢
    exact q
  have two:∀ b∈[e,T],s0.heap.get? b=none∧H1 b=none:=fun b z=>by
    have z':b=e∨b=T:=by simpa using z
    rcases z' with rfl | rfl
    · exact ⟨h9,h11⟩
    · exact ⟨h10,h12⟩
  have hcs:∀ b∈[e,T],H1 b=none∧X.s₀.heap.get? b=none:=fun b z=>⟨(two b z).2,none_back (I0.there0 hex) (two b z).1⟩
  have hcp:∀ b∈[e,T],∀ p∈X.pn ++ pins,p.1≠b:=fun b z p hp q=>by
    have:=(I0.pin p hp).1
    rw [q,(two b z).1] at this;cases this
  refine wpAny_looks_onW (base:=PySem.W.hideAll s1.heap (frs X.stack ++ [e,T])) (a0:=a0) (cls:=.ref C) (by rw [I1.ok.frames,hst.1]) hst.2
    ⟨fun b o q=>PySem.W.of_hideAll _ q,PySem.W.hideAll_none _ (List.mem_append_right _ (by simp)),fr,oe,vs,T,oT,ts,h1,h2,h3,h4,PySem.W.hideAll_none _ (List.mem_append_right _ (by simp)),h5,h6,h7,h8⟩ fun g4 held4 sm4=>?_
  refine wpAny_landsW held4 fun g5 fly5 sm5=>?_
  have hB:∀ {g:Heap},(PySem.W.hideAll s1.heap (frs X.stack ++ [e,T])).StaysIn g→∀ b o,s1.heap.get? b=some o→b ∉ frs X.stack→b ∉ [e,T]→g.get? b=some o :=
    fun {g} k b o q n1 n2=>k b o (PySem.W.hideAll_get _ q fun z=>(List.mem_append.mp z).elim n1 n2)
  have I5:Inv X pins σ1 H1 { s1 with heap:=g5 }:=I1.land hex hcs hcp (hB fly5.1) (sm4.trans sm5)
  have K5:=I5.kIn
  refine wpAny_handleBy_cons (codeAny_handlers_test ?_) (by intro q;cases q)
  refine ld_glob (X:=X.sub e) (I5.toSub (e:=e)) hg hm ?_ hdb
  have ty5:PySem.W.Looks (model X.prog X.w) g5 (typeOf (.ref e)) (.ref C):=by
    obtain ⟨o,p1,p2⟩:=fly5.there
    exact p2 ▸ (PySem.W.Looks.ld p1).andThen .now
  refine (PySem.W.exm_one K5 ty5 hx).here ?_
  refine codeAny_handlers_suite_as ?_
  refine lands_againW fly5 fun g6 fly6 sm6=>?_
  have I6:Inv X pins σ1 H1 { s1 with heap:=g6 }:=I1.land hex hcs hcp (hB fly6.1) ((sm4.trans sm5).trans sm6)
  have neL:e≠X.env.locals:=fun z=>by
    obtain ⟨m,⟨o,_,_,ho,_⟩,_⟩:=I0.loc
    rw [← z,h9] at ho;cases ho
  have neC:∀ x c,X.env.cells.lookup x=some c→c≠e:=fun x c q z=>by
    obtain ⟨v,o,ho,_⟩:=I0.cell x c q
    rw [z,h9] at ho;cases ho
  obtain ⟨o6,p6,q6⟩:=fly6.there
  have I7:Inv X pins σ1 (upd H1 e (exO e C)) { s1 with heap:=g6 }:=I6.track h11 (hcs e (by simp)).2 hex neL neC (hcp e (by simp))
    ⟨⟨o6,p6,q6⟩,⟨o6,p6⟩,fun a b ⟨o,z1,z2⟩ k=>⟨o,k o z1,z2⟩⟩
  refine store_ok (X:=X) (v:=.ref e) I7 hN hi (.inl hl) rfl (fun s8 I8=>?_) (.inr hl)
  refine wpAny_mono (hs e pins s8 _ _ _ I8.toSub (hth e h11)) (fun f s9 q=>?_) fun _ _ z=>False.elim z
  have hcls:(X.env.scope.kind == .class || (X.env.scope.kind == .module && X.env.locals != X.env.globals))=false:=by rw [I.ok.kind];rfl
  have go:∀ {σ9:St} {H9:Hp} {R:Shared→Prop},Inv (X.sub e) pins σ9 H9 s9→(∀ s',Inv X pins (σ9.set i none) H9 s'→R s') →
      wpAny (model X.prog X.w) X.A (do bindName X.env n .none;unbindBehindTheSuite X.env n hpos) (fun _ s3=>R s3) X.xe s9:=fun {σ9 H9 R} J k=>by
    have J':Inv X pins σ9 H9 s9:=Inv.ofSub (J:=I) J
    obtain ⟨m,hm9,hl9⟩:=J'.loc
    exact wpAny_nameGoes_keeps (Q:=fun _ s3=>R s3) hl hm9 hcls fun h' v a b=>k _ (J'.forget hN hi hm9 hl9 a b)
  cases f with
  | next =>
    obtain ⟨σ9,H9,J,z⟩:=q
    exact go (R:=fun s3=>SP X pins D .next s3) J fun s' J'=>⟨_,_,J',z⟩
  | brk =>
    obtain ⟨σ9,H9,J,z⟩:=q
    exact go (R:=fun s3=>SP X pins D .brk s3) J fun s' J'=>⟨_,_,J',z⟩
  | cont =>
    obtain ⟨σ9,H9,J,z⟩:=q
    exact go (R:=fun s3=>SP X pins D .cont s3) J fun s' J'=>⟨_,_,J',z⟩
  | ret u =>
    obtain ⟨v,σ9,H9,J,r,z⟩:=q
    exact go (R:=fun s3=>SP X pins D (.ret u) s3) J fun s' J'=>⟨v,_,_,J',r,z⟩
end
end L2
namespace L2
open PySem PySem.Spec PyProof.Rows
def clsV:V→Option Value
  | .ty T=>some (.type T)
  | .ref D=>some (.ref D)
  | _=>none
abbrev cIsx (K:PySem.W.Frag):RC:=fun xs H Q=>∃ a C c cv b,xs=[.ref a,c]∧H a=some (exO a C)∧ExK K C∧clsV c=some cv∧PySem.W.kitOne K (.ref C) cv=some b∧Q (.bl b) H
abbrev cIsxT (K:PySem.W.Frag):RC:=fun xs H Q=>∃ a C p,∃ cs:List Addr,∃ b,xs=[.ref a,.ref p]∧H a=some (exO a C)∧ExK K C∧H p=some (.tup (cs.map V.ref))∧PySem.W.kitAny K (.ref C) (cs.map Value.ref)=some b∧Q (.bl b) H
theorem vals_refs:∀ {cs:List Addr} {us:List Value},Vals (cs.map V.ref) us→us=cs.map Value.ref
  | [],_,.nil=>rfl
  | c :: r,_,.cons h t=>by rw [vals_refs t];cases h;rfl
section
variable {X:Cx}
theorem exO_at {P:Program} {w:World} {H:Hp} {h:Heap} {a C:Addr} (k:HOk P w H h) (e:H a=some (exO a C)):∃ o,h.get? a=some o∧o.cls=.ref C:=(k a _ e).1
theorem call_isx:CallR X (.builtin "isinstance") (cIsx X.K):=by
  intro pins s σ H xs us Q I r h
  obtain ⟨a,C,c,cv,b,rfl,ha,ek,hc,hk,q⟩:=h
  obtain ⟨u,w',rfl,r1,r2⟩:=vals2 r
  cases r1
  have e2:w'=cv:=by
    cases c <;> simp only [clsV,Option.some.injEq,reduceCtorEq] at hc
    · subst hc;exact r2
    · subst hc;exact r2
  subst e2
  exact PySem.W.kia_one (kitx_exc ek.toExC ek.has) I.kIn (exO_at I.hok ha) hk (fun z=>nomatch z) fun tk=>⟨.bl b,H,I.tok _,rfl,q⟩
theorem call_isxT:CallR X (.builtin "isinstance") (cIsxT X.K):=by
  intro pins s σ H xs us Q I r h
  obtain ⟨a,C,p,cs,b,rfl,ha,ek,hp,hk,q⟩:=h
  obtain ⟨u,w',rfl,r1,r2⟩:=vals2 r
  cases r1
  cases r2
  obtain ⟨_,its,rv,o,o1,o2,n,o3⟩:=(show ObjOk X.prog X.w H s.heap p (.tup (cs.map V.ref)) from I.hok p _ hp)
  obtain rfl:=vals_refs rv
  obtain ⟨oc,od,oda,osl⟩:=o
  obtain rfl:oc=.type "tuple":=o2
  obtain rfl:oda=.seq (cs.map Value.ref).toArray n:=o3
  exact PySem.W.kia_tup (kitx_exc ek.toExC ek.has) I.kIn (exO_at I.hok ha) o1 hk (fun z=>nomatch z) fun tk=>⟨.bl b,H,I.tok _,rfl,q⟩
end
theorem pass10 {P:Program} {w:World} {X:Cx}:Passes (CX1 P w) X E0:=fun _ _ _ _ _ _ _ h=>by
  obtain ⟨_,_,_,_,_,_,_,_,_,z⟩:=h
  exact z.elim
section
variable {P:Program} {w:World} {K:PySem.W.Frag} {mg:Str→Option Value} {base:Heap}
theorem Fun.ok1 {x qual:Str} {st:Stmt} {f:Addr} {fd:FuncData} {N ps:List Str} {k:Nat} {sp:Sp} (F:Fun K x qual st f fd) (S:FnScope N ps (defScope st)) (len:∀ vs H Q E,sp vs H Q E→vs.length=ps.length)
    (hbody:∀ (cdv:Value) (A:Around) (outer:List Env) (s:Shared) (H:Hp) (vs:List V) (Q:VK) (E:XK),Room k (A.deeper (envOfC qual (defScope st) s.heap.objs.size f cdv))→sp vs H Q E →
      ∃ t,PSs (cxOf (CX1 P w) P w K mg base N qual (defScope st) f cdv A outer s H E) (defBody st) t∧t { nx:=fun _ H'=>Q .non H',rt:=Q } (start N vs) H):FnOk P w K mg base (CX1 P w) (k + 1) f fd ps sp:=by
  obtain ⟨oc,od,kV,doc,pm,an,cdv,ct,osl,rfl,lk,hcd⟩:=F.ex
  exact fn_of lk hcd S len fun A outer s H vs Q E hr hsp=>hbody cdv A outer s H vs Q E hr hsp
theorem Fun.ok0 {x qual:Str} {st:Stmt} {f:Addr} {fd:FuncData} {N ps:List Str} {k:Nat} {sp:Sp} (F:Fun K x qual st f fd) (S:FnScope N ps (defScope st)) (len:∀ vs H Q E,sp vs H Q E→vs.length=ps.length)
    (hbody:∀ (cdv:Value) (A:Around) (outer:List Env) (s:Shared) (H:Hp) (vs:List V) (Q:VK) (E:XK),Room k (A.deeper (envOfC qual (defScope st) s.heap.objs.size f cdv))→sp vs H Q E →
      ∃ t,PSs (cxOf (CX1 P w) P w K mg base N qual (defScope st) f cdv A outer s H E).nox (defBody st) t∧t { nx:=fun _ H'=>Q .non H',rt:=Q } (start N vs) H):FnOk P w K mg base (CX1 P w) (k + 1) f fd ps sp :=
  F.ok1 S len fun cdv A outer s H vs Q E hr h=>let ⟨t,a,b⟩:=hbody cdv A outer s H vs Q E hr h;⟨t,a.nox,b⟩
end
theorem walk_ofX {l:PySem.W.OpenLaw} {n k:Nat} {q:Program} {loose:List Str} {XP:(Str→Option Value)→Heap→Prop} {YP:World→Heap→Prop} {d:DefRec} {K:Params→PySem.W.Frag} {sp:PySem.W.Frag→Sp} {x:Str}
    (hn:l.most=some n) (hn2:n≤sizeLine) (hdf:d.params.defaults=[]) (hr:Room k callerA)
    (hY:∀ (w:World) (h:Heap),YP w h→(K w.params).In h)
    (F:∀ (w:World) (mg:Str→Option Value) (fa:Addr) (h:Heap),(K w.params).In h→h.Ns mainGlobals mg→mg d.name=some (.ref fa) →
      ∃ fd:FuncData,(∀ (s:Shared) (u:Value),BindsTo s fd ⟨[u],[]⟩ [(x,u)]) ∧
        ∀ base:Heap,(K w.params).In base→base.Ns mainGlobals mg→FnOk l.prog w (K w.params) mg base (CX1 l.prog w) k fa fd [x] (sp (K w.params)))
    (hsp:∀ (K:PySem.W.Frag) (H:Hp) (a:Addr) (ns:List Int),ns.length≤n→Only H→SqL K H a (ns.map V.int)→sp K [.ref a] H (fun v _=>v=.bl true) fun _ _ _=>False) :
    PySem.W.WalkO q loose XP YP l.row.toRowW d [] (fun f vs=>PySem.call f vs) :=
  walk_of (K:=K) (CX:=fun w=>CX1 l.prog w) (sp:=fun w=>sp (K w.params)) hn hn2 hdf hr hY F (fun w H a ns h1 h2 h3=>hsp (K w.params) H a ns h1 h2 h3) fun _ _ _ _ _ z=>by
    obtain ⟨_,_,_,_,_,_,_,_,_,y⟩:=z
    exact y
end L2
namespace L2
open PySem
section
variable {σ:St} {H:Hp} {nx:St→Hp→Prop} {B:V→St→Hp→(St→Hp→Prop)→Prop}
theorem loop_range {lo:Int} {n:Nat} (Pv:Nat→St→Hp→Prop) (h0:Pv 0 σ H) (hs:∀ i σ H,i < n→Pv i σ H→B (.int (lo + i)) σ H (Pv (i + 1))) (hd:∀ σ H,Pv n σ H→nx σ H) :
    ∃ W:Nat→Nat→St→Hp→Prop,(∃ m,W 0 m σ H)∧∀ i m σ H,W i m σ H→((Itr lo n).stop i H∧nx σ H)∨((Itr lo n).go i H∧∃ N:St→Hp→Prop,(∀ σ' H',N σ' H'→∃ m',m' < m∧W (i + 1) m' σ' H')∧∀ x H',(Itr lo n).yld i H x H'→B x σ H' N):=by
  refine ⟨fun i m σ H=>m=n - i∧i≤n∧Pv i σ H,⟨n,by simp,Nat.zero_le _,h0⟩,?_⟩
  rintro i m σ H ⟨rfl,hi,p⟩
  by_cases hlt:i < n
  · refine .inr ⟨hlt,Pv (i + 1),fun σ' H' p'=>⟨n - (i + 1),by omega,rfl,hlt,p'⟩,?_⟩
    rintro x H' ⟨rfl,rfl⟩
    exact hs i σ _ hlt p
  · obtain rfl:i=n:=by omega
    exact .inl ⟨Nat.le_refl _,hd σ H p⟩
theorem loop_list {K:PySem.W.Frag} {a:Addr} (xs:List V) (Pv:Nat→St→Hp→Prop) (h0:Pv 0 σ H) (hl:∀ i σ H,Pv i σ H→SqL K H a xs) (hs:∀ i x σ H,xs[i]?=some x→Pv i σ H→B x σ H (Pv (i + 1))) (hd:∀ σ H,Pv xs.length σ H→nx σ H) :
    ∃ W:Nat→Nat→St→Hp→Prop,(∃ m,W 0 m σ H)∧∀ i m σ H,W i m σ H→((Itl K a).stop i H∧nx σ H)∨((Itl K a).go i H∧∃ N:St→Hp→Prop,(∀ σ' H',N σ' H'→∃ m',m' < m∧W (i + 1) m' σ' H')∧∀ x H',(Itl K a).yld i H x H'→B x σ H' N):=by
  refine ⟨fun i m σ H=>m=xs.length - i∧i≤xs.length∧Pv i σ H,⟨xs.length,by simp,Nat.zero_le _,h0⟩,?_⟩
  rintro i m σ H ⟨rfl,hi,p⟩
  have q:=hl i σ H p
  by_cases hlt:i < xs.length
  · refine .inr ⟨⟨xs,xs[i],q,by simp [hlt]⟩,Pv (i + 1),fun σ' H' p'=>⟨xs.length - (i + 1),by omega,rfl,hlt,p'⟩,?_⟩
    rintro x H' ⟨rfl,y⟩
    exact hs i x σ _ (y xs q) p
  · obtain rfl:i=xs.length:=by omega
    exact .inl ⟨⟨xs,q,Nat.le_refl _⟩,hd σ H p⟩
theorem loop_str {z:Str} (Pv:Nat→St→Hp→Prop) (h0:Pv 0 σ H) (hs:∀ i c σ H,z.cps[i]?=some c→Pv i σ H→B (.str ⟨#[c]⟩) σ H (Pv (i + 1))) (hd:∀ σ H,Pv z.cps.size σ H→nx σ H) :
    ∃ W:Nat→Nat→St→Hp→Prop,(∃ m,W 0 m σ H)∧∀ i m σ H,W i m σ H→((Its z).stop i H∧nx σ H)∨((Its z).go i H∧∃ N:St→Hp→Prop,(∀ σ' H',N σ' H'→∃ m',m' < m∧W (i + 1) m' σ' H')∧∀ x H',(Its z).yld i H x H'→B x σ H' N):=by
  refine ⟨fun i m σ H=>m=z.cps.size - i∧i≤z.cps.size∧Pv i σ H,⟨z.cps.size,by simp,Nat.zero_le _,h0⟩,?_⟩
  rintro i m σ H ⟨rfl,hi,p⟩
  by_cases hlt:i < z.cps.size
  · refine .inr ⟨hlt,Pv (i + 1),fun σ' H' p'=>⟨z.cps.size - (i + 1),by omega,rfl,hlt,p'⟩,?_⟩
    rintro x H' ⟨rfl,c,hc,rfl⟩
    exact hs i c σ _ hc p
  · obtain rfl:i=z.cps.size:=by omega
    exact .inl ⟨Nat.le_refl _,hd σ H p⟩
end
theorem comp_gen {J:It} {D:Addr} {τ₀:St} {H1:Hp} {Q:Hp→Prop} {B:V→St→Hp→(V→St→Hp→Prop)→(St→Hp→Prop)→Prop} (n:Nat) (hn:n≤1000000) (C:St→Prop) (R:Nat→V→Prop) (hC:C τ₀)
    (go:∀ i H,Same H1 H→i < n→J.go i H) (stop:∀ H,Same H1 H→J.stop n H) (hD:H1 D=none)
    (hs:∀ i x τ H H',C τ→Same H1 H→i < n→J.yld i H x H'→B x τ H' (fun v τ' H4=>C τ'∧R i v∧Same H H4) (fun _ _=>False))
    (hd:∀ ys H,ys.length=n→(∀ i v,ys[i]?=some v→R i v)→Same H1 H→H D=some (.lst ys)→Q H) :
    ∃ W:Nat→Nat→List V→St→Hp→Prop,(∃ m,W 0 m [] τ₀ (upd H1 D (.lst [])))∧∀ i m ys τ H,W i m ys τ H→H D=some (.lst ys) ∧
    ((J.stop i H∧Q H)∨(J.go i H∧ys.length < sizeLine∧∃ N:V→St→Hp→Prop,
      (∀ v τ' H',N v τ' H'→H' D=some (.lst ys)∧∃ m',m' < m∧W (i + 1) m' (ys ++ [v]) τ' (upd H' D (.lst (ys ++ [v]))))∧∃ Nf:St→Hp→Prop,(∀ τ' H',Nf τ' H'→∃ m',m' < m∧W (i + 1) m' ys τ' H') ∧
      ∀ x H',J.yld i H x H'→B x τ H' N Nf)):=by
  have ext:∀ {H:Hp} {o:HO},Same H1 H→Same H1 (upd H D o):=fun {H o} h b u e=>by
    rw [upd_ne (ne_of_none e hD)];exact h b u e
  refine ⟨fun i m ys τ H=>m=n - i∧i≤n∧ys.length=i∧(∀ j v,ys[j]?=some v→R j v)∧Same H1 H∧H D=some (.lst ys)∧C τ,⟨n,by simp,Nat.zero_le _,rfl,by simp,ext (Same.refl _),upd_same,hC⟩,?_⟩
  rintro i m ys τ H ⟨rfl,hi,hl,hR,hS,hy,hc⟩
  refine ⟨hy,?_⟩
  by_cases hlt:i < n
  · refine .inr ⟨go i H hS hlt,Nat.lt_of_le_of_lt (by omega:ys.length≤1000000) (by decide),(fun v τ' H4=>C τ'∧R i v∧Same H H4),?_,(fun _ _=>False),fun _ _ z=>z.elim,fun x H' y=>hs i x τ H H' hc hS hlt y⟩
    rintro v τ' H4 ⟨c4,r4,s4⟩
    refine ⟨s4 _ _ hy,n - (i + 1),by omega,rfl,hlt,by simp [hl],fun j u hj=>?_,ext (hS.trans s4),upd_same,c4⟩
    rcases Nat.lt_trichotomy j ys.length with h | h | h
    · exact hR j u (by rwa [List.getElem?_append_left h] at hj)
    · subst h
      simp at hj
      subst hj
      rw [hl];exact r4
    · rw [List.getElem?_eq_none (by simp;omega)] at hj;cases hj
  · obtain rfl:i=n:=by omega
    exact .inl ⟨stop H hS,hd ys H hl hR hS hy⟩
theorem sIx_eq (n d:Nat) (v:Int):max (0:Int) (min (if v < 0 then v + n else v) n)=((HT.sIx n d (some v):Nat):Int):=by
  show _=(((if v < 0 then (v + (n:Int)).toNat else min v.toNat n):Nat):Int)
  by_cases hv:v < 0
  · simp only [if_pos hv];omega
  · simp only [if_neg hv];omega
theorem rng_one (a b:Nat):sliceRange (a:Int) (b:Int) 1=(List.range (b - a)).map fun k=>a + k:=by
  simp only [sliceRange,show ((1:Int) > 0)=True from by simp,if_true]
  by_cases hlt:(a:Int) < b
  · have e3:(((b:Int) - a + 1 - 1) / 1).toNat=b - a:=by rw [Int.ediv_one];omega
    simp only [hlt,if_true,e3]
    refine List.map_congr_left fun k _=>?_
    omega
  · have:b - a=0:=by omega
    simp [hlt,this]
theorem slice_ix (lo hi:Option Int) (n:Nat):Builtin.Str.strSliceIndices lo hi 1 n=(List.range (HT.sIx n n hi - HT.sIx n 0 lo)).map fun k=>HT.sIx n 0 lo + k:=by
  rw [← rng_one]
  unfold Builtin.Str.strSliceIndices
  simp only [show ((1:Int) > 0)=True from by simp,if_true]
  cases lo with
  | none =>
    cases hi with
    | none=>rfl
    | some v=>simp only [sIx_eq n n v];rfl
  | some u =>
    cases hi with
    | none=>simp only [sIx_eq n 0 u];rfl
    | some v=>simp only [sIx_eq n n v,sIx_eq n 0 u]
theorem slice_cps (x:Str) (lo hi:Option Int):(Txt.slice x lo hi).cps.toList=(x.cps.toList.drop (HT.sIx x.length 0 lo)).take (HT.sIx x.length x.length hi - HT.sIx x.length 0 lo):=by
  have hb:=HT.sIx_le x.length x.length (Nat.le_refl _) hi
  have hn:x.cps.toList.length=x.length:=by simp [Str.length]
  unfold Txt.slice
  rw [slice_ix]
  split
  · rename_i h
    have h':HT.sIx x.length x.length hi - HT.sIx x.length 0 lo=x.length:=by simpa using h
    have e0:HT.sIx x.length 0 lo=0∨x.length=0:=by omega
    rcases e0 with e0 | e0
    · rw [e0,List.drop_zero,List.take_of_length_le]
      omega
    · rw [List.eq_nil_of_length_eq_zero (by omega:x.cps.toList.length=0)];simp
  · by_cases hab:HT.sIx x.length 0 lo≤HT.sIx x.length x.length hi
    · have h:=StrLaws.picks x.cps.toList (HT.sIx x.length x.length hi - HT.sIx x.length 0 lo) (HT.sIx x.length 0 lo) (by omega)
      simpa using h
    · have:HT.sIx x.length x.length hi - HT.sIx x.length 0 lo=0:=by omega
      rw [this];simp
theorem slice_from (x:Str) (k:Nat):(Txt.slice x (some (k:Int)) none).cps.toList=x.cps.toList.drop k:=by
  rw [slice_cps,HT.sIx_none,HT.sIx_nat]
  have hn:x.cps.toList.length=x.length:=by simp [Str.length]
  by_cases h:k≤x.length
  · rw [Nat.min_eq_left h,List.take_of_length_le (by rw [List.length_drop];omega)]
  · rw [List.drop_eq_nil_of_le (by omega:x.cps.toList.length≤k),Nat.min_eq_right (by omega),List.drop_eq_nil_of_le (by omega)];simp
theorem slice_to (x:Str) (k:Nat):(Txt.slice x none (some (k:Int))).cps.toList=x.cps.toList.take k:=by
  rw [slice_cps,HT.sIx_none,HT.sIx_nat,List.drop_zero,Nat.sub_zero]
  have hn:x.cps.toList.length=x.length:=by simp [Str.length]
  by_cases h:k≤x.length
  · rw [Nat.min_eq_left h]
  · rw [Nat.min_eq_right (by omega),List.take_of_length_le (by omega),List.take_of_length_le (by omega)]
theorem str_ext {x y:Str} (h:x.cps.toList=y.cps.toList):x=y:=by
  obtain ⟨a⟩:=x
  obtain ⟨b⟩:=y
  have:a=b:=Array.toList_inj.mp h
  rw [this]
theorem cps_app (x y:Str):(x ++ y).cps.toList=x.cps.toList ++ y.cps.toList:=by
  show (x.cps ++ y.cps).toList=_
  simp
theorem starts_eq (x y:Str):(0 + y.length≤x.length && Builtin.Str.subAt x y 0)=(x.cps.toList.take y.length == y.cps.toList):=by
  rw [StrLaws.subAt_eq,List.drop_zero]
  have hn:x.cps.toList.length=x.length:=by simp [Str.length]
  have hm:y.cps.toList.length=y.length:=by simp [Str.length]
  by_cases h:y.length≤x.length
  · simp [h]
  · have e:(x.cps.toList.take y.length == y.cps.toList)=false:=by
      rw [beq_eq_false_iff_ne]
      intro e
      have:=congrArg List.length e
      rw [List.length_take] at this
      omega
    rw [e];simp
open PySem.NumText in
section
def numS (w:Int):Str:=Str.ofString (toString w)
def dg (m:Nat):List Nat:=(Nat.toDigits 10 m).map Char.toNat
theorem dg_small {m:Nat} (h:m < 10):dg m=[48 + m]:=by
  unfold dg
  rw [Nat.toDigits_of_lt_base h]
  have:∀ d:Nat,d < 10→(Nat.digitChar d).toNat=48 + d:=by decide
  simp [this m h]
theorem dg_step {m:Nat} (h:10≤m):dg m=dg (m / 10) ++ [48 + m % 10]:=by
  have hm:m % 10 < 10:=Nat.mod_lt m (by decide)
  have t:Nat.toDigits 10 (m / 10) ++ Nat.toDigits 10 (m % 10)=Nat.toDigits 10 (10 * (m / 10) + m % 10):=Nat.toDigits_append_toDigits (by decide) (by omega) hm
  rw [Nat.div_add_mod] at t
  rw [← dg_small hm]
  unfold dg
  rw [← t,List.map_append]
theorem dg_all (m:Nat):AllDigits (dg m):=by
  induction m using Nat.strongRecOn with
  | _ m ih =>
    by_cases h:m < 10
    · rw [dg_small h]
      intro c hc
      have e:c=48 + m:=by simpa using hc
      omega
    · rw [dg_step (by omega)]
      intro c hc
      rcases List.mem_append.mp hc with hc | hc
      · exact ih (m / 10) (by omega) c hc
      · have e:c=48 + m % 10:=by simpa using hc
        omega
theorem dg_ne (m:Nat):dg m≠[]:=by
  by_cases h:m < 10
  · rw [dg_small h];simp
  · rw [dg_step (by omega)];simp
theorem dg_val (m:Nat):digitsVal (dg m)=m:=by
  induction m using Nat.strongRecOn with
  | _ m ih =>
    by_cases h:m < 10
    · rw [dg_small h]
      show 0 * 10 + (48 + m - 48)=m
      omega
    · rw [dg_step (by omega),digitsVal_snoc,ih (m / 10) (by omega)]
      omega
theorem dg_len:∀ (k m:Nat),m < 10 ^ (k + 1)→(dg m).length≤k + 1
  | 0,m,h=>by rw [dg_small (by simpa using h)];simp
  | k + 1,m,h=>by
    by_cases hm:m < 10
    · rw [dg_small hm];simp
    · rw [dg_step (by omega),List.length_append]
      have:=dg_len k (m / 10) (by rw [Nat.pow_succ] at h;omega)
      simp only [List.length_cons,List.length_nil]
      omega
theorem numS_nat (m:Nat):(numS (m:Int)).cps.toList=dg m:=by
  unfold numS
  rw [Str.ofString_eq_toList]
  show (Nat.repr m).toList.map Char.toNat=_
  rw [Nat.toList_repr]
  rfl
theorem numS_neg {m:Nat} (h:0 < m):(numS (-(m:Int))).cps.toList=45 :: dg m:=by
  obtain ⟨k,rfl⟩:∃ k,m=k + 1:=⟨m - 1,by omega⟩
  have e:(-((k + 1:Nat):Int))=Int.negSucc k:=by omega
  rw [e]
  unfold numS
  rw [Str.ofString_eq_toList]
  show (("-" ++ Nat.repr (k + 1)):String).toList.map Char.toNat=_
  rw [String.toList_append,List.map_append,Nat.toList_repr]
  rfl
theorem len_cps (x:Str):x.length=x.cps.toList.length:=by simp [Str.length]
theorem numS_len {w:Int} {k:Nat} (h:w.natAbs < 10 ^ (k + 1)):(numS w).length≤k + 2:=by
  rw [len_cps]
  rcases Int.lt_or_le w 0 with h0 | h0
  · obtain ⟨m,rfl,hm⟩:∃ m:Nat,w=-(m:Int)∧0 < m:=⟨w.natAbs,by omega,by omega⟩
    rw [numS_neg hm,List.length_cons]
    have:=dg_len k m (by omega)
    omega
  · obtain ⟨m,rfl⟩:∃ m:Nat,w=(m:Int):=⟨w.natAbs,by omega⟩
    rw [numS_nat]
    have:=dg_len k m (by omega)
    omega
theorem numS_reads {w:Int} (h:w.natAbs < 10 ^ 100):intText? (numS w)=some w:=by
  have hl:(numS w).length≤4300:=Nat.le_trans (numS_len (k:=99) h) (by decide)
  rcases Int.lt_or_le w 0 with h0 | h0
  · obtain ⟨m,rfl,hm⟩:∃ m:Nat,w=-(m:Int)∧0 < m:=⟨w.natAbs,by omega,by omega⟩
    rw [intText_neg (numS_neg hm) (dg_all m) (dg_ne m) hl,dg_val]
  · obtain ⟨m,rfl⟩:∃ m:Nat,w=(m:Int):=⟨w.natAbs,by omega⟩
    rw [intText_digits (by rw [numS_nat];exact dg_all m) (by rw [numS_nat];exact dg_ne m) hl,numS_nat,dg_val]
def inF (c:Nat):Bool:=!(Builtin.Str.occurrences "0123456789" ⟨#[c]⟩ 0 (Str.length "0123456789") 1).isEmpty
theorem inF_iff (c:Nat):inF c=true↔48≤c∧c≤57:=by
  unfold inF
  rw [StrLaws.found_one]
  have e:(Str.ofString "0123456789").cps.toList=[48,49,50,51,52,53,54,55,56,57]:=by decide +kernel
  rw [e]
  simp only [decide_eq_true_eq,List.mem_cons,List.not_mem_nil,or_false]
  omega
def isFig (x:Str):Bool:=!decide (x="") && x.cps.toList.all inF
theorem isFig_iff (x:Str):isFig x=true↔x.cps.toList≠[]∧AllDigits x.cps.toList:=by
  unfold isFig
  rw [Bool.and_eq_true,Bool.not_eq_true',decide_eq_false_iff_not,List.all_eq_true]
  refine and_congr ⟨fun h e=>h (str_ext (by rw [e];decide +kernel)),fun h e=>h (by rw [e];decide +kernel)⟩ ?_
  exact forall_congr' fun c=>forall_congr' fun _=>inF_iff c
def inW (i:Int):Bool:=decide (-1000000000000000000000000000000≤i∧i≤1000000000000000000000000000000)
def fpart (x:Str):Str:=if (x.cps.toList.take 1 == [45])=true then Txt.slice x (some 1) none else x
theorem fpart_cps (x:Str):(∃ cs,x.cps.toList=45 :: cs∧(fpart x).cps.toList=cs)∨((∀ cs,x.cps.toList≠45 :: cs)∧fpart x=x):=by
  unfold fpart
  cases h:x.cps.toList with
  | nil=>exact .inr ⟨(fun cs e=>nomatch e),if_neg (by simp)⟩
  | cons c cs =>
    by_cases hc:c=45
    · subst hc
      refine .inl ⟨cs,rfl,?_⟩
      rw [if_pos (by simp)]
      have:=slice_from x 1
      rw [h] at this
      exact this
    · refine .inr ⟨fun ds e=>hc (List.cons.inj e).1,?_⟩
      rw [if_neg (by simp [hc])]
def valOf (x:Str):Int:=(intText? x).getD 0
theorem int_of_fig {x:Str} (h:isFig (fpart x)=true) (hl:x.length≤4300):intText? x=some (valOf x):=by
  obtain ⟨h1,h2⟩:=(isFig_iff _).mp h
  unfold valOf
  rcases fpart_cps x with ⟨cs,e,ef⟩ | ⟨_,ef⟩
  · rw [ef] at h1 h2
    rw [intText_neg e h2 h1 hl];rfl
  · rw [ef] at h1 h2
    rw [intText_digits h2 h1 hl];rfl
def isNum (x:Str):Bool:=!(decide (31 < (fpart x).length) || !isFig (fpart x)) && (inW (valOf x) && decide (numS (valOf x)=x))
theorem fpart_len (x:Str):x.length≤(fpart x).length + 1:=by
  rw [len_cps,len_cps]
  rcases fpart_cps x with ⟨cs,e,ef⟩ | ⟨_,ef⟩
  · rw [e,ef];simp
  · rw [ef];omega
theorem fpart_le (x:Str):(fpart x).length≤x.length:=by
  unfold fpart
  split
  · exact Txt.slice_le x _ _
  · exact Nat.le_refl _
theorem isNum_numS {w:Int} (h:inW w=true):isNum (numS w)=true∧valOf (numS w)=w∧(numS w).length≤40:=by
  have hw:-1000000000000000000000000000000≤w∧w≤1000000000000000000000000000000:=of_decide_eq_true h
  have hr:=numS_reads (w:=w) (Nat.lt_of_le_of_lt (by omega:w.natAbs≤1000000000000000000000000000000) (by decide +kernel))
  have hv:valOf (numS w)=w:=by unfold valOf;rw [hr];rfl
  have hf:(fpart (numS w)).length≤31∧isFig (fpart (numS w))=true:=by
    rw [isFig_iff,len_cps]
    rcases Int.lt_or_le w 0 with h0 | h0
    · obtain ⟨m,rfl,hm⟩:∃ m:Nat,w=-(m:Int)∧0 < m:=⟨w.natAbs,by omega,by omega⟩
      rcases fpart_cps (numS (-(m:Int))) with ⟨cs,e,ef⟩ | ⟨e,_⟩
      · rw [numS_neg hm] at e
        rw [ef,← (List.cons.inj e).2]
        exact ⟨dg_len 30 m (by omega),dg_ne m,dg_all m⟩
      · exact absurd (numS_neg hm) (e _)
    · obtain ⟨m,rfl⟩:∃ m:Nat,w=(m:Int):=⟨w.natAbs,by omega⟩
      rcases fpart_cps (numS (m:Int)) with ⟨cs,e,ef⟩ | ⟨_,ef⟩
      · have:=dg_all m 45 (by rw [← numS_nat,e];simp)
        omega
      · rw [ef,numS_nat]
        exact ⟨dg_len 30 m (by omega),dg_ne m,dg_all m⟩
  refine ⟨?_,hv,Nat.le_trans (fpart_len _) (by omega)⟩
  unfold isNum
  rw [hv,hf.2,h,decide_eq_false (by omega:¬ 31 < (fpart (numS w)).length),decide_eq_true rfl]
  rfl
end
end L2
namespace L2
open PySem PySem.Spec PyProof.Rows
def findS (x y:Str):Int:=match Builtin.Str.occurrences x y 0 x.length 1 with | i :: _=>(i:Int) | []=>-1
abbrev r_mt_find:RM:=fun x xs H Q=>∃ a b,x=.str a∧xs=[.str b]∧Q (.int (findS a b)) H
def joinS (sep:Str):List Str→Str
  | [p]=>p
  | l=>Builtin.Str.glued sep l
def sumL (sep:Str) (ls:List Str):Nat:=ls.foldl (fun n p=>n + p.length + sep.length) 0
abbrev r_mt_join (K:PySem.W.Frag):RM:=fun x xs H Q=>∃ sep a ls,x=.str sep∧xs=[.ref a]∧SqL K H a (ls.map V.str)∧sumL sep ls≤sizeLine∧Q (.str (joinS sep ls)) H
theorem sumL_eq (sep:Str):∀ (ls:List Str) (k:Nat),ls.foldl (fun n p=>n + p.length + sep.length) k=k + (ls.map (·.length)).sum + ls.length * sep.length
  | [],k=>by simp
  | p :: r,k=>by
    rw [List.foldl_cons,sumL_eq sep r,List.map_cons,List.sum_cons,List.length_cons,Nat.add_mul,Nat.one_mul]
    omega
theorem joinS_len (sep:Str) (ls:List Str):(joinS sep ls).length≤sumL sep ls:=by
  unfold sumL
  rw [sumL_eq]
  have g:(Builtin.Str.glued sep ls).length≤0 + (ls.map (·.length)).sum + ls.length * sep.length:=by
    rw [size_glued]
    have:(ls.length - 1) * sep.length≤ls.length * sep.length:=Nat.mul_le_mul_right _ (by omega)
    omega
  unfold joinS
  split
  · simp only [List.map_cons,List.map_nil,List.sum_cons,List.sum_nil,List.length_cons,List.length_nil];omega
  · exact g
theorem vals_strs:∀ {ls:List Str} {us:List Value},Vals (ls.map V.str) us→∃ l:List (Str × Tok),us=strValues l∧l.map (·.1)=ls
  | [],_,.nil=>⟨[],rfl,rfl⟩
  | x :: r,_,.cons h t=>by
    obtain ⟨l,rfl,e⟩:=vals_strs t
    obtain ⟨k,rfl⟩:=h
    exact ⟨(x,k) :: l,rfl,by rw [List.map_cons,e]⟩
def repS (x:Str) (n:Int):Str:=if n < 1 then Str.empty else if (n == 1 || x.length == 0)=true then x else ⟨(List.replicate n.toNat x.cps).foldl (· ++ ·) #[]⟩
abbrev rMulS:R2:=fun x y H Q=>∃ a n,x=.str a∧y=.int n∧(n < 1000000∧-1000000 < n∧a.length * n.toNat≤1000000)∧Q (.str (repS a n)) H
theorem rep_cps (a:Array Nat):∀ (k:Nat) (b:Array Nat),((List.replicate k a).foldl (· ++ ·) b).toList=b.toList ++ (List.replicate k a.toList).flatten
  | 0,b=>by simp
  | k + 1,b=>by
    rw [List.replicate_succ,List.foldl_cons,rep_cps a k,List.replicate_succ]
    simp
theorem repS_cps (x:Str) (n:Int):(repS x n).cps.toList=(List.replicate n.toNat x.cps.toList).flatten:=by
  unfold repS
  split
  · have:n.toNat=0:=by omega
    rw [this];rfl
  · split
    · rename_i h1 h2
      rw [Bool.or_eq_true,beq_iff_eq,beq_iff_eq] at h2
      rcases h2 with rfl | h2
      · simp
      · have e:x.cps.toList=[]:=List.eq_nil_of_length_eq_zero (by rw [← h2];simp [Str.length])
        rw [e]
        simp
    · rw [rep_cps];simp
theorem flat_len {α:Type} (a:List α):∀ k:Nat,(List.replicate k a).flatten.length=a.length * k
  | 0=>by simp
  | k + 1=>by rw [List.replicate_succ,List.flatten_cons,List.length_append,flat_len a k,Nat.mul_succ];omega
theorem repS_len (x:Str) (n:Int):(repS x n).length=x.length * n.toNat:=by
  have e:∀ y:Str,y.length=y.cps.toList.length:=fun y=>by simp [Str.length]
  rw [e,repS_cps,flat_len,← e]
section
variable {X:Cx}
theorem mt_join:MtR X "str.join" (r_mt_join X.K):=by
  intro pins s σ H x xs v us Q I rx rs h
  obtain ⟨sep,a,ls,rfl,rfl,hq,hl,q⟩:=h
  obtain ⟨t,rfl⟩:=rx
  obtain ⟨u,rfl,r1⟩:=vals1 rs
  cases r1
  obtain ⟨its,rv,p,hz⟩:=I.list hq
  obtain ⟨l,rfl,e⟩:=vals_strs rv
  have tl:Builtin.Str.tooLong ((l.map (·.1)).toArray.foldl (· + ·.length + sep.length) 0)=false:=by
    rw [e,List.foldl_toArray]
    unfold Builtin.Str.tooLong
    exact decide_eq_false (by unfold sumL at hl;omega)
  have jl:=joinS_len sep ls
  refine call_meets F.slot_str_join (typeIs_str s sep t) F.entry_str_join (F.args_str_join_2 _ _) (meets_str_join_list sep t a l tl) ⟨p.isList,?_⟩
  subst e
  match l,q,jl,hl with
  | [],q,jl,hl=>exact ⟨Nat.le_trans jl hl,.str _,H,I.tok _,⟨_,rfl⟩,q⟩
  | [p],q,jl,hl=>exact ⟨.str p.1,H,I,⟨_,rfl⟩,q⟩
  | p :: p' :: r,q,jl,hl=>exact ⟨Nat.le_trans jl hl,.str _,H,I.tok _,⟨_,rfl⟩,q⟩
theorem op_mul_str:OpR X (binaryOp .Mult) rMulS:=by
  intro pins s σ H x y v u Q I rx ry h
  obtain ⟨a,n,rfl,rfl,⟨h1,h2,h3⟩,q⟩:=h
  obtain ⟨t,rfl⟩:=rx
  obtain ⟨t',rfl⟩:=ry
  have hs:sizeLine=16777216:=sizeLine_eq
  have ln:=repS_len a n
  refine P.mul_str (by rw [decide_eq_false (by omega),decide_eq_false (by omega)];rfl) (fun c1 c2=>?_) (fun c1 c2=>?_) ?_
  · have m:(a.length:Int) * n≤1000000:=by
      have:((a.length * n.toNat:Nat):Int)≤1000000:=by omega
      rw [Int.natCast_mul,Int.toNat_of_nonneg (by omega)] at this
      exact this
    intro c
    have c':(2 ^ 63 - 1) / n < (a.length:Int):=c
    have:=(Int.ediv_lt_iff_lt_mul (by omega)).mp c'
    omega
  · unfold Builtin.Str.tooLong
    exact decide_eq_false (by omega)
  · unfold repS at ln q
    split
    · rename_i c
      rw [if_pos c] at q
      exact ⟨by decide,.str _,H,I.tok _,⟨_,rfl⟩,q⟩
    · rename_i c
      rw [if_neg c] at q ln
      split
      · rename_i c2
        rw [if_pos c2] at q
        exact ⟨.str a,H,I,⟨_,rfl⟩,q⟩
      · rename_i c2
        rw [if_neg c2] at q ln
        exact ⟨by rw [ln];omega,.str _,H,I.tok _,⟨_,rfl⟩,q⟩
end
theorem Asc.app {x y:Str} (h:Asc x) (h':Asc y):Asc (x ++ y):=fun c hc=>by
  rw [cps_app] at hc
  exact (List.mem_append.mp hc).elim (h c) (h' c)
theorem Asc.num (w:Int):Asc (numS w):=fun c hc=>by
  have d:∀ (m c:Nat),c∈dg m→c < 128:=fun m c h=>by have:=dg_all m c h;omega
  rcases Int.lt_or_le w 0 with h0 | h0
  · obtain ⟨m,rfl,hm⟩:∃ m:Nat,w=-(m:Int)∧0 < m:=⟨w.natAbs,by omega,by omega⟩
    rw [numS_neg hm] at hc
    rcases List.mem_cons.mp hc with rfl | hc
    · decide
    · exact d m c hc
  · obtain ⟨m,rfl⟩:∃ m:Nat,w=(m:Int):=⟨w.natAbs,by omega⟩
    rw [numS_nat] at hc
    exact d m c hc
theorem len_app (x y:Str):(x ++ y).length=x.length + y.length:=Str.length_append x y
end L2
namespace L2
open PySem PySem.Spec PyProof.Rows
section
open PySem.NumText
end
end L2
namespace L2
open PySem PySem.Spec PyProof.Rows
section
variable {X:Cx}
abbrev cIntB:RC:=fun xs H Q=>∃ b:Bool,xs=[.bl b]∧Q (.int (if b then 1 else 0)) H
theorem call_int_bl:CallR X (.type "int") cIntB:=by
  intro pins s σ H xs us Q I r h
  obtain ⟨b,rfl,q⟩:=h
  obtain ⟨u,rfl,r1⟩:=vals1 r
  cases r1
  exact call_int_bool ⟨.int _,H,I.tok _,⟨_,rfl⟩,q⟩
end
theorem hu64 {k:Nat} {A:Around} (r:Room k A):A.units + 64 < cLine:=by have:=r.un;omega
def datV:V→PyData
  | .non=>.none
  | .bl b=>.bool b
  | .int i=>.int i
  | .str x=>.str x
  | _=>.none
def isFlat:V→Bool
  | .non=>true
  | .bl _=>true
  | .int _=>true
  | .str x=>PyData.strOk x
  | _=>false
theorem Asc.flat {x:Str} (h:Asc x):isFlat (.str x)=true:=by
  unfold isFlat PyData.strOk
  rw [Array.all_eq_true]
  intro i hi
  have:=h x.cps[i] (by simp)
  exact decide_eq_true (by omega)
def mixV:V→V→Bool
  | .bl _,.int _=>false
  | .int _,.bl _=>false
  | _,_=>true
def mixAll:List V→List V→Bool
  | x :: xs,y :: ys=>mixV x y && mixAll xs ys
  | _,_=>true
theorem carried_of:∀ {xs:List V} {us:List Value},xs.all isFlat=true→Vals xs us→CarriedAll us (xs.map datV)
  | [],_,_,.nil=>.nil
  | x :: r,_,h,.cons rx t=>by
    rw [List.all_cons,Bool.and_eq_true] at h
    refine .cons ?_ (carried_of h.2 t)
    cases x with
    | non=>cases rx;exact .none
    | bl b=>cases rx;exact .bool b
    | int i=>obtain ⟨t,rfl⟩:=rx;exact .int i t
    | str x=>obtain ⟨t,rfl⟩:=rx;exact .str x t
    | byt b=>exact absurd h.1 (by simp [isFlat])
    | flt b=>exact absurd h.1 (by simp [isFlat])
    | ref a=>exact absurd h.1 (by simp [isFlat])
    | ty n=>exact absurd h.1 (by simp [isFlat])
theorem same_dat {x y:V} (hx:isFlat x=true) (hy:isFlat y=true):PySem.Spec.same (datV x) (datV y)=decide (x=y):=by
  cases x <;> cases y <;> simp_all [isFlat,datV,PySem.Spec.same] <;> (rename_i a b;by_cases e:a=b <;> simp [e])
theorem sameAll_dat:∀ {xs ys:List V},xs.all isFlat=true→ys.all isFlat=true→PySem.Spec.sameAll (xs.map datV) (ys.map datV)=decide (xs=ys)
  | [],[],_,_=>by simp [PySem.Spec.sameAll]
  | [],_ :: _,_,_=>by simp [PySem.Spec.sameAll]
  | _ :: _,[],_,_=>by simp [PySem.Spec.sameAll]
  | x :: r,y :: t,hx,hy=>by
    rw [List.all_cons,Bool.and_eq_true] at hx hy
    rw [List.map_cons,List.map_cons,PySem.Spec.sameAll,same_dat hx.1 hy.1,sameAll_dat hx.2 hy.2]
    by_cases a:x=y <;> by_cases b:r=t <;> simp [a,b]
theorem noMix_dat {x y:V} (hx:isFlat x=true) (hy:isFlat y=true) (h:mixV x y=true):SeqAt.noMix (datV x) (datV y)=true:=by
  cases x <;> cases y <;> simp_all [isFlat,datV,SeqAt.noMix,mixV]
theorem noMixAll_dat:∀ {xs ys:List V},xs.all isFlat=true→ys.all isFlat=true→mixAll xs ys=true→SeqAt.noMixAll (xs.map datV) (ys.map datV)=true
  | [],[],_,_,_=>by simp [SeqAt.noMixAll]
  | [],_ :: _,_,_,_=>by simp [SeqAt.noMixAll]
  | _ :: _,[],_,_,_=>by simp [SeqAt.noMixAll]
  | x :: r,y :: t,hx,hy,h=>by
    rw [List.all_cons,Bool.and_eq_true] at hx hy
    rw [mixAll,Bool.and_eq_true] at h
    rw [List.map_cons,List.map_cons,SeqAt.noMixAll,noMix_dat hx.1 hy.1 h.1,noMixAll_dat hx.2 hy.2 h.2]
    rfl
theorem shaped_dat {xs:List V} (h:xs.all isFlat=true):SeqAt.shaped (.list (xs.map datV))=true∧SeqAt.shaped (.tuple (xs.map datV))=true:=by
  have a:∀ x,isFlat x=true→(datV x).canLay0=true∧(datV x).depth=0:=fun x=>by cases x <;> simp [datV,PyData.canLay0,PyData.depth,isFlat]
  have l:∀ ys:List V,ys.all isFlat=true→PyData.canLayAll0 (ys.map datV)=true∧PyData.depthAll (ys.map datV)=0:=by
    intro ys
    induction ys with
    | nil=>exact fun _=>⟨rfl,rfl⟩
    | cons y r ih =>
      intro h
      rw [List.all_cons,Bool.and_eq_true] at h
      exact ⟨by rw [List.map_cons,PyData.canLayAll0,(a y h.1).1,(ih h.2).1];rfl,by rw [List.map_cons,PyData.depthAll,(a y h.1).2,(ih h.2).2];rfl⟩
  exact ⟨by simp [SeqAt.shaped,PyData.canLay0,PyData.depth,(l xs h).1,(l xs h).2],by simp [SeqAt.shaped,PyData.canLay0,PyData.depth,(l xs h).1,(l xs h).2]⟩
abbrev rEqL (K:PySem.W.Frag) (neg:Bool):R2:=fun x y H Q=>∃ a b xs ys,x=.ref a∧y=.ref b∧SqL K H a xs∧SqL K H b ys∧(xs.all isFlat=true∧ys.all isFlat=true∧mixAll xs ys=true)∧Q (.bl (if neg then !decide (xs=ys) else decide (xs=ys))) H
section
variable {X:Cx}
theorem op_eqL (hu:X.A.units + 64 < cLine):OpR X (compareOp .Eq) (rEqL X.K false):=by
  intro pins s σ H x y v u Q I rx ry h
  obtain ⟨a,b,xs,ys,rfl,rfl,ha,hb,⟨f1,f2,f3⟩,q⟩:=h
  cases rx
  cases ry
  obtain ⟨us,r1,p1,_⟩:=I.list ha
  obtain ⟨ws,r2,p2,_⟩:=I.list hb
  refine eq_dataH_same (reads_newData p1.isList (carried_of f1 r1)) (reads_newData p2.isList (carried_of f2 r2)) (shaped_dat f1).1 (shaped_dat f2).1 hu (by rw [SeqAt.noMix];exact noMixAll_dat f1 f2 f3) ?_
  rw [PySem.Spec.same,sameAll_dat f1 f2]
  exact ⟨.bl _,H,I,rfl,q⟩
theorem op_neL (hu:X.A.units + 64 < cLine):OpR X (compareOp .NotEq) (rEqL X.K true):=by
  intro pins s σ H x y v u Q I rx ry h
  obtain ⟨a,b,xs,ys,rfl,rfl,ha,hb,⟨f1,f2,f3⟩,q⟩:=h
  cases rx
  cases ry
  obtain ⟨us,r1,p1,_⟩:=I.list ha
  obtain ⟨ws,r2,p2,_⟩:=I.list hb
  refine ne_dataH_same (reads_newData p1.isList (carried_of f1 r1)) (reads_newData p2.isList (carried_of f2 r2)) (shaped_dat f1).1 (shaped_dat f2).1 hu (by rw [SeqAt.noMix];exact noMixAll_dat f1 f2 f3) ?_
  rw [PySem.Spec.same,sameAll_dat f1 f2]
  exact ⟨.bl _,H,I,rfl,q⟩
abbrev rEqNil (K:PySem.W.Frag):R2:=fun x y H Q=>∃ a b xs,x=.ref a∧y=.ref b∧SqL K H a xs∧SqL K H b []∧Q (.bl (decide (xs=[]))) H
end
end L2
namespace L2
open PySem PySem.Spec PyProof.Rows
abbrev r_mt_append:RM:=rAppend
abbrev r_mt_pop:RM:=rPop
def jw:List V:=[.str "plus",.str "minus",.str "times",.str "over",.str "rest",.str "under",.str "same"]
def isJ (v:V):Bool:=inV v jw
inductive Er where
  | nought | great | stuck
  deriving DecidableEq
def comeV (w:Str) (a b:Int):Int :=
  if w="plus" then a + b else if w="minus" then a - b else if w="times" then a * b else if w="under" then (if a < b then 1 else 0) else if w="same" then (if a=b then 1 else 0) else if w="over" then a.fdiv b else a.fmod b
def isDiv (w:Str):Prop:=¬ w="plus"∧¬ w="minus"∧¬ w="times"∧¬ w="under"∧¬ w="same"
instance (w:Str):Decidable (isDiv w):=by unfold isDiv;infer_instance
def joinE (w:Str) (a b:Int):Except Er Int:=if isDiv w∧b=0 then .error .nought else if inW (comeV w a b)=true then .ok (comeV w a b) else .error .great
def wrth (kvs:List (Key × V)):V→Int
  | .int i=>i
  | .str x=>(match valV kvs (.inr x) with | some (.int i)=>i | _=>0)
  | _=>0
def stepE (kvs:List (Key × V)) (st:List Int) (v:V):Except Er (List Int) :=
  if isJ v=true then (match v,st.reverse with | .str w,b :: a :: r=>(match joinE w a b with | .ok c=>.ok (r.reverse ++ [c]) | .error e=>.error e) | _,_=>.error .stuck) else .ok (st ++ [wrth kvs v])
def runE (kvs:List (Key × V)):List V→List Int→Except Er (List Int)
  | [],st=>.ok st
  | v :: r,st=>match stepE kvs st v with | .ok st'=>runE kvs r st' | .error e=>.error e
section
variable {kvs:List (Key × V)}
def Good (kvs:List (Key × V)) (ps:List V) (r:Except Er Int):Prop:=(∀ st,runE kvs ps st=match r with | .ok i=>.ok (st ++ [i]) | .error e=>.error e)∧r≠.error .stuck
end
def okPart (v:V):Prop:=(∃ i,v=.int i∧inW i=true)∨∃ x:Str,v=.str x∧x.length≤1000
def SlotsOk (kvs:List (Key × V)):Prop:=∀ k v,valV kvs k=some v→∃ i,v=.int i∧inW i=true
theorem wrth_inW {kvs:List (Key × V)} (h:SlotsOk kvs) {v:V} (hv:okPart v):inW (wrth kvs v)=true:=by
  rcases hv with ⟨i,rfl,hi⟩ | ⟨x,rfl,_⟩
  · exact hi
  · show inW (match valV kvs (.inr x) with | some (.int i)=>i | _=>0)=true
    cases e:valV kvs (.inr x) with
    | none=>rfl
    | some u =>
      obtain ⟨i,rfl,hi⟩:=h _ _ e
      exact hi
theorem isJ_str (w:Str):isJ (.str w)=true↔(w="plus"∨w="minus"∨w="times"∨w="over"∨w="rest"∨w="under"∨w="same"):=by
  unfold isJ inV jw
  simp only [List.any_cons,List.any_nil,eqV,Bool.or_false,Bool.or_eq_true,beq_iff_eq]
  constructor
  · rintro (h | h | h | h | h | h | h) <;> simp [← h]
  · rintro (h | h | h | h | h | h | h) <;> simp [h]
end L2
namespace L2
open PySem PySem.Spec PyProof.Rows
def Itv (K:PySem.W.Frag) (a:Addr) (xs:List V):It:=⟨fun i H=>i < xs.length∧SqL K H a xs,fun i H x H'=>H'=H∧xs[xs.length - 1 - i]?=some x,fun i _=>xs.length≤i⟩
def iRev (K:PySem.W.Frag) (ta:TA):TI:=fun σ H R=>ta σ H fun vs H1=>∃ a xs,vs=[.ref a]∧SqL K H1 a xs∧R (Itv K a xs) H1
section
variable {X:Cx} {tg:Expr}
end
section
variable {σ:St} {H:Hp} {nx:St→Hp→Prop} {B:V→St→Hp→(St→Hp→Prop)→Prop}
end
end L2
namespace L2
open PySem PySem.Spec PyProof.Rows
abbrev cLst (K:PySem.W.Frag):RC:=fun xs H Q=>∃ p ys,xs=[.ref p]∧(SqL K H p ys∨SqT K H p ys)∧∀ l,H l=none→Q (.ref l) (upd H l (.lst ys))
abbrev cMin:RC:=fun xs H Q=>∃ i j,xs=[.int i,.int j]∧Q (.int (if j < i then j else i)) H
def inL (c:Nat):Bool:=!(Builtin.Str.occurrences "abcdefghijklmnopqrstuvwxyz" ⟨#[c]⟩ 0 (Str.length "abcdefghijklmnopqrstuvwxyz") 1).isEmpty
def wl:List V:=[.str "take",.str "give",.str "let",.str "say",.str "off",.str "if",.str "else",.str "end",.str "as"]
def isName (x:Str):Bool:=!(decide (x="") || decide (6 < x.length)) && !(inV (.str x) jw || inV (.str x) wl) && x.cps.toList.all inL
theorem inL_iff (c:Nat):inL c=true→97≤c∧c≤122:=by
  unfold inL
  rw [StrLaws.found_one]
  have e:(Str.ofString "abcdefghijklmnopqrstuvwxyz").cps.toList=[97,98,99,100,101,102,103,104,105,106,107,108,109,110,111,112,113,114,115,116,117,118,119,120,121,122]:=by decide +kernel
  rw [e]
  simp only [decide_eq_true_eq,List.mem_cons,List.not_mem_nil,or_false]
  omega
theorem isName_parts {x:Str} (h:isName x=true):x.cps.toList≠[]∧x.length≤6∧isJ (.str x)=false∧x.cps.toList.all inL=true:=by
  unfold isName at h
  rw [Bool.and_eq_true,Bool.and_eq_true,Bool.not_eq_true',Bool.not_eq_true',Bool.or_eq_false_iff,Bool.or_eq_false_iff,decide_eq_false_iff_not,decide_eq_false_iff_not] at h
  refine ⟨fun z=>h.1.1.1 (str_ext (by rw [z];decide +kernel)),by omega,h.1.2.1,h.2⟩
def partW (w:Str):Option V:=if isName w=true then some (.str w) else if isNum w=true then some (.int (valOf w)) else none
inductive Tw where
  | leaf (w:Str) | node (w:Str) (a b:Tw)
def pre:Tw→List Str
  | .leaf w=>[w]
  | .node w a b=>w :: (pre a ++ pre b)
def wfT:Tw→Prop
  | .leaf w=>isJ (.str w)=false
  | .node w a b=>isJ (.str w)=true∧wfT a∧wfT b
def okT:Tw→Bool
  | .leaf w=>(partW w).isSome
  | .node _ a b=>okT a && okT b
def pvw (w:Str):V:=(partW w).getD (.str w)
def pst:Tw→List V
  | .leaf w=>[pvw w]
  | .node w a b=>pst a ++ pst b ++ [.str w]
def scanE:List Str→Nat→Option Nat
  | _,0=>some 0
  | [],_ + 1=>none
  | w :: r,d + 1=>(scanE r (if isJ (.str w)=true then d + 2 else d)).map (· + 1)
def stepR (st:List (List V)) (w:Str):Except Bool (List (List V)) :=
  if isJ (.str w)=true then (match st.reverse with | a :: b :: r=>.ok (r.reverse ++ [a ++ b ++ [.str w]]) | _=>.error false) else (match partW w with | some v=>.ok (st ++ [[v]]) | none=>.error true)
def runR:List Str→List (List V)→Except Bool (List (List V))
  | [],st=>.ok st
  | w :: r,st=>match stepR st w with | .ok st'=>runR r st' | .error e=>.error e
theorem runR_app:∀ (p q:List Str) (st:List (List V)),runR (p ++ q) st=match runR p st with | .ok st'=>runR q st' | .error e=>.error e
  | [],q,st=>rfl
  | v :: r,q,st=>by
    show (match stepR st v with | .ok st'=>runR (r ++ q) st' | .error e=>.error e)=match (match stepR st v with | .ok st'=>runR r st' | .error e=>.error e) with | .ok st'=>runR q st' | .error e=>.error e
    cases stepR st v with
    | error e=>rfl
    | ok st'=>exact runR_app r q st'
theorem star_const {c:Const} {j:Nat} {p:Pos} {es:List Expr} {env:Env}:starEach (.Constant c j p :: es) env=(false,eval (.Constant c j p) env) :: starEach es env:=by
  first | rfl | simp only [starEach]
theorem pa_str {X:Cx} {es:List Expr} {t:TA} {x:Str} {j:Nat} {p:Pos} (hr:PA X es t):PA X (.Constant (.str x) j p :: es) (tCons (tC (.str x)) t):=pa_cons pe_str hr star_const
end L2
namespace L2
open PySem PySem.Spec PyProof.Rows
abbrev cDct:RC:=fun xs H Q=>∃ a kvs,xs=[.ref a]∧H a=some (.dK kvs)∧∀ p,H p=none→Q (.ref p) (upd H p (.dK kvs))
abbrev rNeD:R2:=fun x y H Q=>∃ a b kvs,x=.ref a∧y=.ref b∧H a=some (.dK kvs)∧H b=some (.dK kvs)∧(∀ p∈kvs,∃ i,p.2=V.int i)∧Q (.bl false) H
section
variable {X:Cx}
end
def LW (x:Str):Prop:=x.cps.toList.all inL=true∧1≤x.length∧x.length≤6
theorem wl_str (w:Str):inV (.str w) wl=true↔(w="take"∨w="give"∨w="let"∨w="say"∨w="off"∨w="if"∨w="else"∨w="end"∨w="as"):=by
  unfold inV wl
  simp only [List.any_cons,List.any_nil,eqV,Bool.or_false,Bool.or_eq_true,beq_iff_eq]
  constructor
  · rintro (h | h | h | h | h | h | h | h | h) <;> simp [← h]
  · rintro (h | h | h | h | h | h | h | h | h) <;> simp [h]
theorem name_asc {x:Str} (h:isName x=true):Asc x:=fun c hc=>by
  have:=inL_iff c (List.all_eq_true.mp (isName_parts h).2.2.2 c hc)
  omega
theorem all_take {l:List Nat} (h:l.all inL=true) (n:Nat):(l.take n).all inL=true:=by
  rw [List.all_eq_true] at h ⊢
  exact fun c hc=>h c (List.mem_of_mem_take hc)
theorem all_app {a b:List Nat} (h:a.all inL=true) (h':b.all inL=true):(a ++ b).all inL=true:=by
  rw [List.all_append,h,h'];rfl
end L2
namespace L2
open PySem PySem.Spec PyProof.Rows
section
variable {P:Program} {w:World} {A:Around} {E:Value→Shared→Prop} {s:Shared}
end
section
variable {P:Program} {w:World} {A:Around} {E:Value→Shared→Prop} {s:Shared}
end
section
variable {P:Program} {w:World} {A:Around} {E:Value→Shared→Prop} {s:Shared}
end
theorem Inv.turnedL {X:Cx} {pins:List (Addr × Obj)} {σ:St} {H:Hp} {s:Shared} {h':Heap} {t':Nat} {ch:List Addr} (I:Inv X pins σ H s) (k:∀ b o,b ∉ ch→s.heap.get? b=some o→h'.get? b=some o) (hf:∀ b∈ch,FpOk X pins H b) :
    Inv X pins σ H { s with heap:=h',toks:=t' }:=by
  have nit:∀ b u,H b=some u→b ∉ ch:=fun b u e z=>by rw [(hf b z).1] at e;cases e
  refine I.step (g':=s.gens) (d':=s.drawn) (ch:=ch) (fun b hb=>?_) (fun b o _ _ hc e _=>k b o hc e) (fun b o _ _ hc e _=>⟨o.slots,k b o hc e⟩) (fun _ _ _ _ n=>n) (fun b o hc e=>⟨o,k b o hc e⟩) (fun _ _ e=>e) (fun _ _ _ e=>e) (fun b ps e=>⟨#[],by rw [e];simp⟩) (fun m hm=>?_) (fun b u e=>?_) I.bare
  · obtain ⟨f0,f1,f2,f3,f4,f5⟩:=hf b hb
    exact ⟨f3,f1,f4,f5⟩
  · obtain ⟨o,es,ep,ho,r⟩:=hm
    exact ⟨o,es,ep,k _ o (fun z=>(hf _ z).2.1 rfl) ho,r⟩
  · refine (I.hok b u e).stay (fun c v hc q=>k c v ?_ q) (fun _ q=>q) fun _ _ q=>q
    rcases hc with z | z
    · rw [z];exact nit b u e
    · exact nit c _ z
def Itz (K:PySem.W.Frag) (p q:Addr) (xs ys:List V):It:=⟨fun i H=>i < xs.length∧SqT K H p xs∧SqT K H q ys,fun i H x H'=>∃ T u v,x=.ref T∧H T=none∧H'=upd H T (.tup [u,v])∧xs[i]?=some u∧ys[i]?=some v,fun i H=>xs.length≤i∧SqT K H p xs∧SqT K H q ys⟩
def iZip (K:PySem.W.Frag) (ta:TA):TI:=fun σ H R=>ta σ H fun vs H1=>∃ p q xs ys,vs=[.ref p,.ref q]∧SqT K H1 p xs∧SqT K H1 q ys∧xs.length=ys.length∧R (Itz K p q xs ys) H1
section
variable {X:Cx}
end
section
variable {σ:St} {H:Hp} {nx:St→Hp→Prop} {B:V→St→Hp→(St→Hp→Prop)→Prop}
end
abbrev cTup (K:PySem.W.Frag):RC:=fun xs H Q=>∃ p ys,xs=[.ref p]∧((SqL K H p ys∧∀ l,H l=none→Q (.ref l) (upd H l (.tup ys)))∨(SqT K H p ys∧Q (.ref p) H))
def stepA (st:List (List V)) (v:V):Option (List (List V)):=if isJ v=true then (match st.reverse with | b :: a :: r=>some (r.reverse ++ [v :: (a ++ b)]) | _=>none) else some (st ++ [[v]])
def runA:List V→List (List V)→Option (List (List V))
  | [],st=>some st
  | v :: r,st=>(stepA st v).bind (runA r)
theorem runA_app:∀ (p q:List V) (st:List (List V)),runA (p ++ q) st=(runA p st).bind (runA q)
  | [],q,st=>rfl
  | v :: r,q,st=>by
    show (stepA st v).bind (runA (r ++ q))=((stepA st v).bind (runA r)).bind (runA q)
    cases stepA st v with
    | none=>rfl
    | some st'=>exact runA_app r q st'
end L2
namespace L2
open PySem PySem.W PyProof.Rows
section
variable {α β:Type} {lt:Nat→Nat→Bool} {n:Nat}
def kOk (lt:Nat→Nat→Bool) (n:Nat):KasT α→(α→Prop)→Prop
  | .ret a,R=>R a
  | .ask i j k,R=>i < n∧j < n∧i≠j∧kOk lt n (k (lt i j)) R
theorem kOk_bind:∀ {t:KasT α} {f:α→KasT β} {R:β→Prop},kOk lt n t (fun a=>kOk lt n (f a) R)→kOk lt n (t.bind f) R
  | .ret _,_,_,h=>h
  | .ask _ _ _,_,_,h=>⟨h.1,h.2.1,h.2.2.1,kOk_bind h.2.2.2⟩
theorem kOk_mono:∀ {t:KasT α} {R R':α→Prop},kOk lt n t R→(∀ a,R a→R' a)→kOk lt n t R'
  | .ret _,_,_,h,m=>m _ h
  | .ask _ _ _,_,_,h,m=>⟨h.1,h.2.1,h.2.2.1,kOk_mono h.2.2.2 m⟩
structure SO (lt:Nat→Nat→Bool) (n:Nat):Prop where
  irr:∀ i,i < n→lt i i=false
  trans:∀ i j k,i < n→j < n→k < n→lt i j=true→lt j k=true→lt i k=true
  tot:∀ i j,i < n→j < n→i≠j→lt i j=false→lt j i=true
def PP (n:Nat) (p:Array Nat):Prop:=p.Perm (List.range n).toArray
def gt (p:Array Nat) (k:Nat):Nat:=p.getD k 0
theorem gt_eq {p:Array Nat} {k:Nat} (h:k < p.size):p[k]?=some (gt p k):=by
  unfold gt
  rw [Array.getD_eq_getD_getElem?,Array.getElem?_eq_getElem h]
  rfl
theorem PP.size {p:Array Nat} (h:PP n p):p.size=n:=by
  have:=h.size_eq
  simpa using this
theorem PP.blt {p:Array Nat} (h:PP n p) {k:Nat} (hk:k < n):gt p k < n:=by
  have hs:=h.size
  have m:gt p k∈p:=Array.mem_of_getElem? (gt_eq (by omega))
  have m2:gt p k∈(List.range n).toArray:=(Array.Perm.mem_iff h).mp m
  simpa using m2
theorem PP.inj {p:Array Nat} (h:PP n p) {i j:Nat} (hi:i < n) (hj:j < n) (e:gt p i=gt p j):i=j:=by
  have hs:=h.size
  have nd:p.toList.Nodup:=by
    have:p.toList.Perm (List.range n):=by
      have:=Array.perm_iff_toList_perm.mp h
      simpa using this
    exact this.nodup_iff.mpr List.nodup_range
  have e1:=gt_eq (p:=p) (k:=i) (by omega)
  have e2:=gt_eq (p:=p) (k:=j) (by omega)
  rw [← e] at e2
  have e1':p.toList[i]?=some (gt p i):=by simpa using e1
  have e2':p.toList[j]?=some (gt p i):=by simpa using e2
  obtain ⟨a1,b1⟩:=List.getElem?_eq_some_iff.mp e1'
  obtain ⟨a2,b2⟩:=List.getElem?_eq_some_iff.mp e2'
  exact (List.getElem_inj nd).mp (b1.trans b2.symm)
def Rise (lt:Nat→Nat→Bool) (p:Array Nat) (m:Nat):Prop:=∀ i j,i < j→j < m→lt (gt p i) (gt p j)=true
def Fall (lt:Nat→Nat→Bool) (p:Array Nat) (m:Nat):Prop:=∀ i j,i < j→j < m→lt (gt p j) (gt p i)=true
theorem asc_ok (S:SO lt n) {p:Array Nat} (hp:PP n p):∀ (f a:Nat),1≤a→a + f≤n→Rise lt p a→kOk lt n (kas_asc p f a) fun m=>a≤m∧m≤a + f∧Rise lt p m∧(m < a + f→lt (gt p m) (gt p (m - 1))=true)
  | 0,a,h1,h2,hr=>⟨Nat.le_refl _,Nat.le_refl _,hr,fun z=>absurd z (Nat.lt_irrefl _)⟩
  | f + 1,a,h1,h2,hr=>by
    refine ⟨hp.blt (by omega),hp.blt (by omega),(fun z=>by have:=hp.inj (by omega) (by omega) z;omega),?_⟩
    show kOk lt n (if lt (gt p a) (gt p (a - 1))=true then .ret a else kas_asc p f (a + 1)) _
    by_cases c:lt (gt p a) (gt p (a - 1))=true
    · rw [if_pos c]
      exact ⟨Nat.le_refl _,by omega,hr,fun _=>c⟩
    · rw [if_neg c]
      have up:lt (gt p (a - 1)) (gt p a)=true:=S.tot _ _ (hp.blt (by omega)) (hp.blt (by omega)) (fun z=>by have:=hp.inj (by omega) (by omega) z;omega) (Bool.eq_false_iff.mpr c)
      refine kOk_mono (asc_ok S hp f (a + 1) (by omega) (by omega) fun i j hij hj=>?_) fun m ⟨x1,x2,x3,x4⟩=>⟨by omega,by omega,x3,fun z=>x4 (by omega)⟩
      by_cases hja:j < a
      · exact hr i j hij hja
      · obtain rfl:j=a:=by omega
        by_cases hi:i=j - 1
        · rw [hi];exact up
        · exact S.trans _ _ _ (hp.blt (by omega)) (hp.blt (by omega)) (hp.blt (by omega)) (hr i (j - 1) (by omega) (by omega)) up
theorem desc_ok (S:SO lt n) {p:Array Nat} (hp:PP n p):∀ (f a:Nat),1≤a→a + f≤n→Fall lt p a→kOk lt n (kas_desc f p a 0) fun r=>r.1=p∧r.2.2=0∧a≤r.2.1∧r.2.1≤a + f∧Fall lt p r.2.1
  | 0,a,h1,h2,hr=>⟨rfl,rfl,Nat.le_refl _,Nat.le_refl _,hr⟩
  | f + 1,a,h1,h2,hr=>by
    refine ⟨hp.blt (by omega),hp.blt (by omega),(fun z=>by have:=hp.inj (by omega) (by omega) z;omega),?_⟩
    show kOk lt n (if lt (gt p a) (gt p (a - 1))=true then (if 0 > 0 then _ else kas_desc f p (a + 1) 0) else .ask (gt p (a - 1)) (gt p a) fun d=>if d=true then .ret (p,a,0) else kas_desc f p (a + 1) (0 + 1)) _
    by_cases c:lt (gt p a) (gt p (a - 1))=true
    · rw [if_pos c,if_neg (by omega)]
      refine kOk_mono (desc_ok S hp f (a + 1) (by omega) (by omega) fun i j hij hj=>?_) fun m ⟨x1,x2,x3,x4,x5⟩=>⟨x1,x2,by omega,by omega,x5⟩
      by_cases hja:j < a
      · exact hr i j hij hja
      · obtain rfl:j=a:=by omega
        by_cases hi:i=j - 1
        · rw [hi];exact c
        · exact S.trans _ _ _ (hp.blt (by omega)) (hp.blt (by omega)) (hp.blt (by omega)) c (hr i (j - 1) (by omega) (by omega))
    · rw [if_neg c]
      have up:lt (gt p (a - 1)) (gt p a)=true:=S.tot _ _ (hp.blt (by omega)) (hp.blt (by omega)) (fun z=>by have:=hp.inj (by omega) (by omega) z;omega) (Bool.eq_false_iff.mpr c)
      refine ⟨hp.blt (by omega),hp.blt (by omega),(fun z=>by have:=hp.inj (by omega) (by omega) z;omega),?_⟩
      show kOk lt n (if lt (gt p (a - 1)) (gt p a)=true then .ret (p,a,0) else _) _
      rw [if_pos up]
      exact ⟨rfl,rfl,Nat.le_refl _,Nat.le_add_right _ _,hr⟩
theorem rev_gt {p:Array Nat} {m k:Nat} (hm:m≤p.size) (hk:k < m):gt (kas_rev p 0 m) k=gt p (m - 1 - k):=by
  have e:=getElem?_mirror_all (xs:=p) (i:=0) (j:=m) hm k
  rw [if_pos ⟨Nat.zero_le _,hk⟩] at e
  have e1:=gt_eq (p:=kas_rev p 0 m) (k:=k) (by unfold kas_rev;rw [mirror_size];omega)
  have e2:=gt_eq (p:=p) (k:=m - 1 - k) (by omega)
  unfold kas_rev at e1 ⊢
  rw [e,show 0 + m - 1 - k=m - 1 - k by omega,e2] at e1
  exact (Option.some.inj e1).symm
theorem PP.rev {p:Array Nat} (h:PP n p) (m:Nat):PP n (kas_rev p 0 m):=Array.Perm.trans (mirror_perm _ _ _ _) h
theorem tail_ok (S:SO lt n) {p:Array Nat} (hp:PP n p) {m:Nat} (h1:1≤m) (h2:m≤n) (hf:Fall lt p m):kOk lt n (kas_tail3 m n p) fun r=>PP n r.2∧Rise lt r.2 r.1∧1≤r.1∧r.1≤n:=by
  refine kOk_bind (kOk_mono (asc_ok S (hp.rev m) (n - m) m h1 (by omega) fun i j hij hj=>?_) fun a ⟨x1,x2,x3,_⟩=>⟨hp.rev m,x3,by omega,by omega⟩)
  have hs:=hp.size
  rw [rev_gt (by omega) (by omega),rev_gt (by omega) hj]
  exact hf _ _ (by omega) (by omega)
theorem count_ok (S:SO lt n) {p:Array Nat} (hp:PP n p) (hn:1≤n):kOk lt n (kas_count n p) fun r=>PP n r.2∧Rise lt r.2 r.1∧1≤r.1∧r.1≤n:=by
  refine kOk_bind (kOk_mono (asc_ok S hp (n - 1) 1 (Nat.le_refl _) (by omega) fun i j hij hj=>by omega) fun m ⟨x1,x2,x3,x4⟩=>?_)
  by_cases e:(m == n)=true
  · rw [if_pos e]
    exact ⟨hp,x3,x1,by omega⟩
  · rw [if_neg e]
    have ne:m≠n:=by simpa using e
    by_cases h:m > 1
    · rw [if_pos h]
      refine ⟨hp.blt (by omega),hp.blt (by omega),(fun z=>by have:=hp.inj (by omega) (by omega) z;omega),?_⟩
      show kOk lt n (if lt (gt p 0) (gt p (m - 1))=true then .ret (m,p) else _) _
      rw [if_pos (x3 0 (m - 1) (by omega) (by omega))]
      exact ⟨hp,x3,x1,by omega⟩
    · rw [if_neg h]
      obtain rfl:m=1:=by omega
      have c:=x4 (by omega)
      refine kOk_bind (kOk_mono (desc_ok S hp (n - 2) 2 (by omega) (by omega) fun i j hij hj=>?_) fun r ⟨y1,y2,y3,y4,y5⟩=>?_)
      · obtain rfl:j=1:=by omega
        obtain rfl:i=0:=by omega
        exact c
      · rw [if_neg (by omega),y1]
        exact tail_ok S hp (by omega) (by omega) y5
theorem place_ok (S:SO lt n) {p:Array Nat} (hp:PP n p) {k:Nat} (hk:k < n) (hr:Rise lt p k):∀ (f l r:Nat),l≤r→r≤k→r - l≤f→(∀ i,i < l→lt (gt p i) (gt p k)=true)→(∀ i,r≤i→i < k→lt (gt p k) (gt p i)=true) →
    kOk lt n (kas_place p k f l r) fun m=>m≤k∧(∀ i,i < m→lt (gt p i) (gt p k)=true)∧∀ i,m≤i→i < k→lt (gt p k) (gt p i)=true
  | 0,l,r,h1,h2,h3,h4,h5=>⟨by omega,h4,fun i hi hik=>h5 i (by omega) hik⟩
  | f + 1,l,r,h1,h2,h3,h4,h5=>by
    unfold kas_place
    by_cases c:l ≥ r
    · rw [if_pos c]
      exact ⟨by omega,h4,fun i hi hik=>h5 i (by omega) hik⟩
    · rw [if_neg c]
      refine ⟨hp.blt (by omega),hp.blt (by omega),(fun z=>by have:=hp.inj (by omega) (by omega) z;omega),?_⟩
      show kOk lt n (if lt (gt p k) (gt p ((l + r) / 2))=true then _ else _) _
      by_cases d:lt (gt p k) (gt p ((l + r) / 2))=true
      · rw [if_pos d]
        refine place_ok S hp hk hr f l ((l + r) / 2) (by omega) (by omega) (by omega) h4 fun i hi hik=>?_
        by_cases e:i=(l + r) / 2
        · rw [e];exact d
        · exact S.trans _ _ _ (hp.blt (by omega)) (hp.blt (by omega)) (hp.blt (by omega)) d (hr _ i (by omega) hik)
      · rw [if_neg d]
        have up:lt (gt p ((l + r) / 2)) (gt p k)=true:=S.tot _ _ (hp.blt (by omega)) (hp.blt (by omega)) (fun z=>by have:=hp.inj (by omega) (by omega) z;omega) (Bool.eq_false_iff.mpr d)
        refine place_ok S hp hk hr f ((l + r) / 2 + 1) r (by omega) (by omega) (by omega) (fun i hi=>?_) h5
        by_cases e:i=(l + r) / 2
        · rw [e];exact up
        · exact S.trans _ _ _ (hp.blt (by omega)) (hp.blt (by omega)) (hp.blt (by omega)) (hr i _ (by omega) (by omega)) up
theorem bub_gt {p:Array Nat} {k d j:Nat} (hk:k < p.size) (hd:d≤k) (hj:j < p.size):gt (bubble p k d) j=if j=k - d then gt p k else if k - d < j∧j≤k then gt p (j - 1) else gt p j:=by
  have e:=getElem?_bubble hk d hd j
  rw [gt_eq (p:=bubble p k d) (k:=j) (by rw [bubble_size];exact hj)] at e
  by_cases h1:j=k - d
  · rw [if_pos h1,gt_eq hk] at e
    rw [if_pos h1];exact Option.some.inj e
  · rw [if_neg h1] at e ⊢
    by_cases h2:k - d < j∧j≤k
    · rw [if_pos h2,gt_eq (by omega)] at e
      rw [if_pos h2];exact Option.some.inj e
    · rw [if_neg h2,gt_eq hj] at e
      rw [if_neg h2];exact Option.some.inj e
theorem bin_ok (S:SO lt n):∀ (f:Nat) {p:Array Nat} (k:Nat),PP n p→k + f=n→Rise lt p k→kOk lt n (kas_bin f p k) fun p'=>PP n p'∧Rise lt p' n
  | 0,p,k,hp,hk,hr=>⟨hp,by rw [← hk];exact hr⟩
  | f + 1,p,k,hp,hk,hr=>by
    have hs:=hp.size
    refine kOk_bind (kOk_mono (place_ok S hp (by omega) hr k 0 k (Nat.zero_le _) (Nat.le_refl _) (by omega) (fun i hi=>by omega) (fun i h1 h2=>by omega)) fun l ⟨x1,x2,x3⟩=>?_)
    refine bin_ok S f (k + 1) (Array.Perm.trans (bubble_perm _ _ _) hp) (by omega) fun i j hij hj=>?_
    rw [bub_gt (by omega) (by omega) (by omega),bub_gt (by omega) (by omega) (by omega)]
    have e:k - (k - l)=l:=by omega
    rw [e]
    by_cases hi:i=l
    · rw [if_pos hi,if_neg (by omega),if_pos (by omega)]
      exact x3 _ (by omega) (by omega)
    · rw [if_neg hi]
      by_cases hi2:l < i∧i≤k
      · rw [if_pos hi2,if_neg (by omega),if_pos (by omega)]
        exact hr _ _ (by omega) (by omega)
      · rw [if_neg hi2]
        by_cases hj1:j=l
        · rw [if_pos hj1]
          exact x2 _ (by omega)
        · rw [if_neg hj1]
          by_cases hj2:l < j∧j≤k
          · rw [if_pos hj2]
            by_cases hij2:i < j - 1
            · exact hr _ _ hij2 (by omega)
            · omega
          · rw [if_neg hj2]
            exact hr _ _ hij (by omega)
theorem sort_ok (S:SO lt n) (hn:1≤n):kOk lt n (kas_sort n) fun p=>PP n p∧Rise lt p n:=by
  refine kOk_bind (kOk_mono (count_ok S (p:=List.toArray (List.range n)) (Array.Perm.refl _) hn) fun r ⟨x1,x2,x3,x4⟩=>?_)
  by_cases h:r.1 < n
  · rw [if_pos h,Nat.max_eq_left x3]
    exact bin_ok S _ _ x1 (by omega) x2
  · rw [if_neg h]
    obtain e:r.1=n:=by omega
    exact ⟨x1,by rw [← e];rw [e] at x2 ⊢;exact x2⟩
end
end L2
namespace L2
open PySem PySem.W PyProof.Rows
theorem kOk_at {α:Type} {lt:Nat→Nat→Bool} {n:Nat} {s:Shared} {cmp:Nat→Nat→(Bool→Shared→Prop)→Shared→Prop} (hc:∀ i j C,i < n→j < n→i≠j→C (lt i j) s→cmp i j C s):∀ {t:KasT α} {R:α→Prop} {Q:α→Shared→Prop},kOk lt n t R→(∀ a,R a→Q a s)→t.kasWp cmp Q s
  | .ret _,_,_,h,m=>m _ h
  | .ask _ _ _,_,_,h,m=>hc _ _ _ h.1 h.2.1 h.2.2.1 (kOk_at hc h.2.2.2 m)
def Kp (a:Addr) (h h':Heap):Prop:=∀ b o,b≠a→h.get? b=some o→h'.get? b=some o
def outOf (vs:List Value) (p:Array Nat):List Value:=p.toList.map fun i=>vs.getD i Value.none
theorem outOf_range (vs:List Value):outOf vs (List.toArray (List.range vs.length))=vs:=by
  unfold outOf
  apply List.ext_getElem?
  intro i
  simp only [List.getElem?_map]
  by_cases h:i < vs.length
  · rw [List.getElem?_eq_getElem (l:=vs) h]
    simp [List.getElem?_range h,h]
  · rw [List.getElem?_eq_none (by omega:vs.length≤i)]
    simp
    omega
section
variable {P:Program} {w:World} {A:Around} {E:Value→Shared→Prop} {s:Shared}
theorem lsort_pure {a:Addr} {vs:List Value} {n:Nat} {κ:SortKind} {lt:Nat→Nat→Bool} {R:PySem.Fin→Shared→Prop} (ho:s.heap.get? a=some (seqObj "list" vs.toArray n)) (h64:vs.length < 64)
    (hk:2≤vs.length→∀ (h:Heap) (Q:SortKind→Shared→Prop),Kp a s.heap h→Q κ { s with heap:=h }→wpAny (model P w) A (keyKind' vs.toArray) Q (fun _ _=>False) { s with heap:=h })
    (hc:∀ (h:Heap) i j C,Kp a s.heap h→i < vs.length→j < vs.length→i≠j→C (lt i j) { s with heap:=h }→kas_ask P w A κ vs i j C { s with heap:=h }) (S:SO lt vs.length)
    (fin:∀ h p c,Kp a s.heap h→h.get? a=some (seqObj "list" (outOf vs p).toArray c)→PP vs.length p→Rise lt p vs.length→R (.done (.ret .none)) { s with heap:=h }) :
    wpAny (model P w) A (Builtin.«list.sort» ⟨[.ref a],[]⟩) R E s:=by
  have ha:a < s.heap.objs.size:=Heap.lt_size ho
  obtain ⟨e1,o1⟩:∃ e1,(s.heap.update a (Obj.mapSeq fun _=>(#[]:Array Value))).get? a=some (seqObj "list" #[] e1):=⟨_,get?_update_seq ho fun _=>#[]⟩
  have k1:Kp a s.heap (((s.heap.update a (Obj.mapSeq fun _=>(#[]:Array Value))).push (seqObj "tuple" vs.toArray 0)).push (seqObj "list" #[] 0)):=fun b o hb e =>
    Heap.get?_push_of_some _ (Heap.get?_push_of_some _ ((Heap.get?_update_other _ _ (Ne.symm hb)).trans e))
  have o3:(((s.heap.update a (Obj.mapSeq fun _=>(#[]:Array Value))).push (seqObj "tuple" vs.toArray 0)).push (seqObj "list" #[] 0)).get? a=some (seqObj "list" #[] e1):=Heap.get?_push_of_some _ (Heap.get?_push_of_some _ o1)
  have last:∀ out:List Value,out.length=vs.length→∃ c,((((s.heap.update a (Obj.mapSeq fun _=>(#[]:Array Value))).push (seqObj "tuple" vs.toArray 0)).push (seqObj "list" #[] 0)).update a (Obj.mapSeq fun _=>out.toArray)).get? a=some (seqObj "list" out.toArray c):=fun out _=>⟨_,get?_update_seq o3 fun _=>out.toArray⟩
  have keep2:∀ out:List Value,Kp a s.heap ((((s.heap.update a (Obj.mapSeq fun _=>(#[]:Array Value))).push (seqObj "tuple" vs.toArray 0)).push (seqObj "list" #[] 0)).update a (Obj.mapSeq fun _=>out.toArray)):=fun out b o hb e =>
    (Heap.get?_update_other _ _ (Ne.symm hb)).trans (k1 b o hb e)
  rw [list_sort_plain];refine wpAny_bind (listItems_at ho rfl ?_)
  refine wpAny_bind (listUpdate_at ho rfl ?_ (by rw [List.size_toArray,sizeLine_eq];omega) (Nat.zero_le _));refine wpAny_bind (seqEpoch_at o1 rfl ?_)
  refine wpAny_bind (wpAny_newTuple ?_ (by show vs.length≤_;rw [sizeLine_eq];omega));refine wpAny_bind (wpAny_newList ?_ (Nat.zero_le _));refine wpAny_holding ?_
  show wpAny (model P w) A _ R E { s with heap:=((s.heap.update a (Obj.mapSeq fun _=>(#[]:Array Value))).push (seqObj "tuple" vs.toArray 0)).push (seqObj "list" #[] 0) }
  generalize hH:((s.heap.update a (Obj.mapSeq fun _=>(#[]:Array Value))).push (seqObj "tuple" vs.toArray 0)).push (seqObj "list" #[] 0)=g at *
  dsimp only
  have up:∀ out:List Value,out.length=vs.length→∀ p,out=outOf vs p→PP vs.length p→Rise lt p vs.length→R (.done (.ret .none)) { s with heap:=g.update a (Obj.mapSeq fun _=>out.toArray) }:=fun out hl p e hp hr=>by
    obtain ⟨c,hcc⟩:=last out hl
    refine fin _ p c (keep2 out) ?_ hp hr
    rw [← e];exact hcc
  by_cases h2:vs.toArray.size < 2
  · have hl2:vs.length < 2:=by simpa using h2
    rw [if_pos h2,if_pos h2];refine wpAny_bind (wpAny_pure ?_);rw [StateT.run_pure];refine wpAny_bind (wpAny_pure ?_)
    dsimp only
    have ez:((vs.toArray.zip vs.toArray).map (·.2))=vs.toArray:=by
      apply Array.toList_inj.mp
      rw [Array.toList_map,Array.toList_zip]
      simp [List.map_snd_zip]
    refine wpAny_bind (seqEpoch_at o3 rfl ?_)
    rw [show (arrOf (SortSt.mk' general' (vs.toArray.zip vs.toArray) #[] 7 none))=vs.toArray.zip vs.toArray from rfl,ez]
    refine wpAny_bind (listUpdate_at o3 rfl ?_ (Nat.zero_le _) (by rw [List.size_toArray,sizeLine_eq];omega))
    simp only [bne_self_eq_false,Bool.false_eq_true,if_false]
    exact wpAny_pure (up vs rfl _ (outOf_range vs).symm (Array.Perm.refl _) fun i j hij hj=>by omega)
  · have hl2:2≤vs.length:=by simpa using h2
    rw [if_neg h2,if_neg h2];refine wpAny_bind (wpAny_mono (hk hl2 g (fun κ' s'=>κ'=κ∧s'={ s with heap:=g }) k1 ⟨rfl,rfl⟩) (fun κ' s' hs=>?_) fun _ _ x=>x.elim)
    obtain ⟨rfl,rfl⟩:=hs
    have run:=kOk_at (s:={ s with heap:=g }) (cmp:=kas_ask P w A κ' vs) (fun i j C hi hj hij hC=>hc g i j C k1 hi hj hij hC) (sort_ok S (by omega)) (Q:=fun p s'=>s'={ s with heap:=g }∧PP vs.length p∧Rise lt p vs.length) fun p hp=>⟨rfl,hp⟩
    refine wpAny_bind (wpAny_mono (kat_run (ks:=vs) (Q:=fun st s'=>∃ p:Array Nat,arrOf st=p.map (kas_item (vs.toArray.zip vs.toArray))∧failedOf st=none∧s'={ s with heap:=g }∧PP vs.length p∧Rise lt p vs.length) rfl hl2 h64 (fun p st s' _ a2 a3 a4=>⟨p,a2,a3,a4⟩) run) ?_ fun _ _ e=>e)
    rintro ⟨⟨⟩,st⟩ s' ⟨p,har,hf,rfl,hp,hr⟩
    dsimp only
    have out:=kat_snds (ks:=vs) rfl har
    have ol:(outOf vs p).length=vs.length:=by unfold outOf;rw [List.length_map,Array.length_toList,hp.size]
    rw [out];refine wpAny_bind (seqEpoch_at o3 rfl ?_)
    refine wpAny_bind (listUpdate_at o3 rfl ?_ (Nat.zero_le _) (by show (List.toArray (outOf vs p)).size≤_;rw [List.size_toArray,ol,sizeLine_eq];omega));rw [hf]
    simp only [bne_self_eq_false,Bool.false_eq_true,if_false]
    exact wpAny_pure (up (outOf vs p) ol p rfl hp hr)
theorem sorted_pure {l:Addr} {vs:List Value} {κ:SortKind} {lt:Nat→Nat→Bool} {Q:Value→Shared→Prop} (h64:vs.length < 64) (S:SO lt vs.length)
    (coll:∀ R:List Value→Shared→Prop,(∀ (h:Heap) (tk:Nat),(∀ b o,s.heap.get? b=some o→h.get? b=some o)→R vs { s with heap:=h,toks:=tk })→wpAny (model P w) A.in1 (collect (.ref l)) R E s)
    (hk:2≤vs.length→∀ (h:Heap) (tk:Nat) (Q:SortKind→Shared→Prop),(∀ b o,s.heap.get? b=some o→h.get? b=some o)→Q κ { s with heap:=h,toks:=tk }→wpAny (model P w) A.in1.in1 (keyKind' vs.toArray) Q (fun _ _=>False) { s with heap:=h,toks:=tk })
    (hc:∀ (h:Heap) (tk:Nat) i j C,(∀ b o,s.heap.get? b=some o→h.get? b=some o)→i < vs.length→j < vs.length→i≠j→C (lt i j) { s with heap:=h,toks:=tk }→kas_ask P w A.in1.in1 κ vs i j C { s with heap:=h,toks:=tk })
    (fin:∀ (h:Heap) (tk:Nat) (h':Heap) (p:Array Nat) (c:Nat),(∀ b o,s.heap.get? b=some o→h.get? b=some o)→(∀ b o,h.get? b=some o→h'.get? b=some o)→h'.get? h.objs.size=some (seqObj "list" (outOf vs p).toArray c)→PP vs.length p→Rise lt p vs.length→Q (.ref h.objs.size) { s with heap:=h',toks:=tk }) :
    wpAny (model P w) A (call (.builtin "sorted") [.ref l]) Q E s:=by
  refine Calls.call_function_entry kind_sorted plain_sorted entry_sorted (args_sorted1 _) ?_;unfold Builtin.«sorted»
  refine wpAny_bind (m:=checkCount "sorted" 1 1 _) (wpAny_pure ?_);refine wpAny_bind (coll _ fun h tk hk1=>?_)
  refine wpAny_bind (wpAny_newList ?_ (by rw [sizeLine_eq];omega))
  have hoL:(h.push (seqObj "list" vs.toArray 0)).get? h.objs.size=some (seqObj "list" vs.toArray 0):=Heap.get?_push_size _ rfl
  have kept:∀ h',Kp h.objs.size (h.push (seqObj "list" vs.toArray 0)) h'→∀ b o,h.get? b=some o→h'.get? b=some o:=fun h' k b o e=>k b o (Nat.ne_of_lt (Heap.lt_size e)) (Heap.get?_push_of_some _ e)
  refine wpAny_bind (wpAny_holding (wpAny_call_entry slot_list_sort ⟨_,hoL,rfl⟩ entry_list_sort (lsort_pure (s:={ s with heap:=h.push (seqObj "list" vs.toArray 0),toks:=tk }) hoL h64 (κ:=κ) (lt:=lt) (fun h2 h' Q' k q=>?_) (fun h' i j C k hi hj hij q=>?_) S fun h' p c k ho hp hr=>?_) (args_list_sort _)))
  · exact hk h2 h' tk Q' (fun b o e=>kept h' k b o (hk1 b o e)) q
  · exact hc h' tk i j C (fun b o e=>kept h' k b o (hk1 b o e)) hi hj hij q
  · exact ⟨_,rfl,wpAny_pure ⟨_,rfl,fin h tk h' p c hk1 (kept h' k) ho hp hr⟩⟩
end
end L2
namespace L2
open PySem PySem.W PyProof.Rows
section
variable {lt:Nat→Nat→Bool} {n:Nat}
theorem PP.ask {p:Array Nat} (h:PP n p) {i j:Nat} (hi:i < n) (hj:j < n) (hij:i≠j):gt p i < n∧gt p j < n∧gt p i≠gt p j:=⟨h.blt hi,h.blt hj,fun z=>hij (h.inj hi hj z)⟩
theorem place_any {p:Array Nat} (hp:PP n p) {k:Nat} (hk:k < n):∀ (f l r:Nat),l≤r→r≤k→kOk lt n (kas_place p k f l r) fun m=>m≤k
  | 0,l,r,h1,h2=>Nat.le_trans h1 h2
  | f + 1,l,r,h1,h2=>by
    unfold kas_place
    split
    · exact Nat.le_trans h1 h2
    · obtain ⟨x,y,z⟩:=hp.ask (i:=k) (j:=(l + r) / 2) (by omega) (by omega) (by omega)
      refine ⟨x,y,z,?_⟩
      show kOk lt n (if lt (gt p k) (gt p ((l + r) / 2))=true then kas_place p k f l ((l + r) / 2) else kas_place p k f ((l + r) / 2 + 1) r) _
      split
      · exact place_any hp hk f l _ (by omega) (by omega)
      · exact place_any hp hk f _ r (by omega) (by omega)
end
section
variable {P:Program} {w:World} {A:Around} {E:Value→Shared→Prop} {s:Shared}
end
end L2
namespace L2
open PySem PySem.W PyProof.Rows
def placeLt (a b:Str × Int):Bool:=if a.1=b.1 then decide (a.2 < b.2) else decide (a.1.cps.toList < b.1.cps.toList)
def PlAt (h:Heap) (v:Value) (q:Str × Int):Prop:=∃ a o t u n,v=.ref a∧h.get? a=some o∧o.cls=.type "tuple"∧o.data=.seq #[.str q.1 t,.int q.2 u] n
section
variable {P:Program} {w:World} {A:Around} {E:Value→Shared→Prop} {s:Shared}
theorem lt1_str {a c:Str} {t u:Tok} {Q:Bool→Shared→Prop} (h:Q (decide (a.cps.toList < c.cps.toList)) s):wpAny (model P w) A (oneLt' true (.str a t) (.str c u)) Q E s:=by
  rw [← keyLt'_oneType]
  exact kas_lt_str h
theorem lt0_int {a c:Int} {t u:Tok} {Q:Bool→Shared→Prop} (h:Q (decide (a < c)) s):wpAny (model P w) A (oneLt' false (.int a t) (.int c u)) Q E s :=
  kat_one _ _ (PyProof.Rows.lt_int (show PySem.W.BoolBack Q (.bool (decide (a < c))) s from h))
theorem ask_place {x y:Value} {a b:Str × Int} {Q:Bool→Shared→Prop} (hx:PlAt s.heap x a) (hy:PlAt s.heap y b) (h:Q (placeLt a b) s) (hn:a≠b):wpAny (model P w) A (keyLt' (tuples' true) x y) Q E s:=by
  obtain ⟨p,o,t,u,n,rfl,ho,hc,hd⟩:=hx
  obtain ⟨p2,o2,t2,u2,n2,rfl,ho2,hc2,hd2⟩:=hy
  refine kat_lt ho hd ho2 hd2 (kat_cons (wpAny_eqBool_str (kat_go (fun e=>kat_yes (kat_cons (wpAny_eqBool_int (kat_go (fun e2=>?_) fun e2=>kat_no ?_)))) fun e=>kat_no ?_)))
  · exact absurd (Prod.ext (of_decide_eq_true e) (by simpa using e2)) hn
  · have e:=of_decide_eq_true e
    unfold placeLt at h
    rw [if_pos e] at h
    exact lt0_int h
  · have e:=of_decide_eq_false e
    unfold placeLt at h
    rw [if_neg e] at h
    exact lt1_str h
theorem kind_place {vs:List Value} {qs:List (Str × Int)} {Q:SortKind→Shared→Prop} (hl:vs.length=qs.length) (hv:∀ (i:Nat) (v:Value) (q:Str × Int),vs[i]?=some v→qs[i]?=some q→PlAt s.heap v q) (h2:0 < vs.length) (h:Q (tuples' true) s) :
    wpAny (model P w) A (keyKind' vs.toArray) Q E s:=by
  have T:∀ (vs:List Value) (qs:List (Str × Int)),vs.length=qs.length→(∀ (i:Nat) (v:Value) (q:Str × Int),vs[i]?=some v→qs[i]?=some q→PlAt s.heap v q)→∃ fs,KatTups s.heap vs fs∧fs.length=vs.length∧∀ v∈fs,∃ x t,v=Value.str x t:=by
    intro vs
    induction vs with
    | nil=>exact fun qs _ _=>⟨[],trivial,rfl,fun _ z=>nomatch z⟩
    | cons v r ih =>
      intro qs hl hv
      match qs,hl with
      | q :: qr,hl =>
        obtain ⟨fs,k,kl,kf⟩:=ih qr (by simpa using hl) fun i v' q' e1 e2=>hv (i + 1) v' q' (by simpa using e1) (by simpa using e2)
        obtain ⟨a,o,t,u,n,rfl,ho,hc,hd⟩:=hv 0 v q rfl rfl
        refine ⟨.str q.1 t :: fs,KatTups.cons ho hc hd rfl k,by simp [kl],fun z hz=>?_⟩
        rcases List.mem_cons.mp hz with rfl | hz
        · exact ⟨_,_,rfl⟩
        · exact kf z hz
  obtain ⟨fs,k,kl,kf⟩:=T vs qs hl hv
  refine kat_kind (T:=.type "str") k (by omega) (fun v hv=>?_) (by decide) h
  obtain ⟨x,t,rfl⟩:=kf v hv
  exact Looks.of_pure rfl
end
theorem str_cps_inj {x y:Str} (h:x.cps.toList=y.cps.toList):x=y:=by
  obtain ⟨a⟩:=x
  obtain ⟨b⟩:=y
  have:a=b:=Array.toList_inj.mp h
  rw [this]
theorem placeLt_so {qs:List (Str × Int)} (hn:qs.Nodup):SO (fun i j=>placeLt (qs.getD i ("",0)) (qs.getD j ("",0))) qs.length where
  irr:=fun i _=>by
    unfold placeLt
    rw [if_pos rfl]
    exact decide_eq_false (by omega)
  trans:=fun i j k _ _ _ h1 h2=>by
    generalize qs.getD i ("",0)=a at *
    generalize qs.getD j ("",0)=b at *
    generalize qs.getD k ("",0)=c at *
    unfold placeLt at *
    by_cases e1:a.1=b.1
    · rw [if_pos e1] at h1
      by_cases e2:b.1=c.1
      · rw [if_pos e2] at h2
        rw [if_pos (e1.trans e2)]
        have h1:=of_decide_eq_true h1
        have h2:=of_decide_eq_true h2
        exact decide_eq_true (by omega)
      · rw [if_neg e2] at h2
        rw [if_neg (by rw [e1];exact e2),e1]
        exact h2
    · rw [if_neg e1] at h1
      have h1:=of_decide_eq_true h1
      by_cases e2:b.1=c.1
      · rw [if_neg (by rw [← e2];exact e1),← e2]
        exact decide_eq_true h1
      · rw [if_neg e2] at h2
        have h2:=of_decide_eq_true h2
        have h3:=List.lt_trans h1 h2
        rw [if_neg (fun z=>by rw [z] at h3;exact List.lt_irrefl _ h3)]
        exact decide_eq_true h3
  tot:=fun i j hi hj hij h=>by
    have ne:qs.getD i ("",0)≠qs.getD j ("",0):=fun z=>hij (by
      rw [List.getD_eq_getElem?_getD,List.getD_eq_getElem?_getD,List.getElem?_eq_getElem hi,List.getElem?_eq_getElem hj] at z
      exact (List.getElem_inj hn).mp z)
    generalize qs.getD i ("",0)=a at *
    generalize qs.getD j ("",0)=b at *
    unfold placeLt at *
    by_cases e:a.1=b.1
    · rw [if_pos e] at h
      rw [if_pos e.symm]
      have h:=of_decide_eq_false h
      have:a.2≠b.2:=fun z=>ne (Prod.ext e z)
      exact decide_eq_true (by omega)
    · rw [if_neg e] at h
      rw [if_neg (fun z=>e z.symm)]
      have h:=of_decide_eq_false h
      refine decide_eq_true ?_
      rcases List.le_iff_lt_or_eq.mp (List.not_lt.mp h) with z | z
      · exact z
      · exact absurd (str_cps_inj z.symm) e
end L2
namespace L2
open PySem
def RawD (h:Heap) (d:Addr) (es:Array DictEntry) (ep:Nat):Prop:=∃ o,h.get? d=some o∧o.ExactDict∧o.data=.dict es ep
section
variable {P:Program} {w:World} {A:Around} {E:Value→Shared→Prop} {s:Shared}
theorem RawD.type {d:Addr} {es:Array DictEntry} {ep:Nat} (x:RawD s.heap d es ep):s.TypeIs (.ref d) "dict":=let ⟨o,ho,hc,_⟩:=x;⟨o,ho,hc.1⟩
theorem raw_iter {d:Addr} {es:Array DictEntry} {ep:Nat} {Q:Value→Shared→Prop} (lo:(d == sysModules)=false) (hm:RawD s.heap d es ep)
    (q:Q (.ref s.heap.objs.size) { s with heap:=s.heap.push { cls:=.type "dict_keyiterator",data:=.fields #[.ref d,.int 0 0,.int es.size 0,.int ep 0] } }):wpAny (model P w) A (pyIter (.ref d)) Q E s:=by
  have T:=hm.type
  obtain ⟨o,ho,hc,hd⟩:=id hm
  refine wpAny_pyIter_slot T F.slot_dict_iter (wpAny_call_entry F.slot_dict_iter T F.entry_dict_iter ?_ (F.args_dict_iter_1 _));unfold Builtin.«dict.__iter__»
  refine wpAny_bind ?_;unfold Builtin.Dict.dictSlotNone;refine wpAny_bind (wpAny_notOrdered_dict T ?_)
  show wpAny _ _ (pure (Value.ref d)) _ _ s;refine wpAny_pure ?_
  show wpAny _ _ (Builtin.Dict.showsAll d >>= _) _ _ s;unfold Builtin.Dict.showsAll
  rw [if_neg (by rw [lo];exact Bool.false_ne_true)];refine wpAny_bind (wpAny_pure ?_)
  refine wpAny_bind (wpAny_dictEntries ho hd ?_);refine wpAny_bind (wpAny_dictEpoch ho hd ?_)
  refine wpAny_bind (wpAny_newObj_type (wpAny_pure ⟨_,rfl,"dict_keyiterator",_,⟨_,Heap.get?_push_size _ rfl,rfl⟩,F.slot_dict_keyiterator_next.lookup,?_⟩));simpa [rawInt] using q
theorem raw_item {it d:Addr} {i ep:Nat} {es:Array DictEntry} {e:DictEntry} {Q:Option Value→Shared→Prop} (hit:s.heap.IsKeyIter it d i es.size ep) (hm:RawD s.heap d es ep) (hx:es[i]?=some e)
    (q:∀ h,h.IsKeyIter it d (i + 1) es.size ep→Heap.SameBut it s.heap h→Q (some e.key) { s with heap:=h }):wpAny (model P w) A (pyNext (.ref it)) Q E s:=by
  obtain ⟨o,ho,hc,hd⟩:=id hit
  obtain ⟨od,hod,hcd,hdd⟩:=id hm
  have lt:i < es.size:=by
    rcases Nat.lt_or_ge i es.size with h | h
    · exact h
    · rw [Array.getElem?_eq_none h] at hx;cases hx
  unfold pyNext
  refine wpAny_bind (wpAny_attempt (wpAny_callSpecial?_slot (name:=Str.ofString "__next__") hit.typeIs F.slot_dict_keyiterator_next (wpAny_call_entry F.slot_dict_keyiterator_next hit.typeIs F.entry_dict_keyiterator_next ?_ (F.args_dict_keyiterator_next_1 _))))
  refine wpAny_bind (wpAny_pure ?_);refine wpAny_bind ?_;refine wpAny_bind ?_
  first | (refine wpAny_bind (wpAny_typeNameOfWhole_keyiter hit.typeIs (wpAny_pure ?_))) | (refine wpAny_bind (wpAny_typeNameOf_keyiter hit.typeIs (wpAny_pure ?_)))
  refine wpAny_bind (wpAny_fieldsOf ho hd ?_);have own:Builtin.Dict_items.ownsTuple "dict_keyiterator"=false:=by decide
  simp only [own,Bool.false_eq_true,if_false];show wpAny _ _ (if (Value.ref d == Value.none)=true then _ else _) _ _ s
  rw [if_neg (show ¬ ((Value.ref d == Value.none)=true) from Bool.false_ne_true)];refine wpAny_bind (wpAny_pure ?_);refine wpAny_bind (wpAny_dictEntries hod hdd ?_)
  rw [if_neg (by simp)];refine wpAny_bind (wpAny_pure ?_);refine wpAny_bind (wpAny_dictEpoch hod hdd ?_);rw [if_neg (by simp)];refine wpAny_pure ?_
  simp only [show ¬ ((i:Int) < 0) from by omega,if_false,Int.toNat_natCast,hx]
  refine wpAny_bind ?_
  first | (refine wpAny_bind (wpAny_typeNameOfWhole_keyiter hit.typeIs (wpAny_pure ?_))) | (refine wpAny_bind (wpAny_typeNameOf_keyiter hit.typeIs (wpAny_pure ?_)))
  refine wpAny_bind (wpAny_isOneOf_keyiter hit.typeIs ?_);show wpAny _ _ (setField (.ref it) 1 (rawInt ((i:Int) + 1)) >>= _) _ _ s
  refine wpAny_bind (wpAny_setField ho hd (by simp) ?_)
  have next:(s.heap.update it (Obj.mapFields (·.setIfInBounds 1 (rawInt ((i:Int) + 1))))).IsKeyIter it d (i + 1) es.size ep:=by
    refine ⟨_,Heap.get?_update_self _ ho (Obj.isFreed_of_fields (Obj.data_mapFields hd _)),(Obj.cls_mapFields ..).trans hc,?_⟩;rw [Obj.data_mapFields hd];simp [rawInt]
  refine wpAny_bind (wpAny_holding ?_)
  refine wpAny_bind (wpAny_isOneOf_keyiter (s:={ s with heap:=s.heap.update it (Obj.mapFields (·.setIfInBounds 1 (rawInt ((i:Int) + 1)))) }) next.typeIs ?_);show wpAny _ _ (pure e.key) _ _ _
  exact wpAny_pure (wpAny_pure ⟨_,rfl,wpAny_pure (q _ next (Heap.SameBut.update ..))⟩)
theorem raw_end {it d:Addr} {i ep:Nat} {es:Array DictEntry} {Q:Option Value→Shared→Prop} (hh:A.handled=none) (hit:s.heap.IsKeyIter it d i es.size ep) (hm:RawD s.heap d es ep) (hx:es.size≤i)
    (q:∀ h,Heap.ExtBut it s.heap h→Q none { s with heap:=h }):wpAny (model P w) A (pyNext (.ref it)) Q E s:=by
  obtain ⟨o,ho,hc,hd⟩:=id hit
  obtain ⟨od,hod,hcd,hdd⟩:=id hm
  unfold pyNext
  refine wpAny_bind (wpAny_attempt (wpAny_callSpecial?_slot (name:=Str.ofString "__next__") hit.typeIs F.slot_dict_keyiterator_next (wpAny_call_entry F.slot_dict_keyiterator_next hit.typeIs F.entry_dict_keyiterator_next ?_ (F.args_dict_keyiterator_next_1 _))))
  refine wpAny_bind (wpAny_pure ?_);refine wpAny_bind ?_;refine wpAny_bind ?_
  first | (refine wpAny_bind (wpAny_typeNameOfWhole_keyiter hit.typeIs (wpAny_pure ?_))) | (refine wpAny_bind (wpAny_typeNameOf_keyiter hit.typeIs (wpAny_pure ?_)))
  refine wpAny_bind (wpAny_fieldsOf ho hd ?_);have own:Builtin.Dict_items.ownsTuple "dict_keyiterator"=false:=by decide
  simp only [own,Bool.false_eq_true,if_false];show wpAny _ _ (if (Value.ref d == Value.none)=true then _ else _) _ _ s
  rw [if_neg (show ¬ ((Value.ref d == Value.none)=true) from Bool.false_ne_true)];refine wpAny_bind (wpAny_pure ?_);refine wpAny_bind (wpAny_dictEntries hod hdd ?_)
  rw [if_neg (by simp)];refine wpAny_bind (wpAny_pure ?_);refine wpAny_bind (wpAny_dictEpoch hod hdd ?_);rw [if_neg (by simp)];refine wpAny_pure ?_
  simp only [show ¬ ((i:Int) < 0) from by omega,if_false,Int.toNat_natCast,Array.getElem?_eq_none hx]
  refine wpAny_bind ?_
  first | (refine wpAny_bind (wpAny_typeNameOfWhole_keyiter hit.typeIs (wpAny_pure ?_))) | (refine wpAny_bind (wpAny_typeNameOf_keyiter hit.typeIs (wpAny_pure ?_)))
  show wpAny _ _ (setField (.ref it) 0 .none >>= _) _ _ s;refine wpAny_bind (wpAny_setField ho hd (by simp) ?_)
  show wpAny _ _ (newExc (.type "StopIteration") [] >>= _) _ _ _;refine wpAny_bind ?_;simp only [newExc,newTuple]
  refine wpAny_bind (wpAny_newObj_type ?_ (by size_fits));refine wpAny_bind (m:=firstArgMember _ _) (wpAny_of_eq (a:=Value.none) (by first | rfl | (simp only [firstArgMember];rfl)) ?_)
  refine wpAny_newObj_type ?_ (by size_fits);simp only [raiseNew]
  refine wpAny_bind (wpAny_handled ?_);rw [show A.in1.handled=none from hh];refine wpAny_bind (wpAny_pure (wpAny_throw ?_))
  exact wpAny_bind (wpAny_isInstance (T:="StopIteration") (b:=true) ⟨_,Heap.get?_push_size _ rfl,rfl⟩ isSubtype_stop (wpAny_pure (q _ (((Heap.SameBut.update ..).extBut.push _).push _))))
end
end L2
namespace L2
open PySem PySem.Spec PyProof.Rows
section
open PySem.SeqAt
open PySem.AutoSeq1 (wpAny_loadPart')
open PySem.MeetsSeq PySem.MeetsSeq2 PySem.MeetsSeq3
theorem tuple_lt_place (l b:Addr) (x y:Str) (i j:Int) (t u t2 u2:Tok) (n n2:Nat) (dd dd2:Option Addr) (sl sl2:Array (Option Value)) :
    Meets (Builtin.«tuple.__lt__» ⟨[.ref l,.ref b],[]⟩) (fun _ R s=>s.heap.get? l=some { cls:=.type "tuple",dict:=dd,data:=.seq #[.str x t,.int i u] n,slots:=sl } ∧
      s.heap.get? b=some { cls:=.type "tuple",dict:=dd2,data:=.seq #[.str y t2,.int j u2] n2,slots:=sl2 }∧R (.ok (.ret (.bool (placeLt (x,i) (y,j))))) s) :=
  .of_wp fun prog w A R s h=>by
    obtain ⟨hp,g,d,tk,os⟩:=s;obtain ⟨hl,hb,h⟩:=h
    have f2:=AutoSeq1.sub_tuple_tuple
    have lt1:∀ (E:Value→Shared→Prop) (Q:Value→Shared→Prop) (s:Shared),Q (.bool (decide (x.cps.toList < y.cps.toList))) s→wpAny (model prog w) A.in1 (richCompare .Lt (.str x t) (.str y t2)) Q E s:=fun E Q s q=>(PyProof.Rows.lt_str q:wpAny (model prog w) A.in1 (compareOp .Lt (.str x t) (.str y t2)) Q E s)
    have lt2:=HT.rcLt_int A.in1 ⟨hp,g,d,tk,os⟩ i u j u2 prog w
    by_cases e:x=y
    · subst e
      have eq1:=SeqAt.EqAt.str_str (A:=A.in1) (s:=⟨hp,g,d,tk,os⟩) x t x t2 prog w
      rw [beq_self_eq_true] at eq1
      unfold placeLt at h
      rw [if_pos rfl] at h
      by_cases e2:i=j
      · subst e2
        have eq2:=SeqAt.EqAt.int_int (A:=A.in1) (s:=⟨hp,g,d,tk,os⟩) i u i u2 prog w
        rw [beq_self_eq_true] at eq2
        wp_walk using wpAny_loadPart' hl,wpAny_loadPart' hb,eq1,eq2
        exact ⟨_,rfl,by simpa [Builtin.Tuple.tupleCompareSizes] using h⟩
      · have eq2:=SeqAt.EqAt.int_int (A:=A.in1) (s:=⟨hp,g,d,tk,os⟩) i u j u2 prog w
        rw [show (i == j)=false from by simpa using e2] at eq2
        wp_walk using wpAny_loadPart' hl,wpAny_loadPart' hb,eq1,eq2,lt2
        exact ⟨_,rfl,by simpa using h⟩
    · have eq1:=SeqAt.EqAt.str_str (A:=A.in1) (s:=⟨hp,g,d,tk,os⟩) x t y t2 prog w
      rw [show (x == y)=false from by simpa using e] at eq1
      unfold placeLt at h
      rw [if_neg e] at h
      wp_walk using wpAny_loadPart' hl,wpAny_loadPart' hb,eq1,lt1
      exact ⟨_,rfl,by simpa using h⟩
end
end L2
namespace L2
open PySem PySem.Spec PyProof.Rows
section
variable {P:Program} {w:World} {A:Around} {E:Value→Shared→Prop} {s:Shared}
end
end L2
namespace L2
open PySem PySem.Spec PyProof.Rows
def plKey (q:Str × Int):List Key:=[.inr q.1,.inl q.2]
abbrev cSrtD:RC:=fun xs H Q=>∃ (a:Addr) (kvs:List (List Key × V)) (qs:List (Str × Int)),xs=[.ref a]∧H a=some (.dT kvs)∧kvs.map (·.1)=qs.map plKey∧kvs.length < 64 ∧
  ∀ (l:Addr) (ps:List (Addr × (Str × Int))),H l=none→(ps.map (·.2)).Perm qs→(ps.map (·.2)).Pairwise (fun a b=>placeLt a b=true)→(∀ n∈ps,H n.1=some (.tup [.str n.2.1,.int n.2.2]))→Q (.ref l) (upd H l (.lst (ps.map fun n=>V.ref n.1)))
theorem paired_get {α β:Type} {F:α→β→Prop}:∀ {l₁:List α} {l₂:List β},Paired F l₁ l₂→∀ {i:Nat} {a:α} {b:β},l₁[i]?=some a→l₂[i]?=some b→F a b
  | _,_,.nil,i,a,b,h,_=>by simp at h
  | _,_,.cons x r,0,a,b,h1,h2=>by
    simp only [List.getElem?_cons_zero,Option.some.injEq] at h1 h2
    subst h1 h2
    exact x
  | _,_,.cons x r,i + 1,a,b,h1,h2=>paired_get r (by simpa using h1) (by simpa using h2)
theorem PlAt.keep {h h':Heap} {v:Value} {q:Str × Int} (x:PlAt h v q) (k:∀ b o,h.get? b=some o→h'.get? b=some o):PlAt h' v q:=by
  obtain ⟨a,o,t,u,n,e,ho,r⟩:=x
  exact ⟨a,o,t,u,n,e,k _ _ ho,r⟩
section
variable {X:Cx}
theorem place_at {pins:List (Addr × Obj)} {σ:St} {H:Hp} {s:Shared} {a:Addr} {q:Str × Int} (I:Inv X pins σ H s) (h:H a=some (.tup [.str q.1,.int q.2])):PlAt s.heap (.ref a) q:=by
  obtain ⟨its,rv,⟨o,ho,hc,n,hd⟩,_⟩:=I.tuple (SqT.of h)
  cases rv with
  | cons r1 rr =>
    cases rr with
    | cons r2 rn =>
      cases rn
      obtain ⟨t,rfl⟩:=r1
      obtain ⟨u,rfl⟩:=r2
      exact ⟨a,o,t,u,n,rfl,ho,hc,hd⟩
theorem nodup_map_inj {α β:Type} {f:α→β}:∀ {l:List α},(l.map f).Nodup→l.Nodup
  | [],_=>List.nodup_nil
  | a :: r,h=>by
    rw [List.map_cons,List.nodup_cons] at h
    exact List.nodup_cons.mpr ⟨fun z=>h.1 (List.mem_map_of_mem z),nodup_map_inj h.2⟩
end
end L2
namespace L2
open PySem PySem.Spec PyProof.Rows
def Itd (a:Addr) (o:Obj) (kvs:List (List Key × V)):It :=
  ⟨fun i H=>H a=some (.frz o (.dT kvs))∧i < kvs.length,fun i H x H'=>H'=H∧∃ k v p,kvs[i]?=some (k,v)∧x=.ref p∧H p=some (.tup (k.map kV)),fun i H=>H a=some (.frz o (.dT kvs))∧kvs.length≤i⟩
section
variable {X:Cx}
theorem frz_raw {pins:List (Addr × Obj)} {σ:St} {H:Hp} {s:Shared} {a:Addr} {o:Obj} {kvs:List (List Key × V)} (I:Inv X pins σ H s) (ha:H a=some (.frz o (.dT kvs))) :
    (a == sysModules)=false∧∃ (es:Array DictEntry) (ep:Nat),o.data=.dict es ep∧RawD s.heap a es ep∧es.size=kvs.length∧∀ (i:Nat) (e:DictEntry),es[i]?=some e→∃ (k:List Key) (v:V) (p:Addr),kvs[i]?=some (k,v)∧e.key=Value.ref p∧H p=some (.tup (k.map kV)):=by
  obtain ⟨hg,hz,lo,xs,rel,o',es,ep,ho,hx,hd,he,hn⟩:=(show ObjOk X.prog X.w H s.heap a (.frz o (.dT kvs)) from I.hok a _ ha)
  rw [hg] at ho
  cases ho
  have lx:kvs.length=xs.length:=Paired.length rel
  have les:es.size=xs.length:=by rw [← Array.length_toList,he,List.length_map]
  refine ⟨lo,es,ep,hd,⟨o,hg,hx,hd⟩,by omega,fun i e hi=>?_⟩
  have e2:es.toList[i]?=some e:=by rw [Array.getElem?_toList];exact hi
  rw [he,List.getElem?_map] at e2
  obtain ⟨x,hxx,ex⟩:=Option.map_eq_some_iff.mp e2
  have hl:=(List.getElem?_eq_some_iff.mp hxx).1
  have hk:kvs[i]?=some kvs[i]:=List.getElem?_eq_getElem (by omega)
  have rl:=paired_get rel hk hxx
  refine ⟨kvs[i].1,kvs[i].2,x.2.1,hk,by rw [← ex];rfl,rl.2.1⟩
theorem turn_dictT {P:Program} {w:World} {K:PySem.W.Frag} {tg:Expr} {a it:Addr} {o:Obj} {kvs:List (List Key × V)} {es:Array DictEntry} {ep:Nat} (hd:o.data=.dict es ep) :
    Turn P w K tg (Itd a o kvs) [it] it (fun i h=>h.IsKeyIter it a i es.size ep) where
  mem:=by simp
  obj:=fun i h st b hb=>by
    have e:b=it:=by simpa using hb
    subst e
    obtain ⟨o,e,c,d⟩:=st
    exact ⟨o,e,fun v z=>by rw [d] at z;cases z⟩
  keep:=fun i h h' st k=>st.at fun o e=>k it (by simp) o e
  item:=by
    intro X hP hw hK hc i pins s σ H E I hf st hg
    subst hP hw hK
    obtain ⟨ha,hi⟩:=hg
    obtain ⟨lo,es',ep',hd',raw,hs,key⟩:=frz_raw I ha
    rw [hd] at hd'
    cases hd'
    obtain ⟨f0,f1,f2,f3,f4,f5⟩:=hf it (by simp)
    have hx:es[i]?=some es[i]:=Array.getElem?_eq_getElem (by omega)
    obtain ⟨k,v,p,hk,ek,hp⟩:=key i _ hx
    refine raw_item st raw hx fun h' st' sb=>?_
    have I1:Inv X pins σ H { s with heap:=h' }:=I.turned (t':=s.toks) (fun b o hb e=>(sb.2 b hb).trans e) f0 f1 f3 f4 f5
    obtain ⟨o',e,c,d⟩:=id st'
    exact ⟨_,rfl,go_of (s:={ s with heap:=h' }) e c d (by decide) ⟨.ref p,H,I1,by rw [ek];rfl,⟨rfl,k,v,p,hk,rfl,hp⟩,st',fun b hb=>(hf b hb).1⟩⟩
  done:=by
    intro X hP hw hK hc i pins s σ H E I hf st hg
    subst hP hw hK
    obtain ⟨ha,hi⟩:=hg
    obtain ⟨lo,es',ep',hd',raw,hs,key⟩:=frz_raw I ha
    rw [hd] at hd'
    cases hd'
    obtain ⟨f0,f1,f2,f3,f4,f5⟩:=hf it (by simp)
    exact raw_end (I.ok.hd hc) st raw (by omega) fun h' eb=>⟨rfl,I.turned (t':=s.toks) (fun b o hb e=>eb b o hb e) f0 f1 f3 f4 f5⟩
  self:=fun _ _ _ _ _ st h=>wpAny_pyIter_keyiter st h
def iDT (tl:TE):TI:=fun σ H R=>tl σ H fun x H1=>∃ a o kvs,x=.ref a∧H1 a=some (.frz o (.dT kvs))∧R (Itd a o kvs) H1
theorem pi_dictT {tg l:Expr} {tl:TE} (hl:PE X l tl):PI X tg l (iDT tl):=by
  intro pins s σ H R I h
  refine thn (hl pins s σ H _ I h) fun v s1 ⟨x,H1,I1,r1,q1⟩=>?_
  obtain ⟨a,o,kvs,e,ha,q⟩:=q1
  subst e
  cases r1
  obtain ⟨lo,es,ep,hd,raw,hs,key⟩:=frz_raw I1 ha
  refine raw_iter lo raw ?_
  refine ⟨s1.heap.objs.size,[s1.heap.objs.size],_,_,H1,rfl,I1.kept (t':=s1.toks) fun b o e=>Heap.get?_push_of_some _ e,turn_dictT hd,⟨_,Heap.get?_push_size _ rfl,rfl,rfl⟩,fun b hb=>?_,q⟩
  have e:b=s1.heap.objs.size:=by simpa using hb
  subst e
  exact I1.fpOk (Nat.le_refl _) (I1.hok.fresh (Nat.le_refl _))
def Plain:HO→Prop
  | .tup _=>False
  | .own _=>False
  | .tbl _=>False
  | _=>True
theorem Inv.relab {pins:List (Addr × Obj)} {σ:St} {H:Hp} {s:Shared} {a:Addr} {u u':HO} (I:Inv X pins σ H s) (ha:H a=some u) (hp:Plain u) (hf:∀ o z,X.H₀ a≠some (.frz o z)) (ho:ObjOk X.prog X.w (upd H a u') s.heap a u'):Inv X pins σ (upd H a u') s:=by
  have nn:∀ b,H b=none→b≠a:=fun b n z=>by subst z;rw [n] at ha;cases ha
  have ntup:∀ b xs,H b=some (.tup xs)→b≠a:=fun b xs q z=>by subst z;rw [ha] at q;cases q;exact hp
  have nown:∀ b y,H b=some (.own y)→b≠a:=fun b y q z=>by subst z;rw [ha] at q;cases q;exact hp
  have ntbl:∀ b y,H b=some (.tbl y)→b≠a:=fun b y q z=>by subst z;rw [ha] at q;cases q;exact hp
  refine ⟨I.ok,I.os,I.bare,⟨I.base.keep,I.base.slot,fun b o q n hb=>?_,I.base.there,fun b xs q=>?_,fun b o z q=>?_,fun b ps q=>?_⟩,I.loc,I.cell,?_,fun x c e=>?_,fun p hp=>?_,fun b v q=>?_,I.len⟩
  · have:=I.base.free b o q n hb
    rw [upd_ne (nn b this)];exact this
  · have:=I.base.tups b xs q
    rw [upd_ne (ntup b xs this)];exact this
  · have:=I.base.frzs b o z q
    rw [upd_ne (fun e=>hf o z (by rw [← e];exact q))];exact this
  · obtain ⟨m,e⟩:=I.base.tbls b ps q
    exact ⟨m,by rw [upd_ne (ntbl b _ e)];exact e⟩
  · rw [upd_ne (nn _ I.free)];exact I.free
  · have:=I.freeC x c e
    rw [upd_ne (nn _ this)];exact this
  · obtain ⟨h1,h2,h3⟩:=I.pin p hp
    exact ⟨h1,by rw [upd_ne (nn _ h2)];exact h2,h3⟩
  · by_cases hb:b=a
    · subst hb
      rw [upd_same] at q;cases q;exact ho
    · rw [upd_ne hb] at q
      exact (I.hok b v q).stay (fun _ _ _ r=>r) (fun c r=>by rw [upd_ne (nown c b r)];exact r) fun c xs r=>by rw [upd_ne (ntup c xs r)];exact r
def tFrz (t:TS):TS:=fun D σ H=>∃ a u0 kvs,H a=some u0∧(u0=.dT kvs∨∃ o,u0=.frz o (.dT kvs))∧∀ o,t
  ⟨fun σ' H'=>H' a=some (.frz o (.dT kvs))∧D.nx σ' (upd H' a u0),fun v H'=>H' a=some (.frz o (.dT kvs))∧D.rt v (upd H' a u0),fun σ' H'=>H' a=some (.frz o (.dT kvs))∧D.bk σ' (upd H' a u0),fun σ' H'=>H' a=some (.frz o (.dT kvs))∧D.ct σ' (upd H' a u0)⟩ σ (upd H a (.frz o (.dT kvs)))
theorem ObjOk.upd_dT {P:Program} {w:World} {H:Hp} {h:Heap} {a:Addr} {kvs:List (List Key × V)} {u u':HO} (ha:H a=some u) (hp:Plain u) (x:ObjOk P w H h a (.dT kvs)):ObjOk P w (upd H a u') h a (.dT kvs):=by
  refine x.stay (fun _ _ _ r=>r) (fun c r=>?_) fun c xs r=>?_
  · rw [upd_ne fun z=>by subst z;rw [ha] at r;cases r;exact hp];exact r
  · rw [upd_ne fun z=>by subst z;rw [ha] at r;cases r;exact hp];exact r
theorem ps_frz {st:Stmt} {t:TS} (hst:PS X st t):PS X st (tFrz t):=by
  rintro pins s σ H D I ⟨a,u0,kvs,ha,hu,h⟩
  have pl:Plain u0:=by rcases hu with rfl | ⟨o,rfl⟩ <;> trivial
  -- the object as it stands
  have ob:∃ o,s.heap.get? a=some o∧(u0=.dT kvs∨u0=.frz o (.dT kvs)):=by
    rcases hu with rfl | ⟨o,rfl⟩
    · obtain ⟨hz,lo,xs,rel,o,es,ep,ho,_⟩:=(show ObjOk X.prog X.w H s.heap a (.dT kvs) from I.hok a _ ha)
      exact ⟨o,ho,.inl rfl⟩
    · exact ⟨o,(show ObjOk X.prog X.w H s.heap a (.frz o (.dT kvs)) from I.hok a _ ha).1,.inr rfl⟩
  obtain ⟨o,ho,hu⟩:=ob
  have I1:Inv X pins σ (upd H a (.frz o (.dT kvs))) s:=by
    rcases hu with rfl | rfl
    · refine I.relab ha trivial (fun o' z q=>?_) ⟨ho,ObjOk.upd_dT ha trivial (I.hok a _ ha)⟩
      have:=I.base.frzs a o' z q
      rw [ha] at this;cases this
    · have e:upd H a (.frz o (.dT kvs))=H:=by
        funext b;unfold upd;split
        · next z=>rw [z];exact ha.symm
        · rfl
      rw [e];exact I
  have back:∀ {σ':St} {H':Hp} {s':Shared},Inv X pins σ' H' s'→H' a=some (.frz o (.dT kvs))→Inv X pins σ' (upd H' a u0) s':=fun {σ' H' s'} I' ha'=>by
    rcases hu with rfl | rfl
    · refine I'.relab ha' trivial (fun o' z q=>?_) (ObjOk.upd_dT ha' trivial (show ObjOk X.prog X.w H' s'.heap a (.frz o (.dT kvs)) from I'.hok a _ ha').2)
      have:=I.base.frzs a o' z q
      rw [ha] at this;cases this
    · have e:upd H' a (.frz o (.dT kvs))=H':=by
        funext b;unfold upd;split
        · next z=>rw [z];exact ha'.symm
        · rfl
      rw [e];exact I'
  refine thn (hst pins s σ _ _ I1 (h o)) fun f s' q=>?_
  cases f with
  | next=>obtain ⟨σ',H',I',ha',q⟩:=q;exact ⟨σ',_,back I' ha',q⟩
  | brk=>obtain ⟨σ',H',I',ha',q⟩:=q;exact ⟨σ',_,back I' ha',q⟩
  | cont=>obtain ⟨σ',H',I',ha',q⟩:=q;exact ⟨σ',_,back I' ha',q⟩
  | ret v=>obtain ⟨x,σ',H',I',r,ha',q⟩:=q;exact ⟨x,σ',_,back I' ha',r,q⟩
end
section
variable {σ:St} {H:Hp} {nx:St→Hp→Prop} {B:V→St→Hp→(St→Hp→Prop)→Prop}
end
end L2
namespace L2
open PySem PySem.Spec PyProof.Rows
mutual
inductive Dat (K:PySem.W.Frag) (H:Hp):V→PyData→Prop
  | non:Dat K H .non .none
  | bl (b:Bool):Dat K H (.bl b) (.bool b)
  | int (i:Int):Dat K H (.int i) (.int i)
  | str (x:Str):Dat K H (.str x) (.str x)
  | lst {a:Addr} {xs:List V} {ds:List PyData}:SqL K H a xs→DatAll K H xs ds→Dat K H (.ref a) (.list ds)
  | tup {a:Addr} {xs:List V} {ds:List PyData}:SqT K H a xs→DatAll K H xs ds→Dat K H (.ref a) (.tuple ds)
inductive DatAll (K:PySem.W.Frag) (H:Hp):List V→List PyData→Prop
  | nil:DatAll K H [] []
  | cons {x:V} {d:PyData} {xs:List V} {ds:List PyData}:Dat K H x d→DatAll K H xs ds→DatAll K H (x :: xs) (d :: ds)
end
section
variable {X:Cx} {pins:List (Addr × Obj)} {σ:St} {H:Hp} {s:Shared}
mutual
theorem Dat.reads (I:Inv X pins σ H s):∀ {x:V} {d:PyData} {u:Value},Dat X.K H x d→RelV x u→∃ as,Reads s.heap u d as
  | _,_,_,.non,r=>by cases r;exact ⟨_,.none⟩
  | _,_,_,.bl b,r=>by cases r;exact ⟨_,.bool b⟩
  | _,_,_,.int i,r=>by obtain ⟨t,rfl⟩:=r;exact ⟨_,.int i t⟩
  | _,_,_,.str x,r=>by obtain ⟨t,rfl⟩:=r;exact ⟨_,.str x t⟩
  | _,_,_,.lst hq ha,r=>by
    cases r
    obtain ⟨its,rv,⟨o,n,e,c,_,d⟩,_⟩:=I.list hq
    obtain ⟨as,ra⟩:=DatAll.reads I ha rv
    exact ⟨_,.list e c d (by simpa using ra)⟩
  | _,_,_,.tup hq ha,r=>by
    cases r
    obtain ⟨its,rv,⟨o,e,c,n,d⟩,_⟩:=I.tuple hq
    obtain ⟨as,ra⟩:=DatAll.reads I ha rv
    exact ⟨_,.tuple e c d (by simpa using ra)⟩
theorem DatAll.reads (I:Inv X pins σ H s):∀ {xs:List V} {ds:List PyData} {us:List Value},DatAll X.K H xs ds→Vals xs us→∃ as,ReadsAll s.heap us ds as
  | _,_,_,.nil,r=>by cases r;exact ⟨_,.nil⟩
  | _,_,_,.cons hx ht,r=>by
    cases r with
    | cons r1 rr =>
      obtain ⟨as,ra⟩:=Dat.reads I hx r1
      obtain ⟨bs,rb⟩:=DatAll.reads I ht rr
      exact ⟨_,.cons ra rb⟩
end
end
section
variable {K:PySem.W.Frag} {H H':Hp}
theorem SqL.mono {a:Addr} {xs:List V} (k:Same H H') (h:SqL K H a xs):SqL K H' a xs:=by
  rcases h with (h | ⟨o,h⟩) | h
  · exact .inl (.inl (k _ _ h))
  · exact .inl (.inr ⟨o,k _ _ h⟩)
  · exact .inr h
end
section
variable {X:Cx} {pins:List (Addr × Obj)} {σ:St} {H:Hp} {s:Shared}
end
mutual
def plainD:PyData→Bool
  | .none=>true
  | .int _=>true
  | .str x=>PyData.strOk x
  | .list xs=>plainDs xs
  | .tuple xs=>plainDs xs
  | .bool _=>false
  | .dict _=>false
def plainDs:List PyData→Bool
  | []=>true
  | x :: xs=>plainD x && plainDs xs
end
mutual
theorem plain_lay:∀ {d:PyData},plainD d=true→d.canLay0=true
  | .none,_=>by simp [PyData.canLay0]
  | .int _,_=>by simp [PyData.canLay0]
  | .str x,h=>by simpa [PyData.canLay0,plainD] using h
  | .list xs,h=>by rw [PyData.canLay0];exact plains_lay (by simpa [plainD] using h)
  | .tuple xs,h=>by rw [PyData.canLay0];exact plains_lay (by simpa [plainD] using h)
  | .bool _,h=>by simp [plainD] at h
  | .dict _,h=>by simp [plainD] at h
theorem plains_lay:∀ {ds:List PyData},plainDs ds=true→PyData.canLayAll0 ds=true
  | [],_=>by simp [PyData.canLayAll0]
  | x :: xs,h=>by
    rw [plainDs,Bool.and_eq_true] at h
    rw [PyData.canLayAll0,plain_lay h.1,plains_lay h.2];rfl
end
mutual
theorem plain_eqv:∀ {d e:PyData},plainD d=true→plainD e=true→(PyData.eqv d e=true↔d=e)
  | .list xs,.list ys,h,h'=>by
    rw [PyData.eqv,plains_eqv (by simpa [plainD] using h) (by simpa [plainD] using h'),PyData.list.injEq]
  | .tuple xs,.tuple ys,h,h'=>by
    rw [PyData.eqv,plains_eqv (by simpa [plainD] using h) (by simpa [plainD] using h'),PyData.tuple.injEq]
  | .bool _,_,h,_=>by simp [plainD] at h
  | .dict _,_,h,_=>by simp [plainD] at h
  | .none,.bool _,_,h=>by simp [plainD] at h
  | .int _,.bool _,_,h=>by simp [plainD] at h
  | .str _,.bool _,_,h=>by simp [plainD] at h
  | .list _,.bool _,_,h=>by simp [plainD] at h
  | .tuple _,.bool _,_,h=>by simp [plainD] at h
  | .none,.dict _,_,h=>by simp [plainD] at h
  | .int _,.dict _,_,h=>by simp [plainD] at h
  | .str _,.dict _,_,h=>by simp [plainD] at h
  | .list _,.dict _,_,h=>by simp [plainD] at h
  | .tuple _,.dict _,_,h=>by simp [plainD] at h
  | .none,.none,_,_ | .none,.int _,_,_ | .none,.str _,_,_ | .none,.list _,_,_ | .none,.tuple _,_,_=>by simp [PyData.eqv]
  | .int _,.none,_,_ | .int _,.int _,_,_ | .int _,.str _,_,_ | .int _,.list _,_,_ | .int _,.tuple _,_,_=>by simp [PyData.eqv]
  | .str _,.none,_,_ | .str _,.int _,_,_ | .str _,.str _,_,_ | .str _,.list _,_,_ | .str _,.tuple _,_,_=>by simp [PyData.eqv]
  | .list _,.none,_,_ | .list _,.int _,_,_ | .list _,.str _,_,_ | .list _,.tuple _,_,_=>by simp [PyData.eqv]
  | .tuple _,.none,_,_ | .tuple _,.int _,_,_ | .tuple _,.str _,_,_ | .tuple _,.list _,_,_=>by simp [PyData.eqv]
theorem plains_eqv:∀ {xs ys:List PyData},plainDs xs=true→plainDs ys=true→(PyData.eqvAll xs ys=true↔xs=ys)
  | [],[],_,_=>by simp [PyData.eqvAll]
  | [],_ :: _,_,_=>by simp [PyData.eqvAll]
  | _ :: _,[],_,_=>by simp [PyData.eqvAll]
  | x :: xs,y :: ys,h,h'=>by
    rw [plainDs,Bool.and_eq_true] at h h'
    rw [PyData.eqvAll,Bool.and_eq_true,plain_eqv h.1 h'.1,plains_eqv h.2 h'.2,List.cons.injEq]
end
abbrev rEqD (K:PySem.W.Frag) (neg:Bool):R2:=fun x y H Q=>∃ d e,Dat K H x d∧Dat K H y e∧(plainD d=true∧plainD e=true∧d.depth≤64∧e.depth≤64)∧∀ b:Bool,(b=true↔d=e)→Q (.bl (if neg then !b else b)) H
section
variable {X:Cx}
theorem shaped_plain {d:PyData} (h:plainD d=true) (h':d.depth≤64):SeqAt.shaped d=true:=by
  unfold SeqAt.shaped
  rw [plain_lay h,decide_eq_true h'];rfl
theorem op_neAll (hu:X.A.units + 64 < cLine):OpR X (compareOp .NotEq) (rEqD X.K true):=by
  intro pins s σ H x y v u Q I rx ry h
  obtain ⟨d,e,hd,he,⟨p1,p2,l1,l2⟩,q⟩:=h
  obtain ⟨as,ra⟩:=hd.reads I rx
  obtain ⟨bs,rb⟩:=he.reads I ry
  exact ne_dataH ra rb (shaped_plain p1 l1) (shaped_plain p2 l2) hu ⟨.bl _,H,I,rfl,q _ (plain_eqv p1 p2)⟩
end
end L2
namespace L2
open PySem PySem.Spec PyProof.Rows
abbrev rGtS:R2:=fun x y H Q=>∃ i j,x=.str i∧y=.str j∧Q (.bl (decide (j.cps.toList < i.cps.toList))) H
abbrev rInD (neg:Bool):R2:=fun x y H Q=>∃ a o,y=.ref a∧DGet H a x o∧Q (.bl (if neg then !o.isSome else o.isSome)) H
section
variable {X:Cx}
end
end L2
namespace L2
open PySem
abbrev Pl:=Str × Int
abbrev Row:=Pl × Int
def lastW:List Row→Pl→Option Int
  | [],_=>none
  | r :: t,p=>(lastW t p).or (if r.1=p then some r.2 else none)
def dStep (kvs:List (List Key × V)) (q:Row):List (List Key × V):=putK kvs (plKey q.1) (.int q.2)
def dOf (rows:List Row):List (List Key × V):=rows.foldl dStep []
theorem plKey_inj {p q:Pl} (h:plKey p=plKey q):p=q:=by
  unfold plKey at h
  simp only [List.cons.injEq,Sum.inr.injEq,Sum.inl.injEq,and_true] at h
  exact Prod.ext h.1 h.2
theorem val_fold:∀ (rows:List Row) (kvs:List (List Key × V)) (p:Pl),valV (rows.foldl dStep kvs) (plKey p)=((lastW rows p).map V.int).or (valV kvs (plKey p))
  | [],_,_=>rfl
  | r :: t,kvs,p=>by
    rw [List.foldl_cons,val_fold t,lastW]
    show _=_
    rw [dStep,valV_put]
    cases lastW t p with
    | some w=>rfl
    | none =>
      by_cases e:r.1=p
      · subst e;simp
      · rw [if_neg (fun z=>e (plKey_inj z).symm)];simp [e]
theorem val_dOf (rows:List Row) (p:Pl):valV (dOf rows) (plKey p)=(lastW rows p).map V.int:=by
  unfold dOf
  rw [val_fold,valV_nil]
  cases lastW rows p <;> rfl
theorem dOf_snoc (rows:List Row) (q:Row):dOf (rows ++ [q])=putK (dOf rows) (plKey q.1) (.int q.2):=by
  unfold dOf
  rw [List.foldl_append];rfl
def OkKv (kvs:List (List Key × V)):Prop:=(kvs.map (·.1)).Nodup∧∀ kv∈kvs,∃ (p:Pl) (w:Int),kv=(plKey p,.int w)
theorem OkKv.put {kvs:List (List Key × V)} (h:OkKv kvs) (p:Pl) (w:Int):OkKv (putK kvs (plKey p) (.int w)):=by
  cases e:valV kvs (plKey p) with
  | none =>
    refine ⟨nd_putK _ h.1 e,fun kv hk=>?_⟩
    rw [putK_new _ e] at hk
    rcases List.mem_append.mp hk with hk | hk
    · exact h.2 kv hk
    · exact ⟨p,w,List.mem_singleton.mp hk⟩
  | some v =>
    have q:(kvs.any fun kv=>decide (kv.1=plKey p))=true:=by rw [valV_any,e];rfl
    unfold putK
    rw [if_pos q]
    constructor
    · rw [List.map_map]
      have:((fun x:List Key × V=>x.1) ∘ fun kv:List Key × V=>if kv.1=plKey p then (kv.1,V.int w) else kv)=fun x=>x.1:=by
        funext kv
        show (if kv.1=plKey p then (kv.1,V.int w) else kv).1=kv.1
        split <;> rfl
      rw [this];exact h.1
    · intro kv hk
      obtain ⟨z,hz,rfl⟩:=List.mem_map.mp hk
      by_cases e:z.1=plKey p
      · exact ⟨p,w,by rw [if_pos e,e]⟩
      · rw [if_neg e];exact h.2 z hz
theorem okKv_fold:∀ (rows:List Row) (kvs:List (List Key × V)),OkKv kvs→OkKv (rows.foldl dStep kvs)
  | [],_,h=>h
  | r :: t,kvs,h=>okKv_fold t _ (h.put r.1 r.2)
theorem okKv_dOf (rows:List Row):OkKv (dOf rows):=okKv_fold rows [] ⟨List.nodup_nil,fun _ h=>nomatch h⟩
theorem len_put (kvs:List (List Key × V)) (k:List Key) (v:V):(putK kvs k v).length≤kvs.length + 1:=by
  unfold putK
  split
  · rw [List.length_map];omega
  · rw [List.length_append];simp
theorem len_fold:∀ (rows:List Row) (kvs:List (List Key × V)),(rows.foldl dStep kvs).length≤kvs.length + rows.length
  | [],_=>by simp
  | r :: t,kvs=>by
    have:=len_fold t (dStep kvs r)
    have:=len_put kvs (plKey r.1) (.int r.2)
    rw [List.foldl_cons,List.length_cons]
    unfold dStep at *
    omega
theorem len_dOf (rows:List Row):(dOf rows).length≤rows.length:=by have:=len_fold rows [];simpa [dOf] using this
theorem valV_nd {kvs:List (List Key × V)}:(kvs.map (·.1)).Nodup→∀ kv∈kvs,valV kvs kv.1=some kv.2:=by
  induction kvs with
  | nil=>exact fun _ kv h=>nomatch h
  | cons a r ih =>
    intro hn kv hk
    rw [List.map_cons,List.nodup_cons] at hn
    rcases List.mem_cons.mp hk with rfl | hk
    · exact valV_pos rfl
    · rw [valV_neg fun z=>hn.1 (by rw [z];exact List.mem_map_of_mem hk)]
      exact ih hn.2 kv hk
theorem mem_dOf {rows:List Row} {kv:List Key × V}:kv∈dOf rows↔∃ p w,kv=(plKey p,.int w)∧lastW rows p=some w:=by
  constructor
  · intro h
    obtain ⟨p,w,rfl⟩:=(okKv_dOf rows).2 kv h
    have:=valV_nd (okKv_dOf rows).1 _ h
    rw [val_dOf] at this
    obtain ⟨w',e1,e2⟩:=Option.map_eq_some_iff.mp this
    cases e2
    exact ⟨p,w,rfl,e1⟩
  · rintro ⟨p,w,rfl,h⟩
    have e:valV (dOf rows) (plKey p)=some (.int w):=by rw [val_dOf,h];rfl
    obtain ⟨kv,hk,e1⟩:=List.mem_map.mp (valV_in e)
    have:=valV_nd (okKv_dOf rows).1 _ hk
    rw [e1,e] at this
    have e2:kv=(plKey p,V.int w):=Prod.ext e1 (Option.some.inj this).symm
    rw [← e2];exact hk
theorem placeLt_irr (a:Pl):placeLt a a=false:=by
  unfold placeLt
  rw [if_pos rfl]
  exact decide_eq_false (by omega)
theorem placeLt_trans {a b c:Pl} (h1:placeLt a b=true) (h2:placeLt b c=true):placeLt a c=true:=by
  unfold placeLt at *
  by_cases e1:a.1=b.1
  · rw [if_pos e1] at h1
    by_cases e2:b.1=c.1
    · rw [if_pos e2] at h2
      rw [if_pos (e1.trans e2)]
      have h1:=of_decide_eq_true h1
      have h2:=of_decide_eq_true h2
      exact decide_eq_true (by omega)
    · rw [if_neg e2] at h2
      rw [if_neg (by rw [e1];exact e2),e1]
      exact h2
  · rw [if_neg e1] at h1
    have h1:=of_decide_eq_true h1
    by_cases e2:b.1=c.1
    · rw [if_neg (by rw [← e2];exact e1),← e2]
      exact decide_eq_true h1
    · rw [if_neg e2] at h2
      have h2:=of_decide_eq_true h2
      have h3:=List.lt_trans h1 h2
      rw [if_neg (fun z=>by rw [z] at h3;exact List.lt_irrefl _ h3)]
      exact decide_eq_true h3
def Rising (l:List Row):Prop:=l.Pairwise fun a b=>placeLt a.1 b.1=true
def IsTab (rows out:List Row):Prop:=Rising out∧∀ p w,(p,w)∈out↔lastW rows p=some w∧w≠0
theorem last_none {p:Pl}:∀ {l:List Row},(∀ r∈l,r.1≠p)→lastW l p=none
  | [],_=>rfl
  | r :: t,h=>by
    rw [lastW,last_none fun r hr=>h r (List.mem_cons_of_mem _ hr),if_neg (h r List.mem_cons_self)];rfl
end L2
namespace L2
open PySem PySem.Spec PyProof.Rows
def Itzl (K:PySem.W.Frag) (p q:Addr) (xs ys:List V):It:=⟨fun i H=>i < xs.length∧SqL K H p xs∧SqL K H q ys,fun i H x H'=>∃ T u v,x=.ref T∧H T=none∧H'=upd H T (.tup [u,v])∧xs[i]?=some u∧ys[i]?=some v,fun i H=>xs.length≤i∧SqL K H p xs∧SqL K H q ys⟩
def iZipL (K:PySem.W.Frag) (ta:TA):TI:=fun σ H R=>ta σ H fun vs H1=>∃ p q xs ys,vs=[.ref p,.ref q]∧SqL K H1 p xs∧SqL K H1 q ys∧xs.length=ys.length∧R (Itzl K p q xs ys) H1
section
variable {X:Cx}
end
section
variable {σ:St} {H:Hp} {nx:St→Hp→Prop} {B:V→St→Hp→(St→Hp→Prop)→Prop}
end
end L2
namespace L2
open PySem PySem.Spec PyProof.Rows
section
variable {X:Cx} {A:Around} {R:Result→Shared→Prop}
def PrAt (H:Hp) (v:V) (q:Row):Prop:=∃ r p,v=.ref r∧H r=some (.tup [.ref p,.int q.2])∧H p=some (.tup [.str q.1.1,.int q.1.2])
end
end L2
namespace L2
open PySem PySem.Spec PyProof.Rows
section
variable {prog:Program} {w:World} {A:Around} {E:Value→Shared→Prop} {s:Shared} {a:Addr} {o:Obj} {xs:Array Value} {k:Nat}
end
theorem hu3 {k:Nat} {A:Around} (r:Room k A):A.units + 3 < cLine:=by have:=hu64 r;omega
abbrev cDctP:RC:=fun vs H Q=>∃ (a:Addr) (xs:List V) (rows:List Row),vs=[.ref a]∧H a=some (.lst xs)∧Paired (PrAt H) xs rows∧rows.length≤1000∧∀ p,H p=none→Q (.ref p) (upd H p (.dT (dOf rows)))
section
variable {X:Cx}
end
end L2
namespace L2
open PySem PySem.Spec PyProof.Rows
section
variable {X:Cx} {k:Nat} {f C:Addr} {fd:FuncData} {ps:List Str} {sp:Sp} {m:Str} {pos apos:Pos} {e o:Expr} {es:List Expr} {ta:TE} {t:TA}
def tMethX (C:Addr) (m:Str) (sp:Sp) (ta:TE) (t:TA) (EX:EXK):TE:=fun σ H Q=>ta σ H fun x H1=>∃ a dx fs,x=.ref a∧H1 a=some (.ins C dx fs)∧fs.lookup m=none ∧
  t σ H1 fun vs H2=>sp (x :: (vs ++ [])) H2 Q fun cls _ H3=>EX cls σ H3
end
def tTryN (K:PySem.W.Frag) (tb:EXK→TS) (C1:Addr) (th1:TS):TS:=fun D σ H=>tb (fun cls σ1 H1=>∃ C,cls=.ref C∧PySem.W.exmOne K (.ref C) (.ref C1)=some true∧th1 D σ1 H1) D σ H
def tTryNN (K:PySem.W.Frag) (tb:EXK→TS) (C1:Addr) (th1:TS) (C2:Addr) (th2:TS):TS:=fun D σ H=>tb (fun cls σ1 H1=>∃ C,cls=.ref C ∧
  ((PySem.W.exmOne K (.ref C) (.ref C1)=some true∧th1 D σ1 H1)∨(PySem.W.exmOne K (.ref C) (.ref C1)=some false∧PySem.W.exmOne K (.ref C) (.ref C2)=some true∧th2 D σ1 H1))) D σ H
section
variable {X:Cx} {st b₀ b₁:Stmt} {suite suite1:List Stmt} {tb:EXK→TS} {th1 th2:TS} {c1 c2:Str} {C1 C2:Addr} {np hpos np2 hpos2 pos:Pos}
end
section
variable {X:Cx} {k:Nat} {f:Addr} {fd:FuncData} {ps:List Str} {sp:Sp} {x:Str} {p pos:Pos} {e:Expr} {es:List Expr} {t:TA}
end
end L2
namespace L2
open PySem
def rk (kvs:List (Key × V)) (ps:List V):Except Er Int:=match runE kvs ps [] with
  | .ok [i]=>.ok i
  | .ok _=>.error .stuck
  | .error e=>.error e
theorem step_inW {kvs:List (Key × V)} (hs:SlotsOk kvs) {v:V} (hv:okPart v) {st st':List Int} (h:∀ x∈st,inW x=true) (e:stepE kvs st v=.ok st'):∀ x∈st',inW x=true:=by
  unfold stepE at e
  split at e
  · split at e
    · rename_i w b a r hr hj
      unfold joinE at e
      by_cases c1:isDiv w∧b=0
      · rw [if_pos c1] at e;cases e
      · rw [if_neg c1] at e
        by_cases c2:inW (comeV w a b)=true
        · rw [if_pos c2] at e
          cases e
          intro x hx
          rcases List.mem_append.mp hx with hx | hx
          · refine h x (List.mem_reverse.mp ?_)
            rw [hr]
            exact List.mem_cons_of_mem _ (List.mem_cons_of_mem _ (List.mem_reverse.mp hx))
          · rw [List.mem_singleton.mp hx];exact c2
        · rw [if_neg c2] at e;cases e
    · cases e
  · cases e
    intro x hx
    rcases List.mem_append.mp hx with hx | hx
    · exact h x hx
    · rw [List.mem_singleton.mp hx];exact wrth_inW hs hv
theorem run_inW {kvs:List (Key × V)} (hs:SlotsOk kvs):∀ {ps:List V} {st st':List Int},(∀ v∈ps,okPart v)→(∀ x∈st,inW x=true)→runE kvs ps st=.ok st'→∀ x∈st',inW x=true
  | [],st,st',_,h,e=>by cases e;exact h
  | v :: r,st,st',hp,h,e=>by
    unfold runE at e
    split at e
    · rename_i st1 e1
      exact run_inW hs (fun v hv=>hp v (List.mem_cons_of_mem _ hv)) (step_inW hs (hp v List.mem_cons_self) h e1) e
    · cases e
def TermOk (e:List V):Prop:=(∀ kvs,∃ r,Good kvs e r)∧(∀ v∈e,okPart v)∧e.length≤1000
mutual
inductive Rw where
  | take (sh:Str) (e:List V) (sl:Str)
  | give (sh:Str) (e f:List V)
  | lt (sl:Str) (e:List V)
  | say (e:List V)
  | off (e:List V)
  | iff (e:List V) (a b:Rws)
inductive Rws where
  | nil
  | cons (r:Rw) (rs:Rws)
end
set_option genSizeOf false in
set_option genInjectivity false in
structure Sta where
  sl:List (Key × V)
  wo:List Row
  sa:List Int
inductive Res where
  | go (s:Sta)
  | off
  | er (e:Er)
mutual
def goR:Rw→Sta→Res
  | .take sh e sl,s=>match rk s.sl e with
    | .ok n=>.go { s with sl:=putK s.sl (.inr sl) (.int ((lastW s.wo (sh,n)).getD 0)) }
    | .error x=>.er x
  | .give sh e f,s=>match rk s.sl e with
    | .ok n=>(match rk s.sl f with
      | .ok w=>.go { s with wo:=s.wo ++ [((sh,n),w)] }
      | .error x=>.er x)
    | .error x=>.er x
  | .lt sl e,s=>match rk s.sl e with
    | .ok n=>.go { s with sl:=putK s.sl (.inr sl) (.int n) }
    | .error x=>.er x
  | .say e,s=>match rk s.sl e with
    | .ok n=>.go { s with sa:=s.sa ++ [n] }
    | .error x=>.er x
  | .off e,s=>match rk s.sl e with
    | .ok n=>if n=0 then .go s else .off
    | .error x=>.er x
  | .iff e a b,s=>match rk s.sl e with
    | .ok n=>if n=0 then goRs b s else goRs a s
    | .error x=>.er x
def goRs:Rws→Sta→Res
  | .nil,s=>.go s
  | .cons r rs,s=>match goR r s with
    | .go s'=>goRs rs s'
    | x=>x
end
mutual
def RwAt (F:Addr→Prop) (H:Hp) (v:V):Rw→Prop
  | .take sh e sl=>∃ r te,v=.ref r∧F r∧F te∧H r=some (.tup [.str "take",.str sh,.ref te,.str sl])∧H te=some (.tup e)
  | .give sh e f=>∃ r te tf,v=.ref r∧F r∧F te∧F tf∧H r=some (.tup [.str "give",.str sh,.ref te,.ref tf])∧H te=some (.tup e)∧H tf=some (.tup f)
  | .lt sl e=>∃ r te,v=.ref r∧F r∧F te∧H r=some (.tup [.str "let",.str sl,.ref te])∧H te=some (.tup e)
  | .say e=>∃ r te,v=.ref r∧F r∧F te∧H r=some (.tup [.str "say",.ref te])∧H te=some (.tup e)
  | .off e=>∃ r te,v=.ref r∧F r∧F te∧H r=some (.tup [.str "off",.ref te])∧H te=some (.tup e)
  | .iff e a b=>∃ r te la lb xs ys,v=.ref r∧F r∧F te∧F la∧F lb∧H r=some (.tup [.str "if",.ref te,.ref la,.ref lb])∧H te=some (.tup e)∧H la=some (.lst xs)∧RwsAt F H xs a∧H lb=some (.lst ys)∧RwsAt F H ys b
def RwsAt (F:Addr→Prop) (H:Hp) (vs:List V):Rws→Prop
  | .nil=>vs=[]
  | .cons r rs=>∃ v ws,vs=v :: ws∧RwAt F H v r∧RwsAt F H ws rs
end
mutual
def RwOk:Rw→Prop
  | .take _ e _=>TermOk e
  | .give _ e f=>TermOk e∧TermOk f
  | .lt _ e=>TermOk e
  | .say e=>TermOk e
  | .off e=>TermOk e
  | .iff e a b=>TermOk e∧RwsOk a∧RwsOk b
def RwsOk:Rws→Prop
  | .nil=>True
  | .cons r rs=>RwOk r∧RwsOk rs
end
mutual
def Rw.deep:Rw→Nat
  | .iff _ a b=>max a.deep b.deep + 1
  | _=>0
def Rws.deep:Rws→Nat
  | .nil=>0
  | .cons r rs=>max r.deep rs.deep
end
mutual
def Rw.cnt:Rw→Nat
  | .iff _ a b=>max a.cnt b.cnt + 1
  | _=>1
def Rws.cnt:Rws→Nat
  | .nil=>0
  | .cons r rs=>r.cnt + rs.cnt
end
end L2
namespace L2
open PySem
section
variable {P:Program} {w:World} {A:Around} {E:Value→Shared→Prop} {s:Shared}
end
end L2
namespace L2
open PySem PySem.Spec PyProof.Rows
def viewO (r d:Addr):HO:=.ext fun h=>h.IsItemsView r d
def tItems (td:TE):TE:=fun σ H Q=>td σ H fun x H1=>∃ d kvs,x=.ref d∧H1 d=some (.dT kvs)∧∀ r,H1 r=none→Q (.ref r) (upd H1 r (viewO r d))
section
variable {X:Cx} {o:Expr} {apos cpos:Pos} {td:TE}
end
def KvAt (H:Hp) (v:V) (kv:List Key × V):Prop:=∃ r p,v=.ref r∧H r=some (.tup [.ref p,kv.2])∧H p=some (.tup (kv.1.map kV))
section
variable {X:Cx} {A:Around} {R:Result→Shared→Prop}
end
end L2
namespace L2
open PySem PySem.Spec PyProof.Rows
abbrev cLstI:RC:=fun vs H Q=>∃ r d kvs,vs=[.ref r]∧H r=some (viewO r d)∧H d=some (.dT kvs)∧kvs.length≤1000∧∀ l ys H',Same H H'→H l=none→H' l=some (.lst ys)→Paired (KvAt H') ys kvs→Q (.ref l) H'
section
variable {X:Cx}
end
end L2
namespace L2
open PySem PySem.Spec PyProof.Rows PySem.W
section
variable {X:Cx}
end
section
variable {P:Program} {w:World} {A:Around} {E:Value→Shared→Prop} {s:Shared}
theorem lt_place {x y:Addr} {a b:Str × Int} {Q:Bool→Shared→Prop} (hu:A.units < cLine) (hx:PlAt s.heap (.ref x) a) (hy:PlAt s.heap (.ref y) b) (h:Q (placeLt a b) s):wpAny (model P w) A (oneLt' false (.ref x) (.ref y)) Q E s:=by
  obtain ⟨p,o,t,u,n,e1,ho,hc,hd⟩:=hx
  obtain ⟨p2,o2,t2,u2,n2,e2,ho2,hc2,hd2⟩:=hy
  cases e1
  cases e2
  obtain ⟨c,dd,dat,sl⟩:=o
  obtain ⟨c2,dd2,dat2,sl2⟩:=o2
  simp only at hc hd hc2 hd2
  subst hc hd hc2 hd2
  have T1:s.TypeIs (.ref x) "tuple":=⟨_,ho,rfl⟩
  have T2:s.TypeIs (.ref y) "tuple":=⟨_,ho2,rfl⟩
  refine kat_one _ _ ?_
  show wpAny _ _ (richCompare .Lt (.ref x) (.ref y)) _ _ _
  refine wpAny_richCompare_same_room T1 T2 PySem.F.slot_tuple_lt ?_ hu
  exact call_meets PySem.F.slot_tuple_lt T1 PySem.F.entry_tuple_lt (PySem.F.args_tuple_lt_2 _ _) (tuple_lt_place x y a.1 b.1 a.2 b.2 t u t2 u2 n n2 dd dd2 sl sl2) ⟨ho,ho2,by simp,h⟩
theorem pl_key {h:Heap} {x:Addr} {a:Str × Int} (hx:PlAt h (.ref x) a):IsTupleKey (mixKind P w) h (plKey a) x:=by
  obtain ⟨p,o,t,u,n,e1,ho,hc,hd⟩:=hx
  cases e1
  exact ⟨o,_,n,ho,hc,hd,items_are (ks:=plKey a) (.cons ⟨t,rfl⟩ (.cons ⟨u,rfl⟩ .nil))⟩
def RvAt (h:Heap) (v:Value) (q:Row):Prop:=∃ a o p t n,v=.ref a∧h.get? a=some o∧o.cls=.type "tuple"∧o.data=.seq #[.ref p,.int q.2 t] n∧PlAt h (.ref p) q.1
theorem RvAt.keep {h h':Heap} {v:Value} {q:Row} (x:RvAt h v q) (k:∀ b o,h.get? b=some o→h'.get? b=some o):RvAt h' v q:=by
  obtain ⟨a,o,p,t,n,e,ho,hc,hd,hp⟩:=x
  exact ⟨a,o,p,t,n,e,k _ _ ho,hc,hd,hp.keep k⟩
theorem ask_row {x y:Value} {a b:Row} {Q:Bool→Shared→Prop} (hu:A.units < cLine) (hx:RvAt s.heap x a) (hy:RvAt s.heap y b) (h:Q (placeLt a.1 b.1) s) (hn:a.1≠b.1):wpAny (model P w) A (keyLt' (tuples' false) x y) Q E s:=by
  obtain ⟨p,o,pp,t,n,rfl,ho,hc,hd,hp⟩:=hx
  obtain ⟨p2,o2,pp2,t2,n2,rfl,ho2,hc2,hd2,hp2⟩:=hy
  refine kat_lt ho hd ho2 hd2 (kat_cons (wpAny_eqBool_tuple (knd:=mixKind P w) hu (pl_key hp) (pl_key hp2) (kat_go (fun e=>?_) fun e=>kat_no ?_)))
  · exact absurd (plKey_inj (of_decide_eq_true e)) hn
  · exact lt_place hu hp hp2 h
theorem kind_row {vs:List Value} {qs:List Row} {Q:SortKind→Shared→Prop} (hl:vs.length=qs.length) (hv:∀ (i:Nat) (v:Value) (q:Row),vs[i]?=some v→qs[i]?=some q→RvAt s.heap v q) (h2:0 < vs.length) (h:Q (tuples' false) s) :
    wpAny (model P w) A (keyKind' vs.toArray) Q E s:=by
  have T:∀ (vs:List Value) (qs:List Row),vs.length=qs.length→(∀ (i:Nat) (v:Value) (q:Row),vs[i]?=some v→qs[i]?=some q→RvAt s.heap v q)→∃ fs,KatTups s.heap vs fs∧fs.length=vs.length∧∀ v∈fs,∃ p o,v=Value.ref p∧s.heap.get? p=some o∧o.cls=.type "tuple":=by
    intro vs
    induction vs with
    | nil=>exact fun qs _ _=>⟨[],trivial,rfl,fun _ z=>nomatch z⟩
    | cons v r ih =>
      intro qs hl hv
      match qs,hl with
      | q :: qr,hl =>
        obtain ⟨fs,k,kl,kf⟩:=ih qr (by simpa using hl) fun i v' q' e1 e2=>hv (i + 1) v' q' (by simpa using e1) (by simpa using e2)
        obtain ⟨a,o,p,t,n,rfl,ho,hc,hd,hp⟩:=hv 0 v q rfl rfl
        refine ⟨.ref p :: fs,KatTups.cons ho hc hd rfl k,by simp [kl],fun z hz=>?_⟩
        rcases List.mem_cons.mp hz with rfl | hz
        · obtain ⟨p',o',_,_,_,e,g1,g2,_⟩:=hp
          cases e
          exact ⟨_,o',rfl,g1,g2⟩
        · exact kf z hz
  obtain ⟨fs,k,kl,kf⟩:=T vs qs hl hv
  refine kat_kind (T:=.type "tuple") k (by omega) (fun v hv=>?_) (by decide) h
  obtain ⟨p,o,rfl,g1,g2⟩:=kf v hv
  exact g2 ▸ (PySem.W.Looks.ld g1).andThen .now
end
end L2
namespace L2
open PySem PySem.Spec PyProof.Rows PySem.W
def d0:Row:=(("",0),0)
theorem range_getD {α:Type} (l:List α) (d:α):(List.range l.length).map (fun i=>l.getD i d)=l:=by
  apply List.ext_getElem?
  intro i
  rw [List.getElem?_map]
  by_cases hi:i < l.length
  · rw [List.getElem?_range hi,List.getElem?_eq_getElem hi]
    simp [List.getD_eq_getElem?_getD,List.getElem?_eq_getElem hi]
  · rw [List.getElem?_eq_none (by simpa using hi),List.getElem?_eq_none (by omega)]
    rfl
theorem PP.list {n:Nat} {p:Array Nat} (h:PP n p):p.toList.Perm (List.range n):=by
  have:=Array.perm_iff_toList_perm.mp h
  simpa using this
theorem PP.lt {n:Nat} {p:Array Nat} (h:PP n p):∀ i∈p.toList,i < n:=fun i hi=>by
  have:=h.list.mem_iff.mp hi
  simpa using this
theorem rise_pairs {α:Type} {F:α→α→Bool} {l:List α} {d:α} {n:Nat} {p:Array Nat} (hp:PP n p) (hr:Rise (fun i j=>F (l.getD i d) (l.getD j d)) p n):(p.toList.map fun i=>l.getD i d).Pairwise fun a b=>F a b=true:=by
  rw [List.pairwise_map,List.pairwise_iff_getElem]
  intro i j hi hj hij
  rw [Array.length_toList] at hi hj
  have g1:=gt_eq hi
  have g2:=gt_eq hj
  have sz:=hp.size
  have r:=hr i j hij (by omega)
  have x1:p.toList[i]=gt p i:=by
    rw [Array.getElem?_eq_getElem hi] at g1
    simpa using g1
  have x2:p.toList[j]=gt p j:=by
    rw [Array.getElem?_eq_getElem hj] at g2
    simpa using g2
  rw [x1,x2];exact r
theorem paired_pick {α β:Type} {F:α→β→Prop} {l₁:List α} {l₂:List β} (h:Paired F l₁ l₂) (a:α) (b:β):∀ {is:List Nat},(∀ i∈is,i < l₁.length)→Paired F (is.map fun i=>l₁.getD i a) (is.map fun i=>l₂.getD i b)
  | [],_=>.nil
  | i :: r,hi=>by
    have l:=Paired.length h
    have h1:=hi i List.mem_cons_self
    refine .cons ?_ (paired_pick h a b fun j hj=>hi j (List.mem_cons_of_mem _ hj))
    show F (l₁.getD i a) (l₂.getD i b)
    have e1:=List.getElem?_eq_getElem h1
    have e2:l₂[i]?=some l₂[i]:=List.getElem?_eq_getElem (by omega)
    rw [List.getD_eq_getElem?_getD,List.getD_eq_getElem?_getD,e1,e2]
    exact paired_get h e1 e2
abbrev cSrtI:RC:=fun vs H Q=>∃ r d rows,vs=[.ref r]∧H r=some (viewO r d)∧H d=some (.dT (dOf rows))∧(dOf rows).length < 64 ∧
  ∀ l ys srt H',Same H H'→H l=none→H' l=some (.lst ys)→Paired (PrAt H') ys srt→Rising srt→(∀ p w,(p,w)∈srt↔lastW rows p=some w)→Q (.ref l) H'
section
variable {X:Cx}
theorem rv_at {pins:List (Addr × Obj)} {σ:St} {H:Hp} {s:Shared} {v:V} {u:Value} {q:Row} (I:Inv X pins σ H s) (h:PrAt H v q) (r:RelV v u):RvAt s.heap u q:=by
  obtain ⟨a,p,rfl,h1,h2⟩:=h
  cases r
  obtain ⟨_,its,rv,o,o1,o2,n,o3⟩:=(show ObjOk X.prog X.w H s.heap a (.tup [.ref p,.int q.2]) from I.hok a _ h1)
  cases rv with
  | cons r1 rr =>
    cases rr with
    | cons r2 rn =>
      cases rn
      cases r1
      obtain ⟨t,rfl⟩:=r2
      exact ⟨a,o,p,t,n,rfl,o1,o2,o3,place_at I h2⟩
end
end L2
namespace L2
open PySem PySem.Spec PyProof.Rows
def Itr3 (lo c:Int) (n:Nat):It:=⟨fun i _=>i < n,fun i H x H'=>H'=H∧x=.int (lo + i * c),fun i _=>n≤i⟩
theorem turn_range3 {P:Program} {w:World} {K:PySem.W.Frag} {tg:Expr} (it:Addr) (lo c:Int) (n:Nat):Turn P w K tg (Itr3 lo c n) [it] it (fun i h=>IsRangeIter h it (lo + (i:Nat) * c) ((n:Int) - (i:Nat)) c) where
  mem:=by simp
  obj:=fun i h st b hb=>by
    have e:b=it:=by simpa using hb
    subst e
    refine ⟨_,st,fun v z=>?_⟩
    have z':Data.fields _=Data.cell v:=z
    cases z'
  keep:=fun i h h' st k=>k it (by simp) _ st
  item:=by
    intro X hP hw hK hc i pins s σ H E I hf st hg;subst hP hw hK
    obtain ⟨f0,f1,f2,f3,f4,f5⟩:=hf it (by simp)
    refine (Walks.range (prog:=X.prog) (w:=X.w) (I.ok.hd hc) it lo c n).item i s _ _ hg st fun v h' tk hv st' kk=>?_
    obtain ⟨t,rfl⟩:=hv
    have I1:Inv X pins σ H { s with heap:=h',toks:=tk }:=I.turned (fun b o hb e=>kk b o (by simpa using hb) e) f0 f1 f3 f4 f5
    exact ⟨_,rfl,go_of (s:={ s with heap:=h',toks:=tk }) (n:="range_iterator") st' rfl rfl (by decide) ⟨.int (lo + i * c),H,I1,⟨t,rfl⟩,⟨rfl,rfl⟩,st',fun b hb=>(hf b hb).1⟩⟩
  done:=by
    intro X hP hw hK hc i pins s σ H E I hf st hg;subst hP hw hK
    obtain ⟨f0,f1,f2,f3,f4,f5⟩:=hf it (by simp)
    exact wpAny_pyNext_range_end (I.ok.hd hc) st (by have:n≤i:=hg;omega) fun h' eb=>⟨rfl,I.turned (t':=s.toks) (fun b o hb e=>eb b o hb e) f0 f1 f3 f4 f5⟩
  self:=fun _ _ _ _ _ st h=>wpAny_pyIter_rangeiter st h
def cntR (i j c:Int):Nat:=if i < j then ((j - i - 1) / c + 1).toNat else 0
def iRng3 (ta:TA):TI:=fun σ H R=>ta σ H fun vs H1=>∃ i j c:Int,vs=[.int i,.int j,.int c]∧(0≤i∧i < 1073741824∧0≤j∧j < 1073741824∧0 < c∧c < 1073741824)∧R (Itr3 i c (cntR i j c)) H1
section
variable {X:Cx} {tg:Expr}
theorem pi_range3 {a b c:Expr} {ta:TA} {p pos:Pos} (hg:Gl X "range") (hm:X.mg "range"=none) (ha:PA X [a,b,c] ta) (hs:starEach [a,b,c] X.env=[(false,eval a X.env),(false,eval b X.env),(false,eval c X.env)]:=by rfl) (hs2:starEach [b,c] X.env=[(false,eval b X.env),(false,eval c X.env)]:=by rfl) :
    PI X tg (.Call (.Name "range" p) [a,b,c] [] pos) (iRng3 ta):=by
  intro pins s σ H R I h
  refine Call_ (ld_blt I hg hm boot_range (PyProof.Rows.callWith_type1 (thn (ha pos pins s σ H _ I h) fun us s1 ⟨vs,H1,I1,r1,q1⟩=>?_) (by rw [hs,hs2]) (by rw [hs2];rfl)))
  obtain ⟨i,j,c,e,⟨q1,q2,q3,q4,q5,q6⟩,q⟩:=q1
  subst e
  cases r1 with
  | cons r rr =>
    cases rr with
    | cons r' rr =>
      cases rr with
      | cons r'' rr =>
        cases rr
        obtain ⟨t,rfl⟩:=r
        obtain ⟨t',rfl⟩:=r'
        obtain ⟨t'',rfl⟩:=r''
        refine call_range_3 (by omega) ?_ (.inl (PyProof.noPylong_small (by omega)))
        have hz:Builtin.Range.rangeSize i j c=(cntR i j c:Int):=by
          unfold Builtin.Range.rangeSize cntR
          rw [if_pos q5]
          split
          · rename_i h
            have:=Int.ediv_nonneg (a:=j - i - 1) (b:=c) (by omega) (by omega)
            omega
          · rfl
        have hb:(cntR i j c:Int)≤1073741824∧(cntR i j c:Int) * c≤2147483648:=by
          unfold cntR
          split
          · rename_i h
            have h1:=Int.ediv_nonneg (a:=j - i - 1) (b:=c) (by omega) (by omega)
            have h2:=Int.ediv_le_self (a:=j - i - 1) c (by omega)
            have h3:=Int.ediv_mul_le (j - i - 1) (b:=c) (by omega)
            rw [Int.toNat_of_nonneg (by omega),Int.add_mul]
            omega
          · simp
        generalize cntR i j c=n at *
        have sm:Builtin.Range.small i j c=true:=by
          unfold Builtin.Range.small
          rw [hz]
          simp only [Builtin.Range.rangeFitsLong,Bool.and_eq_true,Bool.or_eq_true,decide_eq_true_eq,beq_iff_eq,show c > 0 from q5,if_true]
          omega
        refine wpAny_pyIter_range (IsRange.new ..) sm ?_
        rw [hz]
        have I2:Inv X pins σ H1 { s1 with heap:=s1.heap.push { cls:=.type "range",data:=.fields #[.int i t,.int j t',.int c t''] },toks:=s1.toks }:=I1.kept fun b o e=>Heap.get?_push_of_some _ e
        refine ⟨(s1.heap.push { cls:=.type "range",data:=.fields #[.int i t,.int j t',.int c t''] }).objs.size,[(s1.heap.push { cls:=.type "range",data:=.fields #[.int i t,.int j t',.int c t''] }).objs.size],_,_,H1,rfl,I2.kept (t':=s1.toks) fun b o e=>Heap.get?_push_of_some _ e,turn_range3 _ i c n,?_,fun b hb=>?_,q⟩
        · show IsRangeIter _ _ (i + ((0:Nat):Int) * c) ((n:Int) - ((0:Nat):Int)) c
          rw [show i + ((0:Nat):Int) * c=i by simp,show (n:Int) - ((0:Nat):Int)=n by simp]
          exact Heap.get?_push_size _ rfl
        · have e:b=(s1.heap.push { cls:=.type "range",data:=.fields #[.int i t,.int j t',.int c t''] }).objs.size:=by simpa using hb
          subst e
          exact I2.fpOk (Nat.le_refl _) (I2.hok.fresh (Nat.le_refl _))
end
end L2
namespace L2
open PySem
structure StOk (n:Nat) (s:Sta):Prop where
  so:SlotsOk s.sl
  wo:∀ r∈s.wo,inW r.2=true
  l1:s.sl.length≤n
  l2:s.wo.length≤n
  l3:s.sa.length≤n
theorem StOk.mono {n m:Nat} {s:Sta} (h:StOk n s) (l:n≤m):StOk m s:=⟨h.so,h.wo,Nat.le_trans h.l1 l,Nat.le_trans h.l2 l,Nat.le_trans h.l3 l⟩
theorem last_in {P:Row→Prop} {p:Pl} {w:Int}:∀ {l:List Row},(∀ r∈l,P r)→lastW l p=some w→P (p,w)
  | [],_,h=>by cases h
  | r :: t,hp,h=>by
    rw [lastW] at h
    cases e:lastW t p with
    | some w' =>
      rw [e] at h
      have:w'=w:=by simpa using h
      subst this
      exact last_in (fun r hr=>hp r (List.mem_cons_of_mem _ hr)) e
    | none =>
      rw [e] at h
      by_cases c:r.1=p
      · rw [if_pos c] at h
        have:r.2=w:=by simpa using h
        rw [← c,← this];exact hp r List.mem_cons_self
      · rw [if_neg c] at h;cases h
mutual
def RwIn (P:Pl→Prop):Rw→Prop
  | .give sh e _=>∀ kvs n,rk kvs e=.ok n→P (sh,n)
  | .iff _ a b=>RwsIn P a∧RwsIn P b
  | _=>True
def RwsIn (P:Pl→Prop):Rws→Prop
  | .nil=>True
  | .cons r rs=>RwIn P r∧RwsIn P rs
end
inductive Oc where
  | done (sa:List Int)
  | off (why:Str)
def whyOf:Er→Str
  | .great=>"great"
  | _=>"nought"
def AloneR (rws:Rws) (tab:List Row) (oc:Oc) (out:List Row):Prop:=match goRs rws ⟨[],tab,[]⟩ with
  | .go s=>oc=.done s.sa∧IsTab s.wo out
  | .off=>oc=.off "told"∧out=tab
  | .er e=>oc=.off (whyOf e)∧out=tab
inductive SeqR:List Rws→List Row→List Oc→List Row→Prop
  | nil {tab:List Row}:SeqR [] tab [] tab
  | cons {d:Rws} {ds:List Rws} {tab mid out:List Row} {oc:Oc} {ocs:List Oc}:AloneR d tab oc mid→SeqR ds mid ocs out→SeqR (d :: ds) tab (oc :: ocs) out
def partD:V→PyData
  | .int i=>.int i
  | .str x=>.str x
  | _=>.none
def plV (v:V):Prop:=(∃ i,v=.int i)∨∃ x,v=.str x∧PyData.strOk x=true
def termD (e:List V):PyData:=.tuple (e.map partD)
mutual
def rwD:Rw→PyData
  | .take sh e sl=>.tuple [.str "take",.str sh,termD e,.str sl]
  | .give sh e f=>.tuple [.str "give",.str sh,termD e,termD f]
  | .lt sl e=>.tuple [.str "let",.str sl,termD e]
  | .say e=>.tuple [.str "say",termD e]
  | .off e=>.tuple [.str "off",termD e]
  | .iff e a b=>.tuple [.str "if",termD e,.list (rwsD a),.list (rwsD b)]
def rwsD:Rws→List PyData
  | .nil=>[]
  | .cons r rs=>rwD r :: rwsD rs
end
def tmP (e:List V):Prop:=∀ v∈e,plV v
mutual
def RwPl:Rw→Prop
  | .take sh e sl=>PyData.strOk sh=true∧tmP e∧PyData.strOk sl=true
  | .give sh e f=>PyData.strOk sh=true∧tmP e∧tmP f
  | .lt sl e=>PyData.strOk sl=true∧tmP e
  | .say e=>tmP e
  | .off e=>tmP e
  | .iff e a b=>tmP e∧RwsPl a∧RwsPl b
def RwsPl:Rws→Prop
  | .nil=>True
  | .cons r rs=>RwPl r∧RwsPl rs
end
section
variable {K:PySem.W.Frag} {H:Hp} {F:Addr→Prop}
theorem part_dat {v:V} (h:plV v):Dat K H v (partD v):=by
  rcases h with ⟨i,rfl⟩ | ⟨x,rfl,_⟩
  · exact .int i
  · exact .str x
theorem parts_dat:∀ {e:List V},tmP e→DatAll K H e (e.map partD)
  | [],_=>.nil
  | v :: r,h=>.cons (part_dat (h v List.mem_cons_self)) (parts_dat fun u hu=>h u (List.mem_cons_of_mem _ hu))
end
theorem parts_plain:∀ {e:List V},tmP e→plainDs (e.map partD)=true
  | [],_=>by simp [plainDs]
  | v :: r,h=>by
    rw [List.map_cons,plainDs,parts_plain fun u hu=>h u (List.mem_cons_of_mem _ hu),Bool.and_true]
    rcases h v List.mem_cons_self with ⟨i,rfl⟩ | ⟨x,rfl,hx⟩
    · rw [partD,plainD]
    · rw [partD,plainD];exact hx
theorem parts_deep:∀ (e:List V),PyData.depthAll (e.map partD)=0
  | []=>by simp [PyData.depthAll]
  | v :: r=>by
    rw [List.map_cons,PyData.depthAll,parts_deep r]
    cases v <;> simp [partD,PyData.depth]
def Rws.snoc:Rws→Rw→Rws
  | .nil,x=>.cons x .nil
  | .cons r rs,x=>.cons r (rs.snoc x)
def Rws.app:Rws→Rws→Rws
  | .nil,x=>x
  | .cons r rs,x=>.cons r (rs.app x)
end L2
namespace L2
open PySem PySem.Spec PyProof.Rows
abbrev r_mt_split:RM:=fun x xs H Q=>∃ a b,x=.str a∧xs=[.str b]∧(b.length == 0)=false∧a.length≤100000∧(Txt.split a b).length≤100000∧∀ l,H l=none→Q (.ref l) (upd H l (.lst ((Txt.split a b).map V.str)))
theorem vals_strs_mk:∀ (l:List (Str × Tok)),Vals ((l.map (·.1)).map V.str) (strValues l)
  | []=>.nil
  | p :: r=>.cons ⟨p.2,rfl⟩ (vals_strs_mk r)
section
variable {X:Cx}
theorem mt_split:MtM X "str.split" r_mt_split:=by
  intro pins s σ H x xs v us Q I rx rs h
  obtain ⟨a,b,rfl,rfl,hb,ha,hl,q⟩:=h
  obtain ⟨t,rfl⟩:=rx
  obtain ⟨u,rfl,t',rfl⟩:=vals1 rs
  have hs:sizeLine=16777216:=sizeLine_eq
  have fin:∀ (l:List (Str × Tok)) (tk c:Nat),l.map (·.1)=Txt.split a b→EP X pins σ Q (.ref s.heap.objs.size) { s with heap:=s.heap.push { cls:=.type "list",data:=.seq (strValues l).toArray c },toks:=tk }:=fun l tk c e=>by
    have hn:H s.heap.objs.size=none:=I.hok.fresh (Nat.le_refl _)
    have vv:=vals_strs_mk l
    rw [e] at vv
    refine ⟨.ref s.heap.objs.size,_,I.laid (a:=s.heap.objs.size) (o:=.lst ((Txt.split a b).map V.str)) (t':=tk) (fun b u e=>Heap.get?_push_of_some _ e) (Nat.le_refl _) ⟨by rw [List.length_map];omega,strValues l,c,vv,Heap.get?_push_size _ rfl⟩,rfl,q _ hn⟩
  cases h1:(decide (a.length < b.length) || decide (Builtin.Str.strKind a < Builtin.Str.strKind b))
  · cases hf:(Builtin.Str.occurrences a b 0 a.length (a.length + 1)).isEmpty
    · have e0:Txt.split a b=Builtin.Str.partsBetween a (Builtin.Str.occurrences a b 0 a.length (a.length + 1)) b.length:=(if_neg (ne_true_of_eq_false h1)).trans (if_neg (ne_true_of_eq_false hf))
      refine call_meets F.slot_str_split (typeIs_str _ _ _) F.entry_str_split (F.args_str_split_2 _ _) (meets_str_split_sep a b t t' h1 hb hf (by omega) (by rw [← e0];omega)) ?_
      rw [strsFrom_eq]
      exact fin (numbered s.toks _) _ _ ((numbered_texts _ _).trans e0.symm)
    · exact call_meets F.slot_str_split (typeIs_str _ _ _) F.entry_str_split (F.args_str_split_2 _ _) (meets_str_split_not_found a b t t' h1 hb hf)
        (fin [(a,t)] _ _ ((if_neg (ne_true_of_eq_false h1)).trans (if_pos hf)).symm)
  · exact call_meets F.slot_str_split (typeIs_str _ _ _) F.entry_str_split (F.args_str_split_2 _ _) (meets_str_split_cannot_occur a b t t' h1)
      (fin [(a,t)] _ _ (if_pos h1).symm)
end
def Itel (K:PySem.W.Frag) (p:Addr) (xs:List V):It:=⟨fun i H=>i < xs.length∧SqL K H p xs,fun i H x H'=>∃ T u,x=.ref T∧H T=none∧H'=upd H T (.tup [.int i,u])∧xs[i]?=some u,fun i H=>xs.length≤i∧SqL K H p xs⟩
def iEnm (K:PySem.W.Frag) (ta:TA):TI:=fun σ H R=>ta σ H fun vs H1=>∃ p xs,vs=[.ref p]∧SqL K H1 p xs∧R (Itel K p xs) H1
section
variable {X:Cx}
end
section
variable {σ:St} {H:Hp} {nx:St→Hp→Prop} {B:V→St→Hp→(St→Hp→Prop)→Prop}
end
end L2
namespace L2
open PySem PySem.Spec PyProof.Rows
theorem cut_eq {c:Nat}:∀ {a b r s:List Nat},c ∉ a→c ∉ b→a ++ c :: r=b ++ c :: s→a=b∧r=s
  | [],[],r,s,_,_,h=>by simpa using h
  | [],y :: b,r,s,_,hb,h=>by
    simp only [List.nil_append,List.cons_append,List.cons.injEq] at h
    exact absurd h.1 (fun z=>hb (by rw [z];exact List.mem_cons_self))
  | x :: a,[],r,s,ha,_,h=>by
    simp only [List.nil_append,List.cons_append,List.cons.injEq] at h
    exact absurd h.1.symm (fun z=>ha (by rw [z];exact List.mem_cons_self))
  | x :: a,y :: b,r,s,ha,hb,h=>by
    simp only [List.cons_append,List.cons.injEq] at h
    obtain ⟨e1,e2⟩:=cut_eq (fun z=>ha (List.mem_cons_of_mem _ z)) (fun z=>hb (List.mem_cons_of_mem _ z)) h.2
    exact ⟨by rw [h.1,e1],e2⟩
theorem join_cons {sep x y:Str} {r:List Str}:Str.join sep (x :: y :: r)=x ++ sep ++ Str.join sep (y :: r):=rfl
theorem join_cpsC {c:Nat} {x y:Str} {r:List Str}:(Str.join ⟨#[c]⟩ (x :: y :: r)).cps.toList=x.cps.toList ++ c :: (Str.join ⟨#[c]⟩ (y :: r)).cps.toList:=by
  rw [join_cons,cps_app,cps_app,List.append_assoc];rfl
theorem join_inj {c:Nat}:∀ {a b:List Str},a≠[]→b≠[]→(∀ p∈a,c ∉ p.cps.toList)→(∀ p∈b,c ∉ p.cps.toList)→Str.join ⟨#[c]⟩ a=Str.join ⟨#[c]⟩ b→a=b
  | [],_,h,_,_,_,_=>absurd rfl h
  | _,[],_,h,_,_,_=>absurd rfl h
  | [x],[y],_,_,_,_,e=>by
    have e:x=y:=e
    rw [e]
  | [x],y :: z :: s,_,_,ha,_,e=>by
    have e1:(Str.join ⟨#[c]⟩ _).cps.toList=(Str.join ⟨#[c]⟩ _).cps.toList:=congrArg (fun w:Str=>w.cps.toList) e
    rw [join_cpsC] at e1
    have e2:x.cps.toList=y.cps.toList ++ c :: (Str.join ⟨#[c]⟩ (z :: s)).cps.toList:=e1
    exact absurd (by rw [e2];simp) (ha x List.mem_cons_self)
  | x :: z :: r,[y],_,_,_,hb,e=>by
    have e1:(Str.join ⟨#[c]⟩ _).cps.toList=(Str.join ⟨#[c]⟩ _).cps.toList:=congrArg (fun w:Str=>w.cps.toList) e
    rw [join_cpsC] at e1
    have e2:x.cps.toList ++ c :: (Str.join ⟨#[c]⟩ (z :: r)).cps.toList=y.cps.toList:=e1
    exact absurd (by rw [← e2];simp) (hb y List.mem_cons_self)
  | x :: z :: r,y :: w :: s,_,_,ha,hb,e=>by
    have e1:(Str.join ⟨#[c]⟩ _).cps.toList=(Str.join ⟨#[c]⟩ _).cps.toList:=congrArg (fun w:Str=>w.cps.toList) e
    rw [join_cpsC,join_cpsC] at e1
    obtain ⟨e2,e3⟩:=cut_eq (ha x List.mem_cons_self) (hb y List.mem_cons_self) e1
    rw [str_ext e2,join_inj (a:=z :: r) (b:=w :: s) (by simp) (by simp) (fun p hp=>ha p (List.mem_cons_of_mem _ hp)) (fun p hp=>hb p (List.mem_cons_of_mem _ hp)) (str_ext e3)]
theorem split_ne (x y:Str):Txt.split x y≠[]:=by
  unfold Txt.split
  split
  · simp
  · split
    · simp
    · rw [StrLaws.partsBetween_eq]
      obtain ⟨p,r,e⟩:=StrLaws.partsFrom_ne x y.length 0 (Builtin.Str.occurrences x y 0 x.length (x.length + 1))
      rw [e];simp
theorem split_join {c:Nat} {ws:List Str} (h:ws≠[]) (hf:∀ p∈ws,c ∉ p.cps.toList):Txt.split (Str.join ⟨#[c]⟩ ws) ⟨#[c]⟩=ws :=
  join_inj (split_ne _ _) h (StrLaws.split_free _ c) hf (StrLaws.join_split _ _)
theorem joinS_eq (sep:Str) (ls:List Str):joinS sep ls=Str.join sep ls:=by
  match ls with
  | []=>exact StrLaws.glued_eq_join sep []
  | [p]=>rfl
  | a :: b :: r=>exact StrLaws.glued_eq_join sep (a :: b :: r)
end L2
namespace L2
open PySem PySem.Spec PyProof.Rows
abbrev cIsiT (K:PySem.W.Frag):RC:=fun xs H Q=>∃ (x:V) (p:Addr) (t:Value) (Ts:List String) (b:Bool),xs=[x,.ref p]∧TyOf K H x t∧H p=some (.tup (Ts.map V.ty))∧PySem.W.kitAny K t (Ts.map Value.type)=some b∧Q (.bl b) H
section
variable {X:Cx}
end
section
variable {prog:Program} {w:World} {A:Around} {E:Value→Shared→Prop} {s:Shared}
theorem setItem_neg {l:Addr} {items:Array Value} {n:Nat} {k:Int} {t:Tok} {v:Value} {Q:Unit→Shared→Prop} (hl:s.heap.get? l=some { cls:=.type "list",data:=.seq items n })
    (h0:k < 0) (h1:-(items.size:Int)≤k) (hfit:-(2 ^ 63)≤k) (hQ:Q () { s with heap:=s.heap.update l (Obj.mapSeq (·.setIfInBounds (k + items.size).toNat v)) }) :
    wpAny (model prog w) A (setItem (.ref l) (.int k t) v) Q E s:=by
  have hL:s.heap.IsList l items:=⟨_,hl,rfl,n,rfl⟩
  unfold setItem
  try with_reducible refine wpAny_holding ?_
  first | refine wpAny_bind (wpAny_pure ?_) | skip
  refine wpAny_bind (wpAny_sequenceKey hL.typeIs (by decide) ?_)
  refine wpAny_bind (wpAny_callSpecial?_slot (name:=Str.ofString "__setitem__") hL.typeIs slot_list_setitem
    (wpAny_call_entry slot_list_setitem hL.typeIs entry_list_setitem ?_ (args_list_setitem _ _ _)))
  show wpAny _ _ (Builtin.List.listSubscript? (.int k t) >>= _) _ _ s
  refine wpAny_bind (wpAny_listSubscript_int (fitsIndex_neg h0 hfit) ?_)
  clear hfit
  have hidx:=seqIndex_neg h0 h1
  have hx:items[(k + items.size).toNat]?=some (items[(k + items.size).toNat]'(by omega)):=Array.getElem?_eq_getElem (by omega)
  obtain ⟨j,rfl⟩:∃ j:Nat,k=Int.negSucc j:=by
    cases k with
    | ofNat n=>exact absurd h0 (Int.not_lt.mpr (Int.ofNat_nonneg n))
    | negSucc n=>exact ⟨n,rfl⟩
  show wpAny _ _ ((Builtin.List.listItems (.ref l) >>= fun xs=>pure ((seqIndex? (Int.negSucc j) xs.size).bind fun i=>xs[i]?.map (i,·))) >>= _) _ _ s
  refine wpAny_bind (wpAny_bind ?_)
  show wpAny _ _ (seqItems? (.ref l) >>= _) _ _ s
  refine wpAny_bind (wpAny_seqItems hl rfl (wpAny_pure (wpAny_pure ?_)))
  rw [hidx]
  simp only [Option.bind_some,hx,Option.map_some]
  refine wpAny_bind (wpAny_setSeqItemAt hl rfl ?_)
  first
    | exact wpAny_bind (wpAny_pure (wpAny_pure ⟨.none,rfl,wpAny_pure hQ⟩))
    | exact wpAny_pure ⟨.none,rfl,wpAny_pure hQ⟩
theorem setItem_pos {l:Addr} {items:Array Value} {n j:Nat} {k:Int} {t:Tok} {v:Value} {Q:Unit→Shared→Prop} (hl:s.heap.get? l=some { cls:=.type "list",data:=.seq items n })
    (h0:0≤k) (hfit:k < 2 ^ 63) (hkj:k.toNat=j) (hn:j < items.size) (hQ:Q () { s with heap:=s.heap.update l (Obj.mapSeq (·.setIfInBounds j v)) }) :
    wpAny (model prog w) A (setItem (.ref l) (.int k t) v) Q E s:=by
  have hL:s.heap.IsList l items:=⟨_,hl,rfl,n,rfl⟩
  unfold setItem
  try with_reducible refine wpAny_holding ?_
  first | refine wpAny_bind (wpAny_pure ?_) | skip
  refine wpAny_bind (wpAny_sequenceKey hL.typeIs (by decide) ?_)
  refine wpAny_bind (wpAny_callSpecial?_slot (name:=Str.ofString "__setitem__") hL.typeIs slot_list_setitem
    (wpAny_call_entry slot_list_setitem hL.typeIs entry_list_setitem ?_ (args_list_setitem _ _ _)))
  show wpAny _ _ (Builtin.List.listSubscript? (.int k t) >>= _) _ _ s
  refine wpAny_bind (wpAny_listSubscript_int (fitsIndex_of h0 hfit) ?_)
  clear hfit
  obtain ⟨j',rfl⟩:=Int.eq_ofNat_of_zero_le h0
  have hkj:j'=j:=hkj
  subst hkj
  have hx':items[j']?=some items[j']:=Array.getElem?_eq_getElem hn
  show wpAny _ _ ((seqItemAt l j' >>= fun r=>pure (r.map (j',·))) >>= _) _ _ s
  refine wpAny_bind (wpAny_bind (wpAny_seqItemAt hl rfl (wpAny_pure ?_)))
  rw [hx']
  refine wpAny_bind (wpAny_setSeqItemAt hl rfl ?_)
  first
    | exact wpAny_bind (wpAny_pure (wpAny_pure ⟨.none,rfl,wpAny_pure hQ⟩))
    | exact wpAny_pure ⟨.none,rfl,wpAny_pure hQ⟩
end
def sLPut (td ty tv:TE):TS:=fun D σ H=>tv σ H fun v H1=>td σ H1 fun x H2=>ty σ H2 fun y H3=>∃ a xs i j,x=.ref a∧y=.int i∧H3 a=some (.lst xs)∧ixN xs.length i=some j∧(-1000≤i∧i≤1000)∧D.nx σ (upd H3 a (.lst (xs.set j v)))
theorem vals_set {v:V} {u:Value} (r:RelV v u):∀ {xs:List V} {us:List Value},Vals xs us→∀ j:Nat,Vals (xs.set j v) (us.set j u)
  | _,_,.nil,_=>.nil
  | _,_,.cons _ t,0=>.cons r t
  | _,_,.cons a t,j + 1=>.cons a (vals_set r t j)
section
variable {X:Cx} {o i value:Expr} {pos pos':Pos} {td ty tv:TE}
theorem ps_lput (ho:PE X o td) (hi:PE X i ty) (hv:PE X value tv) (hs:swapsWith value (some (.Subscript o i pos')) pos.line X.env=pure false) :
    PS X (.Assign [.Subscript o i pos'] value pos) (sLPut td ty tv):=by
  intro pins s σ H D I h
  refine wpAny_Assign_Subscript (thn (hv pins s σ H _ I h) fun r s1 ⟨v,H1,I1,rv,q1⟩=>thn (ho pins s1 σ H1 _ I1 q1) fun u s2 ⟨x,H2,I2,rx,q2⟩=>thn (hi pins s2 σ H2 _ I2 q2) fun iv s3 ⟨y,H3,I3,ry,a,xs,k,j,ex,ey,ea,hj,hk,q3⟩=>?_) hs
  subst ex ey
  obtain rfl:u=Value.ref a:=rx
  obtain ⟨t,rfl⟩:=ry
  obtain ⟨z,its,n,rl,hl,e⟩:=I3.lstM ea
  have fin:SP X pins D .next { s3 with heap:=s3.heap.update a (Obj.mapSeq (·.setIfInBounds j r)) }:=⟨σ,_,I3.lset (its':=its.set j r) (t':=s3.toks) ea e (by simp) (vals_set rv rl _) (by rw [List.length_set];exact z),q3⟩
  unfold ixN at hj
  by_cases h0:0≤k
  · rw [if_pos h0] at hj
    split at hj
    · rename_i h1
      cases hj
      exact setItem_pos e h0 (by omega) rfl (by rw [List.size_toArray,← hl];omega) fin
    · cases hj
  · rw [if_neg h0] at hj
    split at hj
    · rename_i h1
      cases hj
      refine setItem_neg e (by omega) (by rw [List.size_toArray,← hl];exact h1) (by omega) ?_
      rw [List.size_toArray,← hl]
      exact fin
    · cases hj
end
section
variable {X:Cx} {st:Stmt} {hs:List ExceptHandler} {pos:Pos} {tb:TS}
end
end L2
namespace L2
open PySem PySem.Spec PyProof.Rows
def iZipB (K:PySem.W.Frag) (ta:TA):TI:=fun σ H R=>ta σ H fun vs H1=>∃ p q xs ys,vs=[.ref p,.ref q]∧xs.length=ys.length∧((SqL K H1 p xs∧SqL K H1 q ys∧R (Itzl K p q xs ys) H1)∨(SqT K H1 p xs∧SqT K H1 q ys∧R (Itz K p q xs ys) H1))
section
variable {X:Cx}
abbrev rNeNil (K:PySem.W.Frag):R2:=fun x y H Q=>∃ a b xs,x=.ref a∧y=.ref b∧SqL K H a xs∧SqL K H b []∧Q (.bl (!decide (xs=[]))) H
theorem op_neNil (hu:X.A.units + 64 < cLine):OpR X (compareOp .NotEq) (rNeNil X.K):=by
  intro pins s σ H x y v u Q I rx ry h
  obtain ⟨a,b,xs,rfl,rfl,ha,hb,q⟩:=h
  by_cases e:xs=[]
  · subst e
    exact op_neL hu pins s σ H _ _ v u Q I rx ry ⟨a,b,[],[],rfl,rfl,ha,hb,⟨rfl,rfl,rfl⟩,q⟩
  · cases rx
    cases ry
    obtain ⟨us,r1,p1,_⟩:=I.list ha
    obtain ⟨ws,r2,p2,_⟩:=I.list hb
    cases r2
    have e1:=r1.length
    have e2:xs.length≠0:=fun z=>e (List.eq_nil_of_length_eq_zero z)
    rw [decide_eq_false e] at q
    exact PySem.SeqAt.RcNeAt.lists_lengths p1.isList p2.isList (by simp;intro z;rw [z] at e1;exact e2 e1) (by omega) X.prog X.w X.xe _ ⟨.bl true,H,I,rfl,q⟩
end
mutual
inductive DatS (H:Hp):V→PyData→Prop
  | int (i:Int):DatS H (.int i) (.int i)
  | str (x:Str):DatS H (.str x) (.str x)
  | lst {a:Addr} {xs:List V} {ds:List PyData}:H a=some (.lst xs)→DatSs H xs ds→DatS H (.ref a) (.list ds)
  | tup {a:Addr} {xs:List V} {ds:List PyData}:H a=some (.tup xs)→DatSs H xs ds→DatS H (.ref a) (.tuple ds)
inductive DatSs (H:Hp):List V→List PyData→Prop
  | nil:DatSs H [] []
  | cons {x:V} {d:PyData} {xs:List V} {ds:List PyData}:DatS H x d→DatSs H xs ds→DatSs H (x :: xs) (d :: ds)
end
end L2
namespace L2
open PySem
end L2
namespace L2
open PySem
abbrev r_mt_extend:RM:=rExtend
end L2
namespace L2
open PySem PySem.Spec PyProof.Rows
abbrev r_mt_clear:RM:=rClear
abbrev cSumL (K:PySem.W.Frag):RC:=fun xs H Q=>∃ a,∃ ns:List Int,xs=[.ref a]∧SqL K H a (ns.map V.int)∧Q (.int ns.sum) H
abbrev cMaxL (K:PySem.W.Frag):RC:=fun xs H Q=>∃ a,∃ ns:List Int,xs=[.ref a]∧SqL K H a (ns.map V.int)∧0 < ns.length∧∀ M,M∈ns→(∀ x∈ns,x≤M)→Q (.int M) H
section
variable {X:Cx}
theorem call_sumL (hc:X.calm=true):CallR X (.builtin "sum") (cSumL X.K):=by
  intro pins s σ H xs us Q I r h
  obtain ⟨a,ns,rfl,hq,q⟩:=h
  obtain ⟨u,rfl,r1⟩:=vals1 r
  cases r1
  obtain ⟨its,rv,p,hz⟩:=I.list hq
  have hi:IntsAre its ns:=intsAre_of rv
  obtain ⟨ys,hx⟩:=hi.allInts.items
  have hl':s.heap.IsList a (intItems ys):=hx ▸ p.isList
  refine sum_intListG (I.ok.hd hc) hl' fun h' tk t' hk=>?_
  have e1:ns=ys.toList.map (·.1):=by
    rw [← nums_intItems,← hx]
    exact (show numsOf its.toArray.toList=ns from hi.numsOf).symm
  have e2:preSum (numAt ys) ys.size=ns.sum:=by
    rw [preSum_eq,List.take_of_length_le (by simp),e1]
  rw [e2]
  exact ⟨.int ns.sum,H,I.kept hk,⟨_,rfl⟩,q⟩
end
end L2
namespace L2
open PySem PySem.Spec PyProof.Rows
abbrev cMax2:RC:=fun xs H Q=>∃ i j,xs=[.int i,.int j]∧Q (.int (if j > i then j else i)) H
abbrev rInA (K:PySem.W.Frag) (neg:Bool):R2:=fun x y H Q=>∃ (p:Addr) (xs:List V) (d:PyData) (ds:List PyData),y=.ref p∧(SqL K H p xs∨SqT K H p xs)∧Dat K H x d∧DatAll K H xs ds∧(plainD d=true∧d.depth≤50∧∀ e∈ds,plainD e=true) ∧
  ∀ b:Bool,(b=true↔d∈ds)→Q (.bl (if neg then !b else b)) H
section
variable {X:Cx}
open Classical in
noncomputable def hitD (K:PySem.W.Frag) (H:Hp) (d:PyData) (u:Value):Bool:=decide (∃ x,RelV x u∧Dat K H x d)
open Classical in
end
abbrev cSrtL (K:PySem.W.Frag):RC:=fun vs H Q=>∃ r xs its,vs=[.ref r]∧SqL K H r xs∧Paired (PrAt H) xs its∧(its.map (·.1)).Nodup∧its.length < 64 ∧
  ∀ l ys srt H',Same H H'→H l=none→H' l=some (.lst ys)→Paired (PrAt H') ys srt→Rising srt→srt.Perm its→Q (.ref l) H'
section
variable {X:Cx}
theorem call_sortedL (hc:X.calm=true) (hu:X.A.units + 3 < cLine):CallR X (.builtin "sorted") (cSrtL X.K):=by
  intro pins s σ H vs us Q I r0 h
  obtain ⟨r,xs,its,rfl,hq,pr,nd,h64,q⟩:=h
  obtain ⟨u,rfl,ru⟩:=vals1 r0
  cases ru
  obtain ⟨vs,rv,⟨o,n,ho,oc,_,od⟩,hz⟩:=I.list hq
  have so:=placeLt_so nd
  have l1:=Paired.length pr
  have l2:=rv.length
  have vat:∀ {h:Heap},(∀ b o,s.heap.get? b=some o→h.get? b=some o)→∀ (i:Nat) (q:Row),its[i]?=some q→∃ v,vs[i]?=some v∧RvAt h v q:=fun {h} k i q hq=>by
    have hi:=(List.getElem?_eq_some_iff.mp hq).1
    obtain ⟨y,hy⟩:∃ y,xs[i]?=some y:=⟨_,List.getElem?_eq_getElem (by omega)⟩
    obtain ⟨u,hu',ru⟩:=rv.get hy
    exact ⟨u,hu',(rv_at I (paired_get pr hy hq) ru).keep k⟩
  refine sorted_pure (vs:=vs) (κ:=tuples' false) (lt:=fun i j=>placeLt ((its.map (·.1)).getD i (("",0):Pl)) ((its.map (·.1)).getD j (("",0):Pl))) (by omega) (by rw [show vs.length=(its.map (·.1)).length by rw [List.length_map];omega];exact so) (fun R hR=>?_) (fun h2 h tk Q' k q'=>?_) (fun h tk i j C k hi hj hij q'=>?_) fun h tk h' p c k1 k2 hD hp hr=>?_
  · refine wpAny_collect_seq r (.inl rfl) ho oc od (fun h' k=>?_) (by rw [List.size_toArray];exact Nat.le_trans (by omega:_≤64) (by decide))
    have e:({ s with heap:=h' }:Shared)={ s with heap:=h',toks:=s.toks }:=rfl
    rw [e]
    exact hR h' s.toks k
  · refine kind_row (s:={ s with heap:=h,toks:=tk }) (qs:=its) (by omega) (fun i v q hv hq=>?_) (by omega) q'
    obtain ⟨v',hv',rr⟩:=vat k i q hq
    rw [hv] at hv'
    cases hv'
    exact rr
  · have e1:its[i]?=some its[i]:=List.getElem?_eq_getElem (by omega)
    have e2:its[j]?=some its[j]:=List.getElem?_eq_getElem (by omega)
    obtain ⟨v1,g1,r1⟩:=vat k i _ e1
    obtain ⟨v2,g2,r2⟩:=vat k j _ e2
    have n1:(its.map (·.1)).getD i (("",0):Pl)=its[i].1:=by rw [List.getD_eq_getElem?_getD,List.getElem?_map,e1];rfl
    have n2:(its.map (·.1)).getD j (("",0):Pl)=its[j].1:=by rw [List.getD_eq_getElem?_getD,List.getElem?_map,e2];rfl
    have m1:vs.getD i Value.none=v1:=by rw [List.getD_eq_getElem?_getD,g1];rfl
    have m2:vs.getD j Value.none=v2:=by rw [List.getD_eq_getElem?_getD,g2];rfl
    simp only [n1,n2] at q'
    have key:=ask_row (P:=X.prog) (w:=X.w) (A:=X.A.in1.in1) (E:=fun _ _=>False) (s:={ s with heap:=h,toks:=tk }) (Q:=C) (by have e:X.A.in1.in1.units=X.A.units + 2:=rfl;omega) r1 r2 q' fun z=>hij (by
      have e3:(its.map (·.1))[i]?=some its[i].1:=by rw [List.getElem?_map,e1];rfl
      have e4:(its.map (·.1))[j]?=some its[j].1:=by rw [List.getElem?_map,e2];rfl
      rw [z] at e3
      exact (List.getElem?_inj (by rw [List.length_map];omega) nd).mp (e3.trans e4.symm))
    rw [← m1,← m2] at key
    exact key
  · have I1:Inv X pins σ H { s with heap:=h,toks:=tk }:=I.kept k1
    have hp':PP its.length p:=by rw [show its.length=vs.length by omega];exact hp
    have fr:H h.objs.size=none:=I1.hok.fresh (Nat.le_refl _)
    have sz:=hp'.size
    have pk:=paired_pick pr V.non d0 (is:=p.toList) fun i hi=>by have:=hp'.lt i hi;omega
    have vk:Vals (p.toList.map fun i=>xs.getD i V.non) (outOf vs p):=paired_pick rv V.non Value.none (is:=p.toList) fun i hi=>by have:=hp'.lt i hi;omega
    have I2:Inv X pins σ (upd H h.objs.size (.lst (p.toList.map fun i=>xs.getD i V.non))) { s with heap:=h',toks:=tk }:=I1.laid (s:={ s with heap:=h,toks:=tk }) (a:=h.objs.size) (o:=.lst (p.toList.map fun i=>xs.getD i V.non)) (t':=tk) k2 (Nat.le_refl _)
      ⟨by rw [List.length_map,Array.length_toList];exact Nat.le_trans (by omega:_≤64) (by decide),outOf vs p,c,vk,hD⟩
    have S2:Same H (upd H h.objs.size (.lst (p.toList.map fun i=>xs.getD i V.non))):=isV _ fr
    have mono:∀ {us:List V} {ws:List Row},Paired (PrAt H) us ws→Paired (PrAt (upd H h.objs.size (.lst (p.toList.map fun i=>xs.getD i V.non)))) us ws:=fun {us ws} h=>by
      induction h with
      | nil=>exact .nil
      | cons a _ ih =>
        obtain ⟨r,p,e,h1,h2⟩:=a
        exact .cons ⟨r,p,e,S2 _ _ h1,S2 _ _ h2⟩ ih
    refine ⟨.ref h.objs.size,_,I2,rfl,q _ _ (p.toList.map fun i=>its.getD i d0) _ S2 fr upd_same (mono pk) ?_ ?_⟩
    · have hr':Rise (fun i j=>placeLt ((its.map (·.1)).getD i (("",0):Pl)) ((its.map (·.1)).getD j (("",0):Pl))) p its.length:=by rw [show its.length=vs.length by omega];exact hr
      have pw:=rise_pairs (F:=placeLt) hp' hr'
      have eq:(p.toList.map fun i=>its.getD i d0).map (·.1)=p.toList.map fun i=>(its.map (·.1)).getD i (("",0):Pl):=by
        rw [List.map_map]
        refine List.map_congr_left fun i hi=>?_
        have hi:=hp'.lt i hi
        simp [List.getD_eq_getElem?_getD,List.getElem?_map,List.getElem?_eq_getElem hi]
      rw [← eq,List.pairwise_map] at pw
      exact pw
    · refine (hp'.list.map _).trans ?_
      rw [range_getD]
end
def Cb (i:Int):Prop:=Builtin.Int.intBits i≤1048576
theorem Cb.of {i:Int} (h:i.natAbs < 2 ^ 64):Cb i:=Nat.le_trans (intBits_le_iff.mpr h) (by decide)
def Cw (i:Int):Prop:=Builtin.Int.intBits i≤4000000
theorem Cb.w {i:Int} (h:Cb i):Cw i:=Nat.le_trans h (by decide)
theorem Cw.div {i k:Int} (h:Cw i):Cw (i / k):=intBits_le_of_natAbs (Int.natAbs_ediv_le_natAbs i k) h
def CMulC (i j:Int):Prop:=Cw i∧Cw j
theorem CMulC.ok {i j:Int} (h:CMulC i j):IntMulOk i j:=by
  unfold IntMulOk
  have h1:Builtin.Int.intBits i≤4000000:=h.1
  have h2:Builtin.Int.intBits j≤4000000:=h.2
  have e:Builtin.Int.intTooBig ((Builtin.Int.intBits i:Int) + (Builtin.Int.intBits j:Int))=false:=by
    unfold Builtin.Int.intTooBig
    rw [decide_eq_false_iff_not]
    have:(bitsLine:Int)=134217728:=by decide
    omega
  rw [e];simp
section
variable {X:Cx}
theorem op_mulC:OpR X (binaryOp .Mult) (rI CMulC fun i j=>.int (i * j)):=opI fun _ _ _ _ _ _ _ hc q=>mul_int q hc.ok
end
open Att PySem.W PySem.Calls in
theorem walk_ofB {l:PySem.W.OpenLaw} {n k:Nat} {q:Program} {loose:List Str} {XP:(Str→Option Value)→Heap→Prop} {YP:World→Heap→Prop} {d:DefRec} {K:Params→PySem.W.Frag} {CX:World→CXT} {sp:World→Sp} {x:Str}
    (hn:l.most=some n) (hn2:n≤sizeLine) (hdf:d.params.defaults=[]) (hr:Room k callerA) (hY:∀ (w:World) (h:Heap),YP w h→(K w.params).In h)
    (F:∀ (w:World) (mg:Str→Option Value) (fa:Addr) (h:Heap),(K w.params).In h→h.Ns mainGlobals mg→mg d.name=some (.ref fa) →
      ∃ fd:FuncData,(∀ (s:Shared) (u:Value),BindsTo s fd ⟨[u],[]⟩ [(x,u)]) ∧
        ∀ base:Heap,(K w.params).In base→base.Ns mainGlobals mg→FnOk l.prog w (K w.params) mg base (CX w) k fa fd [x] (sp w))
    (hsp:∀ (w:World) (H:Hp) (a:Addr) (ns:List Int),ns.length≤n→(∀ i∈ns,Cb i)→Only H→SqL (K w.params) H a (ns.map V.int)→sp w [.ref a] H (fun v _=>v=.bl true) fun _ _ _=>False)
    (hCX:∀ (w:World) (H:Hp) (s:Shared) (e:Value) (s':Shared),CX w [] H s (fun _ _ _=>False) e s'→False) :
    PySem.W.WalkO q loose XP YP l.row.toRowW d [] (fun f vs=>PySem.call f vs):=by
  intro w s₀ s₁ mg mb G Y fa o pm cd doc dV kV ho hd hcd hD hmg hg args vals as hpre hlay hrd hwl hlo
  obtain rfl:dV=.none:=Dflts.none hD hdf
  obtain rfl:kV=.none:=Dflts.noKw hD
  obtain ⟨a,vs,ns,rfl,rfl,hobj,hints,hlen⟩:=script_of hn hpre hwl
  have hb:∀ i∈ns,Cb i:=fun i hi=>intBits_le_of_layable (layable_of_mem (lay0_int (layableW_item (layableW_arg hlay _ List.mem_cons_self) _ (List.mem_map.mpr ⟨i,hi,rfl⟩))) List.mem_cons_self)
  have KX:=hY w _ Y
  obtain ⟨fd,hbd,hF⟩:=F w mg fa _ KX G.T.g hmg
  refine enter_call (codeAny_mono (law_call KX G.T.g G.T.b G.T.builtins G.T.nolimit hg hobj hints (Nat.le_trans hlen hn2) hr hF hbd (fun H hO hS=>hsp w H a ns hlen hb hO hS) fun H e s'=>hCX w H s₁ e s') fun r s' hq=>?_)
  obtain ⟨rfl,h2,h3,h4⟩:=hq
  exact ⟨.inl ⟨.bool true,.bool true,[],rfl,fun _=>rfl,.bool true,post_true l _,fun _=>⟨List.Pairwise.nil,fun _ hm=>(nomatch hm)⟩⟩,h2,h3,h4⟩
theorem walk_ofXB {l:PySem.W.OpenLaw} {n k:Nat} {q:Program} {loose:List Str} {XP:(Str→Option Value)→Heap→Prop} {YP:World→Heap→Prop} {d:DefRec} {K:Params→PySem.W.Frag} {sp:PySem.W.Frag→Sp} {x:Str}
    (hn:l.most=some n) (hn2:n≤sizeLine) (hdf:d.params.defaults=[]) (hr:Room k callerA) (hY:∀ (w:World) (h:Heap),YP w h→(K w.params).In h)
    (F:∀ (w:World) (mg:Str→Option Value) (fa:Addr) (h:Heap),(K w.params).In h→h.Ns mainGlobals mg→mg d.name=some (.ref fa) →
      ∃ fd:FuncData,(∀ (s:Shared) (u:Value),BindsTo s fd ⟨[u],[]⟩ [(x,u)]) ∧
        ∀ base:Heap,(K w.params).In base→base.Ns mainGlobals mg→FnOk l.prog w (K w.params) mg base (CX1 l.prog w) k fa fd [x] (sp (K w.params)))
    (hsp:∀ (K:PySem.W.Frag) (H:Hp) (a:Addr) (ns:List Int),ns.length≤n→(∀ i∈ns,Cb i)→Only H→SqL K H a (ns.map V.int)→sp K [.ref a] H (fun v _=>v=.bl true) fun _ _ _=>False) :
    PySem.W.WalkO q loose XP YP l.row.toRowW d [] (fun f vs=>PySem.call f vs) :=
  walk_ofB (K:=K) (CX:=fun w=>CX1 l.prog w) (sp:=fun w=>sp (K w.params)) hn hn2 hdf hr hY F (fun w H a ns h1 hb h2 h3=>hsp (K w.params) H a ns h1 hb h2 h3) fun _ _ _ _ _ z=>by
    obtain ⟨_,_,_,_,_,_,_,_,_,y⟩:=z
    exact y
end L2
namespace L2
open PySem PySem.Spec PyProof.Rows
def Itk (a:Addr) (o:Obj) (kvs:List (Key × V)):It :=
  ⟨fun i H=>H a=some (.frz o (.dK kvs))∧i < kvs.length,fun i H x H'=>H'=H∧∃ k v,kvs[i]?=some (k,v)∧x=kV k,fun i H=>H a=some (.frz o (.dK kvs))∧kvs.length≤i⟩
section
variable {X:Cx}
def iDK (tl:TE):TI:=fun σ H R=>tl σ H fun x H1=>∃ a o kvs,x=.ref a∧H1 a=some (.frz o (.dK kvs))∧R (Itk a o kvs) H1
end
section
variable {σ:St} {H:Hp} {nx:St→Hp→Prop} {B:V→St→Hp→(St→Hp→Prop)→Prop}
end
end L2
namespace L2
open PySem PySem.Spec PyProof.Rows
def PcAt (H:Hp) (v:V) (q:Pl):Prop:=∃ p,v=.ref p∧H p=some (.tup [.str q.1,.int q.2])
abbrev cSrtP (K:PySem.W.Frag):RC:=fun vs H Q=>∃ r xs its,vs=[.ref r]∧SqL K H r xs∧Paired (PcAt H) xs its∧its.Nodup∧its.length < 64 ∧
  ∀ l ys srt H',Same H H'→H l=none→H' l=some (.lst ys)→Paired (PcAt H') ys srt→srt.Pairwise (fun a b=>placeLt a b=true)→srt.Perm its→Q (.ref l) H'
section
variable {X:Cx}
end
end L2
namespace L2
open PySem PySem.Spec PyProof.Rows
section
variable {K:Type} [DecidableEq K]
end
section
variable {prog:Program} {w:World} {K:Type} [DecidableEq K] {knd:HeapKind prog w K} {A:Around} {E:Value→Shared→Prop} {s:Shared} {d a:Addr} {xs:List (K × Addr × Value)} {k:K}
end
section
variable {X:Cx} {pins:List (Addr × Obj)} {σ:St} {H:Hp} {s:Shared} {a b:Addr} {kvs:List (List Key × V)} {k:List Key} {A:Around} {E:Value→Shared→Prop}
end
def tDPopT (td ty:TE):TE:=fun σ H Q=>td σ H fun x H1=>∃ a,x=.ref a∧IsD H1 a∧ty σ H1 fun y H2=>∃ kvs k b v,H2 a=some (.dT kvs)∧y=.ref b∧H2 b=some (.tup (k.map kV))∧valV kvs k=some v∧Q v (upd H2 a (.dT (dropK kvs k)))
def tDSetD (td ty tx:TE):TE:=fun σ H Q=>td σ H fun x H1=>∃ a,x=.ref a∧IsD H1 a∧ty σ H1 fun y H2=>tx σ H2 fun z H3=>∃ kvs k b,H3 a=some (.dT kvs)∧y=.ref b∧H3 b=some (.tup (k.map kV))∧kvs.length < sizeLine ∧
  (∀ v,valV kvs k=some v→Q v H3)∧(valV kvs k=none→Q z (upd H3 a (.dT (putK kvs k z))))
section
variable {X:Cx} {o e f:Expr} {apos cpos:Pos} {td ty tx:TE}
end
abbrev r_mt_insert:RM:=fun x vs H Q=>∃ (l:Addr) (xs:List V) (k:Nat) (y:V),x=.ref l∧vs=[.int k,y]∧H l=some (.lst xs)∧k≤xs.length∧xs.length < 1000000∧Q .non (upd H l (.lst (xs.take k ++ y :: xs.drop k)))
abbrev r_mt_remove:RM:=fun x vs H Q=>∃ (l:Addr) (ns:List Int) (i:Int),x=.ref l∧vs=[.int i]∧H l=some (.lst (ns.map V.int))∧i∈ns∧Q .non (upd H l (.lst ((ns.erase i).map V.int)))
section
variable {X:Cx}
end
def KyAt (H:Hp) (y:V) (kv:List Key × V):Prop:=∃ p,y=.ref p∧H p=some (.tup (kv.1.map kV))
abbrev cLstD:RC:=fun vs H Q=>∃ a kvs,vs=[.ref a]∧H a=some (.dT kvs)∧∀ l ys,H l=none→Paired (KyAt H) ys kvs→Q (.ref l) (upd H l (.lst ys))
abbrev cLenT:RC:=fun vs H Q=>∃ a kvs,vs=[.ref a]∧H a=some (.dT kvs)∧Q (.int (kvs.length:Nat)) H
section
variable {X:Cx}
end
end L2
namespace L2
open PySem PySem.Spec PyProof.Rows
section
variable {X:Cx} {c:Expr} {s₁ s₂:Stmt} {tc:TT} {t1 t2:EXK→TS} {pos:Pos}
end
section
variable {X:Cx} {e:Expr} {te:TE} {a b:Str} {j k:Nat} {p1 p2 p3 p4:Pos}
end
end L2
namespace L2
open PySem PySem.Spec PyProof.Rows
section
variable {P:Program} {w:World} {K:PySem.W.Frag} {mg:Str→Option Value} {base:Heap} {x qual:Str} {st:Stmt} {f:Addr} {fd:FuncData} {N ps:List Str} {k:Nat} {sp:Sp}
end
section
variable {X:Cx} {o value:Expr} {f:Str} {pos pos':Pos} {ta:TE} {tx:EXK→TE}
def sFldX (K:PySem.W.Frag) (ta:TE) (tx:EXK→TE) (f:Str) (EX:EXK):TS:=sFld K ta (tx EX) f
end
def tTryT (K:PySem.W.Frag) (tb:EXK→TS) (C1 C2:Addr) (th:TS):TS:=fun D σ H=>tb (fun cls σ1 H1=>∃ C,cls=.ref C∧PySem.W.exmAny K (.ref C) [.ref C1,.ref C2]=some true∧th D σ1 H1) D σ H
section
variable {X:Cx} {st b₀:Stmt} {suite:List Stmt} {tb:EXK→TS} {th:TS} {c1 c2:Str} {C1 C2:Addr} {np np2 hpos tpos pos:Pos} {x1:Nat}
end
section
variable {X:Cx} {CX:CXT} {k:Nat} {f C:Addr} {fd:FuncData} {ps:List Str} {sp:Sp} {dvs:List V} {E:XK} {m:Str} {pos apos:Pos} {o:Expr} {ta:TE}
end
end L2
namespace L2
open PySem PySem.Spec PyProof.Rows
abbrev rLtP:R2:=fun x y H Q=>∃ a b p r,x=.ref a∧y=.ref b∧H a=some (.tup [.str p.1,.int p.2])∧H b=some (.tup [.str r.1,.int r.2])∧Q (.bl (placeLt p r)) H
section
variable {X:Cx}
open PySem.SeqAt
open PySem.AutoSeq1 (wpAny_loadPart')
open PySem.MeetsSeq PySem.MeetsSeq2 PySem.MeetsSeq3
end
end L2
namespace L2
open PySem PySem.Spec PyProof.Rows
def tMakeO (C:Addr):TE:=fun _ H Q=>∀ x dx,H x=none→H dx=none→dx≠x→Q (.ref x) (upd (upd H dx (.own x)) x (.ins C dx []))
section
variable {X:Cx} {C:Addr} {x:Str} {p pos:Pos}
end
def tMethU (L:List (Addr × Sp)) (m:Str) (E:XK) (ta:TE) (t:TA):TE:=fun σ H Q=>ta σ H fun x H1=>∃ a dx fs C sp,x=.ref a∧H1 a=some (.ins C dx fs)∧fs.lookup m=none∧(C,sp)∈L∧t σ H1 fun vs H2=>sp (x :: vs) H2 Q E
section
variable {X:Cx} {CX:CXT} {E:XK} {m:Str} {pos apos:Pos} {e o:Expr} {es:List Expr} {ta:TE} {t:TA} {L:List (Addr × Sp)} {C:Addr} {sp:Sp}
end
structure InsK (K:PySem.W.Frag) (C:Addr):Prop where
  cl:Cls K C
  ha:PySem.W.findIn K (.ref C) "__class__"=some (some (.builtin "object.__class__"))
  hn:PySem.W.specialIn K (.builtin "object.__class__") "__get__"=some (some (.builtin "getset_descriptor.__get__"))
  tk:PySem.W.takesIn K (.builtin "object.__class__")=some true
  hm:PySem.W.mroIn K C (.type "object")=some true
abbrev cIsn (K:PySem.W.Frag):RC:=fun xs H Q=>∃ a C dx fs D b,xs=[.ref a,.ref D]∧H a=some (.ins C dx fs)∧InsK K C∧PySem.W.kitOne K (.ref C) (.ref D)=some b∧Q (.bl b) H
section
variable {X:Cx}
end
end L2
namespace L2
open PySem PySem.Spec PyProof.Rows
abbrev cAny (K:PySem.W.Frag):RC:=fun xs H Q=>∃ (a:Addr) (bs:List Bool),xs=[.ref a]∧SqL K H a (bs.map V.bl)∧Q (.bl (bs.any id)) H
section
variable {X:Cx}
theorem call_anyL (hc:X.calm=true):CallR X (.builtin "any") (cAny X.K):=by
  intro pins s σ H xs us Q I r h
  obtain ⟨a,bs,rfl,hq,q⟩:=h
  obtain ⟨u,rfl,r1⟩:=vals1 r
  cases r1
  obtain ⟨its,rv,p,hz⟩:=I.list hq
  have hl:=rv.length
  rw [List.length_map] at hl
  have hne:a≠s.heap.objs.size:=by
    obtain ⟨o,n,e,_⟩:=p
    exact Nat.ne_of_lt (Heap.lt_size e)
  refine call_any_walk (wpAny_pyIter_list p.isList ?_)
  refine ⟨s.heap.objs.size,_,_,its.toArray.size,fun i v=>its.toArray[i]?=some v,_,fun i=>bs.getD i false,rfl,Walks.list (A:=X.A.in1) (I.ok.hd hc) _ a hne its.toArray,?_,?_,fun h' tk k=>?_⟩
  · exact ⟨⟨_,Heap.get?_push_size _ rfl,rfl,rfl⟩,p.isList.at fun o e=>Heap.get?_push_of_some _ e⟩
  · intro i v s' Q' E' hv hQ
    have hv':its[i]?=some v:=by simpa using hv
    have hi:i < bs.length:=by
      rw [hl]
      exact (List.getElem?_eq_some_iff.mp hv').1
    obtain ⟨u',hu,ru⟩:=rv.get (i:=i) (x:=V.bl bs[i]) (by simp [hi])
    rw [hv'] at hu
    cases hu
    cases ru
    have e:bs.getD i false=bs[i]:=by simp [hi]
    have hQ':Q' (bs.getD i false) s':=hQ
    rw [e] at hQ'
    exact wpAny_truthy_bool hQ'
  · have e:(List.range its.toArray.size).any (fun i=>bs.getD i false)=bs.any id:=by
      rw [List.size_toArray,← hl]
      have:bs.map id=(List.range bs.length).map fun i=>bs.getD i false:=by
        apply List.ext_getElem?
        intro i
        by_cases hi:i < bs.length <;> simp [hi]
      have h2:bs.any id=(bs.map id).any id:=by simp
      rw [h2,this,List.any_map]
      rfl
    rw [e]
    refine ⟨.bl (bs.any id),H,?_,rfl,q⟩
    exact I.kept fun b o e=>k b o (by
      have:=Nat.ne_of_lt (Heap.lt_size e)
      simpa using this) (Heap.get?_push_of_some _ e)
end
def tSRev (te ts:TE):TE:=fun σ H Q=>te σ H fun x H1=>ts σ H1 fun k H2=>∃ z y,x=.str z∧k=.int (-1)∧z.length≤sizeLine∧(∀ u,Txt.sliceBy z none none (-1,u)=y)∧Q (.str y) H2
section
variable {X:Cx} {e st:Expr} {p2 pos:Pos} {te ts:TE}
end
section
variable {P:Program} {w:World} {A:Around} {E:Value→Shared→Prop} {s:Shared}
end
def tLRev (K:PySem.W.Frag) (ta:TA):TE:=fun σ H Q=>ta σ H fun vs H1=>∃ a xs,vs=[.ref a]∧SqL K H1 a xs∧∀ l,H1 l=none→Q (.ref l) (upd H1 l (.lst xs.reverse))
section
variable {X:Cx} {a:Expr} {ta:TA} {p p2 pos pos2:Pos}
end
end L2
namespace L2
open PySem PySem.Spec PyProof.Rows
abbrev cLenK:RC:=fun vs H Q=>∃ a kvs,vs=[.ref a]∧H a=some (.dK kvs)∧Q (.int (kvs.length:Nat)) H
section
variable {X:Cx}
end
end L2
namespace L2
open PySem PySem.Spec PyProof.Rows
section
variable {X:Cx} {CX:CXT} {k:Nat} {f C:Addr} {fd:FuncData} {ps:List Str} {sp:Sp} {dvs:List V} {E:XK} {x:Str} {p pos:Pos} {e:Expr} {es:List Expr} {t:TA}
end
section
variable {X:Cx} {e:Expr} {te:TE} {a:Str} {j:Nat} {p1 p2 p3:Pos}
end
section
variable {X:Cx} {st b₀:Stmt} {suite:List Stmt} {tb:EXK→TS} {th1:TS} {c1:Str} {C1:Addr} {np hpos pos:Pos}
end
end L2
namespace L2
open PySem PySem.Spec PyProof.Rows
section
variable {X:Cx} {tg:Expr}
def iSeq (K:PySem.W.Frag) (tl:TE):TI:=fun σ H R=>tl σ H fun x H1=>∃ a,x=.ref a∧(((∃ xs,SqL K H1 a xs)∧R (Itl K a) H1)∨((∃ xs,SqT K H1 a xs)∧R (Itt K a) H1))
end
end L2
namespace HT
open PySem PySem.Spec PyProof.Rows
section
variable {prog:Program} {w:World} {A:Around} {E:Value→Shared→Prop} {s:Shared}
end
end HT
namespace L2
open PySem PySem.Spec PyProof.Rows
section
variable {X:Cx}
def rSlT2 (K:PySem.W.Frag):V→Option Int→Option Int→Hp→VK→Prop:=fun x lo hi H Q=>∃ a xs,x=.ref a∧SqT K H a xs ∧
  ((HT.sIx xs.length 0 lo=0∧HT.sIx xs.length xs.length hi=xs.length)→Q (.ref a) H)∧(¬ (HT.sIx xs.length 0 lo=0∧HT.sIx xs.length xs.length hi=xs.length)→∀ p,H p=none→Q (.ref p) (upd H p (.tup (cutV xs lo hi))))
end
end L2
namespace L2
open PySem PySem.Spec PyProof.Rows
def tLRevS (K:PySem.W.Frag) (te ts:TE):TE:=fun σ H Q=>te σ H fun x H1=>ts σ H1 fun k H2=>∃ a xs,x=.ref a∧k=.int (-1)∧SqL K H2 a xs∧∀ p,H2 p=none→Q (.ref p) (upd H2 p (.lst xs.reverse))
section
variable {X:Cx} {e st:Expr} {p2 pos:Pos} {te ts:TE}
end
end L2
namespace L2
open PySem
section
variable {P:Program} {w:World} {A:Around} {E:Value→Shared→Prop} {s:Shared}
end
end L2
namespace L2
open PySem PySem.Spec PyProof.Rows
def Itm (a:Addr) (o:Obj) (kvs:List (List Key × V)):It :=
  ⟨fun i H=>H a=some (.frz o (.dT kvs))∧i < kvs.length,fun i H x H'=>∃ T k v p,kvs[i]?=some (k,v)∧x=.ref T∧H T=none∧H p=some (.tup (k.map kV))∧H'=upd H T (.tup [.ref p,v]),fun i H=>H a=some (.frz o (.dT kvs))∧kvs.length≤i⟩
section
variable {X:Cx}
def iItm (td:TE):TI:=fun σ H R=>td σ H fun x H1=>∃ a o kvs,x=.ref a∧H1 a=some (.frz o (.dT kvs))∧R (Itm a o kvs) H1
end
end L2
namespace L2
open PySem PySem.Spec PySem.W PyProof.Rows
abbrev cSrtN (K:PySem.W.Frag):RC:=fun vs H Q=>∃ r ns,vs=[.ref r]∧SqL K H r (List.map V.int ns)∧ns.length < 64 ∧
  ∀ (l:Addr) (srt:List Int),H l=none→srt.Perm ns→(ns.Nodup→srt.Pairwise (· < ·))→Q (.ref l) (upd H l (.lst (srt.map V.int)))
section
variable {X:Cx}
end
def tLRng (ta:TA):TE:=fun σ H Q=>ta σ H fun vs H1=>∃ n:Nat,vs=[.int n]∧n≤1000∧∀ l,H1 l=none→Q (.ref l) (upd H1 l (.lst ((List.range n).map fun i=>V.int (i:Nat))))
section
variable {X:Cx} {a:Expr} {ta:TA} {p p2 pos pos2:Pos}
end
end L2
namespace L2
open PySem PySem.Spec PySem.W PyProof.Rows PySem.Calls
abbrev rEqDE:R2:=fun x y H Q=>∃ a b kvs,x=.ref a∧y=.ref b∧H a=some (.dT kvs)∧H b=some (.dK [])∧Q (.bl (decide (kvs.length=0))) H
section
variable {X:Cx}
end
end L2
namespace L2
open PySem
def lcN (m i:Nat):Nat:=(i * 5 + 1) % (m + 1)
def itN (m:Nat):Nat→Nat→Nat
  | 0,x=>x
  | k + 1,x=>itN m k (lcN m x)
def orN (m:Nat):Nat→Nat→List Nat
  | 0,x=>[x]
  | k + 1,x=>x :: orN m k (lcN m x)
theorem itN_add (m:Nat):∀ (a b x:Nat),itN m (a + b) x=itN m b (itN m a x)
  | 0,b,x=>by rw [Nat.zero_add];rfl
  | a + 1,b,x=>by rw [Nat.add_right_comm];exact itN_add m a b (lcN m x)
theorem orN_mem (m:Nat):∀ (k x e:Nat),e∈orN m k x→∃ b,b≤k∧itN m b x=e
  | 0,x,e,h=>⟨0,Nat.le_refl _,(List.mem_singleton.mp h).symm⟩
  | k + 1,x,e,h=>by
    rcases List.mem_cons.mp h with rfl | h
    · exact ⟨0,Nat.zero_le _,rfl⟩
    · obtain ⟨b,hb,e⟩:=orN_mem m k _ e h
      exact ⟨b + 1,by omega,e⟩
def maskOk (m:Nat):Prop:=m=7∨m=31∨m=127
theorem itN_all {m:Nat} (hm:maskOk m):(∀ e,e≤m→∃ b,b≤m∧itN m b 0=e)∧itN m (m + 1) 0=0:=by
  have key:∀ n,((List.range (n + 1)).all fun e=>(orN n n 0).contains e)=true→∀ e,e≤n→∃ b,b≤n∧itN n b 0=e:=fun n h e he=>by
    have:=List.all_eq_true.mp h e (List.mem_range.mpr (by omega))
    exact orN_mem n n 0 e (by simpa using this)
  rcases hm with rfl | rfl | rfl
  · exact ⟨key 7 (by decide +kernel),by decide +kernel⟩
  · exact ⟨key 31 (by decide +kernel),by decide +kernel⟩
  · exact ⟨key 127 (by decide +kernel),by decide +kernel⟩
theorem itN_reach {m x e:Nat} (hm:maskOk m) (hx:x≤m) (he:e≤m):∃ k,k≤m∧itN m k x=e:=by
  obtain ⟨all,per⟩:=itN_all hm
  obtain ⟨a,ha,rfl⟩:=all x hx
  obtain ⟨b,hb,rfl⟩:=all e he
  by_cases c:a≤b
  · exact ⟨b - a,by omega,by rw [← itN_add,show a + (b - a)=b by omega]⟩
  · refine ⟨b + (m + 1) - a,by omega,?_⟩
    rw [← itN_add,show a + (b + (m + 1) - a)=(m + 1) + b by omega,itN_add,per]
def lpN (m:Nat):Nat→Nat × Nat→Nat × Nat
  | 0,x=>x
  | k + 1,x=>lpN m k (SetTable.leap m x.1 x.2)
theorem lpN_add (m:Nat):∀ (a b:Nat) (x:Nat × Nat),lpN m (a + b) x=lpN m b (lpN m a x)
  | 0,b,x=>by rw [Nat.zero_add];rfl
  | a + 1,b,x=>by rw [Nat.add_right_comm];exact lpN_add m a b _
theorem lpN_snd (m:Nat):∀ (k:Nat) (x:Nat × Nat),(lpN m k x).2=x.2 / 32 ^ k
  | 0,x=>by simp [lpN]
  | k + 1,x=>by
    show (lpN m k (SetTable.leap m x.1 x.2)).2=_
    rw [lpN_snd m k]
    show x.2 / 32 / 32 ^ k=_
    rw [Nat.div_div_eq_div_mul,Nat.pow_succ,Nat.mul_comm]
theorem lpN_le (m:Nat):∀ (k:Nat) (x:Nat × Nat),x.1≤m→(lpN m k x).1≤m
  | 0,x,h=>h
  | k + 1,x,h=>lpN_le m k _ (Nat.le_of_lt_succ (Nat.mod_lt _ (Nat.succ_pos m)))
theorem lpN_zero (m:Nat):∀ (k i:Nat),lpN m k (i,0)=(itN m k i,0)
  | 0,i=>rfl
  | k + 1,i=>by
    show lpN m k (SetTable.leap m i 0)=_
    exact lpN_zero m k (lcN m i)
theorem lpN_reach {m e:Nat} {x:Nat × Nat} (hm:maskOk m) (h1:x.1≤m) (h2:x.2 < 2 ^ 64) (he:e≤m):∃ k,1≤k∧k≤m + 13∧(lpN m k x).1=e:=by
  have z:(lpN m 13 x).2=0:=by rw [lpN_snd];exact Nat.div_eq_of_lt (Nat.lt_of_lt_of_le h2 (by decide))
  have l:=lpN_le m 13 x h1
  obtain ⟨k,hk,e1⟩:=itN_reach (x:=(lpN m 13 x).1) hm l he
  refine ⟨13 + k,by omega,by omega,?_⟩
  rw [lpN_add,show lpN m 13 x=((lpN m 13 x).1,0) from Prod.ext rfl z,lpN_zero]
  exact e1
section
variable {t:SetTable}
def advN (t:SetTable):Nat→SetTable.Probe→SetTable.Probe
  | 0,p=>p
  | k + 1,p=>advN t k (t.advance p)
theorem advN_add (t:SetTable):∀ (a b:Nat) (p:SetTable.Probe),advN t (a + b) p=advN t b (advN t a p)
  | 0,b,x=>by rw [Nat.zero_add];rfl
  | a + 1,b,x=>by rw [Nat.add_right_comm];exact advN_add t a b _
structure PbOk (t:SetTable) (p:SetTable.Probe):Prop where
  more:p.more≤9
  i:p.i≤t.mask
  pt:p.perturb < 2 ^ 64
  dm:p.dummy=none
theorem run_le (m i:Nat):SetTable.runEnd m i - i≤9:=by unfold SetTable.runEnd;split <;> omega
theorem adv_more {p:SetTable.Probe} (h:0 < p.more):t.advance p={ p with j:=p.j + 1,more:=p.more - 1 }:=by
  unfold SetTable.advance
  rw [if_pos h]
theorem adv_leap {p:SetTable.Probe} (h:p.more=0):t.advance p={ p with j:=(SetTable.leap t.mask p.i p.perturb).1,more:=SetTable.runEnd t.mask (SetTable.leap t.mask p.i p.perturb).1 - (SetTable.leap t.mask p.i p.perturb).1,i:=(SetTable.leap t.mask p.i p.perturb).1,perturb:=(SetTable.leap t.mask p.i p.perturb).2 }:=by
  unfold SetTable.advance
  rw [if_neg (by omega)]
theorem PbOk.adv {p:SetTable.Probe} (h:PbOk t p):PbOk t (t.advance p):=by
  by_cases c:0 < p.more
  · rw [adv_more c]
    exact ⟨by have:=h.more;show p.more - 1≤9;omega,h.i,h.pt,h.dm⟩
  · rw [adv_leap (by omega)]
    refine ⟨run_le _ _,Nat.le_of_lt_succ (Nat.mod_lt _ (Nat.succ_pos _)),?_,h.dm⟩
    show p.perturb / 32 < 2 ^ 64
    exact Nat.lt_of_le_of_lt (Nat.div_le_self _ _) h.pt
theorem adv_one:∀ (n:Nat) (p:SetTable.Probe),p.more=n→(advN t (n + 1) p).j=(SetTable.leap t.mask p.i p.perturb).1∧(advN t (n + 1) p).i=(SetTable.leap t.mask p.i p.perturb).1∧(advN t (n + 1) p).perturb=(SetTable.leap t.mask p.i p.perturb).2∧(advN t (n + 1) p).more≤9
  | 0,p,h=>by
    show (t.advance p).j=_∧(t.advance p).i=_∧(t.advance p).perturb=_∧(t.advance p).more≤9
    rw [adv_leap h]
    exact ⟨rfl,rfl,rfl,run_le _ _⟩
  | n + 1,p,h=>by
    have:=adv_one n (t.advance p) (by rw [adv_more (by omega)];show p.more - 1=n;omega)
    rw [adv_more (by omega)] at this
    rw [show n + 1 + 1=(n + 1) + 1 from rfl]
    show (advN t (n + 1) (t.advance p)).j=_∧(advN t (n + 1) (t.advance p)).i=_∧(advN t (n + 1) (t.advance p)).perturb=_∧(advN t (n + 1) (t.advance p)).more≤9
    rw [adv_more (by omega)]
    exact this
theorem adv_leaps:∀ (k:Nat) (p:SetTable.Probe),p.more≤9→∃ n,n≤10 * (k + 1)∧(advN t n p).j=(lpN t.mask (k + 1) (p.i,p.perturb)).1∧(advN t n p).i=(lpN t.mask (k + 1) (p.i,p.perturb)).1∧(advN t n p).perturb=(lpN t.mask (k + 1) (p.i,p.perturb)).2∧(advN t n p).more≤9
  | 0,p,h=>by
    obtain ⟨a,b,c,d⟩:=adv_one (t:=t) p.more p rfl
    exact ⟨p.more + 1,by omega,a,b,c,d⟩
  | k + 1,p,h=>by
    obtain ⟨n,hn,a,b,c,d⟩:=adv_leaps k p h
    obtain ⟨a',b',c',d'⟩:=adv_one (t:=t) (advN t n p).more (advN t n p) rfl
    have e:lpN t.mask (k + 1 + 1) (p.i,p.perturb)=SetTable.leap t.mask (advN t n p).i (advN t n p).perturb:=by
      rw [lpN_add,b,c];rfl
    refine ⟨n + ((advN t n p).more + 1),by omega,?_⟩
    rw [advN_add,e]
    exact ⟨a',b',c',d'⟩
theorem adv_reach {p:SetTable.Probe} {e:Nat} (hm:maskOk t.mask) (h:PbOk t p) (he:e≤t.mask):∃ n,n < 10 * SetTable.turns t.mask∧(advN t n p).j=e:=by
  obtain ⟨k,k1,k2,e1⟩:=lpN_reach (x:=(p.i,p.perturb)) hm h.i h.pt he
  obtain ⟨n,hn,a,_⟩:=adv_leaps (t:=t) (k - 1) p h.more
  rw [show k - 1 + 1=k by omega] at a hn
  exact ⟨n,by unfold SetTable.turns;omega,a.trans e1⟩
theorem has_none (j:Nat):SetTable.has #[] j=false:=by unfold SetTable.has;simp
theorem slot_ne {j:Nat} (hd:t.dummies=#[]):t.slot j≠.dummy:=by
  unfold SetTable.slot
  dsimp only
  split
  · exact fun z=>nomatch z
  · rw [hd,has_none]
    exact fun z=>nomatch z
theorem slot_live {j i:Nat} (h:t.slot j=.live i):t.place[i]?=some j:=by
  unfold SetTable.slot at h
  dsimp only at h
  split at h
  · rename_i c
    cases h
    simpa using c
  · split at h <;> cases h
theorem slot_free (hd:t.dummies=#[]) (hn:t.place.size≤t.mask):∃ e,e≤t.mask∧t.slot e=.empty:=by
  apply Classical.byContradiction
  intro z
  have all:∀ e,e≤t.mask→e∈t.place.toList:=fun e he=>by
    cases c:t.slot e with
    | empty=>exact absurd ⟨e,he,c⟩ z
    | dummy=>exact absurd c (slot_ne hd)
    | live i =>
      have:=slot_live c
      rw [← Array.getElem?_toList] at this
      exact List.mem_of_getElem? this
  have:=List.Nodup.length_le_of_subset (List.nodup_range (n:=t.mask + 1)) (fun e he=>all e (by have:=List.mem_range.mp he;omega))
  rw [List.length_range,Array.length_toList] at this
  omega
theorem go_meets {f:Nat→Int} {h:Int} (hd:t.dummies=#[]):∀ (n fuel:Nat) (p:SetTable.Probe),n < fuel→PbOk t p→t.slot (advN t n p).j=.empty →
    (∃ j,SetTable.probe.go t f h fuel p=some (.empty j none)∧t.slot j=.empty)∨∃ j i k,SetTable.probe.go t f h fuel p=some (.candidate j i (advN t (k + 1) p))∧k < n∧t.slot j=.live i
  | n,0,p,h1,_,_=>by omega
  | 0,fuel + 1,p,_,ok,h2=>by
    left
    refine ⟨p.j,?_,h2⟩
    unfold SetTable.probe.go
    rw [show t.slot p.j=.empty from h2]
    dsimp only
    rw [ok.dm]
  | n + 1,fuel + 1,p,h1,ok,h2=>by
    unfold SetTable.probe.go
    cases c:t.slot p.j with
    | empty=>left;exact ⟨p.j,by dsimp only;rw [ok.dm],c⟩
    | dummy=>exact absurd c (slot_ne hd)
    | live i =>
      dsimp only
      by_cases e:(f i == h)=true
      · right
        rw [if_pos e]
        exact ⟨p.j,i,0,rfl,by omega,c⟩
      · rw [if_neg e]
        rcases go_meets (f:=f) (h:=h) hd n fuel (t.advance p) (by omega) ok.adv h2 with ⟨j,a,b⟩ | ⟨j,i,k,a,b,c⟩
        · exact .inl ⟨j,a,b⟩
        · exact .inr ⟨j,i,k + 1,a,by omega,c⟩
end
end L2
namespace L2
open PySem
theorem fr_finds {m e:Nat} {ow:Array (Option Nat)} (he:ow[e]?=some none):∀ (k fuel i p:Nat),k < fuel→(lpN m k (i,p)).1=e→∃ j,SetTable.layClean.free m ow fuel i p=some j∧ow[j]?=some none
  | k,0,i,p,h,_=>by omega
  | k,fuel + 1,i,p,h,hl=>by
    unfold SetTable.layClean.free
    cases c:(List.range (SetTable.runEnd m i + 1 - i)).find? fun k=>(ow.getD (i + k) (some 0)).isNone with
    | some k0 =>
      refine ⟨i + k0,rfl,?_⟩
      have z:=List.find?_some c
      rw [Array.getD_eq_getD_getElem?] at z
      cases d:ow[i + k0]? with
      | none=>rw [d] at z;cases z
      | some x =>
        rw [d] at z
        cases x with
        | none=>rfl
        | some _=>cases z
    | none =>
      cases k with
      | zero =>
        exfalso
        have:=List.find?_eq_none.mp c 0 (List.mem_range.mpr (by unfold SetTable.runEnd;split <;> omega))
        have ei:i=e:=hl
        rw [Nat.add_zero,ei,Array.getD_eq_getD_getElem?,he] at this
        exact this rfl
      | succ k=>exact fr_finds he k fuel _ _ (by omega) hl
theorem set_some {v:Nat}:∀ {l:List (Option Nat)} {j:Nat},l[j]?=some none→((l.set j (some v)).filterMap id).Perm (v :: l.filterMap id)
  | [],j,h=>by simp at h
  | x :: l,0,h=>by
    simp only [List.getElem?_cons_zero,Option.some.injEq] at h
    subst h
    exact List.Perm.refl _
  | x :: l,j + 1,h=>by
    have ih:=set_some (v:=v) (l:=l) (j:=j) (by simpa using h)
    cases x with
    | none=>exact ih
    | some y=>exact (ih.cons y).trans (List.Perm.swap ..)
theorem some_none:∀ {l:List (Option Nat)},(l.filterMap id).length < l.length→∃ e:Nat,e < l.length∧l[e]?=some none
  | [],h=>by simp at h
  | none :: l,h=>⟨0,by simp,rfl⟩
  | some x :: l,h=>by
    obtain ⟨e,a,b⟩:=some_none (l:=l) (by simpa using h)
    exact ⟨e + 1,by simpa using a,by simpa using b⟩
structure OwOk (m k:Nat) (ow:Array (Option Nat)):Prop where
  sz:ow.size=m + 1
  pm:(ow.toList.filterMap id).Perm (List.range k)
theorem bits_lt (h:Int):SetTable.bits h < 2 ^ 64:=by
  unfold SetTable.bits
  have h1:(0:Int)≤h % 2 ^ 64:=Int.emod_nonneg _ (by decide)
  have h2:h % 2 ^ 64 < 2 ^ 64:=Int.emod_lt_of_pos _ (by decide)
  omega
theorem lay_go {m:Nat} (hm:maskOk m):∀ (hs:List Int) (ow:Array (Option Nat)) (k:Nat),OwOk m k ow→k + hs.length≤m →
    ∃ ow',hs.foldl (fun acc h=>acc.bind fun x=>(SetTable.layClean.free m x.1 (SetTable.turns m) (SetTable.bits h % (m + 1)) (SetTable.bits h)).bind fun j=>some (x.1.setIfInBounds j (some x.2),x.2 + 1)) (some (ow,k))=some (ow',k + hs.length)∧OwOk m (k + hs.length) ow'
  | [],ow,k,ok,_=>⟨ow,rfl,ok⟩
  | h :: hs,ow,k,ok,hl=>by
    have l1:(ow.toList.filterMap id).length=k:=by rw [ok.pm.length_eq,List.length_range]
    obtain ⟨e,a,b⟩:=some_none (l:=ow.toList) (by rw [l1,Array.length_toList,ok.sz];simp at hl;omega)
    rw [Array.length_toList,ok.sz] at a
    rw [Array.getElem?_toList] at b
    obtain ⟨n,n1,n2,n3⟩:=lpN_reach (x:=(SetTable.bits h % (m + 1),SetTable.bits h)) hm (Nat.le_of_lt_succ (Nat.mod_lt _ (Nat.succ_pos _))) (bits_lt h) (Nat.le_of_lt_succ a)
    obtain ⟨j,j1,j2⟩:=fr_finds b n (SetTable.turns m) _ _ (by unfold SetTable.turns;omega) n3
    have ok2:OwOk m (k + 1) (ow.setIfInBounds j (some k)):=by
      refine ⟨by rw [Array.size_setIfInBounds];exact ok.sz,?_⟩
      rw [Array.toList_setIfInBounds]
      refine (set_some (by rw [Array.getElem?_toList];exact j2)).trans ?_
      rw [List.range_succ]
      exact (ok.pm.cons k).trans (List.perm_append_singleton k _).symm
    obtain ⟨ow',g1,g2⟩:=lay_go hm hs _ (k + 1) ok2 (by simp at hl;omega)
    refine ⟨ow',?_,by rw [List.length_cons,show k + (hs.length + 1)=k + 1 + hs.length by omega];exact g2⟩
    rw [List.foldl_cons,List.length_cons,show k + (hs.length + 1)=k + 1 + hs.length by omega,← g1]
    congr 1
    show (SetTable.layClean.free m ow (SetTable.turns m) (SetTable.bits h % (m + 1)) (SetTable.bits h)).bind _=_
    rw [j1]
    rfl
theorem lay_clean {m:Nat} (hm:maskOk m) {hs:Array Int} (hl:hs.size≤m):∃ ow,SetTable.layClean m hs=some ow∧OwOk m hs.size ow:=by
  obtain ⟨ow,a,b⟩:=lay_go hm hs.toList (Array.replicate (m + 1) none) 0 ⟨by simp,by
    have:∀ n,(List.replicate n (none:Option Nat)).filterMap id=[]:=fun n=>by
      induction n with
      | zero=>rfl
      | succ n ih=>exact ih
    rw [Array.toList_replicate,this];exact List.Perm.refl _⟩ (by simpa using hl)
  rw [Nat.zero_add,Array.length_toList] at a b
  refine ⟨ow,?_,b⟩
  unfold SetTable.layClean
  rw [← Array.foldl_toList]
  have:=congrArg (Option.map (·.1)) a
  exact this
theorem getD_list {α:Type} (l:List (Option α)):(List.range l.length).filterMap (fun j=>l.getD j none)=l.filterMap id:=by
  have e:(List.range l.length).map (fun j=>l.getD j none)=l:=by
    apply List.ext_getElem
    · simp
    · intro i h1 h2
      simp [List.getD_eq_getElem?_getD,List.getElem?_eq_getElem h2]
  conv=>rhs;rw [← e]
  rw [List.filterMap_map]
  rfl
theorem laid_ok {m fg mv:Nat} {ld pl:Bool} {hs:Array Int} (hm:maskOk m) (hl:hs.size≤m):∃ t' ord,SetTable.laid m fg mv ld pl hs=some (t',ord)∧t'.mask=m∧t'.dummies=#[]∧t'.place.size=hs.size∧(t'.plain=pl∧t'.led=ld)∧ord.toList.Perm (List.range hs.size):=by
  obtain ⟨ow,a,b⟩:=lay_clean hm hl
  have e:((List.range (m + 1)).filterMap fun j=>(ow.getD j none).map (Prod.mk j)).map (·.2)=ow.toList.filterMap id:=by
    rw [List.map_filterMap,← getD_list,Array.length_toList,b.sz]
    congr 1
    funext j
    rw [Array.getD_eq_getD_getElem?,List.getD_eq_getElem?_getD,Array.getElem?_toList]
    cases (ow[j]?.getD none) <;> rfl
  have ln:((List.range (m + 1)).filterMap fun j=>(ow.getD j none).map (Prod.mk j)).length=hs.size:=by
    have:=congrArg List.length e
    rw [List.length_map,b.pm.length_eq,List.length_range] at this
    exact this
  refine ⟨_,_,by unfold SetTable.laid;rw [a];rfl,rfl,rfl,?_,⟨rfl,rfl⟩,?_⟩
  · show (List.toArray _).size=_
    rw [List.size_toArray,List.length_map]
    exact ln
  · show (List.toArray _).toList.Perm _
    exact (show _=ow.toList.filterMap id from e) ▸ b.pm
theorem pick_perm {α:Type} {es:Array α} {ord:Array Nat} (h:ord.toList.Perm (List.range es.size)):(ord.filterMap (es[·]?)).toList.Perm es.toList:=by
  rw [Array.toList_filterMap]
  exact (h.filterMap _).trans (by rw [filterMap_getElem?_range])
end L2
namespace L2
open PySem PySem.Spec PyProof.Rows
section
variable {P:Program} {w:World} {A:Around} {E:Value→Shared→Prop} {s:Shared} {t:SetTable}
def plH (P:Program) (w:World) (q:Str × Int):Int:=tupleKeyHash (mixKind P w) (plKey q)
theorem PlAt.key {h:Heap} {a:Addr} {q:Str × Int} (x:PlAt h (.ref a) q):IsTupleKey (mixKind P w) h (plKey q) a:=by
  obtain ⟨_,o,t,u,n,e,ho,hc,hd⟩:=x
  cases e
  exact ⟨o,_,n,ho,hc,hd,.cons (mixKind_str _ _ _ _) (.cons (mixKind_int _ _ _ _) .nil)⟩
structure SetOk (t:SetTable) (n:Nat):Prop where
  dm:t.dummies=#[]
  sz:t.place.size=n
  mm:t.mask=7∧n≤4∨t.mask=31∧n≤18∨t.mask=127∧n≤76
theorem SetOk.msk {n:Nat} (h:SetOk t n):maskOk t.mask:=by
  rcases h.mm with h | h | h
  · exact .inl h.1
  · exact .inr (.inl h.1)
  · exact .inr (.inr h.1)
theorem SetOk.lt {n:Nat} (h:SetOk t n):n≤t.mask:=by
  rcases h.mm with h | h | h <;> omega
theorem SetOk.fits {n:Nat} (h:SetOk t n):t.fits n=true:=by
  have:=h.lt
  simp only [SetTable.fits,SetTable.fill,h.sz,h.dm,Bool.and_eq_true,beq_iff_eq,decide_eq_true_eq]
  exact ⟨trivial,by simpa using this⟩
theorem place_cls {x:Addr} {q:Str × Int} (hx:PlAt s.heap (.ref x) q) {Q:Bool→Shared→Prop} (h:Q false s):wpAny (model P w) A (ofAClassStatement 8 (.ref x)) Q E s:=by
  obtain ⟨_,o,t,u,n,e,ho,hc,hd⟩:=hx
  cases e
  have hT:s.TypeIs (.ref x) "tuple":=⟨o,ho,hc⟩
  unfold ofAClassStatement
  refine wpAny_bind (wpAny_typeOf hT ?_)
  show wpAny _ _ (if ("tuple" == "tuple")=true then _ else _) _ _ _
  rw [if_pos (by decide)]
  simp only [Bool.not_true,Bool.false_eq_true,if_false,pure_bind]
  refine wpAny_bind (wpAny_seqItems ho hd ?_)
  show wpAny _ _ ((forIn #[Value.str q.1 t,Value.int q.2 u] _ _) >>= _) _ _ _
  rw [← Array.forIn_toList]
  refine wpAny_bind (wpAny_forIn_list _ (fun rest r s'=>r.1=none∧s'=s∧∀ v∈rest,carriedByValue v=true) _ ?_ ?_ _ _ ⟨rfl,rfl,fun v hv=>?_⟩)
  · rintro v rest r s' ⟨hr,rfl,hall⟩
    have nr:ofAClassStatement 7 v=pure false:=by
      have:=hall v List.mem_cons_self
      cases v <;> first | rfl | (cases this)
    rw [nr]
    refine wpAny_bind (wpAny_pure ?_)
    rw [if_neg (by decide)]
    exact wpAny_pure ⟨rfl,rfl,fun v hv=>hall v (List.mem_cons_of_mem _ hv)⟩
  · rintro ⟨r1,r2⟩ s' ⟨hr,rfl,_⟩
    simp only at hr
    subst hr
    exact wpAny_pure h
  · simp only [List.mem_cons,List.not_mem_nil,or_false] at hv
    rcases hv with rfl | rfl <;> rfl
theorem plKeyI {a b:Str × Int} (h:plKey a=plKey b):a=b:=by
  unfold plKey at h
  simp only [List.cons.injEq,Sum.inr.injEq,Sum.inl.injEq,and_true] at h
  exact Prod.ext h.1 h.2
theorem PbOk.advs {p:SetTable.Probe}:∀ (k:Nat) {p:SetTable.Probe},PbOk t p→PbOk t (advN t k p)
  | 0,p,h=>h
  | k + 1,p,h=>PbOk.advs (p:=p) k h.adv
theorem seen_none {x:Addr} {q:Str × Int} (hx:PlAt s.heap (.ref x) q) {Q:Bool→Shared→Prop}:∀ (l:List Value),(∀ v∈l,∃ b qb,v=.ref b∧PlAt s.heap (.ref b) qb)→Q false s→wpAny (model P w) A (searchCouldBeSeen (.ref x) l) Q E s:=by
  intro l hl q
  unfold searchCouldBeSeen
  refine wpAny_bind ?_
  refine wpAny_forIn_list _ (fun rest r s'=>r.1=none∧s'=s∧∀ v∈rest,∃ b qb,v=.ref b∧PlAt s.heap (.ref b) qb) _ ?_ ?_ _ _ ⟨rfl,rfl,hl⟩
  · rintro v rest r s' ⟨hr,rfl,hall⟩
    obtain ⟨b,qb,rfl,hb⟩:=hall v List.mem_cons_self
    have fin:wpAny (model P w) A (pure (ForInStep.yield ((none:Option Bool),()))) (fun st s''=>match st with | .yield r=>r.1=none∧s''=s'∧∀ v∈rest,∃ b qb,v=.ref b∧PlAt s'.heap (.ref b) qb | .done r=>wpAny (model P w) A (match r.1 with | some r=>pure r | none=>pure false) Q E s'') E s':=wpAny_pure ⟨rfl,rfl,fun v hv=>hall v (List.mem_cons_of_mem _ hv)⟩
    dsimp only
    by_cases c:x=b
    · rw [if_pos (by simp [c])]
      exact fin
    · rw [if_neg (by simp [c,carriedByValue])]
      refine wpAny_bind ((tupleKind (mixKind P w)).quiet hx.key ?_)
      rw [if_neg (by decide)]
      refine wpAny_bind ((tupleKind (mixKind P w)).quiet hb.key ?_)
      rw [if_neg (by decide)]
      refine wpAny_bind (place_cls hx ?_)
      rw [if_neg (by decide)]
      refine wpAny_bind (place_cls hb ?_)
      rw [if_neg (by decide)]
      exact fin
  · rintro ⟨r1,r2⟩ s' ⟨hr,rfl,_⟩
    simp only at hr
    subst hr
    exact wpAny_pure q
theorem search_new {a x:Addr} {q:Str × Int} {hv:Int} {o:Obj} {es:Array (Int × Value)} {ep:Nat} (ho:s.heap.get? a=some o) (hd:o.data=.set es ep t) (ok:SetOk t es.size) (hu:A.units < cLine) (hx:PlAt s.heap (.ref x) q)
    (hes:∀ e∈es.toList,∃ b qb,e.2=.ref b∧PlAt s.heap (.ref b) qb∧qb≠q) {Q:SetFound→Shared→Prop} (h:∀ j,t.slot j=.empty→Q (.free j false) s) :
    ∀ (n fuel:Nat) (st:Option SetTable.Probe),n < fuel→n < 10 * SetTable.turns t.mask→PbOk t (st.getD (t.probeStart hv))→t.slot (advN t n (st.getD (t.probeStart hv))).j=.empty→wpAny (model P w) A (setSearchFrom a (.ref x) hv true fuel st) Q E s:=by
  intro n
  induction n using Nat.strongRecOn with
  | _ n ih =>
    intro fuel st h1 h2 pb he
    cases fuel with
    | zero=>omega
    | succ fuel =>
      unfold setSearchFrom
      refine wpAny_bind (wpAny_setState_of ho hd ok.fits ?_)
      have gw:t.gaveWay=false:=by
        unfold SetTable.gaveWay
        rcases ok.msk with e | e | e <;> rw [e] <;> rfl
      simp only [gw,Bool.false_eq_true,if_false]
      generalize hf:t.probe _ hv _=pm
      unfold SetTable.probe at hf
      rcases go_meets (h:=hv) ok.dm n (10 * SetTable.turns t.mask) (st.getD (t.probeStart hv)) h2 pb he with ⟨j,a1,a2⟩ | ⟨j,i,k,a1,a2,a3⟩
      · rw [hf] at a1
        subst a1
        exact wpAny_pure (h j a2)
      · rw [hf] at a1
        subst a1
        dsimp only
        have pl:=slot_live a3
        have li:i < es.size:=by
          have:=(Array.getElem?_eq_some_iff.mp pl).1
          rw [ok.sz] at this;exact this
        obtain ⟨b,qb,eb,hb,nb⟩:=hes es[i] (by rw [← Array.getElem_toList];exact List.getElem_mem _)
        have ei:es[i]?=some (es[i].1,.ref b):=by rw [Array.getElem?_eq_getElem li,← eb]
        have nxt:wpAny (model P w) A (setSearchFrom a (.ref x) hv true fuel (some (advN t (k + 1) (st.getD (t.probeStart hv))))) Q E s:=by
          refine ih (n - (k + 1)) (by omega) fuel _ (by omega) (by omega) (PbOk.advs (p:=st.getD (t.probeStart hv)) _ pb) ?_
          show t.slot (advN t (n - (k + 1)) (advN t (k + 1) (st.getD (t.probeStart hv)))).j=_
          rw [← advN_add,show k + 1 + (n - (k + 1))=n by omega]
          exact he
        rw [ei]
        by_cases c:(!t.led)=true
        · rw [if_pos c]
          refine wpAny_bind (seen_none hx _ (fun v hv'=>?_) ?_)
          · obtain ⟨e,he',rfl⟩:=List.mem_map.mp hv'
            have:e∈es:=(Array.mem_filter.mp (Array.mem_toList_iff.mp he')).1
            obtain ⟨b,qb,e1,e2,_⟩:=hes e (Array.mem_toList_iff.mpr this)
            exact ⟨b,qb,e1,e2⟩
          rw [if_neg (by decide)]
          dsimp only
          refine wpAny_bind (wpAny_holding ((tupleKind (mixKind P w)).eqBool (x:=plKey qb) (y:=plKey q) hu hb.key hx.key ?_))
          rw [decide_eq_false fun z=>nb (plKeyI z)]
          refine wpAny_bind (wpAny_setState_of ho hd ok.fits ?_)
          rw [if_neg (by decide)]
          dsimp only
          rw [show t.sameMemory t.moves t.mask=some true by unfold SetTable.sameMemory;simp]
          dsimp only
          rw [if_pos rfl,a3]
          dsimp only
          rw [ei]
          dsimp only
          refine wpAny_bind (wpAny_isSame_ref_self ?_)
          rw [if_pos rfl]
          refine wpAny_bind (wpAny_pure ?_)
          dsimp only
          rw [if_neg (by decide)]
          exact nxt
        · rw [if_neg c]
          dsimp only
          refine wpAny_bind (wpAny_holding ((tupleKind (mixKind P w)).eqBool (x:=plKey qb) (y:=plKey q) hu hb.key hx.key ?_))
          rw [decide_eq_false fun z=>nb (plKeyI z)]
          refine wpAny_bind (wpAny_setState_of ho hd ok.fits ?_)
          rw [if_neg (by decide)]
          dsimp only
          rw [show t.sameMemory t.moves t.mask=some true by unfold SetTable.sameMemory;simp]
          dsimp only
          rw [if_pos rfl,a3]
          dsimp only
          rw [ei]
          dsimp only
          refine wpAny_bind (wpAny_isSame_ref_self ?_)
          rw [if_pos rfl]
          refine wpAny_bind (wpAny_pure ?_)
          dsimp only
          rw [if_neg (by decide)]
          exact nxt
end
end L2
namespace L2
open PySem PySem.Spec PyProof.Rows
section
variable {P:Program} {w:World} {A:Around} {E:Value→Shared→Prop} {s:Shared} {t:SetTable}
theorem place_hbv {x:Addr} {q:Str × Int} (hx:PlAt s.heap (.ref x) q) {Q:Bool→Shared→Prop} (h:Q false s):wpAny (model P w) A (hashByValue 8 (.ref x)) Q E s:=by
  obtain ⟨_,o,t,u,n,e,ho,hc,hd⟩:=hx
  cases e
  have hT:s.TypeIs (.ref x) "tuple":=⟨o,ho,hc⟩
  unfold hashByValue
  refine wpAny_bind (wpAny_specialOf hT F.slot_tuple_hash.lookup ?_)
  show wpAny _ _ (seqItems? (.ref x) >>= _) _ _ _
  refine wpAny_bind (wpAny_seqItems ho hd ?_)
  show wpAny _ _ ((forIn #[Value.str q.1 t,Value.int q.2 u] _ _) >>= _) _ _ _
  rw [← Array.forIn_toList]
  refine wpAny_bind (wpAny_forIn_list _ (fun rest r s'=>r.1=none∧s'=s∧∃ y,rest.head?=some (.str y t)) _ ?_ ?_ _ _ ⟨rfl,rfl,_,rfl⟩)
  · rintro v rest r s' ⟨hr,rfl,y,hall⟩
    cases hall
    have nr:hashByValue 7 (.str y t)=pure false:=rfl
    rw [nr]
    refine wpAny_bind (wpAny_pure ?_)
    rw [if_pos (by decide)]
    exact wpAny_pure (wpAny_pure h)
  · rintro ⟨r1,r2⟩ s' ⟨hr,rfl,y,hh⟩
    cases hh
theorem set_put {a:Addr} {o:Obj} {es es':Array (Int × Value)} {ep:Nat} {t':SetTable} {h:Heap} (ho:h.get? a=some o) (hd:o.data=.set es ep t):(h.update a (Obj.putSet es' t')).get? a=some { o with data:=.set es' (ep + 1) t' }:=by
  have:=Heap.get?_update_self (Obj.putSet es' t') ho (by rw [putSet_of es' t' hd];rfl)
  rw [putSet_of es' t' hd] at this
  exact this
theorem set_relay {a:Addr} {o:Obj} {es:Array (Int × Value)} {ep wt m:Nat} (ho:s.heap.get? a=some o) (hd:o.data=.set es ep t) (hf:t.fits es.size=true) (hw:SetTable.sizeAbove wt=m + 1) (hm:maskOk m) (hl:es.size≤m) {Q:Unit→Shared→Prop}
    (h:∀ es' t',es'.toList.Perm es.toList→t'.mask=m→t'.dummies=#[]→t'.place.size=es.size→t'.plain=t.plain∧t'.led=t.led→Q () { s with heap:=s.heap.update a (Obj.putSet es' t') }):wpAny (model P w) A (setRelay a wt) Q E s:=by
  unfold setRelay
  refine wpAny_bind (wpAny_setState_of ho hd hf ?_)
  have m1:m≤127:=by rcases hm with e | e | e <;> omega
  dsimp only
  rw [if_neg (by have z:(128:Nat)≤sizeLine:=(by decide);rw [hw];omega)]
  obtain ⟨t',ord,e1,e2,e3,e4,e5,e6⟩:=laid_ok (fg:=t.finger) (mv:=t.movedTo m) (ld:=t.led) (pl:=t.plain) (hs:=es.map (·.1)) hm (by rw [Array.size_map];exact hl)
  rw [Array.size_map] at e4 e6
  have pp:=pick_perm (es:=es) e6
  have sz:(ord.filterMap (es[·]?)).size=es.size:=by have:=pp.length_eq;rw [Array.length_toList,Array.length_toList] at this;exact this
  have er:t.relaid (es.map (·.1)) wt=some (t',ord):=by
    unfold SetTable.relaid
    rw [hw,Nat.add_sub_cancel]
    exact e1
  rw [er]
  refine wpAny_bind ?_
  show wpAny _ _ (if ((ord.filterMap (es[·]?)).size != es.size)=true then _ else _) _ _ _
  rw [sz,if_neg (by simp)]
  refine wpAny_pure ?_
  exact wpAny_storeSet_of ho hd (h _ _ pp e2 e3 e4 e5) (by have z:(128:Nat)≤sizeLine:=(by decide);rw [sz];omega)
theorem same_put {a:Addr} {es':Array (Int × Value)} {t':SetTable} (h:Heap):Heap.SameBut a h (h.update a (Obj.putSet es' t')):=Heap.SameBut.update h a _
theorem set_add {a x:Addr} {q:Str × Int} {o:Obj} {es:Array (Int × Value)} {ep:Nat} (ho:s.heap.get? a=some o) (hd:o.data=.set es ep t) (ok:SetOk t es.size) (room:es.size < 76) (hu:A.units < cLine) (hx:PlAt s.heap (.ref x) q)
    (hes:∀ e∈es.toList,∃ b qb,e.2=.ref b∧PlAt s.heap (.ref b) qb∧qb≠q) {Q:Bool→Shared→Prop}
    (h:∀ (h':Heap) (tk:Nat) es' ep' t',Heap.SameBut a s.heap h'→h'.get? a=some { o with data:=.set es' ep' t' }→es'.toList.Perm (es.toList ++ [(plH P w q,.ref x)])→SetOk t' es'.size→t'.plain=false∧t'.led=t.led→s.toks≤tk→Q true { s with heap:=h',toks:=tk }):wpAny (model P w) A (setAdd a (.ref x)) Q E s:=by
  unfold setAdd
  refine wpAny_holding (wpAny_bind (wpAny_pyHash_tuple (knd:=mixKind P w) hu hx.key ?_))
  obtain ⟨s1,hs1⟩:∃ s1:Shared,s1={ s with toks:=s.toks + ((plKey q).length + 1) }:=⟨_,rfl⟩
  rw [← hs1]
  have hx1:PlAt s1.heap (.ref x) q:=by rw [hs1];exact hx
  have ho1:s1.heap.get? a=some o:=by rw [hs1];exact ho
  have hes1:∀ e∈es.toList,∃ b qb,e.2=.ref b∧PlAt s1.heap (.ref b) qb∧qb≠q:=by rw [hs1];exact hes
  unfold setAddHashed setAddHashedIn
  refine wpAny_holding (wpAny_bind (wpAny_setState_of ho1 hd ok.fits ?_))
  dsimp only
  rw [if_neg (show ¬ (byScan (.ref x) es=true) from Bool.false_ne_true)]
  obtain ⟨e,e1,e2⟩:=slot_free (t:=t) ok.dm (by rw [ok.sz];exact ok.lt)
  have pb:PbOk t (t.probeStart (tupleKeyHash (mixKind P w) (plKey q))):=⟨run_le _ _,Nat.le_of_lt_succ (Nat.mod_lt _ (Nat.succ_pos _)),bits_lt _,rfl⟩
  obtain ⟨n,n1,n2⟩:=adv_reach ok.msk pb e1
  have tl:10 * SetTable.turns t.mask≤2000:=by unfold SetTable.turns;rcases ok.msk with e | e | e <;> rw [e] <;> decide
  unfold setSearch
  refine wpAny_bind (search_new ho1 hd ok hu hx1 hes1 (fun j hj=>?_) n 100000 none (by omega) n1 pb (by rw [show (none:Option SetTable.Probe).getD (t.probeStart (tupleKeyHash (mixKind P w) (plKey q)))=t.probeStart (tupleKeyHash (mixKind P w) (plKey q)) from rfl,n2];exact e2))
  dsimp only
  refine wpAny_bind (wpAny_setState_of ho1 hd ok.fits ?_)
  have zl:(128:Nat)≤sizeLine:=by decide
  have tail:∀ (T:SetTable) (es1:Array (Int × Value)),T.mask=t.mask→T.dummies=#[]→T.place.size=es.size + 1→T.plain=false∧T.led=t.led→es1.toList.Perm (es.toList ++ [(plH P w q,.ref x)]) →
      wpAny (model P w) A (do storeSet a es1 T;if (!false && T.tooFull)=true then do { setRelay a (SetTable.grown (es.size + 1));pure true } else pure true) Q E s1:=fun T es1 t1 t2 t3 t4 pm=>by
    have z1:es1.size=es.size + 1:=by have:=pm.length_eq;simpa using this
    have fl:T.fill=es.size + 1:=by unfold SetTable.fill;rw [t2,t3];rfl
    have g1:=set_put (es':=es1) (t':=T) ho1 hd
    refine wpAny_bind (wpAny_storeSet_of ho1 hd ?_ (by rw [z1];omega))
    by_cases c:T.tooFull=true
    · rw [if_pos (by rw [c];rfl)]
      have c2:(es.size + 1) * 5 ≥ t.mask * 3:=by
        unfold SetTable.tooFull at c
        rw [fl,t1] at c
        exact of_decide_eq_true c
      have go:∀ m,SetTable.sizeAbove (SetTable.grown (es.size + 1))=m + 1→maskOk m→es1.size≤m→(m=7∧es1.size≤4∨m=31∧es1.size≤18∨m=127∧es1.size≤76)→T.fits es1.size=true →
          wpAny (model P w) A (do { setRelay a (SetTable.grown (es.size + 1));pure true }) Q E { s1 with heap:=s1.heap.update a (Obj.putSet es1 T) }:=fun m m1 m2 m3 m4 m5=>by
        refine wpAny_bind (set_relay (s:={ s1 with heap:=s1.heap.update a (Obj.putSet es1 T) }) g1 rfl m5 m1 m2 m3 fun es' t' p1 p2 p3 p4 p5=>wpAny_pure ?_)
        have z2:es'.size=es1.size:=by have:=p1.length_eq;simpa using this
        subst hs1
        exact h _ _ es' (ep + 1 + 1) t' ((same_put s.heap).trans (same_put _)) (by have z:=set_put (es':=es') (t':=t') g1 rfl;exact z) (p1.trans pm) ⟨p3,by rw [p4,z2],by rw [p2,z2];exact m4⟩ ⟨p5.1.trans t4.1,p5.2.trans t4.2⟩ (Nat.le_add_right _ _)
      have ft:es.size + 1≤t.mask→T.fits es1.size=true:=fun z=>by
        simp only [SetTable.fits,fl,t3,t1,z1,Bool.and_eq_true,beq_iff_eq,decide_eq_true_eq]
        exact ⟨trivial,z⟩
      rcases ok.mm with ⟨e1,e2⟩ | ⟨e1,e2⟩ | ⟨e1,e2⟩
      · have:es.size=4:=by rw [e1] at c2;omega
        exact go 31 (by rw [this];decide) (.inr (.inl rfl)) (by omega) (.inr (.inl ⟨rfl,by omega⟩)) (ft (by omega))
      · have:es.size=18:=by rw [e1] at c2;omega
        exact go 127 (by rw [this];decide) (.inr (.inr rfl)) (by omega) (.inr (.inr ⟨rfl,by omega⟩)) (ft (by omega))
      · rw [e1] at c2;omega
    · rw [if_neg (by simpa using c)]
      have c2:¬ (es.size + 1) * 5 ≥ t.mask * 3:=fun z=>c (by
        unfold SetTable.tooFull
        rw [fl,t1]
        exact decide_eq_true z)
      refine wpAny_pure ?_
      subst hs1
      refine h _ _ es1 _ T (same_put s.heap) g1 pm ⟨t2,by rw [t3,z1],?_⟩ t4 (Nat.le_add_right _ _)
      rw [t1,z1]
      rcases ok.mm with ⟨e1,e2⟩ | ⟨e1,e2⟩ | ⟨e1,e2⟩ <;> rw [e1] at c2 ⊢ <;> omega
  have pm:(SetTable.insertAt es (t.put j).2 (plH P w q,Value.ref x)).toList.Perm (es.toList ++ [(plH P w q,.ref x)]):=by
    have:=SetTable.insertAt_perm es (t.put j).2 (plH P w q,Value.ref x)
    rw [Array.toList_push] at this
    exact this
  have sp:(t.put j).1.place.size=es.size + 1:=by
    have:=(SetTable.insertAt_perm t.place (SetTable.below t.place j) j).length_eq
    rw [Array.toList_push,List.length_append,Array.length_toList,Array.length_toList,ok.sz] at this
    exact this
  have sd:(t.put j).1.dummies=#[]:=by
    show (if SetTable.has t.dummies j=true then _ else t.dummies)=_
    rw [ok.dm,has_none]
    rfl
  dsimp only
  by_cases c:(t.put j).1.plain=true
  · rw [if_pos c]
    refine wpAny_bind (place_hbv hx1 ?_)
    rw [if_neg (by decide)]
    exact tail _ _ rfl sd sp ⟨rfl,rfl⟩ pm
  · rw [if_neg c]
    refine wpAny_bind (wpAny_pure ?_)
    rw [if_pos rfl]
    exact tail _ _ rfl sd sp ⟨by simpa using c,rfl⟩ pm
end
end L2
namespace L2
open PySem PySem.Spec PyProof.Rows
abbrev setO (es:Array (Int × Value)) (ep:Nat) (t:SetTable):Obj:={ cls:=.type "set",dict:=none,data:=.set es ep t }
def ledW (w:World):Bool:=!w.params.followText "set-order"
def SetIn (w:World) (h:Heap) (S:Addr) (vs:List Value):Prop:=∃ es ep t,h.get? S=some (setO es ep t)∧(es.toList.map (·.2)).Perm vs∧SetOk t es.size∧(t.plain=true→vs=[])∧t.led=ledW w
section
variable {P:Program} {w:World} {A:Around} {E:Value→Shared→Prop} {s:Shared} {t:SetTable}
theorem SetIn.at {h h':Heap} {S:Addr} {vs:List Value} (x:SetIn w h S vs) (e:∀ o,h.get? S=some o→h'.get? S=some o):SetIn w h' S vs:=let ⟨es,ep,t,a,r⟩:=x;⟨es,ep,t,e _ a,r⟩
theorem PlAt.at {h h':Heap} {b:Addr} {q:Str × Int} (x:PlAt h (.ref b) q) (e:∀ o,h.get? b=some o→h'.get? b=some o):PlAt h' (.ref b) q:=by
  obtain ⟨_,o,t,u,n,e1,ho,r⟩:=x
  cases e1
  exact ⟨b,o,t,u,n,rfl,e _ ho,r⟩
theorem loop_places {I l S:Addr} {items:Array Value} {qs:List (Str × Int)} {R:Result→Shared→Prop} (W:Walks P w A.in1 I [I,l] [I] items.size (fun i v=>items[i]?=some v) (fun i h=>h.IsListIter I l i∧h.IsList l items))
    (sI:S≠I) (sl:S≠l) (lq:items.size=qs.length) (nd:qs.Nodup) (h76:items.size≤76) (hu:A.in1.units < cLine) :
    ∀ (k i:Nat) (s:Shared),items.size - i=k→i≤items.size→s.heap.IsListIter I l i→s.heap.IsList l items→SetIn w s.heap S (items.toList.take i) →
      (∀ (j:Nat) (q:Str × Int),qs[j]?=some q→∃ b,items[j]?=some (.ref b)∧b≠I∧b≠S∧PlAt s.heap (.ref b) q) →
      (∀ (h':Heap) (tk:Nat),(∀ b o,b≠I→b≠S→s.heap.get? b=some o→h'.get? b=some o)→SetIn w h' S items.toList→R (.ok (.ret .none)) { s with heap:=h',toks:=tk }) →
      codeAny (model P w) A (.builtin "set.update.loop" ⟨[.ref S,.ref I],[]⟩) R s:=by
  intro k
  induction k with
  | zero =>
    intro i s hk hi st1 st2 hS pl hR
    have e:i=items.size:=by omega
    subst e
    refine codeAny_builtin PyProof.Rows.F.entry_set_update_loop ?_;rw [Around.under_plainId PyProof.Rows.F.plain_set_update_loop _]
    show wpAny _ A.in1 (pyNext (.ref I) >>= _) _ _ s;refine wpAny_bind (W.done s _ _ ⟨st1,st2⟩ fun h' tk hm=>?_)
    show wpAny _ A.in1 (ret Value.none) _ _ _;refine wpAny_pure (hR h' tk (fun b o b1 _ e=>hm b o (by simpa using b1) e) ?_)
    rw [List.take_of_length_le (by simp)] at hS
    exact hS.at fun o e=>hm S o (by simpa using sI) e
  | succ k ih =>
    intro i s hk hi st1 st2 hS pl hR
    have lt:i < items.size:=by omega
    refine codeAny_builtin PyProof.Rows.F.entry_set_update_loop ?_;rw [Around.under_plainId PyProof.Rows.F.plain_set_update_loop _]
    show wpAny _ A.in1 (pyNext (.ref I) >>= _) _ _ s;refine wpAny_bind (W.item i s _ _ lt ⟨st1,st2⟩ fun v h1 tk1 hv st hm=>?_)
    obtain ⟨b,hb,bI,bS,pb⟩:=pl i qs[i] (List.getElem?_eq_getElem (by omega))
    rw [hb] at hv
    cases hv
    have hS1:SetIn w h1 S (items.toList.take i):=hS.at fun o e=>hm S o (by simpa using sI) e
    have pl1:∀ (j:Nat) (q:Str × Int),qs[j]?=some q→∃ b,items[j]?=some (.ref b)∧b≠I∧b≠S∧PlAt h1 (.ref b) q:=fun j q hj=>by
      obtain ⟨b,g1,g2,g3,g4⟩:=pl j q hj
      exact ⟨b,g1,g2,g3,g4.at fun o e=>hm b o (by simpa using g2) e⟩
    obtain ⟨es,ep,t,ho,pm,ok,pn,pd⟩:=hS1
    have ne:es.size=i:=by
      have:=pm.length_eq
      rw [List.length_map,Array.length_toList,List.length_take,Array.length_toList] at this
      omega
    have pbi:PlAt h1 (.ref b) qs[i]:=pb.at fun o e=>hm b o (by simpa using bI) e
    show wpAny _ A.in1 (holding [Value.ref b] (setAdd S (.ref b)) >>= _) _ _ _
    refine wpAny_bind (wpAny_holding (set_add (s:={ s with heap:=h1,toks:=tk1 }) (q:=qs[i]) ho rfl ok (by omega) hu pbi (fun e he=>?_) fun h2 tk2 es2 ep2 t2 sb g2 p2 ok2 pn2 _=>?_))
    · have m1:e.2∈items.toList.take i:=pm.mem_iff.mp (List.mem_map_of_mem he)
      obtain ⟨j,hj⟩:=List.getElem?_of_mem m1
      rw [List.getElem?_take] at hj
      have ji:j < i:=by
        rcases Nat.lt_or_ge j i with z | z
        · exact z
        · rw [if_neg (by omega)] at hj;cases hj
      rw [if_pos ji,Array.getElem?_toList] at hj
      obtain ⟨c,g1,g2,g3,g4⟩:=pl1 j qs[j] (List.getElem?_eq_getElem (by omega))
      rw [g1] at hj
      exact ⟨c,qs[j],(Option.some.inj hj).symm,g4,fun z=>Nat.ne_of_lt ji ((List.getElem_inj nd).mp z)⟩
    · refine wpAny_pure ⟨plainId_quiet PyProof.Rows.F.plain_set_update_loop _,ih (i + 1) _ (by omega) lt ?_ ?_ ?_ ?_ fun h3 tk3 k3 s3=>?_⟩
      · exact st.1.at fun o e=>by rw [sb.2 I (Ne.symm sI)];exact e
      · exact st.2.at fun o e=>by rw [sb.2 l (Ne.symm sl)];exact e
      · refine ⟨es2,ep2,t2,g2,?_,ok2,(fun z=>by rw [pn2.1] at z;cases z),pn2.2.trans pd⟩
        have e1:items.toList.take (i + 1)=items.toList.take i ++ [Value.ref b]:=by
          rw [List.take_succ,Array.getElem?_toList,hb]
          rfl
        rw [e1]
        have:=p2.map (·.2)
        rw [List.map_append] at this
        exact this.trans (pm.append_right _)
      · intro j q hj
        obtain ⟨c,c1,c2,c3,c4⟩:=pl1 j q hj
        exact ⟨c,c1,c2,c3,c4.at fun o e=>by rw [sb.2 c c3];exact e⟩
      · refine hR h3 tk3 (fun c o c1 c2 e=>k3 c o c1 c2 ?_) s3
        show h2.get? c=some o
        rw [sb.2 c c2]
        exact hm c o (by simpa using c1) e
theorem set_fresh_in {h:Heap} {S:Addr} (e:h.get? S=some (setO #[] 0 (.fresh 0 0 (ledW w)))):SetIn w h S [] :=
  ⟨#[],0,_,e,List.Perm.refl _,⟨rfl,rfl,.inl ⟨rfl,by decide⟩⟩,fun _=>rfl,rfl⟩
theorem new_set1 (a:Value) {Q:Value→Shared→Prop} (h:Q (.ref s.heap.objs.size) { s with heap:=s.heap.push (setO #[] 0 (.fresh 0 0 (ledW w))) }) :
    codeAny (model P w) A (.call (.builtin "set.__new__") ⟨[.type "set",a],[]⟩) (wants Q E) s:=by
  refine codeAny_of_tree ?_;show wpAny _ A.in1 (do checkBuiltinCall "set.__new__" ⟨[.type "set",a],[]⟩;again (.builtin "set.__new__" ⟨[.type "set",a],[]⟩)) _ _ s
  refine wpAny_bind (wpAny_of_eq (PySem.F.newCall_set_1 a) (wpAny_pure ⟨plainId_quiet PySem.F.plain_set_new _,codeAny_builtin PySem.F.entry_set_new ?_⟩));rw [Around.under_plainId PySem.F.plain_set_new _]
  unfold Builtin.«set.__new__» Builtin.Frozenset.newClass
  have hsub:=sub_set_self
  obtain ⟨hp,g,d,tk,os⟩:=s
  dsimp only
  wp_walk
  refine wpAny_askSetting (wpAny_pure ?_);dsimp only;simp only [newObj]
  refine wpAny_bind (wpAny_alloc (wpAny_pure ?_));exact wpAny_pure h
set_option maxRecDepth 200000 in
theorem call_set_places {l:Addr} {items:Array Value} {qs:List (Str × Int)} {Q:Value→Shared→Prop} (hh:A.handled=none) (hu:A.units + 8 < cLine) (hl:s.heap.IsList l items) (lq:items.size=qs.length) (nd:qs.Nodup) (h76:items.size≤76)
    (pl:∀ (j:Nat) (q:Str × Int),qs[j]?=some q→∃ b,items[j]?=some (.ref b)∧PlAt s.heap (.ref b) q)
    (h:∀ (h':Heap) (tk:Nat),SetIn w h' s.heap.objs.size items.toList→(∀ b o,s.heap.get? b=some o→h'.get? b=some o)→Q (.ref s.heap.objs.size) { s with heap:=h',toks:=tk }) :
    wpAny (model P w) A (call (.type "set") [.ref l]) Q E s:=by
  obtain ⟨c,tl,hmro⟩:=PySem.F.called_set.mro
  have hmade:=PySem.F.called_set.made;have hsub:=PySem.F.called_set.sub
  refine wpAny_call (codeAny_of_tree ?_);show wpAny _ _ (callAny (.type "set") _) _ _ _
  refine wpAny_pure ⟨Code.quiet_builtin _ (by decide +kernel),codeAny_builtin PySem.F.entry_type_call ?_⟩;rw [Around.under_plain (weight_type_call_type "set" [.ref l] []) rfl]
  have h1:=PySem.F.called_set.notType;have h2:=PySem.F.called_set.canCreate;have hct:=PySem.F.typeCall_set_1 (.ref l)
  repeat (any_goals (first | assumption | wp_step))
  refine codeAny_mono (new_set1 (.ref l) (E:=E) (Q:=fun obj s₁=>obj=.ref s.heap.objs.size∧s₁={ s with heap:=s.heap.push (setO #[] 0 (.fresh 0 0 (ledW w))) }) ⟨rfl,rfl⟩) fun r s₁ hr=>?_
  cases r with
  | error e=>exact hr
  | ok fl =>
    cases fl with
    | ret obj =>
      obtain ⟨rfl,rfl⟩:=hr
      obtain ⟨h0,eh0⟩:∃ h0:Heap,h0=s.heap.push (setO #[] 0 (.fresh 0 0 (ledW w))):=⟨_,rfl⟩
      have hS:h0.get? s.heap.objs.size=some (setO #[] 0 (.fresh 0 0 (ledW w))):=eh0 ▸ Heap.get?_push_size _ rfl
      have hk0:∀ b o,s.heap.get? b=some o→h0.get? b=some o:=fun b o e=>eh0 ▸ Heap.get?_push_of_some _ e
      have sz0:h0.objs.size=s.heap.objs.size + 1:=by rw [eh0,Heap.size_push]
      rw [← eh0]
      have hT:Shared.TypeIs { s with heap:=h0 } (.ref s.heap.objs.size) "set":=⟨_,hS,rfl⟩
      have hli:=PySem.F.called_set.init.lookup;have hbi:=PySem.F.called_set.init.bind (.ref s.heap.objs.size)
      repeat (any_goals (first | assumption | wp_step))
      refine codeAny_mono (codeAny_call_builtin (R:=wants (fun r s₂=>r=.none∧∃ (h':Heap) (tk:Nat),s₂={ s with heap:=h',toks:=tk }∧SetIn w h' s.heap.objs.size items.toList∧∀ b o,s.heap.get? b=some o→h'.get? b=some o) E) PySem.F.called_set.init.plain PySem.F.entry_set_init (check_set_init_1 hT ?_)) fun r₂ s₂ hr₂=>?_
      · obtain ⟨ol,hol,hcl,nl,hdl⟩:=hl
        obtain ⟨ocls,odict,odata,oslots⟩:=ol
        simp only at hcl hdl
        subst hcl;subst hdl
        have hol':=hk0 _ _ hol
        have hl1:h0.IsList l items:=⟨_,hol',rfl,nl,rfl⟩
        have hsls:=PySem.F.sub_list_set;have hslf:=PySem.F.sub_list_frozenset
        have hne:(Value.type "list" == Value.type "dict")=false:=by decide
        unfold Builtin.«set.__init__» noKeywords Builtin.Frozenset.updateFrom
        generalize hPI:pyIter=PI
        wp_walk
        subst hPI
        refine wpAny_pyIter_list hl1 ?_
        refine wpAny_bind (wpAny_runValue ?_)
        have ll:l < s.heap.objs.size:=Heap.lt_size hol
        obtain ⟨h1',eh1⟩:∃ h1:Heap,h1=h0.push { cls:=.type "list_iterator",data:=.fields #[.ref l,.int 0 0] }:=⟨_,rfl⟩
        have hk1:∀ b o,h0.get? b=some o→h1'.get? b=some o:=fun b o e=>eh1 ▸ Heap.get?_push_of_some _ e
        rw [← eh1]
        refine loop_places (Walks.list (by simp [hh]) h0.objs.size l (by rw [sz0];exact Nat.ne_of_lt (Nat.lt_succ_of_lt ll)) items) (S:=s.heap.objs.size) (by rw [sz0];exact Nat.ne_of_lt (Nat.lt_succ_self _)) (Nat.ne_of_gt ll) lq nd h76 (by have e:A.in1.in1.in1.units=A.units + 3:=rfl;omega) items.size 0 _ (by omega) (Nat.zero_le _) (by subst eh1;exact ⟨_,Heap.get?_push_size _ rfl,rfl,rfl⟩) ⟨_,hk1 _ _ hol',rfl,nl,rfl⟩ (set_fresh_in (hk1 _ _ hS)) (fun j q hj=>?_) fun h' tk k3 s3=>?_
        · obtain ⟨b,b1,b2⟩:=pl j q hj
          have bl:b < s.heap.objs.size:=by
            obtain ⟨_,o,t,u,n,e,ho,r⟩:=b2
            cases e
            exact Heap.lt_size ho
          exact ⟨b,b1,by rw [sz0];exact Nat.ne_of_lt (Nat.lt_succ_of_lt bl),Nat.ne_of_lt bl,b2.at fun o e=>hk1 _ _ (hk0 _ _ e)⟩
        · show wpAny _ _ _ _ _ _
          refine wpAny_pure ?_
          show wpAny _ _ (ret Value.none) _ _ _
          refine wpAny_pure ⟨rfl,h',tk,rfl,s3,fun b o e=>k3 b o ?_ ?_ (hk1 _ _ (hk0 _ _ e))⟩
          · rw [sz0];exact Nat.ne_of_lt (Nat.lt_succ_of_lt (Heap.lt_size e))
          · exact Nat.ne_of_lt (Heap.lt_size e)
      · cases r₂ with
        | error e=>exact hr₂
        | ok fl₂ =>
          cases fl₂ with
          | ret r =>
            obtain ⟨rfl,h',tk,rfl,hS',hk'⟩:=hr₂
            repeat (any_goals (first | assumption | wp_step))
            exact h _ _ hS' hk'
          | _=>exact hr₂.elim
    | _=>exact hr.elim
end
end L2
namespace L2
open PySem PySem.Spec PyProof.Rows
theorem si_owner:Manifest.owners.lookup (String.ofList ['r','o','t','a','r','e','t','i','_','t','e','s'].reverse)=some Manifest.sig_set_iterator:=by kernel_rfl
theorem si_next:Slot "set_iterator" "__next__" "set_iterator.__next__":=.of (owner:="set_iterator") (n:="__next__") (by rw [typeLookup_type,builtinLookup_eq_fast];kernel_rfl) (by decide +kernel) (by decide +kernel) (by decide +kernel) (by first | exact .inl (by decide +kernel) | exact .inr (by decide +kernel)) (by rw [isSubtype_type];kernel_rfl)
theorem si_entry:entryFor table "set_iterator.__next__"=some Builtin.«set_iterator.__next__»:=entryFor_of_tree (by kernel_rfl)
theorem si_args (a:Value):argsOk "set_iterator.__next__" ⟨[a],[]⟩:=by
  unfold argsOk;rw [signature?_of (id:="set_iterator.__next__") (n:=['_','_','t','x','e','n','_','_']) (o:=['r','o','t','a','r','e','t','i','_','t','e','s']) (by kernel_rfl) si_owner];kernel_rfl
theorem si_iter:Slot "set_iterator" "__iter__" "set_iterator.__iter__":=.of (owner:="set_iterator") (n:="__iter__") (by rw [typeLookup_type,builtinLookup_eq_fast];kernel_rfl) (by decide +kernel) (by decide +kernel) (by decide +kernel) (by first | exact .inl (by decide +kernel) | exact .inr (by decide +kernel)) (by rw [isSubtype_type];kernel_rfl)
theorem si_ientry:entryFor table "set_iterator.__iter__"=some Builtin.«dict_keyiterator.__iter__»:=entryFor_alias (id':="dict_keyiterator.__iter__") (by kernel_rfl) rfl (by decide +kernel) (by kernel_rfl)
theorem si_iargs (a:Value):argsOk "set_iterator.__iter__" ⟨[a],[]⟩:=by
  unfold argsOk;rw [signature?_of (id:="set_iterator.__iter__") (n:=['_','_','r','e','t','i','_','_']) (o:=['r','o','t','a','r','e','t','i','_','t','e','s']) (by kernel_rfl) si_owner];kernel_rfl
theorem se_ientry:entryFor table "set.__iter__"=some Builtin.«frozenset.__iter__»:=entryFor_alias (id':="frozenset.__iter__") (by kernel_rfl) rfl (by decide +kernel) (by kernel_rfl)
section
variable {P:Program} {w:World} {A:Around} {E:Value→Shared→Prop} {s:Shared} {t:SetTable}
def SIt (h:Heap) (I:Addr) (f:Value) (i:Nat) (S:Addr) (n ep:Nat):Prop:=h.get? I=some { cls:=.type "set_iterator",data:=.fields #[f,.int i 0,.ref S,.int n 0,.int ep 0] }
theorem SIt.type {I S:Addr} {f:Value} {i n ep:Nat} (x:SIt s.heap I f i S n ep):s.TypeIs (.ref I) "set_iterator":=⟨_,x,rfl⟩
theorem si_self {I S:Addr} {f:Value} {i n ep:Nat} {Q:Value→Shared→Prop} (x:SIt s.heap I f i S n ep) (h:Q (.ref I) s):wpAny (model P w) A (pyIter (.ref I)) Q E s:=by
  refine wpAny_pyIter_slot x.type si_iter (wpAny_call_entry si_iter x.type si_ientry ?_ (si_iargs _))
  show wpAny _ _ (ret (.ref I)) _ _ s;exact wpAny_pure ⟨_,rfl,"set_iterator",_,x.type,si_next.lookup,h⟩
theorem set_hint {S:Addr} {Q:Bool→Shared→Prop} (hT:s.TypeIs (.ref S) "set") (h:Q false s):wpAny (model P w) A (Builtin.List.listLengthHint (.ref S)) Q E s:=by
  unfold Builtin.List.listLengthHint
  refine wpAny_bind (wpAny_specialOf hT PySem.F.slot_set_len.lookup ?_);generalize hid:("set.__len__":String)=id0
  wp_delta
  rw [show splitId id0=some ("set","__len__") from by subst hid;decide +kernel];subst hid
  refine wpAny_bind (wpAny_isInstance (T:="set") (b:=true) hT (by rw [isSubtype_type];kernel_rfl) ?_);refine wpAny_ite_split (fun hab=>absurd hab (by decide)) (fun _=>?_)
  refine wpAny_ite_split (fun _=>?_) (fun hab=>absurd (by decide +kernel) hab);refine wpAny_bind (wpAny_typeOf hT ?_);exact wpAny_pure h
end
end L2
namespace L2
open PySem PySem.Spec PyProof.Rows
section
variable {P:Program} {w:World} {A:Around} {E:Value→Shared→Prop} {s:Shared} {t:SetTable}
theorem nx_item {I S:Addr} {k k2 i ep:Nat} {es:Array (Int × Value)} {x:Value} {Q:Option Value→Shared→Prop} (hI:SIt s.heap I (.int k 0) i S es.size ep) (hS:s.heap.get? S=some (setO es ep t)) (ft:t.fits es.size=true)
    (nx:∀ (Q:Option (Value × Nat)→Shared→Prop) (E:Value→Shared→Prop),Q (some (x,k2)) s→wpAny (model P w) A.in1 (setNext S k i ep) Q E s)
    (q:∀ h,SIt h I (.int k2 0) (i + 1) S es.size ep→Heap.SameBut I s.heap h→Q (some x) { s with heap:=h }):wpAny (model P w) A (pyNext (.ref I)) Q E s:=by
  unfold pyNext
  refine wpAny_bind (wpAny_attempt (wpAny_callSpecial?_slot (name:=Str.ofString "__next__") hI.type si_next (wpAny_call_entry si_next hI.type si_entry ?_ (si_args _))))
  unfold Builtin.«set_iterator.__next__»
  refine wpAny_bind (wpAny_pure ?_)
  refine wpAny_bind (wpAny_fieldsOf hI rfl ?_)
  dsimp only
  refine wpAny_bind (wpAny_setEntries_of hS rfl ft ?_)
  rw [if_neg (by simp)]
  simp only [Int.toNat_natCast]
  refine wpAny_bind (nx _ _ ?_)
  refine wpAny_bind (wpAny_setField_rec hI (by simp) fun h1 g1 s1=>?_)
  refine wpAny_bind (wpAny_setField_rec (s:={ s with heap:=h1 }) g1 (by simp) fun h2 g2 s2=>?_)
  exact wpAny_pure ⟨_,rfl,wpAny_pure (q h2 (by unfold SIt;rw [g2];simp [rawInt]) (s1.trans s2))⟩
theorem stop_tail {I:Addr} {h:Heap} {Q:Option Value→Shared→Prop} (hh:A.handled=none) (q:∀ h',(∀ b o,h.get? b=some o→h'.get? b=some o)→Q none { s with heap:=h' }) :
    wpAny (model P w) A.in1 (do let e ← newExc (Value.type "StopIteration") [];raiseNew e) (fun fin s'=>∃ v,fin=Fin.done (Flow.ret v)∧wpAny (model P w) A (pure (some v)) Q E s')
      (fun e s'=>wpAny (model P w) A (do let b ← isInstance e (Value.type "StopIteration");if b=true then pure none else throw e) Q E s') { s with heap:=h }:=by
  refine wpAny_bind ?_;simp only [newExc,newTuple]
  refine wpAny_bind (wpAny_newObj_type ?_ (by size_fits));refine wpAny_bind (m:=firstArgMember _ _) (wpAny_of_eq (a:=Value.none) (by first | rfl | (simp only [firstArgMember];rfl)) ?_)
  refine wpAny_newObj_type ?_ (by size_fits);simp only [raiseNew]
  refine wpAny_bind (wpAny_handled ?_);rw [show A.in1.handled=none from hh];refine wpAny_bind (wpAny_pure (wpAny_throw ?_))
  exact wpAny_bind (wpAny_isInstance (T:="StopIteration") (b:=true) ⟨_,Heap.get?_push_size _ rfl,rfl⟩ isSubtype_stop (wpAny_pure (q _ fun b o e=>Heap.get?_push_of_some _ (Heap.get?_push_of_some _ e))))
theorem nx_done {I S:Addr} {k i ep:Nat} {es:Array (Int × Value)} {Q:Option Value→Shared→Prop} (hh:A.handled=none) (hI:SIt s.heap I (.int k 0) i S es.size ep) (hS:s.heap.get? S=some (setO es ep t)) (ft:t.fits es.size=true)
    (nx:∀ (Q:Option (Value × Nat)→Shared→Prop) (E:Value→Shared→Prop),Q none s→wpAny (model P w) A.in1 (setNext S k i ep) Q E s)
    (q:∀ h,(∀ b o,b≠I→s.heap.get? b=some o→h.get? b=some o)→Q none { s with heap:=h }):wpAny (model P w) A (pyNext (.ref I)) Q E s:=by
  unfold pyNext
  refine wpAny_bind (wpAny_attempt (wpAny_callSpecial?_slot (name:=Str.ofString "__next__") hI.type si_next (wpAny_call_entry si_next hI.type si_entry ?_ (si_args _))))
  unfold Builtin.«set_iterator.__next__»
  refine wpAny_bind (wpAny_pure ?_);refine wpAny_bind (wpAny_fieldsOf hI rfl ?_)
  dsimp only
  refine wpAny_bind (wpAny_setEntries_of hS rfl ft ?_)
  rw [if_neg (by simp)]
  simp only [Int.toNat_natCast]
  refine wpAny_bind (nx _ _ ?_)
  refine wpAny_bind (wpAny_setField_rec hI (by simp) fun h1 g1 s1=>?_)
  exact stop_tail (I:=I) hh fun h' k'=>q h' fun b o bI e=>k' b o (by rw [s1.2 b bI];exact e)
structure SDr (h:Heap) (I T S:Addr) (i:Nat) (es:Array (Int × Value)) (ep:Nat) (t:SetTable) (π:List Nat):Prop where
  it:SIt h I (.ref T) i S es.size ep
  tp:h.get? T=some { cls:=.type "tuple",data:=.seq (π.map fun (k:Nat)=>rawInt k).toArray }
  st:h.get? S=some (setO es ep t)
theorem dr_item {I T S:Addr} {i ep k:Nat} {es:Array (Int × Value)} {π:List Nat} {e:Int × Value} {Q:Option Value→Shared→Prop} (D:SDr s.heap I T S i es ep t π) (ft:t.fits es.size=true) (hk:π[i]?=some k) (he:es[k]?=some e)
    (q:∀ h,SIt h I (.ref T) (i + 1) S es.size ep→Heap.SameBut I s.heap h→Q (some e.2) { s with heap:=h }):wpAny (model P w) A (pyNext (.ref I)) Q E s:=by
  have hI:=D.it
  unfold pyNext
  refine wpAny_bind (wpAny_attempt (wpAny_callSpecial?_slot (name:=Str.ofString "__next__") hI.type si_next (wpAny_call_entry si_next hI.type si_entry ?_ (si_args _))))
  unfold Builtin.«set_iterator.__next__»
  refine wpAny_bind (wpAny_pure ?_);refine wpAny_bind (wpAny_fieldsOf hI rfl ?_)
  dsimp only
  refine wpAny_bind (wpAny_setEntries_of D.st rfl ft ?_)
  rw [if_neg (by simp)]
  refine wpAny_bind (wpAny_seqItems D.tp rfl ?_)
  have ek:(π.map fun (k:Nat)=>rawInt k).toArray[i]?=some (rawInt k):=by rw [List.getElem?_toArray,List.getElem?_map,hk];rfl
  simp only [Int.toNat_natCast,ek]
  show wpAny _ _ (setNextDrawn S (Int.toNat k) ep >>= _) _ _ _
  rw [Int.toNat_natCast]
  refine wpAny_bind ?_
  unfold setNextDrawn
  refine wpAny_bind (wpAny_setState_of D.st rfl ft ?_)
  simp only [bne_self_eq_false,Bool.false_eq_true,if_false,he]
  refine wpAny_pure ?_
  refine wpAny_bind (wpAny_setField_rec hI (by simp) fun h1 g1 s1=>?_)
  exact wpAny_pure ⟨_,rfl,wpAny_pure (q h1 (by unfold SIt;rw [g1];simp [rawInt]) s1)⟩
theorem dr_done {I T S:Addr} {i ep:Nat} {es:Array (Int × Value)} {π:List Nat} {Q:Option Value→Shared→Prop} (hh:A.handled=none) (D:SDr s.heap I T S i es ep t π) (ft:t.fits es.size=true) (hk:π.length≤i)
    (q:∀ h,(∀ b o,b≠I→s.heap.get? b=some o→h.get? b=some o)→Q none { s with heap:=h }):wpAny (model P w) A (pyNext (.ref I)) Q E s:=by
  have hI:=D.it
  unfold pyNext
  refine wpAny_bind (wpAny_attempt (wpAny_callSpecial?_slot (name:=Str.ofString "__next__") hI.type si_next (wpAny_call_entry si_next hI.type si_entry ?_ (si_args _))))
  unfold Builtin.«set_iterator.__next__»
  refine wpAny_bind (wpAny_pure ?_);refine wpAny_bind (wpAny_fieldsOf hI rfl ?_)
  dsimp only
  refine wpAny_bind (wpAny_setEntries_of D.st rfl ft ?_)
  rw [if_neg (by simp)]
  refine wpAny_bind (wpAny_seqItems D.tp rfl ?_)
  have ek:(π.map fun (k:Nat)=>rawInt k).toArray[i]?=none:=by rw [List.getElem?_toArray,List.getElem?_map,List.getElem?_eq_none hk];rfl
  simp only [Int.toNat_natCast,ek]
  refine wpAny_bind (wpAny_setField_rec hI (by simp) fun h1 g1 s1=>?_)
  refine wpAny_bind (wpAny_setField_rec (s:={ s with heap:=h1 }) g1 (by simp) fun h2 g2 s2=>?_)
  exact stop_tail (I:=I) hh fun h' k'=>q h' fun b o bI e=>k' b o (by rw [s2.2 b bI,s1.2 b bI];exact e)
theorem dr_walks (hh:A.handled=none) {I T S:Addr} (n1:T≠I) (n2:S≠I) {ep:Nat} {es:Array (Int × Value)} {π:List Nat} (ft:t.fits es.size=true) (pm:π.Perm (List.range es.size)) :
    Walks P w A I [I,T,S] [I] es.size (fun i v=>∃ k e,π[i]?=some k∧es[k]?=some e∧v=e.2) (fun i h=>SDr h I T S i es ep t π) where
  sub:=fun b hb=>by simp at hb;simp [hb]
  frame:=fun _ _ _ st hk=>⟨hk I (by simp) _ st.it,hk T (by simp) _ st.tp,hk S (by simp) _ st.st⟩
  item:=fun i s Q E hi st hQ=>by
    have lp:π.length=es.size:=by have:=pm.length_eq;simpa using this
    have k1:π[i]?=some π[i]:=List.getElem?_eq_getElem (by omega)
    have k2:π[i] < es.size:=by have:=pm.mem_iff.mp (List.getElem_mem (l:=π) (n:=i) (by omega));simpa using this
    have k3:es[π[i]]?=some es[π[i]]:=Array.getElem?_eq_getElem k2
    refine dr_item st ft k1 k3 fun h' h1 h2=>hQ _ h' s.toks ⟨_,_,k1,k3,rfl⟩ ⟨h1,by rw [h2.2 T n1];exact st.tp,by rw [h2.2 S n2];exact st.st⟩ fun b o hb e=>by rw [h2.2 b (by simpa using hb)];exact e
  done:=fun s Q E st hQ=>dr_done hh st ft (by have:=pm.length_eq;simp at this;omega) fun h' k=>hQ h' s.toks fun b o hb e=>k b o (by simpa using hb) e
  self:=fun _ _ _ _ st hQ=>si_self st.it hQ
end
end L2
namespace L2
open PySem PySem.Spec PyProof.Rows
theorem erase_perm {α:Type}:∀ {l:List α} {i:Nat} {x:α},l[i]?=some x→(x :: l.eraseIdx i).Perm l
  | [],i,x,h=>by simp at h
  | y :: l,0,x,h=>by
    simp only [List.getElem?_cons_zero,Option.some.injEq] at h
    subst h
    exact List.Perm.refl _
  | y :: l,i + 1,x,h=>by
    have ih:=erase_perm (l:=l) (i:=i) (x:=x) (by simpa using h)
    exact (List.Perm.swap ..).trans (ih.cons y)
theorem pick_go {α:Type} (f:Nat→Nat):∀ (n k:Nat) (l:List α) (out:Array α),l.length=n→(pickOrder.go f n k l out).toList.Perm (out.toList ++ l)
  | 0,k,l,out,h=>by
    have:l=[]:=List.eq_nil_of_length_eq_zero h
    subst this
    rw [List.append_nil]
    exact List.Perm.refl _
  | n + 1,k,l,out,h=>by
    have lt:f k % l.length < l.length:=Nat.mod_lt _ (by omega)
    have e:l[f k % l.length]?=some l[f k % l.length]:=List.getElem?_eq_getElem lt
    unfold pickOrder.go
    rw [e]
    dsimp only
    refine (pick_go f n (k + 1) _ _ (by rw [List.length_eraseIdx_of_lt lt];omega)).trans ?_
    rw [Array.toList_push,List.append_assoc]
    exact (erase_perm e).append_left _
theorem pick_all {α:Type} (f:Nat→Nat) (es:Array α):(pickOrder f es).toList.Perm es.toList:=by
  exact pick_go f es.size 0 es.toList #[] (by simp)
section
variable {P:Program} {w:World} {A:Around} {E:Value→Shared→Prop} {s:Shared} {t:SetTable}
theorem wp_draw {src:Source} {n:Nat} {Q:Nat→Shared→Prop} (hn:n≠0) (h:∀ i d,i < n→Q i { s with drawn:=d }):wpAny (model P w) A (choose src n) Q E s:=fun _ _ _=>by
  unfold choose
  rw [Sem.wp_choose]
  refine ⟨hn,?_⟩
  exact h _ _ (Nat.mod_lt _ (Nat.pos_of_ne_zero hn))
theorem wp_order {α:Type}:∀ (n:Nat) (xs:List α) (s:Shared) (Q:List α→Shared→Prop),xs.length=n→(∀ ys d,ys.Perm xs→Q ys { s with drawn:=d })→wpAny (model P w) A (drawOrder n xs) Q E s
  | 0,xs,s,Q,h,q=>by
    have:xs=[]:=List.eq_nil_of_length_eq_zero h
    subst this
    unfold drawOrder
    exact wpAny_pure (q [] s.drawn (List.Perm.refl _))
  | n + 1,[],s,Q,h,q=>by cases h
  | n + 1,x :: xs,s,Q,h,q=>by
    unfold drawOrder
    refine wpAny_bind (wp_draw (by simp) fun i d hi=>?_)
    rw [List.getElem?_eq_getElem hi]
    dsimp only
    refine wpAny_bind (wp_order n _ _ _ (by rw [List.length_eraseIdx_of_lt hi];simp at h ⊢;omega) fun ys d2 p=>?_)
    exact wpAny_pure (q _ d2 ((p.cons _).trans (erase_perm (List.getElem?_eq_getElem hi))))
theorem in_walks (hh:A.handled=none) {I S:Addr} (n2:S≠I) {ep:Nat} {es:Array (Int × Value)} (ft:t.fits es.size=true) (ord:List Value) (lo:ord.length=es.size) (kk:Nat→Nat)
    (nx:∀ (i:Nat) (v:Value) (s:Shared) (A:Around),s.heap.get? S=some (setO es ep t)→ord[i]?=some v→∀ (Q:Option (Value × Nat)→Shared→Prop) (E:Value→Shared→Prop),Q (some (v,kk (i + 1))) s→wpAny (model P w) A (setNext S (kk i) i ep) Q E s)
    (nd:∀ (s:Shared) (A:Around),s.heap.get? S=some (setO es ep t)→∀ (Q:Option (Value × Nat)→Shared→Prop) (E:Value→Shared→Prop),Q none s→wpAny (model P w) A (setNext S (kk es.size) es.size ep) Q E s) :
    Walks P w A I [I,S] [I] es.size (fun i v=>ord[i]?=some v) (fun i h=>SIt h I (.int (kk i) 0) i S es.size ep∧h.get? S=some (setO es ep t)) where
  sub:=fun b hb=>by simp at hb;simp [hb]
  frame:=fun _ _ _ st hk=>⟨hk I (by simp) _ st.1,hk S (by simp) _ st.2⟩
  item:=fun i s Q E hi st hQ=>by
    have k1:ord[i]?=some ord[i]:=List.getElem?_eq_getElem (by omega)
    exact nx_item st.1 st.2 ft (nx i _ s _ st.2 k1) fun h' h1 h2=>hQ _ h' s.toks k1 ⟨h1,by rw [h2.2 S n2];exact st.2⟩ fun b o hb e=>by rw [h2.2 b (by simpa using hb)];exact e
  done:=fun s Q E st hQ=>nx_done hh st.1 st.2 ft (nd s _ st.2) fun h' k=>hQ h' s.toks fun b o hb e=>k b o (by simpa using hb) e
  self:=fun _ _ _ _ st hQ=>si_self st.1 hQ
theorem wp_byText {Q:Bool→Shared→Prop} (h:Q (w.params.followText "set-order") s):wpAny (model P w) A setsByText Q E s:=by
  unfold setsByText
  exact wpAny_bind (wpAny_askSetting (wpAny_pure h))
theorem nx_text {S:Addr} {k i ep:Nat} {es:Array (Int × Value)} (bt:w.params.followText "set-order"=true) (hS:s.heap.get? S=some (setO es ep t)) (ft:t.fits es.size=true) {Q:Option (Value × Nat)→Shared→Prop}
    (q:Q ((((pickOrder (w.params.setOrder S ep) es).toList.map (·.2))[i]?).map fun v=>(v,k)) s):wpAny (model P w) A (setNext S k i ep) Q E s:=by
  unfold setNext
  refine wpAny_bind (wpAny_setState_of hS rfl ft ?_)
  refine wpAny_bind (wp_byText ?_)
  rw [bt,if_pos rfl]
  dsimp only
  rw [if_neg (by simp)]
  unfold setWalk
  refine wpAny_bind (wpAny_bind (wpAny_setState_of hS rfl ft ?_))
  refine wpAny_bind (wp_byText ?_)
  rw [bt,if_pos rfl]
  refine wpAny_bind (wpAny_askSetting (wpAny_pure ?_))
  refine wpAny_pure ?_
  rw [List.getElem?_map,Array.getElem?_toList,Option.map_map] at q
  exact q
theorem nx_slot {S:Addr} {k i ep:Nat} {es:Array (Int × Value)} (bt:w.params.followText "set-order"=false) (hS:s.heap.get? S=some (setO es ep t)) (ft:t.fits es.size=true) (sm:es.size≤1) (ld:t.led=true) {Q:Option (Value × Nat)→Shared→Prop}
    (q:Q (match es[SetTable.below t.place k]?,t.place[SetTable.below t.place k]? with | some (_,x),some j=>some (x,j + 1) | _,_=>none) s):wpAny (model P w) A (setNext S k i ep) Q E s:=by
  unfold setNext
  refine wpAny_bind (wpAny_setState_of hS rfl ft ?_)
  refine wpAny_bind (wp_byText ?_)
  rw [bt,if_neg Bool.false_ne_true]
  dsimp only
  refine wpAny_ite_split (fun c=>absurd c (show ¬ ((!t.plain && decide (es.size > 1))=true) by simp;omega)) fun _=>?_
  refine wpAny_bind ?_
  show wpAny _ _ (if (!t.led && !es.isEmpty)=true then _ else _) _ _ _
  rw [ld,if_neg (by simp)]
  refine wpAny_pure ?_
  exact wpAny_pure q
end
end L2
namespace L2
open PySem PySem.Spec PyProof.Rows
section
variable {P:Program} {w:World} {A:Around} {E:Value→Shared→Prop} {s:Shared} {t:SetTable}
theorem below_lo (j:Nat):SetTable.below #[j] 0=0:=by
  simp [SetTable.below,SetTable.below.go]
theorem below_hi (j:Nat):SetTable.below #[j] (j + 1)=1:=by
  simp [SetTable.below,SetTable.below.go]
theorem Walks.weak {I:Addr} {fp wr:List Addr} {n:Nat} {P1 P2:Nat→Value→Prop} {St:Nat→Heap→Prop} (W:Walks P w A I fp wr n P1 St) (h:∀ i v,P1 i v→P2 i v):Walks P w A I fp wr n P2 St where
  sub:=W.sub
  frame:=W.frame
  item:=fun i s Q E hi st hQ=>W.item i s Q E hi st fun v h' tk p=>hQ v h' tk (h i v p)
  done:=W.done
  self:=W.self
theorem set_iter {S:Addr} {ep:Nat} {es:Array (Int × Value)} (hS:s.heap.get? S=some (setO es ep t)) (ok:SetOk t es.size) (pn:t.plain=true→es.size=0) (ld:t.led=ledW w) (hh:A.handled=none) {Q:Value→Shared→Prop}
    (q:∀ (h1:Heap) d (I:Addr) (ord:List Value) (fp:List Addr) (St:Nat→Heap→Prop),(∀ b o,s.heap.get? b=some o→h1.get? b=some o)→s.heap.objs.size≤I→ord.Perm (es.toList.map (·.2))→(∀ b∈fp,b=S∨s.heap.objs.size≤b) →
      Walks P w A I fp [I] es.size (fun i v=>ord[i]?=some v) St→St 0 h1→Q (.ref I) { s with heap:=h1,drawn:=d }):wpAny (model P w) A (pyIter (.ref S)) Q E s:=by
  have hT:s.TypeIs (.ref S) "set":=⟨_,hS,rfl⟩
  have lS:S < s.heap.objs.size:=Heap.lt_size hS
  refine wpAny_pyIter_slot hT PySem.F.slot_set_iter (wpAny_call_entry PySem.F.slot_set_iter hT se_ientry ?_ (PySem.F.args_set_iter_1 _));unfold Builtin.«frozenset.__iter__»
  refine wpAny_bind (m:=Builtin.Frozenset.slot0 _ _) (wpAny_pure ?_)
  refine wpAny_bind (m:=Builtin.Frozenset.sizeOf S) (wpAny_bind (wpAny_setEntries_of hS rfl ok.fits (wpAny_pure ?_)))
  unfold setDrawn
  refine wpAny_bind (wpAny_bind (wpAny_setState_of hS rfl ok.fits ?_))
  refine wpAny_bind (wp_byText (wpAny_pure ?_))
  have le:es.size≤127:=by have:=ok.lt;rcases ok.msk with e | e | e <;> omega
  have zl:(128:Nat)≤sizeLine:=by decide
  refine wpAny_ite_split (fun c=>?_) fun c=>?_
  · have c2:(!w.params.followText "set-order" && (!t.plain && decide (es.size > 1)))=true:=c
    refine wpAny_bind (wp_order es.size (List.range es.size) s _ (by simp) fun π d pm=>?_)
    have lp:π.length=es.size:=by have:=pm.length_eq;simpa using this
    refine wpAny_bind (wpAny_newTuple ?_ (by rw [List.length_map,lp];omega))
    have hS1:=Heap.get?_push_of_some { cls:=Value.type "tuple",data:=.seq (π.map fun (i:Nat)=>rawInt i).toArray } hS
    refine wpAny_bind (wpAny_setEpoch_of (s:={ s with heap:=s.heap.push { cls:=.type "tuple",data:=.seq (π.map fun (i:Nat)=>rawInt i).toArray },drawn:=d }) hS1 rfl ok.fits ?_)
    refine wpAny_bind (m:=newFields _ _) (wpAny_newObj_type (wpAny_pure ⟨_,rfl,"set_iterator",_,⟨_,Heap.get?_push_size _ rfl,rfl⟩,si_next.lookup,?_⟩))
    obtain ⟨h1,e1⟩:∃ h1:Heap,h1=s.heap.push { cls:=.type "tuple",data:=.seq (π.map fun (i:Nat)=>rawInt i).toArray }:=⟨_,rfl⟩
    have z1:h1.objs.size=s.heap.objs.size + 1:=by rw [e1,Heap.size_push]
    have gT:h1.get? s.heap.objs.size=some { cls:=.type "tuple",data:=.seq (π.map fun (i:Nat)=>rawInt i).toArray }:=e1 ▸ Heap.get?_push_size _ rfl
    have k1:∀ b o,s.heap.get? b=some o→h1.get? b=some o:=fun b o e=>e1 ▸ Heap.get?_push_of_some _ e
    rw [← e1]
    have wk:=dr_walks (P:=P) (w:=w) (I:=h1.objs.size) (T:=s.heap.objs.size) (S:=S) (ep:=ep) hh (by rw [z1];exact Nat.ne_of_lt (Nat.lt_succ_self _)) (by rw [z1];exact Nat.ne_of_lt (Nat.lt_succ_of_lt lS)) ok.fits pm
    refine q _ d h1.objs.size (π.map fun k=>(es.toList.map (·.2)).getD k Value.none) _ _ (fun b o e=>Heap.get?_push_of_some _ (k1 b o e)) (by rw [z1];exact Nat.le_succ _) ?_ ?_ (Walks.weak wk fun i v=>?_) ⟨Heap.get?_push_size _ rfl,Heap.get?_push_of_some _ gT,Heap.get?_push_of_some _ (k1 _ _ hS)⟩
    · refine (pm.map _).trans ?_
      have e2:(List.range es.size).map (fun k=>(es.toList.map (·.2)).getD k Value.none)=es.toList.map (·.2):=by
        apply List.ext_getElem
        · simp
        · intro i h1 h2
          simp [List.getD_eq_getElem?_getD,List.getElem?_eq_getElem h2]
          simp at h2
          rw [Array.getElem?_eq_getElem h2];rfl
      rw [e2]
    · intro b hb
      simp only [List.mem_cons,List.not_mem_nil,or_false] at hb
      rcases hb with rfl | rfl | rfl
      · exact .inr (by rw [z1];exact Nat.le_succ _)
      · exact .inr (Nat.le_refl _)
      · exact .inl rfl
    · rintro ⟨k,e,a1,a2,rfl⟩
      rw [List.getElem?_map,a1]
      simp [List.getD_eq_getElem?_getD,a2]
  · have c2:¬ ((!w.params.followText "set-order" && (!t.plain && decide (es.size > 1)))=true):=c
    refine wpAny_bind (wpAny_pure ?_)
    refine wpAny_bind (wpAny_setEpoch_of hS rfl ok.fits ?_)
    refine wpAny_bind (m:=newFields _ _) (wpAny_newObj_type (wpAny_pure ⟨_,rfl,"set_iterator",_,⟨_,Heap.get?_push_size _ rfl,rfl⟩,si_next.lookup,?_⟩))
    have sI:S≠s.heap.objs.size:=Nat.ne_of_lt lS
    have fpo:∀ b∈[s.heap.objs.size,S],b=S∨s.heap.objs.size≤b:=fun b hb=>by
      simp only [List.mem_cons,List.not_mem_nil,or_false] at hb
      rcases hb with rfl | rfl
      · exact .inr (Nat.le_refl _)
      · exact .inl rfl
    by_cases bt:w.params.followText "set-order"=true
    · have pm:=(pick_all (w.params.setOrder S ep) es).map (·.2)
      have lo:((pickOrder (w.params.setOrder S ep) es).toList.map (·.2)).length=es.size:=by have:=pm.length_eq;rw [this];simp
      exact q _ s.drawn _ _ _ _ (fun b o e=>Heap.get?_push_of_some _ e) (Nat.le_refl _) pm fpo (in_walks hh sI ok.fits _ lo (fun _=>0) (fun i v s A hS hv Q E q=>nx_text bt hS ok.fits (by rw [hv];exact q)) fun s A hS Q E q=>nx_text bt hS ok.fits (by rw [List.getElem?_eq_none (by rw [lo];exact Nat.le_refl _)];exact q)) ⟨Heap.get?_push_size _ rfl,Heap.get?_push_of_some _ hS⟩
    · have bt:w.params.followText "set-order"=false:=by simpa using bt
      have sm:es.size≤1:=by
        cases hp:t.plain with
        | true=>have:=pn hp;omega
        | false=>rw [bt,hp] at c2;simp at c2;exact c2
      have ld1:t.led=true:=by rw [ld];unfold ledW;rw [bt];rfl
      refine q _ s.drawn _ (es.toList.map (·.2)) _ _ (fun b o e=>Heap.get?_push_of_some _ e) (Nat.le_refl _) (List.Perm.refl _) fpo (in_walks hh sI ok.fits _ (by simp) (fun i=>if i=0 then 0 else t.place.getD 0 0 + 1) (fun i v s A hS hv Q E q=>?_) fun s A hS Q E q=>?_) ⟨Heap.get?_push_size _ rfl,Heap.get?_push_of_some _ hS⟩
      · have i0:i < es.size:=by have:=(List.getElem?_eq_some_iff.mp hv).1;simpa using this
        obtain ⟨j,hj⟩:=Array.size_eq_one_iff.mp (show t.place.size=1 by rw [ok.sz];omega)
        obtain ⟨e,he⟩:=Array.size_eq_one_iff.mp (show es.size=1 by omega)
        have i1:i=0:=by omega
        subst i1
        subst he
        simp only [List.map_cons,List.getElem?_cons_zero,Option.some.injEq] at hv
        subst hv
        refine nx_slot bt hS ok.fits sm ld1 ?_
        rw [if_pos rfl,hj,below_lo]
        rw [hj] at q
        exact q
      · refine nx_slot bt hS ok.fits sm ld1 ?_
        rcases Nat.eq_zero_or_pos es.size with z | z
        · rw [Array.getElem?_eq_none (xs:=es) (by omega)]
          exact q
        · obtain ⟨j,hj⟩:=Array.size_eq_one_iff.mp (show t.place.size=1 by rw [ok.sz];omega)
          rw [if_neg (by omega),hj]
          rw [show (#[j]:Array Nat).getD 0 0=j from rfl,below_hi,Array.getElem?_eq_none (xs:=es) (by omega)]
          exact q
theorem collect_set {S:Addr} {vs:List Value} {R:List Value→Shared→Prop} (hS:SetIn w s.heap S vs) (hh:A.handled=none)
    (h:∀ (h':Heap) (tk:Nat) d (ord:List Value),(∀ b o,s.heap.get? b=some o→h'.get? b=some o)→ord.Perm vs→R ord { s with heap:=h',toks:=tk,drawn:=d }):wpAny (model P w) A (collect (.ref S)) R E s:=by
  obtain ⟨es,ep,t,ho,pm,ok,pn,ld⟩:=hS
  have le:es.size≤127:=by have:=ok.lt;rcases ok.msk with e | e | e <;> omega
  have zl:(128:Nat)≤sizeLine:=by decide
  unfold collect
  refine wpAny_bind (wpAny_runValue (codeAny_builtin entry_proto_collect' ?_));rw [Around.under_plainId PySem.F.plain_proto_collect _]
  show wpAny _ A.in1 (newList [] >>= fun l=>again (.builtin "list.__iadd__" ⟨[l,.ref S],[]⟩)) _ _ s;refine wpAny_bind (wpAny_newObj_type ?_)
  refine wpAny_pure ⟨plainId_quiet PySem.F.plain_list_iadd _,codeAny_builtin entry_list_iadd' ?_⟩;rw [Around.under_plainId PySem.F.plain_list_iadd _]
  obtain ⟨h0,e0⟩:∃ h0:Heap,h0=s.heap.push { cls:=.type "list",data:=.seq ([]:List Value).toArray }:=⟨_,rfl⟩
  rw [← e0]
  have k0:∀ b o,s.heap.get? b=some o→h0.get? b=some o:=fun b o e=>e0 ▸ Heap.get?_push_of_some _ e
  have hL:h0.get? s.heap.objs.size=some { cls:=.type "list",data:=.seq #[] }:=e0 ▸ Heap.get?_push_size _ rfl
  have lS:S < s.heap.objs.size:=Heap.lt_size ho
  have L0:s.heap.objs.size < h0.objs.size:=Heap.lt_size hL
  show wpAny _ A.in1 (Builtin.List.listExtendWith (.ref s.heap.objs.size) (.ref S) (.ref s.heap.objs.size)) _ _ _
  unfold Builtin.List.listExtendWith
  refine wpAny_bind (wpAny_typeOf (s:={ s with heap:=h0 }) (T:="set") ⟨_,k0 _ _ ho,rfl⟩ ?_)
  have h1:Builtin.List.listSameRef (.ref s.heap.objs.size) (.ref S)=false:=by simp [Builtin.List.listSameRef,(Nat.ne_of_gt lS:s.heap.objs.size≠S)]
  simp only [h1,show (Value.type "set" == Value.type "list")=false by decide,show (Value.type "set" == Value.type "tuple")=false by decide,Bool.or_false,Bool.false_eq_true,if_false]
  refine wpAny_bind (set_iter (P:=P) (A:=A.in1) (s:={ s with heap:=h0 }) (k0 _ _ ho) ok (fun z=>by have:=pn z;subst this;have:=pm.length_eq;simpa using this) ld hh fun h1 d I ord fp St k1 lI po pf W st=>?_)
  have hL1:=k1 _ _ hL
  have Lf:s.heap.objs.size ∉ fp:=fun z=>by
    rcases pf _ z with e | e
    · exact absurd e (Nat.ne_of_gt lS)
    · exact absurd L0 (Nat.not_lt.mpr e)
  have key:∀ (h2:Heap) (c:Nat),St 0 h2→(∀ b o,b≠s.heap.objs.size→h1.get? b=some o→h2.get? b=some o)→h2.get? s.heap.objs.size=some { cls:=.type "list",data:=.seq #[] c } →
      codeAny (model P w) A (.builtin "list.extend.loop" ⟨[.ref s.heap.objs.size,.ref I,.ref s.heap.objs.size],[]⟩) (fun (q:Result) (s':Shared)=>∃ (h':Heap) (tk:Nat) (acc:Array Value) (c:Nat),q=.ok (.ret (.ref s.heap.objs.size))∧s'={ s with heap:=h',toks:=tk,drawn:=d } ∧
        (∀ b o,s.heap.get? b=some o→h'.get? b=some o)∧h'.get? s.heap.objs.size=some { cls:=.type "list",dict:=none,data:=.seq acc c,slots:=#[] }∧ItemsOf (fun i v=>ord[i]?=some v) acc es.size) { s with heap:=h2,drawn:=d }:=fun h2 c st2 k2 hL2=>by
    refine codeAny_extend_loopS W.toS (by omega) s.heap.objs.size Lf _ es.size 0 _ #[] c rfl (Nat.zero_le _) st2 hL2 (ItemsOf.nil _) fun s' acc' c' hm hS' hacc=>?_
    refine ⟨s'.heap,s'.toks,acc',c',rfl,Moved.eq_with hm,fun b o e=>?_,hS',hacc⟩
    have bl:=Heap.lt_size e
    refine hm.heap b o (fun z=>?_) (k2 b o (Nat.ne_of_lt bl) (k1 _ _ (k0 _ _ e)))
    rcases List.mem_cons.mp z with z | z
    · exact absurd z (Nat.ne_of_lt bl)
    · exact absurd (List.mem_singleton.mp z) (Nat.ne_of_lt (Nat.lt_of_lt_of_le (Nat.lt_trans bl L0) lI))
  have ends:∀ (h2:Heap) (c:Nat),St 0 h2→(∀ b o,b≠s.heap.objs.size→h1.get? b=some o→h2.get? b=some o)→h2.get? s.heap.objs.size=some { cls:=.type "list",data:=.seq #[] c } →
      codeAny (model P w) A (.builtin "list.extend.loop" ⟨[.ref s.heap.objs.size,.ref I,.ref s.heap.objs.size],[]⟩) (fun r s'=>match r with | .ok (.ret v)=>wpAny (model P w) A (match v with | Value.ref a=>do { let o ← load a;match o.data with | Data.seq xs epoch=>pure xs.toList | x=>unsupported "internal:collect" } | x=>unsupported "internal:collect") R E s' | .ok a=>False | .error e=>E e s') { s with heap:=h2,drawn:=d }:=fun h2 c st2 k2 hL2=>by
    refine codeAny_mono (key h2 c st2 k2 hL2) fun q s' x=>?_
    obtain ⟨h',tk,acc,c,rfl,rfl,hk,hS',hacc⟩:=x
    show wpAny _ A (load s.heap.objs.size >>= _) _ _ _;refine wpAny_bind (wpAny_load hS' ?_)
    have ea:acc.toList=ord:=by
      have lo:ord.length=es.size:=by have:=(po.trans (List.Perm.refl _)).length_eq;simpa using this
      apply List.ext_getElem?
      intro i
      rcases Nat.lt_or_ge i acc.size with z | z
      · rw [Array.getElem?_toList,Array.getElem?_eq_getElem z]
        exact (hacc.2 i _ (Array.getElem?_eq_getElem z)).symm
      · rw [List.getElem?_eq_none (by simpa using z),List.getElem?_eq_none (by rw [lo,← hacc.1];exact z)]
    exact wpAny_pure (ea ▸ h h' tk d acc.toList hk (ea ▸ po.trans pm))
  refine wpAny_bind (wpAny_holding (set_hint ⟨_,k1 _ _ (k0 _ _ ho),rfl⟩ ?_))
  refine wpAny_ite_split (fun _=>?_) fun _=>wpAny_pure ⟨plainId_quiet PySem.F.plain_extend_loop _,ends h1 _ st (fun _ _ _ e=>e) hL1⟩
  refine wpAny_bind (wpAny_rule (wpAny_bind ?_))
  show wpAny _ _ (updateSeq s.heap.objs.size (·.push .none) >>= fun _=>updateSeq s.heap.objs.size (·.pop)) _ _ _
  refine wpAny_bind (wpAny_updateSeq hL1 rfl ?_)
  have g2:=Heap.get?_update_self (Obj.mapSeq (·.push Value.none)) hL1 rfl
  refine wpAny_updateSeq (hz:=by seq_fits) g2 rfl ?_
  have g3:=Heap.get?_update_self (Obj.mapSeq (·.pop)) g2 rfl
  have oth:∀ b o,b≠s.heap.objs.size→h1.get? b=some o→((h1.update s.heap.objs.size (Obj.mapSeq (·.push Value.none))).update s.heap.objs.size (Obj.mapSeq (·.pop))).get? b=some o:=fun b o hb e=>(Heap.get?_update_other _ _ (Ne.symm hb)).trans ((Heap.get?_update_other _ _ (Ne.symm hb)).trans e)
  exact wpAny_pure ⟨plainId_quiet PySem.F.plain_extend_loop _,ends _ _ (W.frame 0 _ _ st fun b hb o e=>oth b o (fun z=>Lf (z ▸ hb)) e) oth g3⟩
end
end L2
namespace L2
open PySem PySem.Spec PySem.W PyProof.Rows
section
variable {P:Program} {w:World} {A:Around} {E:Value→Shared→Prop} {s:Shared}
theorem sorted_from {l:Addr} {C:List Value→Shared→Prop} {Q:Value→Shared→Prop} (coll:∀ R:List Value→Shared→Prop,(∀ vs s1,C vs s1→R vs s1)→wpAny (model P w) A.in1 (collect (.ref l)) R E s)
    (rest:∀ (vs:List Value) (s1:Shared),C vs s1→∃ (κ:SortKind) (lt:Nat→Nat→Bool),vs.length < 64∧SO lt vs.length ∧
      (2≤vs.length→∀ (h:Heap) (Q:SortKind→Shared→Prop),(∀ b o,s1.heap.get? b=some o→h.get? b=some o)→Q κ { s1 with heap:=h }→wpAny (model P w) A.in1.in1 (keyKind' vs.toArray) Q (fun _ _=>False) { s1 with heap:=h }) ∧
      (∀ (h:Heap) i j C,(∀ b o,s1.heap.get? b=some o→h.get? b=some o)→i < vs.length→j < vs.length→i≠j→C (lt i j) { s1 with heap:=h }→kas_ask P w A.in1.in1 κ vs i j C { s1 with heap:=h }) ∧
      ∀ (h':Heap) (p:Array Nat) (c:Nat),(∀ b o,s1.heap.get? b=some o→h'.get? b=some o)→h'.get? s1.heap.objs.size=some (seqObj "list" (outOf vs p).toArray c)→PP vs.length p→Rise lt p vs.length→Q (.ref s1.heap.objs.size) { s1 with heap:=h' }) :
    wpAny (model P w) A (call (.builtin "sorted") [.ref l]) Q E s:=by
  refine Calls.call_function_entry kind_sorted plain_sorted entry_sorted (args_sorted1 _) ?_;unfold Builtin.«sorted»
  refine wpAny_bind (m:=checkCount "sorted" 1 1 _) (wpAny_pure ?_);refine wpAny_bind (coll _ fun vs s1 hC=>?_)
  obtain ⟨κ,lt,h64,S,hk,hc,fin⟩:=rest vs s1 hC
  refine wpAny_bind (wpAny_newList ?_ (by rw [sizeLine_eq];omega))
  have hoL:(s1.heap.push (seqObj "list" vs.toArray 0)).get? s1.heap.objs.size=some (seqObj "list" vs.toArray 0):=Heap.get?_push_size _ rfl
  have kept:∀ h',Kp s1.heap.objs.size (s1.heap.push (seqObj "list" vs.toArray 0)) h'→∀ b o,s1.heap.get? b=some o→h'.get? b=some o:=fun h' k b o e=>k b o (Nat.ne_of_lt (Heap.lt_size e)) (Heap.get?_push_of_some _ e)
  refine wpAny_bind (wpAny_holding (wpAny_call_entry slot_list_sort ⟨_,hoL,rfl⟩ entry_list_sort (lsort_pure (s:={ s1 with heap:=s1.heap.push (seqObj "list" vs.toArray 0) }) hoL h64 (κ:=κ) (lt:=lt) (fun h2 h' Q' k q=>?_) (fun h' i j C k hi hj hij q=>?_) S fun h' p c k ho hp hr=>?_) (args_list_sort _)))
  · exact hk h2 h' Q' (kept h' k) q
  · exact hc h' i j C (kept h' k) hi hj hij q
  · exact ⟨_,rfl,wpAny_pure ⟨_,rfl,fin h' p c (kept h' k) ho hp hr⟩⟩
end
theorem perm_map {α β:Type} {f:α→β} {l:List β}:∀ {m:List α},l.Perm (m.map f)→∃ m':List α,m'.Perm m∧l=m'.map f:=by
  suffices H:∀ {l k:List β},l.Perm k→∀ m:List α,k=m.map f→∃ m':List α,m'.Perm m∧l=m'.map f from fun {m} h=>H h m rfl
  intro l k h
  induction h with
  | nil=>intro m e;exact ⟨m,List.Perm.refl _,e⟩
  | cons x _ ih =>
    intro m e
    cases m with
    | nil=>cases e
    | cons y m =>
      obtain ⟨m',a,b⟩:=ih m (by injection e)
      exact ⟨y :: m',a.cons y,by rw [b,List.map_cons];congr 1;injection e⟩
  | swap x y l =>
    intro m e
    match m,e with
    | a :: b :: m,e =>
      injection e with e1 e2
      injection e2 with e2 e3
      exact ⟨b :: a :: m,List.Perm.swap ..,by rw [List.map_cons,List.map_cons,← e1,← e2,← e3]⟩
  | trans _ _ ih1 ih2 =>
    intro m e
    obtain ⟨m2,a,b⟩:=ih2 m e
    obtain ⟨m3,c,d⟩:=ih1 m2 b
    exact ⟨m3,c.trans a,d⟩
abbrev PsAt (H:Hp) (ps:List (Addr × Pl)):Prop:=∀ n∈ps,H n.1=some (.tup [.str n.2.1,.int n.2.2])
def setX (w:World) (a:Addr) (ps:List (Addr × Pl)):HO:=.ext fun h=>SetIn w h a (ps.map fun n=>Value.ref n.1)
abbrev cSetW (w:World) (K:PySem.W.Frag):RC:=fun vs H Q=>∃ r ps,vs=[.ref r]∧SqL K H r (ps.map fun n=>V.ref n.1)∧PsAt H ps∧(ps.map (·.2)).Nodup∧ps.length < 64∧∀ l,H l=none→Q (.ref l) (upd H l (setX w l ps))
abbrev cSrtW (w:World):RC:=fun vs H Q=>∃ a ps,vs=[.ref a]∧H a=some (setX w a ps)∧PsAt H ps∧(ps.map (·.2)).Nodup∧ps.length < 64 ∧
  ∀ l ys srt H',Same H H'→H l=none→H' l=some (.lst ys)→Paired (PcAt H') ys srt→srt.Pairwise (fun a b=>placeLt a b=true)→srt.Perm (ps.map (·.2))→Q (.ref l) H'
section
variable {X:Cx}
theorem valsRf {α:Type} {f:α→Addr}:∀ {ps:List α} {vs:List Value},Vals (ps.map fun n=>V.ref (f n)) vs→vs=ps.map fun n=>Value.ref (f n)
  | [],_,h=>by cases h;rfl
  | p :: ps,_,h=>by
    cases h with
    | cons a r =>
      cases a
      rw [valsRf r]
      rfl
theorem refs_vals {α:Type} {f:α→Addr}:∀ {ps:List α},Vals (ps.map fun n=>V.ref (f n)) (ps.map fun n=>Value.ref (f n))
  | []=>.nil
  | p :: ps=>.cons rfl refs_vals
theorem Inv.drew {pins:List (Addr × Obj)} {σ:St} {H:Hp} {s:Shared} {d:Drawn} (I:Inv X pins σ H s):Inv X pins σ H { s with drawn:=d }:=⟨I.ok,I.os,I.bare,I.base,I.loc,I.cell,I.free,I.freeC,I.pin,I.hok,I.len⟩
theorem call_setW (hc:X.calm=true) (hu:X.A.units + 8 < cLine):CallR X (.type "set") (cSetW X.w X.K):=by
  intro pins s σ H vs us Q I r0 h
  obtain ⟨r,ps,rfl,hq,pp,nd,h64,q⟩:=h
  obtain ⟨u,rfl,ru⟩:=vals1 r0
  cases ru
  obtain ⟨vs,rv,⟨o,n,ho,oc,_,od⟩,hz⟩:=I.list hq
  have ev:=valsRf (f:=fun n:Addr × Pl=>n.1) rv
  subst ev
  refine call_set_places (qs:=ps.map (·.2)) (I.ok.hd hc) hu ⟨o,ho,oc,n,od⟩ (by simp) nd (by simp;omega) (fun j q hj=>?_) fun h' tk hS hk=>?_
  · rw [List.getElem?_map] at hj
    obtain ⟨m,hm,rfl⟩:=Option.map_eq_some_iff.mp hj
    exact ⟨m.1,by rw [List.getElem?_toArray,List.getElem?_map,hm];rfl,place_at I (pp m (List.mem_of_getElem? hm))⟩
  · have fr:H s.heap.objs.size=none:=I.hok.fresh (Nat.le_refl _)
    have ex:∃ o,h'.get? s.heap.objs.size=some o:=by obtain ⟨es,ep,t,ho,_⟩:=hS;exact ⟨_,ho⟩
    refine ⟨.ref s.heap.objs.size,_,I.laid (a:=s.heap.objs.size) (o:=setX X.w s.heap.objs.size ps) (t':=tk) hk (Nat.le_refl _) ⟨hS,ex,fun h1 h2 a b=>SetIn.at a b⟩,rfl,q _ fr⟩
theorem call_srtW (hc:X.calm=true):CallR X (.builtin "sorted") (cSrtW X.w):=by
  intro pins s σ H vs us Q I r0 h
  obtain ⟨a,ps,rfl,ha,pp,nd,h64,q⟩:=h
  obtain ⟨u,rfl,ru⟩:=vals1 r0
  cases ru
  have hS:SetIn X.w s.heap a (ps.map fun n=>Value.ref n.1):=(show ObjOk X.prog X.w H s.heap a (setX X.w a ps) from I.hok a _ ha).1
  have hh:X.A.handled=none:=I.ok.hd hc
  refine sorted_from (C:=fun vs s1=>∃ ps':List (Addr × Pl),ps'.Perm ps∧vs=ps'.map (fun n=>Value.ref n.1)∧(∀ b o,s.heap.get? b=some o→s1.heap.get? b=some o)∧Inv X pins σ H s1) (fun R hR=>?_) fun vs s1 ⟨ps',pm,ev,k1,I1⟩=>?_
  · refine collect_set hS hh fun h' tk d ord kp po=>?_
    obtain ⟨ps',pm,e⟩:=perm_map po
    exact hR _ _ ⟨ps',pm,e,kp,(I.kept (t':=tk) kp).drew⟩
  · subst ev
    have nd':(ps'.map (·.2)).Nodup:=((pm.map (·.2)).nodup_iff).mpr nd
    have lp:ps'.length=ps.length:=pm.length_eq
    have so:=placeLt_so nd'
    have pp':PsAt H ps':=fun n hn=>pp n (pm.mem_iff.mp hn)
    have vat:∀ {h:Heap},(∀ b o,s1.heap.get? b=some o→h.get? b=some o)→∀ (i:Nat) (v:Value) (q:Pl),(ps'.map fun n=>Value.ref n.1)[i]?=some v→(ps'.map (·.2))[i]?=some q→PlAt h v q:=fun {h} k i v q hv hq=>by
      rw [List.getElem?_map] at hv hq
      obtain ⟨m,hm,rfl⟩:=Option.map_eq_some_iff.mp hv
      rw [hm] at hq
      cases hq
      exact (place_at I1 (pp' m (List.mem_of_getElem? hm))).keep k
    have ll:(ps'.map fun n=>Value.ref n.1).length=(ps'.map (·.2)).length:=by simp
    refine ⟨tuples' true,fun i j=>placeLt ((ps'.map (·.2)).getD i (("",0):Pl)) ((ps'.map (·.2)).getD j (("",0):Pl)),by simp;omega,by rw [ll];exact so,fun h2 h Q' k q'=>?_,fun h i j C k hi hj hij q'=>?_,fun h' p c k2 hD hp hr=>?_⟩
    · exact kind_place (s:={ s1 with heap:=h }) (qs:=ps'.map (·.2)) ll (fun i v q hv hq=>vat k i v q hv hq) (by omega) q'
    · have hi':i < (ps'.map (·.2)).length:=by simpa using hi
      have hj':j < (ps'.map (·.2)).length:=by simpa using hj
      have e1:(ps'.map (·.2))[i]?=some (ps'.map (·.2))[i]:=List.getElem?_eq_getElem hi'
      have e2:(ps'.map (·.2))[j]?=some (ps'.map (·.2))[j]:=List.getElem?_eq_getElem hj'
      have g1:(ps'.map fun n=>Value.ref n.1)[i]?=some ((ps'.map fun n=>Value.ref n.1).getD i Value.none):=by rw [List.getD_eq_getElem?_getD,List.getElem?_eq_getElem hi];rfl
      have g2:(ps'.map fun n=>Value.ref n.1)[j]?=some ((ps'.map fun n=>Value.ref n.1).getD j Value.none):=by rw [List.getD_eq_getElem?_getD,List.getElem?_eq_getElem hj];rfl
      have n1:(ps'.map (·.2)).getD i (("",0):Pl)=(ps'.map (·.2))[i]:=by rw [List.getD_eq_getElem?_getD,e1];rfl
      have n2:(ps'.map (·.2)).getD j (("",0):Pl)=(ps'.map (·.2))[j]:=by rw [List.getD_eq_getElem?_getD,e2];rfl
      simp only [n1,n2] at q'
      exact ask_place (P:=X.prog) (w:=X.w) (A:=X.A.in1.in1) (E:=fun _ _=>False) (s:={ s1 with heap:=h }) (Q:=C) (vat k i _ _ g1 e1) (vat k j _ _ g2 e2) q' fun z=>hij ((List.getElem_inj nd').mp z)
    · have hp':PP ps'.length p:=by simpa using hp
      have fr:H s1.heap.objs.size=none:=I1.hok.fresh (Nat.le_refl _)
      have sz:=hp'.size
      have eo:outOf (ps'.map fun n=>Value.ref n.1) p=(p.toList.map fun i=>ps'.getD i (0,(("",0):Pl))).map fun n=>Value.ref n.1:=by
        unfold outOf
        rw [List.map_map]
        refine List.map_congr_left fun i hi=>?_
        have hl:=hp'.lt i hi
        simp [List.getD_eq_getElem?_getD,List.getElem?_map,List.getElem?_eq_getElem hl]
      have pp2:PsAt H (p.toList.map fun i=>ps'.getD i (0,(("",0):Pl))):=fun n hn=>by
        obtain ⟨i,hi,rfl⟩:=List.mem_map.mp hn
        have hl:=hp'.lt i hi
        rw [List.getD_eq_getElem?_getD,List.getElem?_eq_getElem hl]
        exact pp' _ (List.getElem_mem hl)
      have pm2:(p.toList.map fun i=>ps'.getD i (0,(("",0):Pl))).Perm ps':=by
        refine (hp'.list.map _).trans ?_
        rw [range_getD]
      obtain ⟨ps2,e2⟩:∃ ps2,ps2=p.toList.map fun i=>ps'.getD i (0,(("",0):Pl)):=⟨_,rfl⟩
      rw [eo,← e2] at hD
      rw [← e2] at pp2 pm2
      have I2:Inv X pins σ (upd H s1.heap.objs.size (.lst (ps2.map fun n=>V.ref n.1))) { s1 with heap:=h' }:=I1.laid (s:=s1) (a:=s1.heap.objs.size) (o:=.lst (ps2.map fun n=>V.ref n.1)) (t':=s1.toks) k2 (Nat.le_refl _)
        ⟨by rw [List.length_map,pm2.length_eq];exact Nat.le_trans (by omega:_≤64) (by decide),ps2.map fun n=>Value.ref n.1,c,refs_vals,hD⟩
      have S2:Same H (upd H s1.heap.objs.size (.lst (ps2.map fun n=>V.ref n.1))):=isV _ fr
      have pr:∀ {ps3:List (Addr × Pl)},PsAt H ps3→Paired (PcAt (upd H s1.heap.objs.size (.lst (ps2.map fun n=>V.ref n.1)))) (ps3.map fun n=>V.ref n.1) (ps3.map (·.2)):=fun {ps3} h=>by
        induction ps3 with
        | nil=>exact .nil
        | cons n ps ih=>exact .cons ⟨n.1,rfl,S2 _ _ (h n List.mem_cons_self)⟩ (ih fun m hm=>h m (List.mem_cons_of_mem _ hm))
      refine ⟨.ref s1.heap.objs.size,_,I2,rfl,q _ _ (ps2.map (·.2)) _ S2 fr upd_same (pr pp2) ?_ ((pm2.trans pm).map (·.2))⟩
      have hr':Rise (fun i j=>placeLt ((ps'.map (·.2)).getD i (("",0):Pl)) ((ps'.map (·.2)).getD j (("",0):Pl))) p ps'.length:=by simpa using hr
      have pw:=rise_pairs (F:=placeLt) hp' hr'
      have eq:ps2.map (·.2)=p.toList.map fun i=>(ps'.map (·.2)).getD i (("",0):Pl):=by
        rw [e2,List.map_map]
        refine List.map_congr_left fun i hi=>?_
        have hl:=hp'.lt i hi
        simp [List.getD_eq_getElem?_getD,List.getElem?_map,List.getElem?_eq_getElem hl]
      rw [eq]
      exact pw
def tSrtS (K:PySem.W.Frag) (ta:TA):TE:=fun σ H Q=>ta σ H fun vs H1=>∃ r xs its,vs=[.ref r]∧SqL K H1 r xs∧Paired (PcAt H1) xs its∧its.Nodup∧its.length < 64 ∧
  ∀ l ys srt H',Same H1 H'→H1 l=none→H' l=some (.lst ys)→Paired (PcAt H') ys srt→srt.Pairwise (fun a b=>placeLt a b=true)→srt.Perm its→Q (.ref l) H'
theorem paired_ps {H:Hp}:∀ {xs:List V} {its:List Pl},Paired (PcAt H) xs its→∃ ps:List (Addr × Pl),xs=ps.map (fun n=>V.ref n.1)∧its=ps.map (·.2)∧PsAt H ps
  | _,_,.nil=>⟨[],rfl,rfl,fun _ h=>by cases h⟩
  | _,_,.cons a r=>by
    obtain ⟨p,rfl,hp⟩:=a
    obtain ⟨ps,e1,e2,h⟩:=paired_ps r
    refine ⟨(p,_) :: ps,by rw [e1];rfl,by rw [e2];rfl,fun n hn=>?_⟩
    rcases List.mem_cons.mp hn with rfl | hn
    · exact hp
    · exact h n hn
theorem pe_srtS {a:Expr} {ta:TA} {p p2 pos pos2:Pos} (hc:X.calm=true) (hu:X.A.units + 8 < cLine) (hg1:Gl X "sorted") (hm1:X.mg "sorted"=none) (hg2:Gl X "set") (hm2:X.mg "set"=none) (ha:PA X [a] ta) (hs:starEach [a] X.env=[(false,eval a X.env)]:=by rfl)
    (he:starEach [.Call (.Name "set" p2) [a] [] pos2] X.env=[(false,eval (.Call (.Name "set" p2) [a] [] pos2) X.env)]:=by rfl):PE X (.Call (.Name "sorted" p) [.Call (.Name "set" p2) [a] [] pos2] [] pos) (tSrtS X.K ta):=by
  let t2:TA:=fun σ H Q=>∃ Q1,ta σ H Q1∧∀ vs H,Q1 vs H→Q vs H
  have ha2:PA X [a] t2:=fun pos pins s σ H Q I ⟨Q1,h,im⟩=>wpAny_mono (ha pos pins s σ H Q1 I h) (fun us s' ⟨vs,H',I',v,q⟩=>⟨vs,H',I',v,im _ _ q⟩) fun _ _ x=>x
  have e1:PE X (.Call (.Name "set" p2) [a] [] pos2) (tCB (cSetW X.w X.K) t2):=pe_callTy (call_setW hc hu) hg2 hm2 bt_set ha2 (by decide) (by decide) hs rfl
  have e2:PE X (.Call (.Name "sorted" p) [.Call (.Name "set" p2) [a] [] pos2] [] pos) (tCB (cSrtW X.w) (tCons (tCB (cSetW X.w X.K) t2) tNil)):=pe_callB (call_srtW hc) hg1 hm1 bt_sorted (pa_cons e1 pa_nil) (by decide) (by decide) he rfl
  intro pins s σ H Q I h
  refine e2 pins s σ H Q I ⟨_,h,fun vs H1 h1=>?_⟩
  obtain ⟨r,xs,its,rfl,hq,pr,nd,h64,q⟩:=h1
  obtain ⟨ps,rfl,rfl,pp⟩:=paired_ps pr
  refine ⟨r,ps,rfl,hq,pp,nd,by simpa using h64,fun l hl=>?_⟩
  have s1:Same H1 (upd H1 l (setX X.w l ps)):=isV l hl
  refine ⟨l,ps,rfl,upd_same,fun n hn=>s1 _ _ (pp n hn),nd,by simpa using h64,fun l2 ys srt H' s2 n2 g2 p2 up pm=>q l2 ys srt H' (s1.trans s2) ?_ g2 p2 up pm⟩
  by_cases e:l2=l
  · rw [e,upd_same] at n2;cases n2
  · rw [upd_ne e] at n2;exact n2
end
end L2
namespace L2
open PySem PySem.Spec PyProof.Rows
section
variable {P:Program} {w:World} {A:Around} {E:Value→Shared→Prop} {s:Shared}
theorem nxa_item {it:Addr} {x:Str} {t:Tok} {i c:Nat} {Q:Value→Shared→Prop} (hit:s.heap.IsStrIter it "str_ascii_iterator" x t i) (hx:x.cps[i]?=some c)
    (q:∀ h,h.IsStrIter it "str_ascii_iterator" x t (i + 1)→Heap.SameBut it s.heap h→Q (.str ⟨#[c]⟩ s.toks) { s with heap:=h,toks:=s.toks + 1 }):wpAny (model P w) A (Builtin.SmallTypes.nextOf (.ref it)) Q E s:=by
  obtain ⟨o,ho,hc,hd⟩:=id hit
  unfold Builtin.SmallTypes.nextOf
  refine wpAny_bind (wpAny_callSpecial?_slot (name:=Str.ofString "__next__") hit.typeIs F.slot_str_ascii_iterator_next (wpAny_call_entry F.slot_str_ascii_iterator_next hit.typeIs F.entry_str_ascii_iterator_next ?_ (F.args_str_ascii_iterator_next_1 _)))
  show wpAny _ _ (field (.ref it) 0 >>= _) _ _ s;refine wpAny_bind (wpAny_field ho hd (x:=.str x t) rfl ?_)
  show wpAny _ _ (field (.ref it) 1 >>= _) _ _ s;refine wpAny_bind (wpAny_field ho hd (x:=.int i 0) rfl ?_);simp only [Int.toNat_natCast,hx]
  refine wpAny_bind (wpAny_setField ho hd (by simp) (wpAny_bind (wpAny_mkStr (wpAny_pure ⟨_,rfl,wpAny_pure (q _ ?_ (Heap.SameBut.update ..))⟩) (by show 1≤sizeLine;decide))))
  exact ⟨_,Heap.get?_update_self _ ho (Obj.isFreed_of_fields (Obj.data_mapFields hd _)),(Obj.cls_mapFields ..).trans hc,by rw [Obj.data_mapFields hd];simp [rawInt]⟩
theorem nxa_end {it:Addr} {x:Str} {t:Tok} {i:Nat} {Q:Value→Shared→Prop} (hh:A.handled=none) (hit:s.heap.IsStrIter it "str_ascii_iterator" x t i) (hx:x.cps[i]?=none)
    (hE:∀ h e,Heap.ExtBut it s.heap h→(∃ o,h.get? e=some o∧o.cls=.type "StopIteration")→E (.ref e) { s with heap:=h }):wpAny (model P w) A (Builtin.SmallTypes.nextOf (.ref it)) Q E s:=by
  obtain ⟨o,ho,hc,hd⟩:=id hit
  unfold Builtin.SmallTypes.nextOf
  refine wpAny_bind (wpAny_callSpecial?_slot (name:=Str.ofString "__next__") hit.typeIs F.slot_str_ascii_iterator_next (wpAny_call_entry F.slot_str_ascii_iterator_next hit.typeIs F.entry_str_ascii_iterator_next ?_ (F.args_str_ascii_iterator_next_1 _)))
  show wpAny _ _ (field (.ref it) 0 >>= _) _ _ s;refine wpAny_bind (wpAny_field ho hd (x:=.str x t) rfl ?_)
  show wpAny _ _ (field (.ref it) 1 >>= _) _ _ s;refine wpAny_bind (wpAny_field ho hd (x:=.int i 0) rfl ?_);simp only [Int.toNat_natCast,hx]
  refine wpAny_bind (wpAny_rule (wpAny_bind (wpAny_setField ho hd (by simp) (wpAny_bind (wpAny_letGo ?_)))))
  show wpAny _ _ (newExc (.type "StopIteration") [] >>= _) _ _ _;refine wpAny_bind ?_;simp only [newExc,newTuple]
  refine wpAny_bind (wpAny_newObj_type ?_ (by size_fits));refine wpAny_bind (m:=firstArgMember _ _) (wpAny_of_eq (a:=Value.none) (by first | rfl | (simp only [firstArgMember];rfl)) ?_)
  refine wpAny_newObj_type ?_ (by size_fits);simp only [raiseNew]
  refine wpAny_bind (wpAny_handled ?_);rw [show A.in1.handled=none from hh];refine wpAny_bind (wpAny_pure (wpAny_throw ?_))
  exact hE _ _ (((Heap.SameBut.update ..).extBut.push _).push _) ⟨_,Heap.get?_push_size _ rfl,rfl⟩
theorem en_item {e it:Addr} {i c:Nat} {x:Str} {t:Tok} {old:Value} {Q:Option Value→Shared→Prop} (he:IsEnum s.heap e it i old) (hit:s.heap.IsStrIter it "str_ascii_iterator" x t i) (hx:x.cps[i]?=some c) (hne:e≠it)
    (q:∀ h,IsEnumOut h e it ((i:Int) + 1) (.str ⟨#[c]⟩ s.toks) s.heap.objs.size→h.IsStrIter it "str_ascii_iterator" x t (i + 1)→h.get? s.heap.objs.size=some { cls:=.type "tuple",data:=.seq #[.int i (s.toks + 1),.str ⟨#[c]⟩ s.toks] } →
      (∀ b o,b≠e→b≠it→s.heap.get? b=some o→h.get? b=some o)→Q (some (.ref s.heap.objs.size)) { s with heap:=h,toks:=s.toks + 1 + 1 }):wpAny (model P w) A (pyNext (.ref e)) Q E s:=by
  have hT:s.TypeIs (.ref e) "enumerate":=⟨_,he,rfl⟩
  unfold pyNext
  refine wpAny_bind (wpAny_attempt (wpAny_callSpecial?_slot (name:=Str.ofString "__next__") hT F.slot_enumerate_next (wpAny_call_entry F.slot_enumerate_next hT F.entry_enumerate_next ?_ (F.args_enumerate_next_1 _))))
  obtain ⟨hp,g,d,tk,os⟩:=s
  show wpAny _ _ (field (.ref e) 2 >>= _) _ _ _;refine wpAny_bind (wpAny_field he rfl (x:=.ref it) rfl ?_)
  refine wpAny_bind (nxa_item hit hx fun h1 it1 s1=>?_)
  have s1:Heap.SameBut it hp h1:=s1
  have e1:IsEnum h1 e it i old:=(s1.2 e hne).trans he
  show wpAny _ _ (field (.ref e) 3 >>= _) _ _ ⟨h1,g,d,tk + 1,os⟩;refine wpAny_bind (wpAny_field e1 rfl (x:=rawInt i) rfl ?_)
  show wpAny _ _ (field (.ref e) 4 >>= _) _ _ ⟨h1,g,d,tk + 1,os⟩;refine wpAny_bind (wpAny_field e1 rfl (x:=.none) rfl ?_)
  show wpAny _ _ (mkInt i >>= _) _ _ ⟨h1,g,d,tk + 1,os⟩;refine wpAny_bind (wpAny_mkInt ?_)
  show wpAny _ _ (setField (.ref e) 3 (rawInt ((i:Int) + 1)) >>= _) _ _ ⟨h1,g,d,tk + 1 + 1,os⟩
  refine wpAny_bind (wpAny_setField_rec e1 (by simp) fun h2 e2 s2=>?_)
  have s2:Heap.SameBut e h1 h2:=s2
  have e2:IsEnum h2 e it ((i:Int) + 1) old:=e2
  show wpAny _ _ (setField (.ref e) 4 .none >>= _) _ _ ⟨h2,g,d,tk + 1 + 1,os⟩
  refine wpAny_bind (wpAny_setField_rec e2 (by simp) fun h3 e3 s3=>?_)
  have s3:Heap.SameBut e h2 h3:=s3
  have e3:IsEnum h3 e it ((i:Int) + 1) old:=e3
  show wpAny _ _ (newTuple [.int i (tk + 1),.str ⟨#[c]⟩ tk] >>= _) _ _ ⟨h3,g,d,tk + 1 + 1,os⟩;refine wpAny_bind (wpAny_newTuple ?_)
  have e4:IsEnum (h3.push { cls:=.type "tuple",data:=.seq #[.int i (tk + 1),.str ⟨#[c]⟩ tk] }) e it ((i:Int) + 1) old:=Heap.get?_push_of_some _ e3
  generalize hh4:h3.push { cls:=.type "tuple",data:=.seq #[.int i (tk + 1),.str ⟨#[c]⟩ tk] }=h4 at e4
  have sz:h3.objs.size=hp.objs.size:=by rw [s3.1,s2.1,s1.1]
  have el:e < hp.objs.size:=Heap.lt_size he
  have t4:h4.get? hp.objs.size=some { cls:=.type "tuple",data:=.seq #[.int i (tk + 1),.str ⟨#[c]⟩ tk] }:=by rw [← hh4,← sz];exact Heap.get?_push_size _ rfl
  have k4:∀ b o,b≠e→b≠it→hp.get? b=some o→h4.get? b=some o:=fun b o hbe hbi hb=>by
    rw [← hh4];exact Heap.get?_push_of_some _ (s3.extBut b o hbe (s2.extBut b o hbe (s1.extBut b o hbi hb)))
  have it4:h4.IsStrIter it "str_ascii_iterator" x t (i + 1):=by
    rw [← hh4];obtain ⟨o,ho,r⟩:=(it1.extBut s2.extBut (Ne.symm hne)).extBut s3.extBut (Ne.symm hne);exact ⟨o,Heap.get?_push_of_some _ ho,r⟩
  show wpAny _ _ (Builtin.SmallTypes.ownedTupleIsFree (.ref e) >>= _) _ _ ⟨h4,g,d,tk + 1 + 1,os⟩
  rw [sz]
  refine wpAny_bind ?_
  unfold Builtin.SmallTypes.ownedTupleIsFree
  refine wpAny_bind (wpAny_field e4 rfl (x:=.none) rfl (wpAny_pure ?_));simp only [if_true]
  refine wpAny_bind (wpAny_rule ?_);refine wpAny_bind (wpAny_field e4 rfl (x:=old) rfl ?_)
  refine wpAny_bind (wpAny_setField_rec e4 (by simp) fun h5 e5 s5=>?_)
  have s5:Heap.SameBut e h4 h5:=s5
  have e5:IsEnum h5 e it ((i:Int) + 1) (.str ⟨#[c]⟩ tk):=e5
  show wpAny _ _ (Builtin.SmallTypes.ownedTupleHandOut (.ref e) (.ref hp.objs.size) >>= _) _ _ ⟨h5,g,d,tk + 1 + 1,os⟩;refine wpAny_bind ?_
  unfold Builtin.SmallTypes.ownedTupleHandOut
  refine wpAny_bind (wpAny_setField_rec e5 (by simp) fun h6 e6 s6=>?_)
  have s6:Heap.SameBut e h5 h6:=s6
  have e6:IsEnumOut h6 e it ((i:Int) + 1) (.str ⟨#[c]⟩ tk) hp.objs.size:=e6
  refine wpAny_setField_rec e6 (by simp) fun h7 e7 s7=>?_
  have s7:Heap.SameBut e h6 h7:=s7
  have e7:IsEnumOut h7 e it ((i:Int) + 1) (.str ⟨#[c]⟩ tk) hp.objs.size:=e7
  refine wpAny_bind (wpAny_letGo (wpAny_pure ⟨_,rfl,wpAny_pure (q h7 e7 ?_ ?_ ?_)⟩))
  · exact ((it4.extBut s5.extBut (Ne.symm hne)).extBut s6.extBut (Ne.symm hne)).extBut s7.extBut (Ne.symm hne)
  · exact s7.extBut _ _ (Nat.ne_of_gt el) (s6.extBut _ _ (Nat.ne_of_gt el) (s5.extBut _ _ (Nat.ne_of_gt el) t4))
  · exact fun b o hbe hbi hb=>s7.extBut b o hbe (s6.extBut b o hbe (s5.extBut b o hbe (k4 b o hbe hbi hb)))
theorem en_end {e it:Addr} {i:Nat} {x:Str} {t:Tok} {old:Value} {Q:Option Value→Shared→Prop} (hh:A.handled=none) (he:IsEnum s.heap e it i old) (hit:s.heap.IsStrIter it "str_ascii_iterator" x t i) (hx:x.cps[i]?=none)
    (q:∀ h,Heap.ExtBut it s.heap h→Q none { s with heap:=h }):wpAny (model P w) A (pyNext (.ref e)) Q E s:=by
  have hT:s.TypeIs (.ref e) "enumerate":=⟨_,he,rfl⟩
  unfold pyNext
  refine wpAny_bind (wpAny_attempt (wpAny_callSpecial?_slot (name:=Str.ofString "__next__") hT F.slot_enumerate_next (wpAny_call_entry F.slot_enumerate_next hT F.entry_enumerate_next ?_ (F.args_enumerate_next_1 _))))
  show wpAny _ _ (field (.ref e) 2 >>= _) _ _ _;refine wpAny_bind (wpAny_field he rfl (x:=.ref it) rfl ?_)
  refine wpAny_bind (nxa_end hh hit hx fun h x k hx=>?_)
  obtain ⟨o,ho,hc⟩:=hx
  refine wpAny_bind (wpAny_isInstance (T:="StopIteration") (b:=true) ⟨o,ho,hc⟩ isSubtype_stop ?_);exact wpAny_pure (q _ k)
end
def ES (e it:Addr) (z:Str) (t:Tok) (k:Nat) (h:Heap):Prop:=k≤z.cps.size∧(∃ old,IsEnum h e it (k:Int) old)∧h.IsStrIter it "str_ascii_iterator" z t k
def Ienz (z:Str):It:=⟨fun i _=>i < z.cps.size,fun i H x H'=>∃ T c,x=.ref T∧H T=none∧H'=upd H T (.tup [.int i,.str ⟨#[c]⟩])∧z.cps[i]?=some c,fun i _=>z.cps.size≤i⟩
theorem turn_enumS {P:Program} {w:World} {K:PySem.W.Frag} {elts:List Expr} {x1} {pos:Pos} {e it:Addr} {z:Str} {t:Tok} (hei:e≠it) :
    Turn P w K (.Tuple elts x1 pos) (Ienz z) [e,it] e (ES e it z t) where
  mem:=by simp
  obj:=fun k h st c hc=>by
    obtain ⟨_,⟨old,he⟩,⟨oi,hi,ci,di⟩⟩:=st
    simp only [List.mem_cons,List.not_mem_nil,or_false] at hc
    rcases hc with rfl | rfl
    · exact ⟨_,he,fun v z=>by cases z⟩
    · exact ⟨_,hi,fun v z=>by rw [di] at z;cases z⟩
  keep:=fun k h h' st kk=>by
    obtain ⟨l,⟨old,he⟩,⟨oi,hi,ci⟩⟩:=st
    exact ⟨l,⟨old,kk e (by simp) _ he⟩,⟨oi,kk it (by simp) _ hi,ci⟩⟩
  item:=by
    intro X hP hw hK hc k pins s σ H E I hf st hg
    subst hP hw hK
    have hlt:k < z.cps.size:=hg
    have hk:=Array.getElem?_eq_getElem hlt
    have old:∀ c∈[e,it],c≠s.heap.objs.size:=fun c hc=>by
      obtain ⟨_,⟨old,he⟩,⟨oi,hi,ci⟩⟩:=st
      simp only [List.mem_cons,List.not_mem_nil,or_false] at hc
      rcases hc with rfl | rfl
      · exact Nat.ne_of_lt (Heap.lt_size he)
      · exact Nat.ne_of_lt (Heap.lt_size hi)
    obtain ⟨_,⟨o0,he⟩,hi⟩:=st
    refine en_item he hi hk hei fun h e8 i5 t5 k5=>?_
    generalize hcc:z.cps[k]=c at *
    have I6:Inv X pins σ (upd H s.heap.objs.size (.tup [.int k,.str ⟨#[c]⟩])) { s with heap:=s.heap.push { cls:=.type "tuple",data:=.seq #[.int k (s.toks + 1),.str ⟨#[c]⟩ s.toks] },toks:=s.toks + 1 + 1 } :=
      I.laid (a:=s.heap.objs.size) (o:=.tup [.int k,.str ⟨#[c]⟩]) (t':=s.toks + 1 + 1) (fun b u e=>Heap.get?_push_of_some _ e) (Nat.le_refl _) ⟨by show 2≤sizeLine;decide,[.int k (s.toks + 1),.str ⟨#[c]⟩ s.toks],.cons ⟨_,rfl⟩ (.cons ⟨_,rfl⟩ .nil),⟨_,Heap.get?_push_size _ rfl,rfl,_,rfl⟩⟩
    have free:∀ c'∈[e,it],upd H s.heap.objs.size (HO.tup [.int k,.str ⟨#[c]⟩]) c'=none:=fun c' hc=>by rw [upd_ne (old c' hc)];exact (hf c' hc).1
    have fz:∀ c'∈[e,it],FpOk X pins (upd H s.heap.objs.size (HO.tup [.int k,.str ⟨#[c]⟩])) c':=fun c' hc=>⟨free c' hc,(hf c' hc).2⟩
    refine ⟨.ref s.heap.objs.size,rfl,wpAny_letOwnedTupleGo_enum e8 fun h2 z9 sb2=>?_⟩
    have up:∀ c o,c≠e→h.get? c=some o→h2.get? c=some o:=fun c o hc e=>by
      rw [show h2.get? c=h.get? c from sb2.2 c hc];exact e
    have I7:Inv X pins σ (upd H s.heap.objs.size (.tup [.int k,.str ⟨#[c]⟩])) { s with heap:=h2,toks:=s.toks + 1 + 1 }:=I6.turnedL (s:={ s with heap:=s.heap.push { cls:=.type "tuple",data:=.seq #[.int k (s.toks + 1),.str ⟨#[c]⟩ s.toks] },toks:=s.toks + 1 + 1 }) (t':=s.toks + 1 + 1) (ch:=[e,it]) (fun c' o hc e=>by
      simp only [List.mem_cons,List.not_mem_nil,or_false,not_or] at hc
      refine up c' o hc.1 ?_
      rcases Heap.get?_push_cases (show (s.heap.push { cls:=.type "tuple",data:=.seq #[.int k (s.toks + 1),.str ⟨#[c]⟩ s.toks] }).get? c'=some o from e) with ⟨rfl,rfl⟩ | e
      · exact t5
      · exact k5 c' o hc.1 hc.2 e) fun c' hc=>fz c' hc
    refine ⟨.ref s.heap.objs.size,_,I7,rfl,⟨_,c,rfl,I.hok.fresh (Nat.le_refl _),rfl,hk⟩,?_,free⟩
    obtain ⟨oi,hi,ci⟩:=i5
    exact ⟨hlt,⟨_,z9⟩,⟨oi,up it _ (Ne.symm hei) hi,ci⟩⟩
  done:=by
    intro X hP hw hK hc k pins s σ H E I hf st hg
    subst hP hw hK
    obtain ⟨l,⟨o0,he⟩,hi⟩:=st
    have hk:z.cps[k]?=none:=Array.getElem?_eq_none hg
    refine en_end (I.ok.hd hc) he hi hk fun h hk=>⟨rfl,I.turnedL (t':=s.toks) (ch:=[e,it]) (fun c o hc e=>?_) fun c hc=>hf c hc⟩
    simp only [List.mem_cons,List.not_mem_nil,or_false,not_or] at hc
    exact hk c o hc.2 e
  self:=fun _ _ _ _ _ st h=>by
    obtain ⟨_,⟨o0,he⟩,hi⟩:=st
    exact wpAny_pyIter_enum he h
def iEnmS (ta:TA):TI:=fun σ H R=>ta σ H fun vs H1=>∃ z:Str,vs=[.str z]∧z.cps.all (· < 128)=true∧R (Ienz z) H1
section
variable {X:Cx}
theorem pi_enumS {elts:List Expr} {x1} {tp:Pos} {e1:Expr} {ta:TA} {p pos:Pos} (hg:Gl X "enumerate") (hm:X.mg "enumerate"=none) (ha:PA X [e1] ta) (he:starEach [e1] X.env=(false,eval e1 X.env) :: starEach [] X.env:=by rfl) (hpl:(backTo pos (starEach [] X.env)).any (·.1)=false:=by rfl) :
    PI X (.Tuple elts x1 tp) (.Call (.Name "enumerate" p) [e1] [] pos) (iEnmS ta):=by
  intro pins s σ H R I h
  refine Call_ (ld_blt I hg hm bt_enumerate (PyProof.Rows.callWith_type1 (thn (ha pos pins s σ H _ I h) fun us s1 ⟨vs,H1,I1,r1,q1⟩=>?_) he hpl))
  obtain ⟨z,e,h1,q⟩:=q1
  subst e
  obtain ⟨u1,rfl,t,rfl⟩:=vals1 r1
  refine call_enumerate_str fun h' e0 i0 _ k=>?_
  refine wpAny_pyIter_enum (s:={ s1 with heap:=h' }) e0 ?_
  have ty:strIterType z="str_ascii_iterator":=by unfold strIterType;rw [h1];rfl
  rw [ty] at i0
  generalize hn:s1.heap.objs.size=n at *
  have ne:∀ {x y:Nat},x≠y→(show Addr from x)≠(show Addr from y):=fun h=>h
  refine ⟨_,_,_,_,H1,rfl,I1.kept (t':=s1.toks) k,turn_enumS (e:=n + 1) (it:=n) (z:=z) (t:=t) (ne (by omega)),⟨Nat.zero_le _,⟨_,e0⟩,i0⟩,fun c hc=>?_,q⟩
  simp only [List.mem_cons,List.not_mem_nil,or_false] at hc
  have hc:n≤c:=by rcases hc with rfl | rfl <;> first | exact Nat.le_add_right _ _ | exact Nat.le_refl _
  exact I1.fpOk (by rw [hn];exact hc) (I1.hok.fresh (by rw [hn];exact hc))
end
end L2
namespace L2
open PySem PySem.Spec PyProof.Rows
abbrev cOrd:RC:=fun xs H Q=>∃ x,xs=[.str x]∧x.length=1∧Q (.int (x.cps.getD 0 0:Nat)) H
def zfS (a:Str) (i:Nat):Str:=if i≤a.length then a else zfilled a (i - a.length)
abbrev r_mt_zfill:RM:=fun x xs H Q=>∃ (a:Str) (i:Nat),x=.str a∧xs=[.int i]∧i≤1000∧Q (.str (zfS a i)) H
def rpL (a b:Str):List V:=match Builtin.Str.lastOccurrence a b 0 a.length with
  | some i=>[.str (Builtin.Str.strSub a 0 i),.str b,.str (Builtin.Str.strSub a (i + b.length) a.length)]
  | none=>[.str Str.empty,.str Str.empty,.str a]
abbrev r_mt_rpartition:RM:=fun x xs H Q=>∃ a b,x=.str a∧xs=[.str b]∧(b.length == 0)=false∧a.length≤100000∧∀ l,H l=none→Q (.ref l) (upd H l (.tup (rpL a b)))
abbrev r_mt_index:RM:=fun x xs H Q=>∃ (l:Addr) (ls:List Str) (y:Str),x=.ref l∧xs=[.str y]∧H l=some (.lst (ls.map V.str))∧y∈ls∧Q (.int (ls.idxOf y:Nat)) H
theorem hu8 {k:Nat} {A:Around} (r:Room k A):A.units + 8 < cLine:=by have:=hu64 r;omega
section
variable {X:Cx}
theorem mt_zfill:MtR X "str.zfill" r_mt_zfill:=by
  intro pins s σ H x xs v us Q I rx rs h
  obtain ⟨a,i,rfl,rfl,hi,q⟩:=h
  obtain ⟨t,rfl⟩:=rx
  obtain ⟨u,rfl,t',rfl⟩:=vals1 rs
  have hs:sizeLine=16777216:=sizeLine_eq
  have tl:Builtin.Str.tooLong (Int.toNat (i:Int))=false:=by
    unfold Builtin.Str.tooLong
    exact decide_eq_false (by rw [Int.toNat_natCast];omega)
  refine call_gives F.slot_str_zfill (typeIs_str s a t) F.entry_str_zfill (F.args_str_zfill_2 _ _) (gives_str_zfill a i t t' (by rw [decide_eq_false (by omega),decide_eq_false (by omega)];rfl) tl) ?_
  unfold zfS at q
  by_cases c:i≤a.length
  · rw [if_pos c] at q
    rw [if_pos (by omega)]
    exact ⟨.str a,H,I,⟨_,rfl⟩,q⟩
  · rw [if_neg c] at q
    rw [if_neg (by omega),Int.toNat_natCast]
    have fz:=fits_zfilled (x:=a) (i:=(i:Int)) tl (by omega)
    rw [Int.toNat_natCast] at fz
    exact ⟨fz,.str _,H,I.tok _,⟨_,rfl⟩,q⟩
theorem mt_rpartition:MtM X "str.rpartition" r_mt_rpartition:=by
  intro pins s σ H x xs v us Q I rx rs h
  obtain ⟨a,b,rfl,rfl,hb,ha,q⟩:=h
  obtain ⟨t,rfl⟩:=rx
  obtain ⟨u,rfl,t',rfl⟩:=vals1 rs
  have hs:sizeLine=16777216:=sizeLine_eq
  have hn:H s.heap.objs.size=none:=I.hok.fresh (Nat.le_refl _)
  have q:=q _ hn
  refine call_meets F.slot_str_rpartition (typeIs_str _ _ _) F.entry_str_rpartition (F.args_str_rpartition_2 _ _) (meets_str_rpartition a b t t' hb (by omega)) ?_
  unfold rpL at q
  revert q
  cases Builtin.Str.lastOccurrence a b 0 a.length with
  | none=>exact fun q=>⟨.ref s.heap.objs.size,_,I.laid (a:=s.heap.objs.size) (o:=.tup [.str Str.empty,.str Str.empty,.str a]) (t':=s.toks + 1) (fun b u e=>Heap.get?_push_of_some _ e) (Nat.le_refl _) ⟨by show 3≤sizeLine;omega,_,.cons ⟨_,rfl⟩ (.cons ⟨_,rfl⟩ (.cons ⟨_,rfl⟩ .nil)),⟨_,Heap.get?_push_size _ rfl,rfl,_,rfl⟩⟩,rfl,q⟩
  | some i=>exact fun q=>⟨.ref s.heap.objs.size,_,I.laid (a:=s.heap.objs.size) (o:=.tup [.str (Builtin.Str.strSub a 0 i),.str b,.str (Builtin.Str.strSub a (i + b.length) a.length)]) (t':=s.toks + 1 + 1) (fun b u e=>Heap.get?_push_of_some _ e) (Nat.le_refl _) ⟨by show 3≤sizeLine;omega,_,.cons ⟨_,rfl⟩ (.cons ⟨_,rfl⟩ (.cons ⟨_,rfl⟩ .nil)),⟨_,Heap.get?_push_size _ rfl,rfl,_,rfl⟩⟩,rfl,q⟩
theorem strs_at:∀ {ls:List Str} {its:List Value},Vals (ls.map V.str) its→∀ (m:Nat) (v:Value),its[m]?=some v→∃ y t,ls[m]?=some y∧v=.str y t
  | [],_,r,m,v,h=>by cases r;simp at h
  | y :: ls,_,.cons a r,0,v,h=>by
    obtain ⟨t,rfl⟩:=a
    simp only [List.getElem?_cons_zero,Option.some.injEq] at h
    exact ⟨y,t,rfl,h.symm⟩
  | y :: ls,_,.cons a r,m + 1,v,h=>by
    obtain ⟨z,t,e1,e2⟩:=strs_at r m v (by simpa using h)
    exact ⟨z,t,by simpa using e1,e2⟩
def isS (y:Str):Value→Bool
  | .str x _=>x == y
  | _=>false
theorem mt_index:MtM X "list.index" r_mt_index:=by
  intro pins s σ H x vs v us Q I rx rv h
  obtain ⟨l,ls,y,rfl,rfl,hH,hi,q⟩:=h
  cases rx
  obtain ⟨u,rfl,ru⟩:=rv.one
  obtain ⟨t,rfl⟩:=ru
  obtain ⟨z,its,n,r,hl,e⟩:=I.lstM hH
  have hs:sizeLine=16777216:=sizeLine_eq
  rw [List.length_map] at hl z
  have hj:ls.idxOf y < ls.length:=List.idxOf_lt_length_iff.mpr hi
  have gt:∀ m (hm:m < its.toArray.size),∃ (h2:m < ls.length) (t':Tok),its.toArray[m]=.str ls[m] t':=fun m hm=>by
    rw [List.size_toArray] at hm
    obtain ⟨y',t',h1,h2⟩:=strs_at r m its[m] (List.getElem?_eq_getElem hm)
    have h3:m < ls.length:=by omega
    rw [List.getElem?_eq_getElem h3] at h1
    refine ⟨h3,t',?_⟩
    rw [Option.some.inj h1,← h2]
    simp
  refine call_meets F.slot_list_index ⟨_,e,rfl⟩ F.entry_list_index (F.args_list_index_2 _ _) (SeqAt.list_indexAt l its.toArray n none #[] (.str y t) (isS y) (ls.idxOf y) (by rw [List.size_toArray];omega) (by omega) ?_ (fun m hm hlt=>?_)) ⟨e,fun v hv=>?_,?_⟩
  · obtain ⟨h2,t',e2⟩:=gt (ls.idxOf y) (by rw [List.size_toArray];omega)
    rw [e2]
    show (ls[ls.idxOf y] == y)=true
    simp [List.getElem_idxOf]
  · obtain ⟨h2,t',e2⟩:=gt m hm
    rw [e2]
    show (ls[m] == y)=false
    have:=List.not_of_lt_findIdx hlt
    simpa using this
  · obtain ⟨m,hm,rfl⟩:=Array.mem_iff_getElem.mp hv
    obtain ⟨h2,t',e2⟩:=gt m hm
    rw [e2]
    exact SeqAt.EqAt.str_str _ _ _ _
  · exact ⟨.int _,H,I.tok _,⟨_,rfl⟩,q⟩
end
theorem forIn_fold {α β:Type} (g:α→β→Id (ForInStep β)) (f:β→α→β) (h:∀ a b,g a b=ForInStep.yield (f b a)):∀ (l:List α) (b:β),(forIn (m:=Id) l b g)=l.foldl f b
  | [],b=>rfl
  | a :: l,b=>by
    rw [List.forIn_cons,h]
    exact forIn_fold g f h l (f b a)
theorem lo_fold (s sub:Str) (hi:Nat):Builtin.Str.lastOccurrence s sub 0 hi=(List.range (hi + 1)).foldl (fun last i=>if (decide (i + sub.length≤hi) && Builtin.Str.subAt s sub i)=true then some i else last) none:=by
  unfold Builtin.Str.lastOccurrence
  simp [List.range_eq_range',Id.run]
  refine forIn_fold _ _ (fun a b=>?_) _ _
  split <;> rfl
theorem fold_last {p:Nat→Bool}:∀ (n k:Nat) (o:Option Nat),k < n→p k=true→(∀ j,k < j→j < n→p j=false)→(List.range n).foldl (fun last i=>if p i=true then some i else last) o=some k
  | 0,k,o,h,_,_=>by omega
  | n + 1,k,o,h,hp,no=>by
    rw [List.range_succ,List.foldl_append]
    show (if p n=true then some n else _)=_
    by_cases e:k=n
    · subst e
      rw [if_pos hp]
    · rw [if_neg (by rw [no n (by omega) (by omega)];decide)]
      exact fold_last n k o (by omega) hp fun j h1 h2=>no j h1 (by omega)
theorem sub_one (s:Str) (c i:Nat):Builtin.Str.subAt s ⟨#[c]⟩ i=decide (s.cps[i]?=some c):=by
  unfold Builtin.Str.subAt
  show (s.cps.extract i (i + 1) == #[c])=_
  cases e:s.cps[i]? with
  | none =>
    have:=Array.getElem?_eq_none_iff.mp e
    rw [show s.cps.extract i (i + 1)=#[] by apply Array.ext' ;simp;omega]
    simp
  | some d =>
    obtain ⟨h1,h2⟩:=Array.getElem?_eq_some_iff.mp e
    have e2:s.cps.extract i (i + 1)=#[d]:=by
      apply Array.ext
      · simp;omega
      · intro j j1 j2
        simp at j2
        subst j2
        simp [h2]
    rw [e2]
    by_cases z:d=c
    · subst z;simp
    · simp [z]
theorem last_sign {s:Str} {c k:Nat} (h:s.cps[k]?=some c) (no:∀ j,k < j→s.cps[j]?≠some c):Builtin.Str.lastOccurrence s ⟨#[c]⟩ 0 s.length=some k:=by
  have lk:=(Array.getElem?_eq_some_iff.mp h).1
  rw [lo_fold]
  refine fold_last (p:=fun i=>decide (i + (⟨#[c]⟩:Str).length≤s.length) && Builtin.Str.subAt s ⟨#[c]⟩ i) _ k none (by show k < s.cps.size + 1;omega) ?_ fun j h1 h2=>?_
  · rw [sub_one,h]
    simp
    exact lk
  · rw [sub_one,decide_eq_false (no j h1),Bool.and_false]
theorem rp_parts {b d:Str} {c:Nat} (no:c ∉ d.cps.toList):rpL (b ++ ⟨#[c]⟩ ++ d) ⟨#[c]⟩=[.str b,.str ⟨#[c]⟩,.str d]:=by
  have e0:(b ++ ⟨#[c]⟩ ++ d).cps.toList=b.cps.toList ++ c :: d.cps.toList:=by rw [cps_app,cps_app,List.append_assoc];rfl
  have e1:(b ++ ⟨#[c]⟩ ++ d).cps[b.length]?=some c:=by
    rw [← Array.getElem?_toList,e0]
    simp [Str.length]
  have e2:=last_sign e1 fun j hj z=>by
    rw [← Array.getElem?_toList,e0,List.getElem?_append_right (by simp [Str.length] at hj ⊢;omega)] at z
    have lj:1≤j - b.cps.toList.length:=by simp [Str.length] at hj ⊢;omega
    obtain ⟨m,hm⟩:∃ m,j - b.cps.toList.length=m + 1:=⟨_,(Nat.sub_add_cancel lj).symm⟩
    rw [hm,List.getElem?_cons_succ] at z
    exact no (List.mem_of_getElem? z)
  have ln:(b ++ ⟨#[c]⟩ ++ d).length=b.length + 1 + d.length:=by rw [len_app,len_app];rfl
  unfold rpL
  rw [e2]
  have f1:Builtin.Str.strSub (b ++ ⟨#[c]⟩ ++ d) 0 b.length=b:=by
    apply str_ext
    unfold Builtin.Str.strSub
    rw [Array.toList_extract,e0,List.extract_eq_take_drop]
    simp [Str.length]
  have f2:Builtin.Str.strSub (b ++ ⟨#[c]⟩ ++ d) (b.length + (⟨#[c]⟩:Str).length) (b ++ ⟨#[c]⟩ ++ d).length=d:=by
    apply str_ext
    unfold Builtin.Str.strSub
    rw [Array.toList_extract,e0,List.extract_eq_take_drop,ln]
    have:(⟨#[c]⟩:Str).length=1:=rfl
    rw [this]
    have e3:(b.cps.toList ++ c :: d.cps.toList).drop (b.length + 1)=d.cps.toList:=by
      rw [show b.length=b.cps.toList.length by simp [Str.length],List.drop_append]
      simp
    rw [e3]
    exact List.take_of_length_le (by simp [Str.length])
  dsimp only
  rw [f1,f2]
end L2
namespace K62
open PySem L2
theorem jqa {α:Type} {a:α} {l m:List α}:a :: l ++ m=a :: (l ++ m):=rfl
theorem jqb {α:Type} (l:List α):[] ++ l=l:=rfl
theorem jqc {α:Type} (l:List α):l ++ []=l:=List.append_nil l
theorem jqd {α:Type} {a:α} {l:List α}:(a :: l)[0]?=some a:=rfl
theorem jqe {α:Type} {a:α} {l:List α} {i:Nat}:(a :: l)[i + 1]?=l[i]?:=rfl
theorem jqf {α:Type} (a b:α):(some a=some b)=(a=b):=Option.some.injEq a b
theorem jqg {α:Sort _} {p:α→Prop} {a:α}:(∃ x,a=x∧p x)↔p a:=exists_eq_left'
theorem jqh {α:Sort _} {p:α→Prop} {a:α}:(∃ x,x=a∧p x)↔p a:=exists_eq_left
theorem jqi (a b:Int):(V.int a=V.int b)=(a=b):=V.int.injEq a b
theorem jqj (a b:Addr):(V.ref a=V.ref b)=(a=b):=V.ref.injEq a b
theorem jqk (a b:Str):(V.str a=V.str b)=(a=b):=V.str.injEq a b
theorem jql (a b:Bool):(V.bl a=V.bl b)=(a=b):=V.bl.injEq a b
theorem jqm (a b:String):(V.ty a=V.ty b)=(a=b):=V.ty.injEq a b
theorem jqn {α:Type} (a:α) (l:List α) (b:α) (m:List α):(a :: l=b :: m)=(a=b∧l=m):=List.cons.injEq a l b m
theorem jqo {α:Sort _} {p:α→Prop} {b:Prop}:(∃ x,b∧p x)↔b∧(∃ x,p x):=exists_and_left
theorem jqp {α:Type} {x:α} {l:List α} {a:α}:(x :: l).set 0 a=a :: l:=rfl
theorem jqq {α:Type} {x:α} {l:List α} {i:Nat} {a:α}:(x :: l).set (i + 1) a=x :: l.set i a:=rfl
theorem jqr {p:Prop} [Decidable p]:(decide p=true)=p:=decide_eq_true_eq
theorem jqs (b:Bool):((!b)=true)=(b=false):=Bool.not_eq_true' b
theorem jqt {p:Prop} {_:Decidable p}:decide p=false↔¬p:=decide_eq_false_iff_not
theorem jqu:(false=true)=False:=Bool.false_eq_true
def top (i:Nat):Stmt:=PySem.Challenge.pw_forerun_k62_one_sign_exchanged.main.body.getD i (.Pass ⟨0,0,0,0⟩)
abbrev s__law_cell_at:Stmt:=top 42
abbrev s__law_drawn:Stmt:=top 43
abbrev s__law_worth:Stmt:=top 44
abbrev s__law_pairs:Stmt:=top 48
abbrev s__law_names:Stmt:=top 46
abbrev s__law_rank:Stmt:=top 45
abbrev s__law_body:Stmt:=top 49
abbrev s_is_name:Stmt:=top 25
abbrev s_shelf_in:Stmt:=top 34
abbrev s_is_worth:Stmt:=top 15
abbrev s_is_figures:Stmt:=top 17
abbrev s_numeral:Stmt:=top 16
abbrev s_is_numeral:Stmt:=top 18
abbrev s_worth_in:Stmt:=top 19
abbrev s_number_in:Stmt:=top 32
abbrev s_rows_in:Stmt:=top 36
abbrev s_outcome_in:Stmt:=top 35
abbrev s_rank_in:Stmt:=top 33
abbrev s_deal_in:Stmt:=top 37
abbrev s_mark_in:Stmt:=top 38
abbrev s_check_of:Stmt:=top 31
abbrev s_body_in:Stmt:=top 39
abbrev s_line_read:Stmt:=top 40
abbrev s__law_check:Stmt:=top 47
abbrev s__law_refused:Stmt:=top 51
abbrev s__law_other:Stmt:=top 50
abbrev s_law:Stmt:=top 52
theorem sc__law_cell_at:FnScope ["script","k"] ["script","k"] (defScope s__law_cell_at):=⟨rfl,rfl,rfl,by decide +kernel,rfl,by decide +kernel,by decide +kernel⟩
theorem sc__law_drawn:FnScope ["cell","many","low","high","found","k"] ["cell","many"] (defScope s__law_drawn):=⟨rfl,rfl,rfl,by decide +kernel,rfl,by decide +kernel,by decide +kernel⟩
theorem sc__law_worth:FnScope ["cell","rest"] ["cell"] (defScope s__law_worth):=⟨rfl,rfl,rfl,by decide +kernel,rfl,by decide +kernel,by decide +kernel⟩
theorem sc__law_pairs:FnScope ["cell","names","many","worths","k","xs","number","worth"] ["cell","names","many"] (defScope s__law_pairs):=⟨rfl,rfl,rfl,by decide +kernel,rfl,by decide +kernel,by decide +kernel⟩
theorem sc__law_names:FnScope ["cell","letters","words","size","at","xs","names","k","name","j","step"] ["cell"] (defScope s__law_names):=⟨rfl,rfl,rfl,by decide +kernel,rfl,by decide +kernel,by decide +kernel⟩
theorem sc__law_rank:FnScope ["cell","rest"] ["cell"] (defScope s__law_rank):=⟨rfl,rfl,rfl,by decide +kernel,rfl,by decide +kernel,by decide +kernel⟩
theorem sc__law_body:FnScope ["script","kind","cell","words","k","many","place","worth"] ["script"] (defScope s__law_body):=⟨rfl,rfl,rfl,by decide +kernel,rfl,by decide +kernel,by decide +kernel⟩
theorem sc_is_name:FnScope ["text"] ["text"] (defScope s_is_name):=⟨rfl,rfl,rfl,by decide +kernel,rfl,by decide +kernel,by decide +kernel⟩
theorem sc_shelf_in:FnScope ["word"] ["word"] (defScope s_shelf_in):=⟨rfl,rfl,rfl,by decide +kernel,rfl,by decide +kernel,by decide +kernel⟩
theorem sc_is_worth:FnScope ["thing"] ["thing"] (defScope s_is_worth):=⟨rfl,rfl,rfl,by decide +kernel,rfl,by decide +kernel,by decide +kernel⟩
theorem sc_is_figures:FnScope ["text"] ["text"] (defScope s_is_figures):=⟨rfl,rfl,rfl,by decide +kernel,rfl,by decide +kernel,by decide +kernel⟩
theorem sc_numeral:FnScope ["worth"] ["worth"] (defScope s_numeral):=⟨rfl,rfl,rfl,by decide +kernel,rfl,by decide +kernel,by decide +kernel⟩
theorem sc_is_numeral:FnScope ["text","figures","worth"] ["text"] (defScope s_is_numeral):=⟨rfl,rfl,rfl,by decide +kernel,rfl,by decide +kernel,by decide +kernel⟩
theorem sc_worth_in:FnScope ["text"] ["text"] (defScope s_worth_in):=⟨rfl,rfl,rfl,by decide +kernel,rfl,by decide +kernel,by decide +kernel⟩
theorem sc_number_in:FnScope ["word","refusal"] ["word"] (defScope s_number_in):=⟨rfl,rfl,rfl,by decide +kernel,rfl,by decide +kernel,by decide +kernel⟩
theorem sc_rows_in:FnScope ["words","rows","at","place","places"] ["words"] (defScope s_rows_in):=⟨rfl,rfl,rfl,by decide +kernel,rfl,by decide +kernel,by decide +kernel⟩
theorem sc_outcome_in:FnScope ["words"] ["words"] (defScope s_outcome_in):=⟨rfl,rfl,rfl,by decide +kernel,rfl,by decide +kernel,by decide +kernel⟩
theorem sc_rank_in:FnScope ["word","rank"] ["word"] (defScope s_rank_in):=⟨rfl,rfl,rfl,by decide +kernel,rfl,by decide +kernel,by decide +kernel⟩
theorem sc_deal_in:FnScope ["words","rows","outcome"] ["words","rows"] (defScope s_deal_in):=⟨rfl,rfl,rfl,by decide +kernel,rfl,by decide +kernel,by decide +kernel⟩
theorem sc_mark_in:FnScope ["words","rows"] ["words","rows"] (defScope s_mark_in):=⟨rfl,rfl,rfl,by decide +kernel,rfl,by decide +kernel,by decide +kernel⟩
theorem sc_check_of:FnScope ["body","total"] ["body"] (defScope s_check_of):=⟨rfl,rfl,rfl,by decide +kernel,rfl,by decide +kernel,by decide +kernel⟩
theorem sc_body_in:FnScope ["text","parts"] ["text"] (defScope s_body_in):=⟨rfl,rfl,rfl,by decide +kernel,rfl,by decide +kernel,by decide +kernel⟩
theorem sc_line_read:FnScope ["text","words","at","rows"] ["text"] (defScope s_line_read):=⟨rfl,rfl,rfl,by decide +kernel,rfl,by decide +kernel,by decide +kernel⟩
theorem sc__law_check:FnScope ["body","total","weight","sign","figures"] ["body"] (defScope s__law_check):=⟨rfl,rfl,rfl,by decide +kernel,rfl,by decide +kernel,by decide +kernel⟩
theorem sc__law_refused:FnScope ["text","right","other","another","e"] ["text"] (defScope s__law_refused):=⟨rfl,rfl,rfl,by decide +kernel,rfl,by decide +kernel,by decide +kernel⟩
theorem sc__law_other:FnScope ["line","cell","signs","at","which"] ["line","cell"] (defScope s__law_other):=⟨rfl,rfl,rfl,by decide +kernel,rfl,by decide +kernel,by decide +kernel⟩
theorem sc_law:FnScope ["script","body","line","cell","found"] ["script"] (defScope s_law):=⟨rfl,rfl,rfl,by decide +kernel,rfl,by decide +kernel,by decide +kernel⟩
set_option genSizeOf false in
set_option genInjectivity false in
structure Adr where
  a__law_cell_at:Addr
  d__law_cell_at:FuncData
  a__law_drawn:Addr
  d__law_drawn:FuncData
  a__law_worth:Addr
  d__law_worth:FuncData
  a__law_pairs:Addr
  d__law_pairs:FuncData
  a__law_names:Addr
  d__law_names:FuncData
  a__law_rank:Addr
  d__law_rank:FuncData
  a__law_body:Addr
  d__law_body:FuncData
  a_is_name:Addr
  d_is_name:FuncData
  a_shelf_in:Addr
  d_shelf_in:FuncData
  a_is_worth:Addr
  d_is_worth:FuncData
  a_is_figures:Addr
  d_is_figures:FuncData
  a_numeral:Addr
  d_numeral:FuncData
  a_is_numeral:Addr
  d_is_numeral:FuncData
  a_worth_in:Addr
  d_worth_in:FuncData
  a_number_in:Addr
  d_number_in:FuncData
  a_rows_in:Addr
  d_rows_in:FuncData
  a_outcome_in:Addr
  d_outcome_in:FuncData
  a_rank_in:Addr
  d_rank_in:FuncData
  a_deal_in:Addr
  d_deal_in:FuncData
  a_mark_in:Addr
  d_mark_in:FuncData
  a_check_of:Addr
  d_check_of:FuncData
  a_body_in:Addr
  d_body_in:FuncData
  a_line_read:Addr
  d_line_read:FuncData
  a__law_check:Addr
  d__law_check:FuncData
  a__law_refused:Addr
  d__law_refused:FuncData
  a__law_other:Addr
  d__law_other:FuncData
  a_law:Addr
  d_law:FuncData
  k_CHECK_BY:Tok
  k_CHECK_FIGURES:Tok
  k_FIGURES:Tok
  c_JOINING:Addr
  k_LETTERS:Tok
  k_MOST_FACTOR:Tok
  k_MOST_FIGURES:Tok
  k_MOST_LETTERS:Tok
  c_ROW_WORDS:Addr
  c_WHYS:Addr
  c_Folded:Addr
  c_ForerunError:Addr
  c_Great:Addr
  c_NoDealing:Addr
  c_NoHand:Addr
  c_NoLine:Addr
  c_NoLog:Addr
  c_NoNumber:Addr
  c_NoOrder:Addr
  c_NoTerm:Addr
  c_Nought:Addr
structure Txt (K:PySem.W.Frag) (mg:Str→Option Value) (t:Adr):Prop where
  f__law_cell_at:Fun K "_law_cell_at" "_law_cell_at" s__law_cell_at t.a__law_cell_at t.d__law_cell_at
  b__law_cell_at:Binds K t.d__law_cell_at ["script","k"] []
  m__law_cell_at:mg "_law_cell_at"=some (.ref t.a__law_cell_at)
  f__law_drawn:Fun K "_law_drawn" "_law_drawn" s__law_drawn t.a__law_drawn t.d__law_drawn
  b__law_drawn:Binds K t.d__law_drawn ["cell","many"] []
  m__law_drawn:mg "_law_drawn"=some (.ref t.a__law_drawn)
  f__law_worth:Fun K "_law_worth" "_law_worth" s__law_worth t.a__law_worth t.d__law_worth
  b__law_worth:Binds K t.d__law_worth ["cell"] []
  m__law_worth:mg "_law_worth"=some (.ref t.a__law_worth)
  f__law_pairs:Fun K "_law_pairs" "_law_pairs" s__law_pairs t.a__law_pairs t.d__law_pairs
  b__law_pairs:Binds K t.d__law_pairs ["cell","names","many"] []
  m__law_pairs:mg "_law_pairs"=some (.ref t.a__law_pairs)
  f__law_names:Fun K "_law_names" "_law_names" s__law_names t.a__law_names t.d__law_names
  b__law_names:Binds K t.d__law_names ["cell"] []
  m__law_names:mg "_law_names"=some (.ref t.a__law_names)
  f__law_rank:Fun K "_law_rank" "_law_rank" s__law_rank t.a__law_rank t.d__law_rank
  b__law_rank:Binds K t.d__law_rank ["cell"] []
  m__law_rank:mg "_law_rank"=some (.ref t.a__law_rank)
  f__law_body:Fun K "_law_body" "_law_body" s__law_body t.a__law_body t.d__law_body
  b__law_body:Binds K t.d__law_body ["script"] []
  m__law_body:mg "_law_body"=some (.ref t.a__law_body)
  f_is_name:Fun K "is_name" "is_name" s_is_name t.a_is_name t.d_is_name
  b_is_name:Binds K t.d_is_name ["text"] []
  m_is_name:mg "is_name"=some (.ref t.a_is_name)
  f_shelf_in:Fun K "shelf_in" "shelf_in" s_shelf_in t.a_shelf_in t.d_shelf_in
  b_shelf_in:Binds K t.d_shelf_in ["word"] []
  m_shelf_in:mg "shelf_in"=some (.ref t.a_shelf_in)
  f_is_worth:Fun K "is_worth" "is_worth" s_is_worth t.a_is_worth t.d_is_worth
  b_is_worth:Binds K t.d_is_worth ["thing"] []
  m_is_worth:mg "is_worth"=some (.ref t.a_is_worth)
  f_is_figures:Fun K "is_figures" "is_figures" s_is_figures t.a_is_figures t.d_is_figures
  b_is_figures:Binds K t.d_is_figures ["text"] []
  m_is_figures:mg "is_figures"=some (.ref t.a_is_figures)
  f_numeral:Fun K "numeral" "numeral" s_numeral t.a_numeral t.d_numeral
  b_numeral:Binds K t.d_numeral ["worth"] []
  m_numeral:mg "numeral"=some (.ref t.a_numeral)
  f_is_numeral:Fun K "is_numeral" "is_numeral" s_is_numeral t.a_is_numeral t.d_is_numeral
  b_is_numeral:Binds K t.d_is_numeral ["text"] []
  m_is_numeral:mg "is_numeral"=some (.ref t.a_is_numeral)
  f_worth_in:Fun K "worth_in" "worth_in" s_worth_in t.a_worth_in t.d_worth_in
  b_worth_in:Binds K t.d_worth_in ["text"] []
  m_worth_in:mg "worth_in"=some (.ref t.a_worth_in)
  f_number_in:Fun K "number_in" "number_in" s_number_in t.a_number_in t.d_number_in
  b_number_in:Binds K t.d_number_in ["word"] []
  m_number_in:mg "number_in"=some (.ref t.a_number_in)
  f_rows_in:Fun K "rows_in" "rows_in" s_rows_in t.a_rows_in t.d_rows_in
  b_rows_in:Binds K t.d_rows_in ["words"] []
  m_rows_in:mg "rows_in"=some (.ref t.a_rows_in)
  f_outcome_in:Fun K "outcome_in" "outcome_in" s_outcome_in t.a_outcome_in t.d_outcome_in
  b_outcome_in:Binds K t.d_outcome_in ["words"] []
  m_outcome_in:mg "outcome_in"=some (.ref t.a_outcome_in)
  f_rank_in:Fun K "rank_in" "rank_in" s_rank_in t.a_rank_in t.d_rank_in
  b_rank_in:Binds K t.d_rank_in ["word"] []
  m_rank_in:mg "rank_in"=some (.ref t.a_rank_in)
  f_deal_in:Fun K "deal_in" "deal_in" s_deal_in t.a_deal_in t.d_deal_in
  b_deal_in:Binds K t.d_deal_in ["words","rows"] []
  m_deal_in:mg "deal_in"=some (.ref t.a_deal_in)
  f_mark_in:Fun K "mark_in" "mark_in" s_mark_in t.a_mark_in t.d_mark_in
  b_mark_in:Binds K t.d_mark_in ["words","rows"] []
  m_mark_in:mg "mark_in"=some (.ref t.a_mark_in)
  f_check_of:Fun K "check_of" "check_of" s_check_of t.a_check_of t.d_check_of
  b_check_of:Binds K t.d_check_of ["body"] []
  m_check_of:mg "check_of"=some (.ref t.a_check_of)
  f_body_in:Fun K "body_in" "body_in" s_body_in t.a_body_in t.d_body_in
  b_body_in:Binds K t.d_body_in ["text"] []
  m_body_in:mg "body_in"=some (.ref t.a_body_in)
  f_line_read:Fun K "line_read" "line_read" s_line_read t.a_line_read t.d_line_read
  b_line_read:Binds K t.d_line_read ["text"] []
  m_line_read:mg "line_read"=some (.ref t.a_line_read)
  f__law_check:Fun K "_law_check" "_law_check" s__law_check t.a__law_check t.d__law_check
  b__law_check:Binds K t.d__law_check ["body"] []
  m__law_check:mg "_law_check"=some (.ref t.a__law_check)
  f__law_refused:Fun K "_law_refused" "_law_refused" s__law_refused t.a__law_refused t.d__law_refused
  b__law_refused:Binds K t.d__law_refused ["text"] []
  m__law_refused:mg "_law_refused"=some (.ref t.a__law_refused)
  f__law_other:Fun K "_law_other" "_law_other" s__law_other t.a__law_other t.d__law_other
  b__law_other:Binds K t.d__law_other ["line","cell"] []
  m__law_other:mg "_law_other"=some (.ref t.a__law_other)
  f_law:Fun K "law" "law" s_law t.a_law t.d_law
  b_law:Binds K t.d_law ["script"] []
  m_law:mg "law"=some (.ref t.a_law)
  w_law:∀ (s:Shared) (v:Value),BindsTo s t.d_law ⟨[v],[]⟩ [("script",v)]
  b_ValueError:mg "ValueError"=none
  b_all:mg "all"=none
  b_any:mg "any"=none
  b_bool:mg "bool"=none
  b_enumerate:mg "enumerate"=none
  b_int:mg "int"=none
  b_isinstance:mg "isinstance"=none
  b_len:mg "len"=none
  b_max:mg "max"=none
  b_ord:mg "ord"=none
  b_range:mg "range"=none
  b_set:mg "set"=none
  b_sorted:mg "sorted"=none
  b_str:mg "str"=none
  b_sum:mg "sum"=none
  b_tuple:mg "tuple"=none
  g_CHECK_BY:mg "CHECK_BY"=some (.int 1009 t.k_CHECK_BY)
  g_CHECK_FIGURES:mg "CHECK_FIGURES"=some (.int 4 t.k_CHECK_FIGURES)
  g_FIGURES:mg "FIGURES"=some (.str "0123456789" t.k_FIGURES)
  g_JOINING:mg "JOINING"=some (.ref t.c_JOINING)
  v_JOINING:∀ H:Hp,SqT K H t.c_JOINING [.str "plus",.str "minus",.str "times",.str "over",.str "rest",.str "under",.str "same"]
  g_LETTERS:mg "LETTERS"=some (.str "abcdefghijklmnopqrstuvwxyz" t.k_LETTERS)
  g_MOST_FACTOR:mg "MOST_FACTOR"=some (.int 1008 t.k_MOST_FACTOR)
  g_MOST_FIGURES:mg "MOST_FIGURES"=some (.int 31 t.k_MOST_FIGURES)
  g_MOST_LETTERS:mg "MOST_LETTERS"=some (.int 6 t.k_MOST_LETTERS)
  g_ROW_WORDS:mg "ROW_WORDS"=some (.ref t.c_ROW_WORDS)
  v_ROW_WORDS:∀ H:Hp,SqT K H t.c_ROW_WORDS [.str "take",.str "give",.str "let",.str "say",.str "off",.str "if",.str "else",.str "end",.str "as"]
  g_WHYS:mg "WHYS"=some (.ref t.c_WHYS)
  v_WHYS:∀ H:Hp,SqT K H t.c_WHYS [.str "told",.str "great",.str "nought"]
  g_Folded:mg "Folded"=some (.ref t.c_Folded)
  g_ForerunError:mg "ForerunError"=some (.ref t.c_ForerunError)
  g_Great:mg "Great"=some (.ref t.c_Great)
  g_NoDealing:mg "NoDealing"=some (.ref t.c_NoDealing)
  g_NoHand:mg "NoHand"=some (.ref t.c_NoHand)
  g_NoLine:mg "NoLine"=some (.ref t.c_NoLine)
  g_NoLog:mg "NoLog"=some (.ref t.c_NoLog)
  g_NoNumber:mg "NoNumber"=some (.ref t.c_NoNumber)
  g_NoOrder:mg "NoOrder"=some (.ref t.c_NoOrder)
  g_NoTerm:mg "NoTerm"=some (.ref t.c_NoTerm)
  g_Nought:mg "Nought"=some (.ref t.c_Nought)
  x_NoNumber:PySem.W.excIn K t.c_NoNumber bmVal newVal=true
  y_NoNumber:ExK K t.c_NoNumber
  e_NoNumber_NoNumber:PySem.W.exmOne K (.ref t.c_NoNumber) (.ref t.c_NoNumber)=some true
  e_NoNumber_ForerunError:PySem.W.exmOne K (.ref t.c_NoNumber) (.ref t.c_ForerunError)=some true
  i_NoNumber_ValueError:PySem.W.kitOne K (.ref t.c_NoNumber) (.type "ValueError")=some true
  i_NoNumber_NoLine:PySem.W.kitOne K (.ref t.c_NoNumber) (.ref t.c_NoLine)=some false
  j_NoNumber_0:PySem.W.kitAny K (.ref t.c_NoNumber) [.ref t.c_NoNumber,.ref t.c_NoTerm,.ref t.c_NoDealing,.ref t.c_Nought,.ref t.c_Great]=some true
  j_NoNumber_1:PySem.W.kitAny K (.ref t.c_NoNumber) [.ref t.c_Folded,.ref t.c_NoHand,.ref t.c_NoOrder,.ref t.c_NoLog]=some false
  x_NoLine:PySem.W.excIn K t.c_NoLine bmVal newVal=true
  y_NoLine:ExK K t.c_NoLine
  e_NoLine_NoNumber:PySem.W.exmOne K (.ref t.c_NoLine) (.ref t.c_NoNumber)=some false
  e_NoLine_ForerunError:PySem.W.exmOne K (.ref t.c_NoLine) (.ref t.c_ForerunError)=some true
  i_NoLine_ValueError:PySem.W.kitOne K (.ref t.c_NoLine) (.type "ValueError")=some true
  i_NoLine_NoLine:PySem.W.kitOne K (.ref t.c_NoLine) (.ref t.c_NoLine)=some true
  j_NoLine_0:PySem.W.kitAny K (.ref t.c_NoLine) [.ref t.c_NoNumber,.ref t.c_NoTerm,.ref t.c_NoDealing,.ref t.c_Nought,.ref t.c_Great]=some false
  j_NoLine_1:PySem.W.kitAny K (.ref t.c_NoLine) [.ref t.c_Folded,.ref t.c_NoHand,.ref t.c_NoOrder,.ref t.c_NoLog]=some false
theorem txt_mk {K:PySem.W.Frag} {h:Heap} {mg:Str→Option Value} (X:K.In h) (G:h.Ns mainGlobals mg)
    {f0:Addr} {od0 an0:Option Addr} {sl0:Array (Option Value)} {oc0 kV0 dc0 pm0 cd0 ct0:Value}
    {f1:Addr} {od1 an1:Option Addr} {sl1:Array (Option Value)} {oc1 kV1 dc1 pm1 cd1 ct1:Value}
    {f2:Addr} {od2 an2:Option Addr} {sl2:Array (Option Value)} {oc2 kV2 dc2 pm2 cd2 ct2:Value}
    {f3:Addr} {od3 an3:Option Addr} {sl3:Array (Option Value)} {oc3 kV3 dc3 pm3 cd3 ct3:Value}
    {f4:Addr} {od4 an4:Option Addr} {sl4:Array (Option Value)} {oc4 kV4 dc4 pm4 cd4 ct4:Value}
    {f5:Addr} {od5 an5:Option Addr} {sl5:Array (Option Value)} {oc5 kV5 dc5 pm5 cd5 ct5:Value}
    {f6:Addr} {od6 an6:Option Addr} {sl6:Array (Option Value)} {oc6 kV6 dc6 pm6 cd6 ct6:Value}
    {f7:Addr} {od7 an7:Option Addr} {sl7:Array (Option Value)} {oc7 kV7 dc7 pm7 cd7 ct7:Value}
    {f8:Addr} {od8 an8:Option Addr} {sl8:Array (Option Value)} {oc8 kV8 dc8 pm8 cd8 ct8:Value}
    {f9:Addr} {od9 an9:Option Addr} {sl9:Array (Option Value)} {oc9 kV9 dc9 pm9 cd9 ct9:Value}
    {f10:Addr} {od10 an10:Option Addr} {sl10:Array (Option Value)} {oc10 kV10 dc10 pm10 cd10 ct10:Value}
    {f11:Addr} {od11 an11:Option Addr} {sl11:Array (Option Value)} {oc11 kV11 dc11 pm11 cd11 ct11:Value}
    {f12:Addr} {od12 an12:Option Addr} {sl12:Array (Option Value)} {oc12 kV12 dc12 pm12 cd12 ct12:Value}
    {f13:Addr} {od13 an13:Option Addr} {sl13:Array (Option Value)} {oc13 kV13 dc13 pm13 cd13 ct13:Value}
    {f14:Addr} {od14 an14:Option Addr} {sl14:Array (Option Value)} {oc14 kV14 dc14 pm14 cd14 ct14:Value}
    {f15:Addr} {od15 an15:Option Addr} {sl15:Array (Option Value)} {oc15 kV15 dc15 pm15 cd15 ct15:Value}
    {f16:Addr} {od16 an16:Option Addr} {sl16:Array (Option Value)} {oc16 kV16 dc16 pm16 cd16 ct16:Value}
    {f17:Addr} {od17 an17:Option Addr} {sl17:Array (Option Value)} {oc17 kV17 dc17 pm17 cd17 ct17:Value}
    {f18:Addr} {od18 an18:Option Addr} {sl18:Array (Option Value)} {oc18 kV18 dc18 pm18 cd18 ct18:Value}
    {f19:Addr} {od19 an19:Option Addr} {sl19:Array (Option Value)} {oc19 kV19 dc19 pm19 cd19 ct19:Value}
    {f20:Addr} {od20 an20:Option Addr} {sl20:Array (Option Value)} {oc20 kV20 dc20 pm20 cd20 ct20:Value}
    {f21:Addr} {od21 an21:Option Addr} {sl21:Array (Option Value)} {oc21 kV21 dc21 pm21 cd21 ct21:Value}
    {f22:Addr} {od22 an22:Option Addr} {sl22:Array (Option Value)} {oc22 kV22 dc22 pm22 cd22 ct22:Value}
    {f23:Addr} {od23 an23:Option Addr} {sl23:Array (Option Value)} {oc23 kV23 dc23 pm23 cd23 ct23:Value}
    {f24:Addr} {od24 an24:Option Addr} {sl24:Array (Option Value)} {oc24 kV24 dc24 pm24 cd24 ct24:Value}
    {f25:Addr} {od25 an25:Option Addr} {sl25:Array (Option Value)} {oc25 kV25 dc25 pm25 cd25 ct25:Value}
    {f26:Addr} {od26 an26:Option Addr} {sl26:Array (Option Value)} {oc26 kV26 dc26 pm26 cd26 ct26:Value}
    {gt0:Tok}
    {gt1:Tok}
    {gt2:Tok}
    {ga3:Addr} {gn3:Nat} {gt3_0:Tok} {gt3_1:Tok} {gt3_2:Tok} {gt3_3:Tok} {gt3_4:Tok} {gt3_5:Tok} {gt3_6:Tok}
    {gt4:Tok}
    {gt5:Tok}
    {gt6:Tok}
    {gt7:Tok}
    {ga8:Addr} {gn8:Nat} {gt8_0:Tok} {gt8_1:Tok} {gt8_2:Tok} {gt8_3:Tok} {gt8_4:Tok} {gt8_5:Tok} {gt8_6:Tok} {gt8_7:Tok} {gt8_8:Tok}
    {ga9:Addr} {gn9:Nat} {gt9_0:Tok} {gt9_1:Tok} {gt9_2:Tok}
    {ca0:Addr}
    {ca1:Addr}
    {ca2:Addr}
    {ca3:Addr}
    {ca4:Addr}
    {ca5:Addr}
    {ca6:Addr}
    {ca7:Addr}
    {ca8:Addr}
    {ca9:Addr}
    {ca10:Addr}
    {cl0:ClassData}
    {cl1:ClassData}
    (qa0:PySem.W.nsIn K mainGlobals "_law_cell_at"=some (some (.ref f0))) (ql0:K.lookup f0=some ⟨oc0,od0,.func (PySem.W.fnOf "_law_cell_at" "_law_cell_at" (defArgs s__law_cell_at) (defBody s__law_cell_at) (defScope s__law_cell_at) .none kV0 dc0 pm0 an0 cd0 ct0),sl0⟩) (qc0:PySem.W.codeIn K cd0 "_law_cell_at"=true) (qk0:PySem.W.keepIn K (.ref f0)=true)
    (qa1:PySem.W.nsIn K mainGlobals "_law_drawn"=some (some (.ref f1))) (ql1:K.lookup f1=some ⟨oc1,od1,.func (PySem.W.fnOf "_law_drawn" "_law_drawn" (defArgs s__law_drawn) (defBody s__law_drawn) (defScope s__law_drawn) .none kV1 dc1 pm1 an1 cd1 ct1),sl1⟩) (qc1:PySem.W.codeIn K cd1 "_law_drawn"=true) (qk1:PySem.W.keepIn K (.ref f1)=true)
    (qa2:PySem.W.nsIn K mainGlobals "_law_worth"=some (some (.ref f2))) (ql2:K.lookup f2=some ⟨oc2,od2,.func (PySem.W.fnOf "_law_worth" "_law_worth" (defArgs s__law_worth) (defBody s__law_worth) (defScope s__law_worth) .none kV2 dc2 pm2 an2 cd2 ct2),sl2⟩) (qc2:PySem.W.codeIn K cd2 "_law_worth"=true) (qk2:PySem.W.keepIn K (.ref f2)=true)
    (qa3:PySem.W.nsIn K mainGlobals "_law_pairs"=some (some (.ref f3))) (ql3:K.lookup f3=some ⟨oc3,od3,.func (PySem.W.fnOf "_law_pairs" "_law_pairs" (defArgs s__law_pairs) (defBody s__law_pairs) (defScope s__law_pairs) .none kV3 dc3 pm3 an3 cd3 ct3),sl3⟩) (qc3:PySem.W.codeIn K cd3 "_law_pairs"=true) (qk3:PySem.W.keepIn K (.ref f3)=true)
    (qa4:PySem.W.nsIn K mainGlobals "_law_names"=some (some (.ref f4))) (ql4:K.lookup f4=some ⟨oc4,od4,.func (PySem.W.fnOf "_law_names" "_law_names" (defArgs s__law_names) (defBody s__law_names) (defScope s__law_names) .none kV4 dc4 pm4 an4 cd4 ct4),sl4⟩) (qc4:PySem.W.codeIn K cd4 "_law_names"=true) (qk4:PySem.W.keepIn K (.ref f4)=true)
    (qa5:PySem.W.nsIn K mainGlobals "_law_rank"=some (some (.ref f5))) (ql5:K.lookup f5=some ⟨oc5,od5,.func (PySem.W.fnOf "_law_rank" "_law_rank" (defArgs s__law_rank) (defBody s__law_rank) (defScope s__law_rank) .none kV5 dc5 pm5 an5 cd5 ct5),sl5⟩) (qc5:PySem.W.codeIn K cd5 "_law_rank"=true) (qk5:PySem.W.keepIn K (.ref f5)=true)
    (qa6:PySem.W.nsIn K mainGlobals "_law_body"=some (some (.ref f6))) (ql6:K.lookup f6=some ⟨oc6,od6,.func (PySem.W.fnOf "_law_body" "_law_body" (defArgs s__law_body) (defBody s__law_body) (defScope s__law_body) .none kV6 dc6 pm6 an6 cd6 ct6),sl6⟩) (qc6:PySem.W.codeIn K cd6 "_law_body"=true) (qk6:PySem.W.keepIn K (.ref f6)=true)
    (qa7:PySem.W.nsIn K mainGlobals "is_name"=some (some (.ref f7))) (ql7:K.lookup f7=some ⟨oc7,od7,.func (PySem.W.fnOf "is_name" "is_name" (defArgs s_is_name) (defBody s_is_name) (defScope s_is_name) .none kV7 dc7 pm7 an7 cd7 ct7),sl7⟩) (qc7:PySem.W.codeIn K cd7 "is_name"=true) (qk7:PySem.W.keepIn K (.ref f7)=true)
    (qa8:PySem.W.nsIn K mainGlobals "shelf_in"=some (some (.ref f8))) (ql8:K.lookup f8=some ⟨oc8,od8,.func (PySem.W.fnOf "shelf_in" "shelf_in" (defArgs s_shelf_in) (defBody s_shelf_in) (defScope s_shelf_in) .none kV8 dc8 pm8 an8 cd8 ct8),sl8⟩) (qc8:PySem.W.codeIn K cd8 "shelf_in"=true) (qk8:PySem.W.keepIn K (.ref f8)=true)
    (qa9:PySem.W.nsIn K mainGlobals "is_worth"=some (some (.ref f9))) (ql9:K.lookup f9=some ⟨oc9,od9,.func (PySem.W.fnOf "is_worth" "is_worth" (defArgs s_is_worth) (defBody s_is_worth) (defScope s_is_worth) .none kV9 dc9 pm9 an9 cd9 ct9),sl9⟩) (qc9:PySem.W.codeIn K cd9 "is_worth"=true) (qk9:PySem.W.keepIn K (.ref f9)=true)
    (qa10:PySem.W.nsIn K mainGlobals "is_figures"=some (some (.ref f10))) (ql10:K.lookup f10=some ⟨oc10,od10,.func (PySem.W.fnOf "is_figures" "is_figures" (defArgs s_is_figures) (defBody s_is_figures) (defScope s_is_figures) .none kV10 dc10 pm10 an10 cd10 ct10),sl10⟩) (qc10:PySem.W.codeIn K cd10 "is_figures"=true) (qk10:PySem.W.keepIn K (.ref f10)=true)
    (qa11:PySem.W.nsIn K mainGlobals "numeral"=some (some (.ref f11))) (ql11:K.lookup f11=some ⟨oc11,od11,.func (PySem.W.fnOf "numeral" "numeral" (defArgs s_numeral) (defBody s_numeral) (defScope s_numeral) .none kV11 dc11 pm11 an11 cd11 ct11),sl11⟩) (qc11:PySem.W.codeIn K cd11 "numeral"=true) (qk11:PySem.W.keepIn K (.ref f11)=true)
    (qa12:PySem.W.nsIn K mainGlobals "is_numeral"=some (some (.ref f12))) (ql12:K.lookup f12=some ⟨oc12,od12,.func (PySem.W.fnOf "is_numeral" "is_numeral" (defArgs s_is_numeral) (defBody s_is_numeral) (defScope s_is_numeral) .none kV12 dc12 pm12 an12 cd12 ct12),sl12⟩) (qc12:PySem.W.codeIn K cd12 "is_numeral"=true) (qk12:PySem.W.keepIn K (.ref f12)=true)
    (qa13:PySem.W.nsIn K mainGlobals "worth_in"=some (some (.ref f13))) (ql13:K.lookup f13=some ⟨oc13,od13,.func (PySem.W.fnOf "worth_in" "worth_in" (defArgs s_worth_in) (defBody s_worth_in) (defScope s_worth_in) .none kV13 dc13 pm13 an13 cd13 ct13),sl13⟩) (qc13:PySem.W.codeIn K cd13 "worth_in"=true) (qk13:PySem.W.keepIn K (.ref f13)=true)
    (qa14:PySem.W.nsIn K mainGlobals "number_in"=some (some (.ref f14))) (ql14:K.lookup f14=some ⟨oc14,od14,.func (PySem.W.fnOf "number_in" "number_in" (defArgs s_number_in) (defBody s_number_in) (defScope s_number_in) .none kV14 dc14 pm14 an14 cd14 ct14),sl14⟩) (qc14:PySem.W.codeIn K cd14 "number_in"=true) (qk14:PySem.W.keepIn K (.ref f14)=true)
    (qa15:PySem.W.nsIn K mainGlobals "rows_in"=some (some (.ref f15))) (ql15:K.lookup f15=some ⟨oc15,od15,.func (PySem.W.fnOf "rows_in" "rows_in" (defArgs s_rows_in) (defBody s_rows_in) (defScope s_rows_in) .none kV15 dc15 pm15 an15 cd15 ct15),sl15⟩) (qc15:PySem.W.codeIn K cd15 "rows_in"=true) (qk15:PySem.W.keepIn K (.ref f15)=true)
    (qa16:PySem.W.nsIn K mainGlobals "outcome_in"=some (some (.ref f16))) (ql16:K.lookup f16=some ⟨oc16,od16,.func (PySem.W.fnOf "outcome_in" "outcome_in" (defArgs s_outcome_in) (defBody s_outcome_in) (defScope s_outcome_in) .none kV16 dc16 pm16 an16 cd16 ct16),sl16⟩) (qc16:PySem.W.codeIn K cd16 "outcome_in"=true) (qk16:PySem.W.keepIn K (.ref f16)=true)
    (qa17:PySem.W.nsIn K mainGlobals "rank_in"=some (some (.ref f17))) (ql17:K.lookup f17=some ⟨oc17,od17,.func (PySem.W.fnOf "rank_in" "rank_in" (defArgs s_rank_in) (defBody s_rank_in) (defScope s_rank_in) .none kV17 dc17 pm17 an17 cd17 ct17),sl17⟩) (qc17:PySem.W.codeIn K cd17 "rank_in"=true) (qk17:PySem.W.keepIn K (.ref f17)=true)
    (qa18:PySem.W.nsIn K mainGlobals "deal_in"=some (some (.ref f18))) (ql18:K.lookup f18=some ⟨oc18,od18,.func (PySem.W.fnOf "deal_in" "deal_in" (defArgs s_deal_in) (defBody s_deal_in) (defScope s_deal_in) .none kV18 dc18 pm18 an18 cd18 ct18),sl18⟩) (qc18:PySem.W.codeIn K cd18 "deal_in"=true) (qk18:PySem.W.keepIn K (.ref f18)=true)
    (qa19:PySem.W.nsIn K mainGlobals "mark_in"=some (some (.ref f19))) (ql19:K.lookup f19=some ⟨oc19,od19,.func (PySem.W.fnOf "mark_in" "mark_in" (defArgs s_mark_in) (defBody s_mark_in) (defScope s_mark_in) .none kV19 dc19 pm19 an19 cd19 ct19),sl19⟩) (qc19:PySem.W.codeIn K cd19 "mark_in"=true) (qk19:PySem.W.keepIn K (.ref f19)=true)
    (qa20:PySem.W.nsIn K mainGlobals "check_of"=some (some (.ref f20))) (ql20:K.lookup f20=some ⟨oc20,od20,.func (PySem.W.fnOf "check_of" "check_of" (defArgs s_check_of) (defBody s_check_of) (defScope s_check_of) .none kV20 dc20 pm20 an20 cd20 ct20),sl20⟩) (qc20:PySem.W.codeIn K cd20 "check_of"=true) (qk20:PySem.W.keepIn K (.ref f20)=true)
    (qa21:PySem.W.nsIn K mainGlobals "body_in"=some (some (.ref f21))) (ql21:K.lookup f21=some ⟨oc21,od21,.func (PySem.W.fnOf "body_in" "body_in" (defArgs s_body_in) (defBody s_body_in) (defScope s_body_in) .none kV21 dc21 pm21 an21 cd21 ct21),sl21⟩) (qc21:PySem.W.codeIn K cd21 "body_in"=true) (qk21:PySem.W.keepIn K (.ref f21)=true)
    (qa22:PySem.W.nsIn K mainGlobals "line_read"=some (some (.ref f22))) (ql22:K.lookup f22=some ⟨oc22,od22,.func (PySem.W.fnOf "line_read" "line_read" (defArgs s_line_read) (defBody s_line_read) (defScope s_line_read) .none kV22 dc22 pm22 an22 cd22 ct22),sl22⟩) (qc22:PySem.W.codeIn K cd22 "line_read"=true) (qk22:PySem.W.keepIn K (.ref f22)=true)
    (qa23:PySem.W.nsIn K mainGlobals "_law_check"=some (some (.ref f23))) (ql23:K.lookup f23=some ⟨oc23,od23,.func (PySem.W.fnOf "_law_check" "_law_check" (defArgs s__law_check) (defBody s__law_check) (defScope s__law_check) .none kV23 dc23 pm23 an23 cd23 ct23),sl23⟩) (qc23:PySem.W.codeIn K cd23 "_law_check"=true) (qk23:PySem.W.keepIn K (.ref f23)=true)
    (qa24:PySem.W.nsIn K mainGlobals "_law_refused"=some (some (.ref f24))) (ql24:K.lookup f24=some ⟨oc24,od24,.func (PySem.W.fnOf "_law_refused" "_law_refused" (defArgs s__law_refused) (defBody s__law_refused) (defScope s__law_refused) .none kV24 dc24 pm24 an24 cd24 ct24),sl24⟩) (qc24:PySem.W.codeIn K cd24 "_law_refused"=true) (qk24:PySem.W.keepIn K (.ref f24)=true)
    (qa25:PySem.W.nsIn K mainGlobals "_law_other"=some (some (.ref f25))) (ql25:K.lookup f25=some ⟨oc25,od25,.func (PySem.W.fnOf "_law_other" "_law_other" (defArgs s__law_other) (defBody s__law_other) (defScope s__law_other) .none kV25 dc25 pm25 an25 cd25 ct25),sl25⟩) (qc25:PySem.W.codeIn K cd25 "_law_other"=true) (qk25:PySem.W.keepIn K (.ref f25)=true)
    (qa26:PySem.W.nsIn K mainGlobals "law"=some (some (.ref f26))) (ql26:K.lookup f26=some ⟨oc26,od26,.func (PySem.W.fnOf "law" "law" (defArgs s_law) (defBody s_law) (defScope s_law) .none kV26 dc26 pm26 an26 cd26 ct26),sl26⟩) (qc26:PySem.W.codeIn K cd26 "law"=true) (qk26:PySem.W.keepIn K (.ref f26)=true)
    (qz0:PySem.W.nsIn K mainGlobals "ValueError"=some none)
    (qz1:PySem.W.nsIn K mainGlobals "all"=some none)
    (qz2:PySem.W.nsIn K mainGlobals "any"=some none)
    (qz3:PySem.W.nsIn K mainGlobals "bool"=some none)
    (qz4:PySem.W.nsIn K mainGlobals "enumerate"=some none)
    (qz5:PySem.W.nsIn K mainGlobals "int"=some none)
    (qz6:PySem.W.nsIn K mainGlobals "isinstance"=some none)
    (qz7:PySem.W.nsIn K mainGlobals "len"=some none)
    (qz8:PySem.W.nsIn K mainGlobals "max"=some none)
    (qz9:PySem.W.nsIn K mainGlobals "ord"=some none)
    (qz10:PySem.W.nsIn K mainGlobals "range"=some none)
    (qz11:PySem.W.nsIn K mainGlobals "set"=some none)
    (qz12:PySem.W.nsIn K mainGlobals "sorted"=some none)
    (qz13:PySem.W.nsIn K mainGlobals "str"=some none)
    (qz14:PySem.W.nsIn K mainGlobals "sum"=some none)
    (qz15:PySem.W.nsIn K mainGlobals "tuple"=some none)
    (qg0:PySem.W.nsIn K mainGlobals "CHECK_BY"=some (some (.int 1009 gt0)))
    (qg1:PySem.W.nsIn K mainGlobals "CHECK_FIGURES"=some (some (.int 4 gt1)))
    (qg2:PySem.W.nsIn K mainGlobals "FIGURES"=some (some (.str "0123456789" gt2)))
    (qg3:PySem.W.nsIn K mainGlobals "JOINING"=some (some (.ref ga3))) (qh3:K.lookup ga3=some ⟨.type "tuple",none,.seq #[.str "plus" gt3_0,.str "minus" gt3_1,.str "times" gt3_2,.str "over" gt3_3,.str "rest" gt3_4,.str "under" gt3_5,.str "same" gt3_6] gn3,#[]⟩)
    (qg4:PySem.W.nsIn K mainGlobals "LETTERS"=some (some (.str "abcdefghijklmnopqrstuvwxyz" gt4)))
    (qg5:PySem.W.nsIn K mainGlobals "MOST_FACTOR"=some (some (.int 1008 gt5)))
    (qg6:PySem.W.nsIn K mainGlobals "MOST_FIGURES"=some (some (.int 31 gt6)))
    (qg7:PySem.W.nsIn K mainGlobals "MOST_LETTERS"=some (some (.int 6 gt7)))
    (qg8:PySem.W.nsIn K mainGlobals "ROW_WORDS"=some (some (.ref ga8))) (qh8:K.lookup ga8=some ⟨.type "tuple",none,.seq #[.str "take" gt8_0,.str "give" gt8_1,.str "let" gt8_2,.str "say" gt8_3,.str "off" gt8_4,.str "if" gt8_5,.str "else" gt8_6,.str "end" gt8_7,.str "as" gt8_8] gn8,#[]⟩)
    (qg9:PySem.W.nsIn K mainGlobals "WHYS"=some (some (.ref ga9))) (qh9:K.lookup ga9=some ⟨.type "tuple",none,.seq #[.str "told" gt9_0,.str "great" gt9_1,.str "nought" gt9_2] gn9,#[]⟩)
    (qv0:PySem.W.nsIn K mainGlobals "Folded"=some (some (.ref ca0)))
    (qv1:PySem.W.nsIn K mainGlobals "ForerunError"=some (some (.ref ca1)))
    (qv2:PySem.W.nsIn K mainGlobals "Great"=some (some (.ref ca2)))
    (qv3:PySem.W.nsIn K mainGlobals "NoDealing"=some (some (.ref ca3)))
    (qv4:PySem.W.nsIn K mainGlobals "NoHand"=some (some (.ref ca4)))
    (qv5:PySem.W.nsIn K mainGlobals "NoLine"=some (some (.ref ca5)))
    (qv6:PySem.W.nsIn K mainGlobals "NoLog"=some (some (.ref ca6)))
    (qv7:PySem.W.nsIn K mainGlobals "NoNumber"=some (some (.ref ca7)))
    (qv8:PySem.W.nsIn K mainGlobals "NoOrder"=some (some (.ref ca8)))
    (qv9:PySem.W.nsIn K mainGlobals "NoTerm"=some (some (.ref ca9)))
    (qv10:PySem.W.nsIn K mainGlobals "Nought"=some (some (.ref ca10)))
    (rx0:PySem.W.excIn K ca7 bmVal newVal=true)
    (ry0_0:PySem.W.findIn K (.ref ca7) "__getattribute__"=some (some (.builtin "BaseException.__getattribute__")))
    (ry0_1:PySem.W.findIn K (.ref ca7) "__getattr__"=some none)
    (ry0_2:PySem.W.findIn K (.ref ca7) "__class__"=some (some (.builtin "object.__class__")))
    (ry0_3:PySem.W.mroIn K ca7 (.type "object")=some true)
    (ry0_4:PySem.W.mroIn K ca7 (.type "BaseException")=some true)
    (ry0_5:PySem.W.specialIn K (.builtin "object.__class__") "__get__"=some (some (.builtin "getset_descriptor.__get__")))
    (ry0_6:PySem.W.takesIn K (.builtin "object.__class__")=some true)
    (ry0_7:PySem.W.clsIn K ca7=some cl0)
    (re0_0:PySem.W.exmOne K (.ref ca7) (.ref ca7)=some true)
    (re0_1:PySem.W.exmOne K (.ref ca7) (.ref ca1)=some true)
    (ri0_0:PySem.W.kitOne K (.ref ca7) (.type "ValueError")=some true)
    (ri0_1:PySem.W.kitOne K (.ref ca7) (.ref ca5)=some false)
    (rj0_0:PySem.W.kitAny K (.ref ca7) [(.ref ca7),(.ref ca9),(.ref ca3),(.ref ca10),(.ref ca2)]=some true)
    (rj0_1:PySem.W.kitAny K (.ref ca7) [(.ref ca0),(.ref ca4),(.ref ca8),(.ref ca6)]=some false)
    (rx1:PySem.W.excIn K ca5 bmVal newVal=true)
    (ry1_0:PySem.W.findIn K (.ref ca5) "__getattribute__"=some (some (.builtin "BaseException.__getattribute__")))
    (ry1_1:PySem.W.findIn K (.ref ca5) "__getattr__"=some none)
    (ry1_2:PySem.W.findIn K (.ref ca5) "__class__"=some (some (.builtin "object.__class__")))
    (ry1_3:PySem.W.mroIn K ca5 (.type "object")=some true)
    (ry1_4:PySem.W.mroIn K ca5 (.type "BaseException")=some true)
    (ry1_5:PySem.W.specialIn K (.builtin "object.__class__") "__get__"=some (some (.builtin "getset_descriptor.__get__")))
    (ry1_6:PySem.W.takesIn K (.builtin "object.__class__")=some true)
    (ry1_7:PySem.W.clsIn K ca5=some cl1)
    (re1_0:PySem.W.exmOne K (.ref ca5) (.ref ca7)=some false)
    (re1_1:PySem.W.exmOne K (.ref ca5) (.ref ca1)=some true)
    (ri1_0:PySem.W.kitOne K (.ref ca5) (.type "ValueError")=some true)
    (ri1_1:PySem.W.kitOne K (.ref ca5) (.ref ca5)=some true)
    (rj1_0:PySem.W.kitAny K (.ref ca5) [(.ref ca7),(.ref ca9),(.ref ca3),(.ref ca10),(.ref ca2)]=some false)
    (rj1_1:PySem.W.kitAny K (.ref ca5) [(.ref ca0),(.ref ca4),(.ref ca8),(.ref ca6)]=some false):∃ t,Txt K mg t:=by
  have F0:=fun_mk (st:=s__law_cell_at) ql0 qc0 qk0
  have F1:=fun_mk (st:=s__law_drawn) ql1 qc1 qk1
  have F2:=fun_mk (st:=s__law_worth) ql2 qc2 qk2
  have F3:=fun_mk (st:=s__law_pairs) ql3 qc3 qk3
  have F4:=fun_mk (st:=s__law_names) ql4 qc4 qk4
  have F5:=fun_mk (st:=s__law_rank) ql5 qc5 qk5
  have F6:=fun_mk (st:=s__law_body) ql6 qc6 qk6
  have F7:=fun_mk (st:=s_is_name) ql7 qc7 qk7
  have F8:=fun_mk (st:=s_shelf_in) ql8 qc8 qk8
  have F9:=fun_mk (st:=s_is_worth) ql9 qc9 qk9
  have F10:=fun_mk (st:=s_is_figures) ql10 qc10 qk10
  have F11:=fun_mk (st:=s_numeral) ql11 qc11 qk11
  have F12:=fun_mk (st:=s_is_numeral) ql12 qc12 qk12
  have F13:=fun_mk (st:=s_worth_in) ql13 qc13 qk13
  have F14:=fun_mk (st:=s_number_in) ql14 qc14 qk14
  have F15:=fun_mk (st:=s_rows_in) ql15 qc15 qk15
  have F16:=fun_mk (st:=s_outcome_in) ql16 qc16 qk16
  have F17:=fun_mk (st:=s_rank_in) ql17 qc17 qk17
  have F18:=fun_mk (st:=s_deal_in) ql18 qc18 qk18
  have F19:=fun_mk (st:=s_mark_in) ql19 qc19 qk19
  have F20:=fun_mk (st:=s_check_of) ql20 qc20 qk20
  have F21:=fun_mk (st:=s_body_in) ql21 qc21 qk21
  have F22:=fun_mk (st:=s_line_read) ql22 qc22 qk22
  have F23:=fun_mk (st:=s__law_check) ql23 qc23 qk23
  have F24:=fun_mk (st:=s__law_refused) ql24 qc24 qk24
  have F25:=fun_mk (st:=s__law_other) ql25 qc25 qk25
  have F26:=fun_mk (st:=s_law) ql26 qc26 qk26
  exact ⟨⟨f0,_,f1,_,f2,_,f3,_,f4,_,f5,_,f6,_,f7,_,f8,_,f9,_,f10,_,f11,_,f12,_,f13,_,f14,_,f15,_,f16,_,f17,_,f18,_,f19,_,f20,_,f21,_,f22,_,f23,_,f24,_,f25,_,f26,_,gt0,gt1,gt2,ga3,gt4,gt5,gt6,gt7,ga8,ga9,ca0,ca1,ca2,ca3,ca4,ca5,ca6,ca7,ca8,ca9,ca10⟩,⟨F0,F0.binds (ps:=["script","k"]) (fun _ _ _ _ _ _ us hl=>match us,hl with | [_,_],_=>rfl),PySem.W.mg_of X G qa0,
    F1,F1.binds (ps:=["cell","many"]) (fun _ _ _ _ _ _ us hl=>match us,hl with | [_,_],_=>rfl),PySem.W.mg_of X G qa1,
    F2,F2.binds (ps:=["cell"]) (fun _ _ _ _ _ _ us hl=>match us,hl with | [_],_=>rfl),PySem.W.mg_of X G qa2,
    F3,F3.binds (ps:=["cell","names","many"]) (fun _ _ _ _ _ _ us hl=>match us,hl with | [_,_,_],_=>rfl),PySem.W.mg_of X G qa3,
    F4,F4.binds (ps:=["cell"]) (fun _ _ _ _ _ _ us hl=>match us,hl with | [_],_=>rfl),PySem.W.mg_of X G qa4,
    F5,F5.binds (ps:=["cell"]) (fun _ _ _ _ _ _ us hl=>match us,hl with | [_],_=>rfl),PySem.W.mg_of X G qa5,
    F6,F6.binds (ps:=["script"]) (fun _ _ _ _ _ _ us hl=>match us,hl with | [_],_=>rfl),PySem.W.mg_of X G qa6,
    F7,F7.binds (ps:=["text"]) (fun _ _ _ _ _ _ us hl=>match us,hl with | [_],_=>rfl),PySem.W.mg_of X G qa7,
    F8,F8.binds (ps:=["word"]) (fun _ _ _ _ _ _ us hl=>match us,hl with | [_],_=>rfl),PySem.W.mg_of X G qa8,
    F9,F9.binds (ps:=["thing"]) (fun _ _ _ _ _ _ us hl=>match us,hl with | [_],_=>rfl),PySem.W.mg_of X G qa9,
    F10,F10.binds (ps:=["text"]) (fun _ _ _ _ _ _ us hl=>match us,hl with | [_],_=>rfl),PySem.W.mg_of X G qa10,
    F11,F11.binds (ps:=["worth"]) (fun _ _ _ _ _ _ us hl=>match us,hl with | [_],_=>rfl),PySem.W.mg_of X G qa11,
    F12,F12.binds (ps:=["text"]) (fun _ _ _ _ _ _ us hl=>match us,hl with | [_],_=>rfl),PySem.W.mg_of X G qa12,
    F13,F13.binds (ps:=["text"]) (fun _ _ _ _ _ _ us hl=>match us,hl with | [_],_=>rfl),PySem.W.mg_of X G qa13,
    F14,F14.binds (ps:=["word"]) (fun _ _ _ _ _ _ us hl=>match us,hl with | [_],_=>rfl),PySem.W.mg_of X G qa14,
    F15,F15.binds (ps:=["words"]) (fun _ _ _ _ _ _ us hl=>match us,hl with | [_],_=>rfl),PySem.W.mg_of X G qa15,
    F16,F16.binds (ps:=["words"]) (fun _ _ _ _ _ _ us hl=>match us,hl with | [_],_=>rfl),PySem.W.mg_of X G qa16,
    F17,F17.binds (ps:=["word"]) (fun _ _ _ _ _ _ us hl=>match us,hl with | [_],_=>rfl),PySem.W.mg_of X G qa17,
    F18,F18.binds (ps:=["words","rows"]) (fun _ _ _ _ _ _ us hl=>match us,hl with | [_,_],_=>rfl),PySem.W.mg_of X G qa18,
    F19,F19.binds (ps:=["words","rows"]) (fun _ _ _ _ _ _ us hl=>match us,hl with | [_,_],_=>rfl),PySem.W.mg_of X G qa19,
    F20,F20.binds (ps:=["body"]) (fun _ _ _ _ _ _ us hl=>match us,hl with | [_],_=>rfl),PySem.W.mg_of X G qa20,
    F21,F21.binds (ps:=["text"]) (fun _ _ _ _ _ _ us hl=>match us,hl with | [_],_=>rfl),PySem.W.mg_of X G qa21,
    F22,F22.binds (ps:=["text"]) (fun _ _ _ _ _ _ us hl=>match us,hl with | [_],_=>rfl),PySem.W.mg_of X G qa22,
    F23,F23.binds (ps:=["body"]) (fun _ _ _ _ _ _ us hl=>match us,hl with | [_],_=>rfl),PySem.W.mg_of X G qa23,
    F24,F24.binds (ps:=["text"]) (fun _ _ _ _ _ _ us hl=>match us,hl with | [_],_=>rfl),PySem.W.mg_of X G qa24,
    F25,F25.binds (ps:=["line","cell"]) (fun _ _ _ _ _ _ us hl=>match us,hl with | [_,_],_=>rfl),PySem.W.mg_of X G qa25,
    F26,F26.binds (ps:=["script"]) (fun _ _ _ _ _ _ us hl=>match us,hl with | [_],_=>rfl),PySem.W.mg_of X G qa26,
    fun s v=>.of_eq rfl,
    PySem.W.mg_none_of X G qz0,
    PySem.W.mg_none_of X G qz1,
    PySem.W.mg_none_of X G qz2,
    PySem.W.mg_none_of X G qz3,
    PySem.W.mg_none_of X G qz4,
    PySem.W.mg_none_of X G qz5,
    PySem.W.mg_none_of X G qz6,
    PySem.W.mg_none_of X G qz7,
    PySem.W.mg_none_of X G qz8,
    PySem.W.mg_none_of X G qz9,
    PySem.W.mg_none_of X G qz10,
    PySem.W.mg_none_of X G qz11,
    PySem.W.mg_none_of X G qz12,
    PySem.W.mg_none_of X G qz13,
    PySem.W.mg_none_of X G qz14,
    PySem.W.mg_none_of X G qz15,
    PySem.W.mg_of X G qg0,
    PySem.W.mg_of X G qg1,
    PySem.W.mg_of X G qg2,
    PySem.W.mg_of X G qg3,fun _=>.inr ⟨_,_,_,qh3,rfl,rfl,(by show 7≤sizeLine;decide),(.cons ⟨_,rfl⟩ (.cons ⟨_,rfl⟩ (.cons ⟨_,rfl⟩ (.cons ⟨_,rfl⟩ (.cons ⟨_,rfl⟩ (.cons ⟨_,rfl⟩ (.cons ⟨_,rfl⟩ .nil)))))))⟩,
    PySem.W.mg_of X G qg4,
    PySem.W.mg_of X G qg5,
    PySem.W.mg_of X G qg6,
    PySem.W.mg_of X G qg7,
    PySem.W.mg_of X G qg8,fun _=>.inr ⟨_,_,_,qh8,rfl,rfl,(by show 9≤sizeLine;decide),(.cons ⟨_,rfl⟩ (.cons ⟨_,rfl⟩ (.cons ⟨_,rfl⟩ (.cons ⟨_,rfl⟩ (.cons ⟨_,rfl⟩ (.cons ⟨_,rfl⟩ (.cons ⟨_,rfl⟩ (.cons ⟨_,rfl⟩ (.cons ⟨_,rfl⟩ .nil)))))))))⟩,
    PySem.W.mg_of X G qg9,fun _=>.inr ⟨_,_,_,qh9,rfl,rfl,(by show 3≤sizeLine;decide),(.cons ⟨_,rfl⟩ (.cons ⟨_,rfl⟩ (.cons ⟨_,rfl⟩ .nil)))⟩,
    PySem.W.mg_of X G qv0,
    PySem.W.mg_of X G qv1,
    PySem.W.mg_of X G qv2,
    PySem.W.mg_of X G qv3,
    PySem.W.mg_of X G qv4,
    PySem.W.mg_of X G qv5,
    PySem.W.mg_of X G qv6,
    PySem.W.mg_of X G qv7,
    PySem.W.mg_of X G qv8,
    PySem.W.mg_of X G qv9,
    PySem.W.mg_of X G qv10,
    rx0,
    ⟨⟨ry0_0,ry0_1,ry0_2,ry0_3,ry0_4,ry0_5,ry0_6⟩,by rw [ry0_7];rfl⟩,
    re0_0,
    re0_1,
    ri0_0,
    ri0_1,
    rj0_0,
    rj0_1,
    rx1,
    ⟨⟨ry1_0,ry1_1,ry1_2,ry1_3,ry1_4,ry1_5,ry1_6⟩,by rw [ry1_7];rfl⟩,
    re1_0,
    re1_1,
    ri1_0,
    ri1_1,
    rj1_0,
    rj1_1⟩⟩
def IntFact (K:PySem.W.Frag):Prop:=PySem.W.kitOne K (.type "int") (.type "bool")=some false
def NoInt (K:PySem.W.Frag) (H:Hp) (x:V):Prop:=∃ T b,TyOf K H x (.type T)∧PySem.W.kitOne K (.type T) (.type "int")=some b∧(b=true→PySem.W.kitOne K (.type T) (.type "bool")=some true)
structure KF (K:PySem.W.Frag):Prop where
  i_b:PySem.W.kitOne K (.type "int") (.type "bool")=some false
def NamesAt (H:Hp) (nm:Addr):Prop:=∃ ws:List Str,H nm=some (.lst (ws.map V.str))∧ws.length=3∧∀ w∈ws,isName w=true
theorem NamesAt.same {H H':Hp} {nm:Addr} (h:NamesAt H nm) (s:Same H H'):NamesAt H' nm:=by
  obtain ⟨ws,h1,h2⟩:=h
  exact ⟨ws,s _ _ h1,h2⟩
def wB (i:Int):Prop:=-1000000000000000000000000000000≤i∧i≤1000000000000000000000000000000
def rB (i:Int):Prop:=0≤i∧i≤100000000000000000000000000000
def drI (x:Int):Prop:=0≤x∧x < 3000000000
def okPl (q:Pl):Prop:=isName q.1=true∧wB q.2
def PlV (H:Hp) (v:V) (q:Pl):Prop:=∃ p,v=.ref p∧H p=some (.tup [.str q.1,.int q.2])
def RwsAt (H:Hp) (a:Addr) (rows:List Row):Prop:=∃ xs,H a=some (.lst xs)∧Paired (PrAt H) xs rows
open Classical in
noncomputable def Hid (F:Addr→Prop) (H:Hp):Hp:=fun b=>if F b then none else H b
def OcAt (H:Hp) (v:V):Oc→Prop
  | .done sa=>∃ o y,v=.ref o∧H o=some (.tup [.str "done",.ref y])∧H y=some (.tup (sa.map V.int))
  | .off w=>∃ o,v=.ref o∧H o=some (.tup [.str "off",.str w])
def whyL:List Str:=["told","great","nought"]
def ocOk:Oc→Prop
  | .done sa=>sa.length≤20∧∀ i∈sa,wB i
  | .off w=>w∈whyL
structure rsOk (rows:List Row):Prop where
  up:Rising rows
  le:rows.length≤60
  nm:∀ r∈rows,okPl r.1∧wB r.2
def Wd (w:Str):Prop:=w.length≤40∧Asc w∧32 ∉ w.cps.toList
def rwW (r:Row):List Str:=[r.1.1,numS r.1.2,numS r.2]
def wsR (rows:List Row):List Str:=rows.flatMap rwW
def ocW:Oc→List Str
  | .done sa=>"done" :: sa.map numS
  | .off w=>["off",w]
def ckL:Nat→List Nat→List Int
  | _,[]=>[]
  | i,c :: cs=>(c:Int) * (1 + (i:Int) % 1008) :: ckL (i + 1) cs
def chkI (z:Str):Int:=(ckL 0 z.cps.toList).sum % 1009
def chkS (z:Str):Str:=zfS (numS (chkI z)) 4
def lineS (ws:List Str):Str:=joinS " " ws ++ " " ++ chkS (joinS " " ws)
def dealW (r:Int) (oc:Oc) (gs:List Row):List Str:=("deal":Str) :: numS r :: (ocW oc ++ (";":Str) :: wsR gs)
def markW (r:Int) (tb:List Row):List Str:=("mark":Str) :: numS r :: (";":Str) :: wsR tb
def sp_is_worth (K:PySem.W.Frag):Sp:=fun vs H Q _=>∃ x,vs=[x]∧((∃ i,x=.int i∧∀ H',Same H H'→Q (.bl (inW i)) H')∨(NoInt K H x∧∀ H',Same H H'→Q (.bl false) H'))
def sp_numeral:Sp:=fun vs H Q _=>∃ w,vs=[.int w]∧inW w=true∧∀ H',Same H H'→Q (.str (numS w)) H'
def sp_is_figures:Sp:=fun vs H Q _=>∃ x:Str,vs=[.str x]∧x.length≤1000∧∀ H',Same H H'→Q (.bl (isFig x)) H'
def sp_is_numeral:Sp:=fun vs H Q _=>∃ x:Str,vs=[.str x]∧x.length≤1000∧∀ H',Same H H'→Q (.bl (isNum x)) H'
def sp_worth_in (t:Adr):Sp:=fun vs H Q E=>∃ x:Str,vs=[.str x]∧x.length≤1000∧Asc x∧∀ H',Same H H'→if isNum x=true then Q (.int (valOf x)) H' else E (.ref t.c_NoNumber) none H'
def sp_is_name:Sp:=fun vs H Q _=>∃ x:Str,vs=[.str x]∧x.length≤1000∧∀ H',Same H H'→Q (.bl (isName x)) H'
def sp_check_of:Sp:=fun vs H Q _=>∃ z:Str,vs=[.str z]∧Asc z∧z.length≤20000∧∀ H',Same H H'→Q (.str (chkS z)) H'
def sp_number_in:Sp:=fun vs H Q _=>∃ w:Int,vs=[.str (numS w)]∧inW w=true∧∀ H',Same H H'→Q (.int w) H'
def sp_rank_in:Sp:=fun vs H Q _=>∃ w:Int,vs=[.str (numS w)]∧rB w∧∀ H',Same H H'→Q (.int w) H'
def sp_shelf_in:Sp:=fun vs H Q _=>∃ w:Str,vs=[.str w]∧isName w=true∧∀ H',Same H H'→Q (.str w) H'
def sp_outcome_in:Sp:=fun vs H Q _=>∃ (a:Addr) (oc:Oc),vs=[.ref a]∧H a=some (.lst ((ocW oc).map V.str))∧ocOk oc∧∀ v H',Same H H'→OcAt H' v oc→Q v H'
def sp_rows_in:Sp:=fun vs H Q _=>∃ (a:Addr) (rows:List Row),vs=[.ref a]∧H a=some (.lst ((wsR rows).map V.str))∧rsOk rows∧∀ l H',Same H H'→H l=none→RwsAt H' l rows→Q (.ref l) H'
def sp_deal_in:Sp:=fun vs H Q _=>∃ (a g:Addr) (r:Int) (oc:Oc) (gs:List Row),vs=[.ref a,.ref g]∧H a=some (.lst ((("deal":Str) :: numS r :: ocW oc).map V.str))∧rB r∧ocOk oc∧RwsAt H g gs∧(∀ w,oc=.off w→gs=[])∧∀ p v H',Same H H'→OcAt H' v oc→H' p=some (.tup [.str "deal",.int r,v,.ref g])→Q (.ref p) H'
def sp_mark_in:Sp:=fun vs H Q _=>∃ (a g:Addr) (r:Int) (gs:List Row),vs=[.ref a,.ref g]∧H a=some (.lst ([("mark":Str),numS r].map V.str))∧rB r∧RwsAt H g gs∧gs.length≤60∧(∀ x∈gs,x.2≠0)∧∀ p H',Same H H'→H' p=some (.tup [.str "mark",.int r,.ref g])→Q (.ref p) H'
def badS (x:Str):Prop:=∃ p s d:Str,rpL x " "=[.str p,.str s,.str d]∧d≠chkS p∧Asc p∧p.length≤20000
def sp_body_in (t:Adr):Sp:=fun vs H Q E=>∃ x:Str,vs=[.str x]∧Asc x∧x.length≤20000∧((∃ b:Str,x=b ++ " " ++ chkS b∧Asc b∧b.length≤20000∧∀ H',Same H H'→Q (.str b) H')∨(badS x∧∀ H',Same H H'→E (.ref t.c_NoLine) none H'))
def sp_line_read (t:Adr):Sp:=fun vs H Q E=>∃ x,vs=[x]∧(
  (∃ (r:Int) (oc:Oc) (gs:List Row),x=.str (lineS (dealW r oc gs))∧rB r∧ocOk oc∧rsOk gs∧(∀ w,oc=.off w→gs=[])∧∀ p v g H',Same H H'→OcAt H' v oc→H g=none→RwsAt H' g gs→H' p=some (.tup [.str "deal",.int r,v,.ref g])→Q (.ref p) H') ∨
  (∃ (r:Int) (tb:List Row),x=.str (lineS (markW r tb))∧rB r∧rsOk tb∧(∀ x∈tb,x.2≠0)∧∀ p g H',Same H H'→H g=none→RwsAt H' g tb→H' p=some (.tup [.str "mark",.int r,.ref g])→Q (.ref p) H') ∨
  (∃ z:Str,x=.str z∧Asc z∧z.length≤20000∧badS z∧∀ H',Same H H'→E (.ref t.c_NoLine) none H'))
def LnW (ws:List Str):Prop:=(∃ (r:Int) (oc:Oc) (gs:List Row),ws=dealW r oc gs∧rB r∧ocOk oc∧rsOk gs∧∀ w,oc=.off w→gs=[])∨(∃ (r:Int) (tb:List Row),ws=markW r tb∧rB r∧rsOk tb∧∀ x∈tb,x.2≠0)
def sp__law_cell_at (K:PySem.W.Frag):Sp:=fun vs H Q _=>∃ (a:Addr) (ns:List Int) (k:Nat),vs=[.ref a,.int k]∧SqL K H a (ns.map V.int)∧ns.length≤63∧(∀ i∈ns,Cb i)∧∀ c H',Same H H'→Cb c→Q (.int c) H'
def sp__law_drawn:Sp:=fun vs H Q _=>∃ c m,vs=[.int c,.int m]∧0≤m∧m≤64∧∀ l xs H',Same H H'→H l=none→H' l=some (.lst (List.map V.int xs))→(xs.length:Int)=m→(∀ x∈xs,drI x)→Q (.ref l) H'
def w8:List V:=[V.int 1000000000000000000000000000000,V.int (-1000000000000000000000000000000),V.int (1000000000000000000000000000000 - 1),V.int 0,V.int 64,V.int (-64),V.int 1,V.int (-1)]
def wOf (c:Int):Int:=if c % 4=0 then c / 4 * 618033988749894848204586834365 % 2000000000000000000000000000001 - 1000000000000000000000000000000 else if c % 4=1 then (match atI w8 (c / 4 % 8) with | some (.int i)=>i | _=>0) else c / 4 % 7 - 3
def sp__law_worth:Sp:=fun vs H Q _=>∃ c,vs=[.int c]∧Cw c∧(wB (wOf c)→∀ H',Same H H'→Q (.int (wOf c)) H')
def sp__law_rank:Sp:=fun vs H Q _=>∃ c,vs=[.int c]∧Cw c∧∀ r H',Same H H'→rB r→Q (.int r) H'
def sp__law_names:Sp:=fun vs H Q _=>∃ c,vs=[.int c]∧∀ nm H',Same H H'→NamesAt H' nm→Q (.ref nm) H'
def sp__law_check:Sp:=fun vs H Q _=>∃ z:Str,vs=[.str z]∧Asc z∧z.length≤20000∧∀ H',Same H H'→Q (.str (chkS z)) H'
def sp__law_pairs:Sp:=fun vs H Q _=>∃ (c:Int) (nm:Addr) (m:Int),vs=[.int c,.ref nm,.int m]∧NamesAt H nm∧0≤m∧m≤32∧∀ l rows H',Same H H'→RwsAt H' l rows→rsOk rows→(∀ x∈rows,x.2≠0)→Q (.ref l) H'
def sp__law_body (K:PySem.W.Frag):Sp:=fun vs H Q _=>∃ (a:Addr) (ns:List Int),vs=[.ref a]∧SqL K H a (ns.map V.int)∧ns.length≤63∧(∀ i∈ns,Cb i)∧∀ ws H',Same H H'→LnW ws→Q (.str (joinS " " ws)) H'
def sp__law_other:Sp:=fun vs H Q _=>∃ (x:Str) (c:Int),vs=[.str x,.int c]∧Asc x∧0 < x.length∧x.length≤20000∧∀ z i d H',Same H H'→i < x.length→d < 128→x.cps[i]?≠some d→z.cps.toList=x.cps.toList.take i ++ d :: x.cps.toList.drop (i + 1)→Q (.str z) H'
def sp__law_refused (t:Adr):Sp:=fun vs H Q _=>∃ z:Str,vs=[.str z]∧Asc z∧z.length≤20000∧badS z∧∀ H',Same H H'→Q (.bl true) H'
def sp_law (K:PySem.W.Frag):Sp:=fun vs H Q _=>∃ (a:Addr) (ns:List Int),vs=[.ref a]∧SqL K H a (ns.map V.int)∧ns.length≤63∧(∀ i∈ns,Cb i)∧∀ H',Q (.bl true) H'
def rd__law_cell_at (K:PySem.W.Frag) (t:Adr):TS:=(tSeq (tIfS (tTest (tOp (rI0 fun i j=>.bl (decide (i < j))) (tVar 1) (tCB (cLen K) (tCons (tVar 0) tNil))))
      (tRet (tOp (rIxL K) (tVar 0) (tVar 1)))
      tNext)
    (tRet (tC (.int 0))))
def rd__law_drawn (K:PySem.W.Frag) (t:Adr):TS:=(tSeq (tAsg (tOp (rI0 fun i j=>.int (i + j)) (tOp (rI (fun _ j=>0 < j) fun i j=>.int (i % j)) (tVar 0) (tC (.int 999999937))) (tC (.int 1))) (gName 2))
    (tSeq (tAsg (tOp (rI0 fun i j=>.int (i + j)) (tOp (rI (fun _ j=>0 < j) fun i j=>.int (i % j)) (tOp (rI CDivB fun i j=>.int (i / j)) (tVar 0) (tC (.int 999999937))) (tC (.int 999999929))) (tC (.int 2))) (gName 3))
    (tSeq (tAsg (tLst tNil) (gName 4))
    (tSeq (tFor (iRng1 (tCons (tVar 1) tNil)) (gName 5)
      (tSeq (tAsg (tOp (rI (fun _ j=>0 < j) fun i j=>.int (i % j)) (tOp (rI0 fun i j=>.int (i + j)) (tOp (rI0 fun i j=>.int (i + j)) (tOp (rI CMulB fun i j=>.int (i * j)) (tVar 2) (tC (.int 40009))) (tVar 3)) (tVar 5)) (tC (.int 999999937))) (gName 2))
    (tSeq (tAsg (tOp (rI (fun _ j=>0 < j) fun i j=>.int (i % j)) (tOp (rI0 fun i j=>.int (i + j)) (tOp (rI CMulB fun i j=>.int (i * j)) (tVar 3) (tC (.int 31))) (tOp (rI CMulB fun i j=>.int (i * j)) (tVar 2) (tVar 2))) (tC (.int 999999929))) (gName 3))
    (tDrop (tBM K "list" r_mt_append (tVar 4) (tCons (tOp (rI0 fun i j=>.int (i + j)) (tVar 2) (tVar 3)) tNil))))))
    (tRet (tVar 4))))))
def rd__law_worth (K:PySem.W.Frag) (t:Adr):TS:=(tSeq (tAsg (tOp (rI CDivB fun i j=>.int (i / j)) (tVar 0) (tC (.int 4))) (gName 1))
    (tSeq (tIfS (tTest (tOp rEq (tOp (rI (fun _ j=>0 < j) fun i j=>.int (i % j)) (tVar 0) (tC (.int 4))) (tC (.int 0))))
      (tRet (tOp (rI0 fun i j=>.int (i - j)) (tOp (rI (fun _ j=>0 < j) fun i j=>.int (i % j)) (tOp (rI CMulC fun i j=>.int (i * j)) (tVar 1) (tC (.int 618033988749894848204586834365))) (tOp (rI0 fun i j=>.int (i + j)) (tOp (rI CMulC fun i j=>.int (i * j)) (tC (.int 2)) (tOp (rI CPow fun i j=>.int (i ^ j.toNat)) (tC (.int 10)) (tC (.int 30)))) (tC (.int 1)))) (tOp (rI CPow fun i j=>.int (i ^ j.toNat)) (tC (.int 10)) (tC (.int 30)))))
      tNext)
    (tSeq (tIfS (tTest (tOp rEq (tOp (rI (fun _ j=>0 < j) fun i j=>.int (i % j)) (tVar 0) (tC (.int 4))) (tC (.int 1))))
      (tRet (tOp (rIxL K) (tLst (tCons (tOp (rI CPow fun i j=>.int (i ^ j.toNat)) (tC (.int 10)) (tC (.int 30))) (tCons (tUn (rU fun i=>.int (-i)) (tOp (rI CPow fun i j=>.int (i ^ j.toNat)) (tC (.int 10)) (tC (.int 30)))) (tCons (tOp (rI0 fun i j=>.int (i - j)) (tOp (rI CPow fun i j=>.int (i ^ j.toNat)) (tC (.int 10)) (tC (.int 30))) (tC (.int 1))) (tCons (tC (.int 0)) (tCons (tC (.int 64)) (tCons (tUn (rU fun i=>.int (-i)) (tC (.int 64))) (tCons (tC (.int 1)) (tCons (tUn (rU fun i=>.int (-i)) (tC (.int 1))) tNil))))))))) (tOp (rI (fun _ j=>0 < j) fun i j=>.int (i % j)) (tVar 1) (tC (.int 8)))))
      tNext)
    (tRet (tOp (rI0 fun i j=>.int (i - j)) (tOp (rI (fun _ j=>0 < j) fun i j=>.int (i % j)) (tVar 1) (tC (.int 7))) (tC (.int 3)))))))
def rd__law_pairs_E (K:PySem.W.Frag) (t:Adr):TS:=(sDPut (tVar 3) (tTup (tCons (tOp (rIxL K) (tVar 1) (tOp (rI (fun _ j=>0 < j) fun i j=>.int (i % j)) (tOp (rIxL K) (tVar 5) (tC (.int 0))) (tC (.int 3)))) (tCons (tVar 6) tNil))) (tIf (tTest (tOp rNe (tVar 7) (tC (.int 0)))) (tVar 7) (tOp (rI CPow fun i j=>.int (i ^ j.toNat)) (tC (.int 10)) (tC (.int 30)))))
def rd__law_pairs_C (K:PySem.W.Frag) (t:Adr):TS:=(tSeq (tAsg (tCall sp__law_worth [] E0 (tCons (tOp (rIxL K) (tVar 5) (tC (.int 2))) tNil)) (gName 7))
    (rd__law_pairs_E K t))
def rd__law_pairs_B (K:PySem.W.Frag) (t:Adr):TS:=(tSeq (tAsg (tCall sp__law_drawn [] E0 (tCons (tOp (rI0 fun i j=>.int (i + j)) (tOp (rI CDivB fun i j=>.int (i / j)) (tVar 0) (tC (.int 8))) (tOp (rI CMulB fun i j=>.int (i * j)) (tOp (rI CMulB fun i j=>.int (i * j)) (tC (.int 97)) (tVar 4)) (tVar 4))) (tCons (tC (.int 3)) tNil))) (gName 5))
    (tSeq (tAsg (tIf (tTest (tOp (rI0 fun i j=>.bl (decide (i < j))) (tVar 2) (tC (.int 4)))) (tCall sp__law_worth [] E0 (tCons (tOp (rIxL K) (tVar 5) (tC (.int 1))) tNil)) (tOp (rI0 fun i j=>.int (i + j)) (tOp (rI CMulB fun i j=>.int (i * j)) (tOp (rIxL K) (tVar 5) (tC (.int 1))) (tOp (rI CPow fun i j=>.int (i ^ j.toNat)) (tC (.int 10)) (tC (.int 20)))) (tVar 4))) (gName 6))
    (rd__law_pairs_C K t)))
def rd__law_pairs_2 (K:PySem.W.Frag) (t:Adr):TS:=(tFrz (tRet (tCB (cSrtL K) (tCons (tComp (iDT (tVar 3)) (gName 0) tYes (tTup (tCons (tVar 0) (tCons (tDGet (tVar 1) (tVar 0)) tNil))) 1 [3]) tNil))))
def rd__law_pairs (K:PySem.W.Frag) (t:Adr):TS:=(tSeq (tAsg tDNewT (gName 3))
    (tSeq (tFor (iRng1 (tCons (tVar 2) tNil)) (gName 4)
      (rd__law_pairs_B K t))
    (rd__law_pairs_2 K t)))
def rd__law_names_B (K:PySem.W.Frag) (t:Adr):TS:=(tSeq (tIfS (tTest (tOp (rIn K false) (tVar 8) (tVar 2)))
      (tAsg (tOp rAddS (tSl rSlS (tVar 8) tNoPart (tPart (tUn (rU fun i=>.int (-i)) (tC (.int 1))))) (tC (.str "q"))) (gName 8))
      tNext)
    (tDrop (tBM K "list" r_mt_append (tVar 6) (tCons (tVar 8) tNil))))
def rd__law_names_5 (K:PySem.W.Frag) (t:Adr):TS:=(tSeq (tAsg (tCall sp__law_drawn [] E0 (tCons (tOp (rI CDivB fun i j=>.int (i / j)) (tVar 0) (tC (.int 36))) (tCons (tOp (rI0 fun i j=>.int (i + j)) (tVar 3) (tC (.int 1))) tNil))) (gName 5))
    (tSeq (tAsg (tLst tNil) (gName 6))
    (tSeq (tFor (iRng1 (tCons (tC (.int 3)) tNil)) (gName 7)
      (tSeq (tAsg (tC (.str "")) (gName 8))
    (tSeq (tFor (iRng1 (tCons (tVar 3) tNil)) (gName 9)
      (tSeq (tAsg (tOp (rI CMulB fun i j=>.int (i * j)) (tOp (rI CMulB fun i j=>.int (i * j)) (tVar 7) (tCB cIntB (tCons (tOp rEq (tVar 9) (tVar 4)) tNil))) (tOp (rI (fun _ j=>0 < j) fun i j=>.int (i % j)) (tOp (rIxL K) (tVar 5) (tVar 3)) (tC (.int 2)))) (gName 10))
    (tAsg (tOp rAddS (tVar 8) (tOp rIxS (tVar 1) (tOp (rI (fun _ j=>0 < j) fun i j=>.int (i % j)) (tOp (rI0 fun i j=>.int (i + j)) (tOp (rIxL K) (tVar 5) (tVar 9)) (tVar 10)) (tC (.int 26))))) (gName 8))))
    (tSeq (tIfS (tTest (tOp rEq (tOp (rI (fun _ j=>0 < j) fun i j=>.int (i % j)) (tOp (rIxL K) (tVar 5) (tVar 3)) (tC (.int 2))) (tC (.int 0))))
      (tAsg (tSl rSlS (tVar 8) tNoPart (tPart (tCB cMax2 (tCons (tC (.int 1)) (tCons (tOp (rI0 fun i j=>.int (i - j)) (tVar 3) (tVar 7)) tNil))))) (gName 8))
      tNext)
    (rd__law_names_B K t)))))
    (tRet (tVar 6)))))
def rd__law_names (K:PySem.W.Frag) (t:Adr):TS:=(tSeq (tAsg (tC (.str "abcdefghijklmnopqrstuvwxyz")) (gName 1))
    (tSeq (tAsg (tLst (tCons (tC (.str "take")) (tCons (tC (.str "give")) (tCons (tC (.str "let")) (tCons (tC (.str "say")) (tCons (tC (.str "off")) (tCons (tC (.str "if")) (tCons (tC (.str "else")) (tCons (tC (.str "end")) (tCons (tC (.str "as")) tNil)))))))))) (gName 2))
    (tSeq (tAsg (tOp rCat (tVar 2) (tLst (tCons (tC (.str "plus")) (tCons (tC (.str "minus")) (tCons (tC (.str "times")) (tCons (tC (.str "over")) (tCons (tC (.str "rest")) (tCons (tC (.str "under")) (tCons (tC (.str "same")) tNil))))))))) (gName 2))
    (tSeq (tAsg (tOp (rI0 fun i j=>.int (i + j)) (tC (.int 1)) (tOp (rI (fun _ j=>0 < j) fun i j=>.int (i % j)) (tVar 0) (tC (.int 6)))) (gName 3))
    (tSeq (tAsg (tOp (rI (fun _ j=>0 < j) fun i j=>.int (i % j)) (tOp (rI CDivB fun i j=>.int (i / j)) (tVar 0) (tC (.int 6))) (tVar 3)) (gName 4))
    (rd__law_names_5 K t))))))
def rd__law_rank (K:PySem.W.Frag) (t:Adr):TS:=(tSeq (tAsg (tOp (rI CDivB fun i j=>.int (i / j)) (tVar 0) (tC (.int 4))) (gName 1))
    (tSeq (tIfS (tTest (tOp rEq (tOp (rI (fun _ j=>0 < j) fun i j=>.int (i % j)) (tVar 0) (tC (.int 4))) (tC (.int 0))))
      (tRet (tOp (rI (fun _ j=>0 < j) fun i j=>.int (i % j)) (tOp (rI CMulC fun i j=>.int (i * j)) (tVar 1) (tC (.int 618033988749894848204586834365))) (tOp (rI0 fun i j=>.int (i + j)) (tOp (rI CPow fun i j=>.int (i ^ j.toNat)) (tC (.int 10)) (tC (.int 29))) (tC (.int 1)))))
      tNext)
    (tSeq (tIfS (tTest (tOp rEq (tOp (rI (fun _ j=>0 < j) fun i j=>.int (i % j)) (tVar 0) (tC (.int 4))) (tC (.int 1))))
      (tRet (tOp (rI0 fun i j=>.int (i - j)) (tOp (rI CPow fun i j=>.int (i ^ j.toNat)) (tC (.int 10)) (tC (.int 29))) (tOp (rI (fun _ j=>0 < j) fun i j=>.int (i % j)) (tVar 1) (tC (.int 3)))))
      tNext)
    (tRet (tOp (rI (fun _ j=>0 < j) fun i j=>.int (i % j)) (tVar 1) (tC (.int 7)))))))
def rd__law_body_B (K:PySem.W.Frag) (t:Adr):TS:=(tAsg (tOp rCat (tVar 3) (tLst (tCons (tOp (rIxT K) (tVar 6) (tC (.int 0))) (tCons (tCB cStr (tCons (tOp (rIxT K) (tVar 6) (tC (.int 1))) tNil)) (tCons (tCB cStr (tCons (tVar 7) tNil)) tNil))))) (gName 3))
def rd__law_body_C (K:PySem.W.Frag) (t:Adr):TS:=(tDrop (tBM K "list" r_mt_append (tVar 3) (tCons (tCB cStr (tCons (tCall sp__law_worth [] E0 (tCons (tOp (rIxL K) (tCall sp__law_drawn [] E0 (tCons (tOp (rI CDivB fun i j=>.int (i / j)) (tVar 1) (tC (.int 16))) (tCons (tC (.int 3)) tNil))) (tOp (rI (fun _ j=>0 < j) fun i j=>.int (i % j)) (tVar 4) (tC (.int 3)))) tNil)) tNil)) tNil)))
def rd__law_body_A (K:PySem.W.Frag) (t:Adr):TS:=(tSeq (tDrop (tBM K "list" r_mt_append (tVar 3) (tCons (tC (.str "done")) tNil)))
    (tFor (iRng1 (tCons (tOp (rI (fun _ j=>0 < j) fun i j=>.int (i % j)) (tOp (rI CDivB fun i j=>.int (i / j)) (tVar 1) (tC (.int 4))) (tC (.int 4))) tNil)) (gName 4)
      (rd__law_body_C K t)))
def rd__law_body_8 (K:PySem.W.Frag) (t:Adr):TS:=(tRet (tBM K "str" (r_mt_join K) (tC (.str " ")) (tCons (tVar 3) tNil)))
def rd__law_body_7 (K:PySem.W.Frag) (t:Adr):TS:=(tSeq (tFor (iList K (tCall sp__law_pairs [] E0 (tCons (tVar 2) (tCons (tCall sp__law_names [] E0 (tCons (tCall (sp__law_cell_at K) [] E0 (tCons (tVar 0) (tCons (tC (.int 3)) tNil))) tNil)) (tCons (tVar 5) tNil))))) (gTup K 2 (gCons (gName 6) (gCons (gName 7) gNil)))
      (rd__law_body_B K t))
    (rd__law_body_8 K t))
def rd__law_body_6 (K:PySem.W.Frag) (t:Adr):TS:=(tSeq (tAsg (tIf (tTest (tOp rEq (tOp (rI (fun _ j=>0 < j) fun i j=>.int (i % j)) (tVar 2) (tC (.int 8))) (tC (.int 3)))) (tC (.int 32)) (tOp (rI (fun _ j=>0 < j) fun i j=>.int (i % j)) (tOp (rI CDivB fun i j=>.int (i / j)) (tVar 2) (tC (.int 8))) (tC (.int 4)))) (gName 5))
    (rd__law_body_7 K t))
def rd__law_body_5 (K:PySem.W.Frag) (t:Adr):TS:=(tSeq (tDrop (tBM K "list" r_mt_append (tVar 3) (tCons (tC (.str ";")) tNil)))
    (rd__law_body_6 K t))
def rd__law_body_4 (K:PySem.W.Frag) (t:Adr):TS:=(tSeq (tIfS (tTest (tOp rEq (tOp (rI (fun _ j=>0 < j) fun i j=>.int (i % j)) (tVar 1) (tC (.int 4))) (tC (.int 1))))
      (sLPut (tVar 3) (tC (.int 0)) (tC (.str "mark")))
      (rd__law_body_A K t))
    (rd__law_body_5 K t))
def rd__law_body_3 (K:PySem.W.Frag) (t:Adr):TS:=(tSeq (tIfS (tTest (tOp rEq (tOp (rI (fun _ j=>0 < j) fun i j=>.int (i % j)) (tVar 1) (tC (.int 4))) (tC (.int 0))))
      (tRet (tBM K "str" (r_mt_join K) (tC (.str " ")) (tCons (tOp rCat (tVar 3) (tLst (tCons (tC (.str "off")) (tCons (tOp (rIxL K) (tLst (tCons (tC (.str "told")) (tCons (tC (.str "great")) (tCons (tC (.str "nought")) tNil)))) (tOp (rI (fun _ j=>0 < j) fun i j=>.int (i % j)) (tOp (rI CDivB fun i j=>.int (i / j)) (tVar 1) (tC (.int 4))) (tC (.int 3)))) (tCons (tC (.str ";")) tNil))))) tNil)))
      tNext)
    (rd__law_body_4 K t))
def rd__law_body (K:PySem.W.Frag) (t:Adr):TS:=(tSeq (tAsg (tCall (sp__law_cell_at K) [] E0 (tCons (tVar 0) (tCons (tC (.int 1)) tNil))) (gName 1))
    (tSeq (tAsg (tCall (sp__law_cell_at K) [] E0 (tCons (tVar 0) (tCons (tC (.int 2)) tNil))) (gName 2))
    (tSeq (tAsg (tLst (tCons (tC (.str "deal")) (tCons (tCB cStr (tCons (tCall sp__law_rank [] E0 (tCons (tCall (sp__law_cell_at K) [] E0 (tCons (tVar 0) (tCons (tC (.int 0)) tNil))) tNil)) tNil)) tNil))) (gName 3))
    (rd__law_body_3 K t))))
def rd_is_name (K:PySem.W.Frag) (t:Adr):TS:=(tSeq (tIfS (tOr (tTest (tOp rEq (tVar 0) (tC (.str "")))) (tTest (tOp (rI0 fun i j=>.bl (decide (j < i))) (tCB (cLen K) (tCons (tVar 0) tNil)) (tC (.int 6)))))
      (tRet (tC (.bl false)))
      tNext)
    (tSeq (tIfS (tOr (tTest (tOp (rIn K false) (tVar 0) (tC (.ref t.c_JOINING)))) (tTest (tOp (rIn K false) (tVar 0) (tC (.ref t.c_ROW_WORDS)))))
      (tRet (tC (.bl false)))
      tNext)
    (tRet (tCB (cAll K) (tCons (tComp (iStr (tVar 0)) (gName 0) tYes (tOp rInS (tVar 0) (tC (.str "abcdefghijklmnopqrstuvwxyz"))) 1 []) tNil)))))
def rd_shelf_in (K:PySem.W.Frag) (t:Adr):TS:=(tSeq (tIfS (tNot (tB (tCall sp_is_name [] E0 (tCons (tVar 0) tNil))))
      tNever
      tNext)
    (tRet (tVar 0)))
def rd_is_worth (K:PySem.W.Frag) (t:Adr):TS:=(tSeq (tIfS (tOr (tNot (tB (tCB (cIsi K) (tCons (tVar 0) (tCons (tC (.ty "int")) tNil))))) (tB (tCB (cIsi K) (tCons (tVar 0) (tCons (tC (.ty "bool")) tNil)))))
      (tRet (tC (.bl false)))
      tNext)
    (tRet (tChain (rI0 fun i j=>.bl (decide (i≤j))) (rI0 fun i j=>.bl (decide (i≤j))) (tUn (rU fun i=>.int (-i)) (tOp (rI CPow fun i j=>.int (i ^ j.toNat)) (tC (.int 10)) (tC (.int 30)))) (tVar 0) (tOp (rI CPow fun i j=>.int (i ^ j.toNat)) (tC (.int 10)) (tC (.int 30))))))
def rd_is_figures (K:PySem.W.Frag) (t:Adr):TS:=(tRet (tAndV (tOp rNe (tVar 0) (tC (.str ""))) (tCB (cAll K) (tCons (tComp (iStr (tVar 0)) (gName 0) tYes (tOp rInS (tVar 0) (tC (.str "0123456789"))) 1 []) tNil))))
def rd_numeral (K:PySem.W.Frag) (t:Adr):TS:=(tRet (tCB cStr (tCons (tVar 0) tNil)))
def rd_is_numeral (K:PySem.W.Frag) (t:Adr):TS:=(tSeq (tAsg (tIf (tB (tBM K "str" r_mt_startswith (tVar 0) (tCons (tC (.str "-")) tNil))) (tSl rSlS (tVar 0) (tPart (tC (.int 1))) tNoPart) (tVar 0)) (gName 1))
    (tSeq (tIfS (tOr (tTest (tOp (rI0 fun i j=>.bl (decide (j < i))) (tCB (cLen K) (tCons (tVar 1) tNil)) (tC (.int 31)))) (tNot (tB (tCall sp_is_figures [] E0 (tCons (tVar 1) tNil)))))
      (tRet (tC (.bl false)))
      tNext)
    (tSeq (tAsg (tCB cInt (tCons (tVar 0) tNil)) (gName 2))
    (tRet (tAndV (tCall (sp_is_worth K) [] E0 (tCons (tVar 2) tNil)) (tOp rEq (tCall sp_numeral [] E0 (tCons (tVar 2) tNil)) (tVar 0)))))))
def rd_worth_in (K:PySem.W.Frag) (t:Adr) (E:XK):TS:=(tSeq (tIfS (tNot (tB (tCall sp_is_numeral [] E (tCons (tVar 0) tNil))))
      (tRaise t.c_NoNumber (tCons (tMsgR (tVar 0)) tNil) E)
      tNext)
    (tRet (tCB cInt (tCons (tVar 0) tNil))))
def rd_number_in (K:PySem.W.Frag) (t:Adr):TS:=(tTry K (tRetX (tCallX (sp_worth_in t) (tCons (tVar 0) tNil))) t.c_NoNumber 1 tNever)
def rd_rows_in_B (K:PySem.W.Frag) (t:Adr):TS:=(tSeq (tAsg (tTup (tCons (tCall sp_shelf_in [] E0 (tCons (tOp (rIxL K) (tVar 0) (tVar 2)) tNil)) (tCons (tCall sp_number_in [] E0 (tCons (tOp (rIxL K) (tVar 0) (tOp (rI0 fun i j=>.int (i + j)) (tVar 2) (tC (.int 1)))) tNil)) tNil))) (gName 3))
    (tDrop (tBM K "list" r_mt_append (tVar 1) (tCons (tTup (tCons (tVar 3) (tCons (tCall sp_number_in [] E0 (tCons (tOp (rIxL K) (tVar 0) (tOp (rI0 fun i j=>.int (i + j)) (tVar 2) (tC (.int 2)))) tNil)) tNil))) tNil))))
def rd_rows_in_4 (K:PySem.W.Frag) (t:Adr):TS:=(tSeq (tIfS (tTest (tOp (rEqD K true) (tVar 4) (tSrtS K (tCons (tVar 4) tNil))))
      tNever
      tNext)
    (tRet (tVar 1)))
def rd_rows_in_3 (K:PySem.W.Frag) (t:Adr):TS:=(tSeq (tAsg (tComp (iList K (tVar 1)) (gTup K 2 (gCons (gName 0) (gCons (gName 1) gNil))) tYes (tVar 0) 2 []) (gName 4))
    (rd_rows_in_4 K t))
def rd_rows_in (K:PySem.W.Frag) (t:Adr):TS:=(tSeq (tIfS (tTest (tOp rNe (tOp (rI (fun _ j=>0 < j) fun i j=>.int (i % j)) (tCB (cLen K) (tCons (tVar 0) tNil)) (tC (.int 3))) (tC (.int 0))))
      tNever
      tNext)
    (tSeq (tAsg (tLst tNil) (gName 1))
    (tSeq (tFor (iRng3 (tCons (tC (.int 0)) (tCons (tCB (cLen K) (tCons (tVar 0) tNil)) (tCons (tC (.int 3)) tNil)))) (gName 2)
      (rd_rows_in_B K t))
    (rd_rows_in_3 K t))))
def rd_outcome_in (K:PySem.W.Frag) (t:Adr):TS:=(tSeq (tIfS (tTest (tOp (rEqL K false) (tSl (rSlL K) (tVar 0) tNoPart (tPart (tC (.int 1)))) (tLst (tCons (tC (.str "done")) tNil))))
      (tRet (tTup (tCons (tC (.str "done")) (tCons (tCB (cTup K) (tCons (tComp (iList K (tSl (rSlL K) (tVar 0) (tPart (tC (.int 1))) tNoPart)) (gName 0) tYes (tCall sp_number_in [] E0 (tCons (tVar 0) tNil)) 1 []) tNil)) tNil))))
      tNext)
    (tSeq (tIfS (tAnd (tTest (tOp rEq (tCB (cLen K) (tCons (tVar 0) tNil)) (tC (.int 2)))) (tAnd (tTest (tOp rEq (tOp (rIxL K) (tVar 0) (tC (.int 0))) (tC (.str "off")))) (tTest (tOp (rIn K false) (tOp (rIxL K) (tVar 0) (tC (.int 1))) (tC (.ref t.c_WHYS))))))
      (tRet (tTup (tCons (tC (.str "off")) (tCons (tOp (rIxL K) (tVar 0) (tC (.int 1))) tNil))))
      tNext)
    tNever))
def rd_rank_in (K:PySem.W.Frag) (t:Adr):TS:=(tSeq (tAsg (tCall sp_number_in [] E0 (tCons (tVar 0) tNil)) (gName 1))
    (tSeq (tIfS (tOr (tTest (tOp (rI0 fun i j=>.bl (decide (i < j))) (tVar 1) (tC (.int 0)))) (tTest (tOp (rI0 fun i j=>.bl (decide (j < i))) (tVar 1) (tOp (rI CPow fun i j=>.int (i ^ j.toNat)) (tC (.int 10)) (tC (.int 29))))))
      tNever
      tNext)
    (tRet (tVar 1))))
def rd_deal_in (K:PySem.W.Frag) (t:Adr):TS:=(tSeq (tAsg (tCall sp_outcome_in [] E0 (tCons (tSl (rSlL K) (tVar 0) (tPart (tC (.int 2))) tNoPart) tNil)) (gName 2))
    (tSeq (tIfS (tAnd (tTest (tOp rEq (tOp (rIxT K) (tVar 2) (tC (.int 0))) (tC (.str "off")))) (tTest (tOp (rNeNil K) (tVar 1) (tLst tNil))))
      tNever
      tNext)
    (tRet (tTup (tCons (tC (.str "deal")) (tCons (tCall sp_rank_in [] E0 (tCons (tOp (rIxL K) (tVar 0) (tC (.int 1))) tNil)) (tCons (tVar 2) (tCons (tVar 1) tNil))))))))
def rd_mark_in (K:PySem.W.Frag) (t:Adr):TS:=(tSeq (tIfS (tTest (tOp rNe (tCB (cLen K) (tCons (tVar 0) tNil)) (tC (.int 2))))
      tNever
      tNext)
    (tSeq (tIfS (tB (tCB (cAny K) (tCons (tComp (iList K (tVar 1)) (gTup K 2 (gCons (gName 0) (gCons (gName 1) gNil))) tYes (tOp rEq (tVar 1) (tC (.int 0))) 2 []) tNil)))
      tNever
      tNext)
    (tRet (tTup (tCons (tC (.str "mark")) (tCons (tCall sp_rank_in [] E0 (tCons (tOp (rIxL K) (tVar 0) (tC (.int 1))) tNil)) (tCons (tVar 1) tNil)))))))
def rd_check_of (K:PySem.W.Frag) (t:Adr):TS:=(tSeq (tAsg (tCB (cSumL K) (tCons (tComp (iEnmS (tCons (tVar 0) tNil)) (gTup K 2 (gCons (gName 0) (gCons (gName 1) gNil))) tYes (tOp (rI CMulB fun i j=>.int (i * j)) (tCB cOrd (tCons (tVar 1) tNil)) (tOp (rI0 fun i j=>.int (i + j)) (tC (.int 1)) (tOp (rI (fun _ j=>0 < j) fun i j=>.int (i % j)) (tVar 0) (tC (.int 1008))))) 2 []) tNil)) (gName 1))
    (tRet (tBM K "str" r_mt_zfill (tCB cStr (tCons (tOp (rI (fun _ j=>0 < j) fun i j=>.int (i % j)) (tVar 1) (tC (.int 1009))) tNil)) (tCons (tC (.int 4)) tNil))))
def rd_body_in (K:PySem.W.Frag) (t:Adr) (E:XK):TS:=(tSeq (tAsg (tBM K "str" r_mt_rpartition (tVar 0) (tCons (tC (.str " ")) tNil)) (gName 1))
    (tSeq (tIfS (tTest (tOp rNe (tOp (rIxT K) (tVar 1) (tC (.int 2))) (tCall sp_check_of [] E (tCons (tOp (rIxT K) (tVar 1) (tC (.int 0))) tNil))))
      (tRaise t.c_NoLine (tCons (tMsgR (tVar 0)) tNil) E)
      tNext)
    (tRet (tOp (rIxT K) (tVar 1) (tC (.int 0))))))
def rd_line_read_4 (K:PySem.W.Frag) (t:Adr) (E:XK):TS:=(tSeq (tIfS (tTest (tOp rEq (tOp (rIxL K) (tVar 1) (tC (.int 0))) (tC (.str "deal"))))
      (tRet (tCall sp_deal_in [] E (tCons (tSl (rSlL K) (tVar 1) tNoPart (tPart (tVar 2))) (tCons (tVar 3) tNil))))
      tNext)
    (tSeq (tIfS (tTest (tOp rEq (tOp (rIxL K) (tVar 1) (tC (.int 0))) (tC (.str "mark"))))
      (tRet (tCall sp_mark_in [] E (tCons (tSl (rSlL K) (tVar 1) tNoPart (tPart (tVar 2))) (tCons (tVar 3) tNil))))
      tNext)
    (tRaise t.c_NoLine (tCons (tMsgR (tVar 0)) tNil) E)))
def rd_line_read_3 (K:PySem.W.Frag) (t:Adr) (E:XK):TS:=(tSeq (tAsg (tCall sp_rows_in [] E (tCons (tSl (rSlL K) (tVar 1) (tPart (tOp (rI0 fun i j=>.int (i + j)) (tVar 2) (tC (.int 1)))) tNoPart) tNil)) (gName 3))
    (rd_line_read_4 K t E))
def rd_line_read_1 (K:PySem.W.Frag) (t:Adr) (E:XK):TS:=(tSeq (tIfS (tTest (tOp (rIn K true) (tC (.str ";")) (tVar 1)))
      (tRaise t.c_NoLine (tCons (tC (.str "a line without its ;")) tNil) E)
      tNext)
    (tSeq (tAsg (tBM K "list" r_mt_index (tVar 1) (tCons (tC (.str ";")) tNil)) (gName 2))
    (rd_line_read_3 K t E)))
def rd_line_read (K:PySem.W.Frag) (t:Adr) (E:XK):TS:=(tSeq (tAsg (tBM K "str" r_mt_split (tCall (sp_body_in t) [] E (tCons (tVar 0) tNil)) (tCons (tC (.str " ")) tNil)) (gName 1))
    (rd_line_read_1 K t E))
def rd__law_check_B (K:PySem.W.Frag) (t:Adr):TS:=(tSeq (tAsg (tOp (rI (fun _ j=>0 < j) fun i j=>.int (i % j)) (tOp (rI0 fun i j=>.int (i + j)) (tVar 1) (tOp (rI CMulB fun i j=>.int (i * j)) (tVar 2) (tCB cOrd (tCons (tVar 3) tNil)))) (tC (.int 1009))) (gName 1))
    (tSeq (tAsg (tOp (rI0 fun i j=>.int (i + j)) (tVar 2) (tC (.int 1))) (gName 2))
    (tIfS (tTest (tOp rEq (tVar 2) (tC (.int 1009))))
      (tAsg (tC (.int 1)) (gName 2))
      tNext)))
def rd__law_check_3 (K:PySem.W.Frag) (t:Adr):TS:=(tSeq (tAsg (tCB cStr (tCons (tVar 1) tNil)) (gName 4))
    (tRet (tOp rAddS (tOp rMulS (tC (.str "0")) (tOp (rI0 fun i j=>.int (i - j)) (tC (.int 4)) (tCB (cLen K) (tCons (tVar 4) tNil)))) (tVar 4))))
def rd__law_check (K:PySem.W.Frag) (t:Adr):TS:=(tSeq (tAsg (tC (.int 0)) (gName 1))
    (tSeq (tAsg (tC (.int 1)) (gName 2))
    (tSeq (tFor (iStr (tVar 0)) (gName 3)
      (rd__law_check_B K t))
    (rd__law_check_3 K t))))
def rd__law_refused_4 (K:PySem.W.Frag) (t:Adr):TS:=(tRet (tAndV (tVar 1) (tAndV (tNotV (tVar 2)) (tNotV (tVar 3)))))
def rd__law_refused (K:PySem.W.Frag) (t:Adr):TS:=(tSeq (tAsg (tC (.bl false)) (gName 1))
    (tSeq (tAsg (tC (.bl false)) (gName 2))
    (tSeq (tAsg (tC (.bl false)) (gName 3))
    (tSeq (tTry K (tDropX (tCallX (sp_line_read t) (tCons (tVar 0) tNil))) t.c_ForerunError 4 (tSeq (tAsg (tAndV (tCB (cIsx K) (tCons (tVar 4) (tCons (tC (.ref t.c_NoLine)) tNil))) (tCB (cIsx K) (tCons (tVar 4) (tCons (tC (.ty "ValueError")) tNil)))) (gName 1))
    (tSeq (tAsg (tCB (cIsxT K) (tCons (tVar 4) (tCons (tTup (tCons (tC (.ref t.c_NoNumber)) (tCons (tC (.ref t.c_NoTerm)) (tCons (tC (.ref t.c_NoDealing)) (tCons (tC (.ref t.c_Nought)) (tCons (tC (.ref t.c_Great)) tNil)))))) tNil))) (gName 2))
    (tAsg (tCB (cIsxT K) (tCons (tVar 4) (tCons (tTup (tCons (tC (.ref t.c_Folded)) (tCons (tC (.ref t.c_NoHand)) (tCons (tC (.ref t.c_NoOrder)) (tCons (tC (.ref t.c_NoLog)) tNil))))) tNil))) (gName 3)))))
    (rd__law_refused_4 K t)))))
def rd__law_other_5 (K:PySem.W.Frag) (t:Adr):TS:=(tRet (tOp rAddS (tOp rAddS (tSl rSlS (tVar 0) tNoPart (tPart (tVar 3))) (tOp rIxS (tVar 2) (tVar 4))) (tSl rSlS (tVar 0) (tPart (tOp (rI0 fun i j=>.int (i + j)) (tVar 3) (tC (.int 1)))) tNoPart)))
def rd__law_other_4 (K:PySem.W.Frag) (t:Adr):TS:=(tSeq (tIfS (tTest (tOp rEq (tOp rIxS (tVar 2) (tVar 4)) (tOp rIxS (tVar 0) (tVar 3))))
      (tAsg (tOp (rI (fun _ j=>0 < j) fun i j=>.int (i % j)) (tOp (rI0 fun i j=>.int (i + j)) (tVar 4) (tC (.int 1))) (tC (.int 94))) (gName 4))
      tNext)
    (rd__law_other_5 K t))
def rd__law_other (K:PySem.W.Frag) (t:Adr):TS:=(tSeq (tAsg (tC (.str " !\"#$&'()*+,-./0123456789:;<=>?@ABCDEFGHIJKLMNOPQRSTUVWXYZ[\\]^_`")) (gName 2))
    (tSeq (tAsg (tOp rAddS (tVar 2) (tC (.str "abcdefghijklmnopqrstuvwxyz{|}~"))) (gName 2))
    (tSeq (tAsg (tOp (rI (fun _ j=>0 < j) fun i j=>.int (i % j)) (tVar 1) (tCB (cLen K) (tCons (tVar 0) tNil))) (gName 3))
    (tSeq (tAsg (tOp (rI (fun _ j=>0 < j) fun i j=>.int (i % j)) (tOp (rI CDivB fun i j=>.int (i / j)) (tVar 1) (tCB (cLen K) (tCons (tVar 0) tNil))) (tC (.int 94))) (gName 4))
    (rd__law_other_4 K t)))))
def rd_law_4 (K:PySem.W.Frag) (t:Adr):TS:=(tRet (tAndV (tCB (cIsi K) (tCons (tVar 4) (tCons (tC (.ty "tuple")) tNil))) (tOp rEq (tOp (rIxT K) (tVar 4) (tC (.int 0))) (tSl rSlS (tVar 1) tNoPart (tPart (tC (.int 4)))))))
def rd_law_3 (K:PySem.W.Frag) (t:Adr):TS:=(tSeq (tAsg (tCall (sp_line_read t) [] E0 (tCons (tVar 2) tNil)) (gName 4))
    (rd_law_4 K t))
def rd_law_2 (K:PySem.W.Frag) (t:Adr):TS:=(tSeq (tFor (iList K (tSl (rSlL K) (tSl (rSlL K) (tVar 0) (tPart (tC (.int 4))) tNoPart) tNoPart (tPart (tOp (rI CDivB fun i j=>.int (i / j)) (tC (.int 6000)) (tCB (cLen K) (tCons (tVar 2) tNil)))))) (gName 3)
      (tIfS (tNot (tB (tCall (sp__law_refused t) [] E0 (tCons (tCall sp__law_other [] E0 (tCons (tVar 2) (tCons (tVar 3) tNil))) tNil))))
      (tRet (tC (.bl false)))
      tNext))
    (rd_law_3 K t))
def rd_law (K:PySem.W.Frag) (t:Adr):TS:=(tSeq (tAsg (tCall (sp__law_body K) [] E0 (tCons (tVar 0) tNil)) (gName 1))
    (tSeq (tAsg (tOp rAddS (tOp rAddS (tVar 1) (tC (.str " "))) (tCall sp__law_check [] E0 (tCons (tVar 1) tNil))) (gName 2))
    (rd_law_2 K t)))
section
variable {K:PySem.W.Frag} {t:Adr} {H:Hp} {Q:VK}
theorem pow10 {j:Int} (h0:0≤j) (h1:j≤100):CPow 10 j:=⟨h0,by omega,by decide⟩
theorem small_size {n:Nat} (h:n≤100000):n≤sizeLine:=Nat.le_trans h (by decide)
theorem kit_same (T:String):PySem.W.kitOne K (.type T) (.type T)=some true:=by
  unfold PySem.W.kitOne
  rw [if_pos (by simp)]
theorem kf (K:PySem.W.Frag):KF K:=⟨by with_unfolding_all rfl⟩
theorem dB {i j:Int} (h0:0 < j:=by decide) (h1:j < 10000000000000000000000000000000000000000000000:=by decide):CDivB i j:=by
  have hb:(10000000000000000000000000000000000000000000000:Int) < big:=by decide +kernel
  exact ⟨h0,by omega⟩
theorem at_lt {α:Type} {xs:List α} {i:Int} (h0:0≤i) (h1:i < xs.length):∃ x,atI xs i=some x∧x∈xs:=by
  obtain ⟨n,rfl⟩:∃ n:Nat,i=(n:Int):=⟨i.toNat,by omega⟩
  have hn:n < xs.length:=by omega
  refine ⟨xs[n],?_,List.getElem_mem hn⟩
  unfold atI ixN
  rw [if_pos h0,if_pos h1]
  simp [hn]
theorem at_mod {α:Type} {xs:List α} (e:Int) (n:Nat) (hl:xs.length=n) (hn:0 < (n:Int)):∃ x,atI xs (e % n)=some x∧x∈xs :=
  at_lt (Int.emod_nonneg _ (by omega)) (by rw [hl];exact Int.emod_lt_of_pos _ hn)
theorem same_upd {H H':Hp} {w:Addr} {o:HO} (s:Same H H') (hw:H w=none):Same H (upd H' w o):=fun b u e=>by rw [upd_ne (ne_of_none e hw)];exact s b u e
theorem abc_len:(Str.ofString "abcdefghijklmnopqrstuvwxyz").cps.toList.length=26:=by decide +kernel
theorem one_len (c:Nat):({ cps:=#[c] }:Str).length=1:=rfl
theorem fresh_of {H H':Hp} {D:Addr} (s:Same H H') (h:H' D=none):H D=none:=by
  cases e:H D with
  | none=>rfl
  | some o=>rw [s _ _ e] at h;cases h
def TSame (H H':Hp):Prop:=∀ b ys,H b=some (.tup ys)→H' b=some (.tup ys)
theorem Same.ts {H H':Hp} (s:Same H H'):TSame H H':=fun b ys e=>s _ _ e
theorem comp_inv {J:It} {D:Addr} {τ₀:St} {H1:Hp} {Q:Hp→Prop} {B:V→St→Hp→(V→St→Hp→Prop)→(St→Hp→Prop)→Prop} (n:Nat) (hn:n≤1000000) (C:St→Prop) (R:Nat→List V→Hp→Prop) (hm:∀ i ys H H',TSame H H'→R i ys H→R i ys H') (hC:C τ₀) (h0:R 0 [] H1)
    (go:∀ i H,Same H1 H→i < n→J.go i H) (stop:∀ H,Same H1 H→J.stop n H) (hD:H1 D=none)
    (hs:∀ i x τ ys H H',C τ→Same H1 H→i < n→R i ys H→J.yld i H x H'→B x τ H' (fun v τ' H4=>C τ'∧R (i + 1) (ys ++ [v]) H4∧Same H H4) (fun τ' H4=>C τ'∧R (i + 1) ys H4∧Same H H4))
    (hd:∀ ys H,ys.length≤n→R n ys H→Same H1 H→H D=some (.lst ys)→Q H) :
    ∃ W:Nat→Nat→List V→St→Hp→Prop,(∃ m,W 0 m [] τ₀ (upd H1 D (.lst [])))∧∀ i m ys τ H,W i m ys τ H→H D=some (.lst ys) ∧
    ((J.stop i H∧Q H)∨(J.go i H∧ys.length < sizeLine∧∃ N:V→St→Hp→Prop,
      (∀ v τ' H',N v τ' H'→H' D=some (.lst ys)∧∃ m',m' < m∧W (i + 1) m' (ys ++ [v]) τ' (upd H' D (.lst (ys ++ [v]))))∧∃ Nf:St→Hp→Prop,(∀ τ' H',Nf τ' H'→∃ m',m' < m∧W (i + 1) m' ys τ' H') ∧
      ∀ x H',J.yld i H x H'→B x τ H' N Nf)):=by
  have ext:∀ {H:Hp} {o:HO},Same H1 H→Same H1 (upd H D o):=fun {H o} h b u e=>by
    rw [upd_ne (ne_of_none e hD)];exact h b u e
  refine ⟨fun i m ys τ H=>m=n - i∧i≤n∧ys.length≤i∧R i ys H∧Same H1 H∧H D=some (.lst ys)∧C τ,⟨n,by simp,Nat.zero_le _,Nat.le_refl _,hm _ _ _ _ (Same.ts (ext (Same.refl _))) h0,ext (Same.refl _),upd_same,hC⟩,?_⟩
  rintro i m ys τ H ⟨rfl,hi,hl,hR,hS,hy,hc⟩
  refine ⟨hy,?_⟩
  by_cases hlt:i < n
  · refine .inr ⟨go i H hS hlt,Nat.lt_of_le_of_lt (by omega:ys.length≤1000000) (by decide),_,?_,_,?_,fun x H' y=>hs i x τ ys H H' hc hS hlt hR y⟩
    · rintro v τ' H4 ⟨c4,r4,s4⟩
      have y4:=s4 _ _ hy
      exact ⟨y4,n - (i + 1),by omega,rfl,hlt,by simp;omega,hm _ _ _ _ (fun b zs e=>by rw [upd_ne (ne_of e y4 (by simp))];exact e) r4,ext (hS.trans s4),upd_same,c4⟩
    · rintro τ' H4 ⟨c4,r4,s4⟩
      exact ⟨n - (i + 1),by omega,rfl,hlt,by omega,r4,hS.trans s4,s4 _ _ hy,c4⟩
  · obtain rfl:i=n:=by omega
    exact .inl ⟨stop H hS,hd ys H hl hR hS hy⟩
theorem last_mem {p:Pl} {w:Int}:∀ {l:List Row},lastW l p=some w→(p,w)∈l
  | [],h=>by cases h
  | r :: t,h=>by
    rw [lastW] at h
    cases e:lastW t p with
    | some w' =>
      rw [e] at h
      have:w'=w:=by simpa using h
      subst this
      exact List.mem_cons_of_mem _ (last_mem e)
    | none =>
      rw [e] at h
      by_cases c:r.1=p
      · rw [if_pos c] at h
        have:r.2=w:=by simpa using h
        rw [← c,← this];exact List.mem_cons_self
      · rw [if_neg c] at h;cases h
theorem abc_in:∀ c∈(Str.ofString "abcdefghijklmnopqrstuvwxyz").cps.toList,inL c=true:=by decide +kernel
theorem all_one {c:Nat} (h:inL c=true):(⟨#[c]⟩:Str).cps.toList.all inL=true:=by
  show [c].all inL=true
  rw [List.all_cons,h];rfl
theorem LW_take {x:Str} {k:Nat} (h:LW x) (hk:1≤k):LW (Txt.slice x none (some (k:Int))):=by
  obtain ⟨h1,h2,h3⟩:=h
  have e:=slice_to x k
  rw [len_cps] at h2 h3
  refine ⟨by rw [e];exact all_take h1 _,?_,?_⟩ <;> rw [len_cps,e,List.length_take] <;> omega
theorem rdp_is_worth {x:V} (hK:IntFact K) (h:(∃ i,x=.int i∧∀ H',Same H H'→Q (.bl (inW i)) H')∨(NoInt K H x∧∀ H',Same H H'→Q (.bl false) H')) :
    rd_is_worth K t { nx:=fun _ H'=>Q .non H',rt:=Q } (L2.start ["thing"] [x]) H:=by
  simp only [rd_is_worth,L2.start,tSeq,tRet,tNext,tOp,tUn,tVar,tC,tCons,tNil,tIfS,tOr,tNot,tB,tCB,tChain,rI,rI0,rU,cIsi,List.map,List.replicate,List.length,List.append,jqa,jqb,jqc,jqd,jqe,jqf,jqg,jqh,jqi,jqj,jqk,jql,jqm,jqn,and_true,true_and,and_assoc,jqo,jqp,jqq,Nat.reduceSub,Nat.reduceAdd,jqr,jqs,jqt,Int.reduceToNat,Int.reducePow,Int.reduceNeg,Int.reduceMul,Int.reduceAdd,if_true,ite_true,jqu,ite_false,if_false]
  rcases h with ⟨i,rfl,q⟩ | ⟨⟨T,b,ty,k1,k2⟩,q⟩
  · have q:=q H (Same.refl H)
    refine ⟨_,.int i,true,kit_same _,?_⟩
    rw [if_neg (by decide)]
    refine ⟨_,.int i,false,hK,?_⟩
    rw [if_neg (by decide)]
    refine ⟨pow10 (by decide) (by decide),_,rfl,ite2 (fun c=>⟨pow10 (by decide) (by decide),_,rfl,?_⟩) fun c=>?_⟩
    · have e:inW i=decide (i≤1000000000000000000000000000000):=by
        unfold inW
        by_cases h:i≤1000000000000000000000000000000
        · rw [decide_eq_true h,decide_eq_true ⟨c,h⟩]
        · rw [decide_eq_false h,decide_eq_false fun z=>h z.2]
      rw [e] at q
      exact q
    · have e:inW i=false:=decide_eq_false fun z=>c z.1
      rw [e] at q
      exact q
  · have q:=q H (Same.refl H)
    refine ⟨_,ty,b,k1,ite2 (fun _=>q) fun c=>⟨_,ty,true,k2 (by simpa using c),?_⟩⟩
    rw [if_pos rfl]
    exact q
theorem log_inW {w:Int} (hw:inW w=true):w.natAbs.log2 < 1920:=by
  have hw':-1000000000000000000000000000000≤w∧w≤1000000000000000000000000000000:=of_decide_eq_true hw
  by_cases h0:w.natAbs=0
  · rw [h0];decide
  · exact Nat.lt_of_lt_of_le ((Nat.log2_lt h0 (k:=100)).mpr (Nat.lt_of_le_of_lt (by omega:w.natAbs≤1000000000000000000000000000000) (by decide +kernel))) (by decide)
theorem rdp_numeral {w:Int} (hw:inW w=true) (q:∀ H',Same H H'→Q (.str (numS w)) H') :
    rd_numeral K t { nx:=fun _ H'=>Q .non H',rt:=Q } (L2.start ["worth"] [.int w]) H:=by
  simp only [rd_numeral,L2.start,tRet,tVar,tCons,tNil,tCB,cStr,List.map,List.replicate,List.length,List.append,jqa,jqb,jqc,jqd,jqe,jqf,jqg,jqh,jqi,jqj,jqk,jql,jqm,jqn,and_true,true_and,and_assoc,jqo,jqp,jqq,Nat.reduceSub,Nat.reduceAdd,jqr,jqs,jqt,Int.reduceToNat,Int.reducePow,Int.reduceNeg,Int.reduceMul,Int.reduceAdd,if_true,ite_true,jqu,ite_false,if_false]
  exact ⟨log_inW hw,q _ (Same.refl H)⟩
theorem bl_list {x:Str} {f:Nat→Bool} {ys:List V} (hl:ys.length=x.cps.size) (hv:∀ (i:Nat) (v:V),ys[i]?=some v→∃ c,x.cps[i]?=some c∧v=.bl (f c)):ys=(x.cps.toList.map f).map V.bl:=by
  apply List.ext_getElem?
  intro i
  by_cases hi:i < ys.length
  · obtain ⟨c,hc,e⟩:=hv i ys[i] (List.getElem?_eq_getElem hi)
    rw [List.getElem?_eq_getElem hi,e,List.getElem?_map,List.getElem?_map]
    have hc':x.cps.toList[i]?=some c:=by simpa using hc
    rw [hc'];rfl
  · rw [List.getElem?_eq_none (by omega),List.getElem?_eq_none]
    rw [List.length_map,List.length_map]
    have:x.cps.toList.length=x.cps.size:=by simp
    omega
theorem rdp_is_figures {x:Str} (hx:x.length≤1000) (q:∀ H',Same H H'→Q (.bl (isFig x)) H') :
    rd_is_figures K t { nx:=fun _ H'=>Q .non H',rt:=Q } (L2.start ["text"] [.str x]) H:=by
  simp only [rd_is_figures,L2.start,gName,tRet,tOp,tVar,tC,tCons,tNil,tAndV,tCB,tComp,tYes,capV,iStr,rNe,rInS,cAll,scal,List.map,List.replicate,List.length,List.append,jqa,jqb,jqc,jqd,jqe,jqf,jqg,jqh,jqi,jqj,jqk,jql,jqm,jqn,and_true,true_and,and_assoc,jqo,jqp,jqq,Nat.reduceSub,Nat.reduceAdd,jqr,jqs,jqt,Int.reduceToNat,Int.reducePow,Int.reduceNeg,Int.reduceMul,Int.reduceAdd,if_true,ite_true,jqu,ite_false,if_false]
  refine ite2 (fun c D hD=>?_) fun c=>?_
  · refine comp_gen (J:=Its x) x.cps.size (by show x.length≤_;omega) (fun τ=>∃ o,τ=[o]) (fun i v=>∃ c,x.cps[i]?=some c∧v=.bl (inF c)) ⟨_,rfl⟩ (fun i H _ h=>h) (fun H _=>Nat.le_refl _) hD ?_ ?_
    · rintro i v τ H2 H' ⟨o,rfl⟩ hS hi ⟨rfl,c,hc,rfl⟩
      exact ⟨_,rfl,_,rfl,⟨_,rfl⟩,⟨c,hc,rfl⟩,Same.refl _⟩
    · intro ys H' hl hv hS hq
      refine ⟨x.cps.toList.map inF,SqL.of (by rw [← bl_list hl hv];exact hq),?_⟩
      have e:isFig x=(x.cps.toList.map inF).all id:=by
        unfold isFig
        rw [decide_eq_false c,List.all_map];rfl
      rw [← e]
      exact q _ hS
  · have e:isFig x=false:=by
      unfold isFig
      rw [decide_eq_true (Classical.not_not.mp c)];rfl
    rw [e] at q
    exact q _ (Same.refl H)
theorem num_rest {x:Str} (hx:x.length≤1000) (q:∀ H',Same H H'→Q (.bl (isNum x)) H'):(fpart x).length≤sizeLine∧if 31 < ((fpart x).length:Int) then Q (V.bl false) H else
      (fpart x).length≤1000∧∀ H',Same H H'→if isFig (fpart x)=false then Q (V.bl false) H' else
        ∃ n,intText? x=some n∧x.length≤640∧((∀ H2,Same H' H2→if inW n=true then inW n=true∧∀ H3,Same H2 H3→Q (V.bl (decide (numS n=x))) H3 else Q (V.bl false) H2) ∨
          NoInt K H' (V.int n)∧∀ H2,Same H' H2→Q (V.bl false) H2):=by
  have h1:=fpart_le x
  have h2:=fpart_len x
  refine ⟨small_size (by omega),ite2 (fun c=>?_) fun c=>⟨by omega,fun H' s=>ite2 (fun f=>?_) fun f=>?_⟩⟩
  · have e:isNum x=false:=by unfold isNum;rw [decide_eq_true (by omega:31 < (fpart x).length)];rfl
    rw [e] at q;exact q _ (Same.refl H)
  · have e:isNum x=false:=by unfold isNum;rw [f];simp
    rw [e] at q;exact q _ s
  · have f':isFig (fpart x)=true:=by simpa using f
    have en:isNum x=(inW (valOf x) && decide (numS (valOf x)=x)):=by
      unfold isNum
      rw [f',decide_eq_false (by omega:¬ 31 < (fpart x).length)];rfl
    refine ⟨_,int_of_fig f' (by omega),by omega,.inl fun H2 s2=>ite2 (fun w=>⟨w,fun H3 s3=>?_⟩) fun w=>?_⟩
    · rw [w,Bool.true_and] at en
      rw [en] at q
      exact q _ (s.trans (s2.trans s3))
    · rw [Bool.eq_false_iff.mpr w,Bool.false_and] at en
      rw [en] at q
      exact q _ (s.trans s2)
theorem rdp_is_numeral {x:Str} (hx:x.length≤1000) (q:∀ H',Same H H'→Q (.bl (isNum x)) H') :
    rd_is_numeral K t { nx:=fun _ H'=>Q .non H',rt:=Q } (L2.start ["text","figures","worth"] [.str x]) H:=by
  simp only [rd_is_numeral,sp_is_figures,sp_is_worth,sp_numeral,L2.start,tSeq,tAsg,gName,tRet,tNext,tOp,tVar,tC,tCons,tNil,tIfS,tOr,tNot,tTest,tB,tAndV,tIf,tCB,tBM,tyV,tSl,tPart,tNoPart,tCall,LenV,rEq,rI0,rSlS,cLen,cInt,r_mt_startswith,scal,List.map,List.replicate,List.length,List.append,jqa,jqb,jqc,jqd,jqe,jqf,jqg,jqh,jqi,jqj,jqk,jql,jqm,jqn,and_true,true_and,and_assoc,jqo,jqp,jqq,Nat.reduceSub,Nat.reduceAdd,jqr,jqs,jqt,Int.reduceToNat,Int.reducePow,Int.reduceNeg,Int.reduceMul,Int.reduceAdd,if_true,ite_true,jqu,ite_false,if_false]
  have r:=num_rest (K:=K) hx q
  unfold fpart at r
  rw [starts_eq]
  have e1:(Str.ofString "-").cps.toList=[45]:=by decide +kernel
  have e2:(Str.ofString "-").length=1:=by decide +kernel
  rw [e1,e2]
  by_cases c:(x.cps.toList.take 1 == [45])=true
  · simp only [if_pos c] at r ⊢
    exact ⟨small_size (by omega),r⟩
  · simp only [if_neg c] at r ⊢
    exact r
theorem rdp_worth_in {x:Str} {E:XK} (hx:x.length≤1000) (ha:Asc x) (q:∀ H',Same H H'→if isNum x=true then Q (.int (valOf x)) H' else E (.ref t.c_NoNumber) none H') :
    rd_worth_in K t E { nx:=fun _ H'=>Q .non H',rt:=Q } (L2.start ["text"] [.str x]) H:=by
  simp only [rd_worth_in,sp_is_numeral,L2.start,tRaise,tMsgR,tSeq,tRet,tNext,tVar,tCons,tNil,tIfS,tNot,tB,tCB,tCall,cInt,List.map,List.replicate,List.length,List.append,jqa,jqb,jqc,jqd,jqe,jqf,jqg,jqh,jqi,jqj,jqk,jql,jqm,jqn,and_true,true_and,and_assoc,jqo,jqp,jqq,Nat.reduceSub,Nat.reduceAdd,jqr,jqs,jqt,Int.reduceToNat,Int.reducePow,Int.reduceNeg,Int.reduceMul,Int.reduceAdd,if_true,ite_true,jqu,ite_false,if_false]
  refine ⟨hx,fun H' s=>?_⟩
  have q:=q H' s
  by_cases hn:isNum x=true
  · rw [if_neg (by rw [hn];decide)]
    rw [if_pos hn] at q
    unfold isNum at hn
    rw [Bool.and_eq_true,Bool.not_eq_true',Bool.or_eq_false_iff,decide_eq_false_iff_not] at hn
    have h2:=fpart_len x
    have hf:isFig (fpart x)=true:=by simpa using hn.1.2
    exact ⟨_,int_of_fig hf (by omega),by omega,q⟩
  · rw [if_neg hn] at q
    rw [if_pos (by simpa using hn)]
    exact ⟨by omega,ha,fun y=>⟨by decide,q⟩⟩
theorem isName_long {x:Str} (h:6 < x.length):isName x=false:=by
  unfold isName
  rw [decide_eq_true h]
  simp
theorem rdp_is_name {x:Str} (hx:x.length≤1000) (hJ:∀ H,SqT K H t.c_JOINING jw) (hR:∀ H,SqT K H t.c_ROW_WORDS wl) (q:∀ H',Same H H'→Q (.bl (isName x)) H') :
    rd_is_name K t { nx:=fun _ H'=>Q .non H',rt:=Q } (L2.start ["text"] [.str x]) H:=by
  simp only [rd_is_name,L2.start,tSeq,gName,tRet,tNext,tOp,tVar,tC,tCons,tNil,tIfS,tOr,tTest,tCB,tComp,tYes,capV,LenV,iStr,rEq,rI0,rIn,rInS,cLen,cAll,scal,List.map,List.replicate,List.length,List.append,jqa,jqb,jqc,jqd,jqe,jqf,jqg,jqh,jqi,jqj,jqk,jql,jqm,jqn,and_true,true_and,and_assoc,jqo,jqp,jqq,Nat.reduceSub,Nat.reduceAdd,jqr,jqs,jqt,Int.reduceToNat,Int.reducePow,Int.reduceNeg,Int.reduceMul,Int.reduceAdd,if_true,ite_true,jqu,ite_false,if_false]
  refine ite2 (fun e=>?_) fun e0=>⟨small_size (by omega),ite2 (fun e=>?_) fun e6=>⟨_,.inr (hJ H),rfl,rfl,ite2 (fun e=>?_) fun eJ=>⟨_,.inr (hR H),rfl,rfl,ite2 (fun e=>?_) fun eR D hD=>?_⟩⟩⟩
  · rw [show isName x=false by rw [e];decide +kernel] at q
    exact q _ (Same.refl H)
  · rw [isName_long (by omega)] at q
    exact q _ (Same.refl H)
  · rw [show isName x=false by unfold isName;rw [e];simp] at q
    exact q _ (Same.refl H)
  · rw [show isName x=false by unfold isName;rw [e];simp] at q
    exact q _ (Same.refl H)
  have en:isName x=x.cps.toList.all inL:=by
    unfold isName
    rw [decide_eq_false e0,decide_eq_false (by omega:¬ 6 < x.length),Bool.eq_false_iff.mpr eJ,Bool.eq_false_iff.mpr eR]
    simp
  refine comp_gen (J:=Its x) x.cps.size (by show x.length≤_;omega) (fun τ=>∃ o,τ=[o]) (fun i v=>∃ c,x.cps[i]?=some c∧v=.bl (inL c)) ⟨_,rfl⟩ (fun i H _ h=>h) (fun H _=>Nat.le_refl _) hD ?_ ?_
  · rintro i v τ H2 H' ⟨o,rfl⟩ hS hi ⟨rfl,c,hc,rfl⟩
    exact ⟨_,rfl,_,rfl,⟨_,rfl⟩,⟨c,hc,rfl⟩,Same.refl _⟩
  · intro ys H' hl hv hS hq
    have ey:ys=(x.cps.toList.map inL).map V.bl:=by
      apply List.ext_getElem?
      intro i
      by_cases hi:i < ys.length
      · obtain ⟨c,hc,e⟩:=hv i ys[i] (List.getElem?_eq_getElem hi)
        rw [List.getElem?_eq_getElem hi,e,List.getElem?_map,List.getElem?_map]
        have hc':x.cps.toList[i]?=some c:=by simpa using hc
        rw [hc'];rfl
      · rw [List.getElem?_eq_none (by omega),List.getElem?_eq_none]
        rw [List.length_map,List.length_map]
        have:x.cps.toList.length=x.cps.size:=by simp
        omega
    refine ⟨x.cps.toList.map inL,SqL.of (by rw [← ey];exact hq),?_⟩
    rw [List.all_map,show (id ∘ inL)=inL from rfl,← en]
    exact q _ hS
theorem at_nat {xs:List V} {n:Nat} {v:V} (h:xs[n]?=some v):atI xs (n:Int)=some v:=atI_nat h
theorem cut_from {α:Type} (f:α→V) (xs:List α) {k:Nat} (h:k≤xs.length):cutV (xs.map f) (some (k:Int)) none=(xs.drop k).map f:=by
  unfold cutV
  have e1:HT.sIx (xs.map f).length 0 (some (k:Int))=k:=by
    show (if (k:Int) < 0 then ((k:Int) + ((xs.map f).length:Int)).toNat else min (k:Int).toNat (xs.map f).length)=k
    rw [if_neg (by omega),Int.toNat_natCast,List.length_map]
    omega
  have e2:HT.sIx (xs.map f).length (xs.map f).length none=xs.length:=by
    show (xs.map f).length=_
    rw [List.length_map]
  rw [e1,e2,← List.map_drop,List.take_of_length_le (by rw [List.length_map,List.length_drop];omega)]
theorem loop_range3 {σ:St} {H:Hp} {nx:St→Hp→Prop} {B:V→St→Hp→(St→Hp→Prop)→Prop} {lo c:Int} {n:Nat} (Pv:Nat→St→Hp→Prop) (h0:Pv 0 σ H) (hs:∀ i σ H,i < n→Pv i σ H→B (.int (lo + i * c)) σ H (Pv (i + 1))) (hd:∀ σ H,Pv n σ H→nx σ H) :
    ∃ W:Nat→Nat→St→Hp→Prop,(∃ m,W 0 m σ H)∧∀ i m σ H,W i m σ H→((Itr3 lo c n).stop i H∧nx σ H)∨((Itr3 lo c n).go i H∧∃ N:St→Hp→Prop,(∀ σ' H',N σ' H'→∃ m',m' < m∧W (i + 1) m' σ' H')∧∀ x H',(Itr3 lo c n).yld i H x H'→B x σ H' N):=by
  refine ⟨fun i m σ H=>m=n - i∧i≤n∧Pv i σ H,⟨n,by simp,Nat.zero_le _,h0⟩,?_⟩
  rintro i m σ H ⟨rfl,hi,p⟩
  by_cases hlt:i < n
  · refine .inr ⟨hlt,Pv (i + 1),fun σ' H' p'=>⟨n - (i + 1),by omega,rfl,hlt,p'⟩,?_⟩
    rintro x H' ⟨rfl,rfl⟩
    exact hs i σ _ hlt p
  · obtain rfl:i=n:=by omega
    exact .inl ⟨Nat.le_refl _,hd σ H p⟩
theorem cnt_lt {i:Nat} {j c:Int} (hj:0≤j) (hc:0 < c) (h:i < cntR 0 j c):(i:Int) * c < j:=by
  unfold cntR at h
  split at h
  · have h2:(i:Int)≤(j - 0 - 1) / c:=by omega
    have h3:=(Int.le_ediv_iff_mul_le hc).mp h2
    omega
  · omega
theorem dput_go {H1:Hp} {d p:Addr} {rows:List Row} {q:Row} (hd:H1 d=some (.dT (dOf rows))) (hp:H1 p=some (.tup [.str q.1.1,.int q.1.2])) (hl:rows.length≤1000):DPut H1 d (.ref p) (.int q.2) (upd H1 d (.dT (dOf (rows ++ [q])))):=by
  rw [dOf_snoc]
  have:=len_dOf rows
  exact DPut.t (k:=plKey q.1) hd hp (Nat.lt_of_le_of_lt (by omega:(dOf rows).length≤1000) (by decide))
def drwI (c m:Int) (A:Addr) (H:Hp) (i:Nat) (σ:St) (H':Hp):Prop:=∃ lo hi o,∃ xs:List Int,σ=[some (.int c),some (.int m),some (.int lo),some (.int hi),some (.ref A),o]∧(0≤lo∧lo < 1500000000)∧(0≤hi∧hi < 1500000000)∧H' A=some (.lst (xs.map V.int))∧xs.length=i∧(∀ x∈xs,drI x)∧Same H H'
theorem drw_put {c m lo hi:Int} {A:Addr} {H H':Hp} {i:Nat} {o:Option V} {xs:List Int} (hA:H A=none) (hx:H' A=some (.lst (xs.map V.int))) (hl:xs.length=i) (hs:∀ x∈xs,drI x) (S:Same H H') (l1:0≤lo∧lo < 1500000000) (l2:0≤hi∧hi < 1500000000) :
    drwI c m A H (i + 1) [some (.int c),some (.int m),some (.int lo),some (.int hi),some (.ref A),o] (upd H' A (.lst (xs.map V.int ++ [V.int (lo + hi)]))):=by
  refine ⟨_,_,_,xs ++ [lo + hi],rfl,l1,l2,?_,?_,?_,?_⟩
  · rw [upd_same,List.map_append];rfl
  · rw [List.length_append,hl];rfl
  · intro x hx
    rcases List.mem_append.mp hx with h | h
    · exact hs x h
    · rw [List.mem_singleton.mp h];exact ⟨by omega,by omega⟩
  · exact fun b o e=>by rw [upd_ne (fun z=>by subst z;rw [hA] at e;cases e)];exact S _ _ e
theorem rdp__law_drawn {c m:Int} (h0:0≤m) (h1:m≤64) (q:∀ l xs H',Same H H'→H l=none→H' l=some (.lst (List.map V.int xs))→(xs.length:Int)=m→(∀ x∈xs,drI x)→Q (.ref l) H') :
    rd__law_drawn K t { nx:=fun _ H'=>Q .non H',rt:=Q } (L2.start ["cell","many","low","high","found","k"] [.int c,.int m]) H:=by
  simp only [rd__law_drawn,L2.start,r_mt_append,rAppend,tSeq,tAsg,gName,tRet,tDrop,tOp,tVar,tC,tLst,tCons,tNil,tFor,tBM,tyV,iRng1,rI,rI0,List.map,List.replicate,List.length,List.append,jqa,jqb,jqc,jqd,jqe,jqf,jqg,jqh,jqi,jqj,jqk,jql,jqm,jqn,and_true,true_and,and_assoc,jqo,jqp,jqq,Nat.reduceSub,Nat.reduceAdd,jqr,jqs,jqt,Int.reduceToNat,Int.reducePow,Int.reduceNeg,Int.reduceMul,Int.reduceAdd,if_true,ite_true,jqu,ite_false,if_false]
  have hb:(10000000000000000000000000000000000000000000000:Int) < big:=by decide +kernel
  have g1:=Int.emod_nonneg c (b:=999999937) (by decide)
  have g2:=Int.emod_lt_of_pos c (b:=999999937) (by decide)
  have g3:=Int.emod_nonneg (c / 999999937) (b:=999999929) (by decide)
  have g4:=Int.emod_lt_of_pos (c / 999999937) (b:=999999929) (by decide)
  refine ⟨by decide,dB,by decide,Nat.zero_le _,fun A hA=>⟨by omega,by omega,loop_range (drwI c m A H) ⟨_,_,_,[],rfl,⟨by omega,by omega⟩,⟨by omega,by omega⟩,upd_same,rfl,(fun _ z=>nomatch z),isV A hA⟩ ?_ ?_⟩⟩
  · rintro i σ H' hi ⟨lo,hi,o,xs,rfl,l1,l2,hx,hl,hs,S⟩
    simp only [L2.start,r_mt_append,rAppend,tSeq,tAsg,gName,tRet,tDrop,tOp,tVar,tC,tLst,tCons,tNil,tFor,tBM,tyV,iRng1,rI,rI0,List.map,List.replicate,List.length,List.append,jqa,jqb,jqc,jqd,jqe,jqf,jqg,jqh,jqi,jqj,jqk,jql,jqm,jqn,and_true,true_and,and_assoc,jqo,jqp,jqq,Nat.reduceSub,Nat.reduceAdd,jqr,jqs,jqt,Int.reduceToNat,Int.reducePow,Int.reduceNeg,Int.reduceMul,Int.reduceAdd,if_true,ite_true,jqu,ite_false,if_false]
    have a1:=Int.emod_nonneg (lo * 40009 + hi + (0 + (i:Int))) (b:=999999937) (by decide)
    have a2:=Int.emod_lt_of_pos (lo * 40009 + hi + (0 + (i:Int))) (b:=999999937) (by decide)
    generalize (lo * 40009 + hi + (0 + (i:Int))) % 999999937=lo' at *
    have b1:=Int.emod_nonneg (hi * 31 + lo' * lo') (b:=999999929) (by decide)
    have b2:=Int.emod_lt_of_pos (hi * 31 + lo' * lo') (b:=999999929) (by decide)
    refine ⟨⟨⟨by omega,by omega⟩,by omega,by omega⟩,by decide,⟨⟨by omega,by omega⟩,by omega,by omega⟩,⟨⟨by omega,by omega⟩,by omega,by omega⟩,by decide,.inl ⟨_,SqL.of hx⟩,_,hx,Nat.lt_of_lt_of_le (m:=100000) (by rw [List.length_map];omega) (by decide),?_⟩
    exact drw_put hA hx hl hs S ⟨by omega,by omega⟩ ⟨by omega,by omega⟩
  · rintro σ H' ⟨lo,hi,o,xs,rfl,l1,l2,hx,hl,hs,S⟩
    exact ⟨_,rfl,q _ _ _ S hA hx (by omega) hs⟩
theorem at_dr {xs:List Int} {k:Nat} (h:k < xs.length) (hs:∀ x∈xs,drI x):∃ x,atI (xs.map V.int) (k:Int)=some (V.int x)∧drI x:=by
  obtain ⟨v,h1,h2⟩:=at_lt (xs:=xs.map V.int) (i:=(k:Int)) (by omega) (by rw [List.length_map];omega)
  obtain ⟨x,hx,rfl⟩:=List.mem_map.mp h2
  exact ⟨x,h1,hs x hx⟩
theorem drI.cb {x:Int} (h:drI x):Cb x:=Cb.of (by obtain ⟨a,b⟩:=h;omega)
theorem free31 {x:Str} (h:LW x):isName (if inV (.str x) (wl ++ jw)=true then Txt.slice x none (some (-1)) ++ "q" else x)=true:=by
  obtain ⟨h1,h2,h3⟩:=h
  have e:inV (.str x) (wl ++ jw)=(inV (.str x) wl || inV (.str x) jw):=by unfold inV;rw [List.any_append]
  rw [e]
  by_cases a:inV (.str x) wl=true
  · rw [a,Bool.true_or,if_pos rfl]
    rcases (wl_str x).mp a with rfl | rfl | rfl | rfl | rfl | rfl | rfl | rfl | rfl <;> decide +kernel
  · by_cases b:inV (.str x) jw=true
    · rw [b,Bool.or_true,if_pos rfl]
      rcases (isJ_str x).mp b with rfl | rfl | rfl | rfl | rfl | rfl | rfl <;> decide +kernel
    · rw [Bool.eq_false_iff.mpr a,Bool.eq_false_iff.mpr b,if_neg (by decide)]
      have e0:¬ x="":=fun z=>by
        rw [z] at h2
        exact absurd h2 (by decide +kernel)
      unfold isName
      rw [decide_eq_false e0,decide_eq_false (by omega:¬ 6 < x.length),Bool.eq_false_iff.mpr a,Bool.eq_false_iff.mpr b,h1]
      rfl
theorem rdp__law_cell_at {a:Addr} {ns:List Int} {k:Nat} (hS:SqL K H a (ns.map V.int)) (hl:ns.length≤63) (hb:∀ i∈ns,Cb i) (q:∀ c H',Same H H'→Cb c→Q (.int c) H') :
    rd__law_cell_at K t { nx:=fun _ H'=>Q .non H',rt:=Q } (L2.start ["script","k"] [.ref a,.int k]) H:=by
  simp only [rd__law_cell_at,L2.start,tSeq,tRet,tNext,tOp,tVar,tC,tCons,tNil,tIfS,tTest,tCB,LenV,rIxL,rI0,cLen,List.map,List.replicate,List.length,List.append,jqa,jqb,jqc,jqd,jqe,jqf,jqg,jqh,jqi,jqj,jqk,jql,jqm,jqn,and_true,true_and,and_assoc,jqo,jqp,jqq,Nat.reduceSub,Nat.reduceAdd,jqr,jqs,jqt,Int.reduceToNat,Int.reducePow,Int.reduceNeg,Int.reduceMul,Int.reduceAdd,if_true,ite_true,jqu,ite_false,if_false]
  refine ⟨_,.inl ⟨_,hS,rfl⟩,ite2 (fun e=>?_) fun e=>?_⟩
  · rw [List.length_map] at e
    obtain ⟨v,h1,h2⟩:=at_lt (xs:=ns.map V.int) (i:=(k:Int)) (by omega) (by rw [List.length_map];omega)
    obtain ⟨x,hx,rfl⟩:=List.mem_map.mp h2
    exact ⟨_,hS,_,h1,q _ _ (Same.refl _) (hb x hx)⟩
  · exact q _ _ (Same.refl _) (Cb.of (by decide))
theorem wB_mod (e:Int):wB (e % 2000000000000000000000000000001 - 1000000000000000000000000000000):=by
  have g1:=Int.emod_nonneg e (b:=2000000000000000000000000000001) (by decide)
  have g2:=Int.emod_lt_of_pos e (b:=2000000000000000000000000000001) (by decide)
  exact ⟨by omega,by omega⟩
theorem cb_gold:Cw 618033988749894848204586834365:=by unfold Cw;decide +kernel
theorem cb_two:CMulC 2 1000000000000000000000000000000:=⟨by unfold Cw;decide +kernel,by unfold Cw;decide +kernel⟩
def nmI (sz:Int) (xl:Addr) (k at_:Int) (wd:Addr) (c:Int) (A:Addr) (H:Hp) (i:Nat) (σ:St) (H':Hp):Prop:=(∃ (x:Str) (o o2:Option V),σ=[some (.int c),some (.str (Str.ofString "abcdefghijklmnopqrstuvwxyz")),some (.ref wd),some (.int sz),some (.int at_),some (.ref xl),some (.ref A),some (.int k),some (.str x),o,o2]∧x.length=i∧x.cps.toList.all inL=true)∧H'=H
def nmsI (c sz at_:Int) (xl wd A:Addr) (H:Hp) (i:Nat) (σ:St) (H':Hp):Prop:=∃ (ws:List Str) (o1 o2 o3 o4:Option V),σ=[some (.int c),some (.str (Str.ofString "abcdefghijklmnopqrstuvwxyz")),some (.ref wd),some (.int sz),some (.int at_),some (.ref xl),some (.ref A),o1,o2,o3,o4]∧H' A=some (.lst (ws.map V.str))∧ws.length=i∧(∀ w∈ws,isName w=true)∧Same H H'
theorem rdp_nmB {D:Ends} {c sz at_ kk:Int} {l wd A:Addr} {x:Str} {o o2:Option V} {ws:List Str} (lw:LW x) (hA:H A=some (.lst (ws.map V.str))) (hl:ws.length≤10) (hw:H wd=some (.lst (wl ++ jw)))
    (q:∀ y,isName y=true→D.nx [some (.int c),some (.str (Str.ofString "abcdefghijklmnopqrstuvwxyz")),some (.ref wd),some (.int sz),some (.int at_),some (.ref l),some (.ref A),some (.int kk),some (.str y),o,o2] (upd H A (.lst (ws.map V.str ++ [V.str y])))) :
    rd__law_names_B K t D [some (.int c),some (.str (Str.ofString "abcdefghijklmnopqrstuvwxyz")),some (.ref wd),some (.int sz),some (.int at_),some (.ref l),some (.ref A),some (.int kk),some (.str x),o,o2] H:=by
  have hn:=free31 lw
  have l3:=lw.2.2
  have l4:=Txt.slice_le x none (some (-1))
  have l5:(ws.map V.str).length < sizeLine:=Nat.lt_of_lt_of_le (m:=100000) (by rw [List.length_map];omega) (by decide)
  simp only [rd__law_names_B,L2.start,r_mt_append,rAppend,tSeq,tAsg,gName,tDrop,tNext,tOp,tUn,tVar,tC,tCons,tNil,tIfS,tTest,tBM,tyV,tSl,tPart,tNoPart,rU,rIn,rSlS,rAddS,List.map,List.replicate,List.length,List.append,jqa,jqb,jqc,jqd,jqe,jqf,jqg,jqh,jqi,jqj,jqk,jql,jqm,jqn,and_true,true_and,and_assoc,jqo,jqp,jqq,Nat.reduceSub,Nat.reduceAdd,jqr,jqs,jqt,Int.reduceToNat,Int.reducePow,Int.reduceNeg,Int.reduceMul,Int.reduceAdd,if_true,ite_true,jqu,ite_false,if_false]
  refine ⟨_,.inl (SqL.of hw),rfl,by decide,ite2 (fun e=>?_) fun e=>?_⟩
  · rw [if_pos e] at hn
    exact ⟨small_size (by omega),small_size (by have:(Str.ofString "q").length=1:=rfl;omega),.inl ⟨_,SqL.of hA⟩,_,hA,l5,q _ hn⟩
  · rw [if_neg e] at hn
    exact ⟨.inl ⟨_,SqL.of hA⟩,_,hA,l5,q _ hn⟩
theorem nms_put {c sz at_:Int} {l wd A:Addr} {H H':Hp} {k:Nat} {y:Str} {o1 o3 o4:Option V} {ws:List Str} (hA:H A=none) (hx:H' A=some (.lst (ws.map V.str))) (hl:ws.length=k) (ok:∀ w∈ws,isName w=true) (S:Same H H') (hy:isName y=true) :
    nmsI c sz at_ l wd A H (k + 1) [some (.int c),some (.str (Str.ofString "abcdefghijklmnopqrstuvwxyz")),some (.ref wd),some (.int sz),some (.int at_),some (.ref l),some (.ref A),o1,some (.str y),o3,o4] (upd H' A (.lst (ws.map V.str ++ [V.str y]))):=by
  refine ⟨ws ++ [y],_,_,_,_,rfl,?_,?_,?_,?_⟩
  · rw [upd_same,List.map_append];rfl
  · rw [List.length_append,hl];rfl
  · intro x hx
    rcases List.mem_append.mp hx with h | h
    · exact ok x h
    · rw [List.mem_singleton.mp h];exact hy
  · exact fun b o e=>by rw [upd_ne (fun z=>by subst z;rw [hA] at e;cases e)];exact S _ _ e
theorem rdp_names5 {c sz at_:Int} {wd:Addr} (h1:1≤sz) (h2:sz≤6) (hw:H wd=some (.lst (wl ++ jw))) (q:∀ nm H',Same H H'→NamesAt H' nm→Q (.ref nm) H') :
    rd__law_names_5 K t { nx:=fun _ H'=>Q .non H',rt:=Q } [some (.int c),some (.str (Str.ofString "abcdefghijklmnopqrstuvwxyz")),some (.ref wd),some (.int sz),some (.int at_),none,none,none,none,none,none] H:=by
  have hb:(10000000000000000000000000000000000000000000000:Int) < big:=by decide +kernel
  simp only [rd__law_names_5,sp__law_drawn,cMax2,L2.start,cIntB,r_mt_append,rAppend,tSeq,tAsg,gName,tRet,tDrop,tNext,tOp,tUn,tVar,tC,tLst,tCons,tNil,tFor,tIfS,tTest,tCB,tBM,tyV,tSl,tPart,tNoPart,tCall,iRng1,rIxL,rIxS,rEq,rI,rI0,rU,rIn,rSlS,rAddS,scal,List.map,List.replicate,List.length,List.append,jqa,jqb,jqc,jqd,jqe,jqf,jqg,jqh,jqi,jqj,jqk,jql,jqm,jqn,and_true,true_and,and_assoc,jqo,jqp,jqq,Nat.reduceSub,Nat.reduceAdd,jqr,jqs,jqt,Int.reduceToNat,Int.reducePow,Int.reduceNeg,Int.reduceMul,Int.reduceAdd,if_true,ite_true,jqu,ite_false,if_false]
  refine ⟨dB,by omega,by omega,fun l xs H1 s1 _ hx hl hs=>⟨Nat.zero_le _,fun A hA=>⟨by decide,by decide,loop_range (nmsI c sz at_ l wd A H1) ⟨[],none,none,none,none,rfl,upd_same,rfl,(fun _ z=>nomatch z),isV A hA⟩ ?_ ?_⟩⟩⟩
  · rintro k σ H' hk ⟨ws,o1,o2,o3,o4,rfl,hA',hl',ok,S⟩
    simp only [cMax2,L2.start,cIntB,r_mt_append,rAppend,tSeq,tAsg,gName,tRet,tDrop,tNext,tOp,tUn,tVar,tC,tLst,tCons,tNil,tFor,tIfS,tTest,tCB,tBM,tyV,tSl,tPart,tNoPart,tCall,iRng1,rIxL,rIxS,rEq,rI,rI0,rU,rIn,rSlS,rAddS,scal,List.map,List.replicate,List.length,List.append,jqa,jqb,jqc,jqd,jqe,jqf,jqg,jqh,jqi,jqj,jqk,jql,jqm,jqn,and_true,true_and,and_assoc,jqo,jqp,jqq,Nat.reduceSub,Nat.reduceAdd,jqr,jqs,jqt,Int.reduceToNat,Int.reducePow,Int.reduceNeg,Int.reduceMul,Int.reduceAdd,if_true,ite_true,jqu,ite_false,if_false]
    obtain ⟨n,rfl⟩:∃ n:Nat,sz=n:=⟨sz.toNat,by omega⟩
    obtain ⟨x0,e0,d0'⟩:=at_dr (k:=n) (by omega) hs
    refine ⟨by omega,by omega,loop_range (nmI n l (0 + (k:Int)) at_ wd c A H') ⟨⟨_,_,_,rfl,rfl,rfl⟩,rfl⟩ ?_ ?_⟩
    · rintro i σ H2 hi ⟨⟨x,o,o2,rfl,hx1,hx2⟩,rfl⟩
      simp only [cMax2,L2.start,cIntB,r_mt_append,rAppend,tSeq,tAsg,gName,tRet,tDrop,tNext,tOp,tUn,tVar,tC,tLst,tCons,tNil,tFor,tIfS,tTest,tCB,tBM,tyV,tSl,tPart,tNoPart,tCall,iRng1,rIxL,rIxS,rEq,rI,rI0,rU,rIn,rSlS,rAddS,scal,List.map,List.replicate,List.length,List.append,jqa,jqb,jqc,jqd,jqe,jqf,jqg,jqh,jqi,jqj,jqk,jql,jqm,jqn,and_true,true_and,and_assoc,jqo,jqp,jqq,Nat.reduceSub,Nat.reduceAdd,jqr,jqs,jqt,Int.reduceToNat,Int.reducePow,Int.reduceNeg,Int.reduceMul,Int.reduceAdd,if_true,ite_true,jqu,ite_false,if_false]
      obtain ⟨xi,e1,d1⟩:=at_dr (k:=i) (by omega) hs
      have i0:(0 + (i:Int))=(i:Int):=by omega
      have b1:0≤(if 0 + (i:Int)=at_ then (1:Int) else 0)∧(if 0 + (i:Int)=at_ then (1:Int) else 0)≤1:=by split <;> exact ⟨by decide,by decide⟩
      generalize (if 0 + (i:Int)=at_ then (1:Int) else 0)=z at *
      have b2:-100 < (0 + (k:Int)) * z∧(0 + (k:Int)) * z < 100:=by
        have:z=0∨z=1:=by omega
        rcases this with rfl | rfl <;> exact ⟨by omega,by omega⟩
      generalize (0 + (k:Int)) * z=y at *
      rw [i0]
      obtain ⟨c2,hc2,hm2⟩:=at_mod (xi + y * (x0 % 2)) 26 abc_len (by decide)
      refine ⟨⟨⟨by omega,by omega⟩,by omega,by omega⟩,_,SqL.of (S _ _ hx),_,e0,_,rfl,by decide,⟨⟨by omega,by omega⟩,by omega,by omega⟩,_,SqL.of (S _ _ hx),_,e1,_,rfl,by decide,by decide +kernel,c2,hc2,small_size (by rw [one_len];omega),⟨⟨_,_,_,rfl,?_,?_⟩,rfl⟩⟩
      · rw [len_app,one_len];omega
      · rw [cps_app];exact all_app hx2 (all_one (abc_in c2 hm2))
    · rintro σ H2 ⟨⟨x,o,o2,rfl,hx1,hx2⟩,rfl⟩
      simp only [cMax2,L2.start,cIntB,r_mt_append,rAppend,tSeq,tAsg,gName,tRet,tDrop,tNext,tOp,tUn,tVar,tC,tLst,tCons,tNil,tFor,tIfS,tTest,tCB,tBM,tyV,tSl,tPart,tNoPart,tCall,iRng1,rIxL,rIxS,rEq,rI,rI0,rU,rIn,rSlS,rAddS,scal,List.map,List.replicate,List.length,List.append,jqa,jqb,jqc,jqd,jqe,jqf,jqg,jqh,jqi,jqj,jqk,jql,jqm,jqn,and_true,true_and,and_assoc,jqo,jqp,jqq,Nat.reduceSub,Nat.reduceAdd,jqr,jqs,jqt,Int.reduceToNat,Int.reducePow,Int.reduceNeg,Int.reduceMul,Int.reduceAdd,if_true,ite_true,jqu,ite_false,if_false]
      have lw:LW x:=⟨hx2,by omega,by omega⟩
      have wd':=S _ _ (s1 _ _ hw)
      refine ⟨_,SqL.of (S _ _ hx),_,e0,_,rfl,by decide,ite2 (fun e=>⟨small_size (by omega),?_⟩) fun e=>?_⟩
      · obtain ⟨m,hm,hm1⟩:∃ m:Nat,(if (n:Int) - (0 + (k:Int)) > 1 then (n:Int) - (0 + (k:Int)) else 1)=(m:Int)∧1≤m:=by
          by_cases z:(n:Int) - (0 + (k:Int)) > 1
          · rw [if_pos z];exact ⟨((n:Int) - (0 + (k:Int))).toNat,by omega,by omega⟩
          · rw [if_neg z];exact ⟨1,rfl,Nat.le_refl _⟩
        rw [hm]
        exact rdp_nmB (LW_take lw hm1) hA' (by omega) wd' fun y hy=>nms_put hA hA' hl' ok S hy
      · exact rdp_nmB lw hA' (by omega) wd' fun y hy=>nms_put hA hA' hl' ok S hy
  · rintro σ H' ⟨ws,o1,o2,o3,o4,rfl,hA',hl',ok,S⟩
    exact ⟨_,rfl,q _ _ (s1.trans S) ⟨ws,hA',by omega,ok⟩⟩
theorem rdp__law_names {c:Int} (q:∀ nm H',Same H H'→NamesAt H' nm→Q (.ref nm) H') :
    rd__law_names K t { nx:=fun _ H'=>Q .non H',rt:=Q } (L2.start ["cell","letters","words","size","at","xs","names","k","name","j","step"] [.int c]) H:=by
  have g1:=Int.emod_nonneg c (b:=6) (by decide)
  have g2:=Int.emod_lt_of_pos c (b:=6) (by decide)
  simp only [rd__law_names,rCat,cMax2,L2.start,cIntB,r_mt_append,rAppend,tSeq,tAsg,gName,tRet,tDrop,tNext,tOp,tUn,tVar,tC,tLst,tCons,tNil,tFor,tIfS,tTest,tCB,tBM,tyV,tSl,tPart,tNoPart,tCall,iRng1,rCat,rIxL,rIxS,rEq,rI,rI0,rU,rIn,rSlS,rAddS,scal,List.map,List.replicate,List.length,List.append,jqa,jqb,jqc,jqd,jqe,jqf,jqg,jqh,jqi,jqj,jqk,jql,jqm,jqn,and_true,true_and,and_assoc,jqo,jqp,jqq,Nat.reduceSub,Nat.reduceAdd,jqr,jqs,jqt,Int.reduceToNat,Int.reducePow,Int.reduceNeg,Int.reduceMul,Int.reduceAdd,if_true,ite_true,jqu,ite_false,if_false]
  refine ⟨by decide,fun p hp=>?_⟩
  have S1:=isV (o:=HO.lst wl) p hp
  have a1:upd H p (.lst wl) p=some (.lst wl):=upd_same
  generalize hH1:upd H p (.lst wl)=H1 at *
  rw [show upd H p (.lst [V.str (Str.ofString "take"),V.str (Str.ofString "give"),V.str (Str.ofString "let"),V.str (Str.ofString "say"),V.str (Str.ofString "off"),V.str (Str.ofString "if"),V.str (Str.ofString "else"),V.str (Str.ofString "end"),V.str (Str.ofString "as")])=H1 from hH1]
  refine ⟨by decide,fun p1 hp1=>?_⟩
  have S2:=isV (o:=HO.lst jw) p1 hp1
  have a2:upd H1 p1 (.lst jw) p1=some (.lst jw):=upd_same
  generalize hH2:upd H1 p1 (.lst jw)=H2 at *
  rw [show upd H1 p1 (.lst [V.str (Str.ofString "plus"),V.str (Str.ofString "minus"),V.str (Str.ofString "times"),V.str (Str.ofString "over"),V.str (Str.ofString "rest"),V.str (Str.ofString "under"),V.str (Str.ofString "same")])=H2 from hH2]
  refine ⟨wl,S2 _ _ a1,jw,a2,by decide,fun p2 hp2=>⟨by decide,dB,by omega,?_⟩⟩
  exact rdp_names5 (by omega) (by omega) upd_same fun nm H' s' hn=>q nm H' (S1.trans (S2.trans ((isV p2 hp2).trans s'))) hn
theorem paired_imp {α β:Type} {F G:α→β→Prop} (h:∀ a b,F a b→G a b):∀ {l₁:List α} {l₂:List β},Paired F l₁ l₂→Paired G l₁ l₂
  | _,_,.nil=>.nil
  | _,_,.cons a t=>.cons (h _ _ a) (paired_imp h t)
theorem paired_snoc {α β:Type} {F:α→β→Prop} {a:α} {b:β} (h:F a b):∀ {l₁:List α} {l₂:List β},Paired F l₁ l₂→Paired F (l₁ ++ [a]) (l₂ ++ [b])
  | _,_,.nil=>.cons h .nil
  | _,_,.cons x t=>.cons x (paired_snoc h t)
theorem PlV.same {H H':Hp} {v:V} {q:Pl} (s:Same H H') (h:PlV H v q):PlV H' v q:=by
  obtain ⟨p,e,h1⟩:=h
  exact ⟨p,e,s _ _ h1⟩
theorem pr_same {H H':Hp} {v:V} {q:Row} (s:Same H H') (h:PrAt H v q):PrAt H' v q:=by
  obtain ⟨r,p,e,h1,h2⟩:=h
  exact ⟨r,p,e,s _ _ h1,s _ _ h2⟩
theorem tup_upd {H:Hp} {A p:Addr} {xs ys zs:List V} (hA:H A=some (.lst xs)) (h:H p=some (.tup zs)):upd H A (.lst ys) p=some (.tup zs):=by
  rw [upd_ne (fun z=>by subst z;rw [hA] at h;cases h)];exact h
theorem pr_upd {H:Hp} {A:Addr} {xs ys:List V} {v:V} {q:Row} (hA:H A=some (.lst xs)) (h:PrAt H v q):PrAt (upd H A (.lst ys)) v q:=by
  obtain ⟨r,p,e,h1,h2⟩:=h
  exact ⟨r,p,e,tup_upd hA h1,tup_upd hA h2⟩
def plD (q:Pl):PyData:=.tuple [.str q.1,.int q.2]
theorem plD_dat {H:Hp} {v:V} {q:Pl} (h:PlV H v q):Dat K H v (plD q):=by
  obtain ⟨p,rfl,h1⟩:=h
  exact .tup (SqT.of h1) (.cons (.str _) (.cons (.int _) .nil))
theorem pls_dat {H:Hp}:∀ {xs:List V} {ps:List Pl},Paired (PlV H) xs ps→DatAll K H xs (ps.map plD)
  | _,_,.nil=>.nil
  | _,_,.cons h t=>.cons (plD_dat h) (pls_dat t)
theorem plD_ok {q:Pl} (h:isName q.1=true):plainD (plD q)=true:=by
  have e:PyData.strOk q.1=true:=(name_asc h).flat
  unfold plD
  rw [plainD,plainDs,plainDs,plainDs,plainD,plainD,e];rfl
def rwD (r:Row):PyData:=.tuple [plD r.1,.int r.2]
theorem wB_in {w:Int} (h:wB w):inW w=true:=decide_eq_true h
theorem rB_w {w:Int} (h:rB w):wB w:=by obtain ⟨a,b⟩:=h;constructor <;> omega
theorem Wd_num {w:Int} (h:inW w=true):Wd (numS w):=by
  refine ⟨(isNum_numS h).2.2,Asc.num w,fun z=>?_⟩
  have dg0:∀ m,32 ∉ dg m:=fun m hm=>by have:=dg_all m 32 hm;omega
  rcases Int.le_total 0 w with c | c
  · rw [show w=((w.toNat:Nat):Int) by omega,numS_nat] at z
    exact dg0 _ z
  · rcases Nat.eq_zero_or_pos w.natAbs with e | e
    · have:w=((0:Nat):Int):=by omega
      rw [this,numS_nat] at z
      exact dg0 _ z
    · rw [show w=-((w.natAbs:Nat):Int) by omega,numS_neg e] at z
      rcases List.mem_cons.mp z with z | z
      · cases z
      · exact dg0 _ z
theorem Wd_name {w:Str} (h:isName w=true):Wd w:=by
  obtain ⟨_,a,_,b⟩:=isName_parts h
  refine ⟨by omega,name_asc h,fun z=>?_⟩
  have:=List.all_eq_true.mp b 32 z
  revert this;decide +kernel
theorem Wd_why {w:Str} (h:w∈whyL):Wd w:=by
  unfold whyL at h
  simp only [List.mem_cons,List.not_mem_nil,or_false] at h
  rcases h with rfl | rfl | rfl <;> exact ⟨by decide +kernel,by unfold Asc;decide +kernel,by decide +kernel⟩
theorem Wd_const {x:String} (h:((Str.ofString x).cps.toList.all fun c=>decide (c < 128) && decide (c≠32))=true) (l:(Str.ofString x).length≤40):Wd (Str.ofString x):=by
  have h':=List.all_eq_true.mp h
  refine ⟨l,fun c hc=>?_,fun z=>?_⟩
  · have:=h' c hc
    simp only [Bool.and_eq_true,decide_eq_true_eq] at this
    exact this.1
  · have:=h' 32 z
    simp at this
theorem Wd_rows {rows:List Row} (h:∀ r∈rows,okPl r.1∧wB r.2):∀ w∈wsR rows,Wd w:=fun w hw=>by
  obtain ⟨r,hr,hw⟩:=List.mem_flatMap.mp hw
  obtain ⟨⟨a,b⟩,c⟩:=h r hr
  unfold rwW at hw
  simp only [List.mem_cons,List.not_mem_nil,or_false] at hw
  rcases hw with rfl | rfl | rfl
  · exact Wd_name a
  · exact Wd_num (wB_in b)
  · exact Wd_num (wB_in c)
theorem wsR_len:∀ (rows:List Row),(wsR rows).length=3 * rows.length
  | []=>rfl
  | r :: rows=>by
    show (rwW r ++ wsR rows).length=_
    rw [List.length_append,wsR_len rows,List.length_cons]
    show 3 + _=_
    omega
theorem Wd_oc {oc:Oc} (h:ocOk oc):(∀ w∈ocW oc,Wd w)∧(ocW oc).length≤21∧(";":Str) ∉ ocW oc:=by
  have semi:∀ w:Int,(";":Str)≠numS w:=fun w z=>by
    have e:(Str.ofString ";").cps.toList=[59]:=by decide +kernel
    have z':=congrArg (fun x:Str=>x.cps.toList) z
    have z':(Str.ofString ";").cps.toList=(numS w).cps.toList:=z'
    rw [e] at z'
    have dg0:∀ m,59 ∉ dg m:=fun m hm=>by have:=dg_all m 59 hm;omega
    rcases Int.le_total 0 w with c | c
    · rw [show w=((w.toNat:Nat):Int) by omega,numS_nat] at z'
      exact dg0 w.toNat (by rw [← z'];simp)
    · rcases Nat.eq_zero_or_pos w.natAbs with e | e
      · have:w=((0:Nat):Int):=by omega
        rw [this,numS_nat] at z'
        exact dg0 0 (by rw [← z'];simp)
      · rw [show w=-((w.natAbs:Nat):Int) by omega,numS_neg e] at z'
        cases z'
  cases oc with
  | done sa =>
    obtain ⟨h1,h2⟩:=h
    refine ⟨fun w hw=>?_,?_,fun z=>?_⟩
    · rcases List.mem_cons.mp hw with rfl | hw
      · exact Wd_const (by decide +kernel) (by decide +kernel)
      · obtain ⟨i,hi,rfl⟩:=List.mem_map.mp hw
        exact Wd_num (wB_in (h2 i hi))
    · show ((Str.ofString "done") :: sa.map numS).length≤21
      rw [List.length_cons,List.length_map];omega
    · rcases List.mem_cons.mp z with z | z
      · exact absurd z (by decide +kernel)
      · obtain ⟨i,hi,e⟩:=List.mem_map.mp z
        exact semi i e.symm
  | off w =>
    refine ⟨fun x hx=>?_,by show 2≤21;decide,fun z=>?_⟩
    · rcases List.mem_cons.mp hx with rfl | hx
      · exact Wd_const (by decide +kernel) (by decide +kernel)
      · rw [List.mem_singleton.mp hx];exact Wd_why h
    · have h:w∈whyL:=h
      rcases List.mem_cons.mp z with z | z
      · exact absurd z (by decide +kernel)
      · have e:=List.mem_singleton.mp z
        rw [← e] at h
        exact absurd h (by decide +kernel)
def b32:Str:=⟨#[32]⟩
theorem b32_eq:(Str.ofString " ")=b32:=by decide +kernel
theorem b32_len:(Str.ofString " ").length=1:=by decide +kernel
theorem sum_le:∀ {ws:List Str},(∀ w∈ws,Wd w)→(ws.map (·.length)).sum≤40 * ws.length
  | [],_=>Nat.le_refl _
  | w :: ws,h=>by
    have a:=sum_le (ws:=ws) fun x hx=>h x (List.mem_cons_of_mem _ hx)
    have b:=(h w List.mem_cons_self).1
    simp only [List.map_cons,List.sum_cons,List.length_cons]
    omega
theorem join_len {ws:List Str} (h:∀ w∈ws,Wd w):sumL (Str.ofString " ") ws≤41 * ws.length:=by
  have:=sumL_eq (Str.ofString " ") ws 0
  unfold sumL
  rw [this,b32_len]
  have:=sum_le h
  omega
theorem join_le {ws:List Str} (h:∀ w∈ws,Wd w):(joinS (Str.ofString " ") ws).length≤41 * ws.length:=Nat.le_trans (joinS_len _ _) (join_len h)
theorem join_asc:∀ {ws:List Str},(∀ w∈ws,Wd w)→Asc (joinS (Str.ofString " ") ws)
  | [],_=>by rw [joinS_eq];intro c hc;revert hc;decide +revert
  | [w],h=>by rw [joinS_eq];exact (h w List.mem_cons_self).2.1
  | w :: x :: ws,h=>by
    have ih:=join_asc (ws:=x :: ws) fun y hy=>h y (List.mem_cons_of_mem _ hy)
    rw [joinS_eq] at ih ⊢
    rw [join_cons]
    exact ((h w List.mem_cons_self).2.1.app (by unfold Asc;decide +kernel)).app ih
theorem wOf_ok (c:Int):wB (wOf c):=by
  unfold wOf
  split
  · exact wB_mod _
  · split
    · obtain ⟨x,e1,e2⟩:=at_mod (xs:=w8) (c / 4) 8 rfl (by decide)
      rw [show (c / 4 % ((8:Nat):Int))=c / 4 % 8 from rfl] at e1
      rw [e1]
      unfold w8 at e2
      simp only [List.mem_cons,List.not_mem_nil,or_false] at e2
      rcases e2 with rfl | rfl | rfl | rfl | rfl | rfl | rfl | rfl <;> exact ⟨by decide,by decide⟩
    · have g1:=Int.emod_nonneg (c / 4) (b:=7) (by decide)
      have g2:=Int.emod_lt_of_pos (c / 4) (b:=7) (by decide)
      exact ⟨by omega,by omega⟩
theorem rdp__law_worth {c:Int} (h:Cw c) (q:wB (wOf c)→∀ H',Same H H'→Q (.int (wOf c)) H') :
    rd__law_worth K t { nx:=fun _ H'=>Q .non H',rt:=Q } (L2.start ["cell","rest"] [.int c]) H:=by
  simp only [rd__law_worth,L2.start,tSeq,tAsg,gName,tRet,tNext,tOp,tUn,tVar,tC,tLst,tCons,tNil,tIfS,tTest,rIxL,rEq,rI,rI0,rU,scal,List.map,List.replicate,List.length,List.append,jqa,jqb,jqc,jqd,jqe,jqf,jqg,jqh,jqi,jqj,jqk,jql,jqm,jqn,and_true,true_and,and_assoc,jqo,jqp,jqq,Nat.reduceSub,Nat.reduceAdd,jqr,jqs,jqt,Int.reduceToNat,Int.reducePow,Int.reduceNeg,Int.reduceMul,Int.reduceAdd,if_true,ite_true,jqu,ite_false,if_false]
  have q:=q (wOf_ok c)
  unfold wOf at q
  refine ⟨dB,by decide,ite2 (fun e=>⟨⟨h.div,cb_gold⟩,pow10 (by decide) (by decide),cb_two,by decide,pow10 (by decide) (by decide),?_⟩) fun e=>⟨by decide,ite2 (fun e2=>⟨pow10 (by decide) (by decide),pow10 (by decide) (by decide),pow10 (by decide) (by decide),by decide,fun p hp=>⟨by decide,?_⟩⟩) fun e2=>⟨by decide,?_⟩⟩⟩
  · rw [if_pos e] at q
    exact q _ (Same.refl _)
  · rw [if_neg e,if_pos e2] at q
    obtain ⟨x,e3,e4⟩:=at_mod (xs:=w8) (c / 4) 8 rfl (by decide)
    rw [show (c / 4 % ((8:Nat):Int))=c / 4 % 8 from rfl] at e3
    refine ⟨w8,SqL.of upd_same,_,e3,?_⟩
    rw [e3] at q
    have S:=isV (o:=HO.lst w8) p hp
    unfold w8 at e4
    simp only [List.mem_cons,List.not_mem_nil,or_false] at e4
    rcases e4 with rfl | rfl | rfl | rfl | rfl | rfl | rfl | rfl <;> exact q _ S
  · rw [if_neg e,if_neg e2] at q
    exact q _ (Same.refl _)
theorem chk_rng (z:Str):0≤chkI z∧chkI z < 1009:=⟨Int.emod_nonneg _ (by decide),Int.emod_lt_of_pos _ (by decide)⟩
theorem chk_all:((List.range 1009).all fun n=>decide (zfS (numS (n:Nat)) 4=repS (Str.ofString "0") (4 - ((numS (n:Nat)).length:Int)) ++ numS (n:Nat)) && (decide ((zfS (numS (n:Nat)) 4).length=4) && ((zfS (numS (n:Nat)) 4).cps.toList.all fun c=>decide (c < 128) && decide (c≠32))))=true:=by decide +kernel
theorem chk_one {i:Int} (h0:0≤i) (h1:i < 1009):zfS (numS i) 4=repS (Str.ofString "0") (4 - ((numS i).length:Int)) ++ numS i∧(zfS (numS i) 4).length=4∧Asc (zfS (numS i) 4)∧32 ∉ (zfS (numS i) 4).cps.toList:=by
  have:=List.all_eq_true.mp chk_all i.toNat (List.mem_range.mpr (by omega))
  rw [show ((i.toNat:Nat):Int)=i by omega] at this
  simp only [Bool.and_eq_true,decide_eq_true_eq] at this
  obtain ⟨a,b,c⟩:=this
  have c':=List.all_eq_true.mp c
  refine ⟨a,b,fun d hd=>?_,fun z=>?_⟩
  · have:=c' d hd
    simp only [Bool.and_eq_true,decide_eq_true_eq] at this
    exact this.1
  · have:=c' 32 z
    simp at this
theorem chk_ok (z:Str):(chkS z).length=4∧Asc (chkS z)∧32 ∉ (chkS z).cps.toList:=(chk_one (chk_rng z).1 (chk_rng z).2).2
theorem ckL_len:∀ (cs:List Nat) (i:Nat),(ckL i cs).length=cs.length
  | [],_=>rfl
  | _ :: cs,i=>by show (ckL (i + 1) cs).length + 1=_;rw [ckL_len cs];rfl
theorem ckL_get:∀ (cs:List Nat) (i j:Nat) (c:Nat),cs[j]?=some c→(ckL i cs)[j]?=some ((c:Int) * (1 + ((i + j:Nat):Int) % 1008))
  | [],_,j,c,h=>by simp at h
  | d :: cs,i,0,c,h=>by
    simp only [List.getElem?_cons_zero,Option.some.injEq] at h
    subst h
    rfl
  | d :: cs,i,j + 1,c,h=>by
    have:=ckL_get cs (i + 1) j c (by simpa using h)
    rw [show i + 1 + j=i + (j + 1) by omega] at this
    exact this
theorem ckL_app:∀ (a b:List Nat) (i:Nat),ckL i (a ++ b)=ckL i a ++ ckL (i + a.length) b
  | [],b,i=>rfl
  | c :: a,b,i=>by
    show _ :: ckL (i + 1) (a ++ b)=_ :: (ckL (i + 1) a ++ _)
    rw [ckL_app a b (i + 1),List.length_cons,show i + 1 + a.length=i + (a.length + 1) by omega]
theorem asc_all {z:Str} (h:Asc z):z.cps.all (· < 128)=true:=by
  rw [← Array.all_toList,List.all_eq_true]
  exact fun c hc=>decide_eq_true (h c hc)
theorem big_small {i:Int} (h0:0≤i) (h1:i < 1000000):-big < i∧i < big:=by unfold big;constructor <;> omega
theorem rdp_check_of {z:Str} (h1:Asc z) (h2:z.length≤20000) (q:∀ H',Same H H'→Q (.str (chkS z)) H') :
    rd_check_of K t { nx:=fun _ H'=>Q .non H',rt:=Q } (L2.start ["body","total"] [.str z]) H:=by
  simp only [rd_check_of,cSumL,r_mt_zfill,iEnmS,cOrd,L2.start,tSeq,tAsg,gName,gTup,gCons,gNil,tRet,tOp,tVar,tC,tCons,tNil,tCB,tBM,tyV,tComp,tYes,capV,rI,rI0,cStr,List.map,List.replicate,List.length,List.append,jqa,jqb,jqc,jqd,jqe,jqf,jqg,jqh,jqi,jqj,jqk,jql,jqm,jqn,and_true,true_and,and_assoc,jqo,jqp,jqq,Nat.reduceSub,Nat.reduceAdd,jqr,jqs,jqt,Int.reduceToNat,Int.reducePow,Int.reduceNeg,Int.reduceMul,Int.reduceAdd,if_true,ite_true,jqu,ite_false,if_false]
  refine ⟨asc_all h1,fun D hD=>?_⟩
  refine comp_gen (J:=Ienz z) z.cps.size (by show z.length≤_;omega) (fun τ=>∃ o1 o2,τ=[o1,o2]) (fun i v=>∃ c,z.cps[i]?=some c∧v=.int ((c:Int) * (1 + (i:Int) % 1008))) ⟨_,_,rfl⟩ (fun i H _ h=>h) (fun H _=>Nat.le_refl _) hD ?_ ?_
  · rintro i v τ H2 H' ⟨o1,o2,rfl⟩ hS hi ⟨T,c,rfl,hT,rfl,hc⟩
    have lc:c < 128:=h1 c (by rw [← Array.getElem?_toList] at hc;exact List.mem_of_getElem? hc)
    refine ⟨_,rfl,_,SqT.of upd_same,rfl,_,_,rfl,_,_,rfl,rfl,_,rfl,_,rfl,rfl,_,rfl,_,rfl,by decide,⟨big_small (Int.natCast_nonneg _) (by show ((c:Nat):Int) < _;omega),big_small (by omega) (by omega)⟩,⟨_,_,rfl⟩,⟨c,hc,rfl⟩,isV T hT⟩
  · intro ys H' hl hv hS hq
    have e:ys=(ckL 0 z.cps.toList).map V.int:=by
      apply List.ext_getElem?
      intro i
      rcases Nat.lt_or_ge i ys.length with z1 | z1
      · obtain ⟨c,hc,e⟩:=hv i ys[i] (List.getElem?_eq_getElem z1)
        rw [← Array.getElem?_toList] at hc
        rw [List.getElem?_eq_getElem z1,e,List.getElem?_map,ckL_get _ 0 i c hc,Nat.zero_add]
        rfl
      · rw [List.getElem?_eq_none z1,List.getElem?_eq_none (by rw [List.length_map,ckL_len,Array.length_toList];omega)]
    rw [e] at hq
    have r:=chk_rng z
    refine ⟨_,SqL.of hq,by decide,?_,4,rfl,by decide,q H' hS⟩
    exact log_inW (w:=chkI z) (decide_eq_true ⟨by omega,by omega⟩)
theorem new_ob {H:Hp} {o:HO} {p:Addr} (h:H p=none):∃ H',H'=upd H p o∧Same H H'∧H' p=some o:=⟨_,rfl,isV p h,upd_same⟩
theorem OcAt.same {H H':Hp} {v:V} {oc:Oc} (h:OcAt H v oc) (s:Same H H'):OcAt H' v oc:=by
  cases oc with
  | done sa=>obtain ⟨o,y,e,a,b⟩:=h;exact ⟨o,y,e,s _ _ a,s _ _ b⟩
  | off w=>obtain ⟨o,e,a⟩:=h;exact ⟨o,e,s _ _ a⟩
theorem RwsAt.same {H H':Hp} {a:Addr} {rows:List Row} (h:RwsAt H a rows) (s:Same H H'):RwsAt H' a rows:=by
  obtain ⟨xs,hx,p⟩:=h
  exact ⟨xs,s _ _ hx,paired_imp (fun _ _=>pr_same s) p⟩
theorem Wd_deal {r:Int} {oc:Oc} {gs:List Row} (h2:rB r) (h4:ocOk oc) (h6:rsOk gs):∀ w∈dealW r oc gs,Wd w:=fun w hw=>by
  unfold dealW at hw
  simp only [List.mem_cons,List.mem_append] at hw
  rcases hw with rfl | rfl | hw | rfl | hw
  · exact Wd_const (by decide +kernel) (by decide +kernel)
  · exact Wd_num (wB_in (rB_w h2))
  · exact (Wd_oc h4).1 w hw
  · exact Wd_const (by decide +kernel) (by decide +kernel)
  · exact Wd_rows h6.nm w hw
theorem Wd_mark {r:Int} {gs:List Row} (h2:rB r) (h6:rsOk gs):∀ w∈markW r gs,Wd w:=fun w hw=>by
  unfold markW at hw
  simp only [List.mem_cons] at hw
  rcases hw with rfl | rfl | rfl | hw
  · exact Wd_const (by decide +kernel) (by decide +kernel)
  · exact Wd_num (wB_in (rB_w h2))
  · exact Wd_const (by decide +kernel) (by decide +kernel)
  · exact Wd_rows h6.nm w hw
theorem off_done:V.str (Str.ofString "done")≠V.str (Str.ofString "off"):=by intro z;injection z with z;revert z;decide +kernel
theorem wsR_snoc {rows:List Row} {i:Nat} {r:Row} (h:rows[i]?=some r):wsR (rows.take (i + 1))=wsR (rows.take i) ++ rwW r:=by
  rw [List.take_succ,h]
  unfold wsR
  rw [List.flatMap_append]
  show _ ++ (rwW r ++ [])=_
  rw [List.append_nil]
theorem rdp_number_in {w:Int} (h1:inW w=true) (q:∀ H',Same H H'→Q (.int w) H') :
    rd_number_in K t { nx:=fun _ H'=>Q .non H',rt:=Q } (L2.start ["word","refusal"] [.str (numS w)]) H:=by
  simp only [rd_number_in,sp_worth_in,L2.start,tTry,endT,tRetX,tCallX,tNever,tVar,tCons,tNil,List.map,List.replicate,List.length,List.append,jqa,jqb,jqc,jqd,jqe,jqf,jqg,jqh,jqi,jqj,jqk,jql,jqm,jqn,and_true,true_and,and_assoc,jqo,jqp,jqq,Nat.reduceSub,Nat.reduceAdd,jqr,jqs,jqt,Int.reduceToNat,Int.reducePow,Int.reduceNeg,Int.reduceMul,Int.reduceAdd,if_true,ite_true,jqu,ite_false,if_false]
  obtain ⟨a,b,c⟩:=isNum_numS h1
  refine ⟨by omega,Asc.num w,fun H' s=>?_⟩
  rw [if_pos a,b]
  exact q H' s
theorem rdp_rank_in {w:Int} (h1:rB w) (q:∀ H',Same H H'→Q (.int w) H') :
    rd_rank_in K t { nx:=fun _ H'=>Q .non H',rt:=Q } (L2.start ["word","rank"] [.str (numS w)]) H:=by
  simp only [rd_rank_in,sp_number_in,L2.start,tSeq,tAsg,gName,tRet,tNext,tNever,tOp,tVar,tC,tCons,tNil,tIfS,tOr,tTest,tCall,rI,rI0,List.map,List.replicate,List.length,List.append,jqa,jqb,jqc,jqd,jqe,jqf,jqg,jqh,jqi,jqj,jqk,jql,jqm,jqn,and_true,true_and,and_assoc,jqo,jqp,jqq,Nat.reduceSub,Nat.reduceAdd,jqr,jqs,jqt,Int.reduceToNat,Int.reducePow,Int.reduceNeg,Int.reduceMul,Int.reduceAdd,if_true,ite_true,jqu,ite_false,if_false]
  obtain ⟨a,b⟩:=h1
  refine ⟨w,rfl,wB_in (rB_w ⟨a,b⟩),fun H' s=>?_⟩
  rw [if_neg (by omega)]
  refine ⟨pow10 (by decide) (by decide),?_⟩
  rw [if_neg (by omega)]
  exact q H' s
theorem rdp_shelf_in {w:Str} (h1:isName w=true) (q:∀ H',Same H H'→Q (.str w) H') :
    rd_shelf_in K t { nx:=fun _ H'=>Q .non H',rt:=Q } (L2.start ["word"] [.str w]) H:=by
  simp only [rd_shelf_in,sp_is_name,L2.start,tSeq,tRet,tNext,tNever,tVar,tCons,tNil,tIfS,tNot,tB,tCall,List.map,List.replicate,List.length,List.append,jqa,jqb,jqc,jqd,jqe,jqf,jqg,jqh,jqi,jqj,jqk,jql,jqm,jqn,and_true,true_and,and_assoc,jqo,jqp,jqq,Nat.reduceSub,Nat.reduceAdd,jqr,jqs,jqt,Int.reduceToNat,Int.reducePow,Int.reduceNeg,Int.reduceMul,Int.reduceAdd,if_true,ite_true,jqu,ite_false,if_false]
  refine ⟨by have:=(Wd_name h1).1;omega,fun H' s=>?_⟩
  rw [if_neg (by rw [h1];decide)]
  exact q H' s
theorem cut_to {α:Type} (f:α→V) (xs:List α) {k:Nat} (h:k≤xs.length):cutV (xs.map f) none (some (k:Int))=(xs.take k).map f:=by
  unfold cutV
  have e1:HT.sIx (xs.map f).length 0 none=0:=rfl
  have e2:HT.sIx (xs.map f).length (xs.map f).length (some (k:Int))=k:=by
    show (if (k:Int) < 0 then ((k:Int) + ((xs.map f).length:Int)).toNat else min (k:Int).toNat (xs.map f).length)=k
    rw [if_neg (by omega),Int.toNat_natCast,List.length_map]
    omega
  rw [e1,e2,List.drop_zero,List.map_take]
  rfl
theorem flat_c {x:String} (h:((Str.ofString x).cps.toList.all fun c=>decide (c < 128))=true):isFlat (V.str (Str.ofString x))=true:=Asc.flat fun c hc=>of_decide_eq_true (List.all_eq_true.mp h c hc)
theorem rdp_outcome_in {a:Addr} {oc:Oc} (hW:∀ H,SqT K H t.c_WHYS (whyL.map V.str)) (h1:H a=some (.lst ((ocW oc).map V.str))) (h2:ocOk oc) (q:∀ v H',Same H H'→OcAt H' v oc→Q v H') :
    rd_outcome_in K t { nx:=fun _ H'=>Q .non H',rt:=Q } (L2.start ["words"] [.ref a]) H:=by
  simp only [rd_outcome_in,sp_number_in,cTup,L2.start,rEqL,tSeq,gName,tRet,tNext,tNever,tOp,tVar,tC,tLst,tTup,tCons,tNil,tIfS,tAnd,tTest,tCB,tSl,tPart,tNoPart,tCall,tComp,tYes,capV,LenV,iList,rIxL,rEq,rIn,rSlL,cLen,scal,List.map,List.replicate,List.length,List.append,jqa,jqb,jqc,jqd,jqe,jqf,jqg,jqh,jqi,jqj,jqk,jql,jqm,jqn,and_true,true_and,and_assoc,jqo,jqp,jqq,Nat.reduceSub,Nat.reduceAdd,jqr,jqs,jqt,Int.reduceToNat,Int.reducePow,Int.reduceNeg,Int.reduceMul,Int.reduceAdd,if_true,ite_true,jqu,ite_false,if_false]
  cases oc with
  | done sa =>
    obtain ⟨l1,l2⟩:=h2
    have c1:cutV ((ocW (.done sa)).map V.str) none (some ((1:Nat):Int))=[V.str (Str.ofString "done")]:=cut_to V.str (ocW (.done sa)) (by show 1≤(sa.map numS).length + 1;omega)
    have c2:cutV ((ocW (.done sa)).map V.str) (some ((1:Nat):Int)) none=(sa.map numS).map V.str:=cut_from V.str (ocW (.done sa)) (by show 1≤(sa.map numS).length + 1;omega)
    refine ⟨_,SqL.of h1,fun p hp=>⟨by decide,fun p1 hp1=>?_⟩⟩
    rw [show (1:Int)=((1:Nat):Int) from rfl,c1] at hp1 ⊢
    obtain ⟨H1,e1,s1,g1⟩:=new_ob (o:=.lst [V.str (Str.ofString "done")]) hp
    rw [← e1] at hp1 ⊢
    obtain ⟨H2,e2,s2,g2⟩:=new_ob (o:=.lst [V.str (Str.ofString "done")]) hp1
    rw [← e2]
    have fl:([V.str (Str.ofString "done")].all isFlat)=true:=by rw [List.all_cons,flat_c (by decide +kernel)];rfl
    refine ⟨_,SqL.of (s2 _ _ g1),_,SqL.of g2,fl,fl,rfl,?_⟩
    rw [if_pos rfl]
    have S2:=s1.trans s2
    refine ⟨_,SqL.of (S2 _ _ h1),fun p2 hp2=>?_⟩
    rw [c2]
    obtain ⟨H3,e3,s3,g3⟩:=new_ob (o:=.lst ((sa.map numS).map V.str)) hp2
    rw [← e3]
    refine ⟨⟨_,SqL.of g3⟩,fun D hD=>?_⟩
    refine comp_gen (J:=Itl K p2) sa.length (by omega) (fun τ=>∃ o,τ=[o]) (fun i v=>∃ w,sa[i]?=some w∧v=.int w) ⟨_,rfl⟩ (fun i H s h=>⟨_,_,SqL.of (s _ _ g3),List.getElem?_eq_getElem (by rw [List.length_map,List.length_map];omega)⟩) (fun H s=>⟨_,SqL.of (s _ _ g3),by rw [List.length_map,List.length_map];omega⟩) hD ?_ ?_
    · rintro i x τ H4 H5 ⟨o',rfl⟩ s4 hi ⟨rfl,hv⟩
      have hv:=hv _ (SqL.of (s4 _ _ g3))
      rw [List.getElem?_map,List.getElem?_map,List.getElem?_eq_getElem hi] at hv
      cases hv
      exact ⟨_,rfl,_,rfl,wB_in (l2 _ (List.getElem_mem hi)),fun H4 s4=>⟨⟨_,rfl⟩,⟨_,List.getElem?_eq_getElem hi,rfl⟩,s4⟩⟩
    · intro ys H4 hl hv s4 hq
      have e:ys=sa.map V.int:=by
        apply List.ext_getElem?
        intro i
        rcases Nat.lt_or_ge i ys.length with z | z
        · obtain ⟨w,hw,e⟩:=hv i ys[i] (List.getElem?_eq_getElem z)
          rw [List.getElem?_eq_getElem z,e,List.getElem?_map,hw];rfl
        · rw [List.getElem?_eq_none z,List.getElem?_eq_none (by rw [List.length_map];omega)]
      subst e
      refine ⟨_,.inl ⟨SqL.of hq,fun l hl=>⟨by decide,fun b hb=>?_⟩⟩⟩
      obtain ⟨H5,e5,s5,g5⟩:=new_ob (o:=.tup (sa.map V.int)) hl
      rw [← e5] at hb ⊢
      have s6:=isV (o:=HO.tup [V.str (Str.ofString "done"),V.ref l]) b hb
      exact q _ _ (((S2.trans s3).trans s4).trans (s5.trans s6)) ⟨b,l,rfl,upd_same,s6 _ _ g5⟩
  | off w =>
    have c1:cutV ((ocW (.off w)).map V.str) none (some ((1:Nat):Int))=[V.str (Str.ofString "off")]:=cut_to V.str (ocW (.off w)) (by show 1≤2;decide)
    refine ⟨_,SqL.of h1,fun p hp=>⟨by decide,fun p1 hp1=>?_⟩⟩
    rw [show (1:Int)=((1:Nat):Int) from rfl,c1] at hp1 ⊢
    obtain ⟨H1,e1,s1,g1⟩:=new_ob (o:=.lst [V.str (Str.ofString "off")]) hp
    rw [← e1] at hp1 ⊢
    obtain ⟨H2,e2,s2,g2⟩:=new_ob (o:=.lst [V.str (Str.ofString "done")]) hp1
    rw [← e2]
    have S2:=s1.trans s2
    refine ⟨_,SqL.of (s2 _ _ g1),_,SqL.of g2,by rw [List.all_cons,flat_c (by decide +kernel)];rfl,by rw [List.all_cons,flat_c (by decide +kernel)];rfl,rfl,?_⟩
    rw [if_neg (fun z=>off_done (by injection z with z;exact z.symm))]
    have h3:=S2 _ _ h1
    refine ⟨_,.inl ⟨_,SqL.of h3,rfl⟩,?_⟩
    rw [if_pos (show ((((ocW (.off w)).map V.str).length:Nat):Int)=2 from rfl)]
    refine ⟨_,SqL.of h3,_,rfl,rfl,?_⟩
    rw [if_pos rfl]
    have iw:inV (V.str w) (whyL.map V.str)=true:=by
      have h2:w∈whyL:=h2
      unfold whyL at h2
      simp only [List.mem_cons,List.not_mem_nil,or_false] at h2
      rcases h2 with rfl | rfl | rfl <;> decide +kernel
    refine ⟨_,SqL.of h3,_,rfl,_,.inr (hW H2),rfl,rfl,?_⟩
    rw [if_pos iw]
    exact ⟨_,SqL.of h3,_,rfl,by decide,fun b hb=>q _ _ (S2.trans (isV b hb)) ⟨b,rfl,upd_same⟩⟩
theorem rdp_deal_in {a g:Addr} {r:Int} {oc:Oc} {gs:List Row} (h1:H a=some (.lst ((("deal":Str) :: numS r :: ocW oc).map V.str))) (h2:rB r) (h3:ocOk oc) (h4:RwsAt H g gs) (h5:∀ w,oc=.off w→gs=[]) (q:∀ p v H',Same H H'→OcAt H' v oc→H' p=some (.tup [.str "deal",.int r,v,.ref g])→Q (.ref p) H') :
    rd_deal_in K t { nx:=fun _ H'=>Q .non H',rt:=Q } (L2.start ["words","rows","outcome"] [.ref a,.ref g]) H:=by
  simp only [rd_deal_in,sp_outcome_in,sp_rank_in,rNeNil,L2.start,rIxT,tSeq,tAsg,gName,tRet,tNext,tNever,tOp,tVar,tC,tLst,tTup,tCons,tNil,tIfS,tAnd,tTest,tSl,tPart,tNoPart,tCall,rIxL,rIxT,rEq,rSlL,scal,List.map,List.replicate,List.length,List.append,jqa,jqb,jqc,jqd,jqe,jqf,jqg,jqh,jqi,jqj,jqk,jql,jqm,jqn,and_true,true_and,and_assoc,jqo,jqp,jqq,Nat.reduceSub,Nat.reduceAdd,jqr,jqs,jqt,Int.reduceToNat,Int.reducePow,Int.reduceNeg,Int.reduceMul,Int.reduceAdd,if_true,ite_true,jqu,ite_false,if_false]
  have c2:cutV (((Str.ofString "deal") :: numS r :: ocW oc).map V.str) (some ((2:Nat):Int)) none=(ocW oc).map V.str:=cut_from V.str ((Str.ofString "deal") :: numS r :: ocW oc) (by show 2≤(ocW oc).length + 1 + 1;omega)
  refine ⟨_,SqL.of h1,fun p hp=>⟨oc,by rw [upd_same];exact congrArg (fun z=>some (HO.lst z)) c2,h3,fun v H1 s1 ho=>?_⟩⟩
  have S1:=(isV p hp).trans s1
  have fin:∀ H2,Same H1 H2→∃ x,SqL K H2 a x∧∃ x_3,atI x 1=some x_3∧∃ w,x_3=V.str (numS w)∧rB w∧∀ H3,Same H2 H3→4≤sizeLine∧∀ b,H3 b=none→Q (V.ref b) (upd H3 b (HO.tup [V.str (Str.ofString "deal"),V.int w,v,V.ref g])):=fun H2 s2 =>
    ⟨_,SqL.of (s2 _ _ (S1 _ _ h1)),_,at_nat (n:=1) rfl,r,rfl,h2,fun H3 s3=>⟨by decide,fun b hb=>q b v _ ((S1.trans (s2.trans s3)).trans (isV b hb)) (ho.same ((s2.trans s3).trans (isV b hb))) upd_same⟩⟩
  cases oc with
  | done sa =>
    obtain ⟨o,y,rfl,ho1,_⟩:=id ho
    refine ⟨_,rfl,_,SqT.of ho1,_,rfl,rfl,?_⟩
    rw [if_neg off_done]
    exact fin H1 (Same.refl _)
  | off w =>
    obtain ⟨o,rfl,ho1⟩:=id ho
    refine ⟨_,rfl,_,SqT.of ho1,_,rfl,rfl,?_⟩
    rw [if_pos rfl]
    refine ⟨by decide,fun b hb=>?_⟩
    obtain ⟨H2,e2,s2,g2⟩:=new_ob (o:=.lst []) hb
    rw [← e2]
    obtain ⟨xs,hx,pr⟩:=h4
    have:=h5 w rfl
    subst this
    cases pr
    refine ⟨[],SqL.of (s2 _ _ (S1 _ _ hx)),SqL.of g2,?_⟩
    rw [if_neg (fun z=>z rfl)]
    exact fin H2 s2
theorem rdp_mark_in {a g:Addr} {r:Int} {gs:List Row} (h1:H a=some (.lst ([("mark":Str),numS r].map V.str))) (h2:rB r) (h4:RwsAt H g gs) (h5:gs.length≤60) (h6:∀ x∈gs,x.2≠0) (q:∀ p H',Same H H'→H' p=some (.tup [.str "mark",.int r,.ref g])→Q (.ref p) H') :
    rd_mark_in K t { nx:=fun _ H'=>Q .non H',rt:=Q } (L2.start ["words","rows"] [.ref a,.ref g]) H:=by
  simp only [rd_mark_in,sp_rank_in,cAny,L2.start,tSeq,gName,gTup,gCons,gNil,tRet,tNext,tNever,tOp,tVar,tC,tTup,tCons,tNil,tIfS,tTest,tB,tCB,tCall,tComp,tYes,capV,LenV,iList,rIxL,rEq,rNe,cLen,scal,List.map,List.replicate,List.length,List.append,jqa,jqb,jqc,jqd,jqe,jqf,jqg,jqh,jqi,jqj,jqk,jql,jqm,jqn,and_true,true_and,and_assoc,jqo,jqp,jqq,Nat.reduceSub,Nat.reduceAdd,jqr,jqs,jqt,Int.reduceToNat,Int.reducePow,Int.reduceNeg,Int.reduceMul,Int.reduceAdd,if_true,ite_true,jqu,ite_false,if_false]
  refine ⟨_,.inl ⟨_,SqL.of h1,rfl⟩,?_⟩
  rw [if_neg (fun z=>z rfl)]
  obtain ⟨xs,hx,pr⟩:=h4
  have lx:=Paired.length pr
  refine ⟨⟨_,SqL.of hx⟩,fun D hD=>?_⟩
  refine comp_gen (J:=Itl K g) gs.length (by omega) (fun τ=>∃ o1 o2,τ=[o1,o2]) (fun i v=>v=.bl false) ⟨_,_,rfl⟩ (fun i H s h=>⟨_,_,SqL.of (s _ _ hx),List.getElem?_eq_getElem (by omega)⟩) (fun H s=>⟨_,SqL.of (s _ _ hx),by omega⟩) hD ?_ ?_
  · rintro i x τ H4 H5 ⟨o1,o2,rfl⟩ s4 hi ⟨rfl,hv⟩
    have hv:=hv _ (SqL.of (s4 _ _ hx))
    have hr:=List.getElem?_eq_getElem (l:=gs) (i:=i) hi
    obtain ⟨rr,pp,rfl,e1,e2⟩:=paired_get pr hv hr
    refine ⟨_,rfl,_,SqT.of (s4 _ _ e1),rfl,_,_,rfl,_,_,rfl,rfl,_,rfl,rfl,⟨_,_,rfl⟩,?_,Same.refl _⟩
    rw [decide_eq_false (fun z=>h6 _ (List.getElem_mem hi) (by injection z))]
  · intro ys H4 hl hv s4 hq
    have e:ys=(List.replicate gs.length false).map V.bl:=by
      rw [List.map_replicate]
      exact List.eq_replicate_iff.mpr ⟨hl,fun b hb=>by obtain ⟨i,hi⟩:=List.getElem?_of_mem hb;exact hv i b hi⟩
    subst e
    refine ⟨_,SqL.of hq,?_⟩
    rw [if_neg (by rw [List.any_replicate];simp)]
    exact ⟨_,SqL.of (s4 _ _ h1),_,rfl,r,rfl,h2,fun H5 s5=>⟨by decide,fun b hb=>q b _ ((s4.trans s5).trans (isV b hb)) upd_same⟩⟩
theorem wsR_at:∀ {rows:List Row} {i:Nat} {r:Row},rows[i]?=some r→(wsR rows)[3 * i]?=some r.1.1∧(wsR rows)[3 * i + 1]?=some (numS r.1.2)∧(wsR rows)[3 * i + 2]?=some (numS r.2)
  | [],i,r,h=>by simp at h
  | x :: rows,0,r,h=>by
    simp only [List.getElem?_cons_zero,Option.some.injEq] at h
    subst h
    exact ⟨rfl,rfl,rfl⟩
  | x :: rows,i + 1,r,h=>by
    have:=wsR_at (rows:=rows) (i:=i) (r:=r) (by simpa using h)
    exact this
def riI (a A:Addr) (rows:List Row) (H:Hp) (i:Nat) (σ:St) (H':Hp):Prop:=∃ o2 o3 xs,σ=[some (.ref a),some (.ref A),o2,o3,none]∧H' A=some (.lst xs)∧Paired (PrAt H') xs (rows.take i)∧Same H H'
theorem take_snoc {α:Type} {l:List α} {i:Nat} {r:α} (h:l[i]?=some r):l.take (i + 1)=l.take i ++ [r]:=by rw [List.take_succ,h];rfl
theorem small_lt {n:Nat} (h:n < 1000000):n < sizeLine:=Nat.lt_of_lt_of_le h (by decide)
theorem paired_of {α β:Type} {F:α→β→Prop}:∀ {l₁:List α} {l₂:List β},l₁.length=l₂.length→(∀ (i:Nat) a b,l₁[i]?=some a→l₂[i]?=some b→F a b)→Paired F l₁ l₂
  | [],[],_,_=>.nil
  | [],b :: l,h,_=>by simp at h
  | a :: l,[],h,_=>by simp at h
  | a :: l,b :: m,h,f=>.cons (f 0 a b rfl rfl) (paired_of (by simpa using h) fun i x y h1 h2=>f (i + 1) x y (by simpa using h1) (by simpa using h2))
theorem rdp_rows_inB {D:Ends} {a A:Addr} {rows:List Row} {i:Nat} {o3:Option V} {xs:List V} {H0:Hp} (hA0:H0 A=none) (s0:Same H0 H) (h1:H0 a=some (.lst ((wsR rows).map V.str))) (hi:i < rows.length) (hr:rows.length≤60) (ok:∀ r∈rows,okPl r.1∧wB r.2) (hA:H A=some (.lst xs)) (pr:Paired (PrAt H) xs (rows.take i)) (q:∀ σ H',riI a A rows H0 (i + 1) σ H'→D.nx σ H') :
    rd_rows_in_B K t D [some (.ref a),some (.ref A),some (.int (0 + (i:Int) * 3)),o3,none] H:=by
  simp only [rd_rows_in_B,sp_shelf_in,sp_number_in,L2.start,r_mt_append,rAppend,tSeq,tAsg,gName,tDrop,tOp,tVar,tC,tTup,tCons,tNil,tBM,tyV,tCall,rIxL,rI0,List.map,List.replicate,List.length,List.append,jqa,jqb,jqc,jqd,jqe,jqf,jqg,jqh,jqi,jqj,jqk,jql,jqm,jqn,and_true,true_and,and_assoc,jqo,jqp,jqq,Nat.reduceSub,Nat.reduceAdd,jqr,jqs,jqt,Int.reduceToNat,Int.reducePow,Int.reduceNeg,Int.reduceMul,Int.reduceAdd,if_true,ite_true,jqu,ite_false,if_false]
  have hg:=List.getElem?_eq_getElem hi
  obtain ⟨w1,w2,w3⟩:=wsR_at hg
  obtain ⟨⟨k1,k2⟩,k3⟩:=ok _ (List.getElem_mem hi)
  generalize rows[i]=r at *
  have m:∀ {k:Nat} {w:Str},(wsR rows)[k]?=some w→((wsR rows).map V.str)[k]?=some (V.str w):=fun h=>by rw [List.getElem?_map,h];rfl
  have lx:=Paired.length pr
  rw [show (0 + (i:Int) * 3)=((3 * i:Nat):Int) by omega,show ((3 * i:Nat):Int) + 1=((3 * i + 1:Nat):Int) by omega,show ((3 * i:Nat):Int) + 2=((3 * i + 2:Nat):Int) by omega]
  have ha:=s0 _ _ h1
  refine ⟨_,SqL.of ha,_,at_nat (m w1),_,rfl,k1,fun H1 s1=>⟨_,SqL.of (s1 _ _ ha),_,at_nat (m w2),_,rfl,wB_in k2,fun H2 s2=>⟨by decide,fun p hp=>?_⟩⟩⟩
  obtain ⟨H3,e3,s3,g3⟩:=new_ob (o:=.tup [V.str r.1.1,V.int r.1.2]) hp
  rw [← e3]
  have S3:=s1.trans (s2.trans s3)
  refine ⟨.inl ⟨_,SqL.of (S3 _ _ hA)⟩,_,SqL.of (S3 _ _ ha),_,at_nat (m w3),_,rfl,wB_in k3,fun H4 s4=>⟨by decide,fun p5 hp5=>?_⟩⟩
  obtain ⟨H5,e5,s5,g5⟩:=new_ob (o:=.tup [V.ref p,V.int r.2]) hp5
  rw [← e5]
  have S5:=S3.trans (s4.trans s5)
  refine ⟨_,S5 _ _ hA,small_lt (by rw [lx,List.length_take];omega),q _ _ ⟨_,_,xs ++ [V.ref p5],rfl,upd_same,?_,same_upd (s0.trans S5) hA0⟩⟩
  rw [take_snoc hg]
  refine paired_snoc ?_ (paired_imp (fun _ _ z=>pr_upd (S5 _ _ hA) (pr_same S5 z)) pr)
  exact pr_upd (S5 _ _ hA) ⟨p5,p,rfl,g5,s5 _ _ (s4 _ _ g3)⟩
theorem pl_up_eq:∀ {a b:List Pl},a.Pairwise (fun a b=>placeLt a b=true)→b.Pairwise (fun a b=>placeLt a b=true)→a.Perm b→a=b
  | [],b,_,_,h=>h.nil_eq
  | x :: a,[],_,_,h=>absurd h.length_eq (by simp)
  | x :: a,y :: b,ha,hb,h=>by
    rw [List.pairwise_cons] at ha hb
    have e:x=y:=by
      rcases List.mem_cons.mp (h.mem_iff.mp (List.mem_cons_self ..)) with e | e
      · exact e
      · rcases List.mem_cons.mp (h.mem_iff.mpr (List.mem_cons_self ..)) with e' | e'
        · exact e'.symm
        · have z:=placeLt_trans (ha.1 y e') (hb.1 x e)
          rw [placeLt_irr] at z
          cases z
    subst e
    rw [pl_up_eq ha.2 hb.2 (List.perm_cons x |>.mp h)]
theorem up_nd {a:List Pl} (h:a.Pairwise (fun a b=>placeLt a b=true)):a.Nodup:=h.imp fun {x y} z e=>by rw [e,placeLt_irr] at z;cases z
theorem plDs_ok:∀ {ps:List Pl},(∀ q∈ps,isName q.1=true)→plainDs (ps.map plD)=true
  | [],_=>by rw [List.map_nil,plainDs]
  | r :: t,h=>by rw [List.map_cons,plainDs,plDs_ok fun x hx=>h x (List.mem_cons_of_mem _ hx),Bool.and_true,plD_ok (h r List.mem_cons_self)]
theorem plDs_deep (ps:List Pl):(PyData.list (ps.map plD)).depth≤64:=by
  have h:∀ l:List Pl,PyData.depthAll (l.map plD)≤10:=fun l=>by
    induction l with
    | nil=>simp [PyData.depthAll]
    | cons r t ih =>
      rw [List.map_cons,PyData.depthAll]
      have:(plD r).depth≤10:=by simp [plD,PyData.depth,PyData.depthAll]
      omega
  have:=h ps
  rw [PyData.depth]
  omega
theorem rdp_rows_in4 {a A D:Addr} {rows:List Row} {o2 o3:Option V} {xs ys:List V} (ok:rsOk rows) (hA:H A=some (.lst xs)) (pr:Paired (PrAt H) xs rows) (hD:H D=some (.lst ys)) (pl:Paired (PlV H) ys (rows.map (·.1))) (q:∀ H',Same H H'→Q (.ref A) H') :
    rd_rows_in_4 K t { nx:=fun _ H'=>Q .non H',rt:=Q } [some (.ref a),some (.ref A),o2,o3,some (.ref D)] H:=by
  simp only [rd_rows_in_4,rEqD,tSrtS,L2.start,tSeq,tRet,tNext,tNever,tOp,tVar,tCons,tNil,tIfS,tTest,List.map,List.replicate,List.length,List.append,jqa,jqb,jqc,jqd,jqe,jqf,jqg,jqh,jqi,jqj,jqk,jql,jqm,jqn,and_true,true_and,and_assoc,jqo,jqp,jqq,Nat.reduceSub,Nat.reduceAdd,jqr,jqs,jqt,Int.reduceToNat,Int.reducePow,Int.reduceNeg,Int.reduceMul,Int.reduceAdd,if_true,ite_true,jqu,ite_false,if_false]
  have up:(rows.map (·.1)).Pairwise (fun a b=>placeLt a b=true):=List.pairwise_map.mpr ok.up
  refine ⟨_,SqL.of hD,rows.map fun r:Row=>r.1,paired_imp (F:=PlV H) (G:=PcAt H) (fun _ _ z=>z) pl,up_nd up,by rw [List.length_map];have:=ok.le;omega,fun l zs srt H1 s1 _ g1 p1 u1 pm=>?_⟩
  have e:=pl_up_eq u1 up pm
  subst e
  have pp:plainD (.list ((rows.map (·.1)).map plD))=true:=by
    rw [plainD]
    refine plDs_ok fun q hq=>?_
    obtain ⟨r,hr,rfl⟩:=List.mem_map.mp hq
    exact (ok.nm r hr).1.1
  refine ⟨_,.lst (SqL.of (s1 _ _ hD)) (pls_dat (paired_imp (fun _ _ z=>PlV.same s1 z) pl)),_,.lst (SqL.of g1) (pls_dat (paired_imp (F:=PcAt H1) (G:=PlV H1) (fun _ _ z=>z) p1)),pp,pp,plDs_deep _,plDs_deep _,fun b hb=>?_⟩
  rw [hb.mpr rfl,if_neg (by decide)]
  exact q H1 s1
theorem rdp_rows_in3 {a A:Addr} {rows:List Row} {o2 o3:Option V} {xs:List V} (ok:rsOk rows) (hA:H A=some (.lst xs)) (pr:Paired (PrAt H) xs rows) (q:∀ H',Same H H'→Q (.ref A) H') :
    rd_rows_in_3 K t { nx:=fun _ H'=>Q .non H',rt:=Q } [some (.ref a),some (.ref A),o2,o3,none] H:=by
  simp only [rd_rows_in_3,rEqD,tSrtS,L2.start,tSeq,tAsg,gName,gTup,gCons,gNil,tRet,tNext,tNever,tOp,tVar,tCons,tNil,tIfS,tTest,tComp,tYes,capV,iList,List.map,List.replicate,List.length,List.append,jqa,jqb,jqc,jqd,jqe,jqf,jqg,jqh,jqi,jqj,jqk,jql,jqm,jqn,and_true,true_and,and_assoc,jqo,jqp,jqq,Nat.reduceSub,Nat.reduceAdd,jqr,jqs,jqt,Int.reduceToNat,Int.reducePow,Int.reduceNeg,Int.reduceMul,Int.reduceAdd,if_true,ite_true,jqu,ite_false,if_false]
  have lx:=Paired.length pr
  have l6:=ok.le
  refine ⟨⟨_,SqL.of hA⟩,fun D hD=>?_⟩
  refine comp_gen (J:=Itl K A) rows.length (by omega) (fun τ=>∃ o1 o2,τ=[o1,o2]) (fun i v=>∃ p r,v=.ref p∧rows[i]?=some r∧H p=some (.tup [.str r.1.1,.int r.1.2])) ⟨_,_,rfl⟩ (fun i H s h=>⟨_,_,SqL.of (s _ _ hA),List.getElem?_eq_getElem (by omega)⟩) (fun H s=>⟨_,SqL.of (s _ _ hA),by omega⟩) hD ?_ ?_
  · rintro i x τ H4 H5 ⟨o1,o2,rfl⟩ s4 hi ⟨rfl,hv⟩
    have hv:=hv _ (SqL.of (s4 _ _ hA))
    have hr:=List.getElem?_eq_getElem (l:=rows) (i:=i) hi
    obtain ⟨rr,pp,rfl,e1,e2⟩:=paired_get pr hv hr
    exact ⟨_,rfl,_,SqT.of (s4 _ _ e1),rfl,_,_,rfl,_,_,rfl,rfl,_,rfl,⟨_,_,rfl⟩,⟨_,_,rfl,hr,e2⟩,Same.refl _⟩
  · intro ys H4 hl hv s4 hq
    refine rdp_rows_in4 ok (s4 _ _ hA) (paired_imp (fun _ _=>pr_same s4) pr) hq ?_ fun H5 s5=>q H5 (s4.trans s5)
    refine paired_of (by rw [List.length_map];exact hl) fun i v x h1 h2=>?_
    obtain ⟨p,r,e1,e2,e3⟩:=hv i v h1
    rw [List.getElem?_map,e2] at h2
    cases h2
    exact ⟨p,e1,s4 _ _ e3⟩
theorem rdp_rows_in {a:Addr} {rows:List Row} (h1:H a=some (.lst ((wsR rows).map V.str))) (h2:rsOk rows) (q:∀ l H',Same H H'→H l=none→RwsAt H' l rows→Q (.ref l) H') :
    rd_rows_in K t { nx:=fun _ H'=>Q .non H',rt:=Q } (L2.start ["words","rows","at","place","places"] [.ref a]) H:=by
  simp only [rd_rows_in,rEqD,iRng3,tSrtS,L2.start,r_mt_append,rAppend,tSeq,tAsg,gName,gTup,gCons,gNil,tRet,tDrop,tNext,tNever,tOp,tVar,tC,tLst,tTup,tCons,tNil,tFor,tIfS,tTest,tCB,tBM,tyV,tCall,tComp,tYes,capV,LenV,iList,rIxL,rNe,rI,rI0,cLen,scal,List.map,List.replicate,List.length,List.append,jqa,jqb,jqc,jqd,jqe,jqf,jqg,jqh,jqi,jqj,jqk,jql,jqm,jqn,and_true,true_and,and_assoc,jqo,jqp,jqq,Nat.reduceSub,Nat.reduceAdd,jqr,jqs,jqt,Int.reduceToNat,Int.reducePow,Int.reduceNeg,Int.reduceMul,Int.reduceAdd,if_true,ite_true,jqu,ite_false,if_false]
  have l6:=h2.le
  have lw:(((wsR rows).map V.str).length:Int)=(rows.length:Int) * 3:=by rw [List.length_map,wsR_len];omega
  refine ⟨_,.inl ⟨_,SqL.of h1,rfl⟩,by decide,?_⟩
  rw [if_neg (fun z=>z (by rw [lw];omega))]
  refine ⟨Nat.zero_le _,fun A hA=>⟨_,.inl ⟨_,SqL.of (isV A hA _ _ h1),rfl⟩,by decide,by decide,by omega,by omega,by decide,by decide,loop_range3 (riI a A rows H) ⟨_,_,[],rfl,upd_same,.nil,isV A hA⟩ ?_ ?_⟩⟩
  · rintro i σ H1 hi ⟨o2,o3,xs,rfl,g,pr,s⟩
    have hl:=cnt_lt (by omega) (by decide) hi
    rw [lw] at hl
    exact rdp_rows_inB hA s h1 (by omega) l6 h2.nm g pr fun σ H' z=>z
  · rintro σ H1 ⟨o2,o3,xs,rfl,g,pr,s⟩
    rw [List.take_of_length_le (by rw [lw];unfold cntR;split <;> omega)] at pr
    exact rdp_rows_in3 h2 g pr fun H2 s2=>q A H2 (s.trans s2) hA ⟨xs,s2 _ _ g,paired_imp (fun _ _=>pr_same s2) pr⟩
section
variable {E:XK}
theorem semi_num (w:Int):Str.ofString ";"≠numS w:=fun z=>by
  have e:=(Wd_oc (oc:=.done [0]) ⟨by decide,fun i hi=>by rw [List.mem_singleton.mp hi];exact ⟨by decide,by decide⟩⟩).2.2
  have e':(Str.ofString ";").cps.toList=[59]:=by decide +kernel
  have z':(Str.ofString ";").cps.toList=(numS w).cps.toList:=congrArg (fun x:Str=>x.cps.toList) z
  rw [e'] at z'
  have dg0:∀ m,59 ∉ dg m:=fun m hm=>by have:=dg_all m 59 hm;omega
  rcases Int.le_total 0 w with c | c
  · rw [show w=((w.toNat:Nat):Int) by omega,numS_nat] at z'
    exact dg0 w.toNat (by rw [← z'];simp)
  · rcases Nat.eq_zero_or_pos w.natAbs with e | e
    · have:w=((0:Nat):Int):=by omega
      rw [this,numS_nat] at z'
      exact dg0 0 (by rw [← z'];simp)
    · rw [show w=-((w.natAbs:Nat):Int) by omega,numS_neg e] at z'
      cases z'
theorem idx_app {a b:List Str} {x:Str} (h:x ∉ a):(a ++ x :: b).idxOf x=a.length:=by
  rw [List.idxOf_append,if_neg h]
  simp
theorem deal_split (r:Int) (oc:Oc) (gs:List Row):dealW r oc gs=(Str.ofString "deal" :: numS r :: ocW oc) ++ Str.ofString ";" :: wsR gs:=rfl
theorem mark_split (r:Int) (gs:List Row):markW r gs=[Str.ofString "mark",numS r] ++ Str.ofString ";" :: wsR gs:=rfl
theorem deal_no {r:Int} {oc:Oc} (h:ocOk oc):Str.ofString ";" ∉ (Str.ofString "deal" :: numS r :: ocW oc):=fun z=>by
  rcases List.mem_cons.mp z with z | z
  · exact absurd z (by decide +kernel)
  · rcases List.mem_cons.mp z with z | z
    · exact semi_num _ z
    · exact (Wd_oc h).2.2 z
theorem mark_no {r:Int}:Str.ofString ";" ∉ [Str.ofString "mark",numS r]:=fun z=>by
  rcases List.mem_cons.mp z with z | z
  · exact absurd z (by decide +kernel)
  · exact semi_num _ (List.mem_singleton.mp z)
theorem deal_mark:V.str (Str.ofString "mark")≠V.str (Str.ofString "deal"):=by intro z;injection z with z;revert z;decide +kernel
theorem rdp_read4d {x:Str} {l g:Addr} {r:Int} {oc:Oc} {gs:List Row} (h1:rB r) (h2:ocOk oc) (h3:RwsAt H g gs) (h4:∀ w,oc=.off w→gs=[]) (hl:H l=some (.lst ((dealW r oc gs).map V.str))) (q:∀ p v H',Same H H'→OcAt H' v oc→H' p=some (.tup [.str "deal",.int r,v,.ref g])→Q (.ref p) H') :
    rd_line_read_4 K t E { nx:=fun _ H'=>Q .non H',rt:=Q } [some (.str x),some (.ref l),some (.int ((Str.ofString "deal" :: numS r :: ocW oc).length:Nat)),some (.ref g)] H:=by
  simp only [rd_line_read_4,sp_deal_in,sp_mark_in,L2.start,tRaise,tMsgR,tSeq,tRet,tNext,tOp,tVar,tC,tCons,tNil,tIfS,tTest,tSl,tPart,tNoPart,tCall,rIxL,rEq,rSlL,scal,List.map,List.replicate,List.length,List.append,jqa,jqb,jqc,jqd,jqe,jqf,jqg,jqh,jqi,jqj,jqk,jql,jqm,jqn,and_true,true_and,and_assoc,jqo,jqp,jqq,Nat.reduceSub,Nat.reduceAdd,jqr,jqs,jqt,Int.reduceToNat,Int.reducePow,Int.reduceNeg,Int.reduceMul,Int.reduceAdd,if_true,ite_true,jqu,ite_false,if_false]
  refine ⟨_,SqL.of hl,_,at_nat (n:=0) rfl,rfl,?_⟩
  rw [if_pos rfl]
  refine ⟨_,SqL.of hl,fun p hp=>?_⟩
  have c:=cut_to V.str (dealW r oc gs) (k:=(Str.ofString "deal" :: numS r :: ocW oc).length) (by rw [deal_split,List.length_append];omega)
  have c2:(dealW r oc gs).take (Str.ofString "deal" :: numS r :: ocW oc).length=Str.ofString "deal" :: numS r :: ocW oc:=by rw [deal_split];exact List.take_left
  rw [c2] at c
  obtain ⟨H1,e1,s1,g1⟩:=new_ob (o:=.lst ((Str.ofString "deal" :: numS r :: ocW oc).map V.str)) hp
  refine ⟨r,oc,by rw [upd_same];exact congrArg (fun z=>some (HO.lst z)) c,h1,h2,gs,h3.same (isV p hp),h4,fun b v H' s ho hb=>q b v H' ((isV p hp).trans s) ho hb⟩
theorem rdp_read4m {x:Str} {l g:Addr} {r:Int} {gs:List Row} (h1:rB r) (h3:RwsAt H g gs) (h4:gs.length≤60) (h5:∀ x∈gs,x.2≠0) (hl:H l=some (.lst ((markW r gs).map V.str))) (q:∀ p H',Same H H'→H' p=some (.tup [.str "mark",.int r,.ref g])→Q (.ref p) H') :
    rd_line_read_4 K t E { nx:=fun _ H'=>Q .non H',rt:=Q } [some (.str x),some (.ref l),some (.int (([Str.ofString "mark",numS r]:List Str).length:Nat)),some (.ref g)] H:=by
  simp only [rd_line_read_4,sp_deal_in,sp_mark_in,L2.start,tRaise,tMsgR,tSeq,tRet,tNext,tOp,tVar,tC,tCons,tNil,tIfS,tTest,tSl,tPart,tNoPart,tCall,rIxL,rEq,rSlL,scal,List.map,List.replicate,List.length,List.append,jqa,jqb,jqc,jqd,jqe,jqf,jqg,jqh,jqi,jqj,jqk,jql,jqm,jqn,and_true,true_and,and_assoc,jqo,jqp,jqq,Nat.reduceSub,Nat.reduceAdd,jqr,jqs,jqt,Int.reduceToNat,Int.reducePow,Int.reduceNeg,Int.reduceMul,Int.reduceAdd,if_true,ite_true,jqu,ite_false,if_false]
  refine ⟨_,SqL.of hl,_,at_nat (n:=0) rfl,rfl,?_⟩
  rw [if_neg deal_mark]
  refine ⟨_,SqL.of hl,_,at_nat (n:=0) rfl,rfl,?_⟩
  rw [if_pos rfl]
  refine ⟨_,SqL.of hl,fun p hp=>?_⟩
  have c:=cut_to V.str (markW r gs) (k:=2) (by rw [mark_split,List.length_append];simp)
  exact ⟨r,by rw [upd_same];exact congrArg (fun z=>some (HO.lst z)) c,h1,gs,h3.same (isV p hp),h4,h5,fun b H' s hb=>q b H' ((isV p hp).trans s) hb⟩
theorem in_strs {ws:List Str} {w:Str}:inV (.str w) (ws.map V.str)=true↔w∈ws:=by
  unfold inV
  rw [List.any_eq_true]
  constructor
  · rintro ⟨x,hx,e⟩
    obtain ⟨y,hy,rfl⟩:=List.mem_map.mp hx
    simp only [eqV,beq_iff_eq] at e
    exact e ▸ hy
  · intro h
    exact ⟨_,List.mem_map_of_mem h,by simp [eqV]⟩
theorem rdp_read3 {x:Str} {l:Addr} {k:Nat} {ws:List Str} {rows:List Row} (h1:H l=some (.lst (ws.map V.str))) (h2:k < ws.length) (h3:ws.drop (k + 1)=wsR rows) (h4:rsOk rows) (q:∀ g H',Same H H'→H g=none→RwsAt H' g rows→rd_line_read_4 K t E { nx:=fun _ H'=>Q .non H',rt:=Q } [some (.str x),some (.ref l),some (.int k),some (.ref g)] H') :
    rd_line_read_3 K t E { nx:=fun _ H'=>Q .non H',rt:=Q } [some (.str x),some (.ref l),some (.int k),none] H:=by
  simp only [rd_line_read_3,sp_rows_in,L2.start,tRaise,tMsgR,tSeq,tAsg,gName,tRet,tNext,tOp,tVar,tC,tCons,tNil,tIfS,tTest,tSl,tPart,tNoPart,tCall,rIxL,rEq,rI0,rSlL,scal,List.map,List.replicate,List.length,List.append,jqa,jqb,jqc,jqd,jqe,jqf,jqg,jqh,jqi,jqj,jqk,jql,jqm,jqn,and_true,true_and,and_assoc,jqo,jqp,jqq,Nat.reduceSub,Nat.reduceAdd,jqr,jqs,jqt,Int.reduceToNat,Int.reducePow,Int.reduceNeg,Int.reduceMul,Int.reduceAdd,if_true,ite_true,jqu,ite_false,if_false]
  have c:=cut_from V.str ws (k:=k + 1) (by omega)
  rw [h3] at c
  refine ⟨_,SqL.of h1,fun p hp=>⟨rows,by rw [upd_same,show ((k:Int) + 1)=((k + 1:Nat):Int) by omega,c],h4,fun g H' s n rw_=>q g H' ((isV p hp).trans s) (fresh_of (isV p hp) n) rw_⟩⟩
theorem rdp_read1 {x:Str} {l:Addr} {a:List Str} {rows:List Row} (h1:H l=some (.lst ((a ++ Str.ofString ";" :: wsR rows).map V.str))) (h2:Str.ofString ";" ∉ a) (h4:rsOk rows) (q:∀ g H',Same H H'→H g=none→RwsAt H' g rows→rd_line_read_4 K t E { nx:=fun _ H'=>Q .non H',rt:=Q } [some (.str x),some (.ref l),some (.int (a.length:Nat)),some (.ref g)] H') :
    rd_line_read_1 K t E { nx:=fun _ H'=>Q .non H',rt:=Q } [some (.str x),some (.ref l),none,none] H:=by
  simp only [rd_line_read_1,r_mt_index,L2.start,tRaise,tMsgR,tSeq,tAsg,gName,tRet,tNext,tOp,tVar,tC,tCons,tNil,tIfS,tTest,tBM,tyV,tSl,tPart,tNoPart,tCall,rIxL,rEq,rI0,rIn,rSlL,scal,List.map,List.replicate,List.length,List.append,jqa,jqb,jqc,jqd,jqe,jqf,jqg,jqh,jqi,jqj,jqk,jql,jqm,jqn,and_true,true_and,and_assoc,jqo,jqp,jqq,Nat.reduceSub,Nat.reduceAdd,jqr,jqs,jqt,Int.reduceToNat,Int.reducePow,Int.reduceNeg,Int.reduceMul,Int.reduceAdd,if_true,ite_true,jqu,ite_false,if_false]
  have mem:Str.ofString ";"∈a ++ Str.ofString ";" :: wsR rows:=List.mem_append_right _ List.mem_cons_self
  refine ⟨_,.inl (SqL.of h1),rfl,?_,?_⟩
  · rw [List.all_eq_true];intro v hv;obtain ⟨w,_,rfl⟩:=List.mem_map.mp hv;rfl
  · rw [if_neg (by rw [in_strs.mpr mem];decide)]
    refine ⟨.inl ⟨_,SqL.of h1⟩,_,h1,mem,?_⟩
    rw [idx_app h2]
    exact rdp_read3 h1 (by rw [List.length_append];simp) (by rw [List.drop_append];simp) h4 q
theorem rdp_body_in {x:Str} (h1:Asc x) (h2:x.length≤20000) (h:(∃ b:Str,x=b ++ Str.ofString " " ++ chkS b∧Asc b∧b.length≤20000∧∀ H',Same H H'→Q (.str b) H')∨(badS x∧∀ H',Same H H'→E (.ref t.c_NoLine) none H')) :
    rd_body_in K t E { nx:=fun _ H'=>Q .non H',rt:=Q } (L2.start ["text","parts"] [.str x]) H:=by
  simp only [rd_body_in,sp_check_of,r_mt_rpartition,L2.start,rIxT,tRaise,tMsgR,tSeq,tAsg,gName,tRet,tNext,tOp,tVar,tC,tCons,tNil,tIfS,tTest,tBM,tyV,tCall,rIxT,rNe,scal,List.map,List.replicate,List.length,List.append,jqa,jqb,jqc,jqd,jqe,jqf,jqg,jqh,jqi,jqj,jqk,jql,jqm,jqn,and_true,true_and,and_assoc,jqo,jqp,jqq,Nat.reduceSub,Nat.reduceAdd,jqr,jqs,jqt,Int.reduceToNat,Int.reducePow,Int.reduceNeg,Int.reduceMul,Int.reduceAdd,if_true,ite_true,jqu,ite_false,if_false]
  refine ⟨rfl,by omega,fun l hl=>?_⟩
  rcases h with ⟨b,rfl,hb,lb,q⟩ | ⟨⟨p,s,d,e,n,hp,lp⟩,q⟩
  · obtain ⟨c1,c2,c3⟩:=chk_ok b
    rw [b32_eq]
    obtain ⟨H1,e1,s1,g1⟩:=new_ob (o:=.tup (rpL (b ++ b32 ++ chkS b) b32)) hl
    rw [← e1]
    rw [show rpL (b ++ b32 ++ chkS b) b32=[.str b,.str b32,.str (chkS b)] from rp_parts c3] at g1
    refine ⟨_,SqT.of g1,_,rfl,_,SqT.of g1,_,rfl,b,rfl,hb,lb,fun H2 s2=>⟨rfl,?_⟩⟩
    rw [if_neg (fun z=>z rfl)]
    exact ⟨_,SqT.of (s2 _ _ g1),_,rfl,q H2 (s1.trans s2)⟩
  · obtain ⟨H1,e1,s1,g1⟩:=new_ob (o:=.tup (rpL x (Str.ofString " "))) hl
    rw [← e1]
    rw [e] at g1
    refine ⟨_,SqT.of g1,_,rfl,_,SqT.of g1,_,rfl,p,rfl,hp,lp,fun H2 s2=>⟨rfl,?_⟩⟩
    rw [if_pos (fun z=>n (by injection z))]
    exact ⟨by omega,h1,fun y=>⟨by decide,q H2 (s1.trans s2)⟩⟩
theorem lineS_asc {ws:List Str} (h:∀ w∈ws,Wd w):Asc (lineS ws):=by
  unfold lineS
  refine Asc.app (Asc.app (join_asc h) ?_) (chk_ok _).2.1
  exact fun c hc=>by rw [b32_eq] at hc;rw [List.mem_singleton.mp hc];decide
theorem lineS_len {ws:List Str} (h:∀ w∈ws,Wd w) (h3:ws.length≤400):(lineS ws).length≤20000:=by
  have l1:=join_len h
  have l2:=join_le h
  have l3:=(chk_ok (joinS (Str.ofString " ") ws)).1
  unfold lineS
  rw [len_app,len_app,b32_len,l3]
  omega
theorem rdp_read {a:List Str} {rows:List Row} (h1:∀ w∈a ++ Str.ofString ";" :: wsR rows,Wd w) (h2:Str.ofString ";" ∉ a) (h3:(a ++ Str.ofString ";" :: wsR rows).length≤400) (h4:rsOk rows)
    (q:∀ x l g H1 H',Same H H1→Same H1 H'→H1 l=some (.lst ((a ++ Str.ofString ";" :: wsR rows).map V.str))→H1 g=none→RwsAt H' g rows→rd_line_read_4 K t E { nx:=fun _ H'=>Q .non H',rt:=Q } [some (.str x),some (.ref l),some (.int (a.length:Nat)),some (.ref g)] H') :
    rd_line_read K t E { nx:=fun _ H'=>Q .non H',rt:=Q } (L2.start ["text","words","at","rows"] [.str (lineS (a ++ Str.ofString ";" :: wsR rows))]) H:=by
  simp only [rd_line_read,sp_body_in,r_mt_split,r_mt_index,L2.start,tRaise,tMsgR,tSeq,tAsg,gName,tRet,tNext,tOp,tVar,tC,tCons,tNil,tIfS,tTest,tBM,tyV,tSl,tPart,tNoPart,tCall,rIxL,rEq,rI0,rIn,rSlL,scal,List.map,List.replicate,List.length,List.append,jqa,jqb,jqc,jqd,jqe,jqf,jqg,jqh,jqi,jqj,jqk,jql,jqm,jqn,and_true,true_and,and_assoc,jqo,jqp,jqq,Nat.reduceSub,Nat.reduceAdd,jqr,jqs,jqt,Int.reduceToNat,Int.reducePow,Int.reduceNeg,Int.reduceMul,Int.reduceAdd,if_true,ite_true,jqu,ite_false,if_false]
  have lj:=join_le h1
  have sp:Txt.split (joinS (Str.ofString " ") (a ++ Str.ofString ";" :: wsR rows)) (Str.ofString " ")=a ++ Str.ofString ";" :: wsR rows:=by
    rw [joinS_eq,b32_eq]
    exact split_join (by simp) fun p hp=>(h1 p hp).2.2
  refine ⟨lineS_asc h1,lineS_len h1 h3,.inl ⟨_,rfl,join_asc h1,by omega,fun H1 s1=>⟨rfl,by omega,by rw [sp];omega,fun l hl=>?_⟩⟩⟩
  rw [sp]
  have s2:=isV (o:=HO.lst ((a ++ Str.ofString ";" :: wsR rows).map V.str)) l hl
  exact rdp_read1 upd_same h2 h4 fun g H' s3 n3 r3=>q _ _ g _ H' (s1.trans s2) s3 upd_same n3 r3
theorem rdp_line_read {v:V} (h:(∃ (r:Int) (oc:Oc) (gs:List Row),v=.str (lineS (dealW r oc gs))∧rB r∧ocOk oc∧rsOk gs∧(∀ w,oc=.off w→gs=[])∧∀ p v g H',Same H H'→OcAt H' v oc→H g=none→RwsAt H' g gs→H' p=some (.tup [.str "deal",.int r,v,.ref g])→Q (.ref p) H') ∨
    (∃ (r:Int) (tb:List Row),v=.str (lineS (markW r tb))∧rB r∧rsOk tb∧(∀ x∈tb,x.2≠0)∧∀ p g H',Same H H'→H g=none→RwsAt H' g tb→H' p=some (.tup [.str "mark",.int r,.ref g])→Q (.ref p) H') ∨
    (∃ z:Str,v=.str z∧Asc z∧z.length≤20000∧badS z∧∀ H',Same H H'→E (.ref t.c_NoLine) none H')) :
    rd_line_read K t E { nx:=fun _ H'=>Q .non H',rt:=Q } (L2.start ["text","words","at","rows"] [v]) H:=by
  rcases h with ⟨r,oc,gs,rfl,h1,h2,h3,h4,q⟩ | ⟨r,gs,rfl,h1,h3,h4,q⟩ | ⟨z,rfl,h1,h2,h3,q⟩
  · have l3:=h3.le
    obtain ⟨_,l2,_⟩:=Wd_oc h2
    rw [deal_split]
    refine rdp_read (by rw [← deal_split];exact Wd_deal h1 h2 h3) (deal_no h2) (by simp [wsR_len];omega) h3 fun x l g H1 H2 s1 s2 gl n rs=>?_
    exact rdp_read4d h1 h2 rs h4 (s2 _ _ gl) fun p v H3 s3 ho hp=>q p v g H3 (s1.trans (s2.trans s3)) ho (fresh_of s1 n) (rs.same s3) hp
  · have l3:=h3.le
    rw [mark_split]
    refine rdp_read (by rw [← mark_split];exact Wd_mark h1 h3) mark_no (by simp [wsR_len];omega) h3 fun x l g H1 H2 s1 s2 gl n rs=>?_
    exact rdp_read4m h1 rs l3 h4 (s2 _ _ gl) fun p H3 s3 hp=>q p g H3 (s1.trans (s2.trans s3)) (fresh_of s1 n) (rs.same s3) hp
  · simp only [rd_line_read,sp_body_in,r_mt_split,r_mt_index,L2.start,tRaise,tMsgR,tSeq,tAsg,gName,tRet,tNext,tOp,tVar,tC,tCons,tNil,tIfS,tTest,tBM,tyV,tSl,tPart,tNoPart,tCall,rIxL,rEq,rI0,rIn,rSlL,scal,List.map,List.replicate,List.length,List.append,jqa,jqb,jqc,jqd,jqe,jqf,jqg,jqh,jqi,jqj,jqk,jql,jqm,jqn,and_true,true_and,and_assoc,jqo,jqp,jqq,Nat.reduceSub,Nat.reduceAdd,jqr,jqs,jqt,Int.reduceToNat,Int.reducePow,Int.reduceNeg,Int.reduceMul,Int.reduceAdd,if_true,ite_true,jqu,ite_false,if_false]
    exact ⟨h1,h2,.inr ⟨h3,q⟩⟩
end
theorem rdp__law_checkB {D:Ends} {z:Str} {i:Nat} {tot:Int} {c:Nat} {o4:Option V} (hc:c < 128) (q:D.nx [some (.str z),some (.int ((tot + (c:Int) * (1 + (i:Int) % 1008)) % 1009)),some (.int (1 + ((i + 1:Nat):Int) % 1008)),some (.str ⟨#[c]⟩),o4] H) :
    rd__law_check_B K t D [some (.str z),some (.int tot),some (.int (1 + (i:Int) % 1008)),some (.str ⟨#[c]⟩),o4] H:=by
  simp only [rd__law_check_B,cOrd,L2.start,tSeq,tAsg,gName,tNext,tOp,tVar,tC,tCons,tNil,tIfS,tTest,tCB,rEq,rI,rI0,scal,List.map,List.replicate,List.length,List.append,jqa,jqb,jqc,jqd,jqe,jqf,jqg,jqh,jqi,jqj,jqk,jql,jqm,jqn,and_true,true_and,and_assoc,jqo,jqp,jqq,Nat.reduceSub,Nat.reduceAdd,jqr,jqs,jqt,Int.reduceToNat,Int.reducePow,Int.reduceNeg,Int.reduceMul,Int.reduceAdd,if_true,ite_true,jqu,ite_false,if_false]
  have e:(#[c].getD 0 0:Nat)=c:=rfl
  rw [e]
  rw [Int.mul_comm (c:Int)] at q
  refine ⟨rfl,⟨big_small (by omega) (by omega),big_small (by omega) (by omega)⟩,by decide,?_⟩
  by_cases z1:(1 + (i:Int) % 1008 + 1=1009)
  · rw [if_pos z1]
    rw [show (1 + ((i + 1:Nat):Int) % 1008)=1 by omega] at q
    exact q
  · rw [if_neg z1]
    rw [show (1 + ((i + 1:Nat):Int) % 1008)=1 + (i:Int) % 1008 + 1 by omega] at q
    exact q
def ckI (z:Str) (i:Nat) (σ:St) (H0 H':Hp):Prop:=∃ o3,σ=[some (.str z),some (.int ((ckL 0 (z.cps.toList.take i)).sum % 1009)),some (.int (1 + (i:Int) % 1008)),o3,none]∧H'=H0
theorem ck_snoc {z:Str} {i c:Nat} (h:z.cps[i]?=some c):((ckL 0 (z.cps.toList.take i)).sum % 1009 + (c:Int) * (1 + (i:Int) % 1008)) % 1009=(ckL 0 (z.cps.toList.take (i + 1))).sum % 1009:=by
  have li:=(Array.getElem?_eq_some_iff.mp h).1
  rw [← Array.getElem?_toList] at h
  rw [take_snoc h,ckL_app,List.sum_append,List.length_take,Array.length_toList,Nat.min_eq_left (by omega),Nat.zero_add]
  show _=((ckL 0 (z.cps.toList.take i)).sum + ((c:Int) * (1 + (i:Int) % 1008) + 0)) % 1009
  omega
theorem rdp__law_check {z:Str} (h1:Asc z) (h2:z.length≤20000) (q:∀ H',Same H H'→Q (.str (chkS z)) H') :
    rd__law_check K t { nx:=fun _ H'=>Q .non H',rt:=Q } (L2.start ["body","total","weight","sign","figures"] [.str z]) H:=by
  simp only [rd__law_check,rd__law_check_3,cOrd,L2.start,rMulS,tSeq,tAsg,gName,tRet,tNext,tOp,tVar,tC,tCons,tNil,tFor,tIfS,tTest,tCB,LenV,iStr,rEq,rI,rI0,rAddS,cLen,cStr,scal,List.map,List.replicate,List.length,List.append,jqa,jqb,jqc,jqd,jqe,jqf,jqg,jqh,jqi,jqj,jqk,jql,jqm,jqn,and_true,true_and,and_assoc,jqo,jqp,jqq,Nat.reduceSub,Nat.reduceAdd,jqr,jqs,jqt,Int.reduceToNat,Int.reducePow,Int.reduceNeg,Int.reduceMul,Int.reduceAdd,if_true,ite_true,jqu,ite_false,if_false]
  refine loop_str (fun i σ H'=>ckI z i σ H H') ⟨_,rfl,rfl⟩ ?_ ?_
  · rintro i c σ H1 hc ⟨o3,rfl,rfl⟩
    refine rdp__law_checkB (h1 c (by rw [← Array.getElem?_toList] at hc;exact List.mem_of_getElem? hc)) ⟨some (.str ⟨#[c]⟩),?_,rfl⟩
    rw [ck_snoc hc]
  · rintro σ H1 ⟨o3,rfl,rfl⟩
    rw [List.take_of_length_le (by simp)]
    have r:=chk_rng z
    have w:inW (chkI z)=true:=decide_eq_true ⟨by omega,by omega⟩
    obtain ⟨e,l,_⟩:=chk_one r.1 r.2
    have ln:=(isNum_numS w).2.2
    have lz:(Str.ofString "0").length=1:=by decide +kernel
    refine ⟨_,rfl,_,rfl,log_inW w,_,rfl,_,⟨small_size (by show (numS (chkI z)).length≤_;omega),rfl⟩,by omega,?_,?_,_,rfl,_,rfl,?_,?_⟩
    · have:((numS (chkI z)).length:Int)≤40:=by omega
      show -1000000 < 4 - ((numS (chkI z)).length:Int)
      omega
    · rw [lz];omega
    · rw [repS_len,lz]
      show _ + (numS (chkI z)).length≤_
      exact small_size (by omega)
    · have:=q H1 (Same.refl _)
      unfold chkS at this
      rw [e] at this
      exact this
theorem rdp__law_rank {c:Int} (h:Cw c) (q:∀ w H',Same H H'→rB w→Q (.int w) H') :
    rd__law_rank K t { nx:=fun _ H'=>Q .non H',rt:=Q } (L2.start ["cell","rest"] [.int c]) H:=by
  simp only [rd__law_rank,L2.start,tSeq,tAsg,gName,tRet,tNext,tOp,tVar,tC,tIfS,tTest,rEq,rI,rI0,scal,List.map,List.replicate,List.length,List.append,jqa,jqb,jqc,jqd,jqe,jqf,jqg,jqh,jqi,jqj,jqk,jql,jqm,jqn,and_true,true_and,and_assoc,jqo,jqp,jqq,Nat.reduceSub,Nat.reduceAdd,jqr,jqs,jqt,Int.reduceToNat,Int.reducePow,Int.reduceNeg,Int.reduceMul,Int.reduceAdd,if_true,ite_true,jqu,ite_false,if_false]
  refine ⟨dB,by decide,ite2 (fun e=>⟨⟨h.div,cb_gold⟩,pow10 (by decide) (by decide),by decide,q _ _ (Same.refl _) ?_⟩) fun e=>⟨by decide,ite2 (fun e=>⟨pow10 (by decide) (by decide),by decide,q _ _ (Same.refl _) ?_⟩) fun e=>⟨by decide,q _ _ (Same.refl _) ?_⟩⟩⟩
  · have g1:=Int.emod_nonneg (c / 4 * 618033988749894848204586834365) (b:=100000000000000000000000000001) (by decide)
    have g2:=Int.emod_lt_of_pos (c / 4 * 618033988749894848204586834365) (b:=100000000000000000000000000001) (by decide)
    exact ⟨by omega,by omega⟩
  · exact ⟨by omega,by omega⟩
  · exact ⟨by omega,by omega⟩
theorem cop_all:((List.range 128).all fun e=>decide (e=0) || decide (Nat.gcd 1009 e=1))=true:=by decide +kernel
theorem cop_one {e w:Nat} (h0:0 < e) (h1:e < 128) (hw:0 < w) (hw2:w < 1009):¬ 1009 ∣ e * w:=fun z=>by
  have:=List.all_eq_true.mp cop_all e (List.mem_range.mpr h1)
  simp only [Bool.or_eq_true,decide_eq_true_eq] at this
  have g:Nat.Coprime 1009 e:=by rcases this with c | c;(· omega);exact c
  have:=Nat.le_of_dvd hw (g.dvd_of_dvd_mul_left z)
  omega
theorem chk_val:((List.range 1009).all fun n=>decide ((zfS (numS (n:Nat)) 4).cps.toList.foldl (fun a c=>a * 10 + (c - 48)) 0=n))=true:=by decide +kernel
theorem chk_inj {i j:Int} (h0:0≤i) (h1:i < 1009) (g0:0≤j) (g1:j < 1009) (e:zfS (numS i) 4=zfS (numS j) 4):i=j:=by
  have a:=List.all_eq_true.mp chk_val i.toNat (List.mem_range.mpr (by omega))
  have b:=List.all_eq_true.mp chk_val j.toNat (List.mem_range.mpr (by omega))
  rw [show ((i.toNat:Nat):Int)=i by omega,decide_eq_true_eq] at a
  rw [show ((j.toNat:Nat):Int)=j by omega,decide_eq_true_eq] at b
  rw [e] at a
  omega
theorem sum_ne {P S:List Nat} {c d:Nat} (hc:c < 128) (hd:d < 128) (ne:c≠d):(ckL 0 (P ++ c :: S)).sum % 1009≠(ckL 0 (P ++ d :: S)).sum % 1009:=fun z=>by
  rw [ckL_app,ckL_app,List.sum_append,List.sum_append] at z
  have e1:∀ x:Nat,(ckL (0 + P.length) (x :: S)).sum=(x:Int) * (1 + ((0 + P.length:Nat):Int) % 1008) + (ckL (0 + P.length + 1) S).sum:=fun x=>rfl
  rw [e1,e1] at z
  obtain ⟨w,hw⟩:∃ w:Nat,w=1 + (0 + P.length) % 1008:=⟨_,rfl⟩
  have hw':(1 + ((0 + P.length:Nat):Int) % 1008)=(w:Int):=by omega
  rw [hw',← Int.natCast_mul,← Int.natCast_mul] at z
  generalize (ckL 0 P).sum=A at z
  generalize (ckL (0 + P.length + 1) S).sum=B at z
  rcases Nat.lt_or_ge c d with l | l
  · refine cop_one (e:=d - c) (w:=w) (by omega) (by omega) (by omega) (by omega) ?_
    rw [Nat.sub_mul]
    have:=Nat.mul_le_mul_right w (Nat.le_of_lt l)
    generalize c * w=X at *
    generalize d * w=Y at *
    omega
  · refine cop_one (e:=c - d) (w:=w) (by omega) (by omega) (by omega) (by omega) ?_
    rw [Nat.sub_mul]
    have:=Nat.mul_le_mul_right w l
    generalize c * w=X at *
    generalize d * w=Y at *
    omega
theorem bad_mk {z p d:Str} (e:z.cps.toList=p.cps.toList ++ 32 :: d.cps.toList) (no:32 ∉ d.cps.toList) (ne:d≠chkS p) (hp:Asc p) (lp:p.length≤20000):badS z:=by
  have:z=p ++ b32 ++ d:=str_ext (by rw [e,cps_app,cps_app,List.append_assoc];rfl)
  exact ⟨p,b32,d,by rw [b32_eq,this];exact rp_parts no,ne,hp,lp⟩
theorem len_ne {d p:Str} (h:d.cps.toList.length≠4):d≠chkS p:=fun z=>h (by rw [z,Array.length_toList];exact (chk_ok p).1)
theorem last_sp {l:List Nat} (h:32∈l):∃ p s,l=p ++ 32 :: s∧32 ∉ s:=by
  obtain ⟨a,b,e,n⟩:=List.eq_append_cons_of_mem (List.mem_reverse.mpr h)
  refine ⟨b.reverse,a.reverse,?_,fun z=>n (List.mem_reverse.mp z)⟩
  have:=congrArg List.reverse e
  rw [List.reverse_reverse] at this
  rw [this]
  simp
theorem bad_of {b z:Str} {i d:Nat} (hb:Asc b) (lb:b.length≤19000) (sp:32∈b.cps.toList) (hd:d < 128) (hi:i < (b ++ b32 ++ chkS b).length) (ne:(b ++ b32 ++ chkS b).cps[i]?≠some d) (hz:z.cps.toList=(b ++ b32 ++ chkS b).cps.toList.take i ++ d :: (b ++ b32 ++ chkS b).cps.toList.drop (i + 1)):badS z:=by
  obtain ⟨c1,c2,c3⟩:=chk_ok b
  have e0:(b ++ b32 ++ chkS b).cps.toList=b.cps.toList ++ 32 :: (chkS b).cps.toList:=by rw [cps_app,cps_app,List.append_assoc];rfl
  have lx:(b ++ b32 ++ chkS b).length=b.length + 5:=by rw [len_app,len_app,c1];rfl
  rw [← Array.getElem?_toList,e0] at ne
  rw [e0] at hz
  have lB:b.cps.toList.length=b.length:=Array.length_toList
  have lC:(chkS b).cps.toList.length=4:=by rw [Array.length_toList];exact c1
  generalize eB:b.cps.toList=B at *
  generalize eC:(chkS b).cps.toList=C at *
  rcases Nat.lt_trichotomy i B.length with l | l | l
  · rw [List.getElem?_append_left l,List.getElem?_eq_getElem l] at ne
    rw [List.take_append_of_le_length (by omega),List.drop_append_of_le_length (by omega)] at hz
    have eb:B=B.take i ++ B[i] :: B.drop (i + 1):=by rw [← List.drop_eq_getElem_cons l,List.take_append_drop]
    refine bad_mk (p:=⟨(B.take i ++ d :: B.drop (i + 1)).toArray⟩) (d:=chkS b) (by rw [hz,eC];simp) (by rw [eC];exact c3) (fun q=>?_) (fun c hc=>?_) ?_
    · have:=chk_inj (chk_rng _).1 (chk_rng _).2 (chk_rng _).1 (chk_rng _).2 q
      unfold chkI at this
      rw [eB] at this
      have t3:(ckL 0 B).sum % 1009=(ckL 0 (B.take i ++ d :: B.drop (i + 1))).sum % 1009:=this
      rw [show ckL 0 B=ckL 0 (B.take i ++ B[i] :: B.drop (i + 1)) from congrArg (ckL 0) eb] at t3
      have hb':∀ c∈B,c < 128:=fun c hc=>hb c (by rw [eB];exact hc)
      exact sum_ne (hb' _ (List.getElem_mem l)) hd (fun z=>ne (by rw [z])) t3
    · simp at hc
      rcases hc with hc | rfl | hc
      · exact hb c (by rw [eB];exact List.mem_of_mem_take hc)
      · exact hd
      · exact hb c (by rw [eB];exact List.mem_of_mem_drop hc)
    · show (B.take i ++ d :: B.drop (i + 1)).toArray.size≤_
      simp
      omega
  · subst l
    have dn:d≠32:=fun z=>ne (by rw [List.getElem?_append_right (Nat.le_refl _),Nat.sub_self,z];rfl)
    rw [List.take_left,List.drop_append] at hz
    rw [List.drop_eq_nil_of_le (by omega),Nat.add_sub_cancel_left,List.nil_append,List.drop_succ_cons,List.drop_zero] at hz
    obtain ⟨p,s,e,n⟩:=last_sp sp
    refine bad_mk (p:=⟨p.toArray⟩) (d:=⟨(s ++ d :: C).toArray⟩) (by rw [hz,e];simp) ?_ (len_ne (by simp [lC])) (fun c hc=>hb c (by rw [eB,e];simp at hc;simp [hc])) ?_
    · simp only [List.mem_append,List.mem_cons]
      rintro (q | q | q)
      · exact n q
      · exact dn q.symm
      · exact c3 q
    · show p.toArray.size≤_
      have:=congrArg List.length e
      simp at this ⊢
      omega
  · obtain ⟨j,rfl⟩:∃ j,i=B.length + 1 + j:=⟨i - B.length - 1,by omega⟩
    have hj:j < C.length:=by rw [lx] at hi;omega
    rw [List.getElem?_append_right (by omega),show B.length + 1 + j - B.length=j + 1 by omega,List.getElem?_cons_succ] at ne
    have t1:(B ++ 32 :: C).take (B.length + 1 + j)=B ++ 32 :: C.take j:=by
      rw [List.take_append,List.take_of_length_le (by omega),show B.length + 1 + j - B.length=j + 1 by omega,List.take_succ_cons]
    have t2:(B ++ 32 :: C).drop (B.length + 1 + j + 1)=C.drop (j + 1):=by
      rw [List.drop_append,List.drop_eq_nil_of_le (by omega),List.nil_append,show B.length + 1 + j + 1 - B.length=j + 2 by omega,List.drop_succ_cons]
    rw [t1,t2] at hz
    by_cases d32:d=32
    · subst d32
      refine bad_mk (p:=⟨(B ++ 32 :: C.take j).toArray⟩) (d:=⟨(C.drop (j + 1)).toArray⟩) (by rw [hz]) (by simp;exact fun q=>c3 (List.mem_of_mem_drop q)) (len_ne (by simp [lC];omega)) (fun c hc=>?_) ?_
      · simp at hc
        rcases hc with hc | rfl | hc
        · exact hb c (by rw [eB];exact hc)
        · decide
        · exact c2 c (by rw [eC];exact List.mem_of_mem_take hc)
      · show (B ++ 32 :: C.take j).toArray.size≤_
        simp
        omega
    · refine bad_mk (p:=b) (d:=⟨(C.take j ++ d :: C.drop (j + 1)).toArray⟩) (by rw [hz,eB];simp) ?_ (fun q=>?_) hb (by omega)
      · simp only [List.mem_append,List.mem_cons]
        rintro (q | q | q)
        · exact c3 (List.mem_of_mem_take q)
        · exact d32 q.symm
        · exact c3 (List.mem_of_mem_drop q)
      · have:=congrArg (fun s:Str=>s.cps.toList) q
        simp only [eC] at this
        refine ne ?_
        rw [← this,List.getElem?_append_right (by rw [List.length_take];omega),List.length_take,Nat.min_eq_left (by omega),Nat.sub_self]
        rfl
theorem svV {Hk H':Hp} {p:Addr} {o:HO} (e:upd Hk p o=H') (hp:Hk p=none):Same Hk H':=e ▸ isV p hp
theorem rdp__law_refused {mg:Str→Option Value} {z:Str} (T:Txt K mg t) (h1:Asc z) (h2:z.length≤20000) (h3:badS z) (k:∀ H',Same H H'→Q (.bl true) H') :
    rd__law_refused K t { nx:=fun _ H'=>Q .non H',rt:=Q } (L2.start ["text","right","other","another","e"] [.str z]) H:=by
  simp only [rd__law_refused,sp_line_read,tTry,L2.start,tTry,endT,tDropX,tCallX,cIsx,cIsxT,clsV,tSeq,tAsg,gName,tRet,tVar,tC,tTup,tCons,tNil,tAndV,tNotV,tCB,List.map,List.replicate,List.length,List.append,jqa,jqb,jqc,jqd,jqe,jqf,jqg,jqh,jqi,jqj,jqk,jql,jqm,jqn,and_true,true_and,and_assoc,jqo,jqp,jqq,Nat.reduceSub,Nat.reduceAdd,jqr,jqs,jqt,Int.reduceToNat,Int.reducePow,Int.reduceNeg,Int.reduceMul,Int.reduceAdd,if_true,ite_true,jqu,ite_false,if_false]
  refine .inr (.inr ⟨h1,h2,h3,fun H1 s1=>⟨_,rfl,T.y_NoLine,T.e_NoLine_ForerunError,fun e he=>?_⟩⟩)
  have s2:=isV (o:=exO e t.c_NoLine) e he
  have he:upd H1 e (exO e t.c_NoLine) e=some (exO e t.c_NoLine):=upd_same
  generalize upd H1 e (exO e t.c_NoLine)=H2 at *
  refine ⟨_,he,T.y_NoLine,true,T.i_NoLine_NoLine,?_⟩
  rw [if_pos rfl]
  refine ⟨_,he,T.y_NoLine,true,T.i_NoLine_ValueError,by decide,fun p1 hp1=>?_⟩
  generalize e3:upd H2 p1 _=H3
  have s3:=svV e3 hp1
  have q3:H3 p1=some (HO.tup [V.ref t.c_NoNumber,V.ref t.c_NoTerm,V.ref t.c_NoDealing,V.ref t.c_Nought,V.ref t.c_Great]):=e3 ▸ upd_same
  refine ⟨_,s3 _ _ he,T.y_NoLine,[t.c_NoNumber,t.c_NoTerm,t.c_NoDealing,t.c_Nought,t.c_Great],q3,false,T.j_NoLine_0,by decide,fun p2 hp2=>?_⟩
  generalize e4:upd H3 p2 _=H4
  have s4:=svV e4 hp2
  have q4:H4 p2=some (HO.tup [V.ref t.c_Folded,V.ref t.c_NoHand,V.ref t.c_NoOrder,V.ref t.c_NoLog]):=e4 ▸ upd_same
  refine ⟨_,s4 _ _ (s3 _ _ he),T.y_NoLine,[t.c_Folded,t.c_NoHand,t.c_NoOrder,t.c_NoLog],q4,false,T.j_NoLine_1,?_⟩
  simp only [endT,rd__law_refused_4,L2.start,tTry,endT,tDropX,tCallX,cIsx,cIsxT,clsV,tSeq,tAsg,gName,tRet,tVar,tC,tTup,tCons,tNil,tAndV,tNotV,tCB,List.map,List.replicate,List.length,List.append,jqa,jqb,jqc,jqd,jqe,jqf,jqg,jqh,jqi,jqj,jqk,jql,jqm,jqn,and_true,true_and,and_assoc,jqo,jqp,jqq,Nat.reduceSub,Nat.reduceAdd,jqr,jqs,jqt,Int.reduceToNat,Int.reducePow,Int.reduceNeg,Int.reduceMul,Int.reduceAdd,if_true,ite_true,jqu,ite_false,if_false]
  exact k _ (s1.trans (s2.trans (s3.trans s4)))
theorem rdp__law_other5 {x S:Str} {c:Int} {i k d:Nat} (h3:x.length≤20000) (l:S.length=94) (e:S.cps.toList[k]?=some d) (q:∀ z,z.cps.toList=x.cps.toList.take i ++ d :: x.cps.toList.drop (i + 1)→Q (.str z) H) :
    rd__law_other_5 K t { nx:=fun _ H'=>Q .non H',rt:=Q } [some (.str x),some (.int c),some (.str S),some (.int i),some (.int k)] H:=by
  simp only [rd__law_other_5,L2.start,tRet,tOp,tVar,tC,tSl,tPart,tNoPart,rIxS,rI0,rSlS,rAddS,List.map,List.replicate,List.length,List.append,jqa,jqb,jqc,jqd,jqe,jqf,jqg,jqh,jqi,jqj,jqk,jql,jqm,jqn,and_true,true_and,and_assoc,jqo,jqp,jqq,Nat.reduceSub,Nat.reduceAdd,jqr,jqs,jqt,Int.reduceToNat,Int.reducePow,Int.reduceNeg,Int.reduceMul,Int.reduceAdd,if_true,ite_true,jqu,ite_false,if_false]
  have e1:((i:Int) + 1)=((i + 1:Nat):Int):=rfl
  rw [e1]
  have l1:(Txt.slice x none (some (i:Int))).length≤x.length:=by
    show (Txt.slice x none (some (i:Int))).cps.size≤_
    rw [← Array.length_toList,slice_to,List.length_take]
    exact Nat.min_le_right _ _
  have l2:(Txt.slice x (some ((i + 1:Nat):Int)) none).length≤x.length:=by
    show (Txt.slice x (some ((i + 1:Nat):Int)) none).cps.size≤_
    rw [← Array.length_toList,slice_from,List.length_drop]
    exact Nat.sub_le _ _
  refine ⟨small_size (by omega),small_size (by omega),_,atI_nat e,small_size (by rw [one_len];omega),small_size (by omega),small_size (by rw [len_app,one_len];omega),q _ ?_⟩
  rw [cps_app,cps_app,slice_to,slice_from,List.append_assoc]
  rfl
def sgS:Str:=Str.ofString " !\"#$&'()*+,-./0123456789:;<=>?@ABCDEFGHIJKLMNOPQRSTUVWXYZ[\\]^_`" ++ Str.ofString "abcdefghijklmnopqrstuvwxyz{|}~"
theorem sg_fact:(decide (sgS.length=94) && (sgS.cps.toList.all (fun c=>decide (c < 128)) && (List.range 94).all fun k=>decide (sgS.cps.toList[k]?≠sgS.cps.toList[(k + 1) % 94]?)))=true:=by decide +kernel
theorem sg_len2:(Str.ofString " !\"#$&'()*+,-./0123456789:;<=>?@ABCDEFGHIJKLMNOPQRSTUVWXYZ[\\]^_`").length + (Str.ofString "abcdefghijklmnopqrstuvwxyz{|}~").length≤sizeLine:=small_size (by rw [← len_app];have:=sg_fact;simp only [Bool.and_eq_true,decide_eq_true_eq] at this;exact Nat.le_trans (Nat.le_of_eq this.1) (by decide))
theorem rdp__law_other {x:Str} {c:Int} (h1:Asc x) (h2:0 < x.length) (h3:x.length≤20000) (q:∀ z i d H',Same H H'→i < x.length→d < 128→x.cps[i]?≠some d→z.cps.toList=x.cps.toList.take i ++ d :: x.cps.toList.drop (i + 1)→Q (.str z) H') :
    rd__law_other K t { nx:=fun _ H'=>Q .non H',rt:=Q } (L2.start ["line","cell","signs","at","which"] [.str x,.int c]) H:=by
  simp only [rd__law_other,rd__law_other_4,L2.start,tSeq,tAsg,gName,tRet,tNext,tOp,tVar,tC,tCons,tNil,tIfS,tTest,tCB,tSl,tPart,tNoPart,LenV,rIxS,rEq,rI,rI0,rSlS,rAddS,cLen,scal,List.map,List.replicate,List.length,List.append,jqa,jqb,jqc,jqd,jqe,jqf,jqg,jqh,jqi,jqj,jqk,jql,jqm,jqn,and_true,true_and,and_assoc,jqo,jqp,jqq,Nat.reduceSub,Nat.reduceAdd,jqr,jqs,jqt,Int.reduceToNat,Int.reducePow,Int.reduceNeg,Int.reduceMul,Int.reduceAdd,if_true,ite_true,jqu,ite_false,if_false]
  refine ⟨sg_len2,?_⟩
  rw [show Str.ofString " !\"#$&'()*+,-./0123456789:;<=>?@ABCDEFGHIJKLMNOPQRSTUVWXYZ[\\]^_`" ++ Str.ofString "abcdefghijklmnopqrstuvwxyz{|}~"=sgS from rfl]
  have f:=sg_fact
  generalize sgS=S at f ⊢
  simp only [Bool.and_eq_true,decide_eq_true_eq] at f
  obtain ⟨f1,f2,f3⟩:=f
  have lS:S.cps.toList.length=94:=by rw [Array.length_toList];exact f1
  have lx:x.cps.toList.length=x.length:=Array.length_toList
  obtain ⟨i,ei,hi⟩:∃ i:Nat,c % (x.length:Int)=(i:Int)∧i < x.length:=by
    have a:=Int.emod_nonneg c (b:=(x.length:Int)) (by omega)
    have b:=Int.emod_lt_of_pos c (b:=(x.length:Int)) (by omega)
    exact ⟨(c % (x.length:Int)).toNat,by omega,by omega⟩
  obtain ⟨k,ek,hk⟩:∃ k:Nat,c / (x.length:Int) % 94=(k:Int)∧k < 94:=by
    have a:=Int.emod_nonneg (c / (x.length:Int)) (b:=94) (by decide)
    have b:=Int.emod_lt_of_pos (c / (x.length:Int)) (b:=94) (by decide)
    exact ⟨(c / (x.length:Int) % 94).toNat,by omega,by omega⟩
  rw [ei,ek]
  have g1:x.cps.toList[i]?=some x.cps.toList[i]:=List.getElem?_eq_getElem (by omega)
  have g2:S.cps.toList[k]?=some S.cps.toList[k]:=List.getElem?_eq_getElem (by omega)
  have hk2:(k + 1) % 94 < 94:=Nat.mod_lt _ (by decide)
  have g3:S.cps.toList[(k + 1) % 94]?=some S.cps.toList[(k + 1) % 94]:=List.getElem?_eq_getElem (by omega)
  have lt:∀ d∈S.cps.toList,d < 128:=fun d hd=>of_decide_eq_true (List.all_eq_true.mp f2 d hd)
  have xi:∀ d,x.cps[i]?=some d→d=x.cps.toList[i]:=fun d hd=>by rw [← Array.getElem?_toList,g1] at hd;injection hd with hd;exact hd.symm
  refine ⟨small_size (by omega),by omega,small_size (by omega),dB (by omega) (by omega),by decide,small_size (by omega),_,atI_nat g2,small_size (by omega),_,atI_nat g1,ite2 (fun e=>⟨by decide,?_⟩) fun e=>rdp__law_other5 h3 f1 g2 fun z hz=>q z i _ H (Same.refl _) hi (lt _ (List.getElem_mem _)) (fun w=>e (by rw [xi _ w])) hz⟩
  rw [show (((k:Int) + 1) % 94)=(((k + 1) % 94:Nat):Int) by omega]
  refine rdp__law_other5 h3 f1 g3 fun z hz=>q z i _ H (Same.refl _) hi (lt _ (List.getElem_mem _)) (fun w=>?_) hz
  have n:=List.all_eq_true.mp f3 k (List.mem_range.mpr hk)
  rw [decide_eq_true_eq,g2,g3] at n
  refine n ?_
  rw [xi _ w]
  have:S.cps.toList[k]=x.cps.toList[i]:=by injection e with e;simpa using e
  rw [this]
theorem dict_rows (gl:List Row):∃ its:List Row,dOf gl=its.map (fun r=>(plKey r.1,V.int r.2))∧(its.map (·.1)).Nodup∧∀ r∈its,lastW gl r.1=some r.2:=by
  have H1:∀ l:List (List Key × V),(∀ kv∈l,∃ p w,kv=(plKey p,V.int w)∧lastW gl p=some w)→∃ its:List Row,l=its.map (fun r=>(plKey r.1,V.int r.2))∧∀ r∈its,lastW gl r.1=some r.2:=fun l=>by
    induction l with
    | nil=>exact fun _=>⟨[],rfl,fun _ z=>nomatch z⟩
    | cons kv l ih =>
      intro h
      obtain ⟨its,e,f⟩:=ih fun x hx=>h x (List.mem_cons_of_mem _ hx)
      obtain ⟨p,w,e1,e2⟩:=h kv List.mem_cons_self
      refine ⟨(p,w) :: its,by rw [e,e1];rfl,fun r hr=>?_⟩
      rcases List.mem_cons.mp hr with rfl | hr
      · exact e2
      · exact f r hr
  obtain ⟨its,e,f⟩:=H1 (dOf gl) fun kv hk=>mem_dOf.mp hk
  refine ⟨its,e,?_,f⟩
  have nd:=(okKv_dOf gl).1
  rw [e,List.map_map] at nd
  have:(its.map (·.1)).map plKey=its.map ((fun x=>x.1) ∘ fun r:Row=>(plKey r.1,V.int r.2)):=by rw [List.map_map];rfl
  rw [← this] at nd
  exact nodup_map_inj nd
theorem pr_updN {H:Hp} {A:Addr} {o o':HO} {v:V} {r:Row} (hA:H A=some o) (no:∀ zs,o≠.tup zs) (h:PrAt H v r):PrAt (upd H A o') v r:=by
  obtain ⟨a,p,e,h1,h2⟩:=h
  exact ⟨a,p,e,by rw [upd_ne (fun z=>by rw [z,hA] at h1;cases h1;exact no _ rfl)];exact h1,by rw [upd_ne (fun z=>by rw [z,hA] at h2;cases h2;exact no _ rfl)];exact h2⟩
theorem pr_ts {H H':Hp} {v:V} {r:Row} (s:TSame H H') (h:PrAt H v r):PrAt H' v r:=by
  obtain ⟨a,p,e,h1,h2⟩:=h
  exact ⟨a,p,e,s _ _ h1,s _ _ h2⟩
theorem cd_item {G p:Addr} {o:Obj} {gl its:List Row} {i:Nat} {ys:List V} (g2:H G=some (.frz o (.dT (dOf gl)))) (hi:i < its.length) (la:lastW gl its[i].1=some its[i].2) (hp:H p=some (.tup ((plKey its[i].1).map kV))) (pr:Paired (PrAt H) ys (its.take i)) :
    DGet H G (.ref p) (some (.int its[i].2))∧∀ b,H b=none→Paired (PrAt (upd H b (.tup [.ref p,.int its[i].2]))) (ys ++ [V.ref b]) (its.take (i + 1)):=by
  refine ⟨.inr ⟨_,plKey its[i].1,p,.inr ⟨o,g2⟩,rfl,hp,by rw [val_dOf,la];rfl⟩,fun b hb=>?_⟩
  rw [take_snoc (List.getElem?_eq_getElem hi)]
  exact paired_snoc ⟨b,p,rfl,upd_same,isV b hb _ _ hp⟩ (paired_imp (fun _ _=>pr_same (isV b hb)) pr)
theorem mulS {a b:Int} (h1:0≤a) (h2:a≤1000) (h3:0≤b) (h4:b≤1000):CMulB a b:=by
  have hb:(1000:Int) < big:=by decide +kernel
  unfold CMulB
  omega
structure PaS (H0:Hp) (G:Addr) (gl:List Row) (n:Nat) (H:Hp):Prop where
  hG:H G=some (.dT (dOf gl))
  ks:Same H0 H
  fg:H0 G=none
  ng:gl.length≤n
  og:∀ r∈gl,(okPl r.1∧wB r.2)∧r.2≠0
theorem PaS.same {H0 H H':Hp} {G:Addr} {gl:List Row} {n:Nat} (h:PaS H0 G gl n H) (s:Same H H'):PaS H0 G gl n H':=⟨s _ _ h.hG,h.ks.trans s,h.fg,h.ng,h.og⟩
theorem PaS.put {H0 H:Hp} {G:Addr} {gl:List Row} {n:Nat} {r:Row} (h:PaS H0 G gl n H) (hr:(okPl r.1∧wB r.2)∧r.2≠0):PaS H0 G (gl ++ [r]) (n + 1) (upd H G (.dT (dOf (gl ++ [r])))) :=
  ⟨upd_same,same_upd h.ks h.fg,h.fg,by rw [List.length_append];have:=h.ng;show _ + 1≤_;omega,fun i hi=>(List.mem_append.mp hi).elim (h.og i) fun z=>by rw [List.mem_singleton.mp z];exact hr⟩
theorem rdp_pairsE {D:Ends} {H0:Hp} {nm G l:Addr} {c m w u:Int} {k:Nat} {gl:List Row} {xs:List Int} (hk:k < 32) (h:PaS H0 G gl k H) (nmA:NamesAt H0 nm) (hl:H l=some (.lst (xs.map V.int))) (lx:(xs.length:Int)=3) (dr:∀ x∈xs,drI x) (hw:wB w) (hu:wB u) (q:∀ gl H',PaS H0 G gl (k + 1) H'→D.nx [some (.int c),some (.ref nm),some (.int m),some (.ref G),some (.int k),some (.ref l),some (.int w),some (.int u)] H') :
    rd__law_pairs_E K t D [some (.int c),some (.ref nm),some (.int m),some (.ref G),some (.int k),some (.ref l),some (.int w),some (.int u)] H:=by
  simp only [rd__law_pairs_E,sDPut,L2.start,tOp,tVar,tC,tTup,tCons,tNil,tTest,tIf,rIxL,rNe,rI,scal,List.map,List.replicate,List.length,List.append,jqa,jqb,jqc,jqd,jqe,jqf,jqg,jqh,jqi,jqj,jqk,jql,jqm,jqn,and_true,true_and,and_assoc,jqo,jqp,jqq,Nat.reduceSub,Nat.reduceAdd,jqr,jqs,jqt,Int.reduceToNat,Int.reducePow,Int.reduceNeg,Int.reduceMul,Int.reduceAdd,if_true,ite_true,jqu,ite_false,if_false]
  obtain ⟨x0,e0,d0⟩:=at_dr (xs:=xs) (k:=0) (by omega) dr
  obtain ⟨ws,n1,n2,n3⟩:=nmA.same h.ks
  obtain ⟨v,e2,m2⟩:=at_mod (xs:=ws.map V.str) x0 3 (by rw [List.length_map];exact n2) (by decide)
  obtain ⟨nw,hnw,rfl⟩:=List.mem_map.mp m2
  have go:∀ y:Int,wB y→y≠0→∀ p,H p=none→DPut (upd H p (.tup [.str nw,.int w])) G (.ref p) (.int y) (upd (upd H p (.tup [.str nw,.int w])) G (.dT (dOf (gl ++ [((nw,w),y)]))))∧PaS H0 G (gl ++ [((nw,w),y)]) (k + 1) (upd (upd H p (.tup [.str nw,.int w])) G (.dT (dOf (gl ++ [((nw,w),y)])))):=fun y hy ny p hp =>
    have h2:=h.same (isV (o:=HO.tup [.str nw,.int w]) p hp)
    ⟨dput_go (q:=((nw,w),y)) h2.hG upd_same (by have:=h.ng;omega),h2.put ⟨⟨⟨n3 nw hnw,hw⟩,hy⟩,ny⟩⟩
  refine ite2 (fun e=>?_) fun e=>⟨pow10 (by decide) (by decide),?_⟩
  · exact ⟨_,SqL.of hl,_,e0,_,rfl,by decide,_,SqL.of n1,_,e2,by decide,fun p hp=>⟨_,(go u hu e p hp).1,q _ _ (go u hu e p hp).2⟩⟩
  · have g:=go 1000000000000000000000000000000 ⟨by decide,by decide⟩ (by decide)
    exact ⟨_,SqL.of hl,_,e0,_,rfl,by decide,_,SqL.of n1,_,e2,by decide,fun p hp=>⟨_,(g p hp).1,q _ _ (g p hp).2⟩⟩
theorem rdp_pairsC {D:Ends} {H0:Hp} {nm G l:Addr} {c m w:Int} {k:Nat} {o7:Option V} {gl:List Row} {xs:List Int} (hk:k < 32) (h:PaS H0 G gl k H) (nmA:NamesAt H0 nm) (hl:H l=some (.lst (xs.map V.int))) (lx:(xs.length:Int)=3) (dr:∀ x∈xs,drI x) (hw:wB w) (q:∀ gl o5 o6 o7 H',PaS H0 G gl (k + 1) H'→D.nx [some (.int c),some (.ref nm),some (.int m),some (.ref G),some (.int k),o5,o6,o7] H') :
    rd__law_pairs_C K t D [some (.int c),some (.ref nm),some (.int m),some (.ref G),some (.int k),some (.ref l),some (.int w),o7] H:=by
  simp only [rd__law_pairs_C,sp__law_worth,sDPut,L2.start,tSeq,tAsg,gName,tOp,tVar,tC,tTup,tCons,tNil,tTest,tIf,tCall,rIxL,rNe,rI,scal,List.map,List.replicate,List.length,List.append,jqa,jqb,jqc,jqd,jqe,jqf,jqg,jqh,jqi,jqj,jqk,jql,jqm,jqn,and_true,true_and,and_assoc,jqo,jqp,jqq,Nat.reduceSub,Nat.reduceAdd,jqr,jqs,jqt,Int.reduceToNat,Int.reducePow,Int.reduceNeg,Int.reduceMul,Int.reduceAdd,if_true,ite_true,jqu,ite_false,if_false]
  obtain ⟨x2,e2,d2⟩:=at_dr (xs:=xs) (k:=2) (by omega) dr
  exact ⟨_,SqL.of hl,_,e2,_,rfl,d2.cb.w,fun wb H1 s1=>rdp_pairsE hk (h.same s1) nmA (s1 _ _ hl) lx dr hw wb fun gl H' z=>q _ _ _ _ _ z⟩
theorem rdp_pairsB {D:Ends} {H0:Hp} {nm G:Addr} {c m:Int} {k:Nat} {o5 o6 o7:Option V} {gl:List Row} (hk:k < 32) (h:PaS H0 G gl k H) (nmA:NamesAt H0 nm) (q:∀ gl o5 o6 o7 H',PaS H0 G gl (k + 1) H'→D.nx [some (.int c),some (.ref nm),some (.int m),some (.ref G),some (.int k),o5,o6,o7] H') :
    rd__law_pairs_B K t D [some (.int c),some (.ref nm),some (.int m),some (.ref G),some (.int k),o5,o6,o7] H:=by
  simp only [rd__law_pairs_B,sp__law_worth,sp__law_drawn,sDPut,L2.start,tSeq,tAsg,gName,tOp,tVar,tC,tTup,tCons,tNil,tTest,tIf,tCall,rIxL,rNe,rI,rI0,scal,List.map,List.replicate,List.length,List.append,jqa,jqb,jqc,jqd,jqe,jqf,jqg,jqh,jqi,jqj,jqk,jql,jqm,jqn,and_true,true_and,and_assoc,jqo,jqp,jqq,Nat.reduceSub,Nat.reduceAdd,jqr,jqs,jqt,Int.reduceToNat,Int.reducePow,Int.reduceNeg,Int.reduceMul,Int.reduceAdd,if_true,ite_true,jqu,ite_false,if_false]
  have hb:(10000000000000000000000000000000000000000000000:Int) < big:=by decide +kernel
  refine ⟨dB,mulS (by decide) (by decide) (by omega) (by omega),⟨⟨by omega,by omega⟩,by omega,by omega⟩,by decide,by decide,fun l xs H1 s1 _ g1 lx dr=>?_⟩
  obtain ⟨x1,e1,d1⟩:=at_dr (xs:=xs) (k:=1) (by omega) dr
  refine ite2 (fun e=>⟨_,SqL.of g1,_,e1,_,rfl,d1.cb.w,fun wb H2 s2=>?_⟩) fun e=>⟨_,SqL.of g1,_,e1,pow10 (by decide) (by decide),_,rfl,?_,?_⟩
  · exact rdp_pairsC hk (h.same (s1.trans s2)) nmA (s2 _ _ g1) lx dr wb q
  · obtain ⟨a,b⟩:=d1
    exact ⟨⟨by omega,by omega⟩,by omega,by omega⟩
  · refine rdp_pairsC hk (h.same s1) nmA g1 lx dr ?_ q
    obtain ⟨a,b⟩:=d1
    constructor <;> omega
theorem rdp_pairs2 {nm G:Addr} {c m:Int} {o4 o5 o6 o7:Option V} {gl:List Row} (hG:H G=some (.dT (dOf gl))) (l1:(dOf gl).length≤60) (ok:∀ r∈gl,(okPl r.1∧wB r.2)∧r.2≠0) (q:∀ l rows H',Same H H'→RwsAt H' l rows→rsOk rows→(∀ x∈rows,x.2≠0)→Q (.ref l) H') :
    rd__law_pairs_2 K t { nx:=fun _ H'=>Q .non H',rt:=Q } [some (.int c),some (.ref nm),some (.int m),some (.ref G),o4,o5,o6,o7] H:=by
  simp only [rd__law_pairs_2,tFrz,iDT,tDGet,cSrtL,L2.start,gName,tRet,tVar,tTup,tCons,tNil,tCB,tComp,tYes,capV,List.map,List.replicate,List.length,List.append,jqa,jqb,jqc,jqd,jqe,jqf,jqg,jqh,jqi,jqj,jqk,jql,jqm,jqn,and_true,true_and,and_assoc,jqo,jqp,jqq,Nat.reduceSub,Nat.reduceAdd,jqr,jqs,jqt,Int.reduceToNat,Int.reducePow,Int.reduceNeg,Int.reduceMul,Int.reduceAdd,if_true,ite_true,jqu,ite_false,if_false]
  refine ⟨G,_,hG,_,.inl rfl,fun o=>?_⟩
  obtain ⟨H1,e1⟩:∃ H1,H1=upd H G (.frz o (.dT (dOf gl))):=⟨_,rfl⟩
  have g1:H1 G=some (.frz o (.dT (dOf gl))):=e1 ▸ upd_same
  have k1:∀ b u,b≠G→H b=some u→H1 b=some u:=fun b u n e=>by rw [e1,upd_ne n];exact e
  rw [← e1]
  obtain ⟨its,ei,nd,mi⟩:=dict_rows gl
  have li:its.length=(dOf gl).length:=by rw [ei,List.length_map]
  refine ⟨_,_,g1,fun D hD=>?_⟩
  refine comp_inv (J:=Itd G o (dOf gl)) its.length (by omega) (fun τ=>∃ o1,τ=[o1,some (.ref G)]) (fun i ys H'=>Paired (PrAt H') ys (its.take i)) (fun i ys H2 H3 s z=>paired_imp (fun _ _=>pr_ts s) z) ⟨_,rfl⟩ .nil (fun i H2 s h=>⟨s _ _ g1,by omega⟩) (fun H2 s=>⟨s _ _ g1,by omega⟩) hD ?_ ?_
  · rintro i x τ ys H2 H3 ⟨o1,rfl⟩ s2 hi pr ⟨rfl,k,v,p,hk,rfl,hp⟩
    have hr:=List.getElem?_eq_getElem (l:=its) (i:=i) hi
    rw [ei,List.getElem?_map,hr] at hk
    cases hk
    obtain ⟨c1,c2⟩:=cd_item (s2 _ _ g1) hi (mi _ (List.getElem_mem hi)) hp pr
    exact ⟨_,rfl,_,rfl,_,rfl,_,rfl,_,c1,by decide,fun b hb=>⟨⟨_,rfl⟩,c2 b hb,isV b hb⟩⟩
  · intro ys H2 hl pr s2 hq
    rw [List.take_of_length_le (Nat.le_refl _)] at pr
    refine ⟨_,SqL.of hq,its,pr,nd,by omega,fun l zs srt H3 s3 _ g3 p3 up pm=>⟨s3 _ _ (s2 _ _ g1),?_⟩⟩
    have gG:=s3 _ _ (s2 _ _ g1)
    refine q l srt _ (fun b u e=>?_) ⟨zs,?_,paired_imp (fun _ _ z=>pr_updN gG (fun _ z=>nomatch z) z) p3⟩ ⟨up,by rw [pm.length_eq];omega,fun r hr=>(ok r (last_mem (mi r (pm.mem_iff.mp hr)))).1⟩ fun r hr=>(ok r (last_mem (mi r (pm.mem_iff.mp hr)))).2
    · by_cases c:b=G
      · rw [c] at e ⊢;rw [upd_same,← hG];exact e
      · rw [upd_ne c];exact s3 _ _ (s2 _ _ (k1 b u c e))
    · rw [upd_ne (fun z=>by rw [z,gG] at g3;cases g3)];exact g3
theorem rdp__law_pairs {nm:Addr} {c m:Int} (h1:NamesAt H nm) (h2:0≤m) (h3:m≤32) (q:∀ l rows H',Same H H'→RwsAt H' l rows→rsOk rows→(∀ x∈rows,x.2≠0)→Q (.ref l) H') :
    rd__law_pairs K t { nx:=fun _ H'=>Q .non H',rt:=Q } (L2.start ["cell","names","many","worths","k","xs","number","worth"] [.int c,.ref nm,.int m]) H:=by
  simp only [rd__law_pairs,sDPut,iDT,tDGet,tDNewT,cSrtL,L2.start,tSeq,tAsg,gName,tRet,tOp,tVar,tC,tTup,tCons,tNil,tFor,tTest,tIf,tCB,tCall,tComp,tYes,capV,iRng1,rIxL,rNe,rI,rI0,scal,List.map,List.replicate,List.length,List.append,jqa,jqb,jqc,jqd,jqe,jqf,jqg,jqh,jqi,jqj,jqk,jql,jqm,jqn,and_true,true_and,and_assoc,jqo,jqp,jqq,Nat.reduceSub,Nat.reduceAdd,jqr,jqs,jqt,Int.reduceToNat,Int.reducePow,Int.reduceNeg,Int.reduceMul,Int.reduceAdd,if_true,ite_true,jqu,ite_false,if_false]
  have dl:∀ gl:List Row,(dOf gl).length≤gl.length:=len_dOf
  refine fun G hG=>⟨by omega,by omega,loop_range (fun i σ H'=>∃ gl o4 o5 o6 o7,σ=[some (.int c),some (.ref nm),some (.int m),some (.ref G),o4,o5,o6,o7]∧PaS H G gl i H') ⟨[],_,_,_,_,rfl,⟨upd_same,isV G hG,hG,Nat.le_refl _,(fun _ z=>nomatch z)⟩⟩ ?_ ?_⟩
  · rintro i σ H1 hi ⟨gl,o4,o5,o6,o7,rfl,P⟩
    simp only [Int.zero_add]
    exact rdp_pairsB (by omega) P h1 fun gl o5 o6 o7 H' z=>⟨gl,_,_,_,_,rfl,z⟩
  · rintro σ H1 ⟨gl,o4,o5,o6,o7,rfl,P⟩
    have a:=dl gl
    have b:=P.ng
    exact rdp_pairs2 P.hG (by omega) P.og fun l rows H2 s2=>q l rows H2 (P.ks.trans s2)
section
variable {a W:Addr} {ns:List Int} {pre:List Str} {o1 o2 o4 o5 o6 o7:Option V} {H0:Hp}
theorem rdp_body8 {ws:List Str} (hW:H W=some (.lst (ws.map V.str))) (hw:∀ w∈ws,Wd w) (lw:ws.length≤400) (q:Q (.str (joinS (Str.ofString " ") ws)) H) :
    rd__law_body_8 K t { nx:=fun _ H'=>Q .non H',rt:=Q } [some (.ref a),o1,o2,some (.ref W),o4,o5,o6,o7] H:=by
  simp only [rd__law_body_8,L2.start,r_mt_join,tRet,tVar,tC,tCons,tNil,tBM,tyV,List.map,List.replicate,List.length,List.append,jqa,jqb,jqc,jqd,jqe,jqf,jqg,jqh,jqi,jqj,jqk,jql,jqm,jqn,and_true,true_and,and_assoc,jqo,jqp,jqq,Nat.reduceSub,Nat.reduceAdd,jqr,jqs,jqt,Int.reduceToNat,Int.reducePow,Int.reduceNeg,Int.reduceMul,Int.reduceAdd,if_true,ite_true,jqu,ite_false,if_false]
  have l1:=join_len hw
  have l2:=join_le hw
  exact ⟨ws,SqL.of hW,small_size (by omega),q⟩
theorem rdp_bodyB {D:Ends} {A p:Addr} {ws:List Str} {r:Row} (hA:H A=some (.lst (ws.map V.str))) (hp:H p=some (.tup [.str r.1.1,.int r.1.2])) (ok:okPl r.1∧wB r.2) (le:ws.length≤1000) (q:∀ B H',Same H H'→H' B=some (.lst ((ws ++ rwW r).map V.str))→D.nx [some (.ref a),o1,o2,some (.ref B),o4,o5,some (.ref p),some (.int r.2)] H') :
    rd__law_body_B K t D [some (.ref a),o1,o2,some (.ref A),o4,o5,some (.ref p),some (.int r.2)] H:=by
  simp only [rd__law_body_B,rCat,L2.start,rIxT,tAsg,gName,tOp,tVar,tC,tLst,tCons,tNil,tCB,rCat,rIxT,cStr,List.map,List.replicate,List.length,List.append,jqa,jqb,jqc,jqd,jqe,jqf,jqg,jqh,jqi,jqj,jqk,jql,jqm,jqn,and_true,true_and,and_assoc,jqo,jqp,jqq,Nat.reduceSub,Nat.reduceAdd,jqr,jqs,jqt,Int.reduceToNat,Int.reducePow,Int.reduceNeg,Int.reduceMul,Int.reduceAdd,if_true,ite_true,jqu,ite_false,if_false]
  refine ⟨_,SqT.of hp,_,rfl,_,SqT.of hp,_,rfl,_,rfl,log_inW (wB_in ok.1.2),log_inW (wB_in ok.2),by decide,fun b hb=>?_⟩
  obtain ⟨H3,e3,s3,g3⟩:=new_ob (o:=.lst [V.str r.1.1,V.str (numS r.1.2),V.str (numS r.2)]) hb
  rw [show upd H b (HO.lst [V.str r.1.1,V.str (Str.ofString (toString r.1.2)),V.str (Str.ofString (toString r.2))])=H3 from e3.symm]
  refine ⟨_,s3 _ _ hA,_,g3,small_size (by simp;omega),fun c hc=>q c _ (s3.trans (isV c hc)) ?_⟩
  rw [upd_same,List.map_append]
  rfl
theorem rdp_body7 {c m:Int} (h1:SqL K H a (ns.map V.int)) (h2:ns.length≤63) (h3:∀ i∈ns,Cb i) (hW:H W=some (.lst (pre.map V.str))) (m0:0≤m) (m1:m≤32) (hp:∀ w∈pre,Wd w) (lp:pre.length≤100) (q:∀ rows H',Same H H'→rsOk rows→(∀ x∈rows,x.2≠0)→Q (.str (joinS (Str.ofString " ") (pre ++ wsR rows))) H') :
    rd__law_body_7 K t { nx:=fun _ H'=>Q .non H',rt:=Q } [some (.ref a),o1,some (.int c),some (.ref W),o4,some (.int m),o6,o7] H:=by
  simp only [rd__law_body_7,sp__law_pairs,sp__law_names,sp__law_cell_at,rCat,L2.start,rIxT,r_mt_join,tSeq,tAsg,gName,gTup,gCons,gNil,tRet,tOp,tVar,tC,tLst,tCons,tNil,tFor,tCB,tBM,tyV,tCall,iList,rCat,rIxT,cStr,List.map,List.replicate,List.length,List.append,jqa,jqb,jqc,jqd,jqe,jqf,jqg,jqh,jqi,jqj,jqk,jql,jqm,jqn,and_true,true_and,and_assoc,jqo,jqp,jqq,Nat.reduceSub,Nat.reduceAdd,jqr,jqs,jqt,Int.reduceToNat,Int.reducePow,Int.reduceNeg,Int.reduceMul,Int.reduceAdd,if_true,ite_true,jqu,ite_false,if_false]
  refine ⟨ns,3,rfl,h1,h2,h3,fun c3 H1 s1 cb=>fun nm H2 s2 hn=>⟨hn,m0,m1,fun l rows H3 s3 hr ok nz=>?_⟩⟩
  obtain ⟨xs,hx,pr⟩:=hr
  have lx:=Paired.length pr
  have lr:=ok.le
  have S:=s1.trans (s2.trans s3)
  refine ⟨⟨xs,SqL.of hx⟩,loop_list xs (fun i σ H'=>∃ A o6 o7,σ=[some (.ref a),o1,some (.int c),some (.ref A),o4,some (.int m),o6,o7]∧H' A=some (.lst ((pre ++ wsR (rows.take i)).map V.str))∧Same H3 H') ⟨_,_,_,rfl,by rw [show pre ++ wsR (rows.take 0)=pre from List.append_nil _];exact S _ _ hW,Same.refl _⟩ (fun i σ H' ⟨_,_,_,_,_,s⟩=>SqL.of (s _ _ hx)) ?_ ?_⟩
  · rintro i x σ H4 hi ⟨A,o6,o7,rfl,g,s⟩
    have il:=(List.getElem?_eq_some_iff.mp hi).1
    have hr:=List.getElem?_eq_getElem (l:=rows) (i:=i) (by omega)
    obtain ⟨r,p,rfl,e1,e2⟩:=paired_get pr hi hr
    refine ⟨_,rfl,_,SqT.of (s _ _ e1),rfl,_,_,rfl,_,_,rfl,rfl,?_⟩
    refine rdp_bodyB (r:=rows[i]) g (s _ _ e2) (ok.nm _ (List.getElem_mem _)) (by rw [List.length_append,wsR_len,List.length_take];omega) fun B H5 s5 gB=>⟨_,_,_,rfl,?_,s.trans s5⟩
    rw [gB,wsR_snoc hr,List.append_assoc]
  · rintro σ H4 ⟨A,o6,o7,rfl,g,s⟩
    rw [List.take_of_length_le (by omega)] at g
    exact rdp_body8 g (fun w hw=>(List.mem_append.mp hw).elim (hp w) (Wd_rows ok.nm w)) (by rw [List.length_append,wsR_len];omega) (q rows H4 (S.trans s) ok nz)
theorem rdp_body6 {c:Int} (h1:SqL K H a (ns.map V.int)) (h2:ns.length≤63) (h3:∀ i∈ns,Cb i) (hW:H W=some (.lst (pre.map V.str))) (hp:∀ w∈pre,Wd w) (lp:pre.length≤100) (q:∀ rows H',Same H H'→rsOk rows→(∀ x∈rows,x.2≠0)→Q (.str (joinS (Str.ofString " ") (pre ++ wsR rows))) H') :
    rd__law_body_6 K t { nx:=fun _ H'=>Q .non H',rt:=Q } [some (.ref a),o1,some (.int c),some (.ref W),o4,o5,o6,o7] H:=by
  simp only [rd__law_body_6,rCat,L2.start,rIxT,r_mt_join,tSeq,tAsg,gName,gTup,gCons,gNil,tRet,tOp,tVar,tC,tLst,tCons,tNil,tFor,tTest,tIf,tCB,tBM,tyV,tCall,iList,rCat,rIxT,rEq,rI,cStr,scal,List.map,List.replicate,List.length,List.append,jqa,jqb,jqc,jqd,jqe,jqf,jqg,jqh,jqi,jqj,jqk,jql,jqm,jqn,and_true,true_and,and_assoc,jqo,jqp,jqq,Nat.reduceSub,Nat.reduceAdd,jqr,jqs,jqt,Int.reduceToNat,Int.reducePow,Int.reduceNeg,Int.reduceMul,Int.reduceAdd,if_true,ite_true,jqu,ite_false,if_false]
  refine ⟨by decide,ite2 (fun _=>rdp_body7 h1 h2 h3 hW (by decide) (by decide) hp lp q) fun _=>⟨dB,by decide,?_⟩⟩
  have a1:=Int.emod_nonneg (c / 8) (b:=4) (by decide)
  have a2:=Int.emod_lt_of_pos (c / 8) (b:=4) (by decide)
  exact rdp_body7 h1 h2 h3 hW a1 (by omega) hp lp q
theorem rdp_body5 {c:Int} (h1:SqL K H0 a (ns.map V.int)) (h2:ns.length≤63) (h3:∀ i∈ns,Cb i) (ks:Same H0 H) (nW:H0 W=none) (hW:H W=some (.lst (pre.map V.str))) (hp:∀ w∈pre,Wd w) (lp:pre.length≤90) (q:∀ rows H',Same H0 H'→rsOk rows→(∀ x∈rows,x.2≠0)→Q (.str (joinS (Str.ofString " ") (pre ++ Str.ofString ";" :: wsR rows))) H') :
    rd__law_body_5 K t { nx:=fun _ H'=>Q .non H',rt:=Q } [some (.ref a),o1,some (.int c),some (.ref W),o4,o5,o6,o7] H:=by
  simp only [rd__law_body_5,rCat,L2.start,r_mt_append,rAppend,rIxT,r_mt_join,tSeq,tAsg,gName,gTup,gCons,gNil,tRet,tDrop,tOp,tVar,tC,tLst,tCons,tNil,tFor,tTest,tIf,tCB,tBM,tyV,tCall,iList,rCat,rIxT,rEq,rI,cStr,scal,List.map,List.replicate,List.length,List.append,jqa,jqb,jqc,jqd,jqe,jqf,jqg,jqh,jqi,jqj,jqk,jql,jqm,jqn,and_true,true_and,and_assoc,jqo,jqp,jqq,Nat.reduceSub,Nat.reduceAdd,jqr,jqs,jqt,Int.reduceToNat,Int.reducePow,Int.reduceNeg,Int.reduceMul,Int.reduceAdd,if_true,ite_true,jqu,ite_false,if_false]
  refine ⟨.inl ⟨_,SqL.of hW⟩,_,hW,small_lt (by rw [List.length_map];omega),?_⟩
  have ks2:=same_upd (o:=HO.lst (pre.map V.str ++ [V.str (Str.ofString ";")])) ks nW
  refine rdp_body6 (pre:=pre ++ [Str.ofString ";"]) (h1.mono ks2) h2 h3 (by rw [upd_same,List.map_append];rfl) (fun w hw=>?_) (by rw [List.length_append];show _ + 1≤_;omega) fun rows H' s ok nz=>by rw [List.append_assoc];exact q rows H' (ks2.trans s) ok nz
  rcases List.mem_append.mp hw with hw | hw
  · exact hp w hw
  · rw [List.mem_singleton.mp hw];exact Wd_const (x:=";") (by decide +kernel) (by decide +kernel)
theorem rdp_bodyC {D:Ends} {c:Int} {k:Nat} {ws:List Str} (ks:Same H0 H) (nW:H0 W=none) (hW:H W=some (.lst (ws.map V.str))) (lw:ws.length≤90) (q:∀ w H',Same H0 H'→H' W=some (.lst ((ws ++ [numS w]).map V.str))→wB w→D.nx [some (.ref a),some (.int c),o2,some (.ref W),some (.int k),o5,o6,o7] H') :
    rd__law_body_C K t D [some (.ref a),some (.int c),o2,some (.ref W),some (.int k),o5,o6,o7] H:=by
  simp only [rd__law_body_C,sp__law_worth,sp__law_drawn,L2.start,r_mt_append,rAppend,tDrop,tOp,tVar,tC,tCons,tNil,tCB,tBM,tyV,tCall,rIxL,rI,cStr,List.map,List.replicate,List.length,List.append,jqa,jqb,jqc,jqd,jqe,jqf,jqg,jqh,jqi,jqj,jqk,jql,jqm,jqn,and_true,true_and,and_assoc,jqo,jqp,jqq,Nat.reduceSub,Nat.reduceAdd,jqr,jqs,jqt,Int.reduceToNat,Int.reducePow,Int.reduceNeg,Int.reduceMul,Int.reduceAdd,if_true,ite_true,jqu,ite_false,if_false]
  refine ⟨.inl ⟨_,SqL.of hW⟩,dB,by decide,by decide,fun l xs H1 s1 n1 g1 lx dr=>⟨by decide,?_⟩⟩
  obtain ⟨v,e2,m2⟩:=at_mod (xs:=xs.map V.int) (k:Int) 3 (by rw [List.length_map];omega) (by decide)
  obtain ⟨x,hx,rfl⟩:=List.mem_map.mp m2
  refine ⟨_,SqL.of g1,_,e2,_,rfl,(dr x hx).cb.w,fun wb H2 s2=>⟨log_inW (wB_in wb),_,s2 _ _ (s1 _ _ hW),small_lt (by rw [List.length_map];omega),?_⟩⟩
  refine q (wOf x) _ (same_upd (ks.trans (s1.trans s2)) nW) ?_ wb
  rw [upd_same,List.map_append]
  rfl
theorem rdp_bodyA {D:Ends} {c r:Int} (hr:rB r) (ks:Same H0 H) (nW:H0 W=none) (hW:H W=some (.lst ([Str.ofString "deal",numS r].map V.str))) (q:∀ sa o4 H',Same H0 H'→H' W=some (.lst ((Str.ofString "deal" :: numS r :: ocW (.done sa)).map V.str))→ocOk (.done sa)→sa.length≤3→D.nx [some (.ref a),some (.int c),o2,some (.ref W),o4,o5,o6,o7] H') :
    rd__law_body_A K t D [some (.ref a),some (.int c),o2,some (.ref W),o4,o5,o6,o7] H:=by
  simp only [rd__law_body_A,L2.start,r_mt_append,rAppend,tSeq,gName,tDrop,tOp,tVar,tC,tCons,tNil,tFor,tCB,tBM,tyV,tCall,iRng1,rIxL,rI,cStr,List.map,List.replicate,List.length,List.append,jqa,jqb,jqc,jqd,jqe,jqf,jqg,jqh,jqi,jqj,jqk,jql,jqm,jqn,and_true,true_and,and_assoc,jqo,jqp,jqq,Nat.reduceSub,Nat.reduceAdd,jqr,jqs,jqt,Int.reduceToNat,Int.reducePow,Int.reduceNeg,Int.reduceMul,Int.reduceAdd,if_true,ite_true,jqu,ite_false,if_false]
  refine ⟨.inl ⟨_,SqL.of hW⟩,_,hW,small_lt (by rw [List.length_map];show 2 < _;decide),dB,by decide,?_⟩
  have a1:=Int.emod_nonneg (c / 4) (b:=4) (by decide)
  have a2:=Int.emod_lt_of_pos (c / 4) (b:=4) (by decide)
  generalize c / 4 % 4=n at *
  refine ⟨by omega,by omega,loop_range (fun i σ H'=>∃ sa o4,σ=[some (.ref a),some (.int c),o2,some (.ref W),o4,o5,o6,o7]∧Same H0 H'∧H' W=some (.lst ((Str.ofString "deal" :: numS r :: ocW (.done sa)).map V.str))∧sa.length=i∧∀ w∈sa,wB w) ⟨[],_,rfl,same_upd ks nW,upd_same,rfl,(fun _ z=>nomatch z)⟩ ?_ ?_⟩
  · rintro i σ H1 hi ⟨sa,o4,rfl,k1,g1,l1,w1⟩
    simp only [Int.zero_add]
    refine rdp_bodyC k1 nW g1 (by show (sa.map numS).length + 1 + 1 + 1≤_;rw [List.length_map];omega) fun w H2 k2 g2 wb=>⟨sa ++ [w],_,rfl,k2,?_,by rw [List.length_append,l1];rfl,fun u hu=>(List.mem_append.mp hu).elim (w1 u) fun z=>by rw [List.mem_singleton.mp z];exact wb⟩
    rw [g2]
    show some (HO.lst ((_ :: _ :: _ :: (sa.map numS ++ [numS w])).map V.str))=some (HO.lst ((_ :: _ :: _ :: (sa ++ [w]).map numS).map V.str))
    rw [List.map_append]
    rfl
  · rintro σ H1 ⟨sa,o4,rfl,k1,g1,l1,w1⟩
    exact q sa _ H1 k1 g1 ⟨by omega,w1⟩ (by omega)
theorem rdp_body4 {c d r:Int} (hr:rB r) (h1:SqL K H0 a (ns.map V.int)) (h2:ns.length≤63) (h3:∀ i∈ns,Cb i) (ks:Same H0 H) (nW:H0 W=none) (hW:H W=some (.lst ([Str.ofString "deal",numS r].map V.str))) (q:∀ ws H',Same H0 H'→LnW ws→Q (.str (joinS (Str.ofString " ") ws)) H') :
    rd__law_body_4 K t { nx:=fun _ H'=>Q .non H',rt:=Q } [some (.ref a),some (.int c),some (.int d),some (.ref W),o4,o5,o6,o7] H:=by
  simp only [rd__law_body_4,rCat,sLPut,L2.start,r_mt_append,rAppend,rIxT,r_mt_join,tSeq,tAsg,gName,gTup,gCons,gNil,tRet,tDrop,tOp,tVar,tC,tLst,tCons,tNil,tFor,tIfS,tTest,tIf,tCB,tBM,tyV,tCall,iRng1,iList,rCat,rIxL,rIxT,rEq,rI,cStr,scal,List.map,List.replicate,List.length,List.append,jqa,jqb,jqc,jqd,jqe,jqf,jqg,jqh,jqi,jqj,jqk,jql,jqm,jqn,and_true,true_and,and_assoc,jqo,jqp,jqq,Nat.reduceSub,Nat.reduceAdd,jqr,jqs,jqt,Int.reduceToNat,Int.reducePow,Int.reduceNeg,Int.reduceMul,Int.reduceAdd,if_true,ite_true,jqu,ite_false,if_false]
  have wr:=Wd_num (wB_in (rB_w hr))
  refine ⟨by decide,ite2 (fun _=>?_) fun _=>rdp_bodyA hr ks nW hW fun sa o4 H1 k1 g1 ok1 l1=>?_⟩
  · refine ⟨_,hW,0,rfl,by decide,by decide,?_⟩
    refine rdp_body5 (pre:=[Str.ofString "mark",numS r]) h1 h2 h3 (same_upd ks nW) nW upd_same (fun w hw=>?_) (by show 2≤_;decide) fun rows H' s ok nz=>q (markW r rows) H' s (.inr ⟨r,rows,rfl,hr,ok,nz⟩)
    rcases List.mem_cons.mp hw with rfl | hw
    · exact Wd_const (x:="mark") (by decide +kernel) (by decide +kernel)
    · rw [List.mem_singleton.mp hw];exact wr
  · refine rdp_body5 (pre:=Str.ofString "deal" :: numS r :: ocW (.done sa)) h1 h2 h3 k1 nW g1 (fun w hw=>?_) (by show (sa.map numS).length + 1 + 1 + 1≤_;rw [List.length_map];omega) fun rows H' s ok nz=>q (dealW r (.done sa) rows) H' s (.inl ⟨r,.done sa,rows,rfl,hr,ok1,ok,fun _ z=>nomatch z⟩)
    rcases List.mem_cons.mp hw with rfl | hw
    · exact Wd_const (x:="deal") (by decide +kernel) (by decide +kernel)
    · rcases List.mem_cons.mp hw with rfl | hw
      · exact wr
      · exact (Wd_oc ok1).1 w hw
theorem rdp_body3 {c d r:Int} (hr:rB r) (h1:SqL K H0 a (ns.map V.int)) (h2:ns.length≤63) (h3:∀ i∈ns,Cb i) (ks:Same H0 H) (nW:H0 W=none) (hW:H W=some (.lst ([Str.ofString "deal",numS r].map V.str))) (q:∀ ws H',Same H0 H'→LnW ws→Q (.str (joinS (Str.ofString " ") ws)) H') :
    rd__law_body_3 K t { nx:=fun _ H'=>Q .non H',rt:=Q } [some (.ref a),some (.int c),some (.int d),some (.ref W),o4,o5,o6,o7] H:=by
  simp only [rd__law_body_3,rCat,sLPut,L2.start,r_mt_append,rAppend,rIxT,r_mt_join,tSeq,tAsg,gName,gTup,gCons,gNil,tRet,tDrop,tNext,tOp,tVar,tC,tLst,tCons,tNil,tFor,tIfS,tTest,tIf,tCB,tBM,tyV,tCall,iRng1,iList,rCat,rIxL,rIxT,rEq,rI,cStr,scal,List.map,List.replicate,List.length,List.append,jqa,jqb,jqc,jqd,jqe,jqf,jqg,jqh,jqi,jqj,jqk,jql,jqm,jqn,and_true,true_and,and_assoc,jqo,jqp,jqq,Nat.reduceSub,Nat.reduceAdd,jqr,jqs,jqt,Int.reduceToNat,Int.reducePow,Int.reduceNeg,Int.reduceMul,Int.reduceAdd,if_true,ite_true,jqu,ite_false,if_false]
  have wr:=Wd_num (wB_in (rB_w hr))
  refine ⟨by decide,ite2 (fun _=>?_) fun _=>rdp_body4 hr h1 h2 h3 ks nW hW q⟩
  refine ⟨by decide,fun p2 hp2=>⟨dB,by decide,?_⟩⟩
  obtain ⟨H2,e2,s2,g2⟩:=new_ob (o:=.lst [V.str (Str.ofString "told"),V.str (Str.ofString "great"),V.str (Str.ofString "nought")]) hp2
  rw [← e2]
  obtain ⟨w,ew,mw⟩:∃ w:Str,atI [V.str (Str.ofString "told"),V.str (Str.ofString "great"),V.str (Str.ofString "nought")] (c / 4 % 3)=some (.str w)∧w∈whyL:=by
    have m1:=Int.emod_nonneg (c / 4) (b:=3) (by decide)
    have m2:=Int.emod_lt_of_pos (c / 4) (b:=3) (by decide)
    generalize c / 4 % 3=k at m1 m2
    obtain rfl | rfl | rfl:k=0∨k=1∨k=2:=by omega
    · exact ⟨_,rfl,.head _⟩
    · exact ⟨_,rfl,.tail _ (.head _)⟩
    · exact ⟨_,rfl,.tail _ (.tail _ (.head _))⟩
  refine ⟨_,SqL.of g2,_,ew,by decide,fun p3 hp3=>?_⟩
  obtain ⟨H3,e3,s3,g3⟩:=new_ob (o:=.lst [V.str (Str.ofString "off"),V.str w,V.str (Str.ofString ";")]) hp3
  rw [← e3]
  have wd:∀ x∈dealW r (.off w) [],Wd x:=Wd_deal (gs:=[]) hr mw ⟨.nil,Nat.zero_le _,fun _ z=>nomatch z⟩
  have l2:=join_le wd
  have lw:(dealW r (.off w) []).length=5:=rfl
  refine ⟨_,s3 _ _ (s2 _ _ hW),_,g3,small_size (by show 5≤_;decide),fun p4 hp4=>⟨dealW r (.off w) [],SqL.of upd_same,?_,?_⟩⟩
  · have l1:=join_len wd
    exact small_size (by omega)
  · exact q (dealW r (.off w) []) _ (ks.trans (s2.trans (s3.trans (isV p4 hp4)))) (.inl ⟨r,.off w,[],rfl,hr,mw,⟨.nil,Nat.zero_le _,fun _ z=>nomatch z⟩,fun _ _=>rfl⟩)
end
theorem rdp__law_body {a:Addr} {ns:List Int} (h1:SqL K H a (ns.map V.int)) (h2:ns.length≤63) (h3:∀ i∈ns,Cb i) (q:∀ ws H',Same H H'→LnW ws→Q (.str (joinS (Str.ofString " ") ws)) H') :
    rd__law_body K t { nx:=fun _ H'=>Q .non H',rt:=Q } (L2.start ["script","kind","cell","words","k","many","place","worth"] [.ref a]) H:=by
  simp only [rd__law_body,sp__law_cell_at,sp__law_rank,rCat,sLPut,L2.start,r_mt_append,rAppend,rIxT,r_mt_join,tSeq,tAsg,gName,gTup,gCons,gNil,tRet,tDrop,tNext,tOp,tVar,tC,tLst,tCons,tNil,tFor,tIfS,tTest,tIf,tCB,tBM,tyV,tCall,iRng1,iList,rCat,rIxL,rIxT,rEq,rI,cStr,scal,List.map,List.replicate,List.length,List.append,jqa,jqb,jqc,jqd,jqe,jqf,jqg,jqh,jqi,jqj,jqk,jql,jqm,jqn,and_true,true_and,and_assoc,jqo,jqp,jqq,Nat.reduceSub,Nat.reduceAdd,jqr,jqs,jqt,Int.reduceToNat,Int.reducePow,Int.reduceNeg,Int.reduceMul,Int.reduceAdd,if_true,ite_true,jqu,ite_false,if_false]
  refine ⟨ns,1,rfl,h1,h2,h3,fun c H1 s1 cb=>⟨ns,2,rfl,h1.mono s1,h2,h3,fun d H2 s2 db=>⟨ns,0,rfl,h1.mono (s1.trans s2),h2,h3,fun e H3 s3 eb=>⟨eb.w,fun r H4 s4 hr=>⟨log_inW (wB_in (rB_w hr)),by decide,fun W hW=>?_⟩⟩⟩⟩⟩
  have S:=s1.trans (s2.trans (s3.trans s4))
  exact rdp_body3 (H0:=H4) hr (h1.mono S) h2 h3 (isV W hW) hW upd_same fun ws H' s=>q ws H' (S.trans s)
theorem cut_ns (ns:List Int) (lo hi:Option Int):∃ cs:List Int,cutV (ns.map V.int) lo hi=cs.map V.int∧(∀ c∈cs,c∈ns):=by
  refine ⟨(ns.drop (HT.sIx (ns.map V.int).length 0 lo)).take (HT.sIx (ns.map V.int).length (ns.map V.int).length hi - HT.sIx (ns.map V.int).length 0 lo),?_,fun y hy=>List.mem_of_mem_drop (List.mem_of_mem_take hy)⟩
  unfold cutV
  rw [List.map_take,List.map_drop]
theorem ln_ok {ws:List Str} (h:LnW ws):(∀ w∈ws,Wd w)∧ws.length≤400:=by
  rcases h with ⟨r,oc,gs,rfl,h1,h2,h3,h4⟩ | ⟨r,tb,rfl,h1,h2,h3⟩
  · obtain ⟨w1,w2,_⟩:=Wd_oc h2
    have l:=h3.le
    exact ⟨Wd_deal h1 h2 h3,by unfold dealW;simp [wsR_len];omega⟩
  · have l:=h2.le
    exact ⟨Wd_mark h1 h2,by unfold markW;simp [wsR_len];omega⟩
def knd (ws:List Str) (k:Str):Prop:=k.length=4∧∃ rest:List Nat,(joinS (Str.ofString " ") ws).cps.toList=k.cps.toList ++ 32 :: rest
theorem knd_sl {ws:List Str} {k:Str} (h:knd ws k):Txt.slice (joinS (Str.ofString " ") ws) none (some 4)=k:=by
  obtain ⟨l,rest,e⟩:=h
  apply str_ext
  have:=slice_to (joinS (Str.ofString " ") ws) 4
  rw [show (((4:Nat):Int))=4 from rfl] at this
  rw [this,e,List.take_append_of_le_length (by rw [Array.length_toList];exact Nat.le_of_eq l.symm),List.take_of_length_le (by rw [Array.length_toList];exact Nat.le_of_eq l)]
theorem knd_sp {ws:List Str} {k:Str} (h:knd ws k):32∈(joinS (Str.ofString " ") ws).cps.toList:=by
  obtain ⟨l,rest,e⟩:=h
  rw [e]
  exact List.mem_append_right _ List.mem_cons_self
section
variable {a:Addr} {ws:List Str} {o3 o4:Option V}
theorem rdp_law4 {p:Addr} {k:Str} {xs:List V} (hk:knd ws k) (lw:(joinS (Str.ofString " ") ws).length≤20000) (hp:H p=some (.tup (.str k :: xs))) (q:Q (.bl true) H) :
    rd_law_4 K t { nx:=fun _ H'=>Q .non H',rt:=Q } [some (.ref a),some (.str (joinS (Str.ofString " ") ws)),some (.str (lineS ws)),o3,some (.ref p)] H:=by
  simp only [rd_law_4,L2.start,rIxT,tRet,tOp,tVar,tC,tCons,tNil,tAndV,tCB,tSl,tPart,tNoPart,rIxT,rEq,rSlS,cIsi,scal,List.map,List.replicate,List.length,List.append,jqa,jqb,jqc,jqd,jqe,jqf,jqg,jqh,jqi,jqj,jqk,jql,jqm,jqn,and_true,true_and,and_assoc,jqo,jqp,jqq,Nat.reduceSub,Nat.reduceAdd,jqr,jqs,jqt,Int.reduceToNat,Int.reducePow,Int.reduceNeg,Int.reduceMul,Int.reduceAdd,if_true,ite_true,jqu,ite_false,if_false]
  refine ⟨_,.tup hp,true,kit_same "tuple",?_⟩
  rw [if_pos rfl,knd_sl hk]
  exact ⟨_,SqT.of hp,_,at_nat (n:=0) rfl,small_size (by omega),rfl,by rw [decide_eq_true rfl];exact q⟩
theorem knd_two (k w:Str) (rest:List Str) (h:k.length=4):knd (k :: w :: rest) k:=by
  unfold knd
  rw [joinS_eq,b32_eq]
  exact ⟨h,_,join_cpsC⟩
theorem ln_knd (h:LnW ws):∃ k,knd ws k:=by
  rcases h with ⟨r,oc,gs,rfl,_⟩ | ⟨r,tb,rfl,_⟩
  · exact ⟨_,knd_two (Str.ofString "deal") _ _ (by decide +kernel)⟩
  · exact ⟨_,knd_two (Str.ofString "mark") _ _ (by decide +kernel)⟩
theorem rdp_law3 (h:LnW ws) (q:∀ H',Q (.bl true) H') :
    rd_law_3 K t { nx:=fun _ H'=>Q .non H',rt:=Q } [some (.ref a),some (.str (joinS (Str.ofString " ") ws)),some (.str (lineS ws)),o3,o4] H:=by
  simp only [rd_law_3,sp_line_read,L2.start,rIxT,tSeq,tAsg,gName,tRet,tOp,tVar,tC,tCons,tNil,tAndV,tCB,tSl,tPart,tNoPart,tCall,rIxT,rEq,rSlS,cIsi,scal,List.map,List.replicate,List.length,List.append,jqa,jqb,jqc,jqd,jqe,jqf,jqg,jqh,jqi,jqj,jqk,jql,jqm,jqn,and_true,true_and,and_assoc,jqo,jqp,jqq,Nat.reduceSub,Nat.reduceAdd,jqr,jqs,jqt,Int.reduceToNat,Int.reducePow,Int.reduceNeg,Int.reduceMul,Int.reduceAdd,if_true,ite_true,jqu,ite_false,if_false]
  obtain ⟨h1,h2⟩:=ln_ok h
  have l:=join_le h1
  rcases h with ⟨r,oc,gs,rfl,g1,g2,g3,g4⟩ | ⟨r,tb,rfl,g1,g2,g3⟩
  · refine .inl ⟨r,oc,gs,rfl,g1,g2,g3,g4,fun p v g H' s _ _ _ hp=>rdp_law4 (k:=Str.ofString "deal") (knd_two _ _ _ (by decide +kernel)) (by omega) hp (q _)⟩
  · refine .inr (.inl ⟨r,tb,rfl,g1,g2,g3,fun p g H' s _ _ hp=>rdp_law4 (k:=Str.ofString "mark") (knd_two _ _ _ (by decide +kernel)) (by omega) hp (q _)⟩)
theorem rdp_law2 {ns:List Int} (h1:SqL K H a (ns.map V.int)) (h:LnW ws) (q:∀ H',Q (.bl true) H') :
    rd_law_2 K t { nx:=fun _ H'=>Q .non H',rt:=Q } [some (.ref a),some (.str (joinS (Str.ofString " ") ws)),some (.str (lineS ws)),o3,o4] H:=by
  simp only [rd_law_2,sp__law_other,sp__law_refused,L2.start,rIxT,tSeq,tAsg,gName,tRet,tNext,tOp,tVar,tC,tCons,tNil,tFor,tIfS,tNot,tB,tAndV,tCB,tSl,tPart,tNoPart,tCall,LenV,iList,rIxT,rEq,rI,rSlS,rSlL,cLen,cIsi,scal,List.map,List.replicate,List.length,List.append,jqa,jqb,jqc,jqd,jqe,jqf,jqg,jqh,jqi,jqj,jqk,jql,jqm,jqn,and_true,true_and,and_assoc,jqo,jqp,jqq,Nat.reduceSub,Nat.reduceAdd,jqr,jqs,jqt,Int.reduceToNat,Int.reducePow,Int.reduceNeg,Int.reduceMul,Int.reduceAdd,if_true,ite_true,jqu,ite_false,if_false]
  obtain ⟨g1,g2⟩:=ln_ok h
  have l1:=join_le g1
  have as:=lineS_asc g1
  have ln:=lineS_len g1 g2
  obtain ⟨k,hk⟩:=ln_knd h
  have ja:=join_asc g1
  have jl:(joinS (Str.ofString " ") ws).length≤19000:=by omega
  have l0:0 < (lineS ws).length:=by
    have l3:=(chk_ok (joinS (Str.ofString " ") ws)).1
    unfold lineS
    rw [len_app,len_app,b32_len,l3]
    omega
  refine ⟨_,h1,fun p hp=>⟨small_size (by omega),dB (by omega) (by omega),?_⟩⟩
  obtain ⟨cs,ec,_⟩:=cut_ns ns (some 4) none
  rw [ec]
  obtain ⟨H1,e1,s1,q1⟩:=new_ob (o:=.lst (cs.map V.int)) hp
  rw [← e1]
  refine ⟨_,SqL.of q1,fun p2 hp2=>?_⟩
  obtain ⟨ds,ed,_⟩:=cut_ns cs none (some (6000 / ((lineS ws).length:Int)))
  rw [ed]
  obtain ⟨H2,e2,s2,q2⟩:=new_ob (o:=.lst (ds.map V.int)) hp2
  rw [← e2]
  refine ⟨⟨_,SqL.of q2⟩,loop_list (ds.map V.int) (fun i σ H'=>(∃ o3,σ=[some (.ref a),some (.str (joinS (Str.ofString " ") ws)),some (.str (lineS ws)),o3,o4])∧Same H2 H') ⟨⟨_,rfl⟩,Same.refl _⟩ (fun i σ H' ⟨_,s⟩=>SqL.of (s _ _ q2)) ?_ ?_⟩
  · rintro i x σ H3 hi ⟨⟨o3,rfl⟩,s3⟩
    obtain ⟨c,_,rfl⟩:=List.mem_map.mp (List.mem_of_getElem? hi)
    refine ⟨_,rfl,_,rfl,_,rfl,_,rfl,as,l0,ln,fun z i d H4 s4 hi hd ne hz=>?_⟩
    have e5:lineS ws=joinS (Str.ofString " ") ws ++ b32 ++ chkS (joinS (Str.ofString " ") ws):=by unfold lineS;rw [b32_eq]
    have za:Asc z:=fun c hc=>by
      rw [hz] at hc
      rcases List.mem_append.mp hc with hc | hc
      · exact as c (List.mem_of_mem_take hc)
      · rcases List.mem_cons.mp hc with rfl | hc
        · exact hd
        · exact as c (List.mem_of_mem_drop hc)
    have zl:z.length≤20000:=by
      have:=congrArg List.length hz
      rw [Array.length_toList,List.length_append,List.length_cons,List.length_take,List.length_drop,Array.length_toList] at this
      show z.cps.size≤_
      have:(lineS ws).cps.size=(lineS ws).length:=rfl
      omega
    rw [e5] at hi ne hz
    exact ⟨za,zl,bad_of ja jl (knd_sp hk) hd hi ne hz,fun H5 s5=>by rw [if_neg (by decide)];exact ⟨⟨_,rfl⟩,s3.trans (s4.trans s5)⟩⟩
  · rintro σ H3 ⟨⟨o3,rfl⟩,s3⟩
    exact rdp_law3 h q
end
theorem rdp_law {a:Addr} {ns:List Int} (h1:SqL K H a (ns.map V.int)) (h2:ns.length≤63) (h3:∀ i∈ns,Cb i) (q:∀ H',Q (.bl true) H') :
    rd_law K t { nx:=fun _ H'=>Q .non H',rt:=Q } (L2.start ["script","body","line","cell","found"] [.ref a]) H:=by
  simp only [rd_law,sp__law_body,sp__law_check,L2.start,rIxT,tSeq,tAsg,gName,tRet,tNext,tOp,tVar,tC,tCons,tNil,tFor,tIfS,tNot,tB,tAndV,tCB,tSl,tPart,tNoPart,tCall,LenV,iList,rIxT,rEq,rI,rSlS,rSlL,rAddS,cLen,cIsi,scal,List.map,List.replicate,List.length,List.append,jqa,jqb,jqc,jqd,jqe,jqf,jqg,jqh,jqi,jqj,jqk,jql,jqm,jqn,and_true,true_and,and_assoc,jqo,jqp,jqq,Nat.reduceSub,Nat.reduceAdd,jqr,jqs,jqt,Int.reduceToNat,Int.reducePow,Int.reduceNeg,Int.reduceMul,Int.reduceAdd,if_true,ite_true,jqu,ite_false,if_false]
  refine ⟨ns,h1,h2,h3,fun ws H1 s1 hw=>?_⟩
  obtain ⟨g1,g2⟩:=ln_ok hw
  have l1:=join_le g1
  have l3:=(chk_ok (joinS (Str.ofString " ") ws)).1
  exact ⟨small_size (by rw [b32_len];omega),join_asc g1,by omega,fun H2 s2=>⟨small_size (by rw [len_app,b32_len,l3];omega),rdp_law2 (h1.mono (s1.trans s2)) hw q⟩⟩
end
section
variable {P:Program} {w:World} {K:PySem.W.Frag} {mg:Str→Option Value} {base:Heap} {t:Adr}
theorem ok__law_cell_at (T:Txt K mg t):FnOk P w K mg base (CX1 P w) 1 t.a__law_cell_at t.d__law_cell_at ["script","k"] (sp__law_cell_at K):=by
  refine T.f__law_cell_at.ok0 sc__law_cell_at (fun vs H Q E h=>?_) (fun cdv A outer s H vs Q E hr h=>?_)
  · obtain ⟨a,ns,k,rfl,_⟩:=h;rfl
  obtain ⟨a,ns,k,rfl,hS,hl,hb,q⟩:=h
  exact ⟨rd__law_cell_at K t,(pss_cons (ps_if (pt_cmpR op_lt (pv 1) (pe_callB call_len rfl T.b_len bt_len (pa_cons (pv 0) pa_nil)) (nomark _)) (pss_one (ps_ret (pe_ix ix_list (pv 0) (pv 1) (fun _ _=>rfl))))
      pss_nil)
    (pss_one (ps_ret (pe_int (i:=0))))),rdp__law_cell_at hS hl hb q⟩
theorem ok__law_drawn (T:Txt K mg t):FnOk P w K mg base (CX1 P w) 1 t.a__law_drawn t.d__law_drawn ["cell","many"] (sp__law_drawn):=by
  refine T.f__law_drawn.ok0 sc__law_drawn (fun vs H Q E h=>?_) (fun cdv A outer s H vs Q E hr h=>?_)
  · obtain ⟨c,m,rfl,_⟩:=h;rfl
  obtain ⟨c,m,rfl,h1,h2,q⟩:=h
  exact ⟨rd__law_drawn K t,(pss_cons (ps_set (i:=2) sc__law_drawn.nd rfl (Or.inl rfl) (pe_op op_add (pe_op op_mod (pv 0) (pe_int (i:=999999937))) (pe_int (i:=1))))
    (pss_cons (ps_set (i:=3) sc__law_drawn.nd rfl (Or.inl rfl) (pe_op op_add (pe_op op_mod (pe_op op_fdivB (pv 0) (pe_int (i:=999999937))) (pe_int (i:=999999929))) (pe_int (i:=2))))
    (pss_cons (ps_set (i:=4) sc__law_drawn.nd rfl (Or.inl rfl) (pe_lst pa_nil))
    (pss_cons (ps_for PassesOwn.never rfl (pi_range1 rfl T.b_range (pa_cons (pv 1) pa_nil)) (pg_name (i:=5) sc__law_drawn.nd rfl (Or.inl rfl)) (pss_cons (ps_set (i:=2) sc__law_drawn.nd rfl (Or.inl rfl) (pe_op op_mod (pe_op op_add (pe_op op_add (pe_op op_mulB (pv 2) (pe_int (i:=40009))) (pv 3)) (pv 5)) (pe_int (i:=999999937))))
    (pss_cons (ps_set (i:=3) sc__law_drawn.nd rfl (Or.inl rfl) (pe_op op_mod (pe_op op_add (pe_op op_mulB (pv 3) (pe_int (i:=31))) (pe_op op_mulB (pv 2) (pv 2))) (pe_int (i:=999999929))))
    (pss_one (ps_expr (pe_bm PySem.F.plainAttrs_list PySem.F.slot_list_append PySem.F.type_list_append mt_append (pv 4) (pa_cons (pe_op op_add (pv 2) (pv 3)) pa_nil)))))))
    (pss_one (ps_ret (pv 4))))))),rdp__law_drawn h1 h2 q⟩
theorem ok__law_worth (T:Txt K mg t):FnOk P w K mg base (CX1 P w) 1 t.a__law_worth t.d__law_worth ["cell"] (sp__law_worth):=by
  refine T.f__law_worth.ok0 sc__law_worth (fun vs H Q E h=>?_) (fun cdv A outer s H vs Q E hr h=>?_)
  · obtain ⟨c,rfl,_⟩:=h;rfl
  obtain ⟨c,rfl,h,q⟩:=h
  exact ⟨rd__law_worth K t,(pss_cons (ps_set (i:=1) sc__law_worth.nd rfl (Or.inl rfl) (pe_op op_fdivB (pv 0) (pe_int (i:=4))))
    (pss_cons (ps_if (pt_cmpR op_eq (pe_op op_mod (pv 0) (pe_int (i:=4))) (pe_int (i:=0)) (nomark _)) (pss_one (ps_ret (pe_op op_sub (pe_op op_mod (pe_op op_mulC (pv 1) (pe_int (i:=618033988749894848204586834365))) (pe_op op_add (pe_op op_mulC (pe_int (i:=2)) (pe_op op_pow (pe_int (i:=10)) (pe_int (i:=30)))) (pe_int (i:=1)))) (pe_op op_pow (pe_int (i:=10)) (pe_int (i:=30))))))
      pss_nil)
    (pss_cons (ps_if (pt_cmpR op_eq (pe_op op_mod (pv 0) (pe_int (i:=4))) (pe_int (i:=1)) (nomark _)) (pss_one (ps_ret (pe_ix ix_list (pe_lst (pa_cons (pe_op op_pow (pe_int (i:=10)) (pe_int (i:=30))) (pa_cons (pe_un un_neg (pe_op op_pow (pe_int (i:=10)) (pe_int (i:=30)))) (pa_cons (pe_op op_sub (pe_op op_pow (pe_int (i:=10)) (pe_int (i:=30))) (pe_int (i:=1))) (pa_cons (pe_int (i:=0)) (pa_cons (pe_int (i:=64)) (pa_cons (pe_un un_neg (pe_int (i:=64))) (pa_cons (pe_int (i:=1)) (pa_cons (pe_un un_neg (pe_int (i:=1))) pa_nil))))))))) (pe_op op_mod (pv 1) (pe_int (i:=8))) (fun _ _=>rfl))))
      pss_nil)
    (pss_one (ps_ret (pe_op op_sub (pe_op op_mod (pv 1) (pe_int (i:=7))) (pe_int (i:=3)))))))),rdp__law_worth h q⟩
theorem ok__law_pairs (T:Txt K mg t):FnOk P w K mg base (CX1 P w) 2 t.a__law_pairs t.d__law_pairs ["cell","names","many"] (sp__law_pairs):=by
  refine T.f__law_pairs.ok0 sc__law_pairs (fun vs H Q E h=>?_) (fun cdv A outer s H vs Q E hr h=>?_)
  · obtain ⟨c,nm,m,rfl,_⟩:=h;rfl
  obtain ⟨c,nm,m,rfl,h1,h2,h3,q⟩:=h
  exact ⟨rd__law_pairs K t,(pss_cons (ps_set (i:=3) sc__law_pairs.nd rfl (Or.inr rfl) pe_dnewT)
    (pss_cons (ps_for PassesOwn.never rfl (pi_range1 rfl T.b_range (pa_cons (pv 2) pa_nil)) (pg_name (i:=4) sc__law_pairs.nd rfl (Or.inl rfl)) (pss_cons (ps_set (i:=5) sc__law_pairs.nd rfl (Or.inl rfl) (pe_call (FnOk.mono (ok__law_drawn T) (by decide)) hr rfl T.m__law_drawn T.f__law_drawn.kp T.b__law_drawn .nil pass10 (pa_cons (pe_op op_add (pe_op op_fdivB (pv 0) (pe_int (i:=8))) (pe_op op_mulB (pe_op op_mulB (pe_int (i:=97)) (pv 4)) (pv 4))) (pa_cons (pe_int (i:=3)) pa_nil))))
    (pss_cons (ps_set (i:=6) sc__law_pairs.nd rfl (Or.inl rfl) (pe_ifExp (pt_cmpR op_lt (pv 2) (pe_int (i:=4)) (nomark _)) (pe_call (FnOk.mono (ok__law_worth T) (by decide)) hr rfl T.m__law_worth T.f__law_worth.kp T.b__law_worth .nil pass10 (pa_cons (pe_ix ix_list (pv 5) (pe_int (i:=1)) (fun _ _=>rfl)) pa_nil)) (pe_op op_add (pe_op op_mulB (pe_ix ix_list (pv 5) (pe_int (i:=1)) (fun _ _=>rfl)) (pe_op op_pow (pe_int (i:=10)) (pe_int (i:=20)))) (pv 4))))
    (pss_cons (ps_set (i:=7) sc__law_pairs.nd rfl (Or.inl rfl) (pe_call (FnOk.mono (ok__law_worth T) (by decide)) hr rfl T.m__law_worth T.f__law_worth.kp T.b__law_worth .nil pass10 (pa_cons (pe_ix ix_list (pv 5) (pe_int (i:=2)) (fun _ _=>rfl)) pa_nil)))
    (pss_one (ps_dput (hu_of hr) (pv 3) (pe_tup (pa_cons (pe_ix ix_list (pv 1) (pe_op op_mod (pe_ix ix_list (pv 5) (pe_int (i:=0)) (fun _ _=>rfl)) (pe_int (i:=3))) (fun _ _=>rfl)) (pa_cons (pv 6) pa_nil))) (pe_ifExp (pt_cmpR op_ne (pv 7) (pe_int (i:=0)) (nomark _)) (pv 7) (pe_op op_pow (pe_int (i:=10)) (pe_int (i:=30)))) rfl))))))
    (pss_one (ps_frz (ps_ret (pe_callB (call_sortedL rfl (hu3 hr)) rfl T.b_sorted bt_sorted (pa_cons (pe_comp rfl (osc:=defScope s__law_pairs) (N:=["cell","names","many","worths","k","xs","number","worth"]) (xs:=["place"]) (ix:=[3]) (by decide +kernel) (pi_dictT (pv 3)) (fun _ _ _ _=>(pg_name (i:=0) (show List.Nodup (["place","worths"]:List Str) from (by decide +kernel)) rfl (Or.inl rfl) (.inr rfl))) (fun _ _ _ _=>pts_nil) (fun _ _ _ _=>(pe_tup (pa_cons (pv 0) (pa_cons (pe_dget (hu_of hr) (pv 1) (pv 0) (fun _ _=>rfl)) pa_nil))))) pa_nil))))))),rdp__law_pairs h1 h2 h3 q⟩
theorem ok__law_names (T:Txt K mg t):FnOk P w K mg base (CX1 P w) 2 t.a__law_names t.d__law_names ["cell"] (sp__law_names):=by
  refine T.f__law_names.ok0 sc__law_names (fun vs H Q E h=>?_) (fun cdv A outer s H vs Q E hr h=>?_)
  · obtain ⟨c,rfl,_⟩:=h;rfl
  obtain ⟨c,rfl,q⟩:=h
  exact ⟨rd__law_names K t,(pss_cons (ps_set (i:=1) sc__law_names.nd rfl (Or.inl rfl) (pe_str (x:="abcdefghijklmnopqrstuvwxyz")))
    (pss_cons (ps_set (i:=2) sc__law_names.nd rfl (Or.inl rfl) (pe_lst (pa_str (x:="take") (pa_str (x:="give") (pa_str (x:="let") (pa_str (x:="say") (pa_str (x:="off") (pa_str (x:="if") (pa_str (x:="else") (pa_str (x:="end") (pa_str (x:="as") pa_nil)))))))))))
    (pss_cons (ps_set (i:=2) sc__law_names.nd rfl (Or.inl rfl) (pe_op op_cat (pv 2) (pe_lst (pa_cons (pe_str (x:="plus")) (pa_cons (pe_str (x:="minus")) (pa_cons (pe_str (x:="times")) (pa_cons (pe_str (x:="over")) (pa_cons (pe_str (x:="rest")) (pa_cons (pe_str (x:="under")) (pa_cons (pe_str (x:="same")) pa_nil))))))))))
    (pss_cons (ps_set (i:=3) sc__law_names.nd rfl (Or.inl rfl) (pe_op op_add (pe_int (i:=1)) (pe_op op_mod (pv 0) (pe_int (i:=6)))))
    (pss_cons (ps_set (i:=4) sc__law_names.nd rfl (Or.inl rfl) (pe_op op_mod (pe_op op_fdivB (pv 0) (pe_int (i:=6))) (pv 3)))
    (pss_cons (ps_set (i:=5) sc__law_names.nd rfl (Or.inl rfl) (pe_call (FnOk.mono (ok__law_drawn T) (by decide)) hr rfl T.m__law_drawn T.f__law_drawn.kp T.b__law_drawn .nil pass10 (pa_cons (pe_op op_fdivB (pv 0) (pe_int (i:=36))) (pa_cons (pe_op op_add (pv 3) (pe_int (i:=1))) pa_nil))))
    (pss_cons (ps_set (i:=6) sc__law_names.nd rfl (Or.inl rfl) (pe_lst pa_nil))
    (pss_cons (ps_for PassesOwn.never rfl (pi_range1 rfl T.b_range (pa_cons (pe_int (i:=3)) pa_nil)) (pg_name (i:=7) sc__law_names.nd rfl (Or.inl rfl)) (pss_cons (ps_set (i:=8) sc__law_names.nd rfl (Or.inl rfl) (pe_str (x:="")))
    (pss_cons (ps_for PassesOwn.never rfl (pi_range1 rfl T.b_range (pa_cons (pv 3) pa_nil)) (pg_name (i:=9) sc__law_names.nd rfl (Or.inl rfl)) (pss_cons (ps_set (i:=10) sc__law_names.nd rfl (Or.inl rfl) (pe_op op_mulB (pe_op op_mulB (pv 7) (pe_callTy call_int_bl rfl T.b_int bt_int (pa_cons (pe_cmpR op_eq (pv 9) (pv 4) (nomark _)) pa_nil))) (pe_op op_mod (pe_ix ix_list (pv 5) (pv 3) (fun _ _=>rfl)) (pe_int (i:=2)))))
    (pss_one (ps_set (i:=8) sc__law_names.nd rfl (Or.inl rfl) (pe_op op_add_str (pv 8) (pe_ix ix_str (pv 1) (pe_op op_mod (pe_op op_add (pe_ix ix_list (pv 5) (pv 9) (fun _ _=>rfl)) (pv 10)) (pe_int (i:=26))) (fun _ _=>rfl)))))))
    (pss_cons (ps_if (pt_cmpR op_eq (pe_op op_mod (pe_ix ix_list (pv 5) (pv 3) (fun _ _=>rfl)) (pe_int (i:=2))) (pe_int (i:=0)) (nomark _)) (pss_one (ps_set (i:=8) sc__law_names.nd rfl (Or.inl rfl) (pe_slice sl_str (pv 8) po_none (po_some (pe_callB (call_max2 rfl) rfl T.b_max bt_max (pa_cons (pe_int (i:=1)) (pa_cons (pe_op op_sub (pv 3) (pv 7)) pa_nil)))))))
      pss_nil)
    (pss_cons (ps_if (pt_cmpR op_in_seq (pv 8) (pv 2) (by with_unfolding_all rfl)) (pss_one (ps_set (i:=8) sc__law_names.nd rfl (Or.inl rfl) (pe_op op_add_str (pe_slice sl_str (pv 8) po_none (po_some (pe_un un_neg (pe_int (i:=1))))) (pe_str (x:="q")))))
      pss_nil)
    (pss_one (ps_expr (pe_bm PySem.F.plainAttrs_list PySem.F.slot_list_append PySem.F.type_list_append mt_append (pv 6) (pa_cons (pv 8) pa_nil)))))))))
    (pss_one (ps_ret (pv 6))))))))))),rdp__law_names q⟩
theorem ok__law_rank (T:Txt K mg t):FnOk P w K mg base (CX1 P w) 1 t.a__law_rank t.d__law_rank ["cell"] (sp__law_rank):=by
  refine T.f__law_rank.ok0 sc__law_rank (fun vs H Q E h=>?_) (fun cdv A outer s H vs Q E hr h=>?_)
  · obtain ⟨c,rfl,_⟩:=h;rfl
  obtain ⟨c,rfl,h,q⟩:=h
  exact ⟨rd__law_rank K t,(pss_cons (ps_set (i:=1) sc__law_rank.nd rfl (Or.inl rfl) (pe_op op_fdivB (pv 0) (pe_int (i:=4))))
    (pss_cons (ps_if (pt_cmpR op_eq (pe_op op_mod (pv 0) (pe_int (i:=4))) (pe_int (i:=0)) (nomark _)) (pss_one (ps_ret (pe_op op_mod (pe_op op_mulC (pv 1) (pe_int (i:=618033988749894848204586834365))) (pe_op op_add (pe_op op_pow (pe_int (i:=10)) (pe_int (i:=29))) (pe_int (i:=1))))))
      pss_nil)
    (pss_cons (ps_if (pt_cmpR op_eq (pe_op op_mod (pv 0) (pe_int (i:=4))) (pe_int (i:=1)) (nomark _)) (pss_one (ps_ret (pe_op op_sub (pe_op op_pow (pe_int (i:=10)) (pe_int (i:=29))) (pe_op op_mod (pv 1) (pe_int (i:=3))))))
      pss_nil)
    (pss_one (ps_ret (pe_op op_mod (pv 1) (pe_int (i:=7)))))))),rdp__law_rank h q⟩
theorem ok__law_body (T:Txt K mg t):FnOk P w K mg base (CX1 P w) 3 t.a__law_body t.d__law_body ["script"] (sp__law_body K):=by
  refine T.f__law_body.ok0 sc__law_body (fun vs H Q E h=>?_) (fun cdv A outer s H vs Q E hr h=>?_)
  · obtain ⟨a,ns,rfl,_⟩:=h;rfl
  obtain ⟨a,ns,rfl,h1,h2,h3,q⟩:=h
  exact ⟨rd__law_body K t,(pss_cons (ps_set (i:=1) sc__law_body.nd rfl (Or.inl rfl) (pe_call (FnOk.mono (ok__law_cell_at T) (by decide)) hr rfl T.m__law_cell_at T.f__law_cell_at.kp T.b__law_cell_at .nil pass10 (pa_cons (pv 0) (pa_cons (pe_int (i:=1)) pa_nil))))
    (pss_cons (ps_set (i:=2) sc__law_body.nd rfl (Or.inl rfl) (pe_call (FnOk.mono (ok__law_cell_at T) (by decide)) hr rfl T.m__law_cell_at T.f__law_cell_at.kp T.b__law_cell_at .nil pass10 (pa_cons (pv 0) (pa_cons (pe_int (i:=2)) pa_nil))))
    (pss_cons (ps_set (i:=3) sc__law_body.nd rfl (Or.inl rfl) (pe_lst (pa_cons (pe_str (x:="deal")) (pa_cons (pe_callTy call_str_int rfl T.b_str bt_str (pa_cons (pe_call (FnOk.mono (ok__law_rank T) (by decide)) hr rfl T.m__law_rank T.f__law_rank.kp T.b__law_rank .nil pass10 (pa_cons (pe_call (FnOk.mono (ok__law_cell_at T) (by decide)) hr rfl T.m__law_cell_at T.f__law_cell_at.kp T.b__law_cell_at .nil pass10 (pa_cons (pv 0) (pa_cons (pe_int (i:=0)) pa_nil))) pa_nil)) pa_nil)) pa_nil))))
    (pss_cons (ps_if (pt_cmpR op_eq (pe_op op_mod (pv 1) (pe_int (i:=4))) (pe_int (i:=0)) (nomark _)) (pss_one (ps_ret (pe_bm PySem.F.plainAttrs_str PySem.F.slot_str_join PySem.F.type_str_join mt_join (pe_str (x:=" ")) (pa_cons (pe_op op_cat (pv 3) (pe_lst (pa_cons (pe_str (x:="off")) (pa_cons (pe_ix ix_list (pe_lst (pa_cons (pe_str (x:="told")) (pa_cons (pe_str (x:="great")) (pa_cons (pe_str (x:="nought")) pa_nil)))) (pe_op op_mod (pe_op op_fdivB (pv 1) (pe_int (i:=4))) (pe_int (i:=3))) (fun _ _=>rfl)) (pa_cons (pe_str (x:=";")) pa_nil))))) pa_nil))))
      pss_nil)
    (pss_cons (ps_if (pt_cmpR op_eq (pe_op op_mod (pv 1) (pe_int (i:=4))) (pe_int (i:=1)) (nomark _)) (pss_one (ps_lput (pv 3) (pe_int (i:=0)) (pe_str (x:="mark")) rfl))
      (pss_cons (ps_expr (pe_bm PySem.F.plainAttrs_list PySem.F.slot_list_append PySem.F.type_list_append mt_append (pv 3) (pa_cons (pe_str (x:="done")) pa_nil)))
    (pss_one (ps_for PassesOwn.never rfl (pi_range1 rfl T.b_range (pa_cons (pe_op op_mod (pe_op op_fdivB (pv 1) (pe_int (i:=4))) (pe_int (i:=4))) pa_nil)) (pg_name (i:=4) sc__law_body.nd rfl (Or.inl rfl)) (pss_one (ps_expr (pe_bm PySem.F.plainAttrs_list PySem.F.slot_list_append PySem.F.type_list_append mt_append (pv 3) (pa_cons (pe_callTy call_str_int rfl T.b_str bt_str (pa_cons (pe_call (FnOk.mono (ok__law_worth T) (by decide)) hr rfl T.m__law_worth T.f__law_worth.kp T.b__law_worth .nil pass10 (pa_cons (pe_ix ix_list (pe_call (FnOk.mono (ok__law_drawn T) (by decide)) hr rfl T.m__law_drawn T.f__law_drawn.kp T.b__law_drawn .nil pass10 (pa_cons (pe_op op_fdivB (pv 1) (pe_int (i:=16))) (pa_cons (pe_int (i:=3)) pa_nil))) (pe_op op_mod (pv 4) (pe_int (i:=3))) (fun _ _=>rfl)) pa_nil)) pa_nil)) pa_nil))))))))
    (pss_cons (ps_expr (pe_bm PySem.F.plainAttrs_list PySem.F.slot_list_append PySem.F.type_list_append mt_append (pv 3) (pa_cons (pe_str (x:=";")) pa_nil)))
    (pss_cons (ps_set (i:=5) sc__law_body.nd rfl (Or.inl rfl) (pe_ifExp (pt_cmpR op_eq (pe_op op_mod (pv 2) (pe_int (i:=8))) (pe_int (i:=3)) (nomark _)) (pe_int (i:=32)) (pe_op op_mod (pe_op op_fdivB (pv 2) (pe_int (i:=8))) (pe_int (i:=4)))))
    (pss_cons (ps_for PassesOwn.never rfl (pi_list (pe_call (FnOk.mono (ok__law_pairs T) (by decide)) hr rfl T.m__law_pairs T.f__law_pairs.kp T.b__law_pairs .nil pass10 (pa_cons (pv 2) (pa_cons (pe_call (FnOk.mono (ok__law_names T) (by decide)) hr rfl T.m__law_names T.f__law_names.kp T.b__law_names .nil pass10 (pa_cons (pe_call (FnOk.mono (ok__law_cell_at T) (by decide)) hr rfl T.m__law_cell_at T.f__law_cell_at.kp T.b__law_cell_at .nil pass10 (pa_cons (pv 0) (pa_cons (pe_int (i:=3)) pa_nil))) pa_nil)) (pa_cons (pv 5) pa_nil))))) (pg_tup rfl (pgs_cons (pg_name (i:=6) sc__law_body.nd rfl (Or.inl rfl)) (pgs_cons (pg_name (i:=7) sc__law_body.nd rfl (Or.inl rfl)) pgs_nil))) (pss_one (ps_set (i:=3) sc__law_body.nd rfl (Or.inl rfl) (pe_op op_cat (pv 3) (pe_lst (pa_cons (pe_ix ix_tup (pv 6) (pe_int (i:=0)) (fun _ _=>rfl)) (pa_cons (pe_callTy call_str_int rfl T.b_str bt_str (pa_cons (pe_ix ix_tup (pv 6) (pe_int (i:=1)) (fun _ _=>rfl)) pa_nil)) (pa_cons (pe_callTy call_str_int rfl T.b_str bt_str (pa_cons (pv 7) pa_nil)) pa_nil))))))))
    (pss_one (ps_ret (pe_bm PySem.F.plainAttrs_str PySem.F.slot_str_join PySem.F.type_str_join mt_join (pe_str (x:=" ")) (pa_cons (pv 3) pa_nil)))))))))))),rdp__law_body h1 h2 h3 q⟩
theorem ok_is_name (T:Txt K mg t):FnOk P w K mg base (CX1 P w) 1 t.a_is_name t.d_is_name ["text"] (sp_is_name):=by
  refine T.f_is_name.ok0 sc_is_name (fun vs H Q E h=>?_) (fun cdv A outer s H vs Q E hr h=>?_)
  · obtain ⟨x,rfl,_⟩:=h;rfl
  obtain ⟨x,rfl,hx,q⟩:=h
  exact ⟨rd_is_name K t,(pss_cons (ps_if (PW.pt (pw_or (pt_cmpR op_eq (pv 0) (pe_str (x:="")) (nomark _)) (pw_or1 (pt_cmpR op_gt (pe_callB call_len rfl T.b_len bt_len (pa_cons (pv 0) pa_nil)) (pe_glob rfl T.g_MOST_LETTERS ⟨_,rfl⟩) (nomark _))))) (pss_one (ps_ret (pe_bl (b:=false))))
      pss_nil)
    (pss_cons (ps_if (PW.pt (pw_or (pt_cmpR op_in_seq (pv 0) (pe_glob rfl T.g_JOINING rfl) (by with_unfolding_all rfl)) (pw_or1 (pt_cmpR op_in_seq (pv 0) (pe_glob rfl T.g_ROW_WORDS rfl) (by with_unfolding_all rfl))))) (pss_one (ps_ret (pe_bl (b:=false))))
      pss_nil)
    (pss_one (ps_ret (pe_callB (call_allL rfl) rfl T.b_all bt_all (pa_cons (pe_comp rfl (osc:=defScope s_is_name) (N:=["text"]) (xs:=["sign"]) (ix:=[]) (by decide +kernel) (pi_str (pv 0)) (fun _ _ _ _=>(pg_name (i:=0) (show List.Nodup (["sign"]:List Str) from (by decide +kernel)) rfl (Or.inl rfl) (.inr rfl))) (fun _ _ _ _=>pts_nil) (fun _ _ _ _=>(pe_cmpR op_in_str (pv 0) (pe_glob rfl T.g_LETTERS ⟨_,rfl⟩) (by with_unfolding_all rfl)))) pa_nil)))))),rdp_is_name hx T.v_JOINING T.v_ROW_WORDS q⟩
theorem ok_shelf_in (T:Txt K mg t):FnOk P w K mg base (CX1 P w) 2 t.a_shelf_in t.d_shelf_in ["word"] (sp_shelf_in):=by
  refine T.f_shelf_in.ok0 sc_shelf_in (fun vs H Q E h=>?_) (fun cdv A outer s H vs Q E hr h=>?_)
  · obtain ⟨w,rfl,_⟩:=h;rfl
  obtain ⟨w,rfl,h1,q⟩:=h
  exact ⟨rd_shelf_in K t,(pss_cons (ps_if (pt_not (pt_val (pe_call (FnOk.mono (ok_is_name T) (by decide)) hr rfl T.m_is_name T.f_is_name.kp T.b_is_name .nil pass10 (pa_cons (pv 0) pa_nil)))) (pss_one ps_never)
      pss_nil)
    (pss_one (ps_ret (pv 0)))),rdp_shelf_in h1 q⟩
theorem ok_is_worth (T:Txt K mg t):FnOk P w K mg base (CX1 P w) 1 t.a_is_worth t.d_is_worth ["thing"] (sp_is_worth K):=by
  refine T.f_is_worth.ok0 sc_is_worth (fun vs H Q E h=>?_) (fun cdv A outer s H vs Q E hr h=>?_)
  · obtain ⟨x,rfl,_⟩:=h;rfl
  obtain ⟨x,rfl,h⟩:=h
  exact ⟨rd_is_worth K t,(pss_cons (ps_if (PW.pt (pw_or (pt_not (pt_val (pe_callB call_isi rfl T.b_isinstance bt_isinstance (pa_cons (pv 0) (pa_cons (pe_bltn rfl T.b_int bt_int rfl) pa_nil))))) (pw_or1 (pt_val (pe_callB call_isi rfl T.b_isinstance bt_isinstance (pa_cons (pv 0) (pa_cons (pe_bltn rfl T.b_bool bt_bool rfl) pa_nil))))))) (pss_one (ps_ret (pe_bl (b:=false))))
      pss_nil)
    (pss_one (ps_ret (pe_chain op_le op_le (pe_un un_neg (pe_op op_pow (pe_int (i:=10)) (pe_int (i:=30)))) (pv 0) (pe_op op_pow (pe_int (i:=10)) (pe_int (i:=30))))))),rdp_is_worth (kf K).i_b h⟩
theorem ok_is_figures (T:Txt K mg t):FnOk P w K mg base (CX1 P w) 1 t.a_is_figures t.d_is_figures ["text"] (sp_is_figures):=by
  refine T.f_is_figures.ok0 sc_is_figures (fun vs H Q E h=>?_) (fun cdv A outer s H vs Q E hr h=>?_)
  · obtain ⟨x,rfl,_⟩:=h;rfl
  obtain ⟨x,rfl,hx,q⟩:=h
  exact ⟨rd_is_figures K t,(pss_one (ps_ret (pe_and (pe_cmpR op_ne (pv 0) (pe_str (x:="")) (nomark _)) (pe_one (pe_callB (call_allL rfl) rfl T.b_all bt_all (pa_cons (pe_comp rfl (osc:=defScope s_is_figures) (N:=["text"]) (xs:=["sign"]) (ix:=[]) (by decide +kernel) (pi_str (pv 0)) (fun _ _ _ _=>(pg_name (i:=0) (show List.Nodup (["sign"]:List Str) from (by decide +kernel)) rfl (Or.inl rfl) (.inr rfl))) (fun _ _ _ _=>pts_nil) (fun _ _ _ _=>(pe_cmpR op_in_str (pv 0) (pe_glob rfl T.g_FIGURES ⟨_,rfl⟩) (by with_unfolding_all rfl)))) pa_nil)))))),rdp_is_figures hx q⟩
theorem ok_numeral (T:Txt K mg t):FnOk P w K mg base (CX1 P w) 1 t.a_numeral t.d_numeral ["worth"] (sp_numeral):=by
  refine T.f_numeral.ok0 sc_numeral (fun vs H Q E h=>?_) (fun cdv A outer s H vs Q E hr h=>?_)
  · obtain ⟨w,rfl,_⟩:=h;rfl
  obtain ⟨w,rfl,hw,q⟩:=h
  exact ⟨rd_numeral K t,(pss_one (ps_ret (pe_callTy call_str_int rfl T.b_str bt_str (pa_cons (pv 0) pa_nil)))),rdp_numeral hw q⟩
theorem ok_is_numeral (T:Txt K mg t):FnOk P w K mg base (CX1 P w) 2 t.a_is_numeral t.d_is_numeral ["text"] (sp_is_numeral):=by
  refine T.f_is_numeral.ok0 sc_is_numeral (fun vs H Q E h=>?_) (fun cdv A outer s H vs Q E hr h=>?_)
  · obtain ⟨x,rfl,_⟩:=h;rfl
  obtain ⟨x,rfl,hx,q⟩:=h
  exact ⟨rd_is_numeral K t,(pss_cons (ps_set (i:=1) sc_is_numeral.nd rfl (Or.inl rfl) (pe_ifExp (pt_val (pe_bm PySem.F.plainAttrs_str PySem.F.slot_str_startswith PySem.F.type_str_startswith mt_startswith (pv 0) (pa_cons (pe_str (x:="-")) pa_nil))) (pe_slice sl_str (pv 0) (po_some (pe_int (i:=1))) po_none) (pv 0)))
    (pss_cons (ps_if (PW.pt (pw_or (pt_cmpR op_gt (pe_callB call_len rfl T.b_len bt_len (pa_cons (pv 1) pa_nil)) (pe_glob rfl T.g_MOST_FIGURES ⟨_,rfl⟩) (nomark _)) (pw_or1 (pt_not (pt_val (pe_call (FnOk.mono (ok_is_figures T) (by decide)) hr rfl T.m_is_figures T.f_is_figures.kp T.b_is_figures .nil pass10 (pa_cons (pv 1) pa_nil))))))) (pss_one (ps_ret (pe_bl (b:=false))))
      pss_nil)
    (pss_cons (ps_set (i:=2) sc_is_numeral.nd rfl (Or.inl rfl) (pe_callTy call_int_str rfl T.b_int bt_int (pa_cons (pv 0) pa_nil)))
    (pss_one (ps_ret (pe_and (pe_call (FnOk.mono (ok_is_worth T) (by decide)) hr rfl T.m_is_worth T.f_is_worth.kp T.b_is_worth .nil pass10 (pa_cons (pv 2) pa_nil)) (pe_one (pe_cmpR op_eq (pe_call (FnOk.mono (ok_numeral T) (by decide)) hr rfl T.m_numeral T.f_numeral.kp T.b_numeral .nil pass10 (pa_cons (pv 2) pa_nil)) (pv 0) (nomark _))))))))),rdp_is_numeral hx q⟩
theorem ok_worth_in (T:Txt K mg t):FnOk P w K mg base (CX1 P w) 3 t.a_worth_in t.d_worth_in ["text"] (sp_worth_in t):=by
  refine T.f_worth_in.ok1 sc_worth_in (fun vs H Q E h=>?_) (fun cdv A outer s H vs Q E hr h=>?_)
  · obtain ⟨x,rfl,_⟩:=h;rfl
  obtain ⟨x,rfl,hx,ha,q⟩:=h
  exact ⟨rd_worth_in K t E,(pss_cons (ps_if (pt_not (pt_val (pe_call (FnOk.mono (ok_is_numeral T) (by decide)) hr rfl T.m_is_numeral T.f_is_numeral.kp T.b_is_numeral .nil pass1 (pa_cons (pv 0) pa_nil)))) (pss_one (ps_raise rfl T.x_NoNumber raises1 rfl T.g_NoNumber (pa_cons (pe_msgR (pv 0)) pa_nil)))
      pss_nil)
    (pss_one (ps_ret (pe_callTy call_int_str rfl T.b_int bt_int (pa_cons (pv 0) pa_nil))))),rdp_worth_in hx ha q⟩
theorem ok_number_in (T:Txt K mg t):FnOk P w K mg base (CX1 P w) 4 t.a_number_in t.d_number_in ["word"] (sp_number_in):=by
  refine T.f_number_in.ok0 sc_number_in (fun vs H Q E h=>?_) (fun cdv A outer s H vs Q E hr h=>?_)
  · obtain ⟨w,rfl,_⟩:=h;rfl
  obtain ⟨w,rfl,h1,q⟩:=h
  exact ⟨rd_number_in K t,(pss_one (ps_try (i:=1) (And.intro rfl rfl) rfl sc_number_in.nd (psx_ret (pex_call (FnOk.mono (ok_worth_in T) (by decide)) hr rfl T.m_worth_in T.f_worth_in.kp T.b_worth_in (pa_cons (pv 0) pa_nil))) rfl T.g_NoNumber rfl rfl (fun _=>(pss_one ps_never)))),rdp_number_in h1 q⟩
theorem ok_rows_in (T:Txt K mg t):FnOk P w K mg base (CX1 P w) 5 t.a_rows_in t.d_rows_in ["words"] (sp_rows_in):=by
  refine T.f_rows_in.ok0 sc_rows_in (fun vs H Q E h=>?_) (fun cdv A outer s H vs Q E hr h=>?_)
  · obtain ⟨a,rows,rfl,_⟩:=h;rfl
  obtain ⟨a,rows,rfl,h1,h2,q⟩:=h
  exact ⟨rd_rows_in K t,(pss_cons (ps_if (pt_cmpR op_ne (pe_op op_mod (pe_callB call_len rfl T.b_len bt_len (pa_cons (pv 0) pa_nil)) (pe_int (i:=3))) (pe_int (i:=0)) (nomark _)) (pss_one ps_never)
      pss_nil)
    (pss_cons (ps_set (i:=1) sc_rows_in.nd rfl (Or.inl rfl) (pe_lst pa_nil))
    (pss_cons (ps_for PassesOwn.never rfl (pi_range3 rfl T.b_range (pa_cons (pe_int (i:=0)) (pa_cons (pe_callB call_len rfl T.b_len bt_len (pa_cons (pv 0) pa_nil)) (pa_cons (pe_int (i:=3)) pa_nil)))) (pg_name (i:=2) sc_rows_in.nd rfl (Or.inl rfl)) (pss_cons (ps_set (i:=3) sc_rows_in.nd rfl (Or.inl rfl) (pe_tup (pa_cons (pe_call (FnOk.mono (ok_shelf_in T) (by decide)) hr rfl T.m_shelf_in T.f_shelf_in.kp T.b_shelf_in .nil pass10 (pa_cons (pe_ix ix_list (pv 0) (pv 2) (fun _ _=>rfl)) pa_nil)) (pa_cons (pe_call (FnOk.mono (ok_number_in T) (by decide)) hr rfl T.m_number_in T.f_number_in.kp T.b_number_in .nil pass10 (pa_cons (pe_ix ix_list (pv 0) (pe_op op_add (pv 2) (pe_int (i:=1))) (fun _ _=>rfl)) pa_nil)) pa_nil))))
    (pss_one (ps_expr (pe_bm PySem.F.plainAttrs_list PySem.F.slot_list_append PySem.F.type_list_append mt_append (pv 1) (pa_cons (pe_tup (pa_cons (pv 3) (pa_cons (pe_call (FnOk.mono (ok_number_in T) (by decide)) hr rfl T.m_number_in T.f_number_in.kp T.b_number_in .nil pass10 (pa_cons (pe_ix ix_list (pv 0) (pe_op op_add (pv 2) (pe_int (i:=2))) (fun _ _=>rfl)) pa_nil)) pa_nil))) pa_nil))))))
    (pss_cons (ps_setComp (j:=4) sc_rows_in.nd rfl rfl (Or.inl rfl) (osc:=defScope s_rows_in) (N:=["words","rows","at","place","places"]) (xs:=["place","worth"]) (ix:=[]) (by decide +kernel) (pi_list (pv 1)) (fun _ _ _ _=>(pg_tup rfl (pgs_cons (pg_name (i:=0) (show List.Nodup (["place","worth"]:List Str) from (by decide +kernel)) rfl (Or.inl rfl)) (pgs_cons (pg_name (i:=1) (show List.Nodup (["place","worth"]:List Str) from (by decide +kernel)) rfl (Or.inl rfl)) pgs_nil)))) (fun _ _ _ _=>pts_nil) (fun _ _ _ _=>(pv 0)))
    (pss_cons (ps_if (pt_cmpR (op_neAll (hu64 hr)) (pv 4) (pe_srtS rfl (hu8 hr) rfl T.b_sorted rfl T.b_set (pa_cons (pv 4) pa_nil)) (nomark _)) (pss_one ps_never)
      pss_nil)
    (pss_one (ps_ret (pv 1)))))))),rdp_rows_in h1 h2 q⟩
theorem ok_outcome_in (T:Txt K mg t):FnOk P w K mg base (CX1 P w) 5 t.a_outcome_in t.d_outcome_in ["words"] (sp_outcome_in):=by
  refine T.f_outcome_in.ok0 sc_outcome_in (fun vs H Q E h=>?_) (fun cdv A outer s H vs Q E hr h=>?_)
  · obtain ⟨a,oc,rfl,_⟩:=h;rfl
  obtain ⟨a,oc,rfl,h1,h2,q⟩:=h
  exact ⟨rd_outcome_in K t,(pss_cons (ps_if (pt_cmpR (op_eqL (hu64 hr)) (pe_slice sl_list (pv 0) po_none (po_some (pe_int (i:=1)))) (pe_lst (pa_cons (pe_str (x:="done")) pa_nil)) (nomark _)) (pss_one (ps_ret (pe_tup (pa_cons (pe_str (x:="done")) (pa_cons (pe_callTy call_tuple_of rfl T.b_tuple bt_tuple (pa_cons (pe_comp rfl (osc:=defScope s_outcome_in) (N:=["words"]) (xs:=["word"]) (ix:=[]) (by decide +kernel) (pi_list (pe_slice sl_list (pv 0) (po_some (pe_int (i:=1))) po_none)) (fun _ _ _ _=>(pg_name (i:=0) (show List.Nodup (["word"]:List Str) from (by decide +kernel)) rfl (Or.inl rfl) (.inr rfl))) (fun _ _ _ _=>pts_nil) (fun _ _ _ _=>(pe_call (FnOk.mono (ok_number_in T) (by decide)) hr rfl T.m_number_in T.f_number_in.kp T.b_number_in .nil pass10 (pa_cons (pv 0) pa_nil)))) pa_nil)) pa_nil)))))
      pss_nil)
    (pss_cons (ps_if (PW.pt (pw_and (pt_cmpR op_eq (pe_callB call_len rfl T.b_len bt_len (pa_cons (pv 0) pa_nil)) (pe_int (i:=2)) (nomark _)) (pw_and (pt_cmpR op_eq (pe_ix ix_list (pv 0) (pe_int (i:=0)) (fun _ _=>rfl)) (pe_str (x:="off")) (nomark _)) (pw_and1 (pt_cmpR op_in_seq (pe_ix ix_list (pv 0) (pe_int (i:=1)) (fun _ _=>rfl)) (pe_glob rfl T.g_WHYS rfl) (by with_unfolding_all rfl)))))) (pss_one (ps_ret (pe_tup (pa_cons (pe_str (x:="off")) (pa_cons (pe_ix ix_list (pv 0) (pe_int (i:=1)) (fun _ _=>rfl)) pa_nil)))))
      pss_nil)
    (pss_one ps_never))),rdp_outcome_in (fun H=>T.v_WHYS H) h1 h2 q⟩
theorem ok_rank_in (T:Txt K mg t):FnOk P w K mg base (CX1 P w) 5 t.a_rank_in t.d_rank_in ["word"] (sp_rank_in):=by
  refine T.f_rank_in.ok0 sc_rank_in (fun vs H Q E h=>?_) (fun cdv A outer s H vs Q E hr h=>?_)
  · obtain ⟨w,rfl,_⟩:=h;rfl
  obtain ⟨w,rfl,h1,q⟩:=h
  exact ⟨rd_rank_in K t,(pss_cons (ps_set (i:=1) sc_rank_in.nd rfl (Or.inl rfl) (pe_call (FnOk.mono (ok_number_in T) (by decide)) hr rfl T.m_number_in T.f_number_in.kp T.b_number_in .nil pass10 (pa_cons (pv 0) pa_nil)))
    (pss_cons (ps_if (PW.pt (pw_or (pt_cmpR op_lt (pv 1) (pe_int (i:=0)) (nomark _)) (pw_or1 (pt_cmpR op_gt (pv 1) (pe_op op_pow (pe_int (i:=10)) (pe_int (i:=29))) (nomark _))))) (pss_one ps_never)
      pss_nil)
    (pss_one (ps_ret (pv 1))))),rdp_rank_in h1 q⟩
theorem ok_deal_in (T:Txt K mg t):FnOk P w K mg base (CX1 P w) 6 t.a_deal_in t.d_deal_in ["words","rows"] (sp_deal_in):=by
  refine T.f_deal_in.ok0 sc_deal_in (fun vs H Q E h=>?_) (fun cdv A outer s H vs Q E hr h=>?_)
  · obtain ⟨a,g,r,oc,gs,rfl,_⟩:=h;rfl
  obtain ⟨a,g,r,oc,gs,rfl,h1,h2,h3,h4,h5,q⟩:=h
  exact ⟨rd_deal_in K t,(pss_cons (ps_set (i:=2) sc_deal_in.nd rfl (Or.inl rfl) (pe_call (FnOk.mono (ok_outcome_in T) (by decide)) hr rfl T.m_outcome_in T.f_outcome_in.kp T.b_outcome_in .nil pass10 (pa_cons (pe_slice sl_list (pv 0) (po_some (pe_int (i:=2))) po_none) pa_nil)))
    (pss_cons (ps_if (PW.pt (pw_and (pt_cmpR op_eq (pe_ix ix_tup (pv 2) (pe_int (i:=0)) (fun _ _=>rfl)) (pe_str (x:="off")) (nomark _)) (pw_and1 (pt_cmpR (op_neNil (hu64 hr)) (pv 1) (pe_lst pa_nil) (nomark _))))) (pss_one ps_never)
      pss_nil)
    (pss_one (ps_ret (pe_tup (pa_cons (pe_str (x:="deal")) (pa_cons (pe_call (FnOk.mono (ok_rank_in T) (by decide)) hr rfl T.m_rank_in T.f_rank_in.kp T.b_rank_in .nil pass10 (pa_cons (pe_ix ix_list (pv 0) (pe_int (i:=1)) (fun _ _=>rfl)) pa_nil)) (pa_cons (pv 2) (pa_cons (pv 1) pa_nil))))))))),rdp_deal_in h1 h2 h3 h4 h5 q⟩
theorem ok_mark_in (T:Txt K mg t):FnOk P w K mg base (CX1 P w) 6 t.a_mark_in t.d_mark_in ["words","rows"] (sp_mark_in):=by
  refine T.f_mark_in.ok0 sc_mark_in (fun vs H Q E h=>?_) (fun cdv A outer s H vs Q E hr h=>?_)
  · obtain ⟨a,g,r,gs,rfl,_⟩:=h;rfl
  obtain ⟨a,g,r,gs,rfl,h1,h2,h3,h4,h5,q⟩:=h
  exact ⟨rd_mark_in K t,(pss_cons (ps_if (pt_cmpR op_ne (pe_callB call_len rfl T.b_len bt_len (pa_cons (pv 0) pa_nil)) (pe_int (i:=2)) (nomark _)) (pss_one ps_never)
      pss_nil)
    (pss_cons (ps_if (pt_val (pe_callB (call_anyL rfl) rfl T.b_any bt_any (pa_cons (pe_comp rfl (osc:=defScope s_mark_in) (N:=["words","rows"]) (xs:=["place","worth"]) (ix:=[]) (by decide +kernel) (pi_list (pv 1)) (fun _ _ _ _=>(pg_tup rfl (pgs_cons (pg_name (i:=0) (show List.Nodup (["place","worth"]:List Str) from (by decide +kernel)) rfl (Or.inl rfl)) (pgs_cons (pg_name (i:=1) (show List.Nodup (["place","worth"]:List Str) from (by decide +kernel)) rfl (Or.inl rfl)) pgs_nil)))) (fun _ _ _ _=>pts_nil) (fun _ _ _ _=>(pe_cmpR op_eq (pv 1) (pe_int (i:=0)) (nomark _)))) pa_nil))) (pss_one ps_never)
      pss_nil)
    (pss_one (ps_ret (pe_tup (pa_cons (pe_str (x:="mark")) (pa_cons (pe_call (FnOk.mono (ok_rank_in T) (by decide)) hr rfl T.m_rank_in T.f_rank_in.kp T.b_rank_in .nil pass10 (pa_cons (pe_ix ix_list (pv 0) (pe_int (i:=1)) (fun _ _=>rfl)) pa_nil)) (pa_cons (pv 1) pa_nil)))))))),rdp_mark_in h1 h2 h3 h4 h5 q⟩
theorem ok_check_of (T:Txt K mg t):FnOk P w K mg base (CX1 P w) 1 t.a_check_of t.d_check_of ["body"] (sp_check_of):=by
  refine T.f_check_of.ok0 sc_check_of (fun vs H Q E h=>?_) (fun cdv A outer s H vs Q E hr h=>?_)
  · obtain ⟨z,rfl,_⟩:=h;rfl
  obtain ⟨z,rfl,h1,h2,q⟩:=h
  exact ⟨rd_check_of K t,(pss_cons (ps_set (i:=1) sc_check_of.nd rfl (Or.inl rfl) (pe_callB (call_sumL rfl) rfl T.b_sum bt_sum (pa_cons (pe_comp rfl (osc:=defScope s_check_of) (N:=["body","total"]) (xs:=["at","sign"]) (ix:=[]) (by decide +kernel) (pi_enumS rfl T.b_enumerate (pa_cons (pv 0) pa_nil)) (fun _ _ _ _=>(pg_tup rfl (pgs_cons (pg_name (i:=0) (show List.Nodup (["at","sign"]:List Str) from (by decide +kernel)) rfl (Or.inl rfl)) (pgs_cons (pg_name (i:=1) (show List.Nodup (["at","sign"]:List Str) from (by decide +kernel)) rfl (Or.inl rfl)) pgs_nil)))) (fun _ _ _ _=>pts_nil) (fun _ _ _ _=>(pe_op op_mulB (pe_callB call_ord rfl T.b_ord bt_ord (pa_cons (pv 1) pa_nil)) (pe_op op_add (pe_int (i:=1)) (pe_op op_mod (pv 0) (pe_glob rfl T.g_MOST_FACTOR ⟨_,rfl⟩)))))) pa_nil)))
    (pss_one (ps_ret (pe_bm PySem.F.plainAttrs_str PySem.F.slot_str_zfill PySem.F.type_str_zfill mt_zfill (pe_callTy call_str_int rfl T.b_str bt_str (pa_cons (pe_op op_mod (pv 1) (pe_glob rfl T.g_CHECK_BY ⟨_,rfl⟩)) pa_nil)) (pa_cons (pe_glob rfl T.g_CHECK_FIGURES ⟨_,rfl⟩) pa_nil))))),rdp_check_of h1 h2 q⟩
theorem ok_body_in (T:Txt K mg t):FnOk P w K mg base (CX1 P w) 2 t.a_body_in t.d_body_in ["text"] (sp_body_in t):=by
  refine T.f_body_in.ok1 sc_body_in (fun vs H Q E h=>?_) (fun cdv A outer s H vs Q E hr h=>?_)
  · obtain ⟨x,rfl,_⟩:=h;rfl
  obtain ⟨x,rfl,h1,h2,h⟩:=h
  exact ⟨rd_body_in K t E,(pss_cons (ps_set (i:=1) sc_body_in.nd rfl (Or.inl rfl) (pe_bm PySem.F.plainAttrs_str PySem.F.slot_str_rpartition PySem.F.type_str_rpartition mt_rpartition (pv 0) (pa_cons (pe_str (x:=" ")) pa_nil)))
    (pss_cons (ps_if (pt_cmpR op_ne (pe_ix ix_tup (pv 1) (pe_int (i:=2)) (fun _ _=>rfl)) (pe_call (FnOk.mono (ok_check_of T) (by decide)) hr rfl T.m_check_of T.f_check_of.kp T.b_check_of .nil pass1 (pa_cons (pe_ix ix_tup (pv 1) (pe_int (i:=0)) (fun _ _=>rfl)) pa_nil)) (nomark _)) (pss_one (ps_raise rfl T.x_NoLine raises1 rfl T.g_NoLine (pa_cons (pe_msgR (pv 0)) pa_nil)))
      pss_nil)
    (pss_one (ps_ret (pe_ix ix_tup (pv 1) (pe_int (i:=0)) (fun _ _=>rfl)))))),rdp_body_in h1 h2 h⟩
theorem ok_line_read (T:Txt K mg t):FnOk P w K mg base (CX1 P w) 7 t.a_line_read t.d_line_read ["text"] (sp_line_read t):=by
  refine T.f_line_read.ok1 sc_line_read (fun vs H Q E h=>?_) (fun cdv A outer s H vs Q E hr h=>?_)
  · obtain ⟨v,rfl,_⟩:=h;rfl
  obtain ⟨v,rfl,h⟩:=h
  exact ⟨rd_line_read K t E,(pss_cons (ps_set (i:=1) sc_line_read.nd rfl (Or.inl rfl) (pe_bm PySem.F.plainAttrs_str PySem.F.slot_str_split PySem.F.type_str_split mt_split (pe_call (FnOk.mono (ok_body_in T) (by decide)) hr rfl T.m_body_in T.f_body_in.kp T.b_body_in .nil pass1 (pa_cons (pv 0) pa_nil)) (pa_cons (pe_str (x:=" ")) pa_nil)))
    (pss_cons (ps_if (pt_cmpR op_notIn_seq (pe_str (x:=";")) (pv 1) (by with_unfolding_all rfl)) (pss_one (ps_raise rfl T.x_NoLine raises1 rfl T.g_NoLine (pa_cons (pe_str (x:="a line without its ;")) pa_nil)))
      pss_nil)
    (pss_cons (ps_set (i:=2) sc_line_read.nd rfl (Or.inl rfl) (pe_bm PySem.F.plainAttrs_list PySem.F.slot_list_index PySem.F.type_list_index mt_index (pv 1) (pa_cons (pe_str (x:=";")) pa_nil)))
    (pss_cons (ps_set (i:=3) sc_line_read.nd rfl (Or.inl rfl) (pe_call (FnOk.mono (ok_rows_in T) (by decide)) hr rfl T.m_rows_in T.f_rows_in.kp T.b_rows_in .nil pass1 (pa_cons (pe_slice sl_list (pv 1) (po_some (pe_op op_add (pv 2) (pe_int (i:=1)))) po_none) pa_nil)))
    (pss_cons (ps_if (pt_cmpR op_eq (pe_ix ix_list (pv 1) (pe_int (i:=0)) (fun _ _=>rfl)) (pe_str (x:="deal")) (nomark _)) (pss_one (ps_ret (pe_call (FnOk.mono (ok_deal_in T) (by decide)) hr rfl T.m_deal_in T.f_deal_in.kp T.b_deal_in .nil pass1 (pa_cons (pe_slice sl_list (pv 1) po_none (po_some (pv 2))) (pa_cons (pv 3) pa_nil)))))
      pss_nil)
    (pss_cons (ps_if (pt_cmpR op_eq (pe_ix ix_list (pv 1) (pe_int (i:=0)) (fun _ _=>rfl)) (pe_str (x:="mark")) (nomark _)) (pss_one (ps_ret (pe_call (FnOk.mono (ok_mark_in T) (by decide)) hr rfl T.m_mark_in T.f_mark_in.kp T.b_mark_in .nil pass1 (pa_cons (pe_slice sl_list (pv 1) po_none (po_some (pv 2))) (pa_cons (pv 3) pa_nil)))))
      pss_nil)
    (pss_one (ps_raise rfl T.x_NoLine raises1 rfl T.g_NoLine (pa_cons (pe_msgR (pv 0)) pa_nil))))))))),rdp_line_read h⟩
theorem ok__law_check (T:Txt K mg t):FnOk P w K mg base (CX1 P w) 1 t.a__law_check t.d__law_check ["body"] (sp__law_check):=by
  refine T.f__law_check.ok0 sc__law_check (fun vs H Q E h=>?_) (fun cdv A outer s H vs Q E hr h=>?_)
  · obtain ⟨z,rfl,_⟩:=h;rfl
  obtain ⟨z,rfl,h1,h2,q⟩:=h
  exact ⟨rd__law_check K t,(pss_cons (ps_set (i:=1) sc__law_check.nd rfl (Or.inl rfl) (pe_int (i:=0)))
    (pss_cons (ps_set (i:=2) sc__law_check.nd rfl (Or.inl rfl) (pe_int (i:=1)))
    (pss_cons (ps_for PassesOwn.never rfl (pi_str (pv 0)) (pg_name (i:=3) sc__law_check.nd rfl (Or.inl rfl)) (pss_cons (ps_set (i:=1) sc__law_check.nd rfl (Or.inl rfl) (pe_op op_mod (pe_op op_add (pv 1) (pe_op op_mulB (pv 2) (pe_callB call_ord rfl T.b_ord bt_ord (pa_cons (pv 3) pa_nil)))) (pe_int (i:=1009))))
    (pss_cons (ps_set (i:=2) sc__law_check.nd rfl (Or.inl rfl) (pe_op op_add (pv 2) (pe_int (i:=1))))
    (pss_one (ps_if (pt_cmpR op_eq (pv 2) (pe_int (i:=1009)) (nomark _)) (pss_one (ps_set (i:=2) sc__law_check.nd rfl (Or.inl rfl) (pe_int (i:=1))))
      pss_nil)))))
    (pss_cons (ps_set (i:=4) sc__law_check.nd rfl (Or.inl rfl) (pe_callTy call_str_int rfl T.b_str bt_str (pa_cons (pv 1) pa_nil)))
    (pss_one (ps_ret (pe_op op_add_str (pe_op op_mul_str (pe_str (x:="0")) (pe_op op_sub (pe_int (i:=4)) (pe_callB call_len rfl T.b_len bt_len (pa_cons (pv 4) pa_nil)))) (pv 4)))))))),rdp__law_check h1 h2 q⟩
theorem ok__law_refused (T:Txt K mg t):FnOk P w K mg base (CX1 P w) 8 t.a__law_refused t.d__law_refused ["text"] (sp__law_refused t):=by
  refine T.f__law_refused.ok0 sc__law_refused (fun vs H Q E h=>?_) (fun cdv A outer s H vs Q E hr h=>?_)
  · obtain ⟨z,rfl,_⟩:=h;rfl
  obtain ⟨z,rfl,h1,h2,h3,q⟩:=h
  exact ⟨rd__law_refused K t,(pss_cons (ps_set (i:=1) sc__law_refused.nd rfl (Or.inl rfl) (pe_bl (b:=false)))
    (pss_cons (ps_set (i:=2) sc__law_refused.nd rfl (Or.inl rfl) (pe_bl (b:=false)))
    (pss_cons (ps_set (i:=3) sc__law_refused.nd rfl (Or.inl rfl) (pe_bl (b:=false)))
    (pss_cons (ps_try (i:=4) (And.intro rfl rfl) rfl sc__law_refused.nd (psx_expr (pex_call (FnOk.mono (ok_line_read T) (by decide)) hr rfl T.m_line_read T.f_line_read.kp T.b_line_read (pa_cons (pv 0) pa_nil))) rfl T.g_ForerunError rfl rfl (fun _=>(pss_cons (ps_set (i:=1) sc__law_refused.nd rfl (Or.inl rfl) (pe_and (pe_callB call_isx rfl T.b_isinstance bt_isinstance (pa_cons (pv 4) (pa_cons (pe_glob rfl T.g_NoLine rfl) pa_nil))) (pe_one (pe_callB call_isx rfl T.b_isinstance bt_isinstance (pa_cons (pv 4) (pa_cons (pe_bltn rfl T.b_ValueError bt_ValueError rfl) pa_nil))))))
    (pss_cons (ps_set (i:=2) sc__law_refused.nd rfl (Or.inl rfl) (pe_callB call_isxT rfl T.b_isinstance bt_isinstance (pa_cons (pv 4) (pa_cons (pe_tup (pa_cons (pe_glob rfl T.g_NoNumber rfl) (pa_cons (pe_glob rfl T.g_NoTerm rfl) (pa_cons (pe_glob rfl T.g_NoDealing rfl) (pa_cons (pe_glob rfl T.g_Nought rfl) (pa_cons (pe_glob rfl T.g_Great rfl) pa_nil)))))) pa_nil))))
    (pss_one (ps_set (i:=3) sc__law_refused.nd rfl (Or.inl rfl) (pe_callB call_isxT rfl T.b_isinstance bt_isinstance (pa_cons (pv 4) (pa_cons (pe_tup (pa_cons (pe_glob rfl T.g_Folded rfl) (pa_cons (pe_glob rfl T.g_NoHand rfl) (pa_cons (pe_glob rfl T.g_NoOrder rfl) (pa_cons (pe_glob rfl T.g_NoLog rfl) pa_nil))))) pa_nil)))))))))
    (pss_one (ps_ret (pe_and (pv 1) (pe_and (pe_not (pv 2)) (pe_one (pe_not (pv 3))))))))))),rdp__law_refused T h1 h2 h3 q⟩
theorem ok__law_other (T:Txt K mg t):FnOk P w K mg base (CX1 P w) 1 t.a__law_other t.d__law_other ["line","cell"] (sp__law_other):=by
  refine T.f__law_other.ok0 sc__law_other (fun vs H Q E h=>?_) (fun cdv A outer s H vs Q E hr h=>?_)
  · obtain ⟨x,c,rfl,_⟩:=h;rfl
  obtain ⟨x,c,rfl,h1,h2,h3,q⟩:=h
  exact ⟨rd__law_other K t,(pss_cons (ps_set (i:=2) sc__law_other.nd rfl (Or.inl rfl) (pe_str (x:=" !\"#$&'()*+,-./0123456789:;<=>?@ABCDEFGHIJKLMNOPQRSTUVWXYZ[\\]^_`")))
    (pss_cons (ps_set (i:=2) sc__law_other.nd rfl (Or.inl rfl) (pe_op op_add_str (pv 2) (pe_str (x:="abcdefghijklmnopqrstuvwxyz{|}~"))))
    (pss_cons (ps_set (i:=3) sc__law_other.nd rfl (Or.inl rfl) (pe_op op_mod (pv 1) (pe_callB call_len rfl T.b_len bt_len (pa_cons (pv 0) pa_nil))))
    (pss_cons (ps_set (i:=4) sc__law_other.nd rfl (Or.inl rfl) (pe_op op_mod (pe_op op_fdivB (pv 1) (pe_callB call_len rfl T.b_len bt_len (pa_cons (pv 0) pa_nil))) (pe_int (i:=94))))
    (pss_cons (ps_if (pt_cmpR op_eq (pe_ix ix_str (pv 2) (pv 4) (fun _ _=>rfl)) (pe_ix ix_str (pv 0) (pv 3) (fun _ _=>rfl)) (nomark _)) (pss_one (ps_set (i:=4) sc__law_other.nd rfl (Or.inl rfl) (pe_op op_mod (pe_op op_add (pv 4) (pe_int (i:=1))) (pe_int (i:=94)))))
      pss_nil)
    (pss_one (ps_ret (pe_op op_add_str (pe_op op_add_str (pe_slice sl_str (pv 0) po_none (po_some (pv 3))) (pe_ix ix_str (pv 2) (pv 4) (fun _ _=>rfl))) (pe_slice sl_str (pv 0) (po_some (pe_op op_add (pv 3) (pe_int (i:=1)))) po_none))))))))),rdp__law_other h1 h2 h3 q⟩
theorem ok_law (T:Txt K mg t):FnOk P w K mg base (CX1 P w) 9 t.a_law t.d_law ["script"] (sp_law K):=by
  refine T.f_law.ok0 sc_law (fun vs H Q E h=>?_) (fun cdv A outer s H vs Q E hr h=>?_)
  · obtain ⟨a,ns,rfl,_⟩:=h;rfl
  obtain ⟨a,ns,rfl,h1,h2,h3,q⟩:=h
  exact ⟨rd_law K t,(pss_cons (ps_set (i:=1) sc_law.nd rfl (Or.inl rfl) (pe_call (FnOk.mono (ok__law_body T) (by decide)) hr rfl T.m__law_body T.f__law_body.kp T.b__law_body .nil pass10 (pa_cons (pv 0) pa_nil)))
    (pss_cons (ps_set (i:=2) sc_law.nd rfl (Or.inl rfl) (pe_op op_add_str (pe_op op_add_str (pv 1) (pe_str (x:=" "))) (pe_call (FnOk.mono (ok__law_check T) (by decide)) hr rfl T.m__law_check T.f__law_check.kp T.b__law_check .nil pass10 (pa_cons (pv 1) pa_nil))))
    (pss_cons (ps_for PassesOwn.never rfl (pi_list (pe_slice sl_list (pe_slice sl_list (pv 0) (po_some (pe_int (i:=4))) po_none) po_none (po_some (pe_op op_fdivB (pe_int (i:=6000)) (pe_callB call_len rfl T.b_len bt_len (pa_cons (pv 2) pa_nil)))))) (pg_name (i:=3) sc_law.nd rfl (Or.inl rfl)) (pss_one (ps_if (pt_not (pt_val (pe_call (FnOk.mono (ok__law_refused T) (by decide)) hr rfl T.m__law_refused T.f__law_refused.kp T.b__law_refused .nil pass10 (pa_cons (pe_call (FnOk.mono (ok__law_other T) (by decide)) hr rfl T.m__law_other T.f__law_other.kp T.b__law_other .nil pass10 (pa_cons (pv 2) (pa_cons (pv 3) pa_nil))) pa_nil)))) (pss_one (ps_ret (pe_bl (b:=false))))
      pss_nil)))
    (pss_cons (ps_set (i:=4) sc_law.nd rfl (Or.inl rfl) (pe_call (FnOk.mono (ok_line_read T) (by decide)) hr rfl T.m_line_read T.f_line_read.kp T.b_line_read .nil pass10 (pa_cons (pv 2) pa_nil)))
    (pss_one (ps_ret (pe_and (pe_callB call_isi rfl T.b_isinstance bt_isinstance (pa_cons (pv 4) (pa_cons (pe_bltn rfl T.b_tuple bt_tuple rfl) pa_nil))) (pe_one (pe_cmpR op_eq (pe_ix ix_tup (pv 4) (pe_int (i:=0)) (fun _ _=>rfl)) (pe_slice sl_str (pv 1) po_none (po_some (pe_int (i:=4)))) (nomark _)))))))))),rdp_law h1 h2 h3 q⟩
end
end K62
open PySem PySem.W PyProof.Rows
def PySem.W.Fast.tw10388789631772730417:Unit:=()
def PySem.W.Fast.tw12680304880271289919:Unit:=()
def PySem.W.Fast.tw3183557333675805496:Unit:=()
def PySem.W.Fast.tw4120507390569186714:Unit:=()
def PySem.W.Fast.tw13946076373109155196:Unit:=()
def PySem.W.Fast.tw15293601788179649182:Unit:=()
def PySem.W.Fast.tw8679958580120724318:Unit:=()
def PySem.W.Fast.tw7248299538079578253:Unit:=()
def PySem.W.Fast.tw15050059970116352529:Unit:=()
def PySem.W.Fast.tw4013304582339103011:Unit:=()
def PySem.W.Fast.tw3625969825088450443:Unit:=()
def PySem.W.Fast.tw1070309365897223537:Unit:=()
def PySem.W.Fast.tw6088621328018363435:Unit:=()
def PySem.W.Fast.tw8094893813815753806:Unit:=()
def PySem.W.Fast.tw12212812699122288618:Unit:=()
def PySem.W.Fast.tw13130537206436164487:Unit:=()
def PySem.W.Fast.tw2761823434518407948:Unit:=()
def PySem.W.Fast.tw17877433107961303779:Unit:=()
def PySem.W.Fast.tw1454308099947528896:Unit:=()
def PySem.W.Fast.tw18055578092494671311:Unit:=()
def PySem.W.Fast.tw6169958708717820427:Unit:=()
def PySem.W.Fast.tw14825822161908777508:Unit:=()
def PySem.W.Fast.tw3980559016417235382:Unit:=()
def PySem.W.Fast.tw15916538065016243902:Unit:=()
def PySem.W.Fast.tw10414688721140567043:Unit:=()
def PySem.W.Fast.tw4099556380202920389:Unit:=()
def PySem.W.Fast.tw4016184713491504237:Unit:=()
def PySem.W.Fast.tw17490810924957883857:Unit:=()
def PySem.W.Fast.tw18410746445818056211:Unit:=()
def PySem.W.Fast.tw11261419744980982957:Unit:=()
def PySem.W.Fast.tw2548075442428764075:Unit:=()
def PySem.W.Fast.tw17227419975654811296:Unit:=()
def PySem.W.Fast.tw16271344268478966237:Unit:=()
def PySem.W.Fast.tw13350481093102314820:Unit:=()
def PySem.W.Fast.tw2281480349521213823:Unit:=()
def PySem.W.Fast.tw17739591616422567562:Unit:=()
def PySem.W.Fast.tw4526941774090846181:Unit:=()
def PySem.W.Fast.tw433278525475745040:Unit:=()
def PySem.W.Fast.tw4537450540955626196:Unit:=()
def PySem.W.Fast.tw169140449533485900:Unit:=()
def PySem.W.Fast.tw9400807319763924561:Unit:=()
def PySem.W.Fast.tw12571648603241967017:Unit:=()
def PySem.W.Fast.tw9322454332398000554:Unit:=()
def PySem.W.Fast.tw13529877991833114011:Unit:=()
def PySem.W.Fast.tw17230640407640449678:Unit:=()
def PySem.W.Fast.tw14586113663543113134:Unit:=()
def PySem.W.Fast.tw14850361070469561409:Unit:=()
def PySem.W.Fast.tw11464324411639526658:Unit:=()
def PySem.W.Fast.tw9642756424262808315:Unit:=()
def PySem.W.Fast.tw17685218277659214379:Unit:=()
def PySem.W.Fast.tw2759790563448779955:Unit:=()
def PySem.W.Fast.tw11174939246861249705:Unit:=()
def PySem.W.Fast.tw3629747948971211143:Unit:=()
def PySem.W.Fast.tw14542384921168820663:Unit:=()
def PySem.W.Fast.tw4669242251778668479:Unit:=()
def PySem.W.Fast.tw4978886713584672442:Unit:=()
def PySem.W.Fast.tw14902146953198804744:Unit:=()
def PySem.W.Fast.tw17676214883460842033:Unit:=()
def PySem.W.Fast.tw12688713978897625560:Unit:=()
def PySem.W.Fast.tw12380268114571239998:Unit:=()
def PySem.W.Fast.tw342170187390098898:Unit:=()
def PySem.W.Fast.tw1340369140507256073:Unit:=()
def PySem.W.Fast.tw4622347214611465316:Unit:=()
def PySem.W.Fast.tw3747637452047149147:Unit:=()
def PySem.W.Fast.tw8309853315751617674:Unit:=()
def PySem.W.Fast.tw7796101402033222492:Unit:=()
def PySem.W.Fast.tw15920044827519311588:Unit:=()
def PySem.W.Fast.tw876924767731616440:Unit:=()
def PySem.W.Fast.tw15590078509326856894:Unit:=()
def PySem.W.Fast.tw7712991494185824867:Unit:=()
def PySem.W.Fast.tw2182802326683498025:Unit:=()
def PySem.W.Fast.tw17953799934601649742:Unit:=()
def PySem.W.Fast.tw13533177568239783579:Unit:=()
def PySem.W.Fast.tw9274143571462827664:Unit:=()
def PySem.W.Fast.tw10693645757834261586:Unit:=()
def PySem.W.Fast.tw8108551987720891323:Unit:=()
def PySem.W.Fast.tw16029905652050517675:Unit:=()
def PySem.W.Fast.tw5234394316985939871:Unit:=()
def PySem.W.Fast.tw5024958565349334819:Unit:=()
def PySem.W.Fast.tw17620558345718017845:Unit:=()
def PySem.W.Fast.tw13468407187857888617:Unit:=()
def PySem.W.Fast.tw8798158866570562046:Unit:=()
def PySem.W.Fast.tw7881292929662205642:Unit:=()
def PySem.W.Fast.tw302552230965611584:Unit:=()
def PySem.W.Fast.tw15680148440545356528:Unit:=()
def PySem.W.Fast.tw7820606915281790155:Unit:=()
def PySem.W.Fast.tw11383040519599243887:Unit:=()
def PySem.W.Fast.tw4324144251415363880:Unit:=()
def PySem.W.Fast.tw3406269861959339678:Unit:=()
def PySem.W.Fast.tw17742734142444028086:Unit:=()
def PySem.W.Fast.tw9734993772647446802:Unit:=()
def PySem.W.Fast.tw9856651458515658515:Unit:=()
def PySem.W.Fast.tw1259596354294413272:Unit:=()
def PySem.W.Fast.tw2025065374801644874:Unit:=()
def PySem.W.Fast.tw5431291936453428447:Unit:=()
def PySem.W.Fast.tw14624695742712412220:Unit:=()
def PySem.W.Fast.tw2137065499258062417:Unit:=()
def PySem.W.Fast.tw67088989618748532:Unit:=()
def PySem.W.Fast.tw15656415450988411047:Unit:=()
def PySem.W.Fast.tw2669327983985013594:Unit:=()
def PySem.W.Fast.tw5541443956137769889:Unit:=()
def PySem.W.Fast.tw10558900685592232346:Unit:=()
def PySem.W.Fast.tw2961807391938020746:Unit:=()
def PySem.W.Fast.tw14183639235252706033:Unit:=()
def PySem.W.Fast.tw13552664080177394396:Unit:=()
def PySem.W.Fast.tw12632545806233883580:Unit:=()
def PySem.W.Fast.tw140555425827325932:Unit:=()
def PySem.W.Fast.tw10126368521161608825:Unit:=()
def PySem.W.Fast.tw14437733020498815294:Unit:=()
def PySem.W.Fast.tw13231908238906850279:Unit:=()
def PySem.W.Fast.tw4369456200579453534:Unit:=()
def PySem.W.Fast.tw18180818611963510162:Unit:=()
def PySem.W.Fast.tw852047572547388028:Unit:=()
def PySem.W.Fast.tw3475761472692675940:Unit:=()
def PySem.W.Fast.tw8853800058334601403:Unit:=()
def PySem.W.Fast.tw15702794941464347921:Unit:=()
def PySem.W.Fast.tw4839739208819395238:Unit:=()
def PySem.W.Fast.tw7319281984020459659:Unit:=()
def PySem.W.Fast.tw13591330197131280516:Unit:=()
def PySem.W.Fast.tw13178137307402642122:Unit:=()
def PySem.W.Fast.tw16222211318460877585:Unit:=()
def PySem.W.Fast.tw6488489956908323111:Unit:=()
def PySem.W.Fast.tw8713796439126227238:Unit:=()
def PySem.W.Fast.tw14962584135987361590:Unit:=()
def PySem.W.Fast.tw9234656068133459603:Unit:=()
def PySem.W.Fast.tw10402853211604545018:Unit:=()
def PySem.W.Fast.tw7894666229821491534:Unit:=()
def PySem.W.Fast.tw16571120334205637140:Unit:=()
def PySem.W.Fast.tw3690954661375505883:Unit:=()
def PySem.W.Fast.tw12392302914490952140:Unit:=()
def PySem.W.Fast.tw1594055465025466464:Unit:=()
def PySem.W.Fast.tw1704578054782197405:Unit:=()
def PySem.W.Fast.tw2618970893572057595:Unit:=()
def PySem.W.Fast.tw15479020954850627897:Unit:=()
def PySem.W.Fast.tw14179986928242397232:Unit:=()
def PySem.W.Fast.tw6724130031149806170:Unit:=()
def PySem.W.Fast.tw3148226112167345814:Unit:=()
def PySem.W.Fast.tw17016908136282070115:Unit:=()
def PySem.W.Fast.tw14230282989790857665:Unit:=()
def PySem.W.Fast.tw8277447474923506808:Unit:=()
def PySem.W.Fast.tw1426111786823254182:Unit:=()
def PySem.W.Fast.tw12297456393947841022:Unit:=()
def PySem.W.Fast.tw6238033692665612311:Unit:=()
def PySem.W.Fast.tw17317286502683385687:Unit:=()
def PySem.W.Fast.tw14250726447155159539:Unit:=()
def PySem.W.Fast.tw4220689077715511830:Unit:=()
def PySem.W.Fast.tw559059582436089150:Unit:=()
def PySem.W.Fast.tw2619994476820105419:Unit:=()
def PySem.W.Fast.tw896677439069927102:Unit:=()
def PySem.W.Fast.tw18339897538259482771:Unit:=()
def PySem.W.Fast.tw92908315717883342:Unit:=()
def PySem.W.Fast.tw1426469218719974138:Unit:=()
def PySem.W.Fast.tw12565365253955514825:Unit:=()
def PySem.W.Fast.tw17601244609452273505:Unit:=()
def PySem.W.Fast.tw15955226569445143848:Unit:=()
def PySem.W.Fast.tw5038892380616904504:Unit:=()
def PySem.W.Fast.tw2056743613343122115:Unit:=()
def PySem.W.Fast.tw2259425102911108851:Unit:=()
def PySem.W.Fast.tw7927896562596488214:Unit:=()
def PySem.W.Fast.tw17138327307136338175:Unit:=()
def PySem.W.Fast.tw13546686038358087210:Unit:=()
def PySem.W.Fast.tw5483488571665887503:Unit:=()
def PySem.W.Fast.tw16150748606949652601:Unit:=()
def PySem.W.Fast.tw3271769883212681048:Unit:=()
def PySem.W.Fast.tw14626953694971146837:Unit:=()
def PySem.W.Fast.tw10333096149164002448:Unit:=()
def PySem.W.Fast.tw14476226343187809083:Unit:=()
def PySem.W.Fast.tw7772014908743165130:Unit:=()
def PySem.W.Fast.tw345532243628861098:Unit:=()
def PySem.W.Fast.tw8397835798040919960:Unit:=()
def PySem.W.Fast.tw5749624245221222093:Unit:=()
def PySem.W.Fast.tw13229228610391017819:Unit:=()
def PySem.W.Fast.tw8635344301986283570:Unit:=()
def PySem.W.Fast.tw5097046964067704446:Unit:=()
def PySem.W.Fast.tw3868837272540472712:Unit:=()
def PySem.W.Fast.tw17620525135791385496:Unit:=()
def PySem.W.Fast.tw3146821172808589255:Unit:=()
def PySem.W.Fast.tw1819544471138159554:Unit:=()
def PySem.W.Fast.tw14240574206963275512:Unit:=()
def PySem.W.Fast.tw6581698034079704994:Unit:=()
def PySem.W.Fast.tw5529444266256896509:Unit:=()
def PySem.W.Fast.tw15300539253709171124:Unit:=()
def PySem.W.Fast.tw15632794207093114371:Unit:=()
def PySem.W.Fast.tw7641815335727660957:Unit:=()
def PySem.W.Fast.tw17460918075183584824:Unit:=()
def PySem.W.Fast.tw8707322774330164789:Unit:=()
def PySem.W.Fast.tw6394040318757544943:Unit:=()
def PySem.W.Fast.tw8835967964887565322:Unit:=()
def PySem.W.Fast.tw7139053094305599292:Unit:=()
def PySem.W.Fast.tw13679637294235620204:Unit:=()
def PySem.W.Fast.tw5471737636518734634:Unit:=()
def PySem.W.Fast.tw15187157571766450756:Unit:=()
def PySem.W.Fast.tw16625842552790186871:Unit:=()
def PySem.W.Fast.tw10714390902917842063:Unit:=()
def PySem.W.Fast.tw12171845617696771055:Unit:=()
def PySem.W.Fast.tw808989007132660395:Unit:=()
def PySem.W.Fast.tw12105254111060774495:Unit:=()
def PySem.W.Fast.tw7926805762163067530:Unit:=()
def PySem.W.Fast.tw8705259974486415359:Unit:=()
def PySem.W.Fast.tw2662068876341269600:Unit:=()
def PySem.W.Fast.tw7026653259467175887:Unit:=()
def PySem.W.Fast.tw11777731886862670863:Unit:=()
def PySem.W.Fast.tw12489971423557266270:Unit:=()
def PySem.W.Fast.tw5054781403436622796:Unit:=()
def PySem.W.Fast.tw982267529718650285:Unit:=()
def PySem.W.Fast.tw3529589149336442340:Unit:=()
def PySem.W.Fast.tw16370102461503842135:Unit:=()
def PySem.W.Fast.tw487498272948195213:Unit:=()
def PySem.W.Fast.tw3682884594810843133:Unit:=()
def PySem.W.Fast.tw3526653442046049067:Unit:=()
def PySem.W.Fast.tw13205962692782869682:Unit:=()
def PySem.W.Fast.tw2632972788178809892:Unit:=()
def PySem.W.Fast.tw3898159938009999849:Unit:=()
def PySem.W.Fast.tw11341217368675990250:Unit:=()
def PySem.W.Fast.tw8874324186555411810:Unit:=()
def PySem.W.Fast.tw11835939327459914978:Unit:=()
def PySem.W.Fast.tw7629607328052121663:Unit:=()
def PySem.W.Fast.tw7491080163233459317:Unit:=()
def PySem.W.Fast.tw1460535300697913263:Unit:=()
def PySem.W.Fast.tw15302476877277335141:Unit:=()
def PySem.W.Fast.tw18245852018626834180:Unit:=()
def PySem.W.Fast.tw7913946816189108677:Unit:=()
def PySem.W.Fast.tw16898623019702634377:Unit:=()
def PySem.W.Fast.tw17385274362661370117:Unit:=()
def PySem.W.Fast.tw12831535682069599535:Unit:=()
def PySem.W.Fast.tw15764635608382717841:Unit:=()
def PySem.W.Fast.tw15626427389033304435:Unit:=()
def PySem.W.Fast.tw7676802738803961851:Unit:=()
def PySem.W.Fast.tw10991910698430184944:Unit:=()
def PySem.W.Fast.tw15769784565457335162:Unit:=()
def PySem.W.Fast.tw17304592782682125618:Unit:=()
def PySem.W.Fast.tw4338394715660607597:Unit:=()
def PySem.W.Fast.tw819802076709762698:Unit:=()
def PySem.W.Fast.tw6632898266646083865:Unit:=()
def PySem.W.Fast.tw10083682883358974385:Unit:=()
def PySem.W.Fast.tw113903590578096421:Unit:=()
def PySem.W.Fast.tw12430625781105445311:Unit:=()
def PySem.W.Fast.tw16489342342221618761:Unit:=()
def PySem.W.Fast.tw16854229978924834055:Unit:=()
def PySem.W.Fast.tw13639907607780914095:Unit:=()
def PySem.W.Fast.tw16730062537430580152:Unit:=()
def PySem.W.Fast.tw3621028965917711882:Unit:=()
def PySem.W.Fast.tw17501963172951073711:Unit:=()
def PySem.W.Fast.tw10674753848540732019:Unit:=()
def PySem.W.Fast.tw3370104057897990020:Unit:=()
def PySem.W.Fast.tw10496638201469335936:Unit:=()
def PySem.W.Fast.tw9253273163240936327:Unit:=()
def PySem.W.Fast.tw6672833094637069470:Unit:=()
def PySem.W.Fast.tw16970932471679483123:Unit:=()
def PySem.W.Fast.tw7038541924457744739:Unit:=()
def PySem.W.Fast.tw2758098208764527058:Unit:=()
def PySem.W.Fast.tw2124498070182685175:Unit:=()
def PySem.W.Fast.tw5034578837699777396:Unit:=()
def PySem.W.Fast.tw2337394534357554658:Unit:=()
def PySem.W.Fast.tw14196365366429497823:Unit:=()
def PySem.W.Fast.tw10970244761331676262:Unit:=()
def PySem.W.Fast.tw3894972929151417074:Unit:=()
def PySem.W.Fast.tw16253552310379826713:Unit:=()
def PySem.W.Fast.tw5185465078801860180:Unit:=()
def PySem.W.Fast.tw2962556812284734808:Unit:=()
def PySem.W.Fast.tw15181555788912018473:Unit:=()
def PySem.W.Fast.tw16798564192741212061:Unit:=()
def PySem.W.Fast.tw1667699629638332361:Unit:=()
def PySem.W.Fast.tw6272823133584557608:Unit:=()
def PySem.W.Fast.tw17021371013286359683:Unit:=()
def PySem.W.Fast.tw15020586002188926096:Unit:=()
def PySem.W.Fast.tw7901775236848851956:Unit:=()
def PySem.W.Fast.tw15900415523180216066:Unit:=()
def PySem.W.Fast.tw10899549948884426980:Unit:=()
def PySem.W.Fast.tw10878588244303137444:Unit:=()
def PySem.W.Fast.tw919330595604398155:Unit:=()
def PySem.W.Fast.tw12444258176867927336:Unit:=()
def PySem.W.Fast.tw10606345247784982338:Unit:=()
def PySem.W.Fast.tw14396114846062296321:Unit:=()
def PySem.W.Fast.tw2152154084684106428:Unit:=()
def PySem.W.Fast.tw16207819896517911512:Unit:=()
def PySem.W.Fast.tw1091030403919275191:Unit:=()
def PySem.W.Fast.tw17744925636402372997:Unit:=()
def PySem.W.Fast.tw4557757584148887149:Unit:=()
def PySem.W.Fast.tw16747330605180281380:Unit:=()
def PySem.W.Fast.tw13828660571621324094:Unit:=()
def PySem.W.Fast.tw13157804632089145733:Unit:=()
def PySem.W.Fast.tw3137585056645473666:Unit:=()
def PySem.W.Fast.tw15065398170138934228:Unit:=()
def PySem.W.Fast.tw4352966440602156712:Unit:=()
def PySem.W.Fast.tw3810712651868469588:Unit:=()
def PySem.W.Fast.tw5170626280940883187:Unit:=()
def PySem.W.Fast.tw7130743845602572592:Unit:=()
def PySem.W.Fast.tw5337309740582477046:Unit:=()
def PySem.W.Fast.tw6036408462309443852:Unit:=()
def PySem.W.Fast.tw17673920025490684683:Unit:=()
def PySem.W.Fast.tw6996232206011535523:Unit:=()
def PySem.W.Fast.tw11303291226638090921:Unit:=()
def PySem.W.Fast.tw6879144335486069059:Unit:=()
def PySem.W.Fast.tw9495052282748558753:Unit:=()
def PySem.W.Fast.tw12121249208624627909:Unit:=()
def PySem.W.Fast.tw10021810523915636813:Unit:=()
def PySem.W.Fast.tw5729473904358487962:Unit:=()
def PySem.W.Fast.tw2612830183254484041:Unit:=()
def PySem.W.Fast.tw5673299520268126379:Unit:=()
def PySem.W.Fast.tw17082800005956333520:Unit:=()
def PySem.W.Fast.tw1507402111849525878:Unit:=()
def PySem.W.Fast.tw9489012266962198515:Unit:=()
def PySem.W.Fast.tw10348122836769573037:Unit:=()
def PySem.W.Fast.tw6345869990247984617:Unit:=()
def PySem.W.Fast.tw3728945499526001322:Unit:=()
def PySem.W.Fast.tw14761701670209171518:Unit:=()
def PySem.W.Fast.tw5740845430921182620:Unit:=()
def PySem.W.Fast.tw15394823386688033380:Unit:=()
def PySem.W.Fast.tw13477658150381224107:Unit:=()
def PySem.W.Fast.tw8864517144455234551:Unit:=()
def PySem.W.Fast.tw9424662618382504639:Unit:=()
def PySem.W.Fast.tw4548764264665787519:Unit:=()
def PySem.W.Fast.tw3086227955290084616:Unit:=()
def PySem.W.Fast.tw12487233737152612013:Unit:=()
def PySem.W.Fast.tw16617123550528829397:Unit:=()
def PySem.W.Fast.tw10382308140771925156:Unit:=()
def PySem.W.Fast.tw3743316292374152753:Unit:=()
def PySem.W.Fast.tw11897966309198551916:Unit:=()
def PySem.W.Fast.tw15299339305596011162:Unit:=()
def PySem.W.Fast.tw5208344306936840646:Unit:=()
def PySem.W.Fast.tw6750720004095246907:Unit:=()
def PySem.W.Fast.tw18080130612278143806:Unit:=()
def PySem.W.Fast.tw26243010546128194:Unit:=()
def PySem.W.Fast.tw5464479008935143074:Unit:=()
def PySem.W.Fast.tw8485206773893880320:Unit:=()
def PySem.W.Fast.tw5272280309869966852:Unit:=()
def PySem.W.Fast.tw3921717471939632478:Unit:=()
def PySem.W.Fast.tw7807947237855342693:Unit:=()
def PySem.W.Fast.tw10871234064016812984:Unit:=()
def PySem.W.Fast.tw5642857212285128665:Unit:=()
def PySem.W.Fast.tw16707441989735572389:Unit:=()
def PySem.W.Fast.tw3576538216277408236:Unit:=()
def PySem.W.Fast.tw9036111396499388172:Unit:=()
def PySem.W.Fast.tw7418525996596381262:Unit:=()
def PySem.W.Fast.tw7857643119962373890:Unit:=()
def PySem.W.Fast.tw10240214514483409749:Unit:=()
def PySem.W.Fast.tw2171337697493893333:Unit:=()
def PySem.W.Fast.tw11309688726647091731:Unit:=()
set_option maxRecDepth 100000 in
set_option maxHeartbeats 0 in
theorem PySem.Challenge.cw_forerun_k62_one_sign_exchanged_holds : PySem.Challenge.rw_forerun_k62_one_sign_exchanged.Holds := by
  w_on; o_law; k_head; (case hw => w_witness2)
  k_fill
  refine L2.walk_ofXB (l := PySem.Challenge.rw_forerun_k62_one_sign_exchanged) (n := 63) (k := 9) (x := "script") (sp := K62.sp_law) rfl (by decide) rfl ⟨rfl, by decide, by decide⟩ (fun w h Y => PySem.W.kIn_of Y) ?F ?S
  case F =>
    intro w mg fa h KX G hmg
    have T : ∃ t, K62.Txt (L2.KOf KX) mg t := by
      dsimp only [L2.KOf]
      refine' K62.txt_mk KX G ?qa0 ?ql0 ?qc0 ?qk0 ?qa1 ?ql1 ?qc1 ?qk1 ?qa2 ?ql2 ?qc2 ?qk2 ?qa3 ?ql3 ?qc3 ?qk3 ?qa4 ?ql4 ?qc4 ?qk4 ?qa5 ?ql5 ?qc5 ?qk5 ?qa6 ?ql6 ?qc6 ?qk6 ?qa7 ?ql7 ?qc7 ?qk7 ?qa8 ?ql8 ?qc8 ?qk8 ?qa9 ?ql9 ?qc9 ?qk9 ?qa10 ?ql10 ?qc10 ?qk10 ?qa11 ?ql11 ?qc11 ?qk11 ?qa12 ?ql12 ?qc12 ?qk12 ?qa13 ?ql13 ?qc13 ?qk13 ?qa14 ?ql14 ?qc14 ?qk14 ?qa15 ?ql15 ?qc15 ?qk15 ?qa16 ?ql16 ?qc16 ?qk16 ?qa17 ?ql17 ?qc17 ?qk17 ?qa18 ?ql18 ?qc18 ?qk18 ?qa19 ?ql19 ?qc19 ?qk19 ?qa20 ?ql20 ?qc20 ?qk20 ?qa21 ?ql21 ?qc21 ?qk21 ?qa22 ?ql22 ?qc22 ?qk22 ?qa23 ?ql23 ?qc23 ?qk23 ?qa24 ?ql24 ?qc24 ?qk24 ?qa25 ?ql25 ?qc25 ?qk25 ?qa26 ?ql26 ?qc26 ?qk26 ?qz0 ?qz1 ?qz2 ?qz3 ?qz4 ?qz5 ?qz6 ?qz7 ?qz8 ?qz9 ?qz10 ?qz11 ?qz12 ?qz13 ?qz14 ?qz15 ?qg0 ?qg1 ?qg2 ?qg3 ?qh3 ?qg4 ?qg5 ?qg6 ?qg7 ?qg8 ?qh8 ?qg9 ?qh9 ?qv0 ?qv1 ?qv2 ?qv3 ?qv4 ?qv5 ?qv6 ?qv7 ?qv8 ?qv9 ?qv10 ?rx0 ?ry0_0 ?ry0_1 ?ry0_2 ?ry0_3 ?ry0_4 ?ry0_5 ?ry0_6 ?ry0_7 ?re0_0 ?re0_1 ?ri0_0 ?ri0_1 ?rj0_0 ?rj0_1 ?rx1 ?ry1_0 ?ry1_1 ?ry1_2 ?ry1_3 ?ry1_4 ?ry1_5 ?ry1_6 ?ry1_7 ?re1_0 ?re1_1 ?ri1_0 ?ri1_1 ?rj1_0 ?rj1_1
      (case qv0 => k_is)
      (case qv1 => k_is)
      (case qv2 => k_is)
      (case qv3 => k_is)
      (case qv4 => k_is)
      (case qv5 => k_is)
      (case qv6 => k_is)
      (case qv7 => k_is)
      (case qv8 => k_is)
      (case qv9 => k_is)
      (case qv10 => k_is)
      (case qa0 => k_is)
      (case ql0 => k_is)
      (case qc0 => k_is)
      (case qk0 => k_is)
      (case qa1 => k_is)
      (case ql1 => k_is)
      (case qc1 => k_is)
      (case qk1 => k_is)
      (case qa2 => k_is)
      (case ql2 => k_is)
      (case qc2 => k_is)
      (case qk2 => k_is)
      (case qa3 => k_is)
      (case ql3 => k_is)
      (case qc3 => k_is)
      (case qk3 => k_is)
      (case qa4 => k_is)
      (case ql4 => k_is)
      (case qc4 => k_is)
      (case qk4 => k_is)
      (case qa5 => k_is)
      (case ql5 => k_is)
      (case qc5 => k_is)
      (case qk5 => k_is)
      (case qa6 => k_is)
      (case ql6 => k_is)
      (case qc6 => k_is)
      (case qk6 => k_is)
      (case qa7 => k_is)
      (case ql7 => k_is)
      (case qc7 => k_is)
      (case qk7 => k_is)
      (case qa8 => k_is)
      (case ql8 => k_is)
      (case qc8 => k_is)
      (case qk8 => k_is)
      (case qa9 => k_is)
      (case ql9 => k_is)
      (case qc9 => k_is)
      (case qk9 => k_is)
      (case qa10 => k_is)
      (case ql10 => k_is)
      (case qc10 => k_is)
      (case qk10 => k_is)
      (case qa11 => k_is)
      (case ql11 => k_is)
      (case qc11 => k_is)
      (case qk11 => k_is)
      (case qa12 => k_is)
      (case ql12 => k_is)
      (case qc12 => k_is)
      (case qk12 => k_is)
      (case qa13 => k_is)
      (case ql13 => k_is)
      (case qc13 => k_is)
      (case qk13 => k_is)
      (case qa14 => k_is)
      (case ql14 => k_is)
      (case qc14 => k_is)
      (case qk14 => k_is)
      (case qa15 => k_is)
      (case ql15 => k_is)
      (case qc15 => k_is)
      (case qk15 => k_is)
      (case qa16 => k_is)
      (case ql16 => k_is)
      (case qc16 => k_is)
      (case qk16 => k_is)
      (case qa17 => k_is)
      (case ql17 => k_is)
      (case qc17 => k_is)
      (case qk17 => k_is)
      (case qa18 => k_is)
      (case ql18 => k_is)
      (case qc18 => k_is)
      (case qk18 => k_is)
      (case qa19 => k_is)
      (case ql19 => k_is)
      (case qc19 => k_is)
      (case qk19 => k_is)
      (case qa20 => k_is)
      (case ql20 => k_is)
      (case qc20 => k_is)
      (case qk20 => k_is)
      (case qa21 => k_is)
      (case ql21 => k_is)
      (case qc21 => k_is)
      (case qk21 => k_is)
      (case qa22 => k_is)
      (case ql22 => k_is)
      (case qc22 => k_is)
      (case qk22 => k_is)
      (case qa23 => k_is)
      (case ql23 => k_is)
      (case qc23 => k_is)
      (case qk23 => k_is)
      (case qa24 => k_is)
      (case ql24 => k_is)
      (case qc24 => k_is)
      (case qk24 => k_is)
      (case qa25 => k_is)
      (case ql25 => k_is)
      (case qc25 => k_is)
      (case qk25 => k_is)
      (case qa26 => k_is)
      (case ql26 => k_is)
      (case qc26 => k_is)
      (case qk26 => k_is)
      (case qz0 => k_is)
      (case qz1 => k_is)
      (case qz2 => k_is)
      (case qz3 => k_is)
      (case qz4 => k_is)
      (case qz5 => k_is)
      (case qz6 => k_is)
      (case qz7 => k_is)
      (case qz8 => k_is)
      (case qz9 => k_is)
      (case qz10 => k_is)
      (case qz11 => k_is)
      (case qz12 => k_is)
      (case qz13 => k_is)
      (case qz14 => k_is)
      (case qz15 => k_is)
      (case qg0 => k_is)
      (case qg1 => k_is)
      (case qg2 => k_is)
      (case qg3 => k_is)
      (case qh3 => k_is)
      (case qg4 => k_is)
      (case qg5 => k_is)
      (case qg6 => k_is)
      (case qg7 => k_is)
      (case qg8 => k_is)
      (case qh8 => k_is)
      (case qg9 => k_is)
      (case qh9 => k_is)
      (case rx0 => k_exc)
      (case ry0_0 => k_is)
      (case ry0_1 => k_is)
      (case ry0_2 => k_is)
      (case ry0_3 => k_is)
      (case ry0_4 => k_is)
      (case ry0_5 => k_is)
      (case ry0_6 => k_is)
      (case ry0_7 => k_is)
      (case re0_0 => kernel_rfl)
      (case re0_1 => kernel_rfl)
      (case ri0_0 => kit_is)
      (case ri0_1 => kit_is)
      (case rj0_0 => kit_is)
      (case rj0_1 => kit_is)
      (case rx1 => k_exc)
      (case ry1_0 => k_is)
      (case ry1_1 => k_is)
      (case ry1_2 => k_is)
      (case ry1_3 => k_is)
      (case ry1_4 => k_is)
      (case ry1_5 => k_is)
      (case ry1_6 => k_is)
      (case ry1_7 => k_is)
      (case re1_0 => kernel_rfl)
      (case re1_1 => kernel_rfl)
      (case ri1_0 => kit_is)
      (case ri1_1 => kit_is)
      (case rj1_0 => kit_is)
      (case rj1_1 => kit_is)
    obtain ⟨t, T⟩ := T
    have e0 := hmg.symm.trans T.m_law
    cases e0
    exact ⟨_, T.w_law, fun base _ _ => K62.ok_law T⟩
  case S => exact fun K H a ns hl hb _ hS => ⟨a, ns, rfl, hS, hl, hb, fun _ => rfl⟩
