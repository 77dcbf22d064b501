import PyProof.Rows.All
import Wide.All
import OpenK.AllK
import Wide.FinOn
import Lean
import PyProof.EqAt
import PyProof.EqKinds
import PyProof.TupleCall
import PySem.Challenge.RW_forerun_k20_a_straight_runs_paper
import KE.IntBitsLaws
import KE.KDictList
import KE.KDictOf
import KE.KEqDict
import KE.KIntText
import KE.KItemsList
import KE.KRevIter
import KE.KSortAsk
import KE.KSortTup
import KE.KSorted
import KE.KTryMore
import KE.LcSums
import PyProof.AttrMissHeap
import PyProof.Conv_int_bool
import PyProof.DictItems
import PyProof.DictKinds
import PyProof.DictWalks
import PyProof.EnumFor
import PyProof.EnumMake
import PyProof.EqKinds
import PyProof.ListIndexNeg
import PyProof.MeetsStr
import PyProof.NeKinds
import PyProof.NsDelKeeps
import PyProof.P3Eq
import PyProof.Rows.EqDataRows
import PyProof.Rows.Range3
import PyProof.StrCalls2
import PyProof.StrLaws
import PyProof.StrLawsTight
import PyProof.StrOps
import PyProof.StrOps2
import PyProof.TupleIter
import PyProof.TupleKey
import PyProof.TupleOfSeq
import PyProof.ZipIter
import Wide.ObjOpen
import Wide.RegSB
set_option Elab.async false
set_option linter.all false
set_option maxRecDepth 100000
namespace L2
open PySem PySem.Spec PyProof.Rows
abbrev Key:=Sum Int Str
def keyIs:Key→Value→Bool
  | .inl k,v=>Value.isInt k v
  | .inr x,v=>Value.isStrOf x v
def keyH (w:World):Key→Int
  | .inl k=>hashInt k
  | .inr x=>hashStr w x
theorem keyIs_shape:∀ {k:Key} {v:Value},keyIs k v=true→(∃ i t,k=Sum.inl i∧v=Value.int i t)∨(∃ x t,k=Sum.inr x∧v=Value.str x t)
  | .inl i,v,h=>by
    obtain ⟨t,e⟩:=Value.isInt_shape (k:=i) (v:=v) h
    exact .inl ⟨i,t,rfl,e⟩
  | .inr x,v,h=>by
    obtain ⟨t,e⟩:=Value.isStrOf_shape (x:=x) (v:=v) h
    exact .inr ⟨x,t,rfl,e⟩
theorem keyIs_int (i:Int) (t:Tok):keyIs (.inl i) (.int i t)=true:=by simp [keyIs,Value.isInt]
theorem keyIs_str (x:Str) (t:Tok):keyIs (.inr x) (.str x t)=true:=by simp [keyIs,Value.isStrOf]
theorem key_ll (a b:Int):decide ((Sum.inl a:Key)=Sum.inl b)=(a == b):=by
  by_cases e:a=b
  · subst e;simp
  · have h:¬ (Sum.inl a:Key)=Sum.inl b:=fun q=>e (Sum.inl.inj q)
    rw [decide_eq_false h]
    exact (beq_eq_false_iff_ne.mpr e).symm
theorem key_rr (a b:Str):decide ((Sum.inr a:Key)=Sum.inr b)=decide (a=b):=by
  by_cases e:a=b
  · subst e;simp
  · have h:¬ (Sum.inr a:Key)=Sum.inr b:=fun q=>e (Sum.inr.inj q)
    rw [decide_eq_false h,decide_eq_false e]
theorem key_lr (a:Int) (b:Str):decide ((Sum.inl a:Key)=Sum.inr b)=false:=decide_eq_false (fun q=>nomatch q)
theorem key_rl (a:Str) (b:Int):decide ((Sum.inr a:Key)=Sum.inl b)=false:=decide_eq_false (fun q=>nomatch q)
def mixKind (prog:Program) (w:World):PySem.KeyKind prog w Key where
  is:=keyIs
  hash:=keyH w
  inj:=fun v a b ha hb=>by
    rcases keyIs_shape ha with ⟨i,t,rfl,rfl⟩ | ⟨x,t,rfl,rfl⟩
    · rcases keyIs_shape hb with ⟨j,u,rfl,e⟩ | ⟨y,u,rfl,e⟩
      · injection e with e1 _;rw [e1]
      · exact nomatch e
    · rcases keyIs_shape hb with ⟨j,u,rfl,e⟩ | ⟨y,u,rfl,e⟩
      · exact nomatch e
      · injection e with e1 _;rw [e1]
  byValue:=fun k v h=>by
    rcases keyIs_shape h with ⟨i,t,rfl,rfl⟩ | ⟨x,t,rfl,rfl⟩ <;> rfl
  pyHash:=fun hv h=>by
    rcases keyIs_shape hv with ⟨i,t,rfl,rfl⟩ | ⟨x,t,rfl,rfl⟩
    · exact wpAny_pyHash_int h
    · exact wpAny_pyHash_str h
  eqBool:=fun hu hv h=>by
    rcases keyIs_shape hu with ⟨i,t,rfl,rfl⟩ | ⟨x,t,rfl,rfl⟩
    · rcases keyIs_shape hv with ⟨j,u,rfl,rfl⟩ | ⟨y,u,rfl,rfl⟩
      · rw [key_ll] at h;exact wpAny_eqBool_int h
      · rw [key_lr] at h;exact SeqAt.EqAt.int_str i t y u _ _ _ _ h
    · rcases keyIs_shape hv with ⟨j,u,rfl,rfl⟩ | ⟨y,u,rfl,rfl⟩
      · rw [key_rl] at h;exact SeqAt.EqAt.str_int x t j u _ _ _ _ h
      · rw [key_rr] at h;exact wpAny_eqBool_str h
  «strs»:=fun k x t v h=>by
    rcases keyIs_shape h with ⟨i,u,rfl,e⟩ | ⟨y,u,rfl,e⟩
    · exact nomatch e
    · injection e with e1 _
      subst e1
      cases v <;> rfl
theorem mixKind_int (prog:Program) (w:World) (i:Int) (t:Tok):(mixKind prog w).is (.inl i) (.int i t)=true:=keyIs_int i t
theorem mixKind_str (prog:Program) (w:World) (x:Str) (t:Tok):(mixKind prog w).is (.inr x) (.str x t)=true:=keyIs_str x t
end L2
namespace L2
open PySem PySem.Spec PyProof.Rows
inductive V where
  | non | bl (b:Bool) | int (i:Int) | str (x:Str) | byt (b:Array UInt8) | flt (b:UInt64) | ref (a:Addr) | ty (n:String)
  deriving DecidableEq
def RelV:V→Value→Prop
  | .non,u=>u=Value.none
  | .bl b,u=>u=Value.bool b
  | .int i,u=>∃ t,u=Value.int i t
  | .str x,u=>∃ t,u=Value.str x t
  | .byt b,u=>∃ t,u=Value.bytes b t
  | .flt b,u=>∃ t,u=Value.float b t
  | .ref a,u=>u=Value.ref a
  | .ty n,u=>u=Value.type n
abbrev Vals:List V→List Value→Prop:=Paired RelV
theorem Vals.length {xs:List V} {us:List Value} (r:Vals xs us):xs.length=us.length:=Paired.length r
theorem Vals.get:∀ {xs:List V} {us:List Value} {i:Nat} {x:V},Vals xs us→xs[i]?=some x→∃ u,us[i]?=some u∧RelV x u
  | _,_,_,_,.nil,e=>by simp at e
  | _,_,0,_,.cons r _,e=>by simp at e;subst e;exact ⟨_,rfl,r⟩
  | _,_,i + 1,x,.cons _ t,e=>by
    obtain ⟨u,h1,h2⟩:=Vals.get (i:=i) (x:=x) t (by simpa using e)
    exact ⟨u,by simpa using h1,h2⟩
theorem Vals.append:∀ {xs ys:List V} {us ws:List Value},Vals xs us→Vals ys ws→Vals (xs ++ ys) (us ++ ws)
  | _,_,_,_,.nil,s=>s
  | _,_,_,_,.cons r t,s=>.cons r (Vals.append t s)
theorem Vals.take:∀ {xs:List V} {us:List Value} (n:Nat),Vals xs us→Vals (xs.take n) (us.take n)
  | _,_,0,_=>.nil
  | _,_,_ + 1,.nil=>.nil
  | _,_,n + 1,.cons r t=>.cons r (Vals.take n t)
theorem Vals.drop:∀ {xs:List V} {us:List Value} (n:Nat),Vals xs us→Vals (xs.drop n) (us.drop n)
  | _,_,0,r=>r
  | _,_,_ + 1,.nil=>.nil
  | _,_,n + 1,.cons _ t=>Vals.drop n t
def RelO:Option V→Option Value→Prop
  | some v,some u=>RelV v u
  | none,none=>True
  | _,_=>False
def KV {κ:Type}:List (κ × V)→List (κ × Value)→Prop:=Paired fun (p:κ × V) (q:κ × Value)=>p.1=q.1∧RelV p.2 q.2
def kV:Key→V
  | .inl i=>.int i
  | .inr x=>.str x
inductive HO where
    | lst (xs:List V)
    | tup (xs:List V)
    | dK (kvs:List (Key × V)) | dT (kvs:List (List Key × V))
    | set (S:Int→Bool) (n:Nat)
    | ins (C dx:Addr) (fs:List (Str × V))
    | own (x:Addr)
    | xd (fs:List (Str × V))
    | met (f x:Addr)
    | rng (lo hi:Int)
    | frz (o:Obj) (u:HO)
    | tbl (ps:Array Value)
    | ext (φ:Heap→Prop)
abbrev Hp:=Addr→Option HO
def upd (H:Hp) (a:Addr) (o:HO):Hp:=fun b=>if b=a then some o else H b
theorem upd_same {H:Hp} {a:Addr} {o:HO}:upd H a o a=some o:=by unfold upd;rw [if_pos rfl]
theorem upd_ne {H:Hp} {a b:Addr} {o:HO} (h:b≠a):upd H a o b=H b:=by unfold upd;rw [if_neg h]
theorem upd_upd {H:Hp} {a:Addr} {o u:HO}:upd (upd H a o) a u=upd H a u:=by
  funext b;unfold upd;split <;> rfl
theorem ne_of {H:Hp} {a b:Addr} {o u:HO} (h:H a=some o) (h':H b=some u) (d:o≠u):a≠b:=by
  intro e;subst e;rw [h] at h';exact d (Option.some.inj h')
theorem ne_of_none {H:Hp} {a b:Addr} {o:HO} (h:H a=some o) (h':H b=none):a≠b:=by
  intro e;subst e;rw [h] at h';cases h'
section
variable (P:Program) (w:World)
def ObjOk (H:Hp) (h:Heap) (a:Addr):HO→Prop
  | .lst xs=>xs.length≤sizeLine∧∃ (its:List Value) (n:Nat),Vals xs its∧h.get? a=some { cls:=.type "list",data:=.seq its.toArray n }
  | .tup xs=>xs.length≤sizeLine∧∃ its:List Value,Vals xs its∧IsTup h a its.toArray
  | .dK kvs=>kvs.length≤sizeLine∧(a == sysModules)=false∧∃ vs,KV kvs vs∧h.DictOf (mixKind P w) a vs
  | .dT kvs=>kvs.length≤sizeLine∧(a == sysModules)=false∧∃ xs:List (List Key × Addr × Value),
      Paired (fun (p:List Key × V) (q:List Key × Addr × Value)=>p.1=q.1∧H q.2.1=some (.tup (p.1.map kV))∧RelV p.2 q.2.2) kvs xs ∧
      ∃ o es ep,h.get? a=some o∧o.ExactDict∧o.data=.dict es ep∧es.toList=xs.map (entryOfKey (tupleKind (mixKind P w)))∧(xs.map (·.1)).Nodup
  | .set S n=>h.SetOf (intKind P w) a S n
  | .ins C dx fs=>H dx=some (.own a)∧fs.length≤1000∧dx≠a∧h.get? a=some (PySem.W.instObj C dx) ∧
      ∃ mA,h.Ns1 dx mA∧(∀ f,RelO (fs.lookup f) (mA f))∧PySem.Within mA (fs.map (·.1))
  | .own _=>∃ o,h.get? a=some o
  | .xd fs=>∃ mA,h.Ns1 a mA∧∀ f,RelO (fs.lookup f) (mA f)
  | .rng lo hi=>∃ t u v,h.get? a=some { cls:=.type "range",data:=.fields #[.int lo t,.int hi u,.int 1 v] }
  | .frz o u=>h.get? a=some o∧ObjOk H h a u
  | .tbl ps=>h.get? a=some { cls:=.none,data:=.fields ps }
  | .met f x=>h.get? a=some (PySem.W.methodObj (.ref f) (.ref x))
  | .ext φ=>φ h∧(∃ o,h.get? a=some o)∧∀ h1 h2:Heap,φ h1→(∀ o,h1.get? a=some o→h2.get? a=some o)→φ h2
def HOk (H:Hp) (h:Heap):Prop:=∀ a o,H a=some o→ObjOk P w H h a o
end
section
variable {P:Program} {w:World} {H H':Hp} {h h':Heap} {a:Addr} {o:HO}
theorem ObjOk.lt (x:ObjOk P w H h a o):a < h.objs.size:=by
  cases o with
  | lst xs=>obtain ⟨_,_,_,_,e⟩:=x;exact Heap.lt_size e
  | tup xs=>obtain ⟨_,_,_,p⟩:=x;exact p.lt
  | dK kvs=>obtain ⟨_,_,_,_,o,_,_,e,_⟩:=x;exact Heap.lt_size e
  | dT kvs=>obtain ⟨_,_,_,_,o,_,_,e,_⟩:=x;exact Heap.lt_size e
  | set S n=>obtain ⟨o,_,_,_,e,_⟩:=x;exact Heap.lt_size e
  | ins C dx fs=>obtain ⟨_,_,_,e,_⟩:=x;exact Heap.lt_size e
  | own y=>obtain ⟨_,e⟩:=x;exact Heap.lt_size e
  | xd fs=>obtain ⟨_,⟨_,_,_,e,_⟩,_⟩:=x;exact Heap.lt_size e
  | rng lo hi=>obtain ⟨_,_,_,e⟩:=x;exact Heap.lt_size e
  | frz ob u=>obtain ⟨e,_⟩:=x;exact Heap.lt_size e
  | tbl ps=>exact Heap.lt_size (show h.get? a=some _ from x)
  | met f y=>exact Heap.lt_size (show h.get? a=some _ from x)
  | ext φ=>obtain ⟨_,⟨_,e⟩,_⟩:=x;exact Heap.lt_size e
theorem Paired.mapP {α β:Type} {F G:α→β→Prop}:∀ {l₁:List α} {l₂:List β},Paired F l₁ l₂→(∀ a b,F a b→G a b)→Paired G l₁ l₂
  | _,_,.nil,_=>.nil
  | _,_,.cons r t,f=>.cons (f _ _ r) (Paired.mapP t f)
theorem ObjOk.stay (x:ObjOk P w H h a o) (k:∀ b u,(b=a∨H b=some (.own a))→h.get? b=some u→h'.get? b=some u)
    (ho:∀ b,H b=some (.own a)→H' b=some (.own a)) (ht:∀ b xs,H b=some (.tup xs)→H' b=some (.tup xs)):ObjOk P w H' h' a o:=by
  induction o with
  | lst xs=>obtain ⟨z,its,n,r,e⟩:=x;exact ⟨z,its,n,r,k _ _ (.inl rfl) e⟩
  | tup xs=>obtain ⟨z,its,r,ob,e,c⟩:=x;exact ⟨z,its,r,ob,k _ _ (.inl rfl) e,c⟩
  | dK kvs=>obtain ⟨z,y,vs,r,ob,es,ep,e,c⟩:=x;exact ⟨z,y,vs,r,ob,es,ep,k _ _ (.inl rfl) e,c⟩
  | dT kvs =>
    obtain ⟨z,y,xs,r,ob,es,ep,e,c⟩:=x
    exact ⟨z,y,xs,Paired.mapP r fun p q z=>⟨z.1,ht _ _ z.2.1,z.2.2⟩,ob,es,ep,k _ _ (.inl rfl) e,c⟩
  | set S n=>obtain ⟨ob,es,ep,t,e,c⟩:=x;exact ⟨ob,es,ep,t,k _ _ (.inl rfl) e,c⟩
  | ins C dx fs =>
    obtain ⟨d,z,ne,e,mA,⟨od,es,ep,e2,c⟩,r⟩:=x
    exact ⟨ho _ d,z,ne,k _ _ (.inl rfl) e,mA,⟨od,es,ep,k _ _ (.inr d) e2,c⟩,r⟩
  | own y=>obtain ⟨ob,e⟩:=x;exact ⟨ob,k _ _ (.inl rfl) e⟩
  | xd fs=>obtain ⟨mA,⟨od,es,ep,e,c⟩,r⟩:=x;exact ⟨mA,⟨od,es,ep,k _ _ (.inl rfl) e,c⟩,r⟩
  | rng lo hi=>obtain ⟨t,u,v,e⟩:=x;exact ⟨t,u,v,k _ _ (.inl rfl) e⟩
  | frz ob u ih=>obtain ⟨e,q⟩:=x;exact ⟨k _ _ (.inl rfl) e,ih q⟩
  | tbl ps =>
    have e:h.get? a=some { cls:=.none,data:=.fields ps }:=x
    show h'.get? a=some { cls:=.none,data:=.fields ps }
    exact k a _ (.inl rfl) e
  | met f y =>
    have e:h.get? a=some (PySem.W.methodObj (.ref f) (.ref y)):=x
    show h'.get? a=some (PySem.W.methodObj (.ref f) (.ref y))
    exact k a _ (.inl rfl) e
  | ext φ=>obtain ⟨p,⟨o,e⟩,st⟩:=x;exact ⟨st _ _ p fun o q=>k _ _ (.inl rfl) q,⟨o,k _ _ (.inl rfl) e⟩,st⟩
theorem HOk.lt (x:HOk P w H h) (e:H a=some o):a < h.objs.size:=(x a o e).lt
theorem HOk.fresh (x:HOk P w H h) (e:h.objs.size≤a):H a=none:=by
  cases q:H a with
  | none=>rfl
  | some u=>exact absurd (Nat.lt_of_lt_of_le (x.lt q) e) (Nat.lt_irrefl _)
theorem HOk.kept (x:HOk P w H h) (k:∀ b u,h.get? b=some u→h'.get? b=some u):HOk P w H h':=fun a o e =>
  (x a o e).stay (fun b u _ q=>k b u q) (fun _ q=>q) fun _ _ q=>q
theorem HOk.laid (x:HOk P w H h) (k:∀ b u,h.get? b=some u→h'.get? b=some u) (hp:h.objs.size≤a) (new:ObjOk P w (upd H a o) h' a o):HOk P w (upd H a o) h':=fun b u e=>by
  have hn:=x.fresh hp
  by_cases hb:b=a
  · subst hb;rw [upd_same] at e;cases e;exact new
  · rw [upd_ne hb] at e
    exact (x b u e).stay (fun c v _ q=>k c v q) (fun c q=>by rw [upd_ne (ne_of_none q hn)];exact q) fun c xs q=>by rw [upd_ne (ne_of_none q hn)];exact q
end
def Rd (H:Hp) (a:Addr) (u:HO):Prop:=H a=some u∨∃ o,H a=some (.frz o u)
theorem Rd.ok {P:Program} {w:World} {H:Hp} {h:Heap} {a:Addr} {u:HO} (r:Rd H a u) (x:HOk P w H h):ObjOk P w H h a u:=by
  rcases r with r | ⟨o,r⟩
  · exact x a u r
  · obtain ⟨_,q⟩:=x a _ r
    exact q
def Mut:Option HO→Prop
  | some (.lst _)=>True
  | some (.dK _)=>True
  | some (.dT _)=>True
  | some (.set _ _)=>True
  | some (.ins _ _ _)=>True
  | some (.ext _)=>True
  | _=>False
section
variable {P:Program} {w:World} {H:Hp} {h h':Heap} {x e:Addr} {o':HO}
theorem HOk.write (ok:HOk P w H h) (mu:Mut (H x)) (he:e=x∨H e=some (.own x)) (k:∀ b u,b≠e→h.get? b=some u→h'.get? b=some u) (heo:∃ u,h'.get? e=some u)
    (new:ObjOk P w (upd H x o') h' x o'):HOk P w (upd H x o') h':=fun b u q=>by
  have nown:∀ c y,H c=some (.own y)→c≠x:=fun c y r z=>by subst z;rw [r] at mu;exact mu
  have ntup:∀ c xs,H c=some (.tup xs)→c≠x:=fun c xs r z=>by subst z;rw [r] at mu;exact mu
  by_cases hb:b=x
  · subst hb;rw [upd_same] at q;cases q;exact new
  · rw [upd_ne hb] at q
    by_cases hbe:b=e
    · have q':H b=some (.own x):=by
        rcases he with z | z
        · exact absurd (hbe.trans z) hb
        · rw [hbe];exact z
      rw [q] at q';cases q'
      obtain ⟨v,hv⟩:=heo
      exact ⟨v,by rw [hbe];exact hv⟩
    · refine (ok b u q).stay (fun c v hc r=>k c v ?_ r) (fun c r=>by rw [upd_ne (nown c b r)];exact r) fun c xs r=>by rw [upd_ne (ntup c xs r)];exact r
      rcases hc with rfl | hc
      · exact hbe
      · rintro rfl
        rcases he with z | z
        · exact nown c b hc z
        · rw [hc] at z;cases z;exact hb rfl
end
structure Un (fs ex:List Addr) (H H':Hp) (h h':Heap):Prop where
  keep:∀ b o,h.get? b=some o→H b=none→b ∉ fs→b ∉ ex→h'.get? b=some o
  slot:∀ b o,h.get? b=some o→H b=none→b∈fs→b ∉ ex→∃ sl,h'.get? b=some { o with slots:=sl }
  free:∀ b o,h.get? b=some o→H b=none→b ∉ ex→H' b=none
  there:∀ b o,h.get? b=some o→b ∉ ex→∃ o',h'.get? b=some o'
  tups:∀ b xs,H b=some (.tup xs)→H' b=some (.tup xs)
  frzs:∀ b o u,H b=some (.frz o u)→H' b=some (.frz o u)
  tbls:∀ b ps,H b=some (.tbl ps)→∃ more,H' b=some (.tbl (ps ++ more))
section
variable {fs fs' ex ex':List Addr} {H H1 H2:Hp} {h h1 h2 h':Heap} {a x e:Addr} {o:HO}
theorem Un.any (u:Un fs ex H H1 h h1) {b:Addr} {ob:Obj} (q:h.get? b=some ob) (n:H b=none) (hx:b ∉ ex):∃ sl,h1.get? b=some { ob with slots:=sl }:=by
  by_cases hb:b∈fs
  · exact u.slot b ob q n hb hx
  · exact ⟨ob.slots,u.keep b ob q n hb hx⟩
theorem Un.kept (k:∀ b u,h.get? b=some u→h'.get? b=some u):Un fs ex H H h h' :=
  ⟨fun b ob q _ _ _=>k b ob q,fun b ob q _ _ _=>⟨ob.slots,k b ob q⟩,fun _ _ _ n _=>n,fun b ob q _=>⟨ob,k b ob q⟩,fun _ _ q=>q,fun _ _ _ q=>q,fun _ ps q=>⟨#[],by rw [q];simp⟩⟩
theorem Un.refl:Un fs ex H H h h:=Un.kept fun _ _ q=>q
theorem Un.laid (k:∀ b u,h.get? b=some u→h'.get? b=some u) (hp:h.objs.size≤a) (hn:H a=none):Un fs ex H (upd H a o) h h' where
  keep:=fun b u q _ _ _=>k b u q
  slot:=fun b u q _ _ _=>⟨u.slots,k b u q⟩
  free:=fun b u q n _=>by rw [upd_ne (Nat.ne_of_lt (Nat.lt_of_lt_of_le (Heap.lt_size q) hp))];exact n
  there:=fun b u q _=>⟨u,k b u q⟩
  tups:=fun b xs q=>by rw [upd_ne (ne_of_none q hn)];exact q
  frzs:=fun b u xs q=>by rw [upd_ne (ne_of_none q hn)];exact q
  tbls:=fun b ps q=>⟨#[],by rw [upd_ne (ne_of_none q hn),q];simp⟩
theorem Un.write (mu:Mut (H x)) (he:e=x∨H e=some (.own x)) (k:∀ b u,b≠e→h.get? b=some u→h'.get? b=some u) (heo:∃ u,h'.get? e=some u):Un fs ex H (upd H x o) h h':=by
  have hx:∀ b,H b=none→b≠x:=fun b n z=>by subst z;rw [n] at mu;exact mu
  have hb:∀ b,H b=none→b≠e:=fun b n z=>by
    subst z
    rcases he with r | r
    · exact hx b n r
    · rw [n] at r;cases r
  have hm:∀ b u,H b=some u→¬ Mut (some u)→b≠x:=fun b u q nm z=>by subst z;rw [q] at mu;exact nm mu
  refine ⟨fun b u q n _ _=>k b u (hb b n) q,fun b u q n _ _=>⟨u.slots,k b u (hb b n) q⟩,fun b u q n _=>by rw [upd_ne (hx b n)];exact n,fun b u q _=>?_,
    fun b xs q=>by rw [upd_ne (hm b _ q fun z=>z)];exact q,fun b u xs q=>by rw [upd_ne (hm b _ q fun z=>z)];exact q,fun b ps q=>⟨#[],by rw [upd_ne (hm b _ q fun z=>z),q];simp⟩⟩
  by_cases hbe:b=e
  · subst hbe;exact heo
  · exact ⟨u,k b u hbe q⟩
end
def trk (h:Heap) (H:Hp):List Addr:=(List.range h.objs.size).filter fun a=>(H a).isSome
def hidT (h:Heap) (H:Hp):Heap:=PySem.W.hideAll h (trk h H)
theorem hidT_size (h:Heap) (H:Hp):(hidT h H).objs.size=h.objs.size:=PySem.W.hideAll_size _ _
theorem hidT_get {h:Heap} {H:Hp} {b:Addr} {o:Obj} (e:h.get? b=some o) (n:H b=none):(hidT h H).get? b=some o :=
  PySem.W.hideAll_get _ e fun hm=>by
    have q:(H b).isSome=true:=(List.mem_filter.mp hm).2
    rw [n] at q;simp at q
theorem of_hidT {h:Heap} {H:Hp} {b:Addr} {o:Obj} (e:(hidT h H).get? b=some o):h.get? b=some o∧H b=none:=by
  have e':h.get? b=some o:=PySem.W.of_hideAll (trk h H) e
  refine ⟨e',?_⟩
  cases q:H b with
  | none=>rfl
  | some x =>
    have hm:b∈trk h H:=List.mem_filter.mpr ⟨List.mem_range.mpr (Heap.lt_size e'),by simp [q]⟩
    have z:(hidT h H).get? b=none:=PySem.W.hideAll_none (trk h H) hm
    rw [z] at e;cases e
def allNews (g h:Heap) (L:Addr):List (Addr × Obj):=(List.range h.objs.size).filterMap fun a=>if a=L∨(g.get? a).isSome=true then none else (h.get? a).map fun o=>(a,o)
def rest (g h:Heap) (L d:Addr):List (Addr × Obj):=(allNews g h L).filter fun p=>decide (p.1≠d)
end L2
namespace L2
open PySem PySem.Spec PyProof.Rows
structure Mod (K:PySem.W.Frag) (mg:Str→Option Value) (base:Heap):Prop where
  kin:K.In base
  glob:base.Ns mainGlobals mg
  blt:∃ mb,base.Ns builtinsNs mb∧∀ x:Str,x≠"__name__"→mb x=bootBuiltins x
  nolimit:base.NoLimit
set_option genSizeOf false in
set_option genInjectivity false in
structure Cx where
  prog:Program
  w:World
  K:PySem.W.Frag
  mg:Str→Option Value
  base:Heap
  A:Around
  N:List Str
  s₀:Shared
  H₀:Hp
  env:Env
  outer:List Env
  stack:List Env
  ex:List Addr
  fn:Str→Bool
  calm:Bool
  pn:List (Addr × Obj)
  xe:Value→Shared→Prop
def frs (l:List Env):List Addr:=l.filterMap (·.frame)
abbrev Cx.fs (X:Cx):List Addr:=frs X.outer
def Vis (sc:Scope) (x:Str):Prop:=sc.names.lookup x=some .local∨sc.names.lookup x=some .cell∨sc.names.lookup x=some .free
def Loc (sc:Scope) (x:Str):Prop:=sc.names.lookup x=some .local∨sc.names.lookup x=some .cell
def Look (env:Env) (h:Heap) (m:Str→Option Value) (x:Str) (u:Value):Prop :=
  (env.kindOf x=some .local∧m x=some u)∨((env.kindOf x=some .cell∨env.kindOf x=some .free)∧∃ c,env.cells.lookup x=some c∧h.IsCell c (some u))
structure Cx.Ok (X:Cx):Prop where
  mod:Mod X.K X.mg X.base
  kind:X.env.scope.kind=.function
  glob:X.env.globals=mainGlobals
  blt:X.env.builtins=builtinsNs
  above:X.s₀.heap.objs.size≤X.env.locals
  inj:∀ x y c,X.env.cells.lookup x=some c→X.env.cells.lookup y=some c→x=y
  has:∀ x,(X.env.kindOf x=some .cell∨X.env.kindOf x=some .free)→∃ c,X.env.cells.lookup x=some c
  cab:∀ x c,X.fn x=true→X.env.cells.lookup x=some c→X.s₀.heap.objs.size≤c
  hd:X.calm=true→X.A.handled=none
  frames:X.A.frames=some X.stack
  stk:X.stack=X.outer∨(X.stack=X.env :: X.outer∧X.env.frame=some X.env.locals)
  exf:∀ b∈X.ex,b≠X.env.locals∧∀ x c,X.env.cells.lookup x=some c→c≠b
  bs:∀ b o,X.base.get? b=some o→X.s₀.heap.get? b=some o∧X.H₀ b=none
  bsz:X.base.objs.size≤X.s₀.heap.objs.size
  noex:∀ b o,X.base.get? b=some o→b ∉ X.ex
  exfs:∀ b∈X.ex,b ∉ X.fs
  funs:X.s₀.heap.FunFrames X.base X.outer
  frf:∀ b∈X.fs,X.H₀ b=none
structure Inv (X:Cx) (pins:List (Addr × Obj)) (σ:List (Option V)) (H:Hp) (s:Shared):Prop where
  ok:X.Ok
  os:s.os=X.s₀.os
  bare:AllBare s.gens
  base:Un X.fs X.ex X.H₀ H X.s₀.heap s.heap
  loc:∃ m,s.heap.Ns X.env.locals m∧∀ (i:Nat) (x:Str) (v:V),X.N[i]?=some x→σ[i]?=some (some v)→Vis X.env.scope x→∃ u,RelV v u∧Look X.env s.heap m x u
  cell:∀ x c,X.env.cells.lookup x=some c→∃ v,s.heap.IsCell c v
  free:H X.env.locals=none
  freeC:∀ x c,X.env.cells.lookup x=some c→H c=none
  pin:∀ p∈X.pn ++ pins,s.heap.get? p.1=some p.2∧H p.1=none∧p.1≠X.env.locals∧p.1 ∉ X.fs∧∀ v,p.2.data≠.cell v
  hok:HOk X.prog X.w H s.heap
  len:σ.length=X.N.length
section
variable {X:Cx} {pins:List (Addr × Obj)} {σ:List (Option V)} {H H':Hp} {s:Shared} {h':Heap}
theorem Cx.Ok.nofr (ok:X.Ok) {b:Addr} {o:Obj} (e:X.base.get? b=some o):b ∉ X.fs:=fun hb=>by
  have:=(ok.funs.mem hb).1
  rw [e] at this;cases this
theorem Inv.bs (I:Inv X pins σ H s):∀ b o,X.base.get? b=some o→s.heap.get? b=some o∧H b=none:=fun b o e =>
  ⟨I.base.keep b o (I.ok.bs b o e).1 (I.ok.bs b o e).2 (I.ok.nofr e) (I.ok.noex b o e),I.base.free b o (I.ok.bs b o e).1 (I.ok.bs b o e).2 (I.ok.noex b o e)⟩
theorem Inv.bk (I:Inv X pins σ H s):∀ b o,X.base.get? b=some o→s.heap.get? b=some o:=fun b o e=>(I.bs b o e).1
theorem Inv.mod (I:Inv X pins σ H s):Mod X.K X.mg X.base:=I.ok.mod
theorem Inv.kIn (I:Inv X pins σ H s):X.K.In s.heap:=I.ok.mod.kin.keeps I.bk
theorem Inv.lt (I:Inv X pins σ H s):X.env.locals < s.heap.objs.size:=let ⟨_,hn,_⟩:=I.loc;hn.lt
theorem Inv.sz (I:Inv X pins σ H s):X.s₀.heap.objs.size≤s.heap.objs.size:=Nat.le_trans I.ok.above (Nat.le_of_lt I.lt)
theorem Inv.nofs (I:Inv X pins σ H s) {a:Addr} (h:s.heap.objs.size≤a):a ∉ X.fs:=fun hb=>by
  obtain ⟨_,o,ho,_⟩:=I.ok.funs.mem hb
  exact absurd (Nat.lt_of_lt_of_le (Heap.lt_size ho) (Nat.le_trans I.sz h)) (Nat.lt_irrefl _)
theorem Inv.cne (I:Inv X pins σ H s):∀ x c,X.env.cells.lookup x=some c→c≠X.env.locals:=fun x c e z=>by
  obtain ⟨v,o,ho,hd⟩:=I.cell x c e
  obtain ⟨m,⟨o',es,ep,ho',hd',_⟩,_⟩:=I.loc
  rw [z,ho'] at ho;cases ho;rw [hd'] at hd;cases hd
theorem Inv.funs (I:Inv X pins σ H s):s.heap.FunFrames X.base X.outer:=by
  have all:∀ (l:List Env),(∀ b∈frs l,b∈X.fs)→X.s₀.heap.FunFrames X.base l→s.heap.FunFrames X.base l:=by
    intro l
    induction l with
    | nil=>intro _ _;trivial
    | cons env r ih =>
      intro hs hl
      obtain ⟨hk,⟨L,o,hf,hn,ho,hd⟩,hr⟩:=hl
      have hL:L∈X.fs:=hs L (by unfold frs;rw [List.filterMap_cons,hf];exact List.mem_cons_self)
      obtain ⟨sl,e⟩:=I.base.slot L o ho (I.ok.frf L hL) hL fun z=>I.ok.exfs L z hL
      exact ⟨hk,⟨L,_,hf,hn,e,hd⟩,ih (fun b hb=>hs b (by unfold frs;rw [List.filterMap_cons,hf];exact List.mem_cons_of_mem _ hb)) hr⟩
  exact all X.outer (fun _ hb=>hb) I.ok.funs
theorem Inv.stack (I:Inv X pins σ H s):s.heap.FunFrames X.base X.stack:=by
  rcases I.ok.stk with e | ⟨e,hf⟩
  · rw [e];exact I.funs
  · rw [e]
    obtain ⟨m,hn,_⟩:=I.loc
    refine .cons (by rw [I.ok.kind];decide) hf hn ?_ I.funs
    exact Heap.get?_none_of_le (Nat.le_trans I.ok.bsz I.ok.above)
theorem Inv.stkSub (I:Inv X pins σ H s):∀ b∈frs X.stack,b∈X.env.locals :: X.fs:=fun b hb=>by
  rcases I.ok.stk with e | ⟨e,hf⟩
  · rw [e] at hb;exact List.mem_cons_of_mem _ hb
  · rw [e] at hb
    unfold frs at hb
    rw [List.filterMap_cons,hf] at hb
    exact hb
theorem Inv.stkFree (I:Inv X pins σ H s):∀ b∈frs X.stack,H b=none:=fun b hb=>by
  rcases List.mem_cons.mp (I.stkSub b hb) with e | hb
  · rw [e];exact I.free
  · obtain ⟨_,o,ho,_⟩:=I.ok.funs.mem hb
    exact I.base.free b o ho (I.ok.frf b hb) fun z=>I.ok.exfs b z hb
theorem Inv.step {g':Array GenState} {t':Nat} {d':Drawn} {ch:List Addr} (I:Inv X pins σ H s)
    (hch:∀ b∈ch,(b∈X.ex∨X.s₀.heap.objs.size≤b)∧b≠X.env.locals∧(∀ x c,X.env.cells.lookup x=some c→c≠b)∧∀ p∈X.pn ++ pins,p.1≠b)
    (keep:∀ b o,b≠X.env.locals→b ∉ X.fs→b ∉ ch→s.heap.get? b=some o→H b=none→h'.get? b=some o)
    (slot:∀ b o,b≠X.env.locals→b∈X.fs→b ∉ ch→s.heap.get? b=some o→H b=none→∃ sl,h'.get? b=some { o with slots:=sl }) (free:∀ b o,b ∉ ch→s.heap.get? b=some o→H b=none→H' b=none)
    (there:∀ b o,b ∉ ch→s.heap.get? b=some o→∃ o',h'.get? b=some o')
    (tups:∀ b xs,H b=some (.tup xs)→H' b=some (.tup xs)) (frzs:∀ b o u,H b=some (.frz o u)→H' b=some (.frz o u)) (tbls:∀ b ps,H b=some (.tbl ps)→∃ more,H' b=some (.tbl (ps ++ more)))
    (ns:∀ m,s.heap.Ns X.env.locals m→h'.Ns X.env.locals m) (hok:HOk X.prog X.w H' h') (hg:AllBare g') :
    Inv X pins σ H' { s with heap:=h',gens:=g',drawn:=d',toks:=t' }:=by
  have neL:∀ b o,X.s₀.heap.get? b=some o→b≠X.env.locals:=fun b o e=>Nat.ne_of_lt (Nat.lt_of_lt_of_le (Heap.lt_size e) I.ok.above)
  have neC:∀ b o,X.s₀.heap.get? b=some o→b ∉ X.ex→b ∉ ch:=fun b o e hx hb=>by
    rcases (hch b hb).1 with z | z
    · exact hx z
    · exact absurd (Nat.lt_of_lt_of_le (Heap.lt_size e) z) (Nat.lt_irrefl _)
  have cellK:∀ x c,X.env.cells.lookup x=some c→∀ v,s.heap.IsCell c v→h'.IsCell c v:=fun x c e v ⟨o,ho,hd⟩=>by
    have nch:c ∉ ch:=fun z=>(hch c z).2.2.1 x c e rfl
    by_cases hc:c∈X.fs
    · obtain ⟨sl,q⟩:=slot c o (I.cne x c e) hc nch ho (I.freeC x c e)
      exact ⟨_,q,hd⟩
    · exact ⟨o,keep c o (I.cne x c e) hc nch ho (I.freeC x c e),hd⟩
  refine ⟨I.ok,I.os,hg,⟨fun b o e n hb hx=>?_,fun b o e n hb hx=>?_,fun b o e n hx=>?_,fun b o e hx=>?_,fun b xs e=>tups b xs (I.base.tups b xs e),fun b o xs e=>frzs b o xs (I.base.frzs b o xs e),fun b ps e=>?_⟩,?_,fun x c e=>?_,?_,fun x c e=>?_,fun p hp=>?_,hok,I.len⟩
  · exact keep b o (neL b o e) hb (neC b o e hx) (I.base.keep b o e n hb hx) (I.base.free b o e n hx)
  · obtain ⟨sl,e1⟩:=I.base.slot b o e n hb hx
    obtain ⟨sl',e2⟩:=slot b _ (neL b o e) hb (neC b o e hx) e1 (I.base.free b o e n hx)
    exact ⟨sl',e2⟩
  · obtain ⟨o',e1⟩:=I.base.there b o e hx
    exact free b o' (neC b o e hx) e1 (I.base.free b o e n hx)
  · obtain ⟨o',e1⟩:=I.base.there b o e hx
    exact there b o' (neC b o e hx) e1
  · obtain ⟨m1,e1⟩:=I.base.tbls b ps e
    obtain ⟨m2,e2⟩:=tbls b _ e1
    exact ⟨m1 ++ m2,by rw [e2,Array.append_assoc]⟩
  · obtain ⟨m,hn,hl⟩:=I.loc
    refine ⟨m,ns m hn,fun i x v e1 e2 e3=>?_⟩
    obtain ⟨u,r,l⟩:=hl i x v e1 e2 e3
    refine ⟨u,r,?_⟩
    rcases l with l | ⟨k,c,e,z⟩
    · exact .inl l
    · exact .inr ⟨k,c,e,cellK x c e _ z⟩
  · obtain ⟨v,z⟩:=I.cell x c e
    exact ⟨v,cellK x c e v z⟩
  · obtain ⟨m,⟨o,_,_,ho,_⟩,_⟩:=I.loc
    exact free _ o (fun z=>(hch _ z).2.1 rfl) ho I.free
  · obtain ⟨v,o,ho,hd⟩:=I.cell x c e
    exact free c o (fun z=>(hch c z).2.2.1 x c e rfl) ho (I.freeC x c e)
  · obtain ⟨e,n,ne,nf,d⟩:=I.pin p hp
    have nch:p.1 ∉ ch:=fun z=>(hch p.1 z).2.2.2 p hp rfl
    exact ⟨keep p.1 p.2 ne nf nch e n,free p.1 p.2 nch e n,ne,nf,d⟩
theorem Inv.un {t':Nat} (I:Inv X pins σ H s) (u:Un X.fs [] H H' s.heap h') (hok:HOk X.prog X.w H' h'):Inv X pins σ H' { s with heap:=h',toks:=t' }:=by
  obtain ⟨m,⟨o,es,ep,ho,r⟩,_⟩:=id I.loc
  obtain ⟨sl,hL⟩:=u.any ho I.free (by simp)
  exact I.step (g':=s.gens) (d':=s.drawn) (ch:=[]) (fun _ z=>nomatch z) (fun b o _ hb _ e n=>u.keep b o e n hb (by simp)) (fun b o _ hb _ e n=>u.slot b o e n hb (by simp)) (fun b o _ e n=>u.free b o e n (by simp)) (fun b o _ e=>u.there b o e (by simp)) u.tups u.frzs u.tbls (fun m' hm=>by
    obtain ⟨o',es',ep',ho',r'⟩:=hm
    rw [ho] at ho';cases ho'
    exact ⟨_,es',ep',hL,r'⟩) hok I.bare
theorem Inv.call {g':Array GenState} {t':Nat} {d':Drawn} {ch:List Addr} (I:Inv X pins σ H s) (u:Un (frs X.stack) ch H H' s.heap h') (hok:HOk X.prog X.w H' h') (hg:AllBare g')
    (hch:∀ b∈ch,(b∈X.ex∨X.s₀.heap.objs.size≤b)∧b≠X.env.locals∧(∀ x c,X.env.cells.lookup x=some c→c≠b)∧∀ p∈X.pn ++ pins,p.1≠b) :
    Inv X pins σ H' { s with heap:=h',gens:=g',drawn:=d',toks:=t' }:=by
  obtain ⟨m,⟨o,es,ep,ho,r⟩,_⟩:=id I.loc
  obtain ⟨sl,hL⟩:=u.any ho I.free fun z=>(hch _ z).2.1 rfl
  exact I.step (ch:=ch) hch (fun b o hL hb hc e n=>u.keep b o e n (fun z=>(List.mem_cons.mp (I.stkSub b z)).elim hL hb) hc) (fun b o _ _ hc e n=>u.any e n hc) (fun b o hc e n=>u.free b o e n hc) (fun b o hc e=>u.there b o e hc) u.tups u.frzs u.tbls (fun m' hm=>by
    obtain ⟨o',es',ep',ho',r'⟩:=hm
    rw [ho] at ho';cases ho'
    exact ⟨_,es',ep',hL,r'⟩) hok hg
theorem Inv.turned {t':Nat} {it:Addr} (I:Inv X pins σ H s) (k:∀ b o,b≠it→s.heap.get? b=some o→h'.get? b=some o) (hn:H it=none) (hL:it≠X.env.locals)
    (h1:it∈X.ex∨X.s₀.heap.objs.size≤it) (h2:∀ x c,X.env.cells.lookup x=some c→c≠it) (h3:∀ p∈X.pn ++ pins,p.1≠it):Inv X pins σ H { s with heap:=h',toks:=t' }:=by
  have nit:∀ b u,H b=some u→b≠it:=fun b u e z=>by rw [z,hn] at e;cases e
  refine I.step (g':=s.gens) (d':=s.drawn) (ch:=[it]) (fun b hb=>?_) (fun b o _ _ hc e _=>k b o (fun z=>hc (by simp [z])) e) (fun b o _ _ hc e _=>⟨o.slots,k b o (fun z=>hc (by simp [z])) e⟩) (fun _ _ _ _ n=>n)
    (fun b o hc e=>⟨o,k b o (fun z=>hc (by simp [z])) e⟩) (fun _ _ e=>e) (fun _ _ _ e=>e) (fun b ps e=>⟨#[],by rw [e];simp⟩) (fun m hm=>?_) (fun b u e=>?_) I.bare
  · have e:b=it:=by simpa using hb
    subst e
    exact ⟨h1,hL,h2,h3⟩
  · obtain ⟨o,es,ep,ho,r⟩:=hm
    exact ⟨o,es,ep,k _ o (Ne.symm hL) ho,r⟩
  · refine (I.hok b u e).stay (fun c v hc q=>k c v ?_ q) (fun _ q=>q) fun _ _ q=>q
    rcases hc with z | z
    · rw [z];exact nit b u e
    · exact nit c _ z
theorem Inv.tok (I:Inv X pins σ H s) (t:Nat):Inv X pins σ H { s with toks:=t }:=I.un (h':=s.heap) (t':=t) Un.refl I.hok
theorem Inv.kept {t':Nat} (I:Inv X pins σ H s) (k:∀ b u,s.heap.get? b=some u→h'.get? b=some u):Inv X pins σ H { s with heap:=h',toks:=t' }:=I.un (Un.kept k) (I.hok.kept k)
theorem Inv.laid {a:Addr} {o:HO} {t':Nat} (I:Inv X pins σ H s) (k:∀ b u,s.heap.get? b=some u→h'.get? b=some u) (hp:s.heap.objs.size≤a) (new:ObjOk X.prog X.w (upd H a o) h' a o) :
    Inv X pins σ (upd H a o) { s with heap:=h',toks:=t' }:=I.un (Un.laid k hp (I.hok.fresh hp)) (I.hok.laid k hp new)
theorem Inv.write {x e:Addr} {o:HO} {t':Nat} (I:Inv X pins σ H s) (mu:Mut (H x)) (he:e=x∨H e=some (.own x)) (k:∀ b u,b≠e→s.heap.get? b=some u→h'.get? b=some u) (heo:∃ u,h'.get? e=some u)
    (new:ObjOk X.prog X.w (upd H x o) h' x o):Inv X pins σ (upd H x o) { s with heap:=h',toks:=t' }:=I.un (Un.write mu he k heo) (I.hok.write mu he k heo new)
theorem Inv.pins_of {pins':List (Addr × Obj)} (I:Inv X pins σ H s) (h:∀ p∈pins',s.heap.get? p.1=some p.2∧H p.1=none∧p.1≠X.env.locals∧p.1 ∉ X.fs∧∀ v,p.2.data≠.cell v):Inv X pins' σ H s :=
  ⟨I.ok,I.os,I.bare,I.base,I.loc,I.cell,I.free,I.freeC,fun p hp=>(List.mem_append.mp hp).elim (fun z=>I.pin p (List.mem_append_left _ z)) (h p),I.hok,I.len⟩
theorem nodup_ix {N:List Str} (hN:N.Nodup) {i j:Nat} {x:Str} (a:N[i]?=some x) (b:N[j]?=some x):i=j:=by
  obtain ⟨h1,e1⟩:=List.getElem?_eq_some_iff.mp a
  obtain ⟨h2,e2⟩:=List.getElem?_eq_some_iff.mp b
  exact (List.getElem_inj hN).mp (e1.trans e2.symm)
theorem store_ok2 {M:Model} {A:Around} {E:Value→Shared→Prop} {i:Nat} {x:Str} {v:V} {u:Value} {Q:Unit→Shared→Prop} (I:Inv X pins σ H s) (hN:X.N.Nodup) (hi:X.N[i]?=some x) (hx:Loc X.env.scope x) (r:RelV v u)
    (h:∀ s',Inv X pins (σ.set i (some v)) H s'→(∃ a,Heap.SameBut a s.heap s'.heap∧(a=X.env.locals∨X.env.cells.lookup x=some a))→Q () s') (hf:X.fn x=true∨X.env.scope.names.lookup x=some .local:=by first | exact .inl rfl | exact .inr rfl | assumption):wpAny M A (storeName X.env x u) Q E s:=by
  obtain ⟨m,hn,hl⟩:=id I.loc
  have hcls:(X.env.scope.kind == .class || (X.env.scope.kind == .module && X.env.locals != X.env.globals))=false:=by rw [I.ok.kind];rfl
  have hiσ:i < σ.length:=by rw [I.len];exact (List.getElem?_eq_some_iff.mp hi).1
  have cne:=I.cne
  have tracked:∀ {a:Addr} {h':Heap},(∃ o,s.heap.get? a=some o∧H a=none)→Heap.SameBut a s.heap h'→HOk X.prog X.w H h':=fun {a h'} ha hs b ob e=>by
    obtain ⟨_,_,hfree⟩:=ha
    refine (I.hok b ob e).stay (fun c w' hc q=>(hs.2 c ?_).trans q) (fun _ q=>q) fun _ _ q=>q
    rintro rfl
    rcases hc with rfl | hc
    · rw [hfree] at e;cases e
    · rw [hfree] at hc;cases hc
  rcases hx with hk | hk
  · refine wpAny_storeName_local hk hn (fun h' hn' hs=>?_) hcls
    obtain ⟨oL,_,_,hoL,_⟩:=id hn
    refine h _ ⟨I.ok,I.os,I.bare,⟨fun b o e n hb hx=>?_,fun b o e n hb hx=>?_,I.base.free,fun b o e hx=>?_,I.base.tups,I.base.frzs,I.base.tbls⟩,⟨_,hn',fun j y v' e1 e2 e3=>?_⟩,fun y c e=>?_,I.free,I.freeC,fun p hp=>?_,tracked ⟨oL,hoL,I.free⟩ hs,by simpa using I.len⟩ ⟨_,hs,.inl rfl⟩
    · exact (hs.2 b (Nat.ne_of_lt (Nat.lt_of_lt_of_le (Heap.lt_size e) I.ok.above))).trans (I.base.keep b o e n hb hx)
    · obtain ⟨sl,e1⟩:=I.base.slot b o e n hb hx
      exact ⟨sl,(hs.2 b (Nat.ne_of_lt (Nat.lt_of_lt_of_le (Heap.lt_size e) I.ok.above))).trans e1⟩
    · obtain ⟨o',e1⟩:=I.base.there b o e hx
      exact ⟨o',(hs.2 b (Nat.ne_of_lt (Nat.lt_of_lt_of_le (Heap.lt_size e) I.ok.above))).trans e1⟩
    · by_cases hj:j=i
      · subst hj
        rw [hi] at e1;cases e1
        rw [List.getElem?_set_self hiσ] at e2
        cases e2
        exact ⟨u,r,.inl ⟨hk,by simp⟩⟩
      · rw [List.getElem?_set_ne (Ne.symm hj)] at e2
        obtain ⟨u',r',q⟩:=hl j y v' e1 e2 e3
        refine ⟨u',r',?_⟩
        rcases q with ⟨k,e⟩ | ⟨k,c,e,z⟩
        · refine .inl ⟨k,?_⟩
          have:y≠x:=fun e=>hj (nodup_ix hN e1 (e ▸ hi))
          simp [this,e]
        · exact .inr ⟨k,c,e,z.sameBut hs (cne y c e)⟩
    · obtain ⟨w',z⟩:=I.cell y c e
      exact ⟨w',z.sameBut hs (cne y c e)⟩
    · obtain ⟨e,n,ne,nf,d⟩:=I.pin p hp
      exact ⟨(hs.2 p.1 ne).trans e,n,ne,nf,d⟩
  · have hfn:X.fn x=true:=by
      rcases hf with z | z
      · exact z
      · rw [z] at hk;cases hk
    obtain ⟨c,hc⟩:=I.ok.has x (.inl hk)
    obtain ⟨w',z⟩:=I.cell x c hc
    refine wpAny_storeName_cell I.ok.kind hk hc z (fun h' hc' hs=>?_)
    obtain ⟨oc,hoc,hocd⟩:=id z
    refine h { s with heap:=h' } ⟨I.ok,I.os,I.bare,⟨fun b o e n hb hx=>?_,fun b o e n hb hx=>?_,I.base.free,fun b o e hx=>?_,I.base.tups,I.base.frzs,I.base.tbls⟩,⟨m,hn.sameBut hs (Ne.symm (cne x c hc)),fun j y v' e1 e2 e3=>?_⟩,fun y c' e=>?_,I.free,I.freeC,fun p hp=>?_,tracked ⟨oc,hoc,I.freeC x c hc⟩ hs,by simpa using I.len⟩ ⟨c,hs,.inr hc⟩
    · exact (hs.2 b (Nat.ne_of_lt (Nat.lt_of_lt_of_le (Heap.lt_size e) (I.ok.cab x c hfn hc)))).trans (I.base.keep b o e n hb hx)
    · obtain ⟨sl,e1⟩:=I.base.slot b o e n hb hx
      exact ⟨sl,(hs.2 b (Nat.ne_of_lt (Nat.lt_of_lt_of_le (Heap.lt_size e) (I.ok.cab x c hfn hc)))).trans e1⟩
    · obtain ⟨o',e1⟩:=I.base.there b o e hx
      exact ⟨o',(hs.2 b (Nat.ne_of_lt (Nat.lt_of_lt_of_le (Heap.lt_size e) (I.ok.cab x c hfn hc)))).trans e1⟩
    · by_cases hj:j=i
      · subst hj
        rw [hi] at e1;cases e1
        rw [List.getElem?_set_self hiσ] at e2
        cases e2
        exact ⟨u,r,.inr ⟨.inl hk,c,hc,hc'⟩⟩
      · rw [List.getElem?_set_ne (Ne.symm hj)] at e2
        obtain ⟨u',r',q⟩:=hl j y v' e1 e2 e3
        refine ⟨u',r',?_⟩
        rcases q with q | ⟨k,c',e,z'⟩
        · exact .inl q
        · refine .inr ⟨k,c',e,z'.sameBut hs ?_⟩
          rintro rfl
          exact hj (nodup_ix hN e1 (I.ok.inj _ _ _ e hc ▸ hi))
    · by_cases hcc:c'=c
      · subst hcc;exact ⟨_,hc'⟩
      · obtain ⟨w2,z2⟩:=I.cell y c' e
        exact ⟨w2,z2.sameBut hs hcc⟩
    · obtain ⟨e,n,ne,nf,d⟩:=I.pin p hp
      refine ⟨(hs.2 p.1 ?_).trans e,n,ne,nf,d⟩
      intro q
      rw [q,hoc] at e
      have q':oc=p.2:=Option.some.inj e
      exact d w' (by rw [← q'];exact hocd)
theorem store_ok {M:Model} {A:Around} {E:Value→Shared→Prop} {i:Nat} {x:Str} {v:V} {u:Value} {Q:Unit→Shared→Prop} (I:Inv X pins σ H s) (hN:X.N.Nodup) (hi:X.N[i]?=some x) (hx:Loc X.env.scope x) (r:RelV v u)
    (h:∀ s',Inv X pins (σ.set i (some v)) H s'→Q () s') (hf:X.fn x=true∨X.env.scope.names.lookup x=some .local:=by first | exact .inl rfl | exact .inr rfl | assumption):wpAny M A (storeName X.env x u) Q E s :=
  store_ok2 I hN hi hx r (fun s' I' _=>h s' I') hf
theorem Inv.call' {s':Shared} {ch:List Addr} (I:Inv X pins σ H s) (ho:s'.os=s.os) (u:Un (frs X.stack) ch H H' s.heap s'.heap) (hok:HOk X.prog X.w H' s'.heap) (hg:AllBare s'.gens)
    (hch:∀ b∈ch,(b∈X.ex∨X.s₀.heap.objs.size≤b)∧b≠X.env.locals∧(∀ x c,X.env.cells.lookup x=some c→c≠b)∧∀ p∈X.pn ++ pins,p.1≠b):Inv X pins σ H' s':=by
  obtain ⟨h',g',d',t',o'⟩:=s'
  have e:o'=s.os:=ho
  subst e
  exact I.call (g':=g') (t':=t') (d':=d') u hok hg hch
end
abbrev XK:=Value→Option Addr→Hp→Prop
abbrev St:=List (Option V)
abbrev VK:=V→Hp→Prop
abbrev TE:=St→Hp→VK→Prop
abbrev TT:=St→Hp→(Bool→Hp→Prop)→Prop
abbrev TA:=St→Hp→(List V→Hp→Prop)→Prop
set_option genSizeOf false in
set_option genInjectivity false in
structure Ends where
  nx:St→Hp→Prop
  rt:VK
  bk:St→Hp→Prop:=fun _ _=>False
  ct:St→Hp→Prop:=fun _ _=>False
abbrev TS:=Ends→St→Hp→Prop
def EP (X:Cx) (pins:List (Addr × Obj)) (σ:St) (Q:VK) (u:Value) (s':Shared):Prop:=∃ v H',Inv X pins σ H' s'∧RelV v u∧Q v H'
def TP (X:Cx) (pins:List (Addr × Obj)) (σ:St) (Q:Bool→Hp→Prop) (b:Bool) (s':Shared):Prop:=∃ H',Inv X pins σ H' s'∧Q b H'
def AP (X:Cx) (pins:List (Addr × Obj)) (σ:St) (Q:List V→Hp→Prop) (us:List Value) (s':Shared):Prop:=∃ vs H',Inv X pins σ H' s'∧Vals vs us∧Q vs H'
def SP (X:Cx) (pins:List (Addr × Obj)) (D:Ends) (f:Flow) (s':Shared):Prop :=
  match f with
  | .next=>∃ σ' H',Inv X pins σ' H' s'∧D.nx σ' H'
  | .brk=>∃ σ' H',Inv X pins σ' H' s'∧D.bk σ' H'
  | .cont=>∃ σ' H',Inv X pins σ' H' s'∧D.ct σ' H'
  | .ret u=>∃ v σ' H',Inv X pins σ' H' s'∧RelV v u∧D.rt v H'
def PE (X:Cx) (e:Expr) (t:TE):Prop :=
  ∀ (pins:List (Addr × Obj)) (s:Shared) (σ:St) (H:Hp) (Q:VK),Inv X pins σ H s→t σ H Q→wpAny (model X.prog X.w) X.A (eval e X.env) (EP X pins σ Q) X.xe s
def PT (X:Cx) (e:Expr) (t:TT):Prop :=
  ∀ (pins:List (Addr × Obj)) (s:Shared) (σ:St) (H:Hp) (Q:Bool→Hp→Prop),Inv X pins σ H s→t σ H Q→wpAny (model X.prog X.w) X.A (isTrue e X.env (eval e X.env)) (TP X pins σ Q) X.xe s
def PW (X:Cx) (e:Expr) (t:TT):Prop :=
  ∀ (whole:Sem Value) (pins:List (Addr × Obj)) (s:Shared) (σ:St) (H:Hp) (Q:Bool→Hp→Prop),Inv X pins σ H s→t σ H Q→wpAny (model X.prog X.w) X.A (isTrue e X.env whole) (TP X pins σ Q) X.xe s
theorem PW.pt {X:Cx} {e:Expr} {t:TT} (h:PW X e t):PT X e t:=h _
def PA (X:Cx) (es:List Expr) (t:TA):Prop :=
  ∀ (pos:Pos) (pins:List (Addr × Obj)) (s:Shared) (σ:St) (H:Hp) (Q:List V→Hp→Prop),Inv X pins σ H s→t σ H Q→wpAny (model X.prog X.w) X.A (spliced (backTo pos (starEach es X.env))) (AP X pins σ Q) X.xe s
def PS (X:Cx) (st:Stmt) (t:TS):Prop :=
  ∀ (pins:List (Addr × Obj)) (s:Shared) (σ:St) (H:Hp) (D:Ends),Inv X pins σ H s→t D σ H→wpAny (model X.prog X.w) X.A (exec st X.env) (SP X pins D) X.xe s
def PSs (X:Cx) (st:List Stmt) (t:TS):Prop :=
  ∀ (pins:List (Addr × Obj)) (s:Shared) (σ:St) (H:Hp) (D:Ends),Inv X pins σ H s→t D σ H→wpAny (model X.prog X.w) X.A (execs st X.env) (SP X pins D) X.xe s
theorem thn {α:Type} {t:Sem α} {Q Q':α→Shared→Prop} {M:Model} {A:Around} {E:Value→Shared→Prop} {s:Shared} (h:wpAny M A t Q E s) (hQ:∀ a s,Q a s→Q' a s):wpAny M A t Q' E s:=wpAny_mono h hQ fun _ _ x=>x
end L2
namespace L2
open PySem PySem.Spec PyProof.Rows
section
variable {X:Cx}
def tVar (i:Nat):TE:=fun σ H Q=>∃ v,σ[i]?=some (some v)∧Q v H
def tC (v:V):TE:=fun _ H Q=>Q v H
theorem pe_var {i:Nat} {x:Str} {pos:Pos} (hN:X.N[i]?=some x) (hv:Vis X.env.scope x) (hd:(x == ("__debug__":Str))=false:=by decide) (hcd:(x == ("__classdict__":Str))=false:=by decide):PE X (.Name x pos) (tVar i):=by
  intro pins s σ H Q I h
  obtain ⟨v,e,h⟩:=h
  obtain ⟨m,hn,hl⟩:=I.loc
  obtain ⟨u,r,l⟩:=hl i x v hN e hv
  have fin:EP X pins σ Q u s:=⟨v,H,I,r,h⟩
  rcases l with ⟨hk,hm⟩ | ⟨hk,c,hc,hcell⟩
  · exact wpAny_Name (wpAny_loadName_local I.ok.kind hk hn hm fin) hd
  · rcases hk with hk | hk
    · exact wpAny_Name (wpAny_loadName_cell I.ok.kind hk hc hcell fin) hd
    · exact wpAny_Name (wpAny_loadName_free I.ok.kind hk hc hcell fin hcd) hd
theorem pe_int {i j pos}:PE X (.Constant (.int i) j pos) (tC (.int i)):=fun _ _ _ H _ I h=>wpAny_Constant_int ⟨.int i,H,I.tok _,⟨_,rfl⟩,h⟩
theorem pe_bl {b j pos}:PE X (.Constant (.bool b) j pos) (tC (.bl b)):=fun _ _ _ H _ I h=>Constant_bool ⟨.bl b,H,I,rfl,h⟩
theorem pe_non {j pos}:PE X (.Constant .none j pos) (tC .non):=fun _ _ _ H _ I h=>Constant_none ⟨.non,H,I,rfl,h⟩
theorem pe_str {x j pos}:PE X (.Constant (.str x) j pos) (tC (.str x)):=fun _ _ _ H _ I h=>Calls.Constant_str ⟨.str x,H,I.tok _,⟨_,rfl⟩,h⟩
def Gl (X:Cx) (x:Str):Prop:=X.env.kindOf x=some .globalImplicit
theorem ld_glob {E:Value→Shared→Prop} {pins:List (Addr × Obj)} {s:Shared} {σ:St} {H:Hp} {x:Str} {u:Value} {pos:Pos} {Q:Value→Shared→Prop} (I:Inv X pins σ H s) (hg:Gl X x) (hm:X.mg x=some u) (h:Q u s)
    (hd:(x == ("__debug__":Str))=false:=by decide):wpAny (model X.prog X.w) X.A (eval (.Name x pos) X.env) Q E s :=
  Calls.Name_function_global I.ok.kind hg (Calls.loadGlobal_global (by rw [I.ok.glob];exact I.mod.glob.keeps I.bk) hm h) hd
theorem ld_blt {E:Value→Shared→Prop} {pins:List (Addr × Obj)} {s:Shared} {σ:St} {H:Hp} {x:Str} {u:Value} {pos:Pos} {Q:Value→Shared→Prop} (I:Inv X pins σ H s) (hg:Gl X x) (hm:X.mg x=none) (hv:bootBuiltins x=some u) (h:Q u s)
    (hn:x≠"__name__":=by decide) (hd:(x == ("__debug__":Str))=false:=by decide):wpAny (model X.prog X.w) X.A (eval (.Name x pos) X.env) Q E s:=by
  obtain ⟨mb,h1,h2⟩:=I.mod.blt
  exact Calls.Name_function_global I.ok.kind hg (Calls.loadGlobal_builtin (by rw [I.ok.glob];exact I.mod.glob.keeps I.bk) hm (by rw [I.ok.blt];exact h1.keeps I.bk) ((h2 x hn).trans hv) h) hd
theorem pe_glob {x:Str} {v:V} {u:Value} {pos:Pos} (hg:Gl X x) (hm:X.mg x=some u) (r:RelV v u) (hd:(x == ("__debug__":Str))=false:=by decide):PE X (.Name x pos) (tC v) :=
  fun _ _ _ H _ I h=>ld_glob I hg hm ⟨v,H,I,r,h⟩ hd
theorem pe_bltn {x:Str} {v:V} {u:Value} {pos:Pos} (hg:Gl X x) (hm:X.mg x=none) (hv:bootBuiltins x=some u) (r:RelV v u) (hn:x≠"__name__":=by decide) (hd:(x == ("__debug__":Str))=false:=by decide):PE X (.Name x pos) (tC v) :=
  fun _ _ _ H _ I h=>ld_blt I hg hm hv ⟨v,H,I,r,h⟩ hn hd
variable {a b:Expr} {ta tb:TE} {pos:Pos}
def tB (t:TE):TT:=fun σ H Q=>t σ H fun x H1=>∃ c,x=.bl c∧Q c H1
theorem pt_val {e:Expr} {t:TE} (h:PE X e t) (he:∀ whole,isTrue e X.env whole=(do let v ← whole;standAt e.pos;holding [v] (truthy v)):=by intro _;rfl):PT X e (tB t):=by
  intro pins s σ H Q I hw
  refine isTrue_plain (thn (h pins s σ H _ I hw) fun v s1 ⟨x,H1,I1,r1,q1⟩=>?_) (he _)
  obtain ⟨d,rfl,q⟩:=q1
  cases r1
  exact wpAny_truthy_bool ⟨H1,I1,q⟩
variable {tA tB':TT} {rest:List Expr}
def tAnd (t u:TT):TT:=fun σ H Q=>t σ H fun c H1=>if c=true then u σ H1 Q else Q false H1
def tOr (t u:TT):TT:=fun σ H Q=>t σ H fun c H1=>if c=true then Q true H1 else u σ H1 Q
def tNot (t:TT):TT:=fun σ H Q=>t σ H fun c H1=>Q (!c) H1
theorem pw_or1 (ha:PT X a tA):PW X (.BoolOp .Or [a] pos) tA:=by
  intro wh pins s σ H Q I h
  refine isTrue_or (thn (ha pins s σ H Q I h) fun c s1 e=>?_)
  cases c with
  | false=>exact isTrue_or_nil e
  | true=>exact e
theorem pw_or (ha:PT X a tA) (hb:PW X (.BoolOp .Or (b :: rest) pos) tB'):PW X (.BoolOp .Or (a :: b :: rest) pos) (tOr tA tB'):=by
  intro wh pins s σ H Q I h
  refine isTrue_or (thn (ha pins s σ H _ I h) fun c s1 ⟨H1,I1,q1⟩=>?_)
  cases c with
  | true=>exact ⟨H1,I1,q1⟩
  | false=>exact hb wh pins s1 σ H1 Q I1 q1
theorem pt_not (ha:PT X a tA):PT X (.UnaryOp .Not a pos) (tNot tA):=by
  intro pins s σ H Q I h
  exact isTrue_not (ha pins s σ H (fun c H1=>Q (!c) H1) I h)
def tAndV (ta tb:TE):TE:=fun σ H Q=>ta σ H fun x H1=>∃ c,x=.bl c∧if c=true then tb σ H1 Q else Q (.bl false) H1
def tOrV (ta tb:TE):TE:=fun σ H Q=>ta σ H fun x H1=>∃ c,x=.bl c∧if c=true then Q (.bl true) H1 else tb σ H1 Q
def tNotV (ta:TE):TE:=fun σ H Q=>ta σ H fun x H1=>∃ c,x=.bl c∧Q (.bl (!c)) H1
theorem pe_one {op} {t:TE} (h:PE X a t):PE X (.BoolOp op [a] pos) t:=fun pins s σ H Q I hw=>BoolOp_one (h pins s σ H Q I hw)
theorem pe_and (ha:PE X a ta) (hb:PE X (.BoolOp .And (b :: rest) pos) tb):PE X (.BoolOp .And (a :: b :: rest) pos) (tAndV ta tb):=by
  intro pins s σ H Q I h
  refine BoolOp_and (thn (ha pins s σ H _ I h) fun v s1 ⟨x,H1,I1,r1,q1⟩=>?_)
  obtain ⟨c,rfl,q1⟩:=q1
  cases r1
  refine wpAny_truthy_bool ?_
  cases c with
  | true=>exact hb pins s1 σ H1 Q I1 q1
  | false=>exact ⟨.bl false,H1,I1,rfl,q1⟩
theorem pe_or (ha:PE X a ta) (hb:PE X (.BoolOp .Or (b :: rest) pos) tb):PE X (.BoolOp .Or (a :: b :: rest) pos) (tOrV ta tb):=by
  intro pins s σ H Q I h
  refine BoolOp_or (thn (ha pins s σ H _ I h) fun v s1 ⟨x,H1,I1,r1,q1⟩=>?_)
  obtain ⟨c,rfl,q1⟩:=q1
  cases r1
  refine wpAny_truthy_bool ?_
  cases c with
  | false=>exact hb pins s1 σ H1 Q I1 q1
  | true=>exact ⟨.bl true,H1,I1,rfl,q1⟩
theorem pe_not (ha:PE X a ta):PE X (.UnaryOp .Not a pos) (tNotV ta):=by
  intro pins s σ H Q I h
  refine UnaryOp_ (thn (ha pins s σ H _ I h) fun v s1 ⟨x,H1,I1,r1,q1⟩=>?_)
  obtain ⟨c,rfl,q1⟩:=q1
  cases r1
  exact not_of (wpAny_truthy_bool ⟨.bl (!c),H1,I1,rfl,q1⟩)
def tIf (t:TT) (ta tb:TE):TE:=fun σ H Q=>t σ H fun c H1=>if c=true then ta σ H1 Q else tb σ H1 Q
theorem pe_ifExp {c:Expr} (hc:PT X c tA) (ha:PE X a ta) (hb:PE X b tb):PE X (.IfExp c a b pos) (tIf tA ta tb):=by
  intro pins s σ H Q I h
  refine wpAny_IfExp (thn (hc pins s σ H _ I h) fun d s1 ⟨H1,I1,q1⟩=>?_)
  cases d with
  | true=>exact ha pins s1 σ H1 Q I1 q1
  | false=>exact hb pins s1 σ H1 Q I1 q1
end
end L2
namespace L2
open PySem PySem.Spec PyProof.Rows
def SqL (K:PySem.W.Frag) (H:Hp) (a:Addr) (xs:List V):Prop :=
  Rd H a (.lst xs) ∨
    ∃ (o:Obj) (its:Array Value) (n:Nat),K.lookup a=some o∧o.cls=.type "list"∧o.dict=none∧o.data=.seq its n∧its.size≤sizeLine∧Vals xs its.toList
def SqT (K:PySem.W.Frag) (H:Hp) (a:Addr) (xs:List V):Prop :=
  Rd H a (.tup xs) ∨
    ∃ (o:Obj) (its:Array Value) (n:Nat),K.lookup a=some o∧o.cls=.type "tuple"∧o.data=.seq its n∧its.size≤sizeLine∧Vals xs its.toList
def absV:Value→Option V
  | .none=>some .non
  | .bool b=>some (.bl b)
  | .int i _=>some (.int i)
  | .str x _=>some (.str x)
  | .bytes b _=>some (.byt b)
  | .float b _=>some (.flt b)
  | .ref a=>some (.ref a)
  | .type n=>some (.ty n)
  | _=>none
theorem RelV.abs {x:V} {u:Value} (r:RelV x u):absV u=some x:=by
  cases x with
  | non=>cases r;rfl
  | bl _=>cases r;rfl
  | int _=>obtain ⟨t,rfl⟩:=r;rfl
  | str _=>obtain ⟨t,rfl⟩:=r;rfl
  | byt _=>obtain ⟨t,rfl⟩:=r;rfl
  | flt _=>obtain ⟨t,rfl⟩:=r;rfl
  | ref _=>cases r;rfl
  | ty _=>cases r;rfl
theorem RelV.inj {x y:V} {u:Value} (r:RelV x u) (q:RelV y u):x=y:=Option.some.inj (r.abs.symm.trans q.abs)
theorem Vals.inj:∀ {xs ys:List V} {us:List Value},Vals xs us→Vals ys us→xs=ys
  | _,_,_,.nil,.nil=>rfl
  | _,_,_,.cons r t,.cons r' t'=>by rw [r.inj r',Vals.inj t t']
section
variable {X:Cx} {pins:List (Addr × Obj)} {σ:St} {H:Hp} {s:Shared} {a:Addr} {xs ys:List V}
theorem SqL.of {K:PySem.W.Frag} (h:H a=some (.lst xs)):SqL K H a xs:=.inl (.inl h)
theorem SqT.of {K:PySem.W.Frag} (h:H a=some (.tup xs)):SqT K H a xs:=.inl (.inl h)
theorem Inv.list (I:Inv X pins σ H s) (h:SqL X.K H a xs):∃ its:List Value,Vals xs its∧PlainL s.heap a its.toArray∧xs.length≤sizeLine:=by
  rcases h with h | ⟨o,its,n,hk,hc,hd,hs,hz,r⟩
  · obtain ⟨z,its,n,r,e⟩:=h.ok I.hok
    exact ⟨its,r,⟨_,n,e,rfl,rfl,rfl⟩,z⟩
  · refine ⟨its.toList,r,⟨o,n,I.kIn a o hk,hc,hd,by simpa using hs⟩,?_⟩
    have e:=r.length
    simp only [Array.length_toList] at e
    omega
theorem Inv.tuple (I:Inv X pins σ H s) (h:SqT X.K H a xs):∃ its:List Value,Vals xs its∧IsTup s.heap a its.toArray∧xs.length≤sizeLine:=by
  rcases h with h | ⟨o,its,n,hk,hc,hs,hz,r⟩
  · obtain ⟨z,its,r,p⟩:=h.ok I.hok
    exact ⟨its,r,p,z⟩
  · refine ⟨its.toList,r,⟨o,I.kIn a o hk,hc,n,by simpa using hs⟩,?_⟩
    have e:=r.length
    simp only [Array.length_toList] at e
    omega
theorem Inv.list_inj (I:Inv X pins σ H s) (h:SqL X.K H a xs) (h':SqL X.K H a ys):xs=ys:=by
  obtain ⟨its,r,⟨o,n,e,_,_,d⟩,_⟩:=I.list h
  obtain ⟨its',r',⟨o',n',e',_,_,d'⟩,_⟩:=I.list h'
  rw [e] at e';cases e'
  rw [d] at d'
  injection d' with d1 _
  have:its=its':=by simpa using congrArg Array.toList d1
  subst this
  exact r.inj r'
theorem Inv.tuple_inj (I:Inv X pins σ H s) (h:SqT X.K H a xs) (h':SqT X.K H a ys):xs=ys:=by
  obtain ⟨its,r,⟨o,e,_,n,d⟩,_⟩:=I.tuple h
  obtain ⟨its',r',⟨o',e',_,n',d'⟩,_⟩:=I.tuple h'
  rw [e] at e';cases e'
  rw [d] at d'
  injection d' with d1 _
  have:its=its':=by simpa using congrArg Array.toList d1
  subst this
  exact r.inj r'
end
abbrev Cx.wish (X:Cx) (E:Value→Shared→Prop):Cx:={ X with xe:=E }
abbrev Cx.nox (X:Cx):Cx:=X.wish fun _ _=>False
theorem Cx.Ok.wish {X:Cx} (ok:X.Ok) (E:Value→Shared→Prop):(X.wish E).Ok :=
  ⟨ok.mod,ok.kind,ok.glob,ok.blt,ok.above,ok.inj,ok.has,ok.cab,ok.hd,ok.frames,ok.stk,ok.exf,ok.bs,ok.bsz,ok.noex,ok.exfs,ok.funs,ok.frf⟩
theorem Cx.Ok.unwish {X:Cx} {E:Value→Shared→Prop} (ok:(X.wish E).Ok):X.Ok :=
  ⟨ok.mod,ok.kind,ok.glob,ok.blt,ok.above,ok.inj,ok.has,ok.cab,ok.hd,ok.frames,ok.stk,ok.exf,ok.bs,ok.bsz,ok.noex,ok.exfs,ok.funs,ok.frf⟩
section
variable {X:Cx} {pins:List (Addr × Obj)} {σ:St} {H:Hp} {s:Shared} {E:Value→Shared→Prop}
theorem Inv.wish (I:Inv X pins σ H s) (E:Value→Shared→Prop):Inv (X.wish E) pins σ H s:=⟨I.ok.wish E,I.os,I.bare,I.base,I.loc,I.cell,I.free,I.freeC,I.pin,I.hok,I.len⟩
theorem Inv.unwish (I:Inv (X.wish E) pins σ H s):Inv X pins σ H s:=⟨I.ok.unwish,I.os,I.bare,I.base,I.loc,I.cell,I.free,I.freeC,I.pin,I.hok,I.len⟩
theorem SP.unwish {D:Ends} {f:Flow} {s':Shared} (h:SP (X.wish E) pins D f s'):SP X pins D f s':=by
  cases f with
  | next=>obtain ⟨σ',H',I,q⟩:=h;exact ⟨σ',H',I.unwish,q⟩
  | brk=>obtain ⟨σ',H',I,q⟩:=h;exact ⟨σ',H',I.unwish,q⟩
  | cont=>obtain ⟨σ',H',I,q⟩:=h;exact ⟨σ',H',I.unwish,q⟩
  | ret u=>obtain ⟨v,σ',H',I,r,q⟩:=h;exact ⟨v,σ',H',I.unwish,r,q⟩
theorem PSs.nox {st:List Stmt} {t:TS} (h:PSs X.nox st t):PSs X st t:=fun pins s σ H D I hw =>
  wpAny_mono (h pins s σ H D (I.wish _) hw) (fun _ _ q=>q.unwish) fun _ _ z=>False.elim z
end
section
variable {X:Cx} {st:Stmt} {rest:List Stmt} {t u:TS} {e:Expr} {te:TE} {pos:Pos}
def tNext:TS:=fun D σ H=>D.nx σ H
def tSeq (t u:TS):TS:=fun D σ H=>t { D with nx:=u D } σ H
theorem pss_nil:PSs X [] tNext:=fun _ _ σ H _ I h=>wpAny_execs_nil ⟨σ,H,I,h⟩
theorem pss_cons (h1:PS X st t) (h2:PSs X rest u):PSs X (st :: rest) (tSeq t u):=by
  intro pins s σ H D I h
  refine wpAny_execs_cons (thn (h1 pins s σ H { D with nx:=u D } I h) fun f s1 q=>?_)
  cases f with
  | next =>
    obtain ⟨σ',H',I',q⟩:=q
    exact h2 pins s1 σ' H' D I' q
  | ret v=>exact q
  | brk=>exact q
  | cont=>exact q
theorem pss_one (h1:PS X st t):PSs X [st] t:=by
  intro pins s σ H D I h
  refine wpAny_execs_cons (thn (h1 pins s σ H D I h) fun f s1 q=>?_)
  cases f with
  | next=>exact wpAny_execs_nil q
  | ret v=>exact q
  | brk=>exact q
  | cont=>exact q
theorem Inv.quiet {pins:List (Addr × Obj)} {σ:St} {H:Hp} {s:Shared} (I:Inv X pins σ H s):interactive X.env=false:=by simp [interactive,I.ok.kind]
def tDrop (te:TE):TS:=fun D σ H=>te σ H fun _ H1=>D.nx σ H1
theorem ps_expr (he:PE X e te) (hs:swapsWith e none pos.line X.env=pure false:=by rfl):PS X (.Expr e pos) (tDrop te):=by
  intro pins s σ H D I h
  exact wpAny_Expr_any (thn (he pins s σ H _ I h) fun v s1 ⟨x,H1,I1,r1,q1⟩=>⟨σ,H1,I1,q1⟩) I.quiet hs
def tRet (te:TE):TS:=fun D σ H=>te σ H D.rt
theorem ps_ret (he:PE X e te):PS X (.Return (some e) pos) (tRet te):=by
  intro pins s σ H D I h
  exact wpAny_Return_some (thn (he pins s σ H _ I h) fun v s1 ⟨x,H1,I1,r1,q1⟩=>⟨x,σ,H1,I1,r1,q1⟩)
def tRetN:TS:=fun D _ H=>D.rt .non H
theorem ps_retN:PS X (.Return none pos) tRetN:=fun _ _ σ H _ I h=>wpAny_Return_none ⟨.non,σ,H,I,rfl,h⟩
def tIfS (c:TT) (t u:TS):TS:=fun D σ H=>c σ H fun b H1=>if b=true then t D σ H1 else u D σ H1
theorem ps_if {c:Expr} {a b:List Stmt} {tc:TT} (hc:PT X c tc) (ha:PSs X a t) (hb:PSs X b u):PS X (.If c a b pos) (tIfS tc t u):=by
  intro pins s σ H D I h
  refine wpAny_If (thn (hc pins s σ H _ I h) fun d s1 ⟨H1,I1,q1⟩=>?_)
  cases d with
  | true=>exact ha pins s1 σ H1 D I1 q1
  | false=>exact hb pins s1 σ H1 D I1 q1
def tNever:TS:=fun _ _ _=>False
end
abbrev TG:=V→St→Hp→(St→Hp→Prop)→Prop
abbrev TGs:=List V→St→Hp→(St→Hp→Prop)→Prop
def PG (X:Cx) (target:Expr) (t:TG):Prop :=
  ∀ (pins:List (Addr × Obj)) (s:Shared) (σ:St) (H:Hp) (v:V) (u:Value) (Q:St→Hp→Prop),Inv X pins σ H s→RelV v u→t v σ H Q →
    wpAny (model X.prog X.w) X.A (assign target X.env u) (fun _ s'=>∃ σ' H',Inv X pins σ' H' s'∧Q σ' H') X.xe s
abbrev TIp:=V→V→Hp→VK→Prop
section
variable {X:Cx} {pos:Pos}
def gName (i:Nat):TG:=fun v σ H Q=>Q (σ.set i (some v)) H
theorem pg_name {i:Nat} {x:Str} (hN:X.N.Nodup) (hi:X.N[i]?=some x) (hx:Loc X.env.scope x) (hf:X.fn x=true∨X.env.scope.names.lookup x=some .local:=by first | exact .inl rfl | exact .inr rfl | assumption):PG X (.Name x pos) (gName i):=by
  intro pins s σ H v u Q I r h
  exact wpAny_assign_Name (store_ok I hN hi hx r (fun s' I'=>⟨_,H,I',h⟩) hf)
def gNil:TGs:=fun vs σ H Q=>vs=[]∧Q σ H
def gCons (t:TG) (u:TGs):TGs:=fun vs σ H Q=>∃ v r,vs=v :: r∧t v σ H fun σ' H'=>u r σ' H' Q
def gTup (K:PySem.W.Frag) (n:Nat) (t:TGs):TG:=fun v σ H Q=>∃ a xs,v=.ref a∧SqT K H a xs∧xs.length=n∧t xs σ H Q
def tAsg (te:TE) (g:TG):TS:=fun D σ H=>te σ H fun x H1=>g x σ H1 D.nx
theorem ps_set {i:Nat} {x:Str} {e:Expr} {te:TE} {pos':Pos} (hN:X.N.Nodup) (hi:X.N[i]?=some x) (hx:Loc X.env.scope x) (he:PE X e te) (hs:swapsWith e (some (.Name x pos')) pos.line X.env=pure false:=by rfl) (hf:X.fn x=true∨X.env.scope.names.lookup x=some .local:=by first | exact .inl rfl | exact .inr rfl | assumption) :
    PS X (.Assign [.Name x pos'] e pos) (tAsg te (gName i)):=by
  intro pins s σ H D I h
  refine wpAny_Assign_Name (thn (he pins s σ H _ I h) fun v s1 ⟨y,H1,I1,r1,q1⟩=>?_) hs
  exact store_ok I1 hN hi hx r1 (fun s2 I2=>⟨_,H1,I2,q1⟩) hf
def tAug (i:Nat) (te:TE) (ti:TIp):TS:=fun D σ H=>∃ x,σ[i]?=some (some x)∧te σ H fun y H1=>ti x y H1 fun z H2=>D.nx (σ.set i (some z)) H2
def ipI (f:Int→Int→Int):TIp:=fun x y H Q=>∃ i j,x=.int i∧y=.int j∧Q (.int (f i j)) H
end
section
variable {X:Cx} {pos:Pos}
end
set_option genSizeOf false in
set_option genInjectivity false in
structure It where
  go:Nat→Hp→Prop
  yld:Nat→Hp→V→Hp→Prop
  stop:Nat→Hp→Prop
def FpOk (X:Cx) (pins:List (Addr × Obj)) (H:Hp) (b:Addr):Prop :=
  H b=none∧b≠X.env.locals∧b ∉ X.fs∧(b∈X.ex∨X.s₀.heap.objs.size≤b)∧(∀ x c,X.env.cells.lookup x=some c→c≠b)∧∀ p∈X.pn ++ pins,p.1≠b
theorem Inv.fpOk {X:Cx} {pins:List (Addr × Obj)} {σ:St} {H H':Hp} {s:Shared} {b:Addr} (I:Inv X pins σ H s) (hb:s.heap.objs.size≤b) (hn:H' b=none):FpOk X pins H' b:=by
  refine ⟨hn,Nat.ne_of_gt (Nat.lt_of_lt_of_le I.lt hb),I.nofs hb,.inr (Nat.le_trans I.sz hb),fun x c e z=>?_,fun p hp z=>?_⟩
  · obtain ⟨v,q⟩:=I.cell x c e
    exact absurd (Nat.lt_of_lt_of_le q.lt (by rw [z];exact hb)) (Nat.lt_irrefl _)
  · exact absurd (Nat.lt_of_lt_of_le (Heap.lt_size (I.pin p hp).1) (by rw [z];exact hb)) (Nat.lt_irrefl _)
structure Turn (P:Program) (w:World) (K:PySem.W.Frag) (tg:Expr) (J:It) (fp:List Addr) (it:Addr) (tn:Nat→Heap→Prop):Prop where
  mem:it∈fp
  obj:∀ i h,tn i h→∀ b∈fp,∃ o,h.get? b=some o∧∀ v,o.data≠.cell v
  keep:∀ i h h',tn i h→(∀ b∈fp,∀ o,h.get? b=some o→h'.get? b=some o)→tn i h'
  item:∀ (X:Cx),X.prog=P→X.w=w→X.K=K→X.calm=true→∀ (i:Nat) (pins:List (Addr × Obj)) (s:Shared) (σ:St) (H:Hp) (E:Value→Shared→Prop),Inv X pins σ H s→(∀ b∈fp,FpOk X pins H b)→tn i s.heap→J.go i H →
    wpAny (model P w) X.A (pyNext (.ref it)) (fun r s1=>∃ u,r=some u ∧
      wpAny (model P w) X.A (letOwnedTupleGo tg (.ref it) u) (fun _ s2=>∃ x H',Inv X pins σ H' s2∧RelV x u∧J.yld i H x H'∧tn (i + 1) s2.heap∧∀ b∈fp,H' b=none) E s1) E s
  done:∀ (X:Cx),X.prog=P→X.w=w→X.K=K→X.calm=true→∀ (i:Nat) (pins:List (Addr × Obj)) (s:Shared) (σ:St) (H:Hp) (E:Value→Shared→Prop),Inv X pins σ H s→(∀ b∈fp,FpOk X pins H b)→tn i s.heap→J.stop i H →
    wpAny (model P w) X.A (pyNext (.ref it)) (fun r s1=>r=none∧Inv X pins σ H s1) E s
  self:∀ (A:Around) (i:Nat) (s:Shared) (Q:Value→Shared→Prop) (E:Value→Shared→Prop),tn i s.heap→Q (.ref it) s→wpAny (model P w) A (pyIter (.ref it)) Q E s
abbrev TI:=St→Hp→(It→Hp→Prop)→Prop
def PIE (X:Cx) (pins:List (Addr × Obj)) (σ:St) (tg:Expr) (R:It→Hp→Prop) (itv:Value) (s2:Shared):Prop :=
  ∃ (it:Addr) (fp:List Addr) (tn:Nat→Heap→Prop) (J:It) (H':Hp),itv=.ref it∧Inv X pins σ H' s2∧Turn X.prog X.w X.K tg J fp it tn∧tn 0 s2.heap∧(∀ b∈fp,FpOk X pins H' b)∧R J H'
def PI (X:Cx) (tg iter:Expr) (wi:TI):Prop :=
  ∀ (pins:List (Addr × Obj)) (s:Shared) (σ:St) (H:Hp) (R:It→Hp→Prop),Inv X pins σ H s→wi σ H R →
    wpAny (model X.prog X.w) X.A (eval iter X.env) (fun v s1=>wpAny (model X.prog X.w) X.A (pyIter v) (PIE X pins σ tg R) X.xe s1) X.xe s
theorem go_of {M:Model} {A:Around} {E:Value→Shared→Prop} {s:Shared} {tg:Expr} {it:Addr} {u:Value} {o:Obj} {n:String} {vs:Array Value} {Q:Unit→Shared→Prop} (ho:s.heap.get? it=some o) (hc:o.cls=.type n) (hd:o.data=.fields vs)
    (hn:["enumerate","zip","dict_itemiterator","dict_reverseitemiterator","odict_iterator","itertools.zip_longest","itertools.pairwise"].contains n=false) (hQ:Q () s):wpAny M A (letOwnedTupleGo tg (.ref it) u) Q E s:=by
  unfold letOwnedTupleGo
  cases tg <;> first
    | exact wpAny_pure hQ
    | (cases u <;> first
        | exact wpAny_pure hQ
        | (refine wpAny_bind (wpAny_load ho ?_)
           rw [hc,hd]
           show wpAny M A (if (["enumerate","zip","dict_itemiterator","dict_reverseitemiterator","odict_iterator","itertools.zip_longest","itertools.pairwise"].contains n && vs[0]? == some (rawInt _))=true then _ else _) Q E s
           rw [if_neg (by intro h;rw [hn,Bool.false_and] at h;cases h)]
           exact wpAny_pure hQ))
def Itl (K:PySem.W.Frag) (a:Addr):It :=
  ⟨fun i H=>∃ xs x,SqL K H a xs∧xs[i]?=some x,fun i H x H'=>H'=H∧∀ xs,SqL K H a xs→xs[i]?=some x,fun i H=>∃ xs,SqL K H a xs∧xs.length≤i⟩
def Itt (K:PySem.W.Frag) (a:Addr):It :=
  ⟨fun i H=>∃ xs x,SqT K H a xs∧xs[i]?=some x,fun i H x H'=>H'=H∧∀ xs,SqT K H a xs→xs[i]?=some x,fun i H=>∃ xs,SqT K H a xs∧xs.length≤i⟩
def Itr (lo:Int) (n:Nat):It:=⟨fun i _=>i < n,fun i H x H'=>H'=H∧x=.int (lo + i),fun i _=>n≤i⟩
theorem turn_list {P:Program} {w:World} {K:PySem.W.Frag} {tg:Expr} (a it:Addr):Turn P w K tg (Itl K a) [it] it (fun i h=>h.IsListIter it a i) where
  mem:=by simp
  obj:=fun i h st b hb=>by
    have e:b=it:=by simpa using hb
    subst e
    obtain ⟨o,e,c,d⟩:=st
    exact ⟨o,e,fun v z=>by rw [d] at z;cases z⟩
  keep:=fun i h h' st k=>st.at fun o e=>k it (by simp) o e
  item:=by
    intro X hP hw hK hc i pins s σ H E I hf st hg
    subst hP hw hK
    obtain ⟨xs,x,hq,hx⟩:=hg
    obtain ⟨its,rv,p,hz⟩:=I.list hq
    obtain ⟨u,hu,ru⟩:=rv.get hx
    obtain ⟨f0,f1,f2,f3,f4,f5⟩:=hf it (by simp)
    refine wpAny_pyNext_list_item st p.isList (x:=u) (by simpa using hu) fun h' st' sb=>?_
    have I1:Inv X pins σ H { s with heap:=h' }:=I.turned (t':=s.toks) (fun b o hb e=>(sb.2 b hb).trans e) f0 f1 f3 f4 f5
    obtain ⟨o,e,c,d⟩:=id st'
    exact ⟨u,rfl,go_of (s:={ s with heap:=h' }) e c d (by decide) ⟨x,H,I1,ru,⟨rfl,fun ys hy=>by rw [I.list_inj hy hq];exact hx⟩,st',fun b hb=>(hf b hb).1⟩⟩
  done:=by
    intro X hP hw hK hc i pins s σ H E I hf st hg
    subst hP hw hK
    obtain ⟨xs,hq,hx⟩:=hg
    obtain ⟨its,rv,p,hz⟩:=I.list hq
    obtain ⟨f0,f1,f2,f3,f4,f5⟩:=hf it (by simp)
    have hl:=rv.length
    exact wpAny_pyNext_list_end (I.ok.hd hc) st p.isList (by simp;omega) fun h' eb=>⟨rfl,I.turned (t':=s.toks) (fun b o hb e=>eb b o hb e) f0 f1 f3 f4 f5⟩
  self:=fun _ _ _ _ _ st h=>wpAny_pyIter_listiter st h
theorem turn_tuple {P:Program} {w:World} {K:PySem.W.Frag} {tg:Expr} (a it:Addr):Turn P w K tg (Itt K a) [it] it (fun i h=>h.IsTupleIter it a i) where
  mem:=by simp
  obj:=fun i h st b hb=>by
    have e:b=it:=by simpa using hb
    subst e
    obtain ⟨o,e,c,d⟩:=st
    exact ⟨o,e,fun v z=>by rw [d] at z;cases z⟩
  keep:=fun i h h' st k=>st.at fun o e=>k it (by simp) o e
  item:=by
    intro X hP hw hK hc i pins s σ H E I hf st hg
    subst hP hw hK
    obtain ⟨xs,x,hq,hx⟩:=hg
    obtain ⟨its,rv,p,hz⟩:=I.tuple hq
    obtain ⟨u,hu,ru⟩:=rv.get hx
    obtain ⟨f0,f1,f2,f3,f4,f5⟩:=hf it (by simp)
    refine wpAny_pyNext_tuple_item st (show s.heap.IsTuple a its.toArray from p) (x:=u) (by simpa using hu) fun h' st' sb=>?_
    have I1:Inv X pins σ H { s with heap:=h' }:=I.turned (t':=s.toks) (fun b o hb e=>(sb.2 b hb).trans e) f0 f1 f3 f4 f5
    obtain ⟨o,e,c,d⟩:=id st'
    exact ⟨u,rfl,go_of (s:={ s with heap:=h' }) e c d (by decide) ⟨x,H,I1,ru,⟨rfl,fun ys hy=>by rw [I.tuple_inj hy hq];exact hx⟩,st',fun b hb=>(hf b hb).1⟩⟩
  done:=by
    intro X hP hw hK hc i pins s σ H E I hf st hg
    subst hP hw hK
    obtain ⟨xs,hq,hx⟩:=hg
    obtain ⟨its,rv,p,hz⟩:=I.tuple hq
    obtain ⟨f0,f1,f2,f3,f4,f5⟩:=hf it (by simp)
    have hl:=rv.length
    exact wpAny_pyNext_tuple_end (I.ok.hd hc) st (show s.heap.IsTuple a its.toArray from p) (by simp;omega) fun h' eb=>⟨rfl,I.turned (t':=s.toks) (fun b o hb e=>eb b o hb e) f0 f1 f3 f4 f5⟩
  self:=fun _ _ _ _ _ st h=>wpAny_pyIter_tupleiter st h
theorem turn_range {P:Program} {w:World} {K:PySem.W.Frag} {tg:Expr} (it:Addr) (lo:Int) (n:Nat):Turn P w K tg (Itr lo n) [it] it (fun i h=>IsRangeIter h it (lo + (i:Nat) * 1) ((n:Int) - (i:Nat)) 1) where
  mem:=by simp
  obj:=fun i h st b hb=>by
    have e:b=it:=by simpa using hb
    subst e
    exact ⟨_,st,fun v z=>by
      have z':Data.fields _=Data.cell v:=z
      cases z'⟩
  keep:=fun i h h' st k=>k it (by simp) _ st
  item:=by
    intro X hP hw hK hc i pins s σ H E I hf st hg
    subst hP hw hK
    obtain ⟨f0,f1,f2,f3,f4,f5⟩:=hf it (by simp)
    have W:=Walks.range (prog:=X.prog) (w:=X.w) (I.ok.hd hc) it lo 1 n
    refine W.item i s _ _ hg st fun v h' tk hv st' kk=>?_
    obtain ⟨t,rfl⟩:=hv
    have I1:Inv X pins σ H { s with heap:=h',toks:=tk }:=I.turned (fun b o hb e=>kk b o (by simpa using hb) e) f0 f1 f3 f4 f5
    refine ⟨_,rfl,go_of (s:={ s with heap:=h',toks:=tk }) (n:="range_iterator") st' rfl rfl (by decide) ⟨.int (lo + i),H,I1,⟨t,?_⟩,⟨rfl,rfl⟩,st',fun b hb=>(hf b hb).1⟩⟩
    rw [Int.mul_one]
  done:=by
    intro X hP hw hK hc i pins s σ H E I hf st hg
    subst hP hw hK
    obtain ⟨f0,f1,f2,f3,f4,f5⟩:=hf it (by simp)
    exact wpAny_pyNext_range_end (I.ok.hd hc) st (by have:n≤i:=hg;omega) fun h' eb=>⟨rfl,I.turned (t':=s.toks) (fun b o hb e=>eb b o hb e) f0 f1 f3 f4 f5⟩
  self:=fun _ _ _ _ _ st h=>wpAny_pyIter_rangeiter st h
end L2
namespace L2
open PySem PySem.Spec PyProof.Rows
section
variable {X:Cx} {tg:Expr}
def iList (K:PySem.W.Frag) (tl:TE):TI:=fun σ H R=>tl σ H fun x H1=>∃ a,x=.ref a∧(∃ xs,SqL K H1 a xs)∧R (Itl K a) H1
def iTup (K:PySem.W.Frag) (tl:TE):TI:=fun σ H R=>tl σ H fun x H1=>∃ a,x=.ref a∧(∃ xs,SqT K H1 a xs)∧R (Itt K a) H1
theorem pi_list {l:Expr} {tl:TE} (hl:PE X l tl):PI X tg l (iList X.K tl):=by
  intro pins s σ H R I h
  refine thn (hl pins s σ H _ I h) fun v s1 ⟨x,H1,I1,r1,q1⟩=>?_
  obtain ⟨a,e,⟨xs,hq⟩,q⟩:=q1
  subst e
  cases r1
  obtain ⟨its,rv,p,hz⟩:=I1.list hq
  refine wpAny_pyIter_list p.isList ?_
  refine ⟨s1.heap.objs.size,[s1.heap.objs.size],_,_,H1,rfl,I1.kept (t':=s1.toks) fun b o e=>Heap.get?_push_of_some _ e,turn_list a _,⟨_,Heap.get?_push_size _ rfl,rfl,rfl⟩,fun b hb=>?_,q⟩
  have e:b=s1.heap.objs.size:=by simpa using hb
  subst e
  exact I1.fpOk (Nat.le_refl _) (I1.hok.fresh (Nat.le_refl _))
theorem pi_tup {l:Expr} {tl:TE} (hl:PE X l tl):PI X tg l (iTup X.K tl):=by
  intro pins s σ H R I h
  refine thn (hl pins s σ H _ I h) fun v s1 ⟨x,H1,I1,r1,q1⟩=>?_
  obtain ⟨a,e,⟨xs,hq⟩,q⟩:=q1
  subst e
  cases r1
  obtain ⟨its,rv,p,hz⟩:=I1.tuple hq
  refine wpAny_pyIter_tuple (show s1.heap.IsTuple a its.toArray from p) ?_
  refine ⟨s1.heap.objs.size,[s1.heap.objs.size],_,_,H1,rfl,I1.kept (t':=s1.toks) fun b o e=>Heap.get?_push_of_some _ e,turn_tuple a _,⟨_,Heap.get?_push_size _ rfl,rfl,rfl⟩,fun b hb=>?_,q⟩
  have e:b=s1.heap.objs.size:=by simpa using hb
  subst e
  exact I1.fpOk (Nat.le_refl _) (I1.hok.fresh (Nat.le_refl _))
theorem range_it {pins:List (Addr × Obj)} {σ:St} {H:Hp} {s:Shared} {R:It→Hp→Prop} {E:Value→Shared→Prop} {lo hi:Int} {t u v:Tok} {tk:Nat} (I:Inv X pins σ H s) (h1:-(2 ^ 62)≤lo) (h2:lo < 2 ^ 62) (h3:-(2 ^ 62)≤hi) (h4:hi < 2 ^ 62)
    (q:R (Itr lo (hi - lo).toNat) H):wpAny (model X.prog X.w) X.A (pyIter (.ref s.heap.objs.size)) (PIE X pins σ tg R) E { s with heap:=s.heap.push { cls:=.type "range",data:=.fields #[.int lo t,.int hi u,.int 1 v] },toks:=tk }:=by
  refine wpAny_pyIter_range (IsRange.new ..) (small_one h1 h2 h3 h4) ?_
  have I1:Inv X pins σ H { s with heap:=s.heap.push { cls:=.type "range",data:=.fields #[.int lo t,.int hi u,.int 1 v] },toks:=tk }:=I.kept fun b o e=>Heap.get?_push_of_some _ e
  refine ⟨(s.heap.push { cls:=.type "range",data:=.fields #[.int lo t,.int hi u,.int 1 v] }).objs.size,[(s.heap.push { cls:=.type "range",data:=.fields #[.int lo t,.int hi u,.int 1 v] }).objs.size],_,_,H,rfl,
    I1.kept (t':=tk) fun b o e=>Heap.get?_push_of_some _ e,turn_range _ lo (hi - lo).toNat,?_,fun b hb=>?_,q⟩
  · have e1:lo + ((0:Nat):Int) * 1=lo:=by simp
    have e2:(((hi - lo).toNat:Nat):Int) - ((0:Nat):Int)=Builtin.Range.rangeSize lo hi 1:=by rw [rangeSize_one];split <;> omega
    show IsRangeIter _ _ (lo + ((0:Nat):Int) * 1) ((((hi - lo).toNat:Nat):Int) - ((0:Nat):Int)) 1
    rw [e1,e2]
    exact Heap.get?_push_size _ rfl
  · have e:b=(s.heap.push { cls:=.type "range",data:=.fields #[.int lo t,.int hi u,.int 1 v] }).objs.size:=by simpa using hb
    subst e
    exact I1.fpOk (Nat.le_refl _) (I1.hok.fresh (Nat.le_refl _))
def iRng1 (ta:TA):TI:=fun σ H R=>ta σ H fun vs H1=>∃ j:Int,vs=[.int j]∧-(2 ^ 62)≤j∧j < 2 ^ 62∧R (Itr 0 j.toNat) H1
def iRng2 (ta:TA):TI:=fun σ H R=>ta σ H fun vs H1=>∃ i j:Int,vs=[.int i,.int j]∧(-(2 ^ 62)≤i∧i < 2 ^ 62∧-(2 ^ 62)≤j∧j < 2 ^ 62)∧R (Itr i (j - i).toNat) H1
theorem pi_range1 {a:Expr} {ta:TA} {p pos:Pos} (hg:Gl X "range") (hm:X.mg "range"=none) (ha:PA X [a] ta) (hs:starEach [a] X.env=[(false,eval a X.env)]:=by rfl):PI X tg (.Call (.Name "range" p) [a] [] pos) (iRng1 ta):=by
  intro pins s σ H R I h
  refine Call_ (ld_blt I hg hm boot_range (PyProof.Rows.callWith_type1 (thn (ha pos pins s σ H _ I h) fun us s1 ⟨vs,H1,I1,r1,q1⟩=>?_) hs rfl))
  obtain ⟨j,e,q1,q2,q⟩:=q1
  subst e
  cases r1 with
  | cons r rr =>
    cases rr
    obtain ⟨t,rfl⟩:=r
    exact call_range_1 (range_it I1 (by omega) (by omega) q1 q2 (by simpa using q))
def tFor (wi:TI) (g:TG) (tb:TS):TS:=fun D σ H=>wi σ H fun J H1=>∃ W:Nat→Nat→St→Hp→Prop,(∃ m,W 0 m σ H1)∧∀ i m σ H,W i m σ H →
  (J.stop i H∧D.nx σ H)∨(J.go i H∧∃ N:St→Hp→Prop,(∀ σ' H',N σ' H'→∃ m',m' < m∧W (i + 1) m' σ' H')∧∀ x H',J.yld i H x H'→g x σ H' fun σ2 H2=>tb { D with nx:=N,ct:=N,bk:=D.nx } σ2 H2)
def pinsAt (fp:List Addr) (h:Heap):List (Addr × Obj):=fp.filterMap fun b=>(h.get? b).map fun o=>(b,o)
theorem mem_pinsAt {fp:List Addr} {h:Heap} {b:Addr} {o:Obj} (hb:b∈fp) (e:h.get? b=some o):(b,o)∈pinsAt fp h:=List.mem_filterMap.mpr ⟨b,hb,by rw [e];rfl⟩
theorem of_pinsAt {fp:List Addr} {h:Heap} {p:Addr × Obj} (hp:p∈pinsAt fp h):p.1∈fp∧h.get? p.1=some p.2:=by
  obtain ⟨b,hb,e⟩:=List.mem_filterMap.mp hp
  cases q:h.get? b with
  | none=>rw [q] at e;cases e
  | some o =>
    rw [q] at e
    have e':(b,o)=p:=Option.some.inj e
    subst e'
    exact ⟨hb,q⟩
theorem Inv.pinned {pins:List (Addr × Obj)} {σ:St} {H:Hp} {s:Shared} {fp:List Addr} (I:Inv X pins σ H s) (hf:∀ b∈fp,FpOk X pins H b) (ho:∀ b∈fp,∃ o,s.heap.get? b=some o∧∀ v,o.data≠.cell v):Inv X (pins ++ pinsAt fp s.heap) σ H s :=
  I.pins_of fun p hp=>(List.mem_append.mp hp).elim (fun z=>I.pin p (List.mem_append_right _ z)) fun z=>by
    obtain ⟨hb,e⟩:=of_pinsAt z
    obtain ⟨f0,f1,f2,_⟩:=hf p.1 hb
    obtain ⟨o,e',d⟩:=ho p.1 hb
    rw [e] at e';cases e'
    exact ⟨e,f0,f1,f2,d⟩
theorem Inv.unpinned {pins pl:List (Addr × Obj)} {σ:St} {H:Hp} {s:Shared} (I:Inv X (pins ++ pl) σ H s):Inv X pins σ H s:=I.pins_of fun p hp=>I.pin p (List.mem_append_right _ (List.mem_append_left _ hp))
theorem ps_for {iter:Expr} {body:List Stmt} {wi:TI} {g:TG} {tb:TS} {pos:Pos} (hp:PassesOwn (model X.prog X.w) X.A X.env X.xe) (hc:X.calm=true) (hi:PI X tg iter wi) (hg:PG X tg g) (hb:PSs X body tb)
    (hs:∀ x,foldedSetIterable iter X.env x=pure x:=by intro _;rfl):PS X (.For tg iter body [] pos) (tFor wi g tb):=by
  intro pins s σ H D I h
  refine wpAny_For (thn (hi pins s σ H _ I h) fun v s1 h1=>thn h1 fun itv s2 h2=>?_) hs
  obtain ⟨it,fp,tn,J,H2,e,I2,T,st2,f2,W,⟨m0,w0⟩,turn⟩:=h2
  subst e
  -- what stays true of the iterator's objects through the loop
  have stat:∀ {H':Hp},(∀ b∈fp,H' b=none)→∀ b∈fp,FpOk X pins H' b:=fun hn b hb=>⟨hn b hb,(f2 b hb).2⟩
  refine codeAny_forLoop_any (fun n s'=>∃ i σ' H',Inv X pins σ' H' s'∧tn i s'.heap∧(∀ b∈fp,H' b=none)∧W i n σ' H') ?_ m0 ⟨0,σ,H2,I2,st2,fun b hb=>(f2 b hb).1,w0⟩
  rintro n s3 ⟨i,σ3,H3,I3,st3,fr3,w3⟩
  rcases turn i n σ3 H3 w3 with ⟨stop,qn⟩ | ⟨go,N,hN,step⟩
  · refine wpAny_passesOwn hp (thn (T.done X rfl rfl rfl hc i pins s3 σ3 H3 X.xe I3 (stat fr3) st3 stop) fun r s4 ⟨hr,I4⟩=>?_)
    subst hr
    exact wpAny_execs_nil ⟨σ3,H3,I4,qn⟩
  · refine wpAny_passesOwn hp (thn (T.item X rfl rfl rfl hc i pins s3 σ3 H3 X.xe I3 (stat fr3) st3 go) fun r s4 ⟨u,hr,h4⟩=>?_)
    subst hr
    refine wpAny_passesOwn hp (thn h4 fun _ s5 ⟨x,H5,I5,r5,y5,st5,fr5⟩=>?_)
    have I5':=I5.pinned (stat fr5) (T.obj _ _ st5)
    refine wpAny_passesOwn hp (thn (hg _ s5 σ3 H5 x u _ I5' r5 (step x H5 y5)) fun _ s6 ⟨σ6,H6,I6,q6⟩=>?_)
    refine wpAny_passesOwn hp (thn (hb _ s6 σ6 H6 _ I6 q6) fun f s7 q7=>?_)
    have again:∀ {σ7:St} {H7:Hp},Inv X (pins ++ pinsAt fp s5.heap) σ7 H7 s7→N σ7 H7→∃ m,m < n∧∃ i σ' H',Inv X pins σ' H' s7∧tn i s7.heap∧(∀ b∈fp,H' b=none)∧W i m σ' H':=fun {σ7 H7} I7 n7=>by
      obtain ⟨m',hm,w7⟩:=hN σ7 H7 n7
      refine ⟨m',hm,i + 1,σ7,H7,I7.unpinned,T.keep _ _ _ st5 fun b hb o e=>(I7.pin (b,o) (List.mem_append_right _ (List.mem_append_right _ (mem_pinsAt hb e)))).1,fun b hb=>?_,w7⟩
      obtain ⟨o,e,d⟩:=T.obj _ _ st5 b hb
      exact (I7.pin (b,o) (List.mem_append_right _ (List.mem_append_right _ (mem_pinsAt hb e)))).2.1
    cases f with
    | next=>obtain ⟨σ7,H7,I7,n7⟩:=q7;exact again I7 n7
    | cont=>obtain ⟨σ7,H7,I7,n7⟩:=q7;exact again I7 n7
    | brk=>obtain ⟨σ7,H7,I7,q7⟩:=q7;exact ⟨σ7,H7,I7.unpinned,q7⟩
    | ret v=>obtain ⟨x7,σ7,H7,I7,r7,q7⟩:=q7;exact ⟨x7,σ7,H7,I7.unpinned,r7,q7⟩
end
end L2
namespace L2
open PySem PySem.Spec PyProof.Rows
abbrev R2:=V→V→Hp→VK→Prop
def OpR (X:Cx) (f:Value→Value→Sem Value) (r:R2):Prop :=
  ∀ (pins:List (Addr × Obj)) (s:Shared) (σ:St) (H:Hp) (x y:V) (v u:Value) (Q:VK),Inv X pins σ H s→RelV x v→RelV y u→r x y H Q →
    wpAny (model X.prog X.w) X.A (f v u) (EP X pins σ Q) X.xe s
def UnR (X:Cx) (f:Value→Sem Value) (r:V→Hp→VK→Prop):Prop :=
  ∀ (pins:List (Addr × Obj)) (s:Shared) (σ:St) (H:Hp) (x:V) (v:Value) (Q:VK),Inv X pins σ H s→RelV x v→r x H Q →
    wpAny (model X.prog X.w) X.A (f v) (EP X pins σ Q) X.xe s
def CallR (X:Cx) (f:Value) (r:List V→Hp→VK→Prop):Prop :=
  ∀ (pins:List (Addr × Obj)) (s:Shared) (σ:St) (H:Hp) (xs:List V) (us:List Value) (Q:VK),Inv X pins σ H s→Vals xs us→r xs H Q →
    wpAny (model X.prog X.w) X.A (call f us) (EP X pins σ Q) X.xe s
def tOp (r:R2) (ta tb:TE):TE:=fun σ H Q=>ta σ H fun x H1=>tb σ H1 fun y H2=>r x y H2 Q
def tUn (r:V→Hp→VK→Prop) (ta:TE):TE:=fun σ H Q=>ta σ H fun x H1=>r x H1 Q
def rI (C:Int→Int→Prop) (g:Int→Int→V):R2:=fun x y H Q=>∃ i j,x=.int i∧y=.int j∧C i j∧Q (g i j) H
def rI0 (g:Int→Int→V):R2:=fun x y H Q=>∃ i j,x=.int i∧y=.int j∧Q (g i j) H
def rU (g:Int→V):V→Hp→VK→Prop:=fun x H Q=>∃ i,x=.int i∧Q (g i) H
section
variable {X:Cx} {a b c:Expr} {ta tb tc:TE} {pos:Pos}
theorem binT (ha:PE X a ta) (hb:PE X b tb) {pins:List (Addr × Obj)} {s:Shared} {σ:St} {H:Hp} {R:V→V→Hp→Prop} (I:Inv X pins σ H s)
    (h:ta σ H fun x H1=>tb σ H1 fun y H2=>R x y H2) {Q:Value→Shared→Prop} {f:Value→Value→Sem Value}
    (hf:∀ v u s2 x y H2,Inv X pins σ H2 s2→RelV x v→RelV y u→R x y H2→wpAny (model X.prog X.w) X.A (f v u) Q X.xe s2) :
    wpAny (model X.prog X.w) X.A (eval a X.env) (fun v s₁=>wpAny (model X.prog X.w) X.A (eval b X.env) (fun u s₂=>wpAny (model X.prog X.w) X.A (f v u) Q X.xe s₂) X.xe s₁) X.xe s:=by
  refine thn (ha pins s σ H _ I h) fun v s1 ⟨x,H1,I1,r1,q1⟩=>?_
  refine thn (hb pins s1 σ H1 _ I1 q1) fun u s2 ⟨y,H2,I2,r2,q2⟩=>?_
  exact hf v u s2 x y H2 I2 r1 r2 q2
theorem pe_op {op:Operator} {r:R2} (ho:OpR X (binaryOp op) r) (ha:PE X a ta) (hb:PE X b tb):PE X (.BinOp a op b pos) (tOp r ta tb):=by
  intro pins s σ H Q I h
  exact wpAny_BinOp (binT ha hb I h fun v u s2 x y H2 I2 rx ry q=>ho pins s2 σ H2 x y v u Q I2 rx ry q)
theorem pe_un {op:UnaryOp} {r:V→Hp→VK→Prop} (ho:UnR X (unaryOp op) r) (ha:PE X a ta):PE X (.UnaryOp op a pos) (tUn r ta):=by
  intro pins s σ H Q I h
  exact UnaryOp_ (thn (ha pins s σ H _ I h) fun v s1 ⟨x,H1,I1,r1,q1⟩=>ho pins s1 σ H1 x v Q I1 r1 q1)
theorem opI {f:Value→Value→Sem Value} {C:Int→Int→Prop} {g:Int→Int→Int}
    (rule:∀ (i j:Int) (t u:Tok) (s:Shared) (Q:Value→Shared→Prop) (E:Value→Shared→Prop),C i j→Q (.int (g i j) s.toks) { s with toks:=s.toks + 1 }→wpAny (model X.prog X.w) X.A (f (.int i t) (.int j u)) Q E s) :
    OpR X f (rI C fun i j=>.int (g i j)):=by
  intro pins s σ H x y v u Q I rx ry h
  obtain ⟨i,j,rfl,rfl,hc,q⟩:=h
  obtain ⟨t,rfl⟩:=rx
  obtain ⟨t',rfl⟩:=ry
  exact rule i j t t' s _ _ hc ⟨.int (g i j),H,I.tok _,⟨_,rfl⟩,q⟩
theorem opI0 {f:Value→Value→Sem Value} {g:Int→Int→Int}
    (rule:∀ (i j:Int) (t u:Tok) (s:Shared) (Q:Value→Shared→Prop) (E:Value→Shared→Prop),Q (.int (g i j) s.toks) { s with toks:=s.toks + 1 }→wpAny (model X.prog X.w) X.A (f (.int i t) (.int j u)) Q E s) :
    OpR X f (rI0 fun i j=>.int (g i j)):=by
  intro pins s σ H x y v u Q I rx ry h
  obtain ⟨i,j,rfl,rfl,q⟩:=h
  obtain ⟨t,rfl⟩:=rx
  obtain ⟨t',rfl⟩:=ry
  exact rule i j t t' s _ _ ⟨.int (g i j),H,I.tok _,⟨_,rfl⟩,q⟩
theorem opB0 {f:Value→Value→Sem Value} {g:Int→Int→Bool}
    (rule:∀ (i j:Int) (t u:Tok) (s:Shared) (Q:Value→Shared→Prop) (E:Value→Shared→Prop),Q (.bool (g i j)) s→wpAny (model X.prog X.w) X.A (f (.int i t) (.int j u)) Q E s) :
    OpR X f (rI0 fun i j=>.bl (g i j)):=by
  intro pins s σ H x y v u Q I rx ry h
  obtain ⟨i,j,rfl,rfl,q⟩:=h
  obtain ⟨t,rfl⟩:=rx
  obtain ⟨t',rfl⟩:=ry
  exact rule i j t t' s _ _ ⟨.bl (g i j),H,I,rfl,q⟩
def CPow (i j:Int):Prop:=0≤j∧j≤1000000∧i.natAbs < 2 ^ 64
theorem op_add:OpR X (binaryOp .Add) (rI0 fun i j=>.int (i + j)):=opI0 fun _ _ _ _ _ _ _ q=>add_int q
theorem op_sub:OpR X (binaryOp .Sub) (rI0 fun i j=>.int (i - j)):=opI0 fun _ _ _ _ _ _ _ q=>sub_int q
theorem op_mod:OpR X (binaryOp .Mod) (rI (fun _ j=>0 < j) fun i j=>.int (i % j)):=opI fun i j _ _ _ _ _ hc q=>by
  have h1:(0:Int) < j:=hc
  exact mod_int' (by omega) (by rw [Int.fmod_eq_emod_of_nonneg i (by omega)];exact q)
theorem op_modN:OpR X (binaryOp .Mod) (rI (fun _ j=>j≠0) fun i j=>.int (i.fmod j)):=opI fun _ _ _ _ _ _ _ hc q=>mod_int' hc q
theorem op_pow:OpR X (binaryOp .Pow) (rI CPow fun i j=>.int (i ^ j.toNat)):=opI fun _ _ _ _ _ _ _ hc q=>pow_int_small hc.1 hc.2.1 hc.2.2 q
theorem unI {f:Value→Sem Value} {g:Int→Int}
    (rule:∀ (i:Int) (t:Tok) (s:Shared) (Q:Value→Shared→Prop) (E:Value→Shared→Prop),Q (.int (g i) s.toks) { s with toks:=s.toks + 1 }→wpAny (model X.prog X.w) X.A (f (.int i t)) Q E s) :
    UnR X f (rU fun i=>.int (g i)):=by
  intro pins s σ H x v Q I rx h
  obtain ⟨i,rfl,q⟩:=h
  obtain ⟨t,rfl⟩:=rx
  exact rule i t s _ _ ⟨.int (g i),H,I.tok _,⟨_,rfl⟩,q⟩
theorem un_neg:UnR X (unaryOp .USub) (rU fun i=>.int (-i)):=unI fun _ _ _ _ _ q=>neg_int q
end
def scal:V→V→Bool
  | .non,.non=>true | .non,.int _=>true | .int _,.non=>true | .non,.bl _=>true | .bl _,.non=>true | .non,.str _=>true | .str _,.non=>true
  | .int _,.int _=>true | .bl _,.bl _=>true | .str _,.str _=>true | .byt _,.byt _=>true
  | .int _,.str _=>true | .str _,.int _=>true | .bl _,.str _=>true | .str _,.bl _=>true
  | _,_=>false
def rEq:R2:=fun x y H Q=>scal x y=true∧Q (.bl (decide (x=y))) H
def rNe:R2:=fun x y H Q=>scal x y=true∧Q (.bl (!decide (x=y))) H
theorem dec_int {i j:Int}:decide (V.int i=V.int j)=(i == j):=by
  rw [Bool.eq_iff_iff]
  simp
theorem dec_bl {i j:Bool}:decide (V.bl i=V.bl j)=(i == j):=by
  rw [Bool.eq_iff_iff]
  simp
theorem dec_str {i j:Str}:decide (V.str i=V.str j)=(i == j):=by
  rw [Bool.eq_iff_iff]
  simp
theorem dec_byt {i j:Array UInt8}:decide (V.byt i=V.byt j)=(i.toList == j.toList):=by
  rw [Bool.eq_iff_iff]
  cases i
  cases j
  simp
section
variable {X:Cx} {a b c:Expr} {ta tb tc:TE} {pos:Pos}
theorem fin_bl {pins:List (Addr × Obj)} {σ:St} {H:Hp} {s:Shared} {Q:VK} {k k':Bool} (I:Inv X pins σ H s) (q:Q (.bl k) H) (e:k=k'):EP X pins σ Q (.bool k') s:=by
  subst e
  exact ⟨.bl k,H,I,rfl,q⟩
theorem op_eq:OpR X (compareOp .Eq) rEq:=by
  intro pins s σ H x y v u Q I rx ry h
  obtain ⟨hs,q⟩:=h
  cases x with
  | non =>
    cases rx
    cases y with
    | non=>cases ry;exact PySem.EqNone.eq_none_none (fin_bl I q (by simp))
    | bl j=>cases ry;exact PySem.EqNone.eq_none_bool (fin_bl I q (by simp))
    | int j=>obtain ⟨t',rfl⟩:=ry;exact PySem.EqNone.eq_none_int (fin_bl I q (by simp))
    | str j=>obtain ⟨t',rfl⟩:=ry;exact PySem.EqNone.eq_none_str (fin_bl I q (by simp))
    | _=>exact absurd (show false=true from hs) Bool.false_ne_true
  | bl i =>
    cases rx
    cases y with
    | non=>cases ry;exact PySem.EqNone.eq_bool_none (fin_bl I q (by simp))
    | bl j=>cases ry;exact eq_bool (fin_bl I q dec_bl)
    | str j=>obtain ⟨t',rfl⟩:=ry;exact PySem.EqMixed.eq_bool_str (fin_bl I q (by simp))
    | _=>exact absurd (show false=true from hs) Bool.false_ne_true
  | int i =>
    obtain ⟨t,rfl⟩:=rx
    cases y with
    | non=>cases ry;exact PySem.EqNone.eq_int_none (fin_bl I q (by simp))
    | int j=>obtain ⟨t',rfl⟩:=ry;exact eq_int (fin_bl I q dec_int)
    | str j=>obtain ⟨t',rfl⟩:=ry;exact PySem.EqMixed.eq_int_str (fin_bl I q (by simp))
    | _=>exact absurd (show false=true from hs) Bool.false_ne_true
  | str i =>
    obtain ⟨t,rfl⟩:=rx
    cases y with
    | non=>cases ry;exact PySem.EqNone.eq_str_none (fin_bl I q (by simp))
    | bl j=>cases ry;exact PySem.EqMixed.eq_str_bool (fin_bl I q (by simp))
    | int j=>obtain ⟨t',rfl⟩:=ry;exact PySem.EqMixed.eq_str_int (fin_bl I q (by simp))
    | str j=>obtain ⟨t',rfl⟩:=ry;exact eq_str (fin_bl I q dec_str)
    | _=>exact absurd (show false=true from hs) Bool.false_ne_true
  | byt i =>
    obtain ⟨t,rfl⟩:=rx
    cases y with
    | byt j=>obtain ⟨t',rfl⟩:=ry;exact PySem.W.eq_bytes (fin_bl I q dec_byt)
    | _=>exact absurd (show false=true from hs) Bool.false_ne_true
  | _=>cases y <;> exact absurd (show false=true from hs) Bool.false_ne_true
theorem op_ne:OpR X (compareOp .NotEq) rNe:=by
  intro pins s σ H x y v u Q I rx ry h
  obtain ⟨hs,q⟩:=h
  cases x with
  | non =>
    cases rx
    cases y with
    | non=>cases ry;exact PySem.EqNone.ne_none_none (fin_bl I q (by simp))
    | bl j=>cases ry;exact PySem.EqNone.ne_none_bool (fin_bl I q (by simp))
    | int j=>obtain ⟨t',rfl⟩:=ry;exact PySem.EqNone.ne_none_int (fin_bl I q (by simp))
    | str j=>obtain ⟨t',rfl⟩:=ry;exact PySem.EqNone.ne_none_str (fin_bl I q (by simp))
    | _=>exact absurd (show false=true from hs) Bool.false_ne_true
  | bl i =>
    cases rx
    cases y with
    | non=>cases ry;exact PySem.EqNone.ne_bool_none (fin_bl I q (by simp))
    | bl j=>cases ry;exact ne_bool (fin_bl I q (congrArg not dec_bl))
    | str j=>obtain ⟨t',rfl⟩:=ry;exact PySem.EqMixed.ne_bool_str (fin_bl I q (by simp))
    | _=>exact absurd (show false=true from hs) Bool.false_ne_true
  | int i =>
    obtain ⟨t,rfl⟩:=rx
    cases y with
    | non=>cases ry;exact PySem.EqNone.ne_int_none (fin_bl I q (by simp))
    | int j=>obtain ⟨t',rfl⟩:=ry;exact ne_int (fin_bl I q (congrArg not dec_int))
    | str j=>obtain ⟨t',rfl⟩:=ry;exact PySem.EqMixed.ne_int_str (fin_bl I q (by simp))
    | _=>exact absurd (show false=true from hs) Bool.false_ne_true
  | str i =>
    obtain ⟨t,rfl⟩:=rx
    cases y with
    | non=>cases ry;exact PySem.EqNone.ne_str_none (fin_bl I q (by simp))
    | bl j=>cases ry;exact PySem.EqMixed.ne_str_bool (fin_bl I q (by simp))
    | int j=>obtain ⟨t',rfl⟩:=ry;exact PySem.EqMixed.ne_str_int (fin_bl I q (by simp))
    | str j=>obtain ⟨t',rfl⟩:=ry;exact ne_str (fin_bl I q (congrArg not dec_str))
    | _=>exact absurd (show false=true from hs) Bool.false_ne_true
  | byt i =>
    obtain ⟨t,rfl⟩:=rx
    cases y with
    | byt j=>obtain ⟨t',rfl⟩:=ry;exact PySem.W.ne_bytes (fin_bl I q (congrArg not dec_byt))
    | _=>exact absurd (show false=true from hs) Bool.false_ne_true
  | _=>cases y <;> exact absurd (show false=true from hs) Bool.false_ne_true
theorem op_lt:OpR X (compareOp .Lt) (rI0 fun i j=>.bl (decide (i < j))):=opB0 fun _ _ _ _ _ _ _ q=>lt_int q
theorem op_le:OpR X (compareOp .LtE) (rI0 fun i j=>.bl (decide (i≤j))):=opB0 fun _ _ _ _ _ _ _ q=>le_int q
theorem op_ge:OpR X (compareOp .GtE) (rI0 fun i j=>.bl (decide (j≤i))):=opB0 fun _ _ _ _ _ _ _ q=>ge_int q
theorem op_isN:OpR X (compareOp .Is) (fun x y H Q=>y=.non∧Q (.bl (decide (x=.non))) H):=by
  intro pins s σ H x y v u Q I rx ry h
  obtain ⟨rfl,q⟩:=h
  cases ry
  refine is_none_gen (fin_bl I q ?_)
  cases x <;> first
    | (cases rx;rfl)
    | (obtain ⟨t,rfl⟩:=rx;rfl)
theorem op_notN:OpR X (compareOp .IsNot) (fun x y H Q=>y=.non∧Q (.bl (!decide (x=.non))) H):=by
  intro pins s σ H x y v u Q I rx ry h
  obtain ⟨rfl,q⟩:=h
  cases ry
  refine isnot_none_gen (fin_bl I q ?_)
  cases x <;> first
    | (cases rx;rfl)
    | (obtain ⟨t,rfl⟩:=rx;rfl)
theorem nomark (b:Expr) {op:CmpOp} (h:op≠.In:=by decide) (h2:op≠.NotIn:=by decide):behindInMarks op b=false:=by
  have e1:(op == CmpOp.In)=false:=by cases op <;> first | rfl | exact absurd rfl h
  have e2:(op == CmpOp.NotIn)=false:=by cases op <;> first | rfl | exact absurd rfl h2
  cases b <;> simp [behindInMarks,e1,e2]
theorem pe_cmpR {op:CmpOp} {r:R2} (ho:OpR X (compareOp op) r) (ha:PE X a ta) (hb:PE X b tb) (hm:behindInMarks op b=false):PE X (.Compare a [op] [b] pos) (tOp r ta tb):=by
  intro pins s σ H Q I h
  exact wpAny_Compare1 (binT ha hb I h fun v u s2 x y H2 I2 rx ry q=>ho pins s2 σ H2 x y v u Q I2 rx ry q) hm
def tTest (t:TE):TT:=fun σ H Q=>t σ H fun x H'=>∃ k,x=.bl k∧Q k H'
theorem pt_cmpR {op:CmpOp} {r:R2} (ho:OpR X (compareOp op) r) (ha:PE X a ta) (hb:PE X b tb) (hm:behindInMarks op b=false):PT X (.Compare a [op] [b] pos) (tTest (tOp r ta tb)):=by
  intro pins s σ H Q I h
  refine wpAny_isTrue_Compare1 (thn (ha pins s σ H _ I h) fun v s1 ⟨x,H1,I1,r1,q1⟩=>thn (hb pins s1 σ H1 _ I1 q1) fun u s2 ⟨y,H2,I2,r2,q2⟩ =>
    thn (ho pins s2 σ H2 x y v u _ I2 r1 r2 q2) fun c s3 ⟨z,H3,I3,r3,k,e,q3⟩=>?_) hm
  subst e
  cases r3
  exact wpAny_truthy_bool ⟨H3,I3,q3⟩
def tChain (r r':R2) (ta tb tc:TE):TE:=fun σ H Q=>ta σ H fun x H1=>tb σ H1 fun y H2=>r x y H2 fun z H3=>∃ k,z=.bl k ∧
  (if k=true then tc σ H3 fun w' H4=>r' y w' H4 Q else Q (.bl false) H3)
theorem pe_chain {op op':CmpOp} {r r':R2} (ho:OpR X (compareOp op) r) (ho':OpR X (compareOp op') r') (ha:PE X a ta) (hb:PE X b tb) (hc:PE X c tc)
    (hm:lastMarks [op,op'] [b,c]=false:=by with_unfolding_all rfl):PE X (.Compare a [op,op'] [b,c] pos) (tChain r r' ta tb tc):=by
  intro pins s σ H Q I h
  refine Compare_chain (thn (ha pins s σ H _ I h) fun v s1 ⟨x,H1,I1,r1,q1⟩=>chain_link (thn (hb pins s1 σ H1 _ I1 q1) fun u s2 ⟨y,H2,I2,r2,q2⟩ =>
    thn (ho pins s2 σ H2 x y v u _ I2 r1 r2 q2) fun d s3 ⟨z,H3,I3,r3,k,e,q3⟩=>?_)) hm
  subst e
  cases r3
  refine wpAny_truthy_bool ?_
  cases k with
  | false=>exact ite_ff ⟨.bl false,H3,I3,rfl,q3⟩
  | true=>exact ite_tt (chain_last (thn (hc pins s3 σ H3 _ I3 q3) fun w' s4 ⟨z',H4,I4,r4,q4⟩=>ho' pins s4 σ H4 y z' u w' Q I4 r2 r4 q4))
theorem line63:(sizeLine:Nat) < 2 ^ 63:=by rw [sizeLine_eq];decide
theorem op_add_str:OpR X (binaryOp .Add) (fun x y H Q=>∃ i j,x=.str i∧y=.str j∧i.length + j.length≤sizeLine∧Q (.str (i ++ j)) H):=by
  intro pins s σ H x y v u Q I rx ry h
  obtain ⟨i,j,rfl,rfl,hz,q⟩:=h
  obtain ⟨t,rfl⟩:=rx
  obtain ⟨t',rfl⟩:=ry
  exact add_str (fun t' tk=>⟨.str (i ++ j),H,I.tok _,⟨_,rfl⟩,q⟩) hz
theorem vals1 {x:V} {us:List Value} (r:Vals [x] us):∃ u,us=[u]∧RelV x u:=by
  cases r with
  | cons r1 r2=>cases r2;exact ⟨_,rfl,r1⟩
theorem vals2 {x y:V} {us:List Value} (r:Vals [x,y] us):∃ u w',us=[u,w']∧RelV x u∧RelV y w':=by
  cases r with
  | cons r1 r2 =>
    cases r2 with
    | cons r3 r4=>cases r4;exact ⟨_,_,rfl,r1,r3⟩
def LenV (K:PySem.W.Frag) (x:V) (H:Hp) (n:Nat):Prop :=
  match x with
  | .str y=>y.length≤sizeLine∧n=y.length
  | .byt y=>y.size≤sizeLine∧n=y.size
  | .ref p=>(∃ xs,SqL K H p xs∧n=xs.length)∨∃ xs,SqT K H p xs∧n=xs.length
  | _=>False
theorem call_len:CallR X (.builtin "len") (fun xs H Q=>∃ x n,xs=[x]∧LenV X.K x H n∧Q (.int n) H):=by
  intro pins s σ H xs us Q I r h
  obtain ⟨x,n,rfl,e,q⟩:=h
  obtain ⟨u,rfl,rx⟩:=vals1 r
  have hl:=line63
  have hs:sizeLine=16777216:=sizeLine_eq
  cases x with
  | str y =>
    obtain ⟨t,rfl⟩:=rx
    obtain ⟨hy,e'⟩:y.length≤sizeLine∧n=y.length:=e
    subst e'
    exact len_str (by omega) ⟨.int _,H,I.tok _,⟨_,rfl⟩,q⟩
  | byt y =>
    obtain ⟨t,rfl⟩:=rx
    obtain ⟨hy,e'⟩:y.size≤sizeLine∧n=y.size:=e
    subst e'
    exact PySem.W.len_bytes (by omega) ⟨.int _,H,I.tok _,⟨_,rfl⟩,q⟩
  | ref p =>
    cases rx
    have e':(∃ xs,SqL X.K H p xs∧n=xs.length)∨∃ xs,SqT X.K H p xs∧n=xs.length:=e
    rcases e' with ⟨xs,hx,e'⟩ | ⟨xs,hx,e'⟩
    · subst e'
      obtain ⟨its,r',pl,hz⟩:=I.list hx
      have hlen:=r'.length
      exact Calls.call_len_list pl.isList (by simp only [List.size_toArray];omega) ⟨.int xs.length,H,I.tok _,⟨_,by simp only [List.size_toArray];rw [hlen]⟩,q⟩
    · subst e'
      obtain ⟨its,r',pl,hz⟩:=I.tuple hx
      have hlen:=r'.length
      exact len_tuple pl (by simp only [List.size_toArray];omega) ⟨.int xs.length,H,I.tok _,⟨_,by simp only [List.size_toArray];rw [hlen]⟩,q⟩
  | _=>exact (show False from e).elim
end
end L2
namespace L2
open PySem PySem.Spec PyProof.Rows
structure ObjM (h:Heap) (x dx C:Addr) (mA:Str→Option Value):Prop where
  obj:h.get? x=some (PySem.W.instObj C dx)
  ns:h.Ns1 dx mA
  ne:dx≠x
theorem lookIn_ns {h:Heap} {dx:Addr} {mA:Str→Option Value} (n:h.Ns1 dx mA):∃ od,h.get? dx=some od∧∀ name,PySem.W.lookIn name od=some (mA name):=by
  obtain ⟨o,es,ep,ho,hd,hk,_,hm⟩:=n
  refine ⟨o,ho,fun name=>?_⟩
  have e:=hm name
  unfold nsFind findBy at e
  rw [← Array.find?_toList] at e
  unfold PySem.W.lookIn
  rw [hd]
  dsimp only
  split
  · rename_i y q
    rw [q] at e
    exact congrArg some e
  · rename_i q
    rw [q] at e
    have a:es.toList.any (·.refKey)=false:=by
      rw [List.any_eq_false]
      intro y hy
      obtain ⟨z,t,hkey⟩:=hk y (Array.mem_toList_iff.mp hy)
      simp [DictEntry.refKey,hkey]
    have a':¬ es.toList.any (·.refKey)=true:=by rw [a];exact Bool.false_ne_true
    rw [if_neg a']
    exact congrArg some e
theorem ObjM.look {h:Heap} {x dx C:Addr} {mA:Str→Option Value} (I:ObjM h x dx C mA):∃ od,PySem.W.InstAt h x (PySem.W.instObj C dx) C (some od)∧∀ name,PySem.W.lookIn name od=some (mA name) :=
  let ⟨od,ho,hl⟩:=lookIn_ns I.ns
  ⟨od,⟨I.obj,rfl,rfl,ho⟩,hl⟩
section
variable {prog:Program} {w:World} {A:Around} {E:Value→Shared→Prop} {s:Shared} {K:PySem.W.Frag} {x dx C f:Addr} {mA:Str→Option Value} {name:Str} {v:Value}
theorem get_map {expr:Bool} {Q:Value→Shared→Prop} (X:K.In s.heap) (I:ObjM s.heap x dx C mA) (hg:PySem.W.plainGet K C name=true) (hh:PySem.W.hasDictIn K C=true)
    (ha:PySem.W.findIn K (.ref C) name=some none) (hv:mA name=some v) (hv':PySem.W.handedIn v=true) (h:Q v { s with toks:=s.toks + 1 }) :
    wpAny (model prog w) A (getAttr (.ref x) name expr) Q E s:=by
  obtain ⟨od,J,hl⟩:=I.look
  exact PySem.W.get_value X J (PySem.W.plainGet_of hg).1 (PySem.W.findObj_own hh ha rfl (by rw [hl,hv])) hv' h
theorem get_meth {pl:Sem Bool} {Q:Value × List Value→Shared→Prop} (X:K.In s.heap) (I:ObjM s.heap x dx C mA) (hg:PySem.W.plainGet K C name=true)
    (hf:PySem.W.findIn K (.ref C) name=some (some (.ref f))) (ht:PySem.W.isFn K (.ref f)=true) (hv:mA name=none) (h:Q (.ref f,[.ref x]) s) :
    wpAny (model prog w) A (getMethod (.ref x) name pl) Q E s:=by
  obtain ⟨od,J,hl⟩:=I.look
  exact PySem.W.method_fn X J (PySem.W.plainGet_of hg).1 (PySem.W.plainGet_of hg).2 hf (beq_iff_eq.mp ht) (by show (PySem.W.lookIn name od).map (·.isSome)=some false;rw [hl,hv];rfl) h
theorem set_map {ns:List Str} {Q:Unit→Shared→Prop} (X:K.In s.heap) (I:ObjM s.heap x dx C mA)
    (hs:PySem.W.findIn K (.ref C) "__setattr__"=some (some (.builtin "object.__setattr__"))) (hp:PySem.W.plainOver K C=true) (ht:PySem.W.takerIn K C name=some none) (hh:PySem.W.hasDictIn K C=true)
    (hw:PySem.Within mA ns) (hsz:ns.length≤sizeLine)
    (h:∀ h',ObjM h' x dx C (fun y=>if y=name then some v else mA y)→Heap.SameBut dx s.heap h'→Q () { s with heap:=h',toks:=s.toks + 2 }) :
    wpAny (model prog w) A (setAttr (.ref x) name v) Q E s:=by
  obtain ⟨od,J,hl⟩:=I.look
  refine PySem.W.set_plain X J hs (PySem.W.osa_open (s:={ s with toks:=s.toks + 1 }) (r:=none) X J hp ht fun b=>?_)
  obtain ⟨cd,hc,hd'⟩:=PySem.W.any_some hh
  have hx:s.heap.get? x=some ⟨.ref C,some dx,.plain,#[]⟩:=I.obj
  refine wpAny_bind (wpAny_pure (wpAny_bind (wpAny_bind (wpAny_loadPart hx (wpAny_bind (PySem.W.Looks.here (s:={ s with toks:=s.toks + 1 }) (PySem.W.looks_clsIn X hc) ?_))))))
  rw [hd']
  refine wpAny_pure (a:=some dx) (wpAny_bind (wpAny_pure (wpAny_bind ?_)))
  refine wpAny_nsSet1 (s:={ s with toks:=s.toks + 1 }) I.ns fun h' hn2 hs2=>?_
  obtain ⟨oD,esD,epD,hoD,hdD,hcD⟩:=hn2.count (PySem.Within.cons name v hw)
  refine wpAny_bind (wpAny_lookBehind hoD (by rw [hdD];exact pastItsLine_dict (Nat.le_trans hcD (by rw [List.length_cons];omega))) ?_)
  exact wpAny_pure (h _ ⟨(hs2.2 _ (Ne.symm I.ne)).trans I.obj,hn2,I.ne⟩ hs2)
theorem make_map {R:Result→Shared→Prop} {vs:List Value} {kw:List (Str × Value)} (X:K.In s.heap) (hm:PySem.W.makesIn K C=true)
    (hi:PySem.W.findIn K (.ref C) "__init__"=some (some (.ref f))) (hf:PySem.W.typeIn K (.ref f)=some (.type "function"))
    (h:codeAny (model prog w) (A.under (.builtin "type.__call__" ⟨.ref C :: vs,kw⟩)) (.call (.ref f) ⟨.ref (s.heap.objs.size + 1) :: vs,kw⟩) (PySem.W.InitBack (s.heap.objs.size + 1) R)
      { s with heap:=(s.heap.push PySem.W.emptyDict).push (PySem.W.instObj C s.heap.objs.size) }) :
    codeAny (model prog w) A (.call (.ref C) ⟨vs,kw⟩) R s:=by
  obtain ⟨hh,g,d,t,os⟩:=s
  exact PySem.W.make_core (PySem.W.makes_of X hm) (PySem.W.looks_findIn X hi) (fun self=>PySem.W.bind_fn X self hf) (.inl rfl) h
end
def putF (f:Str) (v:V):List (Str × V)→List (Str × V)
  | []=>[(f,v)]
  | (g,x) :: r=>if g=f then (g,v) :: r else (g,x) :: putF f v r
theorem lookup_putF (f g:Str) (v:V):∀ fs:List (Str × V),(putF f v fs).lookup g=if g=f then some v else fs.lookup g
  | []=>by
    show List.lookup g [(f,v)]=_
    by_cases h:g=f
    · have hb:(g == f)=true:=beq_iff_eq.mpr h
      simp only [List.lookup,hb,if_pos h]
    · have hb:(g == f)=false:=beq_eq_false_iff_ne.mpr h
      simp only [List.lookup,hb,if_neg h]
  | (k,x) :: r=>by
    have ih:=lookup_putF f g v r
    rw [show putF f v ((k,x) :: r)=(if k=f then (k,v) :: r else (k,x) :: putF f v r) from rfl]
    by_cases hk:k=f
    · rw [if_pos hk]
      by_cases h:g=k
      · have hb:(g == k)=true:=beq_iff_eq.mpr h
        simp only [List.lookup,hb,if_pos (h.trans hk)]
      · have hb:(g == k)=false:=beq_eq_false_iff_ne.mpr h
        simp only [List.lookup,hb,if_neg (fun e:g=f=>h (e.trans hk.symm))]
    · rw [if_neg hk]
      by_cases h:g=k
      · have hb:(g == k)=true:=beq_iff_eq.mpr h
        simp only [List.lookup,hb,if_neg (fun e:g=f=>hk (h.symm.trans e))]
      · have hb:(g == k)=false:=beq_eq_false_iff_ne.mpr h
        simp only [List.lookup,hb]
        exact ih
theorem keys_putF (f:Str) (v:V):∀ fs:List (Str × V),f∈(putF f v fs).map (·.1)∧∀ g,g∈fs.map (·.1)→g∈(putF f v fs).map (·.1)
  | []=>⟨by simp [putF],fun g h=>by simp at h⟩
  | (k,x) :: r=>by
    obtain ⟨i1,i2⟩:=keys_putF f v r
    rw [show putF f v ((k,x) :: r)=(if k=f then (k,v) :: r else (k,x) :: putF f v r) from rfl]
    by_cases hk:k=f
    · rw [if_pos hk]
      subst hk
      exact ⟨by simp,fun g h=>by simpa using h⟩
    · rw [if_neg hk]
      refine ⟨?_,fun g h=>?_⟩
      · rw [List.map_cons]
        exact List.mem_cons_of_mem _ i1
      · rw [List.map_cons] at h ⊢
        rcases List.mem_cons.mp h with e | e
        · exact List.mem_cons.mpr (.inl e)
        · exact List.mem_cons_of_mem _ (i2 g e)
theorem length_putF (f:Str) (v:V):∀ fs:List (Str × V),(putF f v fs).length≤fs.length + 1
  | []=>by simp [putF]
  | (k,x) :: r=>by
    have ih:=length_putF f v r
    rw [show putF f v ((k,x) :: r)=(if k=f then (k,v) :: r else (k,x) :: putF f v r) from rfl]
    by_cases hk:k=f
    · rw [if_pos hk,List.length_cons,List.length_cons];omega
    · rw [if_neg hk,List.length_cons,List.length_cons];omega
theorem RelO.some_of {v:V} {o:Option Value} (r:RelO (some v) o):∃ u,o=some u∧RelV v u:=by
  cases o with
  | none=>exact (show False from r).elim
  | some u=>exact ⟨u,rfl,r⟩
theorem RelO.none_of {o:Option Value} (r:RelO none o):o=none:=by
  cases o with
  | none=>rfl
  | some u=>exact (show False from r).elim
theorem handed_of {v:V} {u:Value} (r:RelV v u):PySem.W.handedIn u=true:=by
  cases v with
  | non=>cases (show u=Value.none from r);rfl
  | bl b=>cases (show u=Value.bool b from r);rfl
  | int i=>obtain ⟨t,e⟩:=(show ∃ t,u=Value.int i t from r);cases e;rfl
  | str x=>obtain ⟨t,e⟩:=(show ∃ t,u=Value.str x t from r);cases e;rfl
  | byt b=>obtain ⟨t,e⟩:=(show ∃ t,u=Value.bytes b t from r);cases e;rfl
  | flt b=>obtain ⟨t,e⟩:=(show ∃ t,u=Value.float b t from r);cases e;rfl
  | ref a=>cases (show u=Value.ref a from r);rfl
  | ty n=>cases (show u=Value.type n from r);rfl
section
variable {P:Program} {w:World} {H H':Hp} {h h':Heap} {a C dx:Addr} {fs fs':List (Str × V)}
theorem ins_get (hok:HOk P w H h) (e:H a=some (.ins C dx fs)):∃ mA,ObjM h a dx C mA∧(∀ f,RelO (fs.lookup f) (mA f))∧PySem.Within mA (fs.map (·.1))∧fs.length≤1000∧H dx=some (.own a):=by
  obtain ⟨d,z,ne,ob,mA,n,r,q⟩:=(show ObjOk P w H h a (.ins C dx fs) from hok a _ e)
  exact ⟨mA,⟨ob,n,ne⟩,r,q,z,d⟩
end
structure Cls (K:PySem.W.Frag) (C:Addr):Prop where
  pg:PySem.W.plainGet K C Str.empty=true
  hd:PySem.W.hasDictIn K C=true
  po:PySem.W.plainOver K C=true
  sa:PySem.W.findIn K (.ref C) "__setattr__"=some (some (.builtin "object.__setattr__"))
theorem Cls.get {K:PySem.W.Frag} {C:Addr} (c:Cls K C) (f:Str):PySem.W.plainGet K C f=true:=c.pg
def NoAttr (K:PySem.W.Frag) (C:Addr) (f:Str):Prop:=PySem.W.findIn K (.ref C) f=some none
theorem NoAttr.taker {K:PySem.W.Frag} {C:Addr} {f:Str} (n:NoAttr K C f):PySem.W.takerIn K C f=some none:=by
  unfold PySem.W.takerIn
  rw [show PySem.W.findIn K (.ref C) f=some none from n]
  rfl
structure Meth (K:PySem.W.Frag) (C:Addr) (m:Str) (f:Addr):Prop where
  at_:PySem.W.findIn K (.ref C) m=some (some (.ref f))
  fn:PySem.W.isFn K (.ref f)=true
  kp:PySem.W.keepIn K (.ref f)=true
section
variable {X:Cx} {pins:List (Addr × Obj)} {σ:St} {H:Hp} {s:Shared} {a C dx:Addr} {fs:List (Str × V)} {f:Str} {v:V} {A:Around} {E:Value→Shared→Prop}
theorem getattr_ok {b:Bool} {Q:Value→Shared→Prop} (I:Inv X pins σ H s) (e:H a=some (.ins C dx fs)) (c:Cls X.K C) (n:NoAttr X.K C f) (l:fs.lookup f=some v)
    (h:∀ u s',Inv X pins σ H s'→RelV v u→Q u s'):wpAny (model X.prog X.w) A (getAttr (.ref a) f b) Q E s:=by
  obtain ⟨mA,O,r,_,_,_⟩:=ins_get I.hok e
  obtain ⟨u,hu,ru⟩:=RelO.some_of (v:=v) (o:=mA f) (by rw [← l];exact r f)
  exact get_map I.kIn O (c.get f) c.hd n hu (handed_of ru) (h u _ (I.tok _) ru)
theorem getmeth_ok {m:Str} {g:Addr} {pl:Sem Bool} {Q:Value × List Value→Shared→Prop} (I:Inv X pins σ H s) (e:H a=some (.ins C dx fs)) (c:Cls X.K C) (k:Meth X.K C m g) (l:fs.lookup m=none)
    (h:Q (.ref g,[.ref a]) s):wpAny (model X.prog X.w) A (getMethod (.ref a) m pl) Q E s:=by
  obtain ⟨mA,O,r,_,_,_⟩:=ins_get I.hok e
  have hn:mA m=none:=RelO.none_of (by rw [← l];exact r m)
  exact get_meth I.kIn O (c.get m) k.at_ k.fn hn h
theorem setattr_ok {y:V} {u:Value} {Q:Unit→Shared→Prop} (I:Inv X pins σ H s) (e:H a=some (.ins C dx fs)) (c:Cls X.K C) (n:NoAttr X.K C f) (hl:fs.length < 1000) (ry:RelV y u)
    (h:∀ s',Inv X pins σ (upd H a (.ins C dx (putF f y fs))) s'→Q () s'):wpAny (model X.prog X.w) A (setAttr (.ref a) f u) Q E s:=by
  obtain ⟨mA,O,r,wi,_,ho⟩:=ins_get I.hok e
  have hz:(fs.map (·.1)).length≤sizeLine:=by rw [List.length_map,sizeLine_eq];omega
  refine set_map I.kIn O c.sa c.po n.taker c.hd wi hz fun h' O' sb=>h _ ?_
  have hd:∃ o,h'.get? dx=some o:=let ⟨o,_,_,e',_⟩:=O'.ns;⟨o,e'⟩
  refine I.write (x:=a) (e:=dx) (by rw [e];exact True.intro) (.inr ho) (fun b q hb z=>(sb.2 b hb).trans z) hd ?_
  refine ⟨by rw [upd_ne O.ne];exact ho,?_,O.ne,O'.obj,_,O'.ns,fun g=>?_,fun g hg=>?_⟩
  · have:=length_putF f y fs;omega
  · show RelO ((putF f y fs).lookup g) (if g=f then some u else mA g)
    rw [lookup_putF]
    by_cases q:g=f
    · rw [if_pos q,if_pos q];exact ry
    · rw [if_neg q,if_neg q];exact r g
  · by_cases q:g=f
    · rw [q];exact (keys_putF f y fs).1
    · refine (keys_putF f y fs).2 g (wi g fun z=>hg ?_)
      show (if g=f then some u else mA g)=none
      rw [if_neg q];exact z
theorem Inv.made (I:Inv X pins σ H s):Inv X pins σ (upd (upd H s.heap.objs.size (.own (s.heap.objs.size + 1))) (s.heap.objs.size + 1) (.ins C s.heap.objs.size []))
    { s with heap:=(s.heap.push PySem.W.emptyDict).push (PySem.W.instObj C s.heap.objs.size) }:=by
  have e1:(s.heap.push PySem.W.emptyDict).get? s.heap.objs.size=some PySem.W.emptyDict:=Heap.get?_push_size s.heap rfl
  have e2:((s.heap.push PySem.W.emptyDict).push (PySem.W.instObj C s.heap.objs.size)).get? (s.heap.objs.size + 1)=some (PySem.W.instObj C s.heap.objs.size):=by
    have:=Heap.get?_push_size (s.heap.push PySem.W.emptyDict) (o:=PySem.W.instObj C s.heap.objs.size) rfl
    rwa [Heap.size_push] at this
  have e3:(s.heap.push PySem.W.emptyDict).Ns s.heap.objs.size (fun _=>none):=⟨PySem.W.emptyDict,#[],_,e1,rfl,(fun e he=>absurd he (by simp)),fun _=>rfl⟩
  have I1:=I.laid (a:=s.heap.objs.size) (o:=.own (s.heap.objs.size + 1)) (h':=s.heap.push PySem.W.emptyDict) (t':=s.toks) (fun b u q=>Heap.get?_push_of_some _ q) (Nat.le_refl _) ⟨_,e1⟩
  refine I1.laid (a:=s.heap.objs.size + 1) (o:=.ins C s.heap.objs.size []) (t':=s.toks) (fun b u q=>Heap.get?_push_of_some _ q) (Nat.le_of_eq (Heap.size_push _ _)) ?_
  have ne:s.heap.objs.size≠s.heap.objs.size + 1:=Nat.ne_of_lt (Nat.lt_succ_self _)
  refine ⟨by rw [upd_ne ne,upd_same],Nat.zero_le _,ne,e2,fun _=>none,(Heap.Ns1.of_empty e3).at fun o q=>Heap.get?_push_of_some _ q,fun _=>True.intro,fun y hy=>absurd rfl hy⟩
theorem attr_of {prog:Program} {w:World} {env:Env} {e:Expr} {f:Str} {pos:Pos} {s:Shared} {Q:Value→Shared→Prop} (hb:attributeBase e f env (eval e env)=eval e env)
    (h:wpAny (model prog w) A (eval e env) (fun o s₁=>wpAny (model prog w) A (getAttr o f true) Q E s₁) E s):wpAny (model prog w) A (eval (.Attribute e f pos) env) Q E s :=
  Attribute_any_ h (by rw [arm_eval_Attribute,hb])
end
def tFld (K:PySem.W.Frag) (ta:TE) (f:Str):TE:=fun σ H Q=>ta σ H fun x H1=>∃ a C dx fs v,x=.ref a∧H1 a=some (.ins C dx fs)∧Cls K C∧NoAttr K C f∧fs.lookup f=some v∧Q v H1
def sFld (K:PySem.W.Frag) (ta tv:TE) (f:Str):TS:=fun D σ H=>tv σ H fun y H1=>ta σ H1 fun x H2=>∃ a C dx fs,x=.ref a∧H2 a=some (.ins C dx fs)∧Cls K C∧NoAttr K C f∧fs.length < 1000 ∧
  D.nx σ (upd H2 a (.ins C dx (putF f y fs)))
def sFldAug (K:PySem.W.Frag) (ta tv:TE) (rd:V→V→Hp→VK→Prop) (f:Str):TS:=fun D σ H=>ta σ H fun x H1=>∃ a C dx fs v,x=.ref a∧H1 a=some (.ins C dx fs)∧Cls K C∧NoAttr K C f∧fs.lookup f=some v ∧
  tv σ H1 fun y H2=>rd v y H2 fun z H3=>∃ dx' fs',H3 a=some (.ins C dx' fs')∧fs'.length < 1000∧D.nx σ (upd H3 a (.ins C dx' (putF f z fs')))
section
variable {X:Cx} {o e value:Expr} {f:Str} {pos pos' tpos:Pos} {ta tv:TE}
theorem pe_fld (he:PE X e ta) (hb:attributeBase e f X.env (eval e X.env)=eval e X.env):PE X (.Attribute e f pos) (tFld X.K ta f):=by
  intro pins s σ H Q I h
  refine attr_of hb (thn (he pins s σ H _ I h) fun u s1 ⟨x,H1,I1,rx,a,C,dx,fs,v,ex,ea,c,n,l,q⟩=>?_)
  subst ex
  obtain rfl:u=Value.ref a:=rx
  exact getattr_ok I1 ea c n l fun u' s2 I2 ru=>⟨v,H1,I2,ru,q⟩
theorem ps_fld (ha:PE X o ta) (hv:PE X value tv) (hs:swapsWith value (some (.Attribute o f pos')) pos.line X.env=pure false):PS X (.Assign [.Attribute o f pos'] value pos) (sFld X.K ta tv f):=by
  intro pins s σ H D I h
  refine plainObj_wpAny_Assign_Attribute (thn (hv pins s σ H _ I h) fun u s1 ⟨y,H1,I1,ry,q⟩=>thn (ha pins s1 σ H1 _ I1 q) fun ov s2 ⟨x,H2,I2,rx,a,C,dx,fs,ex,ea,c,n,l,q2⟩=>?_) hs
  subst ex
  obtain rfl:ov=Value.ref a:=rx
  exact setattr_ok I2 ea c n l ry fun s3 I3=>⟨σ,_,I3,q2⟩
def rAdd:V→V→Hp→VK→Prop:=fun x y H Q=>∃ i j,x=.int i∧y=.int j∧Q (.int (i + j)) H
end
section
variable {X:Cx} {pins:List (Addr × Obj)} {σ:St} {H:Hp} {s:Shared} {A:Around} {E:Value→Shared→Prop} {Q:Value→Shared→Prop} {c:Value} {b:Bool}
inductive TyOf (K:PySem.W.Frag) (H:Hp):V→Value→Prop where
  | non:TyOf K H .non (.type "NoneType")
  | bl (x:Bool):TyOf K H (.bl x) (.type "bool")
  | int (i:Int):TyOf K H (.int i) (.type "int")
  | str (x:Str):TyOf K H (.str x) (.type "str")
  | flt (x:UInt64):TyOf K H (.flt x) (.type "float")
  | lst {a:Addr} {xs:List V} (e:H a=some (.lst xs)):TyOf K H (.ref a) (.type "list")
  | frz {a:Addr} {o:Obj} {xs:List V} (e:H a=some (.frz o (.lst xs))):TyOf K H (.ref a) (.type "list")
  | tup {a:Addr} {xs:List V} (e:H a=some (.tup xs)):TyOf K H (.ref a) (.type "tuple")
  | dK {a:Addr} {kvs:List (Key × V)} (e:H a=some (.dK kvs)):TyOf K H (.ref a) (.type "dict")
  | dT {a:Addr} {kvs:List (List Key × V)} (e:H a=some (.dT kvs)):TyOf K H (.ref a) (.type "dict")
  | ins {a C dx:Addr} {fs:List (Str × V)} (e:H a=some (.ins C dx fs)) (cl:Cls K C) (ha:PySem.W.findIn K (.ref C) "__class__"=some (some (.builtin "object.__class__")))
      (hn:PySem.W.specialIn K (.builtin "object.__class__") "__get__"=some (some (.builtin "getset_descriptor.__get__"))) (htk:PySem.W.takesIn K (.builtin "object.__class__")=some true)
      (hm:PySem.W.mroIn K C (.type "object")=some true):TyOf K H (.ref a) (.ref C)
theorem isinst_ok {x:V} {u t:Value} (I:Inv X pins σ H s) (rx:RelV x u) (ty:TyOf X.K H x t) (e:PySem.W.kitOne X.K t c=some b) (h:∀ tk,Q (.bool b) { s with toks:=tk }) :
    wpAny (model X.prog X.w) A (call (.builtin "isinstance") [u,c]) Q E s:=by
  cases ty with
  | non=>cases (show u=Value.none from rx);exact PySem.W.kia_one PySem.W.kitx_none I.kIn True.intro e (fun z=>nomatch z) h
  | bl y=>cases (show u=Value.bool y from rx);exact PySem.W.kia_one PySem.W.kitx_bool I.kIn True.intro e (fun z=>nomatch z) h
  | int i=>obtain ⟨t,q⟩:=(show ∃ t,u=Value.int i t from rx);cases q;exact PySem.W.kia_one PySem.W.kitx_int I.kIn True.intro e (fun z=>nomatch z) h
  | str y=>obtain ⟨t,q⟩:=(show ∃ t,u=Value.str y t from rx);cases q;exact PySem.W.kia_one PySem.W.kitx_str I.kIn True.intro e (fun z=>nomatch z) h
  | flt y=>obtain ⟨t,q⟩:=(show ∃ t,u=Value.float y t from rx);cases q;exact PySem.W.kia_one PySem.W.kitx_float I.kIn True.intro e (fun z=>nomatch z) h
  | @lst a xs ea =>
    cases (show u=Value.ref a from rx)
    obtain ⟨_,_,n,_,h1⟩:=(show ObjOk X.prog X.w H s.heap a (.lst xs) from I.hok a _ ea)
    exact PySem.W.kia_one PySem.W.kitx_list I.kIn ⟨_,h1,rfl⟩ e (fun z=>nomatch z) h
  | @frz a ob xs ea =>
    cases (show u=Value.ref a from rx)
    obtain ⟨_,_,_,n,_,h1⟩:=(show ObjOk X.prog X.w H s.heap a (.frz ob (.lst xs)) from I.hok a _ ea)
    exact PySem.W.kia_one PySem.W.kitx_list I.kIn ⟨_,h1,rfl⟩ e (fun z=>nomatch z) h
  | @tup a xs ea =>
    cases (show u=Value.ref a from rx)
    obtain ⟨_,_,_,p⟩:=(show ObjOk X.prog X.w H s.heap a (.tup xs) from I.hok a _ ea)
    obtain ⟨o,h1,h2,_⟩:=p
    exact PySem.W.kia_one PySem.W.kitx_tuple I.kIn ⟨o,h1,h2⟩ e (fun z=>nomatch z) h
  | @dK a kvs ea =>
    cases (show u=Value.ref a from rx)
    obtain ⟨_,_,vs,_,p⟩:=(show ObjOk X.prog X.w H s.heap a (.dK kvs) from I.hok a _ ea)
    obtain ⟨o,es,ep,h1,h2,_⟩:=p
    exact PySem.W.kia_one PySem.W.kitx_dict I.kIn ⟨o,h1,h2.1⟩ e (fun z=>nomatch z) h
  | @dT a kvs ea =>
    cases (show u=Value.ref a from rx)
    obtain ⟨_,_,xs,_,o,es,ep,h1,h2,_⟩:=(show ObjOk X.prog X.w H s.heap a (.dT kvs) from I.hok a _ ea)
    exact PySem.W.kia_one PySem.W.kitx_dict I.kIn ⟨o,h1,h2.1⟩ e (fun z=>nomatch z) h
  | @ins a C dx fs ea cl ha hn htk hm =>
    cases (show u=Value.ref a from rx)
    obtain ⟨mA,O,_⟩:=ins_get I.hok ea
    obtain ⟨od,J,_⟩:=O.look
    exact PySem.W.kia_one (PySem.W.kitx_own (cl.get _) cl.hd ha hn htk hm) I.kIn J e (fun z=>nomatch z) h
end
end L2
namespace L2
open PySem PySem.Spec PyProof.Rows
structure Room (k:Nat) (A:Around):Prop where
  hd:A.handled=none
  dp:A.depth + 3 * k + 5 < recursionLimit
  un:A.units + 16 * k + 200 < cLine
theorem Room.mono {j k:Nat} {A:Around} (r:Room k A) (h:j≤k):Room j A:=⟨r.hd,by have:=r.dp;omega,by have:=r.un;omega⟩
theorem Room.deeper {k:Nat} {A:Around} (r:Room (k + 1) A) (env:Env):Room k (A.deeper env) :=
  ⟨r.hd,by have:=r.dp;show A.depth + 1 + 3 * k + 5 < _;omega,by have:=r.un;show A.units + 3 + 16 * k + 200 < _;omega⟩
theorem make_depth {A:Around} {C:Addr} {us:List Value} {kw:List (Str × Value)}:(A.under (.builtin "type.__call__" ⟨.ref C :: us,kw⟩)).depth=A.depth + 1:=by
  first | rfl | simp [Around.under,Code.weight,Code.isCreation,Code.isGuard,Code.isCaller,Code.frames,Code.isFrame,guardIds]
theorem make_units {A:Around} {C:Addr} {us:List Value} {kw:List (Str × Value)}:(A.under (.builtin "type.__call__" ⟨.ref C :: us,kw⟩)).units=A.units + 1:=by
  first | rfl | simp [Around.under,Code.cUnits,Code.frames,Code.isFrame]
theorem Room.make {k:Nat} {A:Around} (r:Room (k + 1) A) (C:Addr) (us:List Value) (kw:List (Str × Value)):Room k (A.under (.builtin "type.__call__" ⟨.ref C :: us,kw⟩)) :=
  ⟨r.hd,by have:=r.dp;rw [make_depth];omega,by have:=r.un;rw [make_units];omega⟩
theorem Room.depth {k:Nat} {A:Around} (r:Room k A):A.depth < recursionLimit:=by have:=r.dp;omega
theorem Room.units {k:Nat} {A:Around} (r:Room k A):A.units + 64 < cLine:=by have:=r.un;omega
def tNil:TA:=fun _ H Q=>Q [] H
def tCons (ta:TE) (tr:TA):TA:=fun σ H Q=>ta σ H fun x H1=>tr σ H1 fun xs H2=>Q (x :: xs) H2
section
variable {X:Cx} {e:Expr} {es:List Expr} {te:TE} {t:TA} {pos:Pos}
theorem pa_nil:PA X [] tNil:=fun _ _ _ _ H Q I h=>Calls.spliced_nil ⟨[],H,I,.nil,h⟩
theorem pa_cons (ha:PE X e te) (hr:PA X es t) (hs:starEach (e :: es) X.env=(false,eval e X.env) :: starEach es X.env:=by rfl):PA X (e :: es) (tCons te t):=by
  intro pos pins s σ H Q I h
  rw [hs]
  show wpAny _ _ (spliced ((false,eval e X.env) :: backTo pos (starEach es X.env))) _ _ s
  refine Calls.spliced_cons (thn (ha pins s σ H _ I h) fun u s1 ⟨x,H1,I1,r1,q1⟩=>?_)
  exact thn (hr pos pins s1 σ H1 _ I1 q1) fun us s2 ⟨xs,H2,I2,r2,q2⟩=>⟨x :: xs,H2,I2,.cons r1 r2,q2⟩
def tTup (t:TA):TE:=fun σ H Q=>t σ H fun xs H1=>xs.length≤sizeLine∧∀ p,H1 p=none→Q (.ref p) (upd H1 p (.tup xs))
def tLst (t:TA):TE:=fun σ H Q=>t σ H fun xs H1=>xs.length≤sizeLine∧∀ p,H1 p=none→Q (.ref p) (upd H1 p (.lst xs))
theorem pe_tup {x1} (h:PA X es t):PE X (.Tuple es x1 pos) (tTup t):=by
  intro pins s σ H Q I hq
  refine wpAny_Tuple_spliced (thn (h pos pins s σ H _ I hq) fun us s1 ⟨xs,H1,I1,r,z,q⟩=>⟨by rw [← r.length];exact z,?_⟩)
  have hf:H1 s1.heap.objs.size=none:=I1.hok.fresh (Nat.le_refl _)
  refine ⟨.ref s1.heap.objs.size,upd H1 s1.heap.objs.size (.tup xs),I1.laid (t':=s1.toks) (fun b u e=>Heap.get?_push_of_some _ e) (Nat.le_refl _) ?_,rfl,q _ hf⟩
  exact ⟨z,us,r,⟨_,Heap.get?_push_size _ rfl,rfl,_,rfl⟩⟩
theorem pe_lst (h:PA X es t):PE X (.List es pos) (tLst t):=by
  intro pins s σ H Q I hq
  refine wpAny_List_spliced (thn (h pos pins s σ H _ I hq) fun us s1 ⟨xs,H1,I1,r,z,q⟩=>⟨by rw [← r.length];exact z,?_⟩)
  have hf:H1 s1.heap.objs.size=none:=I1.hok.fresh (Nat.le_refl _)
  refine ⟨.ref s1.heap.objs.size,upd H1 s1.heap.objs.size (.lst xs),I1.laid (t':=s1.toks) (fun b u e=>Heap.get?_push_of_some _ e) (Nat.le_refl _) ?_,rfl,q _ hf⟩
  exact ⟨z,us,0,r,Heap.get?_push_size _ rfl⟩
end
abbrev Sp:=List V→Hp→VK→XK→Prop
abbrev CXT:=List Env→Hp→Shared→XK→Value→Shared→Prop
structure Env0 (P:Program) (w:World) (K:PySem.W.Frag) (mg:Str→Option Value) (base:Heap) (A:Around) (outer:List Env) (s:Shared) (H:Hp):Prop where
  frames:A.frames=some outer
  mod:Mod K mg base
  bs:∀ b o,base.get? b=some o→s.heap.get? b=some o∧H b=none
  bsz:base.objs.size≤s.heap.objs.size
  funs:s.heap.FunFrames base outer
  frf:∀ b∈frs outer,H b=none
  hok:HOk P w H s.heap
  bare:AllBare s.gens
def CE (outer:List Env) (P:Program) (w:World) (H:Hp) (s:Shared) (Q:VK) (u:Value) (s':Shared):Prop :=
  ∃ v H',s'.os=s.os∧AllBare s'.gens∧Un (frs outer) [] H H' s.heap s'.heap∧HOk P w H' s'.heap∧RelV v u∧Q v H'
def CR (CX:CXT) (outer:List Env) (P:Program) (w:World) (H:Hp) (s:Shared) (Q:VK) (E:XK) (r:Result) (s':Shared):Prop :=
  match r with
  | .ok (.ret u)=>CE outer P w H s Q u s'
  | .ok _=>False
  | .error e=>CX outer H s E e s'
structure FnOk (P:Program) (w:World) (K:PySem.W.Frag) (mg:Str→Option Value) (base:Heap) (CX:CXT) (k:Nat) (f:Addr) (fd:FuncData) (ps:List Str) (sp:Sp):Prop where
  len:∀ vs H Q E,sp vs H Q E→vs.length=ps.length
  run:∀ (A:Around) (outer:List Env) (s:Shared) (H:Hp) (args:Args) (us:List Value) (vs:List V) (Q:VK) (E:XK),Room k A→Env0 P w K mg base A outer s H→BindsTo s fd args (ps.zip us)→Vals vs us→sp vs H Q E →
    codeAny (model P w) A (.call (.ref f) args) (CR CX outer P w H s Q E) s
theorem FnOk.mono {P:Program} {w:World} {K:PySem.W.Frag} {mg:Str→Option Value} {base:Heap} {CX:CXT} {j k:Nat} {f:Addr} {fd:FuncData} {ps:List Str} {sp:Sp} (F:FnOk P w K mg base CX j f fd ps sp) (h:j≤k) :
    FnOk P w K mg base CX k f fd ps sp:=⟨F.len,fun A outer s H args us vs Q E hr=>F.run A outer s H args us vs Q E (hr.mono h)⟩
theorem Env0.make {P:Program} {w:World} {K:PySem.W.Frag} {mg:Str→Option Value} {base:Heap} {A:Around} {outer:List Env} {s:Shared} {H:Hp} (e:Env0 P w K mg base A outer s H) (C:Addr) (us:List Value) (kw:List (Str × Value)) :
    Env0 P w K mg base (A.under (.builtin "type.__call__" ⟨.ref C :: us,kw⟩)) outer s H:=⟨by first | exact e.frames | (simpa [Around.under,Code.envs,Code.isFrame,pushEnvs] using e.frames),e.mod,e.bs,e.bsz,e.funs,e.frf,e.hok,e.bare⟩
section
variable {X:Cx} {pins:List (Addr × Obj)} {σ:St} {H:Hp} {s s':Shared}
theorem Inv.env0 (I:Inv X pins σ H s):Env0 X.prog X.w X.K X.mg X.base X.A X.stack s H :=
  ⟨I.ok.frames,I.ok.mod,I.bs,Nat.le_trans I.ok.bsz I.sz,I.stack,I.stkFree,I.hok,I.bare⟩
theorem Inv.after {Q:VK} {u:Value} (I:Inv X pins σ H s) (h:CE X.stack X.prog X.w H s Q u s'):EP X pins σ Q u s':=by
  obtain ⟨v,H',os,bare,un,hok,r,q⟩:=h
  obtain ⟨hh,g,d,t,os'⟩:=s'
  obtain rfl:os'=s.os:=os
  exact ⟨v,H',I.call (h':=hh) (g':=g) (d':=d) (t':=t) (ch:=[]) un hok bare (fun b z=>absurd z (by simp)),r,q⟩
end
def tCall (sp:Sp) (dvs:List V) (E:XK) (t:TA):TE:=fun σ H Q=>t σ H fun vs H1=>sp (vs ++ dvs) H1 Q E
def tMeth (C:Addr) (m:Str) (sp:Sp) (dvs:List V) (E:XK) (ta:TE) (t:TA):TE:=fun σ H Q=>ta σ H fun x H1=>∃ a dx fs,x=.ref a∧H1 a=some (.ins C dx fs)∧fs.lookup m=none ∧
  t σ H1 fun vs H2=>sp (x :: (vs ++ dvs)) H2 Q E
def tMake (C:Addr) (sp:Sp) (dvs:List V) (E:XK) (t:TA):TE:=fun σ H Q=>t σ H fun vs H1=>∀ x dx,H1 x=none→H1 dx=none→dx≠x →
  sp (.ref x :: (vs ++ dvs)) (upd (upd H1 dx (.own x)) x (.ins C dx [])) (fun v H2=>v=.non∧Q (.ref x) H2) E
def Binds (K:PySem.W.Frag) (fd:FuncData) (ps:List Str) (ds:List Value):Prop :=
  ∀ (s:Shared) (us:List Value),K.In s.heap→(us ++ ds).length=ps.length→BindsTo s fd ⟨us,[]⟩ (ps.zip (us ++ ds))
theorem Binds.all {K:PySem.W.Frag} {fd:FuncData} {ps:List Str} (h:∀ us:List Value,us.length=ps.length→bindArgs fd ⟨us,[]⟩=pure (ps.zip us)):Binds K fd ps []:=fun s us _ hl=>by
  rw [List.append_nil] at hl ⊢
  exact .of_eq (h us hl)
def Passes (CX:CXT) (X:Cx) (E:XK):Prop:=∀ (pins:List (Addr × Obj)) (σ:St) (H:Hp) (s:Shared) (e:Value) (s':Shared),Inv X pins σ H s→CX X.stack H s E e s'→X.xe e s'
section
variable {X:Cx} {CX:CXT} {k:Nat} {f C:Addr} {fd:FuncData} {ps:List Str} {sp:Sp} {dvs:List V} {ds:List Value} {E:XK} {x m:Str} {p pos apos:Pos} {e o:Expr} {es:List Expr} {ta:TE} {t:TA}
theorem run_fn {pins:List (Addr × Obj)} {σ:St} {H:Hp} {s:Shared} {Q:VK} {us:List Value} {vs:List V} (F:FnOk X.prog X.w X.K X.mg X.base CX k f fd ps sp) (hr:Room k X.A) (hb:Binds X.K fd ps ds) (hd:Vals dvs ds) (hx:Passes CX X E)
    (I:Inv X pins σ H s) (r:Vals vs us) (h:sp (vs ++ dvs) H Q E):wpAny (model X.prog X.w) X.A (call (.ref f) us) (EP X pins σ Q) X.xe s:=by
  have r2:Vals (vs ++ dvs) (us ++ ds):=r.append hd
  have hl:(us ++ ds).length=ps.length:=by rw [← r2.length];exact F.len _ _ _ _ h
  refine wpAny_call (codeAny_mono (F.run X.A X.stack s H ⟨us,[]⟩ (us ++ ds) (vs ++ dvs) Q E hr I.env0 (hb s us I.kIn hl) r2 h) fun r s' hq=>?_)
  cases r with
  | error e=>exact hx pins σ H s e s' I hq
  | ok fl =>
    cases fl with
    | ret u=>exact I.after hq
    | next=>exact False.elim hq
    | brk=>exact False.elim hq
    | cont=>exact False.elim hq
theorem pe_call (F:FnOk X.prog X.w X.K X.mg X.base CX k f fd ps sp) (hr:Room k X.A) (hg:Gl X x) (hm:X.mg x=some (.ref f)) (hk:PySem.W.keepIn X.K (.ref f)=true) (hb:Binds X.K fd ps ds) (hd:Vals dvs ds) (hx:Passes CX X E)
    (ha:PA X (e :: es) t) (hdb:(x == ("__debug__":Str))=false:=by decide) (he:starEach (e :: es) X.env=(false,eval e X.env) :: starEach es X.env:=by rfl) (hpl:(backTo pos (starEach es X.env)).any (·.1)=false:=by rfl) :
    PE X (.Call (.Name x p) (e :: es) [] pos) (tCall sp dvs E t):=by
  intro pins s σ H Q I h
  refine wpAny_Call_Name_kw (ld_glob I hg hm ?_ hdb)
  refine PySem.W.callWith_K (h₀:=X.base) I.ok.mod.kin hk (thn (ha pos pins s σ H _ I h) fun us s1 ⟨vs,H1,I1,r,q⟩=>⟨I1.kIn,?_⟩) he hpl
  exact run_fn F hr hb hd hx I1 r q
theorem pe_call0 (F:FnOk X.prog X.w X.K X.mg X.base CX k f fd ps sp) (hr:Room k X.A) (hg:Gl X x) (hm:X.mg x=some (.ref f)) (hk:PySem.W.keepIn X.K (.ref f)=true) (hb:Binds X.K fd ps ds) (hd:Vals dvs ds) (hx:Passes CX X E)
    (hdb:(x == ("__debug__":Str))=false:=by decide):PE X (.Call (.Name x p) [] [] pos) (tCall sp dvs E tNil):=by
  intro pins s σ H Q I h
  refine wpAny_Call_Name_kw (ld_glob I hg hm ?_ hdb)
  exact PySem.W.callWith_K0 I.kIn hk (run_fn (us:=[]) F hr hb hd hx I .nil h)
theorem pe_meth {pl:Sem Bool} (he:PE X o ta) (c:Cls X.K C) (hm:Meth X.K C m f) (F:FnOk X.prog X.w X.K X.mg X.base CX k f fd ps sp) (hr:Room k X.A) (hb:Binds X.K fd ps ds) (hd:Vals dvs ds) (hx:Passes CX X E) (ha:PA X (e :: es) t)
    (hst:starEach (e :: es) X.env=(false,eval e X.env) :: starEach es X.env:=by rfl) (hpl:(backTo pos (starEach es X.env)).any (·.1)=false:=by rfl)
    (ht:eval (.Call (.Attribute o m apos) (e :: es) [] pos) X.env=(do
      let ov ← eval o X.env
      standAt apos.atName
      let (f,first) ← holding [ov] (getMethod ov m pl)
      callWith pos f first (backTo pos (starEach (e :: es) X.env)) (backToKw pos (keywordEach [] X.env))):=by rfl) :
    PE X (.Call (.Attribute o m apos) (e :: es) [] pos) (tMeth C m sp dvs E ta t):=by
  intro pins s σ H Q I h
  refine PySem.W.methodCall_KW (pl:=pl) (thn (he pins s σ H _ I h) fun u s1 ⟨x,H1,I1,rx,a,dx,fs,ex,ea,l,q⟩=>?_) ht
  subst ex
  obtain rfl:u=Value.ref a:=rx
  refine getmeth_ok I1 ea c hm l ?_
  refine PySem.W.callWith_K (first:=[.ref a]) (h₀:=X.base) I.ok.mod.kin hm.kp (thn (ha pos pins s1 σ H1 _ I1 q) fun us s2 ⟨vs,H2,I2,r,q2⟩=>⟨I2.kIn,?_⟩) hst hpl
  exact run_fn (us:=.ref a :: us) (vs:=.ref a :: vs) F hr hb hd hx I2 (.cons rfl r) q2
theorem pe_meth0 {pl:Sem Bool} (he:PE X o ta) (c:Cls X.K C) (hm:Meth X.K C m f) (F:FnOk X.prog X.w X.K X.mg X.base CX k f fd ps sp) (hr:Room k X.A) (hb:Binds X.K fd ps ds) (hd:Vals dvs ds) (hx:Passes CX X E)
    (ht:eval (.Call (.Attribute o m apos) [] [] pos) X.env=(do
      let ov ← eval o X.env
      standAt apos.atName
      let (f,first) ← holding [ov] (getMethod ov m pl)
      callWith pos f first (backTo pos (starEach [] X.env)) (backToKw pos (keywordEach [] X.env))):=by rfl) :
    PE X (.Call (.Attribute o m apos) [] [] pos) (tMeth C m sp dvs E ta tNil):=by
  intro pins s σ H Q I h
  refine PySem.W.methodCall_KW (pl:=pl) (thn (he pins s σ H _ I h) fun u s1 ⟨x,H1,I1,rx,a,dx,fs,ex,ea,l,q⟩=>?_) ht
  subst ex
  obtain rfl:u=Value.ref a:=rx
  refine getmeth_ok I1 ea c hm l ?_
  exact PySem.W.callWith_K0 (first:=[.ref a]) I1.kIn hm.kp (run_fn (us:=[.ref a]) (vs:=[.ref a]) F hr hb hd hx I1 (.cons rfl .nil) q)
structure Mk (K:PySem.W.Frag) (C f:Addr):Prop where
  makes:PySem.W.makesIn K C=true
  init:PySem.W.findIn K (.ref C) "__init__"=some (some (.ref f))
  fn:PySem.W.isFn K (.ref f)=true
  kp:PySem.W.keepIn K (.ref C)=true
theorem run_make {pins:List (Addr × Obj)} {σ:St} {H:Hp} {s:Shared} {Q:VK} {us:List Value} {vs:List V} (M:Mk X.K C f) (F:FnOk X.prog X.w X.K X.mg X.base CX k f fd ps sp) (hr:Room (k + 1) X.A) (hb:Binds X.K fd ps ds) (hd:Vals dvs ds)
    (hx:Passes CX X E) (I:Inv X pins σ H s) (r:Vals vs us)
    (h:∀ x dx,H x=none→H dx=none→dx≠x→sp (.ref x :: (vs ++ dvs)) (upd (upd H dx (.own x)) x (.ins C dx [])) (fun v H2=>v=.non∧Q (.ref x) H2) E) :
    wpAny (model X.prog X.w) X.A (call (.ref C) us) (EP X pins σ Q) X.xe s:=by
  have hq:=h (s.heap.objs.size + 1) s.heap.objs.size (I.hok.fresh (Nat.le_succ _)) (I.hok.fresh (Nat.le_refl _)) (Nat.ne_of_lt (Nat.lt_succ_self _))
  have I2:=Inv.made (C:=C) I
  have r2:Vals (V.ref (s.heap.objs.size + 1) :: (vs ++ dvs)) (Value.ref (s.heap.objs.size + 1) :: (us ++ ds)):=.cons rfl (r.append hd)
  have hl:(Value.ref (s.heap.objs.size + 1) :: us ++ ds).length=ps.length:=by
    have e:=r2.length
    rw [F.len _ _ _ _ hq] at e
    exact e.symm
  refine wpAny_call (make_map (f:=f) I.kIn M.makes M.init (beq_iff_eq.mp M.fn) (codeAny_mono (F.run _ X.stack _ _ ⟨Value.ref (s.heap.objs.size + 1) :: us,[]⟩ (Value.ref (s.heap.objs.size + 1) :: (us ++ ds)) _ _ E (hr.make C us [])
    (I2.env0.make C us []) (hb _ (Value.ref (s.heap.objs.size + 1) :: us) I2.kIn hl) r2 hq) fun r s' hq'=>?_))
  cases r with
  | error e=>exact hx pins σ _ _ e s' I2 hq'
  | ok fl =>
    cases fl with
    | ret u =>
      obtain ⟨v,H',I3,rv,ev,q3⟩:=I2.after hq'
      subst ev
      exact ⟨rv,⟨V.ref (s.heap.objs.size + 1),H',I3,rfl,q3⟩⟩
    | next=>exact False.elim hq'
    | brk=>exact False.elim hq'
    | cont=>exact False.elim hq'
theorem pe_make (M:Mk X.K C f) (F:FnOk X.prog X.w X.K X.mg X.base CX k f fd ps sp) (hr:Room (k + 1) X.A) (hg:Gl X x) (hm:X.mg x=some (.ref C)) (hb:Binds X.K fd ps ds) (hd:Vals dvs ds) (hx:Passes CX X E)
    (ha:PA X (e :: es) t) (hdb:(x == ("__debug__":Str))=false:=by decide) (he:starEach (e :: es) X.env=(false,eval e X.env) :: starEach es X.env:=by rfl) (hpl:(backTo pos (starEach es X.env)).any (·.1)=false:=by rfl) :
    PE X (.Call (.Name x p) (e :: es) [] pos) (tMake C sp dvs E t):=by
  intro pins s σ H Q I h
  refine wpAny_Call_Name_kw (ld_glob I hg hm ?_ hdb)
  refine PySem.W.callWith_K (h₀:=X.base) I.ok.mod.kin M.kp (thn (ha pos pins s σ H _ I h) fun us s1 ⟨vs,H1,I1,r,q⟩=>⟨I1.kIn,?_⟩) he hpl
  exact run_make M F hr hb hd hx I1 r q
end
section
variable {X:Cx} {CX:CXT} {k:Nat} {f C:Addr} {fd:FuncData} {ps ks:List Str} {sp:Sp} {E:XK} {x m:Str} {p pos apos kpos:Pos} {e o:Expr} {es:List Expr} {kws:List Keyword} {te ta:TE} {t tk:TA} {nm:Option Str}
variable {g:List Value→List Value→List Value} {gV:List V→List V→List V}
end
structure FnScope (N P:List Str) (sc:Scope):Prop where
  kind:sc.kind=.function
  co:sc.isCoroutine=false
  gen:sc.isGenerator=false
  nd:N.Nodup
  pre:N.take P.length=P
  par:∀ x∈P,sc.names.lookup x=some .local∨sc.names.lookup x=some .cell
  nofree:∀ y∈sc.names,y.2≠.free
theorem bindL_out {kindOf:Str→Option NameKind} {x:Str}:∀ {binds:List (Str × Value)} {m:Str→Option Value},(∀ v,(x,v) ∉ binds)→bindL kindOf binds m x=m x
  | [],_,_=>rfl
  | (n,v) :: r,m,h=>by
    unfold bindL
    rw [bindL_out fun w hw=>h w (List.mem_cons_of_mem _ hw)]
    split
    · have:x≠n:=by rintro rfl;exact h v List.mem_cons_self
      simp [this]
    · rfl
theorem bindC_out {kindOf:Str→Option NameKind} {x:Str}:∀ {binds:List (Str × Value)} {m:Str→Option Value},(∀ v,(x,v) ∉ binds)→bindC kindOf binds m x=m x
  | [],_,_=>rfl
  | (n,v) :: r,m,h=>by
    unfold bindC
    rw [bindC_out fun w hw=>h w (List.mem_cons_of_mem _ hw)]
    split
    · rfl
    · have:x≠n:=by rintro rfl;exact h v List.mem_cons_self
      simp [this]
theorem bindL_get {kindOf:Str→Option NameKind} {x:Str} {v:Value}:∀ {P:List Str} {vs:List Value} {i:Nat} {m:Str→Option Value},P.Nodup→P[i]?=some x→vs[i]?=some v→kindOf x=some .local →
    bindL kindOf (P.zip vs) m x=some v
  | [],_,_,_,_,h,_,_=>by simp at h
  | _ :: _,[],_,_,_,_,h,_=>by simp at h
  | p :: P,w :: vs,0,m,nd,h1,h2,hk=>by
    simp at h1 h2;subst h1;subst h2
    show bindL kindOf ((p,w) :: P.zip vs) m p=_
    unfold bindL
    rw [bindL_out fun v hv=>(List.nodup_cons.mp nd).1 (List.of_mem_zip hv).1,if_pos hk]
    simp
  | p :: P,w :: vs,i + 1,m,nd,h1,h2,hk=>by
    show bindL kindOf ((p,w) :: P.zip vs) m x=_
    unfold bindL
    exact bindL_get (i:=i) (List.nodup_cons.mp nd).2 (by simpa using h1) (by simpa using h2) hk
theorem bindC_get {kindOf:Str→Option NameKind} {x:Str} {v:Value}:∀ {P:List Str} {vs:List Value} {i:Nat} {m:Str→Option Value},P.Nodup→P[i]?=some x→vs[i]?=some v→kindOf x≠some .local →
    bindC kindOf (P.zip vs) m x=some v
  | [],_,_,_,_,h,_,_=>by simp at h
  | _ :: _,[],_,_,_,_,h,_=>by simp at h
  | p :: P,w :: vs,0,m,nd,h1,h2,hk=>by
    simp at h1 h2;subst h1;subst h2
    show bindC kindOf ((p,w) :: P.zip vs) m p=_
    unfold bindC
    rw [bindC_out fun v hv=>(List.nodup_cons.mp nd).1 (List.of_mem_zip hv).1,if_neg hk]
    simp
  | p :: P,w :: vs,i + 1,m,nd,h1,h2,hk=>by
    show bindC kindOf ((p,w) :: P.zip vs) m x=_
    unfold bindC
    exact bindC_get (i:=i) (List.nodup_cons.mp nd).2 (by simpa using h1) (by simpa using h2) hk
def start (N:List Str) (vs:List V):St:=vs.map some ++ List.replicate (N.length - vs.length) none
def cxOf (CX:CXT) (P:Program) (w:World) (K:PySem.W.Frag) (mg:Str→Option Value) (base:Heap) (N:List Str) (qual:Str) (scope:Scope) (f:Addr) (cd:Value) (A:Around) (outer:List Env) (s:Shared) (H:Hp) (E:XK):Cx where
  prog:=P
  w:=w
  K:=K
  mg:=mg
  base:=base
  A:=A.deeper (envOfC qual scope s.heap.objs.size f cd)
  N:=N
  s₀:=s
  H₀:=H
  env:=envOfC qual scope s.heap.objs.size f cd
  outer:=outer
  stack:=envOfC qual scope s.heap.objs.size f cd :: outer
  ex:=[]
  calm:=true
  fn:=fun _=>true
  pn:=[]
  xe:=fun e s'=>wpAny (model P w) (A.deeper (envOfC qual scope s.heap.objs.size f cd)) (leaving (envOfC qual scope s.heap.objs.size f cd) e) (fun _ s''=>CX outer H s E e s'') (fun e' s''=>CX outer H s E e' s'') s'
theorem cell_has {sc:Scope} {n:Nat} {x:Str} (h:sc.names.lookup x=some .cell):∃ c,(cellsFrom n sc.names []).lookup x=some c:=by
  have q:=PySem.W.cellsFrom_some sc.names n [] (.inl h)
  exact Option.isSome_iff_exists.mp q
theorem inv_start {CX:CXT} {P:Program} {w:World} {K:PySem.W.Frag} {mg:Str→Option Value} {base:Heap} {N ps:List Str} {qual:Str} {scope:Scope} {f:Addr} {cd:Value} {A:Around} {outer:List Env} {s s1:Shared} {H:Hp} {E:XK} {us:List Value} {vs:List V}
    (S:FnScope N ps scope) (hd:A.handled=none) (e0:Env0 P w K mg base A outer s H) (hl:vs.length=ps.length) (r:Vals vs us)
    (x:InCallC s s.heap.objs.size (bindL (envOfC qual scope s.heap.objs.size f cd).kindOf (ps.zip us) fun _=>none) (cellsFrom (s.heap.objs.size + 1) scope.names []) (bindC (envOfC qual scope s.heap.objs.size f cd).kindOf (ps.zip us) fun _=>none) s1) :
    Inv (cxOf CX P w K mg base N qual scope f cd A outer s H E) [] (start N vs) H s1:=by
  have hpl:ps.length≤N.length:=by have:=congrArg List.length S.pre;rw [List.length_take] at this;omega
  obtain ⟨h1,tk,rfl,hk⟩:=x.done
  have noA:∀ b:Addr,b ∉ (cxOf CX P w K mg base N qual scope f cd A outer s H E).ex:=fun b z=>absurd (show b∈([]:List Addr) from z) (by simp)
  refine ⟨⟨e0.mod,S.kind,rfl,rfl,Nat.le_refl _,fun y z c h1 h2=>?_,fun y hy=>?_,fun y c _ h=>?_,fun _=>hd,Around.frames_deeper e0.frames,.inr ⟨rfl,rfl⟩,fun b z=>absurd z (noA b),e0.bs,e0.bsz,fun b _ _=>noA b,fun b z=>absurd z (noA b),e0.funs,e0.frf⟩,
    rfl,e0.bare,Un.kept hk,⟨_,x.toInCall.ns,fun i y v h1 h2 h3=>?_⟩,fun y c h=>⟨_,x.cell y c h⟩,e0.hok.fresh (Nat.le_refl _),fun y c h=>?_,fun p hp=>absurd (show p∈([]:List (Addr × Obj)) from hp) (by simp),e0.hok.kept hk,?_⟩
  · exact name_of_addr x.apart (PySem.mem_of_lookup h1) (PySem.mem_of_lookup h2)
  · have hy:scope.names.lookup y=some .cell∨scope.names.lookup y=some .free:=hy
    rcases hy with hy | hy
    · exact cell_has hy
    · exact absurd rfl (S.nofree _ (PySem.mem_of_lookup hy))
  · exact Nat.le_of_lt (x.above y c (PySem.mem_of_lookup h))
  · have hi:i < vs.length:=by
      unfold start at h2
      by_cases hi:i < vs.length
      · exact hi
      · rw [List.getElem?_append_right (by simpa using hi)] at h2
        rw [List.getElem?_replicate] at h2
        split at h2 <;> cases h2
    have ha:vs[i]?=some v:=by
      unfold start at h2
      rw [List.getElem?_append_left (by simpa using hi),List.getElem?_map] at h2
      cases e:vs[i]? with
      | none=>rw [e] at h2;cases h2
      | some a=>rw [e] at h2;cases h2;rfl
    obtain ⟨u,hu,rv⟩:=r.get ha
    have hp:ps[i]?=some y:=by
      rw [← S.pre,List.getElem?_take_of_lt (by omega)];exact h1
    have ndP:ps.Nodup:=by rw [← S.pre];exact S.nd.sublist (List.take_sublist _ _)
    refine ⟨u,rv,?_⟩
    rcases S.par y (List.mem_of_getElem? hp) with k | k
    · exact .inl ⟨k,bindL_get ndP hp hu k⟩
    · obtain ⟨c,e⟩:=cell_has (n:=s.heap.objs.size + 1) k
      refine .inr ⟨.inl k,c,e,?_⟩
      have q:=x.cell y c e
      rw [bindC_get ndP hp hu (by show scope.names.lookup y≠_;rw [k];decide)] at q
      exact q
  · exact e0.hok.fresh (Nat.le_of_lt (x.above y c (PySem.mem_of_lookup h)))
  · unfold start
    show _=N.length
    rw [List.length_append,List.length_map,List.length_replicate]
    omega
theorem fn_of {CX:CXT} {P:Program} {w:World} {K:PySem.W.Frag} {mg:Str→Option Value} {base:Heap} {k:Nat} {f:Addr} {name qual:Str} {params:Arguments} {body:List Stmt} {scope:Scope} {dV kV doc pm cdv ct oc:Value} {an od:Option Addr}
    {osl:Array (Option Value)} {N ps:List Str} {sp:Sp} (lk:K.lookup f=some ⟨oc,od,.func (PySem.W.fnOf name qual params body scope dV kV doc pm an cdv ct),osl⟩) (hcd:PySem.W.codeIn K cdv qual=true) (S:FnScope N ps scope)
    (len:∀ vs H Q E,sp vs H Q E→vs.length=ps.length)
    (hbody:∀ (A:Around) (outer:List Env) (s:Shared) (H:Hp) (vs:List V) (Q:VK) (E:XK),Room k (A.deeper (envOfC qual scope s.heap.objs.size f cdv))→sp vs H Q E →
      ∃ t,PSs (cxOf CX P w K mg base N qual scope f cdv A outer s H E) body t∧t { nx:=fun _ H'=>Q .non H',rt:=Q } (start N vs) H) :
    FnOk P w K mg base CX (k + 1) f (PySem.W.fnOf name qual params body scope dV kV doc pm an cdv ct) ps sp:=by
  refine ⟨len,fun A outer s H args us vs Q E hr e0 hb r hsp=>?_⟩
  have hl:=len _ _ _ _ hsp
  have KX:K.In s.heap:=e0.mod.kin.keeps fun b o e=>(e0.bs b o e).1
  have lim:s.heap.NoLimit:=e0.mod.nolimit.keeps fun b o e=>(e0.bs b o e).1
  have hkind:∀ y∈ps.zip us,scope.names.lookup y.1=some .local∨(scope.names.lookup y.1=some .cell∧((cellsFrom (s.heap.objs.size + 1) scope.names []).lookup y.1).isSome=true):=fun ⟨n,v⟩ hy=>by
    rcases S.par n (List.of_mem_zip hy).1 with q | q
    · exact .inl q
    · exact .inr ⟨q,PySem.W.cellsFrom_some _ _ _ (.inl q)⟩
  refine codeAny_call_function hr.depth (KX _ _ lk) rfl S.co S.gen rfl (PySem.W.codeRec_of KX hcd) (hb _ _ _ _ ?_)
  refine wpAny_newFunctionEnv_cells S.kind hkind fun env he s1 x=>?_
  subst he
  refine ⟨lim.keeps x.toInCall.keep,codeAny_func ?_⟩
  obtain ⟨t,ht,hq⟩:=hbody A outer s H vs Q E (hr.deeper _) hsp
  have I:Inv (cxOf CX P w K mg base N qual scope f cdv A outer s H E) [] (start N vs) H s1:=inv_start S hr.hd e0 hl r x
  refine wpAny_mono (ht [] s1 (start N vs) H _ I hq) (fun fl s' hs=>?_) fun e s' hs=>hs
  have fin:∀ {σ':St} {H':Hp} {v:V} {u:Value},Inv (cxOf CX P w K mg base N qual scope f cdv A outer s H E) [] σ' H' s'→RelV v u→Q v H'→CE outer P w H s Q u s' :=
    fun {σ' H' v u} J rv q=>⟨v,H',J.os,J.bare,J.base,J.hok,rv,q⟩
  cases fl with
  | ret u =>
    obtain ⟨v,σ',H',J,rv,q⟩:=hs
    exact fin J rv q
  | next =>
    obtain ⟨σ',H',J,q⟩:=hs
    exact fin (v:=V.non) (u:=Value.none) J rfl q
  | brk =>
    obtain ⟨_,_,_,q⟩:=hs
    exact False.elim q
  | cont =>
    obtain ⟨_,_,_,q⟩:=hs
    exact False.elim q
end L2
namespace L2
open PySem PySem.Spec PyProof.Rows
section
variable {X:Cx} {x:Str} {p pos:Pos} {e:Expr} {es:List Expr} {t:TA} {id T:String} {r:List V→Hp→VK→Prop}
def tCB (r:List V→Hp→VK→Prop) (t:TA):TE:=fun σ H Q=>t σ H fun vs H1=>r vs H1 Q
theorem pe_callB (hc:CallR X (.builtin id) r) (hg:Gl X x) (hm:X.mg x=none) (hv:bootBuiltins x=some (.builtin id)) (ha:PA X (e :: es) t) (hn:x≠"__name__":=by decide) (hdb:(x == ("__debug__":Str))=false:=by decide)
    (he:starEach (e :: es) X.env=(false,eval e X.env) :: starEach es X.env:=by rfl) (hpl:(backTo pos (starEach es X.env)).any (·.1)=false:=by rfl):PE X (.Call (.Name x p) (e :: es) [] pos) (tCB r t):=by
  intro pins s σ H Q I h
  refine wpAny_Call_Name_kw (ld_blt I hg hm hv ?_ hn hdb)
  exact PyProof.Rows.callWith_builtin1 (thn (ha pos pins s σ H _ I h) fun us s1 ⟨vs,H1,I1,r1,q1⟩=>hc pins s1 σ H1 vs us Q I1 r1 q1) he hpl
theorem pe_callTy (hc:CallR X (.type T) r) (hg:Gl X x) (hm:X.mg x=none) (hv:bootBuiltins x=some (.type T)) (ha:PA X (e :: es) t) (hn:x≠"__name__":=by decide) (hdb:(x == ("__debug__":Str))=false:=by decide)
    (he:starEach (e :: es) X.env=(false,eval e X.env) :: starEach es X.env:=by rfl) (hpl:(backTo pos (starEach es X.env)).any (·.1)=false:=by rfl):PE X (.Call (.Name x p) (e :: es) [] pos) (tCB r t):=by
  intro pins s σ H Q I h
  refine wpAny_Call_Name_kw (ld_blt I hg hm hv ?_ hn hdb)
  exact PyProof.Rows.callWith_type1 (thn (ha pos pins s σ H _ I h) fun us s1 ⟨vs,H1,I1,r1,q1⟩=>hc pins s1 σ H1 vs us Q I1 r1 q1) he hpl
end
end L2
namespace HT
open PySem PyProof.Rows
def lexLt:List Int→List Int→Bool
  | [],[]=>false
  | [],_ :: _=>true
  | _ :: _,[]=>false
  | x :: xs,y :: ys=>if x=y then lexLt xs ys else decide (x < y)
theorem rcLt_int (A:Around) (s:Shared) (a:Int) (t:Tok) (c:Int) (u:Tok) (prog:Program) (w:World) (E:Value→Shared→Prop) (Q:Value→Shared→Prop) (h:Q (.bool (decide (a < c))) s) :
    wpAny (model prog w) A (richCompare .Lt (.int a t) (.int c u)) Q E s :=
  (PyProof.Rows.lt_int h:wpAny (model prog w) A (compareOp .Lt (.int a t) (.int c u)) Q E s)
section
open PySem.SeqAt
open PySem.AutoSeq1 (wpAny_loadPart')
open PySem.MeetsSeq PySem.MeetsSeq2 PySem.MeetsSeq3
end
section
variable {prog:Program} {w:World} {A:Around} {E:Value→Shared→Prop} {s:Shared}
def sIx (n d:Nat):Option Int→Nat
  | none=>d
  | some v=>if v < 0 then (v + (n:Int)).toNat else min v.toNat n
theorem sIx_none (n d:Nat):sIx n d none=d:=rfl
theorem sIx_nat (n d k:Nat):sIx n d (some (k:Int))=min k n:=by
  show (if (k:Int) < 0 then ((k:Int) + (n:Int)).toNat else min (k:Int).toNat n)=min k n
  rw [if_neg (by omega),Int.toNat_natCast]
theorem sIx_le (n d:Nat) (hd:d≤n) (o:Option Int):sIx n d o≤n:=by
  cases o with
  | none=>exact hd
  | some v =>
    show (if v < 0 then (v + (n:Int)).toNat else min v.toNat n)≤n
    by_cases hv:v < 0
    · rw [if_pos hv];omega
    · rw [if_neg hv];exact Nat.min_le_right _ _
theorem clip_eq (v:Int) (n d:Nat):(if v < 0 then max (v + (n:Int)) 0 else min v (n:Int))=((sIx n d (some v):Nat):Int):=by
  show (if v < 0 then max (v + (n:Int)) 0 else min v (n:Int))=(((if v < 0 then (v + (n:Int)).toNat else min v.toNat n):Nat):Int)
  by_cases hv:v < 0
  · simp only [if_pos hv];omega
  · simp only [if_neg hv];omega
theorem adjust_gen (lo hi:Option Int) (n:Nat):Builtin.Slice.sliceAdjust lo hi 1 (n:Int)=(((sIx n 0 lo:Nat):Int),((sIx n n hi:Nat):Int)):=by
  have h1:¬ ((1:Int) < 0):=by omega
  unfold Builtin.Slice.sliceAdjust
  simp only [h1,if_false]
  refine Prod.ext ?_ ?_
  · cases lo with
    | none=>rfl
    | some v=>exact clip_eq v n 0
  · cases hi with
    | none=>rfl
    | some v=>exact clip_eq v n n
theorem places_gen (i j:Nat):Builtin.Slice.slicePlaces (i:Int) (j:Int) 1=j - i:=by
  unfold Builtin.Slice.slicePlaces
  have h1:(1:Int) > 0:=by omega
  simp only [h1,if_true,Int.ediv_one]
  split <;> omega
theorem slicePart_ {v:Value} {o:Option Int} {Q:Option Int→Shared→Prop} (p:IsPart v o) (h:Q o s):wpAny (model prog w) A (Builtin.Slice.slicePartIndex v) Q E s:=by
  cases p with
  | none=>exact slicePart_none h
  | int i t=>exact slicePart_int h
theorem sliceApplied_gen {sl:Addr} {vl vu:Value} {lo hi:Option Int} {n:Nat} {Q:Int × Int × Nat→Shared→Prop} (hs:s.heap.IsSliceOf sl vl vu .none) (pl:IsPart vl lo) (pu:IsPart vu hi)
    (h:Q (((sIx n 0 lo:Nat):Int),1,sIx n n hi - sIx n 0 lo) s):wpAny (model prog w) A (Builtin.Slice.sliceApplied (.ref sl) (pure (n:Int))) Q E s:=by
  obtain ⟨os,hos,hcs,hds⟩:=id hs
  unfold Builtin.Slice.sliceApplied Builtin.Slice.sliceFields
  refine wpAny_bind (wpAny_bind (wpAny_field hos hds (x:=vl) rfl (wpAny_bind (wpAny_field hos hds (x:=vu) rfl (wpAny_bind (wpAny_field hos hds (x:=.none) rfl (wpAny_pure ?_)))))))
  refine wpAny_bind (slicePart_none ?_)
  show wpAny _ _ (if ((1:Int) == 0)=true then _ else _) _ _ s
  rw [if_neg (by decide)]
  refine wpAny_bind (slicePart_ pl (wpAny_bind (slicePart_ pu (wpAny_bind (wpAny_pure ?_)))))
  show wpAny _ _ (match Builtin.Slice.sliceAdjust lo hi 1 (n:Int) with | (lo,hi)=>pure (lo,(1:Int),Builtin.Slice.slicePlaces lo hi 1)) _ _ s
  rw [adjust_gen lo hi n]
  show wpAny _ _ (pure (((sIx n 0 lo:Nat):Int),(1:Int),Builtin.Slice.slicePlaces ((sIx n 0 lo:Nat):Int) ((sIx n n hi:Nat):Int) 1)) _ _ s
  rw [places_gen]
  exact wpAny_pure h
theorem pick_gen (xs:Array Value) (i k:Nat):((List.range k).filterMap fun (m:Nat)=>xs[((i:Int) + (m:Int) * 1).toNat]?).toArray=((xs.toList.drop i).take k).toArray:=by
  have e:(fun (m:Nat)=>xs[((i:Int) + (m:Int) * 1).toNat]?)=fun m=>xs[i + m]?:=by
    funext m
    have:((i:Int) + (m:Int) * 1).toNat=i + m:=by omega
    rw [this]
  rw [e]
  have:=pick_run xs i k
  rw [List.filterMap_map] at this
  have e2:((fun x=>xs[x]?) ∘ fun x=>i + x)=fun m=>xs[i + m]?:=rfl
  rw [e2] at this
  rw [this]
theorem getItem_tuple_cut {t sl:Addr} {items:Array Value} {vl vu:Value} {lo hi:Option Int} {Q:Value→Shared→Prop} (ht:IsTup s.heap t items) (hs:s.heap.IsSliceOf sl vl vu .none) (pl:IsPart vl lo) (pu:IsPart vu hi)
    (hw:¬ (sIx items.size 0 lo=0∧sIx items.size items.size hi=items.size))
    (h:Q (.ref s.heap.objs.size) { s with heap:=s.heap.push { cls:=.type "tuple",data:=.seq ((items.toList.drop (sIx items.size 0 lo)).take (sIx items.size items.size hi - sIx items.size 0 lo)).toArray } })
    (hsz:items.size≤sizeLine):wpAny (model prog w) A (getItem (.ref t) (.ref sl)) Q E s:=by
  have htake:sizeOk (.seq ((items.toList.drop (sIx items.size 0 lo)).take (sIx items.size items.size hi - sIx items.size 0 lo)).toArray):=by
    show ((items.toList.drop (sIx items.size 0 lo)).take (sIx items.size items.size hi - sIx items.size 0 lo)).toArray.size≤sizeLine
    rw [List.size_toArray,List.length_take,List.length_drop,Array.length_toList]
    omega
  have hj:sIx items.size items.size hi≤items.size:=sIx_le _ _ (Nat.le_refl _) hi
  obtain ⟨os,hos,hcs,hds⟩:=id hs
  have hTs:s.TypeIs (.ref sl) "slice":=⟨os,hos,hcs⟩
  unfold getItem
  try with_reducible refine wpAny_holding ?_
  first | refine wpAny_bind (wpAny_pure ?_) | skip
  refine wpAny_bind (wpAny_sequenceKey ht.typeIs (by decide) ?_)
  refine wpAny_bind (wpAny_callSpecial?_slot (name:=Str.ofString "__getitem__") ht.typeIs PyProof.Rows.slot_tuple_getitem
    (wpAny_call_entry PyProof.Rows.slot_tuple_getitem ht.typeIs entry_tuple_getitem ?_ (args_tuple_getitem _ _)))
  show wpAny _ _ (Builtin.Tuple.tupleItemsOf (.ref t) >>= _) _ _ s
  refine wpAny_bind (tupleItemsOf_ ht ?_)
  refine wpAny_bind (wpAny_typeOf hTs ?_)
  rw [if_pos (by decide)]
  refine wpAny_bind (sliceApplied_gen hs pl pu ?_)
  have hno:¬ ((((sIx items.size 0 lo:Nat):Int) == 0 && (1:Int) == 1 && (sIx items.size items.size hi - sIx items.size 0 lo) == items.size)=true):=by
    intro q
    rw [Bool.and_eq_true,Bool.and_eq_true] at q
    have q1:((sIx items.size 0 lo:Nat):Int)=0:=eq_of_beq q.1.1
    have q2:sIx items.size items.size hi - sIx items.size 0 lo=items.size:=eq_of_beq q.2
    exact hw ⟨by omega,by omega⟩
  show wpAny _ _ (if (((sIx items.size 0 lo:Nat):Int) == 0 && (1:Int) == 1 && (sIx items.size items.size hi - sIx items.size 0 lo) == items.size)=true then _ else _) _ _ s
  rw [if_neg hno,pick_gen]
  first
    | exact wpAny_bind (m:=Builtin.Tuple.tupleExact _) (wpAny_newObj_type (wpAny_pure ⟨_,rfl,wpAny_pure h⟩) htake)
    | exact wpAny_bind (m:=Builtin.Tuple.tupleExact _) (wpAny_newObj_type (wpAny_bind (wpAny_pure (wpAny_pure ⟨_,rfl,wpAny_pure h⟩))) htake)
    | exact wpAny_bind (wpAny_bind (m:=Builtin.Tuple.tupleExact _) (wpAny_newObj_type (wpAny_pure (wpAny_pure ⟨_,rfl,wpAny_pure h⟩)) htake))
    | exact wpAny_bind (wpAny_bind (m:=Builtin.Tuple.tupleExact _) (wpAny_newObj_type (wpAny_pure ⟨_,rfl,wpAny_pure h⟩) htake))
end
end HT
namespace L2
open PySem PySem.Spec PyProof.Rows
abbrev TO:=St→Hp→(Option Int→Hp→Prop)→Prop
def PO (X:Cx) (e:Option Expr) (t:TO):Prop :=
  ∀ (pins:List (Addr × Obj)) (s:Shared) (σ:St) (H:Hp) (Q:Option Int→Hp→Prop),Inv X pins σ H s→t σ H Q →
    wpAny (model X.prog X.w) X.A (evalPart e X.env) (fun u s'=>∃ o H',Inv X pins σ H' s'∧IsPart u o∧Q o H') X.xe s
def tNoPart:TO:=fun _ H Q=>Q none H
def tPart (t:TE):TO:=fun σ H Q=>t σ H fun x H1=>∃ i,x=.int i∧Q (some i) H1
section
variable {X:Cx} {e:Expr} {te:TE} {lo hi:Option Expr} {tl th:TO} {pos p2:Pos}
theorem po_none:PO X none tNoPart:=by
  intro pins s σ H Q I h
  rw [evalPart_none]
  exact wpAny_pure ⟨none,H,I,.none,h⟩
theorem po_some (h:PE X e te):PO X (some e) (tPart te):=by
  intro pins s σ H Q I hw
  rw [evalPart_some]
  refine thn (h pins s σ H _ I hw) fun u s1 ⟨x,H1,I1,r1,q1⟩=>?_
  obtain ⟨i,rfl,q⟩:=q1
  obtain ⟨t,rfl⟩:=r1
  exact ⟨some i,H1,I1,.int i t,q⟩
def SlR (X:Cx) (r:V→Option Int→Option Int→Hp→VK→Prop):Prop :=
  ∀ (pins:List (Addr × Obj)) (s:Shared) (σ:St) (H:Hp) (x:V) (v vl vu:Value) (lo hi:Option Int) (sl:Addr) (Q:VK),Inv X pins σ H s→RelV x v→s.heap.IsSliceOf sl vl vu .none→IsPart vl lo→IsPart vu hi→r x lo hi H Q →
    ∃ T id,typeLookup (.type T) "__getitem__"=pure (some (.builtin id))∧s.TypeIs v T∧wpAny (model X.prog X.w) X.A (getItem v (.ref sl)) (EP X pins σ Q) X.xe s
def tSl (r:V→Option Int→Option Int→Hp→VK→Prop) (te:TE) (tl th:TO):TE:=fun σ H Q=>te σ H fun x H1=>tl σ H1 fun l H2=>th σ H2 fun u H3=>r x l u H3 Q
theorem pe_slice {r:V→Option Int→Option Int→Hp→VK→Prop} (hr:SlR X r) (he:PE X e te) (hl:PO X lo tl) (hu:PO X hi th):PE X (.Subscript e (.Slice lo hi none p2) pos) (tSl r te tl th):=by
  intro pins s σ H Q I h
  refine Subscript_ (thn (he pins s σ H _ I h) fun v s1 ⟨x,H1,I1,r1,q1⟩=>?_)
  refine wpAny_Slice (thn (hl pins s1 σ H1 _ I1 q1) fun vl s2 ⟨l,H2,I2,pl,q2⟩=>thn (hu pins s2 σ H2 _ I2 q2) fun vu s3 ⟨u,H3,I3,pu,q3⟩=>?_)
  rw [evalPart_none]
  refine wpAny_pure ?_
  have I4:Inv X pins σ H3 { s3 with heap:=s3.heap.push { cls:=.type "slice",data:=.fields #[vl,vu,.none] } }:=I3.kept (t':=s3.toks) fun b ob q=>Heap.get?_push_of_some _ q
  obtain ⟨T,id,hT,ht,hg⟩:=hr pins { s3 with heap:=s3.heap.push { cls:=.type "slice",data:=.fields #[vl,vu,.none] } } σ H3 x v vl vu l u s3.heap.objs.size Q I4 r1 (Heap.IsSliceOf.new ..) pl pu q3
  show wpAny (model X.prog X.w) X.A (subscriptTail e (.Slice lo hi none p2) v (.ref s3.heap.objs.size)) (EP X pins σ Q) X.xe { s3 with heap:=s3.heap.push { cls:=.type "slice",data:=.fields #[vl,vu,.none] } }
  exact tail_any (ops:=[.ref s3.heap.objs.size,v]) ht hT hg (by with_unfolding_all rfl)
def cutV (xs:List V) (lo hi:Option Int):List V:=(xs.drop (HT.sIx xs.length 0 lo)).take (HT.sIx xs.length xs.length hi - HT.sIx xs.length 0 lo)
theorem cutV_length (xs:List V) (lo hi:Option Int):(cutV xs lo hi).length≤xs.length:=by
  unfold cutV
  rw [List.length_take,List.length_drop]
  omega
def rSlT (K:PySem.W.Frag):V→Option Int→Option Int→Hp→VK→Prop:=fun x lo hi H Q=>∃ a xs,x=.ref a∧SqT K H a xs ∧
  ¬ (HT.sIx xs.length 0 lo=0∧HT.sIx xs.length xs.length hi=xs.length)∧∀ p,H p=none→Q (.ref p) (upd H p (.tup (cutV xs lo hi)))
theorem sl_tup:SlR X (rSlT X.K):=by
  intro pins s σ H x v vl vu lo hi sl Q I rx hs pl pu h
  obtain ⟨a,xs,rfl,hx,hw,q⟩:=h
  cases rx
  obtain ⟨its,r,ht,hz⟩:=I.tuple hx
  have hlen:its.toArray.size=xs.length:=by rw [List.size_toArray];exact r.length.symm
  refine ⟨"tuple",_,PyProof.Rows.slot_tuple_getitem.lookup,ht.typeIs,?_⟩
  refine HT.getItem_tuple_cut ht hs pl pu (by rw [hlen];exact hw) ?_ (by rw [hlen];exact hz)
  rw [hlen]
  refine ⟨.ref s.heap.objs.size,_,I.laid (t':=s.toks) (o:=.tup (cutV xs lo hi)) (fun b ob q=>Heap.get?_push_of_some _ q) (Nat.le_refl _) ?_,rfl,q _ (I.hok.fresh (Nat.le_refl _))⟩
  exact ⟨Nat.le_trans (cutV_length xs lo hi) hz,_,(r.drop (HT.sIx xs.length 0 lo)).take (HT.sIx xs.length xs.length hi - HT.sIx xs.length 0 lo),IsTup.new _ _⟩
def rCatT (K:PySem.W.Frag):R2:=fun x y H Q=>∃ a b xs ys,x=.ref a∧y=.ref b∧SqT K H a xs∧SqT K H b ys∧xs≠[]∧xs.length + ys.length≤sizeLine ∧
  (ys=[]→Q (.ref a) H)∧(ys≠[]→∀ p,H p=none→Q (.ref p) (upd H p (.tup (xs ++ ys))))
end
end L2
namespace L2
open PySem PySem.Spec PyProof.Rows
def ixN (n:Nat) (i:Int):Option Nat:=if 0≤i then (if i < n then some i.toNat else none) else if -(n:Int)≤i then some (i + n).toNat else none
def atI {α:Type} (xs:List α) (i:Int):Option α:=(ixN xs.length i).bind fun j=>xs[j]?
theorem ixN_seq {n:Nat} {i:Int} {j:Nat} (h:ixN n i=some j):seqIndex? i n=some j∧j < n∧-(n:Int)≤i∧i < n:=by
  unfold ixN at h
  by_cases h0:0≤i
  · rw [if_pos h0] at h
    by_cases h1:i < n
    · rw [if_pos h1] at h
      have e:i.toNat=j:=Option.some.inj h
      exact ⟨by rw [seqIndex_of h0 h1,e],by omega,by omega,h1⟩
    · rw [if_neg h1] at h;cases h
  · rw [if_neg h0] at h
    by_cases h1:-(n:Int)≤i
    · rw [if_pos h1] at h
      have e:(i + n).toNat=j:=Option.some.inj h
      exact ⟨by rw [seqIndex_neg (by omega) h1,e],by omega,h1,by omega⟩
    · rw [if_neg h1] at h;cases h
theorem atI_get {α:Type} {xs:List α} {i:Int} {v:α} (h:atI xs i=some v):∃ j,seqIndex? i xs.length=some j∧xs[j]?=some v∧j < xs.length∧-(xs.length:Int)≤i∧i < xs.length:=by
  unfold atI at h
  cases e:ixN xs.length i with
  | none=>rw [e] at h;cases h
  | some j =>
    rw [e] at h
    obtain ⟨h1,h2,h3,h4⟩:=ixN_seq e
    exact ⟨j,h1,h,h2,h3,h4⟩
theorem atI_nat {α:Type} {xs:List α} {j:Nat} {v:α} (h:xs[j]?=some v):atI xs (j:Int)=some v:=by
  have hj:j < xs.length:=(List.getElem?_eq_some_iff.mp h).1
  have e:ixN xs.length (j:Int)=some j:=by
    unfold ixN
    rw [if_pos (by omega),if_pos (by omega)];simp
  unfold atI;rw [e];exact h
def PlainIx (b:Expr):Prop:=∀ o i,subscripted b false o i=operate [o,i] (getItem o i)
def IxR (X:Cx) (r:R2):Prop :=
  ∀ (value slice:Expr) (pins:List (Addr × Obj)) (s:Shared) (σ:St) (H:Hp) (x y:V) (v u:Value) (Q:VK),Inv X pins σ H s→RelV x v→RelV y u→r x y H Q →
    subscripted slice false v u=operate [v,u] (getItem v u)→wpAny (model X.prog X.w) X.A (subscriptTail value slice v u) (EP X pins σ Q) X.xe s
def MtR (X:Cx) (id:String) (r:V→List V→Hp→VK→Prop):Prop :=
  ∀ (pins:List (Addr × Obj)) (s:Shared) (σ:St) (H:Hp) (x:V) (xs:List V) (v:Value) (us:List Value) (Q:VK),Inv X pins σ H s→RelV x v→Vals xs us→r x xs H Q →
    wpAny (model X.prog X.w) X.A (call (.builtin id) (v :: us)) (EP X pins σ Q) X.xe s
section
variable {X:Cx} {a b:Expr} {ta tb:TE} {pos:Pos}
theorem pe_ix {r:R2} (hr:IxR X r) (ha:PE X a ta) (hb:PE X b tb) (hs:PlainIx b):PE X (.Subscript a b pos) (tOp r ta tb):=by
  intro pins s σ H Q I h
  exact Subscript_ (binT ha hb I h fun v u s2 x y H2 I2 rx ry q=>hr a b pins s2 σ H2 x y v u Q I2 rx ry q (hs _ _))
def rIxL (K:PySem.W.Frag):R2:=fun x y H Q=>∃ p xs i v,x=.ref p∧y=.int i∧SqL K H p xs∧atI xs i=some v∧Q v H
def rIxT (K:PySem.W.Frag):R2:=fun x y H Q=>∃ p xs i v,x=.ref p∧y=.int i∧SqT K H p xs∧atI xs i=some v∧Q v H
def rIxS:R2:=fun x y H Q=>∃ z i c,x=.str z∧y=.int i∧z.length≤sizeLine∧atI z.cps.toList i=some c∧Q (.str ⟨#[c]⟩) H
theorem ix_list:IxR X (rIxL X.K):=by
  intro value slice pins s σ H x y v u Q I rx ry h hs
  obtain ⟨p,xs,i,z,rfl,rfl,hq,he,q⟩:=h
  cases rx
  obtain ⟨t,rfl⟩:=ry
  obtain ⟨its,r,pl,hz⟩:=I.list hq
  obtain ⟨j,h1,h2,h3,h4,h5⟩:=atI_get he
  obtain ⟨w,ew,rw'⟩:=r.get h2
  have hl:=r.length
  have hn:=line63
  have fin:EP X pins σ Q w s:=⟨z,H,I,rw',q⟩
  by_cases h0:0≤i
  · have hj:i.toNat=j:=by
      rw [seqIndex_of h0 h5] at h1
      exact Option.some.inj h1
    exact item_listR pl.isList h0 (by omega) (by rw [hj];simpa using ew) fin hs
  · have hj:(i + (its.toArray.size:Int)).toNat=j:=by
      rw [seqIndex_neg (by omega) h4] at h1
      rw [List.size_toArray,← hl]
      exact Option.some.inj h1
    exact subscriptTail_builtinR (x:=w) pl.isList.typeIs slot_list_getitem.lookup
      (wpAny_getItem_list_neg (Q:=fun r s'=>r=w∧EP X pins σ Q r s') pl.isList (by omega) (by rw [List.size_toArray] <;> omega) (by omega) (by rw [hj];simpa using ew) ⟨rfl,fin⟩) hs
theorem ix_tup:IxR X (rIxT X.K):=by
  intro value slice pins s σ H x y v u Q I rx ry h hs
  obtain ⟨p,xs,i,z,rfl,rfl,hq,he,q⟩:=h
  cases rx
  obtain ⟨t,rfl⟩:=ry
  obtain ⟨its,r,pl,hz⟩:=I.tuple hq
  obtain ⟨j,h1,h2,h3,h4,h5⟩:=atI_get he
  obtain ⟨w,ew,rw'⟩:=r.get h2
  have hl:=r.length
  have hn:=line63
  have fin:EP X pins σ Q w s:=⟨z,H,I,rw',q⟩
  exact subscriptTail_builtinR (x:=w) pl.typeIs slot_tuple_getitem.lookup
    (getItem_tuple (j:=j) (Q:=fun r s'=>r=w∧EP X pins σ Q r s') pl (by omega) (by omega) (by rw [List.size_toArray,← hl];exact h1) (by simpa using ew) ⟨rfl,fin⟩) hs
theorem ix_str:IxR X rIxS:=by
  intro value slice pins s σ H x y v u Q I rx ry h hs
  obtain ⟨z,i,c,rfl,rfl,hz,he,q⟩:=h
  obtain ⟨t,rfl⟩:=rx
  obtain ⟨t',rfl⟩:=ry
  obtain ⟨j,h1,h2,h3,h4,h5⟩:=atI_get he
  have hl:z.cps.toList.length=z.length:=by simp [Str.length]
  rw [hl] at h1 h4 h5
  have hn:=line63
  exact tail_any (typeIs_str s z t) slot_str_getitem.lookup (getItem_str (c:=c) (by
    have e1:decide (i < -(2 ^ 63:Int))=false:=decide_eq_false (by omega)
    have e2:decide (i ≥ 2 ^ 63)=false:=decide_eq_false (by omega)
    rw [e1,e2,Bool.or_false]) (by rw [h1];simpa using h2) ⟨.str ⟨#[c]⟩,H,I.tok _,⟨_,rfl⟩,q⟩) hs
theorem slice_bounds (lo hi:Option Int) (n:Nat):(sliceBounds lo hi none n).1=((HT.sIx n 0 lo:Nat):Int)∧(sliceBounds lo hi none n).2.1=((HT.sIx n n hi:Nat):Int)∧(sliceBounds lo hi none n).2.2=1:=by
  refine ⟨?_,?_,rfl⟩
  · cases lo with
    | none=>simp [sliceBounds,HT.sIx]
    | some i =>
      simp only [sliceBounds,HT.sIx,Option.getD_none,show (1:Int) > 0 by decide,if_true]
      by_cases h:i < 0
      · simp only [h,if_true] <;> omega
      · simp only [h,if_false] <;> omega
  · cases hi with
    | none=>simp [sliceBounds,HT.sIx]
    | some i =>
      simp only [sliceBounds,HT.sIx,Option.getD_none,show (1:Int) > 0 by decide,if_true]
      by_cases h:i < 0
      · simp only [h,if_true] <;> omega
      · simp only [h,if_false] <;> omega
theorem slicePick_cut (its:List Value) (lo hi:Option Int):slicePick its.toArray lo hi none=((its.drop (HT.sIx its.length 0 lo)).take (HT.sIx its.length its.length hi - HT.sIx its.length 0 lo)).toArray:=by
  obtain ⟨h1,h2,h3⟩:=slice_bounds lo hi its.toArray.size
  unfold slicePick
  rw [h1,h2,h3]
  simp only [sliceRange_one,pick_run,List.size_toArray] <;> rfl
def rSlL (K:PySem.W.Frag):V→Option Int→Option Int→Hp→VK→Prop:=fun x lo hi H Q=>∃ a xs,x=.ref a∧SqL K H a xs∧∀ p,H p=none→Q (.ref p) (upd H p (.lst (cutV xs lo hi)))
theorem sl_list:SlR X (rSlL X.K):=by
  intro pins s σ H x v vl vu lo hi sl Q I rx hs pl pu h
  obtain ⟨a,xs,rfl,hx,q⟩:=h
  cases rx
  obtain ⟨its,r,ht,hz⟩:=I.list hx
  have hlen:=r.length
  refine ⟨"list",_,slot_list_getitem.lookup,ht.isList.typeIs,?_⟩
  refine wpAny_getItem_list_slice ht.isList hs pl pu .none (by simp) ?_ (by rw [List.size_toArray] <;> omega)
  rw [slicePick_cut,← hlen]
  refine ⟨.ref s.heap.objs.size,_,I.laid (t':=s.toks) (o:=.lst (cutV xs lo hi)) (fun b ob q=>Heap.get?_push_of_some _ q) (Nat.le_refl _) ?_,rfl,q _ (I.hok.fresh (Nat.le_refl _))⟩
  exact ⟨Nat.le_trans (cutV_length xs lo hi) hz,_,0,(r.drop (HT.sIx xs.length 0 lo)).take (HT.sIx xs.length xs.length hi - HT.sIx xs.length 0 lo),Heap.get?_push_size _ rfl⟩
def flatV:V→Bool
  | .non=>true
  | .bl _=>true
  | .int _=>true
  | .str _=>true
  | _=>false
def eqV:V→V→Bool
  | .non,.non=>true
  | .bl a,.bl b=>a == b
  | .bl a,.int b=>(if a then 1 else 0) == b
  | .int a,.bl b=>a == (if b then 1 else 0)
  | .int a,.int b=>a == b
  | .str a,.str b=>a == b
  | _,_=>false
theorem eqAt_V {A:Around} {s:Shared} {y x:V} {u v:Value} (ry:RelV y u) (rx:RelV x v) (fy:flatV y=true) (fx:flatV x=true):SeqAt.EqAt A s u v (eqV y x):=by
  cases y with
  | non =>
    cases ry
    cases x with
    | non=>cases rx;exact SeqAt.EqAt.same _
    | bl b=>cases rx;exact SeqAt.EqAt.none_bool b
    | int b=>obtain ⟨t,rfl⟩:=rx;exact SeqAt.EqAt.none_int b t
    | str b=>obtain ⟨t,rfl⟩:=rx;exact SeqAt.EqAt.none_str b t
    | _=>exact absurd (show false=true from fx) Bool.false_ne_true
  | bl a =>
    cases ry
    cases x with
    | non=>cases rx;exact SeqAt.EqAt.bool_none a
    | bl b=>cases rx;exact SeqAt.EqAt.bool_bool a b
    | int b=>obtain ⟨t,rfl⟩:=rx;exact SeqAt.EqAt.bool_int a b t
    | str b=>obtain ⟨t,rfl⟩:=rx;exact SeqAt.EqAt.bool_str a b t
    | _=>exact absurd (show false=true from fx) Bool.false_ne_true
  | int a =>
    obtain ⟨t',rfl⟩:=ry
    cases x with
    | non=>cases rx;exact SeqAt.EqAt.int_none a t'
    | bl b=>cases rx;exact SeqAt.EqAt.int_bool a t' b
    | int b=>obtain ⟨t,rfl⟩:=rx;exact SeqAt.EqAt.int_int a t' b t
    | str b=>obtain ⟨t,rfl⟩:=rx;exact SeqAt.EqAt.int_str a t' b t
    | _=>exact absurd (show false=true from fx) Bool.false_ne_true
  | str a =>
    obtain ⟨t',rfl⟩:=ry
    cases x with
    | non=>cases rx;exact SeqAt.EqAt.str_none a t'
    | bl b=>cases rx;exact SeqAt.EqAt.str_bool a t' b
    | int b=>obtain ⟨t,rfl⟩:=rx;exact SeqAt.EqAt.str_int a t' b t
    | str b=>obtain ⟨t,rfl⟩:=rx;exact SeqAt.EqAt.str_str a t' b t
    | _=>exact absurd (show false=true from fx) Bool.false_ne_true
  | _=>exact absurd (show false=true from fy) Bool.false_ne_true
def eqU (x:V) (u:Value):Bool:=match u with
  | .none=>eqV .non x
  | .bool b=>eqV (.bl b) x
  | .int i _=>eqV (.int i) x
  | .str z _=>eqV (.str z) x
  | _=>false
theorem eqU_of {x y:V} {u:Value} (r:RelV y u) (f:flatV y=true):eqU x u=eqV y x:=by
  cases y with
  | non=>cases r;rfl
  | bl b=>cases r;rfl
  | int i=>obtain ⟨t,rfl⟩:=r;rfl
  | str z=>obtain ⟨t,rfl⟩:=r;rfl
  | _=>exact absurd (show false=true from f) Bool.false_ne_true
theorem any_eqU {x:V}:∀ {xs:List V} {us:List Value},Vals xs us→xs.all flatV=true→us.any (eqU x)=xs.any fun y=>eqV y x
  | _,_,.nil,_=>rfl
  | y :: xs,u :: us,.cons r t,f=>by
    rw [List.all_cons,Bool.and_eq_true] at f
    rw [List.any_cons,List.any_cons,eqU_of r f.1,any_eqU t f.2]
theorem mem_eqAt {A:Around} {s:Shared} {x:V} {v:Value} (rx:RelV x v) (fx:flatV x=true):∀ {xs:List V} {us:List Value},Vals xs us→xs.all flatV=true→∀ u∈us,SeqAt.EqAt A s u v (eqU x u)
  | _,_,.nil,_=>fun u hu=>by cases hu
  | y :: xs,u :: us,.cons r t,f=>fun u' hu=>by
    rw [List.all_cons,Bool.and_eq_true] at f
    rcases List.mem_cons.mp hu with rfl | hu
    · rw [eqU_of r f.1];exact eqAt_V r rx f.1 fx
    · exact mem_eqAt rx fx t f.2 u' hu
def inV (x:V) (xs:List V):Bool:=xs.any fun y=>eqV y x
def rIn (K:PySem.W.Frag) (neg:Bool):R2:=fun x y H Q=>∃ p xs,y=.ref p∧(SqL K H p xs∨SqT K H p xs)∧flatV x=true∧xs.all flatV=true∧Q (.bl (if neg then !inV x xs else inV x xs)) H
theorem op_in_seq:OpR X (compareOp .In) (rIn X.K false):=by
  intro pins s σ H x y v u Q I rx ry h
  obtain ⟨p,xs,rfl,hq,fx,fs,q⟩:=h
  cases ry
  rcases hq with hq | hq
  · obtain ⟨its,r,pl,hz⟩:=I.list hq
    refine SeqAt.in_listAt (eqU x) pl.isList (fun w hw=>mem_eqAt rx fx r fs w (by simpa using hw)) ⟨.bl _,H,I,rfl,?_⟩
    rw [show its.toArray.any (eqU x)=its.any (eqU x) by simp,any_eqU r fs]
    exact q
  · obtain ⟨its,r,pl,hz⟩:=I.tuple hq
    refine SeqAt.in_tupleAt (eqU x) pl (fun w hw=>mem_eqAt rx fx r fs w (by simpa using hw)) ⟨.bl _,H,I,rfl,?_⟩
    rw [show its.toArray.any (eqU x)=its.any (eqU x) by simp,any_eqU r fs]
    exact q
theorem call_list_of:CallR X (.type "list") (fun xs H Q=>∃ p ys,xs=[.ref p]∧(SqL X.K H p ys∨SqT X.K H p ys)∧∀ l,H l=none→Q (.ref l) (upd H l (.lst ys))):=by
  intro pins s σ H xs us Q I r h
  obtain ⟨p,ys,rfl,hq,q⟩:=h
  obtain ⟨u,rfl,rx⟩:=vals1 r
  cases rx
  have fin:∀ (its:List Value),Vals ys its→ys.length≤sizeLine→∀ (h':Heap) (c':Nat),(∀ b o',s.heap.get? b=some o'→h'.get? b=some o') →
      h'.get? s.heap.objs.size=some { cls:=.type "list",dict:=none,data:=.seq its.toArray c',slots:=#[] }→EP X pins σ Q (.ref s.heap.objs.size) { s with heap:=h' }:=fun its r' hz h' c' kp e =>
    ⟨.ref s.heap.objs.size,_,I.laid (t':=s.toks) kp (Nat.le_refl _) (show ObjOk X.prog X.w _ h' _ (.lst ys) from ⟨hz,its,c',r',e⟩),rfl,q _ (I.hok.fresh (Nat.le_refl _))⟩
  rcases hq with hq | hq
  · obtain ⟨its,r',pl,hz⟩:=I.list hq
    have hlen:=r'.length
    obtain ⟨o,ho,hc,n,hd⟩:=pl.isList
    exact call_list_seq p (.inl rfl) ho hc hd (fun h' c' kp e=>fin its r' hz h' c' kp e) (by simp only [List.size_toArray] <;> omega)
  · obtain ⟨its,r',pl,hz⟩:=I.tuple hq
    have hlen:=r'.length
    obtain ⟨o,ho,hc,n,hd⟩:=pl
    exact call_list_seq p (.inr rfl) ho hc hd (fun h' c' kp e=>fin its r' hz h' c' kp e) (by simp only [List.size_toArray] <;> omega)
theorem call_tuple_of:CallR X (.type "tuple") (fun xs H Q=>∃ p ys,xs=[.ref p]∧((SqL X.K H p ys∧∀ l,H l=none→Q (.ref l) (upd H l (.tup ys)))∨(SqT X.K H p ys∧Q (.ref p) H))):=by
  intro pins s σ H xs us Q I r h
  obtain ⟨p,ys,rfl,h⟩:=h
  obtain ⟨u,rfl,rx⟩:=vals1 r
  cases rx
  rcases h with ⟨hq,q⟩ | ⟨hq,q⟩
  · obtain ⟨its,r',pl,hz⟩:=I.list hq
    have hlen:=r'.length
    refine call_tuple_list pl.isList (fun h' kp=>?_) (by simp only [List.size_toArray] <;> omega)
    have I1:Inv X pins σ H { s with heap:=h' }:=I.kept (t':=s.toks) kp
    have I2:Inv X pins σ (upd H h'.objs.size (.tup ys)) { s with heap:=h'.push { cls:=.type "tuple",data:=.seq its.toArray } } :=
      I1.laid (t':=s.toks) (fun b o e=>Heap.get?_push_of_some _ e) (Nat.le_refl _) (show ObjOk X.prog X.w _ _ _ (.tup ys) from ⟨hz,its,r',IsTup.new _ _⟩)
    exact ⟨.ref h'.objs.size,_,I2,rfl,q _ (I1.hok.fresh (Nat.le_refl _))⟩
  · obtain ⟨its,r',pl,hz⟩:=I.tuple hq
    exact call_tuple_same pl ⟨.ref p,H,I,rfl,q⟩
def tyV (K:PySem.W.Frag) (T:String) (x:V) (H:Hp):Prop:=match x with
  | .str _=>T="str"
  | .int _=>T="int"
  | .ref p=>(T="list"∧∃ xs,SqL K H p xs)∨(T="tuple"∧∃ o,K.lookup p=some o∧o.cls=.type "tuple"∧o.dict=none) ∨
      (T="dict"∧((∃ kvs,H p=some (.dK kvs))∨∃ kvs,H p=some (.dT kvs)))∨(T="set"∧∃ S n,H p=some (.set S n))
  | _=>False
theorem tyV_is {pins:List (Addr × Obj)} {σ:St} {H:Hp} {s:Shared} {T:String} {x:V} {v:Value} (I:Inv X pins σ H s) (r:RelV x v) (ty:tyV X.K T x H) :
    s.TypeIs v T∧∀ a,v=.ref a→∃ ob,s.heap.get? a=some ob∧ob.dict=none:=by
  cases x with
  | str z =>
    obtain ⟨t,rfl⟩:=r
    cases (show T="str" from ty)
    exact ⟨typeIs_str s z t,fun _ e=>nomatch e⟩
  | int i =>
    obtain ⟨t,rfl⟩:=r
    cases (show T="int" from ty)
    exact ⟨typeIs_int s i t,fun _ e=>nomatch e⟩
  | ref p =>
    cases r
    rcases ty with ⟨rfl,xs,hq⟩ | ⟨rfl,o,hk,hc,hd⟩ | ⟨rfl,hk⟩ | ⟨rfl,S,n,hk⟩
    · obtain ⟨its,_,pl,_⟩:=I.list hq
      refine ⟨pl.isList.typeIs,fun a e=>?_⟩
      cases e
      obtain ⟨o,n,e,c,hd,_⟩:=pl
      exact ⟨o,e,hd⟩
    · refine ⟨⟨o,I.kIn p o hk,hc⟩,fun a e=>?_⟩
      cases e
      exact ⟨o,I.kIn _ o hk,hd⟩
    · have z:∃ o,s.heap.get? p=some o∧o.ExactDict:=by
        rcases hk with ⟨kvs,hk⟩ | ⟨kvs,hk⟩
        · obtain ⟨_,_,_,_,o,_,_,e,ex,_⟩:=I.hok p _ hk
          exact ⟨o,e,ex⟩
        · obtain ⟨_,_,_,_,o,_,_,e,ex,_⟩:=I.hok p _ hk
          exact ⟨o,e,ex⟩
      obtain ⟨o,e,ex⟩:=z
      refine ⟨⟨o,e,ex.1⟩,fun a e2=>?_⟩
      cases e2
      exact ⟨o,e,ex.2.1⟩
    · obtain ⟨o,_,_,_,e,ex,_⟩:=I.hok p _ hk
      refine ⟨⟨o,e,ex.1⟩,fun a e2=>?_⟩
      cases e2
      exact ⟨o,e,ex.2.1⟩
  | _=>exact False.elim ty
def tBM0 (K:PySem.W.Frag) (T:String) (r:V→List V→Hp→VK→Prop) (to:TE):TE:=fun σ H Q=>to σ H fun x H1=>tyV K T x H1∧r x [] H1 Q
def tBM (K:PySem.W.Frag) (T:String) (r:V→List V→Hp→VK→Prop) (to:TE) (t:TA):TE:=fun σ H Q=>to σ H fun x H1=>tyV K T x H1∧t σ H1 fun xs H2=>r x xs H2 Q
variable {o e:Expr} {es:List Expr} {to:TE} {t:TA} {name:Str} {apos cpos:Pos} {T id:String} {r:V→List V→Hp→VK→Prop}
theorem pe_bm0 (pa:PlainAttrs T) (slot:Slot T name id) (hty:typeOf (.builtin id)=pure (.type "method_descriptor")) (hm:MtR X id r) (ho:PE X o to)
    (hbase:attributeBase o name X.env (eval o X.env)=eval o X.env:=by rfl) (hline:(apos.endLine == cpos.line)=true:=by rfl):PE X (.Call (.Attribute o name apos) [] [] cpos) (tBM0 X.K T r to):=by
  intro pins s σ H Q I h
  refine wpAny_Call_method0_late hbase hline (thn (ho pins s σ H _ I h) fun v s1 ⟨x,H1,I1,r1,ty,q1⟩=>?_)
  obtain ⟨h1,h2⟩:=tyV_is I1 r1 ty
  exact ⟨T,id,pa,slot,hty,h1,h2,Calls.callWith_builtin rfl (PySem.evalArgs_none (hm pins s1 σ H1 x [] v [] Q I1 r1 .nil q1))⟩
theorem pe_bm (pa:PlainAttrs T) (slot:Slot T name id) (hty:typeOf (.builtin id)=pure (.type "method_descriptor")) (hm:MtR X id r) (ho:PE X o to) (ha:PA X (e :: es) t)
    (hbase:attributeBase o name X.env (eval o X.env)=eval o X.env:=by rfl)
    (hfew:((backTo cpos (starEach (e :: es) X.env)).all (fun x=>!x.1) && (backToKw cpos (keywordEach [] X.env)).all (fun x=>x.1.isSome)
      && decide ((e :: es).length + ([]:List Keyword).length + (if ([]:List Keyword).isEmpty then 0 else 1) < 30))=true:=by rfl)
    (hline:(apos.endLine == cpos.line)=true:=by rfl) (hs:starEach (e :: es) X.env=(false,eval e X.env) :: starEach es X.env:=by rfl) (hplain:(backTo cpos (starEach es X.env)).any (·.1)=false:=by rfl) :
    PE X (.Call (.Attribute o name apos) (e :: es) [] cpos) (tBM X.K T r to t):=by
  intro pins s σ H Q I h
  refine wpAny_Call_method_late hbase hfew hline rfl (thn (ho pins s σ H _ I h) fun v s1 ⟨x,H1,I1,r1,ty,q1⟩=>?_)
  obtain ⟨h1,h2⟩:=tyV_is I1 r1 ty
  refine ⟨T,id,pa,slot,hty,h1,h2,?_⟩
  have hA:=ha cpos pins s1 σ H1 _ I1 q1
  rw [hs] at hA ⊢
  refine Calls.callWith_builtin (by show (false || (backTo cpos (starEach es X.env)).any (·.1))=false;rw [hplain] <;> rfl) (Calls.evalArgs_plain ?_)
  exact thn hA fun us s2 ⟨vs,H2,I2,r2,q2⟩=>hm pins s2 σ H2 x vs v us Q I2 r1 r2 q2
end
end L2
namespace L2
open PySem PySem.Spec PyProof.Rows
def MtM (X:Cx) (id:String) (r:V→List V→Hp→VK→Prop):Prop :=
  ∀ (pins:List (Addr × Obj)) (s:Shared) (σ:St) (H:Hp) (x:V) (xs:List V) (v:Value) (us:List Value) (Q:VK),Inv X pins σ H s→RelV x v→Vals xs us→r x xs H Q →
    wpAny (model X.prog X.w) X.A (call (.builtin id) (v :: us)) (EP X pins σ Q) X.xe s
theorem Vals.one:∀ {x:V} {us:List Value},Vals [x] us→∃ u,us=[u]∧RelV x u
  | _,_,.cons r .nil=>⟨_,rfl,r⟩
theorem Vals.zero:∀ {us:List Value},Vals [] us→us=[]
  | _,.nil=>rfl
theorem Vals.dropLast {xs:List V} {us:List Value} (h:Vals xs us):Vals xs.dropLast us.dropLast:=by
  induction h with
  | nil=>exact .nil
  | cons r t ih =>
    cases t with
    | nil=>exact .nil
    | cons q t'=>exact .cons r ih
theorem erase_last {α:Type} (l:List α):l.eraseIdx (l.length - 1)=l.dropLast:=by
  induction l with
  | nil=>rfl
  | cons a r ih =>
    cases r with
    | nil=>rfl
    | cons b r =>
      have e:(a :: b :: r).length - 1=((b :: r).length - 1) + 1:=rfl
      rw [e,List.eraseIdx_cons_succ,ih]
      all_goals rfl
section
variable {X:Cx} {pins:List (Addr × Obj)} {σ:St} {H:Hp} {s:Shared} {l b:Addr} {xs ys zs:List V}
theorem Inv.lset {its its':List Value} {n:Nat} {f:Array Value→Array Value} {t':Nat} (I:Inv X pins σ H s) (hH:H l=some (.lst xs))
    (e:s.heap.get? l=some { cls:=.type "list",data:=.seq its.toArray n }) (hf:f its.toArray=its'.toArray) (hv:Vals ys its') (hz:ys.length≤sizeLine) :
    Inv X pins σ (upd H l (.lst ys)) { s with heap:=s.heap.update l (Obj.mapSeq f),toks:=t' }:=by
  have q:=PySem.IsL.update e f
  rw [hf] at q
  refine I.write (x:=l) (e:=l) (by rw [hH];exact trivial) (.inl rfl) (fun b' u hb hu=>(Heap.get?_update_other s.heap (Obj.mapSeq f) (Ne.symm hb)).trans hu) ⟨_,q⟩ ?_
  exact ⟨hz,its',_,hv,q⟩
theorem Inv.lnew {its:List Value} {t':Nat} (I:Inv X pins σ H s) (hv:Vals ys its) (hz:ys.length≤sizeLine) :
    Inv X pins σ (upd H s.heap.objs.size (.lst ys)) { s with heap:=s.heap.push { cls:=.type "list",data:=.seq its.toArray },toks:=t' } :=
  I.laid (fun _ _ q=>Heap.get?_push_of_some _ q) (Nat.le_refl _) ⟨hz,its,0,hv,Heap.get?_push_size _ rfl⟩
theorem Inv.fresh (I:Inv X pins σ H s):H s.heap.objs.size=none:=I.hok.fresh (Nat.le_refl _)
theorem Inv.lstM (I:Inv X pins σ H s) (hH:H l=some (.lst xs)):xs.length≤sizeLine∧∃ (its:List Value) (n:Nat),Vals xs its∧xs.length=its.length∧s.heap.get? l=some { cls:=.type "list",data:=.seq its.toArray n }:=by
  obtain ⟨z,its,n,r,e⟩:=I.hok l _ hH
  exact ⟨z,its,n,r,r.length,e⟩
end
section
variable {X:Cx}
def rAppend:V→List V→Hp→VK→Prop:=fun x vs H Q=>∃ l xs y,x=.ref l∧vs=[y]∧H l=some (.lst xs)∧xs.length < sizeLine∧Q .non (upd H l (.lst (xs ++ [y])))
theorem mt_append:MtM X "list.append" rAppend:=by
  intro pins s σ H x vs v us Q I rx rv h
  obtain ⟨l,xs,y,rfl,rfl,hH,hz,q⟩:=h
  cases rx
  obtain ⟨u,rfl,ru⟩:=rv.one
  obtain ⟨z,its,n,r,hl,e⟩:=I.lstM hH
  refine call_meets F.slot_list_append ⟨_,e,rfl⟩ F.entry_list_append (F.args_list_append_2 _ _) (PySem.list_append l its.toArray n u (by rw [List.size_toArray];omega)) ⟨e,?_⟩
  refine ⟨.non,_,I.lset (its':=its ++ [u]) hH e (by simp) (r.append (.cons ru .nil)) ?_,rfl,q⟩
  rw [List.length_append,List.length_singleton]
  omega
def rExtend:V→List V→Hp→VK→Prop:=fun x vs H Q=>∃ l b xs zs,x=.ref l∧vs=[.ref b]∧H l=some (.lst xs)∧H b=some (.lst zs)∧xs.length + zs.length≤sizeLine∧Q .non (upd H l (.lst (xs ++ zs)))
def rPop:V→List V→Hp→VK→Prop:=fun x vs H Q=>∃ l xs y,x=.ref l∧vs=[]∧H l=some (.lst xs)∧xs[xs.length - 1]?=some y∧Q y (upd H l (.lst xs.dropLast))
theorem mt_pop:MtM X "list.pop" rPop:=by
  intro pins s σ H x vs v us Q I rx rv h
  obtain ⟨l,xs,y,rfl,rfl,hH,hy,q⟩:=h
  cases rx
  have hus:=rv.zero
  subst hus
  obtain ⟨z,its,n,r,hl,e⟩:=I.lstM hH
  obtain ⟨u,hu,ru⟩:=r.get hy
  have hy':its.toArray[its.toArray.size - 1]?=some u:=by
    show its.toArray[its.length - 1]?=some u
    rw [← Array.getElem?_toList,← hl]
    exact hu
  refine call_meets F.slot_list_pop ⟨_,e,rfl⟩ F.entry_list_pop (F.args_list_pop_1 _) (MeetsSeq.list_pop_last l its.toArray n u hy' (by rw [List.size_toArray];omega)) ⟨e,?_⟩
  refine ⟨y,_,I.lset (its':=its.dropLast) hH e ?_ r.dropLast ?_,ru,q⟩
  · show its.toArray.eraseIdxIfInBounds (its.toArray.size - 1)=its.dropLast.toArray
    rw [List.size_toArray,List.eraseIdxIfInBounds_toArray,erase_last]
  · rw [List.length_dropLast]
    omega
def rClear:V→List V→Hp→VK→Prop:=fun x vs H Q=>∃ l xs,x=.ref l∧vs=[]∧H l=some (.lst xs)∧Q .non (upd H l (.lst []))
def rCat:R2:=fun x y H Q=>∃ l b xs zs,x=.ref l∧y=.ref b∧H l=some (.lst xs)∧H b=some (.lst zs)∧xs.length + zs.length≤sizeLine∧∀ p,H p=none→Q (.ref p) (upd H p (.lst (xs ++ zs)))
theorem op_cat:OpR X (binaryOp .Add) rCat:=by
  intro pins s σ H x y v u Q I rx ry h
  obtain ⟨l,b,xs,zs,rfl,rfl,hH,hB,hz,q⟩:=h
  cases rx
  cases ry
  obtain ⟨z,its,n,r,hl,e⟩:=I.lstM hH
  obtain ⟨z2,its2,n2,r2,hl2,e2⟩:=I.lstM hB
  refine PySem.P.add_list e e2 ?_ (by rw [List.size_toArray,List.size_toArray];omega)
  have ea:its.toArray ++ its2.toArray=(its ++ its2).toArray:=by simp
  rw [ea]
  exact ⟨.ref _,_,I.lnew (t':=s.toks) (r.append r2) (by rw [List.length_append];omega),rfl,q _ I.fresh⟩
def rRep:R2:=fun x y H Q=>∃ l k xs,x=.ref l∧y=.int k∧H l=some (.lst xs)∧-(2 ^ 63)≤k∧k < 2 ^ 63∧xs.length * k.toNat≤sizeLine ∧
  ∀ p,H p=none→Q (.ref p) (upd H p (.lst (List.replicate k.toNat xs).flatten))
end
section
variable {prog:Program} {w:World} {A:Around} {E:Value→Shared→Prop} {s:Shared}
set_option maxRecDepth 100000 in
end
section
variable {X:Cx}
end
end L2
namespace L2
open PySem PySem.Spec PyProof.Rows
section
variable {κ:Type} [DecidableEq κ]
def valV (kvs:List (κ × V)) (k:κ):Option V:=(kvs.find? fun kv=>decide (kv.1=k)).map (·.2)
def putK (kvs:List (κ × V)) (k:κ) (v:V):List (κ × V) :=
  if (kvs.any fun kv=>decide (kv.1=k))=true then kvs.map (fun kv=>if kv.1=k then (kv.1,v) else kv) else kvs ++ [(k,v)]
def dropK (kvs:List (κ × V)) (k:κ):List (κ × V):=kvs.filter fun kv=>decide (kv.1≠k)
theorem valV_nil {k:κ}:valV ([]:List (κ × V)) k=none:=rfl
theorem valV_pos {p:κ × V} {r:List (κ × V)} {k:κ} (e:p.1=k):valV (p :: r) k=some p.2:=by simp [valV,List.find?_cons,e]
theorem valV_neg {p:κ × V} {r:List (κ × V)} {k:κ} (e:¬ p.1=k):valV (p :: r) k=valV r k:=by simp [valV,List.find?_cons,e]
theorem valV_any (k:κ):∀ kvs:List (κ × V),(kvs.any fun kv=>decide (kv.1=k))=(valV kvs k).isSome
  | []=>rfl
  | p :: r=>by
    rw [List.any_cons]
    by_cases e:p.1=k
    · simp only [valV_pos e,decide_eq_true e,Bool.true_or,Option.isSome_some]
    · rw [valV_neg e,decide_eq_false e,Bool.false_or];exact valV_any k r
theorem valV_map (k j:κ) (y:V):∀ kvs:List (κ × V),valV (kvs.map fun kv=>if kv.1=k then (kv.1,y) else kv) j=(valV kvs j).map fun x=>if j=k then y else x
  | []=>rfl
  | p :: r=>by
    have ih:=valV_map k j y r
    rw [List.map_cons]
    by_cases h:p.1=k
    · rw [if_pos h]
      by_cases e:p.1=j
      · rw [valV_pos (p:=(p.1,y)) e,valV_pos e,Option.map_some,if_pos (e.symm.trans h)]
      · rw [valV_neg (p:=(p.1,y)) e,valV_neg e,ih]
    · rw [if_neg h]
      by_cases e:p.1=j
      · rw [valV_pos (p:=p) e,valV_pos e,Option.map_some,if_neg (fun z=>h (e.trans z))]
      · rw [valV_neg (p:=p) e,valV_neg e,ih]
theorem valV_snoc (k j:κ) (y:V):∀ kvs:List (κ × V),valV kvs k=none→valV (kvs ++ [(k,y)]) j=if j=k then some y else valV kvs j
  | [],_=>by
    by_cases e:k=j
    · rw [if_pos e.symm];exact valV_pos (p:=(k,y)) e
    · rw [if_neg (fun z=>e z.symm)];exact valV_neg (p:=(k,y)) e
  | p :: r,hn=>by
    rw [List.cons_append]
    have hk:¬ p.1=k:=fun z=>by rw [valV_pos z] at hn;cases hn
    rw [valV_neg hk] at hn
    have ih:=valV_snoc k j y r hn
    by_cases e:p.1=j
    · rw [valV_pos e,valV_pos e,if_neg (fun z=>hk (e.trans z))]
    · rw [valV_neg e,valV_neg e,ih]
theorem valV_put (kvs:List (κ × V)) (k j:κ) (y:V):valV (putK kvs k y) j=if j=k then some y else valV kvs j:=by
  unfold putK
  by_cases a:(kvs.any fun kv=>decide (kv.1=k))=true
  · rw [if_pos a,valV_map]
    rw [valV_any] at a
    by_cases e:j=k
    · obtain ⟨x,hx⟩:=Option.isSome_iff_exists.mp a
      rw [if_pos e,e,hx,Option.map_some,if_pos rfl]
    · rw [if_neg e]
      cases valV kvs j with
      | none=>rfl
      | some x=>rw [Option.map_some,if_neg e]
  · rw [if_neg a]
    refine valV_snoc k j y kvs ?_
    rw [valV_any] at a
    cases q:valV kvs k with
    | none=>rfl
    | some x=>rw [q] at a;exact (a rfl).elim
theorem length_putK (kvs:List (κ × V)) (k:κ) (v:V):(putK kvs k v).length≤kvs.length + 1:=by
  unfold putK
  split
  · rw [List.length_map];omega
  · rw [List.length_append,List.length_cons,List.length_nil];omega
theorem putK_new {kvs:List (κ × V)} {k:κ} (v:V) (h:valV kvs k=none):putK kvs k v=kvs ++ [(k,v)]:=by
  unfold putK
  rw [valV_any,h]
  exact if_neg (by decide)
theorem RelO.isSome_eq {o:Option V} {u:Option Value} (r:RelO o u):o.isSome=u.isSome:=by
  cases o with
  | none=>cases u with
    | none=>rfl
    | some _=>exact (show False from r).elim
  | some _=>cases u with
    | none=>exact (show False from r).elim
    | some _=>rfl
theorem RelO.getD {o:Option V} {u:Option Value} {d:V} {d':Value} (r:RelO o u) (rd:RelV d d'):RelV (o.getD d) (u.getD d'):=by
  cases o with
  | none=>cases u with
    | none=>exact rd
    | some _=>exact (show False from r).elim
  | some _=>cases u with
    | none=>exact (show False from r).elim
    | some _=>exact r
theorem KV.val {kvs:List (κ × V)} {vs:List (κ × Value)} (r:KV kvs vs) (k:κ):RelO (valV kvs k) (valueAt vs k):=by
  unfold KV at r
  induction r with
  | nil=>exact True.intro
  | @cons p q ps qs h t ih =>
    obtain ⟨h1,h2⟩:=h
    by_cases e:p.1=k
    · have e':q.1=k:=h1.symm.trans e
      have b:valueAt (q :: qs) k=some q.2:=by simp [valueAt,List.find?_cons,e']
      rw [valV_pos e,b];exact h2
    · have e':¬ q.1=k:=fun z=>e (h1.trans z)
      have b:valueAt (q :: qs) k=valueAt qs k:=by simp [valueAt,List.find?_cons,e']
      rw [valV_neg e,b];exact ih
theorem KV.any {kvs:List (κ × V)} {vs:List (κ × Value)} (r:KV kvs vs) (k:κ):(kvs.any fun kv=>decide (kv.1=k))=vs.any fun kv=>decide (kv.1=k):=by
  unfold KV at r
  induction r with
  | nil=>rfl
  | cons h t ih=>rw [List.any_cons,List.any_cons,ih,h.1]
theorem KV.repl {kvs:List (κ × V)} {vs:List (κ × Value)} (r:KV kvs vs) (k:κ) {y:V} {u:Value} (ry:RelV y u) :
    KV (kvs.map fun kv=>if kv.1=k then (kv.1,y) else kv) (vs.map fun kv=>if kv.1=k then (kv.1,u) else kv):=by
  unfold KV at r ⊢
  induction r with
  | nil=>exact .nil
  | @cons p q ps qs h t ih =>
    rw [List.map_cons,List.map_cons]
    refine .cons ?_ ih
    obtain ⟨h1,h2⟩:=h
    by_cases e:p.1=k
    · rw [if_pos e,if_pos (h1.symm.trans e)];exact ⟨h1,ry⟩
    · rw [if_neg e,if_neg (fun z=>e (h1.trans z))];exact ⟨h1,h2⟩
theorem KV.put {kvs:List (κ × V)} {vs:List (κ × Value)} (r:KV kvs vs) (k:κ) {y:V} {u:Value} (ry:RelV y u):KV (putK kvs k y) (stored vs k u):=by
  unfold putK stored
  rw [r.any k]
  by_cases e:(vs.any fun kv=>decide (kv.1=k))=true
  · rw [if_pos e,if_pos e];exact r.repl k ry
  · rw [if_neg e,if_neg e];exact Paired.snoc r ⟨rfl,ry⟩
theorem KV.length {kvs:List (κ × V)} {vs:List (κ × Value)} (r:KV kvs vs):kvs.length=vs.length:=Paired.length r
end
theorem kV_is {P:Program} {w:World} {k:Key} {u:Value} (r:RelV (kV k) u):(mixKind P w).is k u=true:=by
  cases k with
  | inl i=>obtain ⟨t,e⟩:=(show ∃ t,u=Value.int i t from r);subst e;exact mixKind_int P w i t
  | inr x=>obtain ⟨t,e⟩:=(show ∃ t,u=Value.str x t from r);subst e;exact mixKind_str P w x t
theorem items_are {P:Program} {w:World}:∀ {ks:List Key} {us:List Value},Vals (ks.map kV) us→ItemsAre (mixKind P w) ks us
  | [],_,r=>by rw [List.map_nil] at r;cases r;exact .nil
  | k :: ks,_,r=>by
    rw [List.map_cons] at r
    cases r with
    | cons h t=>exact .cons (kV_is h) (items_are t)
abbrev KT (H:Hp):List (List Key × V)→List (List Key × Addr × Value)→Prop:=Paired fun p q=>p.1=q.1∧H q.2.1=some (.tup (p.1.map kV))∧RelV p.2 q.2.2
theorem KT.val {H:Hp} {kvs:List (List Key × V)} {xs:List (List Key × Addr × Value)} (r:KT H kvs xs) (k:List Key):RelO (valV kvs k) ((atKey xs k).map (·.2)):=by
  induction r with
  | nil=>exact True.intro
  | @cons p q ps qs h t ih =>
    obtain ⟨h1,_,h2⟩:=h
    by_cases e:p.1=k
    · have e':q.1=k:=h1.symm.trans e
      have b:atKey (q :: qs) k=some q.2:=by simp [atKey,List.find?_cons,e']
      rw [valV_pos e,b];exact h2
    · have e':¬ q.1=k:=fun z=>e (h1.trans z)
      have b:atKey (q :: qs) k=atKey qs k:=by simp [atKey,List.find?_cons,e']
      rw [valV_neg e,b];exact ih
theorem KT.repl {H:Hp} {kvs:List (List Key × V)} {xs:List (List Key × Addr × Value)} (r:KT H kvs xs) (k:List Key) {y:V} {u:Value} (ry:RelV y u) :
    KT H (kvs.map fun kv=>if kv.1=k then (kv.1,y) else kv) (xs.map (putAt k u)):=by
  induction r with
  | nil=>exact .nil
  | @cons p q ps qs h t ih =>
    rw [List.map_cons,List.map_cons]
    refine .cons ?_ ih
    obtain ⟨h1,h2,h3⟩:=h
    unfold putAt
    by_cases e:p.1=k
    · rw [if_pos e,if_pos (h1.symm.trans e)];exact ⟨h1,h2,ry⟩
    · rw [if_neg e,if_neg (fun z=>e (h1.trans z))];exact ⟨h1,h2,h3⟩
theorem KT.put {H:Hp} {kvs:List (List Key × V)} {xs:List (List Key × Addr × Value)} (r:KT H kvs xs) (k:List Key) {b:Addr} {y:V} {u:Value} (hb:H b=some (.tup (k.map kV))) (ry:RelV y u) :
    KT H (putK kvs k y) (storedH xs k b u):=by
  have e:(kvs.any fun kv=>decide (kv.1=k))=(atKey xs k).isSome:=by
    rw [valV_any,(r.val k).isSome_eq,Option.isSome_map]
  unfold putK storedH
  rw [e]
  by_cases q:(atKey xs k).isSome=true
  · rw [if_pos q,if_pos q];exact r.repl k ry
  · rw [if_neg q,if_neg q];exact Paired.snoc r ⟨rfl,hb,ry⟩
theorem KT.keeps {H H':Hp} {kvs:List (List Key × V)} {xs:List (List Key × Addr × Value)} (r:KT H kvs xs) (ht:∀ b ys,H b=some (.tup ys)→H' b=some (.tup ys)):KT H' kvs xs :=
  Paired.mapP r fun _ _ z=>⟨z.1,ht _ _ z.2.1,z.2.2⟩
section
variable {P:Program} {w:World} {H:Hp} {h:Heap} {a:Addr}
theorem rd_of {u:HO} (ok:HOk P w H h) (e:Rd H a u):ObjOk P w H h a u:=e.ok ok
theorem dk_rd {kvs:List (Key × V)} (ok:HOk P w H h) (e:Rd H a (.dK kvs)):kvs.length≤sizeLine∧(a == sysModules)=false∧∃ vs,KV kvs vs∧h.DictOf (mixKind P w) a vs :=
  show ObjOk P w H h a (.dK kvs) from rd_of ok e
theorem dk_of {kvs:List (Key × V)} (ok:HOk P w H h) (e:H a=some (.dK kvs)):kvs.length≤sizeLine∧(a == sysModules)=false∧∃ vs,KV kvs vs∧h.DictOf (mixKind P w) a vs:=dk_rd ok (.inl e)
theorem key_of {ks:List Key} (ok:HOk P w H h) (e:H a=some (.tup (ks.map kV))):(tupleKind (mixKind P w)).is h ks a:=by
  obtain ⟨_,its,r,o,h1,h2,n,h3⟩:=(show ObjOk P w H h a (.tup (ks.map kV)) from ok a _ e)
  exact ⟨o,its.toArray,n,h1,h2,h3,by simpa using items_are r⟩
theorem dt_rd {kvs:List (List Key × V)} (ok:HOk P w H h) (e:Rd H a (.dT kvs)):kvs.length≤sizeLine∧(a == sysModules)=false ∧
    ∃ xs,KT H kvs xs∧h.DictOfH (tupleKind (mixKind P w)) a xs:=by
  obtain ⟨z,y,xs,r,o,es,ep,h1,h2,h3,h4,h5⟩:=(show ObjOk P w H h a (.dT kvs) from rd_of ok e)
  refine ⟨z,y,xs,r,o,es,ep,h1,h2,h3,h4,fun x hx=>?_,h5⟩
  have all:∀ {l:List (List Key × V)} {m:List (List Key × Addr × Value)},KT H l m→∀ x∈m,(tupleKind (mixKind P w)).is h x.1 x.2.1:=by
    intro l m q
    induction q with
    | nil=>intro x hx;exact nomatch hx
    | @cons p q ps qs hq t ih =>
      intro x hx
      rcases List.mem_cons.mp hx with e | hx
      · subst e
        exact key_of ok (by rw [← hq.1];exact hq.2.1)
      · exact ih x hx
  exact all r x hx
theorem dt_of {kvs:List (List Key × V)} (ok:HOk P w H h) (e:H a=some (.dT kvs)):kvs.length≤sizeLine∧(a == sysModules)=false ∧
    ∃ xs,KT H kvs xs∧h.DictOfH (tupleKind (mixKind P w)) a xs:=dt_rd ok (.inl e)
end
def DGet (H:Hp) (a:Addr) (y:V) (r:Option V):Prop :=
  (∃ kvs k,Rd H a (.dK kvs)∧y=kV k∧r=valV kvs k)∨∃ kvs k b,Rd H a (.dT kvs)∧y=.ref b∧H b=some (.tup (k.map kV))∧r=valV kvs k
def DPut (H:Hp) (a:Addr) (y v:V) (H':Hp):Prop :=
  (∃ kvs k,H a=some (.dK kvs)∧y=kV k∧kvs.length < sizeLine∧H'=upd H a (.dK (putK kvs k v))) ∨
  ∃ kvs k b,H a=some (.dT kvs)∧y=.ref b∧H b=some (.tup (k.map kV))∧kvs.length < sizeLine∧H'=upd H a (.dT (putK kvs k v))
theorem DGet.k {H:Hp} {a:Addr} {kvs:List (Key × V)} {k:Key} (e:H a=some (.dK kvs)):DGet H a (kV k) (valV kvs k):=.inl ⟨kvs,k,.inl e,rfl,rfl⟩
theorem DPut.k {H:Hp} {a:Addr} {kvs:List (Key × V)} {k:Key} {v:V} (e:H a=some (.dK kvs)) (hl:kvs.length < sizeLine):DPut H a (kV k) v (upd H a (.dK (putK kvs k v))):=.inl ⟨kvs,k,e,rfl,hl,rfl⟩
theorem DPut.t {H:Hp} {a b:Addr} {kvs:List (List Key × V)} {k:List Key} {v:V} (e:H a=some (.dT kvs)) (eb:H b=some (.tup (k.map kV))) (hl:kvs.length < sizeLine) :
    DPut H a (.ref b) v (upd H a (.dT (putK kvs k v))):=.inr ⟨kvs,k,b,e,rfl,eb,hl,rfl⟩
section
variable {X:Cx} {pins:List (Addr × Obj)} {σ:St} {H:Hp} {s:Shared} {a:Addr} {y v:V} {u r:Value} {o:Option V} {A:Around} {E:Value→Shared→Prop}
theorem Inv.big (I:Inv X pins σ H s):sysModules < s.heap.objs.size:=by
  have h:mainGlobals < s.heap.objs.size:=(I.mod.glob.keeps I.bk).lt
  exact Nat.lt_trans (by decide) h
theorem d_getItem {Q:Value→Shared→Prop} (hu:A.units + 1 < cLine) (I:Inv X pins σ H s) (g:DGet H a y (some v)) (ry:RelV y u) (h:∀ w' s',Inv X pins σ H s'→RelV v w'→Q w' s') :
    wpAny (model X.prog X.w) A (getItem (.ref a) u) Q E s:=by
  rcases g with ⟨kvs,k,e,ey,l⟩ | ⟨kvs,k,b,e,ey,eb,l⟩
  · subst ey
    obtain ⟨z,hd,vs,rel,dd⟩:=dk_rd I.hok e
    obtain ⟨w',hw,rw'⟩:=RelO.some_of (v:=v) (o:=valueAt vs k) (by rw [l];exact rel.val k)
    exact wpAny_getItem_of (kV_is ry) dd.mapOf hw (h w' _ (I.tok _) rw')
  · subst ey
    cases (show u=Value.ref b from ry)
    obtain ⟨z,hd,xs,rel,dd⟩:=dt_rd I.hok e
    obtain ⟨w',hw,rw'⟩:=RelO.some_of (v:=v) (o:=(atKey xs k).map (·.2)) (by rw [l];exact rel.val k)
    obtain ⟨p,hp,hp2⟩:=Option.map_eq_some_iff.mp hw
    refine wpAny_getItem_heap (tupleKind_room_in1 hu) (key_of I.hok eb) dd hp ?_
    rw [hp2]
    exact h w' _ (I.tok _) rw'
theorem d_in {Q:Value→Shared→Prop} (hu:A.units + 1 < cLine) (I:Inv X pins σ H s) (g:DGet H a y o) (ry:RelV y u) (h:∀ s',Inv X pins σ H s'→Q (.bool o.isSome) s') :
    wpAny (model X.prog X.w) A (compareOp .In u (.ref a)) Q E s:=by
  rcases g with ⟨kvs,k,e,ey,l⟩ | ⟨kvs,k,b,e,ey,eb,l⟩
  · subst ey
    obtain ⟨z,hd,vs,rel,dd⟩:=dk_rd I.hok e
    refine wpAny_in_of (kV_is ry) hd dd.mapOf ?_
    rw [← (rel.val k).isSome_eq,← l]
    exact h _ (I.tok _)
  · subst ey
    cases (show u=Value.ref b from ry)
    obtain ⟨z,hd,xs,rel,dd⟩:=dt_rd I.hok e
    refine wpAny_in_heap (tupleKind_room_in1 hu) (key_of I.hok eb) hd dd ?_
    have q:=(rel.val k).isSome_eq
    rw [Option.isSome_map] at q
    rw [← q,← l]
    exact h _ (I.tok _)
theorem d_notIn {Q:Value→Shared→Prop} (hu:A.units + 1 < cLine) (I:Inv X pins σ H s) (g:DGet H a y o) (ry:RelV y u) (h:∀ s',Inv X pins σ H s'→Q (.bool (!o.isSome)) s') :
    wpAny (model X.prog X.w) A (compareOp .NotIn u (.ref a)) Q E s:=by
  rcases g with ⟨kvs,k,e,ey,l⟩ | ⟨kvs,k,b,e,ey,eb,l⟩
  · subst ey
    obtain ⟨z,hd,vs,rel,dd⟩:=dk_rd I.hok e
    refine wpAny_notIn_of (kV_is ry) hd dd.mapOf ?_
    rw [← (rel.val k).isSome_eq,← l]
    exact h _ (I.tok _)
  · subst ey
    cases (show u=Value.ref b from ry)
    obtain ⟨z,hd,xs,rel,dd⟩:=dt_rd I.hok e
    refine wpAny_notIn_heap (tupleKind_room_in1 hu) (key_of I.hok eb) hd dd ?_
    have q:=(rel.val k).isSome_eq
    rw [Option.isSome_map] at q
    rw [← q,← l]
    exact h _ (I.tok _)
theorem d_write {h':Heap} {t':Nat} {ob:HO} (I:Inv X pins σ H s) (mu:Mut (H a)) (hs:Heap.SameBut a s.heap h') (he:∃ q,h'.get? a=some q) (new:ObjOk X.prog X.w (upd H a ob) h' a ob) :
    Inv X pins σ (upd H a ob) { s with heap:=h',toks:=t' } :=
  I.write (x:=a) (e:=a) mu (.inl rfl) (fun b q hb z=>(hs.2 b hb).trans z) he new
theorem dk_new {P:Program} {w:World} {H':Hp} {h':Heap} {kvs:List (Key × V)} {vs:List (Key × Value)} (z:kvs.length≤sizeLine) (hd:(a == sysModules)=false) (rel:KV kvs vs) (dd:h'.DictOf (mixKind P w) a vs) :
    ObjOk P w H' h' a (.dK kvs):=⟨z,hd,vs,rel,dd⟩
theorem d_setItem {H':Hp} {Q:Unit→Shared→Prop} (hu:A.units + 1 < cLine) (I:Inv X pins σ H s) (g:DPut H a y v H') (ry:RelV y u) (rv:RelV v r) (h:∀ s',Inv X pins σ H' s'→Q () s') :
    wpAny (model X.prog X.w) A (setItem (.ref a) u r) Q E s:=by
  rcases g with ⟨kvs,k,e,ey,l,eH⟩ | ⟨kvs,k,b,e,ey,eb,l,eH⟩
  · subst ey eH
    obtain ⟨z,hd,vs,rel,dd⟩:=dk_of I.hok e
    have hz:vs.length≤sizeLine:=by rw [← rel.length];exact z
    have hl:(putK kvs k v).length≤sizeLine:=by have:=length_putK kvs k v;omega
    refine wpAny_setItem_pairs (hsz:=hz) (kV_is ry) dd fun h' dd' hs=>h _ ?_
    have he:∃ q,h'.get? a=some q:=let ⟨q,_,_,hq,_⟩:=dd';⟨q,hq⟩
    exact d_write I (by rw [e];exact True.intro) hs he (dk_new hl hd (rel.put k rv) dd')
  · subst ey eH
    cases (show u=Value.ref b from ry)
    obtain ⟨z,hd,xs,rel,dd⟩:=dt_of I.hok e
    have hz:xs.length≤sizeLine:=by rw [← Paired.length rel];exact z
    have hl:(putK kvs k v).length≤sizeLine:=by have:=length_putK kvs k v;omega
    refine wpAny_setItem_heap (hsz:=hz) (tupleKind_room_in1 hu) (key_of I.hok eb) dd fun h' dd' hs=>h _ ?_
    obtain ⟨q,es,ep,hq,h2,h3,h4,_,h5⟩:=dd'
    refine d_write I (by rw [e];exact True.intro) hs ⟨q,hq⟩ ⟨hl,hd,_,(rel.put k eb rv).keeps fun c ys ec=>?_,q,es,ep,hq,h2,h3,h4,h5⟩
    rw [upd_ne (ne_of ec e (fun z=>nomatch z))]
    exact ec
end
section
variable {X:Cx} {pins:List (Addr × Obj)} {σ:St} {H:Hp} {s:Shared} {a:Addr} {kvs:List (Key × V)} {k:Key} {u:Value} {A:Around} {E:Value→Shared→Prop}
end
def NoSl (i:Expr):Prop:=∀ ov iv,subscripted i false ov iv=operate [ov,iv] (getItem ov iv)
theorem subD_of {prog:Program} {w:World} {A:Around} {E:Value→Shared→Prop} {s:Shared} {env:Env} {value slice:Expr} {pos:Pos} {T id:String} {Q:Value→Shared→Prop}
    (hl:typeLookup (.type T) "__getitem__"=pure (some (.builtin id))) (hs:NoSl slice)
    (h:wpAny (model prog w) A (eval value env) (fun o s₁=>wpAny (model prog w) A (eval slice env) (fun i s₂=>s₂.TypeIs o T∧wpAny (model prog w) A (getItem o i) Q E s₂) E s₁) E s) :
    wpAny (model prog w) A (eval (.Subscript value slice pos) env) Q E s:=by
  refine Subscript_ (wpAny_mono h (fun o s₁ h₁=>wpAny_mono h₁ (fun i s₂ h₂=>?_) fun _ _ x=>x) fun _ _ x=>x)
  obtain ⟨hT,h₂⟩:=h₂
  unfold subscriptTail
  refine wpAny_bind ?_
  rw [getitemInPython_of_ne hT.not_modules]
  refine wpAny_bind (wpAny_specialOf hT hl ?_)
  have fin:wpAny (model prog w) A (subscripted slice false o i) (fun r s₃=>wpAny (model prog w) A (letTemporaryGo value o r >>= fun _=>pure r) Q E s₃) E s₂:=by
    rw [hs o i]
    exact wpAny_operating (wpAny_mono h₂ (fun r s₃ h₃=>wpAny_bind (wpAny_letTemporaryGo (wpAny_pure h₃))) fun _ _ x=>x)
  first
    | exact wpAny_pure (wpAny_bind fin)
    | exact wpAny_bind (wpAny_pure (wpAny_bind fin))
    | exact wpAny_bind fin
theorem dict_typeIs {X:Cx} {pins:List (Addr × Obj)} {σ:St} {H:Hp} {s:Shared} {a:Addr} {y:V} {o:Option V} (I:Inv X pins σ H s) (g:DGet H a y o):s.TypeIs (.ref a) "dict":=by
  rcases g with ⟨kvs,k,e,_,_⟩ | ⟨kvs,k,b,e,_,_,_⟩
  · obtain ⟨_,_,vs,_,dd⟩:=dk_rd I.hok e
    exact dd.typeIs
  · obtain ⟨_,_,xs,_,dd⟩:=dt_rd I.hok e
    exact dd.typeIs
def tDGet (td ty:TE):TE:=fun σ H Q=>td σ H fun x H1=>ty σ H1 fun y H2=>∃ a v,x=.ref a∧DGet H2 a y (some v)∧Q v H2
def sDPut (td ty tv:TE):TS:=fun D σ H=>tv σ H fun v H1=>td σ H1 fun x H2=>ty σ H2 fun y H3=>∃ a H4,x=.ref a∧DPut H3 a y v H4∧D.nx σ H4
section
variable {X:Cx} {o i e value:Expr} {pos pos' tpos:Pos} {td ty tv:TE}
theorem pe_dget (hu:X.A.units + 1 < cLine) (ho:PE X o td) (hi:PE X i ty) (hs:NoSl i):PE X (.Subscript o i pos) (tDGet td ty):=by
  intro pins s σ H Q I h
  refine subD_of PySem.F.slot_dict_getitem.lookup hs (thn (ho pins s σ H _ I h) fun u s1 ⟨x,H1,I1,rx,q1⟩=>thn (hi pins s1 σ H1 _ I1 q1) fun iv s2 ⟨y,H2,I2,ry,a,v,ex,g,q2⟩=>?_)
  subst ex
  obtain rfl:u=Value.ref a:=rx
  exact ⟨dict_typeIs I2 g,d_getItem hu I2 g ry fun w' s3 I3 rw'=>⟨v,H2,I3,rw',q2⟩⟩
theorem ps_dput (hu:X.A.units + 1 < cLine) (ho:PE X o td) (hi:PE X i ty) (hv:PE X value tv) (hs:swapsWith value (some (.Subscript o i pos')) pos.line X.env=pure false) :
    PS X (.Assign [.Subscript o i pos'] value pos) (sDPut td ty tv):=by
  intro pins s σ H D I h
  refine wpAny_Assign_Subscript (thn (hv pins s σ H _ I h) fun r s1 ⟨v,H1,I1,rv,q1⟩=>thn (ho pins s1 σ H1 _ I1 q1) fun u s2 ⟨x,H2,I2,rx,q2⟩=>thn (hi pins s2 σ H2 _ I2 q2) fun iv s3 ⟨y,H3,I3,ry,a,H4,ex,g,q3⟩=>?_) hs
  subst ex
  obtain rfl:u=Value.ref a:=rx
  exact d_setItem hu I3 g ry rv fun s4 I4=>⟨σ,H4,I4,q3⟩
end
theorem dk_empty {P:Program} {w:World} {H:Hp} (h:Heap) (hb:sysModules < h.objs.size):ObjOk P w H (h.push { cls:=.type "dict",data:=.dict #[] }) h.objs.size (.dK []) :=
  ⟨Nat.zero_le _,beq_eq_false_iff_ne.mpr (Ne.symm (Nat.ne_of_lt hb)),[],.nil,Heap.DictOf.new h⟩
theorem dt_empty {P:Program} {w:World} {H:Hp} (h:Heap) (hb:sysModules < h.objs.size):ObjOk P w H (h.push { cls:=.type "dict",data:=.dict #[] }) h.objs.size (.dT []) :=
  ⟨Nat.zero_le _,beq_eq_false_iff_ne.mpr (Ne.symm (Nat.ne_of_lt hb)),[],.nil,_,#[],0,Heap.get?_push_size _ rfl,⟨rfl,rfl,rfl⟩,rfl,rfl,List.nodup_nil⟩
def tDNewK:TE:=fun _ H Q=>∀ p,H p=none→Q (.ref p) (upd H p (.dK []))
def tDNewT:TE:=fun _ H Q=>∀ p,H p=none→Q (.ref p) (upd H p (.dT []))
section
variable {X:Cx} {pos:Pos}
theorem pe_dnewK:PE X (.Dict [] [] pos) tDNewK:=fun pins s σ H Q I h =>
  wpAny_Dict_empty ⟨.ref s.heap.objs.size,_,I.laid (a:=s.heap.objs.size) (o:=.dK []) (t':=s.toks) (fun _ _ q=>Heap.get?_push_of_some _ q) (Nat.le_refl _) (dk_empty s.heap I.big),rfl,h _ (I.hok.fresh (Nat.le_refl _))⟩
theorem pe_dnewT:PE X (.Dict [] [] pos) tDNewT:=fun pins s σ H Q I h =>
  wpAny_Dict_empty ⟨.ref s.heap.objs.size,_,I.laid (a:=s.heap.objs.size) (o:=.dT []) (t':=s.toks) (fun _ _ q=>Heap.get?_push_of_some _ q) (Nat.le_refl _) (dt_empty s.heap I.big),rfl,h _ (I.hok.fresh (Nat.le_refl _))⟩
end
def tPairs:List (TE × TE)→St→Hp→(List (V × V)→Hp→Prop)→Prop
  | [],_,H,Q=>Q [] H
  | (tk,tv) :: r,σ,H,Q=>tk σ H fun x H1=>tv σ H1 fun y H2=>tPairs r σ H2 fun ps H3=>Q ((x,y) :: ps) H3
abbrev VV:List (V × V)→List (Value × Value)→Prop:=Paired fun p q=>RelV p.1 q.1∧RelV p.2 q.2
def PPs (X:Cx) (pos:Pos) (keys:List (Option Expr)) (values:List Expr) (trs:List (TE × TE)):Prop :=
  ∀ (pins:List (Addr × Obj)) (s:Shared) (σ:St) (H:Hp) (Q:List (V × V)→Hp→Prop),Inv X pins σ H s→tPairs trs σ H Q →
    wpAny (model X.prog X.w) X.A (evalPairs (pairTrees keys values X.env pos)) (fun vs s'=>∃ ps H',Inv X pins σ H' s'∧VV ps vs∧Q ps H') X.xe s
theorem pps_nil {X:Cx} {pos:Pos}:PPs X pos [] [] []:=fun pins s σ H Q I h=>pairTrees_nil_walk ⟨[],H,I,.nil,h⟩
theorem pps_cons {X:Cx} {pos:Pos} {k v:Expr} {ks:List (Option Expr)} {vs:List Expr} {tk tv:TE} {trs:List (TE × TE)} (hk:PE X k tk) (hv:PE X v tv) (hr:PPs X pos ks vs trs) :
    PPs X pos (some k :: ks) (v :: vs) ((tk,tv) :: trs):=fun pins s σ H Q I h =>
  pairTrees_cons_walk (thn (hk pins s σ H _ I h) fun u s1 ⟨x,H1,I1,rx,q1⟩=>thn (hv pins s1 σ H1 _ I1 q1) fun w2 s2 ⟨y,H2,I2,ry,q2⟩ =>
    thn (hr pins s2 σ H2 _ I2 q2) fun ws s3 ⟨ps,H3,I3,rel,q3⟩=>⟨(x,y) :: ps,H3,I3,.cons ⟨rx,ry⟩ rel,q3⟩)
def mergeK (kvs more:List (Key × V)):List (Key × V):=more.foldl (fun acc kv=>putK acc kv.1 kv.2) kvs
theorem KV.merge:∀ {more:List (Key × V)} {rs:List (Key × Value)} {kvs:List (Key × V)} {vs:List (Key × Value)},KV more rs→KV kvs vs→KV (mergeK kvs more) (merged vs rs):=by
  intro more rs kvs vs r
  unfold KV at r
  induction r generalizing kvs vs with
  | nil=>intro q;exact q
  | @cons p q ps qs h t ih =>
    intro r0
    have e:KV (putK kvs p.1 p.2) (stored vs q.1 q.2):=by
      have:=r0.put p.1 h.2
      rw [← h.1];exact this
    exact ih e
theorem length_mergeK:∀ (more kvs:List (Key × V)),(mergeK kvs more).length≤kvs.length + more.length
  | [],kvs=>by show kvs.length≤kvs.length + 0;omega
  | p :: r,kvs=>by
    have h1:=length_mergeK r (putK kvs p.1 p.2)
    have h2:=length_putK kvs p.1 p.2
    show (mergeK (putK kvs p.1 p.2) r).length≤_
    rw [List.length_cons];omega
theorem carries_of {P:Program} {w:World}:∀ {kvs:List (Key × V)} {ws:List (Value × Value)},VV (kvs.map fun kv=>(kV kv.1,kv.2)) ws→∃ rs,Carries (mixKind P w) ws rs∧KV kvs rs
  | [],_,r=>by rw [List.map_nil] at r;cases r;exact ⟨[],True.intro,.nil⟩
  | p :: kvs,_,r=>by
    rw [List.map_cons] at r
    cases r with
    | @cons a b as bs h t =>
      obtain ⟨rs,c,q⟩:=carries_of (P:=P) (w:=w) t
      obtain ⟨b1,b2⟩:=b
      exact ⟨(p.1,b2) :: rs,⟨kV_is h.1,rfl,c⟩,.cons ⟨rfl,h.2⟩ q⟩
def tDisp (trs:List (TE × TE)):TE:=fun σ H Q=>∀ p,H p=none→tPairs trs σ (upd H p (.dK [])) fun ps H2=>H2 p=some (.dK [])∧∃ kvs:List (Key × V),ps=kvs.map (fun kv=>(kV kv.1,kv.2))∧kvs.length≤15∧Q (.ref p) (upd H2 p (.dK (mergeK [] kvs)))
theorem pe_disp {X:Cx} {pos:Pos} {keys:List (Option Expr)} {values:List Expr} {trs:List (TE × TE)} (h:PPs X pos keys values trs) (hall:keys.all (·.isSome)=true) (hl:keys.length=values.length) (h0:keys≠[])
    (h15:keys.length≤15):PE X (.Dict keys values pos) (tDisp trs):=by
  intro pins s σ H Q I q
  have hn:=I.hok.fresh (Nat.le_refl s.heap.objs.size)
  have I1:=I.laid (a:=s.heap.objs.size) (o:=.dK []) (h':=s.heap.push { cls:=.type "dict",data:=.dict #[] }) (t':=s.toks) (fun _ _ q=>Heap.get?_push_of_some _ q) (Nat.le_refl _) (dk_empty s.heap I.big)
  refine wpAny_Dict_walk (knd:=mixKind X.prog X.w) hall hl h0 h15 (thn (h pins _ σ _ _ I1 (q _ hn)) fun ws s2 ⟨ps,H2,I2,rel,e,kvs,ep,lk,q2⟩=>?_)
  subst ep
  obtain ⟨rs,c,rk⟩:=carries_of (P:=X.prog) (w:=X.w) rel
  obtain ⟨z,hd,vs0,r0,dd⟩:=dk_of I2.hok e
  cases r0
  refine ⟨rs,c,dd,fun h' dd' hs=>⟨.ref s.heap.objs.size,_,?_,rfl,q2⟩⟩
  have hz:(mergeK [] kvs).length≤sizeLine:=by
    have h1:=length_mergeK kvs []
    rw [List.length_nil] at h1
    rw [sizeLine_eq];omega
  have he:∃ q,h'.get? s.heap.objs.size=some q:=let ⟨q,_,_,hq,_⟩:=dd';⟨q,hq⟩
  exact d_write I2 (by rw [e];exact True.intro) hs he (dk_new hz hd (rk.merge .nil) dd')
structure M1 (X:Cx) (o:Expr) (m:Str) (apos:Pos) (e:Expr) (cpos:Pos):Prop where
  base:attributeBase o m X.env (eval o X.env)=eval o X.env
  few:((backTo cpos (starEach [e] X.env)).all (fun x=>!x.1) && (backToKw cpos (keywordEach [] X.env)).all (fun x=>x.1.isSome)
    && decide (([e]:List Expr).length + ([]:List Keyword).length + (if ([]:List Keyword).isEmpty then 0 else 1) < 30))=true
  line:(apos.endLine == cpos.line)=true
  trees:backTo cpos (starEach [e] X.env)=[(false,eval e X.env)]
structure M2 (X:Cx) (o:Expr) (m:Str) (apos:Pos) (e f:Expr) (cpos:Pos):Prop where
  base:attributeBase o m X.env (eval o X.env)=eval o X.env
  few:((backTo cpos (starEach [e,f] X.env)).all (fun x=>!x.1) && (backToKw cpos (keywordEach [] X.env)).all (fun x=>x.1.isSome)
    && decide (([e,f]:List Expr).length + ([]:List Keyword).length + (if ([]:List Keyword).isEmpty then 0 else 1) < 30))=true
  line:(apos.endLine == cpos.line)=true
  trees:backTo cpos (starEach [e,f] X.env)=[(false,eval e X.env),(false,eval f X.env)]
def IsD (H:Hp) (a:Addr):Prop:=(∃ kvs,Rd H a (.dK kvs))∨∃ kvs,Rd H a (.dT kvs)
theorem isD_at {X:Cx} {pins:List (Addr × Obj)} {σ:St} {H:Hp} {s:Shared} {a:Addr} (I:Inv X pins σ H s) (d:IsD H a) :
    s.TypeIs (.ref a) "dict"∧(∀ b,Value.ref a=.ref b→∃ ob,s.heap.get? b=some ob∧ob.dict=none)∧(a == sysModules)=false:=by
  rcases d with ⟨kvs,e⟩ | ⟨kvs,e⟩
  · obtain ⟨_,hd,vs,_,dd⟩:=dk_rd I.hok e
    refine ⟨dd.typeIs,fun b q=>?_,hd⟩
    cases q
    obtain ⟨ob,_,_,h1,h2,_⟩:=dd
    exact ⟨ob,h1,h2.2.1⟩
  · obtain ⟨_,hd,xs,_,dd⟩:=dt_rd I.hok e
    refine ⟨dd.typeIs,fun b q=>?_,hd⟩
    cases q
    obtain ⟨ob,_,_,h1,h2,_⟩:=dd
    exact ⟨ob,h1,h2.2.1⟩
section
variable {X:Cx} {pins:List (Addr × Obj)} {σ:St} {H:Hp} {s:Shared} {a:Addr} {y d:V} {u r:Value} {o:Option V} {A:Around} {E:Value→Shared→Prop}
theorem d_get2 {Q:Value→Shared→Prop} (hu:A.units + 1 < cLine) (I:Inv X pins σ H s) (g:DGet H a y o) (ry:RelV y u) (rd:RelV d r) (h:∀ w' s',Inv X pins σ H s'→RelV (o.getD d) w'→Q w' s') :
    wpAny (model X.prog X.w) A (call (.builtin "dict.get") [.ref a,u,r]) Q E s:=by
  rcases g with ⟨kvs,k,e,ey,l⟩ | ⟨kvs,k,b,e,ey,eb,l⟩
  · subst ey
    obtain ⟨z,hd,vs,rel,dd⟩:=dk_rd I.hok e
    refine call_meetsIn PySem.F.slot_dict_get dd.typeIs PySem.F.entry_dict_get (PySem.F.args_dict_get_3 _ _ _) (meets_dict_get_default (mixKind X.prog X.w) a (kV_is ry) hd r) ⟨_,dd.mapOf,h _ _ (I.tok _) ?_⟩
    rw [l]
    exact (rel.val k).getD rd
  · subst ey
    cases (show u=Value.ref b from ry)
    obtain ⟨z,hd,xs,rel,dd⟩:=dt_rd I.hok e
    refine call_meetsIn PySem.F.slot_dict_get dd.typeIs PySem.F.entry_dict_get (PySem.F.args_dict_get_3 _ _ _) (meetsH_dict_get_default (tupleKind (mixKind X.prog X.w)) a b hd r) ⟨tupleKind_room_in1 hu,k,xs,key_of I.hok eb,dd,h _ _ (I.tok _) ?_⟩
    rw [l]
    exact (rel.val k).getD rd
end
def tDGet2 (td ty tx:TE):TE:=fun σ H Q=>td σ H fun x H1=>∃ a,x=.ref a∧IsD H1 a∧ty σ H1 fun y H2=>tx σ H2 fun z H3=>∃ o,DGet H3 a y o∧Q (o.getD z) H3
def tDPop2 (td ty tx:TE):TE:=fun σ H Q=>td σ H fun x H1=>∃ a,x=.ref a∧IsD H1 a∧ty σ H1 fun y H2=>tx σ H2 fun z H3=>∃ kvs k,H3 a=some (.dK kvs)∧y=kV k ∧
  (∀ v,valV kvs k=some v→Q v (upd H3 a (.dK (dropK kvs k))))∧(valV kvs k=none→Q z H3)
section
variable {X:Cx} {o e f:Expr} {apos cpos:Pos} {td ty tx:TE}
theorem pe_dget2 (hu:X.A.units + 1 < cLine) (ho:PE X o td) (he:PE X e ty) (hf:PE X f tx) (m:M2 X o "get" apos e f cpos):PE X (.Call (.Attribute o "get" apos) [e,f] [] cpos) (tDGet2 td ty tx):=by
  intro pins s σ H Q I h
  refine wpAny_Call_method m.base m.few m.line PySem.F.plainAttrs_dict PySem.F.slot_dict_get PySem.F.type_dict_get (thn (ho pins s σ H _ I h) fun u s1 ⟨x,H1,I1,rx,a,ex,d,q1⟩=>?_)
  subst ex
  obtain rfl:u=Value.ref a:=rx
  obtain ⟨t1,t2,_⟩:=isD_at I1 d
  refine ⟨t1,t2,?_⟩
  rw [m.trees]
  refine Calls.callWith_builtin rfl (Calls.evalArgs_plain (Calls.spliced_cons (thn (he pins s1 σ H1 _ I1 q1) fun iv s2 ⟨y,H2,I2,ry,q2⟩ =>
    Calls.spliced_cons (thn (hf pins s2 σ H2 _ I2 q2) fun fv s3 ⟨z,H3,I3,rz,ov,g,q3⟩=>Calls.spliced_nil ?_))))
  exact d_get2 hu I3 g ry rz fun w' s4 I4 rw'=>⟨_,H3,I4,rw',q3⟩
end
section
variable {X:Cx} {pins:List (Addr × Obj)} {σ:St} {H:Hp} {s:Shared} {a:Addr} {kvs:List (Key × V)} {A:Around} {E:Value→Shared→Prop}
end
section
variable {X:Cx} {pins:List (Addr × Obj)} {σ:St} {H:Hp} {s:Shared} {a:Addr} {y:V} {u:Value} {A:Around} {E:Value→Shared→Prop}
end
end L2
namespace Att
open PySem PySem.W PySem.Calls PyProof.Rows
theorem ints_of_wellAll {P:Params} {h:Heap}:∀ (ns:List Int) (vs:List Value),WellAll P h vs (ns.map WData.int)→IntsAre vs ns:=by
  intro ns
  induction ns with
  | nil =>
    intro vs w
    rw [List.map_nil] at w
    cases w
    exact .nil
  | cons n ns ih =>
    intro vs w
    rw [List.map_cons] at w
    cases w with
    | cons a b =>
      cases a
      exact .cons _ _ (ih _ b)
theorem script_of {l:OpenLaw} {n:Nat} (hn:l.most=some n) {P:Params} {h:Heap} {args:List WData} {vals:List Value}
    (hpre:l.row.toRowW.claim.pre args=true) (hwl:WellAll P h vals args) :
    ∃ a vs ns,vals=[Value.ref a]∧args=[WData.list (ns.map WData.int)]∧h.get? a=some { cls:=.type "list",data:=.seq vs.toArray }∧IntsAre vs ns∧ns.length≤n:=by
  have hsh:WShape.hasAll [] args [.list .int]=true:=(pre_splitW hpre).1
  have hc:l.pre.holds [] { args:=args }=true:=(pre_splitW hpre).2
  obtain ⟨d,r,rfl,h1,h2⟩:=hasAllW_cons hsh
  obtain rfl:=hasAllW_nil h2
  obtain ⟨xs,rfl,h3⟩:=hasW_list h1
  obtain ⟨ns,rfl⟩:=items_int h3
  have hlen:ns.length≤n:=by
    unfold OpenLaw.pre at hc
    have h4:(WTm.not (.lt (.lit (.int (n:Int))) (.len (.arg 0)))).holds [] { args:=[.list (ns.map .int)] }=true:=by
      have h4:=(holds_andW hc).1
      rw [hn] at h4
      exact h4
    have h5:=condW_of h4 (w_not (w_lt w_lit (w_len_list (w_arg rfl))))
    rw [List.length_map] at h5
    refine Nat.le_of_not_lt fun q=>?_
    have q':(n:Int) < ((ns.length:Nat):Int):=by omega
    first
      | (rw [decide_eq_true q'] at h5;exact absurd h5 (by decide))
      | (simp at h5;omega)
  cases hwl with
  | cons w1 w2 =>
    cases w2
    cases w1 with
    | list ho hall=>exact ⟨_,_,ns,rfl,rfl,ho,ints_of_wellAll ns _ hall,hlen⟩
theorem post_true (l:OpenLaw) (args:List WData):l.row.toRowW.claim.post args (.bool true) args=true :=
  postW_of (r:=l.row.toRowW) (X:=(true == true))
    (show WShape.has [] (.bool true) .bool=true by first | rfl | decide | simp [WShape.has,WShape.arms,WShape.armsAll])
    (show (WTm.eq .res (.lit (.bool true))).value [] { args:=args,res:=some (.bool true),after:=args }=some (.bool (true == true)) from w_eq_bool (w_res rfl) w_lit) rfl
theorem attach_call {l:OpenLaw} {n:Nat} {q:Program} {loose:List Str} {XP:(Str→Option Value)→Heap→Prop} {YP:World→Heap→Prop} {d:DefRec}
    (hn:l.most=some n) (hdf:d.params.defaults=[])
    (call:∀ (w:World) (s₀ s₁:Shared) (mg mb:Str→Option Value) (fa:Addr) (o:Obj) (pm cd doc:Value) (a:Addr) (vs:List Value) (ns:List Int),
      Ground q loose [] XP w s₀ mg mb s₁.heap→YP w s₁.heap →
      s₁.heap.get? fa=some o→o.data=.func (docDef d.name d.params d.body d.scope pm cd doc)→s₁.heap.CodeRec cd d.name→mg d.name=some (.ref fa) →
      s₁.heap.get? a=some { cls:=.type "list",data:=.seq vs.toArray }→IntsAre vs ns→ns.length≤n→s₁.gens=#[] →
      codeAny (model l.prog w) callerA (.call (.ref fa) ⟨[.ref a],[]⟩) (fun r s'=>r=.ok (.ret (.bool true))∧OldK s₁.heap s'.heap∧s'.os=s₁.os∧AllBare s'.gens) s₁) :
    WalkO q loose XP YP l.row.toRowW d [] (fun f vs=>PySem.call f vs):=by
  intro w s₀ s₁ mg mb G Y fa o pm cd doc dV kV ho hd hcd hD hmg hg args vals as hpre hlay hrd hwl hlo
  obtain rfl:dV=.none:=Dflts.none hD hdf
  obtain rfl:kV=.none:=Dflts.noKw hD
  obtain ⟨a,vs,ns,rfl,rfl,hobj,hints,hlen⟩:=script_of hn hpre hwl
  refine enter_call (codeAny_mono (call w s₀ s₁ mg mb fa o pm cd doc a vs ns G Y ho (fd_plain hd) hcd hmg hobj hints hlen hg) fun r s' hq=>?_)
  obtain ⟨rfl,h2,h3,h4⟩:=hq
  exact ⟨.inl ⟨.bool true,.bool true,[],rfl,fun _=>rfl,.bool true,post_true l _,fun _=>⟨List.Pairwise.nil,fun _ hm=>(nomatch hm)⟩⟩,h2,h3,h4⟩
section
variable {prog:Program} {w:World} {A:Around} {E:Value→Shared→Prop} {s:Shared} {K:Frag}
def ledger (h:Heap) (L d:Addr):List (Addr × Obj):=(List.range h.objs.size).filterMap fun a=>if a=L∨a=d then none else (h.get? a).map fun o=>(a,o)
end
end Att
namespace L2
open PySem PySem.Spec PyProof.Rows
theorem vals_ints:∀ {vs:List Value} {ns:List Int},IntsAre vs ns→Vals (ns.map V.int) vs
  | _,_,.nil=>.nil
  | _,_,.cons n t h=>.cons ⟨t,rfl⟩ (vals_ints h)
def Only (H:Hp):Prop:=∀ b,H b=none∨∃ o xs,H b=some (.frz o (.lst xs))
theorem law_call {P:Program} {w:World} {K:PySem.W.Frag} {mg mb:Str→Option Value} {CX:CXT} {k:Nat} {fa a:Addr} {fd:FuncData} {x:Str} {sp:Sp} {s₁:Shared} {vs:List Value} {ns:List Int}
    (KX:K.In s₁.heap) (hns:s₁.heap.Ns mainGlobals mg) (hb:s₁.heap.Ns builtinsNs mb) (hbb:∀ x:Str,x≠"__name__"→mb x=bootBuiltins x) (hlim:s₁.heap.NoLimit) (hg:s₁.gens=#[])
    (ha:s₁.heap.get? a=some { cls:=.type "list",data:=.seq vs.toArray }) (hi:IntsAre vs ns) (hl:ns.length≤sizeLine) (hr:Room k callerA)
    (F:∀ base:Heap,K.In base→base.Ns mainGlobals mg→FnOk P w K mg base CX k fa fd [x] sp) (hbind:∀ (s:Shared) (u:Value),BindsTo s fd ⟨[u],[]⟩ [(x,u)])
    (hsp:∀ H:Hp,Only H→SqL K H a (ns.map V.int)→sp [.ref a] H (fun v _=>v=.bl true) fun _ _ _=>False)
    (hCX:∀ H e s',CX [] H s₁ (fun _ _ _=>False) e s'→False) :
    codeAny (model P w) callerA (.call (.ref fa) ⟨[.ref a],[]⟩) (fun r s'=>r=.ok (.ret (.bool true))∧OldK s₁.heap s'.heap∧s'.os=s₁.os∧AllBare s'.gens) s₁:=by
  have rv:=vals_ints hi
  have lenV:=hi.length
  -- from an abstract heap in which nothing but the script may be tracked
  have core:∀ H:Hp,Only H→SqL K H a (ns.map V.int)→HOk P w H s₁.heap→(∀ b,H b≠none→b=a)→(H a≠none→K.lookup a=none) →
      codeAny (model P w) callerA (.call (.ref fa) ⟨[.ref a],[]⟩) (fun r s'=>r=.ok (.ret (.bool true))∧OldK s₁.heap s'.heap∧s'.os=s₁.os∧AllBare s'.gens) s₁:=by
    intro H hO hS hok hA hK
    have base_of:∀ {b:Addr} {o:Obj},s₁.heap.get? b=some o→H b=none→(hidT s₁.heap H).get? b=some o:=fun e n=>hidT_get e n
    have noA:∀ {b:Addr} {o:Obj} {es:Array DictEntry} {ep:Nat},s₁.heap.get? b=some o→o.data=.dict es ep→H b=none:=fun {b o es ep} e d=>by
      cases q:H b with
      | none=>rfl
      | some u =>
        have e':b=a:=hA b (by rw [q];simp)
        subst e'
        rw [ha] at e;cases e
        have d':Data.seq vs.toArray _=Data.dict es ep:=d
        cases d'
    have nsK:∀ {b:Addr} {m:Str→Option Value},s₁.heap.Ns b m→(hidT s₁.heap H).Ns b m:=fun {b m} ⟨o,es,ep,e,d,r⟩=>⟨o,es,ep,base_of e (noA e d),d,r⟩
    have hKb:K.In (hidT s₁.heap H):=fun b o e=>base_of (KX b o e) (by
      cases q:H b with
      | none=>rfl
      | some u =>
        have e':b=a:=hA b (by rw [q];simp)
        subst e'
        rw [hK (by rw [q];simp)] at e;cases e)
    have hM:Mod K mg (hidT s₁.heap H):=⟨hKb,nsK hns,⟨mb,nsK hb,hbb⟩,let ⟨mc,h1,h2⟩:=hlim;⟨mc,nsK h1,h2⟩⟩
    have e0:Env0 P w K mg (hidT s₁.heap H) callerA [] s₁ H:=⟨rfl,hM,fun b o e=>of_hidT e,Nat.le_of_eq (hidT_size _ _),trivial,fun b hb=>absurd (show b∈([]:List Addr) from hb) (by simp),hok,.of_eq hg⟩
    refine codeAny_mono ((F _ hKb (nsK hns)).run callerA [] s₁ H ⟨[.ref a],[]⟩ [.ref a] [.ref a] _ _ hr e0 (hbind s₁ (.ref a)) (.cons rfl .nil) (hsp H hO hS)) fun r s' h=>?_
    cases r with
    | error e=>exact (hCX H e s' h).elim
    | ok fl =>
      cases fl with
      | next=>exact False.elim h
      | brk=>exact False.elim h
      | cont=>exact False.elim h
      | ret u =>
        obtain ⟨v,H',os,bare,un,hok',r',q⟩:=h
        have q':v=.bl true:=q
        subst q'
        obtain rfl:u=Value.bool true:=r'
        refine ⟨rfl,OldK.of_keep fun b o e=>?_,os,bare⟩
        cases q:H b with
        | none=>exact un.keep b o e q (by intro z;exact absurd (show b∈([]:List Addr) from z) (by simp)) (by simp)
        | some u =>
          rcases hO b with z | ⟨ob,xs,z⟩
          · rw [q] at z;cases z
          · have z2:=un.frzs b ob _ z
            obtain ⟨e1,_⟩:=hok b _ z
            obtain ⟨e2,_⟩:=hok' b _ z2
            rw [e] at e1;cases e1
            exact e2
  cases hk:K.lookup a with
  | some o =>
    -- the script is one of the module's own objects
    have e:=KX a o hk
    rw [ha] at e
    cases e
    refine core (fun _=>none) (fun _=>.inl rfl) (.inr ⟨_,vs.toArray,_,hk,rfl,rfl,rfl,by rw [List.size_toArray,lenV];exact hl,by simpa using rv⟩) (fun b u z=>by have z':(none:Option HO)=some u:=z;cases z') (fun b z=>absurd rfl z) fun z=>absurd rfl z
  | none =>
    refine core (fun b=>if b=a then some (.frz { cls:=.type "list",data:=.seq vs.toArray } (.lst (ns.map V.int))) else none) (fun b=>?_) (.inl (.inr ⟨{ cls:=.type "list",data:=.seq vs.toArray },if_pos rfl⟩)) (fun b u z=>?_) (fun b z=>?_) fun _=>hk
    · by_cases hb:b=a
      · exact .inr ⟨_,_,if_pos hb⟩
      · exact .inl (if_neg hb)
    · by_cases hb:b=a
      · have z':=(if_pos hb).symm.trans z
        cases z'
        subst hb
        exact ⟨ha,by rw [List.length_map];exact hl,vs,_,rv,ha⟩
      · have z':=(if_neg hb).symm.trans z
        cases z'
    · by_cases hb:b=a
      · exact hb
      · exact absurd (if_neg hb) z
end L2
namespace L2
open PySem PySem.Spec PyProof.Rows
abbrev KOf {K:PySem.W.Frag} {h:Heap} (_:K.In h):PySem.W.Frag:=K
theorem walk_of {l:PySem.W.OpenLaw} {n k:Nat} {q:Program} {loose:List Str} {XP:(Str→Option Value)→Heap→Prop} {YP:World→Heap→Prop} {d:DefRec} {K:Params→PySem.W.Frag} {CX:World→CXT} {sp:World→Sp} {x:Str}
    (hn:l.most=some n) (hn2:n≤sizeLine) (hdf:d.params.defaults=[]) (hr:Room k callerA)
    (hY:∀ (w:World) (h:Heap),YP w h→(K w.params).In h)
    (F:∀ (w:World) (mg:Str→Option Value) (fa:Addr) (h:Heap),(K w.params).In h→h.Ns mainGlobals mg→mg d.name=some (.ref fa) →
      ∃ fd:FuncData,(∀ (s:Shared) (u:Value),BindsTo s fd ⟨[u],[]⟩ [(x,u)]) ∧
        ∀ base:Heap,(K w.params).In base→base.Ns mainGlobals mg→FnOk l.prog w (K w.params) mg base (CX w) k fa fd [x] (sp w))
    (hsp:∀ (w:World) (H:Hp) (a:Addr) (ns:List Int),ns.length≤n→Only H→SqL (K w.params) H a (ns.map V.int)→sp w [.ref a] H (fun v _=>v=.bl true) fun _ _ _=>False)
    (hCX:∀ (w:World) (H:Hp) (s:Shared) (e:Value) (s':Shared),CX w [] H s (fun _ _ _=>False) e s'→False) :
    PySem.W.WalkO q loose XP YP l.row.toRowW d [] (fun f vs=>PySem.call f vs):=by
  refine Att.attach_call hn hdf fun w s₀ s₁ mg mb fa o pm cd doc a vs ns G Y ho hd hcd hmg hobj hints hlen hg=>?_
  have KX:=hY w _ Y
  obtain ⟨fd,hb,hF⟩:=F w mg fa _ KX G.T.g hmg
  exact law_call KX G.T.g G.T.b G.T.builtins G.T.nolimit hg hobj hints (Nat.le_trans hlen hn2) hr hF hb (fun H hO hS=>hsp w H a ns hlen hO hS) fun H e s'=>hCX w H s₁ e s'
theorem walk_ofK {l:PySem.W.OpenLaw} {n k:Nat} {q:Program} {loose:List Str} {XP:(Str→Option Value)→Heap→Prop} {YP:World→Heap→Prop} {d:DefRec} {K:Params→PySem.W.Frag} {CX:CXT} {sp:PySem.W.Frag→Sp} {x:Str}
    (hn:l.most=some n) (hn2:n≤sizeLine) (hdf:d.params.defaults=[]) (hr:Room k callerA)
    (hY:∀ (w:World) (h:Heap),YP w h→(K w.params).In h)
    (F:∀ (w:World) (mg:Str→Option Value) (fa:Addr) (h:Heap),(K w.params).In h→h.Ns mainGlobals mg→mg d.name=some (.ref fa) →
      ∃ fd:FuncData,(∀ (s:Shared) (u:Value),BindsTo s fd ⟨[u],[]⟩ [(x,u)]) ∧
        ∀ base:Heap,(K w.params).In base→base.Ns mainGlobals mg→FnOk l.prog w (K w.params) mg base CX k fa fd [x] (sp (K w.params)))
    (hsp:∀ (K:PySem.W.Frag) (H:Hp) (a:Addr) (ns:List Int),ns.length≤n→Only H→SqL K H a (ns.map V.int)→sp K [.ref a] H (fun v _=>v=.bl true) fun _ _ _=>False)
    (hCX:∀ (H:Hp) (s:Shared) (e:Value) (s':Shared),CX [] H s (fun _ _ _=>False) e s'→False) :
    PySem.W.WalkO q loose XP YP l.row.toRowW d [] (fun f vs=>PySem.call f vs) :=
  walk_of (K:=K) (CX:=fun _=>CX) (sp:=fun w=>sp (K w.params)) hn hn2 hdf hr hY F (fun w H a ns h1 h2 h3=>hsp (K w.params) H a ns h1 h2 h3) fun _ H s e s'=>hCX H s e s'
end L2
namespace L2
open PySem PySem.Spec PyProof.Rows
def inClass (s:Stmt) (j:Nat):Stmt:=match s with
  | .ClassDef _ _ _ body _ _ _ _ _ _ _=>body.getD j (.Pass ⟨0,0,0,0⟩)
  | _=>.Pass ⟨0,0,0,0⟩
def defArgs (s:Stmt):Arguments:=match s with
  | .FunctionDef _ a _ _ _ _ _ _ _ _=>a
  | _=>{ posonlyargs:=[],args:=[],vararg:=none,kwonlyargs:=[],kw_defaults:=[],kwarg:=none,defaults:=[] }
def defBody (s:Stmt):List Stmt:=match s with
  | .FunctionDef _ _ b _ _ _ _ _ _ _=>b
  | _=>[]
def defScope (s:Stmt):Scope:=match s with
  | .FunctionDef _ _ _ _ _ _ sc _ _ _=>sc
  | _=>{ kind:=.function,names:=[],isGenerator:=false,isCoroutine:=false }
abbrev E0:XK:=fun _ _ _=>False
structure Fun (K:PySem.W.Frag) (x qual:Str) (st:Stmt) (f:Addr) (fd:FuncData):Prop where
  ex:∃ (oc:Value) (od:Option Addr) (kV doc pm:Value) (an:Option Addr) (cdv ct:Value) (osl:Array (Option Value)),
    fd=PySem.W.fnOf x qual (defArgs st) (defBody st) (defScope st) .none kV doc pm an cdv ct∧K.lookup f=some ⟨oc,od,.func fd,osl⟩∧PySem.W.codeIn K cdv qual=true
  kp:PySem.W.keepIn K (.ref f)=true
section
variable {P:Program} {w:World} {K:PySem.W.Frag} {mg:Str→Option Value} {base:Heap}
theorem Fun.binds {x qual:Str} {st:Stmt} {f:Addr} {fd:FuncData} {ps:List Str} (F:Fun K x qual st f fd)
    (h:∀ (kV doc pm:Value) (an:Option Addr) (cdv ct:Value) (us:List Value),us.length=ps.length→bindArgs (PySem.W.fnOf x qual (defArgs st) (defBody st) (defScope st) .none kV doc pm an cdv ct) ⟨us,[]⟩=pure (ps.zip us)):Binds K fd ps []:=by
  obtain ⟨oc,od,kV,doc,pm,an,cdv,ct,osl,rfl,lk,hcd⟩:=F.ex
  exact .all (h kV doc pm an cdv ct)
theorem fun_mk {x qual:Str} {st:Stmt} {f:Addr} {oc:Value} {od an:Option Addr} {osl:Array (Option Value)} {kV doc pm cdv ct:Value} (l:K.lookup f=some ⟨oc,od,.func (PySem.W.fnOf x qual (defArgs st) (defBody st) (defScope st) .none kV doc pm an cdv ct),osl⟩)
    (c:PySem.W.codeIn K cdv qual=true) (k:PySem.W.keepIn K (.ref f)=true):Fun K x qual st f (PySem.W.fnOf x qual (defArgs st) (defBody st) (defScope st) .none kV doc pm an cdv ct):=⟨⟨oc,od,kV,doc,pm,an,cdv,ct,osl,rfl,l,c⟩,k⟩
end
theorem hu_of {A:Around} {k:Nat} (hr:Room k A):A.units + 1 < cLine:=Nat.lt_of_le_of_lt (Nat.add_le_add_left (by decide:1≤64) _) hr.units
section
variable {X:Cx}
theorem pv (i:Nat) {x:Str} {pos:Pos} (hN:X.N[i]?=some x:=by rfl) (hv:Vis X.env.scope x:=by first | exact Or.inl rfl | exact Or.inr (Or.inl rfl) | exact Or.inr (Or.inr rfl)) (hd:(x == ("__debug__":Str))=false:=by decide)
    (hcd:(x == ("__classdict__":Str))=false:=by decide):PE X (.Name x pos) (tVar i):=pe_var hN hv hd hcd
end
theorem ite2 {c A B:Prop} [Decidable c] (h1:c→A) (h2:¬ c→B):if c then A else B:=by
  by_cases h:c
  · rw [if_pos h]
    exact h1 h
  · rw [if_neg h]
    exact h2 h
def Same (H H':Hp):Prop:=∀ b o,H b=some o→H' b=some o
theorem Same.refl (H:Hp):Same H H:=fun _ _ h=>h
theorem Same.trans {H H1 H2:Hp} (a:Same H H1) (b:Same H1 H2):Same H H2:=fun c o h=>b c o (a c o h)
end L2
namespace L2
open PySem PySem.Spec PyProof.Rows
section
variable {X:Cx}
end
section
variable {κ:Type} [DecidableEq κ]
theorem valV_not {kvs:List (κ × V)} {k:κ} (h:valV kvs k=none):¬ k∈kvs.map (·.1):=by
  intro m
  obtain ⟨p,hp,e⟩:=List.mem_map.mp m
  have q:(kvs.any fun kv=>decide (kv.1=k))=true:=List.any_eq_true.mpr ⟨p,hp,decide_eq_true e⟩
  rw [valV_any,h] at q
  exact absurd q (by simp)
theorem valV_in {kvs:List (κ × V)} {k:κ} {v:V} (h:valV kvs k=some v):k∈kvs.map (·.1):=by
  have q:(kvs.any fun kv=>decide (kv.1=k))=true:=by
    rw [valV_any,h]
    all_goals rfl
  obtain ⟨p,hp,e⟩:=List.any_eq_true.mp q
  exact List.mem_map.mpr ⟨p,hp,of_decide_eq_true e⟩
theorem nd_snoc:∀ {l:List κ} {k:κ},l.Nodup→¬ k∈l→(l ++ [k]).Nodup
  | [],k,_,_=>by simp
  | a :: r,k,h,hk=>by
    obtain ⟨h1,h2⟩:=List.nodup_cons.mp h
    show (a :: (r ++ [k])).Nodup
    refine List.nodup_cons.mpr ⟨fun m=>?_,nd_snoc h2 fun m=>hk (List.mem_cons.mpr (Or.inr m))⟩
    rcases List.mem_append.mp m with q | q
    · exact h1 q
    · exact hk (List.mem_cons.mpr (Or.inl (List.mem_singleton.mp q).symm))
theorem nd_putK {kvs:List (κ × V)} {k:κ} (v:V) (hn:(kvs.map (·.1)).Nodup) (h:valV kvs k=none):((putK kvs k v).map (·.1)).Nodup:=by
  rw [putK_new v h,List.map_append]
  exact nd_snoc hn (valV_not h)
theorem dropK_neg {p:κ × V} {r:List (κ × V)} {k:κ} (e:¬ p.1=k):dropK (p :: r) k=p :: dropK r k:=by
  unfold dropK
  rw [List.filter_cons,if_pos (by simp [e])]
theorem dropK_no:∀ {kvs:List (κ × V)} {k:κ},¬ k∈kvs.map (·.1)→dropK kvs k=kvs
  | [],_,_=>rfl
  | p :: r,k,h=>by
    have h':¬ k∈r.map (·.1):=fun m=>by
      obtain ⟨q,hq,e⟩:=List.mem_map.mp m
      exact h (List.mem_map.mpr ⟨q,List.mem_cons.mpr (Or.inr hq),e⟩)
    rw [dropK_neg fun e=>h (List.mem_map.mpr ⟨p,List.mem_cons.mpr (Or.inl rfl),e⟩),dropK_no h']
end
end L2
set_option Elab.async false
set_option linter.all false
set_option maxRecDepth 100000
set_option maxHeartbeats 4000000
namespace L2
open PySem PySem.Spec PyProof.Rows
def Cx.comp (X:Cx) (scope:Scope) (cl:List (Str × Addr)) (C:Addr) (N:List Str) (fp:List Addr) (s:Shared) (H:Hp):Cx :=
  { X with env:=compEnvC scope cl C X.env,N:=N,s₀:=s,H₀:=H,outer:=X.stack,ex:=fp,fn:=fun _=>false,pn:=[],xe:=fun _ _=>False }
structure CompScope (X:Cx) (scope:Scope) (cl:List (Str × Addr)) (ix:List Nat):Prop where
  clos:closureFor scope X.env=pure cl
  nocell:∀ y∈scope.names,y.2≠.cell
  kind:scope.kind=.function
  names:∀ y∈scope.names,y.2=.local→scope.names.lookup y.1=some .local
  sub:∀ y c,cl.lookup y=some c→X.env.cells.lookup y=some c
  has:∀ y,((relabel scope X.env).names.lookup y=some .cell∨(relabel scope X.env).names.lookup y=some .free)→∃ c,cl.lookup y=some c
  cap:∀ i∈ix,∃ y,X.N[i]?=some y∧(X.env.kindOf y=some .cell∨X.env.kindOf y=some .free)∧((relabel scope X.env).names.lookup y=some .cell∨(relabel scope X.env).names.lookup y=some .free)
def closOf (scope:Scope) (env:Env):List (Str × Addr):=scope.names.foldl (fun cs y=>if y.2 == .free then (y.1,(env.cells.lookup y.1).getD 0) :: cs else cs) []
def compD (osc:Scope) (N:List Str) (sc:Scope) (ix:List Nat):Bool :=
  sc.kind == .function && sc.names.all (fun y=>y.2 != .cell && (y.2 != .local || sc.names.lookup y.1 == some .local) && (y.2 != .free || osc.names.lookup y.1 == some .cell || osc.names.lookup y.1 == some .free)) &&
    ix.all fun i=>match N[i]? with
      | some y=>sc.names.lookup y == some .free
      | none=>false
theorem mem_of_look {l:List (Str × NameKind)} {y:Str} {k:NameKind} (h:l.lookup y=some k):(y,k)∈l:=PySem.mem_of_lookup h
theorem relabel_look {env:Env}:∀ {names:List (Str × NameKind)} {x:Str} {k:NameKind},(names.map fun (n,k)=>if (k == NameKind.free && env.scope.kind == .function && env.kindOf n == some .cell) then (n,NameKind.cell) else (n,k)).lookup x=some k →
    ∃ k',names.lookup x=some k'∧(k'=.free∨k'=k)
  | [],_,_,h=>by simp at h
  | (n,k') :: r,x,k,h=>by
    have ih:=@relabel_look env r x k
    rw [List.map_cons] at h
    cases hx:x == n with
    | true =>
      by_cases hc:(k' == NameKind.free && env.scope.kind == .function && env.kindOf n == some .cell)=true
      · have e:k'=.free:=by
          have:=(Bool.and_eq_true _ _ ▸ (Bool.and_eq_true _ _ ▸ hc).1).1
          simpa using this
        exact ⟨k',by simp [List.lookup_cons,hx],.inl e⟩
      · simp only [if_neg hc,List.lookup_cons,hx] at h
        exact ⟨k',by simp [List.lookup_cons,hx],.inr (Option.some.inj h)⟩
    | false =>
      have h':(r.map fun (n,k)=>if (k == NameKind.free && env.scope.kind == .function && env.kindOf n == some .cell) then (n,NameKind.cell) else (n,k)).lookup x=some k:=by
        by_cases hc:(k' == NameKind.free && env.scope.kind == .function && env.kindOf n == some .cell)=true
        · simp only [if_pos hc,List.lookup_cons,hx] at h;exact h
        · simp only [if_neg hc,List.lookup_cons,hx] at h;exact h
      obtain ⟨q,e,r'⟩:=ih h'
      exact ⟨q,by simp only [List.lookup_cons,hx];exact e,r'⟩
theorem relabel_free {env:Env}:∀ {names:List (Str × NameKind)} {x:Str},names.lookup x=some .free →
    ((names.map fun (n,k)=>if (k == NameKind.free && env.scope.kind == .function && env.kindOf n == some .cell) then (n,NameKind.cell) else (n,k)).lookup x=some .cell ∨
      (names.map fun (n,k)=>if (k == NameKind.free && env.scope.kind == .function && env.kindOf n == some .cell) then (n,NameKind.cell) else (n,k)).lookup x=some .free)
  | [],_,h=>by simp at h
  | (n,k') :: r,x,h=>by
    have ih:=@relabel_free env r x
    rw [List.map_cons]
    cases hx:x == n with
    | true =>
      simp only [List.lookup_cons,hx] at h
      cases h
      by_cases hc:(NameKind.free == NameKind.free && env.scope.kind == .function && env.kindOf n == some .cell)=true
      · left;simp only [if_pos hc,List.lookup_cons,hx]
      · right;simp only [if_neg hc,List.lookup_cons,hx]
    | false =>
      simp only [List.lookup_cons,hx] at h
      by_cases hc:(k' == NameKind.free && env.scope.kind == .function && env.kindOf n == some .cell)=true
      · simp only [if_pos hc,List.lookup_cons,hx];exact ih h
      · simp only [if_neg hc,List.lookup_cons,hx];exact ih h
theorem clos_fold {env:Env}:∀ (l:List (Str × NameKind)) (cs:List (Str × Addr)),(∀ y∈l,y.2=.free→∃ c,env.cells.lookup y.1=some c) →
    (∀ y c,cs.lookup y=some c→env.cells.lookup y=some c)→∀ y c,(l.foldl (fun cs y=>if y.2 == .free then (y.1,(env.cells.lookup y.1).getD 0) :: cs else cs) cs).lookup y=some c→env.cells.lookup y=some c
  | [],_,_,h,y,c,e=>h y c e
  | z :: r,cs,hl,h,y,c,e=>by
    rw [List.foldl_cons] at e
    refine clos_fold r _ (fun y hy=>hl y (List.mem_cons_of_mem _ hy)) (fun y' c' e'=>?_) y c e
    by_cases hz:z.2=.free
    · obtain ⟨c0,h0⟩:=hl z List.mem_cons_self hz
      have hb:(z.2 == NameKind.free)=true:=by simpa using hz
      rw [if_pos hb,h0,List.lookup_cons] at e'
      cases hq:y' == z.1 with
      | true =>
        rw [hq] at e'
        have e2:y'=z.1:=by simpa using hq
        cases e'
        rw [e2];exact h0
      | false=>rw [hq] at e';exact h _ _ e'
    · have hb:(z.2 == NameKind.free)=false:=by simpa using hz
      rw [hb] at e'
      exact h _ _ e'
theorem clos_has {env:Env}:∀ (l:List (Str × NameKind)) (cs:List (Str × Addr)) (y:Str),((∃ c,cs.lookup y=some c)∨(y,NameKind.free)∈l) →
    ∃ c,(l.foldl (fun cs y=>if y.2 == .free then (y.1,(env.cells.lookup y.1).getD 0) :: cs else cs) cs).lookup y=some c
  | [],_,_,h=>h.elim id fun z=>nomatch z
  | z :: r,cs,y,h=>by
    rw [List.foldl_cons]
    refine clos_has r _ y ?_
    rcases h with ⟨c,h⟩ | h
    · left
      by_cases hz:(z.2 == NameKind.free)=true
      · rw [if_pos hz,List.lookup_cons]
        cases y == z.1 with
        | true=>exact ⟨_,rfl⟩
        | false=>exact ⟨c,h⟩
      · rw [if_neg hz];exact ⟨c,h⟩
    · rcases List.mem_cons.mp h with h | h
      · left
        subst h
        rw [if_pos (by rfl),List.lookup_cons]
        simp
      · exact .inr h
theorem clos_eq {env:Env}:∀ (l:List (Str × NameKind)) (cs:List (Str × Addr)),(∀ y∈l,y.2=.free→∃ c,env.cells.lookup y.1=some c) →
    forIn (m:=Sem) l cs (fun x r=>match x with | (name,kind)=>if (kind == NameKind.free)=true then do let c ← cellOf env name;pure (ForInStep.yield ((name,c) :: r)) else pure (ForInStep.yield r)) =
      pure (l.foldl (fun cs y=>if y.2 == .free then (y.1,(env.cells.lookup y.1).getD 0) :: cs else cs) cs)
  | [],_,_=>rfl
  | (n,k) :: r,cs,h=>by
    rw [List.forIn_cons,List.foldl_cons]
    by_cases hz:(k == NameKind.free)=true
    · obtain ⟨c,hc⟩:=h (n,k) List.mem_cons_self (by simpa using hz)
      have e:cellOf env n=pure c:=by unfold cellOf;rw [hc]
      simp only [hz,if_true,e,pure_bind]
      rw [clos_eq r _ fun y hy=>h y (List.mem_cons_of_mem _ hy)]
      simp only [hc,Option.getD_some]
    · simp only [hz,if_false,pure_bind]
      exact clos_eq r _ fun y hy=>h y (List.mem_cons_of_mem _ hy)
theorem compScope_of {X:Cx} {osc scope:Scope} {N:List Str} {ix:List Nat} (ok:X.Ok) (h:compD osc N scope ix=true) (hs:X.env.scope=osc) (hN:X.N=N):CompScope X scope (closOf scope X.env) ix:=by
  subst hs hN
  unfold compD at h
  rw [Bool.and_eq_true,Bool.and_eq_true,List.all_eq_true,List.all_eq_true] at h
  obtain ⟨⟨h1,h2⟩,h3⟩:=h
  have p:∀ y∈scope.names,y.2≠.cell∧(y.2=.local→scope.names.lookup y.1=some .local)∧(y.2=.free→X.env.kindOf y.1=some .cell∨X.env.kindOf y.1=some .free):=fun y hy=>by
    have q:=h2 y hy
    rw [Bool.and_eq_true,Bool.and_eq_true] at q
    obtain ⟨⟨q1,q2⟩,q3⟩:=q
    refine ⟨by simpa using q1,fun e=>?_,fun e=>?_⟩
    · rw [e] at q2;simpa using q2
    · rw [e] at q3
      have q3':X.env.scope.names.lookup y.1=some .cell∨X.env.scope.names.lookup y.1=some .free:=by simpa using q3
      exact q3'
  have f:∀ y∈scope.names,y.2=.free→∃ c,X.env.cells.lookup y.1=some c:=fun y hy e=>ok.has y.1 ((p y hy).2.2 e)
  refine ⟨?_,fun y hy=>(p y hy).1,by simpa using h1,fun y hy=>(p y hy).2.1,fun y c e=>clos_fold scope.names [] f (fun _ _ z=>by simp at z) y c e,fun y hy=>?_,fun i hi=>?_⟩
  · have e:=clos_eq scope.names [] f
    unfold closureFor closOf
    refine Eq.trans (congrArg (fun m=>m >>= fun s=>(pure s:Sem (List (Str × Addr)))) e) ?_
    rw [pure_bind]
  · refine clos_has scope.names [] y (.inr ?_)
    rcases hy with hy | hy
    · obtain ⟨k',e,z | z⟩:=relabel_look hy
      · subst z;exact mem_of_look e
      · subst z;exact absurd rfl (p _ (mem_of_look e)).1
    · obtain ⟨k',e,z | z⟩:=relabel_look hy
      · subst z;exact mem_of_look e
      · subst z;exact mem_of_look e
  · have q:=h3 i hi
    cases hy:X.N[i]? with
    | none=>rw [hy] at q;cases q
    | some y =>
      rw [hy] at q
      have q':scope.names.lookup y=some .free:=by simpa using q
      exact ⟨y,rfl,(p _ (mem_of_look q')).2.2 rfl,relabel_free q'⟩
def capV (ix:List Nat) (σ:St):St:=ix.map fun i=>(σ[i]?).getD none
def capN (ix:List Nat) (N:List Str):List Str:=ix.map fun i=>(N[i]?).getD ""
section
variable {X:Cx} {pins:List (Addr × Obj)} {σ:St} {H:Hp} {s:Shared} {scope:Scope} {cl:List (Str × Addr)} {ix:List Nat} {fp:List Addr} {C:Addr} {xs:List Str}
theorem Inv.compOk (I:Inv X pins σ H s) (S:CompScope X scope cl ix) (hC:C=s.heap.objs.size) (hf:∀ b∈fp,FpOk X pins H b) (hl:∀ b∈fp,b < s.heap.objs.size) (N':List Str) :
    (X.comp scope cl C N' fp s H).Ok where
  mod:=I.ok.mod
  kind:=S.kind
  glob:=I.ok.glob
  blt:=I.ok.blt
  above:=Nat.le_of_eq hC.symm
  inj:=fun x y c h1 h2=>I.ok.inj x y c (S.sub x c h1) (S.sub y c h2)
  has:=fun x hx=>S.has x hx
  cab:=fun x c h1 _=>nomatch h1
  hd:=I.ok.hd
  frames:=I.ok.frames
  stk:=.inl rfl
  exf:=fun b hb=>⟨fun z=>absurd (hl b hb) (by rw [z];show ¬ C < _;rw [hC];exact Nat.lt_irrefl _),fun x c h=>(hf b hb).2.2.2.2.1 x c (S.sub x c h)⟩
  bs:=I.bs
  bsz:=Nat.le_trans I.ok.bsz I.sz
  noex:=fun b o e hb=>by
    rcases (hf b hb).2.2.2.1 with z | z
    · exact I.ok.noex b o e z
    · exact absurd (Nat.lt_of_lt_of_le (Heap.lt_size e) (Nat.le_trans I.ok.bsz z)) (Nat.lt_irrefl _)
  exfs:=fun b hb z=>by
    rcases List.mem_cons.mp (I.stkSub b z) with e | e
    · exact (hf b hb).2.1 e
    · exact (hf b hb).2.2.1 e
  funs:=I.stack
  frf:=I.stkFree
theorem Inv.comp {h₁:Heap} {m₁:Str→Option Value} {t':Nat} (I:Inv X pins σ H s) (S:CompScope X scope cl ix) (hC:C=s.heap.objs.size) (hf:∀ b∈fp,FpOk X pins H b) (hl:∀ b∈fp,b < s.heap.objs.size)
    (hn:h₁.Ns C m₁) (hk:∀ b o,s.heap.get? b=some o→h₁.get? b=some o) :
    Inv (X.comp scope cl C (xs ++ capN ix X.N) fp s H) [] (List.replicate xs.length none ++ capV ix σ) H { s with heap:=h₁,toks:=t' } where
  ok:=I.compOk S hC hf hl _
  os:=rfl
  bare:=I.bare
  base:=Un.kept hk
  loc:=by
    refine ⟨m₁,hn,fun i y v e1 e2 e3=>?_⟩
    by_cases hi:i < xs.length
    · rw [List.getElem?_append_left (by simpa using hi),List.getElem?_replicate,if_pos hi] at e2
      cases e2
    · have e1':(xs ++ capN ix X.N)[i]?=some y:=e1
      rw [List.getElem?_append_right (by omega)] at e1'
      rw [List.getElem?_append_right (by rw [List.length_replicate];omega),List.length_replicate] at e2
      generalize i - xs.length=j at e1' e2
      unfold capN at e1'
      unfold capV at e2
      rw [List.getElem?_map] at e1' e2
      cases hj:ix[j]? with
      | none=>rw [hj] at e1';cases e1'
      | some k =>
        rw [hj] at e1' e2
        obtain ⟨y',c1,c2,c3⟩:=S.cap k (List.mem_of_getElem? hj)
        have ey:y'=y:=by
          have q:(X.N[k]?).getD ""=y:=Option.some.inj e1'
          rw [c1] at q
          exact q
        subst ey
        have ev:σ[k]?=some (some v):=by
          have q:(σ[k]?).getD none=some v:=Option.some.inj e2
          cases hs:σ[k]? with
          | none=>rw [hs] at q;cases q
          | some o=>rw [hs] at q;exact congrArg some q
        obtain ⟨m,hm,hv⟩:=I.loc
        obtain ⟨u,r,l⟩:=hv k y' v c1 ev (c2.elim (fun z=>.inr (.inl z)) fun z=>.inr (.inr z))
        refine ⟨u,r,.inr ⟨c3,?_⟩⟩
        rcases l with ⟨l1,_⟩ | ⟨_,c,lc,⟨o,ho,hd⟩⟩
        · rcases c2 with z | z <;> (rw [l1] at z;cases z)
        · obtain ⟨c',hc'⟩:=S.has y' c3
          have e:=S.sub _ _ hc'
          rw [lc] at e
          cases e
          exact ⟨c,hc',o,hk _ _ ho,hd⟩
  cell:=fun x c e=>by
    obtain ⟨v,o,ho,hd⟩:=I.cell x c (S.sub x c e)
    exact ⟨v,o,hk _ _ ho,hd⟩
  free:=I.hok.fresh (Nat.le_of_eq hC.symm)
  freeC:=fun x c e=>I.freeC x c (S.sub x c e)
  pin:=fun p hp=>absurd (show p∈([]:List (Addr × Obj)) from hp) (by simp)
  hok:=I.hok.kept hk
  len:=by
    show (List.replicate xs.length none ++ capV ix σ).length=(xs ++ capN ix X.N).length
    rw [List.length_append,List.length_append,List.length_replicate,capV,capN,List.length_map,List.length_map]
theorem Inv.uncomp {s':Shared} {σ':St} {H':Hp} {N':List Str} {h':Heap} (I:Inv X pins σ H s) (hC:C=s.heap.objs.size) (hf:∀ b∈fp,FpOk X pins H b)
    (J:Inv (X.comp scope cl C N' fp s H) [] σ' H' s') (hb:Heap.SameBut C s'.heap h'):Inv X pins σ H' { s' with heap:=h' }:=by
  have lt:∀ b o,s.heap.get? b=some o→b≠C:=fun b o e=>by
    rw [hC];exact Nat.ne_of_lt (Heap.lt_size e)
  have B:Un (frs X.stack) fp H H' s.heap s'.heap:=J.base
  refine I.call' (s':={ s' with heap:=h' }) (ch:=fp) J.os ?_ ?_ J.bare ?_
  · exact ⟨fun b o e n h1 h2=>(hb.2 b (lt b o e)).trans (B.keep b o e n h1 h2),fun b o e n h1 h2=>by
      obtain ⟨sl,q⟩:=B.slot b o e n h1 h2
      exact ⟨sl,(hb.2 b (lt b o e)).trans q⟩,B.free,fun b o e h1=>by
      obtain ⟨o',q⟩:=B.there b o e h1
      exact ⟨o',(hb.2 b (lt b o e)).trans q⟩,B.tups,B.frzs,B.tbls⟩
  · intro b o e
    refine (J.hok b o e).stay (fun c u hc q=>(hb.2 c ?_).trans q) (fun _ q=>q) fun _ _ q=>q
    have hC0:H' C=none:=J.free
    rintro rfl
    rcases hc with rfl | hc
    · rw [hC0] at e;cases e
    · rw [hC0] at hc;cases hc
  · intro b hb'
    obtain ⟨f0,f1,f2,f3,f4,f5⟩:=hf b hb'
    exact ⟨f3,f1,f4,f5⟩
end
def PTs (X:Cx) (ifs:List Expr) (t:TT):Prop :=
  ∀ (pins:List (Addr × Obj)) (s:Shared) (σ:St) (H:Hp) (Q:Bool→Hp→Prop),Inv X pins σ H s→t σ H Q →
    wpAny (model X.prog X.w) X.A (forIn ifs true fun c r=>if r=true then do let ok ← isTrue c X.env (eval c X.env);pure (ForInStep.yield ok) else pure (ForInStep.yield r)) (TP X pins σ Q) X.xe s
def tYes:TT:=fun _ H Q=>Q true H
theorem pts_nil {X:Cx}:PTs X [] tYes:=fun _ _ _ H _ I h=>wpAny_tests_nil ⟨H,I,h⟩
section
variable {prog:Program} {w:World} {A:Around} {R:Result→Shared→Prop} {s:Shared}
theorem compLoop_any {elt target iter:Expr} {ifs:List Expr} {scope:Scope} {pos:Pos} {it acc:Value} {env:Env} (W:Nat→Shared→Prop) {EE:Value→Shared→Prop}
    (hE:∀ e s',EE e s'→notedBy (model prog w) A env (fun e s'=>R (.error e) s') e s')
    (turn:∀ n s,W n s→wpAny (model prog w) A (pyNext it) (fun r s₁=>match r with
      | none=>R (.ok .next) s₁
      | some v=>wpAny (model prog w) A (letOwnedTupleGo target it v) (fun _ t₁=>wpAny (model prog w) A (assign target env v) (fun _ s₂ =>
          wpAny (model prog w) A (forIn ifs true fun c r=>if r=true then do let ok ← isTrue c env (eval c env);pure (ForInStep.yield ok) else pure (ForInStep.yield r)) (fun ok s₃ =>
            if ok=true then wpAny (model prog w) A (eval elt env) (fun x s₄=>wpAny (model prog w) A (call (.builtin "list.append") [acc,x]) (fun _ s₅=>∃ m,m < n∧W m s₅) EE s₄) EE s₃
            else ∃ m,m < n∧W m s₃) EE s₂) EE t₁) EE s₁) EE s)
    (n:Nat) (h:W n s):codeAny (model prog w) A (.compLoop (.ListComp elt [⟨target,iter,ifs,0⟩] scope pos) 0 it acc env) R s:=by
  refine codeAny_loop rfl W (fun n s hW=>?_) n h
  show wpAny _ A ((compTurn (.ListComp elt [⟨target,iter,ifs,0⟩] scope pos) 0 it acc env).onRaise (fun x=>do noteFrame x env;theTreesLotGoes x)) _ _ s
  refine wpAny_noted (wpAny_mono ?_ (fun _ _ q=>q) hE)
  rw [compTurn_list]
  refine wpAny_bind (wpAny_standAt (wpAny_bind (thn (turn n s hW) fun r s₁ h₁=>?_)))
  cases r with
  | none=>exact wpAny_pure h₁
  | some v =>
    refine wpAny_bind (thn h₁ fun _ t₁ k₁=>?_)
    refine wpAny_bind (thn k₁ fun _ s₂ h₂=>wpAny_bind (thn h₂ fun ok s₃ h₃=>?_))
    cases ok with
    | false=>exact wpAny_pure ⟨rfl,h₃⟩
    | true=>exact wpAny_bind (wpAny_bind (thn h₃ fun x s₄ h₄=>wpAny_bind (thn h₄ fun _ s₅ h₅=>wpAny_pure (wpAny_pure ⟨rfl,h₅⟩))))
end
def tComp (wi:TI) (g:TG) (tt:TT) (te:TE) (k:Nat) (ix:List Nat):TE:=fun σ H Q=>wi σ H fun J H1=>∀ D,H1 D=none →
  ∃ W:Nat→Nat→List V→St→Hp→Prop,(∃ m,W 0 m [] (List.replicate k none ++ capV ix σ) (upd H1 D (.lst [])))∧∀ i m ys τ H,W i m ys τ H→H D=some (.lst ys) ∧
    ((J.stop i H∧Q (.ref D) H)∨(J.go i H∧ys.length < sizeLine∧∃ N:V→St→Hp→Prop,
      (∀ v τ' H',N v τ' H'→H' D=some (.lst ys)∧∃ m',m' < m∧W (i + 1) m' (ys ++ [v]) τ' (upd H' D (.lst (ys ++ [v]))))∧∃ Nf:St→Hp→Prop,(∀ τ' H',Nf τ' H'→∃ m',m' < m∧W (i + 1) m' ys τ' H') ∧
      ∀ x H',J.yld i H x H'→g x τ H' fun τ2 H2=>tt τ2 H2 fun b H3=>if b=true then te τ2 H3 fun v H4=>N v τ2 H4 else Nf τ2 H3))
section
variable {X:Cx} {elt iter tg:Expr} {ifs:List Expr} {scope:Scope} {pos:Pos} {cl:List (Str × Addr)} {ix:List Nat} {xs:List Str} {wi:TI} {g:TG} {tt:TT} {te:TE}
theorem comp_block (S:CompScope X scope cl ix) (hc:X.calm=true) (hi:PI X tg iter wi)
    (hg:∀ C fp s H,PG (X.comp scope cl C (xs ++ capN ix X.N) fp s H) tg g) (ht:∀ C fp s H,PTs (X.comp scope cl C (xs ++ capN ix X.N) fp s H) ifs tt)
    (he:∀ C fp s H,PE (X.comp scope cl C (xs ++ capN ix X.N) fp s H) elt te)
    {pins:List (Addr × Obj)} {s:Shared} {σ:St} {H:Hp} {Q:VK} (I:Inv X pins σ H s) (h:tComp wi g tt te xs.length ix σ H Q) {RR:Value→Addr→Result→Shared→Prop}
    (hR:∀ v u s' C,RelV v u→(∃ H',Q v H'∧(∃ m,s'.heap.Ns C m)∧(∀ h',Heap.SameBut C s'.heap h'→Inv X pins σ H' { s' with heap:=h' })∧FpOk X pins H' C)→RR u C (.ok .next) s') :
    wpAny (model X.prog X.w) X.A (eval iter X.env) (fun x s₁=>wpAny (model X.prog X.w) X.A (pyIter x) (fun it s₂=>wpAny (model X.prog X.w) X.A (newList []) (fun acc s₃ =>
      wpAny (model X.prog X.w) X.A (newFunctionEnv scope X.env.globals cl [] X.env.qual none .none (some X.env)) (fun cenv s₄ =>
        codeAny (model X.prog X.w) X.A (.compStart (.ListComp elt [⟨tg,iter,ifs,0⟩] scope pos) 0 it acc { cenv with scope:=relabel scope X.env }) (RR acc cenv.locals) s₄) X.xe s₃) X.xe s₂) X.xe s₁) X.xe s:=by
  refine thn (hi pins s σ H _ I h) fun v s1 h1=>thn h1 fun itv s2 h2=>?_
  obtain ⟨it,fp,tn,J,H2,e,I2,T,st2,f2,hW⟩:=h2
  subst e
  refine wpAny_newObj_type (wpAny_newFunctionEnv S.nocell (fun y hy=>nomatch hy) (fun h₁ hns₁ hsb₁=>?_) S.kind)
  dsimp only at hns₁ hsb₁ ⊢
  obtain ⟨W,⟨m0,w0⟩,turn⟩:=hW s2.heap.objs.size I2.fresh
  have I3:=I2.lnew (t':=s2.toks) (ys:=[]) (its:=[]) .nil (Nat.zero_le _)
  have hl3:∀ b∈fp,b < s2.heap.objs.size:=fun b hb=>by
    obtain ⟨o,e,_⟩:=T.obj _ _ st2 b hb
    exact Heap.lt_size e
  generalize hs3:({ s2 with heap:=s2.heap.push { cls:=.type "list",data:=.seq ([]:List Value).toArray },toks:=s2.toks }:Shared)=s3 at I3
  have hs3h:s3.heap=s2.heap.push { cls:=.type "list",data:=.seq ([]:List Value).toArray }:=by rw [← hs3]
  have hsz:s3.heap.objs.size=s2.heap.objs.size + 1:=by rw [hs3h,Heap.size_push]
  have f3:∀ b∈fp,FpOk X pins (upd H2 s2.heap.objs.size (.lst [])) b:=fun b hb=>by
    obtain ⟨q0,q⟩:=f2 b hb
    exact ⟨by rw [upd_ne (Nat.ne_of_lt (hl3 b hb))];exact q0,q⟩
  have hl3':∀ b∈fp,b < s3.heap.objs.size:=fun b hb=>by rw [hsz];exact Nat.lt_succ_of_lt (hl3 b hb)
  rw [← hs3h] at hns₁ hsb₁ ⊢
  have hk:∀ b o,s3.heap.get? b=some o→h₁.get? b=some o:=fun b o e=>(hsb₁.2 b (Nat.ne_of_lt (Heap.lt_size e))).trans (Heap.get?_push_of_some _ e)
  have hk2:∀ b o,s2.heap.get? b=some o→s3.heap.get? b=some o:=fun b o e=>by rw [hs3h];exact Heap.get?_push_of_some _ e
  have J0:=I3.comp (xs:=xs) (t':=s2.toks) (C:=s3.heap.objs.size) S rfl f3 hl3' hns₁ hk
  have st3:tn 0 h₁:=T.keep _ _ _ st2 fun b _ o e=>hk b o (hk2 b o e)
  have loop:∀ tk,codeAny (model X.prog X.w) X.A (.compLoop (.ListComp elt [⟨tg,iter,ifs,0⟩] scope pos) 0 (.ref it) (.ref s2.heap.objs.size) (compEnvC scope cl s3.heap.objs.size X.env))
      (RR (.ref s2.heap.objs.size) s3.heap.objs.size) { s3 with heap:=h₁,toks:=tk }:=by
    intro tk
    refine compLoop_any (EE:=fun _ _=>False) (fun n s'=>∃ i ys τ H',Inv (X.comp scope cl s3.heap.objs.size (xs ++ capN ix X.N) fp s3 (upd H2 s2.heap.objs.size (.lst []))) [] τ H' s'∧tn i s'.heap∧(∀ b∈fp,H' b=none)∧W i n ys τ H')
      (fun _ _ z=>z.elim) ?_ m0 ⟨0,[],_,_,J0.tok tk,st3,fun b hb=>(f3 b hb).1,w0⟩
    rintro n s' ⟨i,ys,τ,H',I',st',fr',w'⟩
    have stat:∀ {H':Hp},(∀ b∈fp,H' b=none)→∀ b∈fp,FpOk (X.comp scope cl s3.heap.objs.size (xs ++ capN ix X.N) fp s3 (upd H2 s2.heap.objs.size (.lst []))) [] H' b:=fun hn b hb =>
      ⟨hn b hb,(I'.ok.exf b hb).1,I'.ok.exfs b hb,.inl hb,(I'.ok.exf b hb).2,fun p hp=>absurd (show p∈([]:List (Addr × Obj)) from hp) (by simp)⟩
    obtain ⟨hD,⟨stop,q⟩ | ⟨go,hz,N,hN,Nf,hNf,step⟩⟩:=turn i n ys τ H' w'
    · refine thn (T.done (X.comp scope cl s3.heap.objs.size (xs ++ capN ix X.N) fp s3 (upd H2 s2.heap.objs.size (.lst []))) rfl rfl rfl hc i [] s' τ H' _ I' (stat fr') st' stop) fun r s4 ⟨hr,I4⟩=>?_
      subst hr
      refine hR (.ref s2.heap.objs.size) _ s4 _ rfl ⟨H',q,?_,fun h' hb=>I3.uncomp rfl f3 I4 hb,I3.fpOk (Nat.le_refl _) I4.free⟩
      obtain ⟨m,hn,_⟩:=I4.loc
      exact ⟨m,hn⟩
    · refine thn (T.item (X.comp scope cl s3.heap.objs.size (xs ++ capN ix X.N) fp s3 (upd H2 s2.heap.objs.size (.lst []))) rfl rfl rfl hc i [] s' τ H' _ I' (stat fr') st' go) fun r s4 ⟨u,hr,h4⟩=>?_
      subst hr
      refine thn h4 fun _ s5 ⟨x,H5,I5,r5,y5,st5,fr5⟩=>?_
      have I5':=I5.pinned (stat fr5) (T.obj _ _ st5)
      refine thn (hg _ _ _ _ _ s5 τ H5 x u _ I5' r5 (step x H5 y5)) fun _ s6 ⟨τ6,H6,I6,q6⟩=>?_
      refine thn (ht _ _ _ _ _ s6 τ6 H6 _ I6 q6) fun ok s7 ⟨H7,I7,q7⟩=>?_
      have back:∀ {s8:Shared} {H8:Hp} {m:Nat} {zs:List V},Inv (X.comp scope cl s3.heap.objs.size (xs ++ capN ix X.N) fp s3 (upd H2 s2.heap.objs.size (.lst []))) ([] ++ pinsAt fp s5.heap) τ6 H8 s8→W (i + 1) m zs τ6 H8 →
          ∃ i ys τ H',Inv (X.comp scope cl s3.heap.objs.size (xs ++ capN ix X.N) fp s3 (upd H2 s2.heap.objs.size (.lst []))) [] τ H' s8∧tn i s8.heap∧(∀ b∈fp,H' b=none)∧W i m ys τ H':=fun {s8 H8 m zs} I8 w8=>by
        refine ⟨i + 1,zs,τ6,H8,I8.unpinned,T.keep _ _ _ st5 fun b hb o e=>(I8.pin (b,o) (List.mem_append_right _ (List.mem_append_right _ (mem_pinsAt hb e)))).1,fun b hb=>?_,w8⟩
        obtain ⟨o,e,d⟩:=T.obj _ _ st5 b hb
        exact (I8.pin (b,o) (List.mem_append_right _ (List.mem_append_right _ (mem_pinsAt hb e)))).2.1
      cases ok with
      | false =>
        rw [if_neg Bool.false_ne_true] at q7 ⊢
        obtain ⟨m',hm,w7⟩:=hNf _ _ q7
        exact ⟨m',hm,back I7 w7⟩
      | true =>
        rw [if_pos rfl] at q7 ⊢
        refine thn (he _ _ _ _ _ s7 τ6 H7 _ I7 q7) fun y s8 ⟨v8,H8,I8,r8,n8⟩=>?_
        obtain ⟨hD8,m',hm,w8⟩:=hN _ _ _ n8
        refine thn (mt_append _ s8 τ6 H8 (.ref s2.heap.objs.size) [v8] (.ref s2.heap.objs.size) [y] (fun _ Hn=>∃ m,m < n∧W (i + 1) m (ys ++ [v8]) τ6 Hn) I8 rfl (.cons r8 .nil) ⟨_,ys,v8,rfl,rfl,hD8,hz,m',hm,w8⟩) fun _ s9 ⟨_,H9,I9,_,m9,hm9,w9⟩=>?_
        exact ⟨m9,hm9,back I9 w9⟩
  have e3:∀ tk,({ s3 with heap:=h₁,toks:=tk }:Shared)={ s2 with heap:=h₁,toks:=tk }:=fun tk=>by rw [← hs3]
  have loop':∀ tk,codeAny (model X.prog X.w) X.A (.compLoop (.ListComp elt [⟨tg,iter,ifs,0⟩] scope pos) 0 (.ref it) (.ref s2.heap.objs.size) (compEnvC scope cl s3.heap.objs.size X.env))
      (RR (.ref s2.heap.objs.size) s3.heap.objs.size) { s2 with heap:=h₁,toks:=tk }:=fun tk=>by rw [← e3];exact loop tk
  exact codeAny_compStart_list (loop' _) (T.self _ 0 _ _ _ st3 (loop' _))
theorem pe_comp {osc:Scope} {N:List Str} (hc:X.calm=true) (hD:compD osc N scope ix=true) (hi:PI X tg iter wi)
    (hg:∀ C fp s H,PG (X.comp scope (closOf scope X.env) C (xs ++ capN ix X.N) fp s H) tg g) (ht:∀ C fp s H,PTs (X.comp scope (closOf scope X.env) C (xs ++ capN ix X.N) fp s H) ifs tt)
    (he:∀ C fp s H,PE (X.comp scope (closOf scope X.env) C (xs ++ capN ix X.N) fp s H) elt te) (hsc:X.env.scope=osc:=by rfl) (hN:X.N=N:=by rfl) (hs:∀ x,foldedSetIterable iter X.env x=pure x:=by intro _;rfl) :
    PE X (.ListComp elt [⟨tg,iter,ifs,0⟩] scope pos) (tComp wi g tt te xs.length ix):=by
  intro pins s σ H Q I h
  have S:=compScope_of I.ok hD hsc hN
  rw [eval_ListComp]
  refine wpAny_comprehension_free (use:=none) rfl hs S.clos S.kind S.names (comp_block S hc hi hg ht he I h (RR:=fun acc C=>compPost (model X.prog X.w) X.A X.xe none (EP X pins σ Q) acc C) ?_)
  rintro v u s' C r ⟨H',q,⟨m,hn⟩,hI,_⟩
  exact ⟨m,hn,fun h' hb=>⟨v,H',hI h' hb,r,q⟩⟩
end
end L2
namespace L2
open PySem PySem.Spec PyProof.Rows
abbrev rAddS:R2:=fun x y H Q=>∃ i j,x=.str i∧y=.str j∧i.length + j.length≤sizeLine∧Q (.str (i ++ j)) H
abbrev rInS:R2:=fun x y H Q=>∃ i j,x=.str i∧y=.str j∧Q (.bl (!(Builtin.Str.occurrences j i 0 j.length 1).isEmpty)) H
abbrev rNotInS:R2:=fun x y H Q=>∃ i j,x=.str i∧y=.str j∧Q (.bl (!(!(Builtin.Str.occurrences j i 0 j.length 1).isEmpty))) H
abbrev rIsB:R2:=fun x y H Q=>∃ a b,x=.bl a∧y=.bl b∧Q (.bl (a == b)) H
abbrev rIsNotB:R2:=fun x y H Q=>∃ a b,x=.bl a∧y=.bl b∧Q (.bl (a != b)) H
abbrev rIsN:R2:=fun x y H Q=>y=.non∧Q (.bl (decide (x=.non))) H
abbrev rNotN:R2:=fun x y H Q=>y=.non∧Q (.bl (!decide (x=.non))) H
abbrev RC:=List V→Hp→VK→Prop
abbrev cLen (K:PySem.W.Frag):RC:=fun xs H Q=>∃ x n,xs=[x]∧LenV K x H n∧Q (.int n) H
abbrev cIsi (K:PySem.W.Frag):RC:=fun xs H Q=>∃ x c t b,xs=[x,c]∧TyOf K H x t∧(∃ T,c=.ty T∧PySem.W.kitOne K t (.type T)=some b)∧Q (.bl b) H
abbrev cAll (K:PySem.W.Frag):RC:=fun xs H Q=>∃ (a:Addr) (bs:List Bool),xs=[.ref a]∧SqL K H a (bs.map V.bl)∧Q (.bl (bs.all id)) H
abbrev cAbs:RC:=fun xs H Q=>∃ i,xs=[.int i]∧Q (.int (if i < 0 then -i else i)) H
abbrev cStr:RC:=fun xs H Q=>∃ i,xs=[.int i]∧i.natAbs.log2 < 1920∧Q (.str (toString i)) H
abbrev RM:=V→List V→Hp→VK→Prop
abbrev r_mt_startswith:RM:=fun x xs H Q=>∃ a b,x=.str a∧xs=[.str b]∧Q (.bl (0 + b.length≤a.length && Builtin.Str.subAt a b 0)) H
def spP (pre:List V→Hp→Prop) (post:List V→Hp→V→Hp→Prop):Sp:=fun vs H Q _=>pre vs H∧∀ r H',post vs H r H'→Same H H'→Q r H'
abbrev cInt:RC:=fun xs H Q=>∃ (x:Str) (n:Int),xs=[.str x]∧PySem.intText? x=some n∧x.length≤640∧Q (.int n) H
abbrev r_mt_upper:RM:=fun x xs H Q=>∃ a:Str,x=.str a∧xs=[]∧(∀ c∈a.cps.toList,c < 128)∧a.length≤sizeLine∧∀ y:Str,y.length=a.length→Q (.str y) H
theorem new_obj {H:Hp} {p:Addr} {o:HO} (h:H p=none):∃ H',H'=upd H p o∧Same H H'∧H' p=some o :=
  ⟨_,rfl,fun b u e=>by rw [upd_ne (ne_of_none e h)];exact e,upd_same⟩
theorem isV (p:Addr) {H:Hp} {o:HO} (h:H p=none):Same H (upd H p o):=fun b u e=>by rw [upd_ne (ne_of_none e h)];exact e
theorem bt_len:bootBuiltins "len"=some (.builtin "len"):=by decide +kernel
theorem bt_isinstance:bootBuiltins "isinstance"=some (.builtin "isinstance"):=by decide +kernel
theorem bt_sorted:bootBuiltins "sorted"=some (.builtin "sorted"):=by decide +kernel
theorem bt_str:bootBuiltins "str"=some (.type "str"):=by decide +kernel
theorem bt_int:bootBuiltins "int"=some (.type "int"):=by decide +kernel
theorem bt_bool:bootBuiltins "bool"=some (.type "bool"):=by decide +kernel
theorem bt_list:bootBuiltins "list"=some (.type "list"):=by decide +kernel
theorem bt_tuple:bootBuiltins "tuple"=some (.type "tuple"):=by decide +kernel
section
variable {X:Cx}
def big:Int:=10 ^ 200
def CDivB (_ j:Int):Prop:=0 < j∧j < big
def CMulB (i j:Int):Prop:=(-big < i∧i < big)∧(-big < j∧j < big)
theorem log2_big {j:Int} (h:j.natAbs < 10 ^ 200):j.natAbs.log2 < 700:=by
  by_cases h0:j.natAbs=0
  · rw [h0];decide
  · exact (Nat.log2_lt h0).mpr (Nat.lt_of_lt_of_le h (by decide +kernel))
theorem abs_big {j:Int} (h:-big < j∧j < big):j.natAbs < 10 ^ 200:=by
  have e:big=((10 ^ 200:Nat):Int):=by decide +kernel
  rw [e] at h
  omega
theorem CMulB.ok {i j:Int} (h:CMulB i j):IntMulOk i j:=by
  have b:∀ k:Int,(-big < k∧k < big)→Builtin.Int.intBits k≤2 ^ 20:=fun k hk=>by
    have q:=log2_big (abs_big hk)
    unfold Builtin.Int.intBits
    split <;> omega
  exact .of_bits (b i h.1) (b j h.2)
theorem op_mulB:OpR X (binaryOp .Mult) (rI CMulB fun i j=>.int (i * j)):=opI fun _ _ _ _ _ _ _ hc q=>mul_int q hc.ok
theorem op_fdivB:OpR X (binaryOp .FloorDiv) (rI CDivB fun i j=>.int (i / j)):=opI fun i j _ _ _ _ _ hc q=>by
  have h1:(0:Int) < j:=hc.1
  refine floordiv_int (by omega) ?_ (.inl (PyProof.noPylong_of_log2 (Nat.lt_trans (log2_big (abs_big ⟨by have:=hc.2;omega,hc.2⟩)) (by decide))))
  rw [Int.fdiv_eq_ediv_of_nonneg i (by omega)]
  exact q
theorem op_is_bl:OpR X (compareOp .Is) (fun x y H Q=>∃ a b,x=.bl a∧y=.bl b∧Q (.bl (a == b)) H):=by
  intro pins s σ H x y v u Q I rx ry h
  obtain ⟨a,b,rfl,rfl,q⟩:=h
  cases rx
  cases ry
  exact is_bool ⟨.bl (a == b),H,I,rfl,q⟩
theorem op_isnot_bl:OpR X (compareOp .IsNot) (fun x y H Q=>∃ a b,x=.bl a∧y=.bl b∧Q (.bl (a != b)) H):=by
  intro pins s σ H x y v u Q I rx ry h
  obtain ⟨a,b,rfl,rfl,q⟩:=h
  cases rx
  cases ry
  exact isnot_bool ⟨.bl (a != b),H,I,rfl,q⟩
theorem call_isi:CallR X (.builtin "isinstance") (cIsi X.K):=by
  intro pins s σ H xs us Q I r h
  obtain ⟨x,c,t,b,rfl,ty,⟨T,rfl,e⟩,q⟩:=h
  obtain ⟨u,w',rfl,r1,r2⟩:=vals2 r
  cases r2
  exact isinst_ok I r1 ty e fun tk=>⟨.bl b,H,I.tok tk,rfl,q⟩
def Its (x:Str):It:=⟨fun i _=>i < x.cps.size,fun i H v H'=>H'=H∧∃ c,x.cps[i]?=some c∧v=.str ⟨#[c]⟩,fun i _=>x.cps.size≤i⟩
def iStr (tl:TE):TI:=fun σ H R=>tl σ H fun x H1=>∃ z,x=.str z∧R (Its z) H1
def rSlS:V→Option Int→Option Int→Hp→VK→Prop:=fun x lo hi H Q=>∃ z,x=.str z∧z.length≤sizeLine∧Q (.str (Txt.slice z lo hi)) H
theorem sl_str:SlR X rSlS:=by
  intro pins s σ H x v vl vu lo hi sl Q I rx hs pl pu h
  obtain ⟨z,rfl,hz,q⟩:=h
  obtain ⟨t,rfl⟩:=rx
  obtain ⟨o,ho,hc,hd⟩:=hs
  refine ⟨"str",_,F.slot_str_getitem.lookup,typeIs_str _ _ _,?_⟩
  obtain ⟨l,e1,e2⟩:∃ l:Option (Int × Tok),vl=partValue l∧lo=l.map (·.1):=by
    cases pl with
    | none=>exact ⟨none,rfl,rfl⟩
    | int i t=>exact ⟨some (i,t),rfl,rfl⟩
  obtain ⟨u,e3,e4⟩:∃ l:Option (Int × Tok),vu=partValue l∧hi=l.map (·.1):=by
    cases pu with
    | none=>exact ⟨none,rfl,rfl⟩
    | int i t=>exact ⟨some (i,t),rfl,rfl⟩
  subst e1 e2 e3 e4
  exact wpAny_getItem_str_slice (l:=l) (u:=u) (st:=none) ⟨o,ho,hc,hd⟩ rfl
    (post_val_or_str ⟨Nat.le_trans (Txt.slice_le z _ _) hz,fun t' k=>⟨.str (Txt.slice z (l.map (·.1)) (u.map (·.1))),H,I.tok k,⟨t',rfl⟩,q⟩⟩)
end
end L2
namespace L2
open PySem PySem.Spec PyProof.Rows
theorem ObjOk.there {P:Program} {w:World} {H:Hp} {h:Heap} {a:Addr} {o:HO} (x:ObjOk P w H h a o):∃ u,h.get? a=some u:=by
  cases o with
  | lst xs=>obtain ⟨_,_,_,_,e⟩:=x;exact ⟨_,e⟩
  | tup xs=>obtain ⟨_,_,_,o,e,_⟩:=x;exact ⟨_,e⟩
  | dK kvs=>obtain ⟨_,_,_,_,o,_,_,e,_⟩:=x;exact ⟨_,e⟩
  | dT kvs=>obtain ⟨_,_,_,_,o,_,_,e,_⟩:=x;exact ⟨_,e⟩
  | set S n=>obtain ⟨o,_,_,_,e,_⟩:=x;exact ⟨_,e⟩
  | ins C dx fs=>obtain ⟨_,_,_,e,_⟩:=x;exact ⟨_,e⟩
  | own y=>exact x
  | xd fs=>obtain ⟨_,⟨o,_,_,e,_⟩,_⟩:=x;exact ⟨_,e⟩
  | rng lo hi=>obtain ⟨_,_,_,e⟩:=x;exact ⟨_,e⟩
  | frz ob u=>obtain ⟨e,_⟩:=x;exact ⟨_,e⟩
  | tbl ps=>exact ⟨_,(show h.get? a=some _ from x)⟩
  | met f y=>exact ⟨_,(show h.get? a=some _ from x)⟩
  | ext φ=>obtain ⟨_,e,_⟩:=x;exact e
def XF (g h:Heap) (H:Hp) (e:Addr) (cls:Value):Prop :=
  ∃ oe vs a0 T oT ts,h.get? e=some oe∧(oe.cls=cls∧vs[0]?=some a0)∧oe.data=.fields vs∧vs[1]?=some (.ref T)∧T≠e∧h.get? T=some oT∧oT.data=.fields ts∧ts[3]?=some .none ∧
    g.get? e=none∧g.get? T=none∧H e=none∧H T=none
def CX1 (P:Program) (w:World):CXT:=fun outer H s E ev s'=>∃ e cls H',ev=.ref e∧s'.os=s.os∧AllBare s'.gens∧Un (frs outer) [] H H' s.heap s'.heap∧HOk P w H' s'.heap∧XF s.heap s'.heap H' e cls∧E cls none H'
theorem none_back {g h:Heap} (k:∀ b o,g.get? b=some o→∃ o',h.get? b=some o') {b:Addr} (e:h.get? b=none):g.get? b=none:=by
  cases q:g.get? b with
  | none=>rfl
  | some o =>
    obtain ⟨o',z⟩:=k b o q
    rw [e] at z;cases z
theorem XF.older {g g' h:Heap} {H:Hp} {e:Addr} {cls:Value} (x:XF g h H e cls) (k:∀ b o,g'.get? b=some o→∃ o',g.get? b=some o'):XF g' h H e cls:=by
  obtain ⟨oe,vs,a0,T,oT,ts,h1,h2,h3,h4,h5,h6,h7,h8,h9,h10,h11,h12⟩:=x
  exact ⟨oe,vs,a0,T,oT,ts,h1,h2,h3,h4,h5,h6,h7,h8,none_back k h9,none_back k h10,h11,h12⟩
section
variable {X:Cx} {pins:List (Addr × Obj)} {σ:St} {H:Hp} {s:Shared}
theorem Inv.stackFields (J:Inv X pins σ H s) {b:Addr} (hb:b∈frs X.stack):∃ o,s.heap.get? b=some o∧∀ vs,o.data≠.fields vs:=(J.stack.mem hb).2
theorem Inv.there0 (hex:X.ex=[]) (J:Inv X pins σ H s):∀ b o,X.s₀.heap.get? b=some o→∃ o',s.heap.get? b=some o':=fun b o e=>J.base.there b o e (by rw [hex];simp)
theorem Inv.behind {h2:Heap} {cs:List Addr} (hex:X.ex=[]) (J:Inv X pins σ H s) (hcs:∀ b∈cs,H b=none∧X.s₀.heap.get? b=none)
    (hB:∀ b o,s.heap.get? b=some o→b ∉ frs X.stack→b ∉ cs→h2.get? b=some o) (hF:∀ b o,s.heap.get? b=some o→b∈frs X.stack→∃ sl,h2.get? b=some { o with slots:=sl }) :
    Un X.fs [] X.H₀ H X.s₀.heap h2∧HOk X.prog X.w H h2:=by
  have B:Un X.fs [] X.H₀ H X.s₀.heap s.heap:=by have:=J.base;rw [hex] at this;exact this
  have nL:∀ b o,X.s₀.heap.get? b=some o→b≠X.env.locals:=fun b o e=>Nat.ne_of_lt (Nat.lt_of_lt_of_le (Heap.lt_size e) J.ok.above)
  have nC:∀ b o,X.s₀.heap.get? b=some o→b ∉ cs:=fun b o e z=>by rw [(hcs b z).2] at e;cases e
  have any:∀ b o,s.heap.get? b=some o→b ∉ cs→∃ sl,h2.get? b=some { o with slots:=sl }:=fun b o e n=>by
    by_cases hb:b∈frs X.stack
    · exact hF b o e hb
    · exact ⟨o.slots,hB b o e hb n⟩
  refine ⟨⟨fun b o e n h1 _=>?_,fun b o e n h1 _=>?_,B.free,fun b o e h1=>?_,B.tups,B.frzs,B.tbls⟩,fun b u e=>?_⟩
  · refine hB b o (B.keep b o e n h1 (by simp)) (fun z=>?_) (nC b o e)
    rcases List.mem_cons.mp (J.stkSub b z) with q | q
    · exact nL b o e q
    · exact h1 q
  · obtain ⟨sl,q⟩:=B.slot b o e n h1 (by simp)
    obtain ⟨sl',q'⟩:=any b _ q (nC b o e)
    exact ⟨sl',q'⟩
  · obtain ⟨o',q⟩:=B.there b o e (by simp)
    obtain ⟨sl,q'⟩:=any b o' q (nC b o e)
    exact ⟨_,q'⟩
  · refine (J.hok b u e).stay (fun c v hc q=>?_) (fun _ q=>q) fun _ _ q=>q
    have hn:H c≠none:=by
      rcases hc with rfl | hc
      · rw [e];simp
      · rw [hc];simp
    exact hB c v q (fun z=>hn (J.stkFree c z)) fun z=>hn (hcs c z).1
theorem Inv.flown {B h2:Heap} {cs:List Addr} {e:Addr} {cls a0:Value} (hex:X.ex=[]) (J:Inv X pins σ H s) (hcs:∀ b∈cs,H b=none∧X.s₀.heap.get? b=none)
    (hB:∀ b o,s.heap.get? b=some o→b ∉ frs X.stack→b ∉ cs→B.get? b=some o) (hF:∀ b o,s.heap.get? b=some o→b∈frs X.stack→∃ sl,h2.get? b=some { o with slots:=sl })
    (he:H e=none) (he0:X.s₀.heap.get? e=none) (kb:B.StaysIn h2) (tr:h2.TracedW B e cls a0) :
    Un X.fs [] X.H₀ H X.s₀.heap h2∧HOk X.prog X.w H h2∧XF X.s₀.heap h2 H e cls:=by
  have hk:=J.behind (h2:=h2) hex hcs (fun b o q n1 n2=>kb b o (hB b o q n1 n2)) hF
  refine ⟨hk.1,hk.2,?_⟩
  obtain ⟨oe,vs,T,oT,ts,h1,h2',h3,h4,h5,h6,h7,h8,h9⟩:=tr
  have noT:∀ o,s.heap.get? T=some o→T∈cs:=fun o q=>by
    by_cases hb:T∈frs X.stack
    · obtain ⟨o',q',nf⟩:=J.stackFields hb
      obtain ⟨sl,z⟩:=hF T o' q' hb
      rw [h7] at z
      have z':oT={ o' with slots:=sl }:=Option.some.inj z
      exact absurd (by rw [← h8,z']) (nf ts)
    · by_cases hc:T∈cs
      · exact hc
      · rw [hB T o q hb hc] at h5;cases h5
  refine ⟨oe,vs,a0,T,oT,ts,h1,h2',h3,h4,h6,h7,h8,h9,he0,?_,he,?_⟩
  · cases q:X.s₀.heap.get? T with
    | none=>rfl
    | some o =>
      obtain ⟨o',q'⟩:=J.there0 hex T o q
      rw [(hcs T (noT o' q')).2] at q;cases q
  · cases q:H T with
    | none=>rfl
    | some u =>
      obtain ⟨o,z⟩:=(J.hok T u q).there
      rw [(hcs T (noT o z)).1] at q;cases q
theorem leave_new {h':Heap} {e:Addr} {cls:Value} {vs:List Value} {E:XK} {EE:Value→Shared→Prop} (hst:X.stack=X.env :: X.outer∧X.env.frame=some X.env.locals) (hex:X.ex=[]) (J:Inv X pins σ H s) (hx:Heap.MadeExcOf s.heap h' e cls vs) (hE:E cls none H) :
    wpAny (model X.prog X.w) X.A (leaving X.env (.ref e)) (fun _ s2=>CX1 X.prog X.w X.outer X.H₀ X.s₀ E (.ref e) s2) EE { s with heap:=h' }:=by
  have fr:s.heap.FunFrames (PySem.W.hideAll s.heap (frs X.stack)) (X.env :: X.outer):=by
    have q:=PySem.W.funFrames_hide (as:=frs X.stack) J.stack fun env he a ha=>List.mem_filterMap.mpr ⟨env,he,ha⟩
    rw [hst.1] at q ⊢
    exact q
  refine wpAny_leaves_madeW (s:={ s with heap:=h' }) (base:=PySem.W.hideAll s.heap (frs X.stack)) (h:=s.heap) (by rw [J.ok.frames,hst.1]) hst.2 (fun b o q=>PySem.W.of_hideAll _ q) fr hx fun h2 t hfl _ _ hup=>?_
  obtain ⟨f1,f2,f3,f4⟩:=hfl
  have hF:∀ b o,s.heap.get? b=some o→b∈frs X.stack→∃ sl,h2.get? b=some { o with slots:=sl }:=fun b o q hb=>by
    obtain ⟨o',q',nf⟩:=J.stackFields hb
    rw [q] at q';cases q'
    exact hup b o (hx.keeps b o q) nf
  obtain ⟨r1,r2,r3⟩:=J.flown (cs:=[]) hex (fun b z=>nomatch z) (fun b o q n _=>PySem.W.hideAll_get _ q n) hF
    (by
      cases q:H e with
      | none=>rfl
      | some u =>
        obtain ⟨o,z⟩:=(J.hok e u q).there
        rw [hx.new] at z;cases z)
    (none_back (J.there0 hex) hx.new) f1 f4
  exact ⟨e,cls,H,rfl,J.os,J.bare,r1,r2,r3,hE⟩
theorem leave_on {e:Addr} {cls:Value} {E:XK} {EE:Value→Shared→Prop} (hst:X.stack=X.env :: X.outer∧X.env.frame=some X.env.locals) (hex:X.ex=[]) (J:Inv X pins σ H s) (xf:XF X.s₀.heap s.heap H e cls) (hE:E cls none H) :
    wpAny (model X.prog X.w) X.A (leaving X.env (.ref e)) (fun _ s2=>CX1 X.prog X.w X.outer X.H₀ X.s₀ E (.ref e) s2) EE s:=by
  obtain ⟨oe,vs,a0,T,oT,ts,h1,h2,h3,h4,h5,h6,h7,h8,h9,h10,h11,h12⟩:=id xf
  have fr:s.heap.FunFrames (PySem.W.hideAll s.heap (frs X.stack ++ [e,T])) (X.env :: X.outer):=by
    have q:=PySem.W.funFrames_hide (as:=frs X.stack ++ [e,T]) J.stack fun env he a ha=>List.mem_append_left _ (List.mem_filterMap.mpr ⟨env,he,ha⟩)
    rw [hst.1] at q ⊢
    exact q
  refine wpAny_leaves_onW (base:=PySem.W.hideAll s.heap (frs X.stack ++ [e,T])) (a0:=a0) (by rw [J.ok.frames,hst.1]) hst.2
    ⟨fun b o q=>PySem.W.of_hideAll _ q,PySem.W.hideAll_none _ (List.mem_append_right _ (by simp)),fr,oe,vs,T,oT,ts,h1,h2,h3,h4,PySem.W.hideAll_none _ (List.mem_append_right _ (by simp)),h5,h6,h7,h8⟩ fun h2' hfl hup=>?_
  obtain ⟨f1,f2,f3,f4⟩:=hfl
  have hF:∀ b o,s.heap.get? b=some o→b∈frs X.stack→∃ sl,h2'.get? b=some { o with slots:=sl }:=fun b o q hb=>by
    obtain ⟨o',q',nf⟩:=J.stackFields hb
    rw [q] at q';cases q'
    exact hup b o q nf
  obtain ⟨r1,r2,r3⟩:=J.flown (cs:=[e,T]) hex (fun b z=>by
      have z':b=e∨b=T:=by simpa using z
      rcases z' with rfl | rfl
      · exact ⟨h11,h9⟩
      · exact ⟨h12,h10⟩) (fun b o q n n2=>PySem.W.hideAll_get _ q fun z=>(List.mem_append.mp z).elim n n2) hF h11 h9 f1 f4
  exact ⟨e,cls,H,rfl,J.os,J.bare,r1,r2,r3,hE⟩
end
def Raises (X:Cx) (E:XK):Prop:=∀ (pins:List (Addr × Obj)) (σ:St) (H:Hp) (s:Shared) (h':Heap) (e:Addr) (cls:Value) (vs:List Value),Inv X pins σ H s→Heap.MadeExcOf s.heap h' e cls vs→E cls none H→X.xe (.ref e) { s with heap:=h' }
section
variable {P:Program} {w:World} {K:PySem.W.Frag} {mg:Str→Option Value} {base:Heap} {N:List Str} {qual:Str} {scope:Scope} {f:Addr} {cd:Value} {A:Around} {outer:List Env} {s₀:Shared} {H₀:Hp} {E:XK}
theorem pass1:Passes (CX1 P w) (cxOf (CX1 P w) P w K mg base N qual scope f cd A outer s₀ H₀ E) E:=by
  intro pins σ H s ev s' I hcx
  obtain ⟨e,cls,H',rfl,os,bare,un,hok,xf,hE⟩:=hcx
  have J:=I.call' (ch:=[]) os un hok bare (fun b z=>nomatch z)
  exact leave_on (X:=cxOf (CX1 P w) P w K mg base N qual scope f cd A outer s₀ H₀ E) ⟨rfl,rfl⟩ rfl J (xf.older (I.there0 rfl)) hE
theorem raises1:Raises (cxOf (CX1 P w) P w K mg base N qual scope f cd A outer s₀ H₀ E) E:=by
  intro pins σ H s h' e cls vs I hx hE
  exact leave_new (X:=cxOf (CX1 P w) P w K mg base N qual scope f cd A outer s₀ H₀ E) ⟨rfl,rfl⟩ rfl I hx hE
theorem own1:PassesOwn (model P w) (cxOf (CX1 P w) P w K mg base N qual scope f cd A outer s₀ H₀ E).A (cxOf (CX1 P w) P w K mg base N qual scope f cd A outer s₀ H₀ E).env (cxOf (CX1 P w) P w K mg base N qual scope f cd A outer s₀ H₀ E).xe:=PassesOwn.leaving
end
abbrev bmVal:List Value:=[.type "ValueError",.type "Exception",.type "BaseException",.type "object"]
abbrev newVal:String:="ValueError.__new__"
def tRaise (C:Addr) (ta:TA) (E:XK):TS:=fun _ σ H=>ta σ H fun vs H1=>vs.length≤sizeLine∧E (.ref C) none H1
theorem own_cls {K:PySem.W.Frag} {h:Heap} {C:Addr} {bmB:List Value} {newId:String} (X:K.In h) (q:PySem.W.excIn K C bmB newId=true) :
    ∃ bm N nm qn bs hdct sn sub ab col dd k0 k1 k2 k3 k5 mN,h.get? C=some (excClassObj nm qn C N bs bm hdct sn sub ab col dd k0 k1 k2 k3 k5 newId)∧h.Ns N mN∧mN "__init__"=none∧OwnTail h bmB bm:=by
  unfold PySem.W.excIn at q
  split at q
  case h_2=>cases q
  rename_i dd cd sl ho
  split at q
  case h_2=>cases q
  rename_i C' bm k0 k1 k2 k3 n k5 hm hs
  rw [Bool.and_eq_true,Bool.and_eq_true,Bool.and_eq_true,Bool.and_eq_true,Bool.and_eq_true] at q
  obtain ⟨⟨⟨⟨⟨q1,q2⟩,q3⟩,q4⟩,q5⟩,q6⟩:=q
  obtain rfl:C'=C:=by simpa using q1
  obtain rfl:n=newId:=by simpa using q2
  obtain ⟨nm,bs,mro,ns,qn,hd,sn,sub,ab,col,del⟩:=cd
  have hdel:del=false:=by simpa using q3
  have hm':mro=.ref C' :: bm:=hm
  subst hdel hm'
  have hsl:sl=#[k0,k1,k2,k3,some (.builtin n),k5]:=by
    apply Array.ext'
    exact hs
  subst hsl
  exact ⟨bm,ns,nm,qn,bs,hd,sn,sub,ab,col,dd,k0,k1,k2,k3,k5,_,X _ _ ho,.of_isNs (PySem.W.isNs_of_in X q5),PySem.W.nsMap_none_of_in X q5 (by simpa using q6),PySem.W.tail_of_in X q4⟩
section
variable {X:Cx} {x:Str} {C:Addr} {np cpos pos:Pos} {e₀:Expr} {rest:List Expr} {ta:TA} {E:XK}
theorem ps_raise (hc:X.calm=true) (q:PySem.W.excIn X.K C bmVal newVal=true) (hr:Raises X E) (hg:Gl X x) (hm:X.mg x=some (.ref C)) (ha:PA X (e₀ :: rest) ta)
    (he:starEach (e₀ :: rest) X.env=(false,eval e₀ X.env) :: starEach rest X.env:=by rfl) (hp:(backTo cpos (starEach rest X.env)).any (·.1)=false:=by rfl) (hd:(x == ("__debug__":Str))=false:=by decide) :
    PS X (.Raise (some (.Call (.Name x np) (e₀ :: rest) [] cpos)) none pos) (tRaise C ta E):=by
  intro pins s σ H D I h
  obtain ⟨tl,N,nm,qn,bs,hdct,sn,sub,ab,col,dd,k0,k1,k2,k3,k5,mN,hC,hN,hni,T⟩:=own_cls I.ok.mod.kin q
  refine wpAny_Raise_call_subT (C:=C) (nm:=nm) (q:=qn) (N:=N) (bs:=bs) (bm:=tl) (hdct:=hdct) (sn:=sn) (sub:=sub) (ab:=ab) (col:=col) (dd:=dd) (k0:=k0) (k1:=k1) (k2:=k2) (k3:=k3) (k5:=k5) (newId:=newVal)
    PySem.F.excBase_ValueError (mN:=mN) (T.hasType PySem.F.excBase_ValueError.hasBase) (I.ok.hd hc) (by rw [he];exact hp) hni (ld_glob I hg hm ⟨rfl,?_⟩ hd)
  have hA:=ha cpos pins s σ H _ I h
  rw [he] at hA ⊢
  refine Calls.evalArgs_plain (thn hA fun us s2 ⟨vs,H2,I2,r2,z2,q2⟩=>?_)
  exact ⟨rfl,by rw [← r2.length];exact z2,I2.bk _ _ hC,hN.keeps I2.bk,T.keeps I2.bk,fun h' e hm=>hr pins σ H2 s2 h' e _ _ I2 hm q2⟩
end
def Asc (x:Str):Prop:=∀ c∈x.cps.toList,c < 128
section
variable {X:Cx} {e:Expr} {te:TE} {a:Str} {j:Nat} {p1 p2 p3:Pos}
def tMsgR (te:TE):TE:=fun σ H Q=>te σ H fun v H1=>∃ x:Str,v=.str x∧x.length≤100000∧Asc x∧∀ y:Str,Q (.str y) H1
def tMsgS (te:TE):TE:=fun σ H Q=>te σ H fun v H1=>∃ x:Str,v=.str x∧x.length≤100000∧∀ y:Str,Q (.str y) H1
theorem pe_msgS (he:PE X e te) (hl:a.length≤1000:=by decide +kernel):PE X (.JoinedStr [.FormattedValue e (-1) none p2,.Constant (.str a) j p1] p3) (tMsgS te):=by
  intro pins s σ H Q I h
  refine wpAny_JoinedStr ?_
  show wpAny _ _ (eval (.FormattedValue e (-1) none p2) X.env) _ _ s
  refine wpAny_FormattedValue_plain (thn (he pins _ σ H _ I h) fun v s1 ⟨x,H1,I1,r1,z,ex,hz,q⟩=>?_)
  subst ex
  obtain ⟨t,rfl⟩:=r1
  have hs:sizeLine=16777216:=sizeLine_eq
  have e0:(Str.empty ++ z).length=z.length:=by rw [Str.length_append];simp [Str.empty,Str.length]
  have fin:∀ (t':Tok) (tk:Nat),∃ y u,Value.str z t'=Value.str y u∧(Str.empty ++ y).length≤sizeLine∧Joins (model X.prog X.w) X.A X.xe (evalEach [.Constant (.str a) j p1] X.env) (Str.empty ++ y) (fun out s₁=>out.length≤sizeLine∧EP X pins σ Q (.str out s₁.toks) { s₁ with toks:=s₁.toks + 1 }) { s1 with toks:=tk }:=fun t' tk=>by
    refine ⟨_,_,rfl,by rw [e0];omega,?_⟩
    show wpAny _ _ (eval (.Constant (.str a) j p1) X.env) _ _ _
    have hz2:(Str.empty ++ z ++ a).length≤sizeLine:=by rw [Str.length_append,e0];omega
    refine Calls.Constant_str ⟨a,_,rfl,hz2,hz2,.str _,H1,I1.tok _,⟨_,rfl⟩,q _⟩
  exact wpAny_formatField_str (fin _ _) (fin _ _) (by omega)
end
end L2
namespace L2
open PySem PySem.Spec PyProof.Rows
structure ExC (K:PySem.W.Frag) (C:Addr):Prop where
  ga:PySem.W.findIn K (.ref C) "__getattribute__"=some (some (.builtin "BaseException.__getattribute__"))
  gx:PySem.W.findIn K (.ref C) "__getattr__"=some none
  cl:PySem.W.findIn K (.ref C) "__class__"=some (some (.builtin "object.__class__"))
  ob:PySem.W.mroIn K C (.type "object")=some true
  be:PySem.W.mroIn K C (.type "BaseException")=some true
  ge:PySem.W.specialIn K (.builtin "object.__class__") "__get__"=some (some (.builtin "getset_descriptor.__get__"))
  tk:PySem.W.takesIn K (.builtin "object.__class__")=some true
section
variable {prog:Program} {w:World} {A:Around} {E:Value→Shared→Prop} {K:PySem.W.Frag} {e C:Addr} {s:Shared}
open PySem.Builtin PySem.Builtin.Getset_descriptor in
end
end L2
namespace L2
open PySem PySem.Spec PyProof.Rows
section
variable {X:Cx} {pins:List (Addr × Obj)} {σ:St} {H:Hp} {s:Shared}
theorem Inv.land {h2:Heap} {cs:List Addr} (hex:X.ex=[]) (I:Inv X pins σ H s) (hcs:∀ b∈cs,H b=none∧X.s₀.heap.get? b=none) (hcp:∀ b∈cs,∀ p∈X.pn ++ pins,p.1≠b)
    (hB:∀ b o,s.heap.get? b=some o→b ∉ frs X.stack→b ∉ cs→h2.get? b=some o) (sm:s.heap.UpToSlots h2):Inv X pins σ H { s with heap:=h2 }:=by
  have hF:∀ b o,s.heap.get? b=some o→b∈frs X.stack→∃ sl,h2.get? b=some { o with slots:=sl }:=fun b o q hb=>by
    obtain ⟨o',q',nf⟩:=I.stackFields hb
    rw [q] at q';cases q'
    exact sm b o q nf
  obtain ⟨r1,r2⟩:=I.behind hex hcs hB hF
  have ce:∀ c v,s.heap.IsCell c v→h2.IsCell c v:=fun c v ⟨o,ho,hd⟩=>by
    obtain ⟨sl,q⟩:=sm c o ho fun vs z=>by rw [hd] at z;cases z
    exact ⟨_,q,hd⟩
  refine ⟨I.ok,I.os,I.bare,by rw [hex];exact r1,?_,fun x c e=>?_,I.free,I.freeC,fun p hp=>?_,r2,I.len⟩
  · obtain ⟨m,hn,hl⟩:=I.loc
    refine ⟨m,sm.ns hn,fun i x v e1 e2 e3=>?_⟩
    obtain ⟨u,r,l⟩:=hl i x v e1 e2 e3
    refine ⟨u,r,?_⟩
    rcases l with l | ⟨k,c,e,z⟩
    · exact .inl l
    · exact .inr ⟨k,c,e,ce c _ z⟩
  · obtain ⟨v,z⟩:=I.cell x c e
    exact ⟨v,ce c v z⟩
  · obtain ⟨e,n,ne,nf,d⟩:=I.pin p hp
    exact ⟨hB _ _ e (fun z=>(List.mem_cons.mp (I.stkSub _ z)).elim ne nf) fun z=>hcp _ z p hp rfl,n,ne,nf,d⟩
end
def exO (e C:Addr):HO:=.ext fun h=>∃ o,h.get? e=some o∧o.cls=.ref C
abbrev Cx.sub (X:Cx) (e:Addr):Cx:={ X with A:=X.A.mark (some (.ref e)),calm:=false,xe:=fun _ _=>False }
section
variable {X:Cx} {pins:List (Addr × Obj)} {σ:St} {H:Hp} {s:Shared} {e:Addr}
theorem Inv.toSub (I:Inv X pins σ H s):Inv (X.sub e) pins σ H s :=
  ⟨⟨I.ok.mod,I.ok.kind,I.ok.glob,I.ok.blt,I.ok.above,I.ok.inj,I.ok.has,I.ok.cab,(fun z=>nomatch z),I.ok.frames,I.ok.stk,I.ok.exf,I.ok.bs,I.ok.bsz,I.ok.noex,I.ok.exfs,I.ok.funs,I.ok.frf⟩,I.os,I.bare,I.base,I.loc,I.cell,I.free,I.freeC,I.pin,I.hok,I.len⟩
theorem Inv.ofSub {J:Inv X pins σ H s} {σ':St} {H':Hp} {s':Shared} (I:Inv (X.sub e) pins σ' H' s'):Inv X pins σ' H' s' :=
  ⟨J.ok,I.os,I.bare,I.base,I.loc,I.cell,I.free,I.freeC,I.pin,I.hok,I.len⟩
end
abbrev EXK:=Value→St→Hp→Prop
def PX (X:Cx) (pins:List (Addr × Obj)) (EX:EXK):Value→Shared→Prop:=fun ev s'=>∃ e cls σ s1 H1 H',ev=.ref e∧Inv X pins σ H1 s1∧Inv X pins σ H' s'∧XF s1.heap s'.heap H' e cls∧EX cls σ H'
def PEX (X:Cx) (ex:Expr) (t:EXK→TE):Prop :=
  ∀ (pins:List (Addr × Obj)) (s:Shared) (σ:St) (H:Hp) (Q:VK) (EX:EXK),Inv X pins σ H s→t EX σ H Q→wpAny (model X.prog X.w) X.A (eval ex X.env) (EP X pins σ Q) (PX X pins EX) s
def PSX (X:Cx) (st:Stmt) (t:EXK→TS):Prop :=
  ∀ (pins:List (Addr × Obj)) (s:Shared) (σ:St) (H:Hp) (D:Ends) (EX:EXK),Inv X pins σ H s→t EX D σ H→wpAny (model X.prog X.w) X.A (exec st X.env) (SP X pins D) (PX X pins EX) s
section
variable {X:Cx} {k:Nat} {f:Addr} {fd:FuncData} {ps:List Str} {sp:Sp} {x:Str} {p pos:Pos} {e:Expr} {es:List Expr} {t:TA}
def tCallX (sp:Sp) (ta:TA) (EX:EXK):TE:=fun σ H Q=>ta σ H fun vs H1=>sp (vs ++ []) H1 Q fun cls _ H2=>EX cls σ H2
end
section
variable {X:Cx} {ex:Expr} {tx:EXK→TE} {pos p1:Pos} {i:Nat} {y:Str}
def tDropX (tx:EXK→TE) (EX:EXK):TS:=fun D σ H=>tx EX σ H fun _ H1=>D.nx σ H1
def tRetX (tx:EXK→TE) (EX:EXK):TS:=fun D σ H=>tx EX σ H D.rt
def tAsgX (tx:EXK→TE) (i:Nat) (EX:EXK):TS:=fun D σ H=>tx EX σ H fun v H1=>D.nx (σ.set i (some v)) H1
theorem psx_set {pos':Pos} (hN:X.N.Nodup) (hi:X.N[i]?=some y) (hx:Loc X.env.scope y) (he:PEX X ex tx) (hs:swapsWith ex (some (.Name y pos')) pos.line X.env=pure false:=by rfl) (hf:X.fn y=true∨X.env.scope.names.lookup y=some .local:=by first | exact .inl rfl | exact .inr rfl | assumption) :
    PSX X (.Assign [.Name y pos'] ex pos) (tAsgX tx i):=by
  intro pins s σ H D EX I h
  refine wpAny_Assign_Name (thn (he pins s σ H _ EX I h) fun v s1 ⟨x,H1,I1,r1,q1⟩=>?_) hs
  exact store_ok I1 hN hi hx r1 (fun s2 I2=>⟨_,H1,I2,q1⟩) hf
end
structure ExK (K:PySem.W.Frag) (C:Addr):Prop extends ExC K C where
  has:(PySem.W.clsIn K C).isSome=true
def endT (i:Nat) (D:Ends):Ends:={ nx:=fun σ H=>D.nx (σ.set i none) H,rt:=D.rt,bk:=fun σ H=>D.bk (σ.set i none) H,ct:=fun σ H=>D.ct (σ.set i none) H }
def tTry (K:PySem.W.Frag) (tb:EXK→TS) (C0:Addr) (i:Nat) (th:TS):TS:=fun D σ H=>tb (fun cls σ1 H1=>∃ C,cls=.ref C∧ExK K C∧PySem.W.exmOne K (.ref C) (.ref C0)=some true ∧
  ∀ e,H1 e=none→th (endT i D) (σ1.set i (some (.ref e))) (upd H1 e (exO e C))) D σ H
section
variable {X:Cx} {st b₀:Stmt} {suite:List Stmt} {tb:EXK→TS} {th:TS} {c n:Str} {C0:Addr} {i:Nat} {np hpos pos:Pos}
end
end L2
namespace L2
open PySem PySem.Spec PyProof.Rows
def clsV:V→Option Value
  | .ty T=>some (.type T)
  | .ref D=>some (.ref D)
  | _=>none
abbrev cIsx (K:PySem.W.Frag):RC:=fun xs H Q=>∃ a C c cv b,xs=[.ref a,c]∧H a=some (exO a C)∧ExK K C∧clsV c=some cv∧PySem.W.kitOne K (.ref C) cv=some b∧Q (.bl b) H
abbrev cIsxT (K:PySem.W.Frag):RC:=fun xs H Q=>∃ a C p,∃ cs:List Addr,∃ b,xs=[.ref a,.ref p]∧H a=some (exO a C)∧ExK K C∧H p=some (.tup (cs.map V.ref))∧PySem.W.kitAny K (.ref C) (cs.map Value.ref)=some b∧Q (.bl b) H
section
variable {X:Cx}
end
theorem pass10 {P:Program} {w:World} {X:Cx}:Passes (CX1 P w) X E0:=fun _ _ _ _ _ _ _ h=>by
  obtain ⟨_,_,_,_,_,_,_,_,_,z⟩:=h
  exact z.elim
section
variable {P:Program} {w:World} {K:PySem.W.Frag} {mg:Str→Option Value} {base:Heap}
theorem Fun.ok1 {x qual:Str} {st:Stmt} {f:Addr} {fd:FuncData} {N ps:List Str} {k:Nat} {sp:Sp} (F:Fun K x qual st f fd) (S:FnScope N ps (defScope st)) (len:∀ vs H Q E,sp vs H Q E→vs.length=ps.length)
    (hbody:∀ (cdv:Value) (A:Around) (outer:List Env) (s:Shared) (H:Hp) (vs:List V) (Q:VK) (E:XK),Room k (A.deeper (envOfC qual (defScope st) s.heap.objs.size f cdv))→sp vs H Q E →
      ∃ t,PSs (cxOf (CX1 P w) P w K mg base N qual (defScope st) f cdv A outer s H E) (defBody st) t∧t { nx:=fun _ H'=>Q .non H',rt:=Q } (start N vs) H):FnOk P w K mg base (CX1 P w) (k + 1) f fd ps sp:=by
  obtain ⟨oc,od,kV,doc,pm,an,cdv,ct,osl,rfl,lk,hcd⟩:=F.ex
  exact fn_of lk hcd S len fun A outer s H vs Q E hr hsp=>hbody cdv A outer s H vs Q E hr hsp
theorem Fun.ok0 {x qual:Str} {st:Stmt} {f:Addr} {fd:FuncData} {N ps:List Str} {k:Nat} {sp:Sp} (F:Fun K x qual st f fd) (S:FnScope N ps (defScope st)) (len:∀ vs H Q E,sp vs H Q E→vs.length=ps.length)
    (hbody:∀ (cdv:Value) (A:Around) (outer:List Env) (s:Shared) (H:Hp) (vs:List V) (Q:VK) (E:XK),Room k (A.deeper (envOfC qual (defScope st) s.heap.objs.size f cdv))→sp vs H Q E →
      ∃ t,PSs (cxOf (CX1 P w) P w K mg base N qual (defScope st) f cdv A outer s H E).nox (defBody st) t∧t { nx:=fun _ H'=>Q .non H',rt:=Q } (start N vs) H):FnOk P w K mg base (CX1 P w) (k + 1) f fd ps sp :=
  F.ok1 S len fun cdv A outer s H vs Q E hr h=>let ⟨t,a,b⟩:=hbody cdv A outer s H vs Q E hr h;⟨t,a.nox,b⟩
end
theorem walk_ofX {l:PySem.W.OpenLaw} {n k:Nat} {q:Program} {loose:List Str} {XP:(Str→Option Value)→Heap→Prop} {YP:World→Heap→Prop} {d:DefRec} {K:Params→PySem.W.Frag} {sp:PySem.W.Frag→Sp} {x:Str}
    (hn:l.most=some n) (hn2:n≤sizeLine) (hdf:d.params.defaults=[]) (hr:Room k callerA)
    (hY:∀ (w:World) (h:Heap),YP w h→(K w.params).In h)
    (F:∀ (w:World) (mg:Str→Option Value) (fa:Addr) (h:Heap),(K w.params).In h→h.Ns mainGlobals mg→mg d.name=some (.ref fa) →
      ∃ fd:FuncData,(∀ (s:Shared) (u:Value),BindsTo s fd ⟨[u],[]⟩ [(x,u)]) ∧
        ∀ base:Heap,(K w.params).In base→base.Ns mainGlobals mg→FnOk l.prog w (K w.params) mg base (CX1 l.prog w) k fa fd [x] (sp (K w.params)))
    (hsp:∀ (K:PySem.W.Frag) (H:Hp) (a:Addr) (ns:List Int),ns.length≤n→Only H→SqL K H a (ns.map V.int)→sp K [.ref a] H (fun v _=>v=.bl true) fun _ _ _=>False) :
    PySem.W.WalkO q loose XP YP l.row.toRowW d [] (fun f vs=>PySem.call f vs) :=
  walk_of (K:=K) (CX:=fun w=>CX1 l.prog w) (sp:=fun w=>sp (K w.params)) hn hn2 hdf hr hY F (fun w H a ns h1 h2 h3=>hsp (K w.params) H a ns h1 h2 h3) fun _ _ _ _ _ z=>by
    obtain ⟨_,_,_,_,_,_,_,_,_,y⟩:=z
    exact y
end L2
namespace L2
open PySem
section
variable {σ:St} {H:Hp} {nx:St→Hp→Prop} {B:V→St→Hp→(St→Hp→Prop)→Prop}
theorem loop_range {lo:Int} {n:Nat} (Pv:Nat→St→Hp→Prop) (h0:Pv 0 σ H) (hs:∀ i σ H,i < n→Pv i σ H→B (.int (lo + i)) σ H (Pv (i + 1))) (hd:∀ σ H,Pv n σ H→nx σ H) :
    ∃ W:Nat→Nat→St→Hp→Prop,(∃ m,W 0 m σ H)∧∀ i m σ H,W i m σ H→((Itr lo n).stop i H∧nx σ H)∨((Itr lo n).go i H∧∃ N:St→Hp→Prop,(∀ σ' H',N σ' H'→∃ m',m' < m∧W (i + 1) m' σ' H')∧∀ x H',(Itr lo n).yld i H x H'→B x σ H' N):=by
  refine ⟨fun i m σ H=>m=n - i∧i≤n∧Pv i σ H,⟨n,by simp,Nat.zero_le _,h0⟩,?_⟩
  rintro i m σ H ⟨rfl,hi,p⟩
  by_cases hlt:i < n
  · refine .inr ⟨hlt,Pv (i + 1),fun σ' H' p'=>⟨n - (i + 1),by omega,rfl,hlt,p'⟩,?_⟩
    rintro x H' ⟨rfl,rfl⟩
    exact hs i σ _ hlt p
  · obtain rfl:i=n:=by omega
    exact .inl ⟨Nat.le_refl _,hd σ H p⟩
theorem loop_list {K:PySem.W.Frag} {a:Addr} (xs:List V) (Pv:Nat→St→Hp→Prop) (h0:Pv 0 σ H) (hl:∀ i σ H,Pv i σ H→SqL K H a xs) (hs:∀ i x σ H,xs[i]?=some x→Pv i σ H→B x σ H (Pv (i + 1))) (hd:∀ σ H,Pv xs.length σ H→nx σ H) :
    ∃ W:Nat→Nat→St→Hp→Prop,(∃ m,W 0 m σ H)∧∀ i m σ H,W i m σ H→((Itl K a).stop i H∧nx σ H)∨((Itl K a).go i H∧∃ N:St→Hp→Prop,(∀ σ' H',N σ' H'→∃ m',m' < m∧W (i + 1) m' σ' H')∧∀ x H',(Itl K a).yld i H x H'→B x σ H' N):=by
  refine ⟨fun i m σ H=>m=xs.length - i∧i≤xs.length∧Pv i σ H,⟨xs.length,by simp,Nat.zero_le _,h0⟩,?_⟩
  rintro i m σ H ⟨rfl,hi,p⟩
  have q:=hl i σ H p
  by_cases hlt:i < xs.length
  · refine .inr ⟨⟨xs,xs[i],q,by simp [hlt]⟩,Pv (i + 1),fun σ' H' p'=>⟨xs.length - (i + 1),by omega,rfl,hlt,p'⟩,?_⟩
    rintro x H' ⟨rfl,y⟩
    exact hs i x σ _ (y xs q) p
  · obtain rfl:i=xs.length:=by omega
    exact .inl ⟨⟨xs,q,Nat.le_refl _⟩,hd σ H p⟩
theorem loop_tup {K:PySem.W.Frag} {a:Addr} (xs:List V) (Pv:Nat→St→Hp→Prop) (h0:Pv 0 σ H) (hl:∀ i σ H,Pv i σ H→SqT K H a xs) (hs:∀ i x σ H,xs[i]?=some x→Pv i σ H→B x σ H (Pv (i + 1))) (hd:∀ σ H,Pv xs.length σ H→nx σ H) :
    ∃ W:Nat→Nat→St→Hp→Prop,(∃ m,W 0 m σ H)∧∀ i m σ H,W i m σ H→((Itt K a).stop i H∧nx σ H)∨((Itt K a).go i H∧∃ N:St→Hp→Prop,(∀ σ' H',N σ' H'→∃ m',m' < m∧W (i + 1) m' σ' H')∧∀ x H',(Itt K a).yld i H x H'→B x σ H' N):=by
  refine ⟨fun i m σ H=>m=xs.length - i∧i≤xs.length∧Pv i σ H,⟨xs.length,by simp,Nat.zero_le _,h0⟩,?_⟩
  rintro i m σ H ⟨rfl,hi,p⟩
  have q:=hl i σ H p
  by_cases hlt:i < xs.length
  · refine .inr ⟨⟨xs,xs[i],q,by simp [hlt]⟩,Pv (i + 1),fun σ' H' p'=>⟨xs.length - (i + 1),by omega,rfl,hlt,p'⟩,?_⟩
    rintro x H' ⟨rfl,y⟩
    exact hs i x σ _ (y xs q) p
  · obtain rfl:i=xs.length:=by omega
    exact .inl ⟨⟨xs,q,Nat.le_refl _⟩,hd σ H p⟩
end
theorem comp_gen {J:It} {D:Addr} {τ₀:St} {H1:Hp} {Q:Hp→Prop} {B:V→St→Hp→(V→St→Hp→Prop)→(St→Hp→Prop)→Prop} (n:Nat) (hn:n≤1000000) (C:St→Prop) (R:Nat→V→Prop) (hC:C τ₀)
    (go:∀ i H,Same H1 H→i < n→J.go i H) (stop:∀ H,Same H1 H→J.stop n H) (hD:H1 D=none)
    (hs:∀ i x τ H H',C τ→Same H1 H→i < n→J.yld i H x H'→B x τ H' (fun v τ' H4=>C τ'∧R i v∧Same H H4) (fun _ _=>False))
    (hd:∀ ys H,ys.length=n→(∀ i v,ys[i]?=some v→R i v)→Same H1 H→H D=some (.lst ys)→Q H) :
    ∃ W:Nat→Nat→List V→St→Hp→Prop,(∃ m,W 0 m [] τ₀ (upd H1 D (.lst [])))∧∀ i m ys τ H,W i m ys τ H→H D=some (.lst ys) ∧
    ((J.stop i H∧Q H)∨(J.go i H∧ys.length < sizeLine∧∃ N:V→St→Hp→Prop,
      (∀ v τ' H',N v τ' H'→H' D=some (.lst ys)∧∃ m',m' < m∧W (i + 1) m' (ys ++ [v]) τ' (upd H' D (.lst (ys ++ [v]))))∧∃ Nf:St→Hp→Prop,(∀ τ' H',Nf τ' H'→∃ m',m' < m∧W (i + 1) m' ys τ' H') ∧
      ∀ x H',J.yld i H x H'→B x τ H' N Nf)):=by
  have ext:∀ {H:Hp} {o:HO},Same H1 H→Same H1 (upd H D o):=fun {H o} h b u e=>by
    rw [upd_ne (ne_of_none e hD)];exact h b u e
  refine ⟨fun i m ys τ H=>m=n - i∧i≤n∧ys.length=i∧(∀ j v,ys[j]?=some v→R j v)∧Same H1 H∧H D=some (.lst ys)∧C τ,⟨n,by simp,Nat.zero_le _,rfl,by simp,ext (Same.refl _),upd_same,hC⟩,?_⟩
  rintro i m ys τ H ⟨rfl,hi,hl,hR,hS,hy,hc⟩
  refine ⟨hy,?_⟩
  by_cases hlt:i < n
  · refine .inr ⟨go i H hS hlt,Nat.lt_of_le_of_lt (by omega:ys.length≤1000000) (by decide),(fun v τ' H4=>C τ'∧R i v∧Same H H4),?_,(fun _ _=>False),fun _ _ z=>z.elim,fun x H' y=>hs i x τ H H' hc hS hlt y⟩
    rintro v τ' H4 ⟨c4,r4,s4⟩
    refine ⟨s4 _ _ hy,n - (i + 1),by omega,rfl,hlt,by simp [hl],fun j u hj=>?_,ext (hS.trans s4),upd_same,c4⟩
    rcases Nat.lt_trichotomy j ys.length with h | h | h
    · exact hR j u (by rwa [List.getElem?_append_left h] at hj)
    · subst h
      simp at hj
      subst hj
      rw [hl];exact r4
    · rw [List.getElem?_eq_none (by simp;omega)] at hj;cases hj
  · obtain rfl:i=n:=by omega
    exact .inl ⟨stop H hS,hd ys H hl hR hS hy⟩
theorem sIx_eq (n d:Nat) (v:Int):max (0:Int) (min (if v < 0 then v + n else v) n)=((HT.sIx n d (some v):Nat):Int):=by
  show _=(((if v < 0 then (v + (n:Int)).toNat else min v.toNat n):Nat):Int)
  by_cases hv:v < 0
  · simp only [if_pos hv];omega
  · simp only [if_neg hv];omega
theorem rng_one (a b:Nat):sliceRange (a:Int) (b:Int) 1=(List.range (b - a)).map fun k=>a + k:=by
  simp only [sliceRange,show ((1:Int) > 0)=True from by simp,if_true]
  by_cases hlt:(a:Int) < b
  · have e3:(((b:Int) - a + 1 - 1) / 1).toNat=b - a:=by rw [Int.ediv_one];omega
    simp only [hlt,if_true,e3]
    refine List.map_congr_left fun k _=>?_
    omega
  · have:b - a=0:=by omega
    simp [hlt,this]
theorem slice_ix (lo hi:Option Int) (n:Nat):Builtin.Str.strSliceIndices lo hi 1 n=(List.range (HT.sIx n n hi - HT.sIx n 0 lo)).map fun k=>HT.sIx n 0 lo + k:=by
  rw [← rng_one]
  unfold Builtin.Str.strSliceIndices
  simp only [show ((1:Int) > 0)=True from by simp,if_true]
  cases lo with
  | none =>
    cases hi with
    | none=>rfl
    | some v=>simp only [sIx_eq n n v];rfl
  | some u =>
    cases hi with
    | none=>simp only [sIx_eq n 0 u];rfl
    | some v=>simp only [sIx_eq n n v,sIx_eq n 0 u]
theorem slice_cps (x:Str) (lo hi:Option Int):(Txt.slice x lo hi).cps.toList=(x.cps.toList.drop (HT.sIx x.length 0 lo)).take (HT.sIx x.length x.length hi - HT.sIx x.length 0 lo):=by
  have hb:=HT.sIx_le x.length x.length (Nat.le_refl _) hi
  have hn:x.cps.toList.length=x.length:=by simp [Str.length]
  unfold Txt.slice
  rw [slice_ix]
  split
  · rename_i h
    have h':HT.sIx x.length x.length hi - HT.sIx x.length 0 lo=x.length:=by simpa using h
    have e0:HT.sIx x.length 0 lo=0∨x.length=0:=by omega
    rcases e0 with e0 | e0
    · rw [e0,List.drop_zero,List.take_of_length_le]
      omega
    · rw [List.eq_nil_of_length_eq_zero (by omega:x.cps.toList.length=0)];simp
  · by_cases hab:HT.sIx x.length 0 lo≤HT.sIx x.length x.length hi
    · have h:=StrLaws.picks x.cps.toList (HT.sIx x.length x.length hi - HT.sIx x.length 0 lo) (HT.sIx x.length 0 lo) (by omega)
      simpa using h
    · have:HT.sIx x.length x.length hi - HT.sIx x.length 0 lo=0:=by omega
      rw [this];simp
theorem slice_from (x:Str) (k:Nat):(Txt.slice x (some (k:Int)) none).cps.toList=x.cps.toList.drop k:=by
  rw [slice_cps,HT.sIx_none,HT.sIx_nat]
  have hn:x.cps.toList.length=x.length:=by simp [Str.length]
  by_cases h:k≤x.length
  · rw [Nat.min_eq_left h,List.take_of_length_le (by rw [List.length_drop];omega)]
  · rw [List.drop_eq_nil_of_le (by omega:x.cps.toList.length≤k),Nat.min_eq_right (by omega),List.drop_eq_nil_of_le (by omega)];simp
theorem slice_to (x:Str) (k:Nat):(Txt.slice x none (some (k:Int))).cps.toList=x.cps.toList.take k:=by
  rw [slice_cps,HT.sIx_none,HT.sIx_nat,List.drop_zero,Nat.sub_zero]
  have hn:x.cps.toList.length=x.length:=by simp [Str.length]
  by_cases h:k≤x.length
  · rw [Nat.min_eq_left h]
  · rw [Nat.min_eq_right (by omega),List.take_of_length_le (by omega),List.take_of_length_le (by omega)]
theorem str_ext {x y:Str} (h:x.cps.toList=y.cps.toList):x=y:=by
  obtain ⟨a⟩:=x
  obtain ⟨b⟩:=y
  have:a=b:=Array.toList_inj.mp h
  rw [this]
theorem cps_app (x y:Str):(x ++ y).cps.toList=x.cps.toList ++ y.cps.toList:=by
  show (x.cps ++ y.cps).toList=_
  simp
open PySem.NumText in
section
def numS (w:Int):Str:=Str.ofString (toString w)
theorem len_cps (x:Str):x.length=x.cps.toList.length:=by simp [Str.length]
def inF (c:Nat):Bool:=!(Builtin.Str.occurrences "0123456789" ⟨#[c]⟩ 0 (Str.length "0123456789") 1).isEmpty
def isFig (x:Str):Bool:=!decide (x="") && x.cps.toList.all inF
def inW (i:Int):Bool:=decide (-1000000000000000000000000000000≤i∧i≤1000000000000000000000000000000)
def fpart (x:Str):Str:=if (x.cps.toList.take 1 == [45])=true then Txt.slice x (some 1) none else x
def valOf (x:Str):Int:=(intText? x).getD 0
def isNum (x:Str):Bool:=!(decide (31 < (fpart x).length) || !isFig (fpart x)) && (inW (valOf x) && decide (numS (valOf x)=x))
end
end L2
namespace L2
open PySem PySem.Spec PyProof.Rows
def findS (x y:Str):Int:=match Builtin.Str.occurrences x y 0 x.length 1 with | i :: _=>(i:Int) | []=>-1
abbrev r_mt_find:RM:=fun x xs H Q=>∃ a b,x=.str a∧xs=[.str b]∧Q (.int (findS a b)) H
def joinS (sep:Str):List Str→Str
  | [p]=>p
  | l=>Builtin.Str.glued sep l
def sumL (sep:Str) (ls:List Str):Nat:=ls.foldl (fun n p=>n + p.length + sep.length) 0
abbrev r_mt_join (K:PySem.W.Frag):RM:=fun x xs H Q=>∃ sep a ls,x=.str sep∧xs=[.ref a]∧SqL K H a (ls.map V.str)∧sumL sep ls≤sizeLine∧Q (.str (joinS sep ls)) H
def repS (x:Str) (n:Int):Str:=if n < 1 then Str.empty else if (n == 1 || x.length == 0)=true then x else ⟨(List.replicate n.toNat x.cps).foldl (· ++ ·) #[]⟩
abbrev rMulS:R2:=fun x y H Q=>∃ a n,x=.str a∧y=.int n∧(n < 1000000∧-1000000 < n∧a.length * n.toNat≤1000000)∧Q (.str (repS a n)) H
section
variable {X:Cx}
end
theorem len_app (x y:Str):(x ++ y).length=x.length + y.length:=Str.length_append x y
end L2
namespace L2
open PySem PySem.Spec PyProof.Rows
section
open PySem.NumText
end
end L2
namespace L2
open PySem PySem.Spec PyProof.Rows
def CDivS (_ j:Int):Prop:=j≠0∧-big < j∧j < big
section
variable {X:Cx}
theorem op_fdivS:OpR X (binaryOp .FloorDiv) (rI CDivS fun i j=>.int (i.fdiv j)):=opI fun i j _ _ _ _ _ hc q =>
  floordiv_int hc.1 q (.inl (PyProof.noPylong_of_log2 (Nat.lt_trans (log2_big (abs_big hc.2)) (by decide))))
abbrev cIntB:RC:=fun xs H Q=>∃ b:Bool,xs=[.bl b]∧Q (.int (if b then 1 else 0)) H
theorem call_int_bl:CallR X (.type "int") cIntB:=by
  intro pins s σ H xs us Q I r h
  obtain ⟨b,rfl,q⟩:=h
  obtain ⟨u,rfl,r1⟩:=vals1 r
  cases r1
  exact call_int_bool ⟨.int _,H,I.tok _,⟨_,rfl⟩,q⟩
end
theorem hu64 {k:Nat} {A:Around} (r:Room k A):A.units + 64 < cLine:=by have:=r.un;omega
def datV:V→PyData
  | .non=>.none
  | .bl b=>.bool b
  | .int i=>.int i
  | .str x=>.str x
  | _=>.none
def isFlat:V→Bool
  | .non=>true
  | .bl _=>true
  | .int _=>true
  | .str x=>PyData.strOk x
  | _=>false
theorem Asc.flat {x:Str} (h:Asc x):isFlat (.str x)=true:=by
  unfold isFlat PyData.strOk
  rw [Array.all_eq_true]
  intro i hi
  have:=h x.cps[i] (by simp)
  exact decide_eq_true (by omega)
def mixV:V→V→Bool
  | .bl _,.int _=>false
  | .int _,.bl _=>false
  | _,_=>true
def mixAll:List V→List V→Bool
  | x :: xs,y :: ys=>mixV x y && mixAll xs ys
  | _,_=>true
abbrev rEqL (K:PySem.W.Frag) (neg:Bool):R2:=fun x y H Q=>∃ a b xs ys,x=.ref a∧y=.ref b∧SqL K H a xs∧SqL K H b ys∧(xs.all isFlat=true∧ys.all isFlat=true∧mixAll xs ys=true)∧Q (.bl (if neg then !decide (xs=ys) else decide (xs=ys))) H
section
variable {X:Cx}
abbrev rEqNil (K:PySem.W.Frag):R2:=fun x y H Q=>∃ a b xs,x=.ref a∧y=.ref b∧SqL K H a xs∧SqL K H b []∧Q (.bl (decide (xs=[]))) H
end
end L2
namespace L2
open PySem PySem.Spec PyProof.Rows
abbrev r_mt_append:RM:=rAppend
abbrev r_mt_pop:RM:=rPop
def jw:List V:=[.str "plus",.str "minus",.str "times",.str "over",.str "rest",.str "under",.str "same"]
def isJ (v:V):Bool:=inV v jw
inductive Er where
  | nought | great | stuck
  deriving DecidableEq
def comeV (w:Str) (a b:Int):Int :=
  if w="plus" then a + b else if w="minus" then a - b else if w="times" then a * b else if w="under" then (if a < b then 1 else 0) else if w="same" then (if a=b then 1 else 0) else if w="over" then a.fdiv b else a.fmod b
def isDiv (w:Str):Prop:=¬ w="plus"∧¬ w="minus"∧¬ w="times"∧¬ w="under"∧¬ w="same"
instance (w:Str):Decidable (isDiv w):=by unfold isDiv;infer_instance
def joinE (w:Str) (a b:Int):Except Er Int:=if isDiv w∧b=0 then .error .nought else if inW (comeV w a b)=true then .ok (comeV w a b) else .error .great
def wrth (kvs:List (Key × V)):V→Int
  | .int i=>i
  | .str x=>(match valV kvs (.inr x) with | some (.int i)=>i | _=>0)
  | _=>0
def stepE (kvs:List (Key × V)) (st:List Int) (v:V):Except Er (List Int) :=
  if isJ v=true then (match v,st.reverse with | .str w,b :: a :: r=>(match joinE w a b with | .ok c=>.ok (r.reverse ++ [c]) | .error e=>.error e) | _,_=>.error .stuck) else .ok (st ++ [wrth kvs v])
def runE (kvs:List (Key × V)):List V→List Int→Except Er (List Int)
  | [],st=>.ok st
  | v :: r,st=>match stepE kvs st v with | .ok st'=>runE kvs r st' | .error e=>.error e
section
variable {kvs:List (Key × V)}
theorem runE_app:∀ (p q:List V) (st:List Int),runE kvs (p ++ q) st=match runE kvs p st with | .ok st'=>runE kvs q st' | .error e=>.error e
  | [],q,st=>rfl
  | v :: r,q,st=>by
    show (match stepE kvs st v with | .ok st'=>runE kvs (r ++ q) st' | .error e=>.error e)=match (match stepE kvs st v with | .ok st'=>runE kvs r st' | .error e=>.error e) with | .ok st'=>runE kvs q st' | .error e=>.error e
    cases stepE kvs st v with
    | error e=>rfl
    | ok st'=>exact runE_app r q st'
def Good (kvs:List (Key × V)) (ps:List V) (r:Except Er Int):Prop:=(∀ st,runE kvs ps st=match r with | .ok i=>.ok (st ++ [i]) | .error e=>.error e)∧r≠.error .stuck
theorem good_leaf {v:V} (h:isJ v=false):Good kvs [v] (.ok (wrth kvs v)):=by
  refine ⟨fun st=>?_,fun z=>nomatch z⟩
  unfold runE stepE
  rw [h,if_neg (by decide)]
  rfl
def joinR (w:Str) (r1 r2:Except Er Int):Except Er Int:=match r1 with | .error e=>.error e | .ok a=>match r2 with | .error e=>.error e | .ok b=>joinE w a b
theorem joinE_ns (w:Str) (a b:Int):joinE w a b≠.error .stuck:=by
  unfold joinE
  split
  · exact fun z=>nomatch z
  · split <;> exact fun z=>nomatch z
theorem good_join {w:Str} {p1 p2:List V} {r1 r2:Except Er Int} (hw:isJ (.str w)=true) (g1:Good kvs p1 r1) (g2:Good kvs p2 r2):Good kvs (p1 ++ p2 ++ [.str w]) (joinR w r1 r2):=by
  refine ⟨fun st=>?_,?_⟩
  · rw [runE_app,runE_app,g1.1]
    cases r1 with
    | error e=>rfl
    | ok a =>
      show (match runE kvs p2 (st ++ [a]) with | .ok st'=>runE kvs [.str w] st' | .error e=>.error e)=_
      rw [g2.1]
      cases r2 with
      | error e=>rfl
      | ok b =>
        show runE kvs [.str w] (st ++ [a] ++ [b])=match joinE w a b with | .ok i=>.ok (st ++ [i]) | .error e=>.error e
        unfold runE stepE
        rw [hw,if_pos rfl]
        simp only [List.reverse_append,List.reverse_cons,List.reverse_nil,List.nil_append,List.cons_append,List.append_assoc]
        cases joinE w a b with
        | error e=>rfl
        | ok c=>simp [runE]
  · unfold joinR
    cases r1 with
    | error e=>exact g1.2
    | ok a =>
      cases r2 with
      | error e=>exact g2.2
      | ok b=>exact joinE_ns w a b
theorem run_err {ps:List V} {i:Nat} {st:List Int} {e:Er} (h:runE kvs (ps.take i) st=.error e):runE kvs ps st=.error e:=by
  have:=runE_app (kvs:=kvs) (ps.take i) (ps.drop i) st
  rw [List.take_append_drop,h] at this
  exact this
theorem run_one {ps:List V} {i:Nat} {st st0:List Int} {v:V} (h:runE kvs (ps.take i) st0=.ok st) (hv:ps[i]?=some v):runE kvs (ps.take (i + 1)) st0=stepE kvs st v:=by
  rw [List.take_add_one,hv]
  show runE kvs (ps.take i ++ [v]) st0=_
  rw [runE_app,h]
  show (match stepE kvs st v with | .ok st'=>runE kvs [] st' | .error e=>.error e)=_
  cases stepE kvs st v <;> rfl
end
def okPart (v:V):Prop:=(∃ i,v=.int i∧inW i=true)∨∃ x:Str,v=.str x∧x.length≤1000
def SlotsOk (kvs:List (Key × V)):Prop:=∀ k v,valV kvs k=some v→∃ i,v=.int i∧inW i=true
theorem wrth_inW {kvs:List (Key × V)} (h:SlotsOk kvs) {v:V} (hv:okPart v):inW (wrth kvs v)=true:=by
  rcases hv with ⟨i,rfl,hi⟩ | ⟨x,rfl,_⟩
  · exact hi
  · show inW (match valV kvs (.inr x) with | some (.int i)=>i | _=>0)=true
    cases e:valV kvs (.inr x) with
    | none=>rfl
    | some u =>
      obtain ⟨i,rfl,hi⟩:=h _ _ e
      exact hi
theorem inW_iff {i:Int}:inW i=true↔-1000000000000000000000000000000≤i∧i≤1000000000000000000000000000000:=by unfold inW;rw [decide_eq_true_eq]
theorem inW_big {i:Int} (h:inW i=true):-big < i∧i < big:=by
  have:=inW_iff.mp h
  have hb:(1000000000000000000000000000001:Int) < big:=by decide +kernel
  omega
theorem inW_fdiv {a b:Int} (ha:inW a=true) (hb:b≠0):inW (a.fdiv b)=true:=by
  have:=inW_iff.mp ha
  refine inW_iff.mpr ?_
  have h1:(a.fdiv b).natAbs≤a.natAbs:=by
    rcases Int.lt_or_gt_of_ne hb with h | h
    · rw [← Int.neg_fdiv_neg,Int.fdiv_eq_ediv_of_nonneg _ (by omega)]
      have:=Int.natAbs_ediv_le_natAbs (-a) (-b)
      omega
    · rw [Int.fdiv_eq_ediv_of_nonneg _ (by omega)]
      exact Int.natAbs_ediv_le_natAbs a b
  omega
end L2
namespace L2
open PySem PySem.Spec PyProof.Rows
def Itv (K:PySem.W.Frag) (a:Addr) (xs:List V):It:=⟨fun i H=>i < xs.length∧SqL K H a xs,fun i H x H'=>H'=H∧xs[xs.length - 1 - i]?=some x,fun i _=>xs.length≤i⟩
def iRev (K:PySem.W.Frag) (ta:TA):TI:=fun σ H R=>ta σ H fun vs H1=>∃ a xs,vs=[.ref a]∧SqL K H1 a xs∧R (Itv K a xs) H1
section
variable {X:Cx} {tg:Expr}
end
section
variable {σ:St} {H:Hp} {nx:St→Hp→Prop} {B:V→St→Hp→(St→Hp→Prop)→Prop}
end
end L2
namespace L2
open PySem PySem.Spec PyProof.Rows
abbrev cLst (K:PySem.W.Frag):RC:=fun xs H Q=>∃ p ys,xs=[.ref p]∧(SqL K H p ys∨SqT K H p ys)∧∀ l,H l=none→Q (.ref l) (upd H l (.lst ys))
abbrev cMin:RC:=fun xs H Q=>∃ i j,xs=[.int i,.int j]∧Q (.int (if j < i then j else i)) H
def inL (c:Nat):Bool:=!(Builtin.Str.occurrences "abcdefghijklmnopqrstuvwxyz" ⟨#[c]⟩ 0 (Str.length "abcdefghijklmnopqrstuvwxyz") 1).isEmpty
def wl:List V:=[.str "take",.str "give",.str "let",.str "say",.str "off",.str "if",.str "else",.str "end",.str "as"]
def isName (x:Str):Bool:=!(decide (x="") || decide (6 < x.length)) && !(inV (.str x) jw || inV (.str x) wl) && x.cps.toList.all inL
theorem inL_iff (c:Nat):inL c=true→97≤c∧c≤122:=by
  unfold inL
  rw [StrLaws.found_one]
  have e:(Str.ofString "abcdefghijklmnopqrstuvwxyz").cps.toList=[97,98,99,100,101,102,103,104,105,106,107,108,109,110,111,112,113,114,115,116,117,118,119,120,121,122]:=by decide +kernel
  rw [e]
  simp only [decide_eq_true_eq,List.mem_cons,List.not_mem_nil,or_false]
  omega
theorem isName_parts {x:Str} (h:isName x=true):x.cps.toList≠[]∧x.length≤6∧isJ (.str x)=false∧x.cps.toList.all inL=true:=by
  unfold isName at h
  rw [Bool.and_eq_true,Bool.and_eq_true,Bool.not_eq_true',Bool.not_eq_true',Bool.or_eq_false_iff,Bool.or_eq_false_iff,decide_eq_false_iff_not,decide_eq_false_iff_not] at h
  refine ⟨fun z=>h.1.1.1 (str_ext (by rw [z];decide +kernel)),by omega,h.1.2.1,h.2⟩
def partW (w:Str):Option V:=if isName w=true then some (.str w) else if isNum w=true then some (.int (valOf w)) else none
inductive Tw where
  | leaf (w:Str) | node (w:Str) (a b:Tw)
def pre:Tw→List Str
  | .leaf w=>[w]
  | .node w a b=>w :: (pre a ++ pre b)
def wfT:Tw→Prop
  | .leaf w=>isJ (.str w)=false
  | .node w a b=>isJ (.str w)=true∧wfT a∧wfT b
def okT:Tw→Bool
  | .leaf w=>(partW w).isSome
  | .node _ a b=>okT a && okT b
def pvw (w:Str):V:=(partW w).getD (.str w)
def pst:Tw→List V
  | .leaf w=>[pvw w]
  | .node w a b=>pst a ++ pst b ++ [.str w]
def scanE:List Str→Nat→Option Nat
  | _,0=>some 0
  | [],_ + 1=>none
  | w :: r,d + 1=>(scanE r (if isJ (.str w)=true then d + 2 else d)).map (· + 1)
def stepR (st:List (List V)) (w:Str):Except Bool (List (List V)) :=
  if isJ (.str w)=true then (match st.reverse with | a :: b :: r=>.ok (r.reverse ++ [a ++ b ++ [.str w]]) | _=>.error false) else (match partW w with | some v=>.ok (st ++ [[v]]) | none=>.error true)
def runR:List Str→List (List V)→Except Bool (List (List V))
  | [],st=>.ok st
  | w :: r,st=>match stepR st w with | .ok st'=>runR r st' | .error e=>.error e
theorem runR_app:∀ (p q:List Str) (st:List (List V)),runR (p ++ q) st=match runR p st with | .ok st'=>runR q st' | .error e=>.error e
  | [],q,st=>rfl
  | v :: r,q,st=>by
    show (match stepR st v with | .ok st'=>runR (r ++ q) st' | .error e=>.error e)=match (match stepR st v with | .ok st'=>runR r st' | .error e=>.error e) with | .ok st'=>runR q st' | .error e=>.error e
    cases stepR st v with
    | error e=>rfl
    | ok st'=>exact runR_app r q st'
end L2
namespace L2
open PySem PySem.Spec PyProof.Rows
abbrev cDct:RC:=fun xs H Q=>∃ a kvs,xs=[.ref a]∧H a=some (.dK kvs)∧∀ p,H p=none→Q (.ref p) (upd H p (.dK kvs))
abbrev rNeD:R2:=fun x y H Q=>∃ a b kvs,x=.ref a∧y=.ref b∧H a=some (.dK kvs)∧H b=some (.dK kvs)∧(∀ p∈kvs,∃ i,p.2=V.int i)∧Q (.bl false) H
section
variable {X:Cx}
end
theorem name_asc {x:Str} (h:isName x=true):Asc x:=fun c hc=>by
  have:=inL_iff c (List.all_eq_true.mp (isName_parts h).2.2.2 c hc)
  omega
end L2
namespace L2
open PySem PySem.Spec PyProof.Rows
section
variable {P:Program} {w:World} {A:Around} {E:Value→Shared→Prop} {s:Shared}
end
section
variable {P:Program} {w:World} {A:Around} {E:Value→Shared→Prop} {s:Shared}
end
section
variable {P:Program} {w:World} {A:Around} {E:Value→Shared→Prop} {s:Shared}
end
def Itz (K:PySem.W.Frag) (p q:Addr) (xs ys:List V):It:=⟨fun i H=>i < xs.length∧SqT K H p xs∧SqT K H q ys,fun i H x H'=>∃ T u v,x=.ref T∧H T=none∧H'=upd H T (.tup [u,v])∧xs[i]?=some u∧ys[i]?=some v,fun i H=>xs.length≤i∧SqT K H p xs∧SqT K H q ys⟩
def iZip (K:PySem.W.Frag) (ta:TA):TI:=fun σ H R=>ta σ H fun vs H1=>∃ p q xs ys,vs=[.ref p,.ref q]∧SqT K H1 p xs∧SqT K H1 q ys∧xs.length=ys.length∧R (Itz K p q xs ys) H1
section
variable {X:Cx}
end
section
variable {σ:St} {H:Hp} {nx:St→Hp→Prop} {B:V→St→Hp→(St→Hp→Prop)→Prop}
end
abbrev cTup (K:PySem.W.Frag):RC:=fun xs H Q=>∃ p ys,xs=[.ref p]∧((SqL K H p ys∧∀ l,H l=none→Q (.ref l) (upd H l (.tup ys)))∨(SqT K H p ys∧Q (.ref p) H))
def stepA (st:List (List V)) (v:V):Option (List (List V)):=if isJ v=true then (match st.reverse with | b :: a :: r=>some (r.reverse ++ [v :: (a ++ b)]) | _=>none) else some (st ++ [[v]])
def runA:List V→List (List V)→Option (List (List V))
  | [],st=>some st
  | v :: r,st=>(stepA st v).bind (runA r)
theorem runA_app:∀ (p q:List V) (st:List (List V)),runA (p ++ q) st=(runA p st).bind (runA q)
  | [],q,st=>rfl
  | v :: r,q,st=>by
    show (stepA st v).bind (runA (r ++ q))=((stepA st v).bind (runA r)).bind (runA q)
    cases stepA st v with
    | none=>rfl
    | some st'=>exact runA_app r q st'
end L2
namespace L2
open PySem PySem.W PyProof.Rows
section
variable {α β:Type} {lt:Nat→Nat→Bool} {n:Nat}
def kOk (lt:Nat→Nat→Bool) (n:Nat):KasT α→(α→Prop)→Prop
  | .ret a,R=>R a
  | .ask i j k,R=>i < n∧j < n∧i≠j∧kOk lt n (k (lt i j)) R
theorem kOk_bind:∀ {t:KasT α} {f:α→KasT β} {R:β→Prop},kOk lt n t (fun a=>kOk lt n (f a) R)→kOk lt n (t.bind f) R
  | .ret _,_,_,h=>h
  | .ask _ _ _,_,_,h=>⟨h.1,h.2.1,h.2.2.1,kOk_bind h.2.2.2⟩
theorem kOk_mono:∀ {t:KasT α} {R R':α→Prop},kOk lt n t R→(∀ a,R a→R' a)→kOk lt n t R'
  | .ret _,_,_,h,m=>m _ h
  | .ask _ _ _,_,_,h,m=>⟨h.1,h.2.1,h.2.2.1,kOk_mono h.2.2.2 m⟩
structure SO (lt:Nat→Nat→Bool) (n:Nat):Prop where
  irr:∀ i,i < n→lt i i=false
  trans:∀ i j k,i < n→j < n→k < n→lt i j=true→lt j k=true→lt i k=true
  tot:∀ i j,i < n→j < n→i≠j→lt i j=false→lt j i=true
def PP (n:Nat) (p:Array Nat):Prop:=p.Perm (List.range n).toArray
def gt (p:Array Nat) (k:Nat):Nat:=p.getD k 0
theorem gt_eq {p:Array Nat} {k:Nat} (h:k < p.size):p[k]?=some (gt p k):=by
  unfold gt
  rw [Array.getD_eq_getD_getElem?,Array.getElem?_eq_getElem h]
  rfl
theorem PP.size {p:Array Nat} (h:PP n p):p.size=n:=by
  have:=h.size_eq
  simpa using this
theorem PP.blt {p:Array Nat} (h:PP n p) {k:Nat} (hk:k < n):gt p k < n:=by
  have hs:=h.size
  have m:gt p k∈p:=Array.mem_of_getElem? (gt_eq (by omega))
  have m2:gt p k∈(List.range n).toArray:=(Array.Perm.mem_iff h).mp m
  simpa using m2
theorem PP.inj {p:Array Nat} (h:PP n p) {i j:Nat} (hi:i < n) (hj:j < n) (e:gt p i=gt p j):i=j:=by
  have hs:=h.size
  have nd:p.toList.Nodup:=by
    have:p.toList.Perm (List.range n):=by
      have:=Array.perm_iff_toList_perm.mp h
      simpa using this
    exact this.nodup_iff.mpr List.nodup_range
  have e1:=gt_eq (p:=p) (k:=i) (by omega)
  have e2:=gt_eq (p:=p) (k:=j) (by omega)
  rw [← e] at e2
  have e1':p.toList[i]?=some (gt p i):=by simpa using e1
  have e2':p.toList[j]?=some (gt p i):=by simpa using e2
  obtain ⟨a1,b1⟩:=List.getElem?_eq_some_iff.mp e1'
  obtain ⟨a2,b2⟩:=List.getElem?_eq_some_iff.mp e2'
  exact (List.getElem_inj nd).mp (b1.trans b2.symm)
def Rise (lt:Nat→Nat→Bool) (p:Array Nat) (m:Nat):Prop:=∀ i j,i < j→j < m→lt (gt p i) (gt p j)=true
theorem place_ok (S:SO lt n) {p:Array Nat} (hp:PP n p) {k:Nat} (hk:k < n) (hr:Rise lt p k):∀ (f l r:Nat),l≤r→r≤k→r - l≤f→(∀ i,i < l→lt (gt p i) (gt p k)=true)→(∀ i,r≤i→i < k→lt (gt p k) (gt p i)=true) →
    kOk lt n (kas_place p k f l r) fun m=>m≤k∧(∀ i,i < m→lt (gt p i) (gt p k)=true)∧∀ i,m≤i→i < k→lt (gt p k) (gt p i)=true
  | 0,l,r,h1,h2,h3,h4,h5=>⟨by omega,h4,fun i hi hik=>h5 i (by omega) hik⟩
  | f + 1,l,r,h1,h2,h3,h4,h5=>by
    unfold kas_place
    by_cases c:l ≥ r
    · rw [if_pos c]
      exact ⟨by omega,h4,fun i hi hik=>h5 i (by omega) hik⟩
    · rw [if_neg c]
      refine ⟨hp.blt (by omega),hp.blt (by omega),(fun z=>by have:=hp.inj (by omega) (by omega) z;omega),?_⟩
      show kOk lt n (if lt (gt p k) (gt p ((l + r) / 2))=true then _ else _) _
      by_cases d:lt (gt p k) (gt p ((l + r) / 2))=true
      · rw [if_pos d]
        refine place_ok S hp hk hr f l ((l + r) / 2) (by omega) (by omega) (by omega) h4 fun i hi hik=>?_
        by_cases e:i=(l + r) / 2
        · rw [e];exact d
        · exact S.trans _ _ _ (hp.blt (by omega)) (hp.blt (by omega)) (hp.blt (by omega)) d (hr _ i (by omega) hik)
      · rw [if_neg d]
        have up:lt (gt p ((l + r) / 2)) (gt p k)=true:=S.tot _ _ (hp.blt (by omega)) (hp.blt (by omega)) (fun z=>by have:=hp.inj (by omega) (by omega) z;omega) (Bool.eq_false_iff.mpr d)
        refine place_ok S hp hk hr f ((l + r) / 2 + 1) r (by omega) (by omega) (by omega) (fun i hi=>?_) h5
        by_cases e:i=(l + r) / 2
        · rw [e];exact up
        · exact S.trans _ _ _ (hp.blt (by omega)) (hp.blt (by omega)) (hp.blt (by omega)) (hr i _ (by omega) (by omega)) up
theorem bub_gt {p:Array Nat} {k d j:Nat} (hk:k < p.size) (hd:d≤k) (hj:j < p.size):gt (bubble p k d) j=if j=k - d then gt p k else if k - d < j∧j≤k then gt p (j - 1) else gt p j:=by
  have e:=getElem?_bubble hk d hd j
  rw [gt_eq (p:=bubble p k d) (k:=j) (by rw [bubble_size];exact hj)] at e
  by_cases h1:j=k - d
  · rw [if_pos h1,gt_eq hk] at e
    rw [if_pos h1];exact Option.some.inj e
  · rw [if_neg h1] at e ⊢
    by_cases h2:k - d < j∧j≤k
    · rw [if_pos h2,gt_eq (by omega)] at e
      rw [if_pos h2];exact Option.some.inj e
    · rw [if_neg h2,gt_eq hj] at e
      rw [if_neg h2];exact Option.some.inj e
end
end L2
namespace L2
open PySem PySem.W PyProof.Rows
abbrev SMZ:=StateT SortSt Sem
def gallopGZ:Bool→Keyed→Array Keyed→Nat→Nat→Nat→SMZ (Option Nat):=sortPriv% PySem.Builtin.gallop
def mergeLoGZ:Array Keyed→Array Keyed→SMZ (Array Keyed):=sortPriv% PySem.Builtin.mergeLo
def mergeHiGZ:Array Keyed→Array Keyed→SMZ (Array Keyed):=sortPriv% PySem.Builtin.mergeHi
def setGalZ (g:Nat):SMZ Unit:=(sortPriv% PySem.Builtin.setMinGallop) g
def beyFZ (left:Bool) (key:Keyed) (arr:Array Keyed) (base:Nat) (i:Nat):SMZ (Option Bool):=do
  let x ← elem' arr (base + i)
  if left then lt' x key else return (← lt' key x).map (!·)
def gBZ (bf:Nat→SMZ (Option Bool)) (n lo hi:Nat):SMZ (Option (Option Nat) × Nat × Nat) :=
  forIn [:n] (none,lo,hi) fun _ z=>if z.2.1 ≥ z.2.2 then pure (.done (none,z.2.1,z.2.2)) else do
    match ← bf (z.2.1 + (z.2.2 - z.2.1) / 2) with
    | some m=>if m=true then pure (.yield (none,z.2.1 + (z.2.2 - z.2.1) / 2 + 1,z.2.2)) else pure (.yield (none,z.2.1,z.2.1 + (z.2.2 - z.2.1) / 2))
    | _=>pure (.done (some none,z.2.1,z.2.2))
def gEZ (bf:Nat→SMZ (Option Bool)) (n lo hi:Nat):SMZ (Option Nat):=do
  let z ← gBZ bf n lo hi
  match z.1 with
  | some r=>pure r
  | none=>pure (some z.2.2)
def gRZ (bf:Nat→SMZ (Option Bool)) (n hint mx:Nat):SMZ (Option (Option Nat) × Nat × Nat) :=
  forIn [:n] (none,0,1) fun _ z=>if z.2.2 ≥ mx then pure (.done (none,z.2.1,z.2.2)) else do
    match ← bf (hint + z.2.2) with
    | some m=>if (!m)=true then pure (.done (none,z.2.1,z.2.2)) else pure (.yield (none,z.2.2,2 * z.2.2 + 1))
    | _=>pure (.done (some none,z.2.1,z.2.2))
def gLZ (bf:Nat→SMZ (Option Bool)) (n hint mx:Nat):SMZ (Option (Option Nat) × Nat × Nat) :=
  forIn [:n] (none,0,1) fun _ z=>if z.2.2 ≥ mx then pure (.done (none,z.2.1,z.2.2)) else do
    match ← bf (hint - z.2.2) with
    | some m=>if m=true then pure (.done (none,z.2.1,z.2.2)) else pure (.yield (none,z.2.2,2 * z.2.2 + 1))
    | _=>pure (.done (some none,z.2.1,z.2.2))
def galFZ (bf:Nat→SMZ (Option Bool)) (n hint:Nat):SMZ (Option Nat):=do
  match ← bf hint with
  | some r=>if r=true then (do
      let z ← gRZ bf n hint (n - hint)
      match z.1 with
      | some r=>pure r
      | none=>gEZ bf n (hint + z.2.1 + 1) (hint + min z.2.2 (n - hint))) else (do
      let z ← gLZ bf n hint (hint + 1)
      match z.1 with
      | some r=>pure r
      | none=>gEZ bf n (hint + 1 - min z.2.2 (hint + 1)) (hint - z.2.1))
  | _=>pure none
theorem gallopG_eqZ (left:Bool) (key:Keyed) (arr:Array Keyed) (base n hint:Nat):gallopGZ left key arr base n hint=galFZ (beyFZ left key arr base) n hint:=by
  have tl:∀ (lo hi:Nat) (f:Option (Option Nat) × Nat × Nat→SMZ (Option Nat)),(∀ z,f z=match z.1 with | some r=>pure r | none=>pure (some z.2.2))→(gBZ (beyFZ left key arr base) n lo hi >>= f)=gEZ (beyFZ left key arr base) n lo hi:=fun lo hi f h=>by
    unfold gEZ
    congr 1
    exact funext h
  unfold galFZ
  show bind _ _=bind _ _
  congr 1
  funext z
  cases z with
  | none=>rfl
  | some r =>
    show ite _ _ _=ite _ _ _
    congr 1
    · show bind _ _=bind _ _
      congr 1
      funext z
      obtain ⟨z1,z2,z3⟩:=z
      cases z1 with
      | some r=>rfl
      | none =>
        refine tl _ _ _ fun z=>?_
        obtain ⟨z1,z2,z3⟩:=z
        cases z1 <;> rfl
    · show bind _ _=bind _ _
      congr 1
      funext z
      obtain ⟨z1,z2,z3⟩:=z
      cases z1 with
      | some r=>rfl
      | none =>
        refine tl _ _ _ fun z=>?_
        obtain ⟨z1,z2,z3⟩:=z
        cases z1 <;> rfl
section
variable {prog:Program} {w:World} {A:Around} {E:Value→Shared→Prop} {s:Shared}
def AsksZ (M:Model) (A:Around) (E:Value→Shared→Prop) (s:Shared) (st:SortSt) (bf:Nat→SMZ (Option Bool)) (b:Nat→Bool) (n:Nat):Prop:=∀ i,i < n→∀ Q:Option Bool→SortSt→Prop,Q (some (b i)) st→wpS M A E s (bf i) Q st
structure CutZ (b:Nat→Bool) (n k:Nat):Prop where
  le:k≤n
  lo:∀ i,i < k→b i=true
  hi:∀ i,k≤i→i < n→b i=false
variable {M:Model} {st:SortSt} {bf:Nat→SMZ (Option Bool)} {b:Nat→Bool} {n:Nat}
theorem wpS_gEZ {lo hi:Nat} {Q:Option Nat→SortSt→Prop} (ha:AsksZ M A E s st bf b n) (mono:∀ i j,i≤j→j < n→b j=true→b i=true) (h1:lo≤hi) (h2:hi≤n) (hl:∀ i,i < lo→b i=true) (hh:∀ i,hi≤i→i < n→b i=false) (q:∀ k,CutZ b n k→Q (some k) st) :
    wpS M A E s (gEZ bf n lo hi) Q st:=by
  unfold gEZ
  refine wpS_bind (wpS_mono (show wpS M A E s (gBZ bf n lo hi) (fun z st'=>st=st'∧z.1=none∧CutZ b n z.2.2) st from ?_) ?_)
  · unfold gBZ
    refine wpS_forRange (fun x z st'=>st=st'∧z.1=none∧z.2.1≤z.2.2∧z.2.2≤n∧(∀ i,i < z.2.1→b i=true)∧(∀ i,z.2.2≤i→i < n→b i=false)∧z.2.2 - z.2.1≤n - x) ?_ ?_ ⟨rfl,rfl,h1,h2,hl,hh,by dsimp only;omega⟩
    · rintro x ⟨r,l,h⟩ st' _ hx ⟨rfl,rfl,a1,a2,a3,a4,a5⟩
      dsimp only at *
      by_cases c:l ≥ h
      · rw [if_pos c]
        exact wpS_pure ⟨rfl,rfl,a2,fun i hi=>a3 i (by dsimp only at hi;omega),a4⟩
      · rw [if_neg c]
        refine wpS_bind (ha _ (by omega) _ ?_)
        dsimp only
        cases e:b (l + (h - l) / 2) with
        | true =>
          rw [if_pos rfl]
          refine wpS_pure ⟨rfl,rfl,by dsimp only;omega,a2,fun i hi=>?_,a4,by dsimp only;omega⟩
          dsimp only at hi
          exact mono i _ (by omega) (by omega) e
        | false =>
          rw [if_neg (by decide)]
          refine wpS_pure ⟨rfl,rfl,by dsimp only;omega,by dsimp only;omega,a3,fun i h1 h2=>?_,by dsimp only;omega⟩
          dsimp only at h1
          cases e2:b i with
          | false=>rfl
          | true=>rw [mono _ i h1 h2 e2] at e;cases e
    · rintro ⟨r,l,h⟩ st' ⟨rfl,rfl,a1,a2,a3,a4,a5⟩
      dsimp only at *
      have:max 0 n=n:=by omega
      exact ⟨rfl,rfl,a2,fun i hi=>a3 i (by omega),a4⟩
  · rintro ⟨r,l,h⟩ st' ⟨rfl,rfl,c⟩
    exact wpS_pure (q _ c)
theorem wpS_galFZ {hint:Nat} {Q:Option Nat→SortSt→Prop} (ha:AsksZ M A E s st bf b n) (mono:∀ i j,i≤j→j < n→b j=true→b i=true) (hn:hint < n) (q:∀ k,CutZ b n k→Q (some k) st) :
    wpS M A E s (galFZ bf n hint) Q st:=by
  unfold galFZ
  refine wpS_bind (ha _ hn _ ?_)
  dsimp only
  cases e:b hint with
  | true =>
    rw [if_pos rfl]
    refine wpS_bind (wpS_mono (show wpS M A E s (gRZ bf n hint (n - hint)) (fun z st'=>st=st'∧z.1=none∧hint + z.2.1 < n∧b (hint + z.2.1)=true∧z.2.1 < z.2.2∧(z.2.2 < n - hint→b (hint + z.2.2)=false)) st from ?_) ?_)
    · unfold gRZ
      refine wpS_forRange (fun x z st'=>st=st'∧z.1=none∧hint + z.2.1 < n∧b (hint + z.2.1)=true∧z.2.1 < z.2.2∧x < z.2.2) ?_ ?_ ⟨rfl,rfl,hn,by simpa using e,by dsimp only;omega,by dsimp only;omega⟩
      · rintro x ⟨r,l,o⟩ st' _ hx ⟨rfl,rfl,a1,a2,a3,a4⟩
        dsimp only at *
        by_cases c:o ≥ n - hint
        · rw [if_pos c]
          exact wpS_pure ⟨rfl,rfl,a1,a2,a3,fun z=>by dsimp only at z;omega⟩
        · rw [if_neg c]
          refine wpS_bind (ha _ (by omega) _ ?_)
          dsimp only
          cases e2:b (hint + o) with
          | true =>
            rw [if_neg (by decide)]
            exact wpS_pure ⟨rfl,rfl,by dsimp only;omega,e2,by dsimp only;omega,by dsimp only;omega⟩
          | false =>
            rw [if_pos (by decide)]
            exact wpS_pure ⟨rfl,rfl,a1,a2,a3,fun _=>e2⟩
      · rintro ⟨r,l,o⟩ st' ⟨rfl,rfl,a1,a2,a3,a4⟩
        dsimp only at *
        exact ⟨rfl,rfl,a1,a2,a3,fun z=>by omega⟩
    · rintro ⟨r,l,o⟩ st' ⟨rfl,rfl,a1,a2,a3,a4⟩
      dsimp only at *
      refine wpS_gEZ ha mono (by omega) (by omega) (fun i hi=>mono i _ (by omega) a1 a2) (fun i h1 h2=>?_) q
      have f:=a4 (by omega)
      cases e2:b i with
      | false=>rfl
      | true=>rw [mono (hint + o) i (by omega) h2 e2] at f;cases f
  | false =>
    rw [if_neg (by decide)]
    refine wpS_bind (wpS_mono (show wpS M A E s (gLZ bf n hint (hint + 1)) (fun z st'=>st=st'∧z.1=none∧z.2.1≤hint∧b (hint - z.2.1)=false∧z.2.1 < z.2.2∧(z.2.2 < hint + 1→b (hint - z.2.2)=true)) st from ?_) ?_)
    · unfold gLZ
      refine wpS_forRange (fun x z st'=>st=st'∧z.1=none∧z.2.1≤hint∧b (hint - z.2.1)=false∧z.2.1 < z.2.2∧x < z.2.2) ?_ ?_ ⟨rfl,rfl,by dsimp only;omega,by simpa using e,by dsimp only;omega,by dsimp only;omega⟩
      · rintro x ⟨r,l,o⟩ st' _ hx ⟨rfl,rfl,a1,a2,a3,a4⟩
        dsimp only at *
        by_cases c:o ≥ hint + 1
        · rw [if_pos c]
          exact wpS_pure ⟨rfl,rfl,a1,a2,a3,fun z=>by dsimp only at z;omega⟩
        · rw [if_neg c]
          refine wpS_bind (ha _ (by omega) _ ?_)
          dsimp only
          cases e2:b (hint - o) with
          | false =>
            rw [if_neg (by decide)]
            exact wpS_pure ⟨rfl,rfl,by dsimp only;omega,e2,by dsimp only;omega,by dsimp only;omega⟩
          | true =>
            rw [if_pos rfl]
            exact wpS_pure ⟨rfl,rfl,a1,a2,a3,fun _=>e2⟩
      · rintro ⟨r,l,o⟩ st' ⟨rfl,rfl,a1,a2,a3,a4⟩
        dsimp only at *
        exact ⟨rfl,rfl,a1,a2,a3,fun z=>by omega⟩
    · rintro ⟨r,l,o⟩ st' ⟨rfl,rfl,a1,a2,a3,a4⟩
      dsimp only at *
      refine wpS_gEZ ha mono (by omega) (by omega) (fun i hi=>?_) (fun i h1 h2=>?_) q
      · by_cases c:o < hint + 1
        · exact mono i _ (by omega) (by omega) (a4 c)
        · omega
      · cases e2:b i with
        | false=>rfl
        | true=>rw [mono (hint - l) i (by omega) h2 e2] at a2;cases a2
end
def imZ (it:Nat→Keyed) (p:List Nat):Array Keyed:=(p.map it).toArray
section
variable {it:Nat→Keyed}
theorem im_sizeZ (p:List Nat):(imZ it p).size=p.length:=by simp [imZ]
theorem im_getZ {p:List Nat} {i x:Nat} (h:p[i]?=some x):(imZ it p)[i]?=some (it x):=by simp [imZ,h]
theorem im_pushZ (p:List Nat) (x:Nat):(imZ it p).push (it x)=imZ it (p ++ [x]):=by simp [imZ]
theorem im_appZ (p q:List Nat):imZ it p ++ imZ it q=imZ it (p ++ q):=by simp [imZ]
theorem im_extZ (p:List Nat) (i j:Nat):(imZ it p).extract i j=imZ it ((p.drop i).take (j - i)):=by simp [imZ,List.map_take,List.map_drop]
theorem im_fromZ (p:List Nat) (i:Nat):(imZ it p).extract i (imZ it p).size=imZ it (p.drop i):=by
  rw [im_extZ,im_sizeZ,List.take_of_length_le (by rw [List.length_drop];omega)]
end
theorem im_fromLZ {it:Nat→Keyed} (p:List Nat) (i:Nat):(imZ it p).extract i p.length=imZ it (p.drop i):=by
  rw [im_extZ,List.take_of_length_le (by rw [List.length_drop];omega)]
structure MIZ (lt:Nat→Nat→Bool) (a b o P Q:List Nat):Prop where
  so:o.Pairwise fun x y=>lt x y=true
  pe:(o ++ P ++ Q).Perm (a ++ b)
  be:∀ x∈o,∀ y∈P ++ Q,lt x y=true
  sp:P.Pairwise fun x y=>lt x y=true
  sq:Q.Pairwise fun x y=>lt x y=true
structure ResZ (lt:Nat→Nat→Bool) (a b m:List Nat):Prop where
  pe:m.Perm (a ++ b)
  so:m.Pairwise fun x y=>lt x y=true
section
variable {lt:Nat→Nat→Bool} {a b o P Q c:List Nat}
theorem MIZ.left (h:MIZ lt a b o (c ++ P) Q) (k:∀ x∈c,∀ y∈Q,lt x y=true):MIZ lt a b (o ++ c) P Q:=by
  have sp:=List.pairwise_append.mp h.sp
  refine ⟨List.pairwise_append.mpr ⟨h.so,sp.1,fun x hx y hy=>h.be x hx y (by simp [hy])⟩,?_,fun x hx y hy=>?_,sp.2.1,h.sq⟩
  · have:=h.pe
    simpa [List.append_assoc] using this
  · rcases List.mem_append.mp hx with hx | hx
    · exact h.be x hx y (by rcases List.mem_append.mp hy with hy | hy <;> simp [hy])
    · rcases List.mem_append.mp hy with hy | hy
      · exact sp.2.2 x hx y hy
      · exact k x hx y hy
theorem MIZ.right (h:MIZ lt a b o P (c ++ Q)) (k:∀ x∈c,∀ y∈P,lt x y=true):MIZ lt a b (o ++ c) P Q:=by
  have sq:=List.pairwise_append.mp h.sq
  refine ⟨List.pairwise_append.mpr ⟨h.so,sq.1,fun x hx y hy=>h.be x hx y (by simp [hy])⟩,?_,fun x hx y hy=>?_,h.sp,sq.2.1⟩
  · refine List.Perm.trans ?_ h.pe
    rw [List.append_assoc,List.append_assoc,List.append_assoc]
    refine List.Perm.append_left _ ?_
    rw [← List.append_assoc,← List.append_assoc]
    exact List.Perm.append_right _ List.perm_append_comm
  · rcases List.mem_append.mp hx with hx | hx
    · exact h.be x hx y (by rcases List.mem_append.mp hy with hy | hy <;> simp [hy])
    · rcases List.mem_append.mp hy with hy | hy
      · exact k x hx y hy
      · exact sq.2.2 x hx y hy
theorem MIZ.len (h:MIZ lt a b o P Q):o.length + P.length + Q.length=a.length + b.length:=by
  have:=h.pe.length_eq
  simp only [List.length_append] at this
  omega
theorem MIZ.end (h:MIZ lt a b o P Q) (k:∀ x∈P,∀ y∈Q,lt x y=true):ResZ lt a b (o ++ P ++ Q) :=
  ⟨h.pe,List.pairwise_append.mpr ⟨List.pairwise_append.mpr ⟨h.so,h.sp,fun x hx y hy=>h.be x hx y (by simp [hy])⟩,h.sq,fun x hx y hy=>by
    rcases List.mem_append.mp hx with hx | hx
    · exact h.be x hx y (by simp [hy])
    · exact k x hx y hy⟩⟩
theorem MIZ.end' (h:MIZ lt a b o P Q) (k:∀ x∈Q,∀ y∈P,lt x y=true):ResZ lt a b (o ++ Q ++ P):=by
  refine ⟨?_,List.pairwise_append.mpr ⟨List.pairwise_append.mpr ⟨h.so,h.sq,fun x hx y hy=>h.be x hx y (by simp [hy])⟩,h.sp,fun x hx y hy=>?_⟩⟩
  · refine List.Perm.trans ?_ h.pe
    rw [List.append_assoc,List.append_assoc]
    exact List.Perm.append_left _ List.perm_append_comm
  · rcases List.mem_append.mp hx with hx | hx
    · exact h.be x hx y (by simp [hy])
    · exact k x hx y hy
theorem MIZ.start (ha:a.Pairwise fun x y=>lt x y=true) (hb:b.Pairwise fun x y=>lt x y=true):MIZ lt a b [] a b:=⟨.nil,by simp,(fun x h=>nomatch h),ha,hb⟩
end
section
variable {prog:Program} {w:World} {A:Around} {E:Value→Shared→Prop} {s:Shared} {κ:SortKind} {it:Nat→Keyed} {lt:Nat→Nat→Bool} {N:Nat}
def CmpAtZ (prog:Program) (w:World) (A:Around) (s:Shared) (κ:SortKind) (it:Nat→Keyed) (lt:Nat→Nat→Bool) (N:Nat):Prop:=∀ i j (C:Bool→Shared→Prop),i < N→j < N→i≠j→C (lt i j) s→wpAny (model prog w) A (keyLt' κ (it i).1 (it j).1) C (fun _ _=>False) s
structure SteZ (κ:SortKind) (st0 st:SortSt):Prop where
  k:kindOf st=κ
  f:failedOf st=none
  a:arrOf st=arrOf st0
  p:pendingOf st=pendingOf st0
theorem wpS_cmpZ {st:SortSt} {i j:Nat} {Q:Option Bool→SortSt→Prop} (hc:CmpAtZ prog w A s κ it lt N) (hk:kindOf st=κ) (hi:i < N) (hj:j < N) (hij:i≠j) (q:Q (some (lt i j)) st):wpS (model prog w) A E s (lt' (it i) (it j)) Q st:=by
  rw [lt'_eq]
  refine wpS_bind (wpS_get ?_)
  rw [hk]
  refine wpS_bind (wpS_lift (wpAny_attempt (wpAny_mono (hc i j (fun b s'=>s'=s∧b=lt i j) hi hj hij ⟨rfl,rfl⟩) (fun b s' h=>?_) fun _ _ h=>h.elim)))
  obtain ⟨rfl,rfl⟩:=h
  exact ⟨rfl,wpS_pure q⟩
theorem wpS_elemZ {M:Model} {st:SortSt} {arr:Array Keyed} {i:Nat} {x:Keyed} {Q:Keyed→SortSt→Prop} (h:arr[i]?=some x) (q:Q x st):wpS M A E s (elem' arr i) Q st:=by
  rw [elem'_eq,h]
  exact wpS_pure q
theorem lt_flipZ (S:SO lt N) {i j:Nat} (hi:i < N) (hj:j < N) (hij:i≠j):(!lt i j)=lt j i:=by
  cases e:lt i j with
  | false=>rw [S.tot i j hi hj hij e];rfl
  | true =>
    cases e2:lt j i with
    | false=>rfl
    | true =>
      have:=S.trans i j i hi hj hi e e2
      rw [S.irr i hi] at this;cases this
theorem wpS_gallopZ {st:SortSt} {left:Bool} {kx base n hint:Nat} {a:List Nat} {Q:Option Nat→SortSt→Prop} (S:SO lt N) (hc:CmpAtZ prog w A s κ it lt N) (hk:kindOf st=κ) (kN:kx < N) (h1:∀ x∈(a.drop base).take n,x < N∧x≠kx) (srt:((a.drop base).take n).Pairwise fun x y=>lt x y=true) (len:base + n≤a.length) (hh:hint < n)
    (q:∀ k,k≤n→(∀ x∈(a.drop base).take k,lt x kx=true)→(∀ x∈((a.drop base).take n).drop k,lt kx x=true)→Q (some k) st) :
    wpS (model prog w) A E s (gallopGZ left (it kx) (imZ it a) base n hint) Q st:=by
  rw [gallopG_eqZ]
  have g:∀ i,i < n→∃ x,a[base + i]?=some x∧x < N∧x≠kx∧((a.drop base).take n)[i]?=some x:=fun i hi=>by
    have e:a[base + i]?=some a[base + i]:=List.getElem?_eq_getElem (by omega)
    have e2:((a.drop base).take n)[i]?=some a[base + i]:=by rw [List.getElem?_take_of_lt hi,List.getElem?_drop,e]
    exact ⟨_,e,(h1 _ (List.mem_of_getElem? e2)).1,(h1 _ (List.mem_of_getElem? e2)).2,e2⟩
  refine wpS_galFZ (b:=fun i=>lt (a.getD (base + i) 0) kx) (fun i hi Q' q'=>?_) (fun i j hij hj hb=>?_) hh fun k c=>?_
  · obtain ⟨x,e,xN,xk,_⟩:=g i hi
    have ed:a.getD (base + i) 0=x:=by rw [List.getD_eq_getElem?_getD,e];rfl
    dsimp only at q'
    rw [ed] at q'
    unfold beyFZ
    refine wpS_bind (wpS_elemZ (im_getZ e) ?_)
    cases left with
    | true =>
      rw [if_pos rfl]
      exact wpS_cmpZ hc hk xN kN xk q'
    | false =>
      rw [if_neg (by decide)]
      refine wpS_bind (wpS_cmpZ hc hk kN xN (Ne.symm xk) (wpS_pure ?_))
      show Q' (some (!lt kx x)) st
      rw [lt_flipZ S kN xN (Ne.symm xk)]
      exact q'
  · obtain ⟨x,e,xN,xk,ex⟩:=g i (by omega)
    obtain ⟨y,e',yN,yk,ey⟩:=g j hj
    have ed:a.getD (base + i) 0=x:=by rw [List.getD_eq_getElem?_getD,e];rfl
    have ed':a.getD (base + j) 0=y:=by rw [List.getD_eq_getElem?_getD,e'];rfl
    rw [ed'] at hb
    rw [ed]
    by_cases c:i=j
    · subst c;rw [e] at e';cases e';exact hb
    · have l:=(List.getElem?_eq_some_iff.mp ex)
      have l':=(List.getElem?_eq_some_iff.mp ey)
      have:=List.pairwise_iff_getElem.mp srt i j l.1 l'.1 (by omega)
      rw [l.2,l'.2] at this
      exact S.trans _ _ _ xN yN kN this hb
  · refine q k c.le (fun x hx=>?_) fun x hx=>?_
    · obtain ⟨i,hi⟩:=List.getElem?_of_mem hx
      have il:=(List.getElem?_eq_some_iff.mp hi).1
      rw [List.length_take] at il
      rw [List.getElem?_take_of_lt (by omega),List.getElem?_drop] at hi
      have:=c.lo i (by omega)
      rw [List.getD_eq_getElem?_getD,hi] at this
      exact this
    · obtain ⟨i,hi⟩:=List.getElem?_of_mem hx
      rw [List.getElem?_drop] at hi
      have il:=(List.getElem?_eq_some_iff.mp hi).1
      have kl:=c.le
      rw [List.length_take,List.length_drop] at il
      obtain ⟨y,e,yN,yk,ey⟩:=g (k + i) (by omega)
      rw [ey] at hi
      cases hi
      have:=c.hi (k + i) (by omega) (by omega)
      rw [List.getD_eq_getElem?_getD,e] at this
      exact S.tot x kx yN kN yk this
end
end L2
namespace L2
open PySem PySem.W PyProof.Rows
section
variable {prog:Program} {w:World} {A:Around} {E:Value→Shared→Prop} {s:Shared} {κ:SortKind} {it:Nat→Keyed} {lt:Nat→Nat→Bool} {N:Nat}
structure MPreZ (lt:Nat→Nat→Bool) (N:Nat) (a b:List Nat):Prop where
  sa:a.Pairwise fun x y=>lt x y=true
  sb:b.Pairwise fun x y=>lt x y=true
  nA:∀ x∈a,x < N
  nB:∀ x∈b,x < N
  dj:∀ x∈a,∀ y∈b,x≠y
  la:0 < a.length
  lb:0 < b.length
  hd:∀ y∈a,lt (b.getD 0 0) y=true
  tl:∀ x∈b,lt x (a.getD (a.length - 1) 0)=true
variable {a b:List Nat}
theorem drop_consZ {l:List Nat} {i x:Nat} (h:l[i]?=some x):l.drop i=[x] ++ l.drop (i + 1):=by
  obtain ⟨hl,rfl⟩:=List.getElem?_eq_some_iff.mp h
  rw [List.drop_eq_getElem_cons hl];rfl
theorem drop_moreZ {l:List Nat} (i k:Nat):l.drop i=(l.drop i).take k ++ l.drop (i + k):=by
  rw [← List.drop_drop,List.take_append_drop]
theorem drop_memZ {l:List Nat} {i x:Nat} (h:x∈l.drop i):x∈l:=List.mem_of_mem_drop h
theorem MPreZ.last (P:MPreZ lt N a b) {ia ib:Nat} (h:ia + 1=a.length):∀ x∈b.drop ib,∀ y∈a.drop ia,lt x y=true:=by
  intro x hx y hy
  have e:a.drop ia=[a.getD (a.length - 1) 0]:=by
    have g:a[ia]?=some a[ia]:=List.getElem?_eq_getElem (by omega)
    rw [drop_consZ g,List.drop_eq_nil_of_le (by omega)]
    have:a.getD (a.length - 1) 0=a[ia]:=by rw [List.getD_eq_getElem?_getD,show a.length - 1=ia by omega,g];rfl
    rw [this];rfl
  rw [e,List.mem_singleton] at hy
  rw [hy]
  exact P.tl x (drop_memZ hx)
theorem head_belowZ (S:SO lt N) {l:List Nat} {i x y:Nat} (sl:l.Pairwise fun x y=>lt x y=true) (nl:∀ x∈l,x < N) (hx:l[i]?=some x) (yN:y < N) (h:lt y x=true):∀ z∈l.drop i,lt y z=true:=by
  intro z hz
  rw [drop_consZ hx] at hz
  rcases List.mem_append.mp hz with hz | hz
  · rw [List.mem_singleton.mp hz];exact h
  · have xl:=List.mem_of_getElem? hx
    refine S.trans y x z yN (nl x xl) (nl z (drop_memZ hz)) h ?_
    obtain ⟨k,hk⟩:=List.getElem?_of_mem hz
    rw [List.getElem?_drop] at hk
    obtain ⟨l1,e1⟩:=List.getElem?_eq_some_iff.mp hx
    obtain ⟨l2,e2⟩:=List.getElem?_eq_some_iff.mp hk
    have:=List.pairwise_iff_getElem.mp sl i (i + 1 + k) l1 l2 (by omega)
    rw [e1,e2] at this
    exact this
structure WayZ (lt:Nat→Nat→Bool) (a b o:List Nat) (ia ib:Nat):Prop where
  m:MIZ lt a b o (a.drop ia) (b.drop ib)
  ha:ia + 1 < a.length
  hb:ib < b.length
theorem WayZ.len {o:List Nat} {ia ib:Nat} (W:WayZ lt a b o ia ib):o.length < a.length + b.length:=by
  have:=W.m.len
  have h1:=W.ha
  have h2:=W.hb
  rw [List.length_drop,List.length_drop] at this
  omega
def FinZ (κ:SortKind) (it:Nat→Keyed) (lt:Nat→Nat→Bool) (a b:List Nat) (st0:SortSt) (r:Option (Array Keyed)) (st:SortSt):Prop:=∃ m,r=some (imZ it m)∧ResZ lt a b m∧SteZ κ st0 st
abbrev LoSZ:=Option (Array Keyed) × Array Keyed × Nat × Nat × Nat × Nat × Nat
def loT2Z (a b:Array Keyed) (mg ac bc:Nat) (out:Array Keyed) (ia ib:Nat):SMZ (ForInStep LoSZ):=do
  let x ← elem' a ia
  if (ia + 1 + 1 == a.size)=true then pure (.done (some (out.push x ++ b.extract ib b.size ++ a.extract (ia + 1) a.size),out.push x,ia + 1,ib,mg,ac,bc))
  else if (decide (ac < 7) && decide (bc < 7))=true then pure (.done (none,out.push x,ia + 1,ib,mg,ac,bc))
  else pure (.yield (none,out.push x,ia + 1,ib,mg,ac,bc))
def loT1Z (a b:Array Keyed) (mg ac bc:Nat) (out:Array Keyed) (ia ib:Nat):SMZ (ForInStep LoSZ):=do
  let x ← elem' b ib
  if (ib + 1 == b.size)=true then pure (.done (some (out.push x ++ a.extract ia a.size ++ b.extract (ib + 1) b.size),out.push x,ia,ib + 1,mg,ac,bc))
  else do
    let y ← elem' a ia
    match ← gallopGZ true y b (ib + 1) (b.size - (ib + 1)) 0 with
    | some k=>if k > 0 then (if (ib + 1 + k == b.size)=true then pure (.done (some (out.push x ++ b.extract (ib + 1) (ib + 1 + k) ++ a.extract ia a.size ++ b.extract (ib + 1 + k) b.size),out.push x ++ b.extract (ib + 1) (ib + 1 + k),ia,ib + 1 + k,mg,ac,k)) else loT2Z a b mg ac k (out.push x ++ b.extract (ib + 1) (ib + 1 + k)) ia (ib + 1 + k)) else loT2Z a b mg ac k (out.push x) ia (ib + 1)
    | _=>pure (.done (some (out.push x ++ a.extract ia a.size ++ b.extract (ib + 1) b.size),out.push x,ia,ib + 1,mg,ac,bc))
def LoQZ (κ:SortKind) (it:Nat→Keyed) (lt:Nat→Nat→Bool) (a b:List Nat) (st0:SortSt) (n:Nat) (r:ForInStep LoSZ) (st:SortSt):Prop:=match r with
  | .done c=>FinZ κ it lt a b st0 c.1 st∨∃ o ia ib mg ac bc,c=(none,imZ it o,ia,ib,mg,ac,bc)∧WayZ lt a b o ia ib∧n < o.length∧SteZ κ st0 st
  | .yield c=>∃ o ia ib mg ac bc,c=(none,imZ it o,ia,ib,mg,ac,bc)∧WayZ lt a b o ia ib∧n < o.length∧SteZ κ st0 st
theorem wpS_loT2Z {st0 st:SortSt} {mg ac bc ia ib n xa xb:Nat} {o:List Nat} (S:SO lt N) (P:MPreZ lt N a b) (k:SteZ κ st0 st) (m:MIZ lt a b o (a.drop ia) (b.drop ib)) (ha:ia + 1 < a.length) (ga:a[ia]?=some xa) (gb:b[ib]?=some xb) (e:lt xa xb=true) (hn:n≤o.length) :
    wpS (model prog w) A E s (loT2Z (imZ it a) (imZ it b) mg ac bc (imZ it o) ia ib) (LoQZ κ it lt a b st0 n) st:=by
  have mb:=List.mem_of_getElem? gb
  have ma:=List.mem_of_getElem? ga
  have lb:=(List.getElem?_eq_some_iff.mp gb).1
  unfold loT2Z
  refine wpS_bind (wpS_elemZ (im_getZ ga) ?_)
  rw [im_pushZ,im_fromZ,im_fromZ]
  have M2:MIZ lt a b (o ++ [xa]) (a.drop (ia + 1)) (b.drop ib):=by
    rw [drop_consZ ga] at m
    exact m.left fun x hx z hz=>by rw [List.mem_singleton.mp hx];exact head_belowZ S P.sb P.nB gb (P.nA _ ma) e z hz
  by_cases d1:(ia + 1 + 1 == (imZ it a).size)=true
  · rw [if_pos d1]
    rw [im_sizeZ] at d1
    refine wpS_pure (.inl ⟨_,?_,M2.end' (P.last (by simpa using d1)),k⟩)
    rw [im_appZ,im_appZ]
  · rw [if_neg d1]
    rw [im_sizeZ] at d1
    have d1':ia + 1 + 1≠a.length:=by simpa using d1
    have W2:WayZ lt a b (o ++ [xa]) (ia + 1) ib:=⟨M2,by omega,lb⟩
    by_cases d2:(decide (ac < 7) && decide (bc < 7))=true
    · rw [if_pos d2]
      exact wpS_pure (.inr ⟨_,_,_,_,_,_,rfl,W2,by simp;omega,k⟩)
    · rw [if_neg d2]
      exact wpS_pure ⟨_,_,_,_,_,_,rfl,W2,by simp;omega,k⟩
theorem wpS_loT1Z {st0 st:SortSt} {mg ac bc ia ib n xa xb:Nat} {o:List Nat} (S:SO lt N) (hc:CmpAtZ prog w A s κ it lt N) (P:MPreZ lt N a b) (k:SteZ κ st0 st) (m:MIZ lt a b o (a.drop ia) (b.drop ib)) (ha:ia + 1 < a.length) (ga:a[ia]?=some xa) (gb:b[ib]?=some xb) (e:lt xb xa=true) (hn:n≤o.length) :
    wpS (model prog w) A E s (loT1Z (imZ it a) (imZ it b) mg ac bc (imZ it o) ia ib) (LoQZ κ it lt a b st0 n) st:=by
  have mb:=List.mem_of_getElem? gb
  have ma:=List.mem_of_getElem? ga
  have lb:=(List.getElem?_eq_some_iff.mp gb).1
  unfold loT1Z
  refine wpS_bind (wpS_elemZ (im_getZ gb) ?_)
  rw [im_pushZ,im_fromZ,im_fromZ,im_sizeZ]
  have M2:MIZ lt a b (o ++ [xb]) (a.drop ia) (b.drop (ib + 1)):=by
    rw [drop_consZ gb] at m
    exact m.right fun x hx z hz=>by rw [List.mem_singleton.mp hx];exact head_belowZ S P.sa P.nA ga (P.nB _ mb) e z hz
  by_cases d1:(ib + 1 == b.length)=true
  · rw [if_pos d1]
    have d1':ib + 1=b.length:=by simpa using d1
    refine wpS_pure (.inl ⟨_,?_,M2.end (fun x _ y hy=>by rw [d1',List.drop_length] at hy;cases hy),k⟩)
    rw [im_appZ,im_appZ]
  · rw [if_neg d1]
    have d1':ib + 1≠b.length:=by simpa using d1
    refine wpS_bind (wpS_elemZ (im_getZ ga) ?_)
    have tk:(b.drop (ib + 1)).take (b.length - (ib + 1))=b.drop (ib + 1):=List.take_of_length_le (by rw [List.length_drop];omega)
    refine wpS_bind (wpS_gallopZ S hc k.k (P.nA _ ma) (fun x hx=>?_) ?_ (by omega) (by omega) fun j hj lo hi=>?_)
    · rw [tk] at hx;exact ⟨P.nB _ (drop_memZ hx),Ne.symm (P.dj _ ma _ (drop_memZ hx))⟩
    · rw [tk];exact M2.sq
    · rw [tk] at hi
      dsimp only
      -- what is taken of b
      have M3:MIZ lt a b (o ++ [xb] ++ (b.drop (ib + 1)).take j) (a.drop ia) (b.drop (ib + 1 + j)):=by
        rw [drop_moreZ (ib + 1) j] at M2
        exact M2.right fun x hx z hz=>head_belowZ S P.sa P.nA ga (P.nB _ (drop_memZ (List.mem_of_mem_take hx))) (lo x hx) z hz
      have nx:ib + 1 + j < b.length→∃ y,b[ib + 1 + j]?=some y∧lt xa y=true:=fun h=>by
        refine ⟨b[ib + 1 + j],List.getElem?_eq_getElem h,hi _ ?_⟩
        rw [List.drop_drop]
        have g:b[ib + 1 + j]?=some b[ib + 1 + j]:=List.getElem?_eq_getElem h
        rw [drop_consZ g];exact List.mem_append_left _ (List.mem_singleton_self _)
      by_cases z:j > 0
      · rw [if_pos z,im_extZ,show ib + 1 + j - (ib + 1)=j by omega,im_appZ]
        by_cases d2:(ib + 1 + j == b.length)=true
        · rw [if_pos d2]
          have d2':ib + 1 + j=b.length:=by simpa using d2
          refine wpS_pure (.inl ⟨_,?_,M3.end (fun x _ y hy=>by rw [d2',List.drop_length] at hy;cases hy),k⟩)
          rw [im_fromLZ,im_appZ,im_appZ]
        · rw [if_neg d2]
          have d2':ib + 1 + j≠b.length:=by simpa using d2
          obtain ⟨y,gy,ly⟩:=nx (by omega)
          exact wpS_loT2Z S P k M3 ha ga gy ly (by simp;omega)
      · rw [if_neg z]
        obtain rfl:j=0:=by omega
        obtain ⟨y,gy,ly⟩:=nx (by omega)
        exact wpS_loT2Z S P k M2 ha ga gy ly (by simp;omega)
theorem wpS_mergeLoZ {st:SortSt} {Q:Array Keyed→SortSt→Prop} (S:SO lt N) (hc:CmpAtZ prog w A s κ it lt N) (hk:SteZ κ st st) (P:MPreZ lt N a b) (q:∀ m st',ResZ lt a b m→SteZ κ st st'→Q (imZ it m) st') :
    wpS (model prog w) A E s (mergeLoGZ (imZ it a) (imZ it b)) Q st:=by
  refine wpS_bind (wpS_lift (wpAny_rule ⟨rfl,?_⟩))
  have b0:b[0]?=some (b.getD 0 0):=by rw [List.getD_eq_getElem?_getD,List.getElem?_eq_getElem P.lb];rfl
  refine wpS_bind (wpS_elemZ (im_getZ b0) ?_)
  have M0:MIZ lt a b [b.getD 0 0] a (b.drop 1):=by
    have:=MIZ.start P.sa P.sb
    have e:=drop_consZ b0
    rw [List.drop_zero] at e
    have h2:MIZ lt a b [] a ([b.getD 0 0] ++ b.drop 1):=by rw [← e];exact this
    exact h2.right fun x hx y hy=>by rw [List.mem_singleton.mp hx];exact P.hd y hy
  have o0:(#[it (b.getD 0 0)]:Array Keyed)=imZ it [b.getD 0 0]:=rfl
  rw [o0]
  have eA:∀ i,(imZ it a).extract i (imZ it a).size=imZ it (a.drop i):=im_fromZ a
  have eB:∀ i,(imZ it b).extract i (imZ it b).size=imZ it (b.drop i):=im_fromZ b
  have sA:=im_sizeZ (it:=it) a
  have sB:=im_sizeZ (it:=it) b
  -- the ways in which it may end
  have endB:∀ {o:List Nat} {ia ib:Nat},MIZ lt a b o (a.drop ia) (b.drop ib)→ib=b.length→ResZ lt a b (o ++ a.drop ia ++ b.drop ib):=fun m e=>m.end fun x hx y hy=>by rw [e,List.drop_length] at hy;cases hy
  have endA:∀ {o:List Nat} {ia ib:Nat},MIZ lt a b o (a.drop ia) (b.drop ib)→ia=a.length→ResZ lt a b (o ++ a.drop ia ++ b.drop ib):=fun m e=>m.end fun x hx y hy=>by rw [e,List.drop_length] at hx;cases hx
  have endL:∀ {o:List Nat} {ia ib:Nat},MIZ lt a b o (a.drop ia) (b.drop ib)→ia + 1=a.length→ResZ lt a b (o ++ b.drop ib ++ a.drop ia):=fun m e=>m.end' (P.last e)
  have big:∀ {o:List Nat} {ia ib:Nat},imZ it o ++ imZ it (a.drop ia) ++ imZ it (b.drop ib)=imZ it (o ++ a.drop ia ++ b.drop ib):=by intros;rw [im_appZ,im_appZ]
  have big':∀ {o:List Nat} {ia ib:Nat},imZ it o ++ imZ it (b.drop ib) ++ imZ it (a.drop ia)=imZ it (o ++ b.drop ib ++ a.drop ia):=by intros;rw [im_appZ,im_appZ]
  have M0':MIZ lt a b [b.getD 0 0] (a.drop 0) (b.drop 1):=by rw [List.drop_zero];exact M0
  by_cases c1:(1 == (imZ it b).size)=true
  · rw [if_pos c1]
    refine wpS_pure ?_
    dsimp only
    rw [eA,eB,big]
    exact q _ _ (endB M0' (by rw [← sB];simpa using c1)) hk
  · rw [if_neg c1]
    by_cases c2:(0 + 1 == (imZ it a).size)=true
    · rw [if_pos c2]
      refine wpS_pure ?_
      dsimp only
      rw [eA,eB,big']
      exact q _ _ (endL M0' (by rw [← sA];simpa using c2)) hk
    · rw [if_neg c2]
      have n1:1≠b.length:=by rw [← sB];simpa using c1
      have n2:1≠a.length:=by rw [← sA];simpa using c2
      have W0:WayZ lt a b [b.getD 0 0] 0 1:=⟨M0',by have:=P.la;omega,by have:=P.lb;omega⟩
      refine wpS_bind (wpS_get ?_)
      refine wpS_bind (wpS_mono (wpS_forRange (fun x c st'=>∃ o ia ib mg,c=(none,imZ it o,ia,ib,mg)∧WayZ lt a b o ia ib∧x < o.length∧SteZ κ st st') (Q:=fun c st'=>FinZ κ it lt a b st c.1 st') ?step ?fin ⟨[b.getD 0 0],0,1,_,rfl,W0,by simp,hk⟩) ?post)
      case post =>
        rintro c st' ⟨m,e,r,k⟩
        obtain ⟨r1,c⟩:=c
        dsimp only at e
        subst e
        exact wpS_pure (q m st' r k)
      case fin =>
        rintro c st' ⟨o,ia,ib,mg,rfl,W,hx,k⟩
        have:=W.len
        rw [sA,sB] at hx
        omega
      case step =>
        rintro x c st' _ hx ⟨o,ia,ib,mg,rfl,W,hxo,k⟩
        dsimp only
        refine wpS_bind (wpS_mono (wpS_forRange (fun y c st2=>∃ o' ia' ib' ac bc,c=(none,imZ it o',ia',ib',ac,bc)∧WayZ lt a b o' ia' ib'∧o.length + y≤o'.length∧SteZ κ st st2) (Q:=fun c st2=>FinZ κ it lt a b st c.1 st2∨∃ o' ia' ib' ac bc,c=(none,imZ it o',ia',ib',ac,bc)∧WayZ lt a b o' ia' ib'∧o.length + 1≤o'.length∧SteZ κ st st2) ?step1 ?fin1 ⟨o,ia,ib,0,0,rfl,W,Nat.le_refl _,k⟩) ?post1)
        case fin1 =>
          rintro c st2 ⟨o',ia',ib',ac,bc,rfl,W',hl,k'⟩
          have:=W'.len
          rw [sA,sB] at hl
          omega
        case step1 =>
          rintro y c st2 _ hy ⟨o',ia',ib',ac,bc,rfl,W',hl,k'⟩
          dsimp only
          obtain ⟨xb,gb⟩:∃ xb,b[ib']?=some xb:=⟨_,List.getElem?_eq_getElem W'.hb⟩
          obtain ⟨xa,ga⟩:∃ xa,a[ia']?=some xa:=⟨_,List.getElem?_eq_getElem (by have:=W'.ha;omega)⟩
          have mb:=List.mem_of_getElem? gb
          have ma:=List.mem_of_getElem? ga
          refine wpS_bind (wpS_elemZ (im_getZ gb) (wpS_bind (wpS_elemZ (im_getZ ga) (wpS_bind (wpS_cmpZ hc k'.k (P.nB _ mb) (P.nA _ ma) (Ne.symm (P.dj _ ma _ mb)) ?_)))))
          have M1:=W'.m
          cases e:lt xb xa with
          | true =>
            dsimp only
            rw [if_pos rfl]
            refine wpS_bind (wpS_elemZ (im_getZ gb) ?_)
            rw [im_pushZ]
            have M2:MIZ lt a b (o' ++ [xb]) (a.drop ia') (b.drop (ib' + 1)):=by
              rw [drop_consZ gb] at M1
              exact M1.right fun x hx z hz=>by rw [List.mem_singleton.mp hx];exact head_belowZ S P.sa P.nA ga (P.nB _ mb) e z hz
            by_cases d1:(ib' + 1 == (imZ it b).size)=true
            · rw [if_pos d1]
              refine wpS_pure (.inl ⟨_,?_,endB M2 (by rw [← sB];simpa using d1),k'⟩)
              rw [eA,eB,big]
            · rw [if_neg d1]
              have d1':ib' + 1≠b.length:=by rw [← sB];simpa using d1
              have hb':=W'.hb
              have W2:WayZ lt a b (o' ++ [xb]) ia' (ib' + 1):=⟨M2,W'.ha,by omega⟩
              by_cases d2:bc + 1 ≥ mg
              · rw [if_pos d2]
                exact wpS_pure (.inr ⟨_,_,_,_,_,rfl,W2,by simp;omega,k'⟩)
              · rw [if_neg d2]
                exact wpS_pure ⟨_,_,_,_,_,rfl,W2,by simp;omega,k'⟩
          | false =>
            dsimp only
            rw [if_neg (by decide)]
            refine wpS_bind (wpS_elemZ (im_getZ ga) ?_)
            rw [im_pushZ]
            have e':=S.tot _ _ (P.nB _ mb) (P.nA _ ma) (Ne.symm (P.dj _ ma _ mb)) e
            have M2:MIZ lt a b (o' ++ [xa]) (a.drop (ia' + 1)) (b.drop ib'):=by
              rw [drop_consZ ga] at M1
              exact M1.left fun x hx z hz=>by rw [List.mem_singleton.mp hx];exact head_belowZ S P.sb P.nB gb (P.nA _ ma) e' z hz
            by_cases d1:(ia' + 1 + 1 == (imZ it a).size)=true
            · rw [if_pos d1]
              refine wpS_pure (.inl ⟨_,?_,endL M2 (by rw [← sA];simpa using d1),k'⟩)
              rw [eA,eB,big']
            · rw [if_neg d1]
              have d1':ia' + 1 + 1≠a.length:=by rw [← sA];simpa using d1
              have ha':=W'.ha
              have W2:WayZ lt a b (o' ++ [xa]) (ia' + 1) ib':=⟨M2,by omega,W'.hb⟩
              by_cases d2:ac + 1 ≥ mg
              · rw [if_pos d2]
                exact wpS_pure (.inr ⟨_,_,_,_,_,rfl,W2,by simp;omega,k'⟩)
              · rw [if_neg d2]
                exact wpS_pure ⟨_,_,_,_,_,rfl,W2,by simp;omega,k'⟩
        case post1 =>
          rintro c st2 (⟨m,e,r,k'⟩ | ⟨o',ia',ib',ac,bc,rfl,W',hl,k'⟩)
          · obtain ⟨r1,c⟩:=c
            dsimp only at e
            subst e
            exact wpS_pure ⟨m,rfl,r,k'⟩
          · dsimp only
            refine wpS_bind (wpS_lift (wpAny_rule ⟨rfl,?_⟩))
            refine wpS_bind (wpS_mono (wpS_forRange (fun y c st3=>∃ o2 ia2 ib2 mg2 ac2 bc2,c=(none,imZ it o2,ia2,ib2,mg2,ac2,bc2)∧WayZ lt a b o2 ia2 ib2∧o.length + 1 + y≤o2.length∧SteZ κ st st3) (Q:=fun c st3=>FinZ κ it lt a b st c.1 st3∨∃ o2 ia2 ib2 mg2 ac2 bc2,c=(none,imZ it o2,ia2,ib2,mg2,ac2,bc2)∧WayZ lt a b o2 ia2 ib2∧o.length < o2.length∧SteZ κ st st3) ?step2 ?fin2 ⟨o',ia',ib',_,ac,bc,rfl,W',hl,k'⟩) ?post2)
            case fin2 =>
              rintro c st3 ⟨o2,ia2,ib2,mg2,ac2,bc2,rfl,W2,hl2,k2⟩
              have:=W2.len
              rw [sA,sB] at hl2
              omega
            case step2 =>
              rintro y c st3 _ hy ⟨o2,ia2,ib2,mg2,ac2,bc2,rfl,W2,hl2,k2⟩
              dsimp only
              obtain ⟨xb,gb⟩:∃ xb,b[ib2]?=some xb:=⟨_,List.getElem?_eq_getElem W2.hb⟩
              have mb:=List.mem_of_getElem? gb
              have ha2:=W2.ha
              have go:∀ g:Nat,wpS (model prog w) A E s (do
                  setGalZ g
                  let u ← elem' (imZ it b) ib2
                  match ← gallopGZ false u (imZ it a) ia2 ((imZ it a).size - ia2) 0 with
                  | some k=>if k > 0 then (if (ia2 + k + 1 == (imZ it a).size)=true then pure (.done (some (imZ it o2 ++ (imZ it a).extract ia2 (ia2 + k) ++ (imZ it b).extract ib2 (imZ it b).size ++ (imZ it a).extract (ia2 + k) (imZ it a).size),imZ it o2 ++ (imZ it a).extract ia2 (ia2 + k),ia2 + k,ib2,g,k,bc2)) else if (ia2 + k == (imZ it a).size)=true then pure (.done (some (imZ it o2 ++ (imZ it a).extract ia2 (ia2 + k) ++ (imZ it a).extract (ia2 + k) (imZ it a).size ++ (imZ it b).extract ib2 (imZ it b).size),imZ it o2 ++ (imZ it a).extract ia2 (ia2 + k),ia2 + k,ib2,g,k,bc2)) else loT1Z (imZ it a) (imZ it b) g k bc2 (imZ it o2 ++ (imZ it a).extract ia2 (ia2 + k)) (ia2 + k) ib2) else loT1Z (imZ it a) (imZ it b) g k bc2 (imZ it o2) ia2 ib2
                  | _=>pure (.done (some (imZ it o2 ++ (imZ it a).extract ia2 (imZ it a).size ++ (imZ it b).extract ib2 (imZ it b).size),imZ it o2,ia2,ib2,g,ac2,bc2)):SMZ (ForInStep LoSZ)) (LoQZ κ it lt a b st (o.length + 1 + y)) st3:=by
                intro g
                refine wpS_bind (wpS_modify ?_)
                have k3:SteZ κ st (SortSt.mk' (kindOf st3) (arrOf st3) (pendingOf st3) g (failedOf st3)):=⟨k2.k,k2.f,k2.a,k2.p⟩
                refine wpS_bind (wpS_elemZ (im_getZ gb) ?_)
                rw [im_sizeZ]
                have tk:(a.drop ia2).take (a.length - ia2)=a.drop ia2:=List.take_of_length_le (by rw [List.length_drop];omega)
                refine wpS_bind (wpS_gallopZ S hc k3.k (P.nB _ mb) (fun x hx=>?_) ?_ (by omega) (by omega) fun j hj lo hi=>?_)
                · rw [tk] at hx;exact ⟨P.nA _ (drop_memZ hx),P.dj _ (drop_memZ hx) _ mb⟩
                · rw [tk];exact W2.m.sp
                · rw [tk] at hi
                  dsimp only
                  have M3:MIZ lt a b (o2 ++ (a.drop ia2).take j) (a.drop (ia2 + j)) (b.drop ib2):=by
                    have m:=W2.m
                    rw [drop_moreZ ia2 j] at m
                    exact m.left fun x hx z hz=>head_belowZ S P.sb P.nB gb (P.nA _ (drop_memZ (List.mem_of_mem_take hx))) (lo x hx) z hz
                  have nx:ia2 + j < a.length→∃ z,a[ia2 + j]?=some z∧lt xb z=true:=fun h=>by
                    refine ⟨a[ia2 + j],List.getElem?_eq_getElem h,hi _ ?_⟩
                    rw [List.drop_drop]
                    have g:a[ia2 + j]?=some a[ia2 + j]:=List.getElem?_eq_getElem h
                    rw [drop_consZ g];exact List.mem_append_left _ (List.mem_singleton_self _)
                  by_cases z:j > 0
                  · rw [if_pos z,im_extZ,show ia2 + j - ia2=j by omega,im_appZ,im_fromLZ,eB]
                    by_cases d1:(ia2 + j + 1 == a.length)=true
                    · rw [if_pos d1]
                      refine wpS_pure (.inl ⟨_,?_,endL M3 (by simpa using d1),k3⟩)
                      rw [im_appZ,im_appZ]
                    · rw [if_neg d1]
                      have d1':ia2 + j + 1≠a.length:=by simpa using d1
                      by_cases d2:(ia2 + j == a.length)=true
                      · rw [if_pos d2]
                        refine wpS_pure (.inl ⟨_,?_,endA M3 (by simpa using d2),k3⟩)
                        rw [im_appZ,im_appZ]
                      · rw [if_neg d2]
                        have d2':ia2 + j≠a.length:=by simpa using d2
                        obtain ⟨z,gz,lz⟩:=nx (by omega)
                        exact wpS_loT1Z S hc P k3 M3 (by omega) gz gb lz (by simp;omega)
                  · rw [if_neg z]
                    obtain rfl:j=0:=by omega
                    obtain ⟨z,gz,lz⟩:=nx (by omega)
                    exact wpS_loT1Z S hc P k3 W2.m ha2 gz gb lz (by omega)
              have fitD:∀ c' st4,LoQZ κ it lt a b st (o.length + 1 + y) (.done c') st4→FinZ κ it lt a b st c'.1 st4∨∃ o2 ia2 ib2 mg2 ac2 bc2,c'=(none,imZ it o2,ia2,ib2,mg2,ac2,bc2)∧WayZ lt a b o2 ia2 ib2∧o.length < o2.length∧SteZ κ st st4:=by
                intro c st4 h
                rcases h with h | ⟨o3,ia3,ib3,mg3,ac3,bc3,e,W3,l3,k4⟩
                · exact .inl h
                · exact .inr ⟨o3,ia3,ib3,mg3,ac3,bc3,e,W3,by omega,k4⟩
              have fitY:∀ c' st4,LoQZ κ it lt a b st (o.length + 1 + y) (.yield c') st4→∃ o2 ia2 ib2 mg2 ac2 bc2,c'=(none,imZ it o2,ia2,ib2,mg2,ac2,bc2)∧WayZ lt a b o2 ia2 ib2∧o.length + 1 + (y + 1)≤o2.length∧SteZ κ st st4:=by
                intro c st4 h
                obtain ⟨o3,ia3,ib3,mg3,ac3,bc3,e,W3,l3,k4⟩:=h
                exact ⟨o3,ia3,ib3,mg3,ac3,bc3,e,W3,by omega,k4⟩
              by_cases d:mg2 > 1
              · rw [if_pos d]
                exact wpS_mono (go (mg2 - 1)) fun r st4 h=>by cases r with | done c=>exact fitD _ _ h | yield c=>exact fitY _ _ h
              · rw [if_neg d]
                exact wpS_mono (go mg2) fun r st4 h=>by cases r with | done c=>exact fitD _ _ h | yield c=>exact fitY _ _ h
            case post2 =>
              rintro c st3 (⟨m,e,r,k2⟩ | ⟨o2,ia2,ib2,mg2,ac2,bc2,rfl,W2,hl2,k2⟩)
              · obtain ⟨r1,c⟩:=c
                dsimp only at e
                subst e
                exact wpS_pure ⟨m,rfl,r,k2⟩
              · dsimp only
                refine wpS_bind (wpS_modify (wpS_pure ⟨o2,ia2,ib2,_,rfl,W2,by omega,?_⟩))
                exact ⟨k2.k,k2.f,k2.a,k2.p⟩
end
end L2
namespace L2
open PySem PySem.W PyProof.Rows
structure MJZ (lt:Nat→Nat→Bool) (a b o P Q:List Nat):Prop where
  so:o.Pairwise fun x y=>lt x y=true
  pe:(P ++ Q ++ o).Perm (a ++ b)
  be:∀ x∈P ++ Q,∀ y∈o,lt x y=true
  sp:P.Pairwise fun x y=>lt x y=true
  sq:Q.Pairwise fun x y=>lt x y=true
section
variable {lt:Nat→Nat→Bool} {a b o P Q c:List Nat}
theorem MJZ.left (h:MJZ lt a b o (P ++ c) Q) (k:∀ x∈c,∀ y∈Q,lt y x=true):MJZ lt a b (c ++ o) P Q:=by
  have sp:=List.pairwise_append.mp h.sp
  refine ⟨List.pairwise_append.mpr ⟨sp.2.1,h.so,fun x hx y hy=>h.be x (by simp [hx]) y hy⟩,?_,fun x hx y hy=>?_,sp.1,h.sq⟩
  · refine List.Perm.trans ?_ h.pe
    rw [← List.append_assoc,List.append_assoc P Q c,List.append_assoc P c Q]
    exact List.Perm.append_right _ (List.Perm.append_left _ List.perm_append_comm)
  · rcases List.mem_append.mp hy with hy | hy
    · rcases List.mem_append.mp hx with hx | hx
      · exact sp.2.2 x hx y hy
      · exact k y hy x hx
    · exact h.be x (by rcases List.mem_append.mp hx with hx | hx <;> simp [hx]) y hy
theorem MJZ.right (h:MJZ lt a b o P (Q ++ c)) (k:∀ x∈c,∀ y∈P,lt y x=true):MJZ lt a b (c ++ o) P Q:=by
  have sq:=List.pairwise_append.mp h.sq
  refine ⟨List.pairwise_append.mpr ⟨sq.2.1,h.so,fun x hx y hy=>h.be x (by simp [hx]) y hy⟩,?_,fun x hx y hy=>?_,h.sp,sq.1⟩
  · have:=h.pe
    simpa [List.append_assoc] using this
  · rcases List.mem_append.mp hy with hy | hy
    · rcases List.mem_append.mp hx with hx | hx
      · exact k y hy x hx
      · exact sq.2.2 x hx y hy
    · exact h.be x (by rcases List.mem_append.mp hx with hx | hx <;> simp [hx]) y hy
theorem MJZ.len (h:MJZ lt a b o P Q):o.length + P.length + Q.length=a.length + b.length:=by
  have:=h.pe.length_eq
  simp only [List.length_append] at this
  omega
theorem MJZ.end (h:MJZ lt a b o P Q) (k:∀ x∈P,∀ y∈Q,lt x y=true):ResZ lt a b (P ++ Q ++ o) :=
  ⟨h.pe,List.pairwise_append.mpr ⟨List.pairwise_append.mpr ⟨h.sp,h.sq,k⟩,h.so,h.be⟩⟩
theorem MJZ.end' (h:MJZ lt a b o P Q) (k:∀ x∈Q,∀ y∈P,lt x y=true):ResZ lt a b (Q ++ P ++ o) :=
  ⟨List.Perm.trans (List.Perm.append_right _ List.perm_append_comm) h.pe,List.pairwise_append.mpr ⟨List.pairwise_append.mpr ⟨h.sq,h.sp,k⟩,h.so,fun x hx y hy=>h.be x (by rcases List.mem_append.mp hx with hx | hx <;> simp [hx]) y hy⟩⟩
theorem MJZ.start (ha:a.Pairwise fun x y=>lt x y=true) (hb:b.Pairwise fun x y=>lt x y=true):MJZ lt a b [] a b:=⟨.nil,by simp,(fun x _ y h=>nomatch h),ha,hb⟩
theorem take_snocZ {l:List Nat} {i x:Nat} (h:l[i]?=some x):l.take (i + 1)=l.take i ++ [x]:=by rw [List.take_add_one,h];rfl
theorem take_moreZ {l:List Nat} {i j:Nat} (h:i≤j):l.take j=l.take i ++ (l.take j).drop i:=by
  have:=(List.take_append_drop i (l.take j)).symm
  rwa [List.take_take,Nat.min_eq_left h] at this
theorem take_memZ {l:List Nat} {i x:Nat} (h:x∈l.take i):x∈l:=List.mem_of_mem_take h
end
section
variable {it:Nat→Keyed}
theorem im_toZ (p:List Nat) (i:Nat):(imZ it p).extract 0 i=imZ it (p.take i):=by rw [im_extZ];simp
theorem im_revZ (p:List Nat):(imZ it p).reverse=imZ it p.reverse:=by simp [imZ]
theorem im_outZ (p:List Nat) (x:Nat):(imZ it p.reverse).push (it x)=imZ it ([x] ++ p).reverse:=by rw [im_pushZ];simp
theorem im_cutZ {p:List Nat} {i j:Nat} (h:i≤j):(imZ it p).extract i j=imZ it ((p.take j).drop i):=by
  rw [im_extZ]
  congr 1
  rw [List.drop_take]
theorem im_outsZ (p c:List Nat):imZ it p.reverse ++ (imZ it c).reverse=imZ it (c ++ p).reverse:=by rw [im_revZ,im_appZ];simp
end
section
variable {prog:Program} {w:World} {A:Around} {E:Value→Shared→Prop} {s:Shared} {κ:SortKind} {it:Nat→Keyed} {lt:Nat→Nat→Bool} {N:Nat} {a b:List Nat}
theorem last_aboveZ (S:SO lt N) {l:List Nat} {i x y:Nat} (sl:l.Pairwise fun x y=>lt x y=true) (nl:∀ x∈l,x < N) (hx:l[i]?=some x) (yN:y < N) (h:lt x y=true):∀ z∈l.take (i + 1),lt z y=true:=by
  intro z hz
  rw [take_snocZ hx] at hz
  rcases List.mem_append.mp hz with hz | hz
  · have xl:=List.mem_of_getElem? hx
    refine S.trans z x y (nl z (take_memZ hz)) (nl x xl) yN ?_ h
    obtain ⟨k,hk⟩:=List.getElem?_of_mem hz
    have kl:=(List.getElem?_eq_some_iff.mp hk).1
    rw [List.length_take] at kl
    rw [List.getElem?_take_of_lt (by omega)] at hk
    obtain ⟨l1,e1⟩:=List.getElem?_eq_some_iff.mp hx
    obtain ⟨l2,e2⟩:=List.getElem?_eq_some_iff.mp hk
    have:=List.pairwise_iff_getElem.mp sl k i l2 l1 (by omega)
    rw [e1,e2] at this
    exact this
  · rw [List.mem_singleton.mp hz];exact h
theorem MPreZ.first (P:MPreZ lt N a b) {na:Nat}:∀ x∈b.take 1,∀ y∈a.take na,lt x y=true:=by
  intro x hx y hy
  have e:b.take 1=[b.getD 0 0]:=by
    have plb:=P.lb
    have g:b[0]?=some b[0]:=List.getElem?_eq_getElem plb
    have t:=take_snocZ g
    rw [t,List.getD_eq_getElem?_getD,g];rfl
  rw [e,List.mem_singleton] at hx
  rw [hx]
  exact P.hd y (take_memZ hy)
structure WayHZ (lt:Nat→Nat→Bool) (a b o:List Nat) (na nb:Nat):Prop where
  m:MJZ lt a b o (a.take na) (b.take nb)
  ha:0 < na
  la:na≤a.length
  hb:1 < nb
  lb:nb≤b.length
theorem WayHZ.len {o:List Nat} {na nb:Nat} (W:WayHZ lt a b o na nb):o.length < a.length + b.length:=by
  have:=W.m.len
  have h1:=W.ha
  have h2:=W.hb
  have h3:=W.la
  have h4:=W.lb
  rw [List.length_take,List.length_take] at this
  omega
abbrev HiSZ:=Option (Array Keyed) × Nat × Nat × Array Keyed × Nat × Nat × Nat
def hiT2Z (a b:Array Keyed) (mg ac bc:Nat) (na nb:Nat) (out:Array Keyed):SMZ (ForInStep HiSZ):=do
  let x ← elem' a (na - 1)
  if (na - 1 == 0)=true then pure (.done (some (a.extract 0 (na - 1) ++ b.extract 0 nb ++ (out.push x).reverse),na - 1,nb,out.push x,mg,ac,bc))
  else if (decide (ac < 7) && decide (bc < 7))=true then pure (.done (none,na - 1,nb,out.push x,mg,ac,bc))
  else pure (.yield (none,na - 1,nb,out.push x,mg,ac,bc))
def hiT1Z (a b:Array Keyed) (mg ac bc:Nat) (na nb:Nat) (out:Array Keyed):SMZ (ForInStep HiSZ):=do
  let x ← elem' b (nb - 1)
  if (nb - 1 == 1)=true then pure (.done (some (b.extract 0 (nb - 1) ++ a.extract 0 na ++ (out.push x).reverse),na,nb - 1,out.push x,mg,ac,bc))
  else do
    let y ← elem' a (na - 1)
    match ← gallopGZ true y b 0 (nb - 1) (nb - 1 - 1) with
    | some k=>if nb - 1 - k > 0 then (if (k == 1)=true then pure (.done (some (b.extract 0 k ++ a.extract 0 na ++ (out.push x ++ (b.extract k (nb - 1)).reverse).reverse),na,k,out.push x ++ (b.extract k (nb - 1)).reverse,mg,ac,nb - 1 - k)) else if (k == 0)=true then pure (.done (some (a.extract 0 na ++ b.extract 0 k ++ (out.push x ++ (b.extract k (nb - 1)).reverse).reverse),na,k,out.push x ++ (b.extract k (nb - 1)).reverse,mg,ac,nb - 1 - k)) else hiT2Z a b mg ac (nb - 1 - k) na k (out.push x ++ (b.extract k (nb - 1)).reverse)) else hiT2Z a b mg ac (nb - 1 - k) na (nb - 1) (out.push x)
    | _=>pure (.done (some (a.extract 0 na ++ b.extract 0 (nb - 1) ++ (out.push x).reverse),na,nb - 1,out.push x,mg,ac,bc))
def HiQZ (κ:SortKind) (it:Nat→Keyed) (lt:Nat→Nat→Bool) (a b:List Nat) (st0:SortSt) (n:Nat) (r:ForInStep HiSZ) (st:SortSt):Prop:=match r with
  | .done c=>FinZ κ it lt a b st0 c.1 st∨∃ o na nb mg ac bc,c=(none,na,nb,imZ it o.reverse,mg,ac,bc)∧WayHZ lt a b o na nb∧n < o.length∧SteZ κ st0 st
  | .yield c=>∃ o na nb mg ac bc,c=(none,na,nb,imZ it o.reverse,mg,ac,bc)∧WayHZ lt a b o na nb∧n < o.length∧SteZ κ st0 st
theorem outRZ (o:List Nat):(imZ it o.reverse).reverse=imZ it o:=by rw [im_revZ,List.reverse_reverse]
theorem wpS_hiT2Z {st0 st:SortSt} {mg ac bc na nb n xa xb:Nat} {o:List Nat} (S:SO lt N) (P:MPreZ lt N a b) (k:SteZ κ st0 st) (m:MJZ lt a b o (a.take na) (b.take nb)) (ha:0 < na) (la:na≤a.length) (hb:1 < nb) (lb:nb≤b.length) (ga:a[na - 1]?=some xa) (gb:b[nb - 1]?=some xb) (e:lt xb xa=true) (hn:n≤o.length) :
    wpS (model prog w) A E s (hiT2Z (imZ it a) (imZ it b) mg ac bc na nb (imZ it o.reverse)) (HiQZ κ it lt a b st0 n) st:=by
  have mb:=List.mem_of_getElem? gb
  have ma:=List.mem_of_getElem? ga
  unfold hiT2Z
  refine wpS_bind (wpS_elemZ (im_getZ ga) ?_)
  rw [im_outZ,outRZ,im_toZ,im_toZ]
  have M2:MJZ lt a b ([xa] ++ o) (a.take (na - 1)) (b.take nb):=by
    have t:=take_snocZ ga
    rw [show na - 1 + 1=na by omega] at t
    rw [t] at m
    refine m.left fun x hx z hz=>?_
    rw [List.mem_singleton.mp hx]
    have:=last_aboveZ S P.sb P.nB gb (P.nA _ ma) e
    rw [show nb - 1 + 1=nb by omega] at this
    exact this z hz
  by_cases d1:(na - 1 == 0)=true
  · rw [if_pos d1]
    have d1':na - 1=0:=by simpa using d1
    refine wpS_pure (.inl ⟨_,?_,M2.end (fun x hx y hy=>by rw [d1',List.take_zero] at hx;cases hx),k⟩)
    rw [im_appZ,im_appZ]
  · rw [if_neg d1]
    have d1':na - 1≠0:=by simpa using d1
    have W2:WayHZ lt a b ([xa] ++ o) (na - 1) nb:=⟨M2,by omega,by omega,hb,lb⟩
    by_cases d2:(decide (ac < 7) && decide (bc < 7))=true
    · rw [if_pos d2]
      exact wpS_pure (.inr ⟨_,_,_,_,_,_,rfl,W2,by simp;omega,k⟩)
    · rw [if_neg d2]
      exact wpS_pure ⟨_,_,_,_,_,_,rfl,W2,by simp;omega,k⟩
theorem wpS_hiT1Z {st0 st:SortSt} {mg ac bc na nb n xa xb:Nat} {o:List Nat} (S:SO lt N) (hc:CmpAtZ prog w A s κ it lt N) (P:MPreZ lt N a b) (k:SteZ κ st0 st) (m:MJZ lt a b o (a.take na) (b.take nb)) (ha:0 < na) (la:na≤a.length) (hb:1 < nb) (lb:nb≤b.length) (ga:a[na - 1]?=some xa) (gb:b[nb - 1]?=some xb) (e:lt xa xb=true) (hn:n≤o.length) :
    wpS (model prog w) A E s (hiT1Z (imZ it a) (imZ it b) mg ac bc na nb (imZ it o.reverse)) (HiQZ κ it lt a b st0 n) st:=by
  have mb:=List.mem_of_getElem? gb
  have ma:=List.mem_of_getElem? ga
  unfold hiT1Z
  refine wpS_bind (wpS_elemZ (im_getZ gb) ?_)
  rw [im_outZ,outRZ,im_toZ,im_toZ]
  have M2:MJZ lt a b ([xb] ++ o) (a.take na) (b.take (nb - 1)):=by
    have t:=take_snocZ gb
    rw [show nb - 1 + 1=nb by omega] at t
    rw [t] at m
    refine m.right fun x hx z hz=>?_
    rw [List.mem_singleton.mp hx]
    have:=last_aboveZ S P.sa P.nA ga (P.nB _ mb) e
    rw [show na - 1 + 1=na by omega] at this
    exact this z hz
  by_cases d1:(nb - 1 == 1)=true
  · rw [if_pos d1]
    have d1':nb - 1=1:=by simpa using d1
    refine wpS_pure (.inl ⟨_,?_,M2.end' (by rw [d1'];exact P.first),k⟩)
    rw [im_appZ,im_appZ]
  · rw [if_neg d1]
    have d1':nb - 1≠1:=by simpa using d1
    refine wpS_bind (wpS_elemZ (im_getZ ga) ?_)
    refine wpS_bind (wpS_gallopZ S hc k.k (P.nA _ ma) (fun x hx=>?_) ?_ (by omega) (by omega) fun j hj lo hi=>?_)
    · rw [List.drop_zero] at hx;exact ⟨P.nB _ (take_memZ hx),Ne.symm (P.dj _ ma _ (take_memZ hx))⟩
    · rw [List.drop_zero];exact M2.sq
    · rw [List.drop_zero] at lo hi
      dsimp only
      rw [im_toZ,im_cutZ hj,im_outsZ,outRZ]
      have M3:MJZ lt a b ((b.take (nb - 1)).drop j ++ ([xb] ++ o)) (a.take na) (b.take j):=by
        rw [take_moreZ hj] at M2
        refine M2.right fun x hx z hz=>?_
        have xb':x∈b:=take_memZ (List.mem_of_mem_drop hx)
        have h:=hi x hx
        have:=last_aboveZ S P.sa P.nA ga (P.nB _ xb') h
        rw [show na - 1 + 1=na by omega] at this
        exact this z hz
      have nx:0 < j→∃ y,b[j - 1]?=some y∧lt y xa=true:=fun h=>by
        have g:b[j - 1]?=some b[j - 1]:=List.getElem?_eq_getElem (by omega)
        refine ⟨b[j - 1],g,lo _ ?_⟩
        have t:=take_snocZ g
        rw [show j - 1 + 1=j by omega] at t
        rw [t];exact List.mem_append_right _ (List.mem_singleton_self _)
      by_cases z:nb - 1 - j > 0
      · rw [if_pos z]
        by_cases d2:(j == 1)=true
        · rw [if_pos d2]
          have d2':j=1:=by simpa using d2
          refine wpS_pure (.inl ⟨_,?_,M3.end' (by rw [d2'];exact P.first),k⟩)
          rw [im_appZ,im_appZ]
        · rw [if_neg d2]
          have d2':j≠1:=by simpa using d2
          by_cases d3:(j == 0)=true
          · rw [if_pos d3]
            have d3':j=0:=by simpa using d3
            refine wpS_pure (.inl ⟨_,?_,M3.end (fun x _ y hy=>by rw [d3',List.take_zero] at hy;cases hy),k⟩)
            rw [im_appZ,im_appZ]
          · rw [if_neg d3]
            have d3':j≠0:=by simpa using d3
            obtain ⟨y,gy,ly⟩:=nx (by omega)
            exact wpS_hiT2Z S P k M3 ha la (by omega) (by omega) ga gy ly (by simp;omega)
      · rw [if_neg z]
        obtain rfl:j=nb - 1:=by omega
        obtain ⟨y,gy,ly⟩:=nx (by omega)
        exact wpS_hiT2Z S P k M2 ha la (by omega) (by omega) ga gy ly (by simp;omega)
theorem wpS_mergeHiZ {st:SortSt} {Q:Array Keyed→SortSt→Prop} (S:SO lt N) (hc:CmpAtZ prog w A s κ it lt N) (hk:SteZ κ st st) (P:MPreZ lt N a b) (q:∀ m st',ResZ lt a b m→SteZ κ st st'→Q (imZ it m) st') :
    wpS (model prog w) A E s (mergeHiGZ (imZ it a) (imZ it b)) Q st:=by
  have pla:=P.la
  have plb:=P.lb
  refine wpS_bind (wpS_lift (wpAny_rule ⟨rfl,?_⟩))
  have sA:=im_sizeZ (it:=it) a
  have sB:=im_sizeZ (it:=it) b
  have a0:a[a.length - 1]?=some (a.getD (a.length - 1) 0):=by rw [List.getD_eq_getElem?_getD,List.getElem?_eq_getElem (by omega)];rfl
  refine wpS_bind (wpS_elemZ (x:=it (a.getD (a.length - 1) 0)) (by rw [sA];exact im_getZ a0) ?_)
  have M0:MJZ lt a b [a.getD (a.length - 1) 0] (a.take (a.length - 1)) (b.take b.length):=by
    have:=MJZ.start P.sa P.sb
    have t:=take_snocZ a0
    rw [show a.length - 1 + 1=a.length by omega,List.take_length] at t
    have h2:MJZ lt a b [] (a.take (a.length - 1) ++ [a.getD (a.length - 1) 0]) b:=by rw [← t];exact this
    rw [List.take_length]
    exact h2.left fun x hx y hy=>by rw [List.mem_singleton.mp hx];exact P.tl y hy
  have o0:(#[it (a.getD (a.length - 1) 0)]:Array Keyed)=imZ it [a.getD (a.length - 1) 0].reverse:=rfl
  rw [o0,sA,sB]
  have eA:∀ i,(imZ it a).extract 0 i=imZ it (a.take i):=im_toZ a
  have eB:∀ i,(imZ it b).extract 0 i=imZ it (b.take i):=im_toZ b
  have endA:∀ {o:List Nat} {na nb:Nat},MJZ lt a b o (a.take na) (b.take nb)→na=0→ResZ lt a b (a.take na ++ b.take nb ++ o):=fun m e=>m.end fun x hx y hy=>by rw [e,List.take_zero] at hx;cases hx
  have endF:∀ {o:List Nat} {na nb:Nat},MJZ lt a b o (a.take na) (b.take nb)→nb=1→ResZ lt a b (b.take nb ++ a.take na ++ o):=fun m e=>m.end' (by rw [e];exact P.first)
  by_cases c1:(a.length - 1 == 0)=true
  · rw [if_pos c1]
    refine wpS_pure ?_
    dsimp only
    rw [eA,eB,outRZ,im_appZ,im_appZ]
    exact q _ _ (endA M0 (by simpa using c1)) hk
  · rw [if_neg c1]
    by_cases c2:(b.length == 1)=true
    · rw [if_pos c2]
      refine wpS_pure ?_
      dsimp only
      rw [eA,eB,outRZ,im_appZ,im_appZ]
      exact q _ _ (endF M0 (by simpa using c2)) hk
    · rw [if_neg c2]
      have n1:a.length - 1≠0:=by simpa using c1
      have n2:b.length≠1:=by simpa using c2
      have W0:WayHZ lt a b [a.getD (a.length - 1) 0] (a.length - 1) b.length:=⟨M0,by omega,by omega,by omega,by omega⟩
      refine wpS_bind (wpS_get ?_)
      refine wpS_bind (wpS_mono (wpS_forRange (fun x c st'=>∃ o na nb mg,c=(none,na,nb,imZ it o.reverse,mg)∧WayHZ lt a b o na nb∧x < o.length∧SteZ κ st st') (Q:=fun c st'=>FinZ κ it lt a b st c.1 st') ?step ?fin ⟨[a.getD (a.length - 1) 0],_,_,_,rfl,W0,by simp,hk⟩) ?post)
      case post =>
        rintro c st' ⟨m,e,r,k⟩
        obtain ⟨r1,c⟩:=c
        dsimp only at e
        subst e
        exact wpS_pure (q m st' r k)
      case fin =>
        rintro c st' ⟨o,na,nb,mg,rfl,W,hx,k⟩
        have:=W.len
        omega
      case step =>
        rintro x c st' _ hx ⟨o,na,nb,mg,rfl,W,hxo,k⟩
        dsimp only
        refine wpS_bind (wpS_mono (wpS_forRange (fun y c st2=>∃ o' na' nb' ac bc,c=(none,na',nb',imZ it o'.reverse,ac,bc)∧WayHZ lt a b o' na' nb'∧o.length + y≤o'.length∧SteZ κ st st2) (Q:=fun c st2=>FinZ κ it lt a b st c.1 st2∨∃ o' na' nb' ac bc,c=(none,na',nb',imZ it o'.reverse,ac,bc)∧WayHZ lt a b o' na' nb'∧o.length + 1≤o'.length∧SteZ κ st st2) ?step1 ?fin1 ⟨o,na,nb,0,0,rfl,W,Nat.le_refl _,k⟩) ?post1)
        case fin1 =>
          rintro c st2 ⟨o',na',nb',ac,bc,rfl,W',hl,k'⟩
          have:=W'.len
          omega
        case step1 =>
          rintro y c st2 _ hy ⟨o',na',nb',ac,bc,rfl,W',hl,k'⟩
          dsimp only
          have w1:=W'.ha
          have w2:=W'.la
          have w3:=W'.hb
          have w4:=W'.lb
          obtain ⟨xb,gb⟩:∃ xb,b[nb' - 1]?=some xb:=⟨_,List.getElem?_eq_getElem (by omega)⟩
          obtain ⟨xa,ga⟩:∃ xa,a[na' - 1]?=some xa:=⟨_,List.getElem?_eq_getElem (by omega)⟩
          have mb:=List.mem_of_getElem? gb
          have ma:=List.mem_of_getElem? ga
          refine wpS_bind (wpS_elemZ (im_getZ gb) (wpS_bind (wpS_elemZ (im_getZ ga) (wpS_bind (wpS_cmpZ hc k'.k (P.nB _ mb) (P.nA _ ma) (Ne.symm (P.dj _ ma _ mb)) ?_)))))
          have M1:=W'.m
          cases e:lt xb xa with
          | true =>
            dsimp only
            rw [if_pos rfl]
            refine wpS_bind (wpS_elemZ (im_getZ ga) ?_)
            rw [im_outZ]
            have M2:MJZ lt a b ([xa] ++ o') (a.take (na' - 1)) (b.take nb'):=by
              have t:=take_snocZ ga
              rw [show na' - 1 + 1=na' by omega] at t
              rw [t] at M1
              refine M1.left fun x hx z hz=>?_
              rw [List.mem_singleton.mp hx]
              have:=last_aboveZ S P.sb P.nB gb (P.nA _ ma) e
              rw [show nb' - 1 + 1=nb' by omega] at this
              exact this z hz
            by_cases d1:(na' - 1 == 0)=true
            · rw [if_pos d1]
              refine wpS_pure (.inl ⟨_,?_,endA M2 (by simpa using d1),k'⟩)
              rw [eA,eB,outRZ,im_appZ,im_appZ]
            · rw [if_neg d1]
              have d1':na' - 1≠0:=by simpa using d1
              have W2:WayHZ lt a b ([xa] ++ o') (na' - 1) nb':=⟨M2,by omega,by omega,w3,w4⟩
              by_cases d2:ac + 1 ≥ mg
              · rw [if_pos d2]
                exact wpS_pure (.inr ⟨_,_,_,_,_,rfl,W2,by simp;omega,k'⟩)
              · rw [if_neg d2]
                exact wpS_pure ⟨_,_,_,_,_,rfl,W2,by simp;omega,k'⟩
          | false =>
            dsimp only
            rw [if_neg (by decide)]
            refine wpS_bind (wpS_elemZ (im_getZ gb) ?_)
            rw [im_outZ]
            have e':=S.tot _ _ (P.nB _ mb) (P.nA _ ma) (Ne.symm (P.dj _ ma _ mb)) e
            have M2:MJZ lt a b ([xb] ++ o') (a.take na') (b.take (nb' - 1)):=by
              have t:=take_snocZ gb
              rw [show nb' - 1 + 1=nb' by omega] at t
              rw [t] at M1
              refine M1.right fun x hx z hz=>?_
              rw [List.mem_singleton.mp hx]
              have:=last_aboveZ S P.sa P.nA ga (P.nB _ mb) e'
              rw [show na' - 1 + 1=na' by omega] at this
              exact this z hz
            by_cases d1:(nb' - 1 == 1)=true
            · rw [if_pos d1]
              refine wpS_pure (.inl ⟨_,?_,endF M2 (by simpa using d1),k'⟩)
              rw [eA,eB,outRZ,im_appZ,im_appZ]
            · rw [if_neg d1]
              have d1':nb' - 1≠1:=by simpa using d1
              have W2:WayHZ lt a b ([xb] ++ o') na' (nb' - 1):=⟨M2,w1,w2,by omega,by omega⟩
              by_cases d2:bc + 1 ≥ mg
              · rw [if_pos d2]
                exact wpS_pure (.inr ⟨_,_,_,_,_,rfl,W2,by simp;omega,k'⟩)
              · rw [if_neg d2]
                exact wpS_pure ⟨_,_,_,_,_,rfl,W2,by simp;omega,k'⟩
        case post1 =>
          rintro c st2 (⟨m,e,r,k'⟩ | ⟨o',na',nb',ac,bc,rfl,W',hl,k'⟩)
          · obtain ⟨r1,c⟩:=c
            dsimp only at e
            subst e
            exact wpS_pure ⟨m,rfl,r,k'⟩
          · dsimp only
            refine wpS_bind (wpS_lift (wpAny_rule ⟨rfl,?_⟩))
            refine wpS_bind (wpS_mono (wpS_forRange (fun y c st3=>∃ o2 na2 nb2 mg2 ac2 bc2,c=(none,na2,nb2,imZ it o2.reverse,mg2,ac2,bc2)∧WayHZ lt a b o2 na2 nb2∧o.length + 1 + y≤o2.length∧SteZ κ st st3) (Q:=fun c st3=>FinZ κ it lt a b st c.1 st3∨∃ o2 na2 nb2 mg2 ac2 bc2,c=(none,na2,nb2,imZ it o2.reverse,mg2,ac2,bc2)∧WayHZ lt a b o2 na2 nb2∧o.length < o2.length∧SteZ κ st st3) ?step2 ?fin2 ⟨o',na',nb',_,ac,bc,rfl,W',hl,k'⟩) ?post2)
            case fin2 =>
              rintro c st3 ⟨o2,na2,nb2,mg2,ac2,bc2,rfl,W2,hl2,k2⟩
              have:=W2.len
              omega
            case step2 =>
              rintro y c st3 _ hy ⟨o2,na2,nb2,mg2,ac2,bc2,rfl,W2,hl2,k2⟩
              dsimp only
              have w1:=W2.ha
              have w2:=W2.la
              have w3:=W2.hb
              have w4:=W2.lb
              obtain ⟨xb,gb⟩:∃ xb,b[nb2 - 1]?=some xb:=⟨_,List.getElem?_eq_getElem (by omega)⟩
              have mb:=List.mem_of_getElem? gb
              have go:∀ g:Nat,wpS (model prog w) A E s (do
                  setGalZ g
                  let u ← elem' (imZ it b) (nb2 - 1)
                  match ← gallopGZ false u (imZ it a) 0 na2 (na2 - 1) with
                  | some k=>if na2 - k > 0 then (if (k == 0)=true then pure (.done (some ((imZ it a).extract 0 k ++ (imZ it b).extract 0 nb2 ++ (imZ it o2.reverse ++ ((imZ it a).extract k na2).reverse).reverse),k,nb2,imZ it o2.reverse ++ ((imZ it a).extract k na2).reverse,g,na2 - k,bc2)) else hiT1Z (imZ it a) (imZ it b) g (na2 - k) bc2 k nb2 (imZ it o2.reverse ++ ((imZ it a).extract k na2).reverse)) else hiT1Z (imZ it a) (imZ it b) g (na2 - k) bc2 na2 nb2 (imZ it o2.reverse)
                  | _=>pure (.done (some ((imZ it a).extract 0 na2 ++ (imZ it b).extract 0 nb2 ++ (imZ it o2.reverse).reverse),na2,nb2,imZ it o2.reverse,g,ac2,bc2)):SMZ (ForInStep HiSZ)) (HiQZ κ it lt a b st (o.length + 1 + y)) st3:=by
                intro g
                refine wpS_bind (wpS_modify ?_)
                have k3:SteZ κ st (SortSt.mk' (kindOf st3) (arrOf st3) (pendingOf st3) g (failedOf st3)):=⟨k2.k,k2.f,k2.a,k2.p⟩
                refine wpS_bind (wpS_elemZ (im_getZ gb) ?_)
                refine wpS_bind (wpS_gallopZ S hc k3.k (P.nB _ mb) (fun x hx=>?_) ?_ (by omega) (by omega) fun j hj lo hi=>?_)
                · rw [List.drop_zero] at hx;exact ⟨P.nA _ (take_memZ hx),P.dj _ (take_memZ hx) _ mb⟩
                · rw [List.drop_zero];exact W2.m.sp
                · rw [List.drop_zero] at lo hi
                  dsimp only
                  rw [im_cutZ hj,im_outsZ,outRZ,eA,eB]
                  have M3:MJZ lt a b ((a.take na2).drop j ++ o2) (a.take j) (b.take nb2):=by
                    have m:=W2.m
                    rw [take_moreZ hj] at m
                    refine m.left fun x hx z hz=>?_
                    have xa':x∈a:=take_memZ (List.mem_of_mem_drop hx)
                    have:=last_aboveZ S P.sb P.nB gb (P.nA _ xa') (hi x hx)
                    rw [show nb2 - 1 + 1=nb2 by omega] at this
                    exact this z hz
                  have nx:0 < j→∃ z,a[j - 1]?=some z∧lt z xb=true:=fun h=>by
                    have g:a[j - 1]?=some a[j - 1]:=List.getElem?_eq_getElem (by omega)
                    refine ⟨a[j - 1],g,lo _ ?_⟩
                    have t:=take_snocZ g
                    rw [show j - 1 + 1=j by omega] at t
                    rw [t];exact List.mem_append_right _ (List.mem_singleton_self _)
                  by_cases z:na2 - j > 0
                  · rw [if_pos z]
                    by_cases d1:(j == 0)=true
                    · rw [if_pos d1]
                      refine wpS_pure (.inl ⟨_,?_,endA M3 (by simpa using d1),k3⟩)
                      rw [im_appZ,im_appZ]
                    · rw [if_neg d1]
                      have d1':j≠0:=by simpa using d1
                      obtain ⟨z,gz,lz⟩:=nx (by omega)
                      exact wpS_hiT1Z S hc P k3 M3 (by omega) (by omega) w3 w4 gz gb lz (by simp;omega)
                  · rw [if_neg z]
                    obtain rfl:j=na2:=by omega
                    obtain ⟨z,gz,lz⟩:=nx (by omega)
                    exact wpS_hiT1Z S hc P k3 W2.m w1 w2 w3 w4 gz gb lz (by omega)
              have fitD:∀ c' st4,HiQZ κ it lt a b st (o.length + 1 + y) (.done c') st4→FinZ κ it lt a b st c'.1 st4∨∃ o2 na2 nb2 mg2 ac2 bc2,c'=(none,na2,nb2,imZ it o2.reverse,mg2,ac2,bc2)∧WayHZ lt a b o2 na2 nb2∧o.length < o2.length∧SteZ κ st st4:=by
                intro c st4 h
                rcases h with h | ⟨o3,na3,nb3,mg3,ac3,bc3,e,W3,l3,k4⟩
                · exact .inl h
                · exact .inr ⟨o3,na3,nb3,mg3,ac3,bc3,e,W3,by omega,k4⟩
              have fitY:∀ c' st4,HiQZ κ it lt a b st (o.length + 1 + y) (.yield c') st4→∃ o2 na2 nb2 mg2 ac2 bc2,c'=(none,na2,nb2,imZ it o2.reverse,mg2,ac2,bc2)∧WayHZ lt a b o2 na2 nb2∧o.length + 1 + (y + 1)≤o2.length∧SteZ κ st st4:=by
                intro c st4 h
                obtain ⟨o3,na3,nb3,mg3,ac3,bc3,e,W3,l3,k4⟩:=h
                exact ⟨o3,na3,nb3,mg3,ac3,bc3,e,W3,by omega,k4⟩
              by_cases d:mg2 > 1
              · rw [if_pos d]
                exact wpS_mono (go (mg2 - 1)) fun r st4 h=>by cases r with | done c=>exact fitD _ _ h | yield c=>exact fitY _ _ h
              · rw [if_neg d]
                exact wpS_mono (go mg2) fun r st4 h=>by cases r with | done c=>exact fitD _ _ h | yield c=>exact fitY _ _ h
            case post2 =>
              rintro c st3 (⟨m,e,r,k2⟩ | ⟨o2,na2,nb2,mg2,ac2,bc2,rfl,W2,hl2,k2⟩)
              · obtain ⟨r1,c⟩:=c
                dsimp only at e
                subst e
                exact wpS_pure ⟨m,rfl,r,k2⟩
              · dsimp only
                refine wpS_bind (wpS_modify (wpS_pure ⟨o2,na2,nb2,_,rfl,W2,by omega,?_⟩))
                exact ⟨k2.k,k2.f,k2.a,k2.p⟩
end
end L2
namespace L2
open PySem PySem.W PyProof.Rows
section
variable {prog:Program} {w:World} {A:Around} {E:Value→Shared→Prop} {s:Shared} {κ:SortKind} {it:Nat→Keyed} {lt:Nat→Nat→Bool} {N:Nat}
def RiseSZ (lt:Nat→Nat→Bool) (p:Array Nat) (lo m:Nat):Prop:=∀ i j,i < j→j < m→lt (gt p (lo + i)) (gt p (lo + j))=true
structure SAZ (κ:SortKind) (it:Nat→Keyed) (N:Nat) (p:Array Nat) (st:SortSt):Prop where
  k:kindOf st=κ
  f:failedOf st=none
  a:arrOf st=p.map it
  pp:PP N p
theorem SAZ.set {p p':Array Nat} {st:SortSt} (h:SAZ κ it N p st) (hp:PP N p'):SAZ κ it N p' (setArr st (p'.map it)):=⟨h.k,h.f,rfl,hp⟩
theorem wpS_atZ {st:SortSt} {p:Array Nat} {i j:Nat} {Q:Option Bool→SortSt→Prop} (hc:CmpAtZ prog w A s κ it lt N) (h:SAZ κ it N p st) (hi:i < N) (hj:j < N) (hij:i≠j) (q:Q (some (lt (gt p i) (gt p j))) st):wpS (model prog w) A E s (ltAt' i j) Q st:=by
  rw [ltAt'_eq]
  refine wpS_bind (wpS_get ?_)
  have sz:=h.pp.size
  have gi:(arrOf st)[i]?=some (it (gt p i)):=by rw [h.a,Array.getElem?_map,gt_eq (by omega)];rfl
  have gj:(arrOf st)[j]?=some (it (gt p j)):=by rw [h.a,Array.getElem?_map,gt_eq (by omega)];rfl
  exact wpS_bind (wpS_elemZ gi (wpS_bind (wpS_elemZ gj (wpS_cmpZ hc h.k (h.pp.blt hi) (h.pp.blt hj) (fun z=>hij (h.pp.inj hi hj z)) q))))
theorem rise_moreZ (S:SO lt N) {p:Array Nat} {lo m:Nat} (hp:PP N p) (h:RiseSZ lt p lo m) (h1:1≤m) (hm:lo + m < N) (c:lt (gt p (lo + m)) (gt p (lo + m - 1))=false):RiseSZ lt p lo (m + 1):=by
  have up:lt (gt p (lo + m - 1)) (gt p (lo + m))=true:=S.tot _ _ (hp.blt hm) (hp.blt (by omega)) (fun z=>by have:=hp.inj hm (by omega) z;omega) c
  intro i j hij hj
  by_cases e:j < m
  · exact h i j hij e
  · obtain rfl:j=m:=by omega
    by_cases e2:i=j - 1
    · rw [e2,show lo + (j - 1)=lo + j - 1 by omega];exact up
    · refine S.trans _ (gt p (lo + j - 1)) _ (hp.blt (by omega)) (hp.blt (by omega)) (hp.blt hm) ?_ up
      have:=h i (j - 1) (by omega) (by omega)
      rwa [show lo + (j - 1)=lo + j - 1 by omega] at this
theorem mirror_mapZ (p:Array Nat) (i j d:Nat):mirror (p.map it) i j d=(mirror p i j d).map it:=kas_swaps_map it (fun k=>i + k) (fun k=>j - 1 - k) _ p
theorem bubble_mapZ (p:Array Nat) (i d:Nat):bubble (p.map it) i d=(bubble p i d).map it:=kas_swaps_map it (fun k=>i - k) (fun k=>i - k - 1) _ p
theorem rev_atZ {p:Array Nat} {i j k:Nat} (hj:j≤p.size) (hk:k < p.size):gt (mirror p i j ((j - i) / 2)) k=if i≤k∧k < j then gt p (i + j - 1 - k) else gt p k:=by
  have e:=getElem?_mirror_all (xs:=p) (i:=i) (j:=j) hj k
  have e1:=gt_eq (p:=mirror p i j ((j - i) / 2)) (k:=k) (by rw [mirror_size];exact hk)
  rw [e] at e1
  by_cases c:i≤k∧k < j
  · rw [if_pos c] at e1 ⊢
    rw [gt_eq (by omega)] at e1
    exact (Option.some.inj e1).symm
  · rw [if_neg c] at e1 ⊢
    rw [gt_eq hk] at e1
    exact (Option.some.inj e1).symm
theorem wpS_countZ {st:SortSt} {p:Array Nat} {lo nrem:Nat} {Q:Option Nat→SortSt→Prop} (S:SO lt N) (hc:CmpAtZ prog w A s κ it lt N) (h:SAZ κ it N p st) (h1:1≤nrem) (h2:lo + nrem≤N)
    (q:∀ m p',1≤m→m≤nrem→SAZ κ it N p' (setArr st (p'.map it))→(∀ i,i < lo→gt p' i=gt p i)→RiseSZ lt p' lo m→Q (some m) (setArr st (p'.map it))) :
    wpS (model prog w) A E s (countRun' lo nrem) Q st:=by
  have sz:=h.pp.size
  have st0:setArr st (p.map it)=st:=by rw [← h.a]
  refine wpS_bind (wpS_mono (wpS_forRange (fun x c st'=>st=st'∧c=(none,x)∧RiseSZ lt p lo x) (Q:=fun c st'=>st=st'∧∃ m,c=(none,m)∧1≤m∧m≤nrem∧RiseSZ lt p lo m∧(m < nrem→lt (gt p (lo + m)) (gt p (lo + m - 1))=true)) ?step ?fin ⟨rfl,rfl,fun i j hij hj=>by omega⟩) ?post)
  case step =>
    rintro x c st' hx1 hx ⟨rfl,rfl,r⟩
    dsimp only
    refine wpS_bind (wpS_atZ hc h (by omega) (by omega) (by omega) ?_)
    dsimp only
    cases e:lt (gt p (lo + x)) (gt p (lo + x - 1)) with
    | true =>
      rw [if_pos rfl]
      exact wpS_pure ⟨rfl,x,rfl,hx1,by omega,r,fun _=>e⟩
    | false =>
      rw [if_neg (by decide)]
      exact wpS_pure ⟨rfl,rfl,rise_moreZ S h.pp r hx1 (by omega) e⟩
  case fin =>
    rintro c st' ⟨rfl,rfl,r⟩
    exact ⟨rfl,_,rfl,by omega,by omega,r,fun z=>by omega⟩
  case post =>
    rintro c st' ⟨rfl,m,rfl,m1,m2,r,tn⟩
    dsimp only
    by_cases c1:(m == nrem)=true
    · rw [if_pos c1]
      refine wpS_pure ?_
      have:=q m p m1 m2 (h.set h.pp) (fun _ _=>rfl) r
      rw [st0] at this
      exact this
    · rw [if_neg c1]
      have c1':m≠nrem:=by simpa using c1
      by_cases c2:m > 1
      · rw [if_pos c2]
        refine wpS_bind (wpS_atZ hc h (by omega) (by omega) (by omega) ?_)
        dsimp only
        have ro:=r 0 (m - 1) (by omega) (by omega)
        rw [Nat.add_zero,show lo + (m - 1)=lo + m - 1 by omega] at ro
        rw [ro,if_pos rfl]
        refine wpS_pure ?_
        have:=q m p m1 m2 (h.set h.pp) (fun _ _=>rfl) r
        rw [st0] at this
        exact this
      · rw [if_neg c2]
        obtain rfl:m=1:=by omega
        have dn:=tn (by omega)
        refine wpS_bind (wpS_lift (wpAny_rule ⟨rfl,?_⟩))
        -- the part that falls
        refine wpS_bind (wpS_mono (wpS_forRange (fun x c st'=>st=st'∧c=(none,x,0)∧∀ i j,i < j→j < x→lt (gt p (lo + j)) (gt p (lo + i))=true) (Q:=fun c st'=>st=st'∧∃ x,c=(none,x,0)∧2≤x∧x≤nrem∧∀ i j,i < j→j < x→lt (gt p (lo + j)) (gt p (lo + i))=true) ?step2 ?fin2 ⟨rfl,rfl,fun i j hij hj=>(by
          obtain rfl:j=1:=by omega
          obtain rfl:i=0:=by omega
          exact dn)⟩) ?post2)
        case step2 =>
          rintro x c st' hx1 hx ⟨rfl,rfl,f⟩
          dsimp only
          refine wpS_bind (wpS_atZ hc h (by omega) (by omega) (by omega) ?_)
          dsimp only
          cases e:lt (gt p (lo + x)) (gt p (lo + x - 1)) with
          | true =>
            rw [if_pos rfl,if_neg (by decide)]
            refine wpS_pure ⟨rfl,rfl,fun i j hij hj=>?_⟩
            by_cases e1:j < x
            · exact f i j hij e1
            · obtain rfl:j=x:=by omega
              by_cases e2:i=j - 1
              · rw [e2,show lo + (j - 1)=lo + j - 1 by omega];exact e
              · refine S.trans _ (gt p (lo + j - 1)) _ (h.pp.blt (by omega)) (h.pp.blt (by omega)) (h.pp.blt (by omega)) e ?_
                have:=f i (j - 1) (by omega) (by omega)
                rwa [show lo + (j - 1)=lo + j - 1 by omega] at this
          | false =>
            rw [if_neg (by decide)]
            refine wpS_bind (wpS_atZ hc h (by omega) (by omega) (by omega) ?_)
            dsimp only
            have up:lt (gt p (lo + x - 1)) (gt p (lo + x))=true:=S.tot _ _ (h.pp.blt (by omega)) (h.pp.blt (by omega)) (fun z=>by have:=h.pp.inj (by omega) (by omega) z;omega) e
            rw [up,if_pos rfl]
            exact wpS_pure ⟨rfl,x,rfl,hx1,by omega,f⟩
        case fin2 =>
          rintro c st' ⟨rfl,rfl,f⟩
          exact ⟨rfl,_,rfl,by omega,by omega,f⟩
        case post2 =>
          rintro c st' ⟨rfl,x,rfl,x2,xn,f⟩
          dsimp only
          rw [if_neg (by decide)]
          refine wpS_bind (wpS_modify ?_)
          have es:(fun s=>setArr s (mirror (arrOf s) lo (lo + x) ((lo + x - lo) / 2))) st=setArr st ((mirror p lo (lo + x) ((lo + x - lo) / 2)).map it):=by
            show setArr st (mirror (arrOf st) lo (lo + x) ((lo + x - lo) / 2))=_
            rw [h.a,mirror_mapZ]
          have hp':PP N (mirror p lo (lo + x) ((lo + x - lo) / 2)):=Array.Perm.trans (mirror_perm _ _ _ _) h.pp
          have g':∀ k,k < N→gt (mirror p lo (lo + x) ((lo + x - lo) / 2)) k=if lo≤k∧k < lo + x then gt p (lo + (lo + x) - 1 - k) else gt p k:=fun k hk=>rev_atZ (by omega) (by omega)
          show wpS (model prog w) A E s _ Q ((fun s=>setArr s (mirror (arrOf s) lo (lo + x) ((lo + x - lo) / 2))) st)
          rw [es]
          generalize mirror p lo (lo + x) ((lo + x - lo) / 2)=p' at *
          have h':=h.set hp'
          have r':RiseSZ lt p' lo x:=fun i j hij hj=>by
            rw [g' _ (by omega),g' _ (by omega),if_pos ⟨by omega,by omega⟩,if_pos ⟨by omega,by omega⟩]
            have:=f (x - 1 - j) (x - 1 - i) (by omega) (by omega)
            rwa [show lo + (x - 1 - i)=lo + (lo + x) - 1 - (lo + i) by omega,show lo + (x - 1 - j)=lo + (lo + x) - 1 - (lo + j) by omega] at this
          have kp:∀ i,i < lo→gt p' i=gt p i:=fun i hi=>by rw [g' i (by omega),if_neg (by omega)]
          refine wpS_bind (wpS_mono (wpS_forRange (fun y c st'=>setArr st (p'.map it)=st'∧c=(none,y)∧RiseSZ lt p' lo y) (Q:=fun c st'=>setArr st (p'.map it)=st'∧∃ m,c=(none,m)∧1≤m∧m≤nrem∧RiseSZ lt p' lo m) ?step3 ?fin3 ⟨rfl,rfl,r'⟩) ?post3)
          case step3 =>
            rintro y c st' hy1 hy ⟨rfl,rfl,r⟩
            dsimp only
            refine wpS_bind (wpS_atZ hc h' (by omega) (by omega) (by omega) ?_)
            dsimp only
            cases e:lt (gt p' (lo + y)) (gt p' (lo + y - 1)) with
            | true =>
              rw [if_pos rfl]
              exact wpS_pure ⟨rfl,y,rfl,by omega,by omega,r⟩
            | false =>
              rw [if_neg (by decide)]
              exact wpS_pure ⟨rfl,rfl,rise_moreZ S hp' r (by omega) (by omega) e⟩
          case fin3 =>
            rintro c st' ⟨rfl,rfl,r⟩
            exact ⟨rfl,_,rfl,by omega,by omega,r⟩
          case post3 =>
            rintro c st' ⟨rfl,m,rfl,m1,m2,r⟩
            exact wpS_pure (q m p' m1 m2 h' kp r)
theorem wpS_binZ {st:SortSt} {p:Array Nat} {lo n ok:Nat} {Q:Bool→SortSt→Prop} (S:SO lt N) (hc:CmpAtZ prog w A s κ it lt N) (h:SAZ κ it N p st) (h1:1≤ok) (h2:ok≤n) (h3:lo + n≤N) (r:RiseSZ lt p lo ok)
    (q:∀ p',SAZ κ it N p' (setArr st (p'.map it))→(∀ i,i < lo→gt p' i=gt p i)→RiseSZ lt p' lo n→Q true (setArr st (p'.map it))) :
    wpS (model prog w) A E s (binarySort' lo n ok) Q st:=by
  have sz:=h.pp.size
  refine wpS_bind (wpS_mono (wpS_forRange (fun x c st'=>∃ p',setArr st (p'.map it)=st'∧c=(none,())∧PP N p'∧(∀ i,i < lo→gt p' i=gt p i)∧RiseSZ lt p' lo x) (Q:=fun c st'=>∃ p',setArr st (p'.map it)=st'∧c=(none,())∧PP N p'∧(∀ i,i < lo→gt p' i=gt p i)∧RiseSZ lt p' lo n) ?step ?fin ⟨p,by rw [← h.a],rfl,h.pp,fun _ _=>rfl,by rw [Nat.max_eq_left h1];exact r⟩) ?post)
  case fin =>
    rintro c st' ⟨p',rfl,rfl,hp,kp,r⟩
    exact ⟨p',rfl,rfl,hp,kp,by rw [show max (max ok 1) n=n by omega] at r;exact r⟩
  case post =>
    rintro c st' ⟨p',rfl,rfl,hp,kp,r⟩
    exact wpS_pure (q p' (h.set hp) kp r)
  case step =>
    rintro x c st' hx1 hx ⟨p',rfl,rfl,hp,kp,r⟩
    dsimp only
    have h':=h.set hp
    have sz':=hp.size
    refine wpS_bind (wpS_mono (wpS_forRange (fun y c st2=>setArr st (p'.map it)=st2∧∃ l u,c=(none,l,u)∧l≤u∧u≤x∧u - l≤x - y∧(∀ i,i < l→lt (gt p' (lo + i)) (gt p' (lo + x))=true)∧(∀ i,u≤i→i < x→lt (gt p' (lo + x)) (gt p' (lo + i))=true)) (Q:=fun c st2=>setArr st (p'.map it)=st2∧∃ l u,c=(none,l,u)∧l≤x∧(∀ i,i < l→lt (gt p' (lo + i)) (gt p' (lo + x))=true)∧(∀ i,l≤i→i < x→lt (gt p' (lo + x)) (gt p' (lo + i))=true)) ?step1 ?fin1 ⟨rfl,0,x,rfl,by omega,by omega,by omega,fun i hi=>by omega,fun i h1 h2=>by omega⟩) ?post1)
    case fin1 =>
      rintro c st2 ⟨rfl,l,u,rfl,a1,a2,a3,a4,a5⟩
      have:l=u:=by omega
      subst this
      exact ⟨rfl,l,l,rfl,a2,a4,a5⟩
    case step1 =>
      rintro y c st2 _ hy ⟨rfl,l,u,rfl,a1,a2,a3,a4,a5⟩
      dsimp only
      by_cases c1:l ≥ u
      · rw [if_pos c1]
        have:l=u:=by omega
        subst this
        exact wpS_pure ⟨rfl,l,l,rfl,a2,a4,a5⟩
      · rw [if_neg c1]
        refine wpS_bind (wpS_atZ hc h' (by omega) (by omega) (by omega) ?_)
        dsimp only
        cases e:lt (gt p' (lo + x)) (gt p' (lo + (l + u) / 2)) with
        | true =>
          rw [if_pos rfl]
          refine wpS_pure ⟨rfl,l,(l + u) / 2,rfl,by omega,by omega,by omega,a4,fun i h1 h2=>?_⟩
          by_cases d:i=(l + u) / 2
          · rw [d];exact e
          · exact S.trans _ _ _ (hp.blt (by omega)) (hp.blt (by omega)) (hp.blt (by omega)) e (r _ _ (by omega) h2)
        | false =>
          rw [if_neg (by decide)]
          have up:=S.tot _ _ (hp.blt (by omega)) (hp.blt (by omega)) (fun z=>by have:=hp.inj (by omega) (by omega) z;omega) e
          refine wpS_pure ⟨rfl,(l + u) / 2 + 1,u,rfl,by omega,a2,by omega,fun i hi=>?_,a5⟩
          by_cases d:i=(l + u) / 2
          · rw [d];exact up
          · exact S.trans _ _ _ (hp.blt (by omega)) (hp.blt (by omega)) (hp.blt (by omega)) (r _ _ (by omega) (by omega)) up
    case post1 =>
      rintro c st2 ⟨rfl,l,u,rfl,a1,a2,a3⟩
      dsimp only
      refine wpS_bind (wpS_modify ?_)
      have es:(fun s=>setArr s (bubble (arrOf s) (lo + x) (lo + x - (lo + l)))) (setArr st (p'.map it))=setArr st ((bubble p' (lo + x) (lo + x - (lo + l))).map it):=by
        show setArr _ (bubble (p'.map it) _ _)=_
        rw [bubble_mapZ]
      show wpS (model prog w) A E s _ _ ((fun s=>setArr s (bubble (arrOf s) (lo + x) (lo + x - (lo + l)))) (setArr st (p'.map it)))
      rw [es]
      have g':∀ j,j < N→gt (bubble p' (lo + x) (lo + x - (lo + l))) j=if j=lo + l then gt p' (lo + x) else if lo + l < j∧j≤lo + x then gt p' (j - 1) else gt p' j:=fun j hj=>by
        have:=bub_gt (p:=p') (k:=lo + x) (d:=lo + x - (lo + l)) (j:=j) (by omega) (by omega) (by omega)
        rwa [show lo + x - (lo + x - (lo + l))=lo + l by omega] at this
      have hp':PP N (bubble p' (lo + x) (lo + x - (lo + l))):=Array.Perm.trans (bubble_perm _ _ _) hp
      generalize bubble p' (lo + x) (lo + x - (lo + l))=p2 at *
      refine wpS_pure ⟨p2,rfl,rfl,hp',fun i hi=>?_,fun i j hij hj=>?_⟩
      · rw [g' i (by omega),if_neg (by omega),if_neg (by omega)];exact kp i hi
      · rw [g' _ (by omega),g' _ (by omega)]
        by_cases c1:i=l
        · rw [if_pos (by omega),if_neg (by omega),if_pos (by omega),show lo + j - 1=lo + (j - 1) by omega]
          exact a3 _ (by omega) (by omega)
        · rw [if_neg (by omega)]
          by_cases c2:l < i∧i≤x
          · rw [if_pos (by omega),if_neg (by omega),if_pos (by omega),show lo + j - 1=lo + (j - 1) by omega,show lo + i - 1=lo + (i - 1) by omega]
            exact r _ _ (by omega) (by omega)
          · rw [if_neg (by omega)]
            by_cases c3:j=l
            · rw [if_pos (by omega)];exact a2 _ (by omega)
            · rw [if_neg (by omega)]
              by_cases c4:l < j∧j≤x
              · rw [if_pos (by omega),show lo + j - 1=lo + (j - 1) by omega]
                exact r _ _ (by omega) (by omega)
              · rw [if_neg (by omega)]
                exact r _ _ hij (by omega)
end
end L2
namespace L2
open PySem PySem.W PyProof.Rows
theorem fold_setZ {α:Type} (off:Nat):∀ (l:List α) (arr:Array α) (j:Nat),off + j + l.length≤arr.size→(l.zipIdx j).foldl (fun a x=>match x with | (p,j)=>a.setIfInBounds (off + j) p) arr=(arr.toList.take (off + j) ++ l ++ arr.toList.drop (off + j + l.length)).toArray
  | [],arr,j,h=>by simp
  | x :: t,arr,j,h=>by
    rw [List.length_cons] at h
    rw [List.zipIdx_cons,List.foldl_cons]
    have e:=fold_setZ off t (arr.setIfInBounds (off + j) x) (j + 1) (by simp;omega)
    dsimp only at e ⊢
    rw [e]
    congr 1
    have es:(arr.setIfInBounds (off + j) x).toList=arr.toList.take (off + j) ++ x :: arr.toList.drop (off + j + 1):=by
      rw [Array.toList_setIfInBounds,List.set_eq_take_append_cons_drop,if_pos (by simp;omega)]
    have lt:(arr.toList.take (off + j)).length=off + j:=by rw [List.length_take,Array.length_toList];omega
    have a1:∀ (U D:List α) (n:Nat),U.length=n→(U ++ x :: D).take (n + 1)=U ++ [x]:=fun U D n h=>by
      rw [List.take_append,List.take_of_length_le (by omega),show n + 1 - U.length=1 by omega];rfl
    have a2:∀ (U D:List α) (n k:Nat),U.length=n→(U ++ x :: D).drop (n + 1 + k)=D.drop k:=fun U D n k h=>by
      rw [List.drop_append,List.drop_eq_nil_of_le (by omega),show n + 1 + k - U.length=k + 1 by omega];rfl
    rw [es,show off + (j + 1)=(off + j) + 1 by omega,a1 _ _ _ lt,a2 _ _ _ _ lt,List.drop_drop,List.length_cons,show off + j + 1 + t.length=off + j + (t.length + 1) by omega]
    simp
section
variable {prog:Program} {w:World} {A:Around} {E:Value→Shared→Prop} {s:Shared} {κ:SortKind} {it:Nat→Keyed} {lt:Nat→Nat→Bool} {N:Nat}
theorem map_imZ (p:Array Nat):p.map it=imZ it p.toList:=by apply Array.toList_inj.mp;simp [imZ]
theorem wpS_setZ {M:Model} {st st':SortSt} {Q:PUnit→SortSt→Prop} (q:Q ⟨⟩ st'):wpS M A E s (set st':SMZ PUnit) Q st:=by
  unfold wpS
  exact wpAny_pure ⟨rfl,q⟩
theorem gt_listZ {p:Array Nat} {k:Nat} (h:k < p.size):p.toList[k]?=some (gt p k):=by
  rw [Array.getElem?_toList];exact gt_eq h
theorem seg_getZ {p:Array Nat} {lo m i:Nat} (h:lo + m≤p.size) (hi:i < m):((p.toList.drop lo).take m)[i]?=some (gt p (lo + i)):=by
  rw [List.getElem?_take_of_lt hi,List.getElem?_drop,gt_listZ (by omega)]
theorem seg_lenZ {p:Array Nat} {lo m:Nat} (h:lo + m≤p.size):((p.toList.drop lo).take m).length=m:=by
  rw [List.length_take,List.length_drop,Array.length_toList];omega
theorem seg_memZ {p:Array Nat} {lo m x:Nat} (h:lo + m≤p.size) (hx:x∈(p.toList.drop lo).take m):∃ i,i < m∧x=gt p (lo + i):=by
  obtain ⟨i,hi⟩:=List.getElem?_of_mem hx
  have il:=(List.getElem?_eq_some_iff.mp hi).1
  rw [seg_lenZ h] at il
  rw [seg_getZ h il] at hi
  exact ⟨i,il,(Option.some.inj hi).symm⟩
theorem seg_inZ {p:Array Nat} {lo m i:Nat} (h:lo + m≤p.size) (hi:i < m):gt p (lo + i)∈(p.toList.drop lo).take m:=List.mem_of_getElem? (seg_getZ h hi)
theorem seg_riseZ {p:Array Nat} {lo m:Nat} (h:lo + m≤p.size) (r:RiseSZ lt p lo m):((p.toList.drop lo).take m).Pairwise fun x y=>lt x y=true:=by
  rw [List.pairwise_iff_getElem]
  intro i j hi hj hij
  rw [seg_lenZ h] at hi hj
  have gi:=List.getElem?_eq_some_iff.mp (seg_getZ h hi)
  have gj:=List.getElem?_eq_some_iff.mp (seg_getZ h hj)
  rw [gi.2,gj.2]
  exact r i j hij hj
theorem RiseSZ.sub {p:Array Nat} {lo m k n:Nat} (r:RiseSZ lt p lo m) (h:k + n≤m):RiseSZ lt p (lo + k) n:=fun i j hij hj=>by
  have:=r (k + i) (k + j) (by omega) (by omega)
  rwa [← Nat.add_assoc,← Nat.add_assoc] at this
theorem RiseSZ.same {p p':Array Nat} {lo m:Nat} (r:RiseSZ lt p lo m) (h:∀ i,i < m→gt p' (lo + i)=gt p (lo + i)):RiseSZ lt p' lo m:=fun i j hij hj=>by
  rw [h i (by omega),h j hj];exact r i j hij hj
def putSegZ (p:Array Nat) (off:Nat) (m:List Nat):Array Nat:=(p.toList.take off ++ m ++ p.toList.drop (off + m.length)).toArray
theorem put_gtZ {p:Array Nat} {off:Nat} {m:List Nat} (h:off + m.length≤p.size) {k:Nat} (hk:k < p.size):gt (putSegZ p off m) k=if off≤k∧k < off + m.length then m.getD (k - off) 0 else gt p k:=by
  have lt:(p.toList.take off).length=off:=by rw [List.length_take,Array.length_toList];omega
  have e:gt (putSegZ p off m) k=((p.toList.take off ++ m ++ p.toList.drop (off + m.length))[k]?).getD 0:=by
    unfold gt putSegZ
    rw [Array.getD_eq_getD_getElem?]
    simp
  rw [e]
  by_cases c1:k < off
  · rw [if_neg (by omega),List.append_assoc,List.getElem?_append_left (by omega),List.getElem?_take_of_lt c1,gt_listZ hk];rfl
  · by_cases c2:k < off + m.length
    · rw [if_pos ⟨by omega,c2⟩,List.append_assoc,List.getElem?_append_right (by omega),lt,List.getElem?_append_left (by omega),List.getD_eq_getElem?_getD]
    · rw [if_neg (by omega),List.append_assoc,List.getElem?_append_right (by omega),lt,List.getElem?_append_right (by omega),List.getElem?_drop,show off + m.length + (k - off - m.length)=k by omega,gt_listZ hk];rfl
theorem put_permZ {p:Array Nat} {off:Nat} {m:List Nat} (hp:PP N p) (h:m.Perm ((p.toList.drop off).take m.length)):PP N (putSegZ p off m):=by
  refine Array.Perm.trans ?_ hp
  rw [Array.perm_iff_toList_perm]
  unfold putSegZ
  show (p.toList.take off ++ m ++ p.toList.drop (off + m.length)).Perm p.toList
  have e:p.toList=p.toList.take off ++ (p.toList.drop off).take m.length ++ p.toList.drop (off + m.length):=by
    rw [List.append_assoc,← List.drop_drop,List.take_append_drop,List.take_append_drop]
  conv=>rhs;rw [e]
  exact List.Perm.append_right _ (List.Perm.append_left _ h)
theorem wpS_mergeAtZ {st:SortSt} {p:Array Nat} {pre post:List (Nat × Nat × Nat)} {sa na pw sb nb pw2 i:Nat} {Q:Bool→SortSt→Prop} (S:SO lt N) (hc:CmpAtZ prog w A s κ it lt N) (h:SAZ κ it N p st) (hpd:pendingOf st=(pre ++ (sa,na,pw) :: (sb,nb,pw2) :: post).toArray) (hi:i=pre.length) (e:sb=sa + na) (r1:RiseSZ lt p sa na) (r2:RiseSZ lt p sb nb) (n1:0 < na) (n2:0 < nb) (hN:sb + nb≤N)
    (q:∀ p' st',SAZ κ it N p' st'→pendingOf st'=(pre ++ (sa,na + nb,pw) :: post).toArray→(∀ k,k < N→k < sa∨sa + na + nb≤k→gt p' k=gt p k)→RiseSZ lt p' sa (na + nb)→Q true st') :
    wpS (model prog w) A E s (mergeAt' i) Q st:=by
  subst hi
  have sz:=h.pp.size
  refine wpS_bind (wpS_get ?_)
  have g1:(pendingOf st)[pre.length]?=some (sa,na,pw):=by rw [hpd];simp
  have g2:(pendingOf st)[pre.length + 1]?=some (sb,nb,pw2):=by rw [hpd];simp
  have pd':((pendingOf st).setIfInBounds pre.length (sa,na + nb,pw)).eraseIdxIfInBounds (pre.length + 1)=(pre ++ (sa,na + nb,pw) :: post).toArray:=by
    rw [hpd]
    apply Array.toList_inj.mp
    simp only [List.setIfInBounds_toArray,List.eraseIdxIfInBounds_toArray]
    rw [List.set_append_right _ _ (Nat.le_refl _),Nat.sub_self,List.set_cons_zero,List.eraseIdx_append_of_length_le (by omega),show pre.length + 1 - pre.length=1 by omega]
    rfl
  rw [g1,g2]
  dsimp only
  refine wpS_bind (wpS_setZ ?_)
  rw [pd']
  have hA:arrOf st=imZ it p.toList:=by rw [h.a,map_imZ]
  have gb0:=h.pp.blt (k:=sb) (by omega)
  have inj:∀ {k l:Nat},k < N→l < N→k≠l→gt p k≠gt p l:=fun hk hl n z=>n (h.pp.inj hk hl z)
  have hA':(sortPriv% PySem.Builtin.SortState.a) st=imZ it p.toList:=hA
  rw [hA']
  refine wpS_bind (wpS_elemZ (im_getZ (gt_listZ (k:=sb) (by omega))) ?_)
  show wpS (model prog w) A E s _ Q (SortSt.mk' (kindOf st) (imZ it p.toList) (pre ++ (sa,na + nb,pw) :: post).toArray (gallopOf st) (failedOf st))
  generalize est:SortSt.mk' (kindOf st) (imZ it p.toList) (pre ++ (sa,na + nb,pw) :: post).toArray (gallopOf st) (failedOf st)=st1
  have h1:SAZ κ it N p st1:=by rw [← est];exact ⟨h.k,h.f,(map_imZ p).symm,h.pp⟩
  have hp1:pendingOf st1=(pre ++ (sa,na + nb,pw) :: post).toArray:=by rw [← est]
  refine wpS_bind (wpS_gallopZ S hc h1.k gb0 (fun x hx=>?_) (seg_riseZ (by omega) r1) (by rw [Array.length_toList];omega) n1 fun k hk lo hi=>?_)
  · obtain ⟨j,hj,rfl⟩:=seg_memZ (by omega) hx
    exact ⟨h.pp.blt (by omega),inj (by omega) (by omega) (by omega)⟩
  dsimp only
  -- the first part's ones ahead of all of the second part's
  have loA:∀ j,j < k→lt (gt p (sa + j)) (gt p sb)=true:=fun j hj=>lo _ (seg_inZ (by omega) hj)
  have hiA:∀ j,k≤j→j < na→lt (gt p sb) (gt p (sa + j))=true:=fun j h1 h2=>by
    refine hi _ ?_
    refine List.mem_of_getElem? (i:=j - k) ?_
    rw [List.getElem?_drop,show k + (j - k)=j by omega,seg_getZ (by omega) h2]
  have below:∀ j l,j < k→l < nb→lt (gt p (sa + j)) (gt p (sb + l))=true:=fun j l hj hl=>by
    by_cases c:l=0
    · rw [c];exact loA j hj
    · have:=r2 0 l (by omega) hl
      exact S.trans _ (gt p sb) _ (h.pp.blt (by omega)) gb0 (h.pp.blt (by omega)) (loA j hj) this
  by_cases c1:(na - k == 0)=true
  · rw [if_pos c1]
    have c1':na - k=0:=by simpa using c1
    refine wpS_pure (q p st1 h1 hp1 (fun _ _ _=>rfl) fun i j hij hj=>?_)
    by_cases d1:j < na
    · exact r1 i j hij d1
    · have ej:sa + j=sb + (j - na):=by omega
      by_cases d2:i < na
      · rw [ej];exact below i (j - na) (by omega) (by omega)
      · rw [ej,show sa + i=sb + (i - na) by omega]
        exact r2 _ _ (by omega) (by omega)
  · rw [if_neg c1]
    have c1':na - k≠0:=by simpa using c1
    have el:sa + k + (na - k) - 1=sb - 1:=by omega
    rw [el]
    refine wpS_bind (wpS_elemZ (im_getZ (gt_listZ (k:=sb - 1) (by omega))) ?_)
    refine wpS_bind (wpS_gallopZ S hc h1.k (h.pp.blt (k:=sb - 1) (by omega)) (fun x hx=>?_) (seg_riseZ (by omega) r2) (by rw [Array.length_toList];omega) (by omega) fun l hl lo2 hi2=>?_)
    · obtain ⟨j,hj,rfl⟩:=seg_memZ (by omega) hx
      exact ⟨h.pp.blt (by omega),inj (by omega) (by omega) (by omega)⟩
    dsimp only
    have loB:∀ j,j < l→lt (gt p (sb + j)) (gt p (sb - 1))=true:=fun j hj=>lo2 _ (seg_inZ (by omega) hj)
    have hiB:∀ j,l≤j→j < nb→lt (gt p (sb - 1)) (gt p (sb + j))=true:=fun j h1 h2=>by
      refine hi2 _ ?_
      refine List.mem_of_getElem? (i:=j - l) ?_
      rw [List.getElem?_drop,show l + (j - l)=j by omega,seg_getZ (by omega) h2]
    have above:∀ j i,l≤j→j < nb→i < na→lt (gt p (sa + i)) (gt p (sb + j))=true:=fun j i h1 h2 h3=>by
      by_cases c:i=na - 1
      · rw [c,show sa + (na - 1)=sb - 1 by omega];exact hiB j h1 h2
      · have:=r1 i (na - 1) (by omega) (by omega)
        rw [show sa + (na - 1)=sb - 1 by omega] at this
        exact S.trans _ (gt p (sb - 1)) _ (h.pp.blt (by omega)) (h.pp.blt (by omega)) (h.pp.blt (by omega)) this (hiB j h1 h2)
    by_cases c2:(l == 0)=true
    · rw [if_pos c2]
      have c2':l=0:=by simpa using c2
      refine wpS_pure (q p st1 h1 hp1 (fun _ _ _=>rfl) fun i j hij hj=>?_)
      by_cases d1:j < na
      · exact r1 i j hij d1
      · have ej:sa + j=sb + (j - na):=by omega
        by_cases d2:i < na
        · rw [ej];exact above (j - na) i (by omega) (by omega) d2
        · rw [ej,show sa + i=sb + (i - na) by omega]
          exact r2 _ _ (by omega) (by omega)
    · rw [if_neg c2]
      have c2':l≠0:=by simpa using c2
      rw [im_extZ,im_extZ,show sb - (sa + k)=na - k by omega,show sb + l - sb=l by omega]
      have rA:RiseSZ lt p (sa + k) (na - k):=r1.sub (by omega)
      have rB:RiseSZ lt p sb l:=fun i j hij hj=>r2 i j hij (by omega)
      have lA:=seg_lenZ (p:=p) (lo:=sa + k) (m:=na - k) (by omega)
      have lB:=seg_lenZ (p:=p) (lo:=sb) (m:=l) (by omega)
      have P:MPreZ lt N ((p.toList.drop (sa + k)).take (na - k)) ((p.toList.drop sb).take l):=by
        refine ⟨seg_riseZ (by omega) rA,seg_riseZ (by omega) rB,fun x hx=>?_,fun x hx=>?_,fun x hx y hy=>?_,by omega,by omega,fun y hy=>?_,fun x hx=>?_⟩
        · obtain ⟨j,hj,rfl⟩:=seg_memZ (by omega) hx
          exact h.pp.blt (by omega)
        · obtain ⟨j,hj,rfl⟩:=seg_memZ (by omega) hx
          exact h.pp.blt (by omega)
        · obtain ⟨j,hj,rfl⟩:=seg_memZ (by omega) hx
          obtain ⟨j',hj',rfl⟩:=seg_memZ (by omega) hy
          exact inj (by omega) (by omega) (by omega)
        · obtain ⟨j,hj,rfl⟩:=seg_memZ (by omega) hy
          have eb:((p.toList.drop sb).take l).getD 0 0=gt p sb:=by rw [List.getD_eq_getElem?_getD,seg_getZ (by omega) (by omega)];rfl
          rw [eb,show sa + k + j=sa + (k + j) by omega]
          exact hiA _ (by omega) (by omega)
        · obtain ⟨j,hj,rfl⟩:=seg_memZ (by omega) hx
          have ea:((p.toList.drop (sa + k)).take (na - k)).getD (((p.toList.drop (sa + k)).take (na - k)).length - 1) 0=gt p (sb - 1):=by
            rw [lA,List.getD_eq_getElem?_getD,seg_getZ (by omega) (by omega),show sa + k + (na - k - 1)=sb - 1 by omega];rfl
          rw [ea]
          exact loB j hj
      have fin:∀ m st',ResZ lt ((p.toList.drop (sa + k)).take (na - k)) ((p.toList.drop sb).take l) m→SteZ κ st1 st'→wpS (model prog w) A E s (do
          modify fun z=>setArr z ((imZ it m).toList.zipIdx.foldl (fun a x=>match x with | (p,j)=>a.setIfInBounds (sa + k + j) p) (arrOf z))
          let z ← get
          pure (failedOf z).isNone:SMZ Bool) Q st':=by
        intro m st' R T
        have lm:m.length=na - k + l:=by have:=R.pe.length_eq;rw [List.length_append,lA,lB] at this;exact this
        have ea:arrOf st'=imZ it p.toList:=by rw [T.a,h1.a,map_imZ]
        refine wpS_bind (wpS_modify (wpS_bind (wpS_get (wpS_pure ?_))))
        have ef:(imZ it m).toList.zipIdx.foldl (fun a x=>match x with | (p,j)=>a.setIfInBounds (sa + k + j) p) (arrOf st')=(putSegZ p (sa + k) m).map it:=by
          rw [ea]
          have:=fold_setZ (sa + k) (imZ it m).toList (imZ it p.toList) 0 (by
            have e1:(imZ it m).toList.length=m.length:=by simp [imZ]
            have e2:(imZ it p.toList).size=p.size:=by simp [imZ]
            omega)
          rw [this]
          unfold putSegZ
          simp [imZ,List.map_take,List.map_drop]
        show Q (failedOf (setArr st' ((imZ it m).toList.zipIdx.foldl (fun a x=>match x with | (p,j)=>a.setIfInBounds (sa + k + j) p) (arrOf st')))).isNone (setArr st' ((imZ it m).toList.zipIdx.foldl (fun a x=>match x with | (p,j)=>a.setIfInBounds (sa + k + j) p) (arrOf st')))
        rw [ef]
        have en:(failedOf (setArr st' ((putSegZ p (sa + k) m).map it))).isNone=true:=by show (failedOf st').isNone=true;rw [T.f];rfl
        rw [en]
        have ab:(p.toList.drop (sa + k)).take (na - k) ++ (p.toList.drop sb).take l=(p.toList.drop (sa + k)).take m.length:=by
          rw [lm,List.take_add,List.drop_drop,show sa + k + (na - k)=sb by omega]
        have pp':PP N (putSegZ p (sa + k) m):=put_permZ h.pp (by rw [← ab];exact R.pe)
        have gp:∀ j,j < N→gt (putSegZ p (sa + k) m) j=if sa + k≤j∧j < sa + k + m.length then m.getD (j - (sa + k)) 0 else gt p j:=fun j hj=>put_gtZ (by omega) (by omega)
        -- what lies in m
        have mm:∀ j,j < m.length→(∃ i,k≤i∧i < na∧m.getD j 0=gt p (sa + i))∨∃ i,i < l∧m.getD j 0=gt p (sb + i):=fun j hj=>by
          have gm:m[j]?=some (m.getD j 0):=by rw [List.getD_eq_getElem?_getD,List.getElem?_eq_getElem hj];rfl
          have:=R.pe.mem_iff.mp (List.mem_of_getElem? gm)
          rcases List.mem_append.mp this with z | z
          · obtain ⟨i,hi,e⟩:=seg_memZ (by omega) z
            exact .inl ⟨k + i,by omega,by omega,by rw [e,show sa + k + i=sa + (k + i) by omega]⟩
          · obtain ⟨i,hi,e⟩:=seg_memZ (by omega) z
            exact .inr ⟨i,hi,e⟩
        refine q _ _ ⟨T.k,T.f,rfl,pp'⟩ (by show pendingOf st'=_;rw [T.p,hp1]) (fun j hj hc=>?_) fun i j hij hj=>?_
        · rw [gp j hj,if_neg (by omega)]
        · rw [gp _ (by omega),gp _ (by omega)]
          by_cases i1:i < k
          · rw [if_neg (by omega)]
            by_cases j1:j < k
            · rw [if_neg (by omega)];exact r1 i j hij (by omega)
            · by_cases j2:j < na + l
              · rw [if_pos ⟨by omega,by omega⟩]
                rcases mm (sa + j - (sa + k)) (by omega) with ⟨u,u1,u2,eu⟩ | ⟨u,u1,eu⟩
                · rw [eu];exact r1 i u (by omega) u2
                · rw [eu];exact below i u i1 (by omega)
              · rw [if_neg (by omega),show sa + j=sb + (j - na) by omega]
                exact below i _ i1 (by omega)
          · by_cases i2:i < na + l
            · rw [if_pos ⟨by omega,by omega⟩]
              by_cases j2:j < na + l
              · rw [if_pos ⟨by omega,by omega⟩]
                have a1:sa + i - (sa + k) < m.length:=by omega
                have a2:sa + j - (sa + k) < m.length:=by omega
                rw [List.getD_eq_getElem?_getD,List.getD_eq_getElem?_getD,List.getElem?_eq_getElem a1,List.getElem?_eq_getElem a2]
                exact List.pairwise_iff_getElem.mp R.so _ _ a1 a2 (by omega)
              · rw [if_neg (by omega),show sa + j=sb + (j - na) by omega]
                rcases mm (sa + i - (sa + k)) (by omega) with ⟨u,u1,u2,eu⟩ | ⟨u,u1,eu⟩
                · rw [eu];exact above _ u (by omega) (by omega) u2
                · rw [eu];exact r2 u _ (by omega) (by omega)
            · rw [if_neg (by omega),if_neg (by omega),show sa + j=sb + (j - na) by omega,show sa + i=sb + (i - na) by omega]
              exact r2 _ _ (by omega) (by omega)
      have k1:SteZ κ st1 st1:=⟨h1.k,h1.f,rfl,rfl⟩
      by_cases c3:na - k≤l
      · rw [if_pos c3]
        exact wpS_bind (wpS_mergeLoZ S hc k1 P fin)
      · rw [if_neg c3]
        exact wpS_bind (wpS_mergeHiZ S hc k1 P fin)
end
end L2
namespace L2
open PySem PySem.W PyProof.Rows
abbrev RnZ:=Nat × Nat × Nat
def RunsZ (lt:Nat→Nat→Bool) (p:Array Nat):List RnZ→Nat→Nat→Prop
  | [],a,b=>a=b
  | x :: r,a,b=>x.1=a∧0 < x.2.1∧RiseSZ lt p a x.2.1∧RunsZ lt p r (a + x.2.1) b
section
variable {lt:Nat→Nat→Bool} {p p':Array Nat}
theorem RunsZ.app:∀ {L M:List RnZ} {a b:Nat},RunsZ lt p (L ++ M) a b↔∃ c,RunsZ lt p L a c∧RunsZ lt p M c b
  | [],M,a,b=>⟨fun h=>⟨a,rfl,h⟩,fun ⟨c,e,h⟩=>by cases e;exact h⟩
  | x :: L,M,a,b=>by
    constructor
    · rintro ⟨h1,h2,h3,h4⟩
      obtain ⟨c,h5,h6⟩:=RunsZ.app.mp h4
      exact ⟨c,⟨h1,h2,h3,h5⟩,h6⟩
    · rintro ⟨c,⟨h1,h2,h3,h5⟩,h6⟩
      exact ⟨h1,h2,h3,RunsZ.app.mpr ⟨c,h5,h6⟩⟩
theorem RunsZ.len:∀ {L:List RnZ} {a b:Nat},RunsZ lt p L a b→a + L.length≤b
  | [],a,b,h=>by have h:a=b:=h;simp;omega
  | x :: L,a,b,⟨h1,h2,h3,h4⟩=>by have:=RunsZ.len h4;simp;omega
theorem RunsZ.same:∀ {L:List RnZ} {a b:Nat},RunsZ lt p L a b→(∀ k,a≤k→k < b→gt p' k=gt p k)→RunsZ lt p' L a b
  | [],a,b,h,_=>h
  | x :: L,a,b,⟨h1,h2,h3,h4⟩,k=>by
    have:=RunsZ.len h4
    exact ⟨h1,h2,h3.same fun i hi=>k _ (by omega) (by omega),RunsZ.same h4 fun j h5 h6=>k j (by omega) h6⟩
theorem RunsZ.power {pw:Nat}:∀ {L:List RnZ} {a b:Nat} (k:Nat),RunsZ lt p L a b→RunsZ lt p (L.modify k fun x=>(x.1,x.2.1,pw)) a b
  | [],a,b,k,h=>by cases k <;> exact h
  | x :: L,a,b,0,⟨h1,h2,h3,h4⟩=>⟨h1,h2,h3,h4⟩
  | x :: L,a,b,k + 1,⟨h1,h2,h3,h4⟩=>⟨h1,h2,h3,RunsZ.power k h4⟩
end
section
variable {prog:Program} {w:World} {A:Around} {E:Value→Shared→Prop} {s:Shared} {κ:SortKind} {it:Nat→Keyed} {lt:Nat→Nat→Bool} {N:Nat}
structure SRZ (κ:SortKind) (it:Nat→Keyed) (lt:Nat→Nat→Bool) (N lo:Nat) (p:Array Nat) (L:List RnZ) (st:SortSt):Prop where
  h:SAZ κ it N p st
  d:pendingOf st=L.toArray
  r:RunsZ lt p L 0 lo
  l:lo≤N
theorem wpS_mergeZ {st:SortSt} {p:Array Nat} {L:List RnZ} {lo i:Nat} {Q:Bool→SortSt→Prop} (S:SO lt N) (hc:CmpAtZ prog w A s κ it lt N) (h:SRZ κ it lt N lo p L st) (hi:i + 2≤L.length)
    (q:∀ p' L' st',SRZ κ it lt N lo p' L' st'→L'.length + 1=L.length→(∀ k,lo≤k→k < N→gt p' k=gt p k)→Q true st'):wpS (model prog w) A E s (mergeAt' i) Q st:=by
  obtain ⟨x,hx⟩:∃ x,L[i]?=some x:=⟨_,List.getElem?_eq_getElem (by omega)⟩
  obtain ⟨y,hy⟩:∃ y,L[i + 1]?=some y:=⟨_,List.getElem?_eq_getElem (by omega)⟩
  have e:L=L.take i ++ x :: y :: L.drop (i + 2):=by
    obtain ⟨l1,rfl⟩:=List.getElem?_eq_some_iff.mp hx
    obtain ⟨l2,rfl⟩:=List.getElem?_eq_some_iff.mp hy
    rw [← List.drop_eq_getElem_cons l2,← List.drop_eq_getElem_cons l1,List.take_append_drop]
  have lp:(L.take i).length=i:=by rw [List.length_take];omega
  have r:=h.r
  have hd:=h.d
  rw [e] at r hd
  obtain ⟨c,r1,x1,x2,x3,y1,y2,y3,r2⟩:=RunsZ.app.mp r
  obtain ⟨sa,na,pw⟩:=x
  obtain ⟨sb,nb,pw2⟩:=y
  dsimp only at *
  subst x1
  subst y1
  have:=r2.len
  have hl:=h.l
  refine wpS_mergeAtZ S hc h.h hd lp.symm rfl x3 y3 x2 y2 (by omega) fun p' st' h' d' kp r'=>?_
  refine q p' (L.take i ++ (sa,na + nb,pw) :: L.drop (i + 2)) st' ⟨h',d',?_,hl⟩ ?_ fun k h1 h2=>kp k h2 (by omega)
  · refine RunsZ.app.mpr ⟨sa,r1.same fun k h1 h2=>kp k (by omega) (by omega),rfl,by dsimp only;omega,r',?_⟩
    dsimp only
    rw [← Nat.add_assoc]
    exact r2.same fun k h1 h2=>kp k (by omega) (by omega)
  · have e2:=congrArg List.length e
    simp only [List.length_append,List.length_cons] at e2 ⊢
    omega
def srCZ (size pw:Nat):SMZ (Option Unit × Unit) :=
  forIn [:size] (none,()) fun _ _=>do
    let z ← get
    match (if (pendingOf z).size > 1 then (pendingOf z)[(pendingOf z).size - 2]? else none) with
    | some (_,_,older)=>if older≤pw then pure (.done (none,())) else do
        let ok ← mergeAt' ((pendingOf z).size - 2)
        if (!ok)=true then pure (.done (some (),())) else pure (.yield (none,()))
    | _=>pure (.done (none,()))
theorem wpS_srCZ {st:SortSt} {p:Array Nat} {L:List RnZ} {size lo n pw:Nat} {Q:Option Unit × Unit→SortSt→Prop} (S:SO lt N) (hc:CmpAtZ prog w A s κ it lt N) (h:SRZ κ it lt N lo p L st) (n2:lo + n≤N) (r:RiseSZ lt p lo n) (q:∀ p' L' st',SRZ κ it lt N lo p' L' st'→RiseSZ lt p' lo n→Q (none,()) st'):wpS (model prog w) A E s (srCZ size pw) Q st:=by
  unfold srCZ
  refine wpS_forRange (fun _ c st'=>∃ p' L',c=(none,())∧SRZ κ it lt N lo p' L' st'∧RiseSZ lt p' lo n) ?_ ?_ ⟨p,L,rfl,h,r⟩
  · rintro x c st' _ hx ⟨p',L',rfl,h',r'⟩
    refine wpS_bind (wpS_get ?_)
    by_cases c1:(pendingOf st').size > 1
    · rw [if_pos c1]
      rw [h'.d,List.size_toArray] at c1
      obtain ⟨⟨a1,a2,a3⟩,ha⟩:∃ y,(pendingOf st')[(pendingOf st').size - 2]?=some y:=⟨_,by rw [h'.d];exact Array.getElem?_eq_getElem (by simp;omega)⟩
      rw [ha]
      dsimp only
      by_cases c2:a3≤pw
      · rw [if_pos c2]
        exact wpS_pure (q p' L' st' h' r')
      · rw [if_neg c2]
        refine wpS_bind (wpS_mergeZ S hc h' (by rw [h'.d,List.size_toArray];omega) fun p2 L2 st2 h2 _ kp=>?_)
        rw [if_neg (by decide)]
        exact wpS_pure ⟨p2,L2,rfl,h2,r'.same fun i hi=>kp _ (by omega) (by omega)⟩
    · rw [if_neg c1]
      exact wpS_pure (q p' L' st' h' r')
  · rintro c st' ⟨p',L',rfl,h',r'⟩
    exact q p' L' st' h' r'
theorem wpS_runsZ {st:SortSt} {p:Array Nat} {Q:Unit→SortSt→Prop} (S:SO lt N) (hc:CmpAtZ prog w A s κ it lt N) (h:SAZ κ it N p st) (hd:pendingOf st=#[]) (hN:1≤N) (q:∀ p' st',SAZ κ it N p' st'→Rise lt p' N→Q () st'):wpS (model prog w) A E s sortRuns' Q st:=by
  have sz:=h.pp.size
  have size:(arrOf st).size=N:=by rw [h.a,Array.size_map,sz]
  refine wpS_bind (wpS_get ?_)
  have size':((sortPriv% PySem.Builtin.SortState.a) st).size=N:=size
  rw [size']
  refine wpS_bind (wpS_mono (wpS_forRange (fun x c st'=>∃ p L lo,c=(none,lo)∧SRZ κ it lt N lo p L st'∧x≤lo) (Q:=fun c st'=>∃ p L,c=(none,N)∧SRZ κ it lt N N p L st') ?step ?fin ⟨p,[],0,rfl,⟨h,hd,rfl,by omega⟩,Nat.le_refl _⟩) ?post)
  case fin =>
    rintro c st' ⟨p,L,lo,rfl,h,hx⟩
    have:=h.l
    obtain rfl:lo=N:=by omega
    exact ⟨p,L,rfl,h⟩
  case step =>
    rintro x c st' _ hx ⟨p,L,lo,rfl,h,hxl⟩
    dsimp only
    have hl:=h.l
    by_cases c1:lo ≥ N
    · rw [if_pos c1]
      obtain rfl:lo=N:=by omega
      exact wpS_pure ⟨p,L,rfl,h⟩
    · rw [if_neg c1]
      refine wpS_bind (wpS_countZ S hc h.h (by omega) (by omega) fun m p' m1 m2 h' kp r=>?_)
      dsimp only
      have R:SRZ κ it lt N lo p' L (setArr st' (p'.map it)):=⟨h',h.d,h.r.same fun k h1 h2=>kp k h2,hl⟩
      have fin:∀ {n:Nat} {p3:Array Nat} {L3:List RnZ} {st3:SortSt},0 < n→lo + n≤N→SRZ κ it lt N lo p3 L3 st3→RiseSZ lt p3 lo n→∃ p L lo',((none,lo + n):Option Unit × Nat)=(none,lo')∧SRZ κ it lt N lo' p L (setPending st3 ((pendingOf st3).push (lo,n,0)))∧x + 1≤lo':=fun {n p3 L3 st3} n1 n2 h3 r3=>by
        refine ⟨p3,L3 ++ [(lo,n,0)],lo + n,rfl,⟨⟨h3.h.k,h3.h.f,h3.h.a,h3.h.pp⟩,?_,RunsZ.app.mpr ⟨lo,h3.r,rfl,n1,r3,rfl⟩,n2⟩,by omega⟩
        show (pendingOf st3).push (lo,n,0)=_
        rw [h3.d];simp
      have hpw:∀ {pw:Nat} {p3:Array Nat} {L3:List RnZ} {st3:SortSt},SRZ κ it lt N lo p3 L3 st3→SRZ κ it lt N lo p3 (L3.modify (L3.length - 1) fun x=>(x.1,x.2.1,pw)) (setPending st3 ((pendingOf st3).modify ((pendingOf st3).size - 1) fun x=>(x.1,x.2.1,pw))):=fun {pw p3 L3 st3} h3=>by
        refine ⟨⟨h3.h.k,h3.h.f,h3.h.a,h3.h.pp⟩,?_,RunsZ.power _ h3.r,h3.l⟩
        have pe:∀ x,pendingOf (setPending st3 x)=x:=fun _=>rfl
        rw [pe,h3.d]
        simp
      generalize hmr:(sortPriv% PySem.Builtin.minRun) N N 0=mr
      by_cases c2:m < mr
      · rw [if_pos c2]
        refine wpS_bind (wpS_lift (wpAny_rule ⟨rfl,?_⟩))
        refine wpS_bind (wpS_binZ S hc h' m1 (by omega) (by omega) r fun p2 h2 kp2 r2=>?_)
        rw [if_neg (by decide)]
        have R2:SRZ κ it lt N lo p2 L (setArr (setArr st' (p'.map it)) (p2.map it)):=⟨h2,h.d,R.r.same fun k h1 h2=>kp2 k h2,hl⟩
        refine wpS_bind (wpS_get ?_)
        generalize ebk:((sortPriv% PySem.Builtin.SortState.pending) (setArr (setArr st' (p'.map it)) (p2.map it))).back?=bk
        cases bk with
        | none =>
          refine wpS_bind (wpS_modify (wpS_pure ?_))
          exact fin (by omega) (by omega) R2 r2
        | some y =>
          obtain ⟨s1,u1,u⟩:=y
          refine wpS_bind (wpS_srCZ S hc R2 (by omega) r2 fun p3 L3 st3 h3 r3=>?_)
          refine wpS_bind (wpS_modify (wpS_bind (wpS_modify (wpS_pure ?_))))
          exact fin (by omega) (by omega) (hpw h3) r3
      · rw [if_neg c2]
        refine wpS_bind (wpS_get ?_)
        generalize ebk:((sortPriv% PySem.Builtin.SortState.pending) (setArr st' (p'.map it))).back?=bk
        cases bk with
        | none =>
          refine wpS_bind (wpS_modify (wpS_pure ?_))
          exact fin (by omega) (by omega) R r
        | some y =>
          obtain ⟨s1,u1,u⟩:=y
          refine wpS_bind (wpS_srCZ S hc R (by omega) r fun p3 L3 st3 h3 r3=>?_)
          refine wpS_bind (wpS_modify (wpS_bind (wpS_modify (wpS_pure ?_))))
          exact fin (by omega) (by omega) (hpw h3) r3
  case post =>
    rintro c st' ⟨p,L,rfl,h⟩
    dsimp only
    refine wpS_bind (wpS_mono (wpS_forRange (fun x c st'=>∃ p L,c=(none,())∧SRZ κ it lt N N p L st'∧L.length + x≤N + 1) (Q:=fun c st'=>∃ p L,c=(none,())∧SRZ κ it lt N N p L st'∧L.length≤1) ?step2 ?fin2 ⟨p,L,rfl,h,by have:=h.r.len;omega⟩) ?post2)
    case fin2 =>
      rintro c st' ⟨p,L,rfl,h,hl⟩
      exact ⟨p,L,rfl,h,by omega⟩
    case step2 =>
      rintro x c st' _ hx ⟨p,L,rfl,h,hl⟩
      refine wpS_bind (wpS_get ?_)
      have ps:(pendingOf st').size=L.length:=by rw [h.d,List.size_toArray]
      have ps':((sortPriv% PySem.Builtin.SortState.pending) st').size=L.length:=ps
      rw [ps']
      by_cases c1:L.length≤1
      · rw [if_pos c1]
        exact wpS_pure ⟨p,L,rfl,h,c1⟩
      · rw [if_neg c1]
        refine wpS_bind (wpS_mergeZ S hc h ?_ fun p2 L2 st2 h2 l2 _=>?_)
        · have hh:∀ b:Bool,(if b=true then L.length - 2 - 1 else L.length - 2) + 2≤L.length:=fun b=>by cases b <;> simp <;> omega
          exact hh _
        · rw [if_neg (by decide)]
          exact wpS_pure ⟨p2,L2,rfl,h2,by omega⟩
    case post2 =>
      rintro c st' ⟨p,L,rfl,h,hl⟩
      refine wpS_pure (q p st' h.h ?_)
      have r:=h.r
      match L,r,hl with
      | [],r,_=>exact absurd (show (0:Nat)=N from r) (by omega)
      | [x],⟨x1,x2,x3,x4⟩,_ =>
        have x4:0 + x.2.1=N:=x4
        intro i j hij hj
        have:=x3 i j hij (by omega)
        rwa [Nat.zero_add,Nat.zero_add] at this
end
end L2
namespace L2
open PySem PySem.W PyProof.Rows
def Kp (a:Addr) (h h':Heap):Prop:=∀ b o,b≠a→h.get? b=some o→h'.get? b=some o
def outOf (vs:List Value) (p:Array Nat):List Value:=p.toList.map fun i=>vs.getD i Value.none
theorem outOf_range (vs:List Value):outOf vs (List.toArray (List.range vs.length))=vs:=by
  unfold outOf
  apply List.ext_getElem?
  intro i
  simp only [List.getElem?_map]
  by_cases h:i < vs.length
  · rw [List.getElem?_eq_getElem (l:=vs) h]
    simp [List.getElem?_range h,h]
  · rw [List.getElem?_eq_none (by omega:vs.length≤i)]
    simp
    omega
section
variable {P:Program} {w:World} {A:Around} {E:Value→Shared→Prop} {s:Shared}
theorem run_any {vs:List Value} {κ:SortKind} {lt:Nat→Nat→Bool} {Q:SortSt→Shared→Prop} (h1:1≤vs.length) (S:SO lt vs.length) (hc:∀ i j C,i < vs.length→j < vs.length→i≠j→C (lt i j) s→kas_ask P w A κ vs i j C s)
    (q:∀ p st,arrOf st=p.map (kas_item (vs.toArray.zip vs.toArray))→failedOf st=none→PP vs.length p→Rise lt p vs.length→Q st s):wpAny (model P w) A ((sortRuns').run (SortSt.mk' κ (vs.toArray.zip vs.toArray) #[] 7 none)) (fun r s'=>Q r.2 s') E s:=by
  have e:=kas_range (vs.toArray.zip vs.toArray)
  rw [show (vs.toArray.zip vs.toArray).size=vs.length by simp] at e
  have hA:SAZ κ (kas_item (vs.toArray.zip vs.toArray)) vs.length (List.toArray (List.range vs.length)) (SortSt.mk' κ (vs.toArray.zip vs.toArray) #[] 7 none):=⟨rfl,rfl,e.symm,Array.Perm.refl _⟩
  have C:CmpAtZ P w A s κ (kas_item (vs.toArray.zip vs.toArray)) lt vs.length:=fun i j C hi hj hij h=>by
    have:=hc i j C hi hj hij h
    rw [kat_ask_eq (vs:=vs) rfl] at this
    exact this
  exact wpAny_mono (wpS_runsZ (E:=E) S C hA rfl h1 (Q:=fun _ st=>Q st s) fun p st h r=>q p st h.a h.f h.pp r) (fun r s' h=>by obtain ⟨rfl,h⟩:=h;exact h) fun _ _ e=>e
end
section
variable {P:Program} {w:World} {A:Around} {E:Value→Shared→Prop} {s:Shared}
theorem lsort_pure {a:Addr} {vs:List Value} {n:Nat} {κ:SortKind} {lt:Nat→Nat→Bool} {R:PySem.Fin→Shared→Prop} (ho:s.heap.get? a=some (seqObj "list" vs.toArray n)) (h64:vs.length < 1000)
    (hk:2≤vs.length→∀ (h:Heap) (Q:SortKind→Shared→Prop),Kp a s.heap h→Q κ { s with heap:=h }→wpAny (model P w) A (keyKind' vs.toArray) Q (fun _ _=>False) { s with heap:=h })
    (hc:∀ (h:Heap) i j C,Kp a s.heap h→i < vs.length→j < vs.length→i≠j→C (lt i j) { s with heap:=h }→kas_ask P w A κ vs i j C { s with heap:=h }) (S:SO lt vs.length)
    (fin:∀ h p c,Kp a s.heap h→h.get? a=some (seqObj "list" (outOf vs p).toArray c)→PP vs.length p→Rise lt p vs.length→R (.done (.ret .none)) { s with heap:=h }) :
    wpAny (model P w) A (Builtin.«list.sort» ⟨[.ref a],[]⟩) R E s:=by
  have ha:a < s.heap.objs.size:=Heap.lt_size ho
  obtain ⟨e1,o1⟩:∃ e1,(s.heap.update a (Obj.mapSeq fun _=>(#[]:Array Value))).get? a=some (seqObj "list" #[] e1):=⟨_,get?_update_seq ho fun _=>#[]⟩
  have k1:Kp a s.heap (((s.heap.update a (Obj.mapSeq fun _=>(#[]:Array Value))).push (seqObj "tuple" vs.toArray 0)).push (seqObj "list" #[] 0)):=fun b o hb e =>
    Heap.get?_push_of_some _ (Heap.get?_push_of_some _ ((Heap.get?_update_other _ _ (Ne.symm hb)).trans e))
  have o3:(((s.heap.update a (Obj.mapSeq fun _=>(#[]:Array Value))).push (seqObj "tuple" vs.toArray 0)).push (seqObj "list" #[] 0)).get? a=some (seqObj "list" #[] e1):=Heap.get?_push_of_some _ (Heap.get?_push_of_some _ o1)
  have last:∀ out:List Value,out.length=vs.length→∃ c,((((s.heap.update a (Obj.mapSeq fun _=>(#[]:Array Value))).push (seqObj "tuple" vs.toArray 0)).push (seqObj "list" #[] 0)).update a (Obj.mapSeq fun _=>out.toArray)).get? a=some (seqObj "list" out.toArray c):=fun out _=>⟨_,get?_update_seq o3 fun _=>out.toArray⟩
  have keep2:∀ out:List Value,Kp a s.heap ((((s.heap.update a (Obj.mapSeq fun _=>(#[]:Array Value))).push (seqObj "tuple" vs.toArray 0)).push (seqObj "list" #[] 0)).update a (Obj.mapSeq fun _=>out.toArray)):=fun out b o hb e =>
    (Heap.get?_update_other _ _ (Ne.symm hb)).trans (k1 b o hb e)
  rw [list_sort_plain];refine wpAny_bind (listItems_at ho rfl ?_)
  refine wpAny_bind (listUpdate_at ho rfl ?_ (by rw [List.size_toArray,sizeLine_eq];omega) (Nat.zero_le _));refine wpAny_bind (seqEpoch_at o1 rfl ?_)
  refine wpAny_bind (wpAny_newTuple ?_ (by show vs.length≤_;rw [sizeLine_eq];omega));refine wpAny_bind (wpAny_newList ?_ (Nat.zero_le _));refine wpAny_holding ?_
  show wpAny (model P w) A _ R E { s with heap:=((s.heap.update a (Obj.mapSeq fun _=>(#[]:Array Value))).push (seqObj "tuple" vs.toArray 0)).push (seqObj "list" #[] 0) }
  generalize hH:((s.heap.update a (Obj.mapSeq fun _=>(#[]:Array Value))).push (seqObj "tuple" vs.toArray 0)).push (seqObj "list" #[] 0)=g at *
  dsimp only
  have up:∀ out:List Value,out.length=vs.length→∀ p,out=outOf vs p→PP vs.length p→Rise lt p vs.length→R (.done (.ret .none)) { s with heap:=g.update a (Obj.mapSeq fun _=>out.toArray) }:=fun out hl p e hp hr=>by
    obtain ⟨c,hcc⟩:=last out hl
    refine fin _ p c (keep2 out) ?_ hp hr
    rw [← e];exact hcc
  by_cases h2:vs.toArray.size < 2
  · have hl2:vs.length < 2:=by simpa using h2
    rw [if_pos h2,if_pos h2];refine wpAny_bind (wpAny_pure ?_);rw [StateT.run_pure];refine wpAny_bind (wpAny_pure ?_)
    dsimp only
    have ez:((vs.toArray.zip vs.toArray).map (·.2))=vs.toArray:=by
      apply Array.toList_inj.mp
      rw [Array.toList_map,Array.toList_zip]
      simp [List.map_snd_zip]
    refine wpAny_bind (seqEpoch_at o3 rfl ?_)
    rw [show (arrOf (SortSt.mk' general' (vs.toArray.zip vs.toArray) #[] 7 none))=vs.toArray.zip vs.toArray from rfl,ez]
    refine wpAny_bind (listUpdate_at o3 rfl ?_ (Nat.zero_le _) (by rw [List.size_toArray,sizeLine_eq];omega))
    simp only [bne_self_eq_false,Bool.false_eq_true,if_false]
    exact wpAny_pure (up vs rfl _ (outOf_range vs).symm (Array.Perm.refl _) fun i j hij hj=>by omega)
  · have hl2:2≤vs.length:=by simpa using h2
    rw [if_neg h2,if_neg h2];refine wpAny_bind (wpAny_mono (hk hl2 g (fun κ' s'=>κ'=κ∧s'={ s with heap:=g }) k1 ⟨rfl,rfl⟩) (fun κ' s' hs=>?_) fun _ _ x=>x.elim)
    obtain ⟨rfl,rfl⟩:=hs
    refine wpAny_bind (wpAny_mono (run_any (s:={ s with heap:=g }) (vs:=vs) (κ:=κ') (lt:=lt) (Q:=fun st s'=>∃ p:Array Nat,arrOf st=p.map (kas_item (vs.toArray.zip vs.toArray))∧failedOf st=none∧s'={ s with heap:=g }∧PP vs.length p∧Rise lt p vs.length) (by omega) S (fun i j C hi hj hij hC=>hc g i j C k1 hi hj hij hC) fun p st a2 a3 a4 a5=>⟨p,a2,a3,rfl,a4,a5⟩) ?_ fun _ _ e=>e)
    rintro ⟨⟨⟩,st⟩ s' ⟨p,har,hf,rfl,hp,hr⟩
    dsimp only
    have out:=kat_snds (ks:=vs) rfl har
    have ol:(outOf vs p).length=vs.length:=by unfold outOf;rw [List.length_map,Array.length_toList,hp.size]
    rw [out];refine wpAny_bind (seqEpoch_at o3 rfl ?_)
    refine wpAny_bind (listUpdate_at o3 rfl ?_ (Nat.zero_le _) (by show (List.toArray (outOf vs p)).size≤_;rw [List.size_toArray,ol,sizeLine_eq];omega));rw [hf]
    simp only [bne_self_eq_false,Bool.false_eq_true,if_false]
    exact wpAny_pure (up (outOf vs p) ol p rfl hp hr)
end
end L2
namespace L2
open PySem PySem.W PyProof.Rows
def placeLt (a b:Str × Int):Bool:=if a.1=b.1 then decide (a.2 < b.2) else decide (a.1.cps.toList < b.1.cps.toList)
def PlAt (h:Heap) (v:Value) (q:Str × Int):Prop:=∃ a o t u n,v=.ref a∧h.get? a=some o∧o.cls=.type "tuple"∧o.data=.seq #[.str q.1 t,.int q.2 u] n
section
variable {P:Program} {w:World} {A:Around} {E:Value→Shared→Prop} {s:Shared}
end
theorem str_cps_inj {x y:Str} (h:x.cps.toList=y.cps.toList):x=y:=by
  obtain ⟨a⟩:=x
  obtain ⟨b⟩:=y
  have:a=b:=Array.toList_inj.mp h
  rw [this]
theorem placeLt_so {qs:List (Str × Int)} (hn:qs.Nodup):SO (fun i j=>placeLt (qs.getD i ("",0)) (qs.getD j ("",0))) qs.length where
  irr:=fun i _=>by
    unfold placeLt
    rw [if_pos rfl]
    exact decide_eq_false (by omega)
  trans:=fun i j k _ _ _ h1 h2=>by
    generalize qs.getD i ("",0)=a at *
    generalize qs.getD j ("",0)=b at *
    generalize qs.getD k ("",0)=c at *
    unfold placeLt at *
    by_cases e1:a.1=b.1
    · rw [if_pos e1] at h1
      by_cases e2:b.1=c.1
      · rw [if_pos e2] at h2
        rw [if_pos (e1.trans e2)]
        have h1:=of_decide_eq_true h1
        have h2:=of_decide_eq_true h2
        exact decide_eq_true (by omega)
      · rw [if_neg e2] at h2
        rw [if_neg (by rw [e1];exact e2),e1]
        exact h2
    · rw [if_neg e1] at h1
      have h1:=of_decide_eq_true h1
      by_cases e2:b.1=c.1
      · rw [if_neg (by rw [← e2];exact e1),← e2]
        exact decide_eq_true h1
      · rw [if_neg e2] at h2
        have h2:=of_decide_eq_true h2
        have h3:=List.lt_trans h1 h2
        rw [if_neg (fun z=>by rw [z] at h3;exact List.lt_irrefl _ h3)]
        exact decide_eq_true h3
  tot:=fun i j hi hj hij h=>by
    have ne:qs.getD i ("",0)≠qs.getD j ("",0):=fun z=>hij (by
      rw [List.getD_eq_getElem?_getD,List.getD_eq_getElem?_getD,List.getElem?_eq_getElem hi,List.getElem?_eq_getElem hj] at z
      exact (List.getElem_inj hn).mp z)
    generalize qs.getD i ("",0)=a at *
    generalize qs.getD j ("",0)=b at *
    unfold placeLt at *
    by_cases e:a.1=b.1
    · rw [if_pos e] at h
      rw [if_pos e.symm]
      have h:=of_decide_eq_false h
      have:a.2≠b.2:=fun z=>ne (Prod.ext e z)
      exact decide_eq_true (by omega)
    · rw [if_neg e] at h
      rw [if_neg (fun z=>e z.symm)]
      have h:=of_decide_eq_false h
      refine decide_eq_true ?_
      rcases List.le_iff_lt_or_eq.mp (List.not_lt.mp h) with z | z
      · exact z
      · exact absurd (str_cps_inj z.symm) e
end L2
namespace L2
open PySem
def RawD (h:Heap) (d:Addr) (es:Array DictEntry) (ep:Nat):Prop:=∃ o,h.get? d=some o∧o.ExactDict∧o.data=.dict es ep
section
variable {P:Program} {w:World} {A:Around} {E:Value→Shared→Prop} {s:Shared}
theorem RawD.at {h h':Heap} {d:Addr} {es:Array DictEntry} {ep:Nat} (x:RawD h d es ep) (e:∀ o,h.get? d=some o→h'.get? d=some o):RawD h' d es ep:=let ⟨o,ho,r⟩:=x;⟨o,e _ ho,r⟩
end
end L2
namespace L2
open PySem PySem.Spec PyProof.Rows
section
open PySem.SeqAt
open PySem.AutoSeq1 (wpAny_loadPart')
open PySem.MeetsSeq PySem.MeetsSeq2 PySem.MeetsSeq3
theorem tuple_lt_place (l b:Addr) (x y:Str) (i j:Int) (t u t2 u2:Tok) (n n2:Nat) (dd dd2:Option Addr) (sl sl2:Array (Option Value)) :
    Meets (Builtin.«tuple.__lt__» ⟨[.ref l,.ref b],[]⟩) (fun _ R s=>s.heap.get? l=some { cls:=.type "tuple",dict:=dd,data:=.seq #[.str x t,.int i u] n,slots:=sl } ∧
      s.heap.get? b=some { cls:=.type "tuple",dict:=dd2,data:=.seq #[.str y t2,.int j u2] n2,slots:=sl2 }∧R (.ok (.ret (.bool (placeLt (x,i) (y,j))))) s) :=
  .of_wp fun prog w A R s h=>by
    obtain ⟨hp,g,d,tk,os⟩:=s;obtain ⟨hl,hb,h⟩:=h
    have f2:=AutoSeq1.sub_tuple_tuple
    have lt1:∀ (E:Value→Shared→Prop) (Q:Value→Shared→Prop) (s:Shared),Q (.bool (decide (x.cps.toList < y.cps.toList))) s→wpAny (model prog w) A.in1 (richCompare .Lt (.str x t) (.str y t2)) Q E s:=fun E Q s q=>(PyProof.Rows.lt_str q:wpAny (model prog w) A.in1 (compareOp .Lt (.str x t) (.str y t2)) Q E s)
    have lt2:=HT.rcLt_int A.in1 ⟨hp,g,d,tk,os⟩ i u j u2 prog w
    by_cases e:x=y
    · subst e
      have eq1:=SeqAt.EqAt.str_str (A:=A.in1) (s:=⟨hp,g,d,tk,os⟩) x t x t2 prog w
      rw [beq_self_eq_true] at eq1
      unfold placeLt at h
      rw [if_pos rfl] at h
      by_cases e2:i=j
      · subst e2
        have eq2:=SeqAt.EqAt.int_int (A:=A.in1) (s:=⟨hp,g,d,tk,os⟩) i u i u2 prog w
        rw [beq_self_eq_true] at eq2
        wp_walk using wpAny_loadPart' hl,wpAny_loadPart' hb,eq1,eq2
        exact ⟨_,rfl,by simpa [Builtin.Tuple.tupleCompareSizes] using h⟩
      · have eq2:=SeqAt.EqAt.int_int (A:=A.in1) (s:=⟨hp,g,d,tk,os⟩) i u j u2 prog w
        rw [show (i == j)=false from by simpa using e2] at eq2
        wp_walk using wpAny_loadPart' hl,wpAny_loadPart' hb,eq1,eq2,lt2
        exact ⟨_,rfl,by simpa using h⟩
    · have eq1:=SeqAt.EqAt.str_str (A:=A.in1) (s:=⟨hp,g,d,tk,os⟩) x t y t2 prog w
      rw [show (x == y)=false from by simpa using e] at eq1
      unfold placeLt at h
      rw [if_neg e] at h
      wp_walk using wpAny_loadPart' hl,wpAny_loadPart' hb,eq1,lt1
      exact ⟨_,rfl,by simpa using h⟩
end
end L2
namespace L2
open PySem PySem.Spec PyProof.Rows
section
variable {P:Program} {w:World} {A:Around} {E:Value→Shared→Prop} {s:Shared}
theorem RawD.lt {h:Heap} {d:Addr} {es:Array DictEntry} {ep:Nat} (x:RawD h d es ep):d < h.objs.size:=let ⟨_,ho,_⟩:=x;Heap.lt_size ho
end
end L2
namespace L2
open PySem PySem.Spec PyProof.Rows
def plKey (q:Str × Int):List Key:=[.inr q.1,.inl q.2]
abbrev cSrtD:RC:=fun xs H Q=>∃ (a:Addr) (kvs:List (List Key × V)) (qs:List (Str × Int)),xs=[.ref a]∧H a=some (.dT kvs)∧kvs.map (·.1)=qs.map plKey∧kvs.length < 1000 ∧
  ∀ (l:Addr) (ps:List (Addr × (Str × Int))),H l=none→(ps.map (·.2)).Perm qs→(ps.map (·.2)).Pairwise (fun a b=>placeLt a b=true)→(∀ n∈ps,H n.1=some (.tup [.str n.2.1,.int n.2.2]))→Q (.ref l) (upd H l (.lst (ps.map fun n=>V.ref n.1)))
theorem paired_get {α β:Type} {F:α→β→Prop}:∀ {l₁:List α} {l₂:List β},Paired F l₁ l₂→∀ {i:Nat} {a:α} {b:β},l₁[i]?=some a→l₂[i]?=some b→F a b
  | _,_,.nil,i,a,b,h,_=>by simp at h
  | _,_,.cons x r,0,a,b,h1,h2=>by
    simp only [List.getElem?_cons_zero,Option.some.injEq] at h1 h2
    subst h1 h2
    exact x
  | _,_,.cons x r,i + 1,a,b,h1,h2=>paired_get r (by simpa using h1) (by simpa using h2)
theorem PlAt.keep {h h':Heap} {v:Value} {q:Str × Int} (x:PlAt h v q) (k:∀ b o,h.get? b=some o→h'.get? b=some o):PlAt h' v q:=by
  obtain ⟨a,o,t,u,n,e,ho,r⟩:=x
  exact ⟨a,o,t,u,n,e,k _ _ ho,r⟩
section
variable {X:Cx}
theorem place_at {pins:List (Addr × Obj)} {σ:St} {H:Hp} {s:Shared} {a:Addr} {q:Str × Int} (I:Inv X pins σ H s) (h:H a=some (.tup [.str q.1,.int q.2])):PlAt s.heap (.ref a) q:=by
  obtain ⟨its,rv,⟨o,ho,hc,n,hd⟩,_⟩:=I.tuple (SqT.of h)
  cases rv with
  | cons r1 rr =>
    cases rr with
    | cons r2 rn =>
      cases rn
      obtain ⟨t,rfl⟩:=r1
      obtain ⟨u,rfl⟩:=r2
      exact ⟨a,o,t,u,n,rfl,ho,hc,hd⟩
theorem nodup_map_inj {α β:Type} {f:α→β}:∀ {l:List α},(l.map f).Nodup→l.Nodup
  | [],_=>List.nodup_nil
  | a :: r,h=>by
    rw [List.map_cons,List.nodup_cons] at h
    exact List.nodup_cons.mpr ⟨fun z=>h.1 (List.mem_map_of_mem z),nodup_map_inj h.2⟩
end
end L2
namespace L2
open PySem PySem.Spec PyProof.Rows
def Itd (a:Addr) (o:Obj) (kvs:List (List Key × V)):It :=
  ⟨fun i H=>H a=some (.frz o (.dT kvs))∧i < kvs.length,fun i H x H'=>H'=H∧∃ k v p,kvs[i]?=some (k,v)∧x=.ref p∧H p=some (.tup (k.map kV)),fun i H=>H a=some (.frz o (.dT kvs))∧kvs.length≤i⟩
section
variable {X:Cx}
def iDT (tl:TE):TI:=fun σ H R=>tl σ H fun x H1=>∃ a o kvs,x=.ref a∧H1 a=some (.frz o (.dT kvs))∧R (Itd a o kvs) H1
end
section
variable {σ:St} {H:Hp} {nx:St→Hp→Prop} {B:V→St→Hp→(St→Hp→Prop)→Prop}
end
end L2
namespace L2
open PySem PySem.Spec PyProof.Rows
mutual
inductive Dat (K:PySem.W.Frag) (H:Hp):V→PyData→Prop
  | non:Dat K H .non .none
  | bl (b:Bool):Dat K H (.bl b) (.bool b)
  | int (i:Int):Dat K H (.int i) (.int i)
  | str (x:Str):Dat K H (.str x) (.str x)
  | lst {a:Addr} {xs:List V} {ds:List PyData}:SqL K H a xs→DatAll K H xs ds→Dat K H (.ref a) (.list ds)
  | tup {a:Addr} {xs:List V} {ds:List PyData}:SqT K H a xs→DatAll K H xs ds→Dat K H (.ref a) (.tuple ds)
inductive DatAll (K:PySem.W.Frag) (H:Hp):List V→List PyData→Prop
  | nil:DatAll K H [] []
  | cons {x:V} {d:PyData} {xs:List V} {ds:List PyData}:Dat K H x d→DatAll K H xs ds→DatAll K H (x :: xs) (d :: ds)
end
section
variable {X:Cx} {pins:List (Addr × Obj)} {σ:St} {H:Hp} {s:Shared}
mutual
theorem Dat.reads (I:Inv X pins σ H s):∀ {x:V} {d:PyData} {u:Value},Dat X.K H x d→RelV x u→∃ as,Reads s.heap u d as
  | _,_,_,.non,r=>by cases r;exact ⟨_,.none⟩
  | _,_,_,.bl b,r=>by cases r;exact ⟨_,.bool b⟩
  | _,_,_,.int i,r=>by obtain ⟨t,rfl⟩:=r;exact ⟨_,.int i t⟩
  | _,_,_,.str x,r=>by obtain ⟨t,rfl⟩:=r;exact ⟨_,.str x t⟩
  | _,_,_,.lst hq ha,r=>by
    cases r
    obtain ⟨its,rv,⟨o,n,e,c,_,d⟩,_⟩:=I.list hq
    obtain ⟨as,ra⟩:=DatAll.reads I ha rv
    exact ⟨_,.list e c d (by simpa using ra)⟩
  | _,_,_,.tup hq ha,r=>by
    cases r
    obtain ⟨its,rv,⟨o,e,c,n,d⟩,_⟩:=I.tuple hq
    obtain ⟨as,ra⟩:=DatAll.reads I ha rv
    exact ⟨_,.tuple e c d (by simpa using ra)⟩
theorem DatAll.reads (I:Inv X pins σ H s):∀ {xs:List V} {ds:List PyData} {us:List Value},DatAll X.K H xs ds→Vals xs us→∃ as,ReadsAll s.heap us ds as
  | _,_,_,.nil,r=>by cases r;exact ⟨_,.nil⟩
  | _,_,_,.cons hx ht,r=>by
    cases r with
    | cons r1 rr =>
      obtain ⟨as,ra⟩:=Dat.reads I hx r1
      obtain ⟨bs,rb⟩:=DatAll.reads I ht rr
      exact ⟨_,.cons ra rb⟩
end
end
section
variable {K:PySem.W.Frag} {H H':Hp}
theorem SqL.mono {a:Addr} {xs:List V} (k:Same H H') (h:SqL K H a xs):SqL K H' a xs:=by
  rcases h with (h | ⟨o,h⟩) | h
  · exact .inl (.inl (k _ _ h))
  · exact .inl (.inr ⟨o,k _ _ h⟩)
  · exact .inr h
theorem DatAll.of {α:Type} {f:α→V} {g:α→PyData}:∀ {l:List α},(∀ a∈l,Dat K H (f a) (g a))→DatAll K H (l.map f) (l.map g)
  | [],_=>.nil
  | a :: r,h=>.cons (h a List.mem_cons_self) (DatAll.of fun b hb=>h b (List.mem_cons_of_mem _ hb))
end
section
variable {X:Cx} {pins:List (Addr × Obj)} {σ:St} {H:Hp} {s:Shared}
end
mutual
def plainD:PyData→Bool
  | .none=>true
  | .int _=>true
  | .str x=>PyData.strOk x
  | .list xs=>plainDs xs
  | .tuple xs=>plainDs xs
  | .bool _=>false
  | .dict _=>false
def plainDs:List PyData→Bool
  | []=>true
  | x :: xs=>plainD x && plainDs xs
end
mutual
theorem plain_lay:∀ {d:PyData},plainD d=true→d.canLay0=true
  | .none,_=>by simp [PyData.canLay0]
  | .int _,_=>by simp [PyData.canLay0]
  | .str x,h=>by simpa [PyData.canLay0,plainD] using h
  | .list xs,h=>by rw [PyData.canLay0];exact plains_lay (by simpa [plainD] using h)
  | .tuple xs,h=>by rw [PyData.canLay0];exact plains_lay (by simpa [plainD] using h)
  | .bool _,h=>by simp [plainD] at h
  | .dict _,h=>by simp [plainD] at h
theorem plains_lay:∀ {ds:List PyData},plainDs ds=true→PyData.canLayAll0 ds=true
  | [],_=>by simp [PyData.canLayAll0]
  | x :: xs,h=>by
    rw [plainDs,Bool.and_eq_true] at h
    rw [PyData.canLayAll0,plain_lay h.1,plains_lay h.2];rfl
end
mutual
theorem plain_eqv:∀ {d e:PyData},plainD d=true→plainD e=true→(PyData.eqv d e=true↔d=e)
  | .list xs,.list ys,h,h'=>by
    rw [PyData.eqv,plains_eqv (by simpa [plainD] using h) (by simpa [plainD] using h'),PyData.list.injEq]
  | .tuple xs,.tuple ys,h,h'=>by
    rw [PyData.eqv,plains_eqv (by simpa [plainD] using h) (by simpa [plainD] using h'),PyData.tuple.injEq]
  | .bool _,_,h,_=>by simp [plainD] at h
  | .dict _,_,h,_=>by simp [plainD] at h
  | .none,.bool _,_,h=>by simp [plainD] at h
  | .int _,.bool _,_,h=>by simp [plainD] at h
  | .str _,.bool _,_,h=>by simp [plainD] at h
  | .list _,.bool _,_,h=>by simp [plainD] at h
  | .tuple _,.bool _,_,h=>by simp [plainD] at h
  | .none,.dict _,_,h=>by simp [plainD] at h
  | .int _,.dict _,_,h=>by simp [plainD] at h
  | .str _,.dict _,_,h=>by simp [plainD] at h
  | .list _,.dict _,_,h=>by simp [plainD] at h
  | .tuple _,.dict _,_,h=>by simp [plainD] at h
  | .none,.none,_,_ | .none,.int _,_,_ | .none,.str _,_,_ | .none,.list _,_,_ | .none,.tuple _,_,_=>by simp [PyData.eqv]
  | .int _,.none,_,_ | .int _,.int _,_,_ | .int _,.str _,_,_ | .int _,.list _,_,_ | .int _,.tuple _,_,_=>by simp [PyData.eqv]
  | .str _,.none,_,_ | .str _,.int _,_,_ | .str _,.str _,_,_ | .str _,.list _,_,_ | .str _,.tuple _,_,_=>by simp [PyData.eqv]
  | .list _,.none,_,_ | .list _,.int _,_,_ | .list _,.str _,_,_ | .list _,.tuple _,_,_=>by simp [PyData.eqv]
  | .tuple _,.none,_,_ | .tuple _,.int _,_,_ | .tuple _,.str _,_,_ | .tuple _,.list _,_,_=>by simp [PyData.eqv]
theorem plains_eqv:∀ {xs ys:List PyData},plainDs xs=true→plainDs ys=true→(PyData.eqvAll xs ys=true↔xs=ys)
  | [],[],_,_=>by simp [PyData.eqvAll]
  | [],_ :: _,_,_=>by simp [PyData.eqvAll]
  | _ :: _,[],_,_=>by simp [PyData.eqvAll]
  | x :: xs,y :: ys,h,h'=>by
    rw [plainDs,Bool.and_eq_true] at h h'
    rw [PyData.eqvAll,Bool.and_eq_true,plain_eqv h.1 h'.1,plains_eqv h.2 h'.2,List.cons.injEq]
end
abbrev rEqD (K:PySem.W.Frag) (neg:Bool):R2:=fun x y H Q=>∃ d e,Dat K H x d∧Dat K H y e∧(plainD d=true∧plainD e=true∧d.depth≤64∧e.depth≤64)∧∀ b:Bool,(b=true↔d=e)→Q (.bl (if neg then !b else b)) H
section
variable {X:Cx}
theorem shaped_plain {d:PyData} (h:plainD d=true) (h':d.depth≤64):SeqAt.shaped d=true:=by
  unfold SeqAt.shaped
  rw [plain_lay h,decide_eq_true h'];rfl
theorem op_eqAll (hu:X.A.units + 64 < cLine):OpR X (compareOp .Eq) (rEqD X.K false):=by
  intro pins s σ H x y v u Q I rx ry h
  obtain ⟨d,e,hd,he,⟨p1,p2,l1,l2⟩,q⟩:=h
  obtain ⟨as,ra⟩:=hd.reads I rx
  obtain ⟨bs,rb⟩:=he.reads I ry
  exact eq_dataH ra rb (shaped_plain p1 l1) (shaped_plain p2 l2) hu ⟨.bl _,H,I,rfl,q _ (plain_eqv p1 p2)⟩
theorem op_neAll (hu:X.A.units + 64 < cLine):OpR X (compareOp .NotEq) (rEqD X.K true):=by
  intro pins s σ H x y v u Q I rx ry h
  obtain ⟨d,e,hd,he,⟨p1,p2,l1,l2⟩,q⟩:=h
  obtain ⟨as,ra⟩:=hd.reads I rx
  obtain ⟨bs,rb⟩:=he.reads I ry
  exact ne_dataH ra rb (shaped_plain p1 l1) (shaped_plain p2 l2) hu ⟨.bl _,H,I,rfl,q _ (plain_eqv p1 p2)⟩
end
end L2
namespace L2
open PySem PySem.Spec PyProof.Rows
abbrev rGtS:R2:=fun x y H Q=>∃ i j,x=.str i∧y=.str j∧Q (.bl (decide (j.cps.toList < i.cps.toList))) H
abbrev rInD (neg:Bool):R2:=fun x y H Q=>∃ a o,y=.ref a∧DGet H a x o∧Q (.bl (if neg then !o.isSome else o.isSome)) H
section
variable {X:Cx}
theorem op_in_d (hu:X.A.units + 1 < cLine):OpR X (compareOp .In) (rInD false):=by
  intro pins s σ H x y v u Q I rx ry h
  obtain ⟨a,o,rfl,g,q⟩:=h
  cases ry
  exact d_in hu I g rx fun s' I'=>⟨.bl _,H,I',rfl,q⟩
theorem op_notin_d (hu:X.A.units + 1 < cLine):OpR X (compareOp .NotIn) (rInD true):=by
  intro pins s σ H x y v u Q I rx ry h
  obtain ⟨a,o,rfl,g,q⟩:=h
  cases ry
  exact d_notIn hu I g rx fun s' I'=>⟨.bl _,H,I',rfl,q⟩
end
end L2
namespace L2
open PySem
abbrev Pl:=Str × Int
abbrev Row:=Pl × Int
def lastW:List Row→Pl→Option Int
  | [],_=>none
  | r :: t,p=>(lastW t p).or (if r.1=p then some r.2 else none)
def dStep (kvs:List (List Key × V)) (q:Row):List (List Key × V):=putK kvs (plKey q.1) (.int q.2)
def dOf (rows:List Row):List (List Key × V):=rows.foldl dStep []
theorem plKey_inj {p q:Pl} (h:plKey p=plKey q):p=q:=by
  unfold plKey at h
  simp only [List.cons.injEq,Sum.inr.injEq,Sum.inl.injEq,and_true] at h
  exact Prod.ext h.1 h.2
theorem val_fold:∀ (rows:List Row) (kvs:List (List Key × V)) (p:Pl),valV (rows.foldl dStep kvs) (plKey p)=((lastW rows p).map V.int).or (valV kvs (plKey p))
  | [],_,_=>rfl
  | r :: t,kvs,p=>by
    rw [List.foldl_cons,val_fold t,lastW]
    show _=_
    rw [dStep,valV_put]
    cases lastW t p with
    | some w=>rfl
    | none =>
      by_cases e:r.1=p
      · subst e;simp
      · rw [if_neg (fun z=>e (plKey_inj z).symm)];simp [e]
theorem val_dOf (rows:List Row) (p:Pl):valV (dOf rows) (plKey p)=(lastW rows p).map V.int:=by
  unfold dOf
  rw [val_fold,valV_nil]
  cases lastW rows p <;> rfl
theorem dOf_snoc (rows:List Row) (q:Row):dOf (rows ++ [q])=putK (dOf rows) (plKey q.1) (.int q.2):=by
  unfold dOf
  rw [List.foldl_append];rfl
def OkKv (kvs:List (List Key × V)):Prop:=(kvs.map (·.1)).Nodup∧∀ kv∈kvs,∃ (p:Pl) (w:Int),kv=(plKey p,.int w)
theorem OkKv.put {kvs:List (List Key × V)} (h:OkKv kvs) (p:Pl) (w:Int):OkKv (putK kvs (plKey p) (.int w)):=by
  cases e:valV kvs (plKey p) with
  | none =>
    refine ⟨nd_putK _ h.1 e,fun kv hk=>?_⟩
    rw [putK_new _ e] at hk
    rcases List.mem_append.mp hk with hk | hk
    · exact h.2 kv hk
    · exact ⟨p,w,List.mem_singleton.mp hk⟩
  | some v =>
    have q:(kvs.any fun kv=>decide (kv.1=plKey p))=true:=by rw [valV_any,e];rfl
    unfold putK
    rw [if_pos q]
    constructor
    · rw [List.map_map]
      have:((fun x:List Key × V=>x.1) ∘ fun kv:List Key × V=>if kv.1=plKey p then (kv.1,V.int w) else kv)=fun x=>x.1:=by
        funext kv
        show (if kv.1=plKey p then (kv.1,V.int w) else kv).1=kv.1
        split <;> rfl
      rw [this];exact h.1
    · intro kv hk
      obtain ⟨z,hz,rfl⟩:=List.mem_map.mp hk
      by_cases e:z.1=plKey p
      · exact ⟨p,w,by rw [if_pos e,e]⟩
      · rw [if_neg e];exact h.2 z hz
theorem okKv_fold:∀ (rows:List Row) (kvs:List (List Key × V)),OkKv kvs→OkKv (rows.foldl dStep kvs)
  | [],_,h=>h
  | r :: t,kvs,h=>okKv_fold t _ (h.put r.1 r.2)
theorem okKv_dOf (rows:List Row):OkKv (dOf rows):=okKv_fold rows [] ⟨List.nodup_nil,fun _ h=>nomatch h⟩
theorem len_put (kvs:List (List Key × V)) (k:List Key) (v:V):(putK kvs k v).length≤kvs.length + 1:=by
  unfold putK
  split
  · rw [List.length_map];omega
  · rw [List.length_append];simp
theorem len_fold:∀ (rows:List Row) (kvs:List (List Key × V)),(rows.foldl dStep kvs).length≤kvs.length + rows.length
  | [],_=>by simp
  | r :: t,kvs=>by
    have:=len_fold t (dStep kvs r)
    have:=len_put kvs (plKey r.1) (.int r.2)
    rw [List.foldl_cons,List.length_cons]
    unfold dStep at *
    omega
theorem len_dOf (rows:List Row):(dOf rows).length≤rows.length:=by have:=len_fold rows [];simpa [dOf] using this
theorem valV_nd {kvs:List (List Key × V)}:(kvs.map (·.1)).Nodup→∀ kv∈kvs,valV kvs kv.1=some kv.2:=by
  induction kvs with
  | nil=>exact fun _ kv h=>nomatch h
  | cons a r ih =>
    intro hn kv hk
    rw [List.map_cons,List.nodup_cons] at hn
    rcases List.mem_cons.mp hk with rfl | hk
    · exact valV_pos rfl
    · rw [valV_neg fun z=>hn.1 (by rw [z];exact List.mem_map_of_mem hk)]
      exact ih hn.2 kv hk
theorem mem_dOf {rows:List Row} {kv:List Key × V}:kv∈dOf rows↔∃ p w,kv=(plKey p,.int w)∧lastW rows p=some w:=by
  constructor
  · intro h
    obtain ⟨p,w,rfl⟩:=(okKv_dOf rows).2 kv h
    have:=valV_nd (okKv_dOf rows).1 _ h
    rw [val_dOf] at this
    obtain ⟨w',e1,e2⟩:=Option.map_eq_some_iff.mp this
    cases e2
    exact ⟨p,w,rfl,e1⟩
  · rintro ⟨p,w,rfl,h⟩
    have e:valV (dOf rows) (plKey p)=some (.int w):=by rw [val_dOf,h];rfl
    obtain ⟨kv,hk,e1⟩:=List.mem_map.mp (valV_in e)
    have:=valV_nd (okKv_dOf rows).1 _ hk
    rw [e1,e] at this
    have e2:kv=(plKey p,V.int w):=Prod.ext e1 (Option.some.inj this).symm
    rw [← e2];exact hk
theorem placeLt_irr (a:Pl):placeLt a a=false:=by
  unfold placeLt
  rw [if_pos rfl]
  exact decide_eq_false (by omega)
theorem placeLt_trans {a b c:Pl} (h1:placeLt a b=true) (h2:placeLt b c=true):placeLt a c=true:=by
  unfold placeLt at *
  by_cases e1:a.1=b.1
  · rw [if_pos e1] at h1
    by_cases e2:b.1=c.1
    · rw [if_pos e2] at h2
      rw [if_pos (e1.trans e2)]
      have h1:=of_decide_eq_true h1
      have h2:=of_decide_eq_true h2
      exact decide_eq_true (by omega)
    · rw [if_neg e2] at h2
      rw [if_neg (by rw [e1];exact e2),e1]
      exact h2
  · rw [if_neg e1] at h1
    have h1:=of_decide_eq_true h1
    by_cases e2:b.1=c.1
    · rw [if_neg (by rw [← e2];exact e1),← e2]
      exact decide_eq_true h1
    · rw [if_neg e2] at h2
      have h2:=of_decide_eq_true h2
      have h3:=List.lt_trans h1 h2
      rw [if_neg (fun z=>by rw [z] at h3;exact List.lt_irrefl _ h3)]
      exact decide_eq_true h3
def Rising (l:List Row):Prop:=l.Pairwise fun a b=>placeLt a.1 b.1=true
def IsTab (rows out:List Row):Prop:=Rising out∧∀ p w,(p,w)∈out↔lastW rows p=some w∧w≠0
theorem last_none {p:Pl}:∀ {l:List Row},(∀ r∈l,r.1≠p)→lastW l p=none
  | [],_=>rfl
  | r :: t,h=>by
    rw [lastW,last_none fun r hr=>h r (List.mem_cons_of_mem _ hr),if_neg (h r List.mem_cons_self)];rfl
theorem last_nd {p:Pl} {w:Int}:∀ {l:List Row},(l.map (·.1)).Nodup→(lastW l p=some w↔(p,w)∈l)
  | [],_=>by simp [lastW]
  | r :: t,hn=>by
    rw [List.map_cons,List.nodup_cons] at hn
    have ih:=last_nd (p:=p) (w:=w) hn.2
    by_cases e:r.1=p
    · have z:lastW t p=none:=last_none fun q hq zz=>hn.1 (by rw [e,← zz];exact List.mem_map_of_mem hq)
      rw [lastW,z,if_pos e]
      constructor
      · intro h
        have:r.2=w:=by simpa using h
        rw [← e,← this];exact List.mem_cons_self
      · intro h
        rcases List.mem_cons.mp h with h | h
        · rw [← h];rfl
        · exact absurd (List.mem_map_of_mem (f:=(·.1)) h) (by rw [← e];exact hn.1)
    · rw [lastW,if_neg e,Option.or_none,ih,List.mem_cons]
      constructor
      · exact .inr
      · rintro (h | h)
        · exact absurd (by rw [← h]) e
        · exact h
theorem rising_ext:∀ {a b:List Row},Rising a→Rising b→(∀ x,x∈a↔x∈b)→a=b
  | [],[],_,_,_=>rfl
  | [],y :: _,_,_,h=>absurd ((h y).mpr List.mem_cons_self) (by simp)
  | x :: _,[],_,_,h=>absurd ((h x).mp List.mem_cons_self) (by simp)
  | x :: a,y :: b,ha,hb,h=>by
    unfold Rising at ha hb
    rw [List.pairwise_cons] at ha hb
    have e:x=y:=by
      rcases List.mem_cons.mp ((h x).mp List.mem_cons_self) with e | e
      · exact e
      · rcases List.mem_cons.mp ((h y).mpr List.mem_cons_self) with e' | e'
        · exact e'.symm
        · have:=placeLt_trans (ha.1 y e') (hb.1 x e)
          rw [placeLt_irr] at this;cases this
    subst e
    have nx:x ∉ a:=fun z=>by have:=ha.1 x z;rw [placeLt_irr] at this;cases this
    have ny:x ∉ b:=fun z=>by have:=hb.1 x z;rw [placeLt_irr] at this;cases this
    rw [rising_ext ha.2 hb.2 fun z=>?_]
    constructor
    · intro hz
      rcases List.mem_cons.mp ((h z).mp (List.mem_cons_of_mem _ hz)) with e | e
      · subst e;exact absurd hz nx
      · exact e
    · intro hz
      rcases List.mem_cons.mp ((h z).mpr (List.mem_cons_of_mem _ hz)) with e | e
      · subst e;exact absurd hz ny
      · exact e
end L2
namespace L2
open PySem PySem.Spec PyProof.Rows
def Itzl (K:PySem.W.Frag) (p q:Addr) (xs ys:List V):It:=⟨fun i H=>i < xs.length∧SqL K H p xs∧SqL K H q ys,fun i H x H'=>∃ T u v,x=.ref T∧H T=none∧H'=upd H T (.tup [u,v])∧xs[i]?=some u∧ys[i]?=some v,fun i H=>xs.length≤i∧SqL K H p xs∧SqL K H q ys⟩
def iZipL (K:PySem.W.Frag) (ta:TA):TI:=fun σ H R=>ta σ H fun vs H1=>∃ p q xs ys,vs=[.ref p,.ref q]∧SqL K H1 p xs∧SqL K H1 q ys∧xs.length=ys.length∧R (Itzl K p q xs ys) H1
section
variable {X:Cx}
end
section
variable {σ:St} {H:Hp} {nx:St→Hp→Prop} {B:V→St→Hp→(St→Hp→Prop)→Prop}
end
end L2
namespace L2
open PySem PySem.Spec PyProof.Rows
section
variable {X:Cx} {A:Around} {R:Result→Shared→Prop}
def PrAt (H:Hp) (v:V) (q:Row):Prop:=∃ r p,v=.ref r∧H r=some (.tup [.ref p,.int q.2])∧H p=some (.tup [.str q.1.1,.int q.1.2])
end
end L2
namespace L2
open PySem PySem.Spec PyProof.Rows
section
variable {prog:Program} {w:World} {A:Around} {E:Value→Shared→Prop} {s:Shared} {a:Addr} {o:Obj} {xs:Array Value} {k:Nat}
end
theorem hu3 {k:Nat} {A:Around} (r:Room k A):A.units + 3 < cLine:=by have:=hu64 r;omega
abbrev cDctP:RC:=fun vs H Q=>∃ (a:Addr) (xs:List V) (rows:List Row),vs=[.ref a]∧H a=some (.lst xs)∧Paired (PrAt H) xs rows∧rows.length≤1000∧∀ p,H p=none→Q (.ref p) (upd H p (.dT (dOf rows)))
section
variable {X:Cx}
end
end L2
namespace L2
open PySem PySem.Spec PyProof.Rows
section
variable {X:Cx} {k:Nat} {f C:Addr} {fd:FuncData} {ps:List Str} {sp:Sp} {m:Str} {pos apos:Pos} {e o:Expr} {es:List Expr} {ta:TE} {t:TA}
def tMethX (C:Addr) (m:Str) (sp:Sp) (ta:TE) (t:TA) (EX:EXK):TE:=fun σ H Q=>ta σ H fun x H1=>∃ a dx fs,x=.ref a∧H1 a=some (.ins C dx fs)∧fs.lookup m=none ∧
  t σ H1 fun vs H2=>sp (x :: (vs ++ [])) H2 Q fun cls _ H3=>EX cls σ H3
theorem pex_meth {pl:Sem Bool} (he:PE X.nox o ta) (c:Cls X.K C) (hm:Meth X.K C m f) (F:FnOk X.prog X.w X.K X.mg X.base (CX1 X.prog X.w) k f fd ps sp) (hr:Room k X.A) (hb:Binds X.K fd ps []) (ha:PA X.nox (e :: es) t)
    (hst:starEach (e :: es) X.env=(false,eval e X.env) :: starEach es X.env:=by rfl) (hpl:(backTo pos (starEach es X.env)).any (·.1)=false:=by rfl)
    (ht:eval (.Call (.Attribute o m apos) (e :: es) [] pos) X.env=(do
      let ov ← eval o X.env
      standAt apos.atName
      let (f,first) ← holding [ov] (getMethod ov m pl)
      callWith pos f first (backTo pos (starEach (e :: es) X.env)) (backToKw pos (keywordEach [] X.env))):=by rfl) :
    PEX X (.Call (.Attribute o m apos) (e :: es) [] pos) (tMethX C m sp ta t):=by
  intro pins s σ H Q EX I h
  refine PySem.W.methodCall_KW (pl:=pl) (wpAny_mono (he pins s σ H _ (I.wish _) h) (fun u s1 ⟨x,H1,I1',rx,a,dx,fs,ex,ea,l,q⟩=>?_) fun _ _ z=>False.elim z) ht
  subst ex
  obtain rfl:u=Value.ref a:=rx
  have I1:=I1'.unwish
  refine getmeth_ok I1 ea c hm l ?_
  refine PySem.W.callWith_K (first:=[.ref a]) (h₀:=X.base) I.ok.mod.kin hm.kp (wpAny_mono (ha pos pins s1 σ H1 _ (I1.wish _) q) (fun us s2 ⟨vs,H2,I2',r,q2⟩=>⟨I2'.kIn,?_⟩) fun _ _ z=>False.elim z) hst hpl
  have I2:=I2'.unwish
  have r2:Vals (V.ref a :: (vs ++ [])) (Value.ref a :: (us ++ [])):=.cons rfl (r.append .nil)
  have hl:((Value.ref a :: us) ++ []).length=ps.length:=by
    have e:=r2.length
    rw [F.len _ _ _ _ q2] at e
    exact e.symm
  refine wpAny_call (codeAny_mono (F.run X.A X.stack s2 H2 ⟨.ref a :: us,[]⟩ ((.ref a :: us) ++ []) (.ref a :: (vs ++ [])) _ _ hr I2.env0 (hb s2 (.ref a :: us) I2.kIn hl) r2 q2) fun r s' hq=>?_)
  cases r with
  | error ev =>
    obtain ⟨e,cls,H',rfl,os,bare,un,hok,xf,hE⟩:=hq
    exact ⟨e,cls,σ,s2,H2,H',rfl,I2,I2.call' (ch:=[]) os un hok bare (fun b z=>nomatch z),xf,hE⟩
  | ok fl =>
    cases fl with
    | ret u=>exact I2.after hq
    | next=>exact False.elim hq
    | brk=>exact False.elim hq
    | cont=>exact False.elim hq
end
def tTryN (K:PySem.W.Frag) (tb:EXK→TS) (C1:Addr) (th1:TS):TS:=fun D σ H=>tb (fun cls σ1 H1=>∃ C,cls=.ref C∧PySem.W.exmOne K (.ref C) (.ref C1)=some true∧th1 D σ1 H1) D σ H
def tTryNN (K:PySem.W.Frag) (tb:EXK→TS) (C1:Addr) (th1:TS) (C2:Addr) (th2:TS):TS:=fun D σ H=>tb (fun cls σ1 H1=>∃ C,cls=.ref C ∧
  ((PySem.W.exmOne K (.ref C) (.ref C1)=some true∧th1 D σ1 H1)∨(PySem.W.exmOne K (.ref C) (.ref C1)=some false∧PySem.W.exmOne K (.ref C) (.ref C2)=some true∧th2 D σ1 H1))) D σ H
section
variable {X:Cx} {st b₀ b₁:Stmt} {suite suite1:List Stmt} {tb:EXK→TS} {th1 th2:TS} {c1 c2:Str} {C1 C2:Addr} {np hpos np2 hpos2 pos:Pos}
theorem ps_tryNN (hst:X.stack=X.env :: X.outer∧X.env.frame=some X.env.locals) (hex:X.ex=[]) (hb:PSX X st tb) (hg1:Gl X c1) (hm1:X.mg c1=some (.ref C1)) (hg2:Gl X c2) (hm2:X.mg c2=some (.ref C2))
    (hs1:∀ e,PSs (X.sub e) (b₀ :: suite) th1) (hs2:∀ e,PSs (X.sub e) (b₁ :: suite1) th2) (hdb1:(c1 == ("__debug__":Str))=false:=by decide) (hdb2:(c2 == ("__debug__":Str))=false:=by decide) :
    PS X (.Try [st] [.ExceptHandler (some (.Name c1 np)) none (b₀ :: suite) hpos,.ExceptHandler (some (.Name c2 np2)) none (b₁ :: suite1) hpos2] [] [] pos) (tTryNN X.K tb C1 th1 C2 th2):=by
  intro pins s σ H D I h
  refine wpAny_Try_except (wpAny_execs_cons (wpAny_mono (hb pins s σ H D _ I h) (fun f s1 q=>?_) fun ev s1 q=>?_))
  · cases f with
    | next=>exact wpAny_execs_nil (wpAny_execs_nil q)
    | ret v=>exact q
    | brk=>exact q
    | cont=>exact q
  obtain ⟨e,cls,σ1,s0,H0,H1,rfl,I0,I1,xf,C,rfl,hth⟩:=q
  obtain ⟨oe,vs,a0,T,oT,ts,h1,h2,h3,h4,h5,h6,h7,h8,h9,h10,h11,h12⟩:=xf
  have fr:s1.heap.FunFrames (PySem.W.hideAll s1.heap (frs X.stack ++ [e,T])) (X.env :: X.outer):=by
    have q:=PySem.W.funFrames_hide (as:=frs X.stack ++ [e,T]) I1.stack fun env he a ha=>List.mem_append_left _ (List.mem_filterMap.mpr ⟨env,he,ha⟩)
    rw [hst.1] at q ⊢
    exact q
  have two:∀ b∈[e,T],s0.heap.get? b=none∧H1 b=none:=fun b z=>by
    have z':b=e∨b=T:=by simpa using z
    rcases z' with rfl | rfl
    · exact ⟨h9,h11⟩
    · exact ⟨h10,h12⟩
  have hcs:∀ b∈[e,T],H1 b=none∧X.s₀.heap.get? b=none:=fun b z=>⟨(two b z).2,none_back (I0.there0 hex) (two b z).1⟩
  have hcp:∀ b∈[e,T],∀ p∈X.pn ++ pins,p.1≠b:=fun b z p hp q=>by
    have:=(I0.pin p hp).1
    rw [q,(two b z).1] at this;cases this
  refine wpAny_looks_onW (base:=PySem.W.hideAll s1.heap (frs X.stack ++ [e,T])) (a0:=a0) (cls:=.ref C) (by rw [I1.ok.frames,hst.1]) hst.2
    ⟨fun b o q=>PySem.W.of_hideAll _ q,PySem.W.hideAll_none _ (List.mem_append_right _ (by simp)),fr,oe,vs,T,oT,ts,h1,h2,h3,h4,PySem.W.hideAll_none _ (List.mem_append_right _ (by simp)),h5,h6,h7,h8⟩ fun g4 held4 sm4=>?_
  refine wpAny_landsW held4 fun g5 fly5 sm5=>?_
  have hB:∀ {g:Heap},(PySem.W.hideAll s1.heap (frs X.stack ++ [e,T])).StaysIn g→∀ b o,s1.heap.get? b=some o→b ∉ frs X.stack→b ∉ [e,T]→g.get? b=some o :=
    fun {g} k b o q n1 n2=>k b o (PySem.W.hideAll_get _ q fun z=>(List.mem_append.mp z).elim n1 n2)
  have I5:Inv X pins σ1 H1 { s1 with heap:=g5 }:=I1.land hex hcs hcp (hB fly5.1) (sm4.trans sm5)
  have K5:=I5.kIn
  have ty5:PySem.W.Looks (model X.prog X.w) g5 (typeOf (.ref e)) (.ref C):=by
    obtain ⟨o,p1,p2⟩:=fly5.there
    exact p2 ▸ (PySem.W.Looks.ld p1).andThen .now
  have run:∀ {b₂:Stmt} {su:List Stmt} {th:TS} {hp:Pos} {R:Result→Shared→Prop},(∀ e,PSs (X.sub e) (b₂ :: su) th)→th D σ1 H1→(∀ f s',SP X pins D f s'→R (.ok f) s') →
      codeAny (model X.prog X.w) (X.A.mark (some (.ref e))) (.handlers (.ref e) [.ExceptHandler none none (b₂ :: su) hp] X.env) R { s1 with heap:=g5 }:=fun {b₂ su th hp R} hs hth hR=>by
    refine codeAny_handlers_suite (lands_againW fly5 fun g6 fly6 sm6=>?_)
    have I6:Inv X pins σ1 H1 { s1 with heap:=g6 }:=I1.land hex hcs hcp (hB fly6.1) ((sm4.trans sm5).trans sm6)
    refine wpAny_mono (hs e pins _ σ1 H1 D I6.toSub hth) (fun f s9 q=>hR f s9 ?_) fun _ _ z=>False.elim z
    cases f with
    | next=>obtain ⟨σ9,H9,J,z⟩:=q;exact ⟨σ9,H9,Inv.ofSub (J:=I) J,z⟩
    | brk=>obtain ⟨σ9,H9,J,z⟩:=q;exact ⟨σ9,H9,Inv.ofSub (J:=I) J,z⟩
    | cont=>obtain ⟨σ9,H9,J,z⟩:=q;exact ⟨σ9,H9,Inv.ofSub (J:=I) J,z⟩
    | ret u=>obtain ⟨v,σ9,H9,J,r,z⟩:=q;exact ⟨v,σ9,H9,Inv.ofSub (J:=I) J,r,z⟩
  refine wpAny_handleBy_cons (codeAny_handlers_test ?_) (by intro q;cases q)
  refine ld_glob (X:=X.sub e) (I5.toSub (e:=e)) hg1 hm1 ?_ hdb1
  rcases hth with ⟨hx,ht⟩ | ⟨hx,hx2,ht⟩
  · refine (PySem.W.exm_one K5 ty5 hx).here ?_
    exact run hs1 ht fun f s' q=>q
  · refine (PySem.W.exm_one K5 ty5 hx).here ?_
    show wpAny _ _ (handleBy (.ref e) X.env _) _ _ _
    refine wpAny_handleBy_cons (codeAny_handlers_test ?_) (by intro q;cases q)
    refine ld_glob (X:=X.sub e) (I5.toSub (e:=e)) hg2 hm2 ?_ hdb2
    refine (PySem.W.exm_one K5 ty5 hx2).here ?_
    exact run hs2 ht fun f s' q=>q
end
section
variable {X:Cx} {k:Nat} {f:Addr} {fd:FuncData} {ps:List Str} {sp:Sp} {x:Str} {p pos:Pos} {e:Expr} {es:List Expr} {t:TA}
end
end L2
namespace L2
open PySem
def rk (kvs:List (Key × V)) (ps:List V):Except Er Int:=match runE kvs ps [] with
  | .ok [i]=>.ok i
  | .ok _=>.error .stuck
  | .error e=>.error e
theorem Good.rk {kvs:List (Key × V)} {ps:List V} {r:Except Er Int} (h:Good kvs ps r):L2.rk kvs ps=r:=by
  unfold L2.rk
  rw [h.1 []]
  cases r <;> rfl
theorem step_inW {kvs:List (Key × V)} (hs:SlotsOk kvs) {v:V} (hv:okPart v) {st st':List Int} (h:∀ x∈st,inW x=true) (e:stepE kvs st v=.ok st'):∀ x∈st',inW x=true:=by
  unfold stepE at e
  split at e
  · split at e
    · rename_i w b a r hr hj
      unfold joinE at e
      by_cases c1:isDiv w∧b=0
      · rw [if_pos c1] at e;cases e
      · rw [if_neg c1] at e
        by_cases c2:inW (comeV w a b)=true
        · rw [if_pos c2] at e
          cases e
          intro x hx
          rcases List.mem_append.mp hx with hx | hx
          · refine h x (List.mem_reverse.mp ?_)
            rw [hr]
            exact List.mem_cons_of_mem _ (List.mem_cons_of_mem _ (List.mem_reverse.mp hx))
          · rw [List.mem_singleton.mp hx];exact c2
        · rw [if_neg c2] at e;cases e
    · cases e
  · cases e
    intro x hx
    rcases List.mem_append.mp hx with hx | hx
    · exact h x hx
    · rw [List.mem_singleton.mp hx];exact wrth_inW hs hv
theorem run_inW {kvs:List (Key × V)} (hs:SlotsOk kvs):∀ {ps:List V} {st st':List Int},(∀ v∈ps,okPart v)→(∀ x∈st,inW x=true)→runE kvs ps st=.ok st'→∀ x∈st',inW x=true
  | [],st,st',_,h,e=>by cases e;exact h
  | v :: r,st,st',hp,h,e=>by
    unfold runE at e
    split at e
    · rename_i st1 e1
      exact run_inW hs (fun v hv=>hp v (List.mem_cons_of_mem _ hv)) (step_inW hs (hp v List.mem_cons_self) h e1) e
    · cases e
theorem rk_inW {kvs:List (Key × V)} (hs:SlotsOk kvs) {ps:List V} (hp:∀ v∈ps,okPart v) {i:Int} (e:rk kvs ps=.ok i):inW i=true:=by
  unfold rk at e
  split at e
  · rename_i j hj
    cases e
    exact run_inW hs hp (fun _ z=>absurd z List.not_mem_nil) hj i List.mem_cons_self
  · cases e
  · cases e
def TermOk (e:List V):Prop:=(∀ kvs,∃ r,Good kvs e r)∧(∀ v∈e,okPart v)∧e.length≤1000
theorem TermOk.good {e:List V} (h:TermOk e) (kvs:List (Key × V)):Good kvs e (rk kvs e):=by
  obtain ⟨r,g⟩:=h.1 kvs
  rw [g.rk];exact g
mutual
inductive Rw where
  | take (sh:Str) (e:List V) (sl:Str)
  | give (sh:Str) (e f:List V)
  | lt (sl:Str) (e:List V)
  | say (e:List V)
  | off (e:List V)
  | iff (e:List V) (a b:Rws)
inductive Rws where
  | nil
  | cons (r:Rw) (rs:Rws)
end
set_option genSizeOf false in
set_option genInjectivity false in
structure Sta where
  sl:List (Key × V)
  wo:List Row
  sa:List Int
inductive Res where
  | go (s:Sta)
  | off
  | er (e:Er)
mutual
def goR:Rw→Sta→Res
  | .take sh e sl,s=>match rk s.sl e with
    | .ok n=>.go { s with sl:=putK s.sl (.inr sl) (.int ((lastW s.wo (sh,n)).getD 0)) }
    | .error x=>.er x
  | .give sh e f,s=>match rk s.sl e with
    | .ok n=>(match rk s.sl f with
      | .ok w=>.go { s with wo:=s.wo ++ [((sh,n),w)] }
      | .error x=>.er x)
    | .error x=>.er x
  | .lt sl e,s=>match rk s.sl e with
    | .ok n=>.go { s with sl:=putK s.sl (.inr sl) (.int n) }
    | .error x=>.er x
  | .say e,s=>match rk s.sl e with
    | .ok n=>.go { s with sa:=s.sa ++ [n] }
    | .error x=>.er x
  | .off e,s=>match rk s.sl e with
    | .ok n=>if n=0 then .go s else .off
    | .error x=>.er x
  | .iff e a b,s=>match rk s.sl e with
    | .ok n=>if n=0 then goRs b s else goRs a s
    | .error x=>.er x
def goRs:Rws→Sta→Res
  | .nil,s=>.go s
  | .cons r rs,s=>match goR r s with
    | .go s'=>goRs rs s'
    | x=>x
end
mutual
def RwAt (F:Addr→Prop) (H:Hp) (v:V):Rw→Prop
  | .take sh e sl=>∃ r te,v=.ref r∧F r∧F te∧H r=some (.tup [.str "take",.str sh,.ref te,.str sl])∧H te=some (.tup e)
  | .give sh e f=>∃ r te tf,v=.ref r∧F r∧F te∧F tf∧H r=some (.tup [.str "give",.str sh,.ref te,.ref tf])∧H te=some (.tup e)∧H tf=some (.tup f)
  | .lt sl e=>∃ r te,v=.ref r∧F r∧F te∧H r=some (.tup [.str "let",.str sl,.ref te])∧H te=some (.tup e)
  | .say e=>∃ r te,v=.ref r∧F r∧F te∧H r=some (.tup [.str "say",.ref te])∧H te=some (.tup e)
  | .off e=>∃ r te,v=.ref r∧F r∧F te∧H r=some (.tup [.str "off",.ref te])∧H te=some (.tup e)
  | .iff e a b=>∃ r te la lb xs ys,v=.ref r∧F r∧F te∧F la∧F lb∧H r=some (.tup [.str "if",.ref te,.ref la,.ref lb])∧H te=some (.tup e)∧H la=some (.lst xs)∧RwsAt F H xs a∧H lb=some (.lst ys)∧RwsAt F H ys b
def RwsAt (F:Addr→Prop) (H:Hp) (vs:List V):Rws→Prop
  | .nil=>vs=[]
  | .cons r rs=>∃ v ws,vs=v :: ws∧RwAt F H v r∧RwsAt F H ws rs
end
mutual
theorem RwAt.to_ {F G:Addr→Prop} {H H':Hp} (g:∀ b o,F b→H b=some o→G b) (s:∀ b o,F b→H b=some o→H' b=some o):∀ {v:V} (r:Rw),RwAt F H v r→RwAt G H' v r
  | v,.take sh e sl,h=>by
    unfold RwAt at h ⊢
    obtain ⟨r,te,e1,f1,f2,e2,e3⟩:=h
    exact ⟨r,te,e1,g _ _ f1 e2,g _ _ f2 e3,s _ _ f1 e2,s _ _ f2 e3⟩
  | v,.give sh e f,h=>by
    unfold RwAt at h ⊢
    obtain ⟨r,te,tf,e1,f1,f2,f3,e2,e3,e4⟩:=h
    exact ⟨r,te,tf,e1,g _ _ f1 e2,g _ _ f2 e3,g _ _ f3 e4,s _ _ f1 e2,s _ _ f2 e3,s _ _ f3 e4⟩
  | v,.lt sl e,h=>by
    unfold RwAt at h ⊢
    obtain ⟨r,te,e1,f1,f2,e2,e3⟩:=h
    exact ⟨r,te,e1,g _ _ f1 e2,g _ _ f2 e3,s _ _ f1 e2,s _ _ f2 e3⟩
  | v,.say e,h=>by
    unfold RwAt at h ⊢
    obtain ⟨r,te,e1,f1,f2,e2,e3⟩:=h
    exact ⟨r,te,e1,g _ _ f1 e2,g _ _ f2 e3,s _ _ f1 e2,s _ _ f2 e3⟩
  | v,.off e,h=>by
    unfold RwAt at h ⊢
    obtain ⟨r,te,e1,f1,f2,e2,e3⟩:=h
    exact ⟨r,te,e1,g _ _ f1 e2,g _ _ f2 e3,s _ _ f1 e2,s _ _ f2 e3⟩
  | v,.iff e a b,h=>by
    unfold RwAt at h ⊢
    obtain ⟨r,te,la,lb,xs,ys,e1,f1,f2,f3,f4,e2,e3,e4,e5,e6,e7⟩:=h
    exact ⟨r,te,la,lb,xs,ys,e1,g _ _ f1 e2,g _ _ f2 e3,g _ _ f3 e4,g _ _ f4 e6,s _ _ f1 e2,s _ _ f2 e3,s _ _ f3 e4,RwsAt.to_ g s a e5,s _ _ f4 e6,RwsAt.to_ g s b e7⟩
theorem RwsAt.to_ {F G:Addr→Prop} {H H':Hp} (g:∀ b o,F b→H b=some o→G b) (s:∀ b o,F b→H b=some o→H' b=some o):∀ {vs:List V} (r:Rws),RwsAt F H vs r→RwsAt G H' vs r
  | vs,.nil,h=>by
    unfold RwsAt at h ⊢
    exact h
  | vs,.cons r rs,h=>by
    unfold RwsAt at h ⊢
    obtain ⟨v,ws,e1,e2,e3⟩:=h
    exact ⟨v,ws,e1,RwAt.to_ g s r e2,RwsAt.to_ g s rs e3⟩
end
theorem RwAt.to {F G:Addr→Prop} {H H':Hp} {v:V} (r:Rw) (g:∀ b o,F b→H b=some o→G b) (s:∀ b o,F b→H b=some o→H' b=some o) (h:RwAt F H v r):RwAt G H' v r:=RwAt.to_ g s r h
theorem RwAt.mono {F:Addr→Prop} {H H':Hp} (s:Same H H') {v:V} {r:Rw} (h:RwAt F H v r):RwAt F H' v r:=h.to r (fun _ _ f _=>f) (fun b o _ e=>s b o e)
abbrev anyA:Addr→Prop:=fun _=>True
mutual
def RwOk:Rw→Prop
  | .take _ e _=>TermOk e
  | .give _ e f=>TermOk e∧TermOk f
  | .lt _ e=>TermOk e
  | .say e=>TermOk e
  | .off e=>TermOk e
  | .iff e a b=>TermOk e∧RwsOk a∧RwsOk b
def RwsOk:Rws→Prop
  | .nil=>True
  | .cons r rs=>RwOk r∧RwsOk rs
end
mutual
def Rw.deep:Rw→Nat
  | .iff _ a b=>max a.deep b.deep + 1
  | _=>0
def Rws.deep:Rws→Nat
  | .nil=>0
  | .cons r rs=>max r.deep rs.deep
end
mutual
def Rw.cnt:Rw→Nat
  | .iff _ a b=>max a.cnt b.cnt + 1
  | _=>1
def Rws.cnt:Rws→Nat
  | .nil=>0
  | .cons r rs=>r.cnt + rs.cnt
end
end L2
namespace L2
open PySem
abbrev ItA (h:Heap) (it d:Addr) (i n ep:Nat) (o0:Value) (f:Bool) (ok ov:Value):Prop :=
  h.get? it=some { cls:=.type "dict_itemiterator",dict:=none,data:=.fields #[o0,.bool f,.ref d,.int i 0,.int n 0,.int ep 0,ok,ov],slots:=#[] }
section
variable {P:Program} {w:World} {A:Around} {E:Value→Shared→Prop} {s:Shared}
theorem rit_iter {v d:Addr} {es:Array DictEntry} {ep:Nat} {Q:Value→Shared→Prop} (hv:s.heap.IsItemsView v d) (hm:RawD s.heap d es ep)
    (q:Q (.ref s.heap.objs.size) { s with heap:=s.heap.push { cls:=.type "dict_itemiterator",data:=.fields #[.none,.bool false,.ref d,.int 0 0,.int es.size 0,.int ep 0,.none,.none] } }):wpAny (model P w) A (pyIter (.ref v)) Q E s:=by
  obtain ⟨ov,hov,hcv,hdv⟩:=id hv;obtain ⟨o,ho,hc,hdat⟩:=id hm
  refine wpAny_pyIter_slot hv.typeIs F.slot_dict_items_iter (wpAny_call_entry F.slot_dict_items_iter hv.typeIs F.entry_dict_items_iter ?_ (F.args_dict_items_iter_1 _));unfold Builtin.«dict_items.__iter__»
  refine wpAny_bind (wpAny_pure ?_);refine wpAny_bind ?_;unfold Builtin.Dict_items.dictOf
  refine wpAny_bind (wpAny_field hov hdv (x:=.ref d) rfl (wpAny_pure ?_));refine wpAny_bind ?_;unfold Builtin.Dict_items.newIterator
  refine wpAny_bind (wpAny_dictEntries ho hdat ?_);refine wpAny_bind (wpAny_dictEpoch ho hdat ?_)
  have own:Builtin.Dict_items.ownsTuple "dict_itemiterator"=true:=by decide
  simp only [own,if_true];refine wpAny_newObj_type (wpAny_pure ⟨_,rfl,"dict_itemiterator",_,⟨_,Heap.get?_push_size _ rfl,rfl⟩,F.slot_dict_itemiterator_next.lookup,?_⟩) (by simp only [sizeOk,Builtin.Dict_items.ownedTupleFields,List.size_toArray,List.length_append,List.length_cons,List.length_nil,sizeLine_eq];omega)
  simpa [rawInt,Builtin.Dict_items.ownedTupleFields] using q
theorem rit_next {it d:Addr} {i ep:Nat} {es:Array DictEntry} {e:DictEntry} {o0 ok ov:Value} {f:Bool} {Q:Option Value→Shared→Prop} (hit:ItA s.heap it d i es.size ep o0 f ok ov) (hm:RawD s.heap d es ep) (hx:es[i]?=some e)
    (ho0:(o0=.none∧f=false)∨∃ (a:Addr) (oa:Obj),o0=rawInt (a:Nat)∧s.heap.get? a=some oa∧a≠it)
    (q:∀ h' o1 f1 k1 v1,ItA h' it d (i + 1) es.size ep o1 f1 k1 v1→((o1=.none∧f1=false)∨∃ (a:Addr) (oa:Obj),o1=rawInt (a:Nat)∧h'.get? a=some oa∧a≠it)→h'.get? s.heap.objs.size=some { cls:=.type "tuple",data:=.seq #[e.key,e.val] }→h'.objs.size=s.heap.objs.size + 1 →
      (∀ b o,b≠it→s.heap.get? b=some o→h'.get? b=some o)→(∀ a:Addr,o1=rawInt (a:Nat)→a=s.heap.objs.size∨o0=rawInt (a:Nat))→Q (some (.ref s.heap.objs.size)) { s with heap:=h' }):wpAny (model P w) A (pyNext (.ref it)) Q E s:=by
  obtain ⟨hp,g,dr,tk,os⟩:=s;obtain ⟨od,hod,hcd,hdd⟩:=id hm
  have T:Shared.TypeIs ⟨hp,g,dr,tk,os⟩ (.ref it) "dict_itemiterator":=⟨_,hit,rfl⟩
  unfold pyNext;refine wpAny_bind (wpAny_attempt (wpAny_callSpecial?_slot (name:=Str.ofString "__next__") T F.slot_dict_itemiterator_next (wpAny_call_entry F.slot_dict_itemiterator_next T F.entry_dict_itemiterator_next ?_ (F.args_dict_itemiterator_next_1 _))))
  refine wpAny_bind (wpAny_pure ?_);refine wpAny_bind ?_;refine wpAny_bind ?_
  first | (refine wpAny_bind (wpAny_typeNameOfWhole_itemiter T (wpAny_pure ?_))) | (refine wpAny_bind (wpAny_typeNameOf_itemiter T (wpAny_pure ?_)))
  refine wpAny_bind (wpAny_fieldsOf hit rfl ?_);have own:Builtin.Dict_items.ownsTuple "dict_itemiterator"=true:=by decide
  simp only [own,if_true];show wpAny _ _ (if (Value.ref d == Value.none)=true then _ else _) _ _ _
  rw [if_neg (show ¬ ((Value.ref d == Value.none)=true) from Bool.false_ne_true)];refine wpAny_bind (wpAny_pure ?_);refine wpAny_bind (wpAny_dictEntries hod hdd ?_)
  rw [if_neg (by simp)];refine wpAny_bind (wpAny_pure ?_);refine wpAny_bind (wpAny_dictEpoch hod hdd ?_);rw [if_neg (by simp)];refine wpAny_pure ?_
  simp only [show ¬ ((i:Int) < 0) from by omega,if_false,Int.toNat_natCast,hx];refine wpAny_bind ?_
  first | (refine wpAny_bind (wpAny_typeNameOfWhole_itemiter T (wpAny_pure ?_))) | (refine wpAny_bind (wpAny_typeNameOf_itemiter T (wpAny_pure ?_)))
  refine wpAny_bind (wpAny_isOneOf_itemiter T ?_);show wpAny _ _ (setField (.ref it) 3 (rawInt ((i:Int) + 1)) >>= _) _ _ ⟨hp,g,dr,tk,os⟩
  refine wpAny_bind (wpAny_setField_rec hit (by simp) fun h₁ e1 s1=>?_)
  replace s1:Heap.SameBut it hp h₁:=s1
  replace e1:ItA h₁ it d (i + 1) es.size ep o0 f ok ov:=by
    have z:((i + 1:Nat):Int)=(i:Int) + 1:=by omega
    unfold ItA;rw [z];simpa [rawInt] using e1
  have T1:Shared.TypeIs ⟨h₁,g,dr,tk,os⟩ (.ref it) "dict_itemiterator":=⟨_,e1,rfl⟩
  refine wpAny_bind (wpAny_holding ?_);refine wpAny_bind (wpAny_isOneOf_itemiter T1 ?_);refine wpAny_bind (wpAny_isOneOf_itemiter T1 ?_)
  show wpAny _ _ (Builtin.Dict_items.pairFromOwner (.ref it) 6 e.key e.val) _ _ ⟨h₁,g,dr,tk,os⟩
  unfold Builtin.Dict_items.pairFromOwner;refine wpAny_bind (wpAny_newTuple ?_)
  have e2:ItA (h₁.push { cls:=.type "tuple",data:=.seq #[e.key,e.val] }) it d (i + 1) es.size ep o0 f ok ov:=Heap.get?_push_of_some _ e1
  generalize hg:h₁.push { cls:=.type "tuple",data:=.seq #[e.key,e.val] }=h₂ at e2
  have z1:h₁.objs.size=hp.objs.size:=s1.1;have il:it < hp.objs.size:=Heap.lt_size hit
  have t2:h₂.get? hp.objs.size=some { cls:=.type "tuple",data:=.seq #[e.key,e.val] }:=by rw [← hg,← z1];exact Heap.get?_push_size _ rfl
  have z2:h₂.objs.size=hp.objs.size + 1:=by rw [← hg,Heap.size_push,z1]
  have k2:∀ b o,b≠it→hp.get? b=some o→h₂.get? b=some o:=fun b o hb z=>by rw [← hg];exact Heap.get?_push_of_some _ (s1.extBut b o hb z)
  show wpAny _ _ (Builtin.Dict_items.ownedTupleIsFree (.ref it) >>= _) _ _ ⟨h₂,g,dr,tk,os⟩;rw [z1]
  clear hg e1 s1 T1 z1 h₁;refine wpAny_bind ?_;unfold Builtin.Dict_items.ownedTupleIsFree
  rcases ho0 with ⟨rfl,rfl⟩ | ⟨a,oa,rfl,ha,hai⟩
  · refine wpAny_bind (wpAny_field e2 rfl (x:=.none) rfl (wpAny_pure ?_));simp only [if_true]
    refine wpAny_bind (wpAny_field e2 rfl (x:=ok) rfl ?_);refine wpAny_bind (wpAny_field e2 rfl (x:=ov) rfl ?_)
    refine wpAny_bind (wpAny_setField_rec e2 (by simp) fun h₃ e3 s3=>?_);replace s3:Heap.SameBut it h₂ h₃:=s3;replace e3:ItA h₃ it d (i + 1) es.size ep .none false e.key ov:=e3
    refine wpAny_bind (wpAny_setField_rec e3 (by simp) fun h₄ e4 s4=>?_);replace s4:Heap.SameBut it h₃ h₄:=s4;replace e4:ItA h₄ it d (i + 1) es.size ep .none false e.key e.val:=e4
    refine wpAny_bind (wpAny_setField_rec e4 (by simp) fun h₅ e5 s5=>?_);replace s5:Heap.SameBut it h₄ h₅:=s5;replace e5:ItA h₅ it d (i + 1) es.size ep (rawInt (hp.objs.size:Nat)) false e.key e.val:=e5
    refine wpAny_bind (wpAny_setField_rec e5 (by simp) fun h₆ e6 s6=>?_);replace s6:Heap.SameBut it h₅ h₆:=s6;replace e6:ItA h₆ it d (i + 1) es.size ep (rawInt (hp.objs.size:Nat)) false e.key e.val:=e6
    have k6:∀ b o,b≠it→h₂.get? b=some o→h₆.get? b=some o:=fun b o hb z=>s6.extBut b o hb (s5.extBut b o hb (s4.extBut b o hb (s3.extBut b o hb z)))
    have t6:=k6 _ _ (Nat.ne_of_gt il) t2
    refine wpAny_bind (wpAny_letGo (wpAny_pure (wpAny_pure ⟨_,rfl,wpAny_pure (q h₆ _ _ _ _ e6 (.inr ⟨_,_,rfl,t6,Nat.ne_of_gt il⟩) t6 ?_ (fun b o hb z=>k6 b o hb (k2 b o hb z)) fun a z=>?_)⟩)))
    · show h₆.objs.size=hp.objs.size + 1;rw [s6.1,s5.1,s4.1,s3.1,z2]
    · refine .inl ?_
      have z':(Value.int (hp.objs.size:Nat) 0:Value)=Value.int (a:Nat) 0:=z
      have z'':((hp.objs.size:Nat):Int)=((a:Nat):Int):=by injection z'
      exact (Int.ofNat.inj z'').symm
  · refine wpAny_bind (wpAny_field e2 rfl (x:=rawInt (a:Nat)) rfl ?_);show wpAny _ _ (loadIfAlive (((a:Nat):Int).toNat) >>= _) _ _ _;rw [Int.toNat_natCast]
    have a2:h₂.get? a=some oa:=k2 a oa hai ha
    refine wpAny_bind (PySem.W.kdx_alive a2 ?_);simp only [Option.isNone_some,Bool.false_eq_true,if_false];refine wpAny_bind (wpAny_field e2 rfl (x:=.bool f) rfl ?_)
    cases f with
    | true =>
      rw [if_neg (show ¬ ((Value.bool true != Value.bool true)=true) from Bool.false_ne_true)];refine wpAny_pure ?_;simp only [Bool.false_eq_true,if_false]
      exact wpAny_pure (wpAny_pure ⟨_,rfl,wpAny_pure (q h₂ _ _ _ _ e2 (.inr ⟨_,_,rfl,a2,hai⟩) t2 z2 k2 fun a z=>.inr z)⟩)
    | false =>
      rw [if_pos (show (Value.bool false != Value.bool true)=true from rfl)];refine wpAny_bind (wpAny_setField_rec e2 (by simp) fun h₃ e3 s3=>?_)
      replace s3:Heap.SameBut it h₂ h₃:=s3;replace e3:ItA h₃ it d (i + 1) es.size ep (rawInt (a:Nat)) true ok ov:=e3
      refine wpAny_pure ?_;simp only [Bool.false_eq_true,if_false]
      exact wpAny_pure (wpAny_pure ⟨_,rfl,wpAny_pure (q h₃ _ _ _ _ e3 (.inr ⟨_,_,rfl,s3.extBut _ _ hai a2,hai⟩) (s3.extBut _ _ (Nat.ne_of_gt il) t2) (by show h₃.objs.size=_;rw [s3.1,z2]) (fun b o hb z=>s3.extBut b o hb (k2 b o hb z)) fun a z=>.inr z)⟩)
theorem rit_end {it d:Addr} {i ep:Nat} {es:Array DictEntry} {o0 ok ov:Value} {f:Bool} {Q:Option Value→Shared→Prop} (hh:A.handled=none) (hit:ItA s.heap it d i es.size ep o0 f ok ov) (hm:RawD s.heap d es ep) (hx:es.size≤i)
    (q:∀ h',Heap.ExtBut it s.heap h'→Q none { s with heap:=h' }):wpAny (model P w) A (pyNext (.ref it)) Q E s:=by
  obtain ⟨od,hod,hcd,hdd⟩:=id hm;have T:s.TypeIs (.ref it) "dict_itemiterator":=⟨_,hit,rfl⟩
  unfold pyNext;refine wpAny_bind (wpAny_attempt (wpAny_callSpecial?_slot (name:=Str.ofString "__next__") T F.slot_dict_itemiterator_next (wpAny_call_entry F.slot_dict_itemiterator_next T F.entry_dict_itemiterator_next ?_ (F.args_dict_itemiterator_next_1 _))))
  refine wpAny_bind (wpAny_pure ?_);refine wpAny_bind ?_;refine wpAny_bind ?_
  first | (refine wpAny_bind (wpAny_typeNameOfWhole_itemiter T (wpAny_pure ?_))) | (refine wpAny_bind (wpAny_typeNameOf_itemiter T (wpAny_pure ?_)))
  refine wpAny_bind (wpAny_fieldsOf hit rfl ?_);have own:Builtin.Dict_items.ownsTuple "dict_itemiterator"=true:=by decide
  simp only [own,if_true];show wpAny _ _ (if (Value.ref d == Value.none)=true then _ else _) _ _ s
  rw [if_neg (show ¬ ((Value.ref d == Value.none)=true) from Bool.false_ne_true)];refine wpAny_bind (wpAny_pure ?_);refine wpAny_bind (wpAny_dictEntries hod hdd ?_)
  rw [if_neg (by simp)];refine wpAny_bind (wpAny_pure ?_);refine wpAny_bind (wpAny_dictEpoch hod hdd ?_);rw [if_neg (by simp)];refine wpAny_pure ?_
  simp only [show ¬ ((i:Int) < 0) from by omega,if_false,Int.toNat_natCast,Array.getElem?_eq_none hx];refine wpAny_bind ?_
  first | (refine wpAny_bind (wpAny_typeNameOfWhole_itemiter T (wpAny_pure ?_))) | (refine wpAny_bind (wpAny_typeNameOf_itemiter T (wpAny_pure ?_)))
  show wpAny _ _ (setField (.ref it) 2 .none >>= _) _ _ s;refine wpAny_bind (wpAny_setField hit rfl (by simp) ?_)
  show wpAny _ _ (newExc (.type "StopIteration") [] >>= _) _ _ _;refine wpAny_bind ?_;simp only [newExc,newTuple];refine wpAny_bind (wpAny_newObj_type ?_ (by size_fits))
  refine wpAny_bind (m:=firstArgMember _ _) (wpAny_of_eq (a:=Value.none) (by first | rfl | (simp only [firstArgMember];rfl)) ?_);refine wpAny_newObj_type ?_ (by size_fits)
  simp only [raiseNew];refine wpAny_bind (wpAny_handled ?_);rw [show A.in1.handled=none from hh];refine wpAny_bind (wpAny_pure (wpAny_throw ?_))
  refine wpAny_bind (wpAny_isInstance (T:="StopIteration") (b:=true) ⟨_,Heap.get?_push_size _ rfl,rfl⟩ isSubtype_stop ?_);exact wpAny_pure (q _ (((Heap.SameBut.update ..).extBut.push _).push _))
end
end L2
namespace L2
open PySem PySem.Spec PyProof.Rows
def viewO (r d:Addr):HO:=.ext fun h=>h.IsItemsView r d
def tItems (td:TE):TE:=fun σ H Q=>td σ H fun x H1=>∃ d kvs,x=.ref d∧H1 d=some (.dT kvs)∧∀ r,H1 r=none→Q (.ref r) (upd H1 r (viewO r d))
section
variable {X:Cx} {o:Expr} {apos cpos:Pos} {td:TE}
theorem pe_items (ho:PE X o td) (hbase:attributeBase o "items" X.env (eval o X.env)=eval o X.env:=by rfl) (hline:(apos.endLine == cpos.line)=true:=by rfl):PE X (.Call (.Attribute o "items" apos) [] [] cpos) (tItems td):=by
  intro pins s σ H Q I h
  refine wpAny_Call_method0_late hbase hline (thn (ho pins s σ H _ I h) fun v s1 ⟨x,H1,I1,r1,d,kvs,ex,hd,q1⟩=>?_)
  subst ex
  obtain rfl:v=Value.ref d:=r1
  obtain ⟨t1,t2,t3⟩:=isD_at I1 (.inr ⟨kvs,.inl hd⟩)
  refine ⟨"dict","dict.items",PySem.F.plainAttrs_dict,PySem.F.slot_dict_items,PySem.F.type_dict_items,t1,t2,Calls.callWith_builtin rfl (PySem.evalArgs_none ?_)⟩
  refine wpAny_call_entry PySem.F.slot_dict_items t1 PySem.F.entry_dict_items ?_ (PySem.F.args_dict_items_1 _)
  unfold Builtin.«dict.items»;refine wpAny_bind ?_;unfold Builtin.Dict.noArgs;refine wpAny_bind (wpAny_notOrdered_dict t1 ?_)
  show wpAny _ _ (pure d) _ _ s1;refine wpAny_pure ?_
  show wpAny _ _ (Builtin.Dict.showsAll d >>= _) _ _ s1;unfold Builtin.Dict.showsAll
  rw [if_neg (by rw [t3];exact Bool.false_ne_true)];refine wpAny_bind (wpAny_pure ?_)
  refine wpAny_bind (wpAny_newObj_type (wpAny_pure ⟨_,rfl,?_⟩))
  have hn:H1 s1.heap.objs.size=none:=I1.hok.fresh (Nat.le_refl _)
  have at0:(s1.heap.push { cls:=.type "dict_items",data:=.fields #[.ref d] }).get? s1.heap.objs.size=some { cls:=.type "dict_items",data:=.fields #[.ref d] }:=Heap.get?_push_size _ rfl
  refine ⟨.ref s1.heap.objs.size,_,I1.laid (a:=s1.heap.objs.size) (o:=viewO s1.heap.objs.size d) (t':=s1.toks) (fun b u e=>Heap.get?_push_of_some _ e) (Nat.le_refl _) ?_,rfl,q1 _ hn⟩
  exact ⟨⟨_,at0,rfl,rfl⟩,⟨_,at0⟩,fun h1 h2 ⟨o,e1,e2⟩ k=>⟨o,k o e1,e2⟩⟩
end
def KvAt (H:Hp) (v:V) (kv:List Key × V):Prop:=∃ r p,v=.ref r∧H r=some (.tup [.ref p,kv.2])∧H p=some (.tup (kv.1.map kV))
theorem kvs_mono {H H':Hp} (s:∀ b ys,H b=some (.tup ys)→H' b=some (.tup ys)):∀ {vs:List V} {kvs:List (List Key × V)},Paired (KvAt H) vs kvs→Paired (KvAt H') vs kvs
  | _,_,.nil=>.nil
  | _,_,.cons ⟨r,p,e,h1,h2⟩ t=>.cons ⟨r,p,e,s _ _ h1,s _ _ h2⟩ (kvs_mono s t)
theorem kvs_snoc {H:Hp} {v:V} {q:List Key × V}:∀ {ys:List V} {kvs:List (List Key × V)},Paired (KvAt H) ys kvs→KvAt H v q→Paired (KvAt H) (ys ++ [v]) (kvs ++ [q])
  | _,_,.nil,h=>.cons h .nil
  | _,_,.cons a r,h=>.cons a (kvs_snoc r h)
section
variable {X:Cx} {A:Around} {R:Result→Shared→Prop}
theorem itl_loop {pins:List (Addr × Obj)} {σ:St} {H:Hp} {S it d:Addr} {kvs:List (List Key × V)} {es:Array DictEntry} {ep:Nat} {res:Value} (hh:A.handled=none) (hS:H S=none) (hd:H d=some (.dT kvs)) (Sit:S≠it) (dit:d≠it) (hz:kvs.length≤1000)
    (hes:es.size=kvs.length) (hen:∀ (i:Nat) (e:DictEntry) (kv:List Key × V),es[i]?=some e→kvs[i]?=some kv→∃ p,e.key=.ref p∧H p=some (.tup (kv.1.map kV))∧RelV kv.2 e.val) (fin:∀ s' H' ys,Inv X pins σ H' s'→Same H H'→H' S=some (.lst ys)→Paired (KvAt H') ys kvs→R (.ok (.ret res)) s') :
    ∀ (k i:Nat) (s:Shared) (Hi:Hp) (ys:List V) (o0 ok ov:Value) (f:Bool),kvs.length - i=k→i≤kvs.length→Inv X pins σ Hi s→Same H Hi→Hi S=some (.lst ys)→Paired (KvAt Hi) ys (kvs.take i)→RawD s.heap d es ep→ItA s.heap it d i es.size ep o0 f ok ov →
    ((o0=.none∧f=false)∨∃ (a:Addr) (oa:Obj),o0=rawInt (a:Nat)∧s.heap.get? a=some oa∧a≠it∧a≠S)→FpOk X pins Hi it →
    codeAny (model X.prog X.w) A (.builtin "list.extend.loop" ⟨[.ref S,.ref it,res],[]⟩) R s:=by
  intro k
  induction k with
  | zero =>
    intro i s Hi ys o0 ok ov f hk hi I sm hy pr rd hit ho0 hf
    have e:i=kvs.length:=by omega
    subst e
    refine codeAny_builtin PySem.F.entry_extend_loop ?_;rw [Around.under_plainId PySem.F.plain_extend_loop _]
    show wpAny _ A.in1 (pyNext (.ref it) >>= _) _ _ s
    obtain ⟨f0,f1,f2,f3,f4,f5⟩:=hf
    refine wpAny_bind (rit_end (A:=A.in1) hh hit rd (by omega) fun h' eb=>?_)
    have I1:=I.turned (t':=s.toks) (fun b o hb e=>eb b o hb e) f0 f1 f3 f4 f5
    rw [List.take_length] at pr
    exact wpAny_pure (fin _ Hi ys I1 sm hy pr)
  | succ k ih =>
    intro i s Hi ys o0 ok ov f hk hi I sm hy pr rd hit ho0 hf
    have hlt:i < kvs.length:=by omega
    have hx:es[i]?=some es[i]:=Array.getElem?_eq_getElem (by omega)
    have hkv:kvs[i]?=some kvs[i]:=List.getElem?_eq_getElem hlt
    obtain ⟨p,ek,hp,rv⟩:=hen i _ _ hx hkv
    refine codeAny_builtin PySem.F.entry_extend_loop ?_;rw [Around.under_plainId PySem.F.plain_extend_loop _]
    show wpAny _ A.in1 (pyNext (.ref it) >>= _) _ _ s
    obtain ⟨f0,f1,f2,f3,f4,f5⟩:=id hf
    have ho0':(o0=.none∧f=false)∨∃ (a:Addr) (oa:Obj),o0=rawInt (a:Nat)∧s.heap.get? a=some oa∧a≠it:=by
      rcases ho0 with z | ⟨a,oa,z1,z2,z3,_⟩
      · exact .inl z
      · exact .inr ⟨a,oa,z1,z2,z3⟩
    refine wpAny_bind (rit_next (A:=A.in1) hit rd hx ho0' fun h' o1 f1' k1 v1 hit' ho1 ht hz' kp own=>?_)
    have Sl:S < s.heap.objs.size:=by
      obtain ⟨_,_,_,_,e⟩:=(show ObjOk X.prog X.w Hi s.heap S (.lst ys) from I.hok S _ hy)
      exact Heap.lt_size e
    have tn:s.heap.objs.size≠it:=Nat.ne_of_gt (Heap.lt_size hit)
    have hTn:Hi s.heap.objs.size=none:=I.hok.fresh (Nat.le_refl _)
    have STn:S≠s.heap.objs.size:=Nat.ne_of_lt Sl
    generalize hT:s.heap.objs.size=T at *
    have I6:Inv X pins σ (upd Hi T (.tup [.ref p,kvs[i].2])) { s with heap:=s.heap.push { cls:=.type "tuple",data:=.seq #[es[i].key,es[i].val] } } :=
      I.laid (a:=T) (o:=.tup [.ref p,kvs[i].2]) (t':=s.toks) (fun b u e=>Heap.get?_push_of_some _ e) (by rw [hT];exact Nat.le_refl _) ⟨by show 2≤sizeLine;decide,[es[i].key,es[i].val],.cons (by rw [ek];exact rfl) (.cons rv .nil),⟨_,by rw [← hT];exact Heap.get?_push_size _ rfl,rfl,_,rfl⟩⟩
    have S6:Same Hi (upd Hi T (.tup [.ref p,kvs[i].2])):=isV T hTn
    have I7:Inv X pins σ (upd Hi T (.tup [.ref p,kvs[i].2])) { s with heap:=h' }:=I6.turned (s:={ s with heap:=s.heap.push { cls:=.type "tuple",data:=.seq #[es[i].key,es[i].val] } }) (t':=s.toks) (fun b o hb e=>by
      rcases Heap.get?_push_cases (show (s.heap.push { cls:=.type "tuple",data:=.seq #[es[i].key,es[i].val] }).get? b=some o from e) with ⟨rfl,rfl⟩ | e
      · rw [hT];exact ht
      · exact kp b o hb e) (by rw [upd_ne (Ne.symm tn)];exact f0) f1 f3 f4 f5
    have hy7:(upd Hi T (.tup [.ref p,kvs[i].2])) S=some (.lst ys):=S6 _ _ hy
    obtain ⟨z,its,n,r,hl,e⟩:=I7.lstM hy7
    have yl:ys.length=i:=by
      have:=Paired.length pr
      rw [List.length_take] at this
      omega
    show wpAny _ A.in1 (updateSeq S (·.push (Value.ref T)) >>= _) _ _ _
    have e':h'.get? S=some { cls:=.type "list",data:=.seq its.toArray n }:=e
    refine wpAny_bind (wpAny_updateSeq (s:={ s with heap:=h' }) e' rfl ?_ (by rw [List.size_toArray,← r.length,yl];exact Nat.le_trans (by omega:i≤1000) (by decide)) (by rw [Array.size_push,List.size_toArray,← r.length,yl];exact Nat.le_trans (by omega:i + 1≤1001) (by decide)))
    have I8:=I7.lset (f:=fun xs=>xs.push (Value.ref T)) (t':=s.toks) (its':=its ++ [Value.ref T]) hy7 e' (by simp) (r.append (.cons (show RelV (.ref T) (.ref T) from rfl) .nil)) (by rw [List.length_append,yl];exact Nat.le_trans (by show i + 1≤1001;omega) (by decide))
    have up:∀ b o,b≠S→h'.get? b=some o→(h'.update S (Obj.mapSeq (·.push (Value.ref T)))).get? b=some o:=fun b o hb z=>(Heap.get?_update_other _ _ (Ne.symm hb)).trans z
    have dS:d≠S:=ne_of_none hd hS
    have tS:∀ b zs,Hi b=some (.tup zs)→(upd (upd Hi T (.tup [.ref p,kvs[i].2])) S (.lst (ys ++ [.ref T]))) b=some (.tup zs):=fun b zs z=>by
      rw [upd_ne (ne_of z hy (by intro z;cases z))];exact S6 _ _ z
    have ri:∀ {a b:Nat},(rawInt (a:Int):Value)=rawInt (b:Int)→a=b:=fun {a b} z=>by
      have z':(Value.int (a:Int) 0:Value)=Value.int (b:Int) 0:=z
      have z'':(a:Int)=(b:Int):=by injection z'
      exact Int.ofNat.inj z''
    refine wpAny_pure ⟨plainId_quiet PySem.F.plain_extend_loop _,ih (i + 1) _ _ (ys ++ [.ref T]) o1 k1 v1 f1' (by omega) hlt I8 (fun b o z=>?_) upd_same ?_ (rd.at fun o z=>up d o dS (kp d o dit z)) (up it _ (Ne.symm Sit) hit') ?_ ⟨?_,f1,f2,f3,f4,f5⟩⟩
    · rw [upd_ne (ne_of_none z hS)];exact S6 _ _ (sm _ _ z)
    · rw [List.take_add_one,hkv]
      exact kvs_snoc (kvs_mono tS pr) ⟨T,p,rfl,by rw [upd_ne (Ne.symm STn),upd_same],tS _ _ (sm _ _ hp)⟩
    · rcases ho1 with z | ⟨a,oa,z1,z2,z3⟩
      · exact .inl z
      · have aS:a≠S:=by
          rcases own a z1 with z | z
          · rw [z];exact Ne.symm STn
          · rcases ho0 with ⟨y1,_⟩ | ⟨a',oa',y1,_,_,y4⟩
            · rw [y1] at z;cases z
            · rw [y1] at z
              rw [← ri z];exact y4
        exact .inr ⟨a,oa,z1,up a _ aS z2,z3,aS⟩
    · rw [upd_ne (Ne.symm Sit),upd_ne (Ne.symm tn)];exact f0
end
end L2
namespace L2
open PySem PySem.Spec PyProof.Rows
abbrev cLstI:RC:=fun vs H Q=>∃ r d kvs,vs=[.ref r]∧H r=some (viewO r d)∧H d=some (.dT kvs)∧kvs.length≤1000∧∀ l ys H',Same H H'→H l=none→H' l=some (.lst ys)→Paired (KvAt H') ys kvs→Q (.ref l) H'
theorem view_at {P:Program} {w:World} {H:Hp} {h:Heap} {r d:Addr} (k:HOk P w H h) (e:H r=some (viewO r d)):h.IsItemsView r d:=(k r _ e).1
theorem rel_get {H:Hp}:∀ {kvs:List (List Key × V)} {xs:List (List Key × Addr × Value)},Paired (fun (p:List Key × V) (q:List Key × Addr × Value)=>p.1=q.1∧H q.2.1=some (.tup (p.1.map kV))∧RelV p.2 q.2.2) kvs xs→∀ {i:Nat} {kv:List Key × V} {x:List Key × Addr × Value},kvs[i]?=some kv→xs[i]?=some x→H x.2.1=some (.tup (kv.1.map kV))∧RelV kv.2 x.2.2 :=
  fun {_ _} h {_ _ _} e1 e2=>(paired_get h e1 e2).2
section
variable {X:Cx}
theorem raw_of {pins:List (Addr × Obj)} {σ:St} {H:Hp} {s:Shared} {d:Addr} {kvs:List (List Key × V)} (I:Inv X pins σ H s) (e:H d=some (.dT kvs)):∃ es ep,RawD s.heap d es ep∧es.size=kvs.length ∧
    ∀ (i:Nat) (en:DictEntry) (kv:List Key × V),es[i]?=some en→kvs[i]?=some kv→∃ p,en.key=.ref p∧H p=some (.tup (kv.1.map kV))∧RelV kv.2 en.val:=by
  obtain ⟨z,hd,xs,rel,o,es,ep,h1,h2,h3,h4,_⟩:=(show ObjOk X.prog X.w H s.heap d (.dT kvs) from I.hok d _ e)
  have l1:es.size=xs.length:=by rw [← Array.length_toList,h4,List.length_map]
  refine ⟨es,ep,⟨o,h1,h2,h3⟩,by rw [l1,← Paired.length rel],fun i en kv e1 e2=>?_⟩
  have e3:es.toList[i]?=some en:=by rw [Array.getElem?_toList];exact e1
  rw [h4,List.getElem?_map] at e3
  obtain ⟨x,hx,rfl⟩:=Option.map_eq_some_iff.mp e3
  obtain ⟨g1,g2⟩:=rel_get rel e2 hx
  exact ⟨x.2.1,rfl,g1,g2⟩
theorem ext_items {A:Around} {R:Result→Shared→Prop} {pins:List (Addr × Obj)} {σ:St} {H:Hp} {s:Shared} {S r d:Addr} {kvs:List (List Key × V)} {res:Value} {c:Nat} (hh:A.handled=none) (hS:H S=none) (hr:H r=some (viewO r d)) (hd:H d=some (.dT kvs)) (hl:kvs.length≤1000)
    (I2:Inv X pins σ (upd H S (.lst [])) s) (T2:s.heap.get? S=some { cls:=.type "list",data:=.seq #[] c }) (hR:∀ s' H' ys,Inv X pins σ H' s'→Same H H'→H' S=some (.lst ys)→Paired (KvAt H') ys kvs→R (.ok (.ret res)) s') :
    wpAny (model X.prog X.w) A.in1 (Builtin.List.listExtendWith (.ref S) (.ref r) res) (fun fin s'=>match fin with | .done f=>R (.ok f) s' | .again c'=>c'.quiet=true∧codeAny (model X.prog X.w) A c' R s') (fun e s'=>R (.error e) s') s:=by
  have Sr:r≠S:=ne_of_none hr hS
  have Sd:d≠S:=ne_of_none hd hS
  have SS:Same H (upd H S (.lst [])):=isV S hS
  obtain ⟨es,ep,rd,hes,hen0⟩:=raw_of I2 (SS _ _ hd)
  have hen:∀ (i:Nat) (en:DictEntry) (kv:List Key × V),es[i]?=some en→kvs[i]?=some kv→∃ p,en.key=.ref p∧H p=some (.tup (kv.1.map kV))∧RelV kv.2 en.val:=fun i en kv e1 e2=>by
    obtain ⟨p,g1,g2,g3⟩:=hen0 i en kv e1 e2
    refine ⟨p,g1,?_,g3⟩
    by_cases hp:p=S
    · rw [hp,upd_same] at g2;cases g2
    · rwa [upd_ne hp] at g2
  have vw:=view_at I2.hok (SS _ _ hr)
  unfold Builtin.List.listExtendWith
  refine wpAny_bind (wpAny_typeOf (T:="dict_items") vw.typeIs ?_)
  have c1:Builtin.List.listSameRef (.ref S) (.ref r)=false:=by simp [Builtin.List.listSameRef,Ne.symm Sr]
  have c2:(Value.type "dict_items" == Value.type "list")=false:=by decide
  have c3:(Value.type "dict_items" == Value.type "tuple")=false:=by decide
  simp only [c1,c2,c3,Bool.or_false,Bool.false_eq_true,if_false]
  refine wpAny_bind (rit_iter vw rd ?_)
  have ni:(upd H S (.lst [])) s.heap.objs.size=none:=I2.hok.fresh (Nat.le_refl _)
  have fp:FpOk X pins (upd H S (.lst [])) s.heap.objs.size:=I2.fpOk (Nat.le_refl _) ni
  have Si:S≠s.heap.objs.size:=Nat.ne_of_lt (Heap.lt_size T2)
  have di:d≠s.heap.objs.size:=Nat.ne_of_lt rd.lt
  have I3:Inv X pins σ (upd H S (.lst [])) { s with heap:=s.heap.push { cls:=.type "dict_itemiterator",data:=.fields #[.none,.bool false,.ref d,.int 0 0,.int es.size 0,.int ep 0,.none,.none] } }:=I2.kept (t':=s.toks) fun b o e=>Heap.get?_push_of_some _ e
  have T3:=Heap.get?_push_of_some { cls:=.type "dict_itemiterator",data:=.fields #[.none,.bool false,.ref d,.int 0 0,.int es.size 0,.int ep 0,.none,.none] } T2
  have it3:ItA (s.heap.push { cls:=.type "dict_itemiterator",data:=.fields #[.none,.bool false,.ref d,.int 0 0,.int es.size 0,.int ep 0,.none,.none] }) s.heap.objs.size d 0 es.size ep .none false .none .none:=Heap.get?_push_size _ rfl
  have rd3:RawD (s.heap.push { cls:=.type "dict_itemiterator",data:=.fields #[.none,.bool false,.ref d,.int 0 0,.int es.size 0,.int ep 0,.none,.none] }) d es ep:=rd.at fun o e=>Heap.get?_push_of_some _ e
  have vw3:(s.heap.push { cls:=.type "dict_itemiterator",data:=.fields #[.none,.bool false,.ref d,.int 0 0,.int es.size 0,.int ep 0,.none,.none] }).IsItemsView r d:=let ⟨o,ho,x⟩:=vw;⟨o,Heap.get?_push_of_some _ ho,x⟩
  generalize hh3:s.heap.push { cls:=.type "dict_itemiterator",data:=.fields #[.none,.bool false,.ref d,.int 0 0,.int es.size 0,.int ep 0,.none,.none] }=h3 at *
  generalize s.heap.objs.size=it at *
  refine wpAny_bind (wpAny_holding (PySem.W.kdx_hint vw3.typeIs ?_))
  have fin:∀ (h4:Heap) (tk:Nat) (R:Result→Shared→Prop),(∀ s' H' ys,Inv X pins σ H' s'→Same H H'→H' S=some (.lst ys)→Paired (KvAt H') ys kvs→R (.ok (.ret res)) s')→Inv X pins σ (upd H S (.lst [])) { s with heap:=h4,toks:=tk }→RawD h4 d es ep→ItA h4 it d 0 es.size ep .none false .none .none →
      codeAny (model X.prog X.w) A (.builtin "list.extend.loop" ⟨[.ref S,.ref it,res],[]⟩) R { s with heap:=h4,toks:=tk }:=fun h4 tk R hR I4 rd4 it4 =>
    itl_loop (A:=A) (H:=H) (es:=es) (ep:=ep) hh hS hd Si di hl hes hen hR kvs.length 0 _ (upd H S (.lst [])) [] .none .none .none false (Nat.sub_zero _) (Nat.zero_le _) I4 SS upd_same .nil rd4 it4 (.inl ⟨rfl,rfl⟩) fp
  refine wpAny_ite_split (fun _=>?_) (fun _=>wpAny_pure ⟨plainId_quiet PySem.F.plain_extend_loop _,fin h3 s.toks _ hR I3 rd3 it3⟩)
  refine wpAny_bind (wpAny_rule ?_);refine wpAny_bind ?_
  show wpAny _ _ (updateSeq S (·.push .none) >>= fun _=>updateSeq S (·.pop)) _ _ _;refine wpAny_bind (wpAny_updateSeq T3 rfl ?_)
  have T4:=Heap.get?_update_self (Obj.mapSeq (·.push Value.none)) T3 rfl
  refine wpAny_updateSeq (hz:=by seq_fits) T4 rfl ?_
  have I4:=I3.lset (f:=fun xs=>xs.push Value.none) (its:=[]) (its':=[Value.none]) (ys:=[V.non]) (t':=s.toks) upd_same T3 rfl (.cons rfl .nil) (by show 1≤sizeLine;decide)
  have I5:=I4.lset (f:=fun xs=>xs.pop) (its:=[Value.none]) (its':=[]) (ys:=[]) (t':=s.toks) upd_same T4 rfl .nil (Nat.zero_le _)
  rw [upd_upd,upd_upd] at I5
  have oth:∀ b o,b≠S→h3.get? b=some o→((h3.update S (Obj.mapSeq (·.push Value.none))).update S (Obj.mapSeq (·.pop))).get? b=some o:=fun b o hb e=>(Heap.get?_update_other _ _ (Ne.symm hb)).trans ((Heap.get?_update_other _ _ (Ne.symm hb)).trans e)
  exact wpAny_pure ⟨plainId_quiet PySem.F.plain_extend_loop _,fin _ s.toks _ hR I5 (rd3.at fun o e=>oth d o Sd e) (oth it _ (Ne.symm Si) it3)⟩
theorem call_list_items (hc:X.calm=true):CallR X (.type "list") cLstI:=by
  intro pins s σ H vs us Q I r0 h
  obtain ⟨r,d,kvs,rfl,hr,hd,hl,q⟩:=h
  obtain ⟨u,rfl,ru⟩:=vals1 r0
  cases ru
  have hh:X.A.handled=none:=I.ok.hd hc
  refine callType_codes (Q₁:=fun obj s₁=>obj=.ref s.heap.objs.size∧s₁={ s with heap:=s.heap.push { cls:=.type "list",data:=.seq #[] } }) PySem.F.called_list (PySem.F.typeCall_list_1 _) PySem.F.entry_list_init (code_list_new _ ⟨rfl,rfl⟩) ?_;rintro obj s₁ ⟨rfl,rfl⟩
  have hS:H s.heap.objs.size=none:=I.hok.fresh (Nat.le_refl _)
  have I1:Inv X pins σ (upd H s.heap.objs.size (.lst [])) { s with heap:=s.heap.push { cls:=.type "list",data:=.seq #[] } }:=I.lnew (its:=[]) (t':=s.toks) .nil (Nat.zero_le _)
  have T0:(s.heap.push { cls:=.type "list",data:=.seq #[] }).get? s.heap.objs.size=some { cls:=.type "list",data:=.seq #[] }:=Heap.get?_push_size _ rfl
  generalize hT:s.heap.objs.size=S at *
  refine ⟨⟨_,T0,rfl⟩,PySem.F.args_list_init_2 _ _,?_⟩
  show wpAny _ _ (do let old ← Builtin.List.listItems (.ref S);Builtin.List.listUpdate (.ref S) (fun _=>#[]);letGo old.toList.reverse;Builtin.List.listExtendWith (.ref S) (.ref r) .none) _ _ _
  refine wpAny_bind ?_;unfold Builtin.List.listItems;refine wpAny_bind (wpAny_seqItems T0 rfl (wpAny_pure ?_))
  show wpAny _ _ (updateSeq S (fun _=>#[]) >>= fun _=>letGo (#[]:Array Value).toList.reverse >>= fun _=>Builtin.List.listExtendWith (.ref S) (.ref r) .none) _ _ _
  refine wpAny_bind (wpAny_updateSeq T0 rfl ?_)
  have I2:=I1.lset (f:=fun _=>(#[]:Array Value)) (its:=[]) (its':=[]) (ys:=[]) (t':=s.toks) upd_same T0 rfl .nil (Nat.zero_le _)
  rw [upd_upd] at I2
  have T2:=Heap.get?_update_self (Obj.mapSeq (fun _=>(#[]:Array Value))) T0 rfl
  refine wpAny_bind (wpAny_letGo ?_)
  generalize hh2:(s.heap.push { cls:=.type "list",data:=.seq #[] }).update S (Obj.mapSeq (fun _=>(#[]:Array Value)))=h2 at *
  exact ext_items (A:=X.A.in1) (H:=H) hh hS hr hd hl I2 T2 fun s' H' ys I' sm hy pr=>⟨rfl,.ref S,H',I',rfl,q S ys H' sm hS hy pr⟩
end
end L2
namespace L2
open PySem PySem.Spec PyProof.Rows PySem.W
section
variable {X:Cx}
theorem coll_items {A:Around} {E:Value→Shared→Prop} {R:List Value→Shared→Prop} {pins:List (Addr × Obj)} {σ:St} {H:Hp} {s:Shared} {r d:Addr} {kvs:List (List Key × V)} (hh:A.handled=none) (hr:H r=some (viewO r d)) (hd:H d=some (.dT kvs)) (hl:kvs.length≤1000) (I:Inv X pins σ H s)
    (h:∀ s1 H' ys us,Inv X pins σ H' s1→Same H H'→Paired (KvAt H') ys kvs→Vals ys us→R us s1):wpAny (model X.prog X.w) A (collect (.ref r)) R E s:=by
  have hS:H s.heap.objs.size=none:=I.hok.fresh (Nat.le_refl _)
  have I1:Inv X pins σ (upd H s.heap.objs.size (.lst [])) { s with heap:=s.heap.push { cls:=.type "list",data:=.seq ([]:List Value).toArray } }:=I.lnew (its:=[]) (t':=s.toks) .nil (Nat.zero_le _)
  have T1:(s.heap.push { cls:=.type "list",data:=.seq ([]:List Value).toArray }).get? s.heap.objs.size=some { cls:=.type "list",data:=.seq #[] }:=Heap.get?_push_size _ rfl
  unfold collect;refine wpAny_bind (wpAny_runValue (codeAny_builtin entry_proto_collect' ?_));rw [Around.under_plainId PySem.F.plain_proto_collect _]
  show wpAny _ A.in1 (newList [] >>= fun l=>again (.builtin "list.__iadd__" ⟨[l,.ref r],[]⟩)) _ _ s;refine wpAny_bind (wpAny_newObj_type ?_)
  refine wpAny_pure ⟨plainId_quiet PySem.F.plain_list_iadd _,codeAny_builtin entry_list_iadd' ?_⟩;rw [Around.under_plainId PySem.F.plain_list_iadd _]
  generalize s.heap.objs.size=S at *
  show wpAny _ A.in1 (Builtin.List.listExtendWith (.ref S) (.ref r) (.ref S)) _ _ _
  have key:=ext_items (A:=A) (R:=fun (q:Result) (s':Shared)=>∃ H' ys,q=.ok (.ret (.ref S))∧Inv X pins σ H' s'∧Same H H'∧H' S=some (.lst ys)∧Paired (KvAt H') ys kvs) (res:=.ref S) hh hS hr hd hl I1 T1 fun s' H' ys I' sm hy pr=>⟨H',ys,rfl,I',sm,hy,pr⟩
  have fin:∀ s':Shared,(∃ H' ys,Inv X pins σ H' s'∧Same H H'∧H' S=some (.lst ys)∧Paired (KvAt H') ys kvs)→wpAny (model X.prog X.w) A (load S >>= fun o=>match o.data with | .seq xs _=>pure xs.toList | _=>unsupported "internal:collect") R E s':=fun s' ⟨H',ys,I',sm,hy,pr⟩=>by
    obtain ⟨z,its,n,rv,hl',e⟩:=I'.lstM hy
    refine wpAny_bind (wpAny_load e ?_)
    refine wpAny_pure ?_
    exact h s' H' ys its I' sm pr rv
  refine wpAny_mono key (fun f s' x=>?_) fun e s' x=>?_
  · cases f with
    | done f =>
      obtain ⟨H',ys,e,x⟩:=x
      cases e
      exact fin s' ⟨H',ys,x⟩
    | again c₁ =>
      refine ⟨x.1,codeAny_mono x.2 fun q s₂ y=>?_⟩
      obtain ⟨H',ys,rfl,y⟩:=y
      exact fin s₂ ⟨H',ys,y⟩
  · obtain ⟨_,_,e',_⟩:=x
    cases e'
end
section
variable {P:Program} {w:World} {A:Around} {E:Value→Shared→Prop} {s:Shared}
theorem lt_place {x y:Addr} {a b:Str × Int} {Q:Bool→Shared→Prop} (hu:A.units < cLine) (hx:PlAt s.heap (.ref x) a) (hy:PlAt s.heap (.ref y) b) (h:Q (placeLt a b) s):wpAny (model P w) A (oneLt' false (.ref x) (.ref y)) Q E s:=by
  obtain ⟨p,o,t,u,n,e1,ho,hc,hd⟩:=hx
  obtain ⟨p2,o2,t2,u2,n2,e2,ho2,hc2,hd2⟩:=hy
  cases e1
  cases e2
  obtain ⟨c,dd,dat,sl⟩:=o
  obtain ⟨c2,dd2,dat2,sl2⟩:=o2
  simp only at hc hd hc2 hd2
  subst hc hd hc2 hd2
  have T1:s.TypeIs (.ref x) "tuple":=⟨_,ho,rfl⟩
  have T2:s.TypeIs (.ref y) "tuple":=⟨_,ho2,rfl⟩
  refine kat_one _ _ ?_
  show wpAny _ _ (richCompare .Lt (.ref x) (.ref y)) _ _ _
  refine wpAny_richCompare_same_room T1 T2 PySem.F.slot_tuple_lt ?_ hu
  exact call_meets PySem.F.slot_tuple_lt T1 PySem.F.entry_tuple_lt (PySem.F.args_tuple_lt_2 _ _) (tuple_lt_place x y a.1 b.1 a.2 b.2 t u t2 u2 n n2 dd dd2 sl sl2) ⟨ho,ho2,by simp,h⟩
theorem pl_key {h:Heap} {x:Addr} {a:Str × Int} (hx:PlAt h (.ref x) a):IsTupleKey (mixKind P w) h (plKey a) x:=by
  obtain ⟨p,o,t,u,n,e1,ho,hc,hd⟩:=hx
  cases e1
  exact ⟨o,_,n,ho,hc,hd,items_are (ks:=plKey a) (.cons ⟨t,rfl⟩ (.cons ⟨u,rfl⟩ .nil))⟩
def RvAt (h:Heap) (v:Value) (q:Row):Prop:=∃ a o p t n,v=.ref a∧h.get? a=some o∧o.cls=.type "tuple"∧o.data=.seq #[.ref p,.int q.2 t] n∧PlAt h (.ref p) q.1
theorem RvAt.keep {h h':Heap} {v:Value} {q:Row} (x:RvAt h v q) (k:∀ b o,h.get? b=some o→h'.get? b=some o):RvAt h' v q:=by
  obtain ⟨a,o,p,t,n,e,ho,hc,hd,hp⟩:=x
  exact ⟨a,o,p,t,n,e,k _ _ ho,hc,hd,hp.keep k⟩
theorem ask_row {x y:Value} {a b:Row} {Q:Bool→Shared→Prop} (hu:A.units < cLine) (hx:RvAt s.heap x a) (hy:RvAt s.heap y b) (h:Q (placeLt a.1 b.1) s) (hn:a.1≠b.1):wpAny (model P w) A (keyLt' (tuples' false) x y) Q E s:=by
  obtain ⟨p,o,pp,t,n,rfl,ho,hc,hd,hp⟩:=hx
  obtain ⟨p2,o2,pp2,t2,n2,rfl,ho2,hc2,hd2,hp2⟩:=hy
  refine kat_lt ho hd ho2 hd2 (kat_cons (wpAny_eqBool_tuple (knd:=mixKind P w) hu (pl_key hp) (pl_key hp2) (kat_go (fun e=>?_) fun e=>kat_no ?_)))
  · exact absurd (plKey_inj (of_decide_eq_true e)) hn
  · exact lt_place hu hp hp2 h
theorem kind_row {vs:List Value} {qs:List Row} {Q:SortKind→Shared→Prop} (hl:vs.length=qs.length) (hv:∀ (i:Nat) (v:Value) (q:Row),vs[i]?=some v→qs[i]?=some q→RvAt s.heap v q) (h2:0 < vs.length) (h:Q (tuples' false) s) :
    wpAny (model P w) A (keyKind' vs.toArray) Q E s:=by
  have T:∀ (vs:List Value) (qs:List Row),vs.length=qs.length→(∀ (i:Nat) (v:Value) (q:Row),vs[i]?=some v→qs[i]?=some q→RvAt s.heap v q)→∃ fs,KatTups s.heap vs fs∧fs.length=vs.length∧∀ v∈fs,∃ p o,v=Value.ref p∧s.heap.get? p=some o∧o.cls=.type "tuple":=by
    intro vs
    induction vs with
    | nil=>exact fun qs _ _=>⟨[],trivial,rfl,fun _ z=>nomatch z⟩
    | cons v r ih =>
      intro qs hl hv
      match qs,hl with
      | q :: qr,hl =>
        obtain ⟨fs,k,kl,kf⟩:=ih qr (by simpa using hl) fun i v' q' e1 e2=>hv (i + 1) v' q' (by simpa using e1) (by simpa using e2)
        obtain ⟨a,o,p,t,n,rfl,ho,hc,hd,hp⟩:=hv 0 v q rfl rfl
        refine ⟨.ref p :: fs,KatTups.cons ho hc hd rfl k,by simp [kl],fun z hz=>?_⟩
        rcases List.mem_cons.mp hz with rfl | hz
        · obtain ⟨p',o',_,_,_,e,g1,g2,_⟩:=hp
          cases e
          exact ⟨_,o',rfl,g1,g2⟩
        · exact kf z hz
  obtain ⟨fs,k,kl,kf⟩:=T vs qs hl hv
  refine kat_kind (T:=.type "tuple") k (by omega) (fun v hv=>?_) (by decide) h
  obtain ⟨p,o,rfl,g1,g2⟩:=kf v hv
  exact g2 ▸ (PySem.W.Looks.ld g1).andThen .now
theorem sorted_pure2 {l:Addr} {κ:SortKind} {Q:Value→Shared→Prop} (G:List Value→(Nat→Nat→Bool)→Shared→Prop)
    (coll:∀ R:List Value→Shared→Prop,(∀ vs lt s1,G vs lt s1→R vs s1)→wpAny (model P w) A.in1 (collect (.ref l)) R E s)
    (h64:∀ vs lt s1,G vs lt s1→vs.length < 1000∧SO lt vs.length)
    (hk:∀ vs lt s1,G vs lt s1→2≤vs.length→∀ (h:Heap) (Q:SortKind→Shared→Prop),(∀ b o,s1.heap.get? b=some o→h.get? b=some o)→Q κ { s1 with heap:=h }→wpAny (model P w) A.in1.in1 (keyKind' vs.toArray) Q (fun _ _=>False) { s1 with heap:=h })
    (hc:∀ vs lt s1,G vs lt s1→∀ (h:Heap) i j C,(∀ b o,s1.heap.get? b=some o→h.get? b=some o)→i < vs.length→j < vs.length→i≠j→C (lt i j) { s1 with heap:=h }→kas_ask P w A.in1.in1 κ vs i j C { s1 with heap:=h })
    (fin:∀ vs lt s1,G vs lt s1→∀ (h':Heap) (p:Array Nat) (c:Nat),(∀ b o,s1.heap.get? b=some o→h'.get? b=some o)→h'.get? s1.heap.objs.size=some (seqObj "list" (outOf vs p).toArray c)→PP vs.length p→Rise lt p vs.length→Q (.ref s1.heap.objs.size) { s1 with heap:=h' }) :
    wpAny (model P w) A (call (.builtin "sorted") [.ref l]) Q E s:=by
  refine Calls.call_function_entry kind_sorted plain_sorted entry_sorted (args_sorted1 _) ?_;unfold Builtin.«sorted»
  refine wpAny_bind (m:=checkCount "sorted" 1 1 _) (wpAny_pure ?_);refine wpAny_bind (coll _ fun vs lt s1 g=>?_)
  obtain ⟨l64,S⟩:=h64 vs lt s1 g
  refine wpAny_bind (wpAny_newList ?_ (by rw [sizeLine_eq];omega))
  have hoL:(s1.heap.push (seqObj "list" vs.toArray 0)).get? s1.heap.objs.size=some (seqObj "list" vs.toArray 0):=Heap.get?_push_size _ rfl
  have kept:∀ h',Kp s1.heap.objs.size (s1.heap.push (seqObj "list" vs.toArray 0)) h'→∀ b o,s1.heap.get? b=some o→h'.get? b=some o:=fun h' k b o e=>k b o (Nat.ne_of_lt (Heap.lt_size e)) (Heap.get?_push_of_some _ e)
  refine wpAny_bind (wpAny_holding (wpAny_call_entry slot_list_sort ⟨_,hoL,rfl⟩ entry_list_sort (lsort_pure (s:={ s1 with heap:=s1.heap.push (seqObj "list" vs.toArray 0) }) hoL l64 (κ:=κ) (lt:=lt) (fun h2 h' Q' k q=>?_) (fun h' i j C k hi hj hij q=>?_) S fun h' p c k ho hp hr=>?_) (args_list_sort _)))
  · exact hk vs lt s1 g h2 h' Q' (kept h' k) q
  · exact hc vs lt s1 g h' i j C (kept h' k) hi hj hij q
  · exact ⟨_,rfl,wpAny_pure ⟨_,rfl,fin vs lt s1 g h' p c (kept h' k) ho hp hr⟩⟩
end
end L2
namespace L2
open PySem PySem.Spec PyProof.Rows PySem.W
def d0:Row:=(("",0),0)
theorem its_of (rows:List Row):∃ its:List Row,dOf rows=its.map (fun q=>(plKey q.1,V.int q.2))∧(its.map (·.1)).Nodup∧∀ p w,(p,w)∈its↔lastW rows p=some w:=by
  have h:=okKv_dOf rows
  have:∀ (kvs:List (List Key × V)),(∀ kv∈kvs,∃ (p:Pl) (w:Int),kv=(plKey p,.int w))→∃ its:List Row,kvs=its.map (fun q=>(plKey q.1,V.int q.2)):=fun kvs=>by
    induction kvs with
    | nil=>exact fun _=>⟨[],rfl⟩
    | cons kv r ih =>
      intro hk
      obtain ⟨qs,e⟩:=ih fun z hz=>hk z (List.mem_cons_of_mem _ hz)
      obtain ⟨p,w,e2⟩:=hk kv List.mem_cons_self
      exact ⟨(p,w) :: qs,by rw [List.map_cons,← e,e2]⟩
  obtain ⟨its,e⟩:=this _ h.2
  refine ⟨its,e,?_,fun p w=>?_⟩
  · have:=h.1
    rw [e,List.map_map] at this
    refine nodup_map_inj (f:=plKey) ?_
    rw [List.map_map]
    exact this
  · have m:=mem_dOf (rows:=rows) (kv:=(plKey p,V.int w))
    constructor
    · intro hm
      obtain ⟨p',w',e1,e2⟩:=m.mp (by rw [e];exact List.mem_map.mpr ⟨_,hm,rfl⟩)
      have e3:=plKey_inj (Prod.mk.inj e1).1
      have e4:=V.int.inj (Prod.mk.inj e1).2
      rw [e3,e4];exact e2
    · intro hw
      have hm:=m.mpr ⟨p,w,rfl,hw⟩
      rw [e] at hm
      obtain ⟨q,hq,e1⟩:=List.mem_map.mp hm
      have e3:=plKey_inj (Prod.mk.inj e1).1
      have e4:=V.int.inj (Prod.mk.inj e1).2
      rw [← e3,← e4];exact hq
theorem range_getD {α:Type} (l:List α) (d:α):(List.range l.length).map (fun i=>l.getD i d)=l:=by
  apply List.ext_getElem?
  intro i
  rw [List.getElem?_map]
  by_cases hi:i < l.length
  · rw [List.getElem?_range hi,List.getElem?_eq_getElem hi]
    simp [List.getD_eq_getElem?_getD,List.getElem?_eq_getElem hi]
  · rw [List.getElem?_eq_none (by simpa using hi),List.getElem?_eq_none (by omega)]
    rfl
theorem PP.list {n:Nat} {p:Array Nat} (h:PP n p):p.toList.Perm (List.range n):=by
  have:=Array.perm_iff_toList_perm.mp h
  simpa using this
theorem PP.lt {n:Nat} {p:Array Nat} (h:PP n p):∀ i∈p.toList,i < n:=fun i hi=>by
  have:=h.list.mem_iff.mp hi
  simpa using this
theorem rise_pairs {α:Type} {F:α→α→Bool} {l:List α} {d:α} {n:Nat} {p:Array Nat} (hp:PP n p) (hr:Rise (fun i j=>F (l.getD i d) (l.getD j d)) p n):(p.toList.map fun i=>l.getD i d).Pairwise fun a b=>F a b=true:=by
  rw [List.pairwise_map,List.pairwise_iff_getElem]
  intro i j hi hj hij
  rw [Array.length_toList] at hi hj
  have g1:=gt_eq hi
  have g2:=gt_eq hj
  have sz:=hp.size
  have r:=hr i j hij (by omega)
  have x1:p.toList[i]=gt p i:=by
    rw [Array.getElem?_eq_getElem hi] at g1
    simpa using g1
  have x2:p.toList[j]=gt p j:=by
    rw [Array.getElem?_eq_getElem hj] at g2
    simpa using g2
  rw [x1,x2];exact r
theorem paired_pick {α β:Type} {F:α→β→Prop} {l₁:List α} {l₂:List β} (h:Paired F l₁ l₂) (a:α) (b:β):∀ {is:List Nat},(∀ i∈is,i < l₁.length)→Paired F (is.map fun i=>l₁.getD i a) (is.map fun i=>l₂.getD i b)
  | [],_=>.nil
  | i :: r,hi=>by
    have l:=Paired.length h
    have h1:=hi i List.mem_cons_self
    refine .cons ?_ (paired_pick h a b fun j hj=>hi j (List.mem_cons_of_mem _ hj))
    show F (l₁.getD i a) (l₂.getD i b)
    have e1:=List.getElem?_eq_getElem h1
    have e2:l₂[i]?=some l₂[i]:=List.getElem?_eq_getElem (by omega)
    rw [List.getD_eq_getElem?_getD,List.getD_eq_getElem?_getD,e1,e2]
    exact paired_get h e1 e2
abbrev cSrtI:RC:=fun vs H Q=>∃ r d rows,vs=[.ref r]∧H r=some (viewO r d)∧H d=some (.dT (dOf rows))∧(dOf rows).length < 1000 ∧
  ∀ l ys srt H',Same H H'→H l=none→H' l=some (.lst ys)→Paired (PrAt H') ys srt→Rising srt→(∀ p w,(p,w)∈srt↔lastW rows p=some w)→Q (.ref l) H'
theorem kv_pr {H:Hp}:∀ {ys:List V} {its:List Row},Paired (KvAt H) ys (its.map fun q=>(plKey q.1,V.int q.2))→Paired (PrAt H) ys its
  | _,[],h=>by cases h;exact .nil
  | _,q :: r,h=>by
    rw [List.map_cons] at h
    cases h with
    | cons a t=>exact .cons a (kv_pr t)
section
variable {X:Cx}
theorem rv_at {pins:List (Addr × Obj)} {σ:St} {H:Hp} {s:Shared} {v:V} {u:Value} {q:Row} (I:Inv X pins σ H s) (h:PrAt H v q) (r:RelV v u):RvAt s.heap u q:=by
  obtain ⟨a,p,rfl,h1,h2⟩:=h
  cases r
  obtain ⟨_,its,rv,o,o1,o2,n,o3⟩:=(show ObjOk X.prog X.w H s.heap a (.tup [.ref p,.int q.2]) from I.hok a _ h1)
  cases rv with
  | cons r1 rr =>
    cases rr with
    | cons r2 rn =>
      cases rn
      cases r1
      obtain ⟨t,rfl⟩:=r2
      exact ⟨a,o,p,t,n,rfl,o1,o2,o3,place_at I h2⟩
theorem call_sorted_items (hc:X.calm=true) (hu:X.A.units + 3 < cLine):CallR X (.builtin "sorted") cSrtI:=by
  intro pins s σ H vs us Q I r0 h
  obtain ⟨r,d,rows,rfl,hr,hd,h64,q⟩:=h
  obtain ⟨u,rfl,ru⟩:=vals1 r0
  cases ru
  have hh:X.A.handled=none:=I.ok.hd hc
  obtain ⟨its,ei,nd,mi⟩:=its_of rows
  have li:(dOf rows).length=its.length:=by rw [ei,List.length_map]
  have so:=placeLt_so nd
  have vat:∀ {s1:Shared} {H':Hp} {ys:List V} {vs:List Value},Inv X pins σ H' s1→Paired (PrAt H') ys its→Vals ys vs→∀ (i:Nat) (q:Row),its[i]?=some q→∃ v,vs[i]?=some v∧RvAt s1.heap v q:=fun {s1 H' ys vs} I' pr rv i q hq=>by
    have hi:=(List.getElem?_eq_some_iff.mp hq).1
    have l1:=Paired.length pr
    obtain ⟨y,hy⟩:∃ y,ys[i]?=some y:=⟨_,List.getElem?_eq_getElem (by omega)⟩
    obtain ⟨u,hu',ru⟩:=rv.get hy
    exact ⟨u,hu',rv_at I' (paired_get pr hy hq) ru⟩
  refine sorted_pure2 (κ:=tuples' false) (fun vs lt s1=>∃ H' ys,Inv X pins σ H' s1∧Same H H'∧Paired (PrAt H') ys its∧Vals ys vs∧lt=fun i j=>placeLt ((its.map (·.1)).getD i (("",0):Pl)) ((its.map (·.1)).getD j (("",0):Pl)))
    (fun R hR=>coll_items (A:=X.A.in1) hh hr hd (by omega) I fun s1 H' ys us I' sm pr rv=>hR us _ s1 ⟨H',ys,I',sm,kv_pr (by rw [← ei];exact pr),rv,rfl⟩) ?_ ?_ ?_ ?_
  · rintro vs lt s1 ⟨H',ys,I',sm,pr,rv,rfl⟩
    have l1:=Paired.length pr
    have l2:=rv.length
    refine ⟨by omega,?_⟩
    rw [show vs.length=(its.map (·.1)).length by rw [List.length_map];omega]
    exact so
  · rintro vs lt s1 ⟨H',ys,I',sm,pr,rv,rfl⟩ h2 h Q' k q'
    have l1:=Paired.length pr
    have l2:=rv.length
    refine kind_row (s:={ s1 with heap:=h }) (qs:=its) (by omega) (fun i v q hv hq=>?_) (by omega) q'
    obtain ⟨v',hv',rr⟩:=vat I' pr rv i q hq
    rw [hv] at hv'
    cases hv'
    exact rr.keep k
  · rintro vs lt s1 ⟨H',ys,I',sm,pr,rv,rfl⟩ h i j C k hi hj hij q'
    have l1:=Paired.length pr
    have l2:=rv.length
    have e1:its[i]?=some its[i]:=List.getElem?_eq_getElem (by omega)
    have e2:its[j]?=some its[j]:=List.getElem?_eq_getElem (by omega)
    obtain ⟨v1,g1,r1⟩:=vat I' pr rv i _ e1
    obtain ⟨v2,g2,r2⟩:=vat I' pr rv j _ e2
    have n1:(its.map (·.1)).getD i (("",0):Pl)=its[i].1:=by rw [List.getD_eq_getElem?_getD,List.getElem?_map,e1];rfl
    have n2:(its.map (·.1)).getD j (("",0):Pl)=its[j].1:=by rw [List.getD_eq_getElem?_getD,List.getElem?_map,e2];rfl
    have m1:vs.getD i Value.none=v1:=by rw [List.getD_eq_getElem?_getD,g1];rfl
    have m2:vs.getD j Value.none=v2:=by rw [List.getD_eq_getElem?_getD,g2];rfl
    simp only [n1,n2] at q'
    have key:=ask_row (P:=X.prog) (w:=X.w) (A:=X.A.in1.in1) (E:=fun _ _=>False) (s:={ s1 with heap:=h }) (Q:=C) (by have e:X.A.in1.in1.units=X.A.units + 2:=rfl;omega) (r1.keep k) (r2.keep k) q' fun z=>hij (by
      have e3:(its.map (·.1))[i]?=some its[i].1:=by rw [List.getElem?_map,e1];rfl
      have e4:(its.map (·.1))[j]?=some its[j].1:=by rw [List.getElem?_map,e2];rfl
      rw [z] at e3
      exact (List.getElem?_inj (by rw [List.length_map];omega) nd).mp (e3.trans e4.symm))
    rw [← m1,← m2] at key
    exact key
  · rintro vs lt s1 ⟨H',ys,I',sm,pr,rv,rfl⟩ h' p c k hD hp hr
    have l1:=Paired.length pr
    have l2:=rv.length
    have hp':PP its.length p:=by rw [show its.length=vs.length by omega];exact hp
    have fr:H' s1.heap.objs.size=none:=I'.hok.fresh (Nat.le_refl _)
    have sz:=hp'.size
    have pk:=paired_pick pr V.non d0 (is:=p.toList) fun i hi=>by have:=hp'.lt i hi;omega
    have vk:Vals (p.toList.map fun i=>ys.getD i V.non) (outOf vs p):=paired_pick rv V.non Value.none (is:=p.toList) fun i hi=>by have:=hp'.lt i hi;omega
    have I2:Inv X pins σ (upd H' s1.heap.objs.size (.lst (p.toList.map fun i=>ys.getD i V.non))) { s1 with heap:=h' }:=I'.laid (a:=s1.heap.objs.size) (o:=.lst (p.toList.map fun i=>ys.getD i V.non)) (t':=s1.toks) k (Nat.le_refl _)
      ⟨by rw [List.length_map,Array.length_toList];exact Nat.le_trans (by omega:_≤1000) (by decide),outOf vs p,c,vk,hD⟩
    have S2:Same H' (upd H' s1.heap.objs.size (.lst (p.toList.map fun i=>ys.getD i V.non))):=isV _ fr
    have hn:H s1.heap.objs.size=none:=by
      cases e:H s1.heap.objs.size with
      | none=>rfl
      | some o=>rw [sm _ _ e] at fr;cases fr
    have mono:∀ {us:List V} {ws:List Row},Paired (PrAt H') us ws→Paired (PrAt (upd H' s1.heap.objs.size (.lst (p.toList.map fun i=>ys.getD i V.non)))) us ws:=fun {us ws} h=>by
      induction h with
      | nil=>exact .nil
      | cons a _ ih =>
        obtain ⟨r,p,e,h1,h2⟩:=a
        exact .cons ⟨r,p,e,S2 _ _ h1,S2 _ _ h2⟩ ih
    refine ⟨.ref s1.heap.objs.size,_,I2,rfl,q _ _ (p.toList.map fun i=>its.getD i d0) _ (sm.trans S2) hn upd_same (mono pk) ?_ fun pl wv=>?_⟩
    · have hr':Rise (fun i j=>placeLt ((its.map (·.1)).getD i (("",0):Pl)) ((its.map (·.1)).getD j (("",0):Pl))) p its.length:=by rw [show its.length=vs.length by omega];exact hr
      have pw:=rise_pairs (F:=placeLt) hp' hr'
      have eq:(p.toList.map fun i=>its.getD i d0).map (·.1)=p.toList.map fun i=>(its.map (·.1)).getD i (("",0):Pl):=by
        rw [List.map_map]
        refine List.map_congr_left fun i hi=>?_
        have hi:=hp'.lt i hi
        simp [List.getD_eq_getElem?_getD,List.getElem?_map,List.getElem?_eq_getElem hi]
      rw [← eq,List.pairwise_map] at pw
      exact pw
    · have pm:(p.toList.map fun i=>its.getD i d0).Perm its:=by
        refine (hp'.list.map _).trans ?_
        rw [range_getD]
      rw [pm.mem_iff]
      exact mi pl wv
end
end L2
namespace L2
open PySem PySem.Spec PyProof.Rows
def Itr3 (lo c:Int) (n:Nat):It:=⟨fun i _=>i < n,fun i H x H'=>H'=H∧x=.int (lo + i * c),fun i _=>n≤i⟩
def cntR (i j c:Int):Nat:=if i < j then ((j - i - 1) / c + 1).toNat else 0
def iRng3 (ta:TA):TI:=fun σ H R=>ta σ H fun vs H1=>∃ i j c:Int,vs=[.int i,.int j,.int c]∧(0≤i∧i < 1073741824∧0≤j∧j < 1073741824∧0 < c∧c < 1073741824)∧R (Itr3 i c (cntR i j c)) H1
section
variable {X:Cx} {tg:Expr}
end
end L2
namespace L2
open PySem
structure StOk (n:Nat) (s:Sta):Prop where
  so:SlotsOk s.sl
  wo:∀ r∈s.wo,inW r.2=true
  l1:s.sl.length≤n
  l2:s.wo.length≤n
  l3:s.sa.length≤n
theorem StOk.mono {n m:Nat} {s:Sta} (h:StOk n s) (l:n≤m):StOk m s:=⟨h.so,h.wo,Nat.le_trans h.l1 l,Nat.le_trans h.l2 l,Nat.le_trans h.l3 l⟩
theorem slots_put {kvs:List (Key × V)} (h:SlotsOk kvs) (k:Key) {i:Int} (hi:inW i=true):SlotsOk (putK kvs k (.int i)):=fun k' v e=>by
  rw [valV_put] at e
  by_cases c:k'=k
  · rw [if_pos c] at e
    exact ⟨i,(Option.some.inj e).symm,hi⟩
  · rw [if_neg c] at e
    exact h k' v e
theorem last_in {P:Row→Prop} {p:Pl} {w:Int}:∀ {l:List Row},(∀ r∈l,P r)→lastW l p=some w→P (p,w)
  | [],_,h=>by cases h
  | r :: t,hp,h=>by
    rw [lastW] at h
    cases e:lastW t p with
    | some w' =>
      rw [e] at h
      have:w'=w:=by simpa using h
      subst this
      exact last_in (fun r hr=>hp r (List.mem_cons_of_mem _ hr)) e
    | none =>
      rw [e] at h
      by_cases c:r.1=p
      · rw [if_pos c] at h
        have:r.2=w:=by simpa using h
        rw [← c,← this];exact hp r List.mem_cons_self
      · rw [if_neg c] at h;cases h
mutual
def RwIn (P:Pl→Prop):Rw→Prop
  | .give sh e _=>∀ kvs n,rk kvs e=.ok n→P (sh,n)
  | .iff _ a b=>RwsIn P a∧RwsIn P b
  | _=>True
def RwsIn (P:Pl→Prop):Rws→Prop
  | .nil=>True
  | .cons r rs=>RwIn P r∧RwsIn P rs
end
inductive Oc where
  | done (sa:List Int)
  | off (why:Str)
def whyOf:Er→Str
  | .great=>"great"
  | _=>"nought"
def AloneR (rws:Rws) (tab:List Row) (oc:Oc) (out:List Row):Prop:=match goRs rws ⟨[],tab,[]⟩ with
  | .go s=>oc=.done s.sa∧IsTab s.wo out
  | .off=>oc=.off "told"∧out=tab
  | .er e=>oc=.off (whyOf e)∧out=tab
inductive SeqR:List Rws→List Row→List Oc→List Row→Prop
  | nil {tab:List Row}:SeqR [] tab [] tab
  | cons {d:Rws} {ds:List Rws} {tab mid out:List Row} {oc:Oc} {ocs:List Oc}:AloneR d tab oc mid→SeqR ds mid ocs out→SeqR (d :: ds) tab (oc :: ocs) out
def partD:V→PyData
  | .int i=>.int i
  | .str x=>.str x
  | _=>.none
def plV (v:V):Prop:=(∃ i,v=.int i)∨∃ x,v=.str x∧PyData.strOk x=true
def termD (e:List V):PyData:=.tuple (e.map partD)
mutual
def rwD:Rw→PyData
  | .take sh e sl=>.tuple [.str "take",.str sh,termD e,.str sl]
  | .give sh e f=>.tuple [.str "give",.str sh,termD e,termD f]
  | .lt sl e=>.tuple [.str "let",.str sl,termD e]
  | .say e=>.tuple [.str "say",termD e]
  | .off e=>.tuple [.str "off",termD e]
  | .iff e a b=>.tuple [.str "if",termD e,.list (rwsD a),.list (rwsD b)]
def rwsD:Rws→List PyData
  | .nil=>[]
  | .cons r rs=>rwD r :: rwsD rs
end
def tmP (e:List V):Prop:=∀ v∈e,plV v
mutual
def RwPl:Rw→Prop
  | .take sh e sl=>PyData.strOk sh=true∧tmP e∧PyData.strOk sl=true
  | .give sh e f=>PyData.strOk sh=true∧tmP e∧tmP f
  | .lt sl e=>PyData.strOk sl=true∧tmP e
  | .say e=>tmP e
  | .off e=>tmP e
  | .iff e a b=>tmP e∧RwsPl a∧RwsPl b
def RwsPl:Rws→Prop
  | .nil=>True
  | .cons r rs=>RwPl r∧RwsPl rs
end
section
variable {K:PySem.W.Frag} {H:Hp} {F:Addr→Prop}
theorem part_dat {v:V} (h:plV v):Dat K H v (partD v):=by
  rcases h with ⟨i,rfl⟩ | ⟨x,rfl,_⟩
  · exact .int i
  · exact .str x
theorem parts_dat:∀ {e:List V},tmP e→DatAll K H e (e.map partD)
  | [],_=>.nil
  | v :: r,h=>.cons (part_dat (h v List.mem_cons_self)) (parts_dat fun u hu=>h u (List.mem_cons_of_mem _ hu))
theorem term_dat {a:Addr} {e:List V} (h:H a=some (.tup e)) (p:tmP e):Dat K H (.ref a) (termD e):=.tup (SqT.of h) (parts_dat p)
mutual
theorem rw_dat:∀ (r:Rw) {v:V},RwAt F H v r→RwPl r→Dat K H v (rwD r)
  | .take sh e sl,v,h,p=>by
    unfold RwAt at h
    unfold RwPl at p
    obtain ⟨r,te,rfl,f1,f2,e2,e3⟩:=h
    rw [rwD]
    exact .tup (SqT.of e2) (.cons (.str _) (.cons (.str _) (.cons (term_dat e3 p.2.1) (.cons (.str _) .nil))))
  | .give sh e f,v,h,p=>by
    unfold RwAt at h
    unfold RwPl at p
    obtain ⟨r,te,tf,rfl,f1,f2,f3,e2,e3,e4⟩:=h
    rw [rwD]
    exact .tup (SqT.of e2) (.cons (.str _) (.cons (.str _) (.cons (term_dat e3 p.2.1) (.cons (term_dat e4 p.2.2) .nil))))
  | .lt sl e,v,h,p=>by
    unfold RwAt at h
    unfold RwPl at p
    obtain ⟨r,te,rfl,f1,f2,e2,e3⟩:=h
    rw [rwD]
    exact .tup (SqT.of e2) (.cons (.str _) (.cons (.str _) (.cons (term_dat e3 p.2) .nil)))
  | .say e,v,h,p=>by
    unfold RwAt at h
    unfold RwPl at p
    obtain ⟨r,te,rfl,f1,f2,e2,e3⟩:=h
    rw [rwD]
    exact .tup (SqT.of e2) (.cons (.str _) (.cons (term_dat e3 p) .nil))
  | .off e,v,h,p=>by
    unfold RwAt at h
    unfold RwPl at p
    obtain ⟨r,te,rfl,f1,f2,e2,e3⟩:=h
    rw [rwD]
    exact .tup (SqT.of e2) (.cons (.str _) (.cons (term_dat e3 p) .nil))
  | .iff e a b,v,h,p=>by
    unfold RwAt at h
    unfold RwPl at p
    obtain ⟨r,te,la,lb,xs,ys,rfl,f1,f2,f3,f4,e2,e3,e4,e5,e6,e7⟩:=h
    rw [rwD]
    exact .tup (SqT.of e2) (.cons (.str _) (.cons (term_dat e3 p.1) (.cons (.lst (SqL.of e4) (rws_dat a e5 p.2.1)) (.cons (.lst (SqL.of e6) (rws_dat b e7 p.2.2)) .nil))))
theorem rws_dat:∀ (r:Rws) {vs:List V},RwsAt F H vs r→RwsPl r→DatAll K H vs (rwsD r)
  | .nil,vs,h,p=>by
    unfold RwsAt at h
    subst h
    rw [rwsD];exact .nil
  | .cons r rs,vs,h,p=>by
    unfold RwsAt at h
    unfold RwsPl at p
    obtain ⟨v,ws,rfl,e2,e3⟩:=h
    rw [rwsD]
    exact .cons (rw_dat r e2 p.1) (rws_dat rs e3 p.2)
end
end
theorem parts_plain:∀ {e:List V},tmP e→plainDs (e.map partD)=true
  | [],_=>by simp [plainDs]
  | v :: r,h=>by
    rw [List.map_cons,plainDs,parts_plain fun u hu=>h u (List.mem_cons_of_mem _ hu),Bool.and_true]
    rcases h v List.mem_cons_self with ⟨i,rfl⟩ | ⟨x,rfl,hx⟩
    · rw [partD,plainD]
    · rw [partD,plainD];exact hx
theorem term_plain {e:List V} (h:tmP e):plainD (termD e)=true:=by rw [termD,plainD];exact parts_plain h
theorem parts_deep:∀ (e:List V),PyData.depthAll (e.map partD)=0
  | []=>by simp [PyData.depthAll]
  | v :: r=>by
    rw [List.map_cons,PyData.depthAll,parts_deep r]
    cases v <;> simp [partD,PyData.depth]
theorem term_deep (e:List V):(termD e).depth≤1:=by rw [termD,PyData.depth,parts_deep];omega
theorem sok_take:PyData.strOk "take"=true:=by decide +kernel
theorem sok_give:PyData.strOk "give"=true:=by decide +kernel
theorem sok_let:PyData.strOk "let"=true:=by decide +kernel
theorem sok_say:PyData.strOk "say"=true:=by decide +kernel
theorem sok_off:PyData.strOk "off"=true:=by decide +kernel
theorem sok_if:PyData.strOk "if"=true:=by decide +kernel
mutual
theorem rw_plain:∀ (r:Rw),RwPl r→plainD (rwD r)=true
  | .take sh e sl,p=>by unfold RwPl at p;rw [rwD];simp [plainD,plainDs,sok_take,term_plain p.2.1,p.1,p.2.2]
  | .give sh e f,p=>by unfold RwPl at p;rw [rwD];simp [plainD,plainDs,sok_give,term_plain p.2.1,p.1,term_plain p.2.2]
  | .lt sl e,p=>by unfold RwPl at p;rw [rwD];simp [plainD,plainDs,sok_let,term_plain p.2,p.1]
  | .say e,p=>by unfold RwPl at p;rw [rwD];simp [plainD,plainDs,sok_say,term_plain p]
  | .off e,p=>by unfold RwPl at p;rw [rwD];simp [plainD,plainDs,sok_off,term_plain p]
  | .iff e a b,p=>by unfold RwPl at p;rw [rwD];simp [plainD,plainDs,sok_if,term_plain p.1,rws_plain a p.2.1,rws_plain b p.2.2]
theorem rws_plain:∀ (r:Rws),RwsPl r→plainDs (rwsD r)=true
  | .nil,_=>by rw [rwsD,plainDs]
  | .cons r rs,p=>by unfold RwsPl at p;rw [rwsD,plainDs,rw_plain r p.1,rws_plain rs p.2];rfl
end
mutual
theorem rw_deep:∀ (r:Rw),(rwD r).depth≤2 * r.deep + 2
  | .take sh e sl=>by have:=term_deep e;rw [rwD];simp [PyData.depth,PyData.depthAll];omega
  | .give sh e f=>by have:=term_deep e;have:=term_deep f;rw [rwD];simp [PyData.depth,PyData.depthAll];omega
  | .lt sl e=>by have:=term_deep e;rw [rwD];simp [PyData.depth,PyData.depthAll];omega
  | .say e=>by have:=term_deep e;rw [rwD];simp [PyData.depth,PyData.depthAll];omega
  | .off e=>by have:=term_deep e;rw [rwD];simp [PyData.depth,PyData.depthAll];omega
  | .iff e a b=>by
    have:=term_deep e
    have h1:=rws_deep a
    have h2:=rws_deep b
    have c:(Rw.iff e a b).deep=max a.deep b.deep + 1:=by rw [Rw.deep]
    rw [rwD,c];simp [PyData.depth,PyData.depthAll];omega
theorem rws_deep:∀ (r:Rws),PyData.depthAll (rwsD r)≤2 * r.deep + 2
  | .nil=>by rw [rwsD];simp [PyData.depthAll]
  | .cons r rs=>by
    have h1:=rw_deep r
    have h2:=rws_deep rs
    have c:(Rws.cons r rs).deep=max r.deep rs.deep:=by rw [Rws.deep]
    rw [rwsD,c,PyData.depthAll];omega
end
def Rws.snoc:Rws→Rw→Rws
  | .nil,x=>.cons x .nil
  | .cons r rs,x=>.cons r (rs.snoc x)
def Rws.app:Rws→Rws→Rws
  | .nil,x=>x
  | .cons r rs,x=>.cons r (rs.app x)
theorem term_one {v:V} (h:okPart v) (j:isJ v=false):TermOk [v] :=
  ⟨fun kvs=>⟨_,good_leaf j⟩,fun u hu=>by rw [List.mem_singleton.mp hu];exact h,by simp⟩
theorem term_two {u v:V} {w:Str} (hu:okPart u) (ju:isJ u=false) (hv:okPart v) (jv:isJ v=false) (hw:isJ (.str w)=true) (lw:w.length≤1000):TermOk [u,v,.str w] :=
  ⟨fun kvs=>⟨_,good_join (p1:=[u]) (p2:=[v]) hw (good_leaf ju) (good_leaf jv)⟩,fun z hz=>by
    simp only [List.mem_cons,List.not_mem_nil,or_false] at hz
    rcases hz with rfl | rfl | rfl
    · exact hu
    · exact hv
    · exact .inr ⟨w,rfl,lw⟩,by simp⟩
theorem Paired.snocP {α β:Type} {F:α→β→Prop} {x:α} {y:β}:∀ {a:List α} {b:List β},Paired F a b→F x y→Paired F (a ++ [x]) (b ++ [y])
  | _,_,.nil,h=>.cons h .nil
  | _,_,.cons a r,h=>.cons a (Paired.snocP r h)
theorem Paired.getP {α β:Type} {F:α→β→Prop} {a:List α} {b:List β} {i:Nat} {x:α} (h:Paired F a b) (e:a[i]?=some x):∃ y,b[i]?=some y∧F x y:=by
  have hi:=(List.getElem?_eq_some_iff.mp e).1
  have l:=Paired.length h
  exact ⟨b[i],List.getElem?_eq_getElem (by omega),paired_get h e (List.getElem?_eq_getElem (by omega))⟩
end L2
namespace L2
open PySem PySem.Spec PyProof.Rows
abbrev r_mt_split:RM:=fun x xs H Q=>∃ a b,x=.str a∧xs=[.str b]∧(b.length == 0)=false∧a.length≤100000∧(Txt.split a b).length≤100000∧∀ l,H l=none→Q (.ref l) (upd H l (.lst ((Txt.split a b).map V.str)))
section
variable {X:Cx}
end
def Itel (K:PySem.W.Frag) (p:Addr) (xs:List V):It:=⟨fun i H=>i < xs.length∧SqL K H p xs,fun i H x H'=>∃ T u,x=.ref T∧H T=none∧H'=upd H T (.tup [.int i,u])∧xs[i]?=some u,fun i H=>xs.length≤i∧SqL K H p xs⟩
def iEnm (K:PySem.W.Frag) (ta:TA):TI:=fun σ H R=>ta σ H fun vs H1=>∃ p xs,vs=[.ref p]∧SqL K H1 p xs∧R (Itel K p xs) H1
section
variable {X:Cx}
end
section
variable {σ:St} {H:Hp} {nx:St→Hp→Prop} {B:V→St→Hp→(St→Hp→Prop)→Prop}
end
end L2
namespace L2
open PySem PySem.Spec PyProof.Rows
theorem cut_eq {c:Nat}:∀ {a b r s:List Nat},c ∉ a→c ∉ b→a ++ c :: r=b ++ c :: s→a=b∧r=s
  | [],[],r,s,_,_,h=>by simpa using h
  | [],y :: b,r,s,_,hb,h=>by
    simp only [List.nil_append,List.cons_append,List.cons.injEq] at h
    exact absurd h.1 (fun z=>hb (by rw [z];exact List.mem_cons_self))
  | x :: a,[],r,s,ha,_,h=>by
    simp only [List.nil_append,List.cons_append,List.cons.injEq] at h
    exact absurd h.1.symm (fun z=>ha (by rw [z];exact List.mem_cons_self))
  | x :: a,y :: b,r,s,ha,hb,h=>by
    simp only [List.cons_append,List.cons.injEq] at h
    obtain ⟨e1,e2⟩:=cut_eq (fun z=>ha (List.mem_cons_of_mem _ z)) (fun z=>hb (List.mem_cons_of_mem _ z)) h.2
    exact ⟨by rw [h.1,e1],e2⟩
end L2
namespace L2
open PySem PySem.Spec PyProof.Rows
abbrev cIsiT (K:PySem.W.Frag):RC:=fun xs H Q=>∃ (x:V) (p:Addr) (t:Value) (Ts:List String) (b:Bool),xs=[x,.ref p]∧TyOf K H x t∧H p=some (.tup (Ts.map V.ty))∧PySem.W.kitAny K t (Ts.map Value.type)=some b∧Q (.bl b) H
theorem vals_tys:∀ {Ts:List String} {us:List Value},Vals (Ts.map V.ty) us→us=Ts.map Value.type
  | [],_,h=>by cases h;rfl
  | T :: r,_,h=>by
    cases h with
    | cons a t =>
      have a:_=Value.type T:=a
      rw [a,vals_tys t];rfl
section
variable {X:Cx}
theorem call_isiT:CallR X (.builtin "isinstance") (cIsiT X.K):=by
  intro pins s σ H xs us Q I r h
  obtain ⟨x,p,t,Ts,b,rfl,ty,hp,e,q⟩:=h
  obtain ⟨u,w',rfl,rx,r2⟩:=vals2 r
  cases r2
  obtain ⟨_,its,rv,o,o1,o2,n,o3⟩:=(show ObjOk X.prog X.w H s.heap p (.tup (Ts.map V.ty)) from I.hok p _ hp)
  obtain rfl:=vals_tys rv
  obtain ⟨oc,od,oda,osl⟩:=o
  obtain rfl:oc=.type "tuple":=o2
  obtain rfl:oda=.seq (Ts.map Value.type).toArray n:=o3
  have fin:∀ tk,EP X pins σ Q (.bool b) { s with toks:=tk }:=fun tk=>⟨.bl b,H,I.tok tk,rfl,q⟩
  cases ty with
  | non=>cases (show u=Value.none from rx);exact PySem.W.kia_tup PySem.W.kitx_none I.kIn True.intro o1 e (fun z=>nomatch z) fin
  | bl y=>cases (show u=Value.bool y from rx);exact PySem.W.kia_tup PySem.W.kitx_bool I.kIn True.intro o1 e (fun z=>nomatch z) fin
  | int i=>obtain ⟨t,q⟩:=(show ∃ t,u=Value.int i t from rx);cases q;exact PySem.W.kia_tup PySem.W.kitx_int I.kIn True.intro o1 e (fun z=>nomatch z) fin
  | str y=>obtain ⟨t,q⟩:=(show ∃ t,u=Value.str y t from rx);cases q;exact PySem.W.kia_tup PySem.W.kitx_str I.kIn True.intro o1 e (fun z=>nomatch z) fin
  | flt y=>obtain ⟨t,q⟩:=(show ∃ t,u=Value.float y t from rx);cases q;exact PySem.W.kia_tup PySem.W.kitx_float I.kIn True.intro o1 e (fun z=>nomatch z) fin
  | @lst a xs ea =>
    cases (show u=Value.ref a from rx)
    obtain ⟨_,_,n,_,h1⟩:=(show ObjOk X.prog X.w H s.heap a (.lst xs) from I.hok a _ ea)
    exact PySem.W.kia_tup PySem.W.kitx_list I.kIn ⟨_,h1,rfl⟩ o1 e (fun z=>nomatch z) fin
  | @frz a ob xs ea =>
    cases (show u=Value.ref a from rx)
    obtain ⟨h1,h2⟩:=(show ObjOk X.prog X.w H s.heap a (.frz ob (.lst xs)) from I.hok a _ ea)
    obtain ⟨_,_,n,_,h1⟩:=h2
    exact PySem.W.kia_tup PySem.W.kitx_list I.kIn ⟨_,h1,rfl⟩ o1 e (fun z=>nomatch z) fin
  | @tup a xs ea =>
    cases (show u=Value.ref a from rx)
    obtain ⟨_,its,_,o,h1,h2,_⟩:=(show ObjOk X.prog X.w H s.heap a (.tup xs) from I.hok a _ ea)
    exact PySem.W.kia_tup PySem.W.kitx_tuple I.kIn ⟨_,h1,h2⟩ o1 e (fun z=>nomatch z) fin
  | @dK a kvs ea =>
    cases (show u=Value.ref a from rx)
    obtain ⟨_,_,vs,_,p⟩:=(show ObjOk X.prog X.w H s.heap a (.dK kvs) from I.hok a _ ea)
    obtain ⟨o,es,ep,h1,h2,_⟩:=p
    exact PySem.W.kia_tup PySem.W.kitx_dict I.kIn ⟨o,h1,h2.1⟩ o1 e (fun z=>nomatch z) fin
  | @dT a kvs ea =>
    cases (show u=Value.ref a from rx)
    obtain ⟨_,_,xs,_,o,es,ep,h1,h2,_⟩:=(show ObjOk X.prog X.w H s.heap a (.dT kvs) from I.hok a _ ea)
    exact PySem.W.kia_tup PySem.W.kitx_dict I.kIn ⟨o,h1,h2.1⟩ o1 e (fun z=>nomatch z) fin
  | @ins a C dx fs ea cl ha hn htk hm =>
    cases (show u=Value.ref a from rx)
    obtain ⟨mA,O,_⟩:=ins_get I.hok ea
    obtain ⟨od,J,_⟩:=O.look
    exact PySem.W.kia_tup (PySem.W.kitx_own (cl.get _) cl.hd ha hn htk hm) I.kIn J o1 e (fun z=>nomatch z) fin
end
section
variable {prog:Program} {w:World} {A:Around} {E:Value→Shared→Prop} {s:Shared}
end
def sLPut (td ty tv:TE):TS:=fun D σ H=>tv σ H fun v H1=>td σ H1 fun x H2=>ty σ H2 fun y H3=>∃ a xs i j,x=.ref a∧y=.int i∧H3 a=some (.lst xs)∧ixN xs.length i=some j∧(-1000≤i∧i≤1000)∧D.nx σ (upd H3 a (.lst (xs.set j v)))
section
variable {X:Cx} {o i value:Expr} {pos pos':Pos} {td ty tv:TE}
end
section
variable {X:Cx} {st:Stmt} {hs:List ExceptHandler} {pos:Pos} {tb:TS}
end
end L2
namespace L2
open PySem PySem.Spec PyProof.Rows
def iZipB (K:PySem.W.Frag) (ta:TA):TI:=fun σ H R=>ta σ H fun vs H1=>∃ p q xs ys,vs=[.ref p,.ref q]∧xs.length=ys.length∧((SqL K H1 p xs∧SqL K H1 q ys∧R (Itzl K p q xs ys) H1)∨(SqT K H1 p xs∧SqT K H1 q ys∧R (Itz K p q xs ys) H1))
section
variable {X:Cx}
abbrev rNeNil (K:PySem.W.Frag):R2:=fun x y H Q=>∃ a b xs,x=.ref a∧y=.ref b∧SqL K H a xs∧SqL K H b []∧Q (.bl (!decide (xs=[]))) H
end
mutual
inductive DatS (H:Hp):V→PyData→Prop
  | int (i:Int):DatS H (.int i) (.int i)
  | str (x:Str):DatS H (.str x) (.str x)
  | lst {a:Addr} {xs:List V} {ds:List PyData}:H a=some (.lst xs)→DatSs H xs ds→DatS H (.ref a) (.list ds)
  | tup {a:Addr} {xs:List V} {ds:List PyData}:H a=some (.tup xs)→DatSs H xs ds→DatS H (.ref a) (.tuple ds)
inductive DatSs (H:Hp):List V→List PyData→Prop
  | nil:DatSs H [] []
  | cons {x:V} {d:PyData} {xs:List V} {ds:List PyData}:DatS H x d→DatSs H xs ds→DatSs H (x :: xs) (d :: ds)
end
end L2
namespace L2
open PySem
end L2
namespace L2
open PySem
abbrev r_mt_extend:RM:=rExtend
end L2
namespace L2
open PySem PySem.Spec PyProof.Rows
abbrev r_mt_clear:RM:=rClear
abbrev cSumL (K:PySem.W.Frag):RC:=fun xs H Q=>∃ a,∃ ns:List Int,xs=[.ref a]∧SqL K H a (ns.map V.int)∧Q (.int ns.sum) H
abbrev cMaxL (K:PySem.W.Frag):RC:=fun xs H Q=>∃ a,∃ ns:List Int,xs=[.ref a]∧SqL K H a (ns.map V.int)∧0 < ns.length∧∀ M,M∈ns→(∀ x∈ns,x≤M)→Q (.int M) H
section
variable {X:Cx}
end
end L2
namespace L2
open PySem PySem.Spec PyProof.Rows
abbrev cMax2:RC:=fun xs H Q=>∃ i j,xs=[.int i,.int j]∧Q (.int (if j > i then j else i)) H
abbrev rInA (K:PySem.W.Frag) (neg:Bool):R2:=fun x y H Q=>∃ (p:Addr) (xs:List V) (d:PyData) (ds:List PyData),y=.ref p∧(SqL K H p xs∨SqT K H p xs)∧Dat K H x d∧DatAll K H xs ds∧(plainD d=true∧d.depth≤50∧∀ e∈ds,plainD e=true) ∧
  ∀ b:Bool,(b=true↔d∈ds)→Q (.bl (if neg then !b else b)) H
section
variable {X:Cx}
open Classical in
noncomputable def hitD (K:PySem.W.Frag) (H:Hp) (d:PyData) (u:Value):Bool:=decide (∃ x,RelV x u∧Dat K H x d)
open Classical in
end
abbrev cSrtL (K:PySem.W.Frag):RC:=fun vs H Q=>∃ r xs its,vs=[.ref r]∧SqL K H r xs∧Paired (PrAt H) xs its∧(its.map (·.1)).Nodup∧its.length < 1000 ∧
  ∀ l ys srt H',Same H H'→H l=none→H' l=some (.lst ys)→Paired (PrAt H') ys srt→Rising srt→srt.Perm its→Q (.ref l) H'
section
variable {X:Cx}
end
def Cb (i:Int):Prop:=Builtin.Int.intBits i≤1048576
section
variable {X:Cx}
end
open Att PySem.W PySem.Calls in
theorem walk_ofB {l:PySem.W.OpenLaw} {n k:Nat} {q:Program} {loose:List Str} {XP:(Str→Option Value)→Heap→Prop} {YP:World→Heap→Prop} {d:DefRec} {K:Params→PySem.W.Frag} {CX:World→CXT} {sp:World→Sp} {x:Str}
    (hn:l.most=some n) (hn2:n≤sizeLine) (hdf:d.params.defaults=[]) (hr:Room k callerA) (hY:∀ (w:World) (h:Heap),YP w h→(K w.params).In h)
    (F:∀ (w:World) (mg:Str→Option Value) (fa:Addr) (h:Heap),(K w.params).In h→h.Ns mainGlobals mg→mg d.name=some (.ref fa) →
      ∃ fd:FuncData,(∀ (s:Shared) (u:Value),BindsTo s fd ⟨[u],[]⟩ [(x,u)]) ∧
        ∀ base:Heap,(K w.params).In base→base.Ns mainGlobals mg→FnOk l.prog w (K w.params) mg base (CX w) k fa fd [x] (sp w))
    (hsp:∀ (w:World) (H:Hp) (a:Addr) (ns:List Int),ns.length≤n→(∀ i∈ns,Cb i)→Only H→SqL (K w.params) H a (ns.map V.int)→sp w [.ref a] H (fun v _=>v=.bl true) fun _ _ _=>False)
    (hCX:∀ (w:World) (H:Hp) (s:Shared) (e:Value) (s':Shared),CX w [] H s (fun _ _ _=>False) e s'→False) :
    PySem.W.WalkO q loose XP YP l.row.toRowW d [] (fun f vs=>PySem.call f vs):=by
  intro w s₀ s₁ mg mb G Y fa o pm cd doc dV kV ho hd hcd hD hmg hg args vals as hpre hlay hrd hwl hlo
  obtain rfl:dV=.none:=Dflts.none hD hdf
  obtain rfl:kV=.none:=Dflts.noKw hD
  obtain ⟨a,vs,ns,rfl,rfl,hobj,hints,hlen⟩:=script_of hn hpre hwl
  have hb:∀ i∈ns,Cb i:=fun i hi=>intBits_le_of_layable (layable_of_mem (lay0_int (layableW_item (layableW_arg hlay _ List.mem_cons_self) _ (List.mem_map.mpr ⟨i,hi,rfl⟩))) List.mem_cons_self)
  have KX:=hY w _ Y
  obtain ⟨fd,hbd,hF⟩:=F w mg fa _ KX G.T.g hmg
  refine enter_call (codeAny_mono (law_call KX G.T.g G.T.b G.T.builtins G.T.nolimit hg hobj hints (Nat.le_trans hlen hn2) hr hF hbd (fun H hO hS=>hsp w H a ns hlen hb hO hS) fun H e s'=>hCX w H s₁ e s') fun r s' hq=>?_)
  obtain ⟨rfl,h2,h3,h4⟩:=hq
  exact ⟨.inl ⟨.bool true,.bool true,[],rfl,fun _=>rfl,.bool true,post_true l _,fun _=>⟨List.Pairwise.nil,fun _ hm=>(nomatch hm)⟩⟩,h2,h3,h4⟩
theorem walk_ofXB {l:PySem.W.OpenLaw} {n k:Nat} {q:Program} {loose:List Str} {XP:(Str→Option Value)→Heap→Prop} {YP:World→Heap→Prop} {d:DefRec} {K:Params→PySem.W.Frag} {sp:PySem.W.Frag→Sp} {x:Str}
    (hn:l.most=some n) (hn2:n≤sizeLine) (hdf:d.params.defaults=[]) (hr:Room k callerA) (hY:∀ (w:World) (h:Heap),YP w h→(K w.params).In h)
    (F:∀ (w:World) (mg:Str→Option Value) (fa:Addr) (h:Heap),(K w.params).In h→h.Ns mainGlobals mg→mg d.name=some (.ref fa) →
      ∃ fd:FuncData,(∀ (s:Shared) (u:Value),BindsTo s fd ⟨[u],[]⟩ [(x,u)]) ∧
        ∀ base:Heap,(K w.params).In base→base.Ns mainGlobals mg→FnOk l.prog w (K w.params) mg base (CX1 l.prog w) k fa fd [x] (sp (K w.params)))
    (hsp:∀ (K:PySem.W.Frag) (H:Hp) (a:Addr) (ns:List Int),ns.length≤n→(∀ i∈ns,Cb i)→Only H→SqL K H a (ns.map V.int)→sp K [.ref a] H (fun v _=>v=.bl true) fun _ _ _=>False) :
    PySem.W.WalkO q loose XP YP l.row.toRowW d [] (fun f vs=>PySem.call f vs) :=
  walk_ofB (K:=K) (CX:=fun w=>CX1 l.prog w) (sp:=fun w=>sp (K w.params)) hn hn2 hdf hr hY F (fun w H a ns h1 hb h2 h3=>hsp (K w.params) H a ns h1 hb h2 h3) fun _ _ _ _ _ z=>by
    obtain ⟨_,_,_,_,_,_,_,_,_,y⟩:=z
    exact y
end L2
namespace L2
open PySem PySem.Spec PyProof.Rows
def Itk (a:Addr) (o:Obj) (kvs:List (Key × V)):It :=
  ⟨fun i H=>H a=some (.frz o (.dK kvs))∧i < kvs.length,fun i H x H'=>H'=H∧∃ k v,kvs[i]?=some (k,v)∧x=kV k,fun i H=>H a=some (.frz o (.dK kvs))∧kvs.length≤i⟩
section
variable {X:Cx}
def iDK (tl:TE):TI:=fun σ H R=>tl σ H fun x H1=>∃ a o kvs,x=.ref a∧H1 a=some (.frz o (.dK kvs))∧R (Itk a o kvs) H1
end
section
variable {σ:St} {H:Hp} {nx:St→Hp→Prop} {B:V→St→Hp→(St→Hp→Prop)→Prop}
end
end L2
namespace L2
open PySem PySem.Spec PyProof.Rows
def PcAt (H:Hp) (v:V) (q:Pl):Prop:=∃ p,v=.ref p∧H p=some (.tup [.str q.1,.int q.2])
abbrev cSrtP (K:PySem.W.Frag):RC:=fun vs H Q=>∃ r xs its,vs=[.ref r]∧SqL K H r xs∧Paired (PcAt H) xs its∧its.Nodup∧its.length < 1000 ∧
  ∀ l ys srt H',Same H H'→H l=none→H' l=some (.lst ys)→Paired (PcAt H') ys srt→srt.Pairwise (fun a b=>placeLt a b=true)→srt.Perm its→Q (.ref l) H'
section
variable {X:Cx}
end
end L2
namespace L2
open PySem PySem.Spec PyProof.Rows
section
variable {K:Type} [DecidableEq K]
end
section
variable {prog:Program} {w:World} {K:Type} [DecidableEq K] {knd:HeapKind prog w K} {A:Around} {E:Value→Shared→Prop} {s:Shared} {d a:Addr} {xs:List (K × Addr × Value)} {k:K}
end
section
variable {X:Cx} {pins:List (Addr × Obj)} {σ:St} {H:Hp} {s:Shared} {a b:Addr} {kvs:List (List Key × V)} {k:List Key} {A:Around} {E:Value→Shared→Prop}
end
def tDPopT (td ty:TE):TE:=fun σ H Q=>td σ H fun x H1=>∃ a,x=.ref a∧IsD H1 a∧ty σ H1 fun y H2=>∃ kvs k b v,H2 a=some (.dT kvs)∧y=.ref b∧H2 b=some (.tup (k.map kV))∧valV kvs k=some v∧Q v (upd H2 a (.dT (dropK kvs k)))
def tDSetD (td ty tx:TE):TE:=fun σ H Q=>td σ H fun x H1=>∃ a,x=.ref a∧IsD H1 a∧ty σ H1 fun y H2=>tx σ H2 fun z H3=>∃ kvs k b,H3 a=some (.dT kvs)∧y=.ref b∧H3 b=some (.tup (k.map kV))∧kvs.length < sizeLine ∧
  (∀ v,valV kvs k=some v→Q v H3)∧(valV kvs k=none→Q z (upd H3 a (.dT (putK kvs k z))))
section
variable {X:Cx} {o e f:Expr} {apos cpos:Pos} {td ty tx:TE}
end
abbrev r_mt_insert:RM:=fun x vs H Q=>∃ (l:Addr) (xs:List V) (k:Nat) (y:V),x=.ref l∧vs=[.int k,y]∧H l=some (.lst xs)∧k≤xs.length∧xs.length < 1000000∧Q .non (upd H l (.lst (xs.take k ++ y :: xs.drop k)))
abbrev r_mt_remove:RM:=fun x vs H Q=>∃ (l:Addr) (ns:List Int) (i:Int),x=.ref l∧vs=[.int i]∧H l=some (.lst (ns.map V.int))∧i∈ns∧Q .non (upd H l (.lst ((ns.erase i).map V.int)))
section
variable {X:Cx}
end
def KyAt (H:Hp) (y:V) (kv:List Key × V):Prop:=∃ p,y=.ref p∧H p=some (.tup (kv.1.map kV))
abbrev cLstD:RC:=fun vs H Q=>∃ a kvs,vs=[.ref a]∧H a=some (.dT kvs)∧∀ l ys,H l=none→Paired (KyAt H) ys kvs→Q (.ref l) (upd H l (.lst ys))
abbrev cLenT:RC:=fun vs H Q=>∃ a kvs,vs=[.ref a]∧H a=some (.dT kvs)∧Q (.int (kvs.length:Nat)) H
section
variable {X:Cx}
end
end L2
namespace L2
open PySem PySem.Spec PyProof.Rows
section
variable {X:Cx} {c:Expr} {s₁ s₂:Stmt} {tc:TT} {t1 t2:EXK→TS} {pos:Pos}
end
section
variable {X:Cx} {e:Expr} {te:TE} {a b:Str} {j k:Nat} {p1 p2 p3 p4:Pos}
end
end L2
namespace L2
open PySem PySem.Spec PyProof.Rows
structure FunD (K:PySem.W.Frag) (x qual:Str) (st:Stmt) (f:Addr) (fd:FuncData):Prop where
  ex:∃ (oc:Value) (od:Option Addr) (dV kV doc pm:Value) (an:Option Addr) (cdv ct:Value) (osl:Array (Option Value)),fd=PySem.W.fnOf x qual (defArgs st) (defBody st) (defScope st) dV kV doc pm an cdv ct∧K.lookup f=some ⟨oc,od,.func fd,osl⟩∧PySem.W.codeIn K cdv qual=true
  kp:PySem.W.keepIn K (.ref f)=true
section
variable {P:Program} {w:World} {K:PySem.W.Frag} {mg:Str→Option Value} {base:Heap} {x qual:Str} {st:Stmt} {f:Addr} {fd:FuncData} {N ps:List Str} {k:Nat} {sp:Sp}
theorem FunD.ok1 (F:FunD K x qual st f fd) (S:FnScope N ps (defScope st)) (len:∀ vs H Q E,sp vs H Q E→vs.length=ps.length)
    (hbody:∀ (cdv:Value) (A:Around) (outer:List Env) (s:Shared) (H:Hp) (vs:List V) (Q:VK) (E:XK),Room k (A.deeper (envOfC qual (defScope st) s.heap.objs.size f cdv))→sp vs H Q E→∃ t,PSs (cxOf (CX1 P w) P w K mg base N qual (defScope st) f cdv A outer s H E) (defBody st) t∧t { nx:=fun _ H'=>Q .non H',rt:=Q } (start N vs) H):FnOk P w K mg base (CX1 P w) (k + 1) f fd ps sp:=by
  obtain ⟨oc,od,dV,kV,doc,pm,an,cdv,ct,osl,rfl,lk,hcd⟩:=F.ex
  exact fn_of lk hcd S len fun A outer s H vs Q E hr hsp=>hbody cdv A outer s H vs Q E hr hsp
theorem FunD.ok0 (F:FunD K x qual st f fd) (S:FnScope N ps (defScope st)) (len:∀ vs H Q E,sp vs H Q E→vs.length=ps.length)
    (hbody:∀ (cdv:Value) (A:Around) (outer:List Env) (s:Shared) (H:Hp) (vs:List V) (Q:VK) (E:XK),Room k (A.deeper (envOfC qual (defScope st) s.heap.objs.size f cdv))→sp vs H Q E→∃ t,PSs (cxOf (CX1 P w) P w K mg base N qual (defScope st) f cdv A outer s H E).nox (defBody st) t∧t { nx:=fun _ H'=>Q .non H',rt:=Q } (start N vs) H):FnOk P w K mg base (CX1 P w) (k + 1) f fd ps sp :=
  F.ok1 S len fun cdv A outer s H vs Q E hr h=>let ⟨t,a,b⟩:=hbody cdv A outer s H vs Q E hr h;⟨t,a.nox,b⟩
theorem fun_mkD {oc:Value} {od an:Option Addr} {osl:Array (Option Value)} {dV kV doc pm cdv ct:Value} (l:K.lookup f=some ⟨oc,od,.func (PySem.W.fnOf x qual (defArgs st) (defBody st) (defScope st) dV kV doc pm an cdv ct),osl⟩)
    (c:PySem.W.codeIn K cdv qual=true) (k:PySem.W.keepIn K (.ref f)=true):FunD K x qual st f (PySem.W.fnOf x qual (defArgs st) (defBody st) (defScope st) dV kV doc pm an cdv ct):=⟨⟨oc,od,dV,kV,doc,pm,an,cdv,ct,osl,rfl,l,c⟩,k⟩
end
section
variable {X:Cx} {o value:Expr} {f:Str} {pos pos':Pos} {ta:TE} {tx:EXK→TE}
def sFldX (K:PySem.W.Frag) (ta:TE) (tx:EXK→TE) (f:Str) (EX:EXK):TS:=sFld K ta (tx EX) f
theorem psx_fld (ha:PE X.nox o ta) (hv:PEX X value tx) (hs:swapsWith value (some (.Attribute o f pos')) pos.line X.env=pure false):PSX X (.Assign [.Attribute o f pos'] value pos) (sFldX X.K ta tx f):=by
  intro pins s σ H D EX I h
  refine plainObj_wpAny_Assign_Attribute (thn (hv pins s σ H _ EX I h) fun u s1 ⟨y,H1,I1,ry,q⟩=>wpAny_mono (ha pins s1 σ H1 _ (I1.wish _) q) (fun ov s2 ⟨x,H2,I2',rx,a,C,dx,fs,ex,ea,c,n,l,q2⟩=>?_) fun _ _ z=>False.elim z) hs
  subst ex
  obtain rfl:ov=Value.ref a:=rx
  exact setattr_ok I2'.unwish ea c n l ry fun s3 I3=>⟨σ,_,I3,q2⟩
end
def tTryT (K:PySem.W.Frag) (tb:EXK→TS) (C1 C2:Addr) (th:TS):TS:=fun D σ H=>tb (fun cls σ1 H1=>∃ C,cls=.ref C∧PySem.W.exmAny K (.ref C) [.ref C1,.ref C2]=some true∧th D σ1 H1) D σ H
theorem fly_push {base h:Heap} {l:List Env} {e:Addr} {cls a0:Value} (x:Heap.FlyingW base l e cls a0 h) (o:Obj):Heap.FlyingW base l e cls a0 (h.push o):=by
  obtain ⟨f1,f2,f3,oe,vs,T,oT,ts,a1,a2,a3,a4,a5,a6,a7,a8,a9⟩:=x
  exact ⟨fun b u q=>Heap.get?_push_of_some _ (f1 b u q),f2,f3.of_keeps (fun b u q _=>⟨u,Heap.get?_push_of_some _ q,rfl⟩),oe,vs,T,oT,ts,Heap.get?_push_of_some _ a1,a2,a3,a4,a5,a6,Heap.get?_push_of_some _ a7,a8,a9⟩
section
variable {X:Cx} {st b₀:Stmt} {suite:List Stmt} {tb:EXK→TS} {th:TS} {c1 c2:Str} {C1 C2:Addr} {np np2 hpos tpos pos:Pos} {x1:Nat}
theorem ps_tryT (hst:X.stack=X.env :: X.outer∧X.env.frame=some X.env.locals) (hex:X.ex=[]) (hb:PSX X st tb) (hg1:Gl X c1) (hm1:X.mg c1=some (.ref C1)) (hg2:Gl X c2) (hm2:X.mg c2=some (.ref C2))
    (hs:∀ e,PSs (X.sub e) (b₀ :: suite) th) (hdb1:(c1 == ("__debug__":Str))=false:=by decide) (hdb2:(c2 == ("__debug__":Str))=false:=by decide) :
    PS X (.Try [st] [.ExceptHandler (some (.Tuple [.Name c1 np,.Name c2 np2] x1 tpos)) none (b₀ :: suite) hpos] [] [] pos) (tTryT X.K tb C1 C2 th):=by
  intro pins s σ H D I h
  refine wpAny_Try_except (wpAny_execs_cons (wpAny_mono (hb pins s σ H D _ I h) (fun f s1 q=>?_) fun ev s1 q=>?_))
  · cases f with
    | next=>exact wpAny_execs_nil (wpAny_execs_nil q)
    | ret v=>exact q
    | brk=>exact q
    | cont=>exact q
  obtain ⟨e,cls,σ1,s0,H0,H1,rfl,I0,I1,xf,C,rfl,hx,hth⟩:=q
  obtain ⟨oe,vs,a0,T,oT,ts,h1,h2,h3,h4,h5,h6,h7,h8,h9,h10,h11,h12⟩:=xf
  have fr:s1.heap.FunFrames (PySem.W.hideAll s1.heap (frs X.stack ++ [e,T])) (X.env :: X.outer):=by
    have q:=PySem.W.funFrames_hide (as:=frs X.stack ++ [e,T]) I1.stack fun env he a ha=>List.mem_append_left _ (List.mem_filterMap.mpr ⟨env,he,ha⟩)
    rw [hst.1] at q ⊢
    exact q
  have two:∀ b∈[e,T],s0.heap.get? b=none∧H1 b=none:=fun b z=>by
    have z':b=e∨b=T:=by simpa using z
    rcases z' with rfl | rfl
    · exact ⟨h9,h11⟩
    · exact ⟨h10,h12⟩
  have hcs:∀ b∈[e,T],H1 b=none∧X.s₀.heap.get? b=none:=fun b z=>⟨(two b z).2,none_back (I0.there0 hex) (two b z).1⟩
  have hcp:∀ b∈[e,T],∀ p∈X.pn ++ pins,p.1≠b:=fun b z p hp q=>by
    have:=(I0.pin p hp).1
    rw [q,(two b z).1] at this;cases this
  refine wpAny_looks_onW (base:=PySem.W.hideAll s1.heap (frs X.stack ++ [e,T])) (a0:=a0) (cls:=.ref C) (by rw [I1.ok.frames,hst.1]) hst.2
    ⟨fun b o q=>PySem.W.of_hideAll _ q,PySem.W.hideAll_none _ (List.mem_append_right _ (by simp)),fr,oe,vs,T,oT,ts,h1,h2,h3,h4,PySem.W.hideAll_none _ (List.mem_append_right _ (by simp)),h5,h6,h7,h8⟩ fun g4 held4 sm4=>?_
  refine wpAny_landsW held4 fun g5 fly5 sm5=>?_
  have hB:∀ {g:Heap},(PySem.W.hideAll s1.heap (frs X.stack ++ [e,T])).StaysIn g→∀ b o,s1.heap.get? b=some o→b ∉ frs X.stack→b ∉ [e,T]→g.get? b=some o :=
    fun {g} k b o q n1 n2=>k b o (PySem.W.hideAll_get _ q fun z=>(List.mem_append.mp z).elim n1 n2)
  have I5:Inv X pins σ1 H1 { s1 with heap:=g5 }:=I1.land hex hcs hcp (hB fly5.1) (sm4.trans sm5)
  refine wpAny_handleBy_cons (codeAny_handlers_test ?_) (by intro q;cases q)
  refine wpAny_Tuple_spliced (Calls.spliced_cons (ld_glob (X:=X.sub e) (I5.toSub (e:=e)) hg1 hm1 (Calls.spliced_cons (ld_glob (X:=X.sub e) (I5.toSub (e:=e)) hg2 hm2 (Calls.spliced_nil ⟨(by show 2≤sizeLine;decide),?_⟩) hdb2)) hdb1))
  have fly6:=fly_push fly5 { cls:=.type "tuple",data:=.seq [Value.ref C1,Value.ref C2].toArray }
  have kp:∀ b o,g5.get? b=some o→(g5.push { cls:=.type "tuple",data:=.seq [Value.ref C1,Value.ref C2].toArray }).get? b=some o:=fun b o q=>Heap.get?_push_of_some _ q
  have hp:(g5.push { cls:=.type "tuple",data:=.seq [Value.ref C1,Value.ref C2].toArray }).get? g5.objs.size=some { cls:=.type "tuple",data:=.seq [Value.ref C1,Value.ref C2].toArray }:=Heap.get?_push_size _ rfl
  have K6:X.K.In (g5.push { cls:=.type "tuple",data:=.seq [Value.ref C1,Value.ref C2].toArray }):=(I5.kept (t':=s1.toks) kp).kIn
  have ty6:PySem.W.Looks (model X.prog X.w) (g5.push { cls:=.type "tuple",data:=.seq [Value.ref C1,Value.ref C2].toArray }) (typeOf (.ref e)) (.ref C):=by
    obtain ⟨o,p1,p2⟩:=fly6.there
    exact p2 ▸ (PySem.W.Looks.ld p1).andThen .now
  refine (PySem.W.exm_tup2 K6 ty6 hp hx).here ?_
  refine codeAny_handlers_suite (lands_againW fly6 fun g7 fly7 sm7=>?_)
  have I7:Inv X pins σ1 H1 { s1 with heap:=g7 }:=I1.land hex hcs hcp (hB fly7.1) (((sm4.trans sm5).trans (Heap.UpToSlots.of_keeps kp)).trans sm7)
  refine wpAny_mono (hs e pins _ σ1 H1 D I7.toSub hth) (fun f s9 q=>?_) fun _ _ z=>False.elim z
  cases f with
  | next=>obtain ⟨σ9,H9,J,z⟩:=q;exact ⟨σ9,H9,Inv.ofSub (J:=I) J,z⟩
  | brk=>obtain ⟨σ9,H9,J,z⟩:=q;exact ⟨σ9,H9,Inv.ofSub (J:=I) J,z⟩
  | cont=>obtain ⟨σ9,H9,J,z⟩:=q;exact ⟨σ9,H9,Inv.ofSub (J:=I) J,z⟩
  | ret u=>obtain ⟨v,σ9,H9,J,r,z⟩:=q;exact ⟨v,σ9,H9,Inv.ofSub (J:=I) J,r,z⟩
end
section
variable {X:Cx} {CX:CXT} {k:Nat} {f C:Addr} {fd:FuncData} {ps:List Str} {sp:Sp} {dvs:List V} {E:XK} {m:Str} {pos apos:Pos} {o:Expr} {ta:TE}
end
end L2
namespace L2
open PySem PySem.Spec PyProof.Rows
abbrev rLtP:R2:=fun x y H Q=>∃ a b p r,x=.ref a∧y=.ref b∧H a=some (.tup [.str p.1,.int p.2])∧H b=some (.tup [.str r.1,.int r.2])∧Q (.bl (placeLt p r)) H
section
variable {X:Cx}
open PySem.SeqAt
open PySem.AutoSeq1 (wpAny_loadPart')
open PySem.MeetsSeq PySem.MeetsSeq2 PySem.MeetsSeq3
end
end L2
namespace L2
open PySem PySem.Spec PyProof.Rows
def tMakeO (C:Addr):TE:=fun _ H Q=>∀ x dx,H x=none→H dx=none→dx≠x→Q (.ref x) (upd (upd H dx (.own x)) x (.ins C dx []))
section
variable {X:Cx} {C:Addr} {x:Str} {p pos:Pos}
end
def tMethU (L:List (Addr × Sp)) (m:Str) (E:XK) (ta:TE) (t:TA):TE:=fun σ H Q=>ta σ H fun x H1=>∃ a dx fs C sp,x=.ref a∧H1 a=some (.ins C dx fs)∧fs.lookup m=none∧(C,sp)∈L∧t σ H1 fun vs H2=>sp (x :: vs) H2 Q E
section
variable {X:Cx} {CX:CXT} {E:XK} {m:Str} {pos apos:Pos} {e o:Expr} {es:List Expr} {ta:TE} {t:TA} {L:List (Addr × Sp)} {C:Addr} {sp:Sp}
end
structure InsK (K:PySem.W.Frag) (C:Addr):Prop where
  cl:Cls K C
  ha:PySem.W.findIn K (.ref C) "__class__"=some (some (.builtin "object.__class__"))
  hn:PySem.W.specialIn K (.builtin "object.__class__") "__get__"=some (some (.builtin "getset_descriptor.__get__"))
  tk:PySem.W.takesIn K (.builtin "object.__class__")=some true
  hm:PySem.W.mroIn K C (.type "object")=some true
abbrev cIsn (K:PySem.W.Frag):RC:=fun xs H Q=>∃ a C dx fs D b,xs=[.ref a,.ref D]∧H a=some (.ins C dx fs)∧InsK K C∧PySem.W.kitOne K (.ref C) (.ref D)=some b∧Q (.bl b) H
section
variable {X:Cx}
end
end L2
namespace L2
open PySem PySem.Spec PyProof.Rows
abbrev cAny (K:PySem.W.Frag):RC:=fun xs H Q=>∃ (a:Addr) (bs:List Bool),xs=[.ref a]∧SqL K H a (bs.map V.bl)∧Q (.bl (bs.any id)) H
section
variable {X:Cx}
end
def tSRev (te ts:TE):TE:=fun σ H Q=>te σ H fun x H1=>ts σ H1 fun k H2=>∃ z y,x=.str z∧k=.int (-1)∧z.length≤sizeLine∧(∀ u,Txt.sliceBy z none none (-1,u)=y)∧Q (.str y) H2
section
variable {X:Cx} {e st:Expr} {p2 pos:Pos} {te ts:TE}
end
section
variable {P:Program} {w:World} {A:Around} {E:Value→Shared→Prop} {s:Shared}
end
def tLRev (K:PySem.W.Frag) (ta:TA):TE:=fun σ H Q=>ta σ H fun vs H1=>∃ a xs,vs=[.ref a]∧SqL K H1 a xs∧∀ l,H1 l=none→Q (.ref l) (upd H1 l (.lst xs.reverse))
section
variable {X:Cx} {a:Expr} {ta:TA} {p p2 pos pos2:Pos}
end
end L2
namespace L2
open PySem PySem.Spec PyProof.Rows
abbrev cLenK:RC:=fun vs H Q=>∃ a kvs,vs=[.ref a]∧H a=some (.dK kvs)∧Q (.int (kvs.length:Nat)) H
section
variable {X:Cx}
end
end L2
namespace L2
open PySem PySem.Spec PyProof.Rows
section
variable {X:Cx} {CX:CXT} {k:Nat} {f C:Addr} {fd:FuncData} {ps:List Str} {sp:Sp} {dvs:List V} {E:XK} {x:Str} {p pos:Pos} {e:Expr} {es:List Expr} {t:TA}
end
section
variable {X:Cx} {e:Expr} {te:TE} {a:Str} {j:Nat} {p1 p2 p3:Pos}
end
section
variable {X:Cx} {st b₀:Stmt} {suite:List Stmt} {tb:EXK→TS} {th1:TS} {c1:Str} {C1:Addr} {np hpos pos:Pos}
end
end L2
namespace L2
open PySem PySem.Spec PyProof.Rows
section
variable {X:Cx} {tg:Expr}
def iSeq (K:PySem.W.Frag) (tl:TE):TI:=fun σ H R=>tl σ H fun x H1=>∃ a,x=.ref a∧(((∃ xs,SqL K H1 a xs)∧R (Itl K a) H1)∨((∃ xs,SqT K H1 a xs)∧R (Itt K a) H1))
theorem pi_seq {l:Expr} {tl:TE} (hl:PE X l tl):PI X tg l (iSeq X.K tl):=by
  intro pins s σ H R I h
  refine thn (hl pins s σ H _ I h) fun v s1 ⟨x,H1,I1,r1,q1⟩=>?_
  obtain ⟨a,e,q⟩:=q1
  subst e
  cases r1
  rcases q with ⟨⟨xs,hq⟩,q⟩ | ⟨⟨xs,hq⟩,q⟩
  · obtain ⟨its,rv,p,hz⟩:=I1.list hq
    refine wpAny_pyIter_list p.isList ?_
    refine ⟨s1.heap.objs.size,[s1.heap.objs.size],_,_,H1,rfl,I1.kept (t':=s1.toks) fun b o e=>Heap.get?_push_of_some _ e,turn_list a _,⟨_,Heap.get?_push_size _ rfl,rfl,rfl⟩,fun b hb=>?_,q⟩
    have e:b=s1.heap.objs.size:=by simpa using hb
    subst e
    exact I1.fpOk (Nat.le_refl _) (I1.hok.fresh (Nat.le_refl _))
  · obtain ⟨its,rv,p,hz⟩:=I1.tuple hq
    refine wpAny_pyIter_tuple (show s1.heap.IsTuple a its.toArray from p) ?_
    refine ⟨s1.heap.objs.size,[s1.heap.objs.size],_,_,H1,rfl,I1.kept (t':=s1.toks) fun b o e=>Heap.get?_push_of_some _ e,turn_tuple a _,⟨_,Heap.get?_push_size _ rfl,rfl,rfl⟩,fun b hb=>?_,q⟩
    have e:b=s1.heap.objs.size:=by simpa using hb
    subst e
    exact I1.fpOk (Nat.le_refl _) (I1.hok.fresh (Nat.le_refl _))
end
end L2
namespace HT
open PySem PySem.Spec PyProof.Rows
section
variable {prog:Program} {w:World} {A:Around} {E:Value→Shared→Prop} {s:Shared}
theorem getItem_tuple_all {t sl:Addr} {items:Array Value} {vl vu:Value} {lo hi:Option Int} {Q:Value→Shared→Prop} (ht:IsTup s.heap t items) (hs:s.heap.IsSliceOf sl vl vu .none) (pl:IsPart vl lo) (pu:IsPart vu hi)
    (hw:sIx items.size 0 lo=0∧sIx items.size items.size hi=items.size) (h:Q (.ref t) s):wpAny (model prog w) A (getItem (.ref t) (.ref sl)) Q E s:=by
  obtain ⟨os,hos,hcs,hds⟩:=id hs
  have hTs:s.TypeIs (.ref sl) "slice":=⟨os,hos,hcs⟩
  unfold getItem
  try with_reducible refine wpAny_holding ?_
  first | refine wpAny_bind (wpAny_pure ?_) | skip
  refine wpAny_bind (wpAny_sequenceKey ht.typeIs (by decide) ?_)
  refine wpAny_bind (wpAny_callSpecial?_slot (name:=Str.ofString "__getitem__") ht.typeIs PyProof.Rows.slot_tuple_getitem
    (wpAny_call_entry PyProof.Rows.slot_tuple_getitem ht.typeIs entry_tuple_getitem ?_ (args_tuple_getitem _ _)))
  show wpAny _ _ (Builtin.Tuple.tupleItemsOf (.ref t) >>= _) _ _ s
  refine wpAny_bind (tupleItemsOf_ ht ?_)
  refine wpAny_bind (wpAny_typeOf hTs ?_)
  rw [if_pos (by decide)]
  refine wpAny_bind (sliceApplied_gen hs pl pu ?_)
  have hyes:(((sIx items.size 0 lo:Nat):Int) == 0 && (1:Int) == 1 && (sIx items.size items.size hi - sIx items.size 0 lo) == items.size)=true:=by
    rw [hw.1,hw.2]
    simp
  show wpAny _ _ (if (((sIx items.size 0 lo:Nat):Int) == 0 && (1:Int) == 1 && (sIx items.size items.size hi - sIx items.size 0 lo) == items.size)=true then _ else _) _ _ s
  rw [if_pos hyes]
  unfold Builtin.Tuple.tupleIsExact
  refine wpAny_bind (wpAny_bind (wpAny_typeOf ht.typeIs (wpAny_pure ?_)))
  rw [if_pos (by decide)]
  exact wpAny_bind (wpAny_rule (wpAny_pure ⟨_,rfl,wpAny_pure h⟩))
end
end HT
namespace L2
open PySem PySem.Spec PyProof.Rows
section
variable {X:Cx}
def rSlT2 (K:PySem.W.Frag):V→Option Int→Option Int→Hp→VK→Prop:=fun x lo hi H Q=>∃ a xs,x=.ref a∧SqT K H a xs ∧
  ((HT.sIx xs.length 0 lo=0∧HT.sIx xs.length xs.length hi=xs.length)→Q (.ref a) H)∧(¬ (HT.sIx xs.length 0 lo=0∧HT.sIx xs.length xs.length hi=xs.length)→∀ p,H p=none→Q (.ref p) (upd H p (.tup (cutV xs lo hi))))
theorem sl_tup2:SlR X (rSlT2 X.K):=by
  intro pins s σ H x v vl vu lo hi sl Q I rx hs pl pu h
  obtain ⟨a,xs,rfl,hx,q1,q2⟩:=h
  by_cases hw:HT.sIx xs.length 0 lo=0∧HT.sIx xs.length xs.length hi=xs.length
  · cases rx
    obtain ⟨its,r,ht,hz⟩:=I.tuple hx
    have hlen:its.toArray.size=xs.length:=by rw [List.size_toArray];exact r.length.symm
    refine ⟨"tuple",_,PyProof.Rows.slot_tuple_getitem.lookup,ht.typeIs,?_⟩
    exact HT.getItem_tuple_all ht hs pl pu (by rw [hlen];exact hw) ⟨.ref a,H,I,rfl,q1 hw⟩
  · exact sl_tup pins s σ H _ v vl vu lo hi sl Q I rx hs pl pu ⟨a,xs,rfl,hx,hw,q2 hw⟩
end
end L2
namespace K20
open PySem L2
theorem jqa {α:Type} {a:α} {l m:List α}:a :: l ++ m=a :: (l ++ m):=rfl
theorem jqb {α:Type} (l:List α):[] ++ l=l:=rfl
theorem jqc {α:Type} (l:List α):l ++ []=l:=List.append_nil l
theorem jqd {α:Type} {a:α} {l:List α}:(a :: l)[0]?=some a:=rfl
theorem jqe {α:Type} {a:α} {l:List α} {i:Nat}:(a :: l)[i + 1]?=l[i]?:=rfl
theorem jqf {α:Type} (a b:α):(some a=some b)=(a=b):=Option.some.injEq a b
theorem jqg {α:Sort _} {p:α→Prop} {a:α}:(∃ x,a=x∧p x)↔p a:=exists_eq_left'
theorem jqh {α:Sort _} {p:α→Prop} {a:α}:(∃ x,x=a∧p x)↔p a:=exists_eq_left
theorem jqi (a b:Int):(V.int a=V.int b)=(a=b):=V.int.injEq a b
theorem jqj (a b:Addr):(V.ref a=V.ref b)=(a=b):=V.ref.injEq a b
theorem jqk (a b:Str):(V.str a=V.str b)=(a=b):=V.str.injEq a b
theorem jql (a b:Bool):(V.bl a=V.bl b)=(a=b):=V.bl.injEq a b
theorem jqm (a b:String):(V.ty a=V.ty b)=(a=b):=V.ty.injEq a b
theorem jqn {α:Type} (a:α) (l:List α) (b:α) (m:List α):(a :: l=b :: m)=(a=b∧l=m):=List.cons.injEq a l b m
theorem jqo {α:Sort _} {p:α→Prop} {b:Prop}:(∃ x,b∧p x)↔b∧(∃ x,p x):=exists_and_left
theorem jqp {α:Type} {x:α} {l:List α} {a:α}:(x :: l).set 0 a=a :: l:=rfl
theorem jqq {α:Type} {x:α} {l:List α} {i:Nat} {a:α}:(x :: l).set (i + 1) a=x :: l.set i a:=rfl
theorem jqr {p:Prop} [Decidable p]:(decide p=true)=p:=decide_eq_true_eq
theorem jqs (b:Bool):((!b)=true)=(b=false):=Bool.not_eq_true' b
theorem jqt {p:Prop} {_:Decidable p}:decide p=false↔¬p:=decide_eq_false_iff_not
theorem jqu:(false=true)=False:=Bool.false_eq_true
def top (i:Nat):Stmt:=PySem.Challenge.pw_forerun_k20_a_straight_runs_paper.main.body.getD i (.Pass ⟨0,0,0,0⟩)
abbrev s__law_draw:Stmt:=top 16
abbrev s__law_names:Stmt:=top 17
abbrev s_Run_init:Stmt:=inClass (top 13) 0
abbrev s__law_begun:Stmt:=top 25
abbrev s__law_cell_at:Stmt:=top 15
abbrev s__law_number:Stmt:=top 18
abbrev s_Run_over:Stmt:=inClass (top 13) 1
abbrev s_Run_paper:Stmt:=inClass (top 13) 4
abbrev s__law_plain:Stmt:=top 29
abbrev s_divided:Stmt:=top 8
abbrev s_come_to:Stmt:=top 9
abbrev s_is_worth:Stmt:=top 5
abbrev s_joined:Stmt:=top 10
abbrev s_reckoned:Stmt:=top 11
abbrev s_Run_worth_of:Stmt:=inClass (top 13) 5
abbrev s_Run_place_in:Stmt:=inClass (top 13) 6
abbrev s_Run_asks:Stmt:=inClass (top 13) 2
abbrev s__law_paper:Stmt:=top 30
abbrev s__law_part:Stmt:=top 19
abbrev s__law_term:Stmt:=top 20
abbrev s__law_spot:Stmt:=top 21
abbrev s__law_rows:Stmt:=top 22
abbrev s__law_two:Stmt:=top 23
abbrev s__law_worth:Stmt:=top 24
abbrev s__law_wanted:Stmt:=top 26
abbrev s__law_stepped:Stmt:=top 27
abbrev s_Run_taken:Stmt:=inClass (top 13) 9
abbrev s_Run_does:Stmt:=inClass (top 13) 8
abbrev s_Run_led_by:Stmt:=inClass (top 13) 7
abbrev s_Run_step:Stmt:=inClass (top 13) 3
abbrev s__law_one_step:Stmt:=top 28
abbrev s_law:Stmt:=top 31
theorem sc__law_draw:FnScope ["cell","j","far"] ["cell","j"] (defScope s__law_draw):=⟨rfl,rfl,rfl,by decide +kernel,rfl,by decide +kernel,by decide +kernel⟩
theorem sc__law_names:FnScope ["cell","many","size","signs","stem","k","at","turn"] ["cell","many"] (defScope s__law_names):=⟨rfl,rfl,rfl,by decide +kernel,rfl,by decide +kernel,by decide +kernel⟩
theorem sc_Run_init:FnScope ["self","code"] ["self","code"] (defScope s_Run_init):=⟨rfl,rfl,rfl,by decide +kernel,rfl,by decide +kernel,by decide +kernel⟩
theorem sc__law_begun:FnScope [] [] (defScope s__law_begun):=⟨rfl,rfl,rfl,by decide +kernel,rfl,by decide +kernel,by decide +kernel⟩
theorem sc__law_cell_at:FnScope ["script","k"] ["script","k"] (defScope s__law_cell_at):=⟨rfl,rfl,rfl,by decide +kernel,rfl,by decide +kernel,by decide +kernel⟩
theorem sc__law_number:FnScope ["cell","j","way"] ["cell","j"] (defScope s__law_number):=⟨rfl,rfl,rfl,by decide +kernel,rfl,by decide +kernel,by decide +kernel⟩
theorem sc_Run_over:FnScope ["self"] ["self"] (defScope s_Run_over):=⟨rfl,rfl,rfl,by decide +kernel,rfl,by decide +kernel,by decide +kernel⟩
theorem sc_Run_paper:FnScope ["self","notes"] ["self"] (defScope s_Run_paper):=⟨rfl,rfl,rfl,by decide +kernel,rfl,by decide +kernel,by decide +kernel⟩
theorem sc__law_plain:FnScope ["found","part"] ["found"] (defScope s__law_plain):=⟨rfl,rfl,rfl,by decide +kernel,rfl,by decide +kernel,by decide +kernel⟩
theorem sc_divided:FnScope ["word","first","second"] ["word","first","second"] (defScope s_divided):=⟨rfl,rfl,rfl,by decide +kernel,rfl,by decide +kernel,by decide +kernel⟩
theorem sc_come_to:FnScope ["word","first","second"] ["word","first","second"] (defScope s_come_to):=⟨rfl,rfl,rfl,by decide +kernel,rfl,by decide +kernel,by decide +kernel⟩
theorem sc_is_worth:FnScope ["thing"] ["thing"] (defScope s_is_worth):=⟨rfl,rfl,rfl,by decide +kernel,rfl,by decide +kernel,by decide +kernel⟩
theorem sc_joined:FnScope ["word","first","second","worth"] ["word","first","second"] (defScope s_joined):=⟨rfl,rfl,rfl,by decide +kernel,rfl,by decide +kernel,by decide +kernel⟩
theorem sc_reckoned:FnScope ["term","slots","worths","part","second","first"] ["term","slots"] (defScope s_reckoned):=⟨rfl,rfl,rfl,by decide +kernel,rfl,by decide +kernel,by decide +kernel⟩
theorem sc_Run_worth_of:FnScope ["self","term"] ["self","term"] (defScope s_Run_worth_of):=⟨rfl,rfl,rfl,by decide +kernel,rfl,by decide +kernel,by decide +kernel⟩
theorem sc_Run_place_in:FnScope ["self","due"] ["self","due"] (defScope s_Run_place_in):=⟨rfl,rfl,rfl,by decide +kernel,rfl,by decide +kernel,by decide +kernel⟩
theorem sc_Run_asks:FnScope ["self","place"] ["self"] (defScope s_Run_asks):=⟨rfl,rfl,rfl,by decide +kernel,rfl,by decide +kernel,by decide +kernel⟩
theorem sc__law_paper:FnScope ["run","state","found","due"] ["run","state"] (defScope s__law_paper):=⟨rfl,rfl,rfl,by decide +kernel,rfl,by decide +kernel,by decide +kernel⟩
theorem sc__law_part:FnScope ["cell","j","slots"] ["cell","j","slots"] (defScope s__law_part):=⟨rfl,rfl,rfl,by decide +kernel,rfl,by decide +kernel,by decide +kernel⟩
theorem sc__law_term:FnScope ["cell","j","slots","kind","one","other","words"] ["cell","j","slots"] (defScope s__law_term):=⟨rfl,rfl,rfl,by decide +kernel,rfl,by decide +kernel,by decide +kernel⟩
theorem sc__law_spot:FnScope ["cell","j","slots"] ["cell","j","slots"] (defScope s__law_spot):=⟨rfl,rfl,rfl,by decide +kernel,rfl,by decide +kernel,by decide +kernel⟩
theorem sc__law_rows:FnScope ["cell","slots","shelves","kind","shelf","slot","spot"] ["cell","slots","shelves"] (defScope s__law_rows):=⟨rfl,rfl,rfl,by decide +kernel,rfl,by decide +kernel,by decide +kernel⟩
theorem sc__law_two:FnScope ["one","other","word"] ["one","other","word"] (defScope s__law_two):=⟨rfl,rfl,rfl,by decide +kernel,rfl,by decide +kernel,by decide +kernel⟩
theorem sc__law_worth:FnScope ["term","slots","parts","part"] ["term","slots"] (defScope s__law_worth):=⟨rfl,rfl,rfl,by decide +kernel,rfl,by decide +kernel,by decide +kernel⟩
theorem sc__law_wanted:FnScope ["row","state","place"] ["row","state"] (defScope s__law_wanted):=⟨rfl,rfl,rfl,by decide +kernel,rfl,by decide +kernel,by decide +kernel⟩
theorem sc__law_stepped:FnScope ["row","state","answer","slots","place"] ["row","state","answer"] (defScope s__law_stepped):=⟨rfl,rfl,rfl,by decide +kernel,rfl,by decide +kernel,by decide +kernel⟩
theorem sc_Run_taken:FnScope ["self","place","worth"] ["self","place","worth"] (defScope s_Run_taken):=⟨rfl,rfl,rfl,by decide +kernel,rfl,by decide +kernel,by decide +kernel⟩
theorem sc_Run_does:FnScope ["self","due","worth","place"] ["self","due","worth"] (defScope s_Run_does):=⟨rfl,rfl,rfl,by decide +kernel,rfl,by decide +kernel,by decide +kernel⟩
theorem sc_Run_led_by:FnScope ["self","due","worth"] ["self","due","worth"] (defScope s_Run_led_by):=⟨rfl,rfl,rfl,by decide +kernel,rfl,by decide +kernel,by decide +kernel⟩
theorem sc_Run_step:FnScope ["self","worth"] ["self","worth"] (defScope s_Run_step):=⟨rfl,rfl,rfl,by decide +kernel,rfl,by decide +kernel,by decide +kernel⟩
theorem sc__law_one_step:FnScope ["run","row","state","answer","wanted"] ["run","row","state","answer"] (defScope s__law_one_step):=⟨rfl,rfl,rfl,by decide +kernel,rfl,by decide +kernel,by decide +kernel⟩
theorem sc_law:FnScope ["script","slots","shelves","rows","cell","handed","run","beside","mine","theirs","k","answer"] ["script"] (defScope s_law):=⟨rfl,rfl,rfl,by decide +kernel,rfl,by decide +kernel,by decide +kernel⟩
set_option genSizeOf false in
set_option genInjectivity false in
structure Adr where
  a__law_draw:Addr
  d__law_draw:FuncData
  a__law_names:Addr
  d__law_names:FuncData
  a_Run_init:Addr
  d_Run_init:FuncData
  a__law_begun:Addr
  d__law_begun:FuncData
  a__law_cell_at:Addr
  d__law_cell_at:FuncData
  a__law_number:Addr
  d__law_number:FuncData
  a_Run_over:Addr
  d_Run_over:FuncData
  a_Run_paper:Addr
  d_Run_paper:FuncData
  a__law_plain:Addr
  d__law_plain:FuncData
  a_divided:Addr
  d_divided:FuncData
  a_come_to:Addr
  d_come_to:FuncData
  a_is_worth:Addr
  d_is_worth:FuncData
  a_joined:Addr
  d_joined:FuncData
  a_reckoned:Addr
  d_reckoned:FuncData
  a_Run_worth_of:Addr
  d_Run_worth_of:FuncData
  a_Run_place_in:Addr
  d_Run_place_in:FuncData
  a_Run_asks:Addr
  d_Run_asks:FuncData
  a__law_paper:Addr
  d__law_paper:FuncData
  a__law_part:Addr
  d__law_part:FuncData
  a__law_term:Addr
  d__law_term:FuncData
  a__law_spot:Addr
  d__law_spot:FuncData
  a__law_rows:Addr
  d__law_rows:FuncData
  a__law_two:Addr
  d__law_two:FuncData
  a__law_worth:Addr
  d__law_worth:FuncData
  a__law_wanted:Addr
  d__law_wanted:FuncData
  a__law_stepped:Addr
  d__law_stepped:FuncData
  a_Run_taken:Addr
  d_Run_taken:FuncData
  a_Run_does:Addr
  d_Run_does:FuncData
  a_Run_led_by:Addr
  d_Run_led_by:FuncData
  a_Run_step:Addr
  d_Run_step:FuncData
  a__law_one_step:Addr
  d__law_one_step:FuncData
  a_law:Addr
  d_law:FuncData
  c_JOINING:Addr
  c_Great:Addr
  c_Nought:Addr
  c_Run:Addr
structure Txt (K:PySem.W.Frag) (mg:Str→Option Value) (t:Adr):Prop where
  f__law_draw:Fun K "_law_draw" "_law_draw" s__law_draw t.a__law_draw t.d__law_draw
  b__law_draw:Binds K t.d__law_draw ["cell","j"] []
  m__law_draw:mg "_law_draw"=some (.ref t.a__law_draw)
  f__law_names:Fun K "_law_names" "_law_names" s__law_names t.a__law_names t.d__law_names
  b__law_names:Binds K t.d__law_names ["cell","many"] []
  m__law_names:mg "_law_names"=some (.ref t.a__law_names)
  f_Run_init:Fun K "__init__" "Run.__init__" s_Run_init t.a_Run_init t.d_Run_init
  b_Run_init:Binds K t.d_Run_init ["self","code"] []
  f__law_begun:Fun K "_law_begun" "_law_begun" s__law_begun t.a__law_begun t.d__law_begun
  b__law_begun:Binds K t.d__law_begun [] []
  m__law_begun:mg "_law_begun"=some (.ref t.a__law_begun)
  f__law_cell_at:Fun K "_law_cell_at" "_law_cell_at" s__law_cell_at t.a__law_cell_at t.d__law_cell_at
  b__law_cell_at:Binds K t.d__law_cell_at ["script","k"] []
  m__law_cell_at:mg "_law_cell_at"=some (.ref t.a__law_cell_at)
  f__law_number:Fun K "_law_number" "_law_number" s__law_number t.a__law_number t.d__law_number
  b__law_number:Binds K t.d__law_number ["cell","j"] []
  m__law_number:mg "_law_number"=some (.ref t.a__law_number)
  f_Run_over:Fun K "over" "Run.over" s_Run_over t.a_Run_over t.d_Run_over
  b_Run_over:Binds K t.d_Run_over ["self"] []
  me_Run_over:Meth K t.c_Run "over" t.a_Run_over
  f_Run_paper:Fun K "paper" "Run.paper" s_Run_paper t.a_Run_paper t.d_Run_paper
  b_Run_paper:Binds K t.d_Run_paper ["self"] []
  me_Run_paper:Meth K t.c_Run "paper" t.a_Run_paper
  f__law_plain:Fun K "_law_plain" "_law_plain" s__law_plain t.a__law_plain t.d__law_plain
  b__law_plain:Binds K t.d__law_plain ["found"] []
  m__law_plain:mg "_law_plain"=some (.ref t.a__law_plain)
  f_divided:Fun K "divided" "divided" s_divided t.a_divided t.d_divided
  b_divided:Binds K t.d_divided ["word","first","second"] []
  m_divided:mg "divided"=some (.ref t.a_divided)
  f_come_to:Fun K "come_to" "come_to" s_come_to t.a_come_to t.d_come_to
  b_come_to:Binds K t.d_come_to ["word","first","second"] []
  m_come_to:mg "come_to"=some (.ref t.a_come_to)
  f_is_worth:Fun K "is_worth" "is_worth" s_is_worth t.a_is_worth t.d_is_worth
  b_is_worth:Binds K t.d_is_worth ["thing"] []
  m_is_worth:mg "is_worth"=some (.ref t.a_is_worth)
  f_joined:Fun K "joined" "joined" s_joined t.a_joined t.d_joined
  b_joined:Binds K t.d_joined ["word","first","second"] []
  m_joined:mg "joined"=some (.ref t.a_joined)
  f_reckoned:Fun K "reckoned" "reckoned" s_reckoned t.a_reckoned t.d_reckoned
  b_reckoned:Binds K t.d_reckoned ["term","slots"] []
  m_reckoned:mg "reckoned"=some (.ref t.a_reckoned)
  f_Run_worth_of:Fun K "worth_of" "Run.worth_of" s_Run_worth_of t.a_Run_worth_of t.d_Run_worth_of
  b_Run_worth_of:Binds K t.d_Run_worth_of ["self","term"] []
  me_Run_worth_of:Meth K t.c_Run "worth_of" t.a_Run_worth_of
  f_Run_place_in:Fun K "place_in" "Run.place_in" s_Run_place_in t.a_Run_place_in t.d_Run_place_in
  b_Run_place_in:Binds K t.d_Run_place_in ["self","due"] []
  me_Run_place_in:Meth K t.c_Run "place_in" t.a_Run_place_in
  f_Run_asks:Fun K "asks" "Run.asks" s_Run_asks t.a_Run_asks t.d_Run_asks
  b_Run_asks:Binds K t.d_Run_asks ["self"] []
  me_Run_asks:Meth K t.c_Run "asks" t.a_Run_asks
  f__law_paper:Fun K "_law_paper" "_law_paper" s__law_paper t.a__law_paper t.d__law_paper
  b__law_paper:Binds K t.d__law_paper ["run","state"] []
  m__law_paper:mg "_law_paper"=some (.ref t.a__law_paper)
  f__law_part:Fun K "_law_part" "_law_part" s__law_part t.a__law_part t.d__law_part
  b__law_part:Binds K t.d__law_part ["cell","j","slots"] []
  m__law_part:mg "_law_part"=some (.ref t.a__law_part)
  f__law_term:Fun K "_law_term" "_law_term" s__law_term t.a__law_term t.d__law_term
  b__law_term:Binds K t.d__law_term ["cell","j","slots"] []
  m__law_term:mg "_law_term"=some (.ref t.a__law_term)
  f__law_spot:Fun K "_law_spot" "_law_spot" s__law_spot t.a__law_spot t.d__law_spot
  b__law_spot:Binds K t.d__law_spot ["cell","j","slots"] []
  m__law_spot:mg "_law_spot"=some (.ref t.a__law_spot)
  f__law_rows:Fun K "_law_rows" "_law_rows" s__law_rows t.a__law_rows t.d__law_rows
  b__law_rows:Binds K t.d__law_rows ["cell","slots","shelves"] []
  m__law_rows:mg "_law_rows"=some (.ref t.a__law_rows)
  f__law_two:Fun K "_law_two" "_law_two" s__law_two t.a__law_two t.d__law_two
  b__law_two:Binds K t.d__law_two ["one","other","word"] []
  m__law_two:mg "_law_two"=some (.ref t.a__law_two)
  f__law_worth:Fun K "_law_worth" "_law_worth" s__law_worth t.a__law_worth t.d__law_worth
  b__law_worth:Binds K t.d__law_worth ["term","slots"] []
  m__law_worth:mg "_law_worth"=some (.ref t.a__law_worth)
  f__law_wanted:Fun K "_law_wanted" "_law_wanted" s__law_wanted t.a__law_wanted t.d__law_wanted
  b__law_wanted:Binds K t.d__law_wanted ["row","state"] []
  m__law_wanted:mg "_law_wanted"=some (.ref t.a__law_wanted)
  f__law_stepped:Fun K "_law_stepped" "_law_stepped" s__law_stepped t.a__law_stepped t.d__law_stepped
  b__law_stepped:Binds K t.d__law_stepped ["row","state","answer"] []
  m__law_stepped:mg "_law_stepped"=some (.ref t.a__law_stepped)
  f_Run_taken:Fun K "taken" "Run.taken" s_Run_taken t.a_Run_taken t.d_Run_taken
  b_Run_taken:Binds K t.d_Run_taken ["self","place","worth"] []
  me_Run_taken:Meth K t.c_Run "taken" t.a_Run_taken
  f_Run_does:Fun K "does" "Run.does" s_Run_does t.a_Run_does t.d_Run_does
  b_Run_does:Binds K t.d_Run_does ["self","due","worth"] []
  me_Run_does:Meth K t.c_Run "does" t.a_Run_does
  f_Run_led_by:Fun K "led_by" "Run.led_by" s_Run_led_by t.a_Run_led_by t.d_Run_led_by
  b_Run_led_by:Binds K t.d_Run_led_by ["self","due","worth"] []
  me_Run_led_by:Meth K t.c_Run "led_by" t.a_Run_led_by
  f_Run_step:FunD K "step" "Run.step" s_Run_step t.a_Run_step t.d_Run_step
  b_Run_step:Binds K t.d_Run_step ["self","worth"] []
  me_Run_step:Meth K t.c_Run "step" t.a_Run_step
  f__law_one_step:Fun K "_law_one_step" "_law_one_step" s__law_one_step t.a__law_one_step t.d__law_one_step
  b__law_one_step:Binds K t.d__law_one_step ["run","row","state","answer"] []
  m__law_one_step:mg "_law_one_step"=some (.ref t.a__law_one_step)
  f_law:Fun K "law" "law" s_law t.a_law t.d_law
  b_law:Binds K t.d_law ["script"] []
  m_law:mg "law"=some (.ref t.a_law)
  w_law:∀ (s:Shared) (v:Value),BindsTo s t.d_law ⟨[v],[]⟩ [("script",v)]
  b_bool:mg "bool"=none
  b_int:mg "int"=none
  b_isinstance:mg "isinstance"=none
  b_len:mg "len"=none
  b_list:mg "list"=none
  b_range:mg "range"=none
  b_sorted:mg "sorted"=none
  b_str:mg "str"=none
  b_tuple:mg "tuple"=none
  g_JOINING:mg "JOINING"=some (.ref t.c_JOINING)
  v_JOINING:∀ H:Hp,SqT K H t.c_JOINING [.str "plus",.str "minus",.str "times",.str "over",.str "rest",.str "under",.str "same"]
  g_Great:mg "Great"=some (.ref t.c_Great)
  g_Nought:mg "Nought"=some (.ref t.c_Nought)
  g_Run:mg "Run"=some (.ref t.c_Run)
  cl_Run:Cls K t.c_Run
  mk_Run:Mk K t.c_Run t.a_Run_init
  na_Run_at:NoAttr K t.c_Run "at"
  na_Run_code:NoAttr K t.c_Run "code"
  na_Run_gifts:NoAttr K t.c_Run "gifts"
  na_Run_notes:NoAttr K t.c_Run "notes"
  na_Run_sayings:NoAttr K t.c_Run "sayings"
  na_Run_slots:NoAttr K t.c_Run "slots"
  na_Run_why:NoAttr K t.c_Run "why"
  x_Nought:PySem.W.excIn K t.c_Nought bmVal newVal=true
  y_Nought:ExK K t.c_Nought
  e_Nought_Great:PySem.W.exmOne K (.ref t.c_Nought) (.ref t.c_Great)=some false
  e_Nought_Nought:PySem.W.exmOne K (.ref t.c_Nought) (.ref t.c_Nought)=some true
  m_Nought_Great_Nought:PySem.W.exmAny K (.ref t.c_Nought) [.ref t.c_Great,.ref t.c_Nought]=some true
  x_Great:PySem.W.excIn K t.c_Great bmVal newVal=true
  y_Great:ExK K t.c_Great
  e_Great_Great:PySem.W.exmOne K (.ref t.c_Great) (.ref t.c_Great)=some true
  e_Great_Nought:PySem.W.exmOne K (.ref t.c_Great) (.ref t.c_Nought)=some false
  m_Great_Great_Nought:PySem.W.exmAny K (.ref t.c_Great) [.ref t.c_Great,.ref t.c_Nought]=some true
theorem txt_mk {K:PySem.W.Frag} {h:Heap} {mg:Str→Option Value} (X:K.In h) (G:h.Ns mainGlobals mg)
    {f0:Addr} {od0 an0:Option Addr} {sl0:Array (Option Value)} {oc0 kV0 dc0 pm0 cd0 ct0:Value}
    {f1:Addr} {od1 an1:Option Addr} {sl1:Array (Option Value)} {oc1 kV1 dc1 pm1 cd1 ct1:Value}
    {f2:Addr} {od2 an2:Option Addr} {sl2:Array (Option Value)} {oc2 kV2 dc2 pm2 cd2 ct2:Value}
    {f3:Addr} {od3 an3:Option Addr} {sl3:Array (Option Value)} {oc3 kV3 dc3 pm3 cd3 ct3:Value}
    {f4:Addr} {od4 an4:Option Addr} {sl4:Array (Option Value)} {oc4 kV4 dc4 pm4 cd4 ct4:Value}
    {f5:Addr} {od5 an5:Option Addr} {sl5:Array (Option Value)} {oc5 kV5 dc5 pm5 cd5 ct5:Value}
    {f6:Addr} {od6 an6:Option Addr} {sl6:Array (Option Value)} {oc6 kV6 dc6 pm6 cd6 ct6:Value}
    {f7:Addr} {od7 an7:Option Addr} {sl7:Array (Option Value)} {oc7 kV7 dc7 pm7 cd7 ct7:Value}
    {f8:Addr} {od8 an8:Option Addr} {sl8:Array (Option Value)} {oc8 kV8 dc8 pm8 cd8 ct8:Value}
    {f9:Addr} {od9 an9:Option Addr} {sl9:Array (Option Value)} {oc9 kV9 dc9 pm9 cd9 ct9:Value}
    {f10:Addr} {od10 an10:Option Addr} {sl10:Array (Option Value)} {oc10 kV10 dc10 pm10 cd10 ct10:Value}
    {f11:Addr} {od11 an11:Option Addr} {sl11:Array (Option Value)} {oc11 kV11 dc11 pm11 cd11 ct11:Value}
    {f12:Addr} {od12 an12:Option Addr} {sl12:Array (Option Value)} {oc12 kV12 dc12 pm12 cd12 ct12:Value}
    {f13:Addr} {od13 an13:Option Addr} {sl13:Array (Option Value)} {oc13 kV13 dc13 pm13 cd13 ct13:Value}
    {f14:Addr} {od14 an14:Option Addr} {sl14:Array (Option Value)} {oc14 kV14 dc14 pm14 cd14 ct14:Value}
    {f15:Addr} {od15 an15:Option Addr} {sl15:Array (Option Value)} {oc15 kV15 dc15 pm15 cd15 ct15:Value}
    {f16:Addr} {od16 an16:Option Addr} {sl16:Array (Option Value)} {oc16 kV16 dc16 pm16 cd16 ct16:Value}
    {f17:Addr} {od17 an17:Option Addr} {sl17:Array (Option Value)} {oc17 kV17 dc17 pm17 cd17 ct17:Value}
    {f18:Addr} {od18 an18:Option Addr} {sl18:Array (Option Value)} {oc18 kV18 dc18 pm18 cd18 ct18:Value}
    {f19:Addr} {od19 an19:Option Addr} {sl19:Array (Option Value)} {oc19 kV19 dc19 pm19 cd19 ct19:Value}
    {f20:Addr} {od20 an20:Option Addr} {sl20:Array (Option Value)} {oc20 kV20 dc20 pm20 cd20 ct20:Value}
    {f21:Addr} {od21 an21:Option Addr} {sl21:Array (Option Value)} {oc21 kV21 dc21 pm21 cd21 ct21:Value}
    {f22:Addr} {od22 an22:Option Addr} {sl22:Array (Option Value)} {oc22 kV22 dc22 pm22 cd22 ct22:Value}
    {f23:Addr} {od23 an23:Option Addr} {sl23:Array (Option Value)} {oc23 kV23 dc23 pm23 cd23 ct23:Value}
    {f24:Addr} {od24 an24:Option Addr} {sl24:Array (Option Value)} {oc24 kV24 dc24 pm24 cd24 ct24:Value}
    {f25:Addr} {od25 an25:Option Addr} {sl25:Array (Option Value)} {oc25 kV25 dc25 pm25 cd25 ct25:Value}
    {f26:Addr} {od26 an26:Option Addr} {sl26:Array (Option Value)} {oc26 kV26 dc26 pm26 cd26 ct26:Value}
    {f27:Addr} {od27 an27:Option Addr} {sl27:Array (Option Value)} {oc27 kV27 dc27 pm27 cd27 ct27:Value}
    {f28:Addr} {od28 an28:Option Addr} {sl28:Array (Option Value)} {oc28 kV28 dc28 pm28 cd28 ct28:Value}
    {f29:Addr} {od29 an29:Option Addr} {sl29:Array (Option Value)} {oc29 kV29 dc29 pm29 cd29 ct29:Value} {dA29:Addr} {dn29:Nat} {dt29_0:Tok}
    {f30:Addr} {od30 an30:Option Addr} {sl30:Array (Option Value)} {oc30 kV30 dc30 pm30 cd30 ct30:Value}
    {f31:Addr} {od31 an31:Option Addr} {sl31:Array (Option Value)} {oc31 kV31 dc31 pm31 cd31 ct31:Value}
    {ga0:Addr} {gn0:Nat} {gt0_0:Tok} {gt0_1:Tok} {gt0_2:Tok} {gt0_3:Tok} {gt0_4:Tok} {gt0_5:Tok} {gt0_6:Tok}
    {ca0:Addr}
    {ca1:Addr}
    {ca2:Addr}
    {cl0:ClassData}
    {cl1:ClassData}
    (qa0:PySem.W.nsIn K mainGlobals "_law_draw"=some (some (.ref f0))) (ql0:K.lookup f0=some ⟨oc0,od0,.func (PySem.W.fnOf "_law_draw" "_law_draw" (defArgs s__law_draw) (defBody s__law_draw) (defScope s__law_draw) .none kV0 dc0 pm0 an0 cd0 ct0),sl0⟩) (qc0:PySem.W.codeIn K cd0 "_law_draw"=true) (qk0:PySem.W.keepIn K (.ref f0)=true)
    (qa1:PySem.W.nsIn K mainGlobals "_law_names"=some (some (.ref f1))) (ql1:K.lookup f1=some ⟨oc1,od1,.func (PySem.W.fnOf "_law_names" "_law_names" (defArgs s__law_names) (defBody s__law_names) (defScope s__law_names) .none kV1 dc1 pm1 an1 cd1 ct1),sl1⟩) (qc1:PySem.W.codeIn K cd1 "_law_names"=true) (qk1:PySem.W.keepIn K (.ref f1)=true)
    (qa2:PySem.W.findIn K (.ref ca2) "__init__"=some (some (.ref f2))) (qi2:PySem.W.isFn K (.ref f2)=true) (ql2:K.lookup f2=some ⟨oc2,od2,.func (PySem.W.fnOf "__init__" "Run.__init__" (defArgs s_Run_init) (defBody s_Run_init) (defScope s_Run_init) .none kV2 dc2 pm2 an2 cd2 ct2),sl2⟩) (qc2:PySem.W.codeIn K cd2 "Run.__init__"=true) (qk2:PySem.W.keepIn K (.ref f2)=true)
    (qa3:PySem.W.nsIn K mainGlobals "_law_begun"=some (some (.ref f3))) (ql3:K.lookup f3=some ⟨oc3,od3,.func (PySem.W.fnOf "_law_begun" "_law_begun" (defArgs s__law_begun) (defBody s__law_begun) (defScope s__law_begun) .none kV3 dc3 pm3 an3 cd3 ct3),sl3⟩) (qc3:PySem.W.codeIn K cd3 "_law_begun"=true) (qk3:PySem.W.keepIn K (.ref f3)=true)
    (qa4:PySem.W.nsIn K mainGlobals "_law_cell_at"=some (some (.ref f4))) (ql4:K.lookup f4=some ⟨oc4,od4,.func (PySem.W.fnOf "_law_cell_at" "_law_cell_at" (defArgs s__law_cell_at) (defBody s__law_cell_at) (defScope s__law_cell_at) .none kV4 dc4 pm4 an4 cd4 ct4),sl4⟩) (qc4:PySem.W.codeIn K cd4 "_law_cell_at"=true) (qk4:PySem.W.keepIn K (.ref f4)=true)
    (qa5:PySem.W.nsIn K mainGlobals "_law_number"=some (some (.ref f5))) (ql5:K.lookup f5=some ⟨oc5,od5,.func (PySem.W.fnOf "_law_number" "_law_number" (defArgs s__law_number) (defBody s__law_number) (defScope s__law_number) .none kV5 dc5 pm5 an5 cd5 ct5),sl5⟩) (qc5:PySem.W.codeIn K cd5 "_law_number"=true) (qk5:PySem.W.keepIn K (.ref f5)=true)
    (qa6:PySem.W.findIn K (.ref ca2) "over"=some (some (.ref f6))) (qi6:PySem.W.isFn K (.ref f6)=true) (ql6:K.lookup f6=some ⟨oc6,od6,.func (PySem.W.fnOf "over" "Run.over" (defArgs s_Run_over) (defBody s_Run_over) (defScope s_Run_over) .none kV6 dc6 pm6 an6 cd6 ct6),sl6⟩) (qc6:PySem.W.codeIn K cd6 "Run.over"=true) (qk6:PySem.W.keepIn K (.ref f6)=true)
    (qa7:PySem.W.findIn K (.ref ca2) "paper"=some (some (.ref f7))) (qi7:PySem.W.isFn K (.ref f7)=true) (ql7:K.lookup f7=some ⟨oc7,od7,.func (PySem.W.fnOf "paper" "Run.paper" (defArgs s_Run_paper) (defBody s_Run_paper) (defScope s_Run_paper) .none kV7 dc7 pm7 an7 cd7 ct7),sl7⟩) (qc7:PySem.W.codeIn K cd7 "Run.paper"=true) (qk7:PySem.W.keepIn K (.ref f7)=true)
    (qa8:PySem.W.nsIn K mainGlobals "_law_plain"=some (some (.ref f8))) (ql8:K.lookup f8=some ⟨oc8,od8,.func (PySem.W.fnOf "_law_plain" "_law_plain" (defArgs s__law_plain) (defBody s__law_plain) (defScope s__law_plain) .none kV8 dc8 pm8 an8 cd8 ct8),sl8⟩) (qc8:PySem.W.codeIn K cd8 "_law_plain"=true) (qk8:PySem.W.keepIn K (.ref f8)=true)
    (qa9:PySem.W.nsIn K mainGlobals "divided"=some (some (.ref f9))) (ql9:K.lookup f9=some ⟨oc9,od9,.func (PySem.W.fnOf "divided" "divided" (defArgs s_divided) (defBody s_divided) (defScope s_divided) .none kV9 dc9 pm9 an9 cd9 ct9),sl9⟩) (qc9:PySem.W.codeIn K cd9 "divided"=true) (qk9:PySem.W.keepIn K (.ref f9)=true)
    (qa10:PySem.W.nsIn K mainGlobals "come_to"=some (some (.ref f10))) (ql10:K.lookup f10=some ⟨oc10,od10,.func (PySem.W.fnOf "come_to" "come_to" (defArgs s_come_to) (defBody s_come_to) (defScope s_come_to) .none kV10 dc10 pm10 an10 cd10 ct10),sl10⟩) (qc10:PySem.W.codeIn K cd10 "come_to"=true) (qk10:PySem.W.keepIn K (.ref f10)=true)
    (qa11:PySem.W.nsIn K mainGlobals "is_worth"=some (some (.ref f11))) (ql11:K.lookup f11=some ⟨oc11,od11,.func (PySem.W.fnOf "is_worth" "is_worth" (defArgs s_is_worth) (defBody s_is_worth) (defScope s_is_worth) .none kV11 dc11 pm11 an11 cd11 ct11),sl11⟩) (qc11:PySem.W.codeIn K cd11 "is_worth"=true) (qk11:PySem.W.keepIn K (.ref f11)=true)
    (qa12:PySem.W.nsIn K mainGlobals "joined"=some (some (.ref f12))) (ql12:K.lookup f12=some ⟨oc12,od12,.func (PySem.W.fnOf "joined" "joined" (defArgs s_joined) (defBody s_joined) (defScope s_joined) .none kV12 dc12 pm12 an12 cd12 ct12),sl12⟩) (qc12:PySem.W.codeIn K cd12 "joined"=true) (qk12:PySem.W.keepIn K (.ref f12)=true)
    (qa13:PySem.W.nsIn K mainGlobals "reckoned"=some (some (.ref f13))) (ql13:K.lookup f13=some ⟨oc13,od13,.func (PySem.W.fnOf "reckoned" "reckoned" (defArgs s_reckoned) (defBody s_reckoned) (defScope s_reckoned) .none kV13 dc13 pm13 an13 cd13 ct13),sl13⟩) (qc13:PySem.W.codeIn K cd13 "reckoned"=true) (qk13:PySem.W.keepIn K (.ref f13)=true)
    (qa14:PySem.W.findIn K (.ref ca2) "worth_of"=some (some (.ref f14))) (qi14:PySem.W.isFn K (.ref f14)=true) (ql14:K.lookup f14=some ⟨oc14,od14,.func (PySem.W.fnOf "worth_of" "Run.worth_of" (defArgs s_Run_worth_of) (defBody s_Run_worth_of) (defScope s_Run_worth_of) .none kV14 dc14 pm14 an14 cd14 ct14),sl14⟩) (qc14:PySem.W.codeIn K cd14 "Run.worth_of"=true) (qk14:PySem.W.keepIn K (.ref f14)=true)
    (qa15:PySem.W.findIn K (.ref ca2) "place_in"=some (some (.ref f15))) (qi15:PySem.W.isFn K (.ref f15)=true) (ql15:K.lookup f15=some ⟨oc15,od15,.func (PySem.W.fnOf "place_in" "Run.place_in" (defArgs s_Run_place_in) (defBody s_Run_place_in) (defScope s_Run_place_in) .none kV15 dc15 pm15 an15 cd15 ct15),sl15⟩) (qc15:PySem.W.codeIn K cd15 "Run.place_in"=true) (qk15:PySem.W.keepIn K (.ref f15)=true)
    (qa16:PySem.W.findIn K (.ref ca2) "asks"=some (some (.ref f16))) (qi16:PySem.W.isFn K (.ref f16)=true) (ql16:K.lookup f16=some ⟨oc16,od16,.func (PySem.W.fnOf "asks" "Run.asks" (defArgs s_Run_asks) (defBody s_Run_asks) (defScope s_Run_asks) .none kV16 dc16 pm16 an16 cd16 ct16),sl16⟩) (qc16:PySem.W.codeIn K cd16 "Run.asks"=true) (qk16:PySem.W.keepIn K (.ref f16)=true)
    (qa17:PySem.W.nsIn K mainGlobals "_law_paper"=some (some (.ref f17))) (ql17:K.lookup f17=some ⟨oc17,od17,.func (PySem.W.fnOf "_law_paper" "_law_paper" (defArgs s__law_paper) (defBody s__law_paper) (defScope s__law_paper) .none kV17 dc17 pm17 an17 cd17 ct17),sl17⟩) (qc17:PySem.W.codeIn K cd17 "_law_paper"=true) (qk17:PySem.W.keepIn K (.ref f17)=true)
    (qa18:PySem.W.nsIn K mainGlobals "_law_part"=some (some (.ref f18))) (ql18:K.lookup f18=some ⟨oc18,od18,.func (PySem.W.fnOf "_law_part" "_law_part" (defArgs s__law_part) (defBody s__law_part) (defScope s__law_part) .none kV18 dc18 pm18 an18 cd18 ct18),sl18⟩) (qc18:PySem.W.codeIn K cd18 "_law_part"=true) (qk18:PySem.W.keepIn K (.ref f18)=true)
    (qa19:PySem.W.nsIn K mainGlobals "_law_term"=some (some (.ref f19))) (ql19:K.lookup f19=some ⟨oc19,od19,.func (PySem.W.fnOf "_law_term" "_law_term" (defArgs s__law_term) (defBody s__law_term) (defScope s__law_term) .none kV19 dc19 pm19 an19 cd19 ct19),sl19⟩) (qc19:PySem.W.codeIn K cd19 "_law_term"=true) (qk19:PySem.W.keepIn K (.ref f19)=true)
    (qa20:PySem.W.nsIn K mainGlobals "_law_spot"=some (some (.ref f20))) (ql20:K.lookup f20=some ⟨oc20,od20,.func (PySem.W.fnOf "_law_spot" "_law_spot" (defArgs s__law_spot) (defBody s__law_spot) (defScope s__law_spot) .none kV20 dc20 pm20 an20 cd20 ct20),sl20⟩) (qc20:PySem.W.codeIn K cd20 "_law_spot"=true) (qk20:PySem.W.keepIn K (.ref f20)=true)
    (qa21:PySem.W.nsIn K mainGlobals "_law_rows"=some (some (.ref f21))) (ql21:K.lookup f21=some ⟨oc21,od21,.func (PySem.W.fnOf "_law_rows" "_law_rows" (defArgs s__law_rows) (defBody s__law_rows) (defScope s__law_rows) .none kV21 dc21 pm21 an21 cd21 ct21),sl21⟩) (qc21:PySem.W.codeIn K cd21 "_law_rows"=true) (qk21:PySem.W.keepIn K (.ref f21)=true)
    (qa22:PySem.W.nsIn K mainGlobals "_law_two"=some (some (.ref f22))) (ql22:K.lookup f22=some ⟨oc22,od22,.func (PySem.W.fnOf "_law_two" "_law_two" (defArgs s__law_two) (defBody s__law_two) (defScope s__law_two) .none kV22 dc22 pm22 an22 cd22 ct22),sl22⟩) (qc22:PySem.W.codeIn K cd22 "_law_two"=true) (qk22:PySem.W.keepIn K (.ref f22)=true)
    (qa23:PySem.W.nsIn K mainGlobals "_law_worth"=some (some (.ref f23))) (ql23:K.lookup f23=some ⟨oc23,od23,.func (PySem.W.fnOf "_law_worth" "_law_worth" (defArgs s__law_worth) (defBody s__law_worth) (defScope s__law_worth) .none kV23 dc23 pm23 an23 cd23 ct23),sl23⟩) (qc23:PySem.W.codeIn K cd23 "_law_worth"=true) (qk23:PySem.W.keepIn K (.ref f23)=true)
    (qa24:PySem.W.nsIn K mainGlobals "_law_wanted"=some (some (.ref f24))) (ql24:K.lookup f24=some ⟨oc24,od24,.func (PySem.W.fnOf "_law_wanted" "_law_wanted" (defArgs s__law_wanted) (defBody s__law_wanted) (defScope s__law_wanted) .none kV24 dc24 pm24 an24 cd24 ct24),sl24⟩) (qc24:PySem.W.codeIn K cd24 "_law_wanted"=true) (qk24:PySem.W.keepIn K (.ref f24)=true)
    (qa25:PySem.W.nsIn K mainGlobals "_law_stepped"=some (some (.ref f25))) (ql25:K.lookup f25=some ⟨oc25,od25,.func (PySem.W.fnOf "_law_stepped" "_law_stepped" (defArgs s__law_stepped) (defBody s__law_stepped) (defScope s__law_stepped) .none kV25 dc25 pm25 an25 cd25 ct25),sl25⟩) (qc25:PySem.W.codeIn K cd25 "_law_stepped"=true) (qk25:PySem.W.keepIn K (.ref f25)=true)
    (qa26:PySem.W.findIn K (.ref ca2) "taken"=some (some (.ref f26))) (qi26:PySem.W.isFn K (.ref f26)=true) (ql26:K.lookup f26=some ⟨oc26,od26,.func (PySem.W.fnOf "taken" "Run.taken" (defArgs s_Run_taken) (defBody s_Run_taken) (defScope s_Run_taken) .none kV26 dc26 pm26 an26 cd26 ct26),sl26⟩) (qc26:PySem.W.codeIn K cd26 "Run.taken"=true) (qk26:PySem.W.keepIn K (.ref f26)=true)
    (qa27:PySem.W.findIn K (.ref ca2) "does"=some (some (.ref f27))) (qi27:PySem.W.isFn K (.ref f27)=true) (ql27:K.lookup f27=some ⟨oc27,od27,.func (PySem.W.fnOf "does" "Run.does" (defArgs s_Run_does) (defBody s_Run_does) (defScope s_Run_does) .none kV27 dc27 pm27 an27 cd27 ct27),sl27⟩) (qc27:PySem.W.codeIn K cd27 "Run.does"=true) (qk27:PySem.W.keepIn K (.ref f27)=true)
    (qa28:PySem.W.findIn K (.ref ca2) "led_by"=some (some (.ref f28))) (qi28:PySem.W.isFn K (.ref f28)=true) (ql28:K.lookup f28=some ⟨oc28,od28,.func (PySem.W.fnOf "led_by" "Run.led_by" (defArgs s_Run_led_by) (defBody s_Run_led_by) (defScope s_Run_led_by) .none kV28 dc28 pm28 an28 cd28 ct28),sl28⟩) (qc28:PySem.W.codeIn K cd28 "Run.led_by"=true) (qk28:PySem.W.keepIn K (.ref f28)=true)
    (qa29:PySem.W.findIn K (.ref ca2) "step"=some (some (.ref f29))) (qi29:PySem.W.isFn K (.ref f29)=true) (ql29:K.lookup f29=some ⟨oc29,od29,.func (PySem.W.fnOf "step" "Run.step" (defArgs s_Run_step) (defBody s_Run_step) (defScope s_Run_step) (.ref dA29) kV29 dc29 pm29 an29 cd29 ct29),sl29⟩) (qc29:PySem.W.codeIn K cd29 "Run.step"=true) (qk29:PySem.W.keepIn K (.ref f29)=true) (qd29:K.lookup dA29=some ⟨.type "tuple",none,.seq #[.int 0 dt29_0] dn29,#[]⟩)
    (qa30:PySem.W.nsIn K mainGlobals "_law_one_step"=some (some (.ref f30))) (ql30:K.lookup f30=some ⟨oc30,od30,.func (PySem.W.fnOf "_law_one_step" "_law_one_step" (defArgs s__law_one_step) (defBody s__law_one_step) (defScope s__law_one_step) .none kV30 dc30 pm30 an30 cd30 ct30),sl30⟩) (qc30:PySem.W.codeIn K cd30 "_law_one_step"=true) (qk30:PySem.W.keepIn K (.ref f30)=true)
    (qa31:PySem.W.nsIn K mainGlobals "law"=some (some (.ref f31))) (ql31:K.lookup f31=some ⟨oc31,od31,.func (PySem.W.fnOf "law" "law" (defArgs s_law) (defBody s_law) (defScope s_law) .none kV31 dc31 pm31 an31 cd31 ct31),sl31⟩) (qc31:PySem.W.codeIn K cd31 "law"=true) (qk31:PySem.W.keepIn K (.ref f31)=true)
    (qz0:PySem.W.nsIn K mainGlobals "bool"=some none)
    (qz1:PySem.W.nsIn K mainGlobals "int"=some none)
    (qz2:PySem.W.nsIn K mainGlobals "isinstance"=some none)
    (qz3:PySem.W.nsIn K mainGlobals "len"=some none)
    (qz4:PySem.W.nsIn K mainGlobals "list"=some none)
    (qz5:PySem.W.nsIn K mainGlobals "range"=some none)
    (qz6:PySem.W.nsIn K mainGlobals "sorted"=some none)
    (qz7:PySem.W.nsIn K mainGlobals "str"=some none)
    (qz8:PySem.W.nsIn K mainGlobals "tuple"=some none)
    (qg0:PySem.W.nsIn K mainGlobals "JOINING"=some (some (.ref ga0))) (qh0:K.lookup ga0=some ⟨.type "tuple",none,.seq #[.str "plus" gt0_0,.str "minus" gt0_1,.str "times" gt0_2,.str "over" gt0_3,.str "rest" gt0_4,.str "under" gt0_5,.str "same" gt0_6] gn0,#[]⟩)
    (qv0:PySem.W.nsIn K mainGlobals "Great"=some (some (.ref ca0)))
    (qv1:PySem.W.nsIn K mainGlobals "Nought"=some (some (.ref ca1)))
    (qv2:PySem.W.nsIn K mainGlobals "Run"=some (some (.ref ca2)))
    (pg2:PySem.W.plainGet K ca2 Str.empty=true) (pd2:PySem.W.hasDictIn K ca2=true) (po2:PySem.W.plainOver K ca2=true) (pe2:PySem.W.findIn K (.ref ca2) "__setattr__"=some (some (.builtin "object.__setattr__"))) (pm2_:PySem.W.makesIn K ca2=true) (pk2:PySem.W.keepIn K (.ref ca2)=true)
    (pn2_0:PySem.W.findIn K (.ref ca2) "at"=some none)
    (pn2_1:PySem.W.findIn K (.ref ca2) "code"=some none)
    (pn2_2:PySem.W.findIn K (.ref ca2) "gifts"=some none)
    (pn2_3:PySem.W.findIn K (.ref ca2) "notes"=some none)
    (pn2_4:PySem.W.findIn K (.ref ca2) "sayings"=some none)
    (pn2_5:PySem.W.findIn K (.ref ca2) "slots"=some none)
    (pn2_6:PySem.W.findIn K (.ref ca2) "why"=some none)
    (rx0:PySem.W.excIn K ca1 bmVal newVal=true)
    (ry0_0:PySem.W.findIn K (.ref ca1) "__getattribute__"=some (some (.builtin "BaseException.__getattribute__")))
    (ry0_1:PySem.W.findIn K (.ref ca1) "__getattr__"=some none)
    (ry0_2:PySem.W.findIn K (.ref ca1) "__class__"=some (some (.builtin "object.__class__")))
    (ry0_3:PySem.W.mroIn K ca1 (.type "object")=some true)
    (ry0_4:PySem.W.mroIn K ca1 (.type "BaseException")=some true)
    (ry0_5:PySem.W.specialIn K (.builtin "object.__class__") "__get__"=some (some (.builtin "getset_descriptor.__get__")))
    (ry0_6:PySem.W.takesIn K (.builtin "object.__class__")=some true)
    (ry0_7:PySem.W.clsIn K ca1=some cl0)
    (re0_0:PySem.W.exmOne K (.ref ca1) (.ref ca0)=some false)
    (re0_1:PySem.W.exmOne K (.ref ca1) (.ref ca1)=some true)
    (rm0_0:PySem.W.exmAny K (.ref ca1) [(.ref ca0),(.ref ca1)]=some true)
    (rx1:PySem.W.excIn K ca0 bmVal newVal=true)
    (ry1_0:PySem.W.findIn K (.ref ca0) "__getattribute__"=some (some (.builtin "BaseException.__getattribute__")))
    (ry1_1:PySem.W.findIn K (.ref ca0) "__getattr__"=some none)
    (ry1_2:PySem.W.findIn K (.ref ca0) "__class__"=some (some (.builtin "object.__class__")))
    (ry1_3:PySem.W.mroIn K ca0 (.type "object")=some true)
    (ry1_4:PySem.W.mroIn K ca0 (.type "BaseException")=some true)
    (ry1_5:PySem.W.specialIn K (.builtin "object.__class__") "__get__"=some (some (.builtin "getset_descriptor.__get__")))
    (ry1_6:PySem.W.takesIn K (.builtin "object.__class__")=some true)
    (ry1_7:PySem.W.clsIn K ca0=some cl1)
    (re1_0:PySem.W.exmOne K (.ref ca0) (.ref ca0)=some true)
    (re1_1:PySem.W.exmOne K (.ref ca0) (.ref ca1)=some false)
    (rm1_0:PySem.W.exmAny K (.ref ca0) [(.ref ca0),(.ref ca1)]=some true):∃ t,Txt K mg t:=by
  have F0:=fun_mk (st:=s__law_draw) ql0 qc0 qk0
  have F1:=fun_mk (st:=s__law_names) ql1 qc1 qk1
  have F2:=fun_mk (st:=s_Run_init) ql2 qc2 qk2
  have F3:=fun_mk (st:=s__law_begun) ql3 qc3 qk3
  have F4:=fun_mk (st:=s__law_cell_at) ql4 qc4 qk4
  have F5:=fun_mk (st:=s__law_number) ql5 qc5 qk5
  have F6:=fun_mk (st:=s_Run_over) ql6 qc6 qk6
  have F7:=fun_mk (st:=s_Run_paper) ql7 qc7 qk7
  have F8:=fun_mk (st:=s__law_plain) ql8 qc8 qk8
  have F9:=fun_mk (st:=s_divided) ql9 qc9 qk9
  have F10:=fun_mk (st:=s_come_to) ql10 qc10 qk10
  have F11:=fun_mk (st:=s_is_worth) ql11 qc11 qk11
  have F12:=fun_mk (st:=s_joined) ql12 qc12 qk12
  have F13:=fun_mk (st:=s_reckoned) ql13 qc13 qk13
  have F14:=fun_mk (st:=s_Run_worth_of) ql14 qc14 qk14
  have F15:=fun_mk (st:=s_Run_place_in) ql15 qc15 qk15
  have F16:=fun_mk (st:=s_Run_asks) ql16 qc16 qk16
  have F17:=fun_mk (st:=s__law_paper) ql17 qc17 qk17
  have F18:=fun_mk (st:=s__law_part) ql18 qc18 qk18
  have F19:=fun_mk (st:=s__law_term) ql19 qc19 qk19
  have F20:=fun_mk (st:=s__law_spot) ql20 qc20 qk20
  have F21:=fun_mk (st:=s__law_rows) ql21 qc21 qk21
  have F22:=fun_mk (st:=s__law_two) ql22 qc22 qk22
  have F23:=fun_mk (st:=s__law_worth) ql23 qc23 qk23
  have F24:=fun_mk (st:=s__law_wanted) ql24 qc24 qk24
  have F25:=fun_mk (st:=s__law_stepped) ql25 qc25 qk25
  have F26:=fun_mk (st:=s_Run_taken) ql26 qc26 qk26
  have F27:=fun_mk (st:=s_Run_does) ql27 qc27 qk27
  have F28:=fun_mk (st:=s_Run_led_by) ql28 qc28 qk28
  have F29:=fun_mkD (st:=s_Run_step) ql29 qc29 qk29
  have F30:=fun_mk (st:=s__law_one_step) ql30 qc30 qk30
  have F31:=fun_mk (st:=s_law) ql31 qc31 qk31
  exact ⟨⟨f0,_,f1,_,f2,_,f3,_,f4,_,f5,_,f6,_,f7,_,f8,_,f9,_,f10,_,f11,_,f12,_,f13,_,f14,_,f15,_,f16,_,f17,_,f18,_,f19,_,f20,_,f21,_,f22,_,f23,_,f24,_,f25,_,f26,_,f27,_,f28,_,f29,_,f30,_,f31,_,ga0,ca0,ca1,ca2⟩,⟨F0,F0.binds (ps:=["cell","j"]) (fun _ _ _ _ _ _ us hl=>match us,hl with | [_,_],_=>rfl),PySem.W.mg_of X G qa0,
    F1,F1.binds (ps:=["cell","many"]) (fun _ _ _ _ _ _ us hl=>match us,hl with | [_,_],_=>rfl),PySem.W.mg_of X G qa1,
    F2,F2.binds (ps:=["self","code"]) (fun _ _ _ _ _ _ us hl=>match us,hl with | [_,_],_=>rfl),
    F3,F3.binds (ps:=[]) (fun _ _ _ _ _ _ us hl=>match us,hl with | [],_=>rfl),PySem.W.mg_of X G qa3,
    F4,F4.binds (ps:=["script","k"]) (fun _ _ _ _ _ _ us hl=>match us,hl with | [_,_],_=>rfl),PySem.W.mg_of X G qa4,
    F5,F5.binds (ps:=["cell","j"]) (fun _ _ _ _ _ _ us hl=>match us,hl with | [_,_],_=>rfl),PySem.W.mg_of X G qa5,
    F6,F6.binds (ps:=["self"]) (fun _ _ _ _ _ _ us hl=>match us,hl with | [_],_=>rfl),⟨qa6,qi6,qk6⟩,
    F7,F7.binds (ps:=["self"]) (fun _ _ _ _ _ _ us hl=>match us,hl with | [_],_=>rfl),⟨qa7,qi7,qk7⟩,
    F8,F8.binds (ps:=["found"]) (fun _ _ _ _ _ _ us hl=>match us,hl with | [_],_=>rfl),PySem.W.mg_of X G qa8,
    F9,F9.binds (ps:=["word","first","second"]) (fun _ _ _ _ _ _ us hl=>match us,hl with | [_,_,_],_=>rfl),PySem.W.mg_of X G qa9,
    F10,F10.binds (ps:=["word","first","second"]) (fun _ _ _ _ _ _ us hl=>match us,hl with | [_,_,_],_=>rfl),PySem.W.mg_of X G qa10,
    F11,F11.binds (ps:=["thing"]) (fun _ _ _ _ _ _ us hl=>match us,hl with | [_],_=>rfl),PySem.W.mg_of X G qa11,
    F12,F12.binds (ps:=["word","first","second"]) (fun _ _ _ _ _ _ us hl=>match us,hl with | [_,_,_],_=>rfl),PySem.W.mg_of X G qa12,
    F13,F13.binds (ps:=["term","slots"]) (fun _ _ _ _ _ _ us hl=>match us,hl with | [_,_],_=>rfl),PySem.W.mg_of X G qa13,
    F14,F14.binds (ps:=["self","term"]) (fun _ _ _ _ _ _ us hl=>match us,hl with | [_,_],_=>rfl),⟨qa14,qi14,qk14⟩,
    F15,F15.binds (ps:=["self","due"]) (fun _ _ _ _ _ _ us hl=>match us,hl with | [_,_],_=>rfl),⟨qa15,qi15,qk15⟩,
    F16,F16.binds (ps:=["self"]) (fun _ _ _ _ _ _ us hl=>match us,hl with | [_],_=>rfl),⟨qa16,qi16,qk16⟩,
    F17,F17.binds (ps:=["run","state"]) (fun _ _ _ _ _ _ us hl=>match us,hl with | [_,_],_=>rfl),PySem.W.mg_of X G qa17,
    F18,F18.binds (ps:=["cell","j","slots"]) (fun _ _ _ _ _ _ us hl=>match us,hl with | [_,_,_],_=>rfl),PySem.W.mg_of X G qa18,
    F19,F19.binds (ps:=["cell","j","slots"]) (fun _ _ _ _ _ _ us hl=>match us,hl with | [_,_,_],_=>rfl),PySem.W.mg_of X G qa19,
    F20,F20.binds (ps:=["cell","j","slots"]) (fun _ _ _ _ _ _ us hl=>match us,hl with | [_,_,_],_=>rfl),PySem.W.mg_of X G qa20,
    F21,F21.binds (ps:=["cell","slots","shelves"]) (fun _ _ _ _ _ _ us hl=>match us,hl with | [_,_,_],_=>rfl),PySem.W.mg_of X G qa21,
    F22,F22.binds (ps:=["one","other","word"]) (fun _ _ _ _ _ _ us hl=>match us,hl with | [_,_,_],_=>rfl),PySem.W.mg_of X G qa22,
    F23,F23.binds (ps:=["term","slots"]) (fun _ _ _ _ _ _ us hl=>match us,hl with | [_,_],_=>rfl),PySem.W.mg_of X G qa23,
    F24,F24.binds (ps:=["row","state"]) (fun _ _ _ _ _ _ us hl=>match us,hl with | [_,_],_=>rfl),PySem.W.mg_of X G qa24,
    F25,F25.binds (ps:=["row","state","answer"]) (fun _ _ _ _ _ _ us hl=>match us,hl with | [_,_,_],_=>rfl),PySem.W.mg_of X G qa25,
    F26,F26.binds (ps:=["self","place","worth"]) (fun _ _ _ _ _ _ us hl=>match us,hl with | [_,_,_],_=>rfl),⟨qa26,qi26,qk26⟩,
    F27,F27.binds (ps:=["self","due","worth"]) (fun _ _ _ _ _ _ us hl=>match us,hl with | [_,_,_],_=>rfl),⟨qa27,qi27,qk27⟩,
    F28,F28.binds (ps:=["self","due","worth"]) (fun _ _ _ _ _ _ us hl=>match us,hl with | [_,_,_],_=>rfl),⟨qa28,qi28,qk28⟩,
    F29,(fun s us hK hl=>match us,(show us.length=2 by simpa using hl) with | [_,_],_=>.of_defaults (T:=dA29) rfl (hK _ _ qd29) rfl rfl rfl),⟨qa29,qi29,qk29⟩,
    F30,F30.binds (ps:=["run","row","state","answer"]) (fun _ _ _ _ _ _ us hl=>match us,hl with | [_,_,_,_],_=>rfl),PySem.W.mg_of X G qa30,
    F31,F31.binds (ps:=["script"]) (fun _ _ _ _ _ _ us hl=>match us,hl with | [_],_=>rfl),PySem.W.mg_of X G qa31,
    fun s v=>.of_eq rfl,
    PySem.W.mg_none_of X G qz0,
    PySem.W.mg_none_of X G qz1,
    PySem.W.mg_none_of X G qz2,
    PySem.W.mg_none_of X G qz3,
    PySem.W.mg_none_of X G qz4,
    PySem.W.mg_none_of X G qz5,
    PySem.W.mg_none_of X G qz6,
    PySem.W.mg_none_of X G qz7,
    PySem.W.mg_none_of X G qz8,
    PySem.W.mg_of X G qg0,fun _=>.inr ⟨_,_,_,qh0,rfl,rfl,(by show 7≤sizeLine;decide),(.cons ⟨_,rfl⟩ (.cons ⟨_,rfl⟩ (.cons ⟨_,rfl⟩ (.cons ⟨_,rfl⟩ (.cons ⟨_,rfl⟩ (.cons ⟨_,rfl⟩ (.cons ⟨_,rfl⟩ .nil)))))))⟩,
    PySem.W.mg_of X G qv0,
    PySem.W.mg_of X G qv1,
    PySem.W.mg_of X G qv2,
    ⟨pg2,pd2,po2,pe2⟩,
    ⟨pm2_,qa2,qi2,pk2⟩,
    pn2_0,
    pn2_1,
    pn2_2,
    pn2_3,
    pn2_4,
    pn2_5,
    pn2_6,
    rx0,
    ⟨⟨ry0_0,ry0_1,ry0_2,ry0_3,ry0_4,ry0_5,ry0_6⟩,by rw [ry0_7];rfl⟩,
    re0_0,
    re0_1,
    rm0_0,
    rx1,
    ⟨⟨ry1_0,ry1_1,ry1_2,ry1_3,ry1_4,ry1_5,ry1_6⟩,by rw [ry1_7];rfl⟩,
    re1_0,
    re1_1,
    rm1_0⟩⟩
structure KF (K:PySem.W.Frag):Prop where
  i_b:PySem.W.kitOne K (.type "int") (.type "bool")=some false
  i_s:PySem.W.kitOne K (.type "int") (.type "str")=some false
  s_i:PySem.W.kitOne K (.type "str") (.type "int")=some false
  s_b:PySem.W.kitOne K (.type "str") (.type "bool")=some false
  a1:PySem.W.kitAny K (.type "tuple") [.type "list",.type "tuple"]=some true
  a2:PySem.W.kitAny K (.type "list") [.type "list",.type "tuple"]=some true
  a3:PySem.W.kitAny K (.type "int") [.type "list",.type "tuple"]=some false
  a4:PySem.W.kitAny K (.type "str") [.type "list",.type "tuple"]=some false
  a5:PySem.W.kitAny K (.type "int") [.type "int",.type "str"]=some true
  a6:PySem.W.kitAny K (.type "str") [.type "int",.type "str"]=some true
def fin (t:Adr) (r:Except Er Int) (Q:VK) (E:XK) (H:Hp):Prop:=match r with
  | .ok i=>Q (.int i) H
  | .error .nought=>E (.ref t.c_Nought) none H
  | .error .great=>E (.ref t.c_Great) none H
  | .error .stuck=>True
def errE (t:Adr) (e:Er) (E:XK) (H:Hp):Prop:=match e with
  | .nought=>E (.ref t.c_Nought) none H
  | .great=>E (.ref t.c_Great) none H
  | .stuck=>True
def IntFact (K:PySem.W.Frag):Prop:=PySem.W.kitOne K (.type "int") (.type "bool")=some false
def NamesAt (H:Hp) (nm:Addr) (ws:List Str):Prop:=H nm=some (.lst (ws.map V.str))∧∀ w∈ws,isName w=true
def isDoes:Rw→Prop
  | .off _=>False
  | .iff _ _ _=>False
  | _=>True
def sp_is_worth:Sp:=fun vs H Q _=>∃ i,vs=[.int i]∧∀ H',Same H H'→Q (.bl (inW i)) H'
def sp_divided (t:Adr):Sp:=fun vs H Q E=>∃ w a b,vs=[.str w,.int a,.int b]∧w.length≤1000∧inW a=true∧inW b=true∧∀ H',Same H H'→if b=0 then E (.ref t.c_Nought) none H' else Q (.int (if w="over" then a.fdiv b else a.fmod b)) H'
def sp_come_to (t:Adr):Sp:=fun vs H Q E=>∃ w a b,vs=[.str w,.int a,.int b]∧w.length≤1000∧inW a=true∧inW b=true∧∀ H',Same H H'→if isDiv w∧b=0 then E (.ref t.c_Nought) none H' else Q (.int (comeV w a b)) H'
def sp_joined (t:Adr):Sp:=fun vs H Q E=>∃ w a b,vs=[.str w,.int a,.int b]∧w.length≤1000∧inW a=true∧inW b=true∧∀ H',Same H H'→fin t (joinE w a b) Q E H'
def sp_reckoned (t:Adr):Sp:=fun vs H Q E=>∃ kvs tm sl ps r,vs=[.ref tm,.ref sl]∧H tm=some (.tup ps)∧H sl=some (.dK kvs)∧Good kvs ps r∧(∀ v∈ps,okPart v)∧ps.length≤1000∧SlotsOk kvs∧∀ H',Same H H'→fin t r Q E H'
inductive Cs where
  | row (r:Rw)
  | skip (e:List V) (to:Nat)
  | go (en:Nat)
def noIf:Rw→Prop
  | .iff _ _ _=>False
  | _=>True
def CsAt (H:Hp) (v:V):Cs→Prop
  | .row r=>RwAt anyA H v r∧noIf r
  | .skip e to=>∃ p te,v=.ref p∧H p=some (.tup [.str "skip",.ref te,.int (to:Nat)])∧H te=some (.tup e)
  | .go en=>∃ p,v=.ref p∧H p=some (.tup [.str "go",.int (en:Nat)])
structure RSt where
  n:Nat
  why:Option Str
  sl:List (Key × V)
  gi:List Row
  no:List Row
  sa:List Int
structure RAd where
  dx:Addr
  co:Addr
  sl:Addr
  gi:Addr
  no:Addr
  sa:Addr
def whyV:Option Str→V
  | none=>.non
  | some w=>.str w
def rnFs (a:RAd) (s:RSt):List (Str × V):=[(Str.ofString "code",.ref a.co),(Str.ofString "at",.int s.n),(Str.ofString "why",whyV s.why),(Str.ofString "slots",.ref a.sl),(Str.ofString "gifts",.ref a.gi),(Str.ofString "notes",.ref a.no),(Str.ofString "sayings",.ref a.sa)]
structure RnAt (t:Adr) (H:Hp) (x:Addr) (a:RAd) (C:List Cs) (s:RSt):Prop where
  ix:H x=some (.ins t.c_Run a.dx (rnFs a s))
  hc:∃ xs,H a.co=some (.lst xs)∧Paired (CsAt H) xs C
  hs:H a.sl=some (.dK s.sl)
  hg:H a.gi=some (.dT (dOf s.gi))
  hn:H a.no=some (.dT (dOf s.no))
  ha:H a.sa=some (.lst (s.sa.map V.int))
  ng:a.gi≠a.no
  nc:a.co≠a.sa
def Ow (x:Addr) (a:RAd) (b:Addr):Prop:=b=x∨b=a.sl∨b=a.gi∨b=a.no∨b=a.sa
def OwA (x:Addr) (a:RAd) (b:Addr):Prop:=Ow x a b∨b=a.co
def Kp (x:Addr) (a:RAd) (H H':Hp):Prop:=∀ b o,¬ Ow x a b→H b=some o→H' b=some o
def SameX (x:Addr) (H H':Hp):Prop:=∀ b o,b≠x→H b=some o→H' b=some o
structure RnOk (m:Nat) (s:RSt):Prop where
  so:SlotsOk s.sl
  gw:∀ r∈s.gi,inW r.2=true
  nw:∀ r∈s.no,inW r.2=true
  l1:s.sl.length≤m
  l2:s.gi.length≤m
  l3:s.no.length≤m
  l4:s.sa.length≤m
  nd:(s.no.map (·.1)).Nodup
def CsOk:Cs→Prop
  | .row r=>RwOk r
  | .skip e _=>TermOk e
  | .go _=>True
def overB (C:List Cs) (s:RSt):Bool:=s.why.isSome || decide (C.length≤s.n)
def noteW (p:Pl) (w:Int) (s:RSt):RSt:=if (lastW s.gi p).isSome=true∨(lastW s.no p).isSome=true then s else { s with no:=s.no ++ [(p,w)] }
def knownW (p:Pl) (w:Int) (s:RSt):Int:=(lastW s.gi p).getD ((lastW s.no p).getD w)
def doR:Rw→Int→RSt→Except Er RSt
  | .take sh e x,w,s=>match rk s.sl e with
    | .error er=>.error er
    | .ok n=>.ok { noteW (sh,n) w s with sl:=putK s.sl (.inr x) (.int (knownW (sh,n) w s)) }
  | .give sh e f,_,s=>match rk s.sl e with
    | .error er=>.error er
    | .ok n=>match rk s.sl f with
      | .error er=>.error er
      | .ok i=>.ok { s with gi:=s.gi ++ [((sh,n),i)] }
  | .lt x e,_,s=>match rk s.sl e with
    | .error er=>.error er
    | .ok i=>.ok { s with sl:=putK s.sl (.inr x) (.int i) }
  | .say e,_,s=>match rk s.sl e with
    | .error er=>.error er
    | .ok i=>.ok { s with sa:=s.sa ++ [i] }
  | _,_,s=>.ok s
def ledC:Cs→Int→RSt→Except Er (Nat × RSt)
  | .go k,_,s=>.ok (k,s)
  | .skip e to,_,s=>match rk s.sl e with
    | .error er=>.error er
    | .ok i=>.ok (if i=0 then to else s.n + 1,s)
  | .row (.off e),_,s=>match rk s.sl e with
    | .error er=>.error er
    | .ok i=>.ok (s.n + 1,if i=0 then s else { s with why:=some (Str.ofString "told") })
  | .row r,w,s=>match doR r w s with
    | .error er=>.error er
    | .ok s'=>.ok (s.n + 1,s')
def stepC (c:Cs) (w:Int) (s:RSt):RSt:=match ledC c w s with
  | .ok (k,s')=>{ s' with n:=k }
  | .error er=>{ s with why:=some (whyOf er) }
def stepR (C:List Cs) (w:Int) (s:RSt):RSt:=if overB C s=true then s else match C[s.n]? with
  | none=>s
  | some c=>stepC c w s
def asksC (c:Cs) (s:RSt):Option Pl:=match c with
  | .row (.take sh e _)=>match rk s.sl e with
    | .error _=>none
    | .ok n=>if (lastW s.gi (sh,n)).isSome=true∨(lastW s.no (sh,n)).isSome=true then none else some (sh,n)
  | _=>none
def asksR (C:List Cs) (s:RSt):Option Pl:=if overB C s=true then none else (C[s.n]?).bind fun c=>asksC c s
def LsAt (H:Hp) (a:Addr) (rows:List Row):Prop:=∃ xs,H a=some (.lst xs)∧Paired (PrAt H) xs rows
def OcAt (H:Hp) (v:V):Oc→Prop
  | .done sa=>∃ o y,v=.ref o∧H o=some (.tup [.str "done",.ref y])∧H y=some (.tup (sa.map V.int))
  | .off w=>∃ o,v=.ref o∧H o=some (.tup [.str "off",.str w])
def ocOf (s:RSt):Oc:=match s.why with
  | some w=>.off w
  | none=>.done s.sa
def GiOf (s:RSt) (out:List Row):Prop:=match s.why with
  | some _=>out=[]
  | none=>Rising out∧∀ p w,(p,w)∈out↔lastW s.gi p=some w
structure RnF (K:PySem.W.Frag) (t:Adr):Prop where
  cl:Cls K t.c_Run
  n1:NoAttr K t.c_Run "code"
  n2:NoAttr K t.c_Run "at"
  n3:NoAttr K t.c_Run "why"
  n4:NoAttr K t.c_Run "slots"
  n5:NoAttr K t.c_Run "gifts"
  n6:NoAttr K t.c_Run "notes"
  n7:NoAttr K t.c_Run "sayings"
def st0:RSt:=⟨0,none,[],[],[],[]⟩
def sp_Run_init (t:Adr):Sp:=fun vs H Q _=>∃ (x l dx:Addr) (xs:List V) (C:List Cs),vs=[.ref x,.ref l]∧H x=some (.ins t.c_Run dx [])∧H l=some (.lst xs)∧Paired (CsAt H) xs C∧∀ H' a,SameX x H H'→RnAt t H' x a C st0→(∀ b,OwA x a b→b=x∨H b=none)→Q .non H'
def sp_Run_over (t:Adr):Sp:=fun vs H Q _=>∃ (x:Addr) (a:RAd) (C:List Cs) (s:RSt),vs=[.ref x]∧RnAt t H x a C s∧∀ H',Same H H'→Q (.bl (overB C s)) H'
def sp_Run_worth_of (t:Adr):Sp:=fun vs H Q E=>∃ (x tm:Addr) (e:List V) (a:RAd) (C:List Cs) (s:RSt),vs=[.ref x,.ref tm]∧RnAt t H x a C s∧SlotsOk s.sl∧H tm=some (.tup e)∧TermOk e∧∀ H',Same H H'→fin t (rk s.sl e) Q E H'
def sp_Run_place_in (t:Adr):Sp:=fun vs H Q E=>∃ (x p:Addr) (xs:List V) (sh:Str) (te:Addr) (e:List V) (a:RAd) (C:List Cs) (s:RSt),vs=[.ref x,.ref p]∧RnAt t H x a C s∧SlotsOk s.sl∧H p=some (.tup xs)∧atI xs 1=some (.str sh)∧atI xs 2=some (.ref te)∧H te=some (.tup e)∧TermOk e ∧
  (∀ i q H',rk s.sl e=.ok i→Same H H'→H' q=some (.tup [.str sh,.int i])→Q (.ref q) H')∧∀ er H',rk s.sl e=.error er→Same H H'→errE t er E H'
def sp_Run_taken (t:Adr):Sp:=fun vs H Q _=>∃ (x q:Addr) (p:Pl) (w:Int) (a:RAd) (C:List Cs) (s:RSt),vs=[.ref x,.ref q,.int w]∧RnAt t H x a C s∧H q=some (.tup [.str p.1,.int p.2])∧s.no.length≤900∧∀ H',Kp x a H H'→RnAt t H' x a C (noteW p w s)→Q (.int (knownW p w s)) H'
def sp_Run_does (t:Adr):Sp:=fun vs H Q E=>∃ (x:Addr) (v:V) (r:Rw) (w:Int) (m:Nat) (a:RAd) (C:List Cs) (s:RSt),vs=[.ref x,v,.int w]∧RnAt t H x a C s∧RwAt anyA H v r∧isDoes r∧RwOk r∧RnOk m s∧m≤900 ∧
  (∀ H' s',doR r w s=.ok s'→Kp x a H H'→RnAt t H' x a C s'→Q .non H')∧∀ H' er,doR r w s=.error er→Same H H'→errE t er E H'
def sp_Run_led_by (t:Adr):Sp:=fun vs H Q E=>∃ (x:Addr) (v:V) (c:Cs) (w:Int) (m:Nat) (a:RAd) (C:List Cs) (s:RSt),vs=[.ref x,v,.int w]∧RnAt t H x a C s∧CsAt H v c∧CsOk c∧RnOk m s∧m≤900 ∧
  (∀ H' s' k,ledC c w s=.ok (k,s')→Kp x a H H'→RnAt t H' x a C s'→Q (.int (k:Nat)) H')∧∀ H' er,ledC c w s=.error er→Same H H'→errE t er E H'
def sp_Run_step (t:Adr):Sp:=fun vs H Q _=>∃ (x:Addr) (w:Int) (m:Nat) (a:RAd) (C:List Cs) (s:RSt),vs=[.ref x,.int w]∧RnAt t H x a C s∧(∀ c∈C,CsOk c)∧RnOk m s∧m≤900∧∀ H',Kp x a H H'→RnAt t H' x a C (stepR C w s)→Q .non H'
def sp_Run_asks (t:Adr):Sp:=fun vs H Q _=>∃ (x:Addr) (a:RAd) (C:List Cs) (s:RSt),vs=[.ref x]∧RnAt t H x a C s∧(∀ c∈C,CsOk c)∧SlotsOk s.sl∧(∀ H',asksR C s=none→Same H H'→Q .non H')∧∀ p q H',asksR C s=some p→Same H H'→H' q=some (.tup [.str p.1,.int p.2])→Q (.ref q) H'
def sp_Run_paper (t:Adr):Sp:=fun vs H Q _=>∃ (x:Addr) (a:RAd) (C:List Cs) (s:RSt),vs=[.ref x]∧RnAt t H x a C s∧s.no.length≤900∧(s.no.map (·.1)).Nodup∧s.gi.length≤63∧(∀ H',overB C s=false→Same H H'→Q .non H') ∧
  ∀ r o nl gl out H',overB C s=true→Same H H'→H nl=none→H gl=none→nl≠gl→H' r=some (.tup [o,.ref nl,.ref gl])→OcAt H' o (ocOf s)→LsAt H' nl s.no→LsAt H' gl out→GiOf s out→Q (.ref r) H'
def sp__law_cell_at (K:PySem.W.Frag):Sp:=fun vs H Q _=>∃ (a:Addr) (ns:List Int) (k:Nat),vs=[.ref a,.int k]∧SqL K H a (ns.map V.int)∧ns.length≤63∧∀ c H',Same H H'→Q (.int c) H'
def sp__law_draw:Sp:=fun vs H Q _=>∃ c j,vs=[.int c,.int j]∧0≤j∧j≤1000∧∀ r H',0≤r→r < 2147483648→Same H H'→Q (.int r) H'
def sp__law_names:Sp:=fun vs H Q _=>∃ c m,vs=[.int c,.int m]∧0≤m∧m≤6∧∀ nm ws H',Same H H'→NamesAt H' nm ws→(ws.length:Int)=m→Q (.ref nm) H'
def smI (i:Int):Prop:=-100000000000000000≤i∧i≤100000000000000000
def lfB (v:V):Prop:=(∃ i,v=.int i∧smI i)∨∃ x,v=.str x∧isName x=true
def wdB (w:Str) (v:V):Prop:=(w=Str.ofString "times"∧∃ k:Int,v=.int k∧-2≤k∧k≤2)∨((w=Str.ofString "over"∨w=Str.ofString "rest")∧∃ k:Int,v=.int k∧k≠0∧-1000000007≤k∧k≤1000000007)∨w=Str.ofString "plus"∨w=Str.ofString "minus"∨w=Str.ofString "under"∨w=Str.ofString "same"
def TmB (e:List V):Prop:=(∃ u,e=[u]∧lfB u)∨∃ u v w,e=[u,v,.str w]∧lfB u∧lfB v∧wdB w v
def RwB:Rw→Prop
  | .take sh e x=>isName sh=true∧isName x=true∧TmB e
  | .give sh e f=>isName sh=true∧TmB e∧TmB f
  | .lt x e=>isName x=true∧TmB e
  | .say e=>TmB e
  | _=>False
def CsB (c:Cs):Prop:=∃ r,c=.row r∧RwB r
def csP:Cs→Prop
  | .row r=>RwPl r∧noIf r
  | .skip e _=>tmP e
  | .go _=>True
def sp__law_number:Sp:=fun vs H Q _=>∃ c j,vs=[.int c,.int j]∧0≤j∧j≤900∧∀ w H',smI w→Same H H'→Q (.int w) H'
def sp__law_part:Sp:=fun vs H Q _=>∃ c j a ws,vs=[.int c,.int j,.ref a]∧0≤j∧j≤800∧NamesAt H a ws∧ws.length=3∧∀ v H',lfB v→Same H H'→Q v H'
def sp__law_term:Sp:=fun vs H Q _=>∃ c j a ws,vs=[.int c,.int j,.ref a]∧0≤j∧j≤700∧NamesAt H a ws∧ws.length=3∧∀ p e H',Same H H'→H p=none→H' p=some (.tup e)→TmB e→Q (.ref p) H'
def sp__law_spot:Sp:=fun vs H Q _=>∃ c j a ws,vs=[.int c,.int j,.ref a]∧0≤j∧j≤600∧NamesAt H a ws∧ws.length=3∧∀ p e H',Same H H'→H p=none→H' p=some (.tup e)→TmB e→Q (.ref p) H'
def sp__law_rows:Sp:=fun vs H Q _=>∃ c a b ws us,vs=[.int c,.ref a,.ref b]∧NamesAt H a ws∧ws.length=3∧NamesAt H b us∧us.length=2∧∀ l xs C H',Same H H'→H' l=some (.lst xs)→Paired (CsAt H') xs C→(∀ c∈C,CsB c)→C.length≤2→Q (.ref l) H'
def SlB (B:Int) (kvs:List (Key × V)):Prop:=∀ k v,valV kvs k=some v→∃ i,v=.int i∧-B≤i∧i≤B
structure BdOk (B:Int):Prop where
  lo:100000000000000000≤B
  hi:B≤500000000000000000000000000000
def twoOk (w:Str) (a b:Int):Prop:=isJ (.str w)=true∧(isDiv w→b≠0)∧inW a=true∧inW b=true
def sp__law_two:Sp:=fun vs H Q _=>∃ a b w,vs=[.int a,.int b,.str w]∧twoOk w a b∧∀ H',Same H H'→Q (.int (comeV w a b)) H'
def sp__law_worth:Sp:=fun vs H Q _=>∃ tm sl e kvs B,vs=[.ref tm,.ref sl]∧H tm=some (.tup e)∧H sl=some (.dK kvs)∧TmB e∧SlB B kvs∧BdOk B∧∀ i H',rk kvs e=.ok i→-(2 * B)≤i→i≤2 * B→Same H H'→Q (.int i) H'
structure LAd where
  sl:Addr
  kn:Addr
  gi:Addr
  no:Addr
  sa:Addr
def lwK (a:LAd):List (Key × V):=[(.inr (Str.ofString "slots"),.ref a.sl),(.inr (Str.ofString "known"),.ref a.kn),(.inr (Str.ofString "given"),.ref a.gi),(.inr (Str.ofString "notes"),.ref a.no),(.inr (Str.ofString "said"),.ref a.sa)]
structure LwAt (H:Hp) (d:Addr) (a:LAd) (s:RSt) (kn:List Row):Prop where
  id:H d=some (.dK (lwK a))
  hs:H a.sl=some (.dK s.sl)
  hk:H a.kn=some (.dT (dOf kn))
  hg:H a.gi=some (.dT (dOf s.gi))
  hn:LsAt H a.no s.no
  ha:H a.sa=some (.lst (s.sa.map V.int))
  n1:a.kn≠a.gi
  n2:a.no≠a.sa
  n3:d≠a.sl
  kk:∀ p,lastW kn p=(lastW s.gi p).or (lastW s.no p)
  kl:kn.length≤s.gi.length + s.no.length
def LOw (d:Addr) (a:LAd) (b:Addr):Prop:=b=d∨b=a.sl∨b=a.kn∨b=a.gi∨b=a.no∨b=a.sa
def LKp (d:Addr) (a:LAd) (H H':Hp):Prop:=∀ b o,¬ LOw d a b→H b=some o→H' b=some o
def Bdk (k:Nat):Int:=100000000000000000 * 2 ^ k
structure RnB (k:Nat) (s:RSt):Prop where
  ok:RnOk k s
  sb:SlB (Bdk k) s.sl
  gb:∀ r∈s.gi,-(Bdk k)≤r.2∧r.2≤Bdk k
  nb:∀ r∈s.no,-(Bdk k)≤r.2∧r.2≤Bdk k
  ng:∀ r∈s.gi,PyData.strOk r.1.1=true
  nn:∀ r∈s.no,PyData.strOk r.1.1=true
  nk:s.n=k
  wy:s.why=none
def sp__law_begun:Sp:=fun vs H Q _=>vs=[]∧∀ d a H',Same H H'→LwAt H' d a st0 []→(∀ b,LOw d a b→H b=none)→Q (.ref d) H'
def sp__law_wanted:Sp:=fun vs H Q _=>∃ (v:V) (d:Addr) (c:Cs) (a:LAd) (s:RSt) (kn:List Row) (k:Nat),vs=[v,.ref d]∧CsAt H v c∧CsB c∧LwAt H d a s kn∧RnB k s∧k < 40 ∧
  (∀ H',asksC c s=none→Same H H'→Q .non H')∧∀ p q H',asksC c s=some p→Same H H'→H' q=some (.tup [.str p.1,.int p.2])→Q (.ref q) H'
def sp__law_stepped:Sp:=fun vs H Q _=>∃ (v:V) (d:Addr) (w:Int) (c:Cs) (a:LAd) (s:RSt) (kn:List Row) (k:Nat),vs=[v,.ref d,.int w]∧CsAt H v c∧CsB c∧LwAt H d a s kn∧RnB k s∧k < 40∧∀ kn' H',LKp d a H H'→LwAt H' d a (stepC c w s) kn'→Q .non H'
def sp__law_one_step (t:Adr):Sp:=fun vs H Q _=>∃ (x:Addr) (v:V) (d:Addr) (w:Int) (a:RAd) (C:List Cs) (b:LAd) (s:RSt) (kn:List Row) (k:Nat) (c:Cs),vs=[.ref x,v,.ref d,.int w]∧RnAt t H x a C s∧LwAt H d b s kn∧C[k]?=some c∧CsAt H v c∧(∀ c∈C,CsB c)∧RnB k s∧k < 40∧smI w∧(∀ z,OwA x a z→¬ LOw d b z) ∧
  ∀ kn' H',(∀ z o,¬ Ow x a z→¬ LOw d b z→H z=some o→H' z=some o)→RnAt t H' x a C (stepR C w s)→LwAt H' d b (stepR C w s) kn'→RnB (k + 1) (stepR C w s)→Q (.bl true) H'
inductive PlV (H:Hp):Nat→V→Prop
  | int {n:Nat} (i:Int):PlV H (n + 1) (.int i)
  | str {n:Nat} (x:Str):PlV H (n + 1) (.str x)
  | lst {n:Nat} {a:Addr} {xs:List V}:H a=some (.lst xs)→(∀ x∈xs,PlV H n x)→PlV H (n + 1) (.ref a)
  | tup {n:Nat} {a:Addr} {xs:List V}:H a=some (.tup xs)→(∀ x∈xs,PlV H n x)→PlV H (n + 1) (.ref a)
def sp__law_plain (n:Nat):Sp:=fun vs H Q _=>∃ (v:V),vs=[v]∧PlV H n v∧∀ H',Same H H'→Q (.bl true) H'
def sp__law_paper (t:Adr):Sp:=fun vs H Q _=>∃ (x d:Addr) (a:RAd) (C:List Cs) (b:LAd) (s:RSt) (kn:List Row),vs=[.ref x,.ref d]∧RnAt t H x a C s∧LwAt H d b s kn∧RnB C.length s∧C.length≤40∧(∀ c∈C,CsB c)∧∀ H',Same H H'→Q (.bl true) H'
def sp_law (K:PySem.W.Frag):Sp:=fun vs H Q _=>∃ (a:Addr) (ns:List Int),vs=[.ref a]∧SqL K H a (ns.map V.int)∧ns.length≤63∧∀ H',Q (.bl true) H'
def rd__law_draw (K:PySem.W.Frag) (t:Adr):TS:=(tSeq (tAsg (tOp (rI (fun _ j=>0 < j) fun i j=>.int (i % j)) (tOp (rI0 fun i j=>.int (i + j)) (tOp (rI CMulB fun i j=>.int (i * j)) (tOp (rI (fun _ j=>0 < j) fun i j=>.int (i % j)) (tVar 0) (tC (.int 1000000007))) (tC (.int 6700417))) (tOp (rI CMulB fun i j=>.int (i * j)) (tOp (rI CMulB fun i j=>.int (i * j)) (tOp (rI0 fun i j=>.int (i + j)) (tVar 1) (tC (.int 1))) (tC (.int 104729))) (tC (.int 65537)))) (tC (.int 1000000009))) (gName 2))
    (tRet (tOp (rI CDivB fun i j=>.int (i / j)) (tOp (rI (fun _ j=>0 < j) fun i j=>.int (i % j)) (tOp (rI CMulB fun i j=>.int (i * j)) (tOp (rI (fun _ j=>0 < j) fun i j=>.int (i % j)) (tOp (rI CMulB fun i j=>.int (i * j)) (tVar 2) (tVar 2)) (tC (.int 1000000009))) (tVar 2)) (tC (.int 1000000009))) (tC (.int 32)))))
def rd__law_names_8 (K:PySem.W.Frag) (t:Adr):TS:=(tRet (tComp (iRng1 (tCons (tVar 1) tNil)) (gName 0) tYes (tOp rAddS (tOp rAddS (tSl rSlS (tVar 1) tNoPart (tPart (tVar 2))) (tOp rIxS (tVar 3) (tVar 0))) (tSl rSlS (tVar 1) (tPart (tOp (rI0 fun i j=>.int (i + j)) (tVar 2) (tC (.int 1)))) tNoPart)) 1 [4,6,3]))
def rd__law_names_5 (K:PySem.W.Frag) (t:Adr):TS:=(tSeq (tAsg (tOp (rI (fun _ j=>0 < j) fun i j=>.int (i % j)) (tCall sp__law_draw [] E0 (tCons (tVar 0) (tCons (tC (.int 8)) tNil))) (tVar 2)) (gName 6))
    (tSeq (tAsg (tOp (rI (fun _ j=>0 < j) fun i j=>.int (i % j)) (tCall sp__law_draw [] E0 (tCons (tVar 0) (tCons (tC (.int 9)) tNil))) (tCB (cLen K) (tCons (tVar 3) tNil))) (gName 7))
    (tSeq (tAsg (tOp rAddS (tSl rSlS (tVar 3) (tPart (tVar 7)) tNoPart) (tSl rSlS (tVar 3) tNoPart (tPart (tVar 7)))) (gName 3))
    (rd__law_names_8 K t))))
def rd__law_names_3 (K:PySem.W.Frag) (t:Adr):TS:=(tSeq (tAsg (tC (.str "")) (gName 4))
    (tSeq (tFor (iRng1 (tCons (tVar 2) tNil)) (gName 5)
      (tAsg (tOp rAddS (tVar 4) (tOp rIxS (tVar 3) (tOp (rI (fun _ j=>0 < j) fun i j=>.int (i % j)) (tCall sp__law_draw [] E0 (tCons (tVar 0) (tCons (tOp (rI0 fun i j=>.int (i + j)) (tC (.int 2)) (tVar 5)) tNil))) (tCB (cLen K) (tCons (tVar 3) tNil))))) (gName 4)))
    (rd__law_names_5 K t)))
def rd__law_names (K:PySem.W.Frag) (t:Adr):TS:=(tSeq (tAsg (tOp (rI0 fun i j=>.int (i + j)) (tC (.int 1)) (tOp (rI (fun _ j=>0 < j) fun i j=>.int (i % j)) (tCall sp__law_draw [] E0 (tCons (tVar 0) (tCons (tC (.int 1)) tNil))) (tC (.int 6)))) (gName 2))
    (tSeq (tAsg (tC (.str "zyxwvtsrqpnmlkjhgfdcb")) (gName 3))
    (tSeq (tIfS (tTest (tOp rEq (tVar 2) (tC (.int 6))))
      (tAsg (tC (.str "zyxwvutsrqponmlkjihgfedcba")) (gName 3))
      tNext)
    (rd__law_names_3 K t))))
def rd_Run_init (K:PySem.W.Frag) (t:Adr):TS:=(tSeq (sFld K (tVar 0) (tCB (cLst K) (tCons (tVar 1) tNil)) "code")
    (tSeq (sFld K (tVar 0) (tC (.int 0)) "at")
    (tSeq (sFld K (tVar 0) (tC .non) "why")
    (tSeq (sFld K (tVar 0) tDNewK "slots")
    (tSeq (sFld K (tVar 0) tDNewT "gifts")
    (tSeq (sFld K (tVar 0) tDNewT "notes")
    (sFld K (tVar 0) (tLst tNil) "sayings")))))))
def rd__law_begun (K:PySem.W.Frag) (t:Adr):TS:=(tRet (tDisp (((tC (.str "slots")),tDNewK) :: (((tC (.str "known")),tDNewT) :: (((tC (.str "given")),tDNewT) :: (((tC (.str "notes")),(tLst tNil)) :: (((tC (.str "said")),(tLst tNil)) :: [])))))))
def rd__law_cell_at (K:PySem.W.Frag) (t:Adr):TS:=(tSeq (tIfS (tTest (tOp (rI0 fun i j=>.bl (decide (i < j))) (tVar 1) (tCB (cLen K) (tCons (tVar 0) tNil))))
      (tRet (tOp (rIxL K) (tVar 0) (tVar 1)))
      tNext)
    (tRet (tC (.int 0))))
def rd__law_number (K:PySem.W.Frag) (t:Adr):TS:=(tSeq (tAsg (tOp (rI (fun _ j=>0 < j) fun i j=>.int (i % j)) (tCall sp__law_draw [] E0 (tCons (tVar 0) (tCons (tVar 1) tNil))) (tC (.int 4))) (gName 2))
    (tSeq (tIfS (tTest (tOp rEq (tVar 2) (tC (.int 0))))
      (tRet (tOp (rI0 fun i j=>.int (i - j)) (tOp (rI (fun _ j=>0 < j) fun i j=>.int (i % j)) (tOp (rI0 fun i j=>.int (i + j)) (tOp (rI CMulB fun i j=>.int (i * j)) (tOp (rI CMulB fun i j=>.int (i * j)) (tOp (rI (fun _ j=>0 < j) fun i j=>.int (i % j)) (tVar 0) (tOp (rI CPow fun i j=>.int (i ^ j.toNat)) (tC (.int 10)) (tC (.int 20)))) (tOp (rI0 fun i j=>.int (i + j)) (tVar 1) (tC (.int 2)))) (tC (.int 1000003))) (tVar 1)) (tOp (rI0 fun i j=>.int (i + j)) (tOp (rI CMulB fun i j=>.int (i * j)) (tC (.int 2)) (tOp (rI CPow fun i j=>.int (i ^ j.toNat)) (tC (.int 10)) (tC (.int 17)))) (tC (.int 1)))) (tOp (rI CPow fun i j=>.int (i ^ j.toNat)) (tC (.int 10)) (tC (.int 17)))))
      tNext)
    (tSeq (tIfS (tTest (tOp rEq (tVar 2) (tC (.int 1))))
      (tRet (tC (.int 0)))
      tNext)
    (tRet (tOp (rI0 fun i j=>.int (i - j)) (tOp (rI (fun _ j=>0 < j) fun i j=>.int (i % j)) (tCall sp__law_draw [] E0 (tCons (tVar 0) (tCons (tOp (rI0 fun i j=>.int (i + j)) (tVar 1) (tC (.int 1))) tNil))) (tC (.int 7))) (tC (.int 3)))))))
def rd_Run_over (K:PySem.W.Frag) (t:Adr):TS:=(tRet (tOrV (tOp rNotN (tFld K (tVar 0) "why") (tC .non)) (tOp (rI0 fun i j=>.bl (decide (j≤i))) (tFld K (tVar 0) "at") (tCB (cLen K) (tCons (tFld K (tVar 0) "code") tNil)))))
def rd_Run_paper_2 (K:PySem.W.Frag) (t:Adr):TS:=(tSeq (tIfS (tTest (tOp rNotN (tFld K (tVar 0) "why") (tC .non)))
      (tRet (tTup (tCons (tTup (tCons (tC (.str "off")) (tCons (tFld K (tVar 0) "why") tNil))) (tCons (tVar 1) (tCons (tLst tNil) tNil)))))
      tNext)
    (tRet (tTup (tCons (tTup (tCons (tC (.str "done")) (tCons (tCB (cTup K) (tCons (tFld K (tVar 0) "sayings") tNil)) tNil))) (tCons (tVar 1) (tCons (tCB cSrtI (tCons (tItems (tFld K (tVar 0) "gifts")) tNil)) tNil))))))
def rd_Run_paper_1 (K:PySem.W.Frag) (t:Adr):TS:=(tSeq (tAsg (tCB cLstI (tCons (tItems (tFld K (tVar 0) "notes")) tNil)) (gName 1))
    (rd_Run_paper_2 K t))
def rd_Run_paper (K:PySem.W.Frag) (t:Adr):TS:=(tSeq (tIfS (tNot (tB (tMeth t.c_Run "over" (sp_Run_over t) [] E0 (tVar 0) tNil)))
      (tRet (tC .non))
      tNext)
    (rd_Run_paper_1 K t))
def rd__law_plain (K:PySem.W.Frag) (t:Adr) (n:Nat):TS:=(tSeq (tIfS (tB (tCB (cIsiT K) (tCons (tVar 0) (tCons (tTup (tCons (tC (.ty "list")) (tCons (tC (.ty "tuple")) tNil))) tNil))))
      (tSeq (tFor (iSeq K (tVar 0)) (gName 1)
      (tIfS (tNot (tB (tCall (sp__law_plain  n) [] E0 (tCons (tVar 1) tNil))))
      (tRet (tC (.bl false)))
      tNext))
    (tRet (tC (.bl true))))
      tNext)
    (tRet (tAndV (tCB (cIsiT K) (tCons (tVar 0) (tCons (tTup (tCons (tC (.ty "int")) (tCons (tC (.ty "str")) tNil))) tNil))) (tNotV (tCB (cIsi K) (tCons (tVar 0) (tCons (tC (.ty "bool")) tNil)))))))
def rd_divided (K:PySem.W.Frag) (t:Adr) (E:XK):TS:=(tSeq (tIfS (tTest (tOp rEq (tVar 2) (tC (.int 0))))
      (tRaise t.c_Nought (tCons (tMsgS (tVar 0)) tNil) E)
      tNext)
    (tRet (tIf (tTest (tOp rEq (tVar 0) (tC (.str "over")))) (tOp (rI CDivS fun i j=>.int (i.fdiv j)) (tVar 1) (tVar 2)) (tOp (rI (fun _ j=>j≠0) fun i j=>.int (i.fmod j)) (tVar 1) (tVar 2)))))
def rd_come_to (K:PySem.W.Frag) (t:Adr) (E:XK):TS:=(tSeq (tIfS (tTest (tOp rEq (tVar 0) (tC (.str "plus"))))
      (tRet (tOp (rI0 fun i j=>.int (i + j)) (tVar 1) (tVar 2)))
      tNext)
    (tSeq (tIfS (tTest (tOp rEq (tVar 0) (tC (.str "minus"))))
      (tRet (tOp (rI0 fun i j=>.int (i - j)) (tVar 1) (tVar 2)))
      tNext)
    (tSeq (tIfS (tTest (tOp rEq (tVar 0) (tC (.str "times"))))
      (tRet (tOp (rI CMulB fun i j=>.int (i * j)) (tVar 1) (tVar 2)))
      tNext)
    (tSeq (tIfS (tTest (tOp rEq (tVar 0) (tC (.str "under"))))
      (tRet (tIf (tTest (tOp (rI0 fun i j=>.bl (decide (i < j))) (tVar 1) (tVar 2))) (tC (.int 1)) (tC (.int 0))))
      tNext)
    (tSeq (tIfS (tTest (tOp rEq (tVar 0) (tC (.str "same"))))
      (tRet (tIf (tTest (tOp rEq (tVar 1) (tVar 2))) (tC (.int 1)) (tC (.int 0))))
      tNext)
    (tRet (tCall (sp_divided t) [] E (tCons (tVar 0) (tCons (tVar 1) (tCons (tVar 2) tNil))))))))))
def rd_is_worth (K:PySem.W.Frag) (t:Adr):TS:=(tSeq (tIfS (tOr (tNot (tB (tCB (cIsi K) (tCons (tVar 0) (tCons (tC (.ty "int")) tNil))))) (tB (tCB (cIsi K) (tCons (tVar 0) (tCons (tC (.ty "bool")) tNil)))))
      (tRet (tC (.bl false)))
      tNext)
    (tRet (tChain (rI0 fun i j=>.bl (decide (i≤j))) (rI0 fun i j=>.bl (decide (i≤j))) (tUn (rU fun i=>.int (-i)) (tOp (rI CPow fun i j=>.int (i ^ j.toNat)) (tC (.int 10)) (tC (.int 30)))) (tVar 0) (tOp (rI CPow fun i j=>.int (i ^ j.toNat)) (tC (.int 10)) (tC (.int 30))))))
def rd_joined (K:PySem.W.Frag) (t:Adr) (E:XK):TS:=(tSeq (tAsg (tCall (sp_come_to t) [] E (tCons (tVar 0) (tCons (tVar 1) (tCons (tVar 2) tNil)))) (gName 3))
    (tSeq (tIfS (tNot (tB (tCall sp_is_worth [] E (tCons (tVar 3) tNil))))
      (tRaise t.c_Great (tCons (tMsgS (tVar 0)) tNil) E)
      tNext)
    (tRet (tVar 3))))
def rd_reckoned (K:PySem.W.Frag) (t:Adr) (E:XK):TS:=(tSeq (tAsg (tLst tNil) (gName 2))
    (tSeq (tFor (iTup K (tVar 0)) (gName 3)
      (tIfS (tTest (tOp (rIn K false) (tVar 3) (tC (.ref t.c_JOINING))))
      (tSeq (tAsg (tBM0 K "list" r_mt_pop (tVar 2)) (gName 4))
    (tSeq (tAsg (tBM0 K "list" r_mt_pop (tVar 2)) (gName 5))
    (tDrop (tBM K "list" r_mt_append (tVar 2) (tCons (tCall (sp_joined t) [] E (tCons (tVar 3) (tCons (tVar 5) (tCons (tVar 4) tNil)))) tNil)))))
      (tDrop (tBM K "list" r_mt_append (tVar 2) (tCons (tIf (tB (tCB (cIsi K) (tCons (tVar 3) (tCons (tC (.ty "str")) tNil)))) (tDGet2 (tVar 1) (tVar 3) (tC (.int 0))) (tVar 3)) tNil)))))
    (tRet (tBM0 K "list" r_mt_pop (tVar 2)))))
def rd_Run_worth_of (K:PySem.W.Frag) (t:Adr) (E:XK):TS:=(tRet (tCall (sp_reckoned t) [] E (tCons (tVar 1) (tCons (tFld K (tVar 0) "slots") tNil))))
def rd_Run_place_in (K:PySem.W.Frag) (t:Adr) (E:XK):TS:=(tRet (tTup (tCons (tOp (rIxT K) (tVar 1) (tC (.int 1))) (tCons (tMeth t.c_Run "worth_of" (sp_Run_worth_of t) [] E (tVar 0) (tCons (tOp (rIxT K) (tVar 1) (tC (.int 2))) tNil)) tNil))))
def rd_Run_asks_2 (K:PySem.W.Frag) (t:Adr):TS:=(tSeq (tIfS (tOr (tTest (tOp (rInD false) (tVar 1) (tFld K (tVar 0) "gifts"))) (tTest (tOp (rInD false) (tVar 1) (tFld K (tVar 0) "notes"))))
      (tRet (tC .non))
      tNext)
    (tRet (tVar 1)))
def rd_Run_asks_1 (K:PySem.W.Frag) (t:Adr):TS:=(tSeq (tTryT K (tAsgX (tMethX t.c_Run "place_in" (sp_Run_place_in t) (tVar 0) (tCons (tOp (rIxL K) (tFld K (tVar 0) "code") (tFld K (tVar 0) "at")) tNil)) 1) t.c_Great t.c_Nought (tRet (tC .non)))
    (rd_Run_asks_2 K t))
def rd_Run_asks (K:PySem.W.Frag) (t:Adr):TS:=(tSeq (tIfS (tOr (tB (tMeth t.c_Run "over" (sp_Run_over t) [] E0 (tVar 0) tNil)) (tTest (tOp rNe (tOp (rIxT K) (tOp (rIxL K) (tFld K (tVar 0) "code") (tFld K (tVar 0) "at")) (tC (.int 0))) (tC (.str "take")))))
      (tRet (tC .non))
      tNext)
    (rd_Run_asks_1 K t))
def rd__law_paper_2 (K:PySem.W.Frag) (t:Adr):TS:=(tRet (tAndV (tOp rIsB (tMeth t.c_Run "over" (sp_Run_over t) [] E0 (tVar 0) tNil) (tC (.bl true))) (tAndV (tOp rIsN (tMeth t.c_Run "asks" (sp_Run_asks t) [] E0 (tVar 0) tNil) (tC .non)) (tAndV (tCall (sp__law_plain  6) [] E0 (tCons (tVar 2) tNil)) (tOp (rEqD K false) (tVar 2) (tVar 3))))))
def rd__law_paper_1 (K:PySem.W.Frag) (t:Adr):TS:=(tSeq (tAsg (tTup (tCons (tTup (tCons (tC (.str "done")) (tCons (tCB (cTup K) (tCons (tDGet (tVar 1) (tC (.str "said"))) tNil)) tNil))) (tCons (tDGet (tVar 1) (tC (.str "notes"))) (tCons (tCB cSrtI (tCons (tItems (tDGet (tVar 1) (tC (.str "given")))) tNil)) tNil)))) (gName 3))
    (rd__law_paper_2 K t))
def rd__law_paper (K:PySem.W.Frag) (t:Adr):TS:=(tSeq (tAsg (tMeth t.c_Run "paper" (sp_Run_paper t) [] E0 (tVar 0) tNil) (gName 2))
    (rd__law_paper_1 K t))
def rd__law_part (K:PySem.W.Frag) (t:Adr):TS:=(tSeq (tIfS (tTest (tOp rEq (tOp (rI (fun _ j=>0 < j) fun i j=>.int (i % j)) (tCall sp__law_draw [] E0 (tCons (tVar 0) (tCons (tOp (rI0 fun i j=>.int (i + j)) (tVar 1) (tC (.int 5))) tNil))) (tC (.int 2))) (tC (.int 0))))
      (tRet (tOp (rIxL K) (tVar 2) (tOp (rI (fun _ j=>0 < j) fun i j=>.int (i % j)) (tCall sp__law_draw [] E0 (tCons (tVar 0) (tCons (tOp (rI0 fun i j=>.int (i + j)) (tVar 1) (tC (.int 6))) tNil))) (tC (.int 3)))))
      tNext)
    (tRet (tCall sp__law_number [] E0 (tCons (tVar 0) (tCons (tVar 1) tNil)))))
def rd__law_term_5 (K:PySem.W.Frag) (t:Adr):TS:=(tSeq (tAsg (tLst (tCons (tC (.str "plus")) (tCons (tC (.str "minus")) (tCons (tC (.str "under")) (tCons (tC (.str "same")) (tCons (tC (.str "plus")) (tCons (tC (.str "minus")) tNil))))))) (gName 6))
    (tRet (tTup (tCons (tVar 4) (tCons (tCall sp__law_part [] E0 (tCons (tVar 0) (tCons (tOp (rI0 fun i j=>.int (i + j)) (tVar 1) (tC (.int 9))) (tCons (tVar 2) tNil)))) (tCons (tOp (rIxL K) (tVar 6) (tOp (rI0 fun i j=>.int (i + j)) (tOp (rI0 fun i j=>.int (i - j)) (tVar 3) (tC (.int 5))) (tOp (rI (fun _ j=>0 < j) fun i j=>.int (i % j)) (tCall sp__law_draw [] E0 (tCons (tVar 0) (tCons (tOp (rI0 fun i j=>.int (i + j)) (tVar 1) (tC (.int 4))) tNil))) (tC (.int 2))))) tNil))))))
def rd__law_term_4 (K:PySem.W.Frag) (t:Adr):TS:=(tSeq (tIfS (tTest (tOp rEq (tVar 3) (tC (.int 4))))
      (tSeq (tAsg (tOp (rIxL K) (tLst (tCons (tC (.int 1)) (tCons (tUn (rU fun i=>.int (-i)) (tC (.int 1))) (tCons (tC (.int 7)) (tCons (tUn (rU fun i=>.int (-i)) (tC (.int 3))) (tCons (tOp (rI0 fun i j=>.int (i + j)) (tOp (rI CPow fun i j=>.int (i ^ j.toNat)) (tC (.int 10)) (tC (.int 9))) (tC (.int 7))) tNil)))))) (tOp (rI (fun _ j=>0 < j) fun i j=>.int (i % j)) (tCall sp__law_draw [] E0 (tCons (tVar 0) (tCons (tOp (rI0 fun i j=>.int (i + j)) (tVar 1) (tC (.int 2))) tNil))) (tC (.int 5)))) (gName 5))
    (tRet (tTup (tCons (tVar 4) (tCons (tVar 5) (tCons (tOp (rIxL K) (tLst (tCons (tC (.str "over")) (tCons (tC (.str "rest")) tNil))) (tOp (rI (fun _ j=>0 < j) fun i j=>.int (i % j)) (tCall sp__law_draw [] E0 (tCons (tVar 0) (tCons (tOp (rI0 fun i j=>.int (i + j)) (tVar 1) (tC (.int 3))) tNil))) (tC (.int 2)))) tNil))))))
      tNext)
    (rd__law_term_5 K t))
def rd__law_term_3 (K:PySem.W.Frag) (t:Adr):TS:=(tSeq (tIfS (tTest (tOp rEq (tVar 3) (tC (.int 3))))
      (tRet (tTup (tCons (tVar 4) (tCons (tOp (rI0 fun i j=>.int (i - j)) (tOp (rI (fun _ j=>0 < j) fun i j=>.int (i % j)) (tCall sp__law_draw [] E0 (tCons (tVar 0) (tCons (tOp (rI0 fun i j=>.int (i + j)) (tVar 1) (tC (.int 2))) tNil))) (tC (.int 5))) (tC (.int 2))) (tCons (tC (.str "times")) tNil)))))
      tNext)
    (rd__law_term_4 K t))
def rd__law_term_2 (K:PySem.W.Frag) (t:Adr):TS:=(tSeq (tIfS (tTest (tOp (rI0 fun i j=>.bl (decide (i < j))) (tVar 3) (tC (.int 3))))
      (tRet (tTup (tCons (tVar 4) tNil)))
      tNext)
    (rd__law_term_3 K t))
def rd__law_term (K:PySem.W.Frag) (t:Adr):TS:=(tSeq (tAsg (tOp (rI (fun _ j=>0 < j) fun i j=>.int (i % j)) (tCall sp__law_draw [] E0 (tCons (tVar 0) (tCons (tVar 1) tNil))) (tC (.int 10))) (gName 3))
    (tSeq (tAsg (tCall sp__law_part [] E0 (tCons (tVar 0) (tCons (tOp (rI0 fun i j=>.int (i + j)) (tVar 1) (tC (.int 1))) (tCons (tVar 2) tNil)))) (gName 4))
    (rd__law_term_2 K t)))
def rd__law_spot (K:PySem.W.Frag) (t:Adr):TS:=(tSeq (tIfS (tTest (tOp rEq (tOp (rI (fun _ j=>0 < j) fun i j=>.int (i % j)) (tCall sp__law_draw [] E0 (tCons (tVar 0) (tCons (tVar 1) tNil))) (tC (.int 4))) (tC (.int 0))))
      (tRet (tCall sp__law_term [] E0 (tCons (tVar 0) (tCons (tOp (rI0 fun i j=>.int (i + j)) (tVar 1) (tC (.int 1))) (tCons (tVar 2) tNil)))))
      tNext)
    (tRet (tTup (tCons (tOp (rI0 fun i j=>.int (i - j)) (tOp (rI (fun _ j=>0 < j) fun i j=>.int (i % j)) (tCall sp__law_draw [] E0 (tCons (tVar 0) (tCons (tOp (rI0 fun i j=>.int (i + j)) (tVar 1) (tC (.int 2))) tNil))) (tC (.int 4))) (tC (.int 1))) tNil))))
def rd__law_rows_4 (K:PySem.W.Frag) (t:Adr):TS:=(tSeq (tIfS (tTest (tOp (rI0 fun i j=>.bl (decide (i < j))) (tVar 3) (tC (.int 2))))
      (tSeq (tAsg (tTup (tCons (tOp (rI0 fun i j=>.int (i - j)) (tOp (rI (fun _ j=>0 < j) fun i j=>.int (i % j)) (tCall sp__law_draw [] E0 (tCons (tVar 0) (tCons (tC (.int 22)) tNil))) (tC (.int 4))) (tC (.int 1))) tNil)) (gName 6))
    (tRet (tLst (tCons (tTup (tCons (tC (.str "take")) (tCons (tVar 4) (tCons (tVar 6) (tCons (tVar 5) tNil))))) (tCons (tTup (tCons (tC (.str "give")) (tCons (tVar 4) (tCons (tVar 6) (tCons (tTup (tCons (tVar 5) tNil)) tNil))))) tNil)))))
      tNext)
    (tSeq (tIfS (tTest (tOp (rI0 fun i j=>.bl (decide (i < j))) (tVar 3) (tC (.int 4))))
      (tRet (tLst (tCons (tTup (tCons (tC (.str "take")) (tCons (tVar 4) (tCons (tVar 6) (tCons (tVar 5) tNil))))) tNil)))
      tNext)
    (tSeq (tIfS (tTest (tOp (rI0 fun i j=>.bl (decide (i < j))) (tVar 3) (tC (.int 6))))
      (tRet (tLst (tCons (tTup (tCons (tC (.str "give")) (tCons (tVar 4) (tCons (tVar 6) (tCons (tCall sp__law_term [] E0 (tCons (tVar 0) (tCons (tC (.int 40)) (tCons (tVar 1) tNil)))) tNil))))) tNil)))
      tNext)
    (tSeq (tIfS (tTest (tOp rEq (tVar 3) (tC (.int 6))))
      (tRet (tLst (tCons (tTup (tCons (tC (.str "let")) (tCons (tVar 5) (tCons (tCall sp__law_term [] E0 (tCons (tVar 0) (tCons (tC (.int 40)) (tCons (tVar 1) tNil)))) tNil)))) tNil)))
      tNext)
    (tRet (tLst (tCons (tTup (tCons (tC (.str "say")) (tCons (tCall sp__law_term [] E0 (tCons (tVar 0) (tCons (tC (.int 40)) (tCons (tVar 1) tNil)))) tNil))) tNil)))))))
def rd__law_rows (K:PySem.W.Frag) (t:Adr):TS:=(tSeq (tAsg (tOp (rI (fun _ j=>0 < j) fun i j=>.int (i % j)) (tCall sp__law_draw [] E0 (tCons (tVar 0) (tCons (tC (.int 0)) tNil))) (tC (.int 8))) (gName 3))
    (tSeq (tAsg (tOp (rIxL K) (tVar 2) (tOp (rI (fun _ j=>0 < j) fun i j=>.int (i % j)) (tCall sp__law_draw [] E0 (tCons (tVar 0) (tCons (tC (.int 60)) tNil))) (tC (.int 2)))) (gName 4))
    (tSeq (tAsg (tOp (rIxL K) (tVar 1) (tOp (rI (fun _ j=>0 < j) fun i j=>.int (i % j)) (tCall sp__law_draw [] E0 (tCons (tVar 0) (tCons (tC (.int 61)) tNil))) (tC (.int 3)))) (gName 5))
    (tSeq (tAsg (tCall sp__law_spot [] E0 (tCons (tVar 0) (tCons (tC (.int 20)) (tCons (tVar 1) tNil)))) (gName 6))
    (rd__law_rows_4 K t)))))
def rd__law_two (K:PySem.W.Frag) (t:Adr):TS:=(tSeq (tIfS (tTest (tOp rEq (tVar 2) (tC (.str "plus"))))
      (tRet (tOp (rI0 fun i j=>.int (i + j)) (tVar 0) (tVar 1)))
      tNext)
    (tSeq (tIfS (tTest (tOp rEq (tVar 2) (tC (.str "minus"))))
      (tRet (tOp (rI0 fun i j=>.int (i - j)) (tVar 0) (tVar 1)))
      tNext)
    (tSeq (tIfS (tTest (tOp rEq (tVar 2) (tC (.str "times"))))
      (tRet (tOp (rI CMulB fun i j=>.int (i * j)) (tVar 0) (tVar 1)))
      tNext)
    (tSeq (tIfS (tTest (tOp rEq (tVar 2) (tC (.str "over"))))
      (tRet (tOp (rI CDivS fun i j=>.int (i.fdiv j)) (tVar 0) (tVar 1)))
      tNext)
    (tSeq (tIfS (tTest (tOp rEq (tVar 2) (tC (.str "rest"))))
      (tRet (tOp (rI0 fun i j=>.int (i - j)) (tVar 0) (tOp (rI CMulB fun i j=>.int (i * j)) (tOp (rI CDivS fun i j=>.int (i.fdiv j)) (tVar 0) (tVar 1)) (tVar 1))))
      tNext)
    (tSeq (tIfS (tTest (tOp rEq (tVar 2) (tC (.str "under"))))
      (tRet (tCB cIntB (tCons (tOp (rI0 fun i j=>.bl (decide (i < j))) (tVar 0) (tVar 1)) tNil)))
      tNext)
    (tRet (tCB cIntB (tCons (tOp rEq (tVar 0) (tVar 1)) tNil)))))))))
def rd__law_worth_B (K:PySem.W.Frag) (t:Adr):TS:=(tIfS (tB (tCB (cIsi K) (tCons (tVar 3) (tCons (tC (.ty "int")) tNil))))
      (tDrop (tBM K "list" r_mt_append (tVar 2) (tCons (tVar 3) tNil)))
      (tDrop (tBM K "list" r_mt_append (tVar 2) (tCons (tDGet2 (tVar 1) (tVar 3) (tC (.int 0))) tNil))))
def rd__law_worth_2 (K:PySem.W.Frag) (t:Adr):TS:=(tSeq (tIfS (tTest (tOp rEq (tCB (cLen K) (tCons (tVar 0) tNil)) (tC (.int 1))))
      (tRet (tOp (rIxL K) (tVar 2) (tC (.int 0))))
      tNext)
    (tRet (tCall sp__law_two [] E0 (tCons (tOp (rIxL K) (tVar 2) (tC (.int 0))) (tCons (tOp (rIxL K) (tVar 2) (tC (.int 1))) (tCons (tOp (rIxT K) (tVar 0) (tC (.int 2))) tNil))))))
def rd__law_worth (K:PySem.W.Frag) (t:Adr):TS:=(tSeq (tAsg (tLst tNil) (gName 2))
    (tSeq (tFor (iTup K (tSl (rSlT2 K) (tVar 0) tNoPart (tPart (tC (.int 2))))) (gName 3)
      (rd__law_worth_B K t))
    (rd__law_worth_2 K t)))
def rd__law_wanted (K:PySem.W.Frag) (t:Adr):TS:=(tSeq (tIfS (tTest (tOp rNe (tOp (rIxT K) (tVar 0) (tC (.int 0))) (tC (.str "take"))))
      (tRet (tC .non))
      tNext)
    (tSeq (tAsg (tTup (tCons (tOp (rIxT K) (tVar 0) (tC (.int 1))) (tCons (tCall sp__law_worth [] E0 (tCons (tOp (rIxT K) (tVar 0) (tC (.int 2))) (tCons (tDGet (tVar 1) (tC (.str "slots"))) tNil))) tNil))) (gName 2))
    (tSeq (tIfS (tTest (tOp (rInD false) (tVar 2) (tDGet (tVar 1) (tC (.str "known")))))
      (tRet (tC .non))
      tNext)
    (tRet (tVar 2)))))
def rd__law_stepped (K:PySem.W.Frag) (t:Adr):TS:=(tSeq (tAsg (tDGet (tVar 1) (tC (.str "slots"))) (gName 3))
    (tIfS (tTest (tOp rEq (tOp (rIxT K) (tVar 0) (tC (.int 0))) (tC (.str "say"))))
      (tDrop (tBM K "list" r_mt_append (tDGet (tVar 1) (tC (.str "said"))) (tCons (tCall sp__law_worth [] E0 (tCons (tOp (rIxT K) (tVar 0) (tC (.int 1))) (tCons (tVar 3) tNil))) tNil)))
      (tIfS (tTest (tOp rEq (tOp (rIxT K) (tVar 0) (tC (.int 0))) (tC (.str "let"))))
      (sDPut (tVar 3) (tOp (rIxT K) (tVar 0) (tC (.int 1))) (tCall sp__law_worth [] E0 (tCons (tOp (rIxT K) (tVar 0) (tC (.int 2))) (tCons (tVar 3) tNil))))
      (tSeq (tAsg (tTup (tCons (tOp (rIxT K) (tVar 0) (tC (.int 1))) (tCons (tCall sp__law_worth [] E0 (tCons (tOp (rIxT K) (tVar 0) (tC (.int 2))) (tCons (tVar 3) tNil))) tNil))) (gName 4))
    (tIfS (tTest (tOp rEq (tOp (rIxT K) (tVar 0) (tC (.int 0))) (tC (.str "give"))))
      (tSeq (sDPut (tDGet (tVar 1) (tC (.str "given"))) (tVar 4) (tCall sp__law_worth [] E0 (tCons (tOp (rIxT K) (tVar 0) (tC (.int 3))) (tCons (tVar 3) tNil))))
    (sDPut (tDGet (tVar 1) (tC (.str "known"))) (tVar 4) (tDGet (tDGet (tVar 1) (tC (.str "given"))) (tVar 4))))
      (tSeq (tIfS (tTest (tOp (rInD true) (tVar 4) (tDGet (tVar 1) (tC (.str "known")))))
      (tSeq (sDPut (tDGet (tVar 1) (tC (.str "known"))) (tVar 4) (tVar 2))
    (tDrop (tBM K "list" r_mt_append (tDGet (tVar 1) (tC (.str "notes"))) (tCons (tTup (tCons (tVar 4) (tCons (tVar 2) tNil))) tNil))))
      tNext)
    (sDPut (tVar 3) (tOp (rIxT K) (tVar 0) (tC (.int 3))) (tDGet (tDGet (tVar 1) (tC (.str "known"))) (tVar 4)))))))))
def rd_Run_taken (K:PySem.W.Frag) (t:Adr):TS:=(tSeq (tIfS (tTest (tOp (rInD false) (tVar 1) (tFld K (tVar 0) "gifts")))
      (tRet (tDGet (tFld K (tVar 0) "gifts") (tVar 1)))
      tNext)
    (tSeq (tIfS (tTest (tOp (rInD true) (tVar 1) (tFld K (tVar 0) "notes")))
      (sDPut (tFld K (tVar 0) "notes") (tVar 1) (tVar 2))
      tNext)
    (tRet (tDGet (tFld K (tVar 0) "notes") (tVar 1)))))
def rd_Run_does (K:PySem.W.Frag) (t:Adr) (E:XK):TS:=(tIfS (tTest (tOp rEq (tOp (rIxT K) (tVar 1) (tC (.int 0))) (tC (.str "take"))))
      (sDPut (tFld K (tVar 0) "slots") (tOp (rIxT K) (tVar 1) (tC (.int 3))) (tMeth t.c_Run "taken" (sp_Run_taken t) [] E (tVar 0) (tCons (tMeth t.c_Run "place_in" (sp_Run_place_in t) [] E (tVar 0) (tCons (tVar 1) tNil)) (tCons (tVar 2) tNil))))
      (tIfS (tTest (tOp rEq (tOp (rIxT K) (tVar 1) (tC (.int 0))) (tC (.str "give"))))
      (tSeq (tAsg (tMeth t.c_Run "place_in" (sp_Run_place_in t) [] E (tVar 0) (tCons (tVar 1) tNil)) (gName 3))
    (sDPut (tFld K (tVar 0) "gifts") (tVar 3) (tMeth t.c_Run "worth_of" (sp_Run_worth_of t) [] E (tVar 0) (tCons (tOp (rIxT K) (tVar 1) (tC (.int 3))) tNil))))
      (tIfS (tTest (tOp rEq (tOp (rIxT K) (tVar 1) (tC (.int 0))) (tC (.str "let"))))
      (sDPut (tFld K (tVar 0) "slots") (tOp (rIxT K) (tVar 1) (tC (.int 1))) (tMeth t.c_Run "worth_of" (sp_Run_worth_of t) [] E (tVar 0) (tCons (tOp (rIxT K) (tVar 1) (tC (.int 2))) tNil)))
      (tDrop (tBM K "list" r_mt_append (tFld K (tVar 0) "sayings") (tCons (tMeth t.c_Run "worth_of" (sp_Run_worth_of t) [] E (tVar 0) (tCons (tOp (rIxT K) (tVar 1) (tC (.int 1))) tNil)) tNil))))))
def rd_Run_led_by (K:PySem.W.Frag) (t:Adr) (E:XK):TS:=(tSeq (tIfS (tTest (tOp rEq (tOp (rIxT K) (tVar 1) (tC (.int 0))) (tC (.str "go"))))
      (tRet (tOp (rIxT K) (tVar 1) (tC (.int 1))))
      tNext)
    (tSeq (tIfS (tTest (tOp rEq (tOp (rIxT K) (tVar 1) (tC (.int 0))) (tC (.str "skip"))))
      (tRet (tIf (tTest (tOp rEq (tMeth t.c_Run "worth_of" (sp_Run_worth_of t) [] E (tVar 0) (tCons (tOp (rIxT K) (tVar 1) (tC (.int 1))) tNil)) (tC (.int 0)))) (tOp (rIxT K) (tVar 1) (tC (.int 2))) (tOp (rI0 fun i j=>.int (i + j)) (tFld K (tVar 0) "at") (tC (.int 1)))))
      tNext)
    (tSeq (tIfS (tTest (tOp rEq (tOp (rIxT K) (tVar 1) (tC (.int 0))) (tC (.str "off"))))
      (tIfS (tTest (tOp rNe (tMeth t.c_Run "worth_of" (sp_Run_worth_of t) [] E (tVar 0) (tCons (tOp (rIxT K) (tVar 1) (tC (.int 1))) tNil)) (tC (.int 0))))
      (sFld K (tVar 0) (tC (.str "told")) "why")
      tNext)
      (tDrop (tMeth t.c_Run "does" (sp_Run_does t) [] E (tVar 0) (tCons (tVar 1) (tCons (tVar 2) tNil)))))
    (tRet (tOp (rI0 fun i j=>.int (i + j)) (tFld K (tVar 0) "at") (tC (.int 1)))))))
def rd_Run_step (K:PySem.W.Frag) (t:Adr):TS:=(tSeq (tIfS (tB (tMeth t.c_Run "over" (sp_Run_over t) [] E0 (tVar 0) tNil))
      tRetN
      tNext)
    (tTryNN K (sFldX K (tVar 0) (tMethX t.c_Run "led_by" (sp_Run_led_by t) (tVar 0) (tCons (tOp (rIxL K) (tFld K (tVar 0) "code") (tFld K (tVar 0) "at")) (tCons (tVar 1) tNil))) "at") t.c_Great (sFld K (tVar 0) (tC (.str "great")) "why") t.c_Nought (sFld K (tVar 0) (tC (.str "nought")) "why")))
def rd__law_one_step_2 (K:PySem.W.Frag) (t:Adr):TS:=(tSeq (tIfS (tTest (tOp rNotN (tMeth t.c_Run "step" (sp_Run_step t) [] E0 (tVar 0) (tCons (tVar 3) tNil)) (tC .non)))
      (tRet (tC (.bl false)))
      tNext)
    (tSeq (tDrop (tCall sp__law_stepped [] E0 (tCons (tVar 1) (tCons (tVar 2) (tCons (tVar 3) tNil)))))
    (tRet (tC (.bl true)))))
def rd__law_one_step_1 (K:PySem.W.Frag) (t:Adr):TS:=(tSeq (tIfS (tOr (tTest (tOp rIsNotB (tMeth t.c_Run "over" (sp_Run_over t) [] E0 (tVar 0) tNil) (tC (.bl false)))) (tOr (tTest (tOp (rEqD K true) (tMeth t.c_Run "asks" (sp_Run_asks t) [] E0 (tVar 0) tNil) (tVar 4))) (tTest (tOp rNotN (tMeth t.c_Run "paper" (sp_Run_paper t) [] E0 (tVar 0) tNil) (tC .non)))))
      (tRet (tC (.bl false)))
      tNext)
    (rd__law_one_step_2 K t))
def rd__law_one_step (K:PySem.W.Frag) (t:Adr):TS:=(tSeq (tAsg (tCall sp__law_wanted [] E0 (tCons (tVar 1) (tCons (tVar 2) tNil))) (gName 4))
    (rd__law_one_step_1 K t))
def rd_law_10 (K:PySem.W.Frag) (t:Adr):TS:=(tRet (tAndV (tOp (rEqD K false) (tVar 5) (tVar 3)) (tAndV (tCall (sp__law_paper t) [] E0 (tCons (tVar 6) (tCons (tVar 8) tNil))) (tCall (sp__law_paper t) [] E0 (tCons (tVar 7) (tCons (tVar 9) tNil))))))
def rd_law_9 (K:PySem.W.Frag) (t:Adr):TS:=(tSeq (tFor (iRng1 (tCons (tCB (cLen K) (tCons (tVar 3) tNil)) tNil)) (gName 10)
      (tSeq (tAsg (tCall sp__law_number [] E0 (tCons (tOp (rI0 fun i j=>.int (i + j)) (tCall (sp__law_cell_at K) [] E0 (tCons (tVar 0) (tCons (tVar 10) tNil))) (tVar 10)) (tCons (tC (.int 70)) tNil))) (gName 11))
    (tIfS (tOr (tNot (tB (tCall (sp__law_one_step t) [] E0 (tCons (tVar 6) (tCons (tOp (rIxL K) (tVar 3) (tVar 10)) (tCons (tVar 8) (tCons (tVar 11) tNil))))))) (tNot (tB (tCall (sp__law_one_step t) [] E0 (tCons (tVar 7) (tCons (tOp (rIxL K) (tVar 3) (tVar 10)) (tCons (tVar 9) (tCons (tC (.int 0)) tNil))))))))
      (tRet (tC (.bl false)))
      tNext)))
    (rd_law_10 K t))
def rd_law_5 (K:PySem.W.Frag) (t:Adr):TS:=(tSeq (tAsg (tMake t.c_Run (sp_Run_init t) [] E0 (tCons (tVar 5) tNil)) (gName 6))
    (tSeq (tAsg (tMake t.c_Run (sp_Run_init t) [] E0 (tCons (tVar 5) tNil)) (gName 7))
    (tSeq (tAsg (tCall sp__law_begun [] E0 tNil) (gName 8))
    (tSeq (tAsg (tCall sp__law_begun [] E0 tNil) (gName 9))
    (rd_law_9 K t)))))
def rd_law_4 (K:PySem.W.Frag) (t:Adr):TS:=(tSeq (tAsg (tCB (cLst K) (tCons (tVar 3) tNil)) (gName 5))
    (rd_law_5 K t))
def rd_law_3 (K:PySem.W.Frag) (t:Adr):TS:=(tSeq (tFor (iList K (tSl (rSlL K) (tVar 0) (tPart (tC (.int 2))) (tPart (tC (.int 22))))) (gName 4)
      (tAsg (tOp rCat (tVar 3) (tCall sp__law_rows [] E0 (tCons (tVar 4) (tCons (tVar 1) (tCons (tVar 2) tNil))))) (gName 3)))
    (rd_law_4 K t))
def rd_law (K:PySem.W.Frag) (t:Adr):TS:=(tSeq (tAsg (tCall sp__law_names [] E0 (tCons (tCall (sp__law_cell_at K) [] E0 (tCons (tVar 0) (tCons (tC (.int 0)) tNil))) (tCons (tC (.int 3)) tNil))) (gName 1))
    (tSeq (tAsg (tCall sp__law_names [] E0 (tCons (tCall (sp__law_cell_at K) [] E0 (tCons (tVar 0) (tCons (tC (.int 1)) tNil))) (tCons (tC (.int 2)) tNil))) (gName 2))
    (tSeq (tAsg (tLst tNil) (gName 3))
    (rd_law_3 K t))))
section
variable {K:PySem.W.Frag} {t:Adr} {H:Hp} {Q:VK}
theorem pow10 {j:Int} (h0:0≤j) (h1:j≤100):CPow 10 j:=⟨h0,by omega,by decide⟩
theorem small_size {n:Nat} (h:n≤100000):n≤sizeLine:=Nat.le_trans h (by decide)
theorem kit_same (T:String):PySem.W.kitOne K (.type T) (.type T)=some true:=by
  unfold PySem.W.kitOne
  rw [if_pos (by simp)]
theorem kf (K:PySem.W.Frag):KF K:=⟨by with_unfolding_all rfl,by with_unfolding_all rfl,by with_unfolding_all rfl,by with_unfolding_all rfl,by with_unfolding_all rfl,by with_unfolding_all rfl,by with_unfolding_all rfl,by with_unfolding_all rfl,by with_unfolding_all rfl,by with_unfolding_all rfl⟩
theorem dB {i j:Int} (h0:0 < j:=by decide) (h1:j < 10000000000000000000000000000000000000000000000:=by decide):CDivB i j:=by
  have hb:(10000000000000000000000000000000000000000000000:Int) < big:=by decide +kernel
  exact ⟨h0,by omega⟩
theorem at_lt {α:Type} {xs:List α} {i:Int} (h0:0≤i) (h1:i < xs.length):∃ x,atI xs i=some x∧x∈xs:=by
  obtain ⟨n,rfl⟩:∃ n:Nat,i=(n:Int):=⟨i.toNat,by omega⟩
  have hn:n < xs.length:=by omega
  refine ⟨xs[n],?_,List.getElem_mem hn⟩
  unfold atI ixN
  rw [if_pos h0,if_pos h1]
  simp [hn]
theorem at_mod {α:Type} {xs:List α} (e:Int) (n:Nat) (hl:xs.length=n) (hn:0 < (n:Int)):∃ x,atI xs (e % n)=some x∧x∈xs :=
  at_lt (Int.emod_nonneg _ (by omega)) (by rw [hl];exact Int.emod_lt_of_pos _ hn)
theorem rdp_is_worth {i:Int} (hK:IntFact K) (q:∀ H',Same H H'→Q (.bl (inW i)) H') :
    rd_is_worth K t { nx:=fun _ H'=>Q .non H',rt:=Q } (L2.start ["thing"] [.int i]) H:=by
  simp only [rd_is_worth,L2.start,tSeq,tRet,tNext,tOp,tUn,tVar,tC,tCons,tNil,tIfS,tOr,tNot,tB,tCB,tChain,rI,rI0,rU,cIsi,List.map,List.replicate,List.length,List.append,jqa,jqb,jqc,jqd,jqe,jqf,jqg,jqh,jqi,jqj,jqk,jql,jqm,jqn,and_true,true_and,and_assoc,jqo,jqp,jqq,Nat.reduceSub,Nat.reduceAdd,jqr,jqs,jqt,Int.reduceToNat,Int.reducePow,Int.reduceNeg,Int.reduceMul,Int.reduceAdd,if_true,ite_true,jqu,ite_false,if_false]
  have q:=q H (Same.refl H)
  refine ⟨_,.int i,true,kit_same _,?_⟩
  rw [if_neg (by decide)]
  refine ⟨_,.int i,false,hK,?_⟩
  rw [if_neg (by decide)]
  refine ⟨pow10 (by decide) (by decide),ite2 (fun c=>⟨pow10 (by decide) (by decide),?_⟩) fun c=>?_⟩
  · have e:inW i=decide (i≤1000000000000000000000000000000):=by
      unfold inW
      by_cases h:i≤1000000000000000000000000000000
      · rw [decide_eq_true h,decide_eq_true ⟨c,h⟩]
      · rw [decide_eq_false h,decide_eq_false fun z=>h z.2]
    rw [e] at q
    exact q
  · have e:inW i=false:=decide_eq_false fun z=>c z.1
    rw [e] at q
    exact q
theorem rdp_divided {E:XK} {w:Str} {a b:Int} (hw:w.length≤1000) (ha:inW a=true) (hb:inW b=true) (q:∀ H',Same H H'→if b=0 then E (.ref t.c_Nought) none H' else Q (.int (if w="over" then a.fdiv b else a.fmod b)) H') :
    rd_divided K t E { nx:=fun _ H'=>Q .non H',rt:=Q } (L2.start ["word","first","second"] [.str w,.int a,.int b]) H:=by
  simp only [rd_divided,L2.start,tRaise,tMsgS,tSeq,tRet,tNext,tOp,tVar,tC,tCons,tNil,tIfS,tTest,tIf,rEq,rI,scal,List.map,List.replicate,List.length,List.append,jqa,jqb,jqc,jqd,jqe,jqf,jqg,jqh,jqi,jqj,jqk,jql,jqm,jqn,and_true,true_and,and_assoc,jqo,jqp,jqq,Nat.reduceSub,Nat.reduceAdd,jqr,jqs,jqt,Int.reduceToNat,Int.reducePow,Int.reduceNeg,Int.reduceMul,Int.reduceAdd,if_true,ite_true,jqu,ite_false,if_false]
  have q:=q H (Same.refl H)
  have B:=inW_big hb
  refine ite2 (fun c=>?_) fun c=>?_
  · rw [if_pos c] at q
    exact ⟨by omega,fun y=>⟨by decide,q⟩⟩
  · rw [if_neg c] at q
    refine ite2 (fun e=>?_) fun e=>?_
    · rw [if_pos e] at q
      exact ⟨⟨c,B⟩,q⟩
    · rw [if_neg e] at q
      exact ⟨c,q⟩
theorem rdp_come_to {E:XK} {w:Str} {a b:Int} (hw:w.length≤1000) (ha:inW a=true) (hb:inW b=true) (q:∀ H',Same H H'→if isDiv w∧b=0 then E (.ref t.c_Nought) none H' else Q (.int (comeV w a b)) H') :
    rd_come_to K t E { nx:=fun _ H'=>Q .non H',rt:=Q } (L2.start ["word","first","second"] [.str w,.int a,.int b]) H:=by
  simp only [rd_come_to,sp_divided,L2.start,tSeq,tRet,tNext,tOp,tVar,tC,tCons,tNil,tIfS,tTest,tIf,tCall,rEq,rI,rI0,scal,List.map,List.replicate,List.length,List.append,jqa,jqb,jqc,jqd,jqe,jqf,jqg,jqh,jqi,jqj,jqk,jql,jqm,jqn,and_true,true_and,and_assoc,jqo,jqp,jqq,Nat.reduceSub,Nat.reduceAdd,jqr,jqs,jqt,Int.reduceToNat,Int.reducePow,Int.reduceNeg,Int.reduceMul,Int.reduceAdd,if_true,ite_true,jqu,ite_false,if_false]
  have A:=inW_big ha
  have B:=inW_big hb
  have nd:¬ isDiv w→Q (.int (comeV w a b)) H:=fun h=>by
    have q:=q H (Same.refl H)
    rw [if_neg fun z=>h z.1] at q
    exact q
  refine ite2 (fun c=>?_) fun c1=>ite2 (fun c=>?_) fun c2=>ite2 (fun c=>⟨⟨A,B⟩,?_⟩) fun c3=>ite2 (fun c=>?_) fun c4=>ite2 (fun c=>?_) fun c5=>⟨hw,ha,hb,fun H' s=>?_⟩
  · subst c
    have q:=nd fun z=>z.1 rfl
    exact q
  · subst c
    have q:=nd fun z=>z.2.1 rfl
    rw [show comeV "minus" a b=a - b by unfold comeV;rw [if_neg c1,if_pos rfl]] at q
    exact q
  · subst c
    have q:=nd fun z=>z.2.2.1 rfl
    rw [show comeV "times" a b=a * b by unfold comeV;rw [if_neg c1,if_neg c2,if_pos rfl]] at q
    exact q
  · subst c
    have q:=nd fun z=>z.2.2.2.1 rfl
    rw [show comeV "under" a b=if a < b then 1 else 0 by unfold comeV;rw [if_neg c1,if_neg c2,if_neg c3,if_pos rfl]] at q
    refine ite2 (fun d=>?_) fun d=>?_
    · rw [if_pos d] at q;exact q
    · rw [if_neg d] at q;exact q
  · subst c
    have q:=nd fun z=>z.2.2.2.2 rfl
    rw [show comeV "same" a b=if a=b then 1 else 0 by unfold comeV;rw [if_neg c1,if_neg c2,if_neg c3,if_neg c4,if_pos rfl]] at q
    refine ite2 (fun d=>?_) fun d=>?_
    · rw [if_pos d] at q;exact q
    · rw [if_neg d] at q;exact q
  · have q:=q H' s
    have hd:isDiv w:=⟨c1,c2,c3,c4,c5⟩
    refine ite2 (fun d=>?_) fun d=>?_
    · rw [if_pos ⟨hd,d⟩] at q;exact q
    · rw [if_neg fun z=>d z.2] at q
      unfold comeV at q
      rw [if_neg c1,if_neg c2,if_neg c3,if_neg c4,if_neg c5] at q
      exact q
theorem rdp_joined {E:XK} {w:Str} {a b:Int} (hw:w.length≤1000) (ha:inW a=true) (hb:inW b=true) (q:∀ H',Same H H'→fin t (joinE w a b) Q E H') :
    rd_joined K t E { nx:=fun _ H'=>Q .non H',rt:=Q } (L2.start ["word","first","second","worth"] [.str w,.int a,.int b]) H:=by
  simp only [rd_joined,sp_come_to,sp_is_worth,L2.start,tRaise,tMsgS,tSeq,tAsg,gName,tRet,tNext,tVar,tCons,tNil,tIfS,tNot,tB,tCall,List.map,List.replicate,List.length,List.append,jqa,jqb,jqc,jqd,jqe,jqf,jqg,jqh,jqi,jqj,jqk,jql,jqm,jqn,and_true,true_and,and_assoc,jqo,jqp,jqq,Nat.reduceSub,Nat.reduceAdd,jqr,jqs,jqt,Int.reduceToNat,Int.reducePow,Int.reduceNeg,Int.reduceMul,Int.reduceAdd,if_true,ite_true,jqu,ite_false,if_false]
  refine ⟨hw,ha,hb,fun H1 s1=>ite2 (fun c=>?_) fun c H2 s2=>ite2 (fun d=>?_) fun d=>?_⟩
  · have q:=q H1 s1
    unfold joinE at q
    rw [if_pos c] at q
    exact q
  · have q:=q H2 (s1.trans s2)
    unfold joinE at q
    rw [if_neg c,if_neg (by rw [d];decide)] at q
    exact ⟨by omega,fun y=>⟨by decide,q⟩⟩
  · have q:=q H2 (s1.trans s2)
    unfold joinE at q
    rw [if_neg c,if_pos (by simpa using d)] at q
    exact q
theorem last_get {xs:List V} {y:V}:(xs ++ [y])[(xs ++ [y]).length - 1]?=some y:=by simp
theorem drop_last {xs:List V} {y:V}:(xs ++ [y]).dropLast=xs:=by simp
theorem same_upd {H H':Hp} {w:Addr} {o:HO} (s:Same H H') (hw:H w=none):Same H (upd H' w o):=fun b u e=>by rw [upd_ne (ne_of_none e hw)];exact s b u e
theorem two_or (st:List Int):(∃ l a b,st=l ++ [a,b])∨∀ kvs v,isJ v=true→stepE kvs st v=.error .stuck:=by
  cases h:st.reverse with
  | nil =>
    refine .inr fun kvs v hv=>?_
    unfold stepE
    rw [hv,if_pos rfl,h]
    split <;> rename_i e1 e2 <;> first | rfl | cases e2
  | cons b r =>
    cases r with
    | nil =>
      refine .inr fun kvs v hv=>?_
      unfold stepE
      rw [hv,if_pos rfl,h]
      split <;> rename_i e1 e2 <;> first | rfl | cases e2
    | cons a r =>
      refine .inl ⟨r.reverse,a,b,?_⟩
      have:=congrArg List.reverse h
      rw [List.reverse_reverse] at this
      rw [this];simp
theorem step_two {kvs:List (Key × V)} {l:List Int} {a b:Int} {w:Str} (hw:isJ (.str w)=true):stepE kvs (l ++ [a,b]) (.str w)=match joinE w a b with | .ok c=>.ok (l ++ [c]) | .error e=>.error e:=by
  unfold stepE
  rw [hw,if_pos rfl]
  simp only [List.reverse_append,List.reverse_cons,List.reverse_nil,List.nil_append,List.cons_append]
  cases joinE w a b with
  | error e=>rfl
  | ok c=>simp
def rkI (kvs:List (Key × V)) (ps:List V) (tm sl w:Addr) (H:Hp) (i:Nat) (σ:St) (H':Hp):Prop:=∃ st,(∃ o3 o4 o5,σ=[some (.ref tm),some (.ref sl),some (.ref w),o3,o4,o5])∧runE kvs (ps.take i) []=.ok st∧(∀ x∈st,inW x=true)∧st.length≤i∧H' w=some (.lst (st.map V.int))∧Same H H'
theorem rdp_reckoned {E:XK} {kvs:List (Key × V)} {tm sl:Addr} {ps:List V} {r:Except Er Int} (hK:PySem.W.kitOne K (.type "int") (.type "str")=some false) (hJ:∀ H:Hp,SqT K H t.c_JOINING jw) (h1:H tm=some (.tup ps)) (h2:H sl=some (.dK kvs)) (h3:Good kvs ps r) (h4:∀ v∈ps,okPart v) (h5:ps.length≤1000) (h6:SlotsOk kvs)
    (q:∀ H',Same H H'→fin t r Q E H'):rd_reckoned K t E { nx:=fun _ H'=>Q .non H',rt:=Q } (L2.start ["term","slots","worths","part","second","first"] [.ref tm,.ref sl]) H:=by
  simp only [rd_reckoned,sp_joined,tDGet2,L2.start,tDGet2,r_mt_append,r_mt_pop,rAppend,rPop,tSeq,tAsg,gName,tRet,tDrop,tOp,tVar,tC,tLst,tCons,tNil,tFor,tIfS,tTest,tB,tIf,tCB,tBM,tBM0,tyV,tCall,iTup,rIn,cIsi,List.map,List.replicate,List.length,List.append,jqa,jqb,jqc,jqd,jqe,jqf,jqg,jqh,jqi,jqj,jqk,jql,jqm,jqn,and_true,true_and,and_assoc,jqo,jqp,jqq,Nat.reduceSub,Nat.reduceAdd,jqr,jqs,jqt,Int.reduceToNat,Int.reducePow,Int.reduceNeg,Int.reduceMul,Int.reduceAdd,if_true,ite_true,jqu,ite_false,if_false]
  refine ⟨by decide,fun w hw=>⟨⟨_,SqT.of ((isV w hw) _ _ h1)⟩,?_⟩⟩
  have run0:=h3.1 []
  have fe:∀ {e:Er} {H':Hp},runE kvs ps []=.error e→Same H H'→fin t (.error e) Q E H':=fun {e H'} z s=>by
    rw [z] at run0
    cases r with
    | ok i=>cases run0
    | error e' =>
      cases run0
      exact q _ s
  have ns:runE kvs ps []≠.error .stuck:=fun z=>by
    rw [z] at run0
    cases r with
    | ok i=>cases run0
    | error e' =>
      cases run0
      exact h3.2 rfl
  refine loop_tup ps (rkI kvs ps tm sl w H) ⟨[],⟨_,_,_,rfl⟩,rfl,(fun x z=>nomatch z),Nat.le_refl _,upd_same,isV w hw⟩ (fun i σ H' ⟨st,a,b,c,d,e,s⟩=>SqT.of (s _ _ h1)) ?_ ?_
  · rintro i v σ H' hv ⟨st,⟨o3,o4,o5,rfl⟩,hr,hW,hl,hst,hS⟩
    have hi:i < ps.length:=(List.getElem?_eq_some_iff.mp hv).1
    have one:=run_one hr hv
    have ok:=h4 v (List.mem_of_getElem? hv)
    have fl:flatV v=true:=by rcases ok with ⟨j,rfl,_⟩ | ⟨x,rfl,_⟩ <;> rfl
    simp only [tDGet2,L2.start,tDGet2,r_mt_append,r_mt_pop,rAppend,rPop,tSeq,tAsg,gName,tRet,tDrop,tOp,tVar,tC,tLst,tCons,tNil,tFor,tIfS,tTest,tB,tIf,tCB,tBM,tBM0,tyV,tCall,iTup,rIn,cIsi,List.map,List.replicate,List.length,List.append,jqa,jqb,jqc,jqd,jqe,jqf,jqg,jqh,jqi,jqj,jqk,jql,jqm,jqn,and_true,true_and,and_assoc,jqo,jqp,jqq,Nat.reduceSub,Nat.reduceAdd,jqr,jqs,jqt,Int.reduceToNat,Int.reducePow,Int.reduceNeg,Int.reduceMul,Int.reduceAdd,if_true,ite_true,jqu,ite_false,if_false]
    refine ⟨jw,.inr (hJ H'),fl,rfl,ite2 (fun c=>?_) fun c=>?_⟩
    · rcases two_or st with ⟨l,a,b,rfl⟩ | z
      · obtain ⟨x,rfl,hx⟩:∃ x:Str,v=.str x∧x.length≤1000:=by
          rcases ok with ⟨j,rfl,_⟩ | h
          · exact absurd c (by rw [show inV (V.int j) jw=false from rfl];decide)
          · exact h
        have e1:List.map V.int (l ++ [a,b])=(l.map V.int ++ [.int a]) ++ [.int b]:=by simp
        rw [e1] at hst
        have one':=one.trans (step_two c)
        have wa:=hW a (by simp)
        have wb:=hW b (by simp)
        refine ⟨.inl ⟨_,SqL.of hst⟩,_,hst,_,last_get,.inl ⟨_,SqL.of upd_same⟩,_,by rw [drop_last];exact upd_same,_,last_get,.inl ⟨_,SqL.of upd_same⟩,x,rfl,a,rfl,b,rfl,hx,wa,wb,fun H2 s2=>?_⟩
        rw [drop_last,drop_last] at s2
        have S2:Same H H2:=(same_upd (same_upd hS hw) hw).trans s2
        cases e:joinE x a b with
        | ok d =>
          rw [e] at one'
          have hd:inW d=true:=by
            unfold joinE at e
            split at e
            · cases e
            · split at e
              · rename_i z;cases e;exact z
              · cases e
          refine ⟨_,s2 _ _ upd_same,?_,l ++ [d],⟨_,_,_,rfl⟩,one',?_,?_,?_,same_upd S2 hw⟩
          · rw [List.length_map]
            have:(l ++ [a,b]).length=l.length + 2:=by simp
            exact Nat.lt_of_le_of_lt (by omega:l.length≤1000) (by decide)
          · intro y hy
            rcases List.mem_append.mp hy with h | h
            · exact hW y (List.mem_append_left _ h)
            · have:y=d:=by simpa using h
              rw [this];exact hd
          · have:(l ++ [a,b]).length=l.length + 2:=by simp
            rw [List.length_append];show l.length + 1≤i + 1
            omega
          · rw [List.map_append];exact upd_same
        | error er =>
          rw [e] at one'
          have:=fe (run_err one') S2
          cases er with
          | nought=>exact this
          | great=>exact this
          | stuck=>trivial
      · exact absurd (run_err (one.trans (z kvs v c))) ns
    · have st1:stepE kvs st v=.ok (st ++ [wrth kvs v]):=by
        unfold stepE
        rw [if_neg (by unfold isJ;exact c)]
      have one':=one.trans st1
      have hwv:=wrth_inW h6 ok
      have fin1:∀ u,u=V.int (wrth kvs v)→rkI kvs ps tm sl w H (i + 1) [some (V.ref tm),some (V.ref sl),some (V.ref w),some v,o4,o5] (upd H' w (HO.lst (List.map V.int st ++ [u]))):=fun u hu=>by
        subst hu
        refine ⟨st ++ [wrth kvs v],⟨_,_,_,rfl⟩,one',?_,?_,?_,same_upd hS hw⟩
        · intro y hy
          rcases List.mem_append.mp hy with h | h
          · exact hW y h
          · have:y=wrth kvs v:=by simpa using h
            rw [this];exact hwv
        · rw [List.length_append];show st.length + 1≤i + 1
          omega
        · rw [List.map_append];exact upd_same
      have sz:(List.map V.int st).length < sizeLine:=by
        rw [List.length_map]
        exact Nat.lt_of_le_of_lt (by omega:st.length≤1000) (by decide)
      refine ⟨.inl ⟨_,SqL.of hst⟩,?_⟩
      rcases ok with ⟨j,rfl,hj⟩ | ⟨x,rfl,hx⟩
      · refine ⟨_,.int j,false,hK,?_⟩
        rw [if_neg (by decide)]
        exact ⟨_,hst,sz,fin1 _ rfl⟩
      · refine ⟨_,.str x,true,kit_same _,?_⟩
        rw [if_pos rfl]
        refine ⟨.inl ⟨kvs,.inl (hS _ _ h2)⟩,_,DGet.k (k:=.inr x) (hS _ _ h2),_,hst,sz,fin1 _ ?_⟩
        show (valV kvs (.inr x)).getD (V.int 0)=V.int (match valV kvs (.inr x) with | some (.int i)=>i | _=>0)
        cases e:valV kvs (.inr x) with
        | none=>rfl
        | some u =>
          obtain ⟨i,rfl,_⟩:=h6 _ _ e
          rfl
  · rintro σ H' ⟨st,⟨o3,o4,o5,rfl⟩,hr,hW,hl,hst,hS⟩
    rw [List.take_length] at hr
    simp only [tDGet2,L2.start,tDGet2,r_mt_append,r_mt_pop,rAppend,rPop,tSeq,tAsg,gName,tRet,tDrop,tOp,tVar,tC,tLst,tCons,tNil,tFor,tIfS,tTest,tB,tIf,tCB,tBM,tBM0,tyV,tCall,iTup,rIn,cIsi,List.map,List.replicate,List.length,List.append,jqa,jqb,jqc,jqd,jqe,jqf,jqg,jqh,jqi,jqj,jqk,jql,jqm,jqn,and_true,true_and,and_assoc,jqo,jqp,jqq,Nat.reduceSub,Nat.reduceAdd,jqr,jqs,jqt,Int.reduceToNat,Int.reducePow,Int.reduceNeg,Int.reduceMul,Int.reduceAdd,if_true,ite_true,jqu,ite_false,if_false]
    rw [hr] at run0
    cases r with
    | error e=>cases run0
    | ok i =>
      have e:st=[i]:=by injection run0
      subst e
      exact ⟨.inl ⟨_,SqL.of hst⟩,_,hst,_,rfl,q _ (same_upd hS hw)⟩
theorem rdp__law_cell_at {a:Addr} {ns:List Int} {k:Nat} (hS:SqL K H a (ns.map V.int)) (hl:ns.length≤63) (q:∀ c H',Same H H'→Q (.int c) H') :
    rd__law_cell_at K t { nx:=fun _ H'=>Q .non H',rt:=Q } (L2.start ["script","k"] [.ref a,.int k]) H:=by
  simp only [rd__law_cell_at,L2.start,tSeq,tRet,tNext,tOp,tVar,tC,tCons,tNil,tIfS,tTest,tCB,LenV,rIxL,rI0,cLen,List.map,List.replicate,List.length,List.append,jqa,jqb,jqc,jqd,jqe,jqf,jqg,jqh,jqi,jqj,jqk,jql,jqm,jqn,and_true,true_and,and_assoc,jqo,jqp,jqq,Nat.reduceSub,Nat.reduceAdd,jqr,jqs,jqt,Int.reduceToNat,Int.reducePow,Int.reduceNeg,Int.reduceMul,Int.reduceAdd,if_true,ite_true,jqu,ite_false,if_false]
  refine ⟨_,.inl ⟨_,hS,rfl⟩,ite2 (fun c=>?_) fun _=>q _ _ (Same.refl H)⟩
  obtain ⟨v,hv,hm⟩:=at_lt (xs:=ns.map V.int) (i:=(k:Int)) (by omega) c
  obtain ⟨i,_,rfl⟩:=List.mem_map.mp hm
  exact ⟨_,hS,_,hv,q _ _ (Same.refl H)⟩
theorem one_len (c:Nat):({ cps:=#[c] }:Str).length=1:=rfl
theorem fresh_of {H H':Hp} {D:Addr} (s:Same H H') (h:H' D=none):H D=none:=by
  cases e:H D with
  | none=>rfl
  | some o=>rw [s _ _ e] at h;cases h
theorem fin_err {t:Adr} {e:Er} {Q:VK} {E:XK} {H:Hp}:fin t (.error e) Q E H↔errE t e E H:=by cases e <;> rfl
theorem fin_ok {t:Adr} {i:Int} {Q:VK} {E:XK} {H:Hp}:fin t (.ok i) Q E H↔Q (.int i) H:=Iff.rfl
theorem rdp__law_draw {c j:Int} (h1:0≤j) (h2:j≤1000) (q:∀ r H',0≤r→r < 2147483648→Same H H'→Q (.int r) H') :
    rd__law_draw K t { nx:=fun _ H'=>Q .non H',rt:=Q } (L2.start ["cell","j","far"] [.int c,.int j]) H:=by
  simp only [rd__law_draw,L2.start,tSeq,tAsg,gName,tRet,tOp,tVar,tC,rI,rI0,List.map,List.replicate,List.length,List.append,jqa,jqb,jqc,jqd,jqe,jqf,jqg,jqh,jqi,jqj,jqk,jql,jqm,jqn,and_true,true_and,and_assoc,jqo,jqp,jqq,Nat.reduceSub,Nat.reduceAdd,jqr,jqs,jqt,Int.reduceToNat,Int.reducePow,Int.reduceNeg,Int.reduceMul,Int.reduceAdd,if_true,ite_true,jqu,ite_false,if_false]
  have hb:(10000000000000000000000000000000000000000000000:Int) < big:=by decide +kernel
  have g1:=Int.emod_nonneg c (b:=1000000007) (by decide)
  have g2:=Int.emod_lt_of_pos c (b:=1000000007) (by decide)
  generalize c % 1000000007=a at *
  have g3:=Int.emod_nonneg (a * 6700417 + (j + 1) * 104729 * 65537) (b:=1000000009) (by decide)
  have g4:=Int.emod_lt_of_pos (a * 6700417 + (j + 1) * 104729 * 65537) (b:=1000000009) (by decide)
  generalize hf:(a * 6700417 + (j + 1) * 104729 * 65537) % 1000000009=f at *
  have g5:=Int.emod_nonneg (f * f) (b:=1000000009) (by decide)
  have g6:=Int.emod_lt_of_pos (f * f) (b:=1000000009) (by decide)
  generalize hg:f * f % 1000000009=g at *
  have g7:=Int.emod_nonneg (g * f) (b:=1000000009) (by decide)
  have g8:=Int.emod_lt_of_pos (g * f) (b:=1000000009) (by decide)
  refine ⟨by decide,⟨⟨by omega,by omega⟩,by omega,by omega⟩,⟨⟨by omega,by omega⟩,by omega,by omega⟩,⟨⟨by omega,by omega⟩,by omega,by omega⟩,by decide,?_⟩
  refine ⟨⟨⟨by omega,by omega⟩,by omega,by omega⟩,by decide,⟨⟨by omega,by omega⟩,by omega,by omega⟩,by decide,dB,q _ _ ?_ ?_ (Same.refl H)⟩
  · exact Int.ediv_nonneg g7 (by decide)
  · omega
theorem CsAt.same {H H':Hp} {v:V} {c:Cs} (h:CsAt H v c) (s:Same H H'):CsAt H' v c:=by
  cases c with
  | row r=>exact ⟨h.1.mono s,h.2⟩
  | skip e to =>
    obtain ⟨p,te,h1,h2,h3⟩:=h
    exact ⟨p,te,h1,s _ _ h2,s _ _ h3⟩
  | go en =>
    obtain ⟨p,h1,h2⟩:=h
    exact ⟨p,h1,s _ _ h2⟩
theorem cs_same {H H':Hp} (s:Same H H'):∀ {xs:List V} {C:List Cs},Paired (CsAt H) xs C→Paired (CsAt H') xs C
  | _,_,.nil=>.nil
  | _,_,.cons h r=>.cons (h.same s) (cs_same s r)
def TSm (H H':Hp):Prop:=∀ b ys,H b=some (.tup ys)→H' b=some (.tup ys)
theorem CsAt.ts {H H':Hp} {v:V} {c:Cs} (s:TSm H H') (h:CsAt H v c):CsAt H' v c:=by
  cases c with
  | row r =>
    obtain ⟨h,n⟩:=h
    refine ⟨?_,n⟩
    cases r with
    | iff e a b=>exact n.elim
    | take sh e sl =>
      obtain ⟨r,te,a1,a2,a3,a4,a5⟩:=h
      exact ⟨r,te,a1,a2,a3,s _ _ a4,s _ _ a5⟩
    | give sh e f =>
      obtain ⟨r,te,tf,a1,a2,a3,a4,a5,a6,a7⟩:=h
      exact ⟨r,te,tf,a1,a2,a3,a4,s _ _ a5,s _ _ a6,s _ _ a7⟩
    | lt sl e =>
      obtain ⟨r,te,a1,a2,a3,a4,a5⟩:=h
      exact ⟨r,te,a1,a2,a3,s _ _ a4,s _ _ a5⟩
    | say e =>
      obtain ⟨r,te,a1,a2,a3,a4,a5⟩:=h
      exact ⟨r,te,a1,a2,a3,s _ _ a4,s _ _ a5⟩
    | off e =>
      obtain ⟨r,te,a1,a2,a3,a4,a5⟩:=h
      exact ⟨r,te,a1,a2,a3,s _ _ a4,s _ _ a5⟩
  | skip e to =>
    obtain ⟨p,te,h1,h2,h3⟩:=h
    exact ⟨p,te,h1,s _ _ h2,s _ _ h3⟩
  | go en =>
    obtain ⟨p,h1,h2⟩:=h
    exact ⟨p,h1,s _ _ h2⟩
theorem css_ts {H H':Hp} (s:TSm H H'):∀ {xs:List V} {C:List Cs},Paired (CsAt H) xs C→Paired (CsAt H') xs C
  | _,_,.nil=>.nil
  | _,_,.cons h r=>.cons (h.ts s) (css_ts s r)
theorem name_ok {x:Str} (h:isName x=true):PyData.strOk x=true:=(name_asc h).flat
def TSame (H H':Hp):Prop:=∀ b ys,H b=some (.tup ys)→H' b=some (.tup ys)
theorem rnF {P:Str→Option Value} (T:Txt K P t):RnF K t:=⟨T.cl_Run,T.na_Run_code,T.na_Run_at,T.na_Run_why,T.na_Run_slots,T.na_Run_gifts,T.na_Run_notes,T.na_Run_sayings⟩
section
variable {x:Addr} {a:RAd} {C:List Cs} {s:RSt}
theorem RnAt.notup {b:Addr} {zs:List V} (R:RnAt t H x a C s) (h:H b=some (.tup zs)):¬ Ow x a b:=by
  rintro (rfl | rfl | rfl | rfl | rfl)
  · rw [R.ix] at h;cases h
  · rw [R.hs] at h;cases h
  · rw [R.hg] at h;cases h
  · rw [R.hn] at h;cases h
  · rw [R.ha] at h;cases h
theorem RnAt.ts {H':Hp} (R:RnAt t H x a C s) (k:Kp x a H H'):TSm H H':=fun b ys e=>k b _ (R.notup e) e
theorem Kp.of_same {H':Hp} (s:Same H H'):Kp x a H H':=fun b o _ e=>s b o e
theorem Kp.trans {H' H'':Hp} (h:Kp x a H H') (k:Kp x a H' H''):Kp x a H H'':=fun b o n e=>k b o n (h b o n e)
theorem kp_upd {b:Addr} {o:HO} (h:Ow x a b):Kp x a H (upd H b o):=fun c o' n e=>by rw [upd_ne (fun z=>n (by rw [z];exact h))];exact e
theorem RnAt.same {H':Hp} (R:RnAt t H x a C s) (k:Same H H'):RnAt t H' x a C s :=
  ⟨k _ _ R.ix,let ⟨xs,h1,h2⟩:=R.hc;⟨xs,k _ _ h1,cs_same k h2⟩,k _ _ R.hs,k _ _ R.hg,k _ _ R.hn,k _ _ R.ha,R.ng,R.nc⟩
theorem RnAt.keep {H':Hp} (R:RnAt t H x a C s) (k:∀ b o,OwA x a b→H b=some o→H' b=some o) (ts:TSm H H'):RnAt t H' x a C s :=
  ⟨k _ _ (.inl (.inl rfl)) R.ix,let ⟨xs,h1,h2⟩:=R.hc;⟨xs,k _ _ (.inr rfl) h1,css_ts ts h2⟩,k _ _ (.inl (.inr (.inl rfl))) R.hs,k _ _ (.inl (.inr (.inr (.inl rfl)))) R.hg,k _ _ (.inl (.inr (.inr (.inr (.inl rfl))))) R.hn,k _ _ (.inl (.inr (.inr (.inr (.inr rfl))))) R.ha,R.ng,R.nc⟩
theorem RnAt.putI (R:RnAt t H x a C s) (s':RSt) (e1:s'.sl=s.sl) (e2:s'.gi=s.gi) (e3:s'.no=s.no) (e4:s'.sa=s.sa):RnAt t (upd H x (.ins t.c_Run a.dx (rnFs a s'))) x a C s':=by
  refine ⟨upd_same,?_,?_,?_,?_,?_,R.ng,R.nc⟩
  · obtain ⟨xs,h1,h2⟩:=R.hc
    exact ⟨xs,by rw [upd_ne (ne_of h1 R.ix (fun z=>nomatch z))];exact h1,css_ts (R.ts (kp_upd (.inl rfl))) h2⟩
  · rw [upd_ne (ne_of R.hs R.ix (fun z=>nomatch z)),e1];exact R.hs
  · rw [upd_ne (ne_of R.hg R.ix (fun z=>nomatch z)),e2];exact R.hg
  · rw [upd_ne (ne_of R.hn R.ix (fun z=>nomatch z)),e3];exact R.hn
  · rw [upd_ne (ne_of R.ha R.ix (fun z=>nomatch z)),e4];exact R.ha
theorem RnAt.putS (R:RnAt t H x a C s) (kvs:List (Key × V)):RnAt t (upd H a.sl (.dK kvs)) x a C { s with sl:=kvs }:=by
  refine ⟨by rw [upd_ne (ne_of R.ix R.hs (fun z=>nomatch z))];exact R.ix,?_,upd_same,?_,?_,?_,R.ng,R.nc⟩
  · obtain ⟨xs,h1,h2⟩:=R.hc
    exact ⟨xs,by rw [upd_ne (ne_of h1 R.hs (fun z=>nomatch z))];exact h1,css_ts (R.ts (kp_upd (.inr (.inl rfl)))) h2⟩
  · rw [upd_ne (ne_of R.hg R.hs (fun z=>nomatch z))];exact R.hg
  · rw [upd_ne (ne_of R.hn R.hs (fun z=>nomatch z))];exact R.hn
  · rw [upd_ne (ne_of R.ha R.hs (fun z=>nomatch z))];exact R.ha
theorem RnAt.putG (R:RnAt t H x a C s) (rows:List Row):RnAt t (upd H a.gi (.dT (dOf rows))) x a C { s with gi:=rows }:=by
  refine ⟨by rw [upd_ne (ne_of R.ix R.hg (fun z=>nomatch z))];exact R.ix,?_,?_,upd_same,?_,?_,R.ng,R.nc⟩
  · obtain ⟨xs,h1,h2⟩:=R.hc
    exact ⟨xs,by rw [upd_ne (ne_of h1 R.hg (fun z=>nomatch z))];exact h1,css_ts (R.ts (kp_upd (.inr (.inr (.inl rfl))))) h2⟩
  · rw [upd_ne (ne_of R.hs R.hg (fun z=>nomatch z))];exact R.hs
  · rw [upd_ne (Ne.symm R.ng)];exact R.hn
  · rw [upd_ne (ne_of R.ha R.hg (fun z=>nomatch z))];exact R.ha
theorem RnAt.putO (R:RnAt t H x a C s) (rows:List Row):RnAt t (upd H a.no (.dT (dOf rows))) x a C { s with no:=rows }:=by
  refine ⟨by rw [upd_ne (ne_of R.ix R.hn (fun z=>nomatch z))];exact R.ix,?_,?_,?_,upd_same,?_,R.ng,R.nc⟩
  · obtain ⟨xs,h1,h2⟩:=R.hc
    exact ⟨xs,by rw [upd_ne (ne_of h1 R.hn (fun z=>nomatch z))];exact h1,css_ts (R.ts (kp_upd (.inr (.inr (.inr (.inl rfl)))))) h2⟩
  · rw [upd_ne (ne_of R.hs R.hn (fun z=>nomatch z))];exact R.hs
  · rw [upd_ne R.ng];exact R.hg
  · rw [upd_ne (ne_of R.ha R.hn (fun z=>nomatch z))];exact R.ha
theorem RnAt.putA (R:RnAt t H x a C s) (is:List Int):RnAt t (upd H a.sa (.lst (is.map V.int))) x a C { s with sa:=is }:=by
  refine ⟨by rw [upd_ne (ne_of R.ix R.ha (fun z=>nomatch z))];exact R.ix,?_,?_,?_,?_,upd_same,R.ng,R.nc⟩
  · obtain ⟨xs,h1,h2⟩:=R.hc
    exact ⟨xs,by rw [upd_ne R.nc];exact h1,css_ts (R.ts (kp_upd (.inr (.inr (.inr (.inr rfl)))))) h2⟩
  · rw [upd_ne (ne_of R.hs R.ha (fun z=>nomatch z))];exact R.hs
  · rw [upd_ne (ne_of R.hg R.ha (fun z=>nomatch z))];exact R.hg
  · rw [upd_ne (ne_of R.hn R.ha (fun z=>nomatch z))];exact R.hn
end
theorem over_lt {C:List Cs} {s:RSt} (h:¬ overB C s=true):s.n < C.length:=by
  unfold overB at h
  simp only [Bool.or_eq_true,decide_eq_true_eq,not_or] at h
  omega
theorem lastW_snoc (rows:List Row) (p:Pl) (w:Int):lastW (rows ++ [(p,w)]) p=some w:=by
  have h:=val_dOf (rows ++ [(p,w)]) p
  rw [dOf_snoc,valV_put,if_pos rfl] at h
  cases hl:lastW (rows ++ [(p,w)]) p with
  | none=>rw [hl] at h;cases h
  | some i=>rw [hl] at h;cases h;rfl
theorem cs_tup {v:V} {c:Cs} (h:CsAt H v c):∃ p zs hd,v=.ref p∧H p=some (.tup zs)∧atI zs 0=some (.str hd)∧(hd=Str.ofString "take"→∃ sh e x te,c=.row (.take sh e x)∧atI zs 1=some (.str sh)∧atI zs 2=some (.ref te)∧H te=some (.tup e))∧(hd≠Str.ofString "take"→∀ s,asksC c s=none):=by
  cases c with
  | row r =>
    have h1:=h.1
    cases r with
    | take sh e sl=>unfold RwAt at h1;obtain ⟨r,te,rfl,_,_,e2,e3⟩:=h1;exact ⟨r,_,_,rfl,e2,rfl,fun _=>⟨sh,e,sl,te,rfl,rfl,rfl,e3⟩,fun z=>absurd rfl z⟩
    | give sh e f=>unfold RwAt at h1;obtain ⟨r,te,tf,rfl,_,_,_,e2,e3⟩:=h1;exact ⟨r,_,_,rfl,e2,rfl,fun z=>absurd z (by decide +kernel),fun _ _=>rfl⟩
    | lt sl e=>unfold RwAt at h1;obtain ⟨r,te,rfl,_,_,e2,e3⟩:=h1;exact ⟨r,_,_,rfl,e2,rfl,fun z=>absurd z (by decide +kernel),fun _ _=>rfl⟩
    | say e=>unfold RwAt at h1;obtain ⟨r,te,rfl,_,_,e2,e3⟩:=h1;exact ⟨r,_,_,rfl,e2,rfl,fun z=>absurd z (by decide +kernel),fun _ _=>rfl⟩
    | off e=>unfold RwAt at h1;obtain ⟨r,te,rfl,_,_,e2,e3⟩:=h1;exact ⟨r,_,_,rfl,e2,rfl,fun z=>absurd z (by decide +kernel),fun _ _=>rfl⟩
    | iff e b d=>exact (h.2:False).elim
  | skip e to=>obtain ⟨p,te,e1,e2,_⟩:=h;exact ⟨p,_,_,e1,e2,rfl,fun z=>absurd z (by decide +kernel),fun _ _=>rfl⟩
  | go en=>obtain ⟨p,e1,e2⟩:=h;exact ⟨p,_,_,e1,e2,rfl,fun z=>absurd z (by decide +kernel),fun _ _=>rfl⟩
theorem val_no {κ:Type} [DecidableEq κ] {kvs:List (κ × V)} {k:κ} (h:k ∉ kvs.map (·.1)):valV kvs k=none:=by
  cases e:valV kvs k with
  | none=>rfl
  | some v=>exact absurd (valV_in e) h
theorem fold_nd:∀ (gs:List Row) (kvs:List (List Key × V)),(∀ r∈gs,plKey r.1 ∉ kvs.map (·.1))→(gs.map (·.1)).Nodup→gs.foldl dStep kvs=kvs ++ gs.map fun r=>(plKey r.1,V.int r.2)
  | [],kvs,_,_=>by simp
  | r :: gs,kvs,h,nd=>by
    rw [List.map_cons,List.nodup_cons] at nd
    rw [List.foldl_cons,dStep,putK_new _ (val_no (h r List.mem_cons_self)),fold_nd gs _ (fun q hq=>?_) nd.2,List.map_cons,List.append_assoc,List.singleton_append]
    rw [List.map_append,List.mem_append,not_or]
    refine ⟨h q (List.mem_cons_of_mem _ hq),fun z=>nd.1 ?_⟩
    have z2:plKey q.1=plKey r.1:=by simpa using z
    rw [← plKey_inj z2]
    exact List.mem_map_of_mem hq
theorem dOf_nd {gs:List Row} (nd:(gs.map (·.1)).Nodup):dOf gs=gs.map fun r=>(plKey r.1,V.int r.2):=by
  unfold dOf
  rw [fold_nd gs [] (fun _ _ h=>nomatch h) nd,List.nil_append]
theorem prs_same {H H':Hp} (s:Same H H'):∀ {ys:List V} {rows:List Row},Paired (PrAt H) ys rows→Paired (PrAt H') ys rows
  | _,_,.nil=>.nil
  | _,_,.cons ⟨r,p,e1,e2,e3⟩ t=>.cons ⟨r,p,e1,s _ _ e2,s _ _ e3⟩ (prs_same s t)
theorem ini {H HA:Hp} {x sl:Addr} {o i i':HO} (A1:SameX x H HA) (A2:HA x=some i) (h:HA sl=none):x≠sl∧H sl=none∧SameX x H (upd (upd HA sl o) x i')∧upd (upd HA sl o) x i' sl=some o∧SameX x HA (upd (upd HA sl o) x i'):=by
  have n:x≠sl:=ne_of_none A2 h
  have S:SameX x HA (upd (upd HA sl o) x i'):=fun b u nb e=>by rw [upd_ne nb,upd_ne (fun z=>by rw [z,h] at e;cases e)];exact e
  refine ⟨n,?_,fun b u nb e=>S b u nb (A1 b u nb e),by rw [upd_ne (Ne.symm n),upd_same],S⟩
  cases hs:H sl with
  | none=>rfl
  | some u=>rw [A1 sl u (Ne.symm n) hs] at h;cases h
section
variable {x:Addr} {a:RAd} {C:List Cs} {s:RSt} {E:XK}
theorem rdp_Run_over (F:RnF K t) (R:RnAt t H x a C s) (q:∀ H',Same H H'→Q (.bl (overB C s)) H') :
    rd_Run_over K t { nx:=fun _ H'=>Q .non H',rt:=Q } (L2.start ["self"] [.ref x]) H:=by
  simp only [rd_Run_over,tFld,L2.start,tRet,tOp,tVar,tC,tCons,tNil,tOrV,tCB,LenV,rI0,rNotN,cLen,List.map,List.replicate,List.length,List.append,jqa,jqb,jqc,jqd,jqe,jqf,jqg,jqh,jqi,jqj,jqk,jql,jqm,jqn,and_true,true_and,and_assoc,jqo,jqp,jqq,Nat.reduceSub,Nat.reduceAdd,jqr,jqs,jqt,Int.reduceToNat,Int.reducePow,Int.reduceNeg,Int.reduceMul,Int.reduceAdd,if_true,ite_true,jqu,ite_false,if_false]
  obtain ⟨xs,hx,pr⟩:=R.hc
  have lx:=Paired.length pr
  refine ⟨_,_,_,R.ix,F.cl,F.n3,_,rfl,?_⟩
  cases hw:s.why with
  | some w =>
    rw [if_pos (fun z=>nomatch z)]
    have e:overB C s=true:=by unfold overB;rw [hw];rfl
    rw [e] at q
    exact q H fun _ _ z=>z
  | none =>
    rw [if_neg (fun z=>z rfl)]
    refine ⟨_,_,_,R.ix,F.cl,F.n2,_,rfl,_,_,_,R.ix,F.cl,F.n1,_,rfl,xs.length,.inl ⟨_,SqL.of hx,rfl⟩,_,rfl,?_⟩
    have e:overB C s=decide ((xs.length:Int)≤(s.n:Int)):=by unfold overB;rw [hw,lx];simp
    rw [← e]
    exact q H fun _ _ z=>z
theorem rdp_Run_worth_of {tm:Addr} {e:List V} (F:RnF K t) (R:RnAt t H x a C s) (h2:SlotsOk s.sl) (h3:H tm=some (.tup e)) (h4:TermOk e)
    (q:∀ H',Same H H'→fin t (rk s.sl e) Q E H'):rd_Run_worth_of K t E { nx:=fun _ H'=>Q .non H',rt:=Q } (L2.start ["self","term"] [.ref x,.ref tm]) H:=by
  simp only [rd_Run_worth_of,sp_reckoned,tFld,L2.start,tRet,tVar,tCons,tNil,tCall,List.map,List.replicate,List.length,List.append,jqa,jqb,jqc,jqd,jqe,jqf,jqg,jqh,jqi,jqj,jqk,jql,jqm,jqn,and_true,true_and,and_assoc,jqo,jqp,jqq,Nat.reduceSub,Nat.reduceAdd,jqr,jqs,jqt,Int.reduceToNat,Int.reducePow,Int.reduceNeg,Int.reduceMul,Int.reduceAdd,if_true,ite_true,jqu,ite_false,if_false]
  exact ⟨_,_,_,R.ix,F.cl,F.n4,_,rfl,s.sl,_,rfl,e,h3,R.hs,_,h4.good s.sl,h4.2.1,h4.2.2,h2,q⟩
theorem rdp_Run_place_in {p te:Addr} {xs e:List V} {sh:Str} (F:RnF K t) (R:RnAt t H x a C s) (h2:SlotsOk s.sl) (h3:H p=some (.tup xs)) (h4:atI xs 1=some (.str sh)) (h5:atI xs 2=some (.ref te)) (h6:H te=some (.tup e)) (h7:TermOk e)
    (q1:∀ i q H',rk s.sl e=.ok i→Same H H'→H' q=some (.tup [.str sh,.int i])→Q (.ref q) H') (q2:∀ er H',rk s.sl e=.error er→Same H H'→errE t er E H') :
    rd_Run_place_in K t E { nx:=fun _ H'=>Q .non H',rt:=Q } (L2.start ["self","due"] [.ref x,.ref p]) H:=by
  simp only [rd_Run_place_in,sp_Run_worth_of,tMeth,L2.start,rIxT,tRet,tOp,tVar,tC,tTup,tCons,tNil,rIxT,List.map,List.replicate,List.length,List.append,jqa,jqb,jqc,jqd,jqe,jqf,jqg,jqh,jqi,jqj,jqk,jql,jqm,jqn,and_true,true_and,and_assoc,jqo,jqp,jqq,Nat.reduceSub,Nat.reduceAdd,jqr,jqs,jqt,Int.reduceToNat,Int.reducePow,Int.reduceNeg,Int.reduceMul,Int.reduceAdd,if_true,ite_true,jqu,ite_false,if_false]
  refine ⟨_,SqT.of h3,_,h4,_,_,R.ix,rfl,_,SqT.of h3,_,h5,_,rfl,e,a,C,s,R,h2,h6,h7,fun H1 s1=>?_⟩
  cases hk:rk s.sl e with
  | error er=>exact fin_err.mpr (q2 er H1 hk s1)
  | ok n =>
    refine fin_ok.mpr ⟨by decide,fun p hp=>?_⟩
    exact q1 n p _ hk (s1.trans (isV (o:=HO.tup [V.str sh,V.int n]) p hp)) upd_same
theorem rdp_Run_taken {q:Addr} {p:Pl} {w:Int} (F:RnF K t) (R:RnAt t H x a C s) (h2:H q=some (.tup [.str p.1,.int p.2])) (h3:s.no.length≤900)
    (k:∀ H',Kp x a H H'→RnAt t H' x a C (noteW p w s)→Q (.int (knownW p w s)) H') :
    rd_Run_taken K t { nx:=fun _ H'=>Q .non H',rt:=Q } (L2.start ["self","place","worth"] [.ref x,.ref q,.int w]) H:=by
  simp only [rd_Run_taken,sDPut,rInD,tDGet,tFld,L2.start,tSeq,tRet,tNext,tOp,tVar,tIfS,tTest,List.map,List.replicate,List.length,List.append,jqa,jqb,jqc,jqd,jqe,jqf,jqg,jqh,jqi,jqj,jqk,jql,jqm,jqn,and_true,true_and,and_assoc,jqo,jqp,jqq,Nat.reduceSub,Nat.reduceAdd,jqr,jqs,jqt,Int.reduceToNat,Int.reducePow,Int.reduceNeg,Int.reduceMul,Int.reduceAdd,if_true,ite_true,jqu,ite_false,if_false]
  have g1:DGet H a.gi (.ref q) ((lastW s.gi p).map V.int):=.inr ⟨dOf s.gi,plKey p,q,.inl R.hg,rfl,h2,(val_dOf _ _).symm⟩
  have g2:DGet H a.no (.ref q) ((lastW s.no p).map V.int):=.inr ⟨dOf s.no,plKey p,q,.inl R.hn,rfl,h2,(val_dOf _ _).symm⟩
  refine ⟨_,_,_,R.ix,F.cl,F.n5,_,rfl,_,rfl,_,g1,?_⟩
  cases hg:lastW s.gi p with
  | some i =>
    rw [if_pos (by simp)]
    have e:noteW p w s=s:=by unfold noteW;rw [if_pos (.inl (by rw [hg];rfl))]
    have e2:knownW p w s=i:=by unfold knownW;rw [hg];rfl
    rw [e,e2] at k
    rw [hg] at g1
    exact ⟨_,_,_,R.ix,F.cl,F.n5,_,rfl,_,rfl,_,g1,k H (.of_same fun _ _ z=>z) R⟩
  | none =>
    rw [if_neg (by simp)]
    refine ⟨_,_,_,R.ix,F.cl,F.n6,_,rfl,_,rfl,_,g2,?_⟩
    cases ho:lastW s.no p with
    | some i =>
      rw [if_neg (by simp)]
      have e:noteW p w s=s:=by unfold noteW;rw [if_pos (.inr (by rw [ho];rfl))]
      have e2:knownW p w s=i:=by unfold knownW;rw [hg,ho];rfl
      rw [e,e2] at k
      rw [ho] at g2
      exact ⟨_,_,_,R.ix,F.cl,F.n6,_,rfl,_,rfl,_,g2,k H (.of_same fun _ _ z=>z) R⟩
    | none =>
      rw [if_pos (by simp)]
      have e:noteW p w s={ s with no:=s.no ++ [(p,w)] }:=by unfold noteW;rw [if_neg (by rw [hg,ho];simp)]
      have e2:knownW p w s=w:=by unfold knownW;rw [hg,ho];rfl
      rw [e,e2] at k
      have ld:=len_dOf s.no
      have ep:putK (dOf s.no) (plKey p) (V.int w)=dOf (s.no ++ [(p,w)]):=(dOf_snoc s.no (p,w)).symm
      have D:=DPut.t (k:=plKey p) (v:=V.int w) R.hn h2 (Nat.lt_of_le_of_lt (by omega:_≤900) (by decide))
      rw [ep] at D
      have R2:=R.putO (s.no ++ [(p,w)])
      have K2:Kp x a H (upd H a.no (.dT (dOf (s.no ++ [(p,w)])))):=kp_upd (.inr (.inr (.inr (.inl rfl))))
      refine ⟨_,_,_,R.ix,F.cl,F.n6,_,rfl,_,rfl,_,D,_,_,_,R2.ix,F.cl,F.n6,_,rfl,_,rfl,V.int w,?_,k _ K2 R2⟩
      refine .inr ⟨_,plKey p,q,.inl R2.hn,rfl,K2 _ _ (R.notup h2) h2,?_⟩
      rw [val_dOf,lastW_snoc];rfl
theorem rdp_Run_init {l dx:Addr} {xs:List V} (F:RnF K t) (h1:H x=some (.ins t.c_Run dx [])) (h2:H l=some (.lst xs)) (h3:Paired (CsAt H) xs C)
    (q:∀ H' a,SameX x H H'→RnAt t H' x a C st0→(∀ b,OwA x a b→b=x∨H b=none)→Q .non H') :
    rd_Run_init K t { nx:=fun _ H'=>Q .non H',rt:=Q } (L2.start ["self","code"] [.ref x,.ref l]) H:=by
  simp only [rd_Run_init,tDNewT,sFld,putF,L2.start,cLst,tSeq,tVar,tC,tLst,tCons,tNil,tCB,tDNewK,List.map,List.replicate,List.length,List.append,jqa,jqb,jqc,jqd,jqe,jqf,jqg,jqh,jqi,jqj,jqk,jql,jqm,jqn,and_true,true_and,and_assoc,jqo,jqp,jqq,Nat.reduceSub,Nat.reduceAdd,jqr,jqs,jqt,Int.reduceToNat,Int.reducePow,Int.reduceNeg,Int.reduceMul,Int.reduceAdd,if_true,ite_true,jqu,ite_false,if_false]
  refine ⟨xs,.inl (SqL.of h2),fun co hco=>?_⟩
  have nco:x≠co:=ne_of_none h1 hco
  refine ⟨_,_,_,(by rw [upd_ne nco];exact h1),F.cl,F.n1,by decide,_,_,_,upd_same,F.cl,F.n2,(by show (1:Nat) < 1000;decide),_,_,_,upd_same,F.cl,F.n3,(by show (2:Nat) < 1000;decide),?_⟩
  have A1:SameX x H (upd (upd (upd (upd H co (HO.lst xs)) x (.ins t.c_Run dx (putF (Str.ofString "code") (V.ref co) []))) x (.ins t.c_Run dx (putF (Str.ofString "at") (V.int 0) (putF (Str.ofString "code") (V.ref co) [])))) x (.ins t.c_Run dx (putF (Str.ofString "why") V.non (putF (Str.ofString "at") (V.int 0) (putF (Str.ofString "code") (V.ref co) []))))):=fun b o n e=>by
    rw [upd_ne n,upd_ne n,upd_ne n,upd_ne (fun z=>by rw [z,hco] at e;cases e)];exact e
  have A2:(upd (upd (upd (upd H co (HO.lst xs)) x (.ins t.c_Run dx (putF (Str.ofString "code") (V.ref co) []))) x (.ins t.c_Run dx (putF (Str.ofString "at") (V.int 0) (putF (Str.ofString "code") (V.ref co) [])))) x (.ins t.c_Run dx (putF (Str.ofString "why") V.non (putF (Str.ofString "at") (V.int 0) (putF (Str.ofString "code") (V.ref co) []))))) x=some (.ins t.c_Run dx [(Str.ofString "code",V.ref co),(Str.ofString "at",V.int 0),(Str.ofString "why",V.non)]):=upd_same
  have A3:(upd (upd (upd (upd H co (HO.lst xs)) x (.ins t.c_Run dx (putF (Str.ofString "code") (V.ref co) []))) x (.ins t.c_Run dx (putF (Str.ofString "at") (V.int 0) (putF (Str.ofString "code") (V.ref co) [])))) x (.ins t.c_Run dx (putF (Str.ofString "why") V.non (putF (Str.ofString "at") (V.int 0) (putF (Str.ofString "code") (V.ref co) []))))) co=some (.lst xs):=by
    rw [upd_ne (Ne.symm nco),upd_ne (Ne.symm nco),upd_ne (Ne.symm nco),upd_same]
  generalize (upd (upd (upd (upd H co (HO.lst xs)) x (.ins t.c_Run dx (putF (Str.ofString "code") (V.ref co) []))) x (.ins t.c_Run dx (putF (Str.ofString "at") (V.int 0) (putF (Str.ofString "code") (V.ref co) [])))) x (.ins t.c_Run dx (putF (Str.ofString "why") V.non (putF (Str.ofString "at") (V.int 0) (putF (Str.ofString "code") (V.ref co) [])))))=HA at *
  intro sl hsl
  obtain ⟨nsl,fsl,B1,B4,B5⟩:=ini (o:=HO.dK []) (i':=HO.ins t.c_Run dx (putF (Str.ofString "slots") (V.ref sl) [(Str.ofString "code",V.ref co),(Str.ofString "at",V.int 0),(Str.ofString "why",V.non)])) A1 A2 hsl
  refine ⟨_,_,_,(by rw [upd_ne nsl];exact A2),F.cl,F.n4,(by show (3:Nat) < 1000;decide),?_⟩
  have B2:(upd (upd HA sl (HO.dK [])) x (.ins t.c_Run dx (putF (Str.ofString "slots") (V.ref sl) [(Str.ofString "code",V.ref co),(Str.ofString "at",V.int 0),(Str.ofString "why",V.non)]))) x=some (.ins t.c_Run dx [(Str.ofString "code",V.ref co),(Str.ofString "at",V.int 0),(Str.ofString "why",V.non),(Str.ofString "slots",V.ref sl)]):=upd_same
  have B_co:=B5 _ _ (Ne.symm nco) A3
  generalize (upd (upd HA sl (HO.dK [])) x (.ins t.c_Run dx (putF (Str.ofString "slots") (V.ref sl) [(Str.ofString "code",V.ref co),(Str.ofString "at",V.int 0),(Str.ofString "why",V.non)])))=HB at *
  intro gi hgi
  obtain ⟨ngi,fgi,C1,C4,C5⟩:=ini (o:=HO.dT []) (i':=HO.ins t.c_Run dx (putF (Str.ofString "gifts") (V.ref gi) [(Str.ofString "code",V.ref co),(Str.ofString "at",V.int 0),(Str.ofString "why",V.non),(Str.ofString "slots",V.ref sl)])) B1 B2 hgi
  refine ⟨_,_,_,(by rw [upd_ne ngi];exact B2),F.cl,F.n5,(by show (4:Nat) < 1000;decide),?_⟩
  have C2:(upd (upd HB gi (HO.dT [])) x (.ins t.c_Run dx (putF (Str.ofString "gifts") (V.ref gi) [(Str.ofString "code",V.ref co),(Str.ofString "at",V.int 0),(Str.ofString "why",V.non),(Str.ofString "slots",V.ref sl)]))) x=some (.ins t.c_Run dx [(Str.ofString "code",V.ref co),(Str.ofString "at",V.int 0),(Str.ofString "why",V.non),(Str.ofString "slots",V.ref sl),(Str.ofString "gifts",V.ref gi)]):=upd_same
  have C_co:=C5 _ _ (Ne.symm nco) B_co
  have C_sl:=C5 _ _ (Ne.symm nsl) B4
  generalize (upd (upd HB gi (HO.dT [])) x (.ins t.c_Run dx (putF (Str.ofString "gifts") (V.ref gi) [(Str.ofString "code",V.ref co),(Str.ofString "at",V.int 0),(Str.ofString "why",V.non),(Str.ofString "slots",V.ref sl)])))=HC at *
  intro no hno
  obtain ⟨nno,fno,D1,D4,D5⟩:=ini (o:=HO.dT []) (i':=HO.ins t.c_Run dx (putF (Str.ofString "notes") (V.ref no) [(Str.ofString "code",V.ref co),(Str.ofString "at",V.int 0),(Str.ofString "why",V.non),(Str.ofString "slots",V.ref sl),(Str.ofString "gifts",V.ref gi)])) C1 C2 hno
  refine ⟨_,_,_,(by rw [upd_ne nno];exact C2),F.cl,F.n6,(by show (5:Nat) < 1000;decide),Nat.zero_le _,?_⟩
  have D2:(upd (upd HC no (HO.dT [])) x (.ins t.c_Run dx (putF (Str.ofString "notes") (V.ref no) [(Str.ofString "code",V.ref co),(Str.ofString "at",V.int 0),(Str.ofString "why",V.non),(Str.ofString "slots",V.ref sl),(Str.ofString "gifts",V.ref gi)]))) x=some (.ins t.c_Run dx [(Str.ofString "code",V.ref co),(Str.ofString "at",V.int 0),(Str.ofString "why",V.non),(Str.ofString "slots",V.ref sl),(Str.ofString "gifts",V.ref gi),(Str.ofString "notes",V.ref no)]):=upd_same
  have D_co:=D5 _ _ (Ne.symm nco) C_co
  have D_sl:=D5 _ _ (Ne.symm nsl) C_sl
  have D_gi:=D5 _ _ (Ne.symm ngi) C4
  have ngn:gi≠no:=fun z=>by rw [← z,C4] at hno;cases hno
  generalize (upd (upd HC no (HO.dT [])) x (.ins t.c_Run dx (putF (Str.ofString "notes") (V.ref no) [(Str.ofString "code",V.ref co),(Str.ofString "at",V.int 0),(Str.ofString "why",V.non),(Str.ofString "slots",V.ref sl),(Str.ofString "gifts",V.ref gi)])))=HD at *
  intro sa hsa
  obtain ⟨nsa,fsa,E1,E4,E5⟩:=ini (o:=HO.lst []) (i':=HO.ins t.c_Run dx (putF (Str.ofString "sayings") (V.ref sa) [(Str.ofString "code",V.ref co),(Str.ofString "at",V.int 0),(Str.ofString "why",V.non),(Str.ofString "slots",V.ref sl),(Str.ofString "gifts",V.ref gi),(Str.ofString "notes",V.ref no)])) D1 D2 hsa
  refine ⟨_,_,_,(by rw [upd_ne nsa];exact D2),F.cl,F.n7,(by show (6:Nat) < 1000;decide),?_⟩
  have E2:(upd (upd HD sa (HO.lst [])) x (.ins t.c_Run dx (putF (Str.ofString "sayings") (V.ref sa) [(Str.ofString "code",V.ref co),(Str.ofString "at",V.int 0),(Str.ofString "why",V.non),(Str.ofString "slots",V.ref sl),(Str.ofString "gifts",V.ref gi),(Str.ofString "notes",V.ref no)]))) x=some (.ins t.c_Run dx [(Str.ofString "code",V.ref co),(Str.ofString "at",V.int 0),(Str.ofString "why",V.non),(Str.ofString "slots",V.ref sl),(Str.ofString "gifts",V.ref gi),(Str.ofString "notes",V.ref no),(Str.ofString "sayings",V.ref sa)]):=upd_same
  have E_co:=E5 _ _ (Ne.symm nco) D_co
  have E_sl:=E5 _ _ (Ne.symm nsl) D_sl
  have E_gi:=E5 _ _ (Ne.symm ngi) D_gi
  have E_no:=E5 _ _ (Ne.symm nno) D4
  have ncs:co≠sa:=fun z=>by rw [← z,D_co] at hsa;cases hsa
  refine q _ ⟨dx,co,sl,gi,no,sa⟩ E1 ⟨E2,⟨xs,E_co,css_ts (fun b ys e=>E1 b _ (fun z=>by rw [z,h1] at e;cases e) e) h3⟩,E_sl,E_gi,E_no,E4,ngn,ncs⟩ ?_
  rintro b ((z | z | z | z | z) | z)
  · exact .inl z
  · exact .inr (by rw [z];exact fsl)
  · exact .inr (by rw [z];exact fgi)
  · exact .inr (by rw [z];exact fno)
  · exact .inr (by rw [z];exact fsa)
  · exact .inr (by rw [z];exact hco)
theorem rdp_Run_step {P:Str→Option Value} {w:Int} {m:Nat} (T:Txt K P t) (R:RnAt t H x a C s) (h2:∀ c∈C,CsOk c) (h3:RnOk m s) (h4:m≤900) (q:∀ H',Kp x a H H'→RnAt t H' x a C (stepR C w s)→Q .non H') :
    rd_Run_step K t { nx:=fun _ H'=>Q .non H',rt:=Q } (L2.start ["self","worth"] [.ref x,.int w]) H:=by
  simp only [rd_Run_step,sp_Run_over,sp_Run_led_by,tFld,sFld,tMeth,tMethX,tTryNN,putF,sFldX,L2.start,tSeq,tRetN,tNext,tOp,tVar,tC,tCons,tNil,tIfS,tB,rIxL,List.map,List.replicate,List.length,List.append,jqa,jqb,jqc,jqd,jqe,jqf,jqg,jqh,jqi,jqj,jqk,jql,jqm,jqn,and_true,true_and,and_assoc,jqo,jqp,jqq,Nat.reduceSub,Nat.reduceAdd,jqr,jqs,jqt,Int.reduceToNat,Int.reducePow,Int.reduceNeg,Int.reduceMul,Int.reduceAdd,if_true,ite_true,jqu,ite_false,if_false]
  have F:=rnF T
  refine ⟨_,_,R.ix,rfl,a,C,s,R,fun H1 s1=>?_⟩
  have R1:=R.same s1
  by_cases ho:overB C s=true
  · rw [if_pos ho]
    exact q H1 (.of_same s1) (by unfold stepR;rw [if_pos ho];exact R1)
  rw [if_neg ho]
  obtain ⟨xs,hx,pr⟩:=R1.hc
  have lx:=Paired.length pr
  have lt:=over_lt ho
  have hc:C[s.n]?=some C[s.n]:=List.getElem?_eq_getElem lt
  have hv:xs[s.n]?=some xs[s.n]:=List.getElem?_eq_getElem (by omega)
  have cv:=paired_get pr hv hc
  have es:∀ w,stepR C w s=stepC C[s.n] w s:=fun w=>by unfold stepR;rw [if_neg ho,hc]
  rw [es] at q
  refine ⟨_,_,R1.ix,rfl,_,_,_,R1.ix,F.cl,F.n1,_,rfl,_,_,_,R1.ix,F.cl,F.n2,_,rfl,_,rfl,xs,_,rfl,SqL.of hx,_,atI_nat hv,C[s.n],m,a,C,s,R1,cv,h2 _ (List.getElem_mem lt),h3,h4,fun H2 s' k e K2 R2=>⟨_,_,_,R2.ix,F.cl,F.n2,(by show (7:Nat) < 1000;decide),?_⟩,fun H2 er e s2=>?_⟩
  · have z:=R2.putI { s' with n:=k } rfl rfl rfl rfl
    exact q _ ((Kp.of_same s1).trans (K2.trans (kp_upd (.inl rfl)))) (by unfold stepC;rw [e];exact z)
  · have R3:=R1.same s2
    have z:=R3.putI { s with why:=some (whyOf er) } rfl rfl rfl rfl
    have q':=q _ ((Kp.of_same s1).trans ((Kp.of_same s2).trans (kp_upd (.inl rfl)))) (by unfold stepC;rw [e];exact z)
    cases er with
    | nought=>exact ⟨t.c_Nought,rfl,.inr ⟨T.e_Nought_Great,T.e_Nought_Nought,_,_,_,R3.ix,F.cl,F.n3,(by show (7:Nat) < 1000;decide),q'⟩⟩
    | great=>exact ⟨t.c_Great,rfl,.inl ⟨T.e_Great_Great,_,_,_,R3.ix,F.cl,F.n3,(by show (7:Nat) < 1000;decide),q'⟩⟩
    | stuck=>trivial
theorem rdp_Run_asks {P:Str→Option Value} (T:Txt K P t) (R:RnAt t H x a C s) (h2:∀ c∈C,CsOk c) (h3:SlotsOk s.sl) (q1:∀ H',asksR C s=none→Same H H'→Q .non H') (q2:∀ p q H',asksR C s=some p→Same H H'→H' q=some (.tup [.str p.1,.int p.2])→Q (.ref q) H') :
    rd_Run_asks K t { nx:=fun _ H'=>Q .non H',rt:=Q } (L2.start ["self","place"] [.ref x]) H:=by
  simp only [rd_Run_asks,sp_Run_over,sp_Run_place_in,rInD,tFld,tMeth,tMethX,tTryT,L2.start,rIxT,tAsgX,tSeq,tRet,tNext,tOp,tVar,tC,tCons,tNil,tIfS,tOr,tTest,tB,rIxL,rIxT,rNe,scal,List.map,List.replicate,List.length,List.append,jqa,jqb,jqc,jqd,jqe,jqf,jqg,jqh,jqi,jqj,jqk,jql,jqm,jqn,and_true,true_and,and_assoc,jqo,jqp,jqq,Nat.reduceSub,Nat.reduceAdd,jqr,jqs,jqt,Int.reduceToNat,Int.reducePow,Int.reduceNeg,Int.reduceMul,Int.reduceAdd,if_true,ite_true,jqu,ite_false,if_false]
  have F:=rnF T
  refine ⟨_,_,R.ix,rfl,a,C,s,R,fun H1 s1=>?_⟩
  have R1:=R.same s1
  by_cases ho:overB C s=true
  · rw [if_pos ho]
    exact q1 H1 (by unfold asksR;rw [if_pos ho]) s1
  rw [if_neg ho]
  obtain ⟨xs,hx,pr⟩:=R1.hc
  have lx:=Paired.length pr
  have lt:=over_lt ho
  have hc:C[s.n]?=some C[s.n]:=List.getElem?_eq_getElem lt
  have hv:xs[s.n]?=some xs[s.n]:=List.getElem?_eq_getElem (by omega)
  have cv:=paired_get pr hv hc
  have ok:=h2 _ (List.getElem_mem lt)
  have es:asksR C s=asksC C[s.n] s:=by unfold asksR;rw [if_neg ho,hc];rfl
  rw [es] at q1 q2
  obtain ⟨p,zs,hd,ev,hp,h0,ht,hnt⟩:=cs_tup cv
  refine ⟨_,_,_,R1.ix,F.cl,F.n1,_,rfl,_,_,_,R1.ix,F.cl,F.n2,_,rfl,_,rfl,xs,_,rfl,SqL.of hx,_,atI_nat hv,p,ev,_,SqT.of hp,_,h0,rfl,?_⟩
  by_cases hh:hd=Str.ofString "take"
  case neg =>
    rw [if_pos (fun z=>hh (V.str.inj z))]
    exact q1 H1 (hnt hh s) s1
  rw [if_neg (fun z=>z (congrArg V.str hh))]
  obtain ⟨sh,e,sl,te,ec,a1,a2,ht⟩:=ht hh
  rw [ec] at q1 q2 ok
  unfold CsOk RwOk at ok
  simp only [rd_Run_asks_1,rd_Run_asks_2,sp_Run_place_in,rInD,tFld,tMeth,tMethX,tTryT,L2.start,rIxT,tAsgX,tSeq,tRet,tNext,tOp,tVar,tC,tCons,tNil,tIfS,tOr,tTest,tB,rIxL,rIxT,rNe,scal,List.map,List.replicate,List.length,List.append,jqa,jqb,jqc,jqd,jqe,jqf,jqg,jqh,jqi,jqj,jqk,jql,jqm,jqn,and_true,true_and,and_assoc,jqo,jqp,jqq,Nat.reduceSub,Nat.reduceAdd,jqr,jqs,jqt,Int.reduceToNat,Int.reducePow,Int.reduceNeg,Int.reduceMul,Int.reduceAdd,if_true,ite_true,jqu,ite_false,if_false]
  refine ⟨_,_,R1.ix,rfl,_,_,_,R1.ix,F.cl,F.n1,_,rfl,_,_,_,R1.ix,F.cl,F.n2,_,rfl,_,rfl,xs,_,rfl,SqL.of hx,_,atI_nat hv,p,ev,zs,sh,te,e,a,C,s,R1,h3,hp,a1,a2,ht,ok,fun i q H2 hk s2 hq=>?_,fun er H2 hk s2=>?_⟩
  case refine_2 =>
    have q':=q1 H2 (by unfold asksC;simp only [hk]) (s1.trans s2)
    cases er with
    | nought=>exact ⟨t.c_Nought,rfl,T.m_Nought_Great_Nought,q'⟩
    | great=>exact ⟨t.c_Great,rfl,T.m_Great_Great_Nought,q'⟩
    | stuck=>trivial
  have R2:=R1.same s2
  have g1:DGet H2 a.gi (.ref q) ((lastW s.gi (sh,i)).map V.int):=.inr ⟨dOf s.gi,plKey (sh,i),q,.inl R2.hg,rfl,hq,(val_dOf _ _).symm⟩
  have g2:DGet H2 a.no (.ref q) ((lastW s.no (sh,i)).map V.int):=.inr ⟨dOf s.no,plKey (sh,i),q,.inl R2.hn,rfl,hq,(val_dOf _ _).symm⟩
  refine ⟨_,_,_,R2.ix,F.cl,F.n5,_,rfl,_,rfl,_,g1,?_⟩
  cases hg:lastW s.gi (sh,i) with
  | some j =>
    rw [if_pos (by simp)]
    exact q1 H2 (by unfold asksC;simp only [hk,hg];rfl) (s1.trans s2)
  | none =>
    rw [if_neg (by simp)]
    refine ⟨_,_,_,R2.ix,F.cl,F.n6,_,rfl,_,rfl,_,g2,?_⟩
    cases hn:lastW s.no (sh,i) with
    | some j =>
      rw [if_pos (by simp)]
      exact q1 H2 (by unfold asksC;simp only [hk,hg,hn];rfl) (s1.trans s2)
    | none =>
      rw [if_neg (by simp)]
      exact q2 (sh,i) q H2 (by unfold asksC;simp only [hk,hg,hn];rfl) (s1.trans s2) hq
theorem rdp_Run_paper (F:RnF K t) (R:RnAt t H x a C s) (h2:s.no.length≤900) (h3:(s.no.map (·.1)).Nodup) (h4:s.gi.length≤63) (q1:∀ H',overB C s=false→Same H H'→Q .non H')
    (q2:∀ r o nl gl out H',overB C s=true→Same H H'→H nl=none→H gl=none→nl≠gl→H' r=some (.tup [o,.ref nl,.ref gl])→OcAt H' o (ocOf s)→LsAt H' nl s.no→LsAt H' gl out→GiOf s out→Q (.ref r) H') :
    rd_Run_paper K t { nx:=fun _ H'=>Q .non H',rt:=Q } (L2.start ["self","notes"] [.ref x]) H:=by
  simp only [rd_Run_paper,sp_Run_over,cTup,tFld,tMeth,tItems,cLstI,cSrtI,L2.start,tSeq,tAsg,gName,tRet,tNext,tOp,tVar,tC,tLst,tTup,tCons,tNil,tIfS,tNot,tTest,tB,tCB,rNotN,List.map,List.replicate,List.length,List.append,jqa,jqb,jqc,jqd,jqe,jqf,jqg,jqh,jqi,jqj,jqk,jql,jqm,jqn,and_true,true_and,and_assoc,jqo,jqp,jqq,Nat.reduceSub,Nat.reduceAdd,jqr,jqs,jqt,Int.reduceToNat,Int.reducePow,Int.reduceNeg,Int.reduceMul,Int.reduceAdd,if_true,ite_true,jqu,ite_false,if_false]
  refine ⟨_,_,R.ix,rfl,a,C,s,R,fun H1 s1=>?_⟩
  have R1:=R.same s1
  cases ho:overB C s with
  | false=>rw [if_pos rfl];exact q1 H1 ho s1
  | true =>
    rw [if_neg (by decide)]
    simp only [rd_Run_paper_1,rd_Run_paper_2,cTup,tFld,tMeth,tItems,cLstI,cSrtI,L2.start,tSeq,tAsg,gName,tRet,tNext,tOp,tVar,tC,tLst,tTup,tCons,tNil,tIfS,tNot,tTest,tB,tCB,rNotN,List.map,List.replicate,List.length,List.append,jqa,jqb,jqc,jqd,jqe,jqf,jqg,jqh,jqi,jqj,jqk,jql,jqm,jqn,and_true,true_and,and_assoc,jqo,jqp,jqq,Nat.reduceSub,Nat.reduceAdd,jqr,jqs,jqt,Int.reduceToNat,Int.reducePow,Int.reduceNeg,Int.reduceMul,Int.reduceAdd,if_true,ite_true,jqu,ite_false,if_false]
    refine ⟨_,_,_,R1.ix,F.cl,F.n6,_,rfl,_,rfl,_,R1.hn,fun r hr=>⟨a.no,upd_same,dOf s.no,(by rw [upd_ne (ne_of_none R1.hn hr)];exact R1.hn),(by have:=len_dOf s.no;omega),fun l ys H2 s2 fl hl pr=>?_⟩⟩
    have sv:=isV (o:=viewO r a.no) r hr
    have S2:=sv.trans s2
    have R2:=R1.same S2
    have nl:H l=none:=fresh_of (s1.trans sv) fl
    rw [dOf_nd h3] at pr
    have pn:=kv_pr pr
    refine ⟨_,_,_,R2.ix,F.cl,F.n3,_,rfl,?_⟩
    cases hw:s.why with
    | some w =>
      rw [if_pos (fun z=>nomatch z)]
      refine ⟨_,_,_,R2.ix,F.cl,F.n3,_,rfl,by decide,fun p hp=>⟨by decide,fun g hg=>⟨by decide,fun r2 hr2=>?_⟩⟩⟩
      rw [hw]
      rw [hw] at hg hr2
      have t1:=isV (o:=HO.tup [V.str (Str.ofString "off"),whyV (some w)]) p hp
      have t2:=isV (o:=HO.lst []) g hg
      have t3:=isV (o:=HO.tup [V.ref p,V.ref l,V.ref g]) r2 hr2
      have T3:=t1.trans (t2.trans t3)
      refine q2 r2 (.ref p) l g [] _ ho (s1.trans (S2.trans T3)) nl (fresh_of (s1.trans (S2.trans t1)) hg) (fun z=>by rw [← z,t1 _ _ hl] at hg;cases hg) upd_same ?_ ⟨ys,T3 _ _ hl,prs_same T3 pn⟩ ⟨[],t3 _ _ upd_same,.nil⟩ ?_
      · unfold ocOf;rw [hw];exact ⟨p,rfl,(t2.trans t3) _ _ upd_same⟩
      · unfold GiOf;rw [hw]
    | none =>
      rw [if_neg (fun z=>z rfl)]
      refine ⟨_,_,_,R2.ix,F.cl,F.n7,_,rfl,_,rfl,_,.inl ⟨SqL.of R2.ha,fun y hy=>⟨by decide,fun p hp=>?_⟩⟩⟩
      have t1:=isV (o:=HO.tup (List.map V.int s.sa)) y hy
      have t2:=isV (o:=HO.tup [V.str (Str.ofString "done"),V.ref y]) p hp
      have R3:=R2.same (t1.trans t2)
      have ly:=t2 _ _ (upd_same (H:=H2) (a:=y) (o:=HO.tup (List.map V.int s.sa)))
      have lp:upd (upd H2 y (HO.tup (List.map V.int s.sa))) p (HO.tup [V.str (Str.ofString "done"),V.ref y]) p=some (HO.tup [V.str (Str.ofString "done"),V.ref y]):=upd_same
      have T2:=t1.trans t2
      generalize upd (upd H2 y (HO.tup (List.map V.int s.sa))) p (HO.tup [V.str (Str.ofString "done"),V.ref y])=H3 at *
      refine ⟨_,_,_,R3.ix,F.cl,F.n5,_,rfl,_,rfl,_,R3.hg,fun r3 hr3=>⟨a.gi,upd_same,s.gi,(by rw [upd_ne (ne_of_none R3.hg hr3)];exact R3.hg),(by have:=len_dOf s.gi;omega),fun g zs srt H4 s4 fg hg ps ri mi=>⟨by decide,fun r2 hr2=>?_⟩⟩⟩
      have t3:=(isV (o:=viewO r3 a.gi) r3 hr3).trans s4
      have t5:=isV (o:=HO.tup [V.ref p,V.ref l,V.ref g]) r2 hr2
      have T5:=t3.trans t5
      have fg3:H3 g=none:=fresh_of (isV (o:=viewO r3 a.gi) r3 hr3) fg
      refine q2 r2 (.ref p) l g srt _ ho (s1.trans (S2.trans (T2.trans T5))) nl (fresh_of (s1.trans (S2.trans T2)) fg3) (fun z=>by rw [← z,T2 _ _ hl] at fg3;cases fg3) upd_same ?_ ⟨ys,(T2.trans T5) _ _ hl,prs_same (T2.trans T5) pn⟩ ⟨zs,t5 _ _ hg,prs_same t5 ps⟩ ?_
      · unfold ocOf;rw [hw];exact ⟨p,y,rfl,T5 _ _ lp,T5 _ _ ly⟩
      · unfold GiOf;rw [hw];exact ⟨ri,mi⟩
end
theorem noteW_sl (p:Pl) (w:Int) (s:RSt):(noteW p w s).sl=s.sl:=by unfold noteW;split <;> rfl
theorem noteW_n (p:Pl) (w:Int) (s:RSt):(noteW p w s).n=s.n:=by unfold noteW;split <;> rfl
theorem doR_n {r:Rw} {w:Int} {s s':RSt} (h:isDoes r) (e:doR r w s=.ok s'):s'.n=s.n:=by
  cases r with
  | take sh e' x =>
    cases hk:rk s.sl e' with
    | error er=>simp only [doR,hk] at e;cases e
    | ok n=>simp only [doR,hk] at e;cases e;exact noteW_n _ _ _
  | give sh e' f =>
    cases hk:rk s.sl e' with
    | error er=>simp only [doR,hk] at e;cases e
    | ok n =>
      cases hk2:rk s.sl f with
      | error er=>simp only [doR,hk,hk2] at e;cases e
      | ok i=>simp only [doR,hk,hk2] at e;cases e;rfl
  | lt x e' =>
    cases hk:rk s.sl e' with
    | error er=>simp only [doR,hk] at e;cases e
    | ok n=>simp only [doR,hk] at e;cases e;rfl
  | say e' =>
    cases hk:rk s.sl e' with
    | error er=>simp only [doR,hk] at e;cases e
    | ok n=>simp only [doR,hk] at e;cases e;rfl
  | off e'=>exact h.elim
  | iff e' b d=>exact h.elim
theorem led_does {r:Rw} {w:Int} {s:RSt} (h:isDoes r):ledC (.row r) w s=match doR r w s with
    | .error er=>.error er
    | .ok s'=>.ok (s.n + 1,s'):=by
  cases r with
  | off e'=>exact h.elim
  | iff e' b d=>exact h.elim
  | take sh e' x=>rfl
  | give sh e' f=>rfl
  | lt x e'=>rfl
  | say e'=>rfl
theorem does_or (r:Rw) (h:noIf r):(∃ e,r=.off e)∨isDoes r:=by
  cases r with
  | off e'=>exact .inl ⟨e',rfl⟩
  | iff e' b d=>exact h.elim
  | take sh e' x=>exact .inr trivial
  | give sh e' f=>exact .inr trivial
  | lt x e'=>exact .inr trivial
  | say e'=>exact .inr trivial
theorem does_hd {F:Addr→Prop} {v:V} {r:Rw} (h:RwAt F H v r) (d:isDoes r):∃ p xs hd,v=.ref p∧H p=some (.tup xs)∧atI xs 0=some (.str hd)∧hd≠Str.ofString "go"∧hd≠Str.ofString "skip"∧hd≠Str.ofString "off":=by
  cases r with
  | take sh e sl=>unfold RwAt at h;obtain ⟨r,te,rfl,_,_,e2,e3⟩:=h;exact ⟨r,_,_,rfl,e2,rfl,by decide +kernel,by decide +kernel,by decide +kernel⟩
  | give sh e f=>unfold RwAt at h;obtain ⟨r,te,tf,rfl,_,_,_,e2,e3⟩:=h;exact ⟨r,_,_,rfl,e2,rfl,by decide +kernel,by decide +kernel,by decide +kernel⟩
  | lt sl e=>unfold RwAt at h;obtain ⟨r,te,rfl,_,_,e2,e3⟩:=h;exact ⟨r,_,_,rfl,e2,rfl,by decide +kernel,by decide +kernel,by decide +kernel⟩
  | say e=>unfold RwAt at h;obtain ⟨r,te,rfl,_,_,e2,e3⟩:=h;exact ⟨r,_,_,rfl,e2,rfl,by decide +kernel,by decide +kernel,by decide +kernel⟩
  | off e=>exact d.elim
  | iff e a b=>exact d.elim
section
variable {x:Addr} {a:RAd} {C:List Cs} {s:RSt} {E:XK}
theorem rdp_Run_does {v:V} {r:Rw} {w:Int} {m:Nat} (F:RnF K t) (R:RnAt t H x a C s) (h1:RwAt anyA H v r) (h2:isDoes r) (h3:RwOk r) (h4:RnOk m s) (h5:m≤900)
    (q1:∀ H' s',doR r w s=.ok s'→Kp x a H H'→RnAt t H' x a C s'→Q .non H') (q2:∀ H' er,doR r w s=.error er→Same H H'→errE t er E H') :
    rd_Run_does K t E { nx:=fun _ H'=>Q .non H',rt:=Q } (L2.start ["self","due","worth","place"] [.ref x,v,.int w]) H:=by
  have l1:=h4.l1
  have l2:=h4.l2
  have l4:=h4.l4
  have so:=h4.so
  cases r with
  | take sh e sl' =>
    unfold RwAt at h1
    unfold RwOk at h3
    obtain ⟨r,te,rfl,_,_,e2,e3⟩:=h1
    simp only [rd_Run_does,sp_Run_worth_of,sp_Run_place_in,sp_Run_taken,sDPut,tFld,tMeth,L2.start,r_mt_append,rAppend,rIxT,tSeq,tAsg,gName,tDrop,tOp,tVar,tC,tCons,tNil,tIfS,tTest,tBM,tyV,rIxT,rEq,scal,List.map,List.replicate,List.length,List.append,jqa,jqb,jqc,jqd,jqe,jqf,jqg,jqh,jqi,jqj,jqk,jql,jqm,jqn,and_true,true_and,and_assoc,jqo,jqp,jqq,Nat.reduceSub,Nat.reduceAdd,jqr,jqs,jqt,Int.reduceToNat,Int.reducePow,Int.reduceNeg,Int.reduceMul,Int.reduceAdd,if_true,ite_true,jqu,ite_false,if_false]
    refine ⟨_,SqT.of e2,_,rfl,rfl,?_⟩
    rw [if_pos rfl]
    refine ⟨_,_,R.ix,rfl,_,_,R.ix,rfl,_,sh,te,e,a,C,s,R,so,e2,rfl,rfl,e3,h3,fun i q H1 hk s1 hq=>?_,fun er H1 hk s1=>q2 H1 er (by unfold doR;simp only [hk]) s1⟩
    have R1:=R.same s1
    refine ⟨(sh,i),a,C,s,R1,hq,by have:=h4.l3;omega,fun H2 K2 R2=>?_⟩
    have hs2:=R2.hs
    rw [noteW_sl] at hs2
    exact ⟨_,_,_,R2.ix,F.cl,F.n4,_,rfl,_,SqT.of (K2 _ _ (R1.notup (s1 _ _ e2)) (s1 _ _ e2)),_,rfl,_,rfl,_,DPut.k (k:=.inr sl') hs2 (Nat.lt_of_le_of_lt (by omega:_≤900) (by decide)),q1 _ _ (by unfold doR;simp only [hk]) ((Kp.of_same s1).trans (K2.trans (kp_upd (.inr (.inl rfl))))) (R2.putS _)⟩
  | give sh e f =>
    unfold RwAt at h1
    unfold RwOk at h3
    obtain ⟨r,te,tf,rfl,_,_,_,e2,e3,e4⟩:=h1
    simp only [rd_Run_does,sp_Run_worth_of,sp_Run_place_in,sp_Run_taken,sDPut,tFld,tMeth,L2.start,r_mt_append,rAppend,rIxT,tSeq,tAsg,gName,tDrop,tOp,tVar,tC,tCons,tNil,tIfS,tTest,tBM,tyV,rIxT,rEq,scal,List.map,List.replicate,List.length,List.append,jqa,jqb,jqc,jqd,jqe,jqf,jqg,jqh,jqi,jqj,jqk,jql,jqm,jqn,and_true,true_and,and_assoc,jqo,jqp,jqq,Nat.reduceSub,Nat.reduceAdd,jqr,jqs,jqt,Int.reduceToNat,Int.reducePow,Int.reduceNeg,Int.reduceMul,Int.reduceAdd,if_true,ite_true,jqu,ite_false,if_false]
    refine ⟨_,SqT.of e2,_,rfl,rfl,?_⟩
    rw [if_neg (by decide)]
    refine ⟨_,SqT.of e2,_,rfl,rfl,?_⟩
    rw [if_pos rfl]
    refine ⟨_,_,R.ix,rfl,_,sh,te,e,a,C,s,R,so,e2,rfl,rfl,e3,h3.1,fun i q H1 hk s1 hq=>?_,fun er H1 hk s1=>q2 H1 er (by unfold doR;simp only [hk]) s1⟩
    have R1:=R.same s1
    refine ⟨_,_,R1.ix,rfl,_,SqT.of (s1 _ _ e2),_,rfl,_,rfl,f,a,C,s,R1,so,s1 _ _ e4,h3.2,fun H3 s3=>?_⟩
    cases hk2:rk s.sl f with
    | error er=>exact fin_err.mpr (q2 H3 er (by unfold doR;simp only [hk,hk2]) (s1.trans s3))
    | ok n =>
      have R3:=R1.same s3
      have ld:=len_dOf s.gi
      refine fin_ok.mpr ⟨_,_,_,R3.ix,F.cl,F.n5,_,rfl,_,rfl,_,DPut.t (k:=plKey (sh,i)) R3.hg (s3 _ _ hq) (Nat.lt_of_le_of_lt (by omega:_≤900) (by decide)),?_⟩
      rw [show putK (dOf s.gi) (plKey (sh,i)) (V.int n)=dOf (s.gi ++ [((sh,i),n)]) from (dOf_snoc s.gi ((sh,i),n)).symm]
      exact q1 _ _ (by unfold doR;simp only [hk,hk2]) ((Kp.of_same (s1.trans s3)).trans (kp_upd (.inr (.inr (.inl rfl))))) (R3.putG _)
  | lt sl' e =>
    unfold RwAt at h1
    unfold RwOk at h3
    obtain ⟨r,te,rfl,_,_,e2,e3⟩:=h1
    simp only [rd_Run_does,sp_Run_worth_of,sp_Run_place_in,sp_Run_taken,sDPut,tFld,tMeth,L2.start,r_mt_append,rAppend,rIxT,tSeq,tAsg,gName,tDrop,tOp,tVar,tC,tCons,tNil,tIfS,tTest,tBM,tyV,rIxT,rEq,scal,List.map,List.replicate,List.length,List.append,jqa,jqb,jqc,jqd,jqe,jqf,jqg,jqh,jqi,jqj,jqk,jql,jqm,jqn,and_true,true_and,and_assoc,jqo,jqp,jqq,Nat.reduceSub,Nat.reduceAdd,jqr,jqs,jqt,Int.reduceToNat,Int.reducePow,Int.reduceNeg,Int.reduceMul,Int.reduceAdd,if_true,ite_true,jqu,ite_false,if_false]
    refine ⟨_,SqT.of e2,_,rfl,rfl,?_⟩
    rw [if_neg (by decide)]
    refine ⟨_,SqT.of e2,_,rfl,rfl,?_⟩
    rw [if_neg (by decide)]
    refine ⟨_,SqT.of e2,_,rfl,rfl,?_⟩
    rw [if_pos rfl]
    refine ⟨_,_,R.ix,rfl,_,SqT.of e2,_,rfl,_,rfl,e,a,C,s,R,so,e3,h3,fun H1 s1=>?_⟩
    cases hk:rk s.sl e with
    | error er=>exact fin_err.mpr (q2 H1 er (by unfold doR;simp only [hk]) s1)
    | ok n =>
      have R2:=R.same s1
      exact fin_ok.mpr ⟨_,_,_,R2.ix,F.cl,F.n4,_,rfl,_,SqT.of (s1 _ _ e2),_,rfl,_,rfl,_,DPut.k (k:=.inr sl') R2.hs (Nat.lt_of_le_of_lt (by omega:_≤900) (by decide)),q1 _ _ (by unfold doR;simp only [hk]) ((Kp.of_same s1).trans (kp_upd (.inr (.inl rfl)))) (R2.putS _)⟩
  | say e =>
    unfold RwAt at h1
    unfold RwOk at h3
    obtain ⟨r,te,rfl,_,_,e2,e3⟩:=h1
    simp only [rd_Run_does,sp_Run_worth_of,sp_Run_place_in,sp_Run_taken,sDPut,tFld,tMeth,L2.start,r_mt_append,rAppend,rIxT,tSeq,tAsg,gName,tDrop,tOp,tVar,tC,tCons,tNil,tIfS,tTest,tBM,tyV,rIxT,rEq,scal,List.map,List.replicate,List.length,List.append,jqa,jqb,jqc,jqd,jqe,jqf,jqg,jqh,jqi,jqj,jqk,jql,jqm,jqn,and_true,true_and,and_assoc,jqo,jqp,jqq,Nat.reduceSub,Nat.reduceAdd,jqr,jqs,jqt,Int.reduceToNat,Int.reducePow,Int.reduceNeg,Int.reduceMul,Int.reduceAdd,if_true,ite_true,jqu,ite_false,if_false]
    refine ⟨_,SqT.of e2,_,rfl,rfl,?_⟩
    rw [if_neg (by decide)]
    refine ⟨_,SqT.of e2,_,rfl,rfl,?_⟩
    rw [if_neg (by decide)]
    refine ⟨_,SqT.of e2,_,rfl,rfl,?_⟩
    rw [if_neg (by decide)]
    refine ⟨_,_,_,R.ix,F.cl,F.n7,_,rfl,.inl ⟨_,SqL.of R.ha⟩,_,_,R.ix,rfl,_,SqT.of e2,_,rfl,_,rfl,e,a,C,s,R,so,e3,h3,fun H1 s1=>?_⟩
    cases hk:rk s.sl e with
    | error er=>exact fin_err.mpr (q2 H1 er (by unfold doR;simp only [hk]) s1)
    | ok n =>
      have R1:=R.same s1
      refine fin_ok.mpr ⟨_,rfl,_,R1.ha,Nat.lt_of_le_of_lt (by rw [List.length_map];omega:_≤900) (by decide),?_⟩
      rw [show List.map V.int s.sa ++ [V.int n]=List.map V.int (s.sa ++ [n]) by simp]
      exact q1 _ _ (by unfold doR;simp only [hk]) ((Kp.of_same s1).trans (kp_upd (.inr (.inr (.inr (.inr rfl)))))) (R1.putA _)
  | off e=>exact h2.elim
  | iff e b d=>exact h2.elim
theorem rdp_Run_led_by {v:V} {c:Cs} {w:Int} {m:Nat} (F:RnF K t) (R:RnAt t H x a C s) (h1:CsAt H v c) (h2:CsOk c) (h3:RnOk m s) (h4:m≤900)
    (q1:∀ H' s' k,ledC c w s=.ok (k,s')→Kp x a H H'→RnAt t H' x a C s'→Q (.int (k:Nat)) H') (q2:∀ H' er,ledC c w s=.error er→Same H H'→errE t er E H') :
    rd_Run_led_by K t E { nx:=fun _ H'=>Q .non H',rt:=Q } (L2.start ["self","due","worth"] [.ref x,v,.int w]) H:=by
  have so:=h3.so
  cases c with
  | go en =>
    obtain ⟨p,rfl,e2⟩:=h1
    simp only [rd_Run_led_by,sp_Run_worth_of,sp_Run_does,tFld,sFld,tMeth,putF,L2.start,rIxT,tSeq,tRet,tDrop,tNext,tOp,tVar,tC,tCons,tNil,tIfS,tTest,tIf,rIxT,rEq,rNe,rI0,scal,List.map,List.replicate,List.length,List.append,jqa,jqb,jqc,jqd,jqe,jqf,jqg,jqh,jqi,jqj,jqk,jql,jqm,jqn,and_true,true_and,and_assoc,jqo,jqp,jqq,Nat.reduceSub,Nat.reduceAdd,jqr,jqs,jqt,Int.reduceToNat,Int.reducePow,Int.reduceNeg,Int.reduceMul,Int.reduceAdd,if_true,ite_true,jqu,ite_false,if_false]
    refine ⟨_,SqT.of e2,_,rfl,rfl,?_⟩
    rw [if_pos rfl]
    exact ⟨_,SqT.of e2,_,rfl,q1 H s en rfl (.of_same fun _ _ z=>z) R⟩
  | skip e to =>
    obtain ⟨p,te,rfl,e2,e3⟩:=h1
    simp only [rd_Run_led_by,sp_Run_worth_of,sp_Run_does,tFld,sFld,tMeth,putF,L2.start,rIxT,tSeq,tRet,tDrop,tNext,tOp,tVar,tC,tCons,tNil,tIfS,tTest,tIf,rIxT,rEq,rNe,rI0,scal,List.map,List.replicate,List.length,List.append,jqa,jqb,jqc,jqd,jqe,jqf,jqg,jqh,jqi,jqj,jqk,jql,jqm,jqn,and_true,true_and,and_assoc,jqo,jqp,jqq,Nat.reduceSub,Nat.reduceAdd,jqr,jqs,jqt,Int.reduceToNat,Int.reducePow,Int.reduceNeg,Int.reduceMul,Int.reduceAdd,if_true,ite_true,jqu,ite_false,if_false]
    refine ⟨_,SqT.of e2,_,rfl,rfl,?_⟩
    rw [if_neg (by decide)]
    refine ⟨_,SqT.of e2,_,rfl,rfl,?_⟩
    rw [if_pos rfl]
    refine ⟨_,_,R.ix,rfl,_,SqT.of e2,_,rfl,_,rfl,e,a,C,s,R,so,e3,h2,fun H1 s1=>?_⟩
    cases hk:rk s.sl e with
    | error er=>exact fin_err.mpr (q2 H1 er (by unfold ledC;simp only [hk]) s1)
    | ok n =>
      have R2:=R.same s1
      refine fin_ok.mpr ⟨rfl,?_⟩
      by_cases hn:n=0
      · rw [if_pos (congrArg V.int hn)]
        exact ⟨_,SqT.of (s1 _ _ e2),_,rfl,q1 H1 s to (by unfold ledC;simp only [hk,if_pos hn]) (.of_same s1) R2⟩
      · rw [if_neg (fun z=>hn (V.int.inj z))]
        exact ⟨_,_,_,R2.ix,F.cl,F.n2,_,rfl,_,rfl,q1 H1 s (s.n + 1) (by unfold ledC;simp only [hk,if_neg hn]) (.of_same s1) R2⟩
  | row r =>
    obtain ⟨h1,hni⟩:=h1
    rcases does_or r hni with ⟨e,rfl⟩ | hdo
    · unfold RwAt at h1
      unfold CsOk RwOk at h2
      obtain ⟨r,te,rfl,_,_,e2,e3⟩:=h1
      simp only [rd_Run_led_by,sp_Run_worth_of,sp_Run_does,tFld,sFld,tMeth,putF,L2.start,rIxT,tSeq,tRet,tDrop,tNext,tOp,tVar,tC,tCons,tNil,tIfS,tTest,tIf,rIxT,rEq,rNe,rI0,scal,List.map,List.replicate,List.length,List.append,jqa,jqb,jqc,jqd,jqe,jqf,jqg,jqh,jqi,jqj,jqk,jql,jqm,jqn,and_true,true_and,and_assoc,jqo,jqp,jqq,Nat.reduceSub,Nat.reduceAdd,jqr,jqs,jqt,Int.reduceToNat,Int.reducePow,Int.reduceNeg,Int.reduceMul,Int.reduceAdd,if_true,ite_true,jqu,ite_false,if_false]
      refine ⟨_,SqT.of e2,_,rfl,rfl,?_⟩
      rw [if_neg (by decide)]
      refine ⟨_,SqT.of e2,_,rfl,rfl,?_⟩
      rw [if_neg (by decide)]
      refine ⟨_,SqT.of e2,_,rfl,rfl,?_⟩
      rw [if_pos rfl]
      refine ⟨_,_,R.ix,rfl,_,SqT.of e2,_,rfl,_,rfl,e,a,C,s,R,so,e3,h2,fun H1 s1=>?_⟩
      cases hk:rk s.sl e with
      | error er=>exact fin_err.mpr (q2 H1 er (by unfold ledC;simp only [hk]) s1)
      | ok n =>
        have R2:=R.same s1
        refine fin_ok.mpr ⟨rfl,?_⟩
        by_cases hn:n=0
        · rw [if_neg (fun z=>z (congrArg V.int hn))]
          exact ⟨_,_,_,R2.ix,F.cl,F.n2,_,rfl,_,rfl,q1 H1 s (s.n + 1) (by unfold ledC;simp only [hk,if_pos hn]) (.of_same s1) R2⟩
        · rw [if_pos (fun z=>hn (V.int.inj z))]
          have R3:=R2.putI { s with why:=some (Str.ofString "told") } rfl rfl rfl rfl
          refine ⟨_,_,_,R2.ix,F.cl,F.n3,(by show (7:Nat) < 1000;decide),_,_,_,R3.ix,F.cl,F.n2,_,rfl,_,rfl,?_⟩
          exact q1 _ { s with why:=some (Str.ofString "told") } (s.n + 1) (by unfold ledC;simp only [hk,if_neg hn]) ((Kp.of_same s1).trans (kp_upd (.inl rfl))) R3
    · obtain ⟨p,zs,hd,rfl,e2,e3,n1,n2,n3⟩:=does_hd h1 hdo
      have el:=led_does (w:=w) (s:=s) hdo
      simp only [rd_Run_led_by,sp_Run_worth_of,sp_Run_does,tFld,sFld,tMeth,putF,L2.start,rIxT,tSeq,tRet,tDrop,tNext,tOp,tVar,tC,tCons,tNil,tIfS,tTest,tIf,rIxT,rEq,rNe,rI0,scal,List.map,List.replicate,List.length,List.append,jqa,jqb,jqc,jqd,jqe,jqf,jqg,jqh,jqi,jqj,jqk,jql,jqm,jqn,and_true,true_and,and_assoc,jqo,jqp,jqq,Nat.reduceSub,Nat.reduceAdd,jqr,jqs,jqt,Int.reduceToNat,Int.reducePow,Int.reduceNeg,Int.reduceMul,Int.reduceAdd,if_true,ite_true,jqu,ite_false,if_false]
      refine ⟨_,SqT.of e2,_,e3,rfl,?_⟩
      rw [if_neg (fun z=>n1 (V.str.inj z))]
      refine ⟨_,SqT.of e2,_,e3,rfl,?_⟩
      rw [if_neg (fun z=>n2 (V.str.inj z))]
      refine ⟨_,SqT.of e2,_,e3,rfl,?_⟩
      rw [if_neg (fun z=>n3 (V.str.inj z))]
      refine ⟨_,_,R.ix,rfl,r,m,a,C,s,R,h1,hdo,h2,h3,h4,fun H1 s' e K1 R1=>?_,fun H1 er e s1=>q2 H1 er (by rw [el,e]) s1⟩
      have en:=doR_n hdo e
      refine ⟨_,_,_,R1.ix,F.cl,F.n2,_,rfl,_,rfl,?_⟩
      exact q1 H1 s' (s'.n + 1) (by rw [el,e,en]) K1 R1
end
def allP (P:Nat→Bool) (x:Str):Prop:=x.cps.toList.all P=true
theorem allP_app {P:Nat→Bool} {x y:Str} (h:allP P x) (h':allP P y):allP P (x ++ y):=by
  unfold allP at *
  rw [cps_app,List.all_append,h,h'];rfl
theorem allP_one {P:Nat→Bool} {c:Nat} (h:P c=true):allP P ⟨#[c]⟩:=by
  show [c].all P=true
  rw [List.all_cons,h];rfl
theorem allP_to {P:Nat→Bool} {x:Str} (h:allP P x) (k:Nat):allP P (Txt.slice x none (some (k:Int))):=by
  unfold allP at *
  rw [slice_to]
  rw [List.all_eq_true] at *
  exact fun c hc=>h c (List.mem_of_mem_take hc)
theorem allP_from {P:Nat→Bool} {x:Str} (h:allP P x) (k:Nat):allP P (Txt.slice x (some (k:Int)) none):=by
  unfold allP at *
  rw [slice_from]
  rw [List.all_eq_true] at *
  exact fun c hc=>h c (List.mem_of_mem_drop hc)
theorem len_to (x:Str) (k:Nat) (h:k≤x.length):(Txt.slice x none (some (k:Int))).length=k:=by
  rw [len_cps] at *
  rw [slice_to,List.length_take];omega
theorem len_from (x:Str) (k:Nat):(Txt.slice x (some (k:Int)) none).length=x.length - k:=by
  rw [len_cps,len_cps,slice_from,List.length_drop]
def inC (c:Nat):Bool:=(Str.ofString "zyxwvtsrqpnmlkjhgfdcb").cps.toList.contains c
theorem inC_L:∀ c∈(Str.ofString "zyxwvtsrqpnmlkjhgfdcb").cps.toList,inL c=true:=by decide +kernel
theorem c_in:∀ c∈(Str.ofString "zyxwvtsrqpnmlkjhgfdcb").cps.toList,inC c=true:=fun c hc=>by unfold inC;exact List.contains_iff_mem.mpr hc
theorem z_in:∀ c∈(Str.ofString "zyxwvutsrqponmlkjihgfedcba").cps.toList,inL c=true:=by decide +kernel
theorem words_six:∀ v∈jw ++ wl,(match v with | .str w=>decide (w.length≠6) && !(w.cps.toList.all inC) | _=>true)=true:=by decide +kernel
theorem no_word {x:Str} (h:x.length=6∨allP inC x):(inV (.str x) jw || inV (.str x) wl)=false:=by
  have key:∀ v∈jw ++ wl,eqV v (.str x)=false:=fun v hv=>by
    have w:=words_six v hv
    cases e:eqV v (.str x) with
    | false=>rfl
    | true =>
      cases v <;> simp only [eqV,Bool.false_eq_true] at e
      rename_i y
      have e':y=x:=by simpa using e
      subst e'
      simp only [Bool.and_eq_true,decide_eq_true_eq,Bool.not_eq_true'] at w
      rcases h with h | h
      · exact absurd h w.1
      · unfold allP at h;rw [h] at w;exact absurd w.2 (by decide)
  rw [Bool.or_eq_false_iff]
  unfold inV
  constructor
  · rw [List.any_eq_false]
    exact fun v hv=>by rw [key v (List.mem_append_left _ hv)];decide
  · rw [List.any_eq_false]
    exact fun v hv=>by rw [key v (List.mem_append_right _ hv)];decide
theorem name_of {x:Str} (h1:1≤x.length) (h2:x.length≤6) (h3:(x.length=6∧allP inL x)∨allP inC x):isName x=true:=by
  have nw:(inV (.str x) jw || inV (.str x) wl)=false:=no_word (h3.imp (·.1) id)
  have al:x.cps.toList.all inL=true:=by
    rcases h3 with h | h
    · exact h.2
    · unfold allP at h
      rw [List.all_eq_true] at *
      exact fun c hc=>inC_L c (List.contains_iff_mem.mp (h c hc))
  have ne:decide (x="")=false:=decide_eq_false fun z=>by rw [z] at h1;exact absurd h1 (by decide)
  have nl:decide (6 < x.length)=false:=decide_eq_false (by omega)
  unfold isName
  rw [nw,al,ne,nl];rfl
structure Sgn (P:Nat→Bool) (sz:Nat) (sg:Str):Prop where
  al:allP P sg
  lo:21≤sg.length
  hi:sg.length≤26
  s1:1≤sz
  s6:sz≤6
  nm:∀ x:Str,x.length=sz→allP P x→isName x=true
theorem sgn_at {P:Nat→Bool} {sz:Nat} {sg:Str} (S:Sgn P sz sg) {i:Int} (h0:0≤i) (h1:i < sg.length):∃ c,atI sg.cps.toList i=some c∧P c=true:=by
  obtain ⟨c,hc,hm⟩:=at_lt (xs:=sg.cps.toList) (i:=i) h0 (by rw [← len_cps];exact h1)
  exact ⟨c,hc,List.all_eq_true.mp S.al c hm⟩
theorem strs_of {P:Str→Prop}:∀ {ys:List V},(∀ v∈ys,∃ x,v=.str x∧P x)→∃ ls:List Str,ys=ls.map V.str∧∀ x∈ls,P x
  | [],_=>⟨[],rfl,fun _ z=>nomatch z⟩
  | v :: r,h=>by
    obtain ⟨x,rfl,px⟩:=h v List.mem_cons_self
    obtain ⟨ls,rfl,pl⟩:=strs_of (ys:=r) fun u hu=>h u (List.mem_cons_of_mem _ hu)
    exact ⟨x :: ls,rfl,fun y hy=>by
      rcases List.mem_cons.mp hy with rfl | hy
      · exact px
      · exact pl y hy⟩
def nmV (v:V):Prop:=∃ x:Str,v=.str x∧isName x=true
theorem rdp_nm8 {P:Nat→Bool} {sz:Nat} {sg stem:Str} {c m tn:Int} {o5:Option V} {at_:Nat} (S:Sgn P sz sg) (hs:stem.length=sz) (hp:allP P stem) (ha:at_ < sz) (h1:0≤m) (h2:m≤6) (q:∀ nm ws H',Same H H'→NamesAt H' nm ws→(ws.length:Int)=m→Q (.ref nm) H') :
    rd__law_names_8 K t { nx:=fun _ H'=>Q .non H',rt:=Q } [some (.int c),some (.int m),some (.int sz),some (.str sg),some (.str stem),o5,some (.int at_),some (.int tn)] H:=by
  simp only [rd__law_names_8,L2.start,gName,tRet,tOp,tVar,tC,tCons,tNil,tSl,tPart,tNoPart,tComp,tYes,capV,iRng1,rIxS,rI0,rSlS,rAddS,List.map,List.replicate,List.length,List.append,jqa,jqb,jqc,jqd,jqe,jqf,jqg,jqh,jqi,jqj,jqk,jql,jqm,jqn,and_true,true_and,and_assoc,jqo,jqp,jqq,Nat.reduceSub,Nat.reduceAdd,jqr,jqs,jqt,Int.reduceToNat,Int.reducePow,Int.reduceNeg,Int.reduceMul,Int.reduceAdd,if_true,ite_true,jqu,ite_false,if_false]
  have lo:=S.lo
  have hi:=S.hi
  have s6:=S.s6
  refine ⟨by omega,by omega,fun D hD=>?_⟩
  refine comp_gen (J:=Itr 0 m.toNat) m.toNat (by omega) (fun τ=>∃ o,τ=[o,some (.str stem),some (.int (at_:Int)),some (.str sg)]) (fun i v=>nmV v) ⟨_,rfl⟩ (fun i H _ h=>h) (fun H _=>Nat.le_refl _) hD ?_ ?_
  · rintro i v τ H2 H' ⟨o,rfl⟩ s hi ⟨rfl,rfl⟩
    simp only [L2.start,gName,tRet,tOp,tVar,tC,tCons,tNil,tSl,tPart,tNoPart,tComp,tYes,capV,iRng1,rIxS,rI0,rSlS,rAddS,List.map,List.replicate,List.length,List.append,jqa,jqb,jqc,jqd,jqe,jqf,jqg,jqh,jqi,jqj,jqk,jql,jqm,jqn,and_true,true_and,and_assoc,jqo,jqp,jqq,Nat.reduceSub,Nat.reduceAdd,jqr,jqs,jqt,Int.reduceToNat,Int.reducePow,Int.reduceNeg,Int.reduceMul,Int.reduceAdd,if_true,ite_true,jqu,ite_false,if_false]
    obtain ⟨d,hd,hP⟩:=sgn_at S (i:=0 + (i:Int)) (by omega) (by omega)
    have l1:=len_to stem at_ (by omega)
    have l2:=len_from stem (at_ + 1)
    have p1:=allP_to hp at_
    have p2:=allP_from hp (at_ + 1)
    rw [show ((at_ + 1:Nat):Int)=(at_:Int) + 1 by omega] at l2 p2
    exact ⟨small_size (by omega),small_size (by omega),d,hd,small_size (by rw [one_len];omega),small_size (by omega),small_size (by rw [len_app,one_len];omega),⟨_,rfl⟩,⟨_,rfl,S.nm _ (by rw [len_app,len_app,one_len];omega) (allP_app (allP_app p1 (allP_one hP)) p2)⟩,Same.refl _⟩
  · intro ys H' hly hv s hq
    obtain ⟨ls,rfl,hp⟩:=strs_of (P:=fun x=>isName x=true) (ys:=ys) fun v hv2=>by
      obtain ⟨i,hi⟩:=List.getElem?_of_mem hv2
      exact hv i v hi
    rw [List.length_map] at hly
    exact q D ls H' s ⟨hq,hp⟩ (by omega)
theorem rdp_nm5 {P:Nat→Bool} {sz:Nat} {sg stem:Str} {c m:Int} {o5:Option V} (S:Sgn P sz sg) (hs:stem.length=sz) (hp:allP P stem) (h1:0≤m) (h2:m≤6) (q:∀ nm ws H',Same H H'→NamesAt H' nm ws→(ws.length:Int)=m→Q (.ref nm) H') :
    rd__law_names_5 K t { nx:=fun _ H'=>Q .non H',rt:=Q } [some (.int c),some (.int m),some (.int sz),some (.str sg),some (.str stem),o5,none,none] H:=by
  simp only [rd__law_names_5,sp__law_draw,L2.start,tSeq,tAsg,gName,tRet,tOp,tVar,tC,tCons,tNil,tCB,tSl,tPart,tNoPart,tCall,tComp,tYes,capV,LenV,iRng1,rIxS,rI,rI0,rSlS,rAddS,cLen,List.map,List.replicate,List.length,List.append,jqa,jqb,jqc,jqd,jqe,jqf,jqg,jqh,jqi,jqj,jqk,jql,jqm,jqn,and_true,true_and,and_assoc,jqo,jqp,jqq,Nat.reduceSub,Nat.reduceAdd,jqr,jqs,jqt,Int.reduceToNat,Int.reducePow,Int.reduceNeg,Int.reduceMul,Int.reduceAdd,if_true,ite_true,jqu,ite_false,if_false]
  have lo:=S.lo
  have hi:=S.hi
  have s1:=S.s1
  have s6:=S.s6
  refine ⟨by decide,by decide,fun r1 H1 a1 b1 s1'=>⟨by omega,by decide,by decide,fun r2 H2 a2 b2 s2'=>⟨small_size (by omega),by omega,?_⟩⟩⟩
  obtain ⟨k,ek⟩:∃ k:Nat,r1 % (sz:Int)=k:=⟨_,(Int.toNat_of_nonneg (Int.emod_nonneg _ (by omega))).symm⟩
  have hk:(k:Int) < sz:=by rw [← ek];exact Int.emod_lt_of_pos _ (by omega)
  obtain ⟨u,eu⟩:∃ u:Nat,r2 % (sg.length:Int)=u:=⟨_,(Int.toNat_of_nonneg (Int.emod_nonneg _ (by omega))).symm⟩
  have hu:(u:Int) < sg.length:=by rw [← eu];exact Int.emod_lt_of_pos _ (by omega)
  rw [ek,eu]
  have l1:=len_to sg u (by omega)
  have l2:=len_from sg u
  refine ⟨small_size (by omega),small_size (by omega),small_size (by omega),?_⟩
  have S':Sgn P sz (Txt.slice sg (some (u:Int)) none ++ Txt.slice sg none (some (u:Int))):=⟨allP_app (allP_from S.al u) (allP_to S.al u),by rw [len_app];omega,by rw [len_app];omega,S.s1,S.s6,S.nm⟩
  exact rdp_nm8 S' hs hp (by omega) h1 h2 fun nm ws H' s hn hl=>q nm ws H' (s1'.trans (s2'.trans s)) hn hl
def nmI (P:Nat→Bool) (c m:Int) (sz:Nat) (sg:Str) (H:Hp) (i:Nat) (σ:St) (H':Hp):Prop:=(∃ (x:Str) (o:Option V),σ=[some (.int c),some (.int m),some (.int sz),some (.str sg),some (.str x),o,none,none]∧x.length=i∧allP P x)∧Same H H'
theorem rdp_nm3 {P:Nat→Bool} {sz:Nat} {sg:Str} {c m:Int} (S:Sgn P sz sg) (h1:0≤m) (h2:m≤6) (q:∀ nm ws H',Same H H'→NamesAt H' nm ws→(ws.length:Int)=m→Q (.ref nm) H') :
    rd__law_names_3 K t { nx:=fun _ H'=>Q .non H',rt:=Q } [some (.int c),some (.int m),some (.int sz),some (.str sg),none,none,none,none] H:=by
  simp only [rd__law_names_3,sp__law_draw,L2.start,tSeq,tAsg,gName,tRet,tOp,tVar,tC,tCons,tNil,tFor,tCB,tSl,tPart,tNoPart,tCall,tComp,tYes,capV,LenV,iRng1,rIxS,rI,rI0,rSlS,rAddS,cLen,List.map,List.replicate,List.length,List.append,jqa,jqb,jqc,jqd,jqe,jqf,jqg,jqh,jqi,jqj,jqk,jql,jqm,jqn,and_true,true_and,and_assoc,jqo,jqp,jqq,Nat.reduceSub,Nat.reduceAdd,jqr,jqs,jqt,Int.reduceToNat,Int.reducePow,Int.reduceNeg,Int.reduceMul,Int.reduceAdd,if_true,ite_true,jqu,ite_false,if_false]
  have lo:=S.lo
  have hi:=S.hi
  have s1:=S.s1
  have s6:=S.s6
  refine ⟨by omega,by omega,loop_range (nmI P c m sz sg H) ⟨⟨_,none,rfl,by decide +kernel,by show [].all P=true;rfl⟩,Same.refl H⟩ ?_ ?_⟩
  · rintro i σ H' hi ⟨⟨x,o,rfl,hx,hp⟩,s⟩
    simp only [L2.start,tSeq,tAsg,gName,tRet,tOp,tVar,tC,tCons,tNil,tFor,tCB,tSl,tPart,tNoPart,tCall,tComp,tYes,capV,LenV,iRng1,rIxS,rI,rI0,rSlS,rAddS,cLen,List.map,List.replicate,List.length,List.append,jqa,jqb,jqc,jqd,jqe,jqf,jqg,jqh,jqi,jqj,jqk,jql,jqm,jqn,and_true,true_and,and_assoc,jqo,jqp,jqq,Nat.reduceSub,Nat.reduceAdd,jqr,jqs,jqt,Int.reduceToNat,Int.reducePow,Int.reduceNeg,Int.reduceMul,Int.reduceAdd,if_true,ite_true,jqu,ite_false,if_false]
    refine ⟨by omega,by omega,fun r1 H1 a1 b1 s1'=>⟨small_size (by omega),by omega,?_⟩⟩
    obtain ⟨d,hd,hP⟩:=sgn_at S (i:=r1 % (sg.length:Int)) (Int.emod_nonneg _ (by omega)) (Int.emod_lt_of_pos _ (by omega))
    exact ⟨small_size (by omega),d,hd,small_size (by rw [one_len];omega),⟨_,_,rfl,by rw [len_app,one_len];omega,allP_app hp (allP_one hP)⟩,s.trans s1'⟩
  · rintro σ H' ⟨⟨x,o,rfl,hx,hp⟩,s⟩
    exact rdp_nm5 S (by omega) hp h1 h2 fun nm ws H2 s2 hn hl=>q nm ws H2 (s.trans s2) hn hl
theorem rdp__law_names {c m:Int} (h1:0≤m) (h2:m≤6) (q:∀ nm ws H',Same H H'→NamesAt H' nm ws→(ws.length:Int)=m→Q (.ref nm) H') :
    rd__law_names K t { nx:=fun _ H'=>Q .non H',rt:=Q } (L2.start ["cell","many","size","signs","stem","k","at","turn"] [.int c,.int m]) H:=by
  simp only [rd__law_names,sp__law_draw,L2.start,tSeq,tAsg,gName,tRet,tNext,tOp,tVar,tC,tCons,tNil,tFor,tIfS,tTest,tCB,tSl,tPart,tNoPart,tCall,tComp,tYes,capV,LenV,iRng1,rIxS,rEq,rI,rI0,rSlS,rAddS,cLen,scal,List.map,List.replicate,List.length,List.append,jqa,jqb,jqc,jqd,jqe,jqf,jqg,jqh,jqi,jqj,jqk,jql,jqm,jqn,and_true,true_and,and_assoc,jqo,jqp,jqq,Nat.reduceSub,Nat.reduceAdd,jqr,jqs,jqt,Int.reduceToNat,Int.reducePow,Int.reduceNeg,Int.reduceMul,Int.reduceAdd,if_true,ite_true,jqu,ite_false,if_false]
  refine ⟨by decide,by decide,fun r1 H1 a1 b1 s1'=>⟨by decide,?_⟩⟩
  obtain ⟨k,ek⟩:∃ k:Nat,1 + r1 % 6=k:=⟨(1 + r1 % 6).toNat,by omega⟩
  rw [ek]
  have lc:(Str.ofString "zyxwvtsrqpnmlkjhgfdcb").length=21:=by decide +kernel
  have lz:(Str.ofString "zyxwvutsrqponmlkjihgfedcba").length=26:=by decide +kernel
  refine ite2 (fun e=>?_) fun e=>?_
  · have e5:(k:Int)=6:=by simpa using e
    have e6:k=6:=by omega
    exact rdp_nm3 (P:=inL) (sg:="zyxwvutsrqponmlkjihgfedcba") ⟨List.all_eq_true.mpr z_in,by rw [lz];omega,by rw [lz];omega,by omega,by omega,fun x hx hp=>name_of (by omega) (by omega) (.inl ⟨by omega,hp⟩)⟩ h1 h2 fun nm ws H2 s2 hn hl=>q nm ws H2 (s1'.trans s2) hn hl
  · exact rdp_nm3 (P:=inC) (sg:="zyxwvtsrqpnmlkjhgfdcb") ⟨List.all_eq_true.mpr c_in,by rw [lc];omega,by rw [lc];omega,by omega,by omega,fun x hx hp=>name_of (by omega) (by omega) (.inr hp)⟩ h1 h2 fun nm ws H2 s2 hn hl=>q nm ws H2 (s1'.trans s2) hn hl
structure RnP (m:Nat) (s:RSt):Prop where
  ok:RnOk m s
  ng:∀ r∈s.gi,PyData.strOk r.1.1=true
  nn:∀ r∈s.no,PyData.strOk r.1.1=true
theorem last_not {p:Pl} {l:List Row} (nd:(l.map (·.1)).Nodup) (h:lastW l p=none):p ∉ l.map (·.1):=fun z=>by
  obtain ⟨r,hr,e⟩:=List.mem_map.mp z
  have:=(last_nd (w:=r.2) nd).mpr (show (p,r.2)∈l by rw [← e];exact hr)
  rw [h] at this
  cases this
theorem known_in {m:Nat} {s:RSt} {p:Pl} {w:Int} (h:RnOk m s) (hw:inW w=true):inW (knownW p w s)=true:=by
  unfold knownW
  cases e:lastW s.gi p with
  | some i=>exact last_in (P:=fun r=>inW r.2=true) h.gw e
  | none =>
    cases e2:lastW s.no p with
    | some i=>exact last_in (P:=fun r=>inW r.2=true) h.nw e2
    | none=>exact hw
theorem note_ok {m:Nat} {s:RSt} {p:Pl} {w i:Int} {x:Str} (h:RnP m s) (hp:PyData.strOk p.1=true) (hw:inW w=true) (hi:inW i=true):RnP (m + 1) { noteW p w s with sl:=putK s.sl (.inr x) (.int i) }:=by
  have so:=slots_put h.ok.so (.inr x) hi
  have l1:(putK s.sl (.inr x) (V.int i)).length≤m + 1:=Nat.le_trans (length_putK _ _ _) (Nat.succ_le_succ h.ok.l1)
  unfold noteW
  by_cases c:(lastW s.gi p).isSome=true∨(lastW s.no p).isSome=true
  · rw [if_pos c]
    exact ⟨⟨so,h.ok.gw,h.ok.nw,l1,Nat.le_succ_of_le h.ok.l2,Nat.le_succ_of_le h.ok.l3,Nat.le_succ_of_le h.ok.l4,h.ok.nd⟩,h.ng,h.nn⟩
  · rw [if_neg c]
    have cn:lastW s.no p=none:=by
      cases e:lastW s.no p with
      | none=>rfl
      | some i=>exact absurd (.inr (by rw [e];rfl)) c
    refine ⟨⟨so,h.ok.gw,fun r hr=>?_,l1,Nat.le_succ_of_le h.ok.l2,?_,Nat.le_succ_of_le h.ok.l4,?_⟩,h.ng,fun r hr=>?_⟩
    · rcases List.mem_append.mp hr with hr | hr
      · exact h.ok.nw r hr
      · rw [List.mem_singleton.mp hr];exact hw
    · show (s.no ++ [(p,w)]).length≤m + 1
      rw [List.length_append];exact Nat.succ_le_succ h.ok.l3
    · show ((s.no ++ [(p,w)]).map (·.1)).Nodup
      rw [List.map_append]
      refine List.nodup_append.mpr ⟨h.ok.nd,by simp,fun a ha b hb=>?_⟩
      have hb:b=p:=by simpa using hb
      rw [hb]
      exact fun z=>last_not h.ok.nd cn (by rw [← z];exact ha)
    · rcases List.mem_append.mp hr with hr | hr
      · exact h.nn r hr
      · rw [List.mem_singleton.mp hr];exact hp
theorem doR_ok {r:Rw} {m:Nat} {w:Int} {s s':RSt} (h:RnP m s) (d:isDoes r) (k:RwOk r) (pl:RwPl r) (hw:inW w=true) (e:doR r w s=.ok s'):RnP (m + 1) s'∧s'.why=s.why:=by
  cases r with
  | off e'=>exact d.elim
  | iff e' b c=>exact d.elim
  | take sh e' x =>
    cases hk:rk s.sl e' with
    | error er=>simp only [doR,hk] at e;cases e
    | ok n =>
      simp only [doR,hk] at e
      cases e
      exact ⟨note_ok h pl.1 hw (known_in h.ok hw),by show (noteW _ _ _).why=_;unfold noteW;split <;> rfl⟩
  | give sh e' f =>
    cases hk:rk s.sl e' with
    | error er=>simp only [doR,hk] at e;cases e
    | ok n =>
      cases hk2:rk s.sl f with
      | error er=>simp only [doR,hk,hk2] at e;cases e
      | ok i =>
        simp only [doR,hk,hk2] at e
        cases e
        have hi:=rk_inW h.ok.so k.2.2.1 hk2
        refine ⟨⟨⟨h.ok.so,fun r hr=>?_,h.ok.nw,Nat.le_succ_of_le h.ok.l1,?_,Nat.le_succ_of_le h.ok.l3,Nat.le_succ_of_le h.ok.l4,h.ok.nd⟩,fun r hr=>?_,h.nn⟩,rfl⟩
        · rcases List.mem_append.mp hr with hr | hr
          · exact h.ok.gw r hr
          · rw [List.mem_singleton.mp hr];exact hi
        · show (s.gi ++ [((sh,n),i)]).length≤m + 1
          rw [List.length_append];exact Nat.succ_le_succ h.ok.l2
        · rcases List.mem_append.mp hr with hr | hr
          · exact h.ng r hr
          · rw [List.mem_singleton.mp hr];exact pl.1
  | lt x e' =>
    cases hk:rk s.sl e' with
    | error er=>simp only [doR,hk] at e;cases e
    | ok i =>
      simp only [doR,hk] at e
      cases e
      have hi:=rk_inW h.ok.so k.2.1 hk
      exact ⟨⟨⟨slots_put h.ok.so _ hi,h.ok.gw,h.ok.nw,Nat.le_trans (length_putK _ _ _) (Nat.succ_le_succ h.ok.l1),Nat.le_succ_of_le h.ok.l2,Nat.le_succ_of_le h.ok.l3,Nat.le_succ_of_le h.ok.l4,h.ok.nd⟩,h.ng,h.nn⟩,rfl⟩
  | say e' =>
    cases hk:rk s.sl e' with
    | error er=>simp only [doR,hk] at e;cases e
    | ok i =>
      simp only [doR,hk] at e
      cases e
      exact ⟨⟨⟨h.ok.so,h.ok.gw,h.ok.nw,Nat.le_succ_of_le h.ok.l1,Nat.le_succ_of_le h.ok.l2,Nat.le_succ_of_le h.ok.l3,by show (s.sa ++ [i]).length≤m + 1;rw [List.length_append];exact Nat.succ_le_succ h.ok.l4,h.ok.nd⟩,h.ng,h.nn⟩,rfl⟩
def plD (p:Pl):PyData:=.tuple [.str p.1,.int p.2]
def rwD' (r:Row):PyData:=.tuple [plD r.1,.int r.2]
theorem pl_dat {q:Addr} {p:Pl} (h:H q=some (.tup [.str p.1,.int p.2])):Dat K H (.ref q) (plD p):=.tup (SqT.of h) (.cons (.str _) (.cons (.int _) .nil))
theorem pl_plain {p:Pl} (h:PyData.strOk p.1=true):plainD (plD p)=true:=by simp [plD,plainD,plainDs,h]
theorem pl_depth (p:Pl):(plD p).depth≤2:=by simp [plD,PyData.depth,PyData.depthAll]
theorem prs_dat:∀ {ys:List V} {rows:List Row},Paired (PrAt H) ys rows→DatAll K H ys (rows.map rwD')
  | _,_,.nil=>.nil
  | _,_,.cons ⟨r,p,e1,e2,e3⟩ t=>by
    rw [List.map_cons,e1]
    exact .cons (.tup (SqT.of e2) (.cons (pl_dat e3) (.cons (.int _) .nil))) (prs_dat t)
theorem ls_dat {l:Addr} {rows:List Row} (h:LsAt H l rows):Dat K H (.ref l) (.list (rows.map rwD')):=by
  obtain ⟨xs,h1,h2⟩:=h
  exact .lst (SqL.of h1) (prs_dat h2)
theorem rw_plainD:∀ {rows:List Row},(∀ r∈rows,PyData.strOk r.1.1=true)→plainDs (rows.map rwD')=true
  | [],_=>rfl
  | r :: t,h=>by
    rw [List.map_cons,plainDs,rw_plainD (fun x hx=>h x (List.mem_cons_of_mem _ hx))]
    have:=pl_plain (h r List.mem_cons_self)
    simp [rwD',plainD,plainDs,this]
theorem rw_deepD:∀ (rows:List Row),PyData.depthAll (rows.map rwD')≤3
  | []=>by simp [PyData.depthAll]
  | r :: t=>by
    have h:=rw_deepD t
    have h2:=pl_depth r.1
    rw [List.map_cons,PyData.depthAll]
    simp only [rwD',PyData.depth,PyData.depthAll] at h2 ⊢
    omega
theorem ls_plain {rows:List Row} (h:∀ r∈rows,PyData.strOk r.1.1=true):plainD (.list (rows.map rwD'))=true:=by rw [plainD];exact rw_plainD h
theorem ls_deep (rows:List Row):(PyData.list (rows.map rwD')).depth≤4:=by
  have:=rw_deepD rows
  rw [PyData.depth];omega
section
variable {l:Addr}
theorem ls_kp {H':Hp} {rows:List Row} (h:LsAt H l rows) (k:∀ o,H l=some o→H' l=some o) (ts:TSm H H'):LsAt H' l rows:=by
  obtain ⟨xs,h1,h2⟩:=h
  exact ⟨xs,k _ h1,Paired.mapP h2 fun _ _ ⟨r,p,e1,e2,e3⟩=>⟨r,p,e1,ts _ _ e2,ts _ _ e3⟩⟩
theorem ls_same {H':Hp} {rows:List Row} (h:LsAt H l rows) (s:Same H H'):LsAt H' l rows:=ls_kp h (fun o e=>s _ _ e) fun b ys e=>s _ _ e
end
section
variable {C:List Cs} {s:RSt} {m:Nat}
theorem sok_done:PyData.strOk (Str.ofString "done")=true:=by decide +kernel
theorem ne_of_none' {H:Hp} {a b:Addr} {o:HO} (h:H a=some o) (k:H b=none):b≠a:=fun z=>by rw [z,h] at k;cases k
def ocD:Oc→PyData
  | .done sa=>.tuple [.str (Str.ofString "done"),.tuple (sa.map PyData.int)]
  | .off w=>.tuple [.str (Str.ofString "off"),.str w]
theorem oc_same {H':Hp} {v:V} {oc:Oc} (h:OcAt H v oc) (s:Same H H'):OcAt H' v oc:=by
  cases oc with
  | done sa=>obtain ⟨o,y,e1,e2,e3⟩:=h;exact ⟨o,y,e1,s _ _ e2,s _ _ e3⟩
  | off w=>obtain ⟨o,e1,e2⟩:=h;exact ⟨o,e1,s _ _ e2⟩
theorem oc_dat {v:V} {oc:Oc} (h:OcAt H v oc):Dat K H v (ocD oc):=by
  cases oc with
  | done sa =>
    obtain ⟨o,y,rfl,e2,e3⟩:=h
    exact .tup (SqT.of e2) (.cons (.str _) (.cons (.tup (SqT.of e3) (DatAll.of fun i _=>.int i)) .nil))
  | off w =>
    obtain ⟨o,rfl,e2⟩:=h
    exact .tup (SqT.of e2) (.cons (.str _) (.cons (.str _) .nil))
theorem ints_plain:∀ (sa:List Int),plainDs (sa.map PyData.int)=true
  | []=>rfl
  | i :: t=>by rw [List.map_cons,plainDs,ints_plain t];rfl
theorem ints_deep:∀ (sa:List Int),PyData.depthAll (sa.map PyData.int)=0
  | []=>by simp [PyData.depthAll]
  | i :: t=>by rw [List.map_cons,PyData.depthAll,ints_deep t,PyData.depth];rfl
theorem oc_plain {oc:Oc} (h:∀ w,oc=.off w→PyData.strOk w=true):plainD (ocD oc)=true:=by
  cases oc with
  | done sa=>have:=sok_done;simp [ocD,plainD,plainDs,ints_plain,this]
  | off w=>have:=h w rfl;have k:=sok_off;simp [ocD,plainD,plainDs,this,k]
theorem oc_deep (oc:Oc):(ocD oc).depth≤3:=by
  cases oc with
  | done sa=>simp only [ocD,PyData.depth,PyData.depthAll,ints_deep];omega
  | off w=>simp only [ocD,PyData.depth,PyData.depthAll];omega
def ppD (oc:Oc) (no gi:List Row):PyData:=.tuple [ocD oc,.list (no.map rwD'),.list (gi.map rwD')]
end
def csD:Cs→PyData
  | .row r=>rwD r
  | .skip e to=>.tuple [.str "skip",termD e,.int (to:Nat)]
  | .go en=>.tuple [.str "go",.int (en:Nat)]
theorem cs_dat {v:V} {c:Cs} (h:CsAt H v c) (p:csP c):Dat K H v (csD c):=by
  cases c with
  | row r=>exact rw_dat r h.1 p.1
  | skip e to =>
    obtain ⟨q,te,rfl,h2,h3⟩:=h
    exact .tup (SqT.of h2) (.cons (.str _) (.cons (term_dat h3 p) (.cons (.int _) .nil)))
  | go en =>
    obtain ⟨q,rfl,h2⟩:=h
    exact .tup (SqT.of h2) (.cons (.str _) (.cons (.int _) .nil))
theorem css_dat:∀ {xs:List V} {C:List Cs},Paired (CsAt H) xs C→(∀ c∈C,csP c)→DatAll K H xs (C.map csD)
  | _,_,.nil,_=>.nil
  | _,_,.cons h r,p=>.cons (cs_dat h (p _ List.mem_cons_self)) (css_dat r fun c hc=>p c (List.mem_cons_of_mem _ hc))
theorem sok_skip:PyData.strOk "skip"=true:=by decide +kernel
theorem sok_go:PyData.strOk "go"=true:=by decide +kernel
theorem cs_plain {c:Cs} (p:csP c):plainD (csD c)=true∧(csD c).depth≤3:=by
  cases c with
  | row r =>
    have d0:r.deep=0:=by
      have:=p.2
      cases r <;> first | exact this.elim | simp [Rw.deep]
    have:=rw_deep r
    exact ⟨rw_plain r p.1,by show (rwD r).depth≤3;omega⟩
  | skip e to=>exact ⟨by simp [csD,plainD,plainDs,sok_skip,term_plain p],by have:=term_deep e;simp [csD,PyData.depth,PyData.depthAll];omega⟩
  | go en=>exact ⟨by simp [csD,plainD,plainDs,sok_go],by simp [csD,PyData.depth,PyData.depthAll]⟩
theorem css_plain:∀ {C:List Cs},(∀ c∈C,csP c)→plainDs (C.map csD)=true∧PyData.depthAll (C.map csD)≤3
  | [],_=>by simp [plainDs,PyData.depthAll]
  | c :: C,p=>by
    have h1:=cs_plain (p c List.mem_cons_self)
    have h2:=css_plain (C:=C) fun x hx=>p x (List.mem_cons_of_mem _ hx)
    rw [List.map_cons,plainDs,PyData.depthAll,h1.1,h2.1]
    exact ⟨rfl,by omega⟩
theorem ts_upd {H:Hp} {R:Addr} {xs ys:List V} (h:H R=some (.lst xs)):TSame H (upd H R (.lst ys)):=fun b zs e=>by
  rw [upd_ne (ne_of e h (fun z=>nomatch z))];exact e
theorem Paired.app2 {α β:Type} {F:α→β→Prop}:∀ {a:List α} {b:List β} {c:List α} {d:List β},Paired F a b→Paired F c d→Paired F (a ++ c) (b ++ d)
  | _,_,_,_,.nil,h=>h
  | _,_,_,_,.cons h r,h2=>.cons h (Paired.app2 r h2)
theorem mk_run {H0 H1 H3:Hp} {x dx:Addr} {a:RAd} (s1:Same H0 H1) (hx:H1 x=none) (hdx:H1 dx=none) (k3:SameX x (upd (upd H1 dx (.own x)) x (.ins t.c_Run dx [])) H3) (fr:∀ b,OwA x a b→b=x∨upd (upd H1 dx (.own x)) x (.ins t.c_Run dx []) b=none):Same H1 H3∧∀ b,OwA x a b→H1 b=none:=by
  have s2:Same H1 (upd (upd H1 dx (HO.own x)) x (HO.ins t.c_Run dx [])):=fun b o e=>by rw [upd_ne (ne_of_none e hx),upd_ne (ne_of_none e hdx)];exact e
  refine ⟨fun b o e=>k3 b o (fun z=>by rw [z,hx] at e;cases e) (s2 b o e),fun b ob=>?_⟩
  rcases fr b ob with z | z
  · rw [z];exact hx
  · exact fresh_of s2 z
section
variable {C:List Cs}
theorem pp_dat {r:Addr} {s:RSt} {out:List Row} {o:V} {nl gl:Addr} (h1:H r=some (.tup [o,.ref nl,.ref gl])) (h2:OcAt H o (ocOf s)) (h3:LsAt H nl s.no) (h4:LsAt H gl out):Dat K H (.ref r) (ppD (ocOf s) s.no out):=.tup (SqT.of h1) (.cons (oc_dat h2) (.cons (ls_dat h3) (.cons (ls_dat h4) .nil)))
def two {α:Type} (a b:α):Nat→α
  | 0=>a
  | _=>b
theorem RnAt.has {x b:Addr} {a:RAd} {s:RSt} (R:RnAt t H x a C s) (ow:OwA x a b):H b≠none:=by
  obtain ⟨ys,hy,_⟩:=R.hc
  rcases ow with (z | z | z | z | z) | z
  · rw [z,R.ix];exact fun z=>nomatch z
  · rw [z,R.hs];exact fun z=>nomatch z
  · rw [z,R.hg];exact fun z=>nomatch z
  · rw [z,R.hn];exact fun z=>nomatch z
  · rw [z,R.ha];exact fun z=>nomatch z
  · rw [z,hy];exact fun z=>nomatch z
end
theorem cut_one (ns:List Int) (lo hi:Option Int):∃ ys:List Int,cutV (ns.map V.int) lo hi=ys.map V.int∧ys.length≤ns.length:=by
  refine ⟨(ns.drop (HT.sIx ns.length 0 lo)).take (HT.sIx ns.length ns.length hi - HT.sIx ns.length 0 lo),?_,?_⟩
  · unfold cutV
    rw [List.map_take,List.map_drop,List.length_map]
  · rw [List.length_take,List.length_drop];omega
theorem lf_int {i:Int} (h:inW i=true):okPart (.int i)∧isJ (.int i)=false∧plV (.int i):=⟨.inl ⟨i,rfl,h⟩,rfl,.inl ⟨i,rfl⟩⟩
theorem lf_nam {x:Str} (hx:isName x=true):okPart (.str x)∧isJ (.str x)=false∧plV (.str x):=by
  have:=isName_parts hx
  exact ⟨.inr ⟨x,rfl,by omega⟩,this.2.2.1,.inr ⟨x,rfl,name_ok hx⟩⟩
theorem NamesAt.same {H H':Hp} {nm:Addr} {ws:List Str} (h:NamesAt H nm ws) (s:Same H H'):NamesAt H' nm ws:=⟨s _ _ h.1,h.2⟩
theorem names_at {nm:Addr} {ws:List Str} (h:NamesAt H nm ws) (n:Nat) (hl:ws.length=n) (hn:0 < (n:Int)) (e:Int):∃ x,atI (ws.map V.str) (e % n)=some (.str x)∧x∈ws∧isName x=true:=by
  obtain ⟨v,hv,hm⟩:=at_mod e n (xs:=ws.map V.str) (by rw [List.length_map,hl]) hn
  obtain ⟨x,hx,rfl⟩:=List.mem_map.mp hm
  exact ⟨x,hv,hx,h.2 x hx⟩
theorem smI.inW {i:Int} (h:smI i):inW i=true:=inW_iff.mpr ⟨by have:=h.1;omega,by have:=h.2;omega⟩
theorem lfB.ok {v:V} (h:lfB v):okPart v∧isJ v=false∧plV v:=by
  rcases h with ⟨i,rfl,hi⟩ | ⟨x,rfl,hx⟩
  · exact lf_int hi.inW
  · exact lf_nam hx
theorem fdiv_nat {a b:Int} (hb:b≠0):(a.fdiv b).natAbs≤a.natAbs:=by
  by_cases h0:b < 0
  · rw [← Int.neg_fdiv_neg,Int.fdiv_eq_ediv_of_nonneg _ (by omega)]
    exact Nat.le_trans (Int.natAbs_ediv_le_natAbs _ _) (by omega)
  · rw [Int.fdiv_eq_ediv_of_nonneg _ (by omega)]
    exact Int.natAbs_ediv_le_natAbs _ _
theorem come_plus (a b:Int):comeV (Str.ofString "plus") a b=a + b:=rfl
theorem come_minus (a b:Int):comeV (Str.ofString "minus") a b=a - b:=by unfold comeV;rw [if_neg (by decide +kernel),if_pos rfl]
theorem come_times (a b:Int):comeV (Str.ofString "times") a b=a * b:=by unfold comeV;rw [if_neg (by decide +kernel),if_neg (by decide +kernel),if_pos rfl]
theorem come_under (a b:Int):comeV (Str.ofString "under") a b=if a < b then 1 else 0:=by unfold comeV;rw [if_neg (by decide +kernel),if_neg (by decide +kernel),if_neg (by decide +kernel),if_pos rfl]
theorem come_same (a b:Int):comeV (Str.ofString "same") a b=if a=b then 1 else 0:=by unfold comeV;rw [if_neg (by decide +kernel),if_neg (by decide +kernel),if_neg (by decide +kernel),if_neg (by decide +kernel),if_pos rfl]
theorem come_over (a b:Int):comeV (Str.ofString "over") a b=a.fdiv b:=by unfold comeV;rw [if_neg (by decide +kernel),if_neg (by decide +kernel),if_neg (by decide +kernel),if_neg (by decide +kernel),if_neg (by decide +kernel),if_pos rfl]
theorem come_rest (a b:Int):comeV (Str.ofString "rest") a b=a.fmod b:=by unfold comeV;rw [if_neg (by decide +kernel),if_neg (by decide +kernel),if_neg (by decide +kernel),if_neg (by decide +kernel),if_neg (by decide +kernel),if_neg (by decide +kernel)]
theorem lf_wr {kvs:List (Key × V)} {B:Int} {u:V} (h:lfB u) (sb:SlB B kvs) (b:BdOk B):-B≤wrth kvs u∧wrth kvs u≤B:=by
  have:=b.lo
  rcases h with ⟨i,rfl,hi⟩ | ⟨x,rfl,hx⟩
  · have h1:=hi.1
    have h2:=hi.2
    show -B≤i∧i≤B
    omega
  · show -B≤(match valV kvs (.inr x) with | some (.int i)=>i | _=>0)∧(match valV kvs (.inr x) with | some (.int i)=>i | _=>0)≤B
    cases e:valV kvs (.inr x) with
    | none=>show -B≤(0:Int)∧(0:Int)≤B;omega
    | some v =>
      obtain ⟨i,rfl,h1,h2⟩:=sb _ _ e
      exact ⟨h1,h2⟩
theorem wd_val {w:Str} {v:V} {B a:Int} {kvs:List (Key × V)} (h:wdB w v) (lv:lfB v) (sb:SlB B kvs) (b:BdOk B) (ha:-B≤a∧a≤B):twoOk w a (wrth kvs v)∧-(2 * B)≤comeV w a (wrth kvs v)∧comeV w a (wrth kvs v)≤2 * B:=by
  have hb:=lf_wr lv sb b
  have lo:=b.lo
  have hi:=b.hi
  have ia:inW a=true:=inW_iff.mpr ⟨by omega,by omega⟩
  have ib:inW (wrth kvs v)=true:=inW_iff.mpr ⟨by omega,by omega⟩
  rcases h with ⟨rfl,k,rfl,k1,k2⟩ | ⟨hw,k,rfl,k0,k1,k2⟩ | rfl | rfl | rfl | rfl
  · rw [come_times]
    refine ⟨⟨by decide +kernel,fun z=>absurd z.2.2.1 (by decide +kernel),ia,ib⟩,?_⟩
    show -(2 * B)≤a * k∧a * k≤2 * B
    have:k=-2∨k=-1∨k=0∨k=1∨k=2:=by omega
    rcases this with rfl | rfl | rfl | rfl | rfl <;> omega
  · have d:=fdiv_nat (a:=a) k0
    have e:=Int.mul_fdiv_add_fmod a k
    rcases hw with rfl | rfl
    · rw [come_over]
      refine ⟨⟨by decide +kernel,fun _=>k0,ia,ib⟩,?_⟩
      show -(2 * B)≤a.fdiv k∧a.fdiv k≤2 * B
      omega
    · rw [come_rest]
      refine ⟨⟨by decide +kernel,fun _=>k0,ia,ib⟩,?_⟩
      show -(2 * B)≤a.fmod k∧a.fmod k≤2 * B
      by_cases c:k < 0
      · have h0:=Int.neg_fmod_neg a k
        have h1:=Int.fmod_nonneg_of_pos (-a) (b:=-k) (by omega)
        have h2:=Int.fmod_lt_of_pos (-a) (b:=-k) (by omega)
        omega
      · have h1:=Int.fmod_nonneg_of_pos a (b:=k) (by omega)
        have h2:=Int.fmod_lt_of_pos a (b:=k) (by omega)
        omega
  · rw [come_plus]
    exact ⟨⟨by decide +kernel,fun z=>absurd rfl z.1,ia,ib⟩,by omega,by omega⟩
  · rw [come_minus]
    exact ⟨⟨by decide +kernel,fun z=>absurd rfl z.2.1,ia,ib⟩,by omega,by omega⟩
  · rw [come_under]
    refine ⟨⟨by decide +kernel,fun z=>absurd rfl z.2.2.2.1,ia,ib⟩,?_⟩
    split <;> omega
  · rw [come_same]
    refine ⟨⟨by decide +kernel,fun z=>absurd rfl z.2.2.2.2,ia,ib⟩,?_⟩
    split <;> omega
theorem join_two {w:Str} {a b B:Int} (h:twoOk w a b) (bo:BdOk B) (l:-(2 * B)≤comeV w a b) (u:comeV w a b≤2 * B):joinE w a b=.ok (comeV w a b):=by
  have hi:=bo.hi
  unfold joinE
  rw [if_neg (fun z=>h.2.1 z.1 z.2),if_pos (inW_iff.mpr ⟨by omega,by omega⟩)]
theorem wd_j {w:Str} {v:V} (h:wdB w v):isJ (.str w)=true∧w.length≤1000∧PyData.strOk w=true:=by
  rcases h with ⟨rfl,_⟩ | ⟨rfl | rfl,_⟩ | rfl | rfl | rfl | rfl <;> exact ⟨by decide +kernel,by decide +kernel,by decide +kernel⟩
theorem rk_one {kvs:List (Key × V)} {u:V} (h:isJ u=false):rk kvs [u]=.ok (wrth kvs u):=(good_leaf h).rk
theorem rk_two {kvs:List (Key × V)} {u v:V} {w:Str} (h:isJ u=false) (h2:isJ v=false) (hw:isJ (.str w)=true):rk kvs [u,v,.str w]=joinE w (wrth kvs u) (wrth kvs v):=(good_join hw (good_leaf h) (good_leaf h2)).rk
theorem tm_val {e:List V} {kvs:List (Key × V)} {B:Int} (h:TmB e) (sb:SlB B kvs) (b:BdOk B):∃ i,rk kvs e=.ok i∧-(2 * B)≤i∧i≤2 * B:=by
  have lo:=b.lo
  rcases h with ⟨u,rfl,hu⟩ | ⟨u,v,w,rfl,hu,hv,hw⟩
  · have:=lf_wr hu sb b
    exact ⟨_,rk_one hu.ok.2.1,by omega,by omega⟩
  · obtain ⟨t1,t2,t3⟩:=wd_val hw hv sb b (lf_wr hu sb b)
    exact ⟨_,by rw [rk_two hu.ok.2.1 hv.ok.2.1 (wd_j hw).1,join_two t1 b t2 t3],t2,t3⟩
theorem TmB.ok {e:List V} (h:TmB e):TermOk e∧tmP e:=by
  rcases h with ⟨u,rfl,hu⟩ | ⟨u,v,w,rfl,hu,hv,hw⟩
  · exact ⟨term_one hu.ok.1 hu.ok.2.1,fun z hz=>by rw [List.mem_singleton.mp hz];exact hu.ok.2.2⟩
  · obtain ⟨j1,j2,j3⟩:=wd_j hw
    refine ⟨term_two hu.ok.1 hu.ok.2.1 hv.ok.1 hv.ok.2.1 j1 j2,fun z hz=>?_⟩
    simp only [List.mem_cons,List.not_mem_nil,or_false] at hz
    rcases hz with rfl | rfl | rfl
    · exact hu.ok.2.2
    · exact hv.ok.2.2
    · exact .inr ⟨w,rfl,j3⟩
theorem RwB.ok {r:Rw} (h:RwB r):RwOk r∧RwPl r∧isDoes r∧noIf r:=by
  cases r with
  | take sh e x=>exact ⟨h.2.2.ok.1,⟨name_ok h.1,h.2.2.ok.2,name_ok h.2.1⟩,trivial,trivial⟩
  | give sh e f=>exact ⟨⟨h.2.1.ok.1,h.2.2.ok.1⟩,⟨name_ok h.1,h.2.1.ok.2,h.2.2.ok.2⟩,trivial,trivial⟩
  | lt x e=>exact ⟨h.2.ok.1,⟨name_ok h.1,h.2.ok.2⟩,trivial,trivial⟩
  | say e=>exact ⟨TmB.ok h |>.1,TmB.ok h |>.2,trivial,trivial⟩
  | off e=>exact h.elim
  | iff e a b=>exact h.elim
theorem bdk_ok {k:Nat} (h:k≤40):BdOk (Bdk k):=by
  have h1:(2:Nat) ^ k≤2 ^ 40:=Nat.pow_le_pow_right (by decide) h
  have h2:1≤(2:Nat) ^ k:=Nat.one_le_two_pow
  have e:Bdk k=100000000000000000 * ((2 ^ k:Nat):Int):=by unfold Bdk;rw [Int.natCast_pow];rfl
  have h4:(2:Nat) ^ 40=1099511627776:=by decide +kernel
  have h3:((2 ^ k:Nat):Int)≤1099511627776:=by omega
  rw [e]
  exact ⟨by omega,by omega⟩
theorem bdk_two (k:Nat):Bdk (k + 1)=2 * Bdk k:=by unfold Bdk;rw [Int.pow_succ];omega
theorem SlB.mono {B B':Int} {kvs:List (Key × V)} (h:SlB B kvs) (l:B≤B'):SlB B' kvs:=fun k v e=>by
  obtain ⟨i,rfl,h1,h2⟩:=h k v e
  exact ⟨i,rfl,by omega,by omega⟩
theorem SlB.put {B:Int} {kvs:List (Key × V)} (h:SlB B kvs) (k:Key) {i:Int} (h1:-B≤i) (h2:i≤B):SlB B (putK kvs k (.int i)):=fun k' v e=>by
  rw [valV_put] at e
  by_cases c:k'=k
  · rw [if_pos c] at e;exact ⟨i,(Option.some.inj e).symm,h1,h2⟩
  · rw [if_neg c] at e;exact h k' v e
theorem rnb_known {k:Nat} {s:RSt} {p:Pl} {w:Int} (h:RnB k s) (hk:k≤40) (hw:smI w):-(Bdk k)≤knownW p w s∧knownW p w s≤Bdk k:=by
  have lo:=(bdk_ok hk).lo
  have w1:=hw.1
  have w2:=hw.2
  unfold knownW
  cases e:lastW s.gi p with
  | some i=>exact last_in (P:=fun r=>-(Bdk k)≤r.2∧r.2≤Bdk k) h.gb e
  | none =>
    cases e2:lastW s.no p with
    | some i=>exact last_in (P:=fun r=>-(Bdk k)≤r.2∧r.2≤Bdk k) h.nb e2
    | none=>exact ⟨by show -(Bdk k)≤w;omega,by show w≤Bdk k;omega⟩
theorem rnb_over {C:List Cs} {k:Nat} {s:RSt} {c:Cs} (h:RnB k s) (hc:C[k]?=some c):overB C s=false:=by
  have lt:=(List.getElem?_eq_some_iff.mp hc).1
  unfold overB
  rw [h.wy,h.nk]
  simp only [Option.isSome_none,Bool.false_or,decide_eq_false_iff_not]
  omega
theorem rnb_eq {C:List Cs} {k:Nat} {s:RSt} {c:Cs} (h:RnB k s) (hc:C[k]?=some c) (w:Int):stepR C w s=stepC c w s∧asksR C s=asksC c s:=by
  have ho:=rnb_over h hc
  unfold stepR asksR
  rw [ho,if_neg (by decide),if_neg (by decide),h.nk,hc]
  exact ⟨rfl,rfl⟩
theorem rnb_done {k:Nat} {s s':RSt} {r:Rw} {w:Int} (h:RnB k s) (hr:RwB r) (hw:smI w) (e:doR r w s=.ok s') (sb:SlB (2 * Bdk k) s'.sl) (gb:∀ r∈s'.gi,-(2 * Bdk k)≤r.2∧r.2≤2 * Bdk k) (nb:∀ r∈s'.no,-(2 * Bdk k)≤r.2∧r.2≤2 * Bdk k):stepC (.row r) w s={ s' with n:=k + 1 }∧RnB (k + 1) (stepC (.row r) w s):=by
  obtain ⟨o1,o2,o3,_⟩:=hr.ok
  obtain ⟨p,y⟩:=doR_ok ⟨h.ok,h.ng,h.nn⟩ o3 o1 o2 hw.inW e
  have es:stepC (.row r) w s={ s' with n:=k + 1 }:=by unfold stepC;rw [led_does o3,e,h.nk]
  refine ⟨es,?_⟩
  rw [es]
  rw [← bdk_two] at sb gb nb
  exact ⟨⟨p.ok.so,p.ok.gw,p.ok.nw,p.ok.l1,p.ok.l2,p.ok.l3,p.ok.l4,p.ok.nd⟩,sb,gb,nb,p.ng,p.nn,rfl,y.trans h.wy⟩
theorem rnb_step {k:Nat} {s:RSt} {r:Rw} {w:Int} (h:RnB k s) (hr:RwB r) (hw:smI w) (hk:k < 40):∃ s',doR r w s=.ok s'∧stepC (.row r) w s={ s' with n:=k + 1 }∧RnB (k + 1) (stepC (.row r) w s):=by
  have B:=bdk_ok (k:=k) (by omega)
  have lo:=B.lo
  have gb2:∀ r∈s.gi,-(2 * Bdk k)≤r.2∧r.2≤2 * Bdk k:=fun r hr=>by have:=h.gb r hr;omega
  have nb2:∀ r∈s.no,-(2 * Bdk k)≤r.2∧r.2≤2 * Bdk k:=fun r hr=>by have:=h.nb r hr;omega
  have sb2:SlB (2 * Bdk k) s.sl:=h.sb.mono (by omega)
  cases r with
  | take sh e x =>
    obtain ⟨n,en,n1,n2⟩:=tm_val hr.2.2 h.sb B
    have kn:=rnb_known (p:=(sh,n)) h (by omega) hw
    have ed:doR (.take sh e x) w s=.ok { noteW (sh,n) w s with sl:=putK s.sl (.inr x) (.int (knownW (sh,n) w s)) }:=by simp only [doR,en]
    refine ⟨_,ed,rnb_done h hr hw ed (sb2.put _ (by omega) (by omega)) ?_ ?_⟩
    · show ∀ r∈(noteW (sh,n) w s).gi,_
      unfold noteW
      split <;> exact gb2
    · show ∀ r∈(noteW (sh,n) w s).no,_
      unfold noteW
      split
      · exact nb2
      · intro r hr
        have w1:=hw.1
        have w2:=hw.2
        rcases List.mem_append.mp hr with hr | hr
        · exact nb2 r hr
        · rw [List.mem_singleton.mp hr];exact ⟨by show -(2 * Bdk k)≤w;omega,by show w≤2 * Bdk k;omega⟩
  | give sh e f =>
    obtain ⟨n,en,n1,n2⟩:=tm_val hr.2.1 h.sb B
    obtain ⟨i,ei,i1,i2⟩:=tm_val hr.2.2 h.sb B
    have ed:doR (.give sh e f) w s=.ok { s with gi:=s.gi ++ [((sh,n),i)] }:=by simp only [doR,en,ei]
    refine ⟨_,ed,rnb_done h hr hw ed sb2 (fun r hr=>?_) nb2⟩
    rcases List.mem_append.mp hr with hr | hr
    · exact gb2 r hr
    · rw [List.mem_singleton.mp hr];exact ⟨i1,i2⟩
  | lt x e =>
    obtain ⟨i,ei,i1,i2⟩:=tm_val hr.2 h.sb B
    have ed:doR (.lt x e) w s=.ok { s with sl:=putK s.sl (.inr x) (.int i) }:=by simp only [doR,ei]
    exact ⟨_,ed,rnb_done h hr hw ed (sb2.put _ i1 i2) gb2 nb2⟩
  | say e =>
    obtain ⟨i,ei,i1,i2⟩:=tm_val (show TmB e from hr) h.sb B
    have ed:doR (.say e) w s=.ok { s with sa:=s.sa ++ [i] }:=by simp only [doR,ei]
    exact ⟨_,ed,rnb_done h hr hw ed sb2 gb2 nb2⟩
  | off e=>exact hr.elim
  | iff e a b=>exact hr.elim
theorem rdp__law_number {c j:Int} (h1:0≤j) (h2:j≤900) (q:∀ w H',smI w→Same H H'→Q (.int w) H') :
    rd__law_number K t { nx:=fun _ H'=>Q .non H',rt:=Q } (L2.start ["cell","j","way"] [.int c,.int j]) H:=by
  simp only [rd__law_number,sp__law_draw,L2.start,tSeq,tAsg,gName,tRet,tNext,tOp,tVar,tC,tCons,tNil,tIfS,tTest,tCall,rEq,rI,rI0,scal,List.map,List.replicate,List.length,List.append,jqa,jqb,jqc,jqd,jqe,jqf,jqg,jqh,jqi,jqj,jqk,jql,jqm,jqn,and_true,true_and,and_assoc,jqo,jqp,jqq,Nat.reduceSub,Nat.reduceAdd,jqr,jqs,jqt,Int.reduceToNat,Int.reducePow,Int.reduceNeg,Int.reduceMul,Int.reduceAdd,if_true,ite_true,jqu,ite_false,if_false]
  have P17:=pow10 (j:=17) (by decide) (by decide)
  have P20:=pow10 (j:=20) (by decide) (by decide)
  have hb:(1000000000000000000000000000000000000000000000000000000000000:Int) < big:=by decide +kernel
  refine ⟨h1,by omega,fun r1 H1 a1 b1 s1=>⟨by decide,ite2 (fun _=>?_) fun _=>ite2 (fun _=>q _ _ ⟨by decide,by decide⟩ s1) fun _=>⟨by omega,by omega,fun r2 H2 a2 b2 s2=>⟨by decide,q _ _ ?_ (s1.trans s2)⟩⟩⟩⟩
  · have g1:=Int.emod_nonneg c (b:=100000000000000000000) (by decide)
    have g2:=Int.emod_lt_of_pos c (b:=100000000000000000000) (by decide)
    generalize c % 100000000000000000000=d at *
    have m1:0≤d * (j + 2):=Int.mul_nonneg g1 (by omega)
    have m2:d * (j + 2)≤100000000000000000000 * 1000:=Int.mul_le_mul (by omega) (by omega) (by omega) (by decide)
    generalize d * (j + 2)=f at *
    have g3:=Int.emod_nonneg (f * 1000003 + j) (b:=200000000000000001) (by decide)
    have g4:=Int.emod_lt_of_pos (f * 1000003 + j) (b:=200000000000000001) (by decide)
    exact ⟨P20,by decide,⟨by omega,by omega⟩,⟨by omega,by omega⟩,P17,⟨by omega,by omega⟩,by decide,P17,q _ _ ⟨by omega,by omega⟩ s1⟩
  · exact ⟨by omega,by omega⟩
theorem rdp__law_part {c j:Int} {a:Addr} {ws:List Str} (h1:0≤j) (h2:j≤800) (h3:NamesAt H a ws) (h4:ws.length=3) (q:∀ v H',lfB v→Same H H'→Q v H') :
    rd__law_part K t { nx:=fun _ H'=>Q .non H',rt:=Q } (L2.start ["cell","j","slots"] [.int c,.int j,.ref a]) H:=by
  simp only [rd__law_part,sp__law_draw,sp__law_number,L2.start,tSeq,tRet,tNext,tOp,tVar,tC,tCons,tNil,tIfS,tTest,tCall,rIxL,rEq,rI,rI0,scal,List.map,List.replicate,List.length,List.append,jqa,jqb,jqc,jqd,jqe,jqf,jqg,jqh,jqi,jqj,jqk,jql,jqm,jqn,and_true,true_and,and_assoc,jqo,jqp,jqq,Nat.reduceSub,Nat.reduceAdd,jqr,jqs,jqt,Int.reduceToNat,Int.reducePow,Int.reduceNeg,Int.reduceMul,Int.reduceAdd,if_true,ite_true,jqu,ite_false,if_false]
  refine ⟨by omega,by omega,fun r1 H1 a1 b1 s1=>⟨by decide,ite2 (fun _=>⟨by omega,by omega,fun r2 H2 a2 b2 s2=>⟨by decide,?_⟩⟩) fun _=>⟨h1,by omega,fun w H2 hw s2=>q _ _ (.inl ⟨w,rfl,hw⟩) (s1.trans s2)⟩⟩⟩
  obtain ⟨x,hx,_,hn⟩:=names_at h3 3 h4 (by decide) r2
  have S:=s1.trans s2
  exact ⟨_,SqL.of (S _ _ h3.1),_,hx,q _ _ (.inr ⟨x,rfl,hn⟩) S⟩
theorem rdp_term5 {c j kd:Int} {a:Addr} {ws:List Str} {u:V} {o:Option V} {Hb:Hp} (h1:0≤j) (h2:j≤700) (h3:NamesAt H a ws) (h4:ws.length=3) (k1:5≤kd) (k2:kd≤9) (hu:lfB u) (sb:Same Hb H) (q:∀ p e H',Same Hb H'→Hb p=none→H' p=some (.tup e)→TmB e→Q (.ref p) H') :
    rd__law_term_5 K t { nx:=fun _ H'=>Q .non H',rt:=Q } [some (.int c),some (.int j),some (.ref a),some (.int kd),some u,o,none] H:=by
  simp only [rd__law_term_5,sp__law_draw,sp__law_part,L2.start,tSeq,tAsg,gName,tRet,tOp,tVar,tC,tLst,tTup,tCons,tNil,tCall,rIxL,rI,rI0,List.map,List.replicate,List.length,List.append,jqa,jqb,jqc,jqd,jqe,jqf,jqg,jqh,jqi,jqj,jqk,jql,jqm,jqn,and_true,true_and,and_assoc,jqo,jqp,jqq,Nat.reduceSub,Nat.reduceAdd,jqr,jqs,jqt,Int.reduceToNat,Int.reducePow,Int.reduceNeg,Int.reduceMul,Int.reduceAdd,if_true,ite_true,jqu,ite_false,if_false]
  refine ⟨by decide,fun l hl=>?_⟩
  obtain ⟨H1,eH,s1,q1⟩:=new_obj (o:=HO.lst [V.str (Str.ofString "plus"),V.str (Str.ofString "minus"),V.str (Str.ofString "under"),V.str (Str.ofString "same"),V.str (Str.ofString "plus"),V.str (Str.ofString "minus")]) hl
  rw [← eH]
  clear eH
  refine ⟨by omega,by omega,ws,h3.same s1,h4,fun v H2 hv s2=>⟨by omega,by omega,fun r H3 a3 b3 s3=>⟨by decide,?_⟩⟩⟩
  obtain ⟨y,hy,hm⟩:=at_lt (xs:=[V.str (Str.ofString "plus"),V.str (Str.ofString "minus"),V.str (Str.ofString "under"),V.str (Str.ofString "same"),V.str (Str.ofString "plus"),V.str (Str.ofString "minus")]) (i:=kd - 5 + r % 2) (by omega) (by show kd - 5 + r % 2 < (6:Int);omega)
  obtain ⟨w,rfl,hw⟩:∃ w:Str,y=.str w∧wdB w v:=by
    simp only [List.mem_cons,List.not_mem_nil,or_false] at hm
    rcases hm with rfl | rfl | rfl | rfl | rfl | rfl
    · exact ⟨_,rfl,.inr (.inr (.inl rfl))⟩
    · exact ⟨_,rfl,.inr (.inr (.inr (.inl rfl)))⟩
    · exact ⟨_,rfl,.inr (.inr (.inr (.inr (.inl rfl))))⟩
    · exact ⟨_,rfl,.inr (.inr (.inr (.inr (.inr rfl))))⟩
    · exact ⟨_,rfl,.inr (.inr (.inl rfl))⟩
    · exact ⟨_,rfl,.inr (.inr (.inr (.inl rfl)))⟩
  refine ⟨_,SqL.of ((s2.trans s3) _ _ q1),_,hy,by decide,fun p hp=>?_⟩
  have S:=sb.trans (s1.trans (s2.trans s3))
  exact q p _ _ (S.trans (isV p hp)) (fresh_of S hp) upd_same (.inr ⟨u,v,w,rfl,hu,hv,hw⟩)
theorem rdp_term4 {c j kd:Int} {a:Addr} {ws:List Str} {u:V} {Hb:Hp} (h1:0≤j) (h2:j≤700) (h3:NamesAt H a ws) (h4:ws.length=3) (k1:4≤kd) (k2:kd≤9) (hu:lfB u) (sb:Same Hb H) (q:∀ p e H',Same Hb H'→Hb p=none→H' p=some (.tup e)→TmB e→Q (.ref p) H') :
    rd__law_term_4 K t { nx:=fun _ H'=>Q .non H',rt:=Q } [some (.int c),some (.int j),some (.ref a),some (.int kd),some u,none,none] H:=by
  simp only [rd__law_term_4,sp__law_draw,sp__law_part,L2.start,tSeq,tAsg,gName,tRet,tNext,tOp,tUn,tVar,tC,tLst,tTup,tCons,tNil,tIfS,tTest,tCall,rIxL,rEq,rI,rI0,rU,scal,List.map,List.replicate,List.length,List.append,jqa,jqb,jqc,jqd,jqe,jqf,jqg,jqh,jqi,jqj,jqk,jql,jqm,jqn,and_true,true_and,and_assoc,jqo,jqp,jqq,Nat.reduceSub,Nat.reduceAdd,jqr,jqs,jqt,Int.reduceToNat,Int.reducePow,Int.reduceNeg,Int.reduceMul,Int.reduceAdd,if_true,ite_true,jqu,ite_false,if_false]
  have P9:=pow10 (j:=9) (by decide) (by decide)
  refine ite2 (fun _=>⟨P9,by decide,fun l hl=>?_⟩) fun e=>rdp_term5 h1 h2 h3 h4 (by have:kd≠4:=fun z=>e (by rw [z]);omega) k2 hu sb q
  obtain ⟨H1,eH,s1,q1⟩:=new_obj (o:=HO.lst [V.int 1,V.int (-1),V.int 7,V.int (-3),V.int 1000000007]) hl
  rw [← eH]
  clear eH
  refine ⟨by omega,by omega,fun r H2 a2 b2 s2=>⟨by decide,?_⟩⟩
  obtain ⟨y,hy,hm⟩:=at_mod r 5 (xs:=[V.int 1,V.int (-1),V.int 7,V.int (-3),V.int 1000000007]) rfl (by decide)
  obtain ⟨k,rfl,k0,k1',k2'⟩:∃ k:Int,y=.int k∧k≠0∧-1000000007≤k∧k≤1000000007:=by
    simp only [List.mem_cons,List.not_mem_nil,or_false] at hm
    rcases hm with rfl | rfl | rfl | rfl | rfl <;> exact ⟨_,rfl,by decide,by decide,by decide⟩
  refine ⟨_,SqL.of (s2 _ _ q1),_,hy,by decide,fun l2 hl2=>?_⟩
  obtain ⟨H3,eH,s3,q3⟩:=new_obj (o:=HO.lst [V.str (Str.ofString "over"),V.str (Str.ofString "rest")]) hl2
  rw [← eH]
  clear eH
  refine ⟨by omega,by omega,fun r2 H4 a4 b4 s4=>⟨by decide,?_⟩⟩
  obtain ⟨y,hy,hm⟩:=at_mod r2 2 (xs:=[V.str (Str.ofString "over"),V.str (Str.ofString "rest")]) rfl (by decide)
  obtain ⟨w,rfl,hw⟩:∃ w:Str,y=.str w∧wdB w (.int k):=by
    simp only [List.mem_cons,List.not_mem_nil,or_false] at hm
    rcases hm with rfl | rfl
    · exact ⟨_,rfl,.inr (.inl ⟨.inl rfl,k,rfl,k0,k1',k2'⟩)⟩
    · exact ⟨_,rfl,.inr (.inl ⟨.inr rfl,k,rfl,k0,k1',k2'⟩)⟩
  refine ⟨_,SqL.of (s4 _ _ q3),_,hy,by decide,fun p hp=>?_⟩
  have S:=sb.trans (s1.trans (s2.trans (s3.trans s4)))
  exact q p _ _ (S.trans (isV p hp)) (fresh_of S hp) upd_same (.inr ⟨u,.int k,w,rfl,hu,.inl ⟨k,rfl,by omega,by omega⟩,hw⟩)
theorem rdp_term3 {c j kd:Int} {a:Addr} {ws:List Str} {u:V} {Hb:Hp} (h1:0≤j) (h2:j≤700) (h3:NamesAt H a ws) (h4:ws.length=3) (k1:3≤kd) (k2:kd≤9) (hu:lfB u) (sb:Same Hb H) (q:∀ p e H',Same Hb H'→Hb p=none→H' p=some (.tup e)→TmB e→Q (.ref p) H') :
    rd__law_term_3 K t { nx:=fun _ H'=>Q .non H',rt:=Q } [some (.int c),some (.int j),some (.ref a),some (.int kd),some u,none,none] H:=by
  simp only [rd__law_term_3,sp__law_draw,L2.start,tSeq,tAsg,gName,tRet,tNext,tOp,tUn,tVar,tC,tLst,tTup,tCons,tNil,tIfS,tTest,tCall,rIxL,rEq,rI,rI0,rU,scal,List.map,List.replicate,List.length,List.append,jqa,jqb,jqc,jqd,jqe,jqf,jqg,jqh,jqi,jqj,jqk,jql,jqm,jqn,and_true,true_and,and_assoc,jqo,jqp,jqq,Nat.reduceSub,Nat.reduceAdd,jqr,jqs,jqt,Int.reduceToNat,Int.reducePow,Int.reduceNeg,Int.reduceMul,Int.reduceAdd,if_true,ite_true,jqu,ite_false,if_false]
  refine ite2 (fun _=>⟨by omega,by omega,fun r H2 a2 b2 s2=>⟨by decide,by decide,fun p hp=>?_⟩⟩) fun e=>rdp_term4 h1 h2 h3 h4 (by have:kd≠3:=fun z=>e (by rw [z]);omega) k2 hu sb q
  have S:=sb.trans s2
  exact q p _ _ (S.trans (isV p hp)) (fresh_of S hp) upd_same (.inr ⟨u,.int (r % 5 - 2),_,rfl,hu,.inl ⟨_,rfl,by omega,by omega⟩,.inl ⟨rfl,_,rfl,by omega,by omega⟩⟩)
theorem rdp__law_term {c j:Int} {a:Addr} {ws:List Str} (h1:0≤j) (h2:j≤700) (h3:NamesAt H a ws) (h4:ws.length=3) (q:∀ p e H',Same H H'→H p=none→H' p=some (.tup e)→TmB e→Q (.ref p) H') :
    rd__law_term K t { nx:=fun _ H'=>Q .non H',rt:=Q } (L2.start ["cell","j","slots","kind","one","other","words"] [.int c,.int j,.ref a]) H:=by
  simp only [rd__law_term,rd__law_term_2,sp__law_draw,sp__law_part,L2.start,tSeq,tAsg,gName,tRet,tNext,tOp,tUn,tVar,tC,tLst,tTup,tCons,tNil,tIfS,tTest,tCall,rIxL,rEq,rI,rI0,rU,scal,List.map,List.replicate,List.length,List.append,jqa,jqb,jqc,jqd,jqe,jqf,jqg,jqh,jqi,jqj,jqk,jql,jqm,jqn,and_true,true_and,and_assoc,jqo,jqp,jqq,Nat.reduceSub,Nat.reduceAdd,jqr,jqs,jqt,Int.reduceToNat,Int.reducePow,Int.reduceNeg,Int.reduceMul,Int.reduceAdd,if_true,ite_true,jqu,ite_false,if_false]
  refine ⟨h1,by omega,fun r1 H1 a1 b1 s1=>⟨by decide,by omega,by omega,ws,h3.same s1,h4,fun u H2 hu s2=>ite2 (fun _=>⟨by decide,fun p hp=>?_⟩) fun e=>?_⟩⟩
  · have S:=s1.trans s2
    exact q p _ _ (S.trans (isV p hp)) (fresh_of S hp) upd_same (.inl ⟨u,rfl,hu⟩)
  · have S:=s1.trans s2
    have e':¬ r1 % 10 < 3:=fun z=>e z
    exact rdp_term3 h1 h2 (h3.same S) h4 (by omega) (by omega) hu S q
theorem rdp__law_spot {c j:Int} {a:Addr} {ws:List Str} (h1:0≤j) (h2:j≤600) (h3:NamesAt H a ws) (h4:ws.length=3) (q:∀ p e H',Same H H'→H p=none→H' p=some (.tup e)→TmB e→Q (.ref p) H') :
    rd__law_spot K t { nx:=fun _ H'=>Q .non H',rt:=Q } (L2.start ["cell","j","slots"] [.int c,.int j,.ref a]) H:=by
  simp only [rd__law_spot,sp__law_draw,sp__law_term,L2.start,tSeq,tRet,tNext,tOp,tVar,tC,tTup,tCons,tNil,tIfS,tTest,tCall,rEq,rI,rI0,scal,List.map,List.replicate,List.length,List.append,jqa,jqb,jqc,jqd,jqe,jqf,jqg,jqh,jqi,jqj,jqk,jql,jqm,jqn,and_true,true_and,and_assoc,jqo,jqp,jqq,Nat.reduceSub,Nat.reduceAdd,jqr,jqs,jqt,Int.reduceToNat,Int.reducePow,Int.reduceNeg,Int.reduceMul,Int.reduceAdd,if_true,ite_true,jqu,ite_false,if_false]
  refine ⟨h1,by omega,fun r1 H1 a1 b1 s1=>⟨by decide,ite2 (fun _=>⟨by omega,by omega,ws,h3.same s1,h4,fun p e H2 s2 fp hp te=>q p e H2 (s1.trans s2) (fresh_of s1 fp) hp te⟩) fun _=>⟨by omega,by omega,fun r2 H2 a2 b2 s2=>⟨by decide,by decide,fun p hp=>?_⟩⟩⟩⟩
  have S:=s1.trans s2
  exact q p _ _ (S.trans (isV p hp)) (fresh_of S hp) upd_same (.inl ⟨_,rfl,.inl ⟨_,rfl,by omega,by omega⟩⟩)
theorem one_row {H:Hp} {v:V} {r:Rw} (h:CsAt H v (.row r)) (b:RwB r):Paired (CsAt H) [v] [.row r]∧(∀ c∈[Cs.row r],CsB c)∧[Cs.row r].length≤2 :=
  ⟨.cons h .nil,fun c hc=>by rw [List.mem_singleton.mp hc];exact ⟨r,rfl,b⟩,by simp⟩
theorem rdp_rows4 {c kd:Int} {a b sp:Addr} {ws:List Str} {sh sl:Str} {e:List V} {Hb:Hp} (h3:NamesAt H a ws) (h4:ws.length=3) (nsh:isName sh=true) (nsl:isName sl=true) (hp:H sp=some (.tup e)) (te:TmB e) (S:Same Hb H)
    (q:∀ l xs C H',Same Hb H'→H' l=some (.lst xs)→Paired (CsAt H') xs C→(∀ c∈C,CsB c)→C.length≤2→Q (.ref l) H') :
    rd__law_rows_4 K t { nx:=fun _ H'=>Q .non H',rt:=Q } [some (.int c),some (.ref a),some (.ref b),some (.int kd),some (.str sh),some (.str sl),some (.ref sp)] H:=by
  simp only [rd__law_rows_4,sp__law_draw,sp__law_term,L2.start,tSeq,tAsg,gName,tRet,tNext,tOp,tVar,tC,tLst,tTup,tCons,tNil,tIfS,tTest,tCall,rEq,rI,rI0,scal,List.map,List.replicate,List.length,List.append,jqa,jqb,jqc,jqd,jqe,jqf,jqg,jqh,jqi,jqj,jqk,jql,jqm,jqn,and_true,true_and,and_assoc,jqo,jqp,jqq,Nat.reduceSub,Nat.reduceAdd,jqr,jqs,jqt,Int.reduceToNat,Int.reducePow,Int.reduceNeg,Int.reduceMul,Int.reduceAdd,if_true,ite_true,jqu,ite_false,if_false]
  refine ite2 (fun _=>⟨by decide,by decide,fun r H2 a2 b2 s2=>⟨by decide,by decide,fun p hp=>⟨by decide,fun r1 hr1=>⟨by decide,fun p2 hp2=>⟨by decide,fun r2 hr2=>⟨by decide,fun l hl=>?_⟩⟩⟩⟩⟩⟩) fun _=>ite2 (fun _=>⟨by decide,fun r1 hr1=>⟨by decide,fun l hl=>?_⟩⟩) fun _=>ite2 (fun _=>⟨by decide,by decide,ws,h3,h4,fun p2 f H5 s5 fp2 hp2 tf=>⟨by decide,fun r1 hr1=>⟨by decide,fun l hl=>?_⟩⟩⟩) fun _=>ite2 (fun _=>⟨by decide,by decide,ws,h3,h4,fun p2 f H5 s5 fp2 hp2 tf=>⟨by decide,fun r1 hr1=>⟨by decide,fun l hl=>?_⟩⟩⟩) fun _=>⟨by decide,by decide,ws,h3,h4,fun p2 f H5 s5 fp2 hp2 tf=>⟨by decide,fun r1 hr1=>⟨by decide,fun l hl=>?_⟩⟩⟩
  · have z1:=isV (o:=HO.tup [V.int (r % 4 - 1)]) p hp
    have q1:upd H2 p (HO.tup [V.int (r % 4 - 1)]) p=some (.tup [V.int (r % 4 - 1)]):=upd_same
    generalize upd H2 p (HO.tup [V.int (r % 4 - 1)])=A1 at *
    have z2:=isV (o:=HO.tup [V.str (Str.ofString "take"),V.str sh,V.ref p,V.str sl]) r1 hr1
    have q2:upd A1 r1 (HO.tup [V.str (Str.ofString "take"),V.str sh,V.ref p,V.str sl]) r1=some (.tup [V.str (Str.ofString "take"),V.str sh,V.ref p,V.str sl]):=upd_same
    generalize upd A1 r1 (HO.tup [V.str (Str.ofString "take"),V.str sh,V.ref p,V.str sl])=A2 at *
    have z3:=isV (o:=HO.tup [V.str sl]) p2 hp2
    have q3:upd A2 p2 (HO.tup [V.str sl]) p2=some (.tup [V.str sl]):=upd_same
    generalize upd A2 p2 (HO.tup [V.str sl])=A3 at *
    have z4:=isV (o:=HO.tup [V.str (Str.ofString "give"),V.str sh,V.ref p,V.ref p2]) r2 hr2
    have q4:upd A3 r2 (HO.tup [V.str (Str.ofString "give"),V.str sh,V.ref p,V.ref p2]) r2=some (.tup [V.str (Str.ofString "give"),V.str sh,V.ref p,V.ref p2]):=upd_same
    generalize upd A3 r2 (HO.tup [V.str (Str.ofString "give"),V.str sh,V.ref p,V.ref p2])=A4 at *
    have z5:=isV (o:=HO.lst [V.ref r1,V.ref r2]) l hl
    have tb:TmB [V.int (r % 4 - 1)]:=.inl ⟨_,rfl,.inl ⟨_,rfl,by omega,by omega⟩⟩
    have tl:TmB [V.str sl]:=.inl ⟨_,rfl,.inr ⟨_,rfl,nsl⟩⟩
    refine q l _ [.row (.take sh [V.int (r % 4 - 1)] sl),.row (.give sh [V.int (r % 4 - 1)] [V.str sl])] _ (S.trans (s2.trans (z1.trans (z2.trans (z3.trans (z4.trans z5)))))) upd_same (.cons ⟨?_,trivial⟩ (.cons ⟨?_,trivial⟩ .nil)) ?_ (by simp)
    · exact ⟨r1,p,rfl,trivial,trivial,(z3.trans (z4.trans z5)) _ _ q2,(z2.trans (z3.trans (z4.trans z5))) _ _ q1⟩
    · exact ⟨r2,p,p2,rfl,trivial,trivial,trivial,z5 _ _ q4,(z2.trans (z3.trans (z4.trans z5))) _ _ q1,(z4.trans z5) _ _ q3⟩
    · intro c hc
      simp only [List.mem_cons,List.not_mem_nil,or_false] at hc
      rcases hc with rfl | rfl
      · exact ⟨_,rfl,nsh,nsl,tb⟩
      · exact ⟨_,rfl,nsh,tb,tl⟩
  · have z1:=isV (o:=HO.tup [V.str (Str.ofString "take"),V.str sh,V.ref sp,V.str sl]) r1 hr1
    have z2:=isV (o:=HO.lst [V.ref r1]) l hl
    obtain ⟨w1,w2,w3⟩:=one_row (H:=upd (upd H r1 (HO.tup [V.str (Str.ofString "take"),V.str sh,V.ref sp,V.str sl])) l (HO.lst [V.ref r1])) (v:=.ref r1) (r:=.take sh e sl) ⟨⟨r1,sp,rfl,trivial,trivial,z2 _ _ upd_same,(z1.trans z2) _ _ hp⟩,trivial⟩ ⟨nsh,nsl,te⟩
    exact q l _ _ _ (S.trans (z1.trans z2)) upd_same w1 w2 w3
  · have z1:=isV (o:=HO.tup [V.str (Str.ofString "give"),V.str sh,V.ref sp,V.ref p2]) r1 hr1
    have z2:=isV (o:=HO.lst [V.ref r1]) l hl
    obtain ⟨w1,w2,w3⟩:=one_row (H:=upd (upd H5 r1 (HO.tup [V.str (Str.ofString "give"),V.str sh,V.ref sp,V.ref p2])) l (HO.lst [V.ref r1])) (v:=.ref r1) (r:=.give sh e f) ⟨⟨r1,sp,p2,rfl,trivial,trivial,trivial,z2 _ _ upd_same,(s5.trans (z1.trans z2)) _ _ hp,(z1.trans z2) _ _ hp2⟩,trivial⟩ ⟨nsh,te,tf⟩
    exact q l _ _ _ (S.trans (s5.trans (z1.trans z2))) upd_same w1 w2 w3
  · have z1:=isV (o:=HO.tup [V.str (Str.ofString "let"),V.str sl,V.ref p2]) r1 hr1
    have z2:=isV (o:=HO.lst [V.ref r1]) l hl
    obtain ⟨w1,w2,w3⟩:=one_row (H:=upd (upd H5 r1 (HO.tup [V.str (Str.ofString "let"),V.str sl,V.ref p2])) l (HO.lst [V.ref r1])) (v:=.ref r1) (r:=.lt sl f) ⟨⟨r1,p2,rfl,trivial,trivial,z2 _ _ upd_same,(z1.trans z2) _ _ hp2⟩,trivial⟩ ⟨nsl,tf⟩
    exact q l _ _ _ (S.trans (s5.trans (z1.trans z2))) upd_same w1 w2 w3
  · have z1:=isV (o:=HO.tup [V.str (Str.ofString "say"),V.ref p2]) r1 hr1
    have z2:=isV (o:=HO.lst [V.ref r1]) l hl
    obtain ⟨w1,w2,w3⟩:=one_row (H:=upd (upd H5 r1 (HO.tup [V.str (Str.ofString "say"),V.ref p2])) l (HO.lst [V.ref r1])) (v:=.ref r1) (r:=.say f) ⟨⟨r1,p2,rfl,trivial,trivial,z2 _ _ upd_same,(z1.trans z2) _ _ hp2⟩,trivial⟩ tf
    exact q l _ _ _ (S.trans (s5.trans (z1.trans z2))) upd_same w1 w2 w3
theorem rdp__law_rows {c:Int} {a b:Addr} {ws us:List Str} (h1:NamesAt H a ws) (h2:ws.length=3) (h3:NamesAt H b us) (h4:us.length=2) (q:∀ l xs C H',Same H H'→H' l=some (.lst xs)→Paired (CsAt H') xs C→(∀ c∈C,CsB c)→C.length≤2→Q (.ref l) H') :
    rd__law_rows K t { nx:=fun _ H'=>Q .non H',rt:=Q } (L2.start ["cell","slots","shelves","kind","shelf","slot","spot"] [.int c,.ref a,.ref b]) H:=by
  simp only [rd__law_rows,sp__law_draw,sp__law_spot,L2.start,tSeq,tAsg,gName,tRet,tNext,tOp,tVar,tC,tLst,tTup,tCons,tNil,tIfS,tTest,tCall,rIxL,rEq,rI,rI0,scal,List.map,List.replicate,List.length,List.append,jqa,jqb,jqc,jqd,jqe,jqf,jqg,jqh,jqi,jqj,jqk,jql,jqm,jqn,and_true,true_and,and_assoc,jqo,jqp,jqq,Nat.reduceSub,Nat.reduceAdd,jqr,jqs,jqt,Int.reduceToNat,Int.reducePow,Int.reduceNeg,Int.reduceMul,Int.reduceAdd,if_true,ite_true,jqu,ite_false,if_false]
  refine ⟨by decide,by decide,fun r1 H1 a1 b1 s1=>⟨by decide,by decide,by decide,fun r2 H2 a2 b2 s2=>⟨by decide,?_⟩⟩⟩
  obtain ⟨sh,hsh,_,nsh⟩:=names_at h3 2 h4 (by decide) r2
  refine ⟨_,SqL.of ((s1.trans s2) _ _ h3.1),_,hsh,by decide,by decide,fun r3 H3 a3 b3 s3=>⟨by decide,?_⟩⟩
  obtain ⟨sl,hsl,_,nsl⟩:=names_at h1 3 h2 (by decide) r3
  have S:=s1.trans (s2.trans s3)
  exact ⟨_,SqL.of (S _ _ h1.1),_,hsl,by decide,by decide,ws,h1.same S,h2,fun p e H4 s4 fp hp te=>rdp_rows4 (h1.same (S.trans s4)) h2 nsh nsl hp te (S.trans s4) q⟩
theorem cmul_w {a b:Int} (ha:inW a=true) (hb:inW b=true):CMulB a b:=by
  rw [inW_iff] at ha hb
  have hb':(1000000000000000000000000000000000000000000000000000000000000:Int) < big:=by decide +kernel
  exact ⟨by omega,by omega⟩
theorem j_seven {w:Str} (h:isJ (.str w)=true):w=Str.ofString "plus"∨w=Str.ofString "minus"∨w=Str.ofString "times"∨w=Str.ofString "over"∨w=Str.ofString "rest"∨w=Str.ofString "under"∨w=Str.ofString "same":=by
  unfold isJ inV jw at h
  simp only [List.any_cons,List.any_nil,eqV,Bool.or_false,Bool.or_eq_true,decide_eq_true_eq,beq_iff_eq] at h
  rcases h with h | h | h | h | h | h | h
  · exact .inl h.symm
  · exact .inr (.inl h.symm)
  · exact .inr (.inr (.inl h.symm))
  · exact .inr (.inr (.inr (.inl h.symm)))
  · exact .inr (.inr (.inr (.inr (.inl h.symm))))
  · exact .inr (.inr (.inr (.inr (.inr (.inl h.symm)))))
  · exact .inr (.inr (.inr (.inr (.inr (.inr h.symm)))))
theorem rdp__law_two {a b:Int} {w:Str} (h:twoOk w a b) (q:∀ H',Same H H'→Q (.int (comeV w a b)) H') :
    rd__law_two K t { nx:=fun _ H'=>Q .non H',rt:=Q } (L2.start ["one","other","word"] [.int a,.int b,.str w]) H:=by
  simp only [rd__law_two,L2.start,cIntB,tSeq,tRet,tNext,tOp,tVar,tC,tCons,tNil,tIfS,tTest,tCB,rEq,rI,rI0,scal,List.map,List.replicate,List.length,List.append,jqa,jqb,jqc,jqd,jqe,jqf,jqg,jqh,jqi,jqj,jqk,jql,jqm,jqn,and_true,true_and,and_assoc,jqo,jqp,jqq,Nat.reduceSub,Nat.reduceAdd,jqr,jqs,jqt,Int.reduceToNat,Int.reducePow,Int.reduceNeg,Int.reduceMul,Int.reduceAdd,if_true,ite_true,jqu,ite_false,if_false]
  have q:=q H fun _ _ e=>e
  obtain ⟨j,d,ia,ib⟩:=h
  have B:=inW_big ib
  rcases j_seven j with rfl | rfl | rfl | rfl | rfl | rfl | rfl
  · rw [if_pos rfl];exact q
  · rw [if_neg (by decide +kernel),if_pos rfl];rw [come_minus] at q;exact q
  · rw [if_neg (by decide +kernel),if_neg (by decide +kernel),if_pos rfl];rw [come_times] at q;exact ⟨cmul_w ia ib,q⟩
  · have nz:=d (by decide +kernel)
    rw [if_neg (by decide +kernel),if_neg (by decide +kernel),if_neg (by decide +kernel),if_pos rfl];rw [come_over] at q;exact ⟨⟨nz,B.1,B.2⟩,q⟩
  · have nz:=d (by decide +kernel)
    rw [if_neg (by decide +kernel),if_neg (by decide +kernel),if_neg (by decide +kernel),if_neg (by decide +kernel),if_pos rfl]
    rw [come_rest] at q
    have e:a - a.fdiv b * b=a.fmod b:=by
      have:=Int.mul_fdiv_add_fmod a b
      rw [Int.mul_comm] at this
      omega
    rw [e]
    exact ⟨⟨nz,B.1,B.2⟩,cmul_w (inW_fdiv ia nz) ib,q⟩
  · rw [if_neg (by decide +kernel),if_neg (by decide +kernel),if_neg (by decide +kernel),if_neg (by decide +kernel),if_neg (by decide +kernel),if_pos rfl];rw [come_under] at q;exact q
  · rw [if_neg (by decide +kernel),if_neg (by decide +kernel),if_neg (by decide +kernel),if_neg (by decide +kernel),if_neg (by decide +kernel),if_neg (by decide +kernel)];rw [come_same] at q;exact q
def woI (e2:List V) (kvs:List (Key × V)) (tm sl l:Addr) (H H1:Hp) (i:Nat) (σ:St) (H':Hp):Prop:=(∃ o,σ=[some (.ref tm),some (.ref sl),some (.ref l),o])∧Same H H'∧H' l=some (.lst ((e2.take i).map fun v=>V.int (wrth kvs v)))∧TSm H1 H'
theorem rdp_worth2 {tm sl l:Addr} {e:List V} {kvs:List (Key × V)} {B:Int} {o:Option V} {H0:Hp} (h1:H tm=some (.tup e)) (hl:H l=some (.lst ((e.take 2).map fun v=>V.int (wrth kvs v)))) (h3:TmB e) (h4:SlB B kvs) (h5:BdOk B) (S:Same H0 H) (q:∀ i H',rk kvs e=.ok i→-(2 * B)≤i→i≤2 * B→Same H0 H'→Q (.int i) H') :
    rd__law_worth_2 K t { nx:=fun _ H'=>Q .non H',rt:=Q } [some (.ref tm),some (.ref sl),some (.ref l),o] H:=by
  simp only [rd__law_worth_2,sp__law_two,L2.start,rIxT,tSeq,tRet,tNext,tOp,tVar,tC,tCons,tNil,tIfS,tTest,tCB,tCall,LenV,rIxL,rIxT,rEq,cLen,scal,List.map,List.replicate,List.length,List.append,jqa,jqb,jqc,jqd,jqe,jqf,jqg,jqh,jqi,jqj,jqk,jql,jqm,jqn,and_true,true_and,and_assoc,jqo,jqp,jqq,Nat.reduceSub,Nat.reduceAdd,jqr,jqs,jqt,Int.reduceToNat,Int.reducePow,Int.reduceNeg,Int.reduceMul,Int.reduceAdd,if_true,ite_true,jqu,ite_false,if_false]
  obtain ⟨i,e1,e2,e3⟩:=tm_val h3 h4 h5
  rcases h3 with ⟨u,rfl,hu⟩ | ⟨u,v,w,rfl,hu,hv,hw⟩
  · refine ⟨1,.inr ⟨_,SqT.of h1,rfl⟩,?_⟩
    rw [if_pos (by rfl)]
    rw [rk_one hu.ok.2.1] at e1
    cases e1
    exact ⟨_,SqL.of hl,_,rfl,q _ _ (rk_one hu.ok.2.1) e2 e3 S⟩
  · refine ⟨3,.inr ⟨_,SqT.of h1,rfl⟩,?_⟩
    rw [if_neg (by decide)]
    obtain ⟨t1,t2,t3⟩:=wd_val hw hv h4 h5 (lf_wr hu h4 h5)
    exact ⟨_,SqL.of hl,_,rfl,_,SqL.of hl,_,rfl,_,SqT.of h1,_,rfl,_,rfl,_,rfl,_,rfl,t1,fun H2 s2=>q _ _ (by rw [rk_two hu.ok.2.1 hv.ok.2.1 (wd_j hw).1,join_two t1 h5 t2 t3]) t2 t3 (S.trans s2)⟩
theorem rdp_woB {D:Ends} {tm sl l:Addr} {x:V} {ys:List V} {kvs:List (Key × V)} {B:Int} (F:KF K) (hx:lfB x) (hs:H sl=some (.dK kvs)) (sb:SlB B kvs) (hl:H l=some (.lst ys)) (ly:ys.length≤2) (q:D.nx [some (.ref tm),some (.ref sl),some (.ref l),some x] (upd H l (.lst (ys ++ [.int (wrth kvs x)])))) :
    rd__law_worth_B K t D [some (.ref tm),some (.ref sl),some (.ref l),some x] H:=by
  simp only [rd__law_worth_B,tDGet2,L2.start,tDGet2,r_mt_append,rAppend,tDrop,tVar,tC,tCons,tNil,tIfS,tB,tCB,tBM,tyV,cIsi,List.map,List.replicate,List.length,List.append,jqa,jqb,jqc,jqd,jqe,jqf,jqg,jqh,jqi,jqj,jqk,jql,jqm,jqn,and_true,true_and,and_assoc,jqo,jqp,jqq,Nat.reduceSub,Nat.reduceAdd,jqr,jqs,jqt,Int.reduceToNat,Int.reducePow,Int.reduceNeg,Int.reduceMul,Int.reduceAdd,if_true,ite_true,jqu,ite_false,if_false]
  have big:ys.length < sizeLine:=Nat.lt_of_le_of_lt (by omega:_≤900) (by decide)
  rcases hx with ⟨i,rfl,hi⟩ | ⟨z,rfl,hz⟩
  · refine ⟨_,.int i,true,kit_same _,?_⟩
    rw [if_pos rfl]
    exact ⟨.inl ⟨_,SqL.of hl⟩,_,hl,big,q⟩
  · refine ⟨_,.str z,false,F.s_i,?_⟩
    rw [if_neg (by decide)]
    refine ⟨.inl ⟨_,SqL.of hl⟩,.inl ⟨kvs,.inl hs⟩,_,DGet.k (k:=.inr z) hs,_,hl,big,?_⟩
    have e:(valV kvs (.inr z)).getD (V.int 0)=V.int (wrth kvs (.str z)):=by
      cases h:valV kvs (.inr z) with
      | none=>show V.int 0=V.int (match valV kvs (.inr z) with | some (.int i)=>i | _=>0);rw [h]
      | some v =>
        obtain ⟨i,rfl,_⟩:=sb _ _ h
        show V.int i=V.int (match valV kvs (.inr z) with | some (.int i)=>i | _=>0);rw [h]
    rw [e]
    exact q
theorem rdp__law_worth {tm sl:Addr} {e:List V} {kvs:List (Key × V)} {B:Int} (F:KF K) (h1:H tm=some (.tup e)) (h2:H sl=some (.dK kvs)) (h3:TmB e) (h4:SlB B kvs) (h5:BdOk B) (q:∀ i H',rk kvs e=.ok i→-(2 * B)≤i→i≤2 * B→Same H H'→Q (.int i) H') :
    rd__law_worth K t { nx:=fun _ H'=>Q .non H',rt:=Q } (L2.start ["term","slots","parts","part"] [.ref tm,.ref sl]) H:=by
  simp only [rd__law_worth,tDGet2,rSlT2,L2.start,tDGet2,r_mt_append,rAppend,rIxT,tSeq,tAsg,gName,tRet,tDrop,tNext,tOp,tVar,tC,tLst,tCons,tNil,tFor,tIfS,tTest,tB,tCB,tBM,tyV,tSl,tPart,tNoPart,tCall,LenV,iTup,rIxL,rIxT,rEq,cLen,cIsi,scal,List.map,List.replicate,List.length,List.append,jqa,jqb,jqc,jqd,jqe,jqf,jqg,jqh,jqi,jqj,jqk,jql,jqm,jqn,and_true,true_and,and_assoc,jqo,jqp,jqq,Nat.reduceSub,Nat.reduceAdd,jqr,jqs,jqt,Int.reduceToNat,Int.reducePow,Int.reduceNeg,Int.reduceMul,Int.reduceAdd,if_true,ite_true,jqu,ite_false,if_false]
  have s2:HT.sIx e.length e.length (some 2)=min 2 e.length:=HT.sIx_nat _ _ 2
  have lfs:∀ v∈e.take 2,lfB v:=by
    rcases h3 with ⟨u,rfl,hu⟩ | ⟨u,v,w,rfl,hu,hv,hw⟩
    · intro z hz;rw [show [u].take 2=[u] from rfl,List.mem_singleton] at hz;rw [hz];exact hu
    · intro z hz
      simp only [List.take_succ_cons,List.take_zero,List.mem_cons,List.not_mem_nil,or_false] at hz
      rcases hz with rfl | rfl
      · exact hu
      · exact hv
  have l2:(e.take 2).length≤2:=by rw [List.length_take];omega
  have len3:e.length=1∨e.length=3:=by rcases h3 with ⟨u,rfl,_⟩ | ⟨u,v,w,rfl,_⟩ <;> simp
  have stp:∀ {l:Addr} {H1:Hp} {D:Ends},H l=none→(∀ i,D.nx=woI (e.take 2) kvs tm sl l H H1 (i + 1)→∀ x σ H',(e.take 2)[i]?=some x→woI (e.take 2) kvs tm sl l H H1 i σ H'→rd__law_worth_B K t D (σ.set 3 (some x)) H'):=by
    rintro l H1 D hl i eD x σ H' hx ⟨⟨o,rfl⟩,S,hy,T⟩
    refine rdp_woB F (lfs x (List.mem_of_getElem? hx)) (S _ _ h2) h4 hy (by rw [List.length_map];exact Nat.le_trans (List.length_take_le' _ _) l2) ?_
    rw [eD]
    refine ⟨⟨_,rfl⟩,fun b o e=>by rw [upd_ne (ne_of_none e hl)];exact S _ _ e,?_,fun b ys e=>ts_upd hy _ _ (T _ _ e)⟩
    have:=List.take_add_one (l:=e.take 2) (i:=i)
    rw [this,hx,List.map_append]
    exact upd_same
  refine ⟨by decide,fun l hl=>⟨e,SqT.of (isV l hl _ _ h1),fun w=>?_,fun w p hp=>?_⟩⟩
  · have S1:=isV (o:=HO.lst []) l hl
    have hl1:upd H l (HO.lst []) l=some (.lst []):=upd_same
    have ha:upd H l (HO.lst []) tm=some (.tup (e.take 2)):=by
      rw [List.take_of_length_le (by have:=w.2;rw [s2] at this;omega)];exact S1 _ _ h1
    generalize upd H l (HO.lst [])=H1 at *
    refine ⟨⟨_,SqT.of ha⟩,loop_tup (e.take 2) (woI (e.take 2) kvs tm sl l H H1) ⟨⟨_,rfl⟩,S1,hl1,fun _ _ e=>e⟩ (fun i σ H' z=>SqT.of (z.2.2.2 _ _ ha)) (fun i x σ H' hx z=>stp hl i rfl x σ H' hx z) ?_⟩
    rintro σ H' ⟨⟨o,rfl⟩,S,hy,T⟩
    rw [List.take_length] at hy
    exact rdp_worth2 (S _ _ h1) hy h3 h4 h5 S q
  · have S1:=isV (o:=HO.lst []) l hl
    have hl1:upd H l (HO.lst []) l=some (.lst []):=upd_same
    have S2:=isV (o:=HO.tup (cutV e none (some 2))) p hp
    have hc:cutV e none (some 2)=e.take 2:=by
      unfold cutV
      rw [HT.sIx_none,s2,List.drop_zero]
      rcases len3 with z | z <;> rw [z]
      · rw [List.take_of_length_le (by omega),List.take_of_length_le (by omega)]
      · rfl
    have ha:upd (upd H l (HO.lst [])) p (HO.tup (cutV e none (some 2))) p=some (.tup (e.take 2)):=by rw [hc];exact upd_same
    have hl2:=S2 _ _ hl1
    have S3:=S1.trans S2
    generalize upd (upd H l (HO.lst [])) p (HO.tup (cutV e none (some 2)))=H1 at *
    refine ⟨⟨_,SqT.of ha⟩,loop_tup (e.take 2) (woI (e.take 2) kvs tm sl l H H1) ⟨⟨_,rfl⟩,S3,hl2,fun _ _ e=>e⟩ (fun i σ H' z=>SqT.of (z.2.2.2 _ _ ha)) (fun i x σ H' hx z=>stp hl i rfl x σ H' hx z) ?_⟩
    rintro σ H' ⟨⟨o,rfl⟩,S,hy,T⟩
    rw [List.take_length] at hy
    exact rdp_worth2 (S _ _ h1) hy h3 h4 h5 S q
section
variable {d:Addr} {a:LAd} {s:RSt} {kn:List Row}
theorem LwAt.same {H':Hp} (L:LwAt H d a s kn) (k:Same H H'):LwAt H' d a s kn :=
  ⟨k _ _ L.id,k _ _ L.hs,k _ _ L.hk,k _ _ L.hg,ls_same L.hn k,k _ _ L.ha,L.n1,L.n2,L.n3,L.kk,L.kl⟩
theorem LwAt.notup {b:Addr} {zs:List V} (L:LwAt H d a s kn) (h:H b=some (.tup zs)):¬ LOw d a b:=by
  rintro (rfl | rfl | rfl | rfl | rfl | rfl)
  · rw [L.id] at h;cases h
  · rw [L.hs] at h;cases h
  · rw [L.hk] at h;cases h
  · rw [L.hg] at h;cases h
  · obtain ⟨xs,e,_⟩:=L.hn;rw [e] at h;cases h
  · rw [L.ha] at h;cases h
theorem LwAt.keep {H':Hp} (L:LwAt H d a s kn) (k:∀ b o,LOw d a b→H b=some o→H' b=some o) (ts:TSm H H'):LwAt H' d a s kn :=
  ⟨k _ _ (.inl rfl) L.id,k _ _ (.inr (.inl rfl)) L.hs,k _ _ (.inr (.inr (.inl rfl))) L.hk,k _ _ (.inr (.inr (.inr (.inl rfl)))) L.hg,ls_kp L.hn (fun o e=>k _ _ (.inr (.inr (.inr (.inr (.inl rfl))))) e) ts,k _ _ (.inr (.inr (.inr (.inr (.inr rfl))))) L.ha,L.n1,L.n2,L.n3,L.kk,L.kl⟩
theorem lkp_upd {b:Addr} {o:HO} (h:LOw d a b):LKp d a H (upd H b o):=fun c o' n e=>by rw [upd_ne (fun z=>n (by rw [z];exact h))];exact e
theorem LKp.of_same {H':Hp} (s:Same H H'):LKp d a H H':=fun b o _ e=>s b o e
theorem LKp.trans {H' H'':Hp} (h:LKp d a H H') (k:LKp d a H' H''):LKp d a H H'':=fun b o n e=>k b o n (h b o n e)
theorem LwAt.ts {H':Hp} (L:LwAt H d a s kn) (k:LKp d a H H'):TSm H H':=fun b ys e=>k b _ (L.notup e) e
theorem LwAt.putS (L:LwAt H d a s kn) (kvs:List (Key × V)):LwAt (upd H a.sl (.dK kvs)) d a { s with sl:=kvs } kn:=by
  obtain ⟨xs,hn,pn⟩:=L.hn
  exact ⟨by rw [upd_ne L.n3];exact L.id,upd_same,by rw [upd_ne (ne_of L.hk L.hs (fun z=>nomatch z))];exact L.hk,by rw [upd_ne (ne_of L.hg L.hs (fun z=>nomatch z))];exact L.hg,ls_kp ⟨xs,hn,pn⟩ (fun o e=>by rw [upd_ne (ne_of hn L.hs (fun z=>nomatch z))];exact e) (L.ts (lkp_upd (.inr (.inl rfl)))),by rw [upd_ne (ne_of L.ha L.hs (fun z=>nomatch z))];exact L.ha,L.n1,L.n2,L.n3,L.kk,L.kl⟩
theorem LwAt.putA (L:LwAt H d a s kn) (is:List Int):LwAt (upd H a.sa (.lst (is.map V.int))) d a { s with sa:=is } kn:=by
  obtain ⟨xs,hn,pn⟩:=L.hn
  exact ⟨by rw [upd_ne (ne_of L.id L.ha (fun z=>nomatch z))];exact L.id,by rw [upd_ne (ne_of L.hs L.ha (fun z=>nomatch z))];exact L.hs,by rw [upd_ne (ne_of L.hk L.ha (fun z=>nomatch z))];exact L.hk,by rw [upd_ne (ne_of L.hg L.ha (fun z=>nomatch z))];exact L.hg,ls_kp ⟨xs,hn,pn⟩ (fun o e=>by rw [upd_ne L.n2];exact e) (L.ts (lkp_upd (.inr (.inr (.inr (.inr (.inr rfl))))))),upd_same,L.n1,L.n2,L.n3,L.kk,L.kl⟩
theorem last_app {l:List Row} {p q:Pl} {w:Int}:lastW (l ++ [(p,w)]) q=if p=q then some w else lastW l q:=by
  have h:=val_dOf (l ++ [(p,w)]) q
  rw [dOf_snoc,valV_put] at h
  by_cases c:p=q
  · subst c
    exact (lastW_snoc l p w).trans (if_pos rfl).symm
  · rw [if_neg (fun z=>c (plKey_inj z).symm)] at h
    rw [if_neg c]
    have h2:=val_dOf l q
    rw [h2] at h
    cases e1:lastW l q with
    | none =>
      rw [e1] at h
      cases e2:lastW (l ++ [(p,w)]) q with
      | none=>rfl
      | some i=>rw [e2] at h;cases h
    | some i =>
      rw [e1] at h
      cases e2:lastW (l ++ [(p,w)]) q with
      | none=>rw [e2] at h;cases h
      | some j=>rw [e2] at h;cases h;rfl
theorem LwAt.give {p:Pl} {i:Int} (L:LwAt H d a s kn):LwAt (upd (upd H a.gi (.dT (dOf (s.gi ++ [(p,i)])))) a.kn (.dT (dOf (kn ++ [(p,i)])))) d a { s with gi:=s.gi ++ [(p,i)] } (kn ++ [(p,i)]):=by
  obtain ⟨xs,hn,pn⟩:=L.hn
  have ng:a.gi≠a.kn:=Ne.symm L.n1
  refine ⟨by rw [upd_ne (ne_of L.id L.hk (fun z=>nomatch z)),upd_ne (ne_of L.id L.hg (fun z=>nomatch z))];exact L.id,by rw [upd_ne (ne_of L.hs L.hk (fun z=>nomatch z)),upd_ne (ne_of L.hs L.hg (fun z=>nomatch z))];exact L.hs,upd_same,by rw [upd_ne ng];exact upd_same,ls_kp ⟨xs,hn,pn⟩ (fun o e=>by rw [upd_ne (ne_of hn L.hk (fun z=>nomatch z)),upd_ne (ne_of hn L.hg (fun z=>nomatch z))];exact e) (L.ts ((lkp_upd (.inr (.inr (.inr (.inl rfl))))).trans (lkp_upd (.inr (.inr (.inl rfl)))))),by rw [upd_ne (ne_of L.ha L.hk (fun z=>nomatch z)),upd_ne (ne_of L.ha L.hg (fun z=>nomatch z))];exact L.ha,L.n1,L.n2,L.n3,fun q=>?_,?_⟩
  · rw [last_app]
    show _=(lastW (s.gi ++ [(p,i)]) q).or (lastW s.no q)
    rw [last_app]
    by_cases c:p=q
    · rw [if_pos c,if_pos c];rfl
    · rw [if_neg c,if_neg c];exact L.kk q
  · have:=L.kl
    show (kn ++ [(p,i)]).length≤(s.gi ++ [(p,i)]).length + s.no.length
    simp only [List.length_append,List.length_singleton]
    omega
end
theorem rdp__law_begun (q:∀ d a H',Same H H'→LwAt H' d a st0 []→(∀ b,LOw d a b→H b=none)→Q (.ref d) H') :
    rd__law_begun K t { nx:=fun _ H'=>Q .non H',rt:=Q } (L2.start [] []) H:=by
  simp only [rd__law_begun,tDNewT,L2.start,tDisp,tPairs,tRet,tC,tLst,tNil,tDNewK,List.map,List.replicate,List.length,List.append,jqa,jqb,jqc,jqd,jqe,jqf,jqg,jqh,jqi,jqj,jqk,jql,jqm,jqn,and_true,true_and,and_assoc,jqo,jqp,jqq,Nat.reduceSub,Nat.reduceAdd,jqr,jqs,jqt,Int.reduceToNat,Int.reducePow,Int.reduceNeg,Int.reduceMul,Int.reduceAdd,if_true,ite_true,jqu,ite_false,if_false]
  intro p hp
  have s1:=isV (o:=HO.dK []) p hp
  have e1:upd H p (HO.dK []) p=some (HO.dK []):=upd_same
  generalize upd H p (HO.dK [])=H1 at *
  intro sl hsl
  have s2:=isV (o:=HO.dK []) sl hsl
  have e2:upd H1 sl (HO.dK []) sl=some (HO.dK []):=upd_same
  generalize upd H1 sl (HO.dK [])=H2 at *
  intro kn hkn
  have s3:=isV (o:=HO.dT []) kn hkn
  have e3:upd H2 kn (HO.dT []) kn=some (HO.dT []):=upd_same
  generalize upd H2 kn (HO.dT [])=H3 at *
  intro gi hgi
  have s4:=isV (o:=HO.dT []) gi hgi
  have e4:upd H3 gi (HO.dT []) gi=some (HO.dT []):=upd_same
  generalize upd H3 gi (HO.dT [])=H4 at *
  refine ⟨by decide,fun no hno=>?_⟩
  have s5:=isV (o:=HO.lst []) no hno
  have e5:upd H4 no (HO.lst []) no=some (HO.lst []):=upd_same
  generalize upd H4 no (HO.lst [])=H5 at *
  refine ⟨by decide,fun sa hsa=>?_⟩
  have s6:=isV (o:=HO.lst []) sa hsa
  have e6:upd H5 sa (HO.lst []) sa=some (HO.lst []):=upd_same
  generalize upd H5 sa (HO.lst [])=H6 at *
  refine ⟨(s2.trans (s3.trans (s4.trans (s5.trans s6)))) _ _ e1,(lwK ⟨sl,kn,gi,no,sa⟩),rfl,(by show (5:Nat)≤15;decide),?_⟩
  have S2:=s3.trans (s4.trans (s5.trans s6))
  have fr:∀ {b:Addr} {o:HO},H6 b=some o→b≠p→upd H6 p (HO.dK (mergeK [] (lwK ⟨sl,kn,gi,no,sa⟩))) b=some o:=fun e n=>by rw [upd_ne n];exact e
  have n2:sl≠p:=ne_of_none' e1 hsl
  have n3:kn≠p:=ne_of_none' (s2 _ _ e1) hkn
  have n4:gi≠p:=ne_of_none' ((s2.trans s3) _ _ e1) hgi
  have n5:no≠p:=ne_of_none' ((s2.trans (s3.trans s4)) _ _ e1) hno
  have n6:sa≠p:=ne_of_none' ((s2.trans (s3.trans (s4.trans s5))) _ _ e1) hsa
  refine q p ⟨sl,kn,gi,no,sa⟩ _ (fun b o e=>fr ((s1.trans (s2.trans S2)) _ _ e) (fun z=>by rw [z,hp] at e;cases e)) ⟨upd_same,fr (S2 _ _ e2) n2,fr ((s4.trans (s5.trans s6)) _ _ e3) n3,fr ((s5.trans s6) _ _ e4) n4,⟨[],fr (s6 _ _ e5) n5,.nil⟩,fr e6 n6,Ne.symm (ne_of_none' e3 hgi),Ne.symm (ne_of_none' e5 hsa),Ne.symm n2,fun _=>rfl,Nat.zero_le _⟩ ?_
  rintro b (rfl | rfl | rfl | rfl | rfl | rfl)
  · exact hp
  · exact fresh_of s1 hsl
  · exact fresh_of (s1.trans s2) hkn
  · exact fresh_of (s1.trans (s2.trans s3)) hgi
  · exact fresh_of (s1.trans (s2.trans (s3.trans s4))) hno
  · exact fresh_of (s1.trans (s2.trans (s3.trans (s4.trans s5)))) hsa
section
variable {d:Addr} {a:LAd} {s:RSt} {kn:List Row}
theorem LwAt.gS (L:LwAt H d a s kn):DGet H d (.str (Str.ofString "slots")) (some (.ref a.sl)):=by
  have e:valV (lwK a) (.inr (Str.ofString "slots"))=some (.ref a.sl):=by with_unfolding_all rfl
  rw [← e];exact DGet.k (k:=.inr (Str.ofString "slots")) L.id
theorem LwAt.gK (L:LwAt H d a s kn):DGet H d (.str (Str.ofString "known")) (some (.ref a.kn)):=by
  have e:valV (lwK a) (.inr (Str.ofString "known"))=some (.ref a.kn):=by with_unfolding_all rfl
  rw [← e];exact DGet.k (k:=.inr (Str.ofString "known")) L.id
theorem LwAt.gG (L:LwAt H d a s kn):DGet H d (.str (Str.ofString "given")) (some (.ref a.gi)):=by
  have e:valV (lwK a) (.inr (Str.ofString "given"))=some (.ref a.gi):=by with_unfolding_all rfl
  rw [← e];exact DGet.k (k:=.inr (Str.ofString "given")) L.id
theorem LwAt.gN (L:LwAt H d a s kn):DGet H d (.str (Str.ofString "notes")) (some (.ref a.no)):=by
  have e:valV (lwK a) (.inr (Str.ofString "notes"))=some (.ref a.no):=by with_unfolding_all rfl
  rw [← e];exact DGet.k (k:=.inr (Str.ofString "notes")) L.id
theorem LwAt.gA (L:LwAt H d a s kn):DGet H d (.str (Str.ofString "said")) (some (.ref a.sa)):=by
  have e:valV (lwK a) (.inr (Str.ofString "said"))=some (.ref a.sa):=by with_unfolding_all rfl
  rw [← e];exact DGet.k (k:=.inr (Str.ofString "said")) L.id
end
theorem rdp__law_wanted {v:V} {d:Addr} {c:Cs} {a:LAd} {s:RSt} {kn:List Row} {k:Nat} (h1:CsAt H v c) (h2:CsB c) (L:LwAt H d a s kn) (R:RnB k s) (hk:k < 40)
    (q1:∀ H',asksC c s=none→Same H H'→Q .non H') (q2:∀ p q H',asksC c s=some p→Same H H'→H' q=some (.tup [.str p.1,.int p.2])→Q (.ref q) H') :
    rd__law_wanted K t { nx:=fun _ H'=>Q .non H',rt:=Q } (L2.start ["row","state","place"] [v,.ref d]) H:=by
  obtain ⟨p,zs,hd,rfl,hp,h0,ht,hnt⟩:=cs_tup h1
  simp only [rd__law_wanted,sp__law_worth,rInD,tDGet,L2.start,rIxT,tSeq,tAsg,gName,tRet,tNext,tOp,tVar,tC,tTup,tCons,tNil,tIfS,tTest,tCall,rIxT,rNe,scal,List.map,List.replicate,List.length,List.append,jqa,jqb,jqc,jqd,jqe,jqf,jqg,jqh,jqi,jqj,jqk,jql,jqm,jqn,and_true,true_and,and_assoc,jqo,jqp,jqq,Nat.reduceSub,Nat.reduceAdd,jqr,jqs,jqt,Int.reduceToNat,Int.reducePow,Int.reduceNeg,Int.reduceMul,Int.reduceAdd,if_true,ite_true,jqu,ite_false,if_false]
  refine ⟨_,SqT.of hp,_,h0,rfl,?_⟩
  by_cases hh:hd=Str.ofString "take"
  case neg =>
    rw [if_pos (fun z=>hh (V.str.inj z))]
    exact q1 H (hnt hh s) fun _ _ e=>e
  rw [if_neg (fun z=>z (congrArg V.str hh))]
  obtain ⟨sh,e,sl,te,rfl,a1,a2,ht⟩:=ht hh
  obtain ⟨r,er,hr⟩:=h2
  cases er
  have B:=bdk_ok (k:=k) (by omega)
  refine ⟨_,SqT.of hp,_,a1,_,SqT.of hp,_,a2,_,L.gS,te,rfl,_,rfl,e,ht,_,L.hs,hr.2.2,_,R.sb,B,fun n H1 en n1 n2 s1=>⟨by decide,fun q hq=>?_⟩⟩
  have s2:=isV (o:=HO.tup [V.str sh,V.int n]) q hq
  have hq2:upd H1 q (HO.tup [V.str sh,V.int n]) q=some (.tup [V.str sh,V.int n]):=upd_same
  generalize upd H1 q (HO.tup [V.str sh,V.int n])=H2 at *
  have L2:=L.same (s1.trans s2)
  refine ⟨_,L2.gK,_,rfl,_,.inr ⟨dOf kn,plKey (sh,n),q,.inl L2.hk,rfl,hq2,rfl⟩,?_⟩
  rw [val_dOf,L.kk]
  have ea:asksC (.row (.take sh e sl)) s=if (lastW s.gi (sh,n)).isSome=true∨(lastW s.no (sh,n)).isSome=true then none else some (sh,n):=by simp only [asksC,en]
  rw [ea] at q1 q2
  cases hg:lastW s.gi (sh,n) with
  | some i =>
    rw [if_pos (by rfl)]
    exact q1 _ (if_pos (.inl (by rw [hg];rfl))) (s1.trans s2)
  | none =>
    cases hn:lastW s.no (sh,n) with
    | some i =>
      rw [if_pos (by rfl)]
      exact q1 _ (if_pos (.inr (by rw [hn];rfl))) (s1.trans s2)
    | none =>
      rw [if_neg (by decide)]
      exact q2 (sh,n) q _ (if_neg (by rw [hg,hn];simp)) (s1.trans s2) hq2
theorem step_say {e:List V} {w i:Int} {s:RSt} (h:rk s.sl e=.ok i):stepC (.row (.say e)) w s={ s with sa:=s.sa ++ [i],n:=s.n + 1 }:=by simp only [stepC,ledC,doR,h]
theorem step_lt {x:Str} {e:List V} {w i:Int} {s:RSt} (h:rk s.sl e=.ok i):stepC (.row (.lt x e)) w s={ s with sl:=putK s.sl (.inr x) (.int i),n:=s.n + 1 }:=by simp only [stepC,ledC,doR,h]
theorem step_give {sh:Str} {e f:List V} {w n i:Int} {s:RSt} (h:rk s.sl e=.ok n) (h2:rk s.sl f=.ok i):stepC (.row (.give sh e f)) w s={ s with gi:=s.gi ++ [((sh,n),i)],n:=s.n + 1 }:=by simp only [stepC,ledC,doR,h,h2]
theorem step_take {sh x:Str} {e:List V} {w n:Int} {s:RSt} (h:rk s.sl e=.ok n):stepC (.row (.take sh e x)) w s={ noteW (sh,n) w s with sl:=putK s.sl (.inr x) (.int (knownW (sh,n) w s)),n:=s.n + 1 }:=by simp only [stepC,ledC,doR,h]
theorem LwAt.num {d:Addr} {a:LAd} {s:RSt} {kn:List Row} (L:LwAt H d a s kn) (m:Nat):LwAt H d a { s with n:=m } kn:=⟨L.id,L.hs,L.hk,L.hg,L.hn,L.ha,L.n1,L.n2,L.n3,L.kk,L.kl⟩
theorem LwAt.note {H4:Hp} {d r q:Addr} {a:LAd} {s:RSt} {kn:List Row} {p:Pl} {w:Int} {xs:List V} (L:LwAt H d a s kn) (hg:lastW s.gi p=none) (hn:lastW s.no p=none) (hx:H a.no=some (.lst xs)) (px:Paired (PrAt H) xs s.no) (s4:Same (upd H a.kn (.dT (dOf (kn ++ [(p,w)])))) H4) (hr:H4 r=some (.tup [.ref q,.int w])) (hq:H4 q=some (.tup [.str p.1,.int p.2])) :
    LwAt (upd H4 a.no (.lst (xs ++ [.ref r]))) d a { s with no:=s.no ++ [(p,w)] } (kn ++ [(p,w)]):=by
  have nk:a.kn≠a.no:=ne_of L.hk hx (fun z=>nomatch z)
  have f:∀ {b:Addr} {o:HO},H b=some o→b≠a.kn→b≠a.no→upd H4 a.no (.lst (xs ++ [.ref r])) b=some o:=fun e n1 n2=>by rw [upd_ne n2];exact s4 _ _ (by rw [upd_ne n1];exact e)
  have h4n:H4 a.no=some (.lst xs):=s4 _ _ (by rw [upd_ne (Ne.symm nk)];exact hx)
  have ts:TSm H (upd H4 a.no (.lst (xs ++ [.ref r]))):=fun b ys e=>f e (ne_of e L.hk (fun z=>nomatch z)) (ne_of e hx (fun z=>nomatch z))
  refine ⟨f L.id (ne_of L.id L.hk (fun z=>nomatch z)) (ne_of L.id hx (fun z=>nomatch z)),f L.hs (ne_of L.hs L.hk (fun z=>nomatch z)) (ne_of L.hs hx (fun z=>nomatch z)),by rw [upd_ne nk];exact s4 _ _ upd_same,f L.hg (Ne.symm L.n1) (ne_of L.hg hx (fun z=>nomatch z)),⟨_,upd_same,?_⟩,f L.ha (ne_of L.ha L.hk (fun z=>nomatch z)) (Ne.symm L.n2),L.n1,L.n2,L.n3,fun z=>?_,?_⟩
  · exact Paired.snocP (Paired.mapP px fun _ _ ⟨r,p,e1,e2,e3⟩=>⟨r,p,e1,ts _ _ e2,ts _ _ e3⟩) ⟨r,q,rfl,ts_upd h4n _ _ hr,ts_upd h4n _ _ hq⟩
  · rw [last_app]
    show _=(lastW s.gi z).or (lastW (s.no ++ [(p,w)]) z)
    rw [last_app]
    by_cases c:p=z
    · rw [if_pos c,if_pos c,← c,hg];rfl
    · rw [if_neg c,if_neg c];exact L.kk z
  · have:=L.kl
    show (kn ++ [(p,w)]).length≤s.gi.length + (s.no ++ [(p,w)]).length
    simp only [List.length_append,List.length_singleton]
    omega
theorem rdp__law_stepped {v:V} {d:Addr} {w:Int} {c:Cs} {a:LAd} {s:RSt} {kn:List Row} {k:Nat} (h1:CsAt H v c) (h2:CsB c) (L:LwAt H d a s kn) (R:RnB k s) (hk:k < 40) (q:∀ kn' H',LKp d a H H'→LwAt H' d a (stepC c w s) kn'→Q .non H') :
    rd__law_stepped K t { nx:=fun _ H'=>Q .non H',rt:=Q } (L2.start ["row","state","answer","slots","place"] [v,.ref d,.int w]) H:=by
  obtain ⟨p,zs,hd,rfl,hp,h0,_,_⟩:=cs_tup h1
  simp only [rd__law_stepped,sp__law_worth,sDPut,rInD,tDGet,L2.start,r_mt_append,rAppend,rIxT,tSeq,tAsg,gName,tDrop,tNext,tOp,tVar,tC,tTup,tCons,tNil,tIfS,tTest,tBM,tyV,tCall,rIxT,rEq,scal,List.map,List.replicate,List.length,List.append,jqa,jqb,jqc,jqd,jqe,jqf,jqg,jqh,jqi,jqj,jqk,jql,jqm,jqn,and_true,true_and,and_assoc,jqo,jqp,jqq,Nat.reduceSub,Nat.reduceAdd,jqr,jqs,jqt,Int.reduceToNat,Int.reducePow,Int.reduceNeg,Int.reduceMul,Int.reduceAdd,if_true,ite_true,jqu,ite_false,if_false]
  have B:=bdk_ok (k:=k) (by omega)
  have l1:=R.ok.l1
  have l2:=R.ok.l2
  have l3:=R.ok.l3
  have l4:=R.ok.l4
  have kl:=L.kl
  have ln:(dOf kn).length≤900:=by have:=len_dOf kn;omega
  have lg:(dOf s.gi).length≤900:=by have:=len_dOf s.gi;omega
  have big:∀ {n:Nat},n≤900→n < sizeLine:=fun h=>Nat.lt_of_le_of_lt h (by decide)
  obtain ⟨r,rfl,hr⟩:=h2
  have h1:=h1.1
  cases r with
  | off e=>exact hr.elim
  | iff e x y=>exact hr.elim
  | say e =>
    unfold RwAt at h1;obtain ⟨p',te,ep,_,_,e2,e3⟩:=h1
    cases ep
    refine ⟨_,L.gS,_,SqT.of e2,_,rfl,rfl,?_⟩
    rw [if_pos (by rfl)]
    refine ⟨_,L.gA,.inl ⟨_,SqL.of L.ha⟩,_,SqT.of e2,_,rfl,te,rfl,_,rfl,e,e3,_,L.hs,hr,_,R.sb,B,fun i H1 ei _ _ s1=>⟨_,rfl,_,s1 _ _ L.ha,big (by rw [List.length_map];omega),?_⟩⟩
    have L1:=(L.same s1).putA (s.sa ++ [i])
    rw [List.map_append] at L1
    refine q kn _ ((LKp.of_same s1).trans (lkp_upd (.inr (.inr (.inr (.inr (.inr rfl))))))) ?_
    rw [step_say ei]
    exact L1.num _
  | lt x e =>
    unfold RwAt at h1;obtain ⟨p',te,ep,_,_,e2,e3⟩:=h1
    cases ep
    refine ⟨_,L.gS,_,SqT.of e2,_,rfl,rfl,?_⟩
    rw [if_neg (fun z=>absurd (V.str.inj z) (by decide +kernel))]
    refine ⟨_,SqT.of e2,_,rfl,rfl,?_⟩
    rw [if_pos (by rfl)]
    refine ⟨_,SqT.of e2,_,rfl,te,rfl,_,rfl,e,e3,_,L.hs,hr.2,_,R.sb,B,fun i H1 ei _ _ s1=>⟨_,SqT.of (s1 _ _ e2),_,rfl,_,rfl,_,DPut.k (k:=.inr x) (s1 _ _ L.hs) (big (by omega)),?_⟩⟩
    refine q kn _ ((LKp.of_same s1).trans (lkp_upd (.inr (.inl rfl)))) ?_
    rw [step_lt ei]
    exact ((L.same s1).putS _).num _
  | give sh e f =>
    unfold RwAt at h1;obtain ⟨p',te,tf,ep,_,_,_,e2,e3,e4⟩:=h1
    cases ep
    refine ⟨_,L.gS,_,SqT.of e2,_,rfl,rfl,?_⟩
    rw [if_neg (fun z=>absurd (V.str.inj z) (by decide +kernel))]
    refine ⟨_,SqT.of e2,_,rfl,rfl,?_⟩
    rw [if_neg (fun z=>absurd (V.str.inj z) (by decide +kernel))]
    refine ⟨_,SqT.of e2,_,rfl,_,SqT.of e2,_,rfl,te,rfl,_,rfl,e,e3,_,L.hs,hr.2.1,_,R.sb,B,fun n H1 en _ _ s1=>⟨by decide,fun q0 hq0=>?_⟩⟩
    have s2:=isV (o:=HO.tup [V.str sh,V.int n]) q0 hq0
    have hq:upd H1 q0 (HO.tup [V.str sh,V.int n]) q0=some (.tup [V.str sh,V.int n]):=upd_same
    generalize upd H1 q0 (HO.tup [V.str sh,V.int n])=H2 at *
    have S2:=s1.trans s2
    have L2:=L.same S2
    refine ⟨_,SqT.of (S2 _ _ e2),_,rfl,rfl,?_⟩
    rw [if_pos (by rfl)]
    refine ⟨_,SqT.of (S2 _ _ e2),_,rfl,tf,rfl,_,rfl,f,S2 _ _ e4,_,L2.hs,hr.2.2,_,R.sb,B,fun i H3 ei _ _ s3=>?_⟩
    have L3:=L2.same s3
    have hq3:=s3 _ _ hq
    have ep:putK (dOf s.gi) (plKey (sh,n)) (V.int i)=dOf (s.gi ++ [((sh,n),i)]):=(dOf_snoc s.gi ((sh,n),i)).symm
    have ek:putK (dOf kn) (plKey (sh,n)) (V.int i)=dOf (kn ++ [((sh,n),i)]):=(dOf_snoc kn ((sh,n),i)).symm
    have D:=DPut.t (k:=plKey (sh,n)) (v:=V.int i) L3.hg hq3 (big lg)
    rw [ep] at D
    refine ⟨_,L3.gG,_,rfl,_,D,?_⟩
    have K4:LKp d a H3 (upd H3 a.gi (.dT (dOf (s.gi ++ [((sh,n),i)])))):=lkp_upd (.inr (.inr (.inr (.inl rfl))))
    have i4:upd H3 a.gi (.dT (dOf (s.gi ++ [((sh,n),i)]))) d=some (.dK (lwK a)):=by rw [upd_ne (ne_of L3.id L3.hg (fun z=>nomatch z))];exact L3.id
    have k4:upd H3 a.gi (.dT (dOf (s.gi ++ [((sh,n),i)]))) a.kn=some (.dT (dOf kn)):=by rw [upd_ne L3.n1];exact L3.hk
    have q4:=K4 _ _ (L3.notup hq3) hq3
    have g4:DGet (upd H3 a.gi (.dT (dOf (s.gi ++ [((sh,n),i)])))) a.gi (.ref q0) (some (.int i)):=.inr ⟨_,plKey (sh,n),q0,.inl upd_same,rfl,q4,by rw [val_dOf,lastW_snoc];rfl⟩
    have D2:=DPut.t (k:=plKey (sh,n)) (v:=V.int i) k4 q4 (big ln)
    rw [ek] at D2
    have eg:valV (lwK a) (.inr (Str.ofString "given"))=some (.ref a.gi):=by with_unfolding_all rfl
    have ekn:valV (lwK a) (.inr (Str.ofString "known"))=some (.ref a.kn):=by with_unfolding_all rfl
    refine ⟨_,by rw [← eg];exact DGet.k (k:=.inr (Str.ofString "given")) i4,_,rfl,_,g4,_,by rw [← ekn];exact DGet.k (k:=.inr (Str.ofString "known")) i4,_,rfl,_,D2,?_⟩
    refine q (kn ++ [((sh,n),i)]) _ ((LKp.of_same (S2.trans s3)).trans (K4.trans (lkp_upd (.inr (.inr (.inl rfl)))))) ?_
    rw [step_give en ei]
    exact L3.give.num _
  | take sh e x =>
    unfold RwAt at h1;obtain ⟨p',te,ep,_,_,e2,e3⟩:=h1
    cases ep
    refine ⟨_,L.gS,_,SqT.of e2,_,rfl,rfl,?_⟩
    rw [if_neg (fun z=>absurd (V.str.inj z) (by decide +kernel))]
    refine ⟨_,SqT.of e2,_,rfl,rfl,?_⟩
    rw [if_neg (fun z=>absurd (V.str.inj z) (by decide +kernel))]
    refine ⟨_,SqT.of e2,_,rfl,_,SqT.of e2,_,rfl,te,rfl,_,rfl,e,e3,_,L.hs,hr.2.2,_,R.sb,B,fun n H1 en _ _ s1=>⟨by decide,fun q0 hq0=>?_⟩⟩
    have s2:=isV (o:=HO.tup [V.str sh,V.int n]) q0 hq0
    have hq:upd H1 q0 (HO.tup [V.str sh,V.int n]) q0=some (.tup [V.str sh,V.int n]):=upd_same
    generalize upd H1 q0 (HO.tup [V.str sh,V.int n])=H2 at *
    have S2:=s1.trans s2
    have L2:=L.same S2
    refine ⟨_,SqT.of (S2 _ _ e2),_,rfl,rfl,?_⟩
    rw [if_neg (fun z=>absurd (V.str.inj z) (by decide +kernel))]
    have wo:∀ kn' H3,LKp d a H2 H3→LwAt H3 d a (noteW (sh,n) w s) kn'→∃ y,DGet H3 d (V.str (Str.ofString "known")) (some y)∧∃ b,y=V.ref b∧∃ z,DGet H3 b (V.ref q0) (some z)∧∃ u,SqT K H3 p u∧∃ v,atI u 3=some v∧∃ a_5,V.ref a.sl=V.ref a_5∧∃ H4,DPut H3 a_5 v z H4∧Q V.non H4:=by
      intro kn' H3 k3 L3
      have q3:=k3 _ _ (L2.notup hq) hq
      have kw:lastW kn' (sh,n)=some (knownW (sh,n) w s):=by
        rw [L3.kk]
        unfold noteW knownW
        by_cases c:(lastW s.gi (sh,n)).isSome=true∨(lastW s.no (sh,n)).isSome=true
        · rw [if_pos c]
          cases e1:lastW s.gi (sh,n) with
          | some i=>rfl
          | none =>
            cases e2:lastW s.no (sh,n) with
            | some i=>rfl
            | none=>rw [e1,e2] at c;exact absurd c (by simp)
        · rw [if_neg c]
          have g0:lastW s.gi (sh,n)=none:=by cases e1:lastW s.gi (sh,n) with | none=>rfl | some i=>exact absurd (.inl (by rw [e1];rfl)) c
          have n0:lastW s.no (sh,n)=none:=by cases e1:lastW s.no (sh,n) with | none=>rfl | some i=>exact absurd (.inr (by rw [e1];rfl)) c
          show (lastW s.gi (sh,n)).or (lastW (s.no ++ [((sh,n),w)]) (sh,n))=_
          rw [g0,lastW_snoc,n0];rfl
      have sl3:(noteW (sh,n) w s).sl=s.sl:=noteW_sl ..
      have h3s:=L3.hs
      rw [sl3] at h3s
      refine ⟨_,L3.gK,_,rfl,V.int (knownW (sh,n) w s),.inr ⟨_,plKey (sh,n),q0,.inl L3.hk,rfl,q3,by rw [val_dOf,kw];rfl⟩,_,SqT.of (k3 _ _ (L2.notup (S2 _ _ e2)) (S2 _ _ e2)),_,rfl,_,rfl,_,DPut.k (k:=.inr x) h3s (big (by omega)),?_⟩
      refine q kn' _ ((LKp.of_same S2).trans (k3.trans (lkp_upd (.inr (.inl rfl))))) ?_
      rw [step_take en]
      exact (L3.putS _).num _
    refine ⟨_,L2.gK,_,rfl,_,.inr ⟨dOf kn,plKey (sh,n),q0,.inl L2.hk,rfl,hq,rfl⟩,?_⟩
    rw [val_dOf,L.kk]
    have nw:∀ c:(lastW s.gi (sh,n)).isSome=true∨(lastW s.no (sh,n)).isSome=true,noteW (sh,n) w s=s:=fun c=>by unfold noteW;rw [if_pos c]
    cases hg:lastW s.gi (sh,n) with
    | some i =>
      rw [if_neg (by simp)]
      exact wo kn H2 (fun _ _ _ e=>e) (by rw [nw (.inl (by rw [hg];rfl))];exact L2)
    | none =>
      cases hn:lastW s.no (sh,n) with
      | some i =>
        rw [if_neg (by simp)]
        exact wo kn H2 (fun _ _ _ e=>e) (by rw [nw (.inr (by rw [hn];rfl))];exact L2)
      | none =>
        rw [if_pos (by rfl)]
        have ek:putK (dOf kn) (plKey (sh,n)) (V.int w)=dOf (kn ++ [((sh,n),w)]):=(dOf_snoc kn ((sh,n),w)).symm
        have D:=DPut.t (k:=plKey (sh,n)) (v:=V.int w) L2.hk hq (big ln)
        rw [ek] at D
        obtain ⟨xs,hx,px⟩:=L2.hn
        have nk:a.kn≠a.no:=ne_of L2.hk hx (fun z=>nomatch z)
        have i3:upd H2 a.kn (.dT (dOf (kn ++ [((sh,n),w)]))) d=some (.dK (lwK a)):=by rw [upd_ne (ne_of L2.id L2.hk (fun z=>nomatch z))];exact L2.id
        have en3:valV (lwK a) (.inr (Str.ofString "notes"))=some (.ref a.no):=by with_unfolding_all rfl
        have x3:upd H2 a.kn (.dT (dOf (kn ++ [((sh,n),w)]))) a.no=some (.lst xs):=by rw [upd_ne (Ne.symm nk)];exact hx
        have q3:upd H2 a.kn (.dT (dOf (kn ++ [((sh,n),w)]))) q0=some (.tup [V.str sh,V.int n]):=by rw [upd_ne (ne_of hq L2.hk (fun z=>nomatch z))];exact hq
        refine ⟨_,L2.gK,_,rfl,_,D,V.ref a.no,by rw [← en3];exact DGet.k (k:=.inr (Str.ofString "notes")) i3,.inl ⟨_,SqL.of x3⟩,by decide,fun r hr'=>?_⟩
        have s4:=isV (o:=HO.tup [V.ref q0,V.int w]) r hr'
        have r4:upd (upd H2 a.kn (.dT (dOf (kn ++ [((sh,n),w)])))) r (HO.tup [V.ref q0,V.int w]) r=some (.tup [V.ref q0,V.int w]):=upd_same
        have lx:=Paired.length px
        refine ⟨_,rfl,xs,s4 _ _ x3,big (by omega),?_⟩
        have L5:=L2.note hg hn hx px s4 r4 (s4 _ _ q3)
        have en5:noteW (sh,n) w s={ s with no:=s.no ++ [((sh,n),w)] }:=by unfold noteW;rw [if_neg (by rw [hg,hn];simp)]
        refine wo (kn ++ [((sh,n),w)]) _ ?_ (by rw [en5];exact L5)
        exact (lkp_upd (.inr (.inr (.inl rfl)))).trans ((LKp.of_same s4).trans (lkp_upd (.inr (.inr (.inr (.inr (.inl rfl)))))))
section
variable {x:Addr} {v:V} {d:Addr} {w:Int} {a:RAd} {C:List Cs} {b:LAd} {s:RSt} {kn:List Row} {k:Nat} {c:Cs}
def wantV (H:Hp) (wv:V) (o:Option Pl):Prop:=(o=none∧wv=.non)∨∃ p q,o=some p∧wv=.ref q∧H q=some (.tup [.str p.1,.int p.2])
def wantD:Option Pl→PyData
  | none=>.none
  | some p=>plD p
theorem want_dat {wv:V} {o:Option Pl} (h:wantV H wv o):Dat K H wv (wantD o):=by
  rcases h with ⟨rfl,rfl⟩ | ⟨p,q,rfl,rfl,e⟩
  · exact .non
  · exact pl_dat e
theorem wantV.same {H':Hp} {wv:V} {o:Option Pl} (h:wantV H wv o) (k:Same H H'):wantV H' wv o:=by
  rcases h with h | ⟨p,q,e1,e2,e⟩
  · exact .inl h
  · exact .inr ⟨p,q,e1,e2,k _ _ e⟩
theorem cs_ok (cb:∀ c∈C,CsB c):∀ c∈C,CsOk c:=fun c hc=>by
  obtain ⟨r,rfl,hr⟩:=cb c hc
  exact hr.ok.1
theorem asks_ok (cb:∀ c∈C,CsB c) (hc:C[k]?=some c) {p:Pl} (h:asksC c s=some p):PyData.strOk p.1=true:=by
  obtain ⟨r,rfl,hr⟩:=cb c (List.mem_of_getElem? hc)
  cases r with
  | take sh e x =>
    have hr:isName sh=true∧isName x=true∧TmB e:=hr
    simp only [asksC] at h
    split at h
    · cases h
    · split at h
      · cases h
      · cases h;exact name_ok hr.1
  | _=>cases h
theorem rdp_os2 {wv:V} (R:RnAt t H x a C s) (L:LwAt H d b s kn) (hc:C[k]?=some c) (hv:CsAt H v c) (cb:∀ c∈C,CsB c) (B:RnB k s) (hk:k < 40) (hw:smI w) (ow:∀ z,OwA x a z→¬ LOw d b z)
    (q:∀ kn' H',(∀ z o,¬ Ow x a z→¬ LOw d b z→H z=some o→H' z=some o)→RnAt t H' x a C (stepR C w s)→LwAt H' d b (stepR C w s) kn'→RnB (k + 1) (stepR C w s)→Q (.bl true) H') :
    rd__law_one_step_2 K t { nx:=fun _ H'=>Q .non H',rt:=Q } [some (.ref x),some v,some (.ref d),some (.int w),some wv] H:=by
  simp only [rd__law_one_step_2,sp_Run_step,sp__law_stepped,tMeth,L2.start,tSeq,tRet,tDrop,tNext,tOp,tVar,tC,tCons,tNil,tIfS,tTest,tCall,rNotN,List.map,List.replicate,List.length,List.append,jqa,jqb,jqc,jqd,jqe,jqf,jqg,jqh,jqi,jqj,jqk,jql,jqm,jqn,and_true,true_and,and_assoc,jqo,jqp,jqq,Nat.reduceSub,Nat.reduceAdd,jqr,jqs,jqt,Int.reduceToNat,Int.reducePow,Int.reduceNeg,Int.reduceMul,Int.reduceAdd,if_true,ite_true,jqu,ite_false,if_false]
  obtain ⟨es,_⟩:=rnb_eq B hc w
  have C0:=cb c (List.mem_of_getElem? hc)
  obtain ⟨r,er,hr⟩:=id C0
  have B2:RnB (k + 1) (stepR C w s):=by
    rw [es,er]
    obtain ⟨s',_,_,b2⟩:=rnb_step B hr hw hk
    exact b2
  refine ⟨_,_,R.ix,rfl,k,a,C,s,R,cs_ok cb,B.ok,by omega,fun H1 k1 R1=>?_⟩
  have L1:LwAt H1 d b s kn:=L.keep (fun z o oz e=>k1 z o (fun y=>ow z (.inl y) oz) e) (R.ts k1)
  rw [if_neg (fun z=>z trivial)]
  refine ⟨c,CsAt.ts (R.ts k1) hv,C0,b,s,kn,L1,k,B,hk,fun kn' H2 k2 L2=>?_⟩
  rw [← es] at L2
  exact q kn' H2 (fun z o n1 n2 e=>k2 z o n2 (k1 z o n1 e)) (R1.keep (fun z o oz e=>k2 z o (ow z oz) e) (L1.ts k2)) L2 B2
theorem rdp_os1 {wv:V} (R:RnAt t H x a C s) (L:LwAt H d b s kn) (hc:C[k]?=some c) (hv:CsAt H v c) (cb:∀ c∈C,CsB c) (B:RnB k s) (hk:k < 40) (hw:smI w) (ow:∀ z,OwA x a z→¬ LOw d b z) (wn:wantV H wv (asksC c s))
    (q:∀ kn' H',(∀ z o,¬ Ow x a z→¬ LOw d b z→H z=some o→H' z=some o)→RnAt t H' x a C (stepR C w s)→LwAt H' d b (stepR C w s) kn'→RnB (k + 1) (stepR C w s)→Q (.bl true) H') :
    rd__law_one_step_1 K t { nx:=fun _ H'=>Q .non H',rt:=Q } [some (.ref x),some v,some (.ref d),some (.int w),some wv] H:=by
  simp only [rd__law_one_step_1,sp_Run_over,sp_Run_asks,sp_Run_paper,rEqD,tMeth,L2.start,tSeq,tRet,tDrop,tNext,tOp,tVar,tC,tCons,tNil,tIfS,tOr,tTest,tCall,rIsNotB,rNotN,List.map,List.replicate,List.length,List.append,jqa,jqb,jqc,jqd,jqe,jqf,jqg,jqh,jqi,jqj,jqk,jql,jqm,jqn,and_true,true_and,and_assoc,jqo,jqp,jqq,Nat.reduceSub,Nat.reduceAdd,jqr,jqs,jqt,Int.reduceToNat,Int.reducePow,Int.reduceNeg,Int.reduceMul,Int.reduceAdd,if_true,ite_true,jqu,ite_false,if_false]
  obtain ⟨es,ea⟩:=rnb_eq B hc w
  have ho:=rnb_over B hc
  refine ⟨_,_,R.ix,rfl,a,C,s,R,fun H1 s1=>?_⟩
  rw [ho]
  rw [if_neg (by decide)]
  have l2:=B.ok.l2
  have l3:=B.ok.l3
  have pap:∀ H3,Same H H3→rd__law_one_step_2 K t { nx:=fun _ H'=>Q .non H',rt:=Q } [some (.ref x),some v,some (.ref d),some (.int w),some wv] H3:=fun H3 s3 =>
    rdp_os2 (R.same s3) (L.same s3) hc (hv.same s3) cb B hk hw ow fun kn' H' k=>q kn' H' fun z o n1 n2 e=>k z o n1 n2 (s3 _ _ e)
  have R1:=R.same s1
  refine ⟨_,_,R1.ix,rfl,a,C,s,R1,cs_ok cb,B.ok.so,fun H2 ha s2=>?_,fun p q0 H2 ha s2 hq=>?_⟩
  · rw [ea] at ha
    have wd:=want_dat (K:=K) (wn.same (s1.trans s2))
    rw [ha] at wd
    refine ⟨_,.non,_,wd,rfl,rfl,by decide,by decide,fun b hb=>?_⟩
    rw [hb.mpr rfl,if_neg (by decide)]
    have R2:=R.same (s1.trans s2)
    refine ⟨_,_,R2.ix,rfl,a,C,s,R2,by omega,B.ok.nd,by omega,fun H3 _ s3=>?_,fun r o nl gl out H3 h=>by rw [ho] at h;cases h⟩
    rw [if_neg (fun z=>z trivial)]
    exact pap H3 (s1.trans (s2.trans s3))
  · rw [ea] at ha
    have wd:=want_dat (K:=K) (wn.same (s1.trans s2))
    rw [ha] at wd
    have pk:=pl_plain (asks_ok cb hc ha)
    have pd:=pl_depth p
    refine ⟨_,pl_dat hq,_,wd,pk,pk,by omega,by show (plD p).depth≤64;omega,fun b hb=>?_⟩
    rw [hb.mpr rfl,if_neg (by decide)]
    have R2:=R.same (s1.trans s2)
    refine ⟨_,_,R2.ix,rfl,a,C,s,R2,by omega,B.ok.nd,by omega,fun H3 _ s3=>?_,fun r o nl gl out H3 h=>by rw [ho] at h;cases h⟩
    rw [if_neg (fun z=>z trivial)]
    exact pap H3 (s1.trans (s2.trans s3))
theorem rdp__law_one_step (R:RnAt t H x a C s) (L:LwAt H d b s kn) (hc:C[k]?=some c) (hv:CsAt H v c) (cb:∀ c∈C,CsB c) (B:RnB k s) (hk:k < 40) (hw:smI w) (ow:∀ z,OwA x a z→¬ LOw d b z)
    (q:∀ kn' H',(∀ z o,¬ Ow x a z→¬ LOw d b z→H z=some o→H' z=some o)→RnAt t H' x a C (stepR C w s)→LwAt H' d b (stepR C w s) kn'→RnB (k + 1) (stepR C w s)→Q (.bl true) H') :
    rd__law_one_step K t { nx:=fun _ H'=>Q .non H',rt:=Q } (L2.start ["run","row","state","answer","wanted"] [.ref x,v,.ref d,.int w]) H:=by
  simp only [rd__law_one_step,sp__law_wanted,rEqD,tMeth,L2.start,tSeq,tAsg,gName,tRet,tDrop,tNext,tOp,tVar,tC,tCons,tNil,tIfS,tOr,tTest,tCall,rIsNotB,rNotN,List.map,List.replicate,List.length,List.append,jqa,jqb,jqc,jqd,jqe,jqf,jqg,jqh,jqi,jqj,jqk,jql,jqm,jqn,and_true,true_and,and_assoc,jqo,jqp,jqq,Nat.reduceSub,Nat.reduceAdd,jqr,jqs,jqt,Int.reduceToNat,Int.reducePow,Int.reduceNeg,Int.reduceMul,Int.reduceAdd,if_true,ite_true,jqu,ite_false,if_false]
  have nxt:∀ wv H1,Same H H1→wantV H1 wv (asksC c s)→rd__law_one_step_1 K t { nx:=fun _ H'=>Q .non H',rt:=Q } [some (.ref x),some v,some (.ref d),some (.int w),some wv] H1:=fun wv H1 s1 wn =>
    rdp_os1 (R.same s1) (L.same s1) hc (hv.same s1) cb B hk hw ow wn fun kn' H' k=>q kn' H' fun z o n1 n2 e=>k z o n1 n2 (s1 _ _ e)
  exact ⟨c,hv,cb c (List.mem_of_getElem? hc),b,s,kn,L,k,B,hk,fun H1 ha s1=>nxt _ _ s1 (.inl ⟨ha,rfl⟩),fun p q0 H1 ha s1 hq=>nxt _ _ s1 (.inr ⟨p,q0,ha,rfl,hq⟩)⟩
end
theorem PlV.mono {H H':Hp} {n:Nat} {v:V} (s:Same H H') (h:PlV H n v):PlV H' n v:=by
  induction h with
  | int i=>exact .int i
  | str x=>exact .str x
  | lst e _ ih=>exact .lst (s _ _ e) ih
  | tup e _ ih=>exact .tup (s _ _ e) ih
theorem nil__law_plain {vs:List V} {H:Hp} {Q:VK} {E:XK} (h:sp__law_plain 0 vs H Q E):False:=by
  obtain ⟨v,_,h,_⟩:=h
  cases h
theorem rdp__law_plain {n:Nat} {v:V} (F:KF K) (h:PlV H (n + 1) v) (q:∀ H',Same H H'→Q (.bl true) H') :
    rd__law_plain K t n { nx:=fun _ H'=>Q .non H',rt:=Q } (L2.start ["found","part"] [v]) H:=by
  simp only [rd__law_plain,sp__law_plain,cIsiT,iSeq,L2.start,tSeq,gName,tRet,tNext,tVar,tC,tTup,tCons,tNil,tFor,tIfS,tNot,tB,tAndV,tNotV,tCB,tCall,cIsi,List.map,List.replicate,List.length,List.append,jqa,jqb,jqc,jqd,jqe,jqf,jqg,jqh,jqi,jqj,jqk,jql,jqm,jqn,and_true,true_and,and_assoc,jqo,jqp,jqq,Nat.reduceSub,Nat.reduceAdd,jqr,jqs,jqt,Int.reduceToNat,Int.reducePow,Int.reduceNeg,Int.reduceMul,Int.reduceAdd,if_true,ite_true,jqu,ite_false,if_false]
  refine ⟨by decide,fun p hp=>?_⟩
  have s1:=isV (o:=HO.tup [V.ty "list",V.ty "tuple"]) p hp
  have e1:upd H p (HO.tup [V.ty "list",V.ty "tuple"]) p=some (.tup [V.ty "list",V.ty "tuple"]):=upd_same
  generalize upd H p (HO.tup [V.ty "list",V.ty "tuple"])=H1 at *
  cases h with
  | int i =>
    refine ⟨_,.int i,["list","tuple"],e1,false,F.a3,?_⟩
    rw [if_neg (by decide)]
    refine ⟨by decide,fun p2 hp2=>⟨_,.int i,["int","str"],upd_same,true,F.a5,?_⟩⟩
    rw [if_pos rfl]
    exact ⟨_,.int i,false,F.i_b,q _ (s1.trans (isV p2 hp2))⟩
  | str y =>
    refine ⟨_,.str y,["list","tuple"],e1,false,F.a4,?_⟩
    rw [if_neg (by decide)]
    refine ⟨by decide,fun p2 hp2=>⟨_,.str y,["int","str"],upd_same,true,F.a6,?_⟩⟩
    rw [if_pos rfl]
    exact ⟨_,.str y,false,F.s_b,q _ (s1.trans (isV p2 hp2))⟩
  | @lst _ l xs hl hx =>
    refine ⟨_,.lst (s1 _ _ hl),["list","tuple"],e1,true,F.a2,?_⟩
    rw [if_pos rfl]
    refine ⟨l,rfl,.inl ⟨⟨_,SqL.of (s1 _ _ hl)⟩,loop_list xs (fun _ σ H'=>(∃ o,σ=[some (.ref l),o])∧Same H H') ⟨⟨_,rfl⟩,s1⟩ (fun i σ H' z=>SqL.of (z.2 _ _ hl)) ?_ ?_⟩⟩
    · rintro i y σ H' hy ⟨⟨o,rfl⟩,S⟩
      refine ⟨y,rfl,PlV.mono S (hx y (List.mem_of_getElem? hy)),fun H2 s2=>?_⟩
      rw [if_neg (by decide)]
      exact ⟨⟨_,rfl⟩,S.trans s2⟩
    · rintro σ H' ⟨_,S⟩
      exact q _ S
  | @tup _ l xs hl hx =>
    refine ⟨_,.tup (s1 _ _ hl),["list","tuple"],e1,true,F.a1,?_⟩
    rw [if_pos rfl]
    refine ⟨l,rfl,.inr ⟨⟨_,SqT.of (s1 _ _ hl)⟩,loop_tup xs (fun _ σ H'=>(∃ o,σ=[some (.ref l),o])∧Same H H') ⟨⟨_,rfl⟩,s1⟩ (fun i σ H' z=>SqT.of (z.2 _ _ hl)) ?_ ?_⟩⟩
    · rintro i y σ H' hy ⟨⟨o,rfl⟩,S⟩
      refine ⟨y,rfl,PlV.mono S (hx y (List.mem_of_getElem? hy)),fun H2 s2=>?_⟩
      rw [if_neg (by decide)]
      exact ⟨⟨_,rfl⟩,S.trans s2⟩
    · rintro σ H' ⟨_,S⟩
      exact q _ S
section
variable {x d r nl gl:Addr} {a:RAd} {C:List Cs} {b:LAd} {s:RSt} {kn out:List Row} {o:V} {k:Nat}
theorem rnb_gi (B:RnB k s) (h:GiOf s out):Rising out∧(∀ p w,(p,w)∈out↔lastW s.gi p=some w):=by
  unfold GiOf at h
  rw [B.wy] at h
  exact h
theorem rnb_oc (B:RnB k s):ocOf s=.done s.sa:=by unfold ocOf;rw [B.wy]
theorem rnb_plain (B:RnB k s) (g:GiOf s out):plainD (ppD (ocOf s) s.no out)=true∧(ppD (ocOf s) s.no out).depth≤64:=by
  have g:=rnb_gi B g
  have ok:∀ r∈out,PyData.strOk r.1.1=true:=fun r hr=>last_in (P:=fun r=>PyData.strOk r.1.1=true) B.ng ((g.2 r.1 r.2).mp hr)
  constructor
  · have a1:=oc_plain (oc:=ocOf s) (fun w z=>by rw [rnb_oc B] at z;cases z)
    have a2:=ls_plain B.nn
    have a3:=ls_plain ok
    simp only [ppD,plainD,plainDs,Bool.and_eq_true,and_true] at a1 a2 a3 ⊢
    exact ⟨a1,a2,a3⟩
  · have a1:=oc_deep (ocOf s)
    have a2:=ls_deep s.no
    have a3:=ls_deep out
    simp only [ppD,PyData.depth,PyData.depthAll] at *
    omega
theorem prs_pl {rows:List Row} {xs:List V} (h:Paired (PrAt H) xs rows):∀ v∈xs,PlV H 4 v:=by
  intro v hv
  obtain ⟨i,hi⟩:=List.getElem?_of_mem hv
  obtain ⟨q,_,r,p,rfl,e1,e2⟩:=Paired.getP h hi
  refine .tup e1 fun y hy=>?_
  simp only [List.mem_cons,List.not_mem_nil,or_false] at hy
  rcases hy with rfl | rfl
  · refine .tup e2 fun y hy=>?_
    simp only [List.mem_cons,List.not_mem_nil,or_false] at hy
    rcases hy with rfl | rfl
    · exact .str _
    · exact .int _
  · exact .int _
theorem pp_pl {sa:List Int} {no gi:List Row} (hr:H r=some (.tup [o,.ref nl,.ref gl])) (ho:OcAt H o (.done sa)) (hn:LsAt H nl no) (hg:LsAt H gl gi):PlV H 6 (.ref r):=by
  obtain ⟨o',y,rfl,e1,e2⟩:=ho
  obtain ⟨xs,hx,px⟩:=hn
  obtain ⟨ys,hy,py⟩:=hg
  refine .tup hr fun z hz=>?_
  simp only [List.mem_cons,List.not_mem_nil,or_false] at hz
  rcases hz with rfl | rfl | rfl
  · refine .tup e1 fun z hz=>?_
    simp only [List.mem_cons,List.not_mem_nil,or_false] at hz
    rcases hz with rfl | rfl
    · exact .str _
    · refine .tup e2 fun z hz=>?_
      obtain ⟨i,_,rfl⟩:=List.mem_map.mp hz
      exact .int i
  · exact .lst hx (prs_pl px)
  · exact .lst hy (prs_pl py)
theorem rdp_lp2 {r2 nl2 gl2:Addr} {o2:V} (R:RnAt t H x a C s) (B:RnB C.length s) (cb:∀ c∈C,CsB c) (hr:H r=some (.tup [o,.ref nl,.ref gl])) (ho:OcAt H o (ocOf s)) (hn:LsAt H nl s.no) (hg:LsAt H gl out) (gi:GiOf s out) (hr2:H r2=some (.tup [o2,.ref nl2,.ref gl2])) (ho2:OcAt H o2 (ocOf s)) (hn2:LsAt H nl2 s.no) (hg2:LsAt H gl2 out) (q:∀ H',Same H H'→Q (.bl true) H') :
    rd__law_paper_2 K t { nx:=fun _ H'=>Q .non H',rt:=Q } [some (.ref x),some (.ref d),some (.ref r),some (.ref r2)] H:=by
  simp only [rd__law_paper_2,sp_Run_over,sp_Run_asks,sp__law_plain,rEqD,tMeth,L2.start,tRet,tOp,tVar,tC,tCons,tNil,tAndV,tCall,rIsB,rIsN,List.map,List.replicate,List.length,List.append,jqa,jqb,jqc,jqd,jqe,jqf,jqg,jqh,jqi,jqj,jqk,jql,jqm,jqn,and_true,true_and,and_assoc,jqo,jqp,jqq,Nat.reduceSub,Nat.reduceAdd,jqr,jqs,jqt,Int.reduceToNat,Int.reducePow,Int.reduceNeg,Int.reduceMul,Int.reduceAdd,if_true,ite_true,jqu,ite_false,if_false]
  have ov:overB C s=true:=by unfold overB;rw [B.nk];simp
  refine ⟨_,_,R.ix,rfl,a,C,s,R,fun H1 s1=>?_⟩
  rw [ov,if_pos (by rfl)]
  have R1:=R.same s1
  have na:asksR C s=none:=by unfold asksR;rw [if_pos ov]
  refine ⟨_,_,R1.ix,rfl,a,C,s,R1,cs_ok cb,B.ok.so,fun H2 _ s2=>⟨?_,fun H3 s3=>?_⟩,fun p q0 H2 z=>by rw [na] at z;cases z⟩
  · have S:=s1.trans s2
    rw [rnb_oc B] at ho
    exact pp_pl (S _ _ hr) (oc_same ho S) (ls_same hn S) (ls_same hg S)
  · have S:=s1.trans (s2.trans s3)
    obtain ⟨p1,p2⟩:=rnb_plain B gi
    exact ⟨_,pp_dat (S _ _ hr) (oc_same ho S) (ls_same hn S) (ls_same hg S),_,pp_dat (S _ _ hr2) (oc_same ho2 S) (ls_same hn2 S) (ls_same hg2 S),p1,p1,p2,p2,fun b hb=>by rw [hb.mpr rfl];exact q _ S⟩
theorem rdp_lp1 (R:RnAt t H x a C s) (L:LwAt H d b s kn) (B:RnB C.length s) (hk:C.length≤40) (cb:∀ c∈C,CsB c) (hr:H r=some (.tup [o,.ref nl,.ref gl])) (ho:OcAt H o (ocOf s)) (hn:LsAt H nl s.no) (hg:LsAt H gl out) (gi:GiOf s out) (q:∀ H',Same H H'→Q (.bl true) H') :
    rd__law_paper_1 K t { nx:=fun _ H'=>Q .non H',rt:=Q } [some (.ref x),some (.ref d),some (.ref r),none] H:=by
  simp only [rd__law_paper_1,cTup,rEqD,tDGet,tMeth,tItems,cSrtI,L2.start,tSeq,tAsg,gName,tRet,tOp,tVar,tC,tTup,tCons,tNil,tAndV,tCB,tCall,rIsB,rIsN,List.map,List.replicate,List.length,List.append,jqa,jqb,jqc,jqd,jqe,jqf,jqg,jqh,jqi,jqj,jqk,jql,jqm,jqn,and_true,true_and,and_assoc,jqo,jqp,jqq,Nat.reduceSub,Nat.reduceAdd,jqr,jqs,jqt,Int.reduceToNat,Int.reducePow,Int.reduceNeg,Int.reduceMul,Int.reduceAdd,if_true,ite_true,jqu,ite_false,if_false]
  have l2:=B.ok.l2
  refine ⟨_,L.gA,_,rfl,_,.inl ⟨SqL.of L.ha,fun l hl=>⟨by decide,fun p hp=>?_⟩⟩⟩
  have s1:=isV (o:=HO.tup (s.sa.map V.int)) l hl
  have e1:upd H l (HO.tup (s.sa.map V.int)) l=some (.tup (s.sa.map V.int)):=upd_same
  generalize upd H l (HO.tup (s.sa.map V.int))=H1 at *
  have s2:=isV (o:=HO.tup [V.str (Str.ofString "done"),V.ref l]) p hp
  have e2:upd H1 p (HO.tup [V.str (Str.ofString "done"),V.ref l]) p=some (.tup [V.str (Str.ofString "done"),V.ref l]):=upd_same
  generalize upd H1 p (HO.tup [V.str (Str.ofString "done"),V.ref l])=H2 at *
  have L2:=L.same (s1.trans s2)
  refine ⟨_,L2.gN,_,L2.gG,_,rfl,_,L2.hg,fun v hv=>⟨_,upd_same,s.gi,by rw [upd_ne (ne_of_none L2.hg hv)];exact L2.hg,by have:=len_dOf s.gi;omega,fun l3 ys srt H3 s3 f3 h3 pr ri mi=>⟨by decide,fun r2 hr2=>?_⟩⟩⟩
  have sv:=isV (o:=viewO v b.gi) v hv
  have s4:=isV (o:=HO.tup [V.ref p,V.ref b.no,V.ref l3]) r2 hr2
  have S:=s1.trans (s2.trans (sv.trans (s3.trans s4)))
  have gb:=rnb_gi B gi
  have eo:srt=out:=rising_ext ri gb.1 fun ⟨p,w⟩=>(mi p w).trans (gb.2 p w).symm
  subst eo
  refine rdp_lp2 (R.same S) B cb (S _ _ hr) (oc_same ho S) (ls_same hn S) (ls_same hg S) gi upd_same ?_ (L.same S).hn ⟨ys,s4 _ _ h3,prs_same s4 pr⟩ fun H' s'=>q H' (S.trans s')
  rw [rnb_oc B]
  exact ⟨p,l,rfl,(sv.trans (s3.trans s4)) _ _ e2,(s2.trans (sv.trans (s3.trans s4))) _ _ e1⟩
theorem rdp__law_paper (R:RnAt t H x a C s) (L:LwAt H d b s kn) (B:RnB C.length s) (hk:C.length≤40) (cb:∀ c∈C,CsB c) (q:∀ H',Same H H'→Q (.bl true) H') :
    rd__law_paper K t { nx:=fun _ H'=>Q .non H',rt:=Q } (L2.start ["run","state","found","due"] [.ref x,.ref d]) H:=by
  simp only [rd__law_paper,sp_Run_paper,cTup,rEqD,tDGet,tMeth,tItems,cSrtI,L2.start,tSeq,tAsg,gName,tRet,tOp,tVar,tC,tTup,tCons,tNil,tAndV,tCB,tCall,rIsB,rIsN,List.map,List.replicate,List.length,List.append,jqa,jqb,jqc,jqd,jqe,jqf,jqg,jqh,jqi,jqj,jqk,jql,jqm,jqn,and_true,true_and,and_assoc,jqo,jqp,jqq,Nat.reduceSub,Nat.reduceAdd,jqr,jqs,jqt,Int.reduceToNat,Int.reducePow,Int.reduceNeg,Int.reduceMul,Int.reduceAdd,if_true,ite_true,jqu,ite_false,if_false]
  have ov:overB C s=true:=by unfold overB;rw [B.nk];simp
  have l2:=B.ok.l2
  have l3:=B.ok.l3
  refine ⟨_,_,R.ix,rfl,a,C,s,R,by omega,B.ok.nd,by omega,fun H1 z=>(by rw [ov] at z;cases z),fun r o nl gl out H1 _ s1 _ _ _ hr ho hn hg gi=>?_⟩
  exact rdp_lp1 (R.same s1) (L.same s1) B hk cb hr ho hn hg gi fun H' s'=>q H' (s1.trans s')
end
theorem CsB.pl {c:Cs} (h:CsB c):csP c:=by
  obtain ⟨r,rfl,hr⟩:=h
  exact ⟨hr.ok.2.1,hr.ok.2.2.2⟩
theorem LwAt.has {d z:Addr} {b:LAd} {s:RSt} {kn:List Row} (L:LwAt H d b s kn) (h:LOw d b z):H z≠none:=by
  obtain ⟨xs,hn,_⟩:=L.hn
  rcases h with e | e | e | e | e | e
  · rw [e,L.id];exact fun z=>nomatch z
  · rw [e,L.hs];exact fun z=>nomatch z
  · rw [e,L.hk];exact fun z=>nomatch z
  · rw [e,L.hg];exact fun z=>nomatch z
  · rw [e,hn];exact fun z=>nomatch z
  · rw [e,L.ha];exact fun z=>nomatch z
structure Tw (t:Adr) (H0 H:Hp) (C:List Cs) (x1 x2 d1 d2:Addr) (a1 a2:RAd) (b1 b2:LAd) (k:Nat) (s1 s2:RSt) (k1 k2:List Row):Prop where
  sm:Same H0 H
  R1:RnAt t H x1 a1 C s1
  R2:RnAt t H x2 a2 C s2
  L1:LwAt H d1 b1 s1 k1
  L2:LwAt H d2 b2 s2 k2
  B1:RnB k s1
  B2:RnB k s2
structure TwD (H0:Hp) (x1 x2 d1 d2:Addr) (a1 a2:RAd) (b1 b2:LAd):Prop where
  f1:∀ z,Ow x1 a1 z→H0 z=none
  f2:∀ z,Ow x2 a2 z→H0 z=none
  f3:∀ z,LOw d1 b1 z→H0 z=none
  f4:∀ z,LOw d2 b2 z→H0 z=none
  d12:∀ z,OwA x1 a1 z→¬ OwA x2 a2 z
  d13:∀ z,OwA x1 a1 z→¬ LOw d1 b1 z
  d14:∀ z,OwA x1 a1 z→¬ LOw d2 b2 z
  d23:∀ z,OwA x2 a2 z→¬ LOw d1 b1 z
  d24:∀ z,OwA x2 a2 z→¬ LOw d2 b2 z
  d34:∀ z,LOw d1 b1 z→¬ LOw d2 b2 z
theorem rn0:RnB 0 st0:=⟨⟨(fun k v e=>by cases e),(fun r h=>nomatch h),(fun r h=>nomatch h),Nat.le_refl _,Nat.le_refl _,Nat.le_refl _,Nat.le_refl _,List.nodup_nil⟩,(fun k v e=>by cases e),(fun r h=>nomatch h),(fun r h=>nomatch h),(fun r h=>nomatch h),(fun r h=>nomatch h),rfl,rfl⟩
section
variable {a sa sb rl hd x1 x2 d1 d2:Addr} {H0:Hp} {C:List Cs} {xs:List V} {a1 a2:RAd} {b1 b2:LAd} {ns:List Int}
def ltI (t:Adr) (H0:Hp) (C:List Cs) (a sa sb rl hd x1 x2 d1 d2:Addr) (a1 a2:RAd) (b1 b2:LAd) (o4:Option V) (k:Nat) (σ:St) (H:Hp):Prop:=(∃ o10 o11,σ=[some (.ref a),some (.ref sa),some (.ref sb),some (.ref rl),o4,some (.ref hd),some (.ref x1),some (.ref x2),some (.ref d1),some (.ref d2),o10,o11])∧∃ s1 s2 k1 k2,Tw t H0 H C x1 x2 d1 d2 a1 a2 b1 b2 k s1 s2 k1 k2
theorem rdp_law10 {s1 s2:RSt} {k1 k2:List Row} {o4 o10 o11:Option V} (W:Tw t H0 H C x1 x2 d1 d2 a1 a2 b1 b2 C.length s1 s2 k1 k2) (h1:H0 rl=some (.lst xs)) (h2:Paired (CsAt H0) xs C) (h3:H0 hd=some (.lst xs)) (cb:∀ c∈C,CsB c) (hk:C.length≤40) (q:∀ H',Q (.bl true) H') :
    rd_law_10 K t { nx:=fun _ H'=>Q .non H',rt:=Q } [some (.ref a),some (.ref sa),some (.ref sb),some (.ref rl),o4,some (.ref hd),some (.ref x1),some (.ref x2),some (.ref d1),some (.ref d2),o10,o11] H:=by
  simp only [rd_law_10,sp__law_paper,rEqD,L2.start,tRet,tOp,tVar,tCons,tNil,tAndV,tCall,List.map,List.replicate,List.length,List.append,jqa,jqb,jqc,jqd,jqe,jqf,jqg,jqh,jqi,jqj,jqk,jql,jqm,jqn,and_true,true_and,and_assoc,jqo,jqp,jqq,Nat.reduceSub,Nat.reduceAdd,jqr,jqs,jqt,Int.reduceToNat,Int.reducePow,Int.reduceNeg,Int.reduceMul,Int.reduceAdd,if_true,ite_true,jqu,ite_false,if_false]
  have pr:=cs_same W.sm h2
  have hc:∀ c∈C,csP c:=fun c h=>(cb c h).pl
  have c1:=css_plain hc
  have pd2:plainD (.list (C.map csD))=true:=by rw [plainD];exact c1.1
  have dd2:(PyData.list (C.map csD)).depth≤64:=by rw [PyData.depth];omega
  refine ⟨_,.lst (SqL.of (W.sm _ _ h3)) (css_dat pr hc),_,.lst (SqL.of (W.sm _ _ h1)) (css_dat pr hc),pd2,pd2,dd2,dd2,fun b hb=>?_⟩
  rw [hb.mpr rfl,if_pos rfl]
  refine ⟨a1,C,b1,s1,W.R1,k1,W.L1,W.B1,hk,cb,fun H1 s1'=>?_⟩
  exact ⟨a2,C,b2,s2,W.R2.same s1',k2,W.L2.same s1',W.B2,hk,cb,fun H2 s2'=>q _⟩
theorem rdp_law9 {k1 k2:List Row} {o4:Option V} (W:Tw t H0 H C x1 x2 d1 d2 a1 a2 b1 b2 0 st0 st0 k1 k2) (D:TwD H0 x1 x2 d1 d2 a1 a2 b1 b2) (hS:SqL K H0 a (ns.map V.int)) (hn:ns.length≤63) (h1:H0 rl=some (.lst xs)) (h2:Paired (CsAt H0) xs C) (h3:H0 hd=some (.lst xs)) (cb:∀ c∈C,CsB c) (hk:C.length≤40) (q:∀ H',Q (.bl true) H') :
    rd_law_9 K t { nx:=fun _ H'=>Q .non H',rt:=Q } [some (.ref a),some (.ref sa),some (.ref sb),some (.ref rl),o4,some (.ref hd),some (.ref x1),some (.ref x2),some (.ref d1),some (.ref d2),none,none] H:=by
  simp only [rd_law_9,sp__law_number,sp__law_cell_at,sp__law_one_step,rEqD,L2.start,tSeq,tAsg,gName,tRet,tNext,tOp,tVar,tC,tCons,tNil,tFor,tIfS,tOr,tNot,tB,tAndV,tCB,tCall,LenV,iRng1,rIxL,rI0,cLen,List.map,List.replicate,List.length,List.append,jqa,jqb,jqc,jqd,jqe,jqf,jqg,jqh,jqi,jqj,jqk,jql,jqm,jqn,and_true,true_and,and_assoc,jqo,jqp,jqq,Nat.reduceSub,Nat.reduceAdd,jqr,jqs,jqt,Int.reduceToNat,Int.reducePow,Int.reduceNeg,Int.reduceMul,Int.reduceAdd,if_true,ite_true,jqu,ite_false,if_false]
  have lx:=Paired.length h2
  refine ⟨xs.length,.inl ⟨_,SqL.of (W.sm _ _ h1),rfl⟩,by omega,by omega,loop_range (ltI t H0 C a sa sb rl hd x1 x2 d1 d2 a1 a2 b1 b2 o4) ⟨⟨_,_,rfl⟩,_,_,_,_,W⟩ ?_ ?_⟩
  · rintro i σ H1 hi ⟨⟨o10,o11,rfl⟩,s1,s2,k1,k2,W⟩
    simp only [rEqD,L2.start,tSeq,tAsg,gName,tRet,tNext,tOp,tVar,tC,tCons,tNil,tFor,tIfS,tOr,tNot,tB,tAndV,tCB,tCall,LenV,iRng1,rIxL,rI0,cLen,List.map,List.replicate,List.length,List.append,jqa,jqb,jqc,jqd,jqe,jqf,jqg,jqh,jqi,jqj,jqk,jql,jqm,jqn,and_true,true_and,and_assoc,jqo,jqp,jqq,Nat.reduceSub,Nat.reduceAdd,jqr,jqs,jqt,Int.reduceToNat,Int.reducePow,Int.reduceNeg,Int.reduceMul,Int.reduceAdd,if_true,ite_true,jqu,ite_false,if_false]
    have hi:i < xs.length:=by omega
    have hv:xs[i]?=some xs[i]:=List.getElem?_eq_getElem hi
    have hc:C[i]?=some C[i]:=List.getElem?_eq_getElem (by omega)
    have cv:=paired_get h2 hv hc
    have e0:(0:Int) + (i:Int)=((i:Nat):Int):=by omega
    refine ⟨ns,i,e0,hS.mono W.sm,hn,fun c H2 s2'=>⟨by decide,by decide,fun w H3 hw s3=>?_⟩⟩
    have S3:=s2'.trans s3
    have h3m:=W.sm.trans S3
    refine ⟨_,SqL.of (h3m _ _ h1),_,by rw [e0];exact atI_nat hv,a1,C,b1,_,W.R1.same S3,_,W.L1.same S3,i,C[i],hc,cv.same h3m,cb,W.B1,by omega,hw,D.d13,fun kn1 H4 k4 R4 L4 B4=>?_⟩
    rw [if_neg (by decide)]
    have s4:Same H0 H4:=fun b o e=>k4 b o (fun z=>by rw [D.f1 b z] at e;cases e) (fun z=>by rw [D.f3 b z] at e;cases e) (h3m b o e)
    have ts4:TSm H3 H4:=fun b ys e=>k4 b _ ((W.R1.same S3).notup e) ((W.L1.same S3).notup e) e
    have R2':RnAt t H4 x2 a2 C s2:=(W.R2.same S3).keep (fun b o ob e=>k4 b o (fun z=>D.d12 b (.inl z) ob) (D.d23 b ob) e) ts4
    have L2':LwAt H4 d2 b2 s2 k2:=(W.L2.same S3).keep (fun b o ob e=>k4 b o (fun z=>D.d14 b (.inl z) ob) (fun z=>D.d34 b z ob) e) ts4
    refine ⟨_,SqL.of (s4 _ _ h1),_,by rw [e0];exact atI_nat hv,a2,C,b2,_,R2',_,L2',i,C[i],hc,cv.same s4,cb,W.B2,by omega,⟨by decide,by decide⟩,D.d24,fun kn2 H5 k5 R5 L5 B5=>?_⟩
    rw [if_neg (by decide)]
    have s5:Same H0 H5:=fun b o e=>k5 b o (fun z=>by rw [D.f2 b z] at e;cases e) (fun z=>by rw [D.f4 b z] at e;cases e) (s4 b o e)
    have ts5:TSm H4 H5:=fun b ys e=>k5 b _ (R2'.notup e) (L2'.notup e) e
    exact ⟨⟨_,_,rfl⟩,_,_,kn1,kn2,s5,R4.keep (fun b o ob e=>k5 b o (fun z=>D.d12 b ob (.inl z)) (D.d14 b ob) e) ts5,R5,L4.keep (fun b o ob e=>k5 b o (fun z=>D.d23 b (.inl z) ob) (D.d34 b ob) e) ts5,L5,B4,B5⟩
  · rintro σ H1 ⟨⟨o10,o11,rfl⟩,s1,s2,k1,k2,W⟩
    have e:(xs.length:Int).toNat=C.length:=by omega
    rw [e] at W
    exact rdp_law10 W h1 h2 h3 cb hk q
theorem rdp_law5 {o4:Option V} (hS:SqL K H a (ns.map V.int)) (hn:ns.length≤63) (h1:H rl=some (.lst xs)) (h2:Paired (CsAt H) xs C) (h3:H hd=some (.lst xs)) (cb:∀ c∈C,CsB c) (hk:C.length≤40) (q:∀ H',Q (.bl true) H') :
    rd_law_5 K t { nx:=fun _ H'=>Q .non H',rt:=Q } [some (.ref a),some (.ref sa),some (.ref sb),some (.ref rl),o4,some (.ref hd),none,none,none,none,none,none] H:=by
  simp only [rd_law_5,sp_Run_init,sp__law_begun,rEqD,tMake,L2.start,tSeq,tAsg,gName,tRet,tNext,tOp,tVar,tC,tCons,tNil,tFor,tIfS,tOr,tNot,tB,tAndV,tCB,tCall,LenV,iRng1,rIxL,rI0,cLen,List.map,List.replicate,List.length,List.append,jqa,jqb,jqc,jqd,jqe,jqf,jqg,jqh,jqi,jqj,jqk,jql,jqm,jqn,and_true,true_and,and_assoc,jqo,jqp,jqq,Nat.reduceSub,Nat.reduceAdd,jqr,jqs,jqt,Int.reduceToNat,Int.reducePow,Int.reduceNeg,Int.reduceMul,Int.reduceAdd,if_true,ite_true,jqu,ite_false,if_false]
  intro x1 dx1 hx1 hdx1 _
  have s1:Same H (upd (upd H dx1 (HO.own x1)) x1 (HO.ins t.c_Run dx1 [])):=fun b o e=>by rw [upd_ne (ne_of_none e hx1),upd_ne (ne_of_none e hdx1)];exact e
  refine ⟨_,upd_same,_,s1 _ _ h3,C,cs_same s1 h2,fun H2 a1 k2 R1 fr1=>?_⟩
  obtain ⟨s2,fr1⟩:=mk_run (Same.refl H) hx1 hdx1 k2 fr1
  intro x2 dx2 hx2 hdx2 _
  have s3:Same H2 (upd (upd H2 dx2 (HO.own x2)) x2 (HO.ins t.c_Run dx2 [])):=fun b o e=>by rw [upd_ne (ne_of_none e hx2),upd_ne (ne_of_none e hdx2)];exact e
  refine ⟨_,upd_same,_,(s2.trans s3) _ _ h3,C,cs_same (s2.trans s3) h2,fun H4 a2 k4 R2 fr2=>?_⟩
  obtain ⟨s4,fr2⟩:=mk_run (Same.refl H2) hx2 hdx2 k4 fr2
  refine fun d1 b1 H5 s5 L1 fr3=>fun d2 b2 H6 s6 L2 fr4=>?_
  have S24:=s2.trans s4
  have S25:=S24.trans s5
  refine rdp_law9 (H0:=H) (xs:=xs) (C:=C) ⟨S25.trans s6,R1.same (s4.trans (s5.trans s6)),R2.same (s5.trans s6),L1.same s6,L2,rn0,rn0⟩ ⟨fun z h=>fr1 z (.inl h),fun z h=>fresh_of s2 (fr2 z (.inl h)),fun z h=>fresh_of S24 (fr3 z h),fun z h=>fresh_of S25 (fr4 z h),fun z h k=>R1.has h (fr2 z k),fun z h k=>(R1.same s4).has h (fr3 z k),fun z h k=>(R1.same (s4.trans s5)).has h (fr4 z k),fun z h k=>R2.has h (fr3 z k),fun z h k=>(R2.same s5).has h (fr4 z k),fun z h k=>L1.has h (fr4 z k)⟩ hS hn h1 h2 h3 cb hk q
def lrI (K:PySem.W.Frag) (H:Hp) (a sa sb cl:Addr) (cs:List Int) (i:Nat) (σ:St) (H':Hp):Prop:=Same H H'∧∃ rl o4 xs C,σ=[some (.ref a),some (.ref sa),some (.ref sb),some (.ref rl),o4,none,none,none,none,none,none,none]∧H' rl=some (.lst xs)∧Paired (CsAt H') xs C∧(∀ c∈C,CsB c)∧C.length≤2 * i
theorem rdp_law3 {ws us:List Str} (hS:SqL K H a (ns.map V.int)) (hn:ns.length≤63) (n1:NamesAt H sa ws) (n2:ws.length=3) (n3:NamesAt H sb us) (n4:us.length=2) (h1:H rl=some (.lst [])) (q:∀ H',Q (.bl true) H') :
    rd_law_3 K t { nx:=fun _ H'=>Q .non H',rt:=Q } [some (.ref a),some (.ref sa),some (.ref sb),some (.ref rl),none,none,none,none,none,none,none,none] H:=by
  simp only [rd_law_3,rd_law_4,sp__law_rows,rEqD,rCat,tMake,L2.start,cLst,tSeq,tAsg,gName,tRet,tNext,tOp,tVar,tC,tCons,tNil,tFor,tIfS,tOr,tNot,tB,tAndV,tCB,tSl,tPart,tCall,LenV,iRng1,iList,rCat,rIxL,rI0,rSlL,cLen,List.map,List.replicate,List.length,List.append,jqa,jqb,jqc,jqd,jqe,jqf,jqg,jqh,jqi,jqj,jqk,jql,jqm,jqn,and_true,true_and,and_assoc,jqo,jqp,jqq,Nat.reduceSub,Nat.reduceAdd,jqr,jqs,jqt,Int.reduceToNat,Int.reducePow,Int.reduceNeg,Int.reduceMul,Int.reduceAdd,if_true,ite_true,jqu,ite_false,if_false]
  refine ⟨_,hS,fun cl hcl=>?_⟩
  have lc:(cutV (ns.map V.int) (some 2) (some 22)).length≤20:=by
    unfold cutV
    have e1:HT.sIx (ns.map V.int).length 0 (some 2)=min 2 (ns.map V.int).length:=HT.sIx_nat _ _ 2
    have e2:HT.sIx (ns.map V.int).length (ns.map V.int).length (some 22)=min 22 (ns.map V.int).length:=HT.sIx_nat _ _ 22
    rw [e1,e2,List.length_take,List.length_drop]
    omega
  obtain ⟨cs,ec,_⟩:=cut_one ns (some 2) (some 22)
  rw [ec] at lc ⊢
  rw [List.length_map] at lc
  have s1:=isV (o:=HO.lst (cs.map V.int)) cl hcl
  have e1:upd H cl (HO.lst (cs.map V.int)) cl=some (.lst (cs.map V.int)):=upd_same
  generalize upd H cl (HO.lst (cs.map V.int))=H1 at *
  refine ⟨⟨_,SqL.of e1⟩,loop_list (cs.map V.int) (lrI K H1 a sa sb cl cs) ⟨Same.refl _,rl,none,[],[],rfl,s1 _ _ h1,.nil,(fun c h=>nomatch h),Nat.zero_le _⟩ (fun i σ H' z=>SqL.of (z.1 _ _ e1)) ?_ ?_⟩
  · rintro i v σ H' hv ⟨S,rl,o4,xs,C,rfl,hr,pr,cb,lC⟩
    simp only [rEqD,rCat,tMake,L2.start,cLst,tSeq,tAsg,gName,tRet,tNext,tOp,tVar,tC,tCons,tNil,tFor,tIfS,tOr,tNot,tB,tAndV,tCB,tSl,tPart,tCall,LenV,iRng1,iList,rCat,rIxL,rI0,rSlL,cLen,List.map,List.replicate,List.length,List.append,jqa,jqb,jqc,jqd,jqe,jqf,jqg,jqh,jqi,jqj,jqk,jql,jqm,jqn,and_true,true_and,and_assoc,jqo,jqp,jqq,Nat.reduceSub,Nat.reduceAdd,jqr,jqs,jqt,Int.reduceToNat,Int.reducePow,Int.reduceNeg,Int.reduceMul,Int.reduceAdd,if_true,ite_true,jqu,ite_false,if_false]
    obtain ⟨c,hc,rfl⟩:=List.mem_map.mp (List.mem_of_getElem? hv)
    have li:=(List.getElem?_eq_some_iff.mp hv).1
    rw [List.length_map] at li
    have T:=s1.trans S
    refine ⟨c,rfl,ws,n1.same T,n2,us,n3.same T,n4,fun l ys D H2 s2 hl pl db lD=>?_⟩
    have lx:=Paired.length pr
    have ly:=Paired.length pl
    refine ⟨xs,s2 _ _ hr,ys,hl,Nat.le_trans (by omega:_≤900) (by decide),fun p hp=>?_⟩
    have s3:=isV (o:=HO.lst (xs ++ ys)) p hp
    refine ⟨S.trans (s2.trans s3),p,_,xs ++ ys,C ++ D,rfl,upd_same,Paired.app2 (cs_same (s2.trans s3) pr) (cs_same s3 pl),fun c hc=>?_,by rw [List.length_append];omega⟩
    rcases List.mem_append.mp hc with h | h
    · exact cb c h
    · exact db c h
  · rintro σ H' ⟨S,rl,o4,xs,C,rfl,hr,pr,cb,lC⟩
    simp only [rd_law_4,rEqD,rCat,tMake,L2.start,cLst,tSeq,tAsg,gName,tRet,tNext,tOp,tVar,tC,tCons,tNil,tFor,tIfS,tOr,tNot,tB,tAndV,tCB,tSl,tPart,tCall,LenV,iRng1,iList,rCat,rIxL,rI0,rSlL,cLen,List.map,List.replicate,List.length,List.append,jqa,jqb,jqc,jqd,jqe,jqf,jqg,jqh,jqi,jqj,jqk,jql,jqm,jqn,and_true,true_and,and_assoc,jqo,jqp,jqq,Nat.reduceSub,Nat.reduceAdd,jqr,jqs,jqt,Int.reduceToNat,Int.reducePow,Int.reduceNeg,Int.reduceMul,Int.reduceAdd,if_true,ite_true,jqu,ite_false,if_false]
    rw [List.length_map] at lC
    refine ⟨xs,.inl (SqL.of hr),fun hd hh=>?_⟩
    have s3:=isV (o:=HO.lst xs) hd hh
    exact rdp_law5 (hS.mono (s1.trans (S.trans s3))) hn (s3 _ _ hr) (cs_same s3 pr) upd_same cb (by omega) q
theorem rdp_law {a:Addr} {ns:List Int} (hS:SqL K H a (ns.map V.int)) (hn:ns.length≤63) (q:∀ H',Q (.bl true) H') :
    rd_law K t { nx:=fun _ H'=>Q .non H',rt:=Q } (L2.start ["script","slots","shelves","rows","cell","handed","run","beside","mine","theirs","k","answer"] [.ref a]) H:=by
  simp only [rd_law,sp__law_cell_at,sp__law_names,rEqD,rCat,tMake,L2.start,cLst,tSeq,tAsg,gName,tRet,tNext,tOp,tVar,tC,tLst,tCons,tNil,tFor,tIfS,tOr,tNot,tB,tAndV,tCB,tSl,tPart,tCall,LenV,iRng1,iList,rCat,rIxL,rI0,rSlL,cLen,List.map,List.replicate,List.length,List.append,jqa,jqb,jqc,jqd,jqe,jqf,jqg,jqh,jqi,jqj,jqk,jql,jqm,jqn,and_true,true_and,and_assoc,jqo,jqp,jqq,Nat.reduceSub,Nat.reduceAdd,jqr,jqs,jqt,Int.reduceToNat,Int.reducePow,Int.reduceNeg,Int.reduceMul,Int.reduceAdd,if_true,ite_true,jqu,ite_false,if_false]
  refine ⟨ns,0,rfl,hS,hn,fun c1 H1 s1=>⟨by decide,by decide,fun sa ws H2 s2 n1 n2=>⟨ns,1,rfl,hS.mono (s1.trans s2),hn,fun c2 H3 s3=>⟨by decide,by decide,fun sb us H4 s4 n3 n4=>⟨by decide,fun rl hr=>?_⟩⟩⟩⟩⟩
  have s5:=isV (o:=HO.lst []) rl hr
  exact rdp_law3 (hS.mono (s1.trans (s2.trans (s3.trans (s4.trans s5))))) hn (n1.same (s3.trans (s4.trans s5))) (by omega) (n3.same s5) (by omega) upd_same q
end
end
section
variable {P:Program} {w:World} {K:PySem.W.Frag} {mg:Str→Option Value} {base:Heap} {t:Adr}
theorem ok__law_draw (T:Txt K mg t):FnOk P w K mg base (CX1 P w) 1 t.a__law_draw t.d__law_draw ["cell","j"] (sp__law_draw):=by
  refine T.f__law_draw.ok0 sc__law_draw (fun vs H Q E h=>?_) (fun cdv A outer s H vs Q E hr h=>?_)
  · obtain ⟨c,j,rfl,_⟩:=h;rfl
  obtain ⟨c,j,rfl,h1,h2,q⟩:=h
  exact ⟨rd__law_draw K t,(pss_cons (ps_set (i:=2) sc__law_draw.nd rfl (Or.inl rfl) (pe_op op_mod (pe_op op_add (pe_op op_mulB (pe_op op_mod (pv 0) (pe_int (i:=1000000007))) (pe_int (i:=6700417))) (pe_op op_mulB (pe_op op_mulB (pe_op op_add (pv 1) (pe_int (i:=1))) (pe_int (i:=104729))) (pe_int (i:=65537)))) (pe_int (i:=1000000009))))
    (pss_one (ps_ret (pe_op op_fdivB (pe_op op_mod (pe_op op_mulB (pe_op op_mod (pe_op op_mulB (pv 2) (pv 2)) (pe_int (i:=1000000009))) (pv 2)) (pe_int (i:=1000000009))) (pe_int (i:=32)))))),rdp__law_draw h1 h2 q⟩
theorem ok__law_names (T:Txt K mg t):FnOk P w K mg base (CX1 P w) 2 t.a__law_names t.d__law_names ["cell","many"] (sp__law_names):=by
  refine T.f__law_names.ok0 sc__law_names (fun vs H Q E h=>?_) (fun cdv A outer s H vs Q E hr h=>?_)
  · obtain ⟨c,m,rfl,_⟩:=h;rfl
  obtain ⟨c,m,rfl,h1,h2,q⟩:=h
  exact ⟨rd__law_names K t,(pss_cons (ps_set (i:=2) sc__law_names.nd rfl (Or.inl rfl) (pe_op op_add (pe_int (i:=1)) (pe_op op_mod (pe_call (FnOk.mono (ok__law_draw T) (by decide)) hr rfl T.m__law_draw T.f__law_draw.kp T.b__law_draw .nil pass10 (pa_cons (pv 0) (pa_cons (pe_int (i:=1)) pa_nil))) (pe_int (i:=6)))))
    (pss_cons (ps_set (i:=3) sc__law_names.nd rfl (Or.inr rfl) (pe_str (x:="zyxwvtsrqpnmlkjhgfdcb")))
    (pss_cons (ps_if (pt_cmpR op_eq (pv 2) (pe_int (i:=6)) (nomark _)) (pss_one (ps_set (i:=3) sc__law_names.nd rfl (Or.inr rfl) (pe_str (x:="zyxwvutsrqponmlkjihgfedcba"))))
      pss_nil)
    (pss_cons (ps_set (i:=4) sc__law_names.nd rfl (Or.inr rfl) (pe_str (x:="")))
    (pss_cons (ps_for PassesOwn.never rfl (pi_range1 rfl T.b_range (pa_cons (pv 2) pa_nil)) (pg_name (i:=5) sc__law_names.nd rfl (Or.inl rfl)) (pss_one (ps_set (i:=4) sc__law_names.nd rfl (Or.inr rfl) (pe_op op_add_str (pv 4) (pe_ix ix_str (pv 3) (pe_op op_mod (pe_call (FnOk.mono (ok__law_draw T) (by decide)) hr rfl T.m__law_draw T.f__law_draw.kp T.b__law_draw .nil pass10 (pa_cons (pv 0) (pa_cons (pe_op op_add (pe_int (i:=2)) (pv 5)) pa_nil))) (pe_callB call_len rfl T.b_len bt_len (pa_cons (pv 3) pa_nil))) (fun _ _=>rfl))))))
    (pss_cons (ps_set (i:=6) sc__law_names.nd rfl (Or.inr rfl) (pe_op op_mod (pe_call (FnOk.mono (ok__law_draw T) (by decide)) hr rfl T.m__law_draw T.f__law_draw.kp T.b__law_draw .nil pass10 (pa_cons (pv 0) (pa_cons (pe_int (i:=8)) pa_nil))) (pv 2)))
    (pss_cons (ps_set (i:=7) sc__law_names.nd rfl (Or.inl rfl) (pe_op op_mod (pe_call (FnOk.mono (ok__law_draw T) (by decide)) hr rfl T.m__law_draw T.f__law_draw.kp T.b__law_draw .nil pass10 (pa_cons (pv 0) (pa_cons (pe_int (i:=9)) pa_nil))) (pe_callB call_len rfl T.b_len bt_len (pa_cons (pv 3) pa_nil))))
    (pss_cons (ps_set (i:=3) sc__law_names.nd rfl (Or.inr rfl) (pe_op op_add_str (pe_slice sl_str (pv 3) (po_some (pv 7)) po_none) (pe_slice sl_str (pv 3) po_none (po_some (pv 7)))))
    (pss_one (ps_ret (pe_comp rfl (osc:=defScope s__law_names) (N:=["cell","many","size","signs","stem","k","at","turn"]) (xs:=["k"]) (ix:=[4,6,3]) (by decide +kernel) (pi_range1 rfl T.b_range (pa_cons (pv 1) pa_nil)) (fun _ _ _ _=>(pg_name (i:=0) (show List.Nodup (["k","stem","at","signs"]:List Str) from (by decide +kernel)) rfl (Or.inl rfl) (.inr rfl))) (fun _ _ _ _=>pts_nil) (fun _ _ _ _=>(pe_op op_add_str (pe_op op_add_str (pe_slice sl_str (pv 1) po_none (po_some (pv 2))) (pe_ix ix_str (pv 3) (pv 0) (fun _ _=>rfl))) (pe_slice sl_str (pv 1) (po_some (pe_op op_add (pv 2) (pe_int (i:=1)))) po_none)))))))))))))),rdp__law_names h1 h2 q⟩
theorem ok_Run_init (T:Txt K mg t):FnOk P w K mg base (CX1 P w) 1 t.a_Run_init t.d_Run_init ["self","code"] (sp_Run_init t):=by
  refine T.f_Run_init.ok0 sc_Run_init (fun vs H Q E h=>?_) (fun cdv A outer s H vs Q E hr h=>?_)
  · obtain ⟨x,l,dx,xs,C,rfl,_⟩:=h;rfl
  obtain ⟨x,l,dx,xs,C,rfl,h1,h2,h3,q⟩:=h
  exact ⟨rd_Run_init K t,(pss_cons (ps_fld (f:="code") (pv 0) (pe_callTy call_list_of rfl T.b_list bt_list (pa_cons (pv 1) pa_nil)) rfl)
    (pss_cons (ps_fld (f:="at") (pv 0) (pe_int (i:=0)) rfl)
    (pss_cons (ps_fld (f:="why") (pv 0) pe_non rfl)
    (pss_cons (ps_fld (f:="slots") (pv 0) pe_dnewK rfl)
    (pss_cons (ps_fld (f:="gifts") (pv 0) pe_dnewT rfl)
    (pss_cons (ps_fld (f:="notes") (pv 0) pe_dnewT rfl)
    (pss_one (ps_fld (f:="sayings") (pv 0) (pe_lst pa_nil) rfl)))))))),rdp_Run_init (rnF T) h1 h2 h3 q⟩
theorem ok__law_begun (T:Txt K mg t):FnOk P w K mg base (CX1 P w) 1 t.a__law_begun t.d__law_begun [] (sp__law_begun):=by
  refine T.f__law_begun.ok0 sc__law_begun (fun vs H Q E h=>?_) (fun cdv A outer s H vs Q E hr h=>?_)
  · obtain ⟨rfl,_⟩:=h;rfl
  obtain ⟨rfl,q⟩:=h
  refine ⟨rd__law_begun K t,?_,rdp__law_begun q⟩
  refine pss_one ?_
  refine ps_ret ?_
  refine pe_disp ?_ ?_ ?_ ?_ ?_
  · refine pps_cons (pe_str (x:="slots")) ?_ ?_
    · exact pe_dnewK
    refine pps_cons (pe_str (x:="known")) ?_ ?_
    · exact pe_dnewT
    refine pps_cons (pe_str (x:="given")) ?_ ?_
    · exact pe_dnewT
    refine pps_cons (pe_str (x:="notes")) ?_ ?_
    · exact (pe_lst pa_nil)
    refine pps_cons (pe_str (x:="said")) ?_ ?_
    · exact (pe_lst pa_nil)
    exact pps_nil
  · rfl
  · rfl
  · exact List.cons_ne_nil _ _
  · decide
theorem ok__law_cell_at (T:Txt K mg t):FnOk P w K mg base (CX1 P w) 1 t.a__law_cell_at t.d__law_cell_at ["script","k"] (sp__law_cell_at K):=by
  refine T.f__law_cell_at.ok0 sc__law_cell_at (fun vs H Q E h=>?_) (fun cdv A outer s H vs Q E hr h=>?_)
  · obtain ⟨a,ns,k,rfl,_⟩:=h;rfl
  obtain ⟨a,ns,k,rfl,hS,hl,q⟩:=h
  exact ⟨rd__law_cell_at K t,(pss_cons (ps_if (pt_cmpR op_lt (pv 1) (pe_callB call_len rfl T.b_len bt_len (pa_cons (pv 0) pa_nil)) (nomark _)) (pss_one (ps_ret (pe_ix ix_list (pv 0) (pv 1) (fun _ _=>rfl))))
      pss_nil)
    (pss_one (ps_ret (pe_int (i:=0))))),rdp__law_cell_at hS hl q⟩
theorem ok__law_number (T:Txt K mg t):FnOk P w K mg base (CX1 P w) 2 t.a__law_number t.d__law_number ["cell","j"] (sp__law_number):=by
  refine T.f__law_number.ok0 sc__law_number (fun vs H Q E h=>?_) (fun cdv A outer s H vs Q E hr h=>?_)
  · obtain ⟨c,j,rfl,_⟩:=h;rfl
  obtain ⟨c,j,rfl,h1,h2,q⟩:=h
  exact ⟨rd__law_number K t,(pss_cons (ps_set (i:=2) sc__law_number.nd rfl (Or.inl rfl) (pe_op op_mod (pe_call (FnOk.mono (ok__law_draw T) (by decide)) hr rfl T.m__law_draw T.f__law_draw.kp T.b__law_draw .nil pass10 (pa_cons (pv 0) (pa_cons (pv 1) pa_nil))) (pe_int (i:=4))))
    (pss_cons (ps_if (pt_cmpR op_eq (pv 2) (pe_int (i:=0)) (nomark _)) (pss_one (ps_ret (pe_op op_sub (pe_op op_mod (pe_op op_add (pe_op op_mulB (pe_op op_mulB (pe_op op_mod (pv 0) (pe_op op_pow (pe_int (i:=10)) (pe_int (i:=20)))) (pe_op op_add (pv 1) (pe_int (i:=2)))) (pe_int (i:=1000003))) (pv 1)) (pe_op op_add (pe_op op_mulB (pe_int (i:=2)) (pe_op op_pow (pe_int (i:=10)) (pe_int (i:=17)))) (pe_int (i:=1)))) (pe_op op_pow (pe_int (i:=10)) (pe_int (i:=17))))))
      pss_nil)
    (pss_cons (ps_if (pt_cmpR op_eq (pv 2) (pe_int (i:=1)) (nomark _)) (pss_one (ps_ret (pe_int (i:=0))))
      pss_nil)
    (pss_one (ps_ret (pe_op op_sub (pe_op op_mod (pe_call (FnOk.mono (ok__law_draw T) (by decide)) hr rfl T.m__law_draw T.f__law_draw.kp T.b__law_draw .nil pass10 (pa_cons (pv 0) (pa_cons (pe_op op_add (pv 1) (pe_int (i:=1))) pa_nil))) (pe_int (i:=7))) (pe_int (i:=3)))))))),rdp__law_number h1 h2 q⟩
theorem ok_Run_over (T:Txt K mg t):FnOk P w K mg base (CX1 P w) 1 t.a_Run_over t.d_Run_over ["self"] (sp_Run_over t):=by
  refine T.f_Run_over.ok0 sc_Run_over (fun vs H Q E h=>?_) (fun cdv A outer s H vs Q E hr h=>?_)
  · obtain ⟨x,a,C,s,rfl,_⟩:=h;rfl
  obtain ⟨x,a,C,s,rfl,h1,q⟩:=h
  exact ⟨rd_Run_over K t,(pss_one (ps_ret (pe_or (pe_cmpR op_notN (pe_fld (f:="why") (pv 0) rfl) pe_non (nomark _)) (pe_one (pe_cmpR op_ge (pe_fld (f:="at") (pv 0) rfl) (pe_callB call_len rfl T.b_len bt_len (pa_cons (pe_fld (f:="code") (pv 0) rfl) pa_nil)) (nomark _)))))),rdp_Run_over (rnF T) h1 q⟩
theorem ok_Run_paper (T:Txt K mg t):FnOk P w K mg base (CX1 P w) 2 t.a_Run_paper t.d_Run_paper ["self"] (sp_Run_paper t):=by
  refine T.f_Run_paper.ok0 sc_Run_paper (fun vs H Q E h=>?_) (fun cdv A outer s H vs Q E hr h=>?_)
  · obtain ⟨x,a,C,s,rfl,_⟩:=h;rfl
  obtain ⟨x,a,C,s,rfl,h1,h2,h3,h4,q1,q2⟩:=h
  exact ⟨rd_Run_paper K t,(pss_cons (ps_if (pt_not (pt_val (pe_meth0 (pv 0) T.cl_Run T.me_Run_over (FnOk.mono (ok_Run_over T) (by decide)) hr T.b_Run_over .nil pass10))) (pss_one (ps_ret pe_non))
      pss_nil)
    (pss_cons (ps_set (i:=1) sc_Run_paper.nd rfl (Or.inl rfl) (pe_callTy (call_list_items rfl) rfl T.b_list bt_list (pa_cons (pe_items (pe_fld (f:="notes") (pv 0) rfl)) pa_nil)))
    (pss_cons (ps_if (pt_cmpR op_notN (pe_fld (f:="why") (pv 0) rfl) pe_non (nomark _)) (pss_one (ps_ret (pe_tup (pa_cons (pe_tup (pa_cons (pe_str (x:="off")) (pa_cons (pe_fld (f:="why") (pv 0) rfl) pa_nil))) (pa_cons (pv 1) (pa_cons (pe_lst pa_nil) pa_nil))))))
      pss_nil)
    (pss_one (ps_ret (pe_tup (pa_cons (pe_tup (pa_cons (pe_str (x:="done")) (pa_cons (pe_callTy call_tuple_of rfl T.b_tuple bt_tuple (pa_cons (pe_fld (f:="sayings") (pv 0) rfl) pa_nil)) pa_nil))) (pa_cons (pv 1) (pa_cons (pe_callB (call_sorted_items rfl (hu3 hr)) rfl T.b_sorted bt_sorted (pa_cons (pe_items (pe_fld (f:="gifts") (pv 0) rfl)) pa_nil)) pa_nil))))))))),rdp_Run_paper (rnF T) h1 h2 h3 h4 q1 q2⟩
theorem ok__law_plain (T:Txt K mg t):∀ n,FnOk P w K mg base (CX1 P w) (1 + n) t.a__law_plain t.d__law_plain ["found"] (sp__law_plain n):=by
  intro n
  induction n with
  | zero=>exact ⟨fun vs H Q E h=>(nil__law_plain h).elim,fun A outer s H args us vs Q E hr he hb hv h=>(nil__law_plain h).elim⟩
  | succ n IH =>
  refine T.f__law_plain.ok0 sc__law_plain (k:=1 + n) (fun vs H Q E h=>?_) (fun cdv A outer s H vs Q E hr h=>?_)
  · obtain ⟨v,rfl,_⟩:=h;rfl
  obtain ⟨v,rfl,h1,q⟩:=h
  exact ⟨rd__law_plain K t n,(pss_cons (ps_if (pt_val (pe_callB call_isiT rfl T.b_isinstance bt_isinstance (pa_cons (pv 0) (pa_cons (pe_tup (pa_cons (pe_bltn rfl T.b_list bt_list rfl) (pa_cons (pe_bltn rfl T.b_tuple bt_tuple rfl) pa_nil))) pa_nil)))) (pss_cons (ps_for PassesOwn.never rfl (pi_seq (pv 0)) (pg_name (i:=1) sc__law_plain.nd rfl (Or.inl rfl)) (pss_one (ps_if (pt_not (pt_val (pe_call (FnOk.mono IH (by omega)) hr rfl T.m__law_plain T.f__law_plain.kp T.b__law_plain .nil pass10 (pa_cons (pv 1) pa_nil)))) (pss_one (ps_ret (pe_bl (b:=false))))
      pss_nil)))
    (pss_one (ps_ret (pe_bl (b:=true)))))
      pss_nil)
    (pss_one (ps_ret (pe_and (pe_callB call_isiT rfl T.b_isinstance bt_isinstance (pa_cons (pv 0) (pa_cons (pe_tup (pa_cons (pe_bltn rfl T.b_int bt_int rfl) (pa_cons (pe_bltn rfl T.b_str bt_str rfl) pa_nil))) pa_nil))) (pe_one (pe_not (pe_callB call_isi rfl T.b_isinstance bt_isinstance (pa_cons (pv 0) (pa_cons (pe_bltn rfl T.b_bool bt_bool rfl) pa_nil))))))))),rdp__law_plain (kf K) h1 q⟩
theorem ok_divided (T:Txt K mg t):FnOk P w K mg base (CX1 P w) 1 t.a_divided t.d_divided ["word","first","second"] (sp_divided t):=by
  refine T.f_divided.ok1 sc_divided (fun vs H Q E h=>?_) (fun cdv A outer s H vs Q E hr h=>?_)
  · obtain ⟨w,a,b,rfl,_⟩:=h;rfl
  obtain ⟨w,a,b,rfl,hw,ha,hb,q⟩:=h
  exact ⟨rd_divided K t E,(pss_cons (ps_if (pt_cmpR op_eq (pv 2) (pe_int (i:=0)) (nomark _)) (pss_one (ps_raise rfl T.x_Nought raises1 rfl T.g_Nought (pa_cons (pe_msgS (pv 0)) pa_nil)))
      pss_nil)
    (pss_one (ps_ret (pe_ifExp (pt_cmpR op_eq (pv 0) (pe_str (x:="over")) (nomark _)) (pe_op op_fdivS (pv 1) (pv 2)) (pe_op op_modN (pv 1) (pv 2)))))),rdp_divided hw ha hb q⟩
theorem ok_come_to (T:Txt K mg t):FnOk P w K mg base (CX1 P w) 2 t.a_come_to t.d_come_to ["word","first","second"] (sp_come_to t):=by
  refine T.f_come_to.ok1 sc_come_to (fun vs H Q E h=>?_) (fun cdv A outer s H vs Q E hr h=>?_)
  · obtain ⟨w,a,b,rfl,_⟩:=h;rfl
  obtain ⟨w,a,b,rfl,hw,ha,hb,q⟩:=h
  exact ⟨rd_come_to K t E,(pss_cons (ps_if (pt_cmpR op_eq (pv 0) (pe_str (x:="plus")) (nomark _)) (pss_one (ps_ret (pe_op op_add (pv 1) (pv 2))))
      pss_nil)
    (pss_cons (ps_if (pt_cmpR op_eq (pv 0) (pe_str (x:="minus")) (nomark _)) (pss_one (ps_ret (pe_op op_sub (pv 1) (pv 2))))
      pss_nil)
    (pss_cons (ps_if (pt_cmpR op_eq (pv 0) (pe_str (x:="times")) (nomark _)) (pss_one (ps_ret (pe_op op_mulB (pv 1) (pv 2))))
      pss_nil)
    (pss_cons (ps_if (pt_cmpR op_eq (pv 0) (pe_str (x:="under")) (nomark _)) (pss_one (ps_ret (pe_ifExp (pt_cmpR op_lt (pv 1) (pv 2) (nomark _)) (pe_int (i:=1)) (pe_int (i:=0)))))
      pss_nil)
    (pss_cons (ps_if (pt_cmpR op_eq (pv 0) (pe_str (x:="same")) (nomark _)) (pss_one (ps_ret (pe_ifExp (pt_cmpR op_eq (pv 1) (pv 2) (nomark _)) (pe_int (i:=1)) (pe_int (i:=0)))))
      pss_nil)
    (pss_one (ps_ret (pe_call (FnOk.mono (ok_divided T) (by decide)) hr rfl T.m_divided T.f_divided.kp T.b_divided .nil pass1 (pa_cons (pv 0) (pa_cons (pv 1) (pa_cons (pv 2) pa_nil))))))))))),rdp_come_to hw ha hb q⟩
theorem ok_is_worth (T:Txt K mg t):FnOk P w K mg base (CX1 P w) 1 t.a_is_worth t.d_is_worth ["thing"] (sp_is_worth):=by
  refine T.f_is_worth.ok0 sc_is_worth (fun vs H Q E h=>?_) (fun cdv A outer s H vs Q E hr h=>?_)
  · obtain ⟨i,rfl,_⟩:=h;rfl
  obtain ⟨i,rfl,q⟩:=h
  exact ⟨rd_is_worth K t,(pss_cons (ps_if (PW.pt (pw_or (pt_not (pt_val (pe_callB call_isi rfl T.b_isinstance bt_isinstance (pa_cons (pv 0) (pa_cons (pe_bltn rfl T.b_int bt_int rfl) pa_nil))))) (pw_or1 (pt_val (pe_callB call_isi rfl T.b_isinstance bt_isinstance (pa_cons (pv 0) (pa_cons (pe_bltn rfl T.b_bool bt_bool rfl) pa_nil))))))) (pss_one (ps_ret (pe_bl (b:=false))))
      pss_nil)
    (pss_one (ps_ret (pe_chain op_le op_le (pe_un un_neg (pe_op op_pow (pe_int (i:=10)) (pe_int (i:=30)))) (pv 0) (pe_op op_pow (pe_int (i:=10)) (pe_int (i:=30))))))),rdp_is_worth (kf K).i_b q⟩
theorem ok_joined (T:Txt K mg t):FnOk P w K mg base (CX1 P w) 3 t.a_joined t.d_joined ["word","first","second"] (sp_joined t):=by
  refine T.f_joined.ok1 sc_joined (fun vs H Q E h=>?_) (fun cdv A outer s H vs Q E hr h=>?_)
  · obtain ⟨w,a,b,rfl,_⟩:=h;rfl
  obtain ⟨w,a,b,rfl,hw,ha,hb,q⟩:=h
  exact ⟨rd_joined K t E,(pss_cons (ps_set (i:=3) sc_joined.nd rfl (Or.inl rfl) (pe_call (FnOk.mono (ok_come_to T) (by decide)) hr rfl T.m_come_to T.f_come_to.kp T.b_come_to .nil pass1 (pa_cons (pv 0) (pa_cons (pv 1) (pa_cons (pv 2) pa_nil)))))
    (pss_cons (ps_if (pt_not (pt_val (pe_call (FnOk.mono (ok_is_worth T) (by decide)) hr rfl T.m_is_worth T.f_is_worth.kp T.b_is_worth .nil pass1 (pa_cons (pv 3) pa_nil)))) (pss_one (ps_raise rfl T.x_Great raises1 rfl T.g_Great (pa_cons (pe_msgS (pv 0)) pa_nil)))
      pss_nil)
    (pss_one (ps_ret (pv 3))))),rdp_joined hw ha hb q⟩
theorem ok_reckoned (T:Txt K mg t):FnOk P w K mg base (CX1 P w) 4 t.a_reckoned t.d_reckoned ["term","slots"] (sp_reckoned t):=by
  refine T.f_reckoned.ok1 sc_reckoned (fun vs H Q E h=>?_) (fun cdv A outer s H vs Q E hr h=>?_)
  · obtain ⟨kvs,tm,sl,ps,r,rfl,_⟩:=h;rfl
  obtain ⟨kvs,tm,sl,ps,r,rfl,h1,h2,h3,h4,h5,h6,q⟩:=h
  exact ⟨rd_reckoned K t E,(pss_cons (ps_set (i:=2) sc_reckoned.nd rfl (Or.inl rfl) (pe_lst pa_nil))
    (pss_cons (ps_for own1 rfl (pi_tup (pv 0)) (pg_name (i:=3) sc_reckoned.nd rfl (Or.inl rfl)) (pss_one (ps_if (pt_cmpR op_in_seq (pv 3) (pe_glob rfl T.g_JOINING rfl) (by with_unfolding_all rfl)) (pss_cons (ps_set (i:=4) sc_reckoned.nd rfl (Or.inl rfl) (pe_bm0 PySem.F.plainAttrs_list PySem.F.slot_list_pop PySem.F.type_list_pop mt_pop (pv 2)))
    (pss_cons (ps_set (i:=5) sc_reckoned.nd rfl (Or.inl rfl) (pe_bm0 PySem.F.plainAttrs_list PySem.F.slot_list_pop PySem.F.type_list_pop mt_pop (pv 2)))
    (pss_one (ps_expr (pe_bm PySem.F.plainAttrs_list PySem.F.slot_list_append PySem.F.type_list_append mt_append (pv 2) (pa_cons (pe_call (FnOk.mono (ok_joined T) (by decide)) hr rfl T.m_joined T.f_joined.kp T.b_joined .nil pass1 (pa_cons (pv 3) (pa_cons (pv 5) (pa_cons (pv 4) pa_nil)))) pa_nil))))))
      (pss_one (ps_expr (pe_bm PySem.F.plainAttrs_list PySem.F.slot_list_append PySem.F.type_list_append mt_append (pv 2) (pa_cons (pe_ifExp (pt_val (pe_callB call_isi rfl T.b_isinstance bt_isinstance (pa_cons (pv 3) (pa_cons (pe_bltn rfl T.b_str bt_str rfl) pa_nil)))) (pe_dget2 (hu_of hr) (pv 1) (pv 3) (pe_int (i:=0)) ⟨rfl,rfl,rfl,rfl⟩) (pv 3)) pa_nil)))))))
    (pss_one (ps_ret (pe_bm0 PySem.F.plainAttrs_list PySem.F.slot_list_pop PySem.F.type_list_pop mt_pop (pv 2)))))),rdp_reckoned (kf K).i_s T.v_JOINING h1 h2 h3 h4 h5 h6 q⟩
theorem ok_Run_worth_of (T:Txt K mg t):FnOk P w K mg base (CX1 P w) 5 t.a_Run_worth_of t.d_Run_worth_of ["self","term"] (sp_Run_worth_of t):=by
  refine T.f_Run_worth_of.ok1 sc_Run_worth_of (fun vs H Q E h=>?_) (fun cdv A outer s H vs Q E hr h=>?_)
  · obtain ⟨x,tm,e,a,C,s,rfl,_⟩:=h;rfl
  obtain ⟨x,tm,e,a,C,s,rfl,h1,h2,h3,h4,q⟩:=h
  exact ⟨rd_Run_worth_of K t E,(pss_one (ps_ret (pe_call (FnOk.mono (ok_reckoned T) (by decide)) hr rfl T.m_reckoned T.f_reckoned.kp T.b_reckoned .nil pass1 (pa_cons (pv 1) (pa_cons (pe_fld (f:="slots") (pv 0) rfl) pa_nil))))),rdp_Run_worth_of (rnF T) h1 h2 h3 h4 q⟩
theorem ok_Run_place_in (T:Txt K mg t):FnOk P w K mg base (CX1 P w) 6 t.a_Run_place_in t.d_Run_place_in ["self","due"] (sp_Run_place_in t):=by
  refine T.f_Run_place_in.ok1 sc_Run_place_in (fun vs H Q E h=>?_) (fun cdv A outer s H vs Q E hr h=>?_)
  · obtain ⟨x,p,xs,sh,te,e,a,C,s,rfl,_⟩:=h;rfl
  obtain ⟨x,p,xs,sh,te,e,a,C,s,rfl,h1,h2,h3,h4,h5,h6,h7,q1,q2⟩:=h
  exact ⟨rd_Run_place_in K t E,(pss_one (ps_ret (pe_tup (pa_cons (pe_ix ix_tup (pv 1) (pe_int (i:=1)) (fun _ _=>rfl)) (pa_cons (pe_meth (pv 0) T.cl_Run T.me_Run_worth_of (FnOk.mono (ok_Run_worth_of T) (by decide)) hr T.b_Run_worth_of .nil pass1 (pa_cons (pe_ix ix_tup (pv 1) (pe_int (i:=2)) (fun _ _=>rfl)) pa_nil)) pa_nil))))),rdp_Run_place_in (rnF T) h1 h2 h3 h4 h5 h6 h7 q1 q2⟩
theorem ok_Run_asks (T:Txt K mg t):FnOk P w K mg base (CX1 P w) 7 t.a_Run_asks t.d_Run_asks ["self"] (sp_Run_asks t):=by
  refine T.f_Run_asks.ok0 sc_Run_asks (fun vs H Q E h=>?_) (fun cdv A outer s H vs Q E hr h=>?_)
  · obtain ⟨x,a,C,s,rfl,_⟩:=h;rfl
  obtain ⟨x,a,C,s,rfl,h1,h2,h3,q1,q2⟩:=h
  exact ⟨rd_Run_asks K t,(pss_cons (ps_if (PW.pt (pw_or (pt_val (pe_meth0 (pv 0) T.cl_Run T.me_Run_over (FnOk.mono (ok_Run_over T) (by decide)) hr T.b_Run_over .nil pass10)) (pw_or1 (pt_cmpR op_ne (pe_ix ix_tup (pe_ix ix_list (pe_fld (f:="code") (pv 0) rfl) (pe_fld (f:="at") (pv 0) rfl) (fun _ _=>rfl)) (pe_int (i:=0)) (fun _ _=>rfl)) (pe_str (x:="take")) (nomark _))))) (pss_one (ps_ret pe_non))
      pss_nil)
    (pss_cons (ps_tryT (And.intro rfl rfl) rfl (psx_set (i:=1) sc_Run_asks.nd rfl (Or.inl rfl) (pex_meth (pv 0) T.cl_Run T.me_Run_place_in (FnOk.mono (ok_Run_place_in T) (by decide)) hr T.b_Run_place_in (pa_cons (pe_ix ix_list (pe_fld (f:="code") (pv 0) rfl) (pe_fld (f:="at") (pv 0) rfl) (fun _ _=>rfl)) pa_nil))) rfl T.g_Great rfl T.g_Nought (fun _=>(pss_one (ps_ret pe_non))))
    (pss_cons (ps_if (PW.pt (pw_or (pt_cmpR (op_in_d (hu_of hr)) (pv 1) (pe_fld (f:="gifts") (pv 0) rfl) (by with_unfolding_all rfl)) (pw_or1 (pt_cmpR (op_in_d (hu_of hr)) (pv 1) (pe_fld (f:="notes") (pv 0) rfl) (by with_unfolding_all rfl))))) (pss_one (ps_ret pe_non))
      pss_nil)
    (pss_one (ps_ret (pv 1)))))),rdp_Run_asks T h1 h2 h3 q1 q2⟩
theorem ok__law_paper (T:Txt K mg t):FnOk P w K mg base (CX1 P w) 8 t.a__law_paper t.d__law_paper ["run","state"] (sp__law_paper t):=by
  refine T.f__law_paper.ok0 sc__law_paper (fun vs H Q E h=>?_) (fun cdv A outer s H vs Q E hr h=>?_)
  · obtain ⟨x,d,a,C,b,s,kn,rfl,_⟩:=h;rfl
  obtain ⟨x,d,a,C,b,s,kn,rfl,h1,h2,h3,h4,h5,q⟩:=h
  exact ⟨rd__law_paper K t,(pss_cons (ps_set (i:=2) sc__law_paper.nd rfl (Or.inl rfl) (pe_meth0 (pv 0) T.cl_Run T.me_Run_paper (FnOk.mono (ok_Run_paper T) (by decide)) hr T.b_Run_paper .nil pass10))
    (pss_cons (ps_set (i:=3) sc__law_paper.nd rfl (Or.inl rfl) (pe_tup (pa_cons (pe_tup (pa_cons (pe_str (x:="done")) (pa_cons (pe_callTy call_tuple_of rfl T.b_tuple bt_tuple (pa_cons (pe_dget (hu_of hr) (pv 1) (pe_str (x:="said")) (fun _ _=>rfl)) pa_nil)) pa_nil))) (pa_cons (pe_dget (hu_of hr) (pv 1) (pe_str (x:="notes")) (fun _ _=>rfl)) (pa_cons (pe_callB (call_sorted_items rfl (hu3 hr)) rfl T.b_sorted bt_sorted (pa_cons (pe_items (pe_dget (hu_of hr) (pv 1) (pe_str (x:="given")) (fun _ _=>rfl))) pa_nil)) pa_nil)))))
    (pss_one (ps_ret (pe_and (pe_cmpR op_is_bl (pe_meth0 (pv 0) T.cl_Run T.me_Run_over (FnOk.mono (ok_Run_over T) (by decide)) hr T.b_Run_over .nil pass10) (pe_bl (b:=true)) (nomark _)) (pe_and (pe_cmpR op_isN (pe_meth0 (pv 0) T.cl_Run T.me_Run_asks (FnOk.mono (ok_Run_asks T) (by decide)) hr T.b_Run_asks .nil pass10) pe_non (nomark _)) (pe_and (pe_call (FnOk.mono (ok__law_plain T 6) (by decide)) hr rfl T.m__law_plain T.f__law_plain.kp T.b__law_plain .nil pass10 (pa_cons (pv 2) pa_nil)) (pe_one (pe_cmpR (op_eqAll (hu64 hr)) (pv 2) (pv 3) (nomark _)))))))))),rdp__law_paper h1 h2 h3 h4 h5 q⟩
theorem ok__law_part (T:Txt K mg t):FnOk P w K mg base (CX1 P w) 3 t.a__law_part t.d__law_part ["cell","j","slots"] (sp__law_part):=by
  refine T.f__law_part.ok0 sc__law_part (fun vs H Q E h=>?_) (fun cdv A outer s H vs Q E hr h=>?_)
  · obtain ⟨c,j,a,ws,rfl,_⟩:=h;rfl
  obtain ⟨c,j,a,ws,rfl,h1,h2,h3,h4,q⟩:=h
  exact ⟨rd__law_part K t,(pss_cons (ps_if (pt_cmpR op_eq (pe_op op_mod (pe_call (FnOk.mono (ok__law_draw T) (by decide)) hr rfl T.m__law_draw T.f__law_draw.kp T.b__law_draw .nil pass10 (pa_cons (pv 0) (pa_cons (pe_op op_add (pv 1) (pe_int (i:=5))) pa_nil))) (pe_int (i:=2))) (pe_int (i:=0)) (nomark _)) (pss_one (ps_ret (pe_ix ix_list (pv 2) (pe_op op_mod (pe_call (FnOk.mono (ok__law_draw T) (by decide)) hr rfl T.m__law_draw T.f__law_draw.kp T.b__law_draw .nil pass10 (pa_cons (pv 0) (pa_cons (pe_op op_add (pv 1) (pe_int (i:=6))) pa_nil))) (pe_int (i:=3))) (fun _ _=>rfl))))
      pss_nil)
    (pss_one (ps_ret (pe_call (FnOk.mono (ok__law_number T) (by decide)) hr rfl T.m__law_number T.f__law_number.kp T.b__law_number .nil pass10 (pa_cons (pv 0) (pa_cons (pv 1) pa_nil)))))),rdp__law_part h1 h2 h3 h4 q⟩
theorem ok__law_term (T:Txt K mg t):FnOk P w K mg base (CX1 P w) 4 t.a__law_term t.d__law_term ["cell","j","slots"] (sp__law_term):=by
  refine T.f__law_term.ok0 sc__law_term (fun vs H Q E h=>?_) (fun cdv A outer s H vs Q E hr h=>?_)
  · obtain ⟨c,j,a,ws,rfl,_⟩:=h;rfl
  obtain ⟨c,j,a,ws,rfl,h1,h2,h3,h4,q⟩:=h
  exact ⟨rd__law_term K t,(pss_cons (ps_set (i:=3) sc__law_term.nd rfl (Or.inl rfl) (pe_op op_mod (pe_call (FnOk.mono (ok__law_draw T) (by decide)) hr rfl T.m__law_draw T.f__law_draw.kp T.b__law_draw .nil pass10 (pa_cons (pv 0) (pa_cons (pv 1) pa_nil))) (pe_int (i:=10))))
    (pss_cons (ps_set (i:=4) sc__law_term.nd rfl (Or.inl rfl) (pe_call (FnOk.mono (ok__law_part T) (by decide)) hr rfl T.m__law_part T.f__law_part.kp T.b__law_part .nil pass10 (pa_cons (pv 0) (pa_cons (pe_op op_add (pv 1) (pe_int (i:=1))) (pa_cons (pv 2) pa_nil)))))
    (pss_cons (ps_if (pt_cmpR op_lt (pv 3) (pe_int (i:=3)) (nomark _)) (pss_one (ps_ret (pe_tup (pa_cons (pv 4) pa_nil))))
      pss_nil)
    (pss_cons (ps_if (pt_cmpR op_eq (pv 3) (pe_int (i:=3)) (nomark _)) (pss_one (ps_ret (pe_tup (pa_cons (pv 4) (pa_cons (pe_op op_sub (pe_op op_mod (pe_call (FnOk.mono (ok__law_draw T) (by decide)) hr rfl T.m__law_draw T.f__law_draw.kp T.b__law_draw .nil pass10 (pa_cons (pv 0) (pa_cons (pe_op op_add (pv 1) (pe_int (i:=2))) pa_nil))) (pe_int (i:=5))) (pe_int (i:=2))) (pa_cons (pe_str (x:="times")) pa_nil))))))
      pss_nil)
    (pss_cons (ps_if (pt_cmpR op_eq (pv 3) (pe_int (i:=4)) (nomark _)) (pss_cons (ps_set (i:=5) sc__law_term.nd rfl (Or.inl rfl) (pe_ix ix_list (pe_lst (pa_cons (pe_int (i:=1)) (pa_cons (pe_un un_neg (pe_int (i:=1))) (pa_cons (pe_int (i:=7)) (pa_cons (pe_un un_neg (pe_int (i:=3))) (pa_cons (pe_op op_add (pe_op op_pow (pe_int (i:=10)) (pe_int (i:=9))) (pe_int (i:=7))) pa_nil)))))) (pe_op op_mod (pe_call (FnOk.mono (ok__law_draw T) (by decide)) hr rfl T.m__law_draw T.f__law_draw.kp T.b__law_draw .nil pass10 (pa_cons (pv 0) (pa_cons (pe_op op_add (pv 1) (pe_int (i:=2))) pa_nil))) (pe_int (i:=5))) (fun _ _=>rfl)))
    (pss_one (ps_ret (pe_tup (pa_cons (pv 4) (pa_cons (pv 5) (pa_cons (pe_ix ix_list (pe_lst (pa_cons (pe_str (x:="over")) (pa_cons (pe_str (x:="rest")) pa_nil))) (pe_op op_mod (pe_call (FnOk.mono (ok__law_draw T) (by decide)) hr rfl T.m__law_draw T.f__law_draw.kp T.b__law_draw .nil pass10 (pa_cons (pv 0) (pa_cons (pe_op op_add (pv 1) (pe_int (i:=3))) pa_nil))) (pe_int (i:=2))) (fun _ _=>rfl)) pa_nil)))))))
      pss_nil)
    (pss_cons (ps_set (i:=6) sc__law_term.nd rfl (Or.inl rfl) (pe_lst (pa_cons (pe_str (x:="plus")) (pa_cons (pe_str (x:="minus")) (pa_cons (pe_str (x:="under")) (pa_cons (pe_str (x:="same")) (pa_cons (pe_str (x:="plus")) (pa_cons (pe_str (x:="minus")) pa_nil))))))))
    (pss_one (ps_ret (pe_tup (pa_cons (pv 4) (pa_cons (pe_call (FnOk.mono (ok__law_part T) (by decide)) hr rfl T.m__law_part T.f__law_part.kp T.b__law_part .nil pass10 (pa_cons (pv 0) (pa_cons (pe_op op_add (pv 1) (pe_int (i:=9))) (pa_cons (pv 2) pa_nil)))) (pa_cons (pe_ix ix_list (pv 6) (pe_op op_add (pe_op op_sub (pv 3) (pe_int (i:=5))) (pe_op op_mod (pe_call (FnOk.mono (ok__law_draw T) (by decide)) hr rfl T.m__law_draw T.f__law_draw.kp T.b__law_draw .nil pass10 (pa_cons (pv 0) (pa_cons (pe_op op_add (pv 1) (pe_int (i:=4))) pa_nil))) (pe_int (i:=2)))) (fun _ _=>rfl)) pa_nil)))))))))))),rdp__law_term h1 h2 h3 h4 q⟩
theorem ok__law_spot (T:Txt K mg t):FnOk P w K mg base (CX1 P w) 5 t.a__law_spot t.d__law_spot ["cell","j","slots"] (sp__law_spot):=by
  refine T.f__law_spot.ok0 sc__law_spot (fun vs H Q E h=>?_) (fun cdv A outer s H vs Q E hr h=>?_)
  · obtain ⟨c,j,a,ws,rfl,_⟩:=h;rfl
  obtain ⟨c,j,a,ws,rfl,h1,h2,h3,h4,q⟩:=h
  exact ⟨rd__law_spot K t,(pss_cons (ps_if (pt_cmpR op_eq (pe_op op_mod (pe_call (FnOk.mono (ok__law_draw T) (by decide)) hr rfl T.m__law_draw T.f__law_draw.kp T.b__law_draw .nil pass10 (pa_cons (pv 0) (pa_cons (pv 1) pa_nil))) (pe_int (i:=4))) (pe_int (i:=0)) (nomark _)) (pss_one (ps_ret (pe_call (FnOk.mono (ok__law_term T) (by decide)) hr rfl T.m__law_term T.f__law_term.kp T.b__law_term .nil pass10 (pa_cons (pv 0) (pa_cons (pe_op op_add (pv 1) (pe_int (i:=1))) (pa_cons (pv 2) pa_nil))))))
      pss_nil)
    (pss_one (ps_ret (pe_tup (pa_cons (pe_op op_sub (pe_op op_mod (pe_call (FnOk.mono (ok__law_draw T) (by decide)) hr rfl T.m__law_draw T.f__law_draw.kp T.b__law_draw .nil pass10 (pa_cons (pv 0) (pa_cons (pe_op op_add (pv 1) (pe_int (i:=2))) pa_nil))) (pe_int (i:=4))) (pe_int (i:=1))) pa_nil))))),rdp__law_spot h1 h2 h3 h4 q⟩
theorem ok__law_rows (T:Txt K mg t):FnOk P w K mg base (CX1 P w) 6 t.a__law_rows t.d__law_rows ["cell","slots","shelves"] (sp__law_rows):=by
  refine T.f__law_rows.ok0 sc__law_rows (fun vs H Q E h=>?_) (fun cdv A outer s H vs Q E hr h=>?_)
  · obtain ⟨c,a,b,ws,us,rfl,_⟩:=h;rfl
  obtain ⟨c,a,b,ws,us,rfl,h1,h2,h3,h4,q⟩:=h
  exact ⟨rd__law_rows K t,(pss_cons (ps_set (i:=3) sc__law_rows.nd rfl (Or.inl rfl) (pe_op op_mod (pe_call (FnOk.mono (ok__law_draw T) (by decide)) hr rfl T.m__law_draw T.f__law_draw.kp T.b__law_draw .nil pass10 (pa_cons (pv 0) (pa_cons (pe_int (i:=0)) pa_nil))) (pe_int (i:=8))))
    (pss_cons (ps_set (i:=4) sc__law_rows.nd rfl (Or.inl rfl) (pe_ix ix_list (pv 2) (pe_op op_mod (pe_call (FnOk.mono (ok__law_draw T) (by decide)) hr rfl T.m__law_draw T.f__law_draw.kp T.b__law_draw .nil pass10 (pa_cons (pv 0) (pa_cons (pe_int (i:=60)) pa_nil))) (pe_int (i:=2))) (fun _ _=>rfl)))
    (pss_cons (ps_set (i:=5) sc__law_rows.nd rfl (Or.inl rfl) (pe_ix ix_list (pv 1) (pe_op op_mod (pe_call (FnOk.mono (ok__law_draw T) (by decide)) hr rfl T.m__law_draw T.f__law_draw.kp T.b__law_draw .nil pass10 (pa_cons (pv 0) (pa_cons (pe_int (i:=61)) pa_nil))) (pe_int (i:=3))) (fun _ _=>rfl)))
    (pss_cons (ps_set (i:=6) sc__law_rows.nd rfl (Or.inl rfl) (pe_call (FnOk.mono (ok__law_spot T) (by decide)) hr rfl T.m__law_spot T.f__law_spot.kp T.b__law_spot .nil pass10 (pa_cons (pv 0) (pa_cons (pe_int (i:=20)) (pa_cons (pv 1) pa_nil)))))
    (pss_cons (ps_if (pt_cmpR op_lt (pv 3) (pe_int (i:=2)) (nomark _)) (pss_cons (ps_set (i:=6) sc__law_rows.nd rfl (Or.inl rfl) (pe_tup (pa_cons (pe_op op_sub (pe_op op_mod (pe_call (FnOk.mono (ok__law_draw T) (by decide)) hr rfl T.m__law_draw T.f__law_draw.kp T.b__law_draw .nil pass10 (pa_cons (pv 0) (pa_cons (pe_int (i:=22)) pa_nil))) (pe_int (i:=4))) (pe_int (i:=1))) pa_nil)))
    (pss_one (ps_ret (pe_lst (pa_cons (pe_tup (pa_cons (pe_str (x:="take")) (pa_cons (pv 4) (pa_cons (pv 6) (pa_cons (pv 5) pa_nil))))) (pa_cons (pe_tup (pa_cons (pe_str (x:="give")) (pa_cons (pv 4) (pa_cons (pv 6) (pa_cons (pe_tup (pa_cons (pv 5) pa_nil)) pa_nil))))) pa_nil))))))
      pss_nil)
    (pss_cons (ps_if (pt_cmpR op_lt (pv 3) (pe_int (i:=4)) (nomark _)) (pss_one (ps_ret (pe_lst (pa_cons (pe_tup (pa_cons (pe_str (x:="take")) (pa_cons (pv 4) (pa_cons (pv 6) (pa_cons (pv 5) pa_nil))))) pa_nil))))
      pss_nil)
    (pss_cons (ps_if (pt_cmpR op_lt (pv 3) (pe_int (i:=6)) (nomark _)) (pss_one (ps_ret (pe_lst (pa_cons (pe_tup (pa_cons (pe_str (x:="give")) (pa_cons (pv 4) (pa_cons (pv 6) (pa_cons (pe_call (FnOk.mono (ok__law_term T) (by decide)) hr rfl T.m__law_term T.f__law_term.kp T.b__law_term .nil pass10 (pa_cons (pv 0) (pa_cons (pe_int (i:=40)) (pa_cons (pv 1) pa_nil)))) pa_nil))))) pa_nil))))
      pss_nil)
    (pss_cons (ps_if (pt_cmpR op_eq (pv 3) (pe_int (i:=6)) (nomark _)) (pss_one (ps_ret (pe_lst (pa_cons (pe_tup (pa_cons (pe_str (x:="let")) (pa_cons (pv 5) (pa_cons (pe_call (FnOk.mono (ok__law_term T) (by decide)) hr rfl T.m__law_term T.f__law_term.kp T.b__law_term .nil pass10 (pa_cons (pv 0) (pa_cons (pe_int (i:=40)) (pa_cons (pv 1) pa_nil)))) pa_nil)))) pa_nil))))
      pss_nil)
    (pss_one (ps_ret (pe_lst (pa_cons (pe_tup (pa_cons (pe_str (x:="say")) (pa_cons (pe_call (FnOk.mono (ok__law_term T) (by decide)) hr rfl T.m__law_term T.f__law_term.kp T.b__law_term .nil pass10 (pa_cons (pv 0) (pa_cons (pe_int (i:=40)) (pa_cons (pv 1) pa_nil)))) pa_nil))) pa_nil)))))))))))),rdp__law_rows h1 h2 h3 h4 q⟩
theorem ok__law_two (T:Txt K mg t):FnOk P w K mg base (CX1 P w) 1 t.a__law_two t.d__law_two ["one","other","word"] (sp__law_two):=by
  refine T.f__law_two.ok0 sc__law_two (fun vs H Q E h=>?_) (fun cdv A outer s H vs Q E hr h=>?_)
  · obtain ⟨a,b,w,rfl,_⟩:=h;rfl
  obtain ⟨a,b,w,rfl,h1,q⟩:=h
  exact ⟨rd__law_two K t,(pss_cons (ps_if (pt_cmpR op_eq (pv 2) (pe_str (x:="plus")) (nomark _)) (pss_one (ps_ret (pe_op op_add (pv 0) (pv 1))))
      pss_nil)
    (pss_cons (ps_if (pt_cmpR op_eq (pv 2) (pe_str (x:="minus")) (nomark _)) (pss_one (ps_ret (pe_op op_sub (pv 0) (pv 1))))
      pss_nil)
    (pss_cons (ps_if (pt_cmpR op_eq (pv 2) (pe_str (x:="times")) (nomark _)) (pss_one (ps_ret (pe_op op_mulB (pv 0) (pv 1))))
      pss_nil)
    (pss_cons (ps_if (pt_cmpR op_eq (pv 2) (pe_str (x:="over")) (nomark _)) (pss_one (ps_ret (pe_op op_fdivS (pv 0) (pv 1))))
      pss_nil)
    (pss_cons (ps_if (pt_cmpR op_eq (pv 2) (pe_str (x:="rest")) (nomark _)) (pss_one (ps_ret (pe_op op_sub (pv 0) (pe_op op_mulB (pe_op op_fdivS (pv 0) (pv 1)) (pv 1)))))
      pss_nil)
    (pss_cons (ps_if (pt_cmpR op_eq (pv 2) (pe_str (x:="under")) (nomark _)) (pss_one (ps_ret (pe_callTy call_int_bl rfl T.b_int bt_int (pa_cons (pe_cmpR op_lt (pv 0) (pv 1) (nomark _)) pa_nil))))
      pss_nil)
    (pss_one (ps_ret (pe_callTy call_int_bl rfl T.b_int bt_int (pa_cons (pe_cmpR op_eq (pv 0) (pv 1) (nomark _)) pa_nil)))))))))),rdp__law_two h1 q⟩
theorem ok__law_worth (T:Txt K mg t):FnOk P w K mg base (CX1 P w) 2 t.a__law_worth t.d__law_worth ["term","slots"] (sp__law_worth):=by
  refine T.f__law_worth.ok0 sc__law_worth (fun vs H Q E h=>?_) (fun cdv A outer s H vs Q E hr h=>?_)
  · obtain ⟨tm,sl,e,kvs,B,rfl,_⟩:=h;rfl
  obtain ⟨tm,sl,e,kvs,B,rfl,h1,h2,h3,h4,h5,q⟩:=h
  exact ⟨rd__law_worth K t,(pss_cons (ps_set (i:=2) sc__law_worth.nd rfl (Or.inl rfl) (pe_lst pa_nil))
    (pss_cons (ps_for PassesOwn.never rfl (pi_tup (pe_slice sl_tup2 (pv 0) po_none (po_some (pe_int (i:=2))))) (pg_name (i:=3) sc__law_worth.nd rfl (Or.inl rfl)) (pss_one (ps_if (pt_val (pe_callB call_isi rfl T.b_isinstance bt_isinstance (pa_cons (pv 3) (pa_cons (pe_bltn rfl T.b_int bt_int rfl) pa_nil)))) (pss_one (ps_expr (pe_bm PySem.F.plainAttrs_list PySem.F.slot_list_append PySem.F.type_list_append mt_append (pv 2) (pa_cons (pv 3) pa_nil))))
      (pss_one (ps_expr (pe_bm PySem.F.plainAttrs_list PySem.F.slot_list_append PySem.F.type_list_append mt_append (pv 2) (pa_cons (pe_dget2 (hu_of hr) (pv 1) (pv 3) (pe_int (i:=0)) ⟨rfl,rfl,rfl,rfl⟩) pa_nil)))))))
    (pss_cons (ps_if (pt_cmpR op_eq (pe_callB call_len rfl T.b_len bt_len (pa_cons (pv 0) pa_nil)) (pe_int (i:=1)) (nomark _)) (pss_one (ps_ret (pe_ix ix_list (pv 2) (pe_int (i:=0)) (fun _ _=>rfl))))
      pss_nil)
    (pss_one (ps_ret (pe_call (FnOk.mono (ok__law_two T) (by decide)) hr rfl T.m__law_two T.f__law_two.kp T.b__law_two .nil pass10 (pa_cons (pe_ix ix_list (pv 2) (pe_int (i:=0)) (fun _ _=>rfl)) (pa_cons (pe_ix ix_list (pv 2) (pe_int (i:=1)) (fun _ _=>rfl)) (pa_cons (pe_ix ix_tup (pv 0) (pe_int (i:=2)) (fun _ _=>rfl)) pa_nil))))))))),rdp__law_worth (kf K) h1 h2 h3 h4 h5 q⟩
theorem ok__law_wanted (T:Txt K mg t):FnOk P w K mg base (CX1 P w) 3 t.a__law_wanted t.d__law_wanted ["row","state"] (sp__law_wanted):=by
  refine T.f__law_wanted.ok0 sc__law_wanted (fun vs H Q E h=>?_) (fun cdv A outer s H vs Q E hr h=>?_)
  · obtain ⟨v,d,c,a,s,kn,k,rfl,_⟩:=h;rfl
  obtain ⟨v,d,c,a,s,kn,k,rfl,h1,h2,h3,h4,h5,q1,q2⟩:=h
  exact ⟨rd__law_wanted K t,(pss_cons (ps_if (pt_cmpR op_ne (pe_ix ix_tup (pv 0) (pe_int (i:=0)) (fun _ _=>rfl)) (pe_str (x:="take")) (nomark _)) (pss_one (ps_ret pe_non))
      pss_nil)
    (pss_cons (ps_set (i:=2) sc__law_wanted.nd rfl (Or.inl rfl) (pe_tup (pa_cons (pe_ix ix_tup (pv 0) (pe_int (i:=1)) (fun _ _=>rfl)) (pa_cons (pe_call (FnOk.mono (ok__law_worth T) (by decide)) hr rfl T.m__law_worth T.f__law_worth.kp T.b__law_worth .nil pass10 (pa_cons (pe_ix ix_tup (pv 0) (pe_int (i:=2)) (fun _ _=>rfl)) (pa_cons (pe_dget (hu_of hr) (pv 1) (pe_str (x:="slots")) (fun _ _=>rfl)) pa_nil))) pa_nil))))
    (pss_cons (ps_if (pt_cmpR (op_in_d (hu_of hr)) (pv 2) (pe_dget (hu_of hr) (pv 1) (pe_str (x:="known")) (fun _ _=>rfl)) (by with_unfolding_all rfl)) (pss_one (ps_ret pe_non))
      pss_nil)
    (pss_one (ps_ret (pv 2)))))),rdp__law_wanted h1 h2 h3 h4 h5 q1 q2⟩
theorem ok__law_stepped (T:Txt K mg t):FnOk P w K mg base (CX1 P w) 3 t.a__law_stepped t.d__law_stepped ["row","state","answer"] (sp__law_stepped):=by
  refine T.f__law_stepped.ok0 sc__law_stepped (fun vs H Q E h=>?_) (fun cdv A outer s H vs Q E hr h=>?_)
  · obtain ⟨v,d,w,c,a,s,kn,k,rfl,_⟩:=h;rfl
  obtain ⟨v,d,w,c,a,s,kn,k,rfl,h1,h2,h3,h4,h5,q⟩:=h
  exact ⟨rd__law_stepped K t,(pss_cons (ps_set (i:=3) sc__law_stepped.nd rfl (Or.inl rfl) (pe_dget (hu_of hr) (pv 1) (pe_str (x:="slots")) (fun _ _=>rfl)))
    (pss_one (ps_if (pt_cmpR op_eq (pe_ix ix_tup (pv 0) (pe_int (i:=0)) (fun _ _=>rfl)) (pe_str (x:="say")) (nomark _)) (pss_one (ps_expr (pe_bm PySem.F.plainAttrs_list PySem.F.slot_list_append PySem.F.type_list_append mt_append (pe_dget (hu_of hr) (pv 1) (pe_str (x:="said")) (fun _ _=>rfl)) (pa_cons (pe_call (FnOk.mono (ok__law_worth T) (by decide)) hr rfl T.m__law_worth T.f__law_worth.kp T.b__law_worth .nil pass10 (pa_cons (pe_ix ix_tup (pv 0) (pe_int (i:=1)) (fun _ _=>rfl)) (pa_cons (pv 3) pa_nil))) pa_nil))))
      (pss_one (ps_if (pt_cmpR op_eq (pe_ix ix_tup (pv 0) (pe_int (i:=0)) (fun _ _=>rfl)) (pe_str (x:="let")) (nomark _)) (pss_one (ps_dput (hu_of hr) (pv 3) (pe_ix ix_tup (pv 0) (pe_int (i:=1)) (fun _ _=>rfl)) (pe_call (FnOk.mono (ok__law_worth T) (by decide)) hr rfl T.m__law_worth T.f__law_worth.kp T.b__law_worth .nil pass10 (pa_cons (pe_ix ix_tup (pv 0) (pe_int (i:=2)) (fun _ _=>rfl)) (pa_cons (pv 3) pa_nil))) rfl))
      (pss_cons (ps_set (i:=4) sc__law_stepped.nd rfl (Or.inl rfl) (pe_tup (pa_cons (pe_ix ix_tup (pv 0) (pe_int (i:=1)) (fun _ _=>rfl)) (pa_cons (pe_call (FnOk.mono (ok__law_worth T) (by decide)) hr rfl T.m__law_worth T.f__law_worth.kp T.b__law_worth .nil pass10 (pa_cons (pe_ix ix_tup (pv 0) (pe_int (i:=2)) (fun _ _=>rfl)) (pa_cons (pv 3) pa_nil))) pa_nil))))
    (pss_one (ps_if (pt_cmpR op_eq (pe_ix ix_tup (pv 0) (pe_int (i:=0)) (fun _ _=>rfl)) (pe_str (x:="give")) (nomark _)) (pss_cons (ps_dput (hu_of hr) (pe_dget (hu_of hr) (pv 1) (pe_str (x:="given")) (fun _ _=>rfl)) (pv 4) (pe_call (FnOk.mono (ok__law_worth T) (by decide)) hr rfl T.m__law_worth T.f__law_worth.kp T.b__law_worth .nil pass10 (pa_cons (pe_ix ix_tup (pv 0) (pe_int (i:=3)) (fun _ _=>rfl)) (pa_cons (pv 3) pa_nil))) rfl)
    (pss_one (ps_dput (hu_of hr) (pe_dget (hu_of hr) (pv 1) (pe_str (x:="known")) (fun _ _=>rfl)) (pv 4) (pe_dget (hu_of hr) (pe_dget (hu_of hr) (pv 1) (pe_str (x:="given")) (fun _ _=>rfl)) (pv 4) (fun _ _=>rfl)) rfl)))
      (pss_cons (ps_if (pt_cmpR (op_notin_d (hu_of hr)) (pv 4) (pe_dget (hu_of hr) (pv 1) (pe_str (x:="known")) (fun _ _=>rfl)) (by with_unfolding_all rfl)) (pss_cons (ps_dput (hu_of hr) (pe_dget (hu_of hr) (pv 1) (pe_str (x:="known")) (fun _ _=>rfl)) (pv 4) (pv 2) rfl)
    (pss_one (ps_expr (pe_bm PySem.F.plainAttrs_list PySem.F.slot_list_append PySem.F.type_list_append mt_append (pe_dget (hu_of hr) (pv 1) (pe_str (x:="notes")) (fun _ _=>rfl)) (pa_cons (pe_tup (pa_cons (pv 4) (pa_cons (pv 2) pa_nil))) pa_nil)))))
      pss_nil)
    (pss_one (ps_dput (hu_of hr) (pv 3) (pe_ix ix_tup (pv 0) (pe_int (i:=3)) (fun _ _=>rfl)) (pe_dget (hu_of hr) (pe_dget (hu_of hr) (pv 1) (pe_str (x:="known")) (fun _ _=>rfl)) (pv 4) (fun _ _=>rfl)) rfl))))))))))),rdp__law_stepped h1 h2 h3 h4 h5 q⟩
theorem ok_Run_taken (T:Txt K mg t):FnOk P w K mg base (CX1 P w) 1 t.a_Run_taken t.d_Run_taken ["self","place","worth"] (sp_Run_taken t):=by
  refine T.f_Run_taken.ok0 sc_Run_taken (fun vs H Q E h=>?_) (fun cdv A outer s H vs Q E hr h=>?_)
  · obtain ⟨x,q,p,w,a,C,s,rfl,_⟩:=h;rfl
  obtain ⟨x,q,p,w,a,C,s,rfl,h1,h2,h3,q⟩:=h
  exact ⟨rd_Run_taken K t,(pss_cons (ps_if (pt_cmpR (op_in_d (hu_of hr)) (pv 1) (pe_fld (f:="gifts") (pv 0) rfl) (by with_unfolding_all rfl)) (pss_one (ps_ret (pe_dget (hu_of hr) (pe_fld (f:="gifts") (pv 0) rfl) (pv 1) (fun _ _=>rfl))))
      pss_nil)
    (pss_cons (ps_if (pt_cmpR (op_notin_d (hu_of hr)) (pv 1) (pe_fld (f:="notes") (pv 0) rfl) (by with_unfolding_all rfl)) (pss_one (ps_dput (hu_of hr) (pe_fld (f:="notes") (pv 0) rfl) (pv 1) (pv 2) rfl))
      pss_nil)
    (pss_one (ps_ret (pe_dget (hu_of hr) (pe_fld (f:="notes") (pv 0) rfl) (pv 1) (fun _ _=>rfl)))))),rdp_Run_taken (rnF T) h1 h2 h3 q⟩
theorem ok_Run_does (T:Txt K mg t):FnOk P w K mg base (CX1 P w) 7 t.a_Run_does t.d_Run_does ["self","due","worth"] (sp_Run_does t):=by
  refine T.f_Run_does.ok1 sc_Run_does (fun vs H Q E h=>?_) (fun cdv A outer s H vs Q E hr h=>?_)
  · obtain ⟨x,v,r,w,m,a,C,s,rfl,_⟩:=h;rfl
  obtain ⟨x,v,r,w,m,a,C,s,rfl,h1,h2,h3,h4,h5,h6,q1,q2⟩:=h
  exact ⟨rd_Run_does K t E,(pss_one (ps_if (pt_cmpR op_eq (pe_ix ix_tup (pv 1) (pe_int (i:=0)) (fun _ _=>rfl)) (pe_str (x:="take")) (nomark _)) (pss_one (ps_dput (hu_of hr) (pe_fld (f:="slots") (pv 0) rfl) (pe_ix ix_tup (pv 1) (pe_int (i:=3)) (fun _ _=>rfl)) (pe_meth (pv 0) T.cl_Run T.me_Run_taken (FnOk.mono (ok_Run_taken T) (by decide)) hr T.b_Run_taken .nil pass1 (pa_cons (pe_meth (pv 0) T.cl_Run T.me_Run_place_in (FnOk.mono (ok_Run_place_in T) (by decide)) hr T.b_Run_place_in .nil pass1 (pa_cons (pv 1) pa_nil)) (pa_cons (pv 2) pa_nil))) rfl))
      (pss_one (ps_if (pt_cmpR op_eq (pe_ix ix_tup (pv 1) (pe_int (i:=0)) (fun _ _=>rfl)) (pe_str (x:="give")) (nomark _)) (pss_cons (ps_set (i:=3) sc_Run_does.nd rfl (Or.inl rfl) (pe_meth (pv 0) T.cl_Run T.me_Run_place_in (FnOk.mono (ok_Run_place_in T) (by decide)) hr T.b_Run_place_in .nil pass1 (pa_cons (pv 1) pa_nil)))
    (pss_one (ps_dput (hu_of hr) (pe_fld (f:="gifts") (pv 0) rfl) (pv 3) (pe_meth (pv 0) T.cl_Run T.me_Run_worth_of (FnOk.mono (ok_Run_worth_of T) (by decide)) hr T.b_Run_worth_of .nil pass1 (pa_cons (pe_ix ix_tup (pv 1) (pe_int (i:=3)) (fun _ _=>rfl)) pa_nil)) rfl)))
      (pss_one (ps_if (pt_cmpR op_eq (pe_ix ix_tup (pv 1) (pe_int (i:=0)) (fun _ _=>rfl)) (pe_str (x:="let")) (nomark _)) (pss_one (ps_dput (hu_of hr) (pe_fld (f:="slots") (pv 0) rfl) (pe_ix ix_tup (pv 1) (pe_int (i:=1)) (fun _ _=>rfl)) (pe_meth (pv 0) T.cl_Run T.me_Run_worth_of (FnOk.mono (ok_Run_worth_of T) (by decide)) hr T.b_Run_worth_of .nil pass1 (pa_cons (pe_ix ix_tup (pv 1) (pe_int (i:=2)) (fun _ _=>rfl)) pa_nil)) rfl))
      (pss_one (ps_expr (pe_bm PySem.F.plainAttrs_list PySem.F.slot_list_append PySem.F.type_list_append mt_append (pe_fld (f:="sayings") (pv 0) rfl) (pa_cons (pe_meth (pv 0) T.cl_Run T.me_Run_worth_of (FnOk.mono (ok_Run_worth_of T) (by decide)) hr T.b_Run_worth_of .nil pass1 (pa_cons (pe_ix ix_tup (pv 1) (pe_int (i:=1)) (fun _ _=>rfl)) pa_nil)) pa_nil)))))))))),rdp_Run_does (rnF T) h1 h2 h3 h4 h5 h6 q1 q2⟩
theorem ok_Run_led_by (T:Txt K mg t):FnOk P w K mg base (CX1 P w) 8 t.a_Run_led_by t.d_Run_led_by ["self","due","worth"] (sp_Run_led_by t):=by
  refine T.f_Run_led_by.ok1 sc_Run_led_by (fun vs H Q E h=>?_) (fun cdv A outer s H vs Q E hr h=>?_)
  · obtain ⟨x,v,c,w,m,a,C,s,rfl,_⟩:=h;rfl
  obtain ⟨x,v,c,w,m,a,C,s,rfl,h1,h2,h3,h4,h5,q1,q2⟩:=h
  exact ⟨rd_Run_led_by K t E,(pss_cons (ps_if (pt_cmpR op_eq (pe_ix ix_tup (pv 1) (pe_int (i:=0)) (fun _ _=>rfl)) (pe_str (x:="go")) (nomark _)) (pss_one (ps_ret (pe_ix ix_tup (pv 1) (pe_int (i:=1)) (fun _ _=>rfl))))
      pss_nil)
    (pss_cons (ps_if (pt_cmpR op_eq (pe_ix ix_tup (pv 1) (pe_int (i:=0)) (fun _ _=>rfl)) (pe_str (x:="skip")) (nomark _)) (pss_one (ps_ret (pe_ifExp (pt_cmpR op_eq (pe_meth (pv 0) T.cl_Run T.me_Run_worth_of (FnOk.mono (ok_Run_worth_of T) (by decide)) hr T.b_Run_worth_of .nil pass1 (pa_cons (pe_ix ix_tup (pv 1) (pe_int (i:=1)) (fun _ _=>rfl)) pa_nil)) (pe_int (i:=0)) (nomark _)) (pe_ix ix_tup (pv 1) (pe_int (i:=2)) (fun _ _=>rfl)) (pe_op op_add (pe_fld (f:="at") (pv 0) rfl) (pe_int (i:=1))))))
      pss_nil)
    (pss_cons (ps_if (pt_cmpR op_eq (pe_ix ix_tup (pv 1) (pe_int (i:=0)) (fun _ _=>rfl)) (pe_str (x:="off")) (nomark _)) (pss_one (ps_if (pt_cmpR op_ne (pe_meth (pv 0) T.cl_Run T.me_Run_worth_of (FnOk.mono (ok_Run_worth_of T) (by decide)) hr T.b_Run_worth_of .nil pass1 (pa_cons (pe_ix ix_tup (pv 1) (pe_int (i:=1)) (fun _ _=>rfl)) pa_nil)) (pe_int (i:=0)) (nomark _)) (pss_one (ps_fld (f:="why") (pv 0) (pe_str (x:="told")) rfl))
      pss_nil))
      (pss_one (ps_expr (pe_meth (pv 0) T.cl_Run T.me_Run_does (FnOk.mono (ok_Run_does T) (by decide)) hr T.b_Run_does .nil pass1 (pa_cons (pv 1) (pa_cons (pv 2) pa_nil))))))
    (pss_one (ps_ret (pe_op op_add (pe_fld (f:="at") (pv 0) rfl) (pe_int (i:=1)))))))),rdp_Run_led_by (rnF T) h1 h2 h3 h4 h5 q1 q2⟩
theorem ok_Run_step (T:Txt K mg t):FnOk P w K mg base (CX1 P w) 9 t.a_Run_step t.d_Run_step ["self","worth"] (sp_Run_step t):=by
  refine T.f_Run_step.ok0 sc_Run_step (fun vs H Q E h=>?_) (fun cdv A outer s H vs Q E hr h=>?_)
  · obtain ⟨x,w,m,a,C,s,rfl,_⟩:=h;rfl
  obtain ⟨x,w,m,a,C,s,rfl,h1,h2,h3,h4,q⟩:=h
  exact ⟨rd_Run_step K t,(pss_cons (ps_if (pt_val (pe_meth0 (pv 0) T.cl_Run T.me_Run_over (FnOk.mono (ok_Run_over T) (by decide)) hr T.b_Run_over .nil pass10)) (pss_one ps_retN)
      pss_nil)
    (pss_one (ps_tryNN (And.intro rfl rfl) rfl (psx_fld (f:="at") (pv 0) (pex_meth (pv 0) T.cl_Run T.me_Run_led_by (FnOk.mono (ok_Run_led_by T) (by decide)) hr T.b_Run_led_by (pa_cons (pe_ix ix_list (pe_fld (f:="code") (pv 0) rfl) (pe_fld (f:="at") (pv 0) rfl) (fun _ _=>rfl)) (pa_cons (pv 1) pa_nil))) rfl) rfl T.g_Great rfl T.g_Nought (fun _=>(pss_one (ps_fld (f:="why") (pv 0) (pe_str (x:="great")) rfl))) (fun _=>(pss_one (ps_fld (f:="why") (pv 0) (pe_str (x:="nought")) rfl)))))),rdp_Run_step T h1 h2 h3 h4 q⟩
theorem ok__law_one_step (T:Txt K mg t):FnOk P w K mg base (CX1 P w) 10 t.a__law_one_step t.d__law_one_step ["run","row","state","answer"] (sp__law_one_step t):=by
  refine T.f__law_one_step.ok0 sc__law_one_step (fun vs H Q E h=>?_) (fun cdv A outer s H vs Q E hr h=>?_)
  · obtain ⟨x,v,d,w,a,C,b,s,kn,k,c,rfl,_⟩:=h;rfl
  obtain ⟨x,v,d,w,a,C,b,s,kn,k,c,rfl,h1,h2,h3,h4,h5,h6,h7,h8,h9,q⟩:=h
  exact ⟨rd__law_one_step K t,(pss_cons (ps_set (i:=4) sc__law_one_step.nd rfl (Or.inl rfl) (pe_call (FnOk.mono (ok__law_wanted T) (by decide)) hr rfl T.m__law_wanted T.f__law_wanted.kp T.b__law_wanted .nil pass10 (pa_cons (pv 1) (pa_cons (pv 2) pa_nil))))
    (pss_cons (ps_if (PW.pt (pw_or (pt_cmpR op_isnot_bl (pe_meth0 (pv 0) T.cl_Run T.me_Run_over (FnOk.mono (ok_Run_over T) (by decide)) hr T.b_Run_over .nil pass10) (pe_bl (b:=false)) (nomark _)) (pw_or (pt_cmpR (op_neAll (hu64 hr)) (pe_meth0 (pv 0) T.cl_Run T.me_Run_asks (FnOk.mono (ok_Run_asks T) (by decide)) hr T.b_Run_asks .nil pass10) (pv 4) (nomark _)) (pw_or1 (pt_cmpR op_notN (pe_meth0 (pv 0) T.cl_Run T.me_Run_paper (FnOk.mono (ok_Run_paper T) (by decide)) hr T.b_Run_paper .nil pass10) pe_non (nomark _)))))) (pss_one (ps_ret (pe_bl (b:=false))))
      pss_nil)
    (pss_cons (ps_if (pt_cmpR op_notN (pe_meth (pv 0) T.cl_Run T.me_Run_step (FnOk.mono (ok_Run_step T) (by decide)) hr T.b_Run_step .nil pass10 (pa_cons (pv 3) pa_nil)) pe_non (nomark _)) (pss_one (ps_ret (pe_bl (b:=false))))
      pss_nil)
    (pss_cons (ps_expr (pe_call (FnOk.mono (ok__law_stepped T) (by decide)) hr rfl T.m__law_stepped T.f__law_stepped.kp T.b__law_stepped .nil pass10 (pa_cons (pv 1) (pa_cons (pv 2) (pa_cons (pv 3) pa_nil)))))
    (pss_one (ps_ret (pe_bl (b:=true)))))))),rdp__law_one_step h1 h2 h3 h4 h5 h6 h7 h8 h9 q⟩
theorem ok_law (T:Txt K mg t):FnOk P w K mg base (CX1 P w) 11 t.a_law t.d_law ["script"] (sp_law K):=by
  refine T.f_law.ok0 sc_law (fun vs H Q E h=>?_) (fun cdv A outer s H vs Q E hr h=>?_)
  · obtain ⟨a,ns,rfl,_⟩:=h;rfl
  obtain ⟨a,ns,rfl,hS,hn,q⟩:=h
  exact ⟨rd_law K t,(pss_cons (ps_set (i:=1) sc_law.nd rfl (Or.inl rfl) (pe_call (FnOk.mono (ok__law_names T) (by decide)) hr rfl T.m__law_names T.f__law_names.kp T.b__law_names .nil pass10 (pa_cons (pe_call (FnOk.mono (ok__law_cell_at T) (by decide)) hr rfl T.m__law_cell_at T.f__law_cell_at.kp T.b__law_cell_at .nil pass10 (pa_cons (pv 0) (pa_cons (pe_int (i:=0)) pa_nil))) (pa_cons (pe_int (i:=3)) pa_nil))))
    (pss_cons (ps_set (i:=2) sc_law.nd rfl (Or.inl rfl) (pe_call (FnOk.mono (ok__law_names T) (by decide)) hr rfl T.m__law_names T.f__law_names.kp T.b__law_names .nil pass10 (pa_cons (pe_call (FnOk.mono (ok__law_cell_at T) (by decide)) hr rfl T.m__law_cell_at T.f__law_cell_at.kp T.b__law_cell_at .nil pass10 (pa_cons (pv 0) (pa_cons (pe_int (i:=1)) pa_nil))) (pa_cons (pe_int (i:=2)) pa_nil))))
    (pss_cons (ps_set (i:=3) sc_law.nd rfl (Or.inl rfl) (pe_lst pa_nil))
    (pss_cons (ps_for PassesOwn.never rfl (pi_list (pe_slice sl_list (pv 0) (po_some (pe_int (i:=2))) (po_some (pe_int (i:=22))))) (pg_name (i:=4) sc_law.nd rfl (Or.inl rfl)) (pss_one (ps_set (i:=3) sc_law.nd rfl (Or.inl rfl) (pe_op op_cat (pv 3) (pe_call (FnOk.mono (ok__law_rows T) (by decide)) hr rfl T.m__law_rows T.f__law_rows.kp T.b__law_rows .nil pass10 (pa_cons (pv 4) (pa_cons (pv 1) (pa_cons (pv 2) pa_nil))))))))
    (pss_cons (ps_set (i:=5) sc_law.nd rfl (Or.inl rfl) (pe_callTy call_list_of rfl T.b_list bt_list (pa_cons (pv 3) pa_nil)))
    (pss_cons (ps_set (i:=6) sc_law.nd rfl (Or.inl rfl) (pe_make T.mk_Run (FnOk.mono (ok_Run_init T) (by decide)) hr rfl T.g_Run T.b_Run_init .nil pass10 (pa_cons (pv 5) pa_nil)))
    (pss_cons (ps_set (i:=7) sc_law.nd rfl (Or.inl rfl) (pe_make T.mk_Run (FnOk.mono (ok_Run_init T) (by decide)) hr rfl T.g_Run T.b_Run_init .nil pass10 (pa_cons (pv 5) pa_nil)))
    (pss_cons (ps_set (i:=8) sc_law.nd rfl (Or.inl rfl) (pe_call0 (FnOk.mono (ok__law_begun T) (by decide)) hr rfl T.m__law_begun T.f__law_begun.kp T.b__law_begun .nil pass10))
    (pss_cons (ps_set (i:=9) sc_law.nd rfl (Or.inl rfl) (pe_call0 (FnOk.mono (ok__law_begun T) (by decide)) hr rfl T.m__law_begun T.f__law_begun.kp T.b__law_begun .nil pass10))
    (pss_cons (ps_for PassesOwn.never rfl (pi_range1 rfl T.b_range (pa_cons (pe_callB call_len rfl T.b_len bt_len (pa_cons (pv 3) pa_nil)) pa_nil)) (pg_name (i:=10) sc_law.nd rfl (Or.inl rfl)) (pss_cons (ps_set (i:=11) sc_law.nd rfl (Or.inl rfl) (pe_call (FnOk.mono (ok__law_number T) (by decide)) hr rfl T.m__law_number T.f__law_number.kp T.b__law_number .nil pass10 (pa_cons (pe_op op_add (pe_call (FnOk.mono (ok__law_cell_at T) (by decide)) hr rfl T.m__law_cell_at T.f__law_cell_at.kp T.b__law_cell_at .nil pass10 (pa_cons (pv 0) (pa_cons (pv 10) pa_nil))) (pv 10)) (pa_cons (pe_int (i:=70)) pa_nil))))
    (pss_one (ps_if (PW.pt (pw_or (pt_not (pt_val (pe_call (FnOk.mono (ok__law_one_step T) (by decide)) hr rfl T.m__law_one_step T.f__law_one_step.kp T.b__law_one_step .nil pass10 (pa_cons (pv 6) (pa_cons (pe_ix ix_list (pv 3) (pv 10) (fun _ _=>rfl)) (pa_cons (pv 8) (pa_cons (pv 11) pa_nil))))))) (pw_or1 (pt_not (pt_val (pe_call (FnOk.mono (ok__law_one_step T) (by decide)) hr rfl T.m__law_one_step T.f__law_one_step.kp T.b__law_one_step .nil pass10 (pa_cons (pv 7) (pa_cons (pe_ix ix_list (pv 3) (pv 10) (fun _ _=>rfl)) (pa_cons (pv 9) (pa_cons (pe_int (i:=0)) pa_nil)))))))))) (pss_one (ps_ret (pe_bl (b:=false))))
      pss_nil))))
    (pss_one (ps_ret (pe_and (pe_cmpR (op_eqAll (hu64 hr)) (pv 5) (pv 3) (nomark _)) (pe_and (pe_call (FnOk.mono (ok__law_paper T) (by decide)) hr rfl T.m__law_paper T.f__law_paper.kp T.b__law_paper .nil pass10 (pa_cons (pv 6) (pa_cons (pv 8) pa_nil))) (pe_one (pe_call (FnOk.mono (ok__law_paper T) (by decide)) hr rfl T.m__law_paper T.f__law_paper.kp T.b__law_paper .nil pass10 (pa_cons (pv 7) (pa_cons (pv 9) pa_nil)))))))))))))))))),rdp_law hS hn q⟩
end
end K20
open PySem PySem.W PyProof.Rows
def PySem.W.Fast.tw12594415590229223103:Unit:=()
def PySem.W.Fast.tw13194885093464681756:Unit:=()
def PySem.W.Fast.tw2118123265692955523:Unit:=()
def PySem.W.Fast.tw465706393601501210:Unit:=()
def PySem.W.Fast.tw2193273930853680692:Unit:=()
def PySem.W.Fast.tw4213306880461289254:Unit:=()
def PySem.W.Fast.tw2340388617413536362:Unit:=()
def PySem.W.Fast.tw6838532803079332552:Unit:=()
def PySem.W.Fast.tw8155504925199241079:Unit:=()
def PySem.W.Fast.tw11571998131351414624:Unit:=()
def PySem.W.Fast.tw5586135531461369662:Unit:=()
def PySem.W.Fast.tw4994783976259698482:Unit:=()
def PySem.W.Fast.tw16189775989607138623:Unit:=()
def PySem.W.Fast.tw16635053733816229052:Unit:=()
def PySem.W.Fast.tw13459792292427292950:Unit:=()
def PySem.W.Fast.tw12902086497630677182:Unit:=()
def PySem.W.Fast.tw13469234683876255017:Unit:=()
def PySem.W.Fast.tw6286441573910288056:Unit:=()
def PySem.W.Fast.tw8205178135705374164:Unit:=()
def PySem.W.Fast.tw17525307587997281546:Unit:=()
def PySem.W.Fast.tw17227429921834466090:Unit:=()
def PySem.W.Fast.tw5500232881087833557:Unit:=()
def PySem.W.Fast.tw11764133259669544848:Unit:=()
def PySem.W.Fast.tw10920139247623673550:Unit:=()
def PySem.W.Fast.tw12000895199602490410:Unit:=()
def PySem.W.Fast.tw9474490332900757160:Unit:=()
def PySem.W.Fast.tw15632390791776198622:Unit:=()
def PySem.W.Fast.tw7262270223150895496:Unit:=()
def PySem.W.Fast.tw7197721370120106920:Unit:=()
def PySem.W.Fast.tw11596174993600772752:Unit:=()
def PySem.W.Fast.tw4397855250478326185:Unit:=()
def PySem.W.Fast.tw7779536665048306958:Unit:=()
def PySem.W.Fast.tw2045636844664347703:Unit:=()
def PySem.W.Fast.tw6962230930159868495:Unit:=()
def PySem.W.Fast.tw2576172761877905039:Unit:=()
def PySem.W.Fast.tw11967791865624273679:Unit:=()
def PySem.W.Fast.tw12085174161892847891:Unit:=()
def PySem.W.Fast.tw17940403358060558971:Unit:=()
def PySem.W.Fast.tw17798375474728809840:Unit:=()
def PySem.W.Fast.tw1183233208025302032:Unit:=()
def PySem.W.Fast.tw18079725259599382409:Unit:=()
def PySem.W.Fast.tw11234357166052958004:Unit:=()
def PySem.W.Fast.tw13327095027762636932:Unit:=()
def PySem.W.Fast.tw17073250058609575554:Unit:=()
def PySem.W.Fast.tw9895435339262521647:Unit:=()
def PySem.W.Fast.tw1242060313370436728:Unit:=()
def PySem.W.Fast.tw13118156017305504996:Unit:=()
def PySem.W.Fast.tw6802967611172403112:Unit:=()
def PySem.W.Fast.tw3319029417532335580:Unit:=()
def PySem.W.Fast.tw13393955901116378656:Unit:=()
def PySem.W.Fast.tw14375793464510357267:Unit:=()
def PySem.W.Fast.tw12669530352980946236:Unit:=()
def PySem.W.Fast.tw14827461454463737928:Unit:=()
def PySem.W.Fast.tw12490850124049486723:Unit:=()
def PySem.W.Fast.tw12394957331590909911:Unit:=()
def PySem.W.Fast.tw4641251723343879451:Unit:=()
def PySem.W.Fast.tw12214961904409675394:Unit:=()
def PySem.W.Fast.tw7641538516306107247:Unit:=()
def PySem.W.Fast.tw1065389767680338622:Unit:=()
def PySem.W.Fast.tw8980834247183972362:Unit:=()
def PySem.W.Fast.tw18288064310206285784:Unit:=()
def PySem.W.Fast.tw17754250797366707113:Unit:=()
def PySem.W.Fast.tw13468375324778381615:Unit:=()
def PySem.W.Fast.tw3792207117697531259:Unit:=()
def PySem.W.Fast.tw10948768551121042783:Unit:=()
def PySem.W.Fast.tw8483674125650751562:Unit:=()
def PySem.W.Fast.tw885678559127091269:Unit:=()
def PySem.W.Fast.tw15887592612788572723:Unit:=()
def PySem.W.Fast.tw253317211801593444:Unit:=()
def PySem.W.Fast.tw6966156116305665962:Unit:=()
def PySem.W.Fast.tw9734681802027203627:Unit:=()
def PySem.W.Fast.tw6749672607612048271:Unit:=()
def PySem.W.Fast.tw13150663186930510307:Unit:=()
def PySem.W.Fast.tw8750577304472213219:Unit:=()
def PySem.W.Fast.tw17041263075887813854:Unit:=()
def PySem.W.Fast.tw4815870830483553649:Unit:=()
def PySem.W.Fast.tw3214386322757710973:Unit:=()
def PySem.W.Fast.tw8557356150228689280:Unit:=()
def PySem.W.Fast.tw14883800510201466302:Unit:=()
def PySem.W.Fast.tw16815378329153090547:Unit:=()
def PySem.W.Fast.tw14537320571909038446:Unit:=()
def PySem.W.Fast.tw18172509543932723712:Unit:=()
def PySem.W.Fast.tw3087526751375685136:Unit:=()
def PySem.W.Fast.tw7859435022579907447:Unit:=()
def PySem.W.Fast.tw10725285788767904739:Unit:=()
def PySem.W.Fast.tw14082013216652941760:Unit:=()
def PySem.W.Fast.tw12515571622696061883:Unit:=()
def PySem.W.Fast.tw6201549679822223569:Unit:=()
def PySem.W.Fast.tw9142162080734314075:Unit:=()
def PySem.W.Fast.tw10389470802736598197:Unit:=()
def PySem.W.Fast.tw11137101442496643218:Unit:=()
def PySem.W.Fast.tw5926375623328607891:Unit:=()
def PySem.W.Fast.tw4470948326815243809:Unit:=()
def PySem.W.Fast.tw12697862996876967975:Unit:=()
def PySem.W.Fast.tw16271115122509801523:Unit:=()
def PySem.W.Fast.tw11444139343392935926:Unit:=()
def PySem.W.Fast.tw4882653646518201915:Unit:=()
def PySem.W.Fast.tw1633518316755175396:Unit:=()
def PySem.W.Fast.tw12414208377178283524:Unit:=()
def PySem.W.Fast.tw12164658465036833233:Unit:=()
def PySem.W.Fast.tw6456320509595933110:Unit:=()
def PySem.W.Fast.tw16464882504939644538:Unit:=()
def PySem.W.Fast.tw10909431693082342548:Unit:=()
def PySem.W.Fast.tw2831100597971954638:Unit:=()
def PySem.W.Fast.tw14609109363793479547:Unit:=()
def PySem.W.Fast.tw13325164330488819730:Unit:=()
def PySem.W.Fast.tw9086536791226594430:Unit:=()
def PySem.W.Fast.tw4777052971468916941:Unit:=()
def PySem.W.Fast.tw9860850399366487595:Unit:=()
def PySem.W.Fast.tw4277832006597294452:Unit:=()
def PySem.W.Fast.tw3176854049916277514:Unit:=()
def PySem.W.Fast.tw17541778704452432018:Unit:=()
def PySem.W.Fast.tw16620788344525931764:Unit:=()
def PySem.W.Fast.tw14113632021198881287:Unit:=()
def PySem.W.Fast.tw13074898735769353988:Unit:=()
def PySem.W.Fast.tw14050772092539577056:Unit:=()
def PySem.W.Fast.tw4830185358012446070:Unit:=()
def PySem.W.Fast.tw5269301806002416263:Unit:=()
def PySem.W.Fast.tw16187114456568659378:Unit:=()
def PySem.W.Fast.tw7404515170401572479:Unit:=()
def PySem.W.Fast.tw3893567757998046027:Unit:=()
def PySem.W.Fast.tw15430834493052483376:Unit:=()
def PySem.W.Fast.tw4838796539912090863:Unit:=()
def PySem.W.Fast.tw17941037652140981130:Unit:=()
def PySem.W.Fast.tw3405826776618314878:Unit:=()
def PySem.W.Fast.tw8082049522969372426:Unit:=()
def PySem.W.Fast.tw1588484052792815402:Unit:=()
def PySem.W.Fast.tw3038867475133880254:Unit:=()
def PySem.W.Fast.tw6546580390526209982:Unit:=()
def PySem.W.Fast.tw8236068112960869392:Unit:=()
def PySem.W.Fast.tw7486285113040218660:Unit:=()
def PySem.W.Fast.tw13217153408238803995:Unit:=()
def PySem.W.Fast.tw3201155665149490090:Unit:=()
def PySem.W.Fast.tw14196569670078982353:Unit:=()
def PySem.W.Fast.tw14328576400708393885:Unit:=()
def PySem.W.Fast.tw17365546682690864586:Unit:=()
def PySem.W.Fast.tw16500012038609106913:Unit:=()
def PySem.W.Fast.tw3636824246016353083:Unit:=()
def PySem.W.Fast.tw1704894221953865259:Unit:=()
def PySem.W.Fast.tw8591010006367697667:Unit:=()
def PySem.W.Fast.tw1370318094212494046:Unit:=()
def PySem.W.Fast.tw12829552732586183960:Unit:=()
def PySem.W.Fast.tw13222518862132097959:Unit:=()
def PySem.W.Fast.tw7170085079613660927:Unit:=()
def PySem.W.Fast.tw10223355638859991320:Unit:=()
def PySem.W.Fast.tw1356380131727904706:Unit:=()
def PySem.W.Fast.tw1655465177716649123:Unit:=()
def PySem.W.Fast.tw5407184996474467080:Unit:=()
def PySem.W.Fast.tw16902328742153491266:Unit:=()
def PySem.W.Fast.tw10026070513377490973:Unit:=()
def PySem.W.Fast.tw13211422027468612148:Unit:=()
def PySem.W.Fast.tw4075724548061449225:Unit:=()
def PySem.W.Fast.tw2568579058276428589:Unit:=()
def PySem.W.Fast.tw7390807959646790921:Unit:=()
def PySem.W.Fast.tw985035898373278780:Unit:=()
def PySem.W.Fast.tw10517111838795283157:Unit:=()
def PySem.W.Fast.tw6724878131039699658:Unit:=()
def PySem.W.Fast.tw12254721684337364405:Unit:=()
def PySem.W.Fast.tw8242270770106490693:Unit:=()
def PySem.W.Fast.tw4895490557676463032:Unit:=()
def PySem.W.Fast.tw2157809215013933935:Unit:=()
def PySem.W.Fast.tw9300157832945276207:Unit:=()
def PySem.W.Fast.tw9923041941352940535:Unit:=()
def PySem.W.Fast.tw7028551615203066540:Unit:=()
def PySem.W.Fast.tw7688847755354134285:Unit:=()
def PySem.W.Fast.tw7489173131538858373:Unit:=()
def PySem.W.Fast.tw12874730027565371283:Unit:=()
def PySem.W.Fast.tw6723392118249487654:Unit:=()
def PySem.W.Fast.tw14186095873747761041:Unit:=()
def PySem.W.Fast.tw378054741891028309:Unit:=()
def PySem.W.Fast.tw1413026178622738303:Unit:=()
def PySem.W.Fast.tw5895071485399739824:Unit:=()
def PySem.W.Fast.tw10233654178112755486:Unit:=()
def PySem.W.Fast.tw3268812293153244901:Unit:=()
def PySem.W.Fast.tw13581851688710671074:Unit:=()
def PySem.W.Fast.tw5255484602172809853:Unit:=()
def PySem.W.Fast.tw12703884895148121450:Unit:=()
def PySem.W.Fast.tw8847918332432791637:Unit:=()
def PySem.W.Fast.tw14255298638303554098:Unit:=()
def PySem.W.Fast.tw9196540769475565759:Unit:=()
def PySem.W.Fast.tw6446840854640638453:Unit:=()
def PySem.W.Fast.tw8986154953601406630:Unit:=()
def PySem.W.Fast.tw3241521257806163722:Unit:=()
def PySem.W.Fast.tw4008754103727381777:Unit:=()
def PySem.W.Fast.tw6006524857605257135:Unit:=()
def PySem.W.Fast.tw17401684542415765754:Unit:=()
def PySem.W.Fast.tw4061940428353630361:Unit:=()
def PySem.W.Fast.tw11784881204696532017:Unit:=()
def PySem.W.Fast.tw16339838427261221338:Unit:=()
def PySem.W.Fast.tw9760496663129760499:Unit:=()
def PySem.W.Fast.tw15990845716069881663:Unit:=()
def PySem.W.Fast.tw107696060854163109:Unit:=()
def PySem.W.Fast.tw14539496081538796551:Unit:=()
def PySem.W.Fast.tw129312343969245684:Unit:=()
def PySem.W.Fast.tw12992065092185589236:Unit:=()
def PySem.W.Fast.tw12585269674976441459:Unit:=()
def PySem.W.Fast.tw9557101389167270809:Unit:=()
def PySem.W.Fast.tw11643412594161297225:Unit:=()
def PySem.W.Fast.tw5513368721410062365:Unit:=()
def PySem.W.Fast.tw361910264048470780:Unit:=()
def PySem.W.Fast.tw1337771307005152824:Unit:=()
def PySem.W.Fast.tw4373371444664792387:Unit:=()
def PySem.W.Fast.tw6652297791602953826:Unit:=()
def PySem.W.Fast.tw1507435446682463239:Unit:=()
def PySem.W.Fast.tw1452722661889535736:Unit:=()
def PySem.W.Fast.tw11894257473573463414:Unit:=()
def PySem.W.Fast.tw1835458889550600292:Unit:=()
def PySem.W.Fast.tw10117416903965829387:Unit:=()
def PySem.W.Fast.tw16081622093148056156:Unit:=()
def PySem.W.Fast.tw4102704001881596954:Unit:=()
def PySem.W.Fast.tw14715285543577623589:Unit:=()
def PySem.W.Fast.tw10608255776774471612:Unit:=()
def PySem.W.Fast.tw11060277196800957374:Unit:=()
def PySem.W.Fast.tw14796497366087778297:Unit:=()
def PySem.W.Fast.tw8641963752725018925:Unit:=()
def PySem.W.Fast.tw18427945869386888744:Unit:=()
def PySem.W.Fast.tw14326828754507119987:Unit:=()
def PySem.W.Fast.tw17472034889451558619:Unit:=()
def PySem.W.Fast.tw14646949013736713311:Unit:=()
def PySem.W.Fast.tw9634561527385241312:Unit:=()
def PySem.W.Fast.tw4237862118708090882:Unit:=()
def PySem.W.Fast.tw15252397695831908055:Unit:=()
def PySem.W.Fast.tw9140686627225322058:Unit:=()
def PySem.W.Fast.tw15954083339600987912:Unit:=()
def PySem.W.Fast.tw9092069023176257897:Unit:=()
def PySem.W.Fast.tw497203309291234642:Unit:=()
def PySem.W.Fast.tw1788217790760374864:Unit:=()
def PySem.W.Fast.tw1908602566617696441:Unit:=()
def PySem.W.Fast.tw14588659795046808574:Unit:=()
def PySem.W.Fast.tw6588250401612628364:Unit:=()
def PySem.W.Fast.tw10910487713463991524:Unit:=()
def PySem.W.Fast.tw9589361834193357609:Unit:=()
def PySem.W.Fast.tw9086208174528248623:Unit:=()
def PySem.W.Fast.tw14349507619958364547:Unit:=()
def PySem.W.Fast.tw12886184329490261892:Unit:=()
def PySem.W.Fast.tw48816917823582859:Unit:=()
def PySem.W.Fast.tw12292358071072764434:Unit:=()
def PySem.W.Fast.tw17196710876847701485:Unit:=()
def PySem.W.Fast.tw14316575298311344346:Unit:=()
def PySem.W.Fast.tw13936969907673631295:Unit:=()
def PySem.W.Fast.tw1476529564715788396:Unit:=()
def PySem.W.Fast.tw2492034405737452831:Unit:=()
def PySem.W.Fast.tw2789598499829599950:Unit:=()
def PySem.W.Fast.tw3771416306804952421:Unit:=()
def PySem.W.Fast.tw1342300724353490907:Unit:=()
def PySem.W.Fast.tw49407731103185240:Unit:=()
def PySem.W.Fast.tw3593061727472185630:Unit:=()
def PySem.W.Fast.tw3743803027846503734:Unit:=()
def PySem.W.Fast.tw3187401384769728716:Unit:=()
def PySem.W.Fast.tw6123247839432679465:Unit:=()
def PySem.W.Fast.tw6159293256689381154:Unit:=()
def PySem.W.Fast.tw12018675235923392850:Unit:=()
def PySem.W.Fast.tw13597717155836456833:Unit:=()
def PySem.W.Fast.tw7525713375894331980:Unit:=()
def PySem.W.Fast.tw3559537760997486768:Unit:=()
def PySem.W.Fast.tw14085115882882624292:Unit:=()
def PySem.W.Fast.tw16838144156515483849:Unit:=()
def PySem.W.Fast.tw16995257853950732549:Unit:=()
def PySem.W.Fast.tw8810235153430787544:Unit:=()
def PySem.W.Fast.tw13692814459618002603:Unit:=()
def PySem.W.Fast.tw5375790994649749540:Unit:=()
def PySem.W.Fast.tw1926573365649786569:Unit:=()
def PySem.W.Fast.tw8764235523423163897:Unit:=()
def PySem.W.Fast.tw1925879768187387372:Unit:=()
def PySem.W.Fast.tw2747923257052557900:Unit:=()
def PySem.W.Fast.tw185862307265690174:Unit:=()
def PySem.W.Fast.tw37391772852248109:Unit:=()
def PySem.W.Fast.tw13857342171156091885:Unit:=()
def PySem.W.Fast.tw11352503861746829153:Unit:=()
def PySem.W.Fast.tw3219135324288576882:Unit:=()
def PySem.W.Fast.tw14817506182095503645:Unit:=()
def PySem.W.Fast.tw8633996129377644147:Unit:=()
def PySem.W.Fast.tw16423905784339655647:Unit:=()
set_option maxRecDepth 100000 in
set_option maxHeartbeats 0 in
theorem PySem.Challenge.cw_forerun_k20_a_straight_runs_paper_holds : PySem.Challenge.rw_forerun_k20_a_straight_runs_paper.Holds := by
  w_on; o_law; k_head; (case hw => w_witness2)
  k_fill
  refine L2.walk_ofX (l := PySem.Challenge.rw_forerun_k20_a_straight_runs_paper) (n := 63) (k := 11) (x := "script") (sp := K20.sp_law) rfl (by decide) rfl ⟨rfl, by decide, by decide⟩ (fun w h Y => PySem.W.kIn_of Y) ?F ?S
  case F =>
    intro w mg fa h KX G hmg
    have T : ∃ t, K20.Txt (L2.KOf KX) mg t := by
      dsimp only [L2.KOf]
      refine' K20.txt_mk KX G ?qa0 ?ql0 ?qc0 ?qk0 ?qa1 ?ql1 ?qc1 ?qk1 ?qa2 ?qi2 ?ql2 ?qc2 ?qk2 ?qa3 ?ql3 ?qc3 ?qk3 ?qa4 ?ql4 ?qc4 ?qk4 ?qa5 ?ql5 ?qc5 ?qk5 ?qa6 ?qi6 ?ql6 ?qc6 ?qk6 ?qa7 ?qi7 ?ql7 ?qc7 ?qk7 ?qa8 ?ql8 ?qc8 ?qk8 ?qa9 ?ql9 ?qc9 ?qk9 ?qa10 ?ql10 ?qc10 ?qk10 ?qa11 ?ql11 ?qc11 ?qk11 ?qa12 ?ql12 ?qc12 ?qk12 ?qa13 ?ql13 ?qc13 ?qk13 ?qa14 ?qi14 ?ql14 ?qc14 ?qk14 ?qa15 ?qi15 ?ql15 ?qc15 ?qk15 ?qa16 ?qi16 ?ql16 ?qc16 ?qk16 ?qa17 ?ql17 ?qc17 ?qk17 ?qa18 ?ql18 ?qc18 ?qk18 ?qa19 ?ql19 ?qc19 ?qk19 ?qa20 ?ql20 ?qc20 ?qk20 ?qa21 ?ql21 ?qc21 ?qk21 ?qa22 ?ql22 ?qc22 ?qk22 ?qa23 ?ql23 ?qc23 ?qk23 ?qa24 ?ql24 ?qc24 ?qk24 ?qa25 ?ql25 ?qc25 ?qk25 ?qa26 ?qi26 ?ql26 ?qc26 ?qk26 ?qa27 ?qi27 ?ql27 ?qc27 ?qk27 ?qa28 ?qi28 ?ql28 ?qc28 ?qk28 ?qa29 ?qi29 ?ql29 ?qc29 ?qk29 ?qd29 ?qa30 ?ql30 ?qc30 ?qk30 ?qa31 ?ql31 ?qc31 ?qk31 ?qz0 ?qz1 ?qz2 ?qz3 ?qz4 ?qz5 ?qz6 ?qz7 ?qz8 ?qg0 ?qh0 ?qv0 ?qv1 ?qv2 ?pg2 ?pd2 ?po2 ?pe2 ?pm2_ ?pk2 ?pn2_0 ?pn2_1 ?pn2_2 ?pn2_3 ?pn2_4 ?pn2_5 ?pn2_6 ?rx0 ?ry0_0 ?ry0_1 ?ry0_2 ?ry0_3 ?ry0_4 ?ry0_5 ?ry0_6 ?ry0_7 ?re0_0 ?re0_1 ?rm0_0 ?rx1 ?ry1_0 ?ry1_1 ?ry1_2 ?ry1_3 ?ry1_4 ?ry1_5 ?ry1_6 ?ry1_7 ?re1_0 ?re1_1 ?rm1_0
      (case qv0 => k_is)
      (case qv1 => k_is)
      (case qv2 => k_is)
      (case qa0 => k_is)
      (case ql0 => k_is)
      (case qc0 => k_is)
      (case qk0 => k_is)
      (case qa1 => k_is)
      (case ql1 => k_is)
      (case qc1 => k_is)
      (case qk1 => k_is)
      (case qa2 => k_is)
      (case qi2 => k_is)
      (case ql2 => k_is)
      (case qc2 => k_is)
      (case qk2 => k_is)
      (case qa3 => k_is)
      (case ql3 => k_is)
      (case qc3 => k_is)
      (case qk3 => k_is)
      (case qa4 => k_is)
      (case ql4 => k_is)
      (case qc4 => k_is)
      (case qk4 => k_is)
      (case qa5 => k_is)
      (case ql5 => k_is)
      (case qc5 => k_is)
      (case qk5 => k_is)
      (case qa6 => k_is)
      (case qi6 => k_is)
      (case ql6 => k_is)
      (case qc6 => k_is)
      (case qk6 => k_is)
      (case qa7 => k_is)
      (case qi7 => k_is)
      (case ql7 => k_is)
      (case qc7 => k_is)
      (case qk7 => k_is)
      (case qa8 => k_is)
      (case ql8 => k_is)
      (case qc8 => k_is)
      (case qk8 => k_is)
      (case qa9 => k_is)
      (case ql9 => k_is)
      (case qc9 => k_is)
      (case qk9 => k_is)
      (case qa10 => k_is)
      (case ql10 => k_is)
      (case qc10 => k_is)
      (case qk10 => k_is)
      (case qa11 => k_is)
      (case ql11 => k_is)
      (case qc11 => k_is)
      (case qk11 => k_is)
      (case qa12 => k_is)
      (case ql12 => k_is)
      (case qc12 => k_is)
      (case qk12 => k_is)
      (case qa13 => k_is)
      (case ql13 => k_is)
      (case qc13 => k_is)
      (case qk13 => k_is)
      (case qa14 => k_is)
      (case qi14 => k_is)
      (case ql14 => k_is)
      (case qc14 => k_is)
      (case qk14 => k_is)
      (case qa15 => k_is)
      (case qi15 => k_is)
      (case ql15 => k_is)
      (case qc15 => k_is)
      (case qk15 => k_is)
      (case qa16 => k_is)
      (case qi16 => k_is)
      (case ql16 => k_is)
      (case qc16 => k_is)
      (case qk16 => k_is)
      (case qa17 => k_is)
      (case ql17 => k_is)
      (case qc17 => k_is)
      (case qk17 => k_is)
      (case qa18 => k_is)
      (case ql18 => k_is)
      (case qc18 => k_is)
      (case qk18 => k_is)
      (case qa19 => k_is)
      (case ql19 => k_is)
      (case qc19 => k_is)
      (case qk19 => k_is)
      (case qa20 => k_is)
      (case ql20 => k_is)
      (case qc20 => k_is)
      (case qk20 => k_is)
      (case qa21 => k_is)
      (case ql21 => k_is)
      (case qc21 => k_is)
      (case qk21 => k_is)
      (case qa22 => k_is)
      (case ql22 => k_is)
      (case qc22 => k_is)
      (case qk22 => k_is)
      (case qa23 => k_is)
      (case ql23 => k_is)
      (case qc23 => k_is)
      (case qk23 => k_is)
      (case qa24 => k_is)
      (case ql24 => k_is)
      (case qc24 => k_is)
      (case qk24 => k_is)
      (case qa25 => k_is)
      (case ql25 => k_is)
      (case qc25 => k_is)
      (case qk25 => k_is)
      (case qa26 => k_is)
      (case qi26 => k_is)
      (case ql26 => k_is)
      (case qc26 => k_is)
      (case qk26 => k_is)
      (case qa27 => k_is)
      (case qi27 => k_is)
      (case ql27 => k_is)
      (case qc27 => k_is)
      (case qk27 => k_is)
      (case qa28 => k_is)
      (case qi28 => k_is)
      (case ql28 => k_is)
      (case qc28 => k_is)
      (case qk28 => k_is)
      (case qa29 => k_is)
      (case qi29 => k_is)
      (case ql29 => k_is)
      (case qc29 => k_is)
      (case qk29 => k_is)
      (case qd29 => k_is)
      (case qa30 => k_is)
      (case ql30 => k_is)
      (case qc30 => k_is)
      (case qk30 => k_is)
      (case qa31 => k_is)
      (case ql31 => k_is)
      (case qc31 => k_is)
      (case qk31 => k_is)
      (case qz0 => k_is)
      (case qz1 => k_is)
      (case qz2 => k_is)
      (case qz3 => k_is)
      (case qz4 => k_is)
      (case qz5 => k_is)
      (case qz6 => k_is)
      (case qz7 => k_is)
      (case qz8 => k_is)
      (case qg0 => k_is)
      (case qh0 => k_is)
      (case pg2 => k_is)
      (case pd2 => k_is)
      (case po2 => k_is)
      (case pe2 => k_is)
      (case pm2_ => k_is)
      (case pk2 => k_is)
      (case pn2_0 => k_is)
      (case pn2_1 => k_is)
      (case pn2_2 => k_is)
      (case pn2_3 => k_is)
      (case pn2_4 => k_is)
      (case pn2_5 => k_is)
      (case pn2_6 => k_is)
      (case rx0 => k_exc)
      (case ry0_0 => k_is)
      (case ry0_1 => k_is)
      (case ry0_2 => k_is)
      (case ry0_3 => k_is)
      (case ry0_4 => k_is)
      (case ry0_5 => k_is)
      (case ry0_6 => k_is)
      (case ry0_7 => k_is)
      (case re0_0 => kernel_rfl)
      (case re0_1 => kernel_rfl)
      (case rm0_0 => kernel_rfl)
      (case rx1 => k_exc)
      (case ry1_0 => k_is)
      (case ry1_1 => k_is)
      (case ry1_2 => k_is)
      (case ry1_3 => k_is)
      (case ry1_4 => k_is)
      (case ry1_5 => k_is)
      (case ry1_6 => k_is)
      (case ry1_7 => k_is)
      (case re1_0 => kernel_rfl)
      (case re1_1 => kernel_rfl)
      (case rm1_0 => kernel_rfl)
    obtain ⟨t, T⟩ := T
    have e0 := hmg.symm.trans T.m_law
    cases e0
    exact ⟨_, T.w_law, fun base _ _ => K20.ok_law T⟩
  case S => exact fun K H a ns hl _ hS => ⟨a, ns, rfl, hS, hl, fun _ => rfl⟩
