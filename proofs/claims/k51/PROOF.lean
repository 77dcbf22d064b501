import PyProof.Rows.All
import Wide.All
import OpenK.AllK
import Wide.FinOn
import Lean
import PyProof.EqAt
import PyProof.EqKinds
import PyProof.TupleCall
import PySem.Challenge.RW_forerun_k51_papers_meet
import KE.IntBitsLaws
import KE.KDictList
import KE.KDictOf
import KE.KEqDict
import KE.KIntText
import KE.KItemsList
import KE.KRevIter
import KE.KSortAsk
import KE.KSortTup
import KE.KSorted
import KE.KTryMore
import KE.LcSums
import PyProof.AttrMissHeap
import PyProof.Conv_int_bool
import PyProof.DictItems
import PyProof.DictKinds
import PyProof.DictWalks
import PyProof.EnumFor
import PyProof.EnumMake
import PyProof.EqKinds
import PyProof.ListIndexNeg
import PyProof.MeetsStr
import PyProof.NeKinds
import PyProof.NsDelKeeps
import PyProof.P3Eq
import PyProof.Rows.EqDataRows
import PyProof.Rows.Range3
import PyProof.StrCalls2
import PyProof.StrLaws
import PyProof.StrLawsTight
import PyProof.StrOps
import PyProof.StrOps2
import PyProof.TupleIter
import PyProof.TupleKey
import PyProof.TupleOfSeq
import PyProof.ZipIter
import Wide.ObjOpen
import Wide.RegSB
set_option Elab.async false
set_option linter.all false
set_option maxRecDepth 100000
namespace L2
open PySem PySem.Spec PyProof.Rows
abbrev Key:=Sum Int Str
def keyIs:Key→Value→Bool
  | .inl k,v=>Value.isInt k v
  | .inr x,v=>Value.isStrOf x v
def keyH (w:World):Key→Int
  | .inl k=>hashInt k
  | .inr x=>hashStr w x
theorem keyIs_shape:∀ {k:Key} {v:Value},keyIs k v=true→(∃ i t,k=Sum.inl i∧v=Value.int i t)∨(∃ x t,k=Sum.inr x∧v=Value.str x t)
  | .inl i,v,h=>by
    obtain ⟨t,e⟩:=Value.isInt_shape (k:=i) (v:=v) h
    exact .inl ⟨i,t,rfl,e⟩
  | .inr x,v,h=>by
    obtain ⟨t,e⟩:=Value.isStrOf_shape (x:=x) (v:=v) h
    exact .inr ⟨x,t,rfl,e⟩
theorem keyIs_int (i:Int) (t:Tok):keyIs (.inl i) (.int i t)=true:=by simp [keyIs,Value.isInt]
theorem keyIs_str (x:Str) (t:Tok):keyIs (.inr x) (.str x t)=true:=by simp [keyIs,Value.isStrOf]
theorem key_ll (a b:Int):decide ((Sum.inl a:Key)=Sum.inl b)=(a == b):=by
  by_cases e:a=b
  · subst e;simp
  · have h:¬ (Sum.inl a:Key)=Sum.inl b:=fun q=>e (Sum.inl.inj q)
    rw [decide_eq_false h]
    exact (beq_eq_false_iff_ne.mpr e).symm
theorem key_rr (a b:Str):decide ((Sum.inr a:Key)=Sum.inr b)=decide (a=b):=by
  by_cases e:a=b
  · subst e;simp
  · have h:¬ (Sum.inr a:Key)=Sum.inr b:=fun q=>e (Sum.inr.inj q)
    rw [decide_eq_false h,decide_eq_false e]
theorem key_lr (a:Int) (b:Str):decide ((Sum.inl a:Key)=Sum.inr b)=false:=decide_eq_false (fun q=>nomatch q)
theorem key_rl (a:Str) (b:Int):decide ((Sum.inr a:Key)=Sum.inl b)=false:=decide_eq_false (fun q=>nomatch q)
def mixKind (prog:Program) (w:World):PySem.KeyKind prog w Key where
  is:=keyIs
  hash:=keyH w
  inj:=fun v a b ha hb=>by
    rcases keyIs_shape ha with ⟨i,t,rfl,rfl⟩ | ⟨x,t,rfl,rfl⟩
    · rcases keyIs_shape hb with ⟨j,u,rfl,e⟩ | ⟨y,u,rfl,e⟩
      · injection e with e1 _;rw [e1]
      · exact nomatch e
    · rcases keyIs_shape hb with ⟨j,u,rfl,e⟩ | ⟨y,u,rfl,e⟩
      · exact nomatch e
      · injection e with e1 _;rw [e1]
  byValue:=fun k v h=>by
    rcases keyIs_shape h with ⟨i,t,rfl,rfl⟩ | ⟨x,t,rfl,rfl⟩ <;> rfl
  pyHash:=fun hv h=>by
    rcases keyIs_shape hv with ⟨i,t,rfl,rfl⟩ | ⟨x,t,rfl,rfl⟩
    · exact wpAny_pyHash_int h
    · exact wpAny_pyHash_str h
  eqBool:=fun hu hv h=>by
    rcases keyIs_shape hu with ⟨i,t,rfl,rfl⟩ | ⟨x,t,rfl,rfl⟩
    · rcases keyIs_shape hv with ⟨j,u,rfl,rfl⟩ | ⟨y,u,rfl,rfl⟩
      · rw [key_ll] at h;exact wpAny_eqBool_int h
      · rw [key_lr] at h;exact SeqAt.EqAt.int_str i t y u _ _ _ _ h
    · rcases keyIs_shape hv with ⟨j,u,rfl,rfl⟩ | ⟨y,u,rfl,rfl⟩
      · rw [key_rl] at h;exact SeqAt.EqAt.str_int x t j u _ _ _ _ h
      · rw [key_rr] at h;exact wpAny_eqBool_str h
  «strs»:=fun k x t v h=>by
    rcases keyIs_shape h with ⟨i,u,rfl,e⟩ | ⟨y,u,rfl,e⟩
    · exact nomatch e
    · injection e with e1 _
      subst e1
      cases v <;> rfl
theorem mixKind_int (prog:Program) (w:World) (i:Int) (t:Tok):(mixKind prog w).is (.inl i) (.int i t)=true:=keyIs_int i t
theorem mixKind_str (prog:Program) (w:World) (x:Str) (t:Tok):(mixKind prog w).is (.inr x) (.str x t)=true:=keyIs_str x t
end L2
namespace L2
open PySem PySem.Spec PyProof.Rows
inductive V where
  | non | bl (b:Bool) | int (i:Int) | str (x:Str) | byt (b:Array UInt8) | flt (b:UInt64) | ref (a:Addr) | ty (n:String)
  deriving DecidableEq
def RelV:V→Value→Prop
  | .non,u=>u=Value.none
  | .bl b,u=>u=Value.bool b
  | .int i,u=>∃ t,u=Value.int i t
  | .str x,u=>∃ t,u=Value.str x t
  | .byt b,u=>∃ t,u=Value.bytes b t
  | .flt b,u=>∃ t,u=Value.float b t
  | .ref a,u=>u=Value.ref a
  | .ty n,u=>u=Value.type n
abbrev Vals:List V→List Value→Prop:=Paired RelV
theorem Vals.length {xs:List V} {us:List Value} (r:Vals xs us):xs.length=us.length:=Paired.length r
theorem Vals.get:∀ {xs:List V} {us:List Value} {i:Nat} {x:V},Vals xs us→xs[i]?=some x→∃ u,us[i]?=some u∧RelV x u
  | _,_,_,_,.nil,e=>by simp at e
  | _,_,0,_,.cons r _,e=>by simp at e;subst e;exact ⟨_,rfl,r⟩
  | _,_,i + 1,x,.cons _ t,e=>by
    obtain ⟨u,h1,h2⟩:=Vals.get (i:=i) (x:=x) t (by simpa using e)
    exact ⟨u,by simpa using h1,h2⟩
theorem Vals.append:∀ {xs ys:List V} {us ws:List Value},Vals xs us→Vals ys ws→Vals (xs ++ ys) (us ++ ws)
  | _,_,_,_,.nil,s=>s
  | _,_,_,_,.cons r t,s=>.cons r (Vals.append t s)
theorem Vals.take:∀ {xs:List V} {us:List Value} (n:Nat),Vals xs us→Vals (xs.take n) (us.take n)
  | _,_,0,_=>.nil
  | _,_,_ + 1,.nil=>.nil
  | _,_,n + 1,.cons r t=>.cons r (Vals.take n t)
theorem Vals.drop:∀ {xs:List V} {us:List Value} (n:Nat),Vals xs us→Vals (xs.drop n) (us.drop n)
  | _,_,0,r=>r
  | _,_,_ + 1,.nil=>.nil
  | _,_,n + 1,.cons _ t=>Vals.drop n t
def RelO:Option V→Option Value→Prop
  | some v,some u=>RelV v u
  | none,none=>True
  | _,_=>False
def KV {κ:Type}:List (κ × V)→List (κ × Value)→Prop:=Paired fun (p:κ × V) (q:κ × Value)=>p.1=q.1∧RelV p.2 q.2
def kV:Key→V
  | .inl i=>.int i
  | .inr x=>.str x
inductive HO where
    | lst (xs:List V)
    | tup (xs:List V)
    | dK (kvs:List (Key × V)) | dT (kvs:List (List Key × V))
    | set (S:Int→Bool) (n:Nat)
    | ins (C dx:Addr) (fs:List (Str × V))
    | own (x:Addr)
    | xd (fs:List (Str × V))
    | met (f x:Addr)
    | rng (lo hi:Int)
    | frz (o:Obj) (u:HO)
    | tbl (ps:Array Value)
    | ext (φ:Heap→Prop)
abbrev Hp:=Addr→Option HO
def upd (H:Hp) (a:Addr) (o:HO):Hp:=fun b=>if b=a then some o else H b
theorem upd_same {H:Hp} {a:Addr} {o:HO}:upd H a o a=some o:=by unfold upd;rw [if_pos rfl]
theorem upd_ne {H:Hp} {a b:Addr} {o:HO} (h:b≠a):upd H a o b=H b:=by unfold upd;rw [if_neg h]
theorem upd_upd {H:Hp} {a:Addr} {o u:HO}:upd (upd H a o) a u=upd H a u:=by
  funext b;unfold upd;split <;> rfl
theorem ne_of {H:Hp} {a b:Addr} {o u:HO} (h:H a=some o) (h':H b=some u) (d:o≠u):a≠b:=by
  intro e;subst e;rw [h] at h';exact d (Option.some.inj h')
theorem ne_of_none {H:Hp} {a b:Addr} {o:HO} (h:H a=some o) (h':H b=none):a≠b:=by
  intro e;subst e;rw [h] at h';cases h'
section
variable (P:Program) (w:World)
def ObjOk (H:Hp) (h:Heap) (a:Addr):HO→Prop
  | .lst xs=>xs.length≤sizeLine∧∃ (its:List Value) (n:Nat),Vals xs its∧h.get? a=some { cls:=.type "list",data:=.seq its.toArray n }
  | .tup xs=>xs.length≤sizeLine∧∃ its:List Value,Vals xs its∧IsTup h a its.toArray
  | .dK kvs=>kvs.length≤sizeLine∧(a == sysModules)=false∧∃ vs,KV kvs vs∧h.DictOf (mixKind P w) a vs
  | .dT kvs=>kvs.length≤sizeLine∧(a == sysModules)=false∧∃ xs:List (List Key × Addr × Value),
      Paired (fun (p:List Key × V) (q:List Key × Addr × Value)=>p.1=q.1∧H q.2.1=some (.tup (p.1.map kV))∧RelV p.2 q.2.2) kvs xs ∧
      ∃ o es ep,h.get? a=some o∧o.ExactDict∧o.data=.dict es ep∧es.toList=xs.map (entryOfKey (tupleKind (mixKind P w)))∧(xs.map (·.1)).Nodup
  | .set S n=>h.SetOf (intKind P w) a S n
  | .ins C dx fs=>H dx=some (.own a)∧fs.length≤1000∧dx≠a∧h.get? a=some (PySem.W.instObj C dx) ∧
      ∃ mA,h.Ns1 dx mA∧(∀ f,RelO (fs.lookup f) (mA f))∧PySem.Within mA (fs.map (·.1))
  | .own _=>∃ o,h.get? a=some o
  | .xd fs=>∃ mA,h.Ns1 a mA∧∀ f,RelO (fs.lookup f) (mA f)
  | .rng lo hi=>∃ t u v,h.get? a=some { cls:=.type "range",data:=.fields #[.int lo t,.int hi u,.int 1 v] }
  | .frz o u=>h.get? a=some o∧ObjOk H h a u
  | .tbl ps=>h.get? a=some { cls:=.none,data:=.fields ps }
  | .met f x=>h.get? a=some (PySem.W.methodObj (.ref f) (.ref x))
  | .ext φ=>φ h∧(∃ o,h.get? a=some o)∧∀ h1 h2:Heap,φ h1→(∀ o,h1.get? a=some o→h2.get? a=some o)→φ h2
def HOk (H:Hp) (h:Heap):Prop:=∀ a o,H a=some o→ObjOk P w H h a o
end
section
variable {P:Program} {w:World} {H H':Hp} {h h':Heap} {a:Addr} {o:HO}
theorem ObjOk.lt (x:ObjOk P w H h a o):a < h.objs.size:=by
  cases o with
  | lst xs=>obtain ⟨_,_,_,_,e⟩:=x;exact Heap.lt_size e
  | tup xs=>obtain ⟨_,_,_,p⟩:=x;exact p.lt
  | dK kvs=>obtain ⟨_,_,_,_,o,_,_,e,_⟩:=x;exact Heap.lt_size e
  | dT kvs=>obtain ⟨_,_,_,_,o,_,_,e,_⟩:=x;exact Heap.lt_size e
  | set S n=>obtain ⟨o,_,_,_,e,_⟩:=x;exact Heap.lt_size e
  | ins C dx fs=>obtain ⟨_,_,_,e,_⟩:=x;exact Heap.lt_size e
  | own y=>obtain ⟨_,e⟩:=x;exact Heap.lt_size e
  | xd fs=>obtain ⟨_,⟨_,_,_,e,_⟩,_⟩:=x;exact Heap.lt_size e
  | rng lo hi=>obtain ⟨_,_,_,e⟩:=x;exact Heap.lt_size e
  | frz ob u=>obtain ⟨e,_⟩:=x;exact Heap.lt_size e
  | tbl ps=>exact Heap.lt_size (show h.get? a=some _ from x)
  | met f y=>exact Heap.lt_size (show h.get? a=some _ from x)
  | ext φ=>obtain ⟨_,⟨_,e⟩,_⟩:=x;exact Heap.lt_size e
theorem Paired.mapP {α β:Type} {F G:α→β→Prop}:∀ {l₁:List α} {l₂:List β},Paired F l₁ l₂→(∀ a b,F a b→G a b)→Paired G l₁ l₂
  | _,_,.nil,_=>.nil
  | _,_,.cons r t,f=>.cons (f _ _ r) (Paired.mapP t f)
theorem ObjOk.stay (x:ObjOk P w H h a o) (k:∀ b u,(b=a∨H b=some (.own a))→h.get? b=some u→h'.get? b=some u)
    (ho:∀ b,H b=some (.own a)→H' b=some (.own a)) (ht:∀ b xs,H b=some (.tup xs)→H' b=some (.tup xs)):ObjOk P w H' h' a o:=by
  induction o with
  | lst xs=>obtain ⟨z,its,n,r,e⟩:=x;exact ⟨z,its,n,r,k _ _ (.inl rfl) e⟩
  | tup xs=>obtain ⟨z,its,r,ob,e,c⟩:=x;exact ⟨z,its,r,ob,k _ _ (.inl rfl) e,c⟩
  | dK kvs=>obtain ⟨z,y,vs,r,ob,es,ep,e,c⟩:=x;exact ⟨z,y,vs,r,ob,es,ep,k _ _ (.inl rfl) e,c⟩
  | dT kvs =>
    obtain ⟨z,y,xs,r,ob,es,ep,e,c⟩:=x
    exact ⟨z,y,xs,Paired.mapP r fun p q z=>⟨z.1,ht _ _ z.2.1,z.2.2⟩,ob,es,ep,k _ _ (.inl rfl) e,c⟩
  | set S n=>obtain ⟨ob,es,ep,t,e,c⟩:=x;exact ⟨ob,es,ep,t,k _ _ (.inl rfl) e,c⟩
  | ins C dx fs =>
    obtain ⟨d,z,ne,e,mA,⟨od,es,ep,e2,c⟩,r⟩:=x
    exact ⟨ho _ d,z,ne,k _ _ (.inl rfl) e,mA,⟨od,es,ep,k _ _ (.inr d) e2,c⟩,r⟩
  | own y=>obtain ⟨ob,e⟩:=x;exact ⟨ob,k _ _ (.inl rfl) e⟩
  | xd fs=>obtain ⟨mA,⟨od,es,ep,e,c⟩,r⟩:=x;exact ⟨mA,⟨od,es,ep,k _ _ (.inl rfl) e,c⟩,r⟩
  | rng lo hi=>obtain ⟨t,u,v,e⟩:=x;exact ⟨t,u,v,k _ _ (.inl rfl) e⟩
  | frz ob u ih=>obtain ⟨e,q⟩:=x;exact ⟨k _ _ (.inl rfl) e,ih q⟩
  | tbl ps =>
    have e:h.get? a=some { cls:=.none,data:=.fields ps }:=x
    show h'.get? a=some { cls:=.none,data:=.fields ps }
    exact k a _ (.inl rfl) e
  | met f y =>
    have e:h.get? a=some (PySem.W.methodObj (.ref f) (.ref y)):=x
    show h'.get? a=some (PySem.W.methodObj (.ref f) (.ref y))
    exact k a _ (.inl rfl) e
  | ext φ=>obtain ⟨p,⟨o,e⟩,st⟩:=x;exact ⟨st _ _ p fun o q=>k _ _ (.inl rfl) q,⟨o,k _ _ (.inl rfl) e⟩,st⟩
theorem HOk.lt (x:HOk P w H h) (e:H a=some o):a < h.objs.size:=(x a o e).lt
theorem HOk.fresh (x:HOk P w H h) (e:h.objs.size≤a):H a=none:=by
  cases q:H a with
  | none=>rfl
  | some u=>exact absurd (Nat.lt_of_lt_of_le (x.lt q) e) (Nat.lt_irrefl _)
theorem HOk.kept (x:HOk P w H h) (k:∀ b u,h.get? b=some u→h'.get? b=some u):HOk P w H h':=fun a o e =>
  (x a o e).stay (fun b u _ q=>k b u q) (fun _ q=>q) fun _ _ q=>q
theorem HOk.laid (x:HOk P w H h) (k:∀ b u,h.get? b=some u→h'.get? b=some u) (hp:h.objs.size≤a) (new:ObjOk P w (upd H a o) h' a o):HOk P w (upd H a o) h':=fun b u e=>by
  have hn:=x.fresh hp
  by_cases hb:b=a
  · subst hb;rw [upd_same] at e;cases e;exact new
  · rw [upd_ne hb] at e
    exact (x b u e).stay (fun c v _ q=>k c v q) (fun c q=>by rw [upd_ne (ne_of_none q hn)];exact q) fun c xs q=>by rw [upd_ne (ne_of_none q hn)];exact q
end
def Rd (H:Hp) (a:Addr) (u:HO):Prop:=H a=some u∨∃ o,H a=some (.frz o u)
theorem Rd.ok {P:Program} {w:World} {H:Hp} {h:Heap} {a:Addr} {u:HO} (r:Rd H a u) (x:HOk P w H h):ObjOk P w H h a u:=by
  rcases r with r | ⟨o,r⟩
  · exact x a u r
  · obtain ⟨_,q⟩:=x a _ r
    exact q
def Mut:Option HO→Prop
  | some (.lst _)=>True
  | some (.dK _)=>True
  | some (.dT _)=>True
  | some (.set _ _)=>True
  | some (.ins _ _ _)=>True
  | some (.ext _)=>True
  | _=>False
section
variable {P:Program} {w:World} {H:Hp} {h h':Heap} {x e:Addr} {o':HO}
theorem HOk.write (ok:HOk P w H h) (mu:Mut (H x)) (he:e=x∨H e=some (.own x)) (k:∀ b u,b≠e→h.get? b=some u→h'.get? b=some u) (heo:∃ u,h'.get? e=some u)
    (new:ObjOk P w (upd H x o') h' x o'):HOk P w (upd H x o') h':=fun b u q=>by
  have nown:∀ c y,H c=some (.own y)→c≠x:=fun c y r z=>by subst z;rw [r] at mu;exact mu
  have ntup:∀ c xs,H c=some (.tup xs)→c≠x:=fun c xs r z=>by subst z;rw [r] at mu;exact mu
  by_cases hb:b=x
  · subst hb;rw [upd_same] at q;cases q;exact new
  · rw [upd_ne hb] at q
    by_cases hbe:b=e
    · have q':H b=some (.own x):=by
        rcases he with z | z
        · exact absurd (hbe.trans z) hb
        · rw [hbe];exact z
      rw [q] at q';cases q'
      obtain ⟨v,hv⟩:=heo
      exact ⟨v,by rw [hbe];exact hv⟩
    · refine (ok b u q).stay (fun c v hc r=>k c v ?_ r) (fun c r=>by rw [upd_ne (nown c b r)];exact r) fun c xs r=>by rw [upd_ne (ntup c xs r)];exact r
      rcases hc with rfl | hc
      · exact hbe
      · rintro rfl
        rcases he with z | z
        · exact nown c b hc z
        · rw [hc] at z;cases z;exact hb rfl
end
structure Un (fs ex:List Addr) (H H':Hp) (h h':Heap):Prop where
  keep:∀ b o,h.get? b=some o→H b=none→b ∉ fs→b ∉ ex→h'.get? b=some o
  slot:∀ b o,h.get? b=some o→H b=none→b∈fs→b ∉ ex→∃ sl,h'.get? b=some { o with slots:=sl }
  free:∀ b o,h.get? b=some o→H b=none→b ∉ ex→H' b=none
  there:∀ b o,h.get? b=some o→b ∉ ex→∃ o',h'.get? b=some o'
  tups:∀ b xs,H b=some (.tup xs)→H' b=some (.tup xs)
  frzs:∀ b o u,H b=some (.frz o u)→H' b=some (.frz o u)
  tbls:∀ b ps,H b=some (.tbl ps)→∃ more,H' b=some (.tbl (ps ++ more))
section
variable {fs fs' ex ex':List Addr} {H H1 H2:Hp} {h h1 h2 h':Heap} {a x e:Addr} {o:HO}
theorem Un.any (u:Un fs ex H H1 h h1) {b:Addr} {ob:Obj} (q:h.get? b=some ob) (n:H b=none) (hx:b ∉ ex):∃ sl,h1.get? b=some { ob with slots:=sl }:=by
  by_cases hb:b∈fs
  · exact u.slot b ob q n hb hx
  · exact ⟨ob.slots,u.keep b ob q n hb hx⟩
theorem Un.kept (k:∀ b u,h.get? b=some u→h'.get? b=some u):Un fs ex H H h h' :=
  ⟨fun b ob q _ _ _=>k b ob q,fun b ob q _ _ _=>⟨ob.slots,k b ob q⟩,fun _ _ _ n _=>n,fun b ob q _=>⟨ob,k b ob q⟩,fun _ _ q=>q,fun _ _ _ q=>q,fun _ ps q=>⟨#[],by rw [q];simp⟩⟩
theorem Un.refl:Un fs ex H H h h:=Un.kept fun _ _ q=>q
theorem Un.laid (k:∀ b u,h.get? b=some u→h'.get? b=some u) (hp:h.objs.size≤a) (hn:H a=none):Un fs ex H (upd H a o) h h' where
  keep:=fun b u q _ _ _=>k b u q
  slot:=fun b u q _ _ _=>⟨u.slots,k b u q⟩
  free:=fun b u q n _=>by rw [upd_ne (Nat.ne_of_lt (Nat.lt_of_lt_of_le (Heap.lt_size q) hp))];exact n
  there:=fun b u q _=>⟨u,k b u q⟩
  tups:=fun b xs q=>by rw [upd_ne (ne_of_none q hn)];exact q
  frzs:=fun b u xs q=>by rw [upd_ne (ne_of_none q hn)];exact q
  tbls:=fun b ps q=>⟨#[],by rw [upd_ne (ne_of_none q hn),q];simp⟩
theorem Un.write (mu:Mut (H x)) (he:e=x∨H e=some (.own x)) (k:∀ b u,b≠e→h.get? b=some u→h'.get? b=some u) (heo:∃ u,h'.get? e=some u):Un fs ex H (upd H x o) h h':=by
  have hx:∀ b,H b=none→b≠x:=fun b n z=>by subst z;rw [n] at mu;exact mu
  have hb:∀ b,H b=none→b≠e:=fun b n z=>by
    subst z
    rcases he with r | r
    · exact hx b n r
    · rw [n] at r;cases r
  have hm:∀ b u,H b=some u→¬ Mut (some u)→b≠x:=fun b u q nm z=>by subst z;rw [q] at mu;exact nm mu
  refine ⟨fun b u q n _ _=>k b u (hb b n) q,fun b u q n _ _=>⟨u.slots,k b u (hb b n) q⟩,fun b u q n _=>by rw [upd_ne (hx b n)];exact n,fun b u q _=>?_,
    fun b xs q=>by rw [upd_ne (hm b _ q fun z=>z)];exact q,fun b u xs q=>by rw [upd_ne (hm b _ q fun z=>z)];exact q,fun b ps q=>⟨#[],by rw [upd_ne (hm b _ q fun z=>z),q];simp⟩⟩
  by_cases hbe:b=e
  · subst hbe;exact heo
  · exact ⟨u,k b u hbe q⟩
end
def trk (h:Heap) (H:Hp):List Addr:=(List.range h.objs.size).filter fun a=>(H a).isSome
def hidT (h:Heap) (H:Hp):Heap:=PySem.W.hideAll h (trk h H)
theorem hidT_size (h:Heap) (H:Hp):(hidT h H).objs.size=h.objs.size:=PySem.W.hideAll_size _ _
theorem hidT_get {h:Heap} {H:Hp} {b:Addr} {o:Obj} (e:h.get? b=some o) (n:H b=none):(hidT h H).get? b=some o :=
  PySem.W.hideAll_get _ e fun hm=>by
    have q:(H b).isSome=true:=(List.mem_filter.mp hm).2
    rw [n] at q;simp at q
theorem of_hidT {h:Heap} {H:Hp} {b:Addr} {o:Obj} (e:(hidT h H).get? b=some o):h.get? b=some o∧H b=none:=by
  have e':h.get? b=some o:=PySem.W.of_hideAll (trk h H) e
  refine ⟨e',?_⟩
  cases q:H b with
  | none=>rfl
  | some x =>
    have hm:b∈trk h H:=List.mem_filter.mpr ⟨List.mem_range.mpr (Heap.lt_size e'),by simp [q]⟩
    have z:(hidT h H).get? b=none:=PySem.W.hideAll_none (trk h H) hm
    rw [z] at e;cases e
def allNews (g h:Heap) (L:Addr):List (Addr × Obj):=(List.range h.objs.size).filterMap fun a=>if a=L∨(g.get? a).isSome=true then none else (h.get? a).map fun o=>(a,o)
def rest (g h:Heap) (L d:Addr):List (Addr × Obj):=(allNews g h L).filter fun p=>decide (p.1≠d)
end L2
namespace L2
open PySem PySem.Spec PyProof.Rows
structure Mod (K:PySem.W.Frag) (mg:Str→Option Value) (base:Heap):Prop where
  kin:K.In base
  glob:base.Ns mainGlobals mg
  blt:∃ mb,base.Ns builtinsNs mb∧∀ x:Str,x≠"__name__"→mb x=bootBuiltins x
  nolimit:base.NoLimit
set_option genSizeOf false in
set_option genInjectivity false in
structure Cx where
  prog:Program
  w:World
  K:PySem.W.Frag
  mg:Str→Option Value
  base:Heap
  A:Around
  N:List Str
  s₀:Shared
  H₀:Hp
  env:Env
  outer:List Env
  stack:List Env
  ex:List Addr
  fn:Str→Bool
  calm:Bool
  pn:List (Addr × Obj)
  xe:Value→Shared→Prop
def frs (l:List Env):List Addr:=l.filterMap (·.frame)
abbrev Cx.fs (X:Cx):List Addr:=frs X.outer
def Vis (sc:Scope) (x:Str):Prop:=sc.names.lookup x=some .local∨sc.names.lookup x=some .cell∨sc.names.lookup x=some .free
def Loc (sc:Scope) (x:Str):Prop:=sc.names.lookup x=some .local∨sc.names.lookup x=some .cell
def Look (env:Env) (h:Heap) (m:Str→Option Value) (x:Str) (u:Value):Prop :=
  (env.kindOf x=some .local∧m x=some u)∨((env.kindOf x=some .cell∨env.kindOf x=some .free)∧∃ c,env.cells.lookup x=some c∧h.IsCell c (some u))
structure Cx.Ok (X:Cx):Prop where
  mod:Mod X.K X.mg X.base
  kind:X.env.scope.kind=.function
  glob:X.env.globals=mainGlobals
  blt:X.env.builtins=builtinsNs
  above:X.s₀.heap.objs.size≤X.env.locals
  inj:∀ x y c,X.env.cells.lookup x=some c→X.env.cells.lookup y=some c→x=y
  has:∀ x,(X.env.kindOf x=some .cell∨X.env.kindOf x=some .free)→∃ c,X.env.cells.lookup x=some c
  cab:∀ x c,X.fn x=true→X.env.cells.lookup x=some c→X.s₀.heap.objs.size≤c
  hd:X.calm=true→X.A.handled=none
  frames:X.A.frames=some X.stack
  stk:X.stack=X.outer∨(X.stack=X.env :: X.outer∧X.env.frame=some X.env.locals)
  exf:∀ b∈X.ex,b≠X.env.locals∧∀ x c,X.env.cells.lookup x=some c→c≠b
  bs:∀ b o,X.base.get? b=some o→X.s₀.heap.get? b=some o∧X.H₀ b=none
  bsz:X.base.objs.size≤X.s₀.heap.objs.size
  noex:∀ b o,X.base.get? b=some o→b ∉ X.ex
  exfs:∀ b∈X.ex,b ∉ X.fs
  funs:X.s₀.heap.FunFrames X.base X.outer
  frf:∀ b∈X.fs,X.H₀ b=none
structure Inv (X:Cx) (pins:List (Addr × Obj)) (σ:List (Option V)) (H:Hp) (s:Shared):Prop where
  ok:X.Ok
  os:s.os=X.s₀.os
  bare:AllBare s.gens
  base:Un X.fs X.ex X.H₀ H X.s₀.heap s.heap
  loc:∃ m,s.heap.Ns X.env.locals m∧∀ (i:Nat) (x:Str) (v:V),X.N[i]?=some x→σ[i]?=some (some v)→Vis X.env.scope x→∃ u,RelV v u∧Look X.env s.heap m x u
  cell:∀ x c,X.env.cells.lookup x=some c→∃ v,s.heap.IsCell c v
  free:H X.env.locals=none
  freeC:∀ x c,X.env.cells.lookup x=some c→H c=none
  pin:∀ p∈X.pn ++ pins,s.heap.get? p.1=some p.2∧H p.1=none∧p.1≠X.env.locals∧p.1 ∉ X.fs∧∀ v,p.2.data≠.cell v
  hok:HOk X.prog X.w H s.heap
  len:σ.length=X.N.length
section
variable {X:Cx} {pins:List (Addr × Obj)} {σ:List (Option V)} {H H':Hp} {s:Shared} {h':Heap}
theorem Cx.Ok.nofr (ok:X.Ok) {b:Addr} {o:Obj} (e:X.base.get? b=some o):b ∉ X.fs:=fun hb=>by
  have:=(ok.funs.mem hb).1
  rw [e] at this;cases this
theorem Inv.bs (I:Inv X pins σ H s):∀ b o,X.base.get? b=some o→s.heap.get? b=some o∧H b=none:=fun b o e =>
  ⟨I.base.keep b o (I.ok.bs b o e).1 (I.ok.bs b o e).2 (I.ok.nofr e) (I.ok.noex b o e),I.base.free b o (I.ok.bs b o e).1 (I.ok.bs b o e).2 (I.ok.noex b o e)⟩
theorem Inv.bk (I:Inv X pins σ H s):∀ b o,X.base.get? b=some o→s.heap.get? b=some o:=fun b o e=>(I.bs b o e).1
theorem Inv.mod (I:Inv X pins σ H s):Mod X.K X.mg X.base:=I.ok.mod
theorem Inv.kIn (I:Inv X pins σ H s):X.K.In s.heap:=I.ok.mod.kin.keeps I.bk
theorem Inv.lt (I:Inv X pins σ H s):X.env.locals < s.heap.objs.size:=let ⟨_,hn,_⟩:=I.loc;hn.lt
theorem Inv.sz (I:Inv X pins σ H s):X.s₀.heap.objs.size≤s.heap.objs.size:=Nat.le_trans I.ok.above (Nat.le_of_lt I.lt)
theorem Inv.nofs (I:Inv X pins σ H s) {a:Addr} (h:s.heap.objs.size≤a):a ∉ X.fs:=fun hb=>by
  obtain ⟨_,o,ho,_⟩:=I.ok.funs.mem hb
  exact absurd (Nat.lt_of_lt_of_le (Heap.lt_size ho) (Nat.le_trans I.sz h)) (Nat.lt_irrefl _)
theorem Inv.cne (I:Inv X pins σ H s):∀ x c,X.env.cells.lookup x=some c→c≠X.env.locals:=fun x c e z=>by
  obtain ⟨v,o,ho,hd⟩:=I.cell x c e
  obtain ⟨m,⟨o',es,ep,ho',hd',_⟩,_⟩:=I.loc
  rw [z,ho'] at ho;cases ho;rw [hd'] at hd;cases hd
theorem Inv.funs (I:Inv X pins σ H s):s.heap.FunFrames X.base X.outer:=by
  have all:∀ (l:List Env),(∀ b∈frs l,b∈X.fs)→X.s₀.heap.FunFrames X.base l→s.heap.FunFrames X.base l:=by
    intro l
    induction l with
    | nil=>intro _ _;trivial
    | cons env r ih =>
      intro hs hl
      obtain ⟨hk,⟨L,o,hf,hn,ho,hd⟩,hr⟩:=hl
      have hL:L∈X.fs:=hs L (by unfold frs;rw [List.filterMap_cons,hf];exact List.mem_cons_self)
      obtain ⟨sl,e⟩:=I.base.slot L o ho (I.ok.frf L hL) hL fun z=>I.ok.exfs L z hL
      exact ⟨hk,⟨L,_,hf,hn,e,hd⟩,ih (fun b hb=>hs b (by unfold frs;rw [List.filterMap_cons,hf];exact List.mem_cons_of_mem _ hb)) hr⟩
  exact all X.outer (fun _ hb=>hb) I.ok.funs
theorem Inv.stack (I:Inv X pins σ H s):s.heap.FunFrames X.base X.stack:=by
  rcases I.ok.stk with e | ⟨e,hf⟩
  · rw [e];exact I.funs
  · rw [e]
    obtain ⟨m,hn,_⟩:=I.loc
    refine .cons (by rw [I.ok.kind];decide) hf hn ?_ I.funs
    exact Heap.get?_none_of_le (Nat.le_trans I.ok.bsz I.ok.above)
theorem Inv.stkSub (I:Inv X pins σ H s):∀ b∈frs X.stack,b∈X.env.locals :: X.fs:=fun b hb=>by
  rcases I.ok.stk with e | ⟨e,hf⟩
  · rw [e] at hb;exact List.mem_cons_of_mem _ hb
  · rw [e] at hb
    unfold frs at hb
    rw [List.filterMap_cons,hf] at hb
    exact hb
theorem Inv.stkFree (I:Inv X pins σ H s):∀ b∈frs X.stack,H b=none:=fun b hb=>by
  rcases List.mem_cons.mp (I.stkSub b hb) with e | hb
  · rw [e];exact I.free
  · obtain ⟨_,o,ho,_⟩:=I.ok.funs.mem hb
    exact I.base.free b o ho (I.ok.frf b hb) fun z=>I.ok.exfs b z hb
theorem Inv.step {g':Array GenState} {t':Nat} {d':Drawn} {ch:List Addr} (I:Inv X pins σ H s)
    (hch:∀ b∈ch,(b∈X.ex∨X.s₀.heap.objs.size≤b)∧b≠X.env.locals∧(∀ x c,X.env.cells.lookup x=some c→c≠b)∧∀ p∈X.pn ++ pins,p.1≠b)
    (keep:∀ b o,b≠X.env.locals→b ∉ X.fs→b ∉ ch→s.heap.get? b=some o→H b=none→h'.get? b=some o)
    (slot:∀ b o,b≠X.env.locals→b∈X.fs→b ∉ ch→s.heap.get? b=some o→H b=none→∃ sl,h'.get? b=some { o with slots:=sl }) (free:∀ b o,b ∉ ch→s.heap.get? b=some o→H b=none→H' b=none)
    (there:∀ b o,b ∉ ch→s.heap.get? b=some o→∃ o',h'.get? b=some o')
    (tups:∀ b xs,H b=some (.tup xs)→H' b=some (.tup xs)) (frzs:∀ b o u,H b=some (.frz o u)→H' b=some (.frz o u)) (tbls:∀ b ps,H b=some (.tbl ps)→∃ more,H' b=some (.tbl (ps ++ more)))
    (ns:∀ m,s.heap.Ns X.env.locals m→h'.Ns X.env.locals m) (hok:HOk X.prog X.w H' h') (hg:AllBare g') :
    Inv X pins σ H' { s with heap:=h',gens:=g',drawn:=d',toks:=t' }:=by
  have neL:∀ b o,X.s₀.heap.get? b=some o→b≠X.env.locals:=fun b o e=>Nat.ne_of_lt (Nat.lt_of_lt_of_le (Heap.lt_size e) I.ok.above)
  have neC:∀ b o,X.s₀.heap.get? b=some o→b ∉ X.ex→b ∉ ch:=fun b o e hx hb=>by
    rcases (hch b hb).1 with z | z
    · exact hx z
    · exact absurd (Nat.lt_of_lt_of_le (Heap.lt_size e) z) (Nat.lt_irrefl _)
  have cellK:∀ x c,X.env.cells.lookup x=some c→∀ v,s.heap.IsCell c v→h'.IsCell c v:=fun x c e v ⟨o,ho,hd⟩=>by
    have nch:c ∉ ch:=fun z=>(hch c z).2.2.1 x c e rfl
    by_cases hc:c∈X.fs
    · obtain ⟨sl,q⟩:=slot c o (I.cne x c e) hc nch ho (I.freeC x c e)
      exact ⟨_,q,hd⟩
    · exact ⟨o,keep c o (I.cne x c e) hc nch ho (I.freeC x c e),hd⟩
  refine ⟨I.ok,I.os,hg,⟨fun b o e n hb hx=>?_,fun b o e n hb hx=>?_,fun b o e n hx=>?_,fun b o e hx=>?_,fun b xs e=>tups b xs (I.base.tups b xs e),fun b o xs e=>frzs b o xs (I.base.frzs b o xs e),fun b ps e=>?_⟩,?_,fun x c e=>?_,?_,fun x c e=>?_,fun p hp=>?_,hok,I.len⟩
  · exact keep b o (neL b o e) hb (neC b o e hx) (I.base.keep b o e n hb hx) (I.base.free b o e n hx)
  · obtain ⟨sl,e1⟩:=I.base.slot b o e n hb hx
    obtain ⟨sl',e2⟩:=slot b _ (neL b o e) hb (neC b o e hx) e1 (I.base.free b o e n hx)
    exact ⟨sl',e2⟩
  · obtain ⟨o',e1⟩:=I.base.there b o e hx
    exact free b o' (neC b o e hx) e1 (I.base.free b o e n hx)
  · obtain ⟨o',e1⟩:=I.base.there b o e hx
    exact there b o' (neC b o e hx) e1
  · obtain ⟨m1,e1⟩:=I.base.tbls b ps e
    obtain ⟨m2,e2⟩:=tbls b _ e1
    exact ⟨m1 ++ m2,by rw [e2,Array.append_assoc]⟩
  · obtain ⟨m,hn,hl⟩:=I.loc
    refine ⟨m,ns m hn,fun i x v e1 e2 e3=>?_⟩
    obtain ⟨u,r,l⟩:=hl i x v e1 e2 e3
    refine ⟨u,r,?_⟩
    rcases l with l | ⟨k,c,e,z⟩
    · exact .inl l
    · exact .inr ⟨k,c,e,cellK x c e _ z⟩
  · obtain ⟨v,z⟩:=I.cell x c e
    exact ⟨v,cellK x c e v z⟩
  · obtain ⟨m,⟨o,_,_,ho,_⟩,_⟩:=I.loc
    exact free _ o (fun z=>(hch _ z).2.1 rfl) ho I.free
  · obtain ⟨v,o,ho,hd⟩:=I.cell x c e
    exact free c o (fun z=>(hch c z).2.2.1 x c e rfl) ho (I.freeC x c e)
  · obtain ⟨e,n,ne,nf,d⟩:=I.pin p hp
    have nch:p.1 ∉ ch:=fun z=>(hch p.1 z).2.2.2 p hp rfl
    exact ⟨keep p.1 p.2 ne nf nch e n,free p.1 p.2 nch e n,ne,nf,d⟩
theorem Inv.un {t':Nat} (I:Inv X pins σ H s) (u:Un X.fs [] H H' s.heap h') (hok:HOk X.prog X.w H' h'):Inv X pins σ H' { s with heap:=h',toks:=t' }:=by
  obtain ⟨m,⟨o,es,ep,ho,r⟩,_⟩:=id I.loc
  obtain ⟨sl,hL⟩:=u.any ho I.free (by simp)
  exact I.step (g':=s.gens) (d':=s.drawn) (ch:=[]) (fun _ z=>nomatch z) (fun b o _ hb _ e n=>u.keep b o e n hb (by simp)) (fun b o _ hb _ e n=>u.slot b o e n hb (by simp)) (fun b o _ e n=>u.free b o e n (by simp)) (fun b o _ e=>u.there b o e (by simp)) u.tups u.frzs u.tbls (fun m' hm=>by
    obtain ⟨o',es',ep',ho',r'⟩:=hm
    rw [ho] at ho';cases ho'
    exact ⟨_,es',ep',hL,r'⟩) hok I.bare
theorem Inv.call {g':Array GenState} {t':Nat} {d':Drawn} {ch:List Addr} (I:Inv X pins σ H s) (u:Un (frs X.stack) ch H H' s.heap h') (hok:HOk X.prog X.w H' h') (hg:AllBare g')
    (hch:∀ b∈ch,(b∈X.ex∨X.s₀.heap.objs.size≤b)∧b≠X.env.locals∧(∀ x c,X.env.cells.lookup x=some c→c≠b)∧∀ p∈X.pn ++ pins,p.1≠b) :
    Inv X pins σ H' { s with heap:=h',gens:=g',drawn:=d',toks:=t' }:=by
  obtain ⟨m,⟨o,es,ep,ho,r⟩,_⟩:=id I.loc
  obtain ⟨sl,hL⟩:=u.any ho I.free fun z=>(hch _ z).2.1 rfl
  exact I.step (ch:=ch) hch (fun b o hL hb hc e n=>u.keep b o e n (fun z=>(List.mem_cons.mp (I.stkSub b z)).elim hL hb) hc) (fun b o _ _ hc e n=>u.any e n hc) (fun b o hc e n=>u.free b o e n hc) (fun b o hc e=>u.there b o e hc) u.tups u.frzs u.tbls (fun m' hm=>by
    obtain ⟨o',es',ep',ho',r'⟩:=hm
    rw [ho] at ho';cases ho'
    exact ⟨_,es',ep',hL,r'⟩) hok hg
theorem Inv.turned {t':Nat} {it:Addr} (I:Inv X pins σ H s) (k:∀ b o,b≠it→s.heap.get? b=some o→h'.get? b=some o) (hn:H it=none) (hL:it≠X.env.locals)
    (h1:it∈X.ex∨X.s₀.heap.objs.size≤it) (h2:∀ x c,X.env.cells.lookup x=some c→c≠it) (h3:∀ p∈X.pn ++ pins,p.1≠it):Inv X pins σ H { s with heap:=h',toks:=t' }:=by
  have nit:∀ b u,H b=some u→b≠it:=fun b u e z=>by rw [z,hn] at e;cases e
  refine I.step (g':=s.gens) (d':=s.drawn) (ch:=[it]) (fun b hb=>?_) (fun b o _ _ hc e _=>k b o (fun z=>hc (by simp [z])) e) (fun b o _ _ hc e _=>⟨o.slots,k b o (fun z=>hc (by simp [z])) e⟩) (fun _ _ _ _ n=>n)
    (fun b o hc e=>⟨o,k b o (fun z=>hc (by simp [z])) e⟩) (fun _ _ e=>e) (fun _ _ _ e=>e) (fun b ps e=>⟨#[],by rw [e];simp⟩) (fun m hm=>?_) (fun b u e=>?_) I.bare
  · have e:b=it:=by simpa using hb
    subst e
    exact ⟨h1,hL,h2,h3⟩
  · obtain ⟨o,es,ep,ho,r⟩:=hm
    exact ⟨o,es,ep,k _ o (Ne.symm hL) ho,r⟩
  · refine (I.hok b u e).stay (fun c v hc q=>k c v ?_ q) (fun _ q=>q) fun _ _ q=>q
    rcases hc with z | z
    · rw [z];exact nit b u e
    · exact nit c _ z
theorem Inv.tok (I:Inv X pins σ H s) (t:Nat):Inv X pins σ H { s with toks:=t }:=I.un (h':=s.heap) (t':=t) Un.refl I.hok
theorem Inv.kept {t':Nat} (I:Inv X pins σ H s) (k:∀ b u,s.heap.get? b=some u→h'.get? b=some u):Inv X pins σ H { s with heap:=h',toks:=t' }:=I.un (Un.kept k) (I.hok.kept k)
theorem Inv.laid {a:Addr} {o:HO} {t':Nat} (I:Inv X pins σ H s) (k:∀ b u,s.heap.get? b=some u→h'.get? b=some u) (hp:s.heap.objs.size≤a) (new:ObjOk X.prog X.w (upd H a o) h' a o) :
    Inv X pins σ (upd H a o) { s with heap:=h',toks:=t' }:=I.un (Un.laid k hp (I.hok.fresh hp)) (I.hok.laid k hp new)
theorem Inv.write {x e:Addr} {o:HO} {t':Nat} (I:Inv X pins σ H s) (mu:Mut (H x)) (he:e=x∨H e=some (.own x)) (k:∀ b u,b≠e→s.heap.get? b=some u→h'.get? b=some u) (heo:∃ u,h'.get? e=some u)
    (new:ObjOk X.prog X.w (upd H x o) h' x o):Inv X pins σ (upd H x o) { s with heap:=h',toks:=t' }:=I.un (Un.write mu he k heo) (I.hok.write mu he k heo new)
theorem Inv.pins_of {pins':List (Addr × Obj)} (I:Inv X pins σ H s) (h:∀ p∈pins',s.heap.get? p.1=some p.2∧H p.1=none∧p.1≠X.env.locals∧p.1 ∉ X.fs∧∀ v,p.2.data≠.cell v):Inv X pins' σ H s :=
  ⟨I.ok,I.os,I.bare,I.base,I.loc,I.cell,I.free,I.freeC,fun p hp=>(List.mem_append.mp hp).elim (fun z=>I.pin p (List.mem_append_left _ z)) (h p),I.hok,I.len⟩
theorem nodup_ix {N:List Str} (hN:N.Nodup) {i j:Nat} {x:Str} (a:N[i]?=some x) (b:N[j]?=some x):i=j:=by
  obtain ⟨h1,e1⟩:=List.getElem?_eq_some_iff.mp a
  obtain ⟨h2,e2⟩:=List.getElem?_eq_some_iff.mp b
  exact (List.getElem_inj hN).mp (e1.trans e2.symm)
theorem store_ok2 {M:Model} {A:Around} {E:Value→Shared→Prop} {i:Nat} {x:Str} {v:V} {u:Value} {Q:Unit→Shared→Prop} (I:Inv X pins σ H s) (hN:X.N.Nodup) (hi:X.N[i]?=some x) (hx:Loc X.env.scope x) (r:RelV v u)
    (h:∀ s',Inv X pins (σ.set i (some v)) H s'→(∃ a,Heap.SameBut a s.heap s'.heap∧(a=X.env.locals∨X.env.cells.lookup x=some a))→Q () s') (hf:X.fn x=true∨X.env.scope.names.lookup x=some .local:=by first | exact .inl rfl | exact .inr rfl | assumption):wpAny M A (storeName X.env x u) Q E s:=by
  obtain ⟨m,hn,hl⟩:=id I.loc
  have hcls:(X.env.scope.kind == .class || (X.env.scope.kind == .module && X.env.locals != X.env.globals))=false:=by rw [I.ok.kind];rfl
  have hiσ:i < σ.length:=by rw [I.len];exact (List.getElem?_eq_some_iff.mp hi).1
  have cne:=I.cne
  have tracked:∀ {a:Addr} {h':Heap},(∃ o,s.heap.get? a=some o∧H a=none)→Heap.SameBut a s.heap h'→HOk X.prog X.w H h':=fun {a h'} ha hs b ob e=>by
    obtain ⟨_,_,hfree⟩:=ha
    refine (I.hok b ob e).stay (fun c w' hc q=>(hs.2 c ?_).trans q) (fun _ q=>q) fun _ _ q=>q
    rintro rfl
    rcases hc with rfl | hc
    · rw [hfree] at e;cases e
    · rw [hfree] at hc;cases hc
  rcases hx with hk | hk
  · refine wpAny_storeName_local hk hn (fun h' hn' hs=>?_) hcls
    obtain ⟨oL,_,_,hoL,_⟩:=id hn
    refine h _ ⟨I.ok,I.os,I.bare,⟨fun b o e n hb hx=>?_,fun b o e n hb hx=>?_,I.base.free,fun b o e hx=>?_,I.base.tups,I.base.frzs,I.base.tbls⟩,⟨_,hn',fun j y v' e1 e2 e3=>?_⟩,fun y c e=>?_,I.free,I.freeC,fun p hp=>?_,tracked ⟨oL,hoL,I.free⟩ hs,by simpa using I.len⟩ ⟨_,hs,.inl rfl⟩
    · exact (hs.2 b (Nat.ne_of_lt (Nat.lt_of_lt_of_le (Heap.lt_size e) I.ok.above))).trans (I.base.keep b o e n hb hx)
    · obtain ⟨sl,e1⟩:=I.base.slot b o e n hb hx
      exact ⟨sl,(hs.2 b (Nat.ne_of_lt (Nat.lt_of_lt_of_le (Heap.lt_size e) I.ok.above))).trans e1⟩
    · obtain ⟨o',e1⟩:=I.base.there b o e hx
      exact ⟨o',(hs.2 b (Nat.ne_of_lt (Nat.lt_of_lt_of_le (Heap.lt_size e) I.ok.above))).trans e1⟩
    · by_cases hj:j=i
      · subst hj
        rw [hi] at e1;cases e1
        rw [List.getElem?_set_self hiσ] at e2
        cases e2
        exact ⟨u,r,.inl ⟨hk,by simp⟩⟩
      · rw [List.getElem?_set_ne (Ne.symm hj)] at e2
        obtain ⟨u',r',q⟩:=hl j y v' e1 e2 e3
        refine ⟨u',r',?_⟩
        rcases q with ⟨k,e⟩ | ⟨k,c,e,z⟩
        · refine .inl ⟨k,?_⟩
          have:y≠x:=fun e=>hj (nodup_ix hN e1 (e ▸ hi))
          simp [this,e]
        · exact .inr ⟨k,c,e,z.sameBut hs (cne y c e)⟩
    · obtain ⟨w',z⟩:=I.cell y c e
      exact ⟨w',z.sameBut hs (cne y c e)⟩
    · obtain ⟨e,n,ne,nf,d⟩:=I.pin p hp
      exact ⟨(hs.2 p.1 ne).trans e,n,ne,nf,d⟩
  · have hfn:X.fn x=true:=by
      rcases hf with z | z
      · exact z
      · rw [z] at hk;cases hk
    obtain ⟨c,hc⟩:=I.ok.has x (.inl hk)
    obtain ⟨w',z⟩:=I.cell x c hc
    refine wpAny_storeName_cell I.ok.kind hk hc z (fun h' hc' hs=>?_)
    obtain ⟨oc,hoc,hocd⟩:=id z
    refine h { s with heap:=h' } ⟨I.ok,I.os,I.bare,⟨fun b o e n hb hx=>?_,fun b o e n hb hx=>?_,I.base.free,fun b o e hx=>?_,I.base.tups,I.base.frzs,I.base.tbls⟩,⟨m,hn.sameBut hs (Ne.symm (cne x c hc)),fun j y v' e1 e2 e3=>?_⟩,fun y c' e=>?_,I.free,I.freeC,fun p hp=>?_,tracked ⟨oc,hoc,I.freeC x c hc⟩ hs,by simpa using I.len⟩ ⟨c,hs,.inr hc⟩
    · exact (hs.2 b (Nat.ne_of_lt (Nat.lt_of_lt_of_le (Heap.lt_size e) (I.ok.cab x c hfn hc)))).trans (I.base.keep b o e n hb hx)
    · obtain ⟨sl,e1⟩:=I.base.slot b o e n hb hx
      exact ⟨sl,(hs.2 b (Nat.ne_of_lt (Nat.lt_of_lt_of_le (Heap.lt_size e) (I.ok.cab x c hfn hc)))).trans e1⟩
    · obtain ⟨o',e1⟩:=I.base.there b o e hx
      exact ⟨o',(hs.2 b (Nat.ne_of_lt (Nat.lt_of_lt_of_le (Heap.lt_size e) (I.ok.cab x c hfn hc)))).trans e1⟩
    · by_cases hj:j=i
      · subst hj
        rw [hi] at e1;cases e1
        rw [List.getElem?_set_self hiσ] at e2
        cases e2
        exact ⟨u,r,.inr ⟨.inl hk,c,hc,hc'⟩⟩
      · rw [List.getElem?_set_ne (Ne.symm hj)] at e2
        obtain ⟨u',r',q⟩:=hl j y v' e1 e2 e3
        refine ⟨u',r',?_⟩
        rcases q with q | ⟨k,c',e,z'⟩
        · exact .inl q
        · refine .inr ⟨k,c',e,z'.sameBut hs ?_⟩
          rintro rfl
          exact hj (nodup_ix hN e1 (I.ok.inj _ _ _ e hc ▸ hi))
    · by_cases hcc:c'=c
      · subst hcc;exact ⟨_,hc'⟩
      · obtain ⟨w2,z2⟩:=I.cell y c' e
        exact ⟨w2,z2.sameBut hs hcc⟩
    · obtain ⟨e,n,ne,nf,d⟩:=I.pin p hp
      refine ⟨(hs.2 p.1 ?_).trans e,n,ne,nf,d⟩
      intro q
      rw [q,hoc] at e
      have q':oc=p.2:=Option.some.inj e
      exact d w' (by rw [← q'];exact hocd)
theorem store_ok {M:Model} {A:Around} {E:Value→Shared→Prop} {i:Nat} {x:Str} {v:V} {u:Value} {Q:Unit→Shared→Prop} (I:Inv X pins σ H s) (hN:X.N.Nodup) (hi:X.N[i]?=some x) (hx:Loc X.env.scope x) (r:RelV v u)
    (h:∀ s',Inv X pins (σ.set i (some v)) H s'→Q () s') (hf:X.fn x=true∨X.env.scope.names.lookup x=some .local:=by first | exact .inl rfl | exact .inr rfl | assumption):wpAny M A (storeName X.env x u) Q E s :=
  store_ok2 I hN hi hx r (fun s' I' _=>h s' I') hf
theorem Inv.call' {s':Shared} {ch:List Addr} (I:Inv X pins σ H s) (ho:s'.os=s.os) (u:Un (frs X.stack) ch H H' s.heap s'.heap) (hok:HOk X.prog X.w H' s'.heap) (hg:AllBare s'.gens)
    (hch:∀ b∈ch,(b∈X.ex∨X.s₀.heap.objs.size≤b)∧b≠X.env.locals∧(∀ x c,X.env.cells.lookup x=some c→c≠b)∧∀ p∈X.pn ++ pins,p.1≠b):Inv X pins σ H' s':=by
  obtain ⟨h',g',d',t',o'⟩:=s'
  have e:o'=s.os:=ho
  subst e
  exact I.call (g':=g') (t':=t') (d':=d') u hok hg hch
end
abbrev XK:=Value→Option Addr→Hp→Prop
abbrev St:=List (Option V)
abbrev VK:=V→Hp→Prop
abbrev TE:=St→Hp→VK→Prop
abbrev TT:=St→Hp→(Bool→Hp→Prop)→Prop
abbrev TA:=St→Hp→(List V→Hp→Prop)→Prop
set_option genSizeOf false in
set_option genInjectivity false in
structure Ends where
  nx:St→Hp→Prop
  rt:VK
  bk:St→Hp→Prop:=fun _ _=>False
  ct:St→Hp→Prop:=fun _ _=>False
abbrev TS:=Ends→St→Hp→Prop
def EP (X:Cx) (pins:List (Addr × Obj)) (σ:St) (Q:VK) (u:Value) (s':Shared):Prop:=∃ v H',Inv X pins σ H' s'∧RelV v u∧Q v H'
def TP (X:Cx) (pins:List (Addr × Obj)) (σ:St) (Q:Bool→Hp→Prop) (b:Bool) (s':Shared):Prop:=∃ H',Inv X pins σ H' s'∧Q b H'
def AP (X:Cx) (pins:List (Addr × Obj)) (σ:St) (Q:List V→Hp→Prop) (us:List Value) (s':Shared):Prop:=∃ vs H',Inv X pins σ H' s'∧Vals vs us∧Q vs H'
def SP (X:Cx) (pins:List (Addr × Obj)) (D:Ends) (f:Flow) (s':Shared):Prop :=
  match f with
  | .next=>∃ σ' H',Inv X pins σ' H' s'∧D.nx σ' H'
  | .brk=>∃ σ' H',Inv X pins σ' H' s'∧D.bk σ' H'
  | .cont=>∃ σ' H',Inv X pins σ' H' s'∧D.ct σ' H'
  | .ret u=>∃ v σ' H',Inv X pins σ' H' s'∧RelV v u∧D.rt v H'
def PE (X:Cx) (e:Expr) (t:TE):Prop :=
  ∀ (pins:List (Addr × Obj)) (s:Shared) (σ:St) (H:Hp) (Q:VK),Inv X pins σ H s→t σ H Q→wpAny (model X.prog X.w) X.A (eval e X.env) (EP X pins σ Q) X.xe s
def PT (X:Cx) (e:Expr) (t:TT):Prop :=
  ∀ (pins:List (Addr × Obj)) (s:Shared) (σ:St) (H:Hp) (Q:Bool→Hp→Prop),Inv X pins σ H s→t σ H Q→wpAny (model X.prog X.w) X.A (isTrue e X.env (eval e X.env)) (TP X pins σ Q) X.xe s
def PW (X:Cx) (e:Expr) (t:TT):Prop :=
  ∀ (whole:Sem Value) (pins:List (Addr × Obj)) (s:Shared) (σ:St) (H:Hp) (Q:Bool→Hp→Prop),Inv X pins σ H s→t σ H Q→wpAny (model X.prog X.w) X.A (isTrue e X.env whole) (TP X pins σ Q) X.xe s
theorem PW.pt {X:Cx} {e:Expr} {t:TT} (h:PW X e t):PT X e t:=h _
def PA (X:Cx) (es:List Expr) (t:TA):Prop :=
  ∀ (pos:Pos) (pins:List (Addr × Obj)) (s:Shared) (σ:St) (H:Hp) (Q:List V→Hp→Prop),Inv X pins σ H s→t σ H Q→wpAny (model X.prog X.w) X.A (spliced (backTo pos (starEach es X.env))) (AP X pins σ Q) X.xe s
def PS (X:Cx) (st:Stmt) (t:TS):Prop :=
  ∀ (pins:List (Addr × Obj)) (s:Shared) (σ:St) (H:Hp) (D:Ends),Inv X pins σ H s→t D σ H→wpAny (model X.prog X.w) X.A (exec st X.env) (SP X pins D) X.xe s
def PSs (X:Cx) (st:List Stmt) (t:TS):Prop :=
  ∀ (pins:List (Addr × Obj)) (s:Shared) (σ:St) (H:Hp) (D:Ends),Inv X pins σ H s→t D σ H→wpAny (model X.prog X.w) X.A (execs st X.env) (SP X pins D) X.xe s
theorem thn {α:Type} {t:Sem α} {Q Q':α→Shared→Prop} {M:Model} {A:Around} {E:Value→Shared→Prop} {s:Shared} (h:wpAny M A t Q E s) (hQ:∀ a s,Q a s→Q' a s):wpAny M A t Q' E s:=wpAny_mono h hQ fun _ _ x=>x
end L2
namespace L2
open PySem PySem.Spec PyProof.Rows
section
variable {X:Cx}
def tVar (i:Nat):TE:=fun σ H Q=>∃ v,σ[i]?=some (some v)∧Q v H
def tC (v:V):TE:=fun _ H Q=>Q v H
theorem pe_var {i:Nat} {x:Str} {pos:Pos} (hN:X.N[i]?=some x) (hv:Vis X.env.scope x) (hd:(x == ("__debug__":Str))=false:=by decide) (hcd:(x == ("__classdict__":Str))=false:=by decide):PE X (.Name x pos) (tVar i):=by
  intro pins s σ H Q I h
  obtain ⟨v,e,h⟩:=h
  obtain ⟨m,hn,hl⟩:=I.loc
  obtain ⟨u,r,l⟩:=hl i x v hN e hv
  have fin:EP X pins σ Q u s:=⟨v,H,I,r,h⟩
  rcases l with ⟨hk,hm⟩ | ⟨hk,c,hc,hcell⟩
  · exact wpAny_Name (wpAny_loadName_local I.ok.kind hk hn hm fin) hd
  · rcases hk with hk | hk
    · exact wpAny_Name (wpAny_loadName_cell I.ok.kind hk hc hcell fin) hd
    · exact wpAny_Name (wpAny_loadName_free I.ok.kind hk hc hcell fin hcd) hd
theorem pe_int {i j pos}:PE X (.Constant (.int i) j pos) (tC (.int i)):=fun _ _ _ H _ I h=>wpAny_Constant_int ⟨.int i,H,I.tok _,⟨_,rfl⟩,h⟩
theorem pe_bl {b j pos}:PE X (.Constant (.bool b) j pos) (tC (.bl b)):=fun _ _ _ H _ I h=>Constant_bool ⟨.bl b,H,I,rfl,h⟩
theorem pe_str {x j pos}:PE X (.Constant (.str x) j pos) (tC (.str x)):=fun _ _ _ H _ I h=>Calls.Constant_str ⟨.str x,H,I.tok _,⟨_,rfl⟩,h⟩
def Gl (X:Cx) (x:Str):Prop:=X.env.kindOf x=some .globalImplicit
theorem ld_glob {E:Value→Shared→Prop} {pins:List (Addr × Obj)} {s:Shared} {σ:St} {H:Hp} {x:Str} {u:Value} {pos:Pos} {Q:Value→Shared→Prop} (I:Inv X pins σ H s) (hg:Gl X x) (hm:X.mg x=some u) (h:Q u s)
    (hd:(x == ("__debug__":Str))=false:=by decide):wpAny (model X.prog X.w) X.A (eval (.Name x pos) X.env) Q E s :=
  Calls.Name_function_global I.ok.kind hg (Calls.loadGlobal_global (by rw [I.ok.glob];exact I.mod.glob.keeps I.bk) hm h) hd
theorem ld_blt {E:Value→Shared→Prop} {pins:List (Addr × Obj)} {s:Shared} {σ:St} {H:Hp} {x:Str} {u:Value} {pos:Pos} {Q:Value→Shared→Prop} (I:Inv X pins σ H s) (hg:Gl X x) (hm:X.mg x=none) (hv:bootBuiltins x=some u) (h:Q u s)
    (hn:x≠"__name__":=by decide) (hd:(x == ("__debug__":Str))=false:=by decide):wpAny (model X.prog X.w) X.A (eval (.Name x pos) X.env) Q E s:=by
  obtain ⟨mb,h1,h2⟩:=I.mod.blt
  exact Calls.Name_function_global I.ok.kind hg (Calls.loadGlobal_builtin (by rw [I.ok.glob];exact I.mod.glob.keeps I.bk) hm (by rw [I.ok.blt];exact h1.keeps I.bk) ((h2 x hn).trans hv) h) hd
theorem pe_bltn {x:Str} {v:V} {u:Value} {pos:Pos} (hg:Gl X x) (hm:X.mg x=none) (hv:bootBuiltins x=some u) (r:RelV v u) (hn:x≠"__name__":=by decide) (hd:(x == ("__debug__":Str))=false:=by decide):PE X (.Name x pos) (tC v) :=
  fun _ _ _ H _ I h=>ld_blt I hg hm hv ⟨v,H,I,r,h⟩ hn hd
variable {a b:Expr} {ta tb:TE} {pos:Pos}
def tB (t:TE):TT:=fun σ H Q=>t σ H fun x H1=>∃ c,x=.bl c∧Q c H1
theorem pt_val {e:Expr} {t:TE} (h:PE X e t) (he:∀ whole,isTrue e X.env whole=(do let v ← whole;standAt e.pos;holding [v] (truthy v)):=by intro _;rfl):PT X e (tB t):=by
  intro pins s σ H Q I hw
  refine isTrue_plain (thn (h pins s σ H _ I hw) fun v s1 ⟨x,H1,I1,r1,q1⟩=>?_) (he _)
  obtain ⟨d,rfl,q⟩:=q1
  cases r1
  exact wpAny_truthy_bool ⟨H1,I1,q⟩
variable {tA tB':TT} {rest:List Expr}
def tAnd (t u:TT):TT:=fun σ H Q=>t σ H fun c H1=>if c=true then u σ H1 Q else Q false H1
def tOr (t u:TT):TT:=fun σ H Q=>t σ H fun c H1=>if c=true then Q true H1 else u σ H1 Q
def tNot (t:TT):TT:=fun σ H Q=>t σ H fun c H1=>Q (!c) H1
theorem pw_and1 (ha:PT X a tA):PW X (.BoolOp .And [a] pos) tA:=by
  intro wh pins s σ H Q I h
  refine isTrue_and (thn (ha pins s σ H Q I h) fun c s1 e=>?_)
  cases c with
  | true=>exact isTrue_and_nil e
  | false=>exact e
theorem pw_or1 (ha:PT X a tA):PW X (.BoolOp .Or [a] pos) tA:=by
  intro wh pins s σ H Q I h
  refine isTrue_or (thn (ha pins s σ H Q I h) fun c s1 e=>?_)
  cases c with
  | false=>exact isTrue_or_nil e
  | true=>exact e
theorem pw_and (ha:PT X a tA) (hb:PW X (.BoolOp .And (b :: rest) pos) tB'):PW X (.BoolOp .And (a :: b :: rest) pos) (tAnd tA tB'):=by
  intro wh pins s σ H Q I h
  refine isTrue_and (thn (ha pins s σ H _ I h) fun c s1 ⟨H1,I1,q1⟩=>?_)
  cases c with
  | true=>exact hb wh pins s1 σ H1 Q I1 q1
  | false=>exact ⟨H1,I1,q1⟩
theorem pw_or (ha:PT X a tA) (hb:PW X (.BoolOp .Or (b :: rest) pos) tB'):PW X (.BoolOp .Or (a :: b :: rest) pos) (tOr tA tB'):=by
  intro wh pins s σ H Q I h
  refine isTrue_or (thn (ha pins s σ H _ I h) fun c s1 ⟨H1,I1,q1⟩=>?_)
  cases c with
  | true=>exact ⟨H1,I1,q1⟩
  | false=>exact hb wh pins s1 σ H1 Q I1 q1
theorem pt_not (ha:PT X a tA):PT X (.UnaryOp .Not a pos) (tNot tA):=by
  intro pins s σ H Q I h
  exact isTrue_not (ha pins s σ H (fun c H1=>Q (!c) H1) I h)
def tAndV (ta tb:TE):TE:=fun σ H Q=>ta σ H fun x H1=>∃ c,x=.bl c∧if c=true then tb σ H1 Q else Q (.bl false) H1
def tOrV (ta tb:TE):TE:=fun σ H Q=>ta σ H fun x H1=>∃ c,x=.bl c∧if c=true then Q (.bl true) H1 else tb σ H1 Q
def tNotV (ta:TE):TE:=fun σ H Q=>ta σ H fun x H1=>∃ c,x=.bl c∧Q (.bl (!c)) H1
theorem pe_one {op} {t:TE} (h:PE X a t):PE X (.BoolOp op [a] pos) t:=fun pins s σ H Q I hw=>BoolOp_one (h pins s σ H Q I hw)
theorem pe_or (ha:PE X a ta) (hb:PE X (.BoolOp .Or (b :: rest) pos) tb):PE X (.BoolOp .Or (a :: b :: rest) pos) (tOrV ta tb):=by
  intro pins s σ H Q I h
  refine BoolOp_or (thn (ha pins s σ H _ I h) fun v s1 ⟨x,H1,I1,r1,q1⟩=>?_)
  obtain ⟨c,rfl,q1⟩:=q1
  cases r1
  refine wpAny_truthy_bool ?_
  cases c with
  | false=>exact hb pins s1 σ H1 Q I1 q1
  | true=>exact ⟨.bl true,H1,I1,rfl,q1⟩
def tIf (t:TT) (ta tb:TE):TE:=fun σ H Q=>t σ H fun c H1=>if c=true then ta σ H1 Q else tb σ H1 Q
end
end L2
namespace L2
open PySem PySem.Spec PyProof.Rows
def SqL (K:PySem.W.Frag) (H:Hp) (a:Addr) (xs:List V):Prop :=
  Rd H a (.lst xs) ∨
    ∃ (o:Obj) (its:Array Value) (n:Nat),K.lookup a=some o∧o.cls=.type "list"∧o.dict=none∧o.data=.seq its n∧its.size≤sizeLine∧Vals xs its.toList
def SqT (K:PySem.W.Frag) (H:Hp) (a:Addr) (xs:List V):Prop :=
  Rd H a (.tup xs) ∨
    ∃ (o:Obj) (its:Array Value) (n:Nat),K.lookup a=some o∧o.cls=.type "tuple"∧o.data=.seq its n∧its.size≤sizeLine∧Vals xs its.toList
def absV:Value→Option V
  | .none=>some .non
  | .bool b=>some (.bl b)
  | .int i _=>some (.int i)
  | .str x _=>some (.str x)
  | .bytes b _=>some (.byt b)
  | .float b _=>some (.flt b)
  | .ref a=>some (.ref a)
  | .type n=>some (.ty n)
  | _=>none
theorem RelV.abs {x:V} {u:Value} (r:RelV x u):absV u=some x:=by
  cases x with
  | non=>cases r;rfl
  | bl _=>cases r;rfl
  | int _=>obtain ⟨t,rfl⟩:=r;rfl
  | str _=>obtain ⟨t,rfl⟩:=r;rfl
  | byt _=>obtain ⟨t,rfl⟩:=r;rfl
  | flt _=>obtain ⟨t,rfl⟩:=r;rfl
  | ref _=>cases r;rfl
  | ty _=>cases r;rfl
theorem RelV.inj {x y:V} {u:Value} (r:RelV x u) (q:RelV y u):x=y:=Option.some.inj (r.abs.symm.trans q.abs)
theorem Vals.inj:∀ {xs ys:List V} {us:List Value},Vals xs us→Vals ys us→xs=ys
  | _,_,_,.nil,.nil=>rfl
  | _,_,_,.cons r t,.cons r' t'=>by rw [r.inj r',Vals.inj t t']
section
variable {X:Cx} {pins:List (Addr × Obj)} {σ:St} {H:Hp} {s:Shared} {a:Addr} {xs ys:List V}
theorem SqL.of {K:PySem.W.Frag} (h:H a=some (.lst xs)):SqL K H a xs:=.inl (.inl h)
theorem SqT.of {K:PySem.W.Frag} (h:H a=some (.tup xs)):SqT K H a xs:=.inl (.inl h)
theorem Inv.list (I:Inv X pins σ H s) (h:SqL X.K H a xs):∃ its:List Value,Vals xs its∧PlainL s.heap a its.toArray∧xs.length≤sizeLine:=by
  rcases h with h | ⟨o,its,n,hk,hc,hd,hs,hz,r⟩
  · obtain ⟨z,its,n,r,e⟩:=h.ok I.hok
    exact ⟨its,r,⟨_,n,e,rfl,rfl,rfl⟩,z⟩
  · refine ⟨its.toList,r,⟨o,n,I.kIn a o hk,hc,hd,by simpa using hs⟩,?_⟩
    have e:=r.length
    simp only [Array.length_toList] at e
    omega
theorem Inv.tuple (I:Inv X pins σ H s) (h:SqT X.K H a xs):∃ its:List Value,Vals xs its∧IsTup s.heap a its.toArray∧xs.length≤sizeLine:=by
  rcases h with h | ⟨o,its,n,hk,hc,hs,hz,r⟩
  · obtain ⟨z,its,r,p⟩:=h.ok I.hok
    exact ⟨its,r,p,z⟩
  · refine ⟨its.toList,r,⟨o,I.kIn a o hk,hc,n,by simpa using hs⟩,?_⟩
    have e:=r.length
    simp only [Array.length_toList] at e
    omega
theorem Inv.list_inj (I:Inv X pins σ H s) (h:SqL X.K H a xs) (h':SqL X.K H a ys):xs=ys:=by
  obtain ⟨its,r,⟨o,n,e,_,_,d⟩,_⟩:=I.list h
  obtain ⟨its',r',⟨o',n',e',_,_,d'⟩,_⟩:=I.list h'
  rw [e] at e';cases e'
  rw [d] at d'
  injection d' with d1 _
  have:its=its':=by simpa using congrArg Array.toList d1
  subst this
  exact r.inj r'
end
abbrev Cx.wish (X:Cx) (E:Value→Shared→Prop):Cx:={ X with xe:=E }
abbrev Cx.nox (X:Cx):Cx:=X.wish fun _ _=>False
theorem Cx.Ok.wish {X:Cx} (ok:X.Ok) (E:Value→Shared→Prop):(X.wish E).Ok :=
  ⟨ok.mod,ok.kind,ok.glob,ok.blt,ok.above,ok.inj,ok.has,ok.cab,ok.hd,ok.frames,ok.stk,ok.exf,ok.bs,ok.bsz,ok.noex,ok.exfs,ok.funs,ok.frf⟩
theorem Cx.Ok.unwish {X:Cx} {E:Value→Shared→Prop} (ok:(X.wish E).Ok):X.Ok :=
  ⟨ok.mod,ok.kind,ok.glob,ok.blt,ok.above,ok.inj,ok.has,ok.cab,ok.hd,ok.frames,ok.stk,ok.exf,ok.bs,ok.bsz,ok.noex,ok.exfs,ok.funs,ok.frf⟩
section
variable {X:Cx} {pins:List (Addr × Obj)} {σ:St} {H:Hp} {s:Shared} {E:Value→Shared→Prop}
theorem Inv.wish (I:Inv X pins σ H s) (E:Value→Shared→Prop):Inv (X.wish E) pins σ H s:=⟨I.ok.wish E,I.os,I.bare,I.base,I.loc,I.cell,I.free,I.freeC,I.pin,I.hok,I.len⟩
theorem Inv.unwish (I:Inv (X.wish E) pins σ H s):Inv X pins σ H s:=⟨I.ok.unwish,I.os,I.bare,I.base,I.loc,I.cell,I.free,I.freeC,I.pin,I.hok,I.len⟩
theorem SP.unwish {D:Ends} {f:Flow} {s':Shared} (h:SP (X.wish E) pins D f s'):SP X pins D f s':=by
  cases f with
  | next=>obtain ⟨σ',H',I,q⟩:=h;exact ⟨σ',H',I.unwish,q⟩
  | brk=>obtain ⟨σ',H',I,q⟩:=h;exact ⟨σ',H',I.unwish,q⟩
  | cont=>obtain ⟨σ',H',I,q⟩:=h;exact ⟨σ',H',I.unwish,q⟩
  | ret u=>obtain ⟨v,σ',H',I,r,q⟩:=h;exact ⟨v,σ',H',I.unwish,r,q⟩
theorem PSs.nox {st:List Stmt} {t:TS} (h:PSs X.nox st t):PSs X st t:=fun pins s σ H D I hw =>
  wpAny_mono (h pins s σ H D (I.wish _) hw) (fun _ _ q=>q.unwish) fun _ _ z=>False.elim z
end
section
variable {X:Cx} {st:Stmt} {rest:List Stmt} {t u:TS} {e:Expr} {te:TE} {pos:Pos}
def tNext:TS:=fun D σ H=>D.nx σ H
def tSeq (t u:TS):TS:=fun D σ H=>t { D with nx:=u D } σ H
theorem pss_nil:PSs X [] tNext:=fun _ _ σ H _ I h=>wpAny_execs_nil ⟨σ,H,I,h⟩
theorem pss_cons (h1:PS X st t) (h2:PSs X rest u):PSs X (st :: rest) (tSeq t u):=by
  intro pins s σ H D I h
  refine wpAny_execs_cons (thn (h1 pins s σ H { D with nx:=u D } I h) fun f s1 q=>?_)
  cases f with
  | next =>
    obtain ⟨σ',H',I',q⟩:=q
    exact h2 pins s1 σ' H' D I' q
  | ret v=>exact q
  | brk=>exact q
  | cont=>exact q
theorem pss_one (h1:PS X st t):PSs X [st] t:=by
  intro pins s σ H D I h
  refine wpAny_execs_cons (thn (h1 pins s σ H D I h) fun f s1 q=>?_)
  cases f with
  | next=>exact wpAny_execs_nil q
  | ret v=>exact q
  | brk=>exact q
  | cont=>exact q
def tDrop (te:TE):TS:=fun D σ H=>te σ H fun _ H1=>D.nx σ H1
def tRet (te:TE):TS:=fun D σ H=>te σ H D.rt
theorem ps_ret (he:PE X e te):PS X (.Return (some e) pos) (tRet te):=by
  intro pins s σ H D I h
  exact wpAny_Return_some (thn (he pins s σ H _ I h) fun v s1 ⟨x,H1,I1,r1,q1⟩=>⟨x,σ,H1,I1,r1,q1⟩)
def tRetN:TS:=fun D _ H=>D.rt .non H
def tIfS (c:TT) (t u:TS):TS:=fun D σ H=>c σ H fun b H1=>if b=true then t D σ H1 else u D σ H1
theorem ps_if {c:Expr} {a b:List Stmt} {tc:TT} (hc:PT X c tc) (ha:PSs X a t) (hb:PSs X b u):PS X (.If c a b pos) (tIfS tc t u):=by
  intro pins s σ H D I h
  refine wpAny_If (thn (hc pins s σ H _ I h) fun d s1 ⟨H1,I1,q1⟩=>?_)
  cases d with
  | true=>exact ha pins s1 σ H1 D I1 q1
  | false=>exact hb pins s1 σ H1 D I1 q1
def tNever:TS:=fun _ _ _=>False
end
abbrev TG:=V→St→Hp→(St→Hp→Prop)→Prop
abbrev TGs:=List V→St→Hp→(St→Hp→Prop)→Prop
def PG (X:Cx) (target:Expr) (t:TG):Prop :=
  ∀ (pins:List (Addr × Obj)) (s:Shared) (σ:St) (H:Hp) (v:V) (u:Value) (Q:St→Hp→Prop),Inv X pins σ H s→RelV v u→t v σ H Q →
    wpAny (model X.prog X.w) X.A (assign target X.env u) (fun _ s'=>∃ σ' H',Inv X pins σ' H' s'∧Q σ' H') X.xe s
def PGs (X:Cx) (ts:List Expr) (t:TGs):Prop :=
  ∀ (pins:List (Addr × Obj)) (s:Shared) (σ:St) (H:Hp) (vs:List V) (us:List Value) (Q:St→Hp→Prop),Inv X pins σ H s→Vals vs us→t vs σ H Q →
    wpAny (model X.prog X.w) X.A (assignInOrder ((assignEach ts X.env).map (·.2)) us) (fun _ s'=>∃ σ' H',Inv X pins σ' H' s'∧Q σ' H') X.xe s
abbrev TIp:=V→V→Hp→VK→Prop
section
variable {X:Cx} {pos:Pos}
def gName (i:Nat):TG:=fun v σ H Q=>Q (σ.set i (some v)) H
theorem pg_name {i:Nat} {x:Str} (hN:X.N.Nodup) (hi:X.N[i]?=some x) (hx:Loc X.env.scope x) (hf:X.fn x=true∨X.env.scope.names.lookup x=some .local:=by first | exact .inl rfl | exact .inr rfl | assumption):PG X (.Name x pos) (gName i):=by
  intro pins s σ H v u Q I r h
  exact wpAny_assign_Name (store_ok I hN hi hx r (fun s' I'=>⟨_,H,I',h⟩) hf)
def gNil:TGs:=fun vs σ H Q=>vs=[]∧Q σ H
def gCons (t:TG) (u:TGs):TGs:=fun vs σ H Q=>∃ v r,vs=v :: r∧t v σ H fun σ' H'=>u r σ' H' Q
theorem pgs_nil:PGs X [] gNil:=by
  intro pins s σ H vs us Q I r h
  obtain ⟨e,h⟩:=h
  subst e
  cases r
  exact assignInOrder_nil ⟨σ,H,I,h⟩
theorem pgs_cons {e:Expr} {es:List Expr} {t:TG} {u:TGs} (h1:PG X e t) (h2:PGs X es u)
    (hs:(assignEach (e :: es) X.env).map (·.2)=assign e X.env :: (assignEach es X.env).map (·.2):=by rfl):PGs X (e :: es) (gCons t u):=by
  intro pins s σ H vs us Q I r h
  obtain ⟨v,vr,e1,h⟩:=h
  subst e1
  cases r with
  | cons r rr =>
    rw [hs]
    refine assignInOrder_cons (thn (h1 pins s σ H _ _ _ I r h) fun _ s1 ⟨σ1,H1,I1,q1⟩=>?_)
    exact h2 pins s1 σ1 H1 _ _ Q I1 rr q1
def gTup (K:PySem.W.Frag) (n:Nat) (t:TGs):TG:=fun v σ H Q=>∃ a xs,v=.ref a∧SqT K H a xs∧xs.length=n∧t xs σ H Q
theorem pg_tup {es:List Expr} {k:Nat} {t:TGs} {n:Nat} (hc:X.calm=true) (h:PGs X es t)
    (hn:(assignEach es X.env).length=n:=by rfl) (hst:(assignEach es X.env).findIdx? (·.1)=none:=by rfl):PG X (.Tuple es k pos) (gTup X.K n t):=by
  intro pins s σ H v u Q I r hw
  obtain ⟨a,xs,e1,hq,hl,hw⟩:=hw
  subst e1
  cases r
  obtain ⟨its,rv,ht,hz⟩:=I.tuple hq
  refine assign_Tuple_tuple (I.ok.hd hc) ht (by simp [hn,← hl,rv.length]) hst fun h' hx=>?_
  have I1:Inv X pins σ H { s with heap:=h' }:=I.kept (t':=s.toks) fun b o e=>hx b o (Nat.ne_of_lt (Heap.lt_size e)) e
  exact h pins _ σ H xs _ Q I1 (by simpa using rv) hw
def tAsg (te:TE) (g:TG):TS:=fun D σ H=>te σ H fun x H1=>g x σ H1 D.nx
theorem ps_set {i:Nat} {x:Str} {e:Expr} {te:TE} {pos':Pos} (hN:X.N.Nodup) (hi:X.N[i]?=some x) (hx:Loc X.env.scope x) (he:PE X e te) (hs:swapsWith e (some (.Name x pos')) pos.line X.env=pure false:=by rfl) (hf:X.fn x=true∨X.env.scope.names.lookup x=some .local:=by first | exact .inl rfl | exact .inr rfl | assumption) :
    PS X (.Assign [.Name x pos'] e pos) (tAsg te (gName i)):=by
  intro pins s σ H D I h
  refine wpAny_Assign_Name (thn (he pins s σ H _ I h) fun v s1 ⟨y,H1,I1,r1,q1⟩=>?_) hs
  exact store_ok I1 hN hi hx r1 (fun s2 I2=>⟨_,H1,I2,q1⟩) hf
def tAug (i:Nat) (te:TE) (ti:TIp):TS:=fun D σ H=>∃ x,σ[i]?=some (some x)∧te σ H fun y H1=>ti x y H1 fun z H2=>D.nx (σ.set i (some z)) H2
def ipI (f:Int→Int→Int):TIp:=fun x y H Q=>∃ i j,x=.int i∧y=.int j∧Q (.int (f i j)) H
end
section
variable {X:Cx} {pos:Pos}
end
set_option genSizeOf false in
set_option genInjectivity false in
structure It where
  go:Nat→Hp→Prop
  yld:Nat→Hp→V→Hp→Prop
  stop:Nat→Hp→Prop
def FpOk (X:Cx) (pins:List (Addr × Obj)) (H:Hp) (b:Addr):Prop :=
  H b=none∧b≠X.env.locals∧b ∉ X.fs∧(b∈X.ex∨X.s₀.heap.objs.size≤b)∧(∀ x c,X.env.cells.lookup x=some c→c≠b)∧∀ p∈X.pn ++ pins,p.1≠b
theorem Inv.fpOk {X:Cx} {pins:List (Addr × Obj)} {σ:St} {H H':Hp} {s:Shared} {b:Addr} (I:Inv X pins σ H s) (hb:s.heap.objs.size≤b) (hn:H' b=none):FpOk X pins H' b:=by
  refine ⟨hn,Nat.ne_of_gt (Nat.lt_of_lt_of_le I.lt hb),I.nofs hb,.inr (Nat.le_trans I.sz hb),fun x c e z=>?_,fun p hp z=>?_⟩
  · obtain ⟨v,q⟩:=I.cell x c e
    exact absurd (Nat.lt_of_lt_of_le q.lt (by rw [z];exact hb)) (Nat.lt_irrefl _)
  · exact absurd (Nat.lt_of_lt_of_le (Heap.lt_size (I.pin p hp).1) (by rw [z];exact hb)) (Nat.lt_irrefl _)
structure Turn (P:Program) (w:World) (K:PySem.W.Frag) (tg:Expr) (J:It) (fp:List Addr) (it:Addr) (tn:Nat→Heap→Prop):Prop where
  mem:it∈fp
  obj:∀ i h,tn i h→∀ b∈fp,∃ o,h.get? b=some o∧∀ v,o.data≠.cell v
  keep:∀ i h h',tn i h→(∀ b∈fp,∀ o,h.get? b=some o→h'.get? b=some o)→tn i h'
  item:∀ (X:Cx),X.prog=P→X.w=w→X.K=K→X.calm=true→∀ (i:Nat) (pins:List (Addr × Obj)) (s:Shared) (σ:St) (H:Hp) (E:Value→Shared→Prop),Inv X pins σ H s→(∀ b∈fp,FpOk X pins H b)→tn i s.heap→J.go i H →
    wpAny (model P w) X.A (pyNext (.ref it)) (fun r s1=>∃ u,r=some u ∧
      wpAny (model P w) X.A (letOwnedTupleGo tg (.ref it) u) (fun _ s2=>∃ x H',Inv X pins σ H' s2∧RelV x u∧J.yld i H x H'∧tn (i + 1) s2.heap∧∀ b∈fp,H' b=none) E s1) E s
  done:∀ (X:Cx),X.prog=P→X.w=w→X.K=K→X.calm=true→∀ (i:Nat) (pins:List (Addr × Obj)) (s:Shared) (σ:St) (H:Hp) (E:Value→Shared→Prop),Inv X pins σ H s→(∀ b∈fp,FpOk X pins H b)→tn i s.heap→J.stop i H →
    wpAny (model P w) X.A (pyNext (.ref it)) (fun r s1=>r=none∧Inv X pins σ H s1) E s
  self:∀ (A:Around) (i:Nat) (s:Shared) (Q:Value→Shared→Prop) (E:Value→Shared→Prop),tn i s.heap→Q (.ref it) s→wpAny (model P w) A (pyIter (.ref it)) Q E s
abbrev TI:=St→Hp→(It→Hp→Prop)→Prop
def PIE (X:Cx) (pins:List (Addr × Obj)) (σ:St) (tg:Expr) (R:It→Hp→Prop) (itv:Value) (s2:Shared):Prop :=
  ∃ (it:Addr) (fp:List Addr) (tn:Nat→Heap→Prop) (J:It) (H':Hp),itv=.ref it∧Inv X pins σ H' s2∧Turn X.prog X.w X.K tg J fp it tn∧tn 0 s2.heap∧(∀ b∈fp,FpOk X pins H' b)∧R J H'
def PI (X:Cx) (tg iter:Expr) (wi:TI):Prop :=
  ∀ (pins:List (Addr × Obj)) (s:Shared) (σ:St) (H:Hp) (R:It→Hp→Prop),Inv X pins σ H s→wi σ H R →
    wpAny (model X.prog X.w) X.A (eval iter X.env) (fun v s1=>wpAny (model X.prog X.w) X.A (pyIter v) (PIE X pins σ tg R) X.xe s1) X.xe s
theorem go_of {M:Model} {A:Around} {E:Value→Shared→Prop} {s:Shared} {tg:Expr} {it:Addr} {u:Value} {o:Obj} {n:String} {vs:Array Value} {Q:Unit→Shared→Prop} (ho:s.heap.get? it=some o) (hc:o.cls=.type n) (hd:o.data=.fields vs)
    (hn:["enumerate","zip","dict_itemiterator","dict_reverseitemiterator","odict_iterator","itertools.zip_longest","itertools.pairwise"].contains n=false) (hQ:Q () s):wpAny M A (letOwnedTupleGo tg (.ref it) u) Q E s:=by
  unfold letOwnedTupleGo
  cases tg <;> first
    | exact wpAny_pure hQ
    | (cases u <;> first
        | exact wpAny_pure hQ
        | (refine wpAny_bind (wpAny_load ho ?_)
           rw [hc,hd]
           show wpAny M A (if (["enumerate","zip","dict_itemiterator","dict_reverseitemiterator","odict_iterator","itertools.zip_longest","itertools.pairwise"].contains n && vs[0]? == some (rawInt _))=true then _ else _) Q E s
           rw [if_neg (by intro h;rw [hn,Bool.false_and] at h;cases h)]
           exact wpAny_pure hQ))
def Itl (K:PySem.W.Frag) (a:Addr):It :=
  ⟨fun i H=>∃ xs x,SqL K H a xs∧xs[i]?=some x,fun i H x H'=>H'=H∧∀ xs,SqL K H a xs→xs[i]?=some x,fun i H=>∃ xs,SqL K H a xs∧xs.length≤i⟩
def Itt (K:PySem.W.Frag) (a:Addr):It :=
  ⟨fun i H=>∃ xs x,SqT K H a xs∧xs[i]?=some x,fun i H x H'=>H'=H∧∀ xs,SqT K H a xs→xs[i]?=some x,fun i H=>∃ xs,SqT K H a xs∧xs.length≤i⟩
def Itr (lo:Int) (n:Nat):It:=⟨fun i _=>i < n,fun i H x H'=>H'=H∧x=.int (lo + i),fun i _=>n≤i⟩
theorem turn_list {P:Program} {w:World} {K:PySem.W.Frag} {tg:Expr} (a it:Addr):Turn P w K tg (Itl K a) [it] it (fun i h=>h.IsListIter it a i) where
  mem:=by simp
  obj:=fun i h st b hb=>by
    have e:b=it:=by simpa using hb
    subst e
    obtain ⟨o,e,c,d⟩:=st
    exact ⟨o,e,fun v z=>by rw [d] at z;cases z⟩
  keep:=fun i h h' st k=>st.at fun o e=>k it (by simp) o e
  item:=by
    intro X hP hw hK hc i pins s σ H E I hf st hg
    subst hP hw hK
    obtain ⟨xs,x,hq,hx⟩:=hg
    obtain ⟨its,rv,p,hz⟩:=I.list hq
    obtain ⟨u,hu,ru⟩:=rv.get hx
    obtain ⟨f0,f1,f2,f3,f4,f5⟩:=hf it (by simp)
    refine wpAny_pyNext_list_item st p.isList (x:=u) (by simpa using hu) fun h' st' sb=>?_
    have I1:Inv X pins σ H { s with heap:=h' }:=I.turned (t':=s.toks) (fun b o hb e=>(sb.2 b hb).trans e) f0 f1 f3 f4 f5
    obtain ⟨o,e,c,d⟩:=id st'
    exact ⟨u,rfl,go_of (s:={ s with heap:=h' }) e c d (by decide) ⟨x,H,I1,ru,⟨rfl,fun ys hy=>by rw [I.list_inj hy hq];exact hx⟩,st',fun b hb=>(hf b hb).1⟩⟩
  done:=by
    intro X hP hw hK hc i pins s σ H E I hf st hg
    subst hP hw hK
    obtain ⟨xs,hq,hx⟩:=hg
    obtain ⟨its,rv,p,hz⟩:=I.list hq
    obtain ⟨f0,f1,f2,f3,f4,f5⟩:=hf it (by simp)
    have hl:=rv.length
    exact wpAny_pyNext_list_end (I.ok.hd hc) st p.isList (by simp;omega) fun h' eb=>⟨rfl,I.turned (t':=s.toks) (fun b o hb e=>eb b o hb e) f0 f1 f3 f4 f5⟩
  self:=fun _ _ _ _ _ st h=>wpAny_pyIter_listiter st h
theorem turn_range {P:Program} {w:World} {K:PySem.W.Frag} {tg:Expr} (it:Addr) (lo:Int) (n:Nat):Turn P w K tg (Itr lo n) [it] it (fun i h=>IsRangeIter h it (lo + (i:Nat) * 1) ((n:Int) - (i:Nat)) 1) where
  mem:=by simp
  obj:=fun i h st b hb=>by
    have e:b=it:=by simpa using hb
    subst e
    exact ⟨_,st,fun v z=>by
      have z':Data.fields _=Data.cell v:=z
      cases z'⟩
  keep:=fun i h h' st k=>k it (by simp) _ st
  item:=by
    intro X hP hw hK hc i pins s σ H E I hf st hg
    subst hP hw hK
    obtain ⟨f0,f1,f2,f3,f4,f5⟩:=hf it (by simp)
    have W:=Walks.range (prog:=X.prog) (w:=X.w) (I.ok.hd hc) it lo 1 n
    refine W.item i s _ _ hg st fun v h' tk hv st' kk=>?_
    obtain ⟨t,rfl⟩:=hv
    have I1:Inv X pins σ H { s with heap:=h',toks:=tk }:=I.turned (fun b o hb e=>kk b o (by simpa using hb) e) f0 f1 f3 f4 f5
    refine ⟨_,rfl,go_of (s:={ s with heap:=h',toks:=tk }) (n:="range_iterator") st' rfl rfl (by decide) ⟨.int (lo + i),H,I1,⟨t,?_⟩,⟨rfl,rfl⟩,st',fun b hb=>(hf b hb).1⟩⟩
    rw [Int.mul_one]
  done:=by
    intro X hP hw hK hc i pins s σ H E I hf st hg
    subst hP hw hK
    obtain ⟨f0,f1,f2,f3,f4,f5⟩:=hf it (by simp)
    exact wpAny_pyNext_range_end (I.ok.hd hc) st (by have:n≤i:=hg;omega) fun h' eb=>⟨rfl,I.turned (t':=s.toks) (fun b o hb e=>eb b o hb e) f0 f1 f3 f4 f5⟩
  self:=fun _ _ _ _ _ st h=>wpAny_pyIter_rangeiter st h
end L2
namespace L2
open PySem PySem.Spec PyProof.Rows
section
variable {X:Cx} {tg:Expr}
def iList (K:PySem.W.Frag) (tl:TE):TI:=fun σ H R=>tl σ H fun x H1=>∃ a,x=.ref a∧(∃ xs,SqL K H1 a xs)∧R (Itl K a) H1
def iTup (K:PySem.W.Frag) (tl:TE):TI:=fun σ H R=>tl σ H fun x H1=>∃ a,x=.ref a∧(∃ xs,SqT K H1 a xs)∧R (Itt K a) H1
theorem pi_list {l:Expr} {tl:TE} (hl:PE X l tl):PI X tg l (iList X.K tl):=by
  intro pins s σ H R I h
  refine thn (hl pins s σ H _ I h) fun v s1 ⟨x,H1,I1,r1,q1⟩=>?_
  obtain ⟨a,e,⟨xs,hq⟩,q⟩:=q1
  subst e
  cases r1
  obtain ⟨its,rv,p,hz⟩:=I1.list hq
  refine wpAny_pyIter_list p.isList ?_
  refine ⟨s1.heap.objs.size,[s1.heap.objs.size],_,_,H1,rfl,I1.kept (t':=s1.toks) fun b o e=>Heap.get?_push_of_some _ e,turn_list a _,⟨_,Heap.get?_push_size _ rfl,rfl,rfl⟩,fun b hb=>?_,q⟩
  have e:b=s1.heap.objs.size:=by simpa using hb
  subst e
  exact I1.fpOk (Nat.le_refl _) (I1.hok.fresh (Nat.le_refl _))
theorem range_it {pins:List (Addr × Obj)} {σ:St} {H:Hp} {s:Shared} {R:It→Hp→Prop} {E:Value→Shared→Prop} {lo hi:Int} {t u v:Tok} {tk:Nat} (I:Inv X pins σ H s) (h1:-(2 ^ 62)≤lo) (h2:lo < 2 ^ 62) (h3:-(2 ^ 62)≤hi) (h4:hi < 2 ^ 62)
    (q:R (Itr lo (hi - lo).toNat) H):wpAny (model X.prog X.w) X.A (pyIter (.ref s.heap.objs.size)) (PIE X pins σ tg R) E { s with heap:=s.heap.push { cls:=.type "range",data:=.fields #[.int lo t,.int hi u,.int 1 v] },toks:=tk }:=by
  refine wpAny_pyIter_range (IsRange.new ..) (small_one h1 h2 h3 h4) ?_
  have I1:Inv X pins σ H { s with heap:=s.heap.push { cls:=.type "range",data:=.fields #[.int lo t,.int hi u,.int 1 v] },toks:=tk }:=I.kept fun b o e=>Heap.get?_push_of_some _ e
  refine ⟨(s.heap.push { cls:=.type "range",data:=.fields #[.int lo t,.int hi u,.int 1 v] }).objs.size,[(s.heap.push { cls:=.type "range",data:=.fields #[.int lo t,.int hi u,.int 1 v] }).objs.size],_,_,H,rfl,
    I1.kept (t':=tk) fun b o e=>Heap.get?_push_of_some _ e,turn_range _ lo (hi - lo).toNat,?_,fun b hb=>?_,q⟩
  · have e1:lo + ((0:Nat):Int) * 1=lo:=by simp
    have e2:(((hi - lo).toNat:Nat):Int) - ((0:Nat):Int)=Builtin.Range.rangeSize lo hi 1:=by rw [rangeSize_one];split <;> omega
    show IsRangeIter _ _ (lo + ((0:Nat):Int) * 1) ((((hi - lo).toNat:Nat):Int) - ((0:Nat):Int)) 1
    rw [e1,e2]
    exact Heap.get?_push_size _ rfl
  · have e:b=(s.heap.push { cls:=.type "range",data:=.fields #[.int lo t,.int hi u,.int 1 v] }).objs.size:=by simpa using hb
    subst e
    exact I1.fpOk (Nat.le_refl _) (I1.hok.fresh (Nat.le_refl _))
def iRng1 (ta:TA):TI:=fun σ H R=>ta σ H fun vs H1=>∃ j:Int,vs=[.int j]∧-(2 ^ 62)≤j∧j < 2 ^ 62∧R (Itr 0 j.toNat) H1
def iRng2 (ta:TA):TI:=fun σ H R=>ta σ H fun vs H1=>∃ i j:Int,vs=[.int i,.int j]∧(-(2 ^ 62)≤i∧i < 2 ^ 62∧-(2 ^ 62)≤j∧j < 2 ^ 62)∧R (Itr i (j - i).toNat) H1
theorem pi_range1 {a:Expr} {ta:TA} {p pos:Pos} (hg:Gl X "range") (hm:X.mg "range"=none) (ha:PA X [a] ta) (hs:starEach [a] X.env=[(false,eval a X.env)]:=by rfl):PI X tg (.Call (.Name "range" p) [a] [] pos) (iRng1 ta):=by
  intro pins s σ H R I h
  refine Call_ (ld_blt I hg hm boot_range (PyProof.Rows.callWith_type1 (thn (ha pos pins s σ H _ I h) fun us s1 ⟨vs,H1,I1,r1,q1⟩=>?_) hs rfl))
  obtain ⟨j,e,q1,q2,q⟩:=q1
  subst e
  cases r1 with
  | cons r rr =>
    cases rr
    obtain ⟨t,rfl⟩:=r
    exact call_range_1 (range_it I1 (by omega) (by omega) q1 q2 (by simpa using q))
def tFor (wi:TI) (g:TG) (tb:TS):TS:=fun D σ H=>wi σ H fun J H1=>∃ W:Nat→Nat→St→Hp→Prop,(∃ m,W 0 m σ H1)∧∀ i m σ H,W i m σ H →
  (J.stop i H∧D.nx σ H)∨(J.go i H∧∃ N:St→Hp→Prop,(∀ σ' H',N σ' H'→∃ m',m' < m∧W (i + 1) m' σ' H')∧∀ x H',J.yld i H x H'→g x σ H' fun σ2 H2=>tb { D with nx:=N,ct:=N,bk:=D.nx } σ2 H2)
def pinsAt (fp:List Addr) (h:Heap):List (Addr × Obj):=fp.filterMap fun b=>(h.get? b).map fun o=>(b,o)
theorem mem_pinsAt {fp:List Addr} {h:Heap} {b:Addr} {o:Obj} (hb:b∈fp) (e:h.get? b=some o):(b,o)∈pinsAt fp h:=List.mem_filterMap.mpr ⟨b,hb,by rw [e];rfl⟩
theorem of_pinsAt {fp:List Addr} {h:Heap} {p:Addr × Obj} (hp:p∈pinsAt fp h):p.1∈fp∧h.get? p.1=some p.2:=by
  obtain ⟨b,hb,e⟩:=List.mem_filterMap.mp hp
  cases q:h.get? b with
  | none=>rw [q] at e;cases e
  | some o =>
    rw [q] at e
    have e':(b,o)=p:=Option.some.inj e
    subst e'
    exact ⟨hb,q⟩
theorem Inv.pinned {pins:List (Addr × Obj)} {σ:St} {H:Hp} {s:Shared} {fp:List Addr} (I:Inv X pins σ H s) (hf:∀ b∈fp,FpOk X pins H b) (ho:∀ b∈fp,∃ o,s.heap.get? b=some o∧∀ v,o.data≠.cell v):Inv X (pins ++ pinsAt fp s.heap) σ H s :=
  I.pins_of fun p hp=>(List.mem_append.mp hp).elim (fun z=>I.pin p (List.mem_append_right _ z)) fun z=>by
    obtain ⟨hb,e⟩:=of_pinsAt z
    obtain ⟨f0,f1,f2,_⟩:=hf p.1 hb
    obtain ⟨o,e',d⟩:=ho p.1 hb
    rw [e] at e';cases e'
    exact ⟨e,f0,f1,f2,d⟩
theorem Inv.unpinned {pins pl:List (Addr × Obj)} {σ:St} {H:Hp} {s:Shared} (I:Inv X (pins ++ pl) σ H s):Inv X pins σ H s:=I.pins_of fun p hp=>I.pin p (List.mem_append_right _ (List.mem_append_left _ hp))
theorem ps_for {iter:Expr} {body:List Stmt} {wi:TI} {g:TG} {tb:TS} {pos:Pos} (hp:PassesOwn (model X.prog X.w) X.A X.env X.xe) (hc:X.calm=true) (hi:PI X tg iter wi) (hg:PG X tg g) (hb:PSs X body tb)
    (hs:∀ x,foldedSetIterable iter X.env x=pure x:=by intro _;rfl):PS X (.For tg iter body [] pos) (tFor wi g tb):=by
  intro pins s σ H D I h
  refine wpAny_For (thn (hi pins s σ H _ I h) fun v s1 h1=>thn h1 fun itv s2 h2=>?_) hs
  obtain ⟨it,fp,tn,J,H2,e,I2,T,st2,f2,W,⟨m0,w0⟩,turn⟩:=h2
  subst e
  -- what stays true of the iterator's objects through the loop
  have stat:∀ {H':Hp},(∀ b∈fp,H' b=none)→∀ b∈fp,FpOk X pins H' b:=fun hn b hb=>⟨hn b hb,(f2 b hb).2⟩
  refine codeAny_forLoop_any (fun n s'=>∃ i σ' H',Inv X pins σ' H' s'∧tn i s'.heap∧(∀ b∈fp,H' b=none)∧W i n σ' H') ?_ m0 ⟨0,σ,H2,I2,st2,fun b hb=>(f2 b hb).1,w0⟩
  rintro n s3 ⟨i,σ3,H3,I3,st3,fr3,w3⟩
  rcases turn i n σ3 H3 w3 with ⟨stop,qn⟩ | ⟨go,N,hN,step⟩
  · refine wpAny_passesOwn hp (thn (T.done X rfl rfl rfl hc i pins s3 σ3 H3 X.xe I3 (stat fr3) st3 stop) fun r s4 ⟨hr,I4⟩=>?_)
    subst hr
    exact wpAny_execs_nil ⟨σ3,H3,I4,qn⟩
  · refine wpAny_passesOwn hp (thn (T.item X rfl rfl rfl hc i pins s3 σ3 H3 X.xe I3 (stat fr3) st3 go) fun r s4 ⟨u,hr,h4⟩=>?_)
    subst hr
    refine wpAny_passesOwn hp (thn h4 fun _ s5 ⟨x,H5,I5,r5,y5,st5,fr5⟩=>?_)
    have I5':=I5.pinned (stat fr5) (T.obj _ _ st5)
    refine wpAny_passesOwn hp (thn (hg _ s5 σ3 H5 x u _ I5' r5 (step x H5 y5)) fun _ s6 ⟨σ6,H6,I6,q6⟩=>?_)
    refine wpAny_passesOwn hp (thn (hb _ s6 σ6 H6 _ I6 q6) fun f s7 q7=>?_)
    have again:∀ {σ7:St} {H7:Hp},Inv X (pins ++ pinsAt fp s5.heap) σ7 H7 s7→N σ7 H7→∃ m,m < n∧∃ i σ' H',Inv X pins σ' H' s7∧tn i s7.heap∧(∀ b∈fp,H' b=none)∧W i m σ' H':=fun {σ7 H7} I7 n7=>by
      obtain ⟨m',hm,w7⟩:=hN σ7 H7 n7
      refine ⟨m',hm,i + 1,σ7,H7,I7.unpinned,T.keep _ _ _ st5 fun b hb o e=>(I7.pin (b,o) (List.mem_append_right _ (List.mem_append_right _ (mem_pinsAt hb e)))).1,fun b hb=>?_,w7⟩
      obtain ⟨o,e,d⟩:=T.obj _ _ st5 b hb
      exact (I7.pin (b,o) (List.mem_append_right _ (List.mem_append_right _ (mem_pinsAt hb e)))).2.1
    cases f with
    | next=>obtain ⟨σ7,H7,I7,n7⟩:=q7;exact again I7 n7
    | cont=>obtain ⟨σ7,H7,I7,n7⟩:=q7;exact again I7 n7
    | brk=>obtain ⟨σ7,H7,I7,q7⟩:=q7;exact ⟨σ7,H7,I7.unpinned,q7⟩
    | ret v=>obtain ⟨x7,σ7,H7,I7,r7,q7⟩:=q7;exact ⟨x7,σ7,H7,I7.unpinned,r7,q7⟩
end
end L2
namespace L2
open PySem PySem.Spec PyProof.Rows
abbrev R2:=V→V→Hp→VK→Prop
def OpR (X:Cx) (f:Value→Value→Sem Value) (r:R2):Prop :=
  ∀ (pins:List (Addr × Obj)) (s:Shared) (σ:St) (H:Hp) (x y:V) (v u:Value) (Q:VK),Inv X pins σ H s→RelV x v→RelV y u→r x y H Q →
    wpAny (model X.prog X.w) X.A (f v u) (EP X pins σ Q) X.xe s
def UnR (X:Cx) (f:Value→Sem Value) (r:V→Hp→VK→Prop):Prop :=
  ∀ (pins:List (Addr × Obj)) (s:Shared) (σ:St) (H:Hp) (x:V) (v:Value) (Q:VK),Inv X pins σ H s→RelV x v→r x H Q →
    wpAny (model X.prog X.w) X.A (f v) (EP X pins σ Q) X.xe s
def CallR (X:Cx) (f:Value) (r:List V→Hp→VK→Prop):Prop :=
  ∀ (pins:List (Addr × Obj)) (s:Shared) (σ:St) (H:Hp) (xs:List V) (us:List Value) (Q:VK),Inv X pins σ H s→Vals xs us→r xs H Q →
    wpAny (model X.prog X.w) X.A (call f us) (EP X pins σ Q) X.xe s
def tOp (r:R2) (ta tb:TE):TE:=fun σ H Q=>ta σ H fun x H1=>tb σ H1 fun y H2=>r x y H2 Q
def tUn (r:V→Hp→VK→Prop) (ta:TE):TE:=fun σ H Q=>ta σ H fun x H1=>r x H1 Q
def rI (C:Int→Int→Prop) (g:Int→Int→V):R2:=fun x y H Q=>∃ i j,x=.int i∧y=.int j∧C i j∧Q (g i j) H
def rI0 (g:Int→Int→V):R2:=fun x y H Q=>∃ i j,x=.int i∧y=.int j∧Q (g i j) H
def rU (g:Int→V):V→Hp→VK→Prop:=fun x H Q=>∃ i,x=.int i∧Q (g i) H
section
variable {X:Cx} {a b c:Expr} {ta tb tc:TE} {pos:Pos}
theorem binT (ha:PE X a ta) (hb:PE X b tb) {pins:List (Addr × Obj)} {s:Shared} {σ:St} {H:Hp} {R:V→V→Hp→Prop} (I:Inv X pins σ H s)
    (h:ta σ H fun x H1=>tb σ H1 fun y H2=>R x y H2) {Q:Value→Shared→Prop} {f:Value→Value→Sem Value}
    (hf:∀ v u s2 x y H2,Inv X pins σ H2 s2→RelV x v→RelV y u→R x y H2→wpAny (model X.prog X.w) X.A (f v u) Q X.xe s2) :
    wpAny (model X.prog X.w) X.A (eval a X.env) (fun v s₁=>wpAny (model X.prog X.w) X.A (eval b X.env) (fun u s₂=>wpAny (model X.prog X.w) X.A (f v u) Q X.xe s₂) X.xe s₁) X.xe s:=by
  refine thn (ha pins s σ H _ I h) fun v s1 ⟨x,H1,I1,r1,q1⟩=>?_
  refine thn (hb pins s1 σ H1 _ I1 q1) fun u s2 ⟨y,H2,I2,r2,q2⟩=>?_
  exact hf v u s2 x y H2 I2 r1 r2 q2
theorem pe_op {op:Operator} {r:R2} (ho:OpR X (binaryOp op) r) (ha:PE X a ta) (hb:PE X b tb):PE X (.BinOp a op b pos) (tOp r ta tb):=by
  intro pins s σ H Q I h
  exact wpAny_BinOp (binT ha hb I h fun v u s2 x y H2 I2 rx ry q=>ho pins s2 σ H2 x y v u Q I2 rx ry q)
theorem pe_un {op:UnaryOp} {r:V→Hp→VK→Prop} (ho:UnR X (unaryOp op) r) (ha:PE X a ta):PE X (.UnaryOp op a pos) (tUn r ta):=by
  intro pins s σ H Q I h
  exact UnaryOp_ (thn (ha pins s σ H _ I h) fun v s1 ⟨x,H1,I1,r1,q1⟩=>ho pins s1 σ H1 x v Q I1 r1 q1)
theorem opI {f:Value→Value→Sem Value} {C:Int→Int→Prop} {g:Int→Int→Int}
    (rule:∀ (i j:Int) (t u:Tok) (s:Shared) (Q:Value→Shared→Prop) (E:Value→Shared→Prop),C i j→Q (.int (g i j) s.toks) { s with toks:=s.toks + 1 }→wpAny (model X.prog X.w) X.A (f (.int i t) (.int j u)) Q E s) :
    OpR X f (rI C fun i j=>.int (g i j)):=by
  intro pins s σ H x y v u Q I rx ry h
  obtain ⟨i,j,rfl,rfl,hc,q⟩:=h
  obtain ⟨t,rfl⟩:=rx
  obtain ⟨t',rfl⟩:=ry
  exact rule i j t t' s _ _ hc ⟨.int (g i j),H,I.tok _,⟨_,rfl⟩,q⟩
theorem opI0 {f:Value→Value→Sem Value} {g:Int→Int→Int}
    (rule:∀ (i j:Int) (t u:Tok) (s:Shared) (Q:Value→Shared→Prop) (E:Value→Shared→Prop),Q (.int (g i j) s.toks) { s with toks:=s.toks + 1 }→wpAny (model X.prog X.w) X.A (f (.int i t) (.int j u)) Q E s) :
    OpR X f (rI0 fun i j=>.int (g i j)):=by
  intro pins s σ H x y v u Q I rx ry h
  obtain ⟨i,j,rfl,rfl,q⟩:=h
  obtain ⟨t,rfl⟩:=rx
  obtain ⟨t',rfl⟩:=ry
  exact rule i j t t' s _ _ ⟨.int (g i j),H,I.tok _,⟨_,rfl⟩,q⟩
theorem opB0 {f:Value→Value→Sem Value} {g:Int→Int→Bool}
    (rule:∀ (i j:Int) (t u:Tok) (s:Shared) (Q:Value→Shared→Prop) (E:Value→Shared→Prop),Q (.bool (g i j)) s→wpAny (model X.prog X.w) X.A (f (.int i t) (.int j u)) Q E s) :
    OpR X f (rI0 fun i j=>.bl (g i j)):=by
  intro pins s σ H x y v u Q I rx ry h
  obtain ⟨i,j,rfl,rfl,q⟩:=h
  obtain ⟨t,rfl⟩:=rx
  obtain ⟨t',rfl⟩:=ry
  exact rule i j t t' s _ _ ⟨.bl (g i j),H,I,rfl,q⟩
def CPow (i j:Int):Prop:=0≤j∧j≤1000000∧i.natAbs < 2 ^ 64
theorem op_add:OpR X (binaryOp .Add) (rI0 fun i j=>.int (i + j)):=opI0 fun _ _ _ _ _ _ _ q=>add_int q
theorem op_sub:OpR X (binaryOp .Sub) (rI0 fun i j=>.int (i - j)):=opI0 fun _ _ _ _ _ _ _ q=>sub_int q
theorem op_mod:OpR X (binaryOp .Mod) (rI (fun _ j=>0 < j) fun i j=>.int (i % j)):=opI fun i j _ _ _ _ _ hc q=>by
  have h1:(0:Int) < j:=hc
  exact mod_int' (by omega) (by rw [Int.fmod_eq_emod_of_nonneg i (by omega)];exact q)
theorem op_pow:OpR X (binaryOp .Pow) (rI CPow fun i j=>.int (i ^ j.toNat)):=opI fun _ _ _ _ _ _ _ hc q=>pow_int_small hc.1 hc.2.1 hc.2.2 q
theorem unI {f:Value→Sem Value} {g:Int→Int}
    (rule:∀ (i:Int) (t:Tok) (s:Shared) (Q:Value→Shared→Prop) (E:Value→Shared→Prop),Q (.int (g i) s.toks) { s with toks:=s.toks + 1 }→wpAny (model X.prog X.w) X.A (f (.int i t)) Q E s) :
    UnR X f (rU fun i=>.int (g i)):=by
  intro pins s σ H x v Q I rx h
  obtain ⟨i,rfl,q⟩:=h
  obtain ⟨t,rfl⟩:=rx
  exact rule i t s _ _ ⟨.int (g i),H,I.tok _,⟨_,rfl⟩,q⟩
theorem un_neg:UnR X (unaryOp .USub) (rU fun i=>.int (-i)):=unI fun _ _ _ _ _ q=>neg_int q
end
def scal:V→V→Bool
  | .non,.non=>true | .non,.int _=>true | .int _,.non=>true | .non,.bl _=>true | .bl _,.non=>true | .non,.str _=>true | .str _,.non=>true
  | .int _,.int _=>true | .bl _,.bl _=>true | .str _,.str _=>true | .byt _,.byt _=>true
  | .int _,.str _=>true | .str _,.int _=>true | .bl _,.str _=>true | .str _,.bl _=>true
  | _,_=>false
def rEq:R2:=fun x y H Q=>scal x y=true∧Q (.bl (decide (x=y))) H
def rNe:R2:=fun x y H Q=>scal x y=true∧Q (.bl (!decide (x=y))) H
theorem dec_int {i j:Int}:decide (V.int i=V.int j)=(i == j):=by
  rw [Bool.eq_iff_iff]
  simp
theorem dec_bl {i j:Bool}:decide (V.bl i=V.bl j)=(i == j):=by
  rw [Bool.eq_iff_iff]
  simp
theorem dec_str {i j:Str}:decide (V.str i=V.str j)=(i == j):=by
  rw [Bool.eq_iff_iff]
  simp
theorem dec_byt {i j:Array UInt8}:decide (V.byt i=V.byt j)=(i.toList == j.toList):=by
  rw [Bool.eq_iff_iff]
  cases i
  cases j
  simp
section
variable {X:Cx} {a b c:Expr} {ta tb tc:TE} {pos:Pos}
theorem fin_bl {pins:List (Addr × Obj)} {σ:St} {H:Hp} {s:Shared} {Q:VK} {k k':Bool} (I:Inv X pins σ H s) (q:Q (.bl k) H) (e:k=k'):EP X pins σ Q (.bool k') s:=by
  subst e
  exact ⟨.bl k,H,I,rfl,q⟩
theorem op_eq:OpR X (compareOp .Eq) rEq:=by
  intro pins s σ H x y v u Q I rx ry h
  obtain ⟨hs,q⟩:=h
  cases x with
  | non =>
    cases rx
    cases y with
    | non=>cases ry;exact PySem.EqNone.eq_none_none (fin_bl I q (by simp))
    | bl j=>cases ry;exact PySem.EqNone.eq_none_bool (fin_bl I q (by simp))
    | int j=>obtain ⟨t',rfl⟩:=ry;exact PySem.EqNone.eq_none_int (fin_bl I q (by simp))
    | str j=>obtain ⟨t',rfl⟩:=ry;exact PySem.EqNone.eq_none_str (fin_bl I q (by simp))
    | _=>exact absurd (show false=true from hs) Bool.false_ne_true
  | bl i =>
    cases rx
    cases y with
    | non=>cases ry;exact PySem.EqNone.eq_bool_none (fin_bl I q (by simp))
    | bl j=>cases ry;exact eq_bool (fin_bl I q dec_bl)
    | str j=>obtain ⟨t',rfl⟩:=ry;exact PySem.EqMixed.eq_bool_str (fin_bl I q (by simp))
    | _=>exact absurd (show false=true from hs) Bool.false_ne_true
  | int i =>
    obtain ⟨t,rfl⟩:=rx
    cases y with
    | non=>cases ry;exact PySem.EqNone.eq_int_none (fin_bl I q (by simp))
    | int j=>obtain ⟨t',rfl⟩:=ry;exact eq_int (fin_bl I q dec_int)
    | str j=>obtain ⟨t',rfl⟩:=ry;exact PySem.EqMixed.eq_int_str (fin_bl I q (by simp))
    | _=>exact absurd (show false=true from hs) Bool.false_ne_true
  | str i =>
    obtain ⟨t,rfl⟩:=rx
    cases y with
    | non=>cases ry;exact PySem.EqNone.eq_str_none (fin_bl I q (by simp))
    | bl j=>cases ry;exact PySem.EqMixed.eq_str_bool (fin_bl I q (by simp))
    | int j=>obtain ⟨t',rfl⟩:=ry;exact PySem.EqMixed.eq_str_int (fin_bl I q (by simp))
    | str j=>obtain ⟨t',rfl⟩:=ry;exact eq_str (fin_bl I q dec_str)
    | _=>exact absurd (show false=true from hs) Bool.false_ne_true
  | byt i =>
    obtain ⟨t,rfl⟩:=rx
    cases y with
    | byt j=>obtain ⟨t',rfl⟩:=ry;exact PySem.W.eq_bytes (fin_bl I q dec_byt)
    | _=>exact absurd (show false=true from hs) Bool.false_ne_true
  | _=>cases y <;> exact absurd (show false=true from hs) Bool.false_ne_true
theorem op_ne:OpR X (compareOp .NotEq) rNe:=by
  intro pins s σ H x y v u Q I rx ry h
  obtain ⟨hs,q⟩:=h
  cases x with
  | non =>
    cases rx
    cases y with
    | non=>cases ry;exact PySem.EqNone.ne_none_none (fin_bl I q (by simp))
    | bl j=>cases ry;exact PySem.EqNone.ne_none_bool (fin_bl I q (by simp))
    | int j=>obtain ⟨t',rfl⟩:=ry;exact PySem.EqNone.ne_none_int (fin_bl I q (by simp))
    | str j=>obtain ⟨t',rfl⟩:=ry;exact PySem.EqNone.ne_none_str (fin_bl I q (by simp))
    | _=>exact absurd (show false=true from hs) Bool.false_ne_true
  | bl i =>
    cases rx
    cases y with
    | non=>cases ry;exact PySem.EqNone.ne_bool_none (fin_bl I q (by simp))
    | bl j=>cases ry;exact ne_bool (fin_bl I q (congrArg not dec_bl))
    | str j=>obtain ⟨t',rfl⟩:=ry;exact PySem.EqMixed.ne_bool_str (fin_bl I q (by simp))
    | _=>exact absurd (show false=true from hs) Bool.false_ne_true
  | int i =>
    obtain ⟨t,rfl⟩:=rx
    cases y with
    | non=>cases ry;exact PySem.EqNone.ne_int_none (fin_bl I q (by simp))
    | int j=>obtain ⟨t',rfl⟩:=ry;exact ne_int (fin_bl I q (congrArg not dec_int))
    | str j=>obtain ⟨t',rfl⟩:=ry;exact PySem.EqMixed.ne_int_str (fin_bl I q (by simp))
    | _=>exact absurd (show false=true from hs) Bool.false_ne_true
  | str i =>
    obtain ⟨t,rfl⟩:=rx
    cases y with
    | non=>cases ry;exact PySem.EqNone.ne_str_none (fin_bl I q (by simp))
    | bl j=>cases ry;exact PySem.EqMixed.ne_str_bool (fin_bl I q (by simp))
    | int j=>obtain ⟨t',rfl⟩:=ry;exact PySem.EqMixed.ne_str_int (fin_bl I q (by simp))
    | str j=>obtain ⟨t',rfl⟩:=ry;exact ne_str (fin_bl I q (congrArg not dec_str))
    | _=>exact absurd (show false=true from hs) Bool.false_ne_true
  | byt i =>
    obtain ⟨t,rfl⟩:=rx
    cases y with
    | byt j=>obtain ⟨t',rfl⟩:=ry;exact PySem.W.ne_bytes (fin_bl I q (congrArg not dec_byt))
    | _=>exact absurd (show false=true from hs) Bool.false_ne_true
  | _=>cases y <;> exact absurd (show false=true from hs) Bool.false_ne_true
theorem op_lt:OpR X (compareOp .Lt) (rI0 fun i j=>.bl (decide (i < j))):=opB0 fun _ _ _ _ _ _ _ q=>lt_int q
theorem op_gt:OpR X (compareOp .Gt) (rI0 fun i j=>.bl (decide (j < i))):=opB0 fun _ _ _ _ _ _ _ q=>gt_int q
theorem nomark (b:Expr) {op:CmpOp} (h:op≠.In:=by decide) (h2:op≠.NotIn:=by decide):behindInMarks op b=false:=by
  have e1:(op == CmpOp.In)=false:=by cases op <;> first | rfl | exact absurd rfl h
  have e2:(op == CmpOp.NotIn)=false:=by cases op <;> first | rfl | exact absurd rfl h2
  cases b <;> simp [behindInMarks,e1,e2]
theorem pe_cmpR {op:CmpOp} {r:R2} (ho:OpR X (compareOp op) r) (ha:PE X a ta) (hb:PE X b tb) (hm:behindInMarks op b=false):PE X (.Compare a [op] [b] pos) (tOp r ta tb):=by
  intro pins s σ H Q I h
  exact wpAny_Compare1 (binT ha hb I h fun v u s2 x y H2 I2 rx ry q=>ho pins s2 σ H2 x y v u Q I2 rx ry q) hm
def tTest (t:TE):TT:=fun σ H Q=>t σ H fun x H'=>∃ k,x=.bl k∧Q k H'
theorem pt_cmpR {op:CmpOp} {r:R2} (ho:OpR X (compareOp op) r) (ha:PE X a ta) (hb:PE X b tb) (hm:behindInMarks op b=false):PT X (.Compare a [op] [b] pos) (tTest (tOp r ta tb)):=by
  intro pins s σ H Q I h
  refine wpAny_isTrue_Compare1 (thn (ha pins s σ H _ I h) fun v s1 ⟨x,H1,I1,r1,q1⟩=>thn (hb pins s1 σ H1 _ I1 q1) fun u s2 ⟨y,H2,I2,r2,q2⟩ =>
    thn (ho pins s2 σ H2 x y v u _ I2 r1 r2 q2) fun c s3 ⟨z,H3,I3,r3,k,e,q3⟩=>?_) hm
  subst e
  cases r3
  exact wpAny_truthy_bool ⟨H3,I3,q3⟩
def tChain (r r':R2) (ta tb tc:TE):TE:=fun σ H Q=>ta σ H fun x H1=>tb σ H1 fun y H2=>r x y H2 fun z H3=>∃ k,z=.bl k ∧
  (if k=true then tc σ H3 fun w' H4=>r' y w' H4 Q else Q (.bl false) H3)
theorem line63:(sizeLine:Nat) < 2 ^ 63:=by rw [sizeLine_eq];decide
theorem op_add_str:OpR X (binaryOp .Add) (fun x y H Q=>∃ i j,x=.str i∧y=.str j∧i.length + j.length≤sizeLine∧Q (.str (i ++ j)) H):=by
  intro pins s σ H x y v u Q I rx ry h
  obtain ⟨i,j,rfl,rfl,hz,q⟩:=h
  obtain ⟨t,rfl⟩:=rx
  obtain ⟨t',rfl⟩:=ry
  exact add_str (fun t' tk=>⟨.str (i ++ j),H,I.tok _,⟨_,rfl⟩,q⟩) hz
theorem vals1 {x:V} {us:List Value} (r:Vals [x] us):∃ u,us=[u]∧RelV x u:=by
  cases r with
  | cons r1 r2=>cases r2;exact ⟨_,rfl,r1⟩
theorem vals2 {x y:V} {us:List Value} (r:Vals [x,y] us):∃ u w',us=[u,w']∧RelV x u∧RelV y w':=by
  cases r with
  | cons r1 r2 =>
    cases r2 with
    | cons r3 r4=>cases r4;exact ⟨_,_,rfl,r1,r3⟩
def LenV (K:PySem.W.Frag) (x:V) (H:Hp) (n:Nat):Prop :=
  match x with
  | .str y=>y.length≤sizeLine∧n=y.length
  | .byt y=>y.size≤sizeLine∧n=y.size
  | .ref p=>(∃ xs,SqL K H p xs∧n=xs.length)∨∃ xs,SqT K H p xs∧n=xs.length
  | _=>False
theorem call_len:CallR X (.builtin "len") (fun xs H Q=>∃ x n,xs=[x]∧LenV X.K x H n∧Q (.int n) H):=by
  intro pins s σ H xs us Q I r h
  obtain ⟨x,n,rfl,e,q⟩:=h
  obtain ⟨u,rfl,rx⟩:=vals1 r
  have hl:=line63
  have hs:sizeLine=16777216:=sizeLine_eq
  cases x with
  | str y =>
    obtain ⟨t,rfl⟩:=rx
    obtain ⟨hy,e'⟩:y.length≤sizeLine∧n=y.length:=e
    subst e'
    exact len_str (by omega) ⟨.int _,H,I.tok _,⟨_,rfl⟩,q⟩
  | byt y =>
    obtain ⟨t,rfl⟩:=rx
    obtain ⟨hy,e'⟩:y.size≤sizeLine∧n=y.size:=e
    subst e'
    exact PySem.W.len_bytes (by omega) ⟨.int _,H,I.tok _,⟨_,rfl⟩,q⟩
  | ref p =>
    cases rx
    have e':(∃ xs,SqL X.K H p xs∧n=xs.length)∨∃ xs,SqT X.K H p xs∧n=xs.length:=e
    rcases e' with ⟨xs,hx,e'⟩ | ⟨xs,hx,e'⟩
    · subst e'
      obtain ⟨its,r',pl,hz⟩:=I.list hx
      have hlen:=r'.length
      exact Calls.call_len_list pl.isList (by simp only [List.size_toArray];omega) ⟨.int xs.length,H,I.tok _,⟨_,by simp only [List.size_toArray];rw [hlen]⟩,q⟩
    · subst e'
      obtain ⟨its,r',pl,hz⟩:=I.tuple hx
      have hlen:=r'.length
      exact len_tuple pl (by simp only [List.size_toArray];omega) ⟨.int xs.length,H,I.tok _,⟨_,by simp only [List.size_toArray];rw [hlen]⟩,q⟩
  | _=>exact (show False from e).elim
end
end L2
namespace L2
open PySem PySem.Spec PyProof.Rows
structure ObjM (h:Heap) (x dx C:Addr) (mA:Str→Option Value):Prop where
  obj:h.get? x=some (PySem.W.instObj C dx)
  ns:h.Ns1 dx mA
  ne:dx≠x
theorem lookIn_ns {h:Heap} {dx:Addr} {mA:Str→Option Value} (n:h.Ns1 dx mA):∃ od,h.get? dx=some od∧∀ name,PySem.W.lookIn name od=some (mA name):=by
  obtain ⟨o,es,ep,ho,hd,hk,_,hm⟩:=n
  refine ⟨o,ho,fun name=>?_⟩
  have e:=hm name
  unfold nsFind findBy at e
  rw [← Array.find?_toList] at e
  unfold PySem.W.lookIn
  rw [hd]
  dsimp only
  split
  · rename_i y q
    rw [q] at e
    exact congrArg some e
  · rename_i q
    rw [q] at e
    have a:es.toList.any (·.refKey)=false:=by
      rw [List.any_eq_false]
      intro y hy
      obtain ⟨z,t,hkey⟩:=hk y (Array.mem_toList_iff.mp hy)
      simp [DictEntry.refKey,hkey]
    have a':¬ es.toList.any (·.refKey)=true:=by rw [a];exact Bool.false_ne_true
    rw [if_neg a']
    exact congrArg some e
theorem ObjM.look {h:Heap} {x dx C:Addr} {mA:Str→Option Value} (I:ObjM h x dx C mA):∃ od,PySem.W.InstAt h x (PySem.W.instObj C dx) C (some od)∧∀ name,PySem.W.lookIn name od=some (mA name) :=
  let ⟨od,ho,hl⟩:=lookIn_ns I.ns
  ⟨od,⟨I.obj,rfl,rfl,ho⟩,hl⟩
section
variable {prog:Program} {w:World} {A:Around} {E:Value→Shared→Prop} {s:Shared} {K:PySem.W.Frag} {x dx C f:Addr} {mA:Str→Option Value} {name:Str} {v:Value}
end
def putF (f:Str) (v:V):List (Str × V)→List (Str × V)
  | []=>[(f,v)]
  | (g,x) :: r=>if g=f then (g,v) :: r else (g,x) :: putF f v r
section
variable {P:Program} {w:World} {H H':Hp} {h h':Heap} {a C dx:Addr} {fs fs':List (Str × V)}
theorem ins_get (hok:HOk P w H h) (e:H a=some (.ins C dx fs)):∃ mA,ObjM h a dx C mA∧(∀ f,RelO (fs.lookup f) (mA f))∧PySem.Within mA (fs.map (·.1))∧fs.length≤1000∧H dx=some (.own a):=by
  obtain ⟨d,z,ne,ob,mA,n,r,q⟩:=(show ObjOk P w H h a (.ins C dx fs) from hok a _ e)
  exact ⟨mA,⟨ob,n,ne⟩,r,q,z,d⟩
end
structure Cls (K:PySem.W.Frag) (C:Addr):Prop where
  pg:PySem.W.plainGet K C Str.empty=true
  hd:PySem.W.hasDictIn K C=true
  po:PySem.W.plainOver K C=true
  sa:PySem.W.findIn K (.ref C) "__setattr__"=some (some (.builtin "object.__setattr__"))
theorem Cls.get {K:PySem.W.Frag} {C:Addr} (c:Cls K C) (f:Str):PySem.W.plainGet K C f=true:=c.pg
def NoAttr (K:PySem.W.Frag) (C:Addr) (f:Str):Prop:=PySem.W.findIn K (.ref C) f=some none
section
variable {X:Cx} {pins:List (Addr × Obj)} {σ:St} {H:Hp} {s:Shared} {a C dx:Addr} {fs:List (Str × V)} {f:Str} {v:V} {A:Around} {E:Value→Shared→Prop}
end
def tFld (K:PySem.W.Frag) (ta:TE) (f:Str):TE:=fun σ H Q=>ta σ H fun x H1=>∃ a C dx fs v,x=.ref a∧H1 a=some (.ins C dx fs)∧Cls K C∧NoAttr K C f∧fs.lookup f=some v∧Q v H1
def sFld (K:PySem.W.Frag) (ta tv:TE) (f:Str):TS:=fun D σ H=>tv σ H fun y H1=>ta σ H1 fun x H2=>∃ a C dx fs,x=.ref a∧H2 a=some (.ins C dx fs)∧Cls K C∧NoAttr K C f∧fs.length < 1000 ∧
  D.nx σ (upd H2 a (.ins C dx (putF f y fs)))
def sFldAug (K:PySem.W.Frag) (ta tv:TE) (rd:V→V→Hp→VK→Prop) (f:Str):TS:=fun D σ H=>ta σ H fun x H1=>∃ a C dx fs v,x=.ref a∧H1 a=some (.ins C dx fs)∧Cls K C∧NoAttr K C f∧fs.lookup f=some v ∧
  tv σ H1 fun y H2=>rd v y H2 fun z H3=>∃ dx' fs',H3 a=some (.ins C dx' fs')∧fs'.length < 1000∧D.nx σ (upd H3 a (.ins C dx' (putF f z fs')))
section
variable {X:Cx} {o e value:Expr} {f:Str} {pos pos' tpos:Pos} {ta tv:TE}
def rAdd:V→V→Hp→VK→Prop:=fun x y H Q=>∃ i j,x=.int i∧y=.int j∧Q (.int (i + j)) H
end
section
variable {X:Cx} {pins:List (Addr × Obj)} {σ:St} {H:Hp} {s:Shared} {A:Around} {E:Value→Shared→Prop} {Q:Value→Shared→Prop} {c:Value} {b:Bool}
inductive TyOf (K:PySem.W.Frag) (H:Hp):V→Value→Prop where
  | non:TyOf K H .non (.type "NoneType")
  | bl (x:Bool):TyOf K H (.bl x) (.type "bool")
  | int (i:Int):TyOf K H (.int i) (.type "int")
  | str (x:Str):TyOf K H (.str x) (.type "str")
  | flt (x:UInt64):TyOf K H (.flt x) (.type "float")
  | lst {a:Addr} {xs:List V} (e:H a=some (.lst xs)):TyOf K H (.ref a) (.type "list")
  | frz {a:Addr} {o:Obj} {xs:List V} (e:H a=some (.frz o (.lst xs))):TyOf K H (.ref a) (.type "list")
  | tup {a:Addr} {xs:List V} (e:H a=some (.tup xs)):TyOf K H (.ref a) (.type "tuple")
  | dK {a:Addr} {kvs:List (Key × V)} (e:H a=some (.dK kvs)):TyOf K H (.ref a) (.type "dict")
  | dT {a:Addr} {kvs:List (List Key × V)} (e:H a=some (.dT kvs)):TyOf K H (.ref a) (.type "dict")
  | ins {a C dx:Addr} {fs:List (Str × V)} (e:H a=some (.ins C dx fs)) (cl:Cls K C) (ha:PySem.W.findIn K (.ref C) "__class__"=some (some (.builtin "object.__class__")))
      (hn:PySem.W.specialIn K (.builtin "object.__class__") "__get__"=some (some (.builtin "getset_descriptor.__get__"))) (htk:PySem.W.takesIn K (.builtin "object.__class__")=some true)
      (hm:PySem.W.mroIn K C (.type "object")=some true):TyOf K H (.ref a) (.ref C)
theorem isinst_ok {x:V} {u t:Value} (I:Inv X pins σ H s) (rx:RelV x u) (ty:TyOf X.K H x t) (e:PySem.W.kitOne X.K t c=some b) (h:∀ tk,Q (.bool b) { s with toks:=tk }) :
    wpAny (model X.prog X.w) A (call (.builtin "isinstance") [u,c]) Q E s:=by
  cases ty with
  | non=>cases (show u=Value.none from rx);exact PySem.W.kia_one PySem.W.kitx_none I.kIn True.intro e (fun z=>nomatch z) h
  | bl y=>cases (show u=Value.bool y from rx);exact PySem.W.kia_one PySem.W.kitx_bool I.kIn True.intro e (fun z=>nomatch z) h
  | int i=>obtain ⟨t,q⟩:=(show ∃ t,u=Value.int i t from rx);cases q;exact PySem.W.kia_one PySem.W.kitx_int I.kIn True.intro e (fun z=>nomatch z) h
  | str y=>obtain ⟨t,q⟩:=(show ∃ t,u=Value.str y t from rx);cases q;exact PySem.W.kia_one PySem.W.kitx_str I.kIn True.intro e (fun z=>nomatch z) h
  | flt y=>obtain ⟨t,q⟩:=(show ∃ t,u=Value.float y t from rx);cases q;exact PySem.W.kia_one PySem.W.kitx_float I.kIn True.intro e (fun z=>nomatch z) h
  | @lst a xs ea =>
    cases (show u=Value.ref a from rx)
    obtain ⟨_,_,n,_,h1⟩:=(show ObjOk X.prog X.w H s.heap a (.lst xs) from I.hok a _ ea)
    exact PySem.W.kia_one PySem.W.kitx_list I.kIn ⟨_,h1,rfl⟩ e (fun z=>nomatch z) h
  | @frz a ob xs ea =>
    cases (show u=Value.ref a from rx)
    obtain ⟨_,_,_,n,_,h1⟩:=(show ObjOk X.prog X.w H s.heap a (.frz ob (.lst xs)) from I.hok a _ ea)
    exact PySem.W.kia_one PySem.W.kitx_list I.kIn ⟨_,h1,rfl⟩ e (fun z=>nomatch z) h
  | @tup a xs ea =>
    cases (show u=Value.ref a from rx)
    obtain ⟨_,_,_,p⟩:=(show ObjOk X.prog X.w H s.heap a (.tup xs) from I.hok a _ ea)
    obtain ⟨o,h1,h2,_⟩:=p
    exact PySem.W.kia_one PySem.W.kitx_tuple I.kIn ⟨o,h1,h2⟩ e (fun z=>nomatch z) h
  | @dK a kvs ea =>
    cases (show u=Value.ref a from rx)
    obtain ⟨_,_,vs,_,p⟩:=(show ObjOk X.prog X.w H s.heap a (.dK kvs) from I.hok a _ ea)
    obtain ⟨o,es,ep,h1,h2,_⟩:=p
    exact PySem.W.kia_one PySem.W.kitx_dict I.kIn ⟨o,h1,h2.1⟩ e (fun z=>nomatch z) h
  | @dT a kvs ea =>
    cases (show u=Value.ref a from rx)
    obtain ⟨_,_,xs,_,o,es,ep,h1,h2,_⟩:=(show ObjOk X.prog X.w H s.heap a (.dT kvs) from I.hok a _ ea)
    exact PySem.W.kia_one PySem.W.kitx_dict I.kIn ⟨o,h1,h2.1⟩ e (fun z=>nomatch z) h
  | @ins a C dx fs ea cl ha hn htk hm =>
    cases (show u=Value.ref a from rx)
    obtain ⟨mA,O,_⟩:=ins_get I.hok ea
    obtain ⟨od,J,_⟩:=O.look
    exact PySem.W.kia_one (PySem.W.kitx_own (cl.get _) cl.hd ha hn htk hm) I.kIn J e (fun z=>nomatch z) h
end
end L2
namespace L2
open PySem PySem.Spec PyProof.Rows
structure Room (k:Nat) (A:Around):Prop where
  hd:A.handled=none
  dp:A.depth + 3 * k + 5 < recursionLimit
  un:A.units + 16 * k + 200 < cLine
theorem Room.mono {j k:Nat} {A:Around} (r:Room k A) (h:j≤k):Room j A:=⟨r.hd,by have:=r.dp;omega,by have:=r.un;omega⟩
theorem Room.deeper {k:Nat} {A:Around} (r:Room (k + 1) A) (env:Env):Room k (A.deeper env) :=
  ⟨r.hd,by have:=r.dp;show A.depth + 1 + 3 * k + 5 < _;omega,by have:=r.un;show A.units + 3 + 16 * k + 200 < _;omega⟩
theorem Room.depth {k:Nat} {A:Around} (r:Room k A):A.depth < recursionLimit:=by have:=r.dp;omega
theorem Room.units {k:Nat} {A:Around} (r:Room k A):A.units + 64 < cLine:=by have:=r.un;omega
def tNil:TA:=fun _ H Q=>Q [] H
def tCons (ta:TE) (tr:TA):TA:=fun σ H Q=>ta σ H fun x H1=>tr σ H1 fun xs H2=>Q (x :: xs) H2
section
variable {X:Cx} {e:Expr} {es:List Expr} {te:TE} {t:TA} {pos:Pos}
theorem pa_nil:PA X [] tNil:=fun _ _ _ _ H Q I h=>Calls.spliced_nil ⟨[],H,I,.nil,h⟩
theorem pa_cons (ha:PE X e te) (hr:PA X es t) (hs:starEach (e :: es) X.env=(false,eval e X.env) :: starEach es X.env:=by rfl):PA X (e :: es) (tCons te t):=by
  intro pos pins s σ H Q I h
  rw [hs]
  show wpAny _ _ (spliced ((false,eval e X.env) :: backTo pos (starEach es X.env))) _ _ s
  refine Calls.spliced_cons (thn (ha pins s σ H _ I h) fun u s1 ⟨x,H1,I1,r1,q1⟩=>?_)
  exact thn (hr pos pins s1 σ H1 _ I1 q1) fun us s2 ⟨xs,H2,I2,r2,q2⟩=>⟨x :: xs,H2,I2,.cons r1 r2,q2⟩
def tTup (t:TA):TE:=fun σ H Q=>t σ H fun xs H1=>xs.length≤sizeLine∧∀ p,H1 p=none→Q (.ref p) (upd H1 p (.tup xs))
def tLst (t:TA):TE:=fun σ H Q=>t σ H fun xs H1=>xs.length≤sizeLine∧∀ p,H1 p=none→Q (.ref p) (upd H1 p (.lst xs))
theorem pe_tup {x1} (h:PA X es t):PE X (.Tuple es x1 pos) (tTup t):=by
  intro pins s σ H Q I hq
  refine wpAny_Tuple_spliced (thn (h pos pins s σ H _ I hq) fun us s1 ⟨xs,H1,I1,r,z,q⟩=>⟨by rw [← r.length];exact z,?_⟩)
  have hf:H1 s1.heap.objs.size=none:=I1.hok.fresh (Nat.le_refl _)
  refine ⟨.ref s1.heap.objs.size,upd H1 s1.heap.objs.size (.tup xs),I1.laid (t':=s1.toks) (fun b u e=>Heap.get?_push_of_some _ e) (Nat.le_refl _) ?_,rfl,q _ hf⟩
  exact ⟨z,us,r,⟨_,Heap.get?_push_size _ rfl,rfl,_,rfl⟩⟩
theorem pe_lst (h:PA X es t):PE X (.List es pos) (tLst t):=by
  intro pins s σ H Q I hq
  refine wpAny_List_spliced (thn (h pos pins s σ H _ I hq) fun us s1 ⟨xs,H1,I1,r,z,q⟩=>⟨by rw [← r.length];exact z,?_⟩)
  have hf:H1 s1.heap.objs.size=none:=I1.hok.fresh (Nat.le_refl _)
  refine ⟨.ref s1.heap.objs.size,upd H1 s1.heap.objs.size (.lst xs),I1.laid (t':=s1.toks) (fun b u e=>Heap.get?_push_of_some _ e) (Nat.le_refl _) ?_,rfl,q _ hf⟩
  exact ⟨z,us,0,r,Heap.get?_push_size _ rfl⟩
end
abbrev Sp:=List V→Hp→VK→XK→Prop
abbrev CXT:=List Env→Hp→Shared→XK→Value→Shared→Prop
structure Env0 (P:Program) (w:World) (K:PySem.W.Frag) (mg:Str→Option Value) (base:Heap) (A:Around) (outer:List Env) (s:Shared) (H:Hp):Prop where
  frames:A.frames=some outer
  mod:Mod K mg base
  bs:∀ b o,base.get? b=some o→s.heap.get? b=some o∧H b=none
  bsz:base.objs.size≤s.heap.objs.size
  funs:s.heap.FunFrames base outer
  frf:∀ b∈frs outer,H b=none
  hok:HOk P w H s.heap
  bare:AllBare s.gens
def CE (outer:List Env) (P:Program) (w:World) (H:Hp) (s:Shared) (Q:VK) (u:Value) (s':Shared):Prop :=
  ∃ v H',s'.os=s.os∧AllBare s'.gens∧Un (frs outer) [] H H' s.heap s'.heap∧HOk P w H' s'.heap∧RelV v u∧Q v H'
def CR (CX:CXT) (outer:List Env) (P:Program) (w:World) (H:Hp) (s:Shared) (Q:VK) (E:XK) (r:Result) (s':Shared):Prop :=
  match r with
  | .ok (.ret u)=>CE outer P w H s Q u s'
  | .ok _=>False
  | .error e=>CX outer H s E e s'
structure FnOk (P:Program) (w:World) (K:PySem.W.Frag) (mg:Str→Option Value) (base:Heap) (CX:CXT) (k:Nat) (f:Addr) (fd:FuncData) (ps:List Str) (sp:Sp):Prop where
  len:∀ vs H Q E,sp vs H Q E→vs.length=ps.length
  run:∀ (A:Around) (outer:List Env) (s:Shared) (H:Hp) (args:Args) (us:List Value) (vs:List V) (Q:VK) (E:XK),Room k A→Env0 P w K mg base A outer s H→BindsTo s fd args (ps.zip us)→Vals vs us→sp vs H Q E →
    codeAny (model P w) A (.call (.ref f) args) (CR CX outer P w H s Q E) s
theorem FnOk.mono {P:Program} {w:World} {K:PySem.W.Frag} {mg:Str→Option Value} {base:Heap} {CX:CXT} {j k:Nat} {f:Addr} {fd:FuncData} {ps:List Str} {sp:Sp} (F:FnOk P w K mg base CX j f fd ps sp) (h:j≤k) :
    FnOk P w K mg base CX k f fd ps sp:=⟨F.len,fun A outer s H args us vs Q E hr=>F.run A outer s H args us vs Q E (hr.mono h)⟩
section
variable {X:Cx} {pins:List (Addr × Obj)} {σ:St} {H:Hp} {s s':Shared}
theorem Inv.env0 (I:Inv X pins σ H s):Env0 X.prog X.w X.K X.mg X.base X.A X.stack s H :=
  ⟨I.ok.frames,I.ok.mod,I.bs,Nat.le_trans I.ok.bsz I.sz,I.stack,I.stkFree,I.hok,I.bare⟩
theorem Inv.after {Q:VK} {u:Value} (I:Inv X pins σ H s) (h:CE X.stack X.prog X.w H s Q u s'):EP X pins σ Q u s':=by
  obtain ⟨v,H',os,bare,un,hok,r,q⟩:=h
  obtain ⟨hh,g,d,t,os'⟩:=s'
  obtain rfl:os'=s.os:=os
  exact ⟨v,H',I.call (h':=hh) (g':=g) (d':=d) (t':=t) (ch:=[]) un hok bare (fun b z=>absurd z (by simp)),r,q⟩
end
def tCall (sp:Sp) (dvs:List V) (E:XK) (t:TA):TE:=fun σ H Q=>t σ H fun vs H1=>sp (vs ++ dvs) H1 Q E
def tMeth (C:Addr) (m:Str) (sp:Sp) (dvs:List V) (E:XK) (ta:TE) (t:TA):TE:=fun σ H Q=>ta σ H fun x H1=>∃ a dx fs,x=.ref a∧H1 a=some (.ins C dx fs)∧fs.lookup m=none ∧
  t σ H1 fun vs H2=>sp (x :: (vs ++ dvs)) H2 Q E
def tMake (C:Addr) (sp:Sp) (dvs:List V) (E:XK) (t:TA):TE:=fun σ H Q=>t σ H fun vs H1=>∀ x dx,H1 x=none→H1 dx=none→dx≠x →
  sp (.ref x :: (vs ++ dvs)) (upd (upd H1 dx (.own x)) x (.ins C dx [])) (fun v H2=>v=.non∧Q (.ref x) H2) E
def Binds (K:PySem.W.Frag) (fd:FuncData) (ps:List Str) (ds:List Value):Prop :=
  ∀ (s:Shared) (us:List Value),K.In s.heap→(us ++ ds).length=ps.length→BindsTo s fd ⟨us,[]⟩ (ps.zip (us ++ ds))
theorem Binds.all {K:PySem.W.Frag} {fd:FuncData} {ps:List Str} (h:∀ us:List Value,us.length=ps.length→bindArgs fd ⟨us,[]⟩=pure (ps.zip us)):Binds K fd ps []:=fun s us _ hl=>by
  rw [List.append_nil] at hl ⊢
  exact .of_eq (h us hl)
def Passes (CX:CXT) (X:Cx) (E:XK):Prop:=∀ (pins:List (Addr × Obj)) (σ:St) (H:Hp) (s:Shared) (e:Value) (s':Shared),Inv X pins σ H s→CX X.stack H s E e s'→X.xe e s'
section
variable {X:Cx} {CX:CXT} {k:Nat} {f C:Addr} {fd:FuncData} {ps:List Str} {sp:Sp} {dvs:List V} {ds:List Value} {E:XK} {x m:Str} {p pos apos:Pos} {e o:Expr} {es:List Expr} {ta:TE} {t:TA}
theorem run_fn {pins:List (Addr × Obj)} {σ:St} {H:Hp} {s:Shared} {Q:VK} {us:List Value} {vs:List V} (F:FnOk X.prog X.w X.K X.mg X.base CX k f fd ps sp) (hr:Room k X.A) (hb:Binds X.K fd ps ds) (hd:Vals dvs ds) (hx:Passes CX X E)
    (I:Inv X pins σ H s) (r:Vals vs us) (h:sp (vs ++ dvs) H Q E):wpAny (model X.prog X.w) X.A (call (.ref f) us) (EP X pins σ Q) X.xe s:=by
  have r2:Vals (vs ++ dvs) (us ++ ds):=r.append hd
  have hl:(us ++ ds).length=ps.length:=by rw [← r2.length];exact F.len _ _ _ _ h
  refine wpAny_call (codeAny_mono (F.run X.A X.stack s H ⟨us,[]⟩ (us ++ ds) (vs ++ dvs) Q E hr I.env0 (hb s us I.kIn hl) r2 h) fun r s' hq=>?_)
  cases r with
  | error e=>exact hx pins σ H s e s' I hq
  | ok fl =>
    cases fl with
    | ret u=>exact I.after hq
    | next=>exact False.elim hq
    | brk=>exact False.elim hq
    | cont=>exact False.elim hq
theorem pe_call (F:FnOk X.prog X.w X.K X.mg X.base CX k f fd ps sp) (hr:Room k X.A) (hg:Gl X x) (hm:X.mg x=some (.ref f)) (hk:PySem.W.keepIn X.K (.ref f)=true) (hb:Binds X.K fd ps ds) (hd:Vals dvs ds) (hx:Passes CX X E)
    (ha:PA X (e :: es) t) (hdb:(x == ("__debug__":Str))=false:=by decide) (he:starEach (e :: es) X.env=(false,eval e X.env) :: starEach es X.env:=by rfl) (hpl:(backTo pos (starEach es X.env)).any (·.1)=false:=by rfl) :
    PE X (.Call (.Name x p) (e :: es) [] pos) (tCall sp dvs E t):=by
  intro pins s σ H Q I h
  refine wpAny_Call_Name_kw (ld_glob I hg hm ?_ hdb)
  refine PySem.W.callWith_K (h₀:=X.base) I.ok.mod.kin hk (thn (ha pos pins s σ H _ I h) fun us s1 ⟨vs,H1,I1,r,q⟩=>⟨I1.kIn,?_⟩) he hpl
  exact run_fn F hr hb hd hx I1 r q
end
section
variable {X:Cx} {CX:CXT} {k:Nat} {f C:Addr} {fd:FuncData} {ps ks:List Str} {sp:Sp} {E:XK} {x m:Str} {p pos apos kpos:Pos} {e o:Expr} {es:List Expr} {kws:List Keyword} {te ta:TE} {t tk:TA} {nm:Option Str}
variable {g:List Value→List Value→List Value} {gV:List V→List V→List V}
end
structure FnScope (N P:List Str) (sc:Scope):Prop where
  kind:sc.kind=.function
  co:sc.isCoroutine=false
  gen:sc.isGenerator=false
  nd:N.Nodup
  pre:N.take P.length=P
  par:∀ x∈P,sc.names.lookup x=some .local∨sc.names.lookup x=some .cell
  nofree:∀ y∈sc.names,y.2≠.free
theorem bindL_out {kindOf:Str→Option NameKind} {x:Str}:∀ {binds:List (Str × Value)} {m:Str→Option Value},(∀ v,(x,v) ∉ binds)→bindL kindOf binds m x=m x
  | [],_,_=>rfl
  | (n,v) :: r,m,h=>by
    unfold bindL
    rw [bindL_out fun w hw=>h w (List.mem_cons_of_mem _ hw)]
    split
    · have:x≠n:=by rintro rfl;exact h v List.mem_cons_self
      simp [this]
    · rfl
theorem bindC_out {kindOf:Str→Option NameKind} {x:Str}:∀ {binds:List (Str × Value)} {m:Str→Option Value},(∀ v,(x,v) ∉ binds)→bindC kindOf binds m x=m x
  | [],_,_=>rfl
  | (n,v) :: r,m,h=>by
    unfold bindC
    rw [bindC_out fun w hw=>h w (List.mem_cons_of_mem _ hw)]
    split
    · rfl
    · have:x≠n:=by rintro rfl;exact h v List.mem_cons_self
      simp [this]
theorem bindL_get {kindOf:Str→Option NameKind} {x:Str} {v:Value}:∀ {P:List Str} {vs:List Value} {i:Nat} {m:Str→Option Value},P.Nodup→P[i]?=some x→vs[i]?=some v→kindOf x=some .local →
    bindL kindOf (P.zip vs) m x=some v
  | [],_,_,_,_,h,_,_=>by simp at h
  | _ :: _,[],_,_,_,_,h,_=>by simp at h
  | p :: P,w :: vs,0,m,nd,h1,h2,hk=>by
    simp at h1 h2;subst h1;subst h2
    show bindL kindOf ((p,w) :: P.zip vs) m p=_
    unfold bindL
    rw [bindL_out fun v hv=>(List.nodup_cons.mp nd).1 (List.of_mem_zip hv).1,if_pos hk]
    simp
  | p :: P,w :: vs,i + 1,m,nd,h1,h2,hk=>by
    show bindL kindOf ((p,w) :: P.zip vs) m x=_
    unfold bindL
    exact bindL_get (i:=i) (List.nodup_cons.mp nd).2 (by simpa using h1) (by simpa using h2) hk
theorem bindC_get {kindOf:Str→Option NameKind} {x:Str} {v:Value}:∀ {P:List Str} {vs:List Value} {i:Nat} {m:Str→Option Value},P.Nodup→P[i]?=some x→vs[i]?=some v→kindOf x≠some .local →
    bindC kindOf (P.zip vs) m x=some v
  | [],_,_,_,_,h,_,_=>by simp at h
  | _ :: _,[],_,_,_,_,h,_=>by simp at h
  | p :: P,w :: vs,0,m,nd,h1,h2,hk=>by
    simp at h1 h2;subst h1;subst h2
    show bindC kindOf ((p,w) :: P.zip vs) m p=_
    unfold bindC
    rw [bindC_out fun v hv=>(List.nodup_cons.mp nd).1 (List.of_mem_zip hv).1,if_neg hk]
    simp
  | p :: P,w :: vs,i + 1,m,nd,h1,h2,hk=>by
    show bindC kindOf ((p,w) :: P.zip vs) m x=_
    unfold bindC
    exact bindC_get (i:=i) (List.nodup_cons.mp nd).2 (by simpa using h1) (by simpa using h2) hk
def start (N:List Str) (vs:List V):St:=vs.map some ++ List.replicate (N.length - vs.length) none
def cxOf (CX:CXT) (P:Program) (w:World) (K:PySem.W.Frag) (mg:Str→Option Value) (base:Heap) (N:List Str) (qual:Str) (scope:Scope) (f:Addr) (cd:Value) (A:Around) (outer:List Env) (s:Shared) (H:Hp) (E:XK):Cx where
  prog:=P
  w:=w
  K:=K
  mg:=mg
  base:=base
  A:=A.deeper (envOfC qual scope s.heap.objs.size f cd)
  N:=N
  s₀:=s
  H₀:=H
  env:=envOfC qual scope s.heap.objs.size f cd
  outer:=outer
  stack:=envOfC qual scope s.heap.objs.size f cd :: outer
  ex:=[]
  calm:=true
  fn:=fun _=>true
  pn:=[]
  xe:=fun e s'=>wpAny (model P w) (A.deeper (envOfC qual scope s.heap.objs.size f cd)) (leaving (envOfC qual scope s.heap.objs.size f cd) e) (fun _ s''=>CX outer H s E e s'') (fun e' s''=>CX outer H s E e' s'') s'
theorem cell_has {sc:Scope} {n:Nat} {x:Str} (h:sc.names.lookup x=some .cell):∃ c,(cellsFrom n sc.names []).lookup x=some c:=by
  have q:=PySem.W.cellsFrom_some sc.names n [] (.inl h)
  exact Option.isSome_iff_exists.mp q
theorem inv_start {CX:CXT} {P:Program} {w:World} {K:PySem.W.Frag} {mg:Str→Option Value} {base:Heap} {N ps:List Str} {qual:Str} {scope:Scope} {f:Addr} {cd:Value} {A:Around} {outer:List Env} {s s1:Shared} {H:Hp} {E:XK} {us:List Value} {vs:List V}
    (S:FnScope N ps scope) (hd:A.handled=none) (e0:Env0 P w K mg base A outer s H) (hl:vs.length=ps.length) (r:Vals vs us)
    (x:InCallC s s.heap.objs.size (bindL (envOfC qual scope s.heap.objs.size f cd).kindOf (ps.zip us) fun _=>none) (cellsFrom (s.heap.objs.size + 1) scope.names []) (bindC (envOfC qual scope s.heap.objs.size f cd).kindOf (ps.zip us) fun _=>none) s1) :
    Inv (cxOf CX P w K mg base N qual scope f cd A outer s H E) [] (start N vs) H s1:=by
  have hpl:ps.length≤N.length:=by have:=congrArg List.length S.pre;rw [List.length_take] at this;omega
  obtain ⟨h1,tk,rfl,hk⟩:=x.done
  have noA:∀ b:Addr,b ∉ (cxOf CX P w K mg base N qual scope f cd A outer s H E).ex:=fun b z=>absurd (show b∈([]:List Addr) from z) (by simp)
  refine ⟨⟨e0.mod,S.kind,rfl,rfl,Nat.le_refl _,fun y z c h1 h2=>?_,fun y hy=>?_,fun y c _ h=>?_,fun _=>hd,Around.frames_deeper e0.frames,.inr ⟨rfl,rfl⟩,fun b z=>absurd z (noA b),e0.bs,e0.bsz,fun b _ _=>noA b,fun b z=>absurd z (noA b),e0.funs,e0.frf⟩,
    rfl,e0.bare,Un.kept hk,⟨_,x.toInCall.ns,fun i y v h1 h2 h3=>?_⟩,fun y c h=>⟨_,x.cell y c h⟩,e0.hok.fresh (Nat.le_refl _),fun y c h=>?_,fun p hp=>absurd (show p∈([]:List (Addr × Obj)) from hp) (by simp),e0.hok.kept hk,?_⟩
  · exact name_of_addr x.apart (PySem.mem_of_lookup h1) (PySem.mem_of_lookup h2)
  · have hy:scope.names.lookup y=some .cell∨scope.names.lookup y=some .free:=hy
    rcases hy with hy | hy
    · exact cell_has hy
    · exact absurd rfl (S.nofree _ (PySem.mem_of_lookup hy))
  · exact Nat.le_of_lt (x.above y c (PySem.mem_of_lookup h))
  · have hi:i < vs.length:=by
      unfold start at h2
      by_cases hi:i < vs.length
      · exact hi
      · rw [List.getElem?_append_right (by simpa using hi)] at h2
        rw [List.getElem?_replicate] at h2
        split at h2 <;> cases h2
    have ha:vs[i]?=some v:=by
      unfold start at h2
      rw [List.getElem?_append_left (by simpa using hi),List.getElem?_map] at h2
      cases e:vs[i]? with
      | none=>rw [e] at h2;cases h2
      | some a=>rw [e] at h2;cases h2;rfl
    obtain ⟨u,hu,rv⟩:=r.get ha
    have hp:ps[i]?=some y:=by
      rw [← S.pre,List.getElem?_take_of_lt (by omega)];exact h1
    have ndP:ps.Nodup:=by rw [← S.pre];exact S.nd.sublist (List.take_sublist _ _)
    refine ⟨u,rv,?_⟩
    rcases S.par y (List.mem_of_getElem? hp) with k | k
    · exact .inl ⟨k,bindL_get ndP hp hu k⟩
    · obtain ⟨c,e⟩:=cell_has (n:=s.heap.objs.size + 1) k
      refine .inr ⟨.inl k,c,e,?_⟩
      have q:=x.cell y c e
      rw [bindC_get ndP hp hu (by show scope.names.lookup y≠_;rw [k];decide)] at q
      exact q
  · exact e0.hok.fresh (Nat.le_of_lt (x.above y c (PySem.mem_of_lookup h)))
  · unfold start
    show _=N.length
    rw [List.length_append,List.length_map,List.length_replicate]
    omega
theorem fn_of {CX:CXT} {P:Program} {w:World} {K:PySem.W.Frag} {mg:Str→Option Value} {base:Heap} {k:Nat} {f:Addr} {name qual:Str} {params:Arguments} {body:List Stmt} {scope:Scope} {dV kV doc pm cdv ct oc:Value} {an od:Option Addr}
    {osl:Array (Option Value)} {N ps:List Str} {sp:Sp} (lk:K.lookup f=some ⟨oc,od,.func (PySem.W.fnOf name qual params body scope dV kV doc pm an cdv ct),osl⟩) (hcd:PySem.W.codeIn K cdv qual=true) (S:FnScope N ps scope)
    (len:∀ vs H Q E,sp vs H Q E→vs.length=ps.length)
    (hbody:∀ (A:Around) (outer:List Env) (s:Shared) (H:Hp) (vs:List V) (Q:VK) (E:XK),Room k (A.deeper (envOfC qual scope s.heap.objs.size f cdv))→sp vs H Q E →
      ∃ t,PSs (cxOf CX P w K mg base N qual scope f cdv A outer s H E) body t∧t { nx:=fun _ H'=>Q .non H',rt:=Q } (start N vs) H) :
    FnOk P w K mg base CX (k + 1) f (PySem.W.fnOf name qual params body scope dV kV doc pm an cdv ct) ps sp:=by
  refine ⟨len,fun A outer s H args us vs Q E hr e0 hb r hsp=>?_⟩
  have hl:=len _ _ _ _ hsp
  have KX:K.In s.heap:=e0.mod.kin.keeps fun b o e=>(e0.bs b o e).1
  have lim:s.heap.NoLimit:=e0.mod.nolimit.keeps fun b o e=>(e0.bs b o e).1
  have hkind:∀ y∈ps.zip us,scope.names.lookup y.1=some .local∨(scope.names.lookup y.1=some .cell∧((cellsFrom (s.heap.objs.size + 1) scope.names []).lookup y.1).isSome=true):=fun ⟨n,v⟩ hy=>by
    rcases S.par n (List.of_mem_zip hy).1 with q | q
    · exact .inl q
    · exact .inr ⟨q,PySem.W.cellsFrom_some _ _ _ (.inl q)⟩
  refine codeAny_call_function hr.depth (KX _ _ lk) rfl S.co S.gen rfl (PySem.W.codeRec_of KX hcd) (hb _ _ _ _ ?_)
  refine wpAny_newFunctionEnv_cells S.kind hkind fun env he s1 x=>?_
  subst he
  refine ⟨lim.keeps x.toInCall.keep,codeAny_func ?_⟩
  obtain ⟨t,ht,hq⟩:=hbody A outer s H vs Q E (hr.deeper _) hsp
  have I:Inv (cxOf CX P w K mg base N qual scope f cdv A outer s H E) [] (start N vs) H s1:=inv_start S hr.hd e0 hl r x
  refine wpAny_mono (ht [] s1 (start N vs) H _ I hq) (fun fl s' hs=>?_) fun e s' hs=>hs
  have fin:∀ {σ':St} {H':Hp} {v:V} {u:Value},Inv (cxOf CX P w K mg base N qual scope f cdv A outer s H E) [] σ' H' s'→RelV v u→Q v H'→CE outer P w H s Q u s' :=
    fun {σ' H' v u} J rv q=>⟨v,H',J.os,J.bare,J.base,J.hok,rv,q⟩
  cases fl with
  | ret u =>
    obtain ⟨v,σ',H',J,rv,q⟩:=hs
    exact fin J rv q
  | next =>
    obtain ⟨σ',H',J,q⟩:=hs
    exact fin (v:=V.non) (u:=Value.none) J rfl q
  | brk =>
    obtain ⟨_,_,_,q⟩:=hs
    exact False.elim q
  | cont =>
    obtain ⟨_,_,_,q⟩:=hs
    exact False.elim q
end L2
namespace L2
open PySem PySem.Spec PyProof.Rows
section
variable {X:Cx} {x:Str} {p pos:Pos} {e:Expr} {es:List Expr} {t:TA} {id T:String} {r:List V→Hp→VK→Prop}
def tCB (r:List V→Hp→VK→Prop) (t:TA):TE:=fun σ H Q=>t σ H fun vs H1=>r vs H1 Q
theorem pe_callB (hc:CallR X (.builtin id) r) (hg:Gl X x) (hm:X.mg x=none) (hv:bootBuiltins x=some (.builtin id)) (ha:PA X (e :: es) t) (hn:x≠"__name__":=by decide) (hdb:(x == ("__debug__":Str))=false:=by decide)
    (he:starEach (e :: es) X.env=(false,eval e X.env) :: starEach es X.env:=by rfl) (hpl:(backTo pos (starEach es X.env)).any (·.1)=false:=by rfl):PE X (.Call (.Name x p) (e :: es) [] pos) (tCB r t):=by
  intro pins s σ H Q I h
  refine wpAny_Call_Name_kw (ld_blt I hg hm hv ?_ hn hdb)
  exact PyProof.Rows.callWith_builtin1 (thn (ha pos pins s σ H _ I h) fun us s1 ⟨vs,H1,I1,r1,q1⟩=>hc pins s1 σ H1 vs us Q I1 r1 q1) he hpl
theorem pe_callTy (hc:CallR X (.type T) r) (hg:Gl X x) (hm:X.mg x=none) (hv:bootBuiltins x=some (.type T)) (ha:PA X (e :: es) t) (hn:x≠"__name__":=by decide) (hdb:(x == ("__debug__":Str))=false:=by decide)
    (he:starEach (e :: es) X.env=(false,eval e X.env) :: starEach es X.env:=by rfl) (hpl:(backTo pos (starEach es X.env)).any (·.1)=false:=by rfl):PE X (.Call (.Name x p) (e :: es) [] pos) (tCB r t):=by
  intro pins s σ H Q I h
  refine wpAny_Call_Name_kw (ld_blt I hg hm hv ?_ hn hdb)
  exact PyProof.Rows.callWith_type1 (thn (ha pos pins s σ H _ I h) fun us s1 ⟨vs,H1,I1,r1,q1⟩=>hc pins s1 σ H1 vs us Q I1 r1 q1) he hpl
end
end L2
namespace HT
open PySem PyProof.Rows
def lexLt:List Int→List Int→Bool
  | [],[]=>false
  | [],_ :: _=>true
  | _ :: _,[]=>false
  | x :: xs,y :: ys=>if x=y then lexLt xs ys else decide (x < y)
theorem rcLt_int (A:Around) (s:Shared) (a:Int) (t:Tok) (c:Int) (u:Tok) (prog:Program) (w:World) (E:Value→Shared→Prop) (Q:Value→Shared→Prop) (h:Q (.bool (decide (a < c))) s) :
    wpAny (model prog w) A (richCompare .Lt (.int a t) (.int c u)) Q E s :=
  (PyProof.Rows.lt_int h:wpAny (model prog w) A (compareOp .Lt (.int a t) (.int c u)) Q E s)
section
open PySem.SeqAt
open PySem.AutoSeq1 (wpAny_loadPart')
open PySem.MeetsSeq PySem.MeetsSeq2 PySem.MeetsSeq3
end
section
variable {prog:Program} {w:World} {A:Around} {E:Value→Shared→Prop} {s:Shared}
def sIx (n d:Nat):Option Int→Nat
  | none=>d
  | some v=>if v < 0 then (v + (n:Int)).toNat else min v.toNat n
theorem sIx_none (n d:Nat):sIx n d none=d:=rfl
theorem sIx_nat (n d k:Nat):sIx n d (some (k:Int))=min k n:=by
  show (if (k:Int) < 0 then ((k:Int) + (n:Int)).toNat else min (k:Int).toNat n)=min k n
  rw [if_neg (by omega),Int.toNat_natCast]
theorem sIx_le (n d:Nat) (hd:d≤n) (o:Option Int):sIx n d o≤n:=by
  cases o with
  | none=>exact hd
  | some v =>
    show (if v < 0 then (v + (n:Int)).toNat else min v.toNat n)≤n
    by_cases hv:v < 0
    · rw [if_pos hv];omega
    · rw [if_neg hv];exact Nat.min_le_right _ _
end
end HT
namespace L2
open PySem PySem.Spec PyProof.Rows
abbrev TO:=St→Hp→(Option Int→Hp→Prop)→Prop
def PO (X:Cx) (e:Option Expr) (t:TO):Prop :=
  ∀ (pins:List (Addr × Obj)) (s:Shared) (σ:St) (H:Hp) (Q:Option Int→Hp→Prop),Inv X pins σ H s→t σ H Q →
    wpAny (model X.prog X.w) X.A (evalPart e X.env) (fun u s'=>∃ o H',Inv X pins σ H' s'∧IsPart u o∧Q o H') X.xe s
def tNoPart:TO:=fun _ H Q=>Q none H
def tPart (t:TE):TO:=fun σ H Q=>t σ H fun x H1=>∃ i,x=.int i∧Q (some i) H1
section
variable {X:Cx} {e:Expr} {te:TE} {lo hi:Option Expr} {tl th:TO} {pos p2:Pos}
theorem po_none:PO X none tNoPart:=by
  intro pins s σ H Q I h
  rw [evalPart_none]
  exact wpAny_pure ⟨none,H,I,.none,h⟩
theorem po_some (h:PE X e te):PO X (some e) (tPart te):=by
  intro pins s σ H Q I hw
  rw [evalPart_some]
  refine thn (h pins s σ H _ I hw) fun u s1 ⟨x,H1,I1,r1,q1⟩=>?_
  obtain ⟨i,rfl,q⟩:=q1
  obtain ⟨t,rfl⟩:=r1
  exact ⟨some i,H1,I1,.int i t,q⟩
def SlR (X:Cx) (r:V→Option Int→Option Int→Hp→VK→Prop):Prop :=
  ∀ (pins:List (Addr × Obj)) (s:Shared) (σ:St) (H:Hp) (x:V) (v vl vu:Value) (lo hi:Option Int) (sl:Addr) (Q:VK),Inv X pins σ H s→RelV x v→s.heap.IsSliceOf sl vl vu .none→IsPart vl lo→IsPart vu hi→r x lo hi H Q →
    ∃ T id,typeLookup (.type T) "__getitem__"=pure (some (.builtin id))∧s.TypeIs v T∧wpAny (model X.prog X.w) X.A (getItem v (.ref sl)) (EP X pins σ Q) X.xe s
def tSl (r:V→Option Int→Option Int→Hp→VK→Prop) (te:TE) (tl th:TO):TE:=fun σ H Q=>te σ H fun x H1=>tl σ H1 fun l H2=>th σ H2 fun u H3=>r x l u H3 Q
theorem pe_slice {r:V→Option Int→Option Int→Hp→VK→Prop} (hr:SlR X r) (he:PE X e te) (hl:PO X lo tl) (hu:PO X hi th):PE X (.Subscript e (.Slice lo hi none p2) pos) (tSl r te tl th):=by
  intro pins s σ H Q I h
  refine Subscript_ (thn (he pins s σ H _ I h) fun v s1 ⟨x,H1,I1,r1,q1⟩=>?_)
  refine wpAny_Slice (thn (hl pins s1 σ H1 _ I1 q1) fun vl s2 ⟨l,H2,I2,pl,q2⟩=>thn (hu pins s2 σ H2 _ I2 q2) fun vu s3 ⟨u,H3,I3,pu,q3⟩=>?_)
  rw [evalPart_none]
  refine wpAny_pure ?_
  have I4:Inv X pins σ H3 { s3 with heap:=s3.heap.push { cls:=.type "slice",data:=.fields #[vl,vu,.none] } }:=I3.kept (t':=s3.toks) fun b ob q=>Heap.get?_push_of_some _ q
  obtain ⟨T,id,hT,ht,hg⟩:=hr pins { s3 with heap:=s3.heap.push { cls:=.type "slice",data:=.fields #[vl,vu,.none] } } σ H3 x v vl vu l u s3.heap.objs.size Q I4 r1 (Heap.IsSliceOf.new ..) pl pu q3
  show wpAny (model X.prog X.w) X.A (subscriptTail e (.Slice lo hi none p2) v (.ref s3.heap.objs.size)) (EP X pins σ Q) X.xe { s3 with heap:=s3.heap.push { cls:=.type "slice",data:=.fields #[vl,vu,.none] } }
  exact tail_any (ops:=[.ref s3.heap.objs.size,v]) ht hT hg (by with_unfolding_all rfl)
def cutV (xs:List V) (lo hi:Option Int):List V:=(xs.drop (HT.sIx xs.length 0 lo)).take (HT.sIx xs.length xs.length hi - HT.sIx xs.length 0 lo)
theorem cutV_length (xs:List V) (lo hi:Option Int):(cutV xs lo hi).length≤xs.length:=by
  unfold cutV
  rw [List.length_take,List.length_drop]
  omega
def rCatT (K:PySem.W.Frag):R2:=fun x y H Q=>∃ a b xs ys,x=.ref a∧y=.ref b∧SqT K H a xs∧SqT K H b ys∧xs≠[]∧xs.length + ys.length≤sizeLine ∧
  (ys=[]→Q (.ref a) H)∧(ys≠[]→∀ p,H p=none→Q (.ref p) (upd H p (.tup (xs ++ ys))))
end
end L2
namespace L2
open PySem PySem.Spec PyProof.Rows
def ixN (n:Nat) (i:Int):Option Nat:=if 0≤i then (if i < n then some i.toNat else none) else if -(n:Int)≤i then some (i + n).toNat else none
def atI {α:Type} (xs:List α) (i:Int):Option α:=(ixN xs.length i).bind fun j=>xs[j]?
theorem ixN_seq {n:Nat} {i:Int} {j:Nat} (h:ixN n i=some j):seqIndex? i n=some j∧j < n∧-(n:Int)≤i∧i < n:=by
  unfold ixN at h
  by_cases h0:0≤i
  · rw [if_pos h0] at h
    by_cases h1:i < n
    · rw [if_pos h1] at h
      have e:i.toNat=j:=Option.some.inj h
      exact ⟨by rw [seqIndex_of h0 h1,e],by omega,by omega,h1⟩
    · rw [if_neg h1] at h;cases h
  · rw [if_neg h0] at h
    by_cases h1:-(n:Int)≤i
    · rw [if_pos h1] at h
      have e:(i + n).toNat=j:=Option.some.inj h
      exact ⟨by rw [seqIndex_neg (by omega) h1,e],by omega,h1,by omega⟩
    · rw [if_neg h1] at h;cases h
theorem atI_get {α:Type} {xs:List α} {i:Int} {v:α} (h:atI xs i=some v):∃ j,seqIndex? i xs.length=some j∧xs[j]?=some v∧j < xs.length∧-(xs.length:Int)≤i∧i < xs.length:=by
  unfold atI at h
  cases e:ixN xs.length i with
  | none=>rw [e] at h;cases h
  | some j =>
    rw [e] at h
    obtain ⟨h1,h2,h3,h4⟩:=ixN_seq e
    exact ⟨j,h1,h,h2,h3,h4⟩
theorem atI_nat {α:Type} {xs:List α} {j:Nat} {v:α} (h:xs[j]?=some v):atI xs (j:Int)=some v:=by
  have hj:j < xs.length:=(List.getElem?_eq_some_iff.mp h).1
  have e:ixN xs.length (j:Int)=some j:=by
    unfold ixN
    rw [if_pos (by omega),if_pos (by omega)];simp
  unfold atI;rw [e];exact h
def PlainIx (b:Expr):Prop:=∀ o i,subscripted b false o i=operate [o,i] (getItem o i)
def IxR (X:Cx) (r:R2):Prop :=
  ∀ (value slice:Expr) (pins:List (Addr × Obj)) (s:Shared) (σ:St) (H:Hp) (x y:V) (v u:Value) (Q:VK),Inv X pins σ H s→RelV x v→RelV y u→r x y H Q →
    subscripted slice false v u=operate [v,u] (getItem v u)→wpAny (model X.prog X.w) X.A (subscriptTail value slice v u) (EP X pins σ Q) X.xe s
def MtR (X:Cx) (id:String) (r:V→List V→Hp→VK→Prop):Prop :=
  ∀ (pins:List (Addr × Obj)) (s:Shared) (σ:St) (H:Hp) (x:V) (xs:List V) (v:Value) (us:List Value) (Q:VK),Inv X pins σ H s→RelV x v→Vals xs us→r x xs H Q →
    wpAny (model X.prog X.w) X.A (call (.builtin id) (v :: us)) (EP X pins σ Q) X.xe s
section
variable {X:Cx} {a b:Expr} {ta tb:TE} {pos:Pos}
theorem pe_ix {r:R2} (hr:IxR X r) (ha:PE X a ta) (hb:PE X b tb) (hs:PlainIx b):PE X (.Subscript a b pos) (tOp r ta tb):=by
  intro pins s σ H Q I h
  exact Subscript_ (binT ha hb I h fun v u s2 x y H2 I2 rx ry q=>hr a b pins s2 σ H2 x y v u Q I2 rx ry q (hs _ _))
def rIxL (K:PySem.W.Frag):R2:=fun x y H Q=>∃ p xs i v,x=.ref p∧y=.int i∧SqL K H p xs∧atI xs i=some v∧Q v H
def rIxT (K:PySem.W.Frag):R2:=fun x y H Q=>∃ p xs i v,x=.ref p∧y=.int i∧SqT K H p xs∧atI xs i=some v∧Q v H
def rIxS:R2:=fun x y H Q=>∃ z i c,x=.str z∧y=.int i∧z.length≤sizeLine∧atI z.cps.toList i=some c∧Q (.str ⟨#[c]⟩) H
theorem ix_list:IxR X (rIxL X.K):=by
  intro value slice pins s σ H x y v u Q I rx ry h hs
  obtain ⟨p,xs,i,z,rfl,rfl,hq,he,q⟩:=h
  cases rx
  obtain ⟨t,rfl⟩:=ry
  obtain ⟨its,r,pl,hz⟩:=I.list hq
  obtain ⟨j,h1,h2,h3,h4,h5⟩:=atI_get he
  obtain ⟨w,ew,rw'⟩:=r.get h2
  have hl:=r.length
  have hn:=line63
  have fin:EP X pins σ Q w s:=⟨z,H,I,rw',q⟩
  by_cases h0:0≤i
  · have hj:i.toNat=j:=by
      rw [seqIndex_of h0 h5] at h1
      exact Option.some.inj h1
    exact item_listR pl.isList h0 (by omega) (by rw [hj];simpa using ew) fin hs
  · have hj:(i + (its.toArray.size:Int)).toNat=j:=by
      rw [seqIndex_neg (by omega) h4] at h1
      rw [List.size_toArray,← hl]
      exact Option.some.inj h1
    exact subscriptTail_builtinR (x:=w) pl.isList.typeIs slot_list_getitem.lookup
      (wpAny_getItem_list_neg (Q:=fun r s'=>r=w∧EP X pins σ Q r s') pl.isList (by omega) (by rw [List.size_toArray] <;> omega) (by omega) (by rw [hj];simpa using ew) ⟨rfl,fin⟩) hs
theorem ix_tup:IxR X (rIxT X.K):=by
  intro value slice pins s σ H x y v u Q I rx ry h hs
  obtain ⟨p,xs,i,z,rfl,rfl,hq,he,q⟩:=h
  cases rx
  obtain ⟨t,rfl⟩:=ry
  obtain ⟨its,r,pl,hz⟩:=I.tuple hq
  obtain ⟨j,h1,h2,h3,h4,h5⟩:=atI_get he
  obtain ⟨w,ew,rw'⟩:=r.get h2
  have hl:=r.length
  have hn:=line63
  have fin:EP X pins σ Q w s:=⟨z,H,I,rw',q⟩
  exact subscriptTail_builtinR (x:=w) pl.typeIs slot_tuple_getitem.lookup
    (getItem_tuple (j:=j) (Q:=fun r s'=>r=w∧EP X pins σ Q r s') pl (by omega) (by omega) (by rw [List.size_toArray,← hl];exact h1) (by simpa using ew) ⟨rfl,fin⟩) hs
theorem ix_str:IxR X rIxS:=by
  intro value slice pins s σ H x y v u Q I rx ry h hs
  obtain ⟨z,i,c,rfl,rfl,hz,he,q⟩:=h
  obtain ⟨t,rfl⟩:=rx
  obtain ⟨t',rfl⟩:=ry
  obtain ⟨j,h1,h2,h3,h4,h5⟩:=atI_get he
  have hl:z.cps.toList.length=z.length:=by simp [Str.length]
  rw [hl] at h1 h4 h5
  have hn:=line63
  exact tail_any (typeIs_str s z t) slot_str_getitem.lookup (getItem_str (c:=c) (by
    have e1:decide (i < -(2 ^ 63:Int))=false:=decide_eq_false (by omega)
    have e2:decide (i ≥ 2 ^ 63)=false:=decide_eq_false (by omega)
    rw [e1,e2,Bool.or_false]) (by rw [h1];simpa using h2) ⟨.str ⟨#[c]⟩,H,I.tok _,⟨_,rfl⟩,q⟩) hs
theorem slice_bounds (lo hi:Option Int) (n:Nat):(sliceBounds lo hi none n).1=((HT.sIx n 0 lo:Nat):Int)∧(sliceBounds lo hi none n).2.1=((HT.sIx n n hi:Nat):Int)∧(sliceBounds lo hi none n).2.2=1:=by
  refine ⟨?_,?_,rfl⟩
  · cases lo with
    | none=>simp [sliceBounds,HT.sIx]
    | some i =>
      simp only [sliceBounds,HT.sIx,Option.getD_none,show (1:Int) > 0 by decide,if_true]
      by_cases h:i < 0
      · simp only [h,if_true] <;> omega
      · simp only [h,if_false] <;> omega
  · cases hi with
    | none=>simp [sliceBounds,HT.sIx]
    | some i =>
      simp only [sliceBounds,HT.sIx,Option.getD_none,show (1:Int) > 0 by decide,if_true]
      by_cases h:i < 0
      · simp only [h,if_true] <;> omega
      · simp only [h,if_false] <;> omega
theorem slicePick_cut (its:List Value) (lo hi:Option Int):slicePick its.toArray lo hi none=((its.drop (HT.sIx its.length 0 lo)).take (HT.sIx its.length its.length hi - HT.sIx its.length 0 lo)).toArray:=by
  obtain ⟨h1,h2,h3⟩:=slice_bounds lo hi its.toArray.size
  unfold slicePick
  rw [h1,h2,h3]
  simp only [sliceRange_one,pick_run,List.size_toArray] <;> rfl
def rSlL (K:PySem.W.Frag):V→Option Int→Option Int→Hp→VK→Prop:=fun x lo hi H Q=>∃ a xs,x=.ref a∧SqL K H a xs∧∀ p,H p=none→Q (.ref p) (upd H p (.lst (cutV xs lo hi)))
theorem sl_list:SlR X (rSlL X.K):=by
  intro pins s σ H x v vl vu lo hi sl Q I rx hs pl pu h
  obtain ⟨a,xs,rfl,hx,q⟩:=h
  cases rx
  obtain ⟨its,r,ht,hz⟩:=I.list hx
  have hlen:=r.length
  refine ⟨"list",_,slot_list_getitem.lookup,ht.isList.typeIs,?_⟩
  refine wpAny_getItem_list_slice ht.isList hs pl pu .none (by simp) ?_ (by rw [List.size_toArray] <;> omega)
  rw [slicePick_cut,← hlen]
  refine ⟨.ref s.heap.objs.size,_,I.laid (t':=s.toks) (o:=.lst (cutV xs lo hi)) (fun b ob q=>Heap.get?_push_of_some _ q) (Nat.le_refl _) ?_,rfl,q _ (I.hok.fresh (Nat.le_refl _))⟩
  exact ⟨Nat.le_trans (cutV_length xs lo hi) hz,_,0,(r.drop (HT.sIx xs.length 0 lo)).take (HT.sIx xs.length xs.length hi - HT.sIx xs.length 0 lo),Heap.get?_push_size _ rfl⟩
def flatV:V→Bool
  | .non=>true
  | .bl _=>true
  | .int _=>true
  | .str _=>true
  | _=>false
def eqV:V→V→Bool
  | .non,.non=>true
  | .bl a,.bl b=>a == b
  | .bl a,.int b=>(if a then 1 else 0) == b
  | .int a,.bl b=>a == (if b then 1 else 0)
  | .int a,.int b=>a == b
  | .str a,.str b=>a == b
  | _,_=>false
def inV (x:V) (xs:List V):Bool:=xs.any fun y=>eqV y x
def rIn (K:PySem.W.Frag) (neg:Bool):R2:=fun x y H Q=>∃ p xs,y=.ref p∧(SqL K H p xs∨SqT K H p xs)∧flatV x=true∧xs.all flatV=true∧Q (.bl (if neg then !inV x xs else inV x xs)) H
theorem call_list_of:CallR X (.type "list") (fun xs H Q=>∃ p ys,xs=[.ref p]∧(SqL X.K H p ys∨SqT X.K H p ys)∧∀ l,H l=none→Q (.ref l) (upd H l (.lst ys))):=by
  intro pins s σ H xs us Q I r h
  obtain ⟨p,ys,rfl,hq,q⟩:=h
  obtain ⟨u,rfl,rx⟩:=vals1 r
  cases rx
  have fin:∀ (its:List Value),Vals ys its→ys.length≤sizeLine→∀ (h':Heap) (c':Nat),(∀ b o',s.heap.get? b=some o'→h'.get? b=some o') →
      h'.get? s.heap.objs.size=some { cls:=.type "list",dict:=none,data:=.seq its.toArray c',slots:=#[] }→EP X pins σ Q (.ref s.heap.objs.size) { s with heap:=h' }:=fun its r' hz h' c' kp e =>
    ⟨.ref s.heap.objs.size,_,I.laid (t':=s.toks) kp (Nat.le_refl _) (show ObjOk X.prog X.w _ h' _ (.lst ys) from ⟨hz,its,c',r',e⟩),rfl,q _ (I.hok.fresh (Nat.le_refl _))⟩
  rcases hq with hq | hq
  · obtain ⟨its,r',pl,hz⟩:=I.list hq
    have hlen:=r'.length
    obtain ⟨o,ho,hc,n,hd⟩:=pl.isList
    exact call_list_seq p (.inl rfl) ho hc hd (fun h' c' kp e=>fin its r' hz h' c' kp e) (by simp only [List.size_toArray] <;> omega)
  · obtain ⟨its,r',pl,hz⟩:=I.tuple hq
    have hlen:=r'.length
    obtain ⟨o,ho,hc,n,hd⟩:=pl
    exact call_list_seq p (.inr rfl) ho hc hd (fun h' c' kp e=>fin its r' hz h' c' kp e) (by simp only [List.size_toArray] <;> omega)
def tyV (K:PySem.W.Frag) (T:String) (x:V) (H:Hp):Prop:=match x with
  | .str _=>T="str"
  | .int _=>T="int"
  | .ref p=>(T="list"∧∃ xs,SqL K H p xs)∨(T="tuple"∧∃ o,K.lookup p=some o∧o.cls=.type "tuple"∧o.dict=none) ∨
      (T="dict"∧((∃ kvs,H p=some (.dK kvs))∨∃ kvs,H p=some (.dT kvs)))∨(T="set"∧∃ S n,H p=some (.set S n))
  | _=>False
def tBM0 (K:PySem.W.Frag) (T:String) (r:V→List V→Hp→VK→Prop) (to:TE):TE:=fun σ H Q=>to σ H fun x H1=>tyV K T x H1∧r x [] H1 Q
def tBM (K:PySem.W.Frag) (T:String) (r:V→List V→Hp→VK→Prop) (to:TE) (t:TA):TE:=fun σ H Q=>to σ H fun x H1=>tyV K T x H1∧t σ H1 fun xs H2=>r x xs H2 Q
variable {o e:Expr} {es:List Expr} {to:TE} {t:TA} {name:Str} {apos cpos:Pos} {T id:String} {r:V→List V→Hp→VK→Prop}
end
end L2
namespace L2
open PySem PySem.Spec PyProof.Rows
def MtM (X:Cx) (id:String) (r:V→List V→Hp→VK→Prop):Prop :=
  ∀ (pins:List (Addr × Obj)) (s:Shared) (σ:St) (H:Hp) (x:V) (xs:List V) (v:Value) (us:List Value) (Q:VK),Inv X pins σ H s→RelV x v→Vals xs us→r x xs H Q →
    wpAny (model X.prog X.w) X.A (call (.builtin id) (v :: us)) (EP X pins σ Q) X.xe s
theorem Vals.one:∀ {x:V} {us:List Value},Vals [x] us→∃ u,us=[u]∧RelV x u
  | _,_,.cons r .nil=>⟨_,rfl,r⟩
section
variable {X:Cx} {pins:List (Addr × Obj)} {σ:St} {H:Hp} {s:Shared} {l b:Addr} {xs ys zs:List V}
theorem Inv.lset {its its':List Value} {n:Nat} {f:Array Value→Array Value} {t':Nat} (I:Inv X pins σ H s) (hH:H l=some (.lst xs))
    (e:s.heap.get? l=some { cls:=.type "list",data:=.seq its.toArray n }) (hf:f its.toArray=its'.toArray) (hv:Vals ys its') (hz:ys.length≤sizeLine) :
    Inv X pins σ (upd H l (.lst ys)) { s with heap:=s.heap.update l (Obj.mapSeq f),toks:=t' }:=by
  have q:=PySem.IsL.update e f
  rw [hf] at q
  refine I.write (x:=l) (e:=l) (by rw [hH];exact trivial) (.inl rfl) (fun b' u hb hu=>(Heap.get?_update_other s.heap (Obj.mapSeq f) (Ne.symm hb)).trans hu) ⟨_,q⟩ ?_
  exact ⟨hz,its',_,hv,q⟩
theorem Inv.lnew {its:List Value} {t':Nat} (I:Inv X pins σ H s) (hv:Vals ys its) (hz:ys.length≤sizeLine) :
    Inv X pins σ (upd H s.heap.objs.size (.lst ys)) { s with heap:=s.heap.push { cls:=.type "list",data:=.seq its.toArray },toks:=t' } :=
  I.laid (fun _ _ q=>Heap.get?_push_of_some _ q) (Nat.le_refl _) ⟨hz,its,0,hv,Heap.get?_push_size _ rfl⟩
theorem Inv.fresh (I:Inv X pins σ H s):H s.heap.objs.size=none:=I.hok.fresh (Nat.le_refl _)
theorem Inv.lstM (I:Inv X pins σ H s) (hH:H l=some (.lst xs)):xs.length≤sizeLine∧∃ (its:List Value) (n:Nat),Vals xs its∧xs.length=its.length∧s.heap.get? l=some { cls:=.type "list",data:=.seq its.toArray n }:=by
  obtain ⟨z,its,n,r,e⟩:=I.hok l _ hH
  exact ⟨z,its,n,r,r.length,e⟩
end
section
variable {X:Cx}
def rAppend:V→List V→Hp→VK→Prop:=fun x vs H Q=>∃ l xs y,x=.ref l∧vs=[y]∧H l=some (.lst xs)∧xs.length < sizeLine∧Q .non (upd H l (.lst (xs ++ [y])))
theorem mt_append:MtM X "list.append" rAppend:=by
  intro pins s σ H x vs v us Q I rx rv h
  obtain ⟨l,xs,y,rfl,rfl,hH,hz,q⟩:=h
  cases rx
  obtain ⟨u,rfl,ru⟩:=rv.one
  obtain ⟨z,its,n,r,hl,e⟩:=I.lstM hH
  refine call_meets F.slot_list_append ⟨_,e,rfl⟩ F.entry_list_append (F.args_list_append_2 _ _) (PySem.list_append l its.toArray n u (by rw [List.size_toArray];omega)) ⟨e,?_⟩
  refine ⟨.non,_,I.lset (its':=its ++ [u]) hH e (by simp) (r.append (.cons ru .nil)) ?_,rfl,q⟩
  rw [List.length_append,List.length_singleton]
  omega
def rExtend:V→List V→Hp→VK→Prop:=fun x vs H Q=>∃ l b xs zs,x=.ref l∧vs=[.ref b]∧H l=some (.lst xs)∧H b=some (.lst zs)∧xs.length + zs.length≤sizeLine∧Q .non (upd H l (.lst (xs ++ zs)))
def rPop:V→List V→Hp→VK→Prop:=fun x vs H Q=>∃ l xs y,x=.ref l∧vs=[]∧H l=some (.lst xs)∧xs[xs.length - 1]?=some y∧Q y (upd H l (.lst xs.dropLast))
def rClear:V→List V→Hp→VK→Prop:=fun x vs H Q=>∃ l xs,x=.ref l∧vs=[]∧H l=some (.lst xs)∧Q .non (upd H l (.lst []))
def rCat:R2:=fun x y H Q=>∃ l b xs zs,x=.ref l∧y=.ref b∧H l=some (.lst xs)∧H b=some (.lst zs)∧xs.length + zs.length≤sizeLine∧∀ p,H p=none→Q (.ref p) (upd H p (.lst (xs ++ zs)))
theorem op_cat:OpR X (binaryOp .Add) rCat:=by
  intro pins s σ H x y v u Q I rx ry h
  obtain ⟨l,b,xs,zs,rfl,rfl,hH,hB,hz,q⟩:=h
  cases rx
  cases ry
  obtain ⟨z,its,n,r,hl,e⟩:=I.lstM hH
  obtain ⟨z2,its2,n2,r2,hl2,e2⟩:=I.lstM hB
  refine PySem.P.add_list e e2 ?_ (by rw [List.size_toArray,List.size_toArray];omega)
  have ea:its.toArray ++ its2.toArray=(its ++ its2).toArray:=by simp
  rw [ea]
  exact ⟨.ref _,_,I.lnew (t':=s.toks) (r.append r2) (by rw [List.length_append];omega),rfl,q _ I.fresh⟩
def rRep:R2:=fun x y H Q=>∃ l k xs,x=.ref l∧y=.int k∧H l=some (.lst xs)∧-(2 ^ 63)≤k∧k < 2 ^ 63∧xs.length * k.toNat≤sizeLine ∧
  ∀ p,H p=none→Q (.ref p) (upd H p (.lst (List.replicate k.toNat xs).flatten))
end
section
variable {prog:Program} {w:World} {A:Around} {E:Value→Shared→Prop} {s:Shared}
set_option maxRecDepth 100000 in
end
section
variable {X:Cx}
end
end L2
namespace L2
open PySem PySem.Spec PyProof.Rows
section
variable {κ:Type} [DecidableEq κ]
def valV (kvs:List (κ × V)) (k:κ):Option V:=(kvs.find? fun kv=>decide (kv.1=k)).map (·.2)
def putK (kvs:List (κ × V)) (k:κ) (v:V):List (κ × V) :=
  if (kvs.any fun kv=>decide (kv.1=k))=true then kvs.map (fun kv=>if kv.1=k then (kv.1,v) else kv) else kvs ++ [(k,v)]
def dropK (kvs:List (κ × V)) (k:κ):List (κ × V):=kvs.filter fun kv=>decide (kv.1≠k)
theorem valV_nil {k:κ}:valV ([]:List (κ × V)) k=none:=rfl
theorem valV_pos {p:κ × V} {r:List (κ × V)} {k:κ} (e:p.1=k):valV (p :: r) k=some p.2:=by simp [valV,List.find?_cons,e]
theorem valV_neg {p:κ × V} {r:List (κ × V)} {k:κ} (e:¬ p.1=k):valV (p :: r) k=valV r k:=by simp [valV,List.find?_cons,e]
theorem valV_any (k:κ):∀ kvs:List (κ × V),(kvs.any fun kv=>decide (kv.1=k))=(valV kvs k).isSome
  | []=>rfl
  | p :: r=>by
    rw [List.any_cons]
    by_cases e:p.1=k
    · simp only [valV_pos e,decide_eq_true e,Bool.true_or,Option.isSome_some]
    · rw [valV_neg e,decide_eq_false e,Bool.false_or];exact valV_any k r
theorem valV_map (k j:κ) (y:V):∀ kvs:List (κ × V),valV (kvs.map fun kv=>if kv.1=k then (kv.1,y) else kv) j=(valV kvs j).map fun x=>if j=k then y else x
  | []=>rfl
  | p :: r=>by
    have ih:=valV_map k j y r
    rw [List.map_cons]
    by_cases h:p.1=k
    · rw [if_pos h]
      by_cases e:p.1=j
      · rw [valV_pos (p:=(p.1,y)) e,valV_pos e,Option.map_some,if_pos (e.symm.trans h)]
      · rw [valV_neg (p:=(p.1,y)) e,valV_neg e,ih]
    · rw [if_neg h]
      by_cases e:p.1=j
      · rw [valV_pos (p:=p) e,valV_pos e,Option.map_some,if_neg (fun z=>h (e.trans z))]
      · rw [valV_neg (p:=p) e,valV_neg e,ih]
theorem valV_snoc (k j:κ) (y:V):∀ kvs:List (κ × V),valV kvs k=none→valV (kvs ++ [(k,y)]) j=if j=k then some y else valV kvs j
  | [],_=>by
    by_cases e:k=j
    · rw [if_pos e.symm];exact valV_pos (p:=(k,y)) e
    · rw [if_neg (fun z=>e z.symm)];exact valV_neg (p:=(k,y)) e
  | p :: r,hn=>by
    rw [List.cons_append]
    have hk:¬ p.1=k:=fun z=>by rw [valV_pos z] at hn;cases hn
    rw [valV_neg hk] at hn
    have ih:=valV_snoc k j y r hn
    by_cases e:p.1=j
    · rw [valV_pos e,valV_pos e,if_neg (fun z=>hk (e.trans z))]
    · rw [valV_neg e,valV_neg e,ih]
theorem valV_put (kvs:List (κ × V)) (k j:κ) (y:V):valV (putK kvs k y) j=if j=k then some y else valV kvs j:=by
  unfold putK
  by_cases a:(kvs.any fun kv=>decide (kv.1=k))=true
  · rw [if_pos a,valV_map]
    rw [valV_any] at a
    by_cases e:j=k
    · obtain ⟨x,hx⟩:=Option.isSome_iff_exists.mp a
      rw [if_pos e,e,hx,Option.map_some,if_pos rfl]
    · rw [if_neg e]
      cases valV kvs j with
      | none=>rfl
      | some x=>rw [Option.map_some,if_neg e]
  · rw [if_neg a]
    refine valV_snoc k j y kvs ?_
    rw [valV_any] at a
    cases q:valV kvs k with
    | none=>rfl
    | some x=>rw [q] at a;exact (a rfl).elim
theorem length_putK (kvs:List (κ × V)) (k:κ) (v:V):(putK kvs k v).length≤kvs.length + 1:=by
  unfold putK
  split
  · rw [List.length_map];omega
  · rw [List.length_append,List.length_cons,List.length_nil];omega
theorem putK_new {kvs:List (κ × V)} {k:κ} (v:V) (h:valV kvs k=none):putK kvs k v=kvs ++ [(k,v)]:=by
  unfold putK
  rw [valV_any,h]
  exact if_neg (by decide)
theorem RelO.isSome_eq {o:Option V} {u:Option Value} (r:RelO o u):o.isSome=u.isSome:=by
  cases o with
  | none=>cases u with
    | none=>rfl
    | some _=>exact (show False from r).elim
  | some _=>cases u with
    | none=>exact (show False from r).elim
    | some _=>rfl
theorem KV.val {kvs:List (κ × V)} {vs:List (κ × Value)} (r:KV kvs vs) (k:κ):RelO (valV kvs k) (valueAt vs k):=by
  unfold KV at r
  induction r with
  | nil=>exact True.intro
  | @cons p q ps qs h t ih =>
    obtain ⟨h1,h2⟩:=h
    by_cases e:p.1=k
    · have e':q.1=k:=h1.symm.trans e
      have b:valueAt (q :: qs) k=some q.2:=by simp [valueAt,List.find?_cons,e']
      rw [valV_pos e,b];exact h2
    · have e':¬ q.1=k:=fun z=>e (h1.trans z)
      have b:valueAt (q :: qs) k=valueAt qs k:=by simp [valueAt,List.find?_cons,e']
      rw [valV_neg e,b];exact ih
theorem KV.any {kvs:List (κ × V)} {vs:List (κ × Value)} (r:KV kvs vs) (k:κ):(kvs.any fun kv=>decide (kv.1=k))=vs.any fun kv=>decide (kv.1=k):=by
  unfold KV at r
  induction r with
  | nil=>rfl
  | cons h t ih=>rw [List.any_cons,List.any_cons,ih,h.1]
theorem KV.repl {kvs:List (κ × V)} {vs:List (κ × Value)} (r:KV kvs vs) (k:κ) {y:V} {u:Value} (ry:RelV y u) :
    KV (kvs.map fun kv=>if kv.1=k then (kv.1,y) else kv) (vs.map fun kv=>if kv.1=k then (kv.1,u) else kv):=by
  unfold KV at r ⊢
  induction r with
  | nil=>exact .nil
  | @cons p q ps qs h t ih =>
    rw [List.map_cons,List.map_cons]
    refine .cons ?_ ih
    obtain ⟨h1,h2⟩:=h
    by_cases e:p.1=k
    · rw [if_pos e,if_pos (h1.symm.trans e)];exact ⟨h1,ry⟩
    · rw [if_neg e,if_neg (fun z=>e (h1.trans z))];exact ⟨h1,h2⟩
theorem KV.put {kvs:List (κ × V)} {vs:List (κ × Value)} (r:KV kvs vs) (k:κ) {y:V} {u:Value} (ry:RelV y u):KV (putK kvs k y) (stored vs k u):=by
  unfold putK stored
  rw [r.any k]
  by_cases e:(vs.any fun kv=>decide (kv.1=k))=true
  · rw [if_pos e,if_pos e];exact r.repl k ry
  · rw [if_neg e,if_neg e];exact Paired.snoc r ⟨rfl,ry⟩
theorem KV.length {kvs:List (κ × V)} {vs:List (κ × Value)} (r:KV kvs vs):kvs.length=vs.length:=Paired.length r
end
theorem kV_is {P:Program} {w:World} {k:Key} {u:Value} (r:RelV (kV k) u):(mixKind P w).is k u=true:=by
  cases k with
  | inl i=>obtain ⟨t,e⟩:=(show ∃ t,u=Value.int i t from r);subst e;exact mixKind_int P w i t
  | inr x=>obtain ⟨t,e⟩:=(show ∃ t,u=Value.str x t from r);subst e;exact mixKind_str P w x t
theorem items_are {P:Program} {w:World}:∀ {ks:List Key} {us:List Value},Vals (ks.map kV) us→ItemsAre (mixKind P w) ks us
  | [],_,r=>by rw [List.map_nil] at r;cases r;exact .nil
  | k :: ks,_,r=>by
    rw [List.map_cons] at r
    cases r with
    | cons h t=>exact .cons (kV_is h) (items_are t)
abbrev KT (H:Hp):List (List Key × V)→List (List Key × Addr × Value)→Prop:=Paired fun p q=>p.1=q.1∧H q.2.1=some (.tup (p.1.map kV))∧RelV p.2 q.2.2
theorem KT.val {H:Hp} {kvs:List (List Key × V)} {xs:List (List Key × Addr × Value)} (r:KT H kvs xs) (k:List Key):RelO (valV kvs k) ((atKey xs k).map (·.2)):=by
  induction r with
  | nil=>exact True.intro
  | @cons p q ps qs h t ih =>
    obtain ⟨h1,_,h2⟩:=h
    by_cases e:p.1=k
    · have e':q.1=k:=h1.symm.trans e
      have b:atKey (q :: qs) k=some q.2:=by simp [atKey,List.find?_cons,e']
      rw [valV_pos e,b];exact h2
    · have e':¬ q.1=k:=fun z=>e (h1.trans z)
      have b:atKey (q :: qs) k=atKey qs k:=by simp [atKey,List.find?_cons,e']
      rw [valV_neg e,b];exact ih
theorem KT.repl {H:Hp} {kvs:List (List Key × V)} {xs:List (List Key × Addr × Value)} (r:KT H kvs xs) (k:List Key) {y:V} {u:Value} (ry:RelV y u) :
    KT H (kvs.map fun kv=>if kv.1=k then (kv.1,y) else kv) (xs.map (putAt k u)):=by
  induction r with
  | nil=>exact .nil
  | @cons p q ps qs h t ih =>
    rw [List.map_cons,List.map_cons]
    refine .cons ?_ ih
    obtain ⟨h1,h2,h3⟩:=h
    unfold putAt
    by_cases e:p.1=k
    · rw [if_pos e,if_pos (h1.symm.trans e)];exact ⟨h1,h2,ry⟩
    · rw [if_neg e,if_neg (fun z=>e (h1.trans z))];exact ⟨h1,h2,h3⟩
theorem KT.put {H:Hp} {kvs:List (List Key × V)} {xs:List (List Key × Addr × Value)} (r:KT H kvs xs) (k:List Key) {b:Addr} {y:V} {u:Value} (hb:H b=some (.tup (k.map kV))) (ry:RelV y u) :
    KT H (putK kvs k y) (storedH xs k b u):=by
  have e:(kvs.any fun kv=>decide (kv.1=k))=(atKey xs k).isSome:=by
    rw [valV_any,(r.val k).isSome_eq,Option.isSome_map]
  unfold putK storedH
  rw [e]
  by_cases q:(atKey xs k).isSome=true
  · rw [if_pos q,if_pos q];exact r.repl k ry
  · rw [if_neg q,if_neg q];exact Paired.snoc r ⟨rfl,hb,ry⟩
theorem KT.keeps {H H':Hp} {kvs:List (List Key × V)} {xs:List (List Key × Addr × Value)} (r:KT H kvs xs) (ht:∀ b ys,H b=some (.tup ys)→H' b=some (.tup ys)):KT H' kvs xs :=
  Paired.mapP r fun _ _ z=>⟨z.1,ht _ _ z.2.1,z.2.2⟩
section
variable {P:Program} {w:World} {H:Hp} {h:Heap} {a:Addr}
theorem rd_of {u:HO} (ok:HOk P w H h) (e:Rd H a u):ObjOk P w H h a u:=e.ok ok
theorem dk_rd {kvs:List (Key × V)} (ok:HOk P w H h) (e:Rd H a (.dK kvs)):kvs.length≤sizeLine∧(a == sysModules)=false∧∃ vs,KV kvs vs∧h.DictOf (mixKind P w) a vs :=
  show ObjOk P w H h a (.dK kvs) from rd_of ok e
theorem dk_of {kvs:List (Key × V)} (ok:HOk P w H h) (e:H a=some (.dK kvs)):kvs.length≤sizeLine∧(a == sysModules)=false∧∃ vs,KV kvs vs∧h.DictOf (mixKind P w) a vs:=dk_rd ok (.inl e)
theorem key_of {ks:List Key} (ok:HOk P w H h) (e:H a=some (.tup (ks.map kV))):(tupleKind (mixKind P w)).is h ks a:=by
  obtain ⟨_,its,r,o,h1,h2,n,h3⟩:=(show ObjOk P w H h a (.tup (ks.map kV)) from ok a _ e)
  exact ⟨o,its.toArray,n,h1,h2,h3,by simpa using items_are r⟩
theorem dt_rd {kvs:List (List Key × V)} (ok:HOk P w H h) (e:Rd H a (.dT kvs)):kvs.length≤sizeLine∧(a == sysModules)=false ∧
    ∃ xs,KT H kvs xs∧h.DictOfH (tupleKind (mixKind P w)) a xs:=by
  obtain ⟨z,y,xs,r,o,es,ep,h1,h2,h3,h4,h5⟩:=(show ObjOk P w H h a (.dT kvs) from rd_of ok e)
  refine ⟨z,y,xs,r,o,es,ep,h1,h2,h3,h4,fun x hx=>?_,h5⟩
  have all:∀ {l:List (List Key × V)} {m:List (List Key × Addr × Value)},KT H l m→∀ x∈m,(tupleKind (mixKind P w)).is h x.1 x.2.1:=by
    intro l m q
    induction q with
    | nil=>intro x hx;exact nomatch hx
    | @cons p q ps qs hq t ih =>
      intro x hx
      rcases List.mem_cons.mp hx with e | hx
      · subst e
        exact key_of ok (by rw [← hq.1];exact hq.2.1)
      · exact ih x hx
  exact all r x hx
theorem dt_of {kvs:List (List Key × V)} (ok:HOk P w H h) (e:H a=some (.dT kvs)):kvs.length≤sizeLine∧(a == sysModules)=false ∧
    ∃ xs,KT H kvs xs∧h.DictOfH (tupleKind (mixKind P w)) a xs:=dt_rd ok (.inl e)
end
def DGet (H:Hp) (a:Addr) (y:V) (r:Option V):Prop :=
  (∃ kvs k,Rd H a (.dK kvs)∧y=kV k∧r=valV kvs k)∨∃ kvs k b,Rd H a (.dT kvs)∧y=.ref b∧H b=some (.tup (k.map kV))∧r=valV kvs k
def DPut (H:Hp) (a:Addr) (y v:V) (H':Hp):Prop :=
  (∃ kvs k,H a=some (.dK kvs)∧y=kV k∧kvs.length < sizeLine∧H'=upd H a (.dK (putK kvs k v))) ∨
  ∃ kvs k b,H a=some (.dT kvs)∧y=.ref b∧H b=some (.tup (k.map kV))∧kvs.length < sizeLine∧H'=upd H a (.dT (putK kvs k v))
theorem DGet.t {H:Hp} {a b:Addr} {kvs:List (List Key × V)} {k:List Key} (e:H a=some (.dT kvs)) (eb:H b=some (.tup (k.map kV))):DGet H a (.ref b) (valV kvs k):=.inr ⟨kvs,k,b,.inl e,rfl,eb,rfl⟩
theorem DPut.t {H:Hp} {a b:Addr} {kvs:List (List Key × V)} {k:List Key} {v:V} (e:H a=some (.dT kvs)) (eb:H b=some (.tup (k.map kV))) (hl:kvs.length < sizeLine) :
    DPut H a (.ref b) v (upd H a (.dT (putK kvs k v))):=.inr ⟨kvs,k,b,e,rfl,eb,hl,rfl⟩
section
variable {X:Cx} {pins:List (Addr × Obj)} {σ:St} {H:Hp} {s:Shared} {a:Addr} {y v:V} {u r:Value} {o:Option V} {A:Around} {E:Value→Shared→Prop}
theorem Inv.big (I:Inv X pins σ H s):sysModules < s.heap.objs.size:=by
  have h:mainGlobals < s.heap.objs.size:=(I.mod.glob.keeps I.bk).lt
  exact Nat.lt_trans (by decide) h
theorem d_in {Q:Value→Shared→Prop} (hu:A.units + 1 < cLine) (I:Inv X pins σ H s) (g:DGet H a y o) (ry:RelV y u) (h:∀ s',Inv X pins σ H s'→Q (.bool o.isSome) s') :
    wpAny (model X.prog X.w) A (compareOp .In u (.ref a)) Q E s:=by
  rcases g with ⟨kvs,k,e,ey,l⟩ | ⟨kvs,k,b,e,ey,eb,l⟩
  · subst ey
    obtain ⟨z,hd,vs,rel,dd⟩:=dk_rd I.hok e
    refine wpAny_in_of (kV_is ry) hd dd.mapOf ?_
    rw [← (rel.val k).isSome_eq,← l]
    exact h _ (I.tok _)
  · subst ey
    cases (show u=Value.ref b from ry)
    obtain ⟨z,hd,xs,rel,dd⟩:=dt_rd I.hok e
    refine wpAny_in_heap (tupleKind_room_in1 hu) (key_of I.hok eb) hd dd ?_
    have q:=(rel.val k).isSome_eq
    rw [Option.isSome_map] at q
    rw [← q,← l]
    exact h _ (I.tok _)
theorem d_write {h':Heap} {t':Nat} {ob:HO} (I:Inv X pins σ H s) (mu:Mut (H a)) (hs:Heap.SameBut a s.heap h') (he:∃ q,h'.get? a=some q) (new:ObjOk X.prog X.w (upd H a ob) h' a ob) :
    Inv X pins σ (upd H a ob) { s with heap:=h',toks:=t' } :=
  I.write (x:=a) (e:=a) mu (.inl rfl) (fun b q hb z=>(hs.2 b hb).trans z) he new
theorem dk_new {P:Program} {w:World} {H':Hp} {h':Heap} {kvs:List (Key × V)} {vs:List (Key × Value)} (z:kvs.length≤sizeLine) (hd:(a == sysModules)=false) (rel:KV kvs vs) (dd:h'.DictOf (mixKind P w) a vs) :
    ObjOk P w H' h' a (.dK kvs):=⟨z,hd,vs,rel,dd⟩
theorem d_setItem {H':Hp} {Q:Unit→Shared→Prop} (hu:A.units + 1 < cLine) (I:Inv X pins σ H s) (g:DPut H a y v H') (ry:RelV y u) (rv:RelV v r) (h:∀ s',Inv X pins σ H' s'→Q () s') :
    wpAny (model X.prog X.w) A (setItem (.ref a) u r) Q E s:=by
  rcases g with ⟨kvs,k,e,ey,l,eH⟩ | ⟨kvs,k,b,e,ey,eb,l,eH⟩
  · subst ey eH
    obtain ⟨z,hd,vs,rel,dd⟩:=dk_of I.hok e
    have hz:vs.length≤sizeLine:=by rw [← rel.length];exact z
    have hl:(putK kvs k v).length≤sizeLine:=by have:=length_putK kvs k v;omega
    refine wpAny_setItem_pairs (hsz:=hz) (kV_is ry) dd fun h' dd' hs=>h _ ?_
    have he:∃ q,h'.get? a=some q:=let ⟨q,_,_,hq,_⟩:=dd';⟨q,hq⟩
    exact d_write I (by rw [e];exact True.intro) hs he (dk_new hl hd (rel.put k rv) dd')
  · subst ey eH
    cases (show u=Value.ref b from ry)
    obtain ⟨z,hd,xs,rel,dd⟩:=dt_of I.hok e
    have hz:xs.length≤sizeLine:=by rw [← Paired.length rel];exact z
    have hl:(putK kvs k v).length≤sizeLine:=by have:=length_putK kvs k v;omega
    refine wpAny_setItem_heap (hsz:=hz) (tupleKind_room_in1 hu) (key_of I.hok eb) dd fun h' dd' hs=>h _ ?_
    obtain ⟨q,es,ep,hq,h2,h3,h4,_,h5⟩:=dd'
    refine d_write I (by rw [e];exact True.intro) hs ⟨q,hq⟩ ⟨hl,hd,_,(rel.put k eb rv).keeps fun c ys ec=>?_,q,es,ep,hq,h2,h3,h4,h5⟩
    rw [upd_ne (ne_of ec e (fun z=>nomatch z))]
    exact ec
end
section
variable {X:Cx} {pins:List (Addr × Obj)} {σ:St} {H:Hp} {s:Shared} {a:Addr} {kvs:List (Key × V)} {k:Key} {u:Value} {A:Around} {E:Value→Shared→Prop}
end
def tDGet (td ty:TE):TE:=fun σ H Q=>td σ H fun x H1=>ty σ H1 fun y H2=>∃ a v,x=.ref a∧DGet H2 a y (some v)∧Q v H2
def sDPut (td ty tv:TE):TS:=fun D σ H=>tv σ H fun v H1=>td σ H1 fun x H2=>ty σ H2 fun y H3=>∃ a H4,x=.ref a∧DPut H3 a y v H4∧D.nx σ H4
section
variable {X:Cx} {o i e value:Expr} {pos pos' tpos:Pos} {td ty tv:TE}
theorem ps_dput (hu:X.A.units + 1 < cLine) (ho:PE X o td) (hi:PE X i ty) (hv:PE X value tv) (hs:swapsWith value (some (.Subscript o i pos')) pos.line X.env=pure false) :
    PS X (.Assign [.Subscript o i pos'] value pos) (sDPut td ty tv):=by
  intro pins s σ H D I h
  refine wpAny_Assign_Subscript (thn (hv pins s σ H _ I h) fun r s1 ⟨v,H1,I1,rv,q1⟩=>thn (ho pins s1 σ H1 _ I1 q1) fun u s2 ⟨x,H2,I2,rx,q2⟩=>thn (hi pins s2 σ H2 _ I2 q2) fun iv s3 ⟨y,H3,I3,ry,a,H4,ex,g,q3⟩=>?_) hs
  subst ex
  obtain rfl:u=Value.ref a:=rx
  exact d_setItem hu I3 g ry rv fun s4 I4=>⟨σ,H4,I4,q3⟩
end
theorem dt_empty {P:Program} {w:World} {H:Hp} (h:Heap) (hb:sysModules < h.objs.size):ObjOk P w H (h.push { cls:=.type "dict",data:=.dict #[] }) h.objs.size (.dT []) :=
  ⟨Nat.zero_le _,beq_eq_false_iff_ne.mpr (Ne.symm (Nat.ne_of_lt hb)),[],.nil,_,#[],0,Heap.get?_push_size _ rfl,⟨rfl,rfl,rfl⟩,rfl,rfl,List.nodup_nil⟩
def tDNewK:TE:=fun _ H Q=>∀ p,H p=none→Q (.ref p) (upd H p (.dK []))
def tDNewT:TE:=fun _ H Q=>∀ p,H p=none→Q (.ref p) (upd H p (.dT []))
section
variable {X:Cx} {pos:Pos}
theorem pe_dnewT:PE X (.Dict [] [] pos) tDNewT:=fun pins s σ H Q I h =>
  wpAny_Dict_empty ⟨.ref s.heap.objs.size,_,I.laid (a:=s.heap.objs.size) (o:=.dT []) (t':=s.toks) (fun _ _ q=>Heap.get?_push_of_some _ q) (Nat.le_refl _) (dt_empty s.heap I.big),rfl,h _ (I.hok.fresh (Nat.le_refl _))⟩
end
def tPairs:List (TE × TE)→St→Hp→(List (V × V)→Hp→Prop)→Prop
  | [],_,H,Q=>Q [] H
  | (tk,tv) :: r,σ,H,Q=>tk σ H fun x H1=>tv σ H1 fun y H2=>tPairs r σ H2 fun ps H3=>Q ((x,y) :: ps) H3
def mergeK (kvs more:List (Key × V)):List (Key × V):=more.foldl (fun acc kv=>putK acc kv.1 kv.2) kvs
def tDisp (trs:List (TE × TE)):TE:=fun σ H Q=>∀ p,H p=none→tPairs trs σ (upd H p (.dK [])) fun ps H2=>H2 p=some (.dK [])∧∃ kvs:List (Key × V),ps=kvs.map (fun kv=>(kV kv.1,kv.2))∧kvs.length≤15∧Q (.ref p) (upd H2 p (.dK (mergeK [] kvs)))
structure M1 (X:Cx) (o:Expr) (m:Str) (apos:Pos) (e:Expr) (cpos:Pos):Prop where
  base:attributeBase o m X.env (eval o X.env)=eval o X.env
  few:((backTo cpos (starEach [e] X.env)).all (fun x=>!x.1) && (backToKw cpos (keywordEach [] X.env)).all (fun x=>x.1.isSome)
    && decide (([e]:List Expr).length + ([]:List Keyword).length + (if ([]:List Keyword).isEmpty then 0 else 1) < 30))=true
  line:(apos.endLine == cpos.line)=true
  trees:backTo cpos (starEach [e] X.env)=[(false,eval e X.env)]
structure M2 (X:Cx) (o:Expr) (m:Str) (apos:Pos) (e f:Expr) (cpos:Pos):Prop where
  base:attributeBase o m X.env (eval o X.env)=eval o X.env
  few:((backTo cpos (starEach [e,f] X.env)).all (fun x=>!x.1) && (backToKw cpos (keywordEach [] X.env)).all (fun x=>x.1.isSome)
    && decide (([e,f]:List Expr).length + ([]:List Keyword).length + (if ([]:List Keyword).isEmpty then 0 else 1) < 30))=true
  line:(apos.endLine == cpos.line)=true
  trees:backTo cpos (starEach [e,f] X.env)=[(false,eval e X.env),(false,eval f X.env)]
def IsD (H:Hp) (a:Addr):Prop:=(∃ kvs,Rd H a (.dK kvs))∨∃ kvs,Rd H a (.dT kvs)
theorem isD_at {X:Cx} {pins:List (Addr × Obj)} {σ:St} {H:Hp} {s:Shared} {a:Addr} (I:Inv X pins σ H s) (d:IsD H a) :
    s.TypeIs (.ref a) "dict"∧(∀ b,Value.ref a=.ref b→∃ ob,s.heap.get? b=some ob∧ob.dict=none)∧(a == sysModules)=false:=by
  rcases d with ⟨kvs,e⟩ | ⟨kvs,e⟩
  · obtain ⟨_,hd,vs,_,dd⟩:=dk_rd I.hok e
    refine ⟨dd.typeIs,fun b q=>?_,hd⟩
    cases q
    obtain ⟨ob,_,_,h1,h2,_⟩:=dd
    exact ⟨ob,h1,h2.2.1⟩
  · obtain ⟨_,hd,xs,_,dd⟩:=dt_rd I.hok e
    refine ⟨dd.typeIs,fun b q=>?_,hd⟩
    cases q
    obtain ⟨ob,_,_,h1,h2,_⟩:=dd
    exact ⟨ob,h1,h2.2.1⟩
section
variable {X:Cx} {pins:List (Addr × Obj)} {σ:St} {H:Hp} {s:Shared} {a:Addr} {y d:V} {u r:Value} {o:Option V} {A:Around} {E:Value→Shared→Prop}
end
def tDGet2 (td ty tx:TE):TE:=fun σ H Q=>td σ H fun x H1=>∃ a,x=.ref a∧IsD H1 a∧ty σ H1 fun y H2=>tx σ H2 fun z H3=>∃ o,DGet H3 a y o∧Q (o.getD z) H3
def tDPop2 (td ty tx:TE):TE:=fun σ H Q=>td σ H fun x H1=>∃ a,x=.ref a∧IsD H1 a∧ty σ H1 fun y H2=>tx σ H2 fun z H3=>∃ kvs k,H3 a=some (.dK kvs)∧y=kV k ∧
  (∀ v,valV kvs k=some v→Q v (upd H3 a (.dK (dropK kvs k))))∧(valV kvs k=none→Q z H3)
section
variable {X:Cx} {o e f:Expr} {apos cpos:Pos} {td ty tx:TE}
end
section
variable {X:Cx} {pins:List (Addr × Obj)} {σ:St} {H:Hp} {s:Shared} {a:Addr} {kvs:List (Key × V)} {A:Around} {E:Value→Shared→Prop}
end
section
variable {X:Cx} {pins:List (Addr × Obj)} {σ:St} {H:Hp} {s:Shared} {a:Addr} {y:V} {u:Value} {A:Around} {E:Value→Shared→Prop}
end
end L2
namespace Att
open PySem PySem.W PySem.Calls PyProof.Rows
theorem ints_of_wellAll {P:Params} {h:Heap}:∀ (ns:List Int) (vs:List Value),WellAll P h vs (ns.map WData.int)→IntsAre vs ns:=by
  intro ns
  induction ns with
  | nil =>
    intro vs w
    rw [List.map_nil] at w
    cases w
    exact .nil
  | cons n ns ih =>
    intro vs w
    rw [List.map_cons] at w
    cases w with
    | cons a b =>
      cases a
      exact .cons _ _ (ih _ b)
theorem script_of {l:OpenLaw} {n:Nat} (hn:l.most=some n) {P:Params} {h:Heap} {args:List WData} {vals:List Value}
    (hpre:l.row.toRowW.claim.pre args=true) (hwl:WellAll P h vals args) :
    ∃ a vs ns,vals=[Value.ref a]∧args=[WData.list (ns.map WData.int)]∧h.get? a=some { cls:=.type "list",data:=.seq vs.toArray }∧IntsAre vs ns∧ns.length≤n:=by
  have hsh:WShape.hasAll [] args [.list .int]=true:=(pre_splitW hpre).1
  have hc:l.pre.holds [] { args:=args }=true:=(pre_splitW hpre).2
  obtain ⟨d,r,rfl,h1,h2⟩:=hasAllW_cons hsh
  obtain rfl:=hasAllW_nil h2
  obtain ⟨xs,rfl,h3⟩:=hasW_list h1
  obtain ⟨ns,rfl⟩:=items_int h3
  have hlen:ns.length≤n:=by
    unfold OpenLaw.pre at hc
    have h4:(WTm.not (.lt (.lit (.int (n:Int))) (.len (.arg 0)))).holds [] { args:=[.list (ns.map .int)] }=true:=by
      have h4:=(holds_andW hc).1
      rw [hn] at h4
      exact h4
    have h5:=condW_of h4 (w_not (w_lt w_lit (w_len_list (w_arg rfl))))
    rw [List.length_map] at h5
    refine Nat.le_of_not_lt fun q=>?_
    have q':(n:Int) < ((ns.length:Nat):Int):=by omega
    first
      | (rw [decide_eq_true q'] at h5;exact absurd h5 (by decide))
      | (simp at h5;omega)
  cases hwl with
  | cons w1 w2 =>
    cases w2
    cases w1 with
    | list ho hall=>exact ⟨_,_,ns,rfl,rfl,ho,ints_of_wellAll ns _ hall,hlen⟩
theorem post_true (l:OpenLaw) (args:List WData):l.row.toRowW.claim.post args (.bool true) args=true :=
  postW_of (r:=l.row.toRowW) (X:=(true == true))
    (show WShape.has [] (.bool true) .bool=true by first | rfl | decide | simp [WShape.has,WShape.arms,WShape.armsAll])
    (show (WTm.eq .res (.lit (.bool true))).value [] { args:=args,res:=some (.bool true),after:=args }=some (.bool (true == true)) from w_eq_bool (w_res rfl) w_lit) rfl
theorem attach_call {l:OpenLaw} {n:Nat} {q:Program} {loose:List Str} {XP:(Str→Option Value)→Heap→Prop} {YP:World→Heap→Prop} {d:DefRec}
    (hn:l.most=some n) (hdf:d.params.defaults=[])
    (call:∀ (w:World) (s₀ s₁:Shared) (mg mb:Str→Option Value) (fa:Addr) (o:Obj) (pm cd doc:Value) (a:Addr) (vs:List Value) (ns:List Int),
      Ground q loose [] XP w s₀ mg mb s₁.heap→YP w s₁.heap →
      s₁.heap.get? fa=some o→o.data=.func (docDef d.name d.params d.body d.scope pm cd doc)→s₁.heap.CodeRec cd d.name→mg d.name=some (.ref fa) →
      s₁.heap.get? a=some { cls:=.type "list",data:=.seq vs.toArray }→IntsAre vs ns→ns.length≤n→s₁.gens=#[] →
      codeAny (model l.prog w) callerA (.call (.ref fa) ⟨[.ref a],[]⟩) (fun r s'=>r=.ok (.ret (.bool true))∧OldK s₁.heap s'.heap∧s'.os=s₁.os∧AllBare s'.gens) s₁) :
    WalkO q loose XP YP l.row.toRowW d [] (fun f vs=>PySem.call f vs):=by
  intro w s₀ s₁ mg mb G Y fa o pm cd doc dV kV ho hd hcd hD hmg hg args vals as hpre hlay hrd hwl hlo
  obtain rfl:dV=.none:=Dflts.none hD hdf
  obtain rfl:kV=.none:=Dflts.noKw hD
  obtain ⟨a,vs,ns,rfl,rfl,hobj,hints,hlen⟩:=script_of hn hpre hwl
  refine enter_call (codeAny_mono (call w s₀ s₁ mg mb fa o pm cd doc a vs ns G Y ho (fd_plain hd) hcd hmg hobj hints hlen hg) fun r s' hq=>?_)
  obtain ⟨rfl,h2,h3,h4⟩:=hq
  exact ⟨.inl ⟨.bool true,.bool true,[],rfl,fun _=>rfl,.bool true,post_true l _,fun _=>⟨List.Pairwise.nil,fun _ hm=>(nomatch hm)⟩⟩,h2,h3,h4⟩
section
variable {prog:Program} {w:World} {A:Around} {E:Value→Shared→Prop} {s:Shared} {K:Frag}
def ledger (h:Heap) (L d:Addr):List (Addr × Obj):=(List.range h.objs.size).filterMap fun a=>if a=L∨a=d then none else (h.get? a).map fun o=>(a,o)
end
end Att
namespace L2
open PySem PySem.Spec PyProof.Rows
theorem vals_ints:∀ {vs:List Value} {ns:List Int},IntsAre vs ns→Vals (ns.map V.int) vs
  | _,_,.nil=>.nil
  | _,_,.cons n t h=>.cons ⟨t,rfl⟩ (vals_ints h)
def Only (H:Hp):Prop:=∀ b,H b=none∨∃ o xs,H b=some (.frz o (.lst xs))
theorem law_call {P:Program} {w:World} {K:PySem.W.Frag} {mg mb:Str→Option Value} {CX:CXT} {k:Nat} {fa a:Addr} {fd:FuncData} {x:Str} {sp:Sp} {s₁:Shared} {vs:List Value} {ns:List Int}
    (KX:K.In s₁.heap) (hns:s₁.heap.Ns mainGlobals mg) (hb:s₁.heap.Ns builtinsNs mb) (hbb:∀ x:Str,x≠"__name__"→mb x=bootBuiltins x) (hlim:s₁.heap.NoLimit) (hg:s₁.gens=#[])
    (ha:s₁.heap.get? a=some { cls:=.type "list",data:=.seq vs.toArray }) (hi:IntsAre vs ns) (hl:ns.length≤sizeLine) (hr:Room k callerA)
    (F:∀ base:Heap,K.In base→base.Ns mainGlobals mg→FnOk P w K mg base CX k fa fd [x] sp) (hbind:∀ (s:Shared) (u:Value),BindsTo s fd ⟨[u],[]⟩ [(x,u)])
    (hsp:∀ H:Hp,Only H→SqL K H a (ns.map V.int)→sp [.ref a] H (fun v _=>v=.bl true) fun _ _ _=>False)
    (hCX:∀ H e s',CX [] H s₁ (fun _ _ _=>False) e s'→False) :
    codeAny (model P w) callerA (.call (.ref fa) ⟨[.ref a],[]⟩) (fun r s'=>r=.ok (.ret (.bool true))∧OldK s₁.heap s'.heap∧s'.os=s₁.os∧AllBare s'.gens) s₁:=by
  have rv:=vals_ints hi
  have lenV:=hi.length
  -- from an abstract heap in which nothing but the script may be tracked
  have core:∀ H:Hp,Only H→SqL K H a (ns.map V.int)→HOk P w H s₁.heap→(∀ b,H b≠none→b=a)→(H a≠none→K.lookup a=none) →
      codeAny (model P w) callerA (.call (.ref fa) ⟨[.ref a],[]⟩) (fun r s'=>r=.ok (.ret (.bool true))∧OldK s₁.heap s'.heap∧s'.os=s₁.os∧AllBare s'.gens) s₁:=by
    intro H hO hS hok hA hK
    have base_of:∀ {b:Addr} {o:Obj},s₁.heap.get? b=some o→H b=none→(hidT s₁.heap H).get? b=some o:=fun e n=>hidT_get e n
    have noA:∀ {b:Addr} {o:Obj} {es:Array DictEntry} {ep:Nat},s₁.heap.get? b=some o→o.data=.dict es ep→H b=none:=fun {b o es ep} e d=>by
      cases q:H b with
      | none=>rfl
      | some u =>
        have e':b=a:=hA b (by rw [q];simp)
        subst e'
        rw [ha] at e;cases e
        have d':Data.seq vs.toArray _=Data.dict es ep:=d
        cases d'
    have nsK:∀ {b:Addr} {m:Str→Option Value},s₁.heap.Ns b m→(hidT s₁.heap H).Ns b m:=fun {b m} ⟨o,es,ep,e,d,r⟩=>⟨o,es,ep,base_of e (noA e d),d,r⟩
    have hKb:K.In (hidT s₁.heap H):=fun b o e=>base_of (KX b o e) (by
      cases q:H b with
      | none=>rfl
      | some u =>
        have e':b=a:=hA b (by rw [q];simp)
        subst e'
        rw [hK (by rw [q];simp)] at e;cases e)
    have hM:Mod K mg (hidT s₁.heap H):=⟨hKb,nsK hns,⟨mb,nsK hb,hbb⟩,let ⟨mc,h1,h2⟩:=hlim;⟨mc,nsK h1,h2⟩⟩
    have e0:Env0 P w K mg (hidT s₁.heap H) callerA [] s₁ H:=⟨rfl,hM,fun b o e=>of_hidT e,Nat.le_of_eq (hidT_size _ _),trivial,fun b hb=>absurd (show b∈([]:List Addr) from hb) (by simp),hok,.of_eq hg⟩
    refine codeAny_mono ((F _ hKb (nsK hns)).run callerA [] s₁ H ⟨[.ref a],[]⟩ [.ref a] [.ref a] _ _ hr e0 (hbind s₁ (.ref a)) (.cons rfl .nil) (hsp H hO hS)) fun r s' h=>?_
    cases r with
    | error e=>exact (hCX H e s' h).elim
    | ok fl =>
      cases fl with
      | next=>exact False.elim h
      | brk=>exact False.elim h
      | cont=>exact False.elim h
      | ret u =>
        obtain ⟨v,H',os,bare,un,hok',r',q⟩:=h
        have q':v=.bl true:=q
        subst q'
        obtain rfl:u=Value.bool true:=r'
        refine ⟨rfl,OldK.of_keep fun b o e=>?_,os,bare⟩
        cases q:H b with
        | none=>exact un.keep b o e q (by intro z;exact absurd (show b∈([]:List Addr) from z) (by simp)) (by simp)
        | some u =>
          rcases hO b with z | ⟨ob,xs,z⟩
          · rw [q] at z;cases z
          · have z2:=un.frzs b ob _ z
            obtain ⟨e1,_⟩:=hok b _ z
            obtain ⟨e2,_⟩:=hok' b _ z2
            rw [e] at e1;cases e1
            exact e2
  cases hk:K.lookup a with
  | some o =>
    -- the script is one of the module's own objects
    have e:=KX a o hk
    rw [ha] at e
    cases e
    refine core (fun _=>none) (fun _=>.inl rfl) (.inr ⟨_,vs.toArray,_,hk,rfl,rfl,rfl,by rw [List.size_toArray,lenV];exact hl,by simpa using rv⟩) (fun b u z=>by have z':(none:Option HO)=some u:=z;cases z') (fun b z=>absurd rfl z) fun z=>absurd rfl z
  | none =>
    refine core (fun b=>if b=a then some (.frz { cls:=.type "list",data:=.seq vs.toArray } (.lst (ns.map V.int))) else none) (fun b=>?_) (.inl (.inr ⟨{ cls:=.type "list",data:=.seq vs.toArray },if_pos rfl⟩)) (fun b u z=>?_) (fun b z=>?_) fun _=>hk
    · by_cases hb:b=a
      · exact .inr ⟨_,_,if_pos hb⟩
      · exact .inl (if_neg hb)
    · by_cases hb:b=a
      · have z':=(if_pos hb).symm.trans z
        cases z'
        subst hb
        exact ⟨ha,by rw [List.length_map];exact hl,vs,_,rv,ha⟩
      · have z':=(if_neg hb).symm.trans z
        cases z'
    · by_cases hb:b=a
      · exact hb
      · exact absurd (if_neg hb) z
end L2
namespace L2
open PySem PySem.Spec PyProof.Rows
abbrev KOf {K:PySem.W.Frag} {h:Heap} (_:K.In h):PySem.W.Frag:=K
theorem walk_of {l:PySem.W.OpenLaw} {n k:Nat} {q:Program} {loose:List Str} {XP:(Str→Option Value)→Heap→Prop} {YP:World→Heap→Prop} {d:DefRec} {K:Params→PySem.W.Frag} {CX:World→CXT} {sp:World→Sp} {x:Str}
    (hn:l.most=some n) (hn2:n≤sizeLine) (hdf:d.params.defaults=[]) (hr:Room k callerA)
    (hY:∀ (w:World) (h:Heap),YP w h→(K w.params).In h)
    (F:∀ (w:World) (mg:Str→Option Value) (fa:Addr) (h:Heap),(K w.params).In h→h.Ns mainGlobals mg→mg d.name=some (.ref fa) →
      ∃ fd:FuncData,(∀ (s:Shared) (u:Value),BindsTo s fd ⟨[u],[]⟩ [(x,u)]) ∧
        ∀ base:Heap,(K w.params).In base→base.Ns mainGlobals mg→FnOk l.prog w (K w.params) mg base (CX w) k fa fd [x] (sp w))
    (hsp:∀ (w:World) (H:Hp) (a:Addr) (ns:List Int),ns.length≤n→Only H→SqL (K w.params) H a (ns.map V.int)→sp w [.ref a] H (fun v _=>v=.bl true) fun _ _ _=>False)
    (hCX:∀ (w:World) (H:Hp) (s:Shared) (e:Value) (s':Shared),CX w [] H s (fun _ _ _=>False) e s'→False) :
    PySem.W.WalkO q loose XP YP l.row.toRowW d [] (fun f vs=>PySem.call f vs):=by
  refine Att.attach_call hn hdf fun w s₀ s₁ mg mb fa o pm cd doc a vs ns G Y ho hd hcd hmg hobj hints hlen hg=>?_
  have KX:=hY w _ Y
  obtain ⟨fd,hb,hF⟩:=F w mg fa _ KX G.T.g hmg
  exact law_call KX G.T.g G.T.b G.T.builtins G.T.nolimit hg hobj hints (Nat.le_trans hlen hn2) hr hF hb (fun H hO hS=>hsp w H a ns hlen hO hS) fun H e s'=>hCX w H s₁ e s'
theorem walk_ofK {l:PySem.W.OpenLaw} {n k:Nat} {q:Program} {loose:List Str} {XP:(Str→Option Value)→Heap→Prop} {YP:World→Heap→Prop} {d:DefRec} {K:Params→PySem.W.Frag} {CX:CXT} {sp:PySem.W.Frag→Sp} {x:Str}
    (hn:l.most=some n) (hn2:n≤sizeLine) (hdf:d.params.defaults=[]) (hr:Room k callerA)
    (hY:∀ (w:World) (h:Heap),YP w h→(K w.params).In h)
    (F:∀ (w:World) (mg:Str→Option Value) (fa:Addr) (h:Heap),(K w.params).In h→h.Ns mainGlobals mg→mg d.name=some (.ref fa) →
      ∃ fd:FuncData,(∀ (s:Shared) (u:Value),BindsTo s fd ⟨[u],[]⟩ [(x,u)]) ∧
        ∀ base:Heap,(K w.params).In base→base.Ns mainGlobals mg→FnOk l.prog w (K w.params) mg base CX k fa fd [x] (sp (K w.params)))
    (hsp:∀ (K:PySem.W.Frag) (H:Hp) (a:Addr) (ns:List Int),ns.length≤n→Only H→SqL K H a (ns.map V.int)→sp K [.ref a] H (fun v _=>v=.bl true) fun _ _ _=>False)
    (hCX:∀ (H:Hp) (s:Shared) (e:Value) (s':Shared),CX [] H s (fun _ _ _=>False) e s'→False) :
    PySem.W.WalkO q loose XP YP l.row.toRowW d [] (fun f vs=>PySem.call f vs) :=
  walk_of (K:=K) (CX:=fun _=>CX) (sp:=fun w=>sp (K w.params)) hn hn2 hdf hr hY F (fun w H a ns h1 h2 h3=>hsp (K w.params) H a ns h1 h2 h3) fun _ H s e s'=>hCX H s e s'
end L2
namespace L2
open PySem PySem.Spec PyProof.Rows
def defArgs (s:Stmt):Arguments:=match s with
  | .FunctionDef _ a _ _ _ _ _ _ _ _=>a
  | _=>{ posonlyargs:=[],args:=[],vararg:=none,kwonlyargs:=[],kw_defaults:=[],kwarg:=none,defaults:=[] }
def defBody (s:Stmt):List Stmt:=match s with
  | .FunctionDef _ _ b _ _ _ _ _ _ _=>b
  | _=>[]
def defScope (s:Stmt):Scope:=match s with
  | .FunctionDef _ _ _ _ _ _ sc _ _ _=>sc
  | _=>{ kind:=.function,names:=[],isGenerator:=false,isCoroutine:=false }
abbrev CX0:CXT:=fun _ _ _ _ _ _=>False
abbrev E0:XK:=fun _ _ _=>False
theorem pass0 {X:Cx}:Passes CX0 X E0:=fun _ _ _ _ _ _ _ h=>h.elim
structure Fun (K:PySem.W.Frag) (x qual:Str) (st:Stmt) (f:Addr) (fd:FuncData):Prop where
  ex:∃ (oc:Value) (od:Option Addr) (kV doc pm:Value) (an:Option Addr) (cdv ct:Value) (osl:Array (Option Value)),
    fd=PySem.W.fnOf x qual (defArgs st) (defBody st) (defScope st) .none kV doc pm an cdv ct∧K.lookup f=some ⟨oc,od,.func fd,osl⟩∧PySem.W.codeIn K cdv qual=true
  kp:PySem.W.keepIn K (.ref f)=true
section
variable {P:Program} {w:World} {K:PySem.W.Frag} {mg:Str→Option Value} {base:Heap}
theorem Fun.ok {x qual:Str} {st:Stmt} {f:Addr} {fd:FuncData} {N ps:List Str} {k:Nat} {sp:Sp} (F:Fun K x qual st f fd) (S:FnScope N ps (defScope st)) (len:∀ vs H Q E,sp vs H Q E→vs.length=ps.length)
    (hbody:∀ (cdv:Value) (A:Around) (outer:List Env) (s:Shared) (H:Hp) (vs:List V) (Q:VK) (E:XK),Room k (A.deeper (envOfC qual (defScope st) s.heap.objs.size f cdv))→sp vs H Q E →
      ∃ t,PSs (cxOf CX0 P w K mg base N qual (defScope st) f cdv A outer s H E).nox (defBody st) t∧t { nx:=fun _ H'=>Q .non H',rt:=Q } (start N vs) H):FnOk P w K mg base CX0 (k + 1) f fd ps sp:=by
  obtain ⟨oc,od,kV,doc,pm,an,cdv,ct,osl,rfl,lk,hcd⟩:=F.ex
  refine fn_of lk hcd S len fun A outer s H vs Q E hr hsp=>?_
  obtain ⟨t,h,q⟩:=hbody cdv A outer s H vs Q E hr hsp
  exact ⟨t,h.nox,q⟩
theorem Fun.binds {x qual:Str} {st:Stmt} {f:Addr} {fd:FuncData} {ps:List Str} (F:Fun K x qual st f fd)
    (h:∀ (kV doc pm:Value) (an:Option Addr) (cdv ct:Value) (us:List Value),us.length=ps.length→bindArgs (PySem.W.fnOf x qual (defArgs st) (defBody st) (defScope st) .none kV doc pm an cdv ct) ⟨us,[]⟩=pure (ps.zip us)):Binds K fd ps []:=by
  obtain ⟨oc,od,kV,doc,pm,an,cdv,ct,osl,rfl,lk,hcd⟩:=F.ex
  exact .all (h kV doc pm an cdv ct)
theorem fun_mk {x qual:Str} {st:Stmt} {f:Addr} {oc:Value} {od an:Option Addr} {osl:Array (Option Value)} {kV doc pm cdv ct:Value} (l:K.lookup f=some ⟨oc,od,.func (PySem.W.fnOf x qual (defArgs st) (defBody st) (defScope st) .none kV doc pm an cdv ct),osl⟩)
    (c:PySem.W.codeIn K cdv qual=true) (k:PySem.W.keepIn K (.ref f)=true):Fun K x qual st f (PySem.W.fnOf x qual (defArgs st) (defBody st) (defScope st) .none kV doc pm an cdv ct):=⟨⟨oc,od,kV,doc,pm,an,cdv,ct,osl,rfl,l,c⟩,k⟩
end
theorem hu_of {A:Around} {k:Nat} (hr:Room k A):A.units + 1 < cLine:=Nat.lt_of_le_of_lt (Nat.add_le_add_left (by decide:1≤64) _) hr.units
section
variable {X:Cx}
theorem pv (i:Nat) {x:Str} {pos:Pos} (hN:X.N[i]?=some x:=by rfl) (hv:Vis X.env.scope x:=by first | exact Or.inl rfl | exact Or.inr (Or.inl rfl) | exact Or.inr (Or.inr rfl)) (hd:(x == ("__debug__":Str))=false:=by decide)
    (hcd:(x == ("__classdict__":Str))=false:=by decide):PE X (.Name x pos) (tVar i):=pe_var hN hv hd hcd
end
theorem ite2 {c A B:Prop} [Decidable c] (h1:c→A) (h2:¬ c→B):if c then A else B:=by
  by_cases h:c
  · rw [if_pos h]
    exact h1 h
  · rw [if_neg h]
    exact h2 h
def Same (H H':Hp):Prop:=∀ b o,H b=some o→H' b=some o
theorem Same.refl (H:Hp):Same H H:=fun _ _ h=>h
theorem Same.trans {H H1 H2:Hp} (a:Same H H1) (b:Same H1 H2):Same H H2:=fun c o h=>b c o (a c o h)
end L2
namespace L2
open PySem PySem.Spec PyProof.Rows
section
variable {X:Cx}
end
section
variable {κ:Type} [DecidableEq κ]
theorem valV_not {kvs:List (κ × V)} {k:κ} (h:valV kvs k=none):¬ k∈kvs.map (·.1):=by
  intro m
  obtain ⟨p,hp,e⟩:=List.mem_map.mp m
  have q:(kvs.any fun kv=>decide (kv.1=k))=true:=List.any_eq_true.mpr ⟨p,hp,decide_eq_true e⟩
  rw [valV_any,h] at q
  exact absurd q (by simp)
theorem valV_in {kvs:List (κ × V)} {k:κ} {v:V} (h:valV kvs k=some v):k∈kvs.map (·.1):=by
  have q:(kvs.any fun kv=>decide (kv.1=k))=true:=by
    rw [valV_any,h]
    all_goals rfl
  obtain ⟨p,hp,e⟩:=List.any_eq_true.mp q
  exact List.mem_map.mpr ⟨p,hp,of_decide_eq_true e⟩
theorem nd_snoc:∀ {l:List κ} {k:κ},l.Nodup→¬ k∈l→(l ++ [k]).Nodup
  | [],k,_,_=>by simp
  | a :: r,k,h,hk=>by
    obtain ⟨h1,h2⟩:=List.nodup_cons.mp h
    show (a :: (r ++ [k])).Nodup
    refine List.nodup_cons.mpr ⟨fun m=>?_,nd_snoc h2 fun m=>hk (List.mem_cons.mpr (Or.inr m))⟩
    rcases List.mem_append.mp m with q | q
    · exact h1 q
    · exact hk (List.mem_cons.mpr (Or.inl (List.mem_singleton.mp q).symm))
theorem nd_putK {kvs:List (κ × V)} {k:κ} (v:V) (hn:(kvs.map (·.1)).Nodup) (h:valV kvs k=none):((putK kvs k v).map (·.1)).Nodup:=by
  rw [putK_new v h,List.map_append]
  exact nd_snoc hn (valV_not h)
theorem dropK_neg {p:κ × V} {r:List (κ × V)} {k:κ} (e:¬ p.1=k):dropK (p :: r) k=p :: dropK r k:=by
  unfold dropK
  rw [List.filter_cons,if_pos (by simp [e])]
theorem dropK_no:∀ {kvs:List (κ × V)} {k:κ},¬ k∈kvs.map (·.1)→dropK kvs k=kvs
  | [],_,_=>rfl
  | p :: r,k,h=>by
    have h':¬ k∈r.map (·.1):=fun m=>by
      obtain ⟨q,hq,e⟩:=List.mem_map.mp m
      exact h (List.mem_map.mpr ⟨q,List.mem_cons.mpr (Or.inr hq),e⟩)
    rw [dropK_neg fun e=>h (List.mem_map.mpr ⟨p,List.mem_cons.mpr (Or.inl rfl),e⟩),dropK_no h']
end
end L2
set_option Elab.async false
set_option linter.all false
set_option maxRecDepth 100000
set_option maxHeartbeats 4000000
namespace L2
open PySem PySem.Spec PyProof.Rows
def Cx.comp (X:Cx) (scope:Scope) (cl:List (Str × Addr)) (C:Addr) (N:List Str) (fp:List Addr) (s:Shared) (H:Hp):Cx :=
  { X with env:=compEnvC scope cl C X.env,N:=N,s₀:=s,H₀:=H,outer:=X.stack,ex:=fp,fn:=fun _=>false,pn:=[],xe:=fun _ _=>False }
structure CompScope (X:Cx) (scope:Scope) (cl:List (Str × Addr)) (ix:List Nat):Prop where
  clos:closureFor scope X.env=pure cl
  nocell:∀ y∈scope.names,y.2≠.cell
  kind:scope.kind=.function
  names:∀ y∈scope.names,y.2=.local→scope.names.lookup y.1=some .local
  sub:∀ y c,cl.lookup y=some c→X.env.cells.lookup y=some c
  has:∀ y,((relabel scope X.env).names.lookup y=some .cell∨(relabel scope X.env).names.lookup y=some .free)→∃ c,cl.lookup y=some c
  cap:∀ i∈ix,∃ y,X.N[i]?=some y∧(X.env.kindOf y=some .cell∨X.env.kindOf y=some .free)∧((relabel scope X.env).names.lookup y=some .cell∨(relabel scope X.env).names.lookup y=some .free)
def closOf (scope:Scope) (env:Env):List (Str × Addr):=scope.names.foldl (fun cs y=>if y.2 == .free then (y.1,(env.cells.lookup y.1).getD 0) :: cs else cs) []
def compD (osc:Scope) (N:List Str) (sc:Scope) (ix:List Nat):Bool :=
  sc.kind == .function && sc.names.all (fun y=>y.2 != .cell && (y.2 != .local || sc.names.lookup y.1 == some .local) && (y.2 != .free || osc.names.lookup y.1 == some .cell || osc.names.lookup y.1 == some .free)) &&
    ix.all fun i=>match N[i]? with
      | some y=>sc.names.lookup y == some .free
      | none=>false
theorem mem_of_look {l:List (Str × NameKind)} {y:Str} {k:NameKind} (h:l.lookup y=some k):(y,k)∈l:=PySem.mem_of_lookup h
theorem relabel_look {env:Env}:∀ {names:List (Str × NameKind)} {x:Str} {k:NameKind},(names.map fun (n,k)=>if (k == NameKind.free && env.scope.kind == .function && env.kindOf n == some .cell) then (n,NameKind.cell) else (n,k)).lookup x=some k →
    ∃ k',names.lookup x=some k'∧(k'=.free∨k'=k)
  | [],_,_,h=>by simp at h
  | (n,k') :: r,x,k,h=>by
    have ih:=@relabel_look env r x k
    rw [List.map_cons] at h
    cases hx:x == n with
    | true =>
      by_cases hc:(k' == NameKind.free && env.scope.kind == .function && env.kindOf n == some .cell)=true
      · have e:k'=.free:=by
          have:=(Bool.and_eq_true _ _ ▸ (Bool.and_eq_true _ _ ▸ hc).1).1
          simpa using this
        exact ⟨k',by simp [List.lookup_cons,hx],.inl e⟩
      · simp only [if_neg hc,List.lookup_cons,hx] at h
        exact ⟨k',by simp [List.lookup_cons,hx],.inr (Option.some.inj h)⟩
    | false =>
      have h':(r.map fun (n,k)=>if (k == NameKind.free && env.scope.kind == .function && env.kindOf n == some .cell) then (n,NameKind.cell) else (n,k)).lookup x=some k:=by
        by_cases hc:(k' == NameKind.free && env.scope.kind == .function && env.kindOf n == some .cell)=true
        · simp only [if_pos hc,List.lookup_cons,hx] at h;exact h
        · simp only [if_neg hc,List.lookup_cons,hx] at h;exact h
      obtain ⟨q,e,r'⟩:=ih h'
      exact ⟨q,by simp only [List.lookup_cons,hx];exact e,r'⟩
theorem relabel_free {env:Env}:∀ {names:List (Str × NameKind)} {x:Str},names.lookup x=some .free →
    ((names.map fun (n,k)=>if (k == NameKind.free && env.scope.kind == .function && env.kindOf n == some .cell) then (n,NameKind.cell) else (n,k)).lookup x=some .cell ∨
      (names.map fun (n,k)=>if (k == NameKind.free && env.scope.kind == .function && env.kindOf n == some .cell) then (n,NameKind.cell) else (n,k)).lookup x=some .free)
  | [],_,h=>by simp at h
  | (n,k') :: r,x,h=>by
    have ih:=@relabel_free env r x
    rw [List.map_cons]
    cases hx:x == n with
    | true =>
      simp only [List.lookup_cons,hx] at h
      cases h
      by_cases hc:(NameKind.free == NameKind.free && env.scope.kind == .function && env.kindOf n == some .cell)=true
      · left;simp only [if_pos hc,List.lookup_cons,hx]
      · right;simp only [if_neg hc,List.lookup_cons,hx]
    | false =>
      simp only [List.lookup_cons,hx] at h
      by_cases hc:(k' == NameKind.free && env.scope.kind == .function && env.kindOf n == some .cell)=true
      · simp only [if_pos hc,List.lookup_cons,hx];exact ih h
      · simp only [if_neg hc,List.lookup_cons,hx];exact ih h
theorem clos_fold {env:Env}:∀ (l:List (Str × NameKind)) (cs:List (Str × Addr)),(∀ y∈l,y.2=.free→∃ c,env.cells.lookup y.1=some c) →
    (∀ y c,cs.lookup y=some c→env.cells.lookup y=some c)→∀ y c,(l.foldl (fun cs y=>if y.2 == .free then (y.1,(env.cells.lookup y.1).getD 0) :: cs else cs) cs).lookup y=some c→env.cells.lookup y=some c
  | [],_,_,h,y,c,e=>h y c e
  | z :: r,cs,hl,h,y,c,e=>by
    rw [List.foldl_cons] at e
    refine clos_fold r _ (fun y hy=>hl y (List.mem_cons_of_mem _ hy)) (fun y' c' e'=>?_) y c e
    by_cases hz:z.2=.free
    · obtain ⟨c0,h0⟩:=hl z List.mem_cons_self hz
      have hb:(z.2 == NameKind.free)=true:=by simpa using hz
      rw [if_pos hb,h0,List.lookup_cons] at e'
      cases hq:y' == z.1 with
      | true =>
        rw [hq] at e'
        have e2:y'=z.1:=by simpa using hq
        cases e'
        rw [e2];exact h0
      | false=>rw [hq] at e';exact h _ _ e'
    · have hb:(z.2 == NameKind.free)=false:=by simpa using hz
      rw [hb] at e'
      exact h _ _ e'
theorem clos_has {env:Env}:∀ (l:List (Str × NameKind)) (cs:List (Str × Addr)) (y:Str),((∃ c,cs.lookup y=some c)∨(y,NameKind.free)∈l) →
    ∃ c,(l.foldl (fun cs y=>if y.2 == .free then (y.1,(env.cells.lookup y.1).getD 0) :: cs else cs) cs).lookup y=some c
  | [],_,_,h=>h.elim id fun z=>nomatch z
  | z :: r,cs,y,h=>by
    rw [List.foldl_cons]
    refine clos_has r _ y ?_
    rcases h with ⟨c,h⟩ | h
    · left
      by_cases hz:(z.2 == NameKind.free)=true
      · rw [if_pos hz,List.lookup_cons]
        cases y == z.1 with
        | true=>exact ⟨_,rfl⟩
        | false=>exact ⟨c,h⟩
      · rw [if_neg hz];exact ⟨c,h⟩
    · rcases List.mem_cons.mp h with h | h
      · left
        subst h
        rw [if_pos (by rfl),List.lookup_cons]
        simp
      · exact .inr h
theorem clos_eq {env:Env}:∀ (l:List (Str × NameKind)) (cs:List (Str × Addr)),(∀ y∈l,y.2=.free→∃ c,env.cells.lookup y.1=some c) →
    forIn (m:=Sem) l cs (fun x r=>match x with | (name,kind)=>if (kind == NameKind.free)=true then do let c ← cellOf env name;pure (ForInStep.yield ((name,c) :: r)) else pure (ForInStep.yield r)) =
      pure (l.foldl (fun cs y=>if y.2 == .free then (y.1,(env.cells.lookup y.1).getD 0) :: cs else cs) cs)
  | [],_,_=>rfl
  | (n,k) :: r,cs,h=>by
    rw [List.forIn_cons,List.foldl_cons]
    by_cases hz:(k == NameKind.free)=true
    · obtain ⟨c,hc⟩:=h (n,k) List.mem_cons_self (by simpa using hz)
      have e:cellOf env n=pure c:=by unfold cellOf;rw [hc]
      simp only [hz,if_true,e,pure_bind]
      rw [clos_eq r _ fun y hy=>h y (List.mem_cons_of_mem _ hy)]
      simp only [hc,Option.getD_some]
    · simp only [hz,if_false,pure_bind]
      exact clos_eq r _ fun y hy=>h y (List.mem_cons_of_mem _ hy)
theorem compScope_of {X:Cx} {osc scope:Scope} {N:List Str} {ix:List Nat} (ok:X.Ok) (h:compD osc N scope ix=true) (hs:X.env.scope=osc) (hN:X.N=N):CompScope X scope (closOf scope X.env) ix:=by
  subst hs hN
  unfold compD at h
  rw [Bool.and_eq_true,Bool.and_eq_true,List.all_eq_true,List.all_eq_true] at h
  obtain ⟨⟨h1,h2⟩,h3⟩:=h
  have p:∀ y∈scope.names,y.2≠.cell∧(y.2=.local→scope.names.lookup y.1=some .local)∧(y.2=.free→X.env.kindOf y.1=some .cell∨X.env.kindOf y.1=some .free):=fun y hy=>by
    have q:=h2 y hy
    rw [Bool.and_eq_true,Bool.and_eq_true] at q
    obtain ⟨⟨q1,q2⟩,q3⟩:=q
    refine ⟨by simpa using q1,fun e=>?_,fun e=>?_⟩
    · rw [e] at q2;simpa using q2
    · rw [e] at q3
      have q3':X.env.scope.names.lookup y.1=some .cell∨X.env.scope.names.lookup y.1=some .free:=by simpa using q3
      exact q3'
  have f:∀ y∈scope.names,y.2=.free→∃ c,X.env.cells.lookup y.1=some c:=fun y hy e=>ok.has y.1 ((p y hy).2.2 e)
  refine ⟨?_,fun y hy=>(p y hy).1,by simpa using h1,fun y hy=>(p y hy).2.1,fun y c e=>clos_fold scope.names [] f (fun _ _ z=>by simp at z) y c e,fun y hy=>?_,fun i hi=>?_⟩
  · have e:=clos_eq scope.names [] f
    unfold closureFor closOf
    refine Eq.trans (congrArg (fun m=>m >>= fun s=>(pure s:Sem (List (Str × Addr)))) e) ?_
    rw [pure_bind]
  · refine clos_has scope.names [] y (.inr ?_)
    rcases hy with hy | hy
    · obtain ⟨k',e,z | z⟩:=relabel_look hy
      · subst z;exact mem_of_look e
      · subst z;exact absurd rfl (p _ (mem_of_look e)).1
    · obtain ⟨k',e,z | z⟩:=relabel_look hy
      · subst z;exact mem_of_look e
      · subst z;exact mem_of_look e
  · have q:=h3 i hi
    cases hy:X.N[i]? with
    | none=>rw [hy] at q;cases q
    | some y =>
      rw [hy] at q
      have q':scope.names.lookup y=some .free:=by simpa using q
      exact ⟨y,rfl,(p _ (mem_of_look q')).2.2 rfl,relabel_free q'⟩
def capV (ix:List Nat) (σ:St):St:=ix.map fun i=>(σ[i]?).getD none
def capN (ix:List Nat) (N:List Str):List Str:=ix.map fun i=>(N[i]?).getD ""
section
variable {X:Cx} {pins:List (Addr × Obj)} {σ:St} {H:Hp} {s:Shared} {scope:Scope} {cl:List (Str × Addr)} {ix:List Nat} {fp:List Addr} {C:Addr} {xs:List Str}
theorem Inv.compOk (I:Inv X pins σ H s) (S:CompScope X scope cl ix) (hC:C=s.heap.objs.size) (hf:∀ b∈fp,FpOk X pins H b) (hl:∀ b∈fp,b < s.heap.objs.size) (N':List Str) :
    (X.comp scope cl C N' fp s H).Ok where
  mod:=I.ok.mod
  kind:=S.kind
  glob:=I.ok.glob
  blt:=I.ok.blt
  above:=Nat.le_of_eq hC.symm
  inj:=fun x y c h1 h2=>I.ok.inj x y c (S.sub x c h1) (S.sub y c h2)
  has:=fun x hx=>S.has x hx
  cab:=fun x c h1 _=>nomatch h1
  hd:=I.ok.hd
  frames:=I.ok.frames
  stk:=.inl rfl
  exf:=fun b hb=>⟨fun z=>absurd (hl b hb) (by rw [z];show ¬ C < _;rw [hC];exact Nat.lt_irrefl _),fun x c h=>(hf b hb).2.2.2.2.1 x c (S.sub x c h)⟩
  bs:=I.bs
  bsz:=Nat.le_trans I.ok.bsz I.sz
  noex:=fun b o e hb=>by
    rcases (hf b hb).2.2.2.1 with z | z
    · exact I.ok.noex b o e z
    · exact absurd (Nat.lt_of_lt_of_le (Heap.lt_size e) (Nat.le_trans I.ok.bsz z)) (Nat.lt_irrefl _)
  exfs:=fun b hb z=>by
    rcases List.mem_cons.mp (I.stkSub b z) with e | e
    · exact (hf b hb).2.1 e
    · exact (hf b hb).2.2.1 e
  funs:=I.stack
  frf:=I.stkFree
theorem Inv.comp {h₁:Heap} {m₁:Str→Option Value} {t':Nat} (I:Inv X pins σ H s) (S:CompScope X scope cl ix) (hC:C=s.heap.objs.size) (hf:∀ b∈fp,FpOk X pins H b) (hl:∀ b∈fp,b < s.heap.objs.size)
    (hn:h₁.Ns C m₁) (hk:∀ b o,s.heap.get? b=some o→h₁.get? b=some o) :
    Inv (X.comp scope cl C (xs ++ capN ix X.N) fp s H) [] (List.replicate xs.length none ++ capV ix σ) H { s with heap:=h₁,toks:=t' } where
  ok:=I.compOk S hC hf hl _
  os:=rfl
  bare:=I.bare
  base:=Un.kept hk
  loc:=by
    refine ⟨m₁,hn,fun i y v e1 e2 e3=>?_⟩
    by_cases hi:i < xs.length
    · rw [List.getElem?_append_left (by simpa using hi),List.getElem?_replicate,if_pos hi] at e2
      cases e2
    · have e1':(xs ++ capN ix X.N)[i]?=some y:=e1
      rw [List.getElem?_append_right (by omega)] at e1'
      rw [List.getElem?_append_right (by rw [List.length_replicate];omega),List.length_replicate] at e2
      generalize i - xs.length=j at e1' e2
      unfold capN at e1'
      unfold capV at e2
      rw [List.getElem?_map] at e1' e2
      cases hj:ix[j]? with
      | none=>rw [hj] at e1';cases e1'
      | some k =>
        rw [hj] at e1' e2
        obtain ⟨y',c1,c2,c3⟩:=S.cap k (List.mem_of_getElem? hj)
        have ey:y'=y:=by
          have q:(X.N[k]?).getD ""=y:=Option.some.inj e1'
          rw [c1] at q
          exact q
        subst ey
        have ev:σ[k]?=some (some v):=by
          have q:(σ[k]?).getD none=some v:=Option.some.inj e2
          cases hs:σ[k]? with
          | none=>rw [hs] at q;cases q
          | some o=>rw [hs] at q;exact congrArg some q
        obtain ⟨m,hm,hv⟩:=I.loc
        obtain ⟨u,r,l⟩:=hv k y' v c1 ev (c2.elim (fun z=>.inr (.inl z)) fun z=>.inr (.inr z))
        refine ⟨u,r,.inr ⟨c3,?_⟩⟩
        rcases l with ⟨l1,_⟩ | ⟨_,c,lc,⟨o,ho,hd⟩⟩
        · rcases c2 with z | z <;> (rw [l1] at z;cases z)
        · obtain ⟨c',hc'⟩:=S.has y' c3
          have e:=S.sub _ _ hc'
          rw [lc] at e
          cases e
          exact ⟨c,hc',o,hk _ _ ho,hd⟩
  cell:=fun x c e=>by
    obtain ⟨v,o,ho,hd⟩:=I.cell x c (S.sub x c e)
    exact ⟨v,o,hk _ _ ho,hd⟩
  free:=I.hok.fresh (Nat.le_of_eq hC.symm)
  freeC:=fun x c e=>I.freeC x c (S.sub x c e)
  pin:=fun p hp=>absurd (show p∈([]:List (Addr × Obj)) from hp) (by simp)
  hok:=I.hok.kept hk
  len:=by
    show (List.replicate xs.length none ++ capV ix σ).length=(xs ++ capN ix X.N).length
    rw [List.length_append,List.length_append,List.length_replicate,capV,capN,List.length_map,List.length_map]
theorem Inv.uncomp {s':Shared} {σ':St} {H':Hp} {N':List Str} {h':Heap} (I:Inv X pins σ H s) (hC:C=s.heap.objs.size) (hf:∀ b∈fp,FpOk X pins H b)
    (J:Inv (X.comp scope cl C N' fp s H) [] σ' H' s') (hb:Heap.SameBut C s'.heap h'):Inv X pins σ H' { s' with heap:=h' }:=by
  have lt:∀ b o,s.heap.get? b=some o→b≠C:=fun b o e=>by
    rw [hC];exact Nat.ne_of_lt (Heap.lt_size e)
  have B:Un (frs X.stack) fp H H' s.heap s'.heap:=J.base
  refine I.call' (s':={ s' with heap:=h' }) (ch:=fp) J.os ?_ ?_ J.bare ?_
  · exact ⟨fun b o e n h1 h2=>(hb.2 b (lt b o e)).trans (B.keep b o e n h1 h2),fun b o e n h1 h2=>by
      obtain ⟨sl,q⟩:=B.slot b o e n h1 h2
      exact ⟨sl,(hb.2 b (lt b o e)).trans q⟩,B.free,fun b o e h1=>by
      obtain ⟨o',q⟩:=B.there b o e h1
      exact ⟨o',(hb.2 b (lt b o e)).trans q⟩,B.tups,B.frzs,B.tbls⟩
  · intro b o e
    refine (J.hok b o e).stay (fun c u hc q=>(hb.2 c ?_).trans q) (fun _ q=>q) fun _ _ q=>q
    have hC0:H' C=none:=J.free
    rintro rfl
    rcases hc with rfl | hc
    · rw [hC0] at e;cases e
    · rw [hC0] at hc;cases hc
  · intro b hb'
    obtain ⟨f0,f1,f2,f3,f4,f5⟩:=hf b hb'
    exact ⟨f3,f1,f4,f5⟩
end
def PTs (X:Cx) (ifs:List Expr) (t:TT):Prop :=
  ∀ (pins:List (Addr × Obj)) (s:Shared) (σ:St) (H:Hp) (Q:Bool→Hp→Prop),Inv X pins σ H s→t σ H Q →
    wpAny (model X.prog X.w) X.A (forIn ifs true fun c r=>if r=true then do let ok ← isTrue c X.env (eval c X.env);pure (ForInStep.yield ok) else pure (ForInStep.yield r)) (TP X pins σ Q) X.xe s
def tYes:TT:=fun _ H Q=>Q true H
theorem pts_nil {X:Cx}:PTs X [] tYes:=fun _ _ _ H _ I h=>wpAny_tests_nil ⟨H,I,h⟩
section
variable {prog:Program} {w:World} {A:Around} {R:Result→Shared→Prop} {s:Shared}
theorem compLoop_any {elt target iter:Expr} {ifs:List Expr} {scope:Scope} {pos:Pos} {it acc:Value} {env:Env} (W:Nat→Shared→Prop) {EE:Value→Shared→Prop}
    (hE:∀ e s',EE e s'→notedBy (model prog w) A env (fun e s'=>R (.error e) s') e s')
    (turn:∀ n s,W n s→wpAny (model prog w) A (pyNext it) (fun r s₁=>match r with
      | none=>R (.ok .next) s₁
      | some v=>wpAny (model prog w) A (letOwnedTupleGo target it v) (fun _ t₁=>wpAny (model prog w) A (assign target env v) (fun _ s₂ =>
          wpAny (model prog w) A (forIn ifs true fun c r=>if r=true then do let ok ← isTrue c env (eval c env);pure (ForInStep.yield ok) else pure (ForInStep.yield r)) (fun ok s₃ =>
            if ok=true then wpAny (model prog w) A (eval elt env) (fun x s₄=>wpAny (model prog w) A (call (.builtin "list.append") [acc,x]) (fun _ s₅=>∃ m,m < n∧W m s₅) EE s₄) EE s₃
            else ∃ m,m < n∧W m s₃) EE s₂) EE t₁) EE s₁) EE s)
    (n:Nat) (h:W n s):codeAny (model prog w) A (.compLoop (.ListComp elt [⟨target,iter,ifs,0⟩] scope pos) 0 it acc env) R s:=by
  refine codeAny_loop rfl W (fun n s hW=>?_) n h
  show wpAny _ A ((compTurn (.ListComp elt [⟨target,iter,ifs,0⟩] scope pos) 0 it acc env).onRaise (fun x=>do noteFrame x env;theTreesLotGoes x)) _ _ s
  refine wpAny_noted (wpAny_mono ?_ (fun _ _ q=>q) hE)
  rw [compTurn_list]
  refine wpAny_bind (wpAny_standAt (wpAny_bind (thn (turn n s hW) fun r s₁ h₁=>?_)))
  cases r with
  | none=>exact wpAny_pure h₁
  | some v =>
    refine wpAny_bind (thn h₁ fun _ t₁ k₁=>?_)
    refine wpAny_bind (thn k₁ fun _ s₂ h₂=>wpAny_bind (thn h₂ fun ok s₃ h₃=>?_))
    cases ok with
    | false=>exact wpAny_pure ⟨rfl,h₃⟩
    | true=>exact wpAny_bind (wpAny_bind (thn h₃ fun x s₄ h₄=>wpAny_bind (thn h₄ fun _ s₅ h₅=>wpAny_pure (wpAny_pure ⟨rfl,h₅⟩))))
end
def tComp (wi:TI) (g:TG) (tt:TT) (te:TE) (k:Nat) (ix:List Nat):TE:=fun σ H Q=>wi σ H fun J H1=>∀ D,H1 D=none →
  ∃ W:Nat→Nat→List V→St→Hp→Prop,(∃ m,W 0 m [] (List.replicate k none ++ capV ix σ) (upd H1 D (.lst [])))∧∀ i m ys τ H,W i m ys τ H→H D=some (.lst ys) ∧
    ((J.stop i H∧Q (.ref D) H)∨(J.go i H∧ys.length < sizeLine∧∃ N:V→St→Hp→Prop,
      (∀ v τ' H',N v τ' H'→H' D=some (.lst ys)∧∃ m',m' < m∧W (i + 1) m' (ys ++ [v]) τ' (upd H' D (.lst (ys ++ [v]))))∧∃ Nf:St→Hp→Prop,(∀ τ' H',Nf τ' H'→∃ m',m' < m∧W (i + 1) m' ys τ' H') ∧
      ∀ x H',J.yld i H x H'→g x τ H' fun τ2 H2=>tt τ2 H2 fun b H3=>if b=true then te τ2 H3 fun v H4=>N v τ2 H4 else Nf τ2 H3))
section
variable {X:Cx} {elt iter tg:Expr} {ifs:List Expr} {scope:Scope} {pos:Pos} {cl:List (Str × Addr)} {ix:List Nat} {xs:List Str} {wi:TI} {g:TG} {tt:TT} {te:TE}
theorem comp_block (S:CompScope X scope cl ix) (hc:X.calm=true) (hi:PI X tg iter wi)
    (hg:∀ C fp s H,PG (X.comp scope cl C (xs ++ capN ix X.N) fp s H) tg g) (ht:∀ C fp s H,PTs (X.comp scope cl C (xs ++ capN ix X.N) fp s H) ifs tt)
    (he:∀ C fp s H,PE (X.comp scope cl C (xs ++ capN ix X.N) fp s H) elt te)
    {pins:List (Addr × Obj)} {s:Shared} {σ:St} {H:Hp} {Q:VK} (I:Inv X pins σ H s) (h:tComp wi g tt te xs.length ix σ H Q) {RR:Value→Addr→Result→Shared→Prop}
    (hR:∀ v u s' C,RelV v u→(∃ H',Q v H'∧(∃ m,s'.heap.Ns C m)∧(∀ h',Heap.SameBut C s'.heap h'→Inv X pins σ H' { s' with heap:=h' })∧FpOk X pins H' C)→RR u C (.ok .next) s') :
    wpAny (model X.prog X.w) X.A (eval iter X.env) (fun x s₁=>wpAny (model X.prog X.w) X.A (pyIter x) (fun it s₂=>wpAny (model X.prog X.w) X.A (newList []) (fun acc s₃ =>
      wpAny (model X.prog X.w) X.A (newFunctionEnv scope X.env.globals cl [] X.env.qual none .none (some X.env)) (fun cenv s₄ =>
        codeAny (model X.prog X.w) X.A (.compStart (.ListComp elt [⟨tg,iter,ifs,0⟩] scope pos) 0 it acc { cenv with scope:=relabel scope X.env }) (RR acc cenv.locals) s₄) X.xe s₃) X.xe s₂) X.xe s₁) X.xe s:=by
  refine thn (hi pins s σ H _ I h) fun v s1 h1=>thn h1 fun itv s2 h2=>?_
  obtain ⟨it,fp,tn,J,H2,e,I2,T,st2,f2,hW⟩:=h2
  subst e
  refine wpAny_newObj_type (wpAny_newFunctionEnv S.nocell (fun y hy=>nomatch hy) (fun h₁ hns₁ hsb₁=>?_) S.kind)
  dsimp only at hns₁ hsb₁ ⊢
  obtain ⟨W,⟨m0,w0⟩,turn⟩:=hW s2.heap.objs.size I2.fresh
  have I3:=I2.lnew (t':=s2.toks) (ys:=[]) (its:=[]) .nil (Nat.zero_le _)
  have hl3:∀ b∈fp,b < s2.heap.objs.size:=fun b hb=>by
    obtain ⟨o,e,_⟩:=T.obj _ _ st2 b hb
    exact Heap.lt_size e
  generalize hs3:({ s2 with heap:=s2.heap.push { cls:=.type "list",data:=.seq ([]:List Value).toArray },toks:=s2.toks }:Shared)=s3 at I3
  have hs3h:s3.heap=s2.heap.push { cls:=.type "list",data:=.seq ([]:List Value).toArray }:=by rw [← hs3]
  have hsz:s3.heap.objs.size=s2.heap.objs.size + 1:=by rw [hs3h,Heap.size_push]
  have f3:∀ b∈fp,FpOk X pins (upd H2 s2.heap.objs.size (.lst [])) b:=fun b hb=>by
    obtain ⟨q0,q⟩:=f2 b hb
    exact ⟨by rw [upd_ne (Nat.ne_of_lt (hl3 b hb))];exact q0,q⟩
  have hl3':∀ b∈fp,b < s3.heap.objs.size:=fun b hb=>by rw [hsz];exact Nat.lt_succ_of_lt (hl3 b hb)
  rw [← hs3h] at hns₁ hsb₁ ⊢
  have hk:∀ b o,s3.heap.get? b=some o→h₁.get? b=some o:=fun b o e=>(hsb₁.2 b (Nat.ne_of_lt (Heap.lt_size e))).trans (Heap.get?_push_of_some _ e)
  have hk2:∀ b o,s2.heap.get? b=some o→s3.heap.get? b=some o:=fun b o e=>by rw [hs3h];exact Heap.get?_push_of_some _ e
  have J0:=I3.comp (xs:=xs) (t':=s2.toks) (C:=s3.heap.objs.size) S rfl f3 hl3' hns₁ hk
  have st3:tn 0 h₁:=T.keep _ _ _ st2 fun b _ o e=>hk b o (hk2 b o e)
  have loop:∀ tk,codeAny (model X.prog X.w) X.A (.compLoop (.ListComp elt [⟨tg,iter,ifs,0⟩] scope pos) 0 (.ref it) (.ref s2.heap.objs.size) (compEnvC scope cl s3.heap.objs.size X.env))
      (RR (.ref s2.heap.objs.size) s3.heap.objs.size) { s3 with heap:=h₁,toks:=tk }:=by
    intro tk
    refine compLoop_any (EE:=fun _ _=>False) (fun n s'=>∃ i ys τ H',Inv (X.comp scope cl s3.heap.objs.size (xs ++ capN ix X.N) fp s3 (upd H2 s2.heap.objs.size (.lst []))) [] τ H' s'∧tn i s'.heap∧(∀ b∈fp,H' b=none)∧W i n ys τ H')
      (fun _ _ z=>z.elim) ?_ m0 ⟨0,[],_,_,J0.tok tk,st3,fun b hb=>(f3 b hb).1,w0⟩
    rintro n s' ⟨i,ys,τ,H',I',st',fr',w'⟩
    have stat:∀ {H':Hp},(∀ b∈fp,H' b=none)→∀ b∈fp,FpOk (X.comp scope cl s3.heap.objs.size (xs ++ capN ix X.N) fp s3 (upd H2 s2.heap.objs.size (.lst []))) [] H' b:=fun hn b hb =>
      ⟨hn b hb,(I'.ok.exf b hb).1,I'.ok.exfs b hb,.inl hb,(I'.ok.exf b hb).2,fun p hp=>absurd (show p∈([]:List (Addr × Obj)) from hp) (by simp)⟩
    obtain ⟨hD,⟨stop,q⟩ | ⟨go,hz,N,hN,Nf,hNf,step⟩⟩:=turn i n ys τ H' w'
    · refine thn (T.done (X.comp scope cl s3.heap.objs.size (xs ++ capN ix X.N) fp s3 (upd H2 s2.heap.objs.size (.lst []))) rfl rfl rfl hc i [] s' τ H' _ I' (stat fr') st' stop) fun r s4 ⟨hr,I4⟩=>?_
      subst hr
      refine hR (.ref s2.heap.objs.size) _ s4 _ rfl ⟨H',q,?_,fun h' hb=>I3.uncomp rfl f3 I4 hb,I3.fpOk (Nat.le_refl _) I4.free⟩
      obtain ⟨m,hn,_⟩:=I4.loc
      exact ⟨m,hn⟩
    · refine thn (T.item (X.comp scope cl s3.heap.objs.size (xs ++ capN ix X.N) fp s3 (upd H2 s2.heap.objs.size (.lst []))) rfl rfl rfl hc i [] s' τ H' _ I' (stat fr') st' go) fun r s4 ⟨u,hr,h4⟩=>?_
      subst hr
      refine thn h4 fun _ s5 ⟨x,H5,I5,r5,y5,st5,fr5⟩=>?_
      have I5':=I5.pinned (stat fr5) (T.obj _ _ st5)
      refine thn (hg _ _ _ _ _ s5 τ H5 x u _ I5' r5 (step x H5 y5)) fun _ s6 ⟨τ6,H6,I6,q6⟩=>?_
      refine thn (ht _ _ _ _ _ s6 τ6 H6 _ I6 q6) fun ok s7 ⟨H7,I7,q7⟩=>?_
      have back:∀ {s8:Shared} {H8:Hp} {m:Nat} {zs:List V},Inv (X.comp scope cl s3.heap.objs.size (xs ++ capN ix X.N) fp s3 (upd H2 s2.heap.objs.size (.lst []))) ([] ++ pinsAt fp s5.heap) τ6 H8 s8→W (i + 1) m zs τ6 H8 →
          ∃ i ys τ H',Inv (X.comp scope cl s3.heap.objs.size (xs ++ capN ix X.N) fp s3 (upd H2 s2.heap.objs.size (.lst []))) [] τ H' s8∧tn i s8.heap∧(∀ b∈fp,H' b=none)∧W i m ys τ H':=fun {s8 H8 m zs} I8 w8=>by
        refine ⟨i + 1,zs,τ6,H8,I8.unpinned,T.keep _ _ _ st5 fun b hb o e=>(I8.pin (b,o) (List.mem_append_right _ (List.mem_append_right _ (mem_pinsAt hb e)))).1,fun b hb=>?_,w8⟩
        obtain ⟨o,e,d⟩:=T.obj _ _ st5 b hb
        exact (I8.pin (b,o) (List.mem_append_right _ (List.mem_append_right _ (mem_pinsAt hb e)))).2.1
      cases ok with
      | false =>
        rw [if_neg Bool.false_ne_true] at q7 ⊢
        obtain ⟨m',hm,w7⟩:=hNf _ _ q7
        exact ⟨m',hm,back I7 w7⟩
      | true =>
        rw [if_pos rfl] at q7 ⊢
        refine thn (he _ _ _ _ _ s7 τ6 H7 _ I7 q7) fun y s8 ⟨v8,H8,I8,r8,n8⟩=>?_
        obtain ⟨hD8,m',hm,w8⟩:=hN _ _ _ n8
        refine thn (mt_append _ s8 τ6 H8 (.ref s2.heap.objs.size) [v8] (.ref s2.heap.objs.size) [y] (fun _ Hn=>∃ m,m < n∧W (i + 1) m (ys ++ [v8]) τ6 Hn) I8 rfl (.cons r8 .nil) ⟨_,ys,v8,rfl,rfl,hD8,hz,m',hm,w8⟩) fun _ s9 ⟨_,H9,I9,_,m9,hm9,w9⟩=>?_
        exact ⟨m9,hm9,back I9 w9⟩
  have e3:∀ tk,({ s3 with heap:=h₁,toks:=tk }:Shared)={ s2 with heap:=h₁,toks:=tk }:=fun tk=>by rw [← hs3]
  have loop':∀ tk,codeAny (model X.prog X.w) X.A (.compLoop (.ListComp elt [⟨tg,iter,ifs,0⟩] scope pos) 0 (.ref it) (.ref s2.heap.objs.size) (compEnvC scope cl s3.heap.objs.size X.env))
      (RR (.ref s2.heap.objs.size) s3.heap.objs.size) { s2 with heap:=h₁,toks:=tk }:=fun tk=>by rw [← e3];exact loop tk
  exact codeAny_compStart_list (loop' _) (T.self _ 0 _ _ _ st3 (loop' _))
theorem pe_comp {osc:Scope} {N:List Str} (hc:X.calm=true) (hD:compD osc N scope ix=true) (hi:PI X tg iter wi)
    (hg:∀ C fp s H,PG (X.comp scope (closOf scope X.env) C (xs ++ capN ix X.N) fp s H) tg g) (ht:∀ C fp s H,PTs (X.comp scope (closOf scope X.env) C (xs ++ capN ix X.N) fp s H) ifs tt)
    (he:∀ C fp s H,PE (X.comp scope (closOf scope X.env) C (xs ++ capN ix X.N) fp s H) elt te) (hsc:X.env.scope=osc:=by rfl) (hN:X.N=N:=by rfl) (hs:∀ x,foldedSetIterable iter X.env x=pure x:=by intro _;rfl) :
    PE X (.ListComp elt [⟨tg,iter,ifs,0⟩] scope pos) (tComp wi g tt te xs.length ix):=by
  intro pins s σ H Q I h
  have S:=compScope_of I.ok hD hsc hN
  rw [eval_ListComp]
  refine wpAny_comprehension_free (use:=none) rfl hs S.clos S.kind S.names (comp_block S hc hi hg ht he I h (RR:=fun acc C=>compPost (model X.prog X.w) X.A X.xe none (EP X pins σ Q) acc C) ?_)
  rintro v u s' C r ⟨H',q,⟨m,hn⟩,hI,_⟩
  exact ⟨m,hn,fun h' hb=>⟨v,H',hI h' hb,r,q⟩⟩
theorem ps_setComp {osc:Scope} {N:List Str} {y:Str} {py:Pos} {j:Nat} {spos:Pos} (hNd:X.N.Nodup) (hj:X.N[j]?=some y) (hc:X.calm=true) (hy:Loc X.env.scope y) (hD:compD osc N scope ix=true) (hi:PI X tg iter wi)
    (hg:∀ C fp s H,PG (X.comp scope (closOf scope X.env) C (xs ++ capN ix X.N) fp s H) tg g) (ht:∀ C fp s H,PTs (X.comp scope (closOf scope X.env) C (xs ++ capN ix X.N) fp s H) ifs tt)
    (he:∀ C fp s H,PE (X.comp scope (closOf scope X.env) C (xs ++ capN ix X.N) fp s H) elt te) (hsc:X.env.scope=osc:=by rfl) (hN:X.N=N:=by rfl)
    (hsw:swapsWith (.ListComp elt [⟨tg,iter,ifs,0⟩] scope pos) (some (.Name y py)) spos.line X.env=pure true:=by rfl)
    (hs:∀ x,foldedSetIterable iter X.env x=pure x:=by intro _;rfl) (hf:X.fn y=true∨X.env.scope.names.lookup y=some .local:=by first | exact .inl rfl | exact .inr rfl | assumption) :
    PS X (.Assign [.Name y py] (.ListComp elt [⟨tg,iter,ifs,0⟩] scope pos) spos) (tAsg (tComp wi g tt te xs.length ix) (gName j)):=by
  intro pins s σ H D I h
  have S:=compScope_of I.ok hD hsc hN
  rw [exec_Assign_Name_used _ _ _ _ hsw]
  refine wpAny_bind (wpAny_standAt (wpAny_bind ?_))
  show wpAny _ X.A (do let _ ← comprehension (.ListComp elt [⟨tg,iter,ifs,0⟩] scope pos) scope X.env _ (newList []) false (eval iter X.env) (some (assign (.Name y py) X.env))) _ _ s
  refine wpAny_bind (thn (wpAny_comprehension_free (use:=some (assign (.Name y py) X.env)) (Q:=fun _ s'=>SP X pins D .next s') rfl hs S.clos S.kind S.names
    (comp_block S hc hi hg ht he I h (RR:=fun acc C=>compPost (model X.prog X.w) X.A X.xe (some (assign (.Name y py) X.env)) (fun _ s'=>SP X pins D .next s') acc C) ?_)) fun _ s' hq=>wpAny_pure (wpAny_pure hq))
  rintro v u s' C r ⟨H',q,⟨m,hn⟩,hI,f0,f1,f2,f3,f4,f5⟩
  have I':Inv X pins σ H' s':=hI s'.heap (.refl ..)
  show wpAny _ X.A (assign (.Name y py) X.env u) _ _ _
  refine wpAny_assign_Name (store_ok2 I' hNd hj hy r (fun s2 I2 hx=>?_) hf)
  obtain ⟨a,hb,ha⟩:=hx
  have hCa:C≠a:=by
    rcases ha with rfl | ha
    · exact f1
    · exact Ne.symm (f4 _ _ ha)
  refine ⟨m,hn.sameBut hb hCa,fun h' hb'=>⟨_,H',?_,q⟩⟩
  exact I2.turned (t':=s2.toks) (fun b o hne e=>(hb'.2 b hne).trans e) f0 f1 f3 f4 f5
end
end L2
namespace L2
open PySem PySem.Spec PyProof.Rows
abbrev rAddS:R2:=fun x y H Q=>∃ i j,x=.str i∧y=.str j∧i.length + j.length≤sizeLine∧Q (.str (i ++ j)) H
abbrev rInS:R2:=fun x y H Q=>∃ i j,x=.str i∧y=.str j∧Q (.bl (!(Builtin.Str.occurrences j i 0 j.length 1).isEmpty)) H
abbrev rNotInS:R2:=fun x y H Q=>∃ i j,x=.str i∧y=.str j∧Q (.bl (!(!(Builtin.Str.occurrences j i 0 j.length 1).isEmpty))) H
abbrev rIsB:R2:=fun x y H Q=>∃ a b,x=.bl a∧y=.bl b∧Q (.bl (a == b)) H
abbrev rIsNotB:R2:=fun x y H Q=>∃ a b,x=.bl a∧y=.bl b∧Q (.bl (a != b)) H
abbrev rIsN:R2:=fun x y H Q=>y=.non∧Q (.bl (decide (x=.non))) H
abbrev rNotN:R2:=fun x y H Q=>y=.non∧Q (.bl (!decide (x=.non))) H
abbrev RC:=List V→Hp→VK→Prop
abbrev cLen (K:PySem.W.Frag):RC:=fun xs H Q=>∃ x n,xs=[x]∧LenV K x H n∧Q (.int n) H
abbrev cIsi (K:PySem.W.Frag):RC:=fun xs H Q=>∃ x c t b,xs=[x,c]∧TyOf K H x t∧(∃ T,c=.ty T∧PySem.W.kitOne K t (.type T)=some b)∧Q (.bl b) H
abbrev cAll (K:PySem.W.Frag):RC:=fun xs H Q=>∃ (a:Addr) (bs:List Bool),xs=[.ref a]∧SqL K H a (bs.map V.bl)∧Q (.bl (bs.all id)) H
abbrev cAbs:RC:=fun xs H Q=>∃ i,xs=[.int i]∧Q (.int (if i < 0 then -i else i)) H
abbrev cStr:RC:=fun xs H Q=>∃ i,xs=[.int i]∧i.natAbs.log2 < 1920∧Q (.str (toString i)) H
abbrev RM:=V→List V→Hp→VK→Prop
abbrev r_mt_startswith:RM:=fun x xs H Q=>∃ a b,x=.str a∧xs=[.str b]∧Q (.bl (0 + b.length≤a.length && Builtin.Str.subAt a b 0)) H
def spP (pre:List V→Hp→Prop) (post:List V→Hp→V→Hp→Prop):Sp:=fun vs H Q _=>pre vs H∧∀ r H',post vs H r H'→Same H H'→Q r H'
abbrev cInt:RC:=fun xs H Q=>∃ (x:Str) (n:Int),xs=[.str x]∧PySem.intText? x=some n∧x.length≤640∧Q (.int n) H
abbrev r_mt_upper:RM:=fun x xs H Q=>∃ a:Str,x=.str a∧xs=[]∧(∀ c∈a.cps.toList,c < 128)∧a.length≤sizeLine∧∀ y:Str,y.length=a.length→Q (.str y) H
theorem isV (p:Addr) {H:Hp} {o:HO} (h:H p=none):Same H (upd H p o):=fun b u e=>by rw [upd_ne (ne_of_none e h)];exact e
theorem bt_len:bootBuiltins "len"=some (.builtin "len"):=by decide +kernel
theorem bt_isinstance:bootBuiltins "isinstance"=some (.builtin "isinstance"):=by decide +kernel
theorem bt_any:bootBuiltins "any"=some (.builtin "any"):=by decide +kernel
theorem bt_sorted:bootBuiltins "sorted"=some (.builtin "sorted"):=by decide +kernel
theorem bt_bool:bootBuiltins "bool"=some (.type "bool"):=by decide +kernel
theorem bt_list:bootBuiltins "list"=some (.type "list"):=by decide +kernel
theorem bt_dict:bootBuiltins "dict"=some (.type "dict"):=by decide +kernel
section
variable {X:Cx}
def big:Int:=10 ^ 200
def CDivB (_ j:Int):Prop:=0 < j∧j < big
def CMulB (i j:Int):Prop:=(-big < i∧i < big)∧(-big < j∧j < big)
theorem log2_big {j:Int} (h:j.natAbs < 10 ^ 200):j.natAbs.log2 < 700:=by
  by_cases h0:j.natAbs=0
  · rw [h0];decide
  · exact (Nat.log2_lt h0).mpr (Nat.lt_of_lt_of_le h (by decide +kernel))
theorem abs_big {j:Int} (h:-big < j∧j < big):j.natAbs < 10 ^ 200:=by
  have e:big=((10 ^ 200:Nat):Int):=by decide +kernel
  rw [e] at h
  omega
theorem CMulB.ok {i j:Int} (h:CMulB i j):IntMulOk i j:=by
  have b:∀ k:Int,(-big < k∧k < big)→Builtin.Int.intBits k≤2 ^ 20:=fun k hk=>by
    have q:=log2_big (abs_big hk)
    unfold Builtin.Int.intBits
    split <;> omega
  exact .of_bits (b i h.1) (b j h.2)
theorem op_mulB:OpR X (binaryOp .Mult) (rI CMulB fun i j=>.int (i * j)):=opI fun _ _ _ _ _ _ _ hc q=>mul_int q hc.ok
theorem op_fdivB:OpR X (binaryOp .FloorDiv) (rI CDivB fun i j=>.int (i / j)):=opI fun i j _ _ _ _ _ hc q=>by
  have h1:(0:Int) < j:=hc.1
  refine floordiv_int (by omega) ?_ (.inl (PyProof.noPylong_of_log2 (Nat.lt_trans (log2_big (abs_big ⟨by have:=hc.2;omega,hc.2⟩)) (by decide))))
  rw [Int.fdiv_eq_ediv_of_nonneg i (by omega)]
  exact q
theorem call_isi:CallR X (.builtin "isinstance") (cIsi X.K):=by
  intro pins s σ H xs us Q I r h
  obtain ⟨x,c,t,b,rfl,ty,⟨T,rfl,e⟩,q⟩:=h
  obtain ⟨u,w',rfl,r1,r2⟩:=vals2 r
  cases r2
  exact isinst_ok I r1 ty e fun tk=>⟨.bl b,H,I.tok tk,rfl,q⟩
def Its (x:Str):It:=⟨fun i _=>i < x.cps.size,fun i H v H'=>H'=H∧∃ c,x.cps[i]?=some c∧v=.str ⟨#[c]⟩,fun i _=>x.cps.size≤i⟩
def iStr (tl:TE):TI:=fun σ H R=>tl σ H fun x H1=>∃ z,x=.str z∧R (Its z) H1
def rSlS:V→Option Int→Option Int→Hp→VK→Prop:=fun x lo hi H Q=>∃ z,x=.str z∧z.length≤sizeLine∧Q (.str (Txt.slice z lo hi)) H
theorem sl_str:SlR X rSlS:=by
  intro pins s σ H x v vl vu lo hi sl Q I rx hs pl pu h
  obtain ⟨z,rfl,hz,q⟩:=h
  obtain ⟨t,rfl⟩:=rx
  obtain ⟨o,ho,hc,hd⟩:=hs
  refine ⟨"str",_,F.slot_str_getitem.lookup,typeIs_str _ _ _,?_⟩
  obtain ⟨l,e1,e2⟩:∃ l:Option (Int × Tok),vl=partValue l∧lo=l.map (·.1):=by
    cases pl with
    | none=>exact ⟨none,rfl,rfl⟩
    | int i t=>exact ⟨some (i,t),rfl,rfl⟩
  obtain ⟨u,e3,e4⟩:∃ l:Option (Int × Tok),vu=partValue l∧hi=l.map (·.1):=by
    cases pu with
    | none=>exact ⟨none,rfl,rfl⟩
    | int i t=>exact ⟨some (i,t),rfl,rfl⟩
  subst e1 e2 e3 e4
  exact wpAny_getItem_str_slice (l:=l) (u:=u) (st:=none) ⟨o,ho,hc,hd⟩ rfl
    (post_val_or_str ⟨Nat.le_trans (Txt.slice_le z _ _) hz,fun t' k=>⟨.str (Txt.slice z (l.map (·.1)) (u.map (·.1))),H,I.tok k,⟨t',rfl⟩,q⟩⟩)
end
end L2
namespace L2
open PySem PySem.Spec PyProof.Rows
def XF (g h:Heap) (H:Hp) (e:Addr) (cls:Value):Prop :=
  ∃ oe vs a0 T oT ts,h.get? e=some oe∧(oe.cls=cls∧vs[0]?=some a0)∧oe.data=.fields vs∧vs[1]?=some (.ref T)∧T≠e∧h.get? T=some oT∧oT.data=.fields ts∧ts[3]?=some .none ∧
    g.get? e=none∧g.get? T=none∧H e=none∧H T=none
def CX1 (P:Program) (w:World):CXT:=fun outer H s E ev s'=>∃ e cls H',ev=.ref e∧s'.os=s.os∧AllBare s'.gens∧Un (frs outer) [] H H' s.heap s'.heap∧HOk P w H' s'.heap∧XF s.heap s'.heap H' e cls∧E cls none H'
section
variable {X:Cx} {pins:List (Addr × Obj)} {σ:St} {H:Hp} {s:Shared}
end
section
variable {P:Program} {w:World} {K:PySem.W.Frag} {mg:Str→Option Value} {base:Heap} {N:List Str} {qual:Str} {scope:Scope} {f:Addr} {cd:Value} {A:Around} {outer:List Env} {s₀:Shared} {H₀:Hp} {E:XK}
end
def tRaise (C:Addr) (ta:TA) (E:XK):TS:=fun _ σ H=>ta σ H fun vs H1=>vs.length≤sizeLine∧E (.ref C) none H1
section
variable {X:Cx} {x:Str} {C:Addr} {np cpos pos:Pos} {e₀:Expr} {rest:List Expr} {ta:TA} {E:XK}
end
def Asc (x:Str):Prop:=∀ c∈x.cps.toList,c < 128
section
variable {X:Cx} {e:Expr} {te:TE} {a:Str} {j:Nat} {p1 p2 p3:Pos}
def tMsgR (te:TE):TE:=fun σ H Q=>te σ H fun v H1=>∃ x:Str,v=.str x∧x.length≤100000∧Asc x∧∀ y:Str,Q (.str y) H1
def tMsgS (te:TE):TE:=fun σ H Q=>te σ H fun v H1=>∃ x:Str,v=.str x∧x.length≤100000∧∀ y:Str,Q (.str y) H1
end
end L2
namespace L2
open PySem PySem.Spec PyProof.Rows
structure ExC (K:PySem.W.Frag) (C:Addr):Prop where
  ga:PySem.W.findIn K (.ref C) "__getattribute__"=some (some (.builtin "BaseException.__getattribute__"))
  gx:PySem.W.findIn K (.ref C) "__getattr__"=some none
  cl:PySem.W.findIn K (.ref C) "__class__"=some (some (.builtin "object.__class__"))
  ob:PySem.W.mroIn K C (.type "object")=some true
  be:PySem.W.mroIn K C (.type "BaseException")=some true
  ge:PySem.W.specialIn K (.builtin "object.__class__") "__get__"=some (some (.builtin "getset_descriptor.__get__"))
  tk:PySem.W.takesIn K (.builtin "object.__class__")=some true
section
variable {prog:Program} {w:World} {A:Around} {E:Value→Shared→Prop} {K:PySem.W.Frag} {e C:Addr} {s:Shared}
open PySem.Builtin PySem.Builtin.Getset_descriptor in
end
end L2
namespace L2
open PySem PySem.Spec PyProof.Rows
section
variable {X:Cx} {pins:List (Addr × Obj)} {σ:St} {H:Hp} {s:Shared}
end
def exO (e C:Addr):HO:=.ext fun h=>∃ o,h.get? e=some o∧o.cls=.ref C
abbrev Cx.sub (X:Cx) (e:Addr):Cx:={ X with A:=X.A.mark (some (.ref e)),calm:=false,xe:=fun _ _=>False }
section
variable {X:Cx} {pins:List (Addr × Obj)} {σ:St} {H:Hp} {s:Shared} {e:Addr}
end
abbrev EXK:=Value→St→Hp→Prop
section
variable {X:Cx} {k:Nat} {f:Addr} {fd:FuncData} {ps:List Str} {sp:Sp} {x:Str} {p pos:Pos} {e:Expr} {es:List Expr} {t:TA}
def tCallX (sp:Sp) (ta:TA) (EX:EXK):TE:=fun σ H Q=>ta σ H fun vs H1=>sp (vs ++ []) H1 Q fun cls _ H2=>EX cls σ H2
end
section
variable {X:Cx} {ex:Expr} {tx:EXK→TE} {pos p1:Pos} {i:Nat} {y:Str}
def tDropX (tx:EXK→TE) (EX:EXK):TS:=fun D σ H=>tx EX σ H fun _ H1=>D.nx σ H1
def tRetX (tx:EXK→TE) (EX:EXK):TS:=fun D σ H=>tx EX σ H D.rt
def tAsgX (tx:EXK→TE) (i:Nat) (EX:EXK):TS:=fun D σ H=>tx EX σ H fun v H1=>D.nx (σ.set i (some v)) H1
end
structure ExK (K:PySem.W.Frag) (C:Addr):Prop extends ExC K C where
  has:(PySem.W.clsIn K C).isSome=true
def endT (i:Nat) (D:Ends):Ends:={ nx:=fun σ H=>D.nx (σ.set i none) H,rt:=D.rt,bk:=fun σ H=>D.bk (σ.set i none) H,ct:=fun σ H=>D.ct (σ.set i none) H }
def tTry (K:PySem.W.Frag) (tb:EXK→TS) (C0:Addr) (i:Nat) (th:TS):TS:=fun D σ H=>tb (fun cls σ1 H1=>∃ C,cls=.ref C∧ExK K C∧PySem.W.exmOne K (.ref C) (.ref C0)=some true ∧
  ∀ e,H1 e=none→th (endT i D) (σ1.set i (some (.ref e))) (upd H1 e (exO e C))) D σ H
section
variable {X:Cx} {st b₀:Stmt} {suite:List Stmt} {tb:EXK→TS} {th:TS} {c n:Str} {C0:Addr} {i:Nat} {np hpos pos:Pos}
end
end L2
namespace L2
open PySem PySem.Spec PyProof.Rows
def clsV:V→Option Value
  | .ty T=>some (.type T)
  | .ref D=>some (.ref D)
  | _=>none
abbrev cIsx (K:PySem.W.Frag):RC:=fun xs H Q=>∃ a C c cv b,xs=[.ref a,c]∧H a=some (exO a C)∧ExK K C∧clsV c=some cv∧PySem.W.kitOne K (.ref C) cv=some b∧Q (.bl b) H
abbrev cIsxT (K:PySem.W.Frag):RC:=fun xs H Q=>∃ a C p,∃ cs:List Addr,∃ b,xs=[.ref a,.ref p]∧H a=some (exO a C)∧ExK K C∧H p=some (.tup (cs.map V.ref))∧PySem.W.kitAny K (.ref C) (cs.map Value.ref)=some b∧Q (.bl b) H
section
variable {X:Cx}
end
section
variable {P:Program} {w:World} {K:PySem.W.Frag} {mg:Str→Option Value} {base:Heap}
end
theorem walk_ofX {l:PySem.W.OpenLaw} {n k:Nat} {q:Program} {loose:List Str} {XP:(Str→Option Value)→Heap→Prop} {YP:World→Heap→Prop} {d:DefRec} {K:Params→PySem.W.Frag} {sp:PySem.W.Frag→Sp} {x:Str}
    (hn:l.most=some n) (hn2:n≤sizeLine) (hdf:d.params.defaults=[]) (hr:Room k callerA)
    (hY:∀ (w:World) (h:Heap),YP w h→(K w.params).In h)
    (F:∀ (w:World) (mg:Str→Option Value) (fa:Addr) (h:Heap),(K w.params).In h→h.Ns mainGlobals mg→mg d.name=some (.ref fa) →
      ∃ fd:FuncData,(∀ (s:Shared) (u:Value),BindsTo s fd ⟨[u],[]⟩ [(x,u)]) ∧
        ∀ base:Heap,(K w.params).In base→base.Ns mainGlobals mg→FnOk l.prog w (K w.params) mg base (CX1 l.prog w) k fa fd [x] (sp (K w.params)))
    (hsp:∀ (K:PySem.W.Frag) (H:Hp) (a:Addr) (ns:List Int),ns.length≤n→Only H→SqL K H a (ns.map V.int)→sp K [.ref a] H (fun v _=>v=.bl true) fun _ _ _=>False) :
    PySem.W.WalkO q loose XP YP l.row.toRowW d [] (fun f vs=>PySem.call f vs) :=
  walk_of (K:=K) (CX:=fun w=>CX1 l.prog w) (sp:=fun w=>sp (K w.params)) hn hn2 hdf hr hY F (fun w H a ns h1 h2 h3=>hsp (K w.params) H a ns h1 h2 h3) fun _ _ _ _ _ z=>by
    obtain ⟨_,_,_,_,_,_,_,_,_,y⟩:=z
    exact y
end L2
namespace L2
open PySem
section
variable {σ:St} {H:Hp} {nx:St→Hp→Prop} {B:V→St→Hp→(St→Hp→Prop)→Prop}
theorem loop_range {lo:Int} {n:Nat} (Pv:Nat→St→Hp→Prop) (h0:Pv 0 σ H) (hs:∀ i σ H,i < n→Pv i σ H→B (.int (lo + i)) σ H (Pv (i + 1))) (hd:∀ σ H,Pv n σ H→nx σ H) :
    ∃ W:Nat→Nat→St→Hp→Prop,(∃ m,W 0 m σ H)∧∀ i m σ H,W i m σ H→((Itr lo n).stop i H∧nx σ H)∨((Itr lo n).go i H∧∃ N:St→Hp→Prop,(∀ σ' H',N σ' H'→∃ m',m' < m∧W (i + 1) m' σ' H')∧∀ x H',(Itr lo n).yld i H x H'→B x σ H' N):=by
  refine ⟨fun i m σ H=>m=n - i∧i≤n∧Pv i σ H,⟨n,by simp,Nat.zero_le _,h0⟩,?_⟩
  rintro i m σ H ⟨rfl,hi,p⟩
  by_cases hlt:i < n
  · refine .inr ⟨hlt,Pv (i + 1),fun σ' H' p'=>⟨n - (i + 1),by omega,rfl,hlt,p'⟩,?_⟩
    rintro x H' ⟨rfl,rfl⟩
    exact hs i σ _ hlt p
  · obtain rfl:i=n:=by omega
    exact .inl ⟨Nat.le_refl _,hd σ H p⟩
theorem loop_list {K:PySem.W.Frag} {a:Addr} (xs:List V) (Pv:Nat→St→Hp→Prop) (h0:Pv 0 σ H) (hl:∀ i σ H,Pv i σ H→SqL K H a xs) (hs:∀ i x σ H,xs[i]?=some x→Pv i σ H→B x σ H (Pv (i + 1))) (hd:∀ σ H,Pv xs.length σ H→nx σ H) :
    ∃ W:Nat→Nat→St→Hp→Prop,(∃ m,W 0 m σ H)∧∀ i m σ H,W i m σ H→((Itl K a).stop i H∧nx σ H)∨((Itl K a).go i H∧∃ N:St→Hp→Prop,(∀ σ' H',N σ' H'→∃ m',m' < m∧W (i + 1) m' σ' H')∧∀ x H',(Itl K a).yld i H x H'→B x σ H' N):=by
  refine ⟨fun i m σ H=>m=xs.length - i∧i≤xs.length∧Pv i σ H,⟨xs.length,by simp,Nat.zero_le _,h0⟩,?_⟩
  rintro i m σ H ⟨rfl,hi,p⟩
  have q:=hl i σ H p
  by_cases hlt:i < xs.length
  · refine .inr ⟨⟨xs,xs[i],q,by simp [hlt]⟩,Pv (i + 1),fun σ' H' p'=>⟨xs.length - (i + 1),by omega,rfl,hlt,p'⟩,?_⟩
    rintro x H' ⟨rfl,y⟩
    exact hs i x σ _ (y xs q) p
  · obtain rfl:i=xs.length:=by omega
    exact .inl ⟨⟨xs,q,Nat.le_refl _⟩,hd σ H p⟩
end
theorem comp_gen {J:It} {D:Addr} {τ₀:St} {H1:Hp} {Q:Hp→Prop} {B:V→St→Hp→(V→St→Hp→Prop)→(St→Hp→Prop)→Prop} (n:Nat) (hn:n≤1000000) (C:St→Prop) (R:Nat→V→Prop) (hC:C τ₀)
    (go:∀ i H,Same H1 H→i < n→J.go i H) (stop:∀ H,Same H1 H→J.stop n H) (hD:H1 D=none)
    (hs:∀ i x τ H H',C τ→Same H1 H→i < n→J.yld i H x H'→B x τ H' (fun v τ' H4=>C τ'∧R i v∧Same H H4) (fun _ _=>False))
    (hd:∀ ys H,ys.length=n→(∀ i v,ys[i]?=some v→R i v)→Same H1 H→H D=some (.lst ys)→Q H) :
    ∃ W:Nat→Nat→List V→St→Hp→Prop,(∃ m,W 0 m [] τ₀ (upd H1 D (.lst [])))∧∀ i m ys τ H,W i m ys τ H→H D=some (.lst ys) ∧
    ((J.stop i H∧Q H)∨(J.go i H∧ys.length < sizeLine∧∃ N:V→St→Hp→Prop,
      (∀ v τ' H',N v τ' H'→H' D=some (.lst ys)∧∃ m',m' < m∧W (i + 1) m' (ys ++ [v]) τ' (upd H' D (.lst (ys ++ [v]))))∧∃ Nf:St→Hp→Prop,(∀ τ' H',Nf τ' H'→∃ m',m' < m∧W (i + 1) m' ys τ' H') ∧
      ∀ x H',J.yld i H x H'→B x τ H' N Nf)):=by
  have ext:∀ {H:Hp} {o:HO},Same H1 H→Same H1 (upd H D o):=fun {H o} h b u e=>by
    rw [upd_ne (ne_of_none e hD)];exact h b u e
  refine ⟨fun i m ys τ H=>m=n - i∧i≤n∧ys.length=i∧(∀ j v,ys[j]?=some v→R j v)∧Same H1 H∧H D=some (.lst ys)∧C τ,⟨n,by simp,Nat.zero_le _,rfl,by simp,ext (Same.refl _),upd_same,hC⟩,?_⟩
  rintro i m ys τ H ⟨rfl,hi,hl,hR,hS,hy,hc⟩
  refine ⟨hy,?_⟩
  by_cases hlt:i < n
  · refine .inr ⟨go i H hS hlt,Nat.lt_of_le_of_lt (by omega:ys.length≤1000000) (by decide),(fun v τ' H4=>C τ'∧R i v∧Same H H4),?_,(fun _ _=>False),fun _ _ z=>z.elim,fun x H' y=>hs i x τ H H' hc hS hlt y⟩
    rintro v τ' H4 ⟨c4,r4,s4⟩
    refine ⟨s4 _ _ hy,n - (i + 1),by omega,rfl,hlt,by simp [hl],fun j u hj=>?_,ext (hS.trans s4),upd_same,c4⟩
    rcases Nat.lt_trichotomy j ys.length with h | h | h
    · exact hR j u (by rwa [List.getElem?_append_left h] at hj)
    · subst h
      simp at hj
      subst hj
      rw [hl];exact r4
    · rw [List.getElem?_eq_none (by simp;omega)] at hj;cases hj
  · obtain rfl:i=n:=by omega
    exact .inl ⟨stop H hS,hd ys H hl hR hS hy⟩
theorem sIx_eq (n d:Nat) (v:Int):max (0:Int) (min (if v < 0 then v + n else v) n)=((HT.sIx n d (some v):Nat):Int):=by
  show _=(((if v < 0 then (v + (n:Int)).toNat else min v.toNat n):Nat):Int)
  by_cases hv:v < 0
  · simp only [if_pos hv];omega
  · simp only [if_neg hv];omega
theorem rng_one (a b:Nat):sliceRange (a:Int) (b:Int) 1=(List.range (b - a)).map fun k=>a + k:=by
  simp only [sliceRange,show ((1:Int) > 0)=True from by simp,if_true]
  by_cases hlt:(a:Int) < b
  · have e3:(((b:Int) - a + 1 - 1) / 1).toNat=b - a:=by rw [Int.ediv_one];omega
    simp only [hlt,if_true,e3]
    refine List.map_congr_left fun k _=>?_
    omega
  · have:b - a=0:=by omega
    simp [hlt,this]
theorem slice_ix (lo hi:Option Int) (n:Nat):Builtin.Str.strSliceIndices lo hi 1 n=(List.range (HT.sIx n n hi - HT.sIx n 0 lo)).map fun k=>HT.sIx n 0 lo + k:=by
  rw [← rng_one]
  unfold Builtin.Str.strSliceIndices
  simp only [show ((1:Int) > 0)=True from by simp,if_true]
  cases lo with
  | none =>
    cases hi with
    | none=>rfl
    | some v=>simp only [sIx_eq n n v];rfl
  | some u =>
    cases hi with
    | none=>simp only [sIx_eq n 0 u];rfl
    | some v=>simp only [sIx_eq n n v,sIx_eq n 0 u]
theorem slice_cps (x:Str) (lo hi:Option Int):(Txt.slice x lo hi).cps.toList=(x.cps.toList.drop (HT.sIx x.length 0 lo)).take (HT.sIx x.length x.length hi - HT.sIx x.length 0 lo):=by
  have hb:=HT.sIx_le x.length x.length (Nat.le_refl _) hi
  have hn:x.cps.toList.length=x.length:=by simp [Str.length]
  unfold Txt.slice
  rw [slice_ix]
  split
  · rename_i h
    have h':HT.sIx x.length x.length hi - HT.sIx x.length 0 lo=x.length:=by simpa using h
    have e0:HT.sIx x.length 0 lo=0∨x.length=0:=by omega
    rcases e0 with e0 | e0
    · rw [e0,List.drop_zero,List.take_of_length_le]
      omega
    · rw [List.eq_nil_of_length_eq_zero (by omega:x.cps.toList.length=0)];simp
  · by_cases hab:HT.sIx x.length 0 lo≤HT.sIx x.length x.length hi
    · have h:=StrLaws.picks x.cps.toList (HT.sIx x.length x.length hi - HT.sIx x.length 0 lo) (HT.sIx x.length 0 lo) (by omega)
      simpa using h
    · have:HT.sIx x.length x.length hi - HT.sIx x.length 0 lo=0:=by omega
      rw [this];simp
theorem slice_from (x:Str) (k:Nat):(Txt.slice x (some (k:Int)) none).cps.toList=x.cps.toList.drop k:=by
  rw [slice_cps,HT.sIx_none,HT.sIx_nat]
  have hn:x.cps.toList.length=x.length:=by simp [Str.length]
  by_cases h:k≤x.length
  · rw [Nat.min_eq_left h,List.take_of_length_le (by rw [List.length_drop];omega)]
  · rw [List.drop_eq_nil_of_le (by omega:x.cps.toList.length≤k),Nat.min_eq_right (by omega),List.drop_eq_nil_of_le (by omega)];simp
theorem slice_to (x:Str) (k:Nat):(Txt.slice x none (some (k:Int))).cps.toList=x.cps.toList.take k:=by
  rw [slice_cps,HT.sIx_none,HT.sIx_nat,List.drop_zero,Nat.sub_zero]
  have hn:x.cps.toList.length=x.length:=by simp [Str.length]
  by_cases h:k≤x.length
  · rw [Nat.min_eq_left h]
  · rw [Nat.min_eq_right (by omega),List.take_of_length_le (by omega),List.take_of_length_le (by omega)]
theorem str_ext {x y:Str} (h:x.cps.toList=y.cps.toList):x=y:=by
  obtain ⟨a⟩:=x
  obtain ⟨b⟩:=y
  have:a=b:=Array.toList_inj.mp h
  rw [this]
theorem cps_app (x y:Str):(x ++ y).cps.toList=x.cps.toList ++ y.cps.toList:=by
  show (x.cps ++ y.cps).toList=_
  simp
open PySem.NumText in
section
def numS (w:Int):Str:=Str.ofString (toString w)
theorem len_cps (x:Str):x.length=x.cps.toList.length:=by simp [Str.length]
def inF (c:Nat):Bool:=!(Builtin.Str.occurrences "0123456789" ⟨#[c]⟩ 0 (Str.length "0123456789") 1).isEmpty
def isFig (x:Str):Bool:=!decide (x="") && x.cps.toList.all inF
def inW (i:Int):Bool:=decide (-1000000000000000000000000000000≤i∧i≤1000000000000000000000000000000)
def fpart (x:Str):Str:=if (x.cps.toList.take 1 == [45])=true then Txt.slice x (some 1) none else x
def valOf (x:Str):Int:=(intText? x).getD 0
def isNum (x:Str):Bool:=!(decide (31 < (fpart x).length) || !isFig (fpart x)) && (inW (valOf x) && decide (numS (valOf x)=x))
end
end L2
namespace L2
open PySem PySem.Spec PyProof.Rows
def findS (x y:Str):Int:=match Builtin.Str.occurrences x y 0 x.length 1 with | i :: _=>(i:Int) | []=>-1
abbrev r_mt_find:RM:=fun x xs H Q=>∃ a b,x=.str a∧xs=[.str b]∧Q (.int (findS a b)) H
def joinS (sep:Str):List Str→Str
  | [p]=>p
  | l=>Builtin.Str.glued sep l
def sumL (sep:Str) (ls:List Str):Nat:=ls.foldl (fun n p=>n + p.length + sep.length) 0
abbrev r_mt_join (K:PySem.W.Frag):RM:=fun x xs H Q=>∃ sep a ls,x=.str sep∧xs=[.ref a]∧SqL K H a (ls.map V.str)∧sumL sep ls≤sizeLine∧Q (.str (joinS sep ls)) H
def repS (x:Str) (n:Int):Str:=if n < 1 then Str.empty else if (n == 1 || x.length == 0)=true then x else ⟨(List.replicate n.toNat x.cps).foldl (· ++ ·) #[]⟩
abbrev rMulS:R2:=fun x y H Q=>∃ a n,x=.str a∧y=.int n∧(n < 1000000∧-1000000 < n∧a.length * n.toNat≤1000000)∧Q (.str (repS a n)) H
section
variable {X:Cx}
end
theorem len_app (x y:Str):(x ++ y).length=x.length + y.length:=Str.length_append x y
end L2
namespace L2
open PySem PySem.Spec PyProof.Rows
section
open PySem.NumText
end
end L2
namespace L2
open PySem PySem.Spec PyProof.Rows
section
variable {X:Cx}
abbrev cIntB:RC:=fun xs H Q=>∃ b:Bool,xs=[.bl b]∧Q (.int (if b then 1 else 0)) H
end
theorem hu64 {k:Nat} {A:Around} (r:Room k A):A.units + 64 < cLine:=by have:=r.un;omega
def datV:V→PyData
  | .non=>.none
  | .bl b=>.bool b
  | .int i=>.int i
  | .str x=>.str x
  | _=>.none
def isFlat:V→Bool
  | .non=>true
  | .bl _=>true
  | .int _=>true
  | .str x=>PyData.strOk x
  | _=>false
theorem Asc.flat {x:Str} (h:Asc x):isFlat (.str x)=true:=by
  unfold isFlat PyData.strOk
  rw [Array.all_eq_true]
  intro i hi
  have:=h x.cps[i] (by simp)
  exact decide_eq_true (by omega)
def mixV:V→V→Bool
  | .bl _,.int _=>false
  | .int _,.bl _=>false
  | _,_=>true
def mixAll:List V→List V→Bool
  | x :: xs,y :: ys=>mixV x y && mixAll xs ys
  | _,_=>true
theorem carried_of:∀ {xs:List V} {us:List Value},xs.all isFlat=true→Vals xs us→CarriedAll us (xs.map datV)
  | [],_,_,.nil=>.nil
  | x :: r,_,h,.cons rx t=>by
    rw [List.all_cons,Bool.and_eq_true] at h
    refine .cons ?_ (carried_of h.2 t)
    cases x with
    | non=>cases rx;exact .none
    | bl b=>cases rx;exact .bool b
    | int i=>obtain ⟨t,rfl⟩:=rx;exact .int i t
    | str x=>obtain ⟨t,rfl⟩:=rx;exact .str x t
    | byt b=>exact absurd h.1 (by simp [isFlat])
    | flt b=>exact absurd h.1 (by simp [isFlat])
    | ref a=>exact absurd h.1 (by simp [isFlat])
    | ty n=>exact absurd h.1 (by simp [isFlat])
theorem same_dat {x y:V} (hx:isFlat x=true) (hy:isFlat y=true):PySem.Spec.same (datV x) (datV y)=decide (x=y):=by
  cases x <;> cases y <;> simp_all [isFlat,datV,PySem.Spec.same] <;> (rename_i a b;by_cases e:a=b <;> simp [e])
theorem sameAll_dat:∀ {xs ys:List V},xs.all isFlat=true→ys.all isFlat=true→PySem.Spec.sameAll (xs.map datV) (ys.map datV)=decide (xs=ys)
  | [],[],_,_=>by simp [PySem.Spec.sameAll]
  | [],_ :: _,_,_=>by simp [PySem.Spec.sameAll]
  | _ :: _,[],_,_=>by simp [PySem.Spec.sameAll]
  | x :: r,y :: t,hx,hy=>by
    rw [List.all_cons,Bool.and_eq_true] at hx hy
    rw [List.map_cons,List.map_cons,PySem.Spec.sameAll,same_dat hx.1 hy.1,sameAll_dat hx.2 hy.2]
    by_cases a:x=y <;> by_cases b:r=t <;> simp [a,b]
theorem noMix_dat {x y:V} (hx:isFlat x=true) (hy:isFlat y=true) (h:mixV x y=true):SeqAt.noMix (datV x) (datV y)=true:=by
  cases x <;> cases y <;> simp_all [isFlat,datV,SeqAt.noMix,mixV]
theorem noMixAll_dat:∀ {xs ys:List V},xs.all isFlat=true→ys.all isFlat=true→mixAll xs ys=true→SeqAt.noMixAll (xs.map datV) (ys.map datV)=true
  | [],[],_,_,_=>by simp [SeqAt.noMixAll]
  | [],_ :: _,_,_,_=>by simp [SeqAt.noMixAll]
  | _ :: _,[],_,_,_=>by simp [SeqAt.noMixAll]
  | x :: r,y :: t,hx,hy,h=>by
    rw [List.all_cons,Bool.and_eq_true] at hx hy
    rw [mixAll,Bool.and_eq_true] at h
    rw [List.map_cons,List.map_cons,SeqAt.noMixAll,noMix_dat hx.1 hy.1 h.1,noMixAll_dat hx.2 hy.2 h.2]
    rfl
theorem shaped_dat {xs:List V} (h:xs.all isFlat=true):SeqAt.shaped (.list (xs.map datV))=true∧SeqAt.shaped (.tuple (xs.map datV))=true:=by
  have a:∀ x,isFlat x=true→(datV x).canLay0=true∧(datV x).depth=0:=fun x=>by cases x <;> simp [datV,PyData.canLay0,PyData.depth,isFlat]
  have l:∀ ys:List V,ys.all isFlat=true→PyData.canLayAll0 (ys.map datV)=true∧PyData.depthAll (ys.map datV)=0:=by
    intro ys
    induction ys with
    | nil=>exact fun _=>⟨rfl,rfl⟩
    | cons y r ih =>
      intro h
      rw [List.all_cons,Bool.and_eq_true] at h
      exact ⟨by rw [List.map_cons,PyData.canLayAll0,(a y h.1).1,(ih h.2).1];rfl,by rw [List.map_cons,PyData.depthAll,(a y h.1).2,(ih h.2).2];rfl⟩
  exact ⟨by simp [SeqAt.shaped,PyData.canLay0,PyData.depth,(l xs h).1,(l xs h).2],by simp [SeqAt.shaped,PyData.canLay0,PyData.depth,(l xs h).1,(l xs h).2]⟩
abbrev rEqL (K:PySem.W.Frag) (neg:Bool):R2:=fun x y H Q=>∃ a b xs ys,x=.ref a∧y=.ref b∧SqL K H a xs∧SqL K H b ys∧(xs.all isFlat=true∧ys.all isFlat=true∧mixAll xs ys=true)∧Q (.bl (if neg then !decide (xs=ys) else decide (xs=ys))) H
section
variable {X:Cx}
theorem op_neL (hu:X.A.units + 64 < cLine):OpR X (compareOp .NotEq) (rEqL X.K true):=by
  intro pins s σ H x y v u Q I rx ry h
  obtain ⟨a,b,xs,ys,rfl,rfl,ha,hb,⟨f1,f2,f3⟩,q⟩:=h
  cases rx
  cases ry
  obtain ⟨us,r1,p1,_⟩:=I.list ha
  obtain ⟨ws,r2,p2,_⟩:=I.list hb
  refine ne_dataH_same (reads_newData p1.isList (carried_of f1 r1)) (reads_newData p2.isList (carried_of f2 r2)) (shaped_dat f1).1 (shaped_dat f2).1 hu (by rw [SeqAt.noMix];exact noMixAll_dat f1 f2 f3) ?_
  rw [PySem.Spec.same,sameAll_dat f1 f2]
  exact ⟨.bl _,H,I,rfl,q⟩
abbrev rEqNil (K:PySem.W.Frag):R2:=fun x y H Q=>∃ a b xs,x=.ref a∧y=.ref b∧SqL K H a xs∧SqL K H b []∧Q (.bl (decide (xs=[]))) H
end
end L2
namespace L2
open PySem PySem.Spec PyProof.Rows
abbrev r_mt_append:RM:=rAppend
abbrev r_mt_pop:RM:=rPop
def jw:List V:=[.str "plus",.str "minus",.str "times",.str "over",.str "rest",.str "under",.str "same"]
def isJ (v:V):Bool:=inV v jw
inductive Er where
  | nought | great | stuck
  deriving DecidableEq
def comeV (w:Str) (a b:Int):Int :=
  if w="plus" then a + b else if w="minus" then a - b else if w="times" then a * b else if w="under" then (if a < b then 1 else 0) else if w="same" then (if a=b then 1 else 0) else if w="over" then a.fdiv b else a.fmod b
def isDiv (w:Str):Prop:=¬ w="plus"∧¬ w="minus"∧¬ w="times"∧¬ w="under"∧¬ w="same"
instance (w:Str):Decidable (isDiv w):=by unfold isDiv;infer_instance
def joinE (w:Str) (a b:Int):Except Er Int:=if isDiv w∧b=0 then .error .nought else if inW (comeV w a b)=true then .ok (comeV w a b) else .error .great
def wrth (kvs:List (Key × V)):V→Int
  | .int i=>i
  | .str x=>(match valV kvs (.inr x) with | some (.int i)=>i | _=>0)
  | _=>0
def stepE (kvs:List (Key × V)) (st:List Int) (v:V):Except Er (List Int) :=
  if isJ v=true then (match v,st.reverse with | .str w,b :: a :: r=>(match joinE w a b with | .ok c=>.ok (r.reverse ++ [c]) | .error e=>.error e) | _,_=>.error .stuck) else .ok (st ++ [wrth kvs v])
def runE (kvs:List (Key × V)):List V→List Int→Except Er (List Int)
  | [],st=>.ok st
  | v :: r,st=>match stepE kvs st v with | .ok st'=>runE kvs r st' | .error e=>.error e
section
variable {kvs:List (Key × V)}
def Good (kvs:List (Key × V)) (ps:List V) (r:Except Er Int):Prop:=(∀ st,runE kvs ps st=match r with | .ok i=>.ok (st ++ [i]) | .error e=>.error e)∧r≠.error .stuck
end
def okPart (v:V):Prop:=(∃ i,v=.int i∧inW i=true)∨∃ x:Str,v=.str x∧x.length≤1000
def SlotsOk (kvs:List (Key × V)):Prop:=∀ k v,valV kvs k=some v→∃ i,v=.int i∧inW i=true
theorem wrth_inW {kvs:List (Key × V)} (h:SlotsOk kvs) {v:V} (hv:okPart v):inW (wrth kvs v)=true:=by
  rcases hv with ⟨i,rfl,hi⟩ | ⟨x,rfl,_⟩
  · exact hi
  · show inW (match valV kvs (.inr x) with | some (.int i)=>i | _=>0)=true
    cases e:valV kvs (.inr x) with
    | none=>rfl
    | some u =>
      obtain ⟨i,rfl,hi⟩:=h _ _ e
      exact hi
end L2
namespace L2
open PySem PySem.Spec PyProof.Rows
def Itv (K:PySem.W.Frag) (a:Addr) (xs:List V):It:=⟨fun i H=>i < xs.length∧SqL K H a xs,fun i H x H'=>H'=H∧xs[xs.length - 1 - i]?=some x,fun i _=>xs.length≤i⟩
def iRev (K:PySem.W.Frag) (ta:TA):TI:=fun σ H R=>ta σ H fun vs H1=>∃ a xs,vs=[.ref a]∧SqL K H1 a xs∧R (Itv K a xs) H1
section
variable {X:Cx} {tg:Expr}
end
section
variable {σ:St} {H:Hp} {nx:St→Hp→Prop} {B:V→St→Hp→(St→Hp→Prop)→Prop}
end
end L2
namespace L2
open PySem PySem.Spec PyProof.Rows
abbrev cLst (K:PySem.W.Frag):RC:=fun xs H Q=>∃ p ys,xs=[.ref p]∧(SqL K H p ys∨SqT K H p ys)∧∀ l,H l=none→Q (.ref l) (upd H l (.lst ys))
abbrev cMin:RC:=fun xs H Q=>∃ i j,xs=[.int i,.int j]∧Q (.int (if j < i then j else i)) H
def inL (c:Nat):Bool:=!(Builtin.Str.occurrences "abcdefghijklmnopqrstuvwxyz" ⟨#[c]⟩ 0 (Str.length "abcdefghijklmnopqrstuvwxyz") 1).isEmpty
def wl:List V:=[.str "take",.str "give",.str "let",.str "say",.str "off",.str "if",.str "else",.str "end",.str "as"]
def isName (x:Str):Bool:=!(decide (x="") || decide (6 < x.length)) && !(inV (.str x) jw || inV (.str x) wl) && x.cps.toList.all inL
theorem inL_iff (c:Nat):inL c=true→97≤c∧c≤122:=by
  unfold inL
  rw [StrLaws.found_one]
  have e:(Str.ofString "abcdefghijklmnopqrstuvwxyz").cps.toList=[97,98,99,100,101,102,103,104,105,106,107,108,109,110,111,112,113,114,115,116,117,118,119,120,121,122]:=by decide +kernel
  rw [e]
  simp only [decide_eq_true_eq,List.mem_cons,List.not_mem_nil,or_false]
  omega
theorem isName_parts {x:Str} (h:isName x=true):x.cps.toList≠[]∧x.length≤6∧isJ (.str x)=false∧x.cps.toList.all inL=true:=by
  unfold isName at h
  rw [Bool.and_eq_true,Bool.and_eq_true,Bool.not_eq_true',Bool.not_eq_true',Bool.or_eq_false_iff,Bool.or_eq_false_iff,decide_eq_false_iff_not,decide_eq_false_iff_not] at h
  refine ⟨fun z=>h.1.1.1 (str_ext (by rw [z];decide +kernel)),by omega,h.1.2.1,h.2⟩
def partW (w:Str):Option V:=if isName w=true then some (.str w) else if isNum w=true then some (.int (valOf w)) else none
inductive Tw where
  | leaf (w:Str) | node (w:Str) (a b:Tw)
def pre:Tw→List Str
  | .leaf w=>[w]
  | .node w a b=>w :: (pre a ++ pre b)
def wfT:Tw→Prop
  | .leaf w=>isJ (.str w)=false
  | .node w a b=>isJ (.str w)=true∧wfT a∧wfT b
def okT:Tw→Bool
  | .leaf w=>(partW w).isSome
  | .node _ a b=>okT a && okT b
def pvw (w:Str):V:=(partW w).getD (.str w)
def pst:Tw→List V
  | .leaf w=>[pvw w]
  | .node w a b=>pst a ++ pst b ++ [.str w]
def scanE:List Str→Nat→Option Nat
  | _,0=>some 0
  | [],_ + 1=>none
  | w :: r,d + 1=>(scanE r (if isJ (.str w)=true then d + 2 else d)).map (· + 1)
def stepR (st:List (List V)) (w:Str):Except Bool (List (List V)) :=
  if isJ (.str w)=true then (match st.reverse with | a :: b :: r=>.ok (r.reverse ++ [a ++ b ++ [.str w]]) | _=>.error false) else (match partW w with | some v=>.ok (st ++ [[v]]) | none=>.error true)
def runR:List Str→List (List V)→Except Bool (List (List V))
  | [],st=>.ok st
  | w :: r,st=>match stepR st w with | .ok st'=>runR r st' | .error e=>.error e
theorem runR_app:∀ (p q:List Str) (st:List (List V)),runR (p ++ q) st=match runR p st with | .ok st'=>runR q st' | .error e=>.error e
  | [],q,st=>rfl
  | v :: r,q,st=>by
    show (match stepR st v with | .ok st'=>runR (r ++ q) st' | .error e=>.error e)=match (match stepR st v with | .ok st'=>runR r st' | .error e=>.error e) with | .ok st'=>runR q st' | .error e=>.error e
    cases stepR st v with
    | error e=>rfl
    | ok st'=>exact runR_app r q st'
end L2
namespace L2
open PySem PySem.Spec PyProof.Rows
abbrev cDct:RC:=fun xs H Q=>∃ a kvs,xs=[.ref a]∧H a=some (.dK kvs)∧∀ p,H p=none→Q (.ref p) (upd H p (.dK kvs))
abbrev rNeD:R2:=fun x y H Q=>∃ a b kvs,x=.ref a∧y=.ref b∧H a=some (.dK kvs)∧H b=some (.dK kvs)∧(∀ p∈kvs,∃ i,p.2=V.int i)∧Q (.bl false) H
section
variable {X:Cx}
end
theorem name_asc {x:Str} (h:isName x=true):Asc x:=fun c hc=>by
  have:=inL_iff c (List.all_eq_true.mp (isName_parts h).2.2.2 c hc)
  omega
end L2
namespace L2
open PySem PySem.Spec PyProof.Rows
section
variable {P:Program} {w:World} {A:Around} {E:Value→Shared→Prop} {s:Shared}
end
section
variable {P:Program} {w:World} {A:Around} {E:Value→Shared→Prop} {s:Shared}
end
section
variable {P:Program} {w:World} {A:Around} {E:Value→Shared→Prop} {s:Shared}
end
def Itz (K:PySem.W.Frag) (p q:Addr) (xs ys:List V):It:=⟨fun i H=>i < xs.length∧SqT K H p xs∧SqT K H q ys,fun i H x H'=>∃ T u v,x=.ref T∧H T=none∧H'=upd H T (.tup [u,v])∧xs[i]?=some u∧ys[i]?=some v,fun i H=>xs.length≤i∧SqT K H p xs∧SqT K H q ys⟩
def iZip (K:PySem.W.Frag) (ta:TA):TI:=fun σ H R=>ta σ H fun vs H1=>∃ p q xs ys,vs=[.ref p,.ref q]∧SqT K H1 p xs∧SqT K H1 q ys∧xs.length=ys.length∧R (Itz K p q xs ys) H1
section
variable {X:Cx}
end
section
variable {σ:St} {H:Hp} {nx:St→Hp→Prop} {B:V→St→Hp→(St→Hp→Prop)→Prop}
end
abbrev cTup (K:PySem.W.Frag):RC:=fun xs H Q=>∃ p ys,xs=[.ref p]∧((SqL K H p ys∧∀ l,H l=none→Q (.ref l) (upd H l (.tup ys)))∨(SqT K H p ys∧Q (.ref p) H))
def stepA (st:List (List V)) (v:V):Option (List (List V)):=if isJ v=true then (match st.reverse with | b :: a :: r=>some (r.reverse ++ [v :: (a ++ b)]) | _=>none) else some (st ++ [[v]])
def runA:List V→List (List V)→Option (List (List V))
  | [],st=>some st
  | v :: r,st=>(stepA st v).bind (runA r)
theorem runA_app:∀ (p q:List V) (st:List (List V)),runA (p ++ q) st=(runA p st).bind (runA q)
  | [],q,st=>rfl
  | v :: r,q,st=>by
    show (stepA st v).bind (runA (r ++ q))=((stepA st v).bind (runA r)).bind (runA q)
    cases stepA st v with
    | none=>rfl
    | some st'=>exact runA_app r q st'
end L2
namespace L2
open PySem PySem.W PyProof.Rows
section
variable {α β:Type} {lt:Nat→Nat→Bool} {n:Nat}
def kOk (lt:Nat→Nat→Bool) (n:Nat):KasT α→(α→Prop)→Prop
  | .ret a,R=>R a
  | .ask i j k,R=>i < n∧j < n∧i≠j∧kOk lt n (k (lt i j)) R
theorem kOk_bind:∀ {t:KasT α} {f:α→KasT β} {R:β→Prop},kOk lt n t (fun a=>kOk lt n (f a) R)→kOk lt n (t.bind f) R
  | .ret _,_,_,h=>h
  | .ask _ _ _,_,_,h=>⟨h.1,h.2.1,h.2.2.1,kOk_bind h.2.2.2⟩
theorem kOk_mono:∀ {t:KasT α} {R R':α→Prop},kOk lt n t R→(∀ a,R a→R' a)→kOk lt n t R'
  | .ret _,_,_,h,m=>m _ h
  | .ask _ _ _,_,_,h,m=>⟨h.1,h.2.1,h.2.2.1,kOk_mono h.2.2.2 m⟩
structure SO (lt:Nat→Nat→Bool) (n:Nat):Prop where
  irr:∀ i,i < n→lt i i=false
  trans:∀ i j k,i < n→j < n→k < n→lt i j=true→lt j k=true→lt i k=true
  tot:∀ i j,i < n→j < n→i≠j→lt i j=false→lt j i=true
def PP (n:Nat) (p:Array Nat):Prop:=p.Perm (List.range n).toArray
def gt (p:Array Nat) (k:Nat):Nat:=p.getD k 0
theorem gt_eq {p:Array Nat} {k:Nat} (h:k < p.size):p[k]?=some (gt p k):=by
  unfold gt
  rw [Array.getD_eq_getD_getElem?,Array.getElem?_eq_getElem h]
  rfl
theorem PP.size {p:Array Nat} (h:PP n p):p.size=n:=by
  have:=h.size_eq
  simpa using this
theorem PP.blt {p:Array Nat} (h:PP n p) {k:Nat} (hk:k < n):gt p k < n:=by
  have hs:=h.size
  have m:gt p k∈p:=Array.mem_of_getElem? (gt_eq (by omega))
  have m2:gt p k∈(List.range n).toArray:=(Array.Perm.mem_iff h).mp m
  simpa using m2
theorem PP.inj {p:Array Nat} (h:PP n p) {i j:Nat} (hi:i < n) (hj:j < n) (e:gt p i=gt p j):i=j:=by
  have hs:=h.size
  have nd:p.toList.Nodup:=by
    have:p.toList.Perm (List.range n):=by
      have:=Array.perm_iff_toList_perm.mp h
      simpa using this
    exact this.nodup_iff.mpr List.nodup_range
  have e1:=gt_eq (p:=p) (k:=i) (by omega)
  have e2:=gt_eq (p:=p) (k:=j) (by omega)
  rw [← e] at e2
  have e1':p.toList[i]?=some (gt p i):=by simpa using e1
  have e2':p.toList[j]?=some (gt p i):=by simpa using e2
  obtain ⟨a1,b1⟩:=List.getElem?_eq_some_iff.mp e1'
  obtain ⟨a2,b2⟩:=List.getElem?_eq_some_iff.mp e2'
  exact (List.getElem_inj nd).mp (b1.trans b2.symm)
def Rise (lt:Nat→Nat→Bool) (p:Array Nat) (m:Nat):Prop:=∀ i j,i < j→j < m→lt (gt p i) (gt p j)=true
theorem place_ok (S:SO lt n) {p:Array Nat} (hp:PP n p) {k:Nat} (hk:k < n) (hr:Rise lt p k):∀ (f l r:Nat),l≤r→r≤k→r - l≤f→(∀ i,i < l→lt (gt p i) (gt p k)=true)→(∀ i,r≤i→i < k→lt (gt p k) (gt p i)=true) →
    kOk lt n (kas_place p k f l r) fun m=>m≤k∧(∀ i,i < m→lt (gt p i) (gt p k)=true)∧∀ i,m≤i→i < k→lt (gt p k) (gt p i)=true
  | 0,l,r,h1,h2,h3,h4,h5=>⟨by omega,h4,fun i hi hik=>h5 i (by omega) hik⟩
  | f + 1,l,r,h1,h2,h3,h4,h5=>by
    unfold kas_place
    by_cases c:l ≥ r
    · rw [if_pos c]
      exact ⟨by omega,h4,fun i hi hik=>h5 i (by omega) hik⟩
    · rw [if_neg c]
      refine ⟨hp.blt (by omega),hp.blt (by omega),(fun z=>by have:=hp.inj (by omega) (by omega) z;omega),?_⟩
      show kOk lt n (if lt (gt p k) (gt p ((l + r) / 2))=true then _ else _) _
      by_cases d:lt (gt p k) (gt p ((l + r) / 2))=true
      · rw [if_pos d]
        refine place_ok S hp hk hr f l ((l + r) / 2) (by omega) (by omega) (by omega) h4 fun i hi hik=>?_
        by_cases e:i=(l + r) / 2
        · rw [e];exact d
        · exact S.trans _ _ _ (hp.blt (by omega)) (hp.blt (by omega)) (hp.blt (by omega)) d (hr _ i (by omega) hik)
      · rw [if_neg d]
        have up:lt (gt p ((l + r) / 2)) (gt p k)=true:=S.tot _ _ (hp.blt (by omega)) (hp.blt (by omega)) (fun z=>by have:=hp.inj (by omega) (by omega) z;omega) (Bool.eq_false_iff.mpr d)
        refine place_ok S hp hk hr f ((l + r) / 2 + 1) r (by omega) (by omega) (by omega) (fun i hi=>?_) h5
        by_cases e:i=(l + r) / 2
        · rw [e];exact up
        · exact S.trans _ _ _ (hp.blt (by omega)) (hp.blt (by omega)) (hp.blt (by omega)) (hr i _ (by omega) (by omega)) up
theorem bub_gt {p:Array Nat} {k d j:Nat} (hk:k < p.size) (hd:d≤k) (hj:j < p.size):gt (bubble p k d) j=if j=k - d then gt p k else if k - d < j∧j≤k then gt p (j - 1) else gt p j:=by
  have e:=getElem?_bubble hk d hd j
  rw [gt_eq (p:=bubble p k d) (k:=j) (by rw [bubble_size];exact hj)] at e
  by_cases h1:j=k - d
  · rw [if_pos h1,gt_eq hk] at e
    rw [if_pos h1];exact Option.some.inj e
  · rw [if_neg h1] at e ⊢
    by_cases h2:k - d < j∧j≤k
    · rw [if_pos h2,gt_eq (by omega)] at e
      rw [if_pos h2];exact Option.some.inj e
    · rw [if_neg h2,gt_eq hj] at e
      rw [if_neg h2];exact Option.some.inj e
end
end L2
namespace L2
open PySem PySem.W PyProof.Rows
abbrev SMZ:=StateT SortSt Sem
def gallopGZ:Bool→Keyed→Array Keyed→Nat→Nat→Nat→SMZ (Option Nat):=sortPriv% PySem.Builtin.gallop
def mergeLoGZ:Array Keyed→Array Keyed→SMZ (Array Keyed):=sortPriv% PySem.Builtin.mergeLo
def mergeHiGZ:Array Keyed→Array Keyed→SMZ (Array Keyed):=sortPriv% PySem.Builtin.mergeHi
def setGalZ (g:Nat):SMZ Unit:=(sortPriv% PySem.Builtin.setMinGallop) g
def beyFZ (left:Bool) (key:Keyed) (arr:Array Keyed) (base:Nat) (i:Nat):SMZ (Option Bool):=do
  let x ← elem' arr (base + i)
  if left then lt' x key else return (← lt' key x).map (!·)
def gBZ (bf:Nat→SMZ (Option Bool)) (n lo hi:Nat):SMZ (Option (Option Nat) × Nat × Nat) :=
  forIn [:n] (none,lo,hi) fun _ z=>if z.2.1 ≥ z.2.2 then pure (.done (none,z.2.1,z.2.2)) else do
    match ← bf (z.2.1 + (z.2.2 - z.2.1) / 2) with
    | some m=>if m=true then pure (.yield (none,z.2.1 + (z.2.2 - z.2.1) / 2 + 1,z.2.2)) else pure (.yield (none,z.2.1,z.2.1 + (z.2.2 - z.2.1) / 2))
    | _=>pure (.done (some none,z.2.1,z.2.2))
def gEZ (bf:Nat→SMZ (Option Bool)) (n lo hi:Nat):SMZ (Option Nat):=do
  let z ← gBZ bf n lo hi
  match z.1 with
  | some r=>pure r
  | none=>pure (some z.2.2)
def gRZ (bf:Nat→SMZ (Option Bool)) (n hint mx:Nat):SMZ (Option (Option Nat) × Nat × Nat) :=
  forIn [:n] (none,0,1) fun _ z=>if z.2.2 ≥ mx then pure (.done (none,z.2.1,z.2.2)) else do
    match ← bf (hint + z.2.2) with
    | some m=>if (!m)=true then pure (.done (none,z.2.1,z.2.2)) else pure (.yield (none,z.2.2,2 * z.2.2 + 1))
    | _=>pure (.done (some none,z.2.1,z.2.2))
def gLZ (bf:Nat→SMZ (Option Bool)) (n hint mx:Nat):SMZ (Option (Option Nat) × Nat × Nat) :=
  forIn [:n] (none,0,1) fun _ z=>if z.2.2 ≥ mx then pure (.done (none,z.2.1,z.2.2)) else do
    match ← bf (hint - z.2.2) with
    | some m=>if m=true then pure (.done (none,z.2.1,z.2.2)) else pure (.yield (none,z.2.2,2 * z.2.2 + 1))
    | _=>pure (.done (some none,z.2.1,z.2.2))
def galFZ (bf:Nat→SMZ (Option Bool)) (n hint:Nat):SMZ (Option Nat):=do
  match ← bf hint with
  | some r=>if r=true then (do
      let z ← gRZ bf n hint (n - hint)
      match z.1 with
      | some r=>pure r
      | none=>gEZ bf n (hint + z.2.1 + 1) (hint + min z.2.2 (n - hint))) else (do
      let z ← gLZ bf n hint (hint + 1)
      match z.1 with
      | some r=>pure r
      | none=>gEZ bf n (hint + 1 - min z.2.2 (hint + 1)) (hint - z.2.1))
  | _=>pure none
theorem gallopG_eqZ (left:Bool) (key:Keyed) (arr:Array Keyed) (base n hint:Nat):gallopGZ left key arr base n hint=galFZ (beyFZ left key arr base) n hint:=by
  have tl:∀ (lo hi:Nat) (f:Option (Option Nat) × Nat × Nat→SMZ (Option Nat)),(∀ z,f z=match z.1 with | some r=>pure r | none=>pure (some z.2.2))→(gBZ (beyFZ left key arr base) n lo hi >>= f)=gEZ (beyFZ left key arr base) n lo hi:=fun lo hi f h=>by
    unfold gEZ
    congr 1
    exact funext h
  unfold galFZ
  show bind _ _=bind _ _
  congr 1
  funext z
  cases z with
  | none=>rfl
  | some r =>
    show ite _ _ _=ite _ _ _
    congr 1
    · show bind _ _=bind _ _
      congr 1
      funext z
      obtain ⟨z1,z2,z3⟩:=z
      cases z1 with
      | some r=>rfl
      | none =>
        refine tl _ _ _ fun z=>?_
        obtain ⟨z1,z2,z3⟩:=z
        cases z1 <;> rfl
    · show bind _ _=bind _ _
      congr 1
      funext z
      obtain ⟨z1,z2,z3⟩:=z
      cases z1 with
      | some r=>rfl
      | none =>
        refine tl _ _ _ fun z=>?_
        obtain ⟨z1,z2,z3⟩:=z
        cases z1 <;> rfl
section
variable {prog:Program} {w:World} {A:Around} {E:Value→Shared→Prop} {s:Shared}
def AsksZ (M:Model) (A:Around) (E:Value→Shared→Prop) (s:Shared) (st:SortSt) (bf:Nat→SMZ (Option Bool)) (b:Nat→Bool) (n:Nat):Prop:=∀ i,i < n→∀ Q:Option Bool→SortSt→Prop,Q (some (b i)) st→wpS M A E s (bf i) Q st
structure CutZ (b:Nat→Bool) (n k:Nat):Prop where
  le:k≤n
  lo:∀ i,i < k→b i=true
  hi:∀ i,k≤i→i < n→b i=false
variable {M:Model} {st:SortSt} {bf:Nat→SMZ (Option Bool)} {b:Nat→Bool} {n:Nat}
theorem wpS_gEZ {lo hi:Nat} {Q:Option Nat→SortSt→Prop} (ha:AsksZ M A E s st bf b n) (mono:∀ i j,i≤j→j < n→b j=true→b i=true) (h1:lo≤hi) (h2:hi≤n) (hl:∀ i,i < lo→b i=true) (hh:∀ i,hi≤i→i < n→b i=false) (q:∀ k,CutZ b n k→Q (some k) st) :
    wpS M A E s (gEZ bf n lo hi) Q st:=by
  unfold gEZ
  refine wpS_bind (wpS_mono (show wpS M A E s (gBZ bf n lo hi) (fun z st'=>st=st'∧z.1=none∧CutZ b n z.2.2) st from ?_) ?_)
  · unfold gBZ
    refine wpS_forRange (fun x z st'=>st=st'∧z.1=none∧z.2.1≤z.2.2∧z.2.2≤n∧(∀ i,i < z.2.1→b i=true)∧(∀ i,z.2.2≤i→i < n→b i=false)∧z.2.2 - z.2.1≤n - x) ?_ ?_ ⟨rfl,rfl,h1,h2,hl,hh,by dsimp only;omega⟩
    · rintro x ⟨r,l,h⟩ st' _ hx ⟨rfl,rfl,a1,a2,a3,a4,a5⟩
      dsimp only at *
      by_cases c:l ≥ h
      · rw [if_pos c]
        exact wpS_pure ⟨rfl,rfl,a2,fun i hi=>a3 i (by dsimp only at hi;omega),a4⟩
      · rw [if_neg c]
        refine wpS_bind (ha _ (by omega) _ ?_)
        dsimp only
        cases e:b (l + (h - l) / 2) with
        | true =>
          rw [if_pos rfl]
          refine wpS_pure ⟨rfl,rfl,by dsimp only;omega,a2,fun i hi=>?_,a4,by dsimp only;omega⟩
          dsimp only at hi
          exact mono i _ (by omega) (by omega) e
        | false =>
          rw [if_neg (by decide)]
          refine wpS_pure ⟨rfl,rfl,by dsimp only;omega,by dsimp only;omega,a3,fun i h1 h2=>?_,by dsimp only;omega⟩
          dsimp only at h1
          cases e2:b i with
          | false=>rfl
          | true=>rw [mono _ i h1 h2 e2] at e;cases e
    · rintro ⟨r,l,h⟩ st' ⟨rfl,rfl,a1,a2,a3,a4,a5⟩
      dsimp only at *
      have:max 0 n=n:=by omega
      exact ⟨rfl,rfl,a2,fun i hi=>a3 i (by omega),a4⟩
  · rintro ⟨r,l,h⟩ st' ⟨rfl,rfl,c⟩
    exact wpS_pure (q _ c)
theorem wpS_galFZ {hint:Nat} {Q:Option Nat→SortSt→Prop} (ha:AsksZ M A E s st bf b n) (mono:∀ i j,i≤j→j < n→b j=true→b i=true) (hn:hint < n) (q:∀ k,CutZ b n k→Q (some k) st) :
    wpS M A E s (galFZ bf n hint) Q st:=by
  unfold galFZ
  refine wpS_bind (ha _ hn _ ?_)
  dsimp only
  cases e:b hint with
  | true =>
    rw [if_pos rfl]
    refine wpS_bind (wpS_mono (show wpS M A E s (gRZ bf n hint (n - hint)) (fun z st'=>st=st'∧z.1=none∧hint + z.2.1 < n∧b (hint + z.2.1)=true∧z.2.1 < z.2.2∧(z.2.2 < n - hint→b (hint + z.2.2)=false)) st from ?_) ?_)
    · unfold gRZ
      refine wpS_forRange (fun x z st'=>st=st'∧z.1=none∧hint + z.2.1 < n∧b (hint + z.2.1)=true∧z.2.1 < z.2.2∧x < z.2.2) ?_ ?_ ⟨rfl,rfl,hn,by simpa using e,by dsimp only;omega,by dsimp only;omega⟩
      · rintro x ⟨r,l,o⟩ st' _ hx ⟨rfl,rfl,a1,a2,a3,a4⟩
        dsimp only at *
        by_cases c:o ≥ n - hint
        · rw [if_pos c]
          exact wpS_pure ⟨rfl,rfl,a1,a2,a3,fun z=>by dsimp only at z;omega⟩
        · rw [if_neg c]
          refine wpS_bind (ha _ (by omega) _ ?_)
          dsimp only
          cases e2:b (hint + o) with
          | true =>
            rw [if_neg (by decide)]
            exact wpS_pure ⟨rfl,rfl,by dsimp only;omega,e2,by dsimp only;omega,by dsimp only;omega⟩
          | false =>
            rw [if_pos (by decide)]
            exact wpS_pure ⟨rfl,rfl,a1,a2,a3,fun _=>e2⟩
      · rintro ⟨r,l,o⟩ st' ⟨rfl,rfl,a1,a2,a3,a4⟩
        dsimp only at *
        exact ⟨rfl,rfl,a1,a2,a3,fun z=>by omega⟩
    · rintro ⟨r,l,o⟩ st' ⟨rfl,rfl,a1,a2,a3,a4⟩
      dsimp only at *
      refine wpS_gEZ ha mono (by omega) (by omega) (fun i hi=>mono i _ (by omega) a1 a2) (fun i h1 h2=>?_) q
      have f:=a4 (by omega)
      cases e2:b i with
      | false=>rfl
      | true=>rw [mono (hint + o) i (by omega) h2 e2] at f;cases f
  | false =>
    rw [if_neg (by decide)]
    refine wpS_bind (wpS_mono (show wpS M A E s (gLZ bf n hint (hint + 1)) (fun z st'=>st=st'∧z.1=none∧z.2.1≤hint∧b (hint - z.2.1)=false∧z.2.1 < z.2.2∧(z.2.2 < hint + 1→b (hint - z.2.2)=true)) st from ?_) ?_)
    · unfold gLZ
      refine wpS_forRange (fun x z st'=>st=st'∧z.1=none∧z.2.1≤hint∧b (hint - z.2.1)=false∧z.2.1 < z.2.2∧x < z.2.2) ?_ ?_ ⟨rfl,rfl,by dsimp only;omega,by simpa using e,by dsimp only;omega,by dsimp only;omega⟩
      · rintro x ⟨r,l,o⟩ st' _ hx ⟨rfl,rfl,a1,a2,a3,a4⟩
        dsimp only at *
        by_cases c:o ≥ hint + 1
        · rw [if_pos c]
          exact wpS_pure ⟨rfl,rfl,a1,a2,a3,fun z=>by dsimp only at z;omega⟩
        · rw [if_neg c]
          refine wpS_bind (ha _ (by omega) _ ?_)
          dsimp only
          cases e2:b (hint - o) with
          | false =>
            rw [if_neg (by decide)]
            exact wpS_pure ⟨rfl,rfl,by dsimp only;omega,e2,by dsimp only;omega,by dsimp only;omega⟩
          | true =>
            rw [if_pos rfl]
            exact wpS_pure ⟨rfl,rfl,a1,a2,a3,fun _=>e2⟩
      · rintro ⟨r,l,o⟩ st' ⟨rfl,rfl,a1,a2,a3,a4⟩
        dsimp only at *
        exact ⟨rfl,rfl,a1,a2,a3,fun z=>by omega⟩
    · rintro ⟨r,l,o⟩ st' ⟨rfl,rfl,a1,a2,a3,a4⟩
      dsimp only at *
      refine wpS_gEZ ha mono (by omega) (by omega) (fun i hi=>?_) (fun i h1 h2=>?_) q
      · by_cases c:o < hint + 1
        · exact mono i _ (by omega) (by omega) (a4 c)
        · omega
      · cases e2:b i with
        | false=>rfl
        | true=>rw [mono (hint - l) i (by omega) h2 e2] at a2;cases a2
end
def imZ (it:Nat→Keyed) (p:List Nat):Array Keyed:=(p.map it).toArray
section
variable {it:Nat→Keyed}
theorem im_sizeZ (p:List Nat):(imZ it p).size=p.length:=by simp [imZ]
theorem im_getZ {p:List Nat} {i x:Nat} (h:p[i]?=some x):(imZ it p)[i]?=some (it x):=by simp [imZ,h]
theorem im_pushZ (p:List Nat) (x:Nat):(imZ it p).push (it x)=imZ it (p ++ [x]):=by simp [imZ]
theorem im_appZ (p q:List Nat):imZ it p ++ imZ it q=imZ it (p ++ q):=by simp [imZ]
theorem im_extZ (p:List Nat) (i j:Nat):(imZ it p).extract i j=imZ it ((p.drop i).take (j - i)):=by simp [imZ,List.map_take,List.map_drop]
theorem im_fromZ (p:List Nat) (i:Nat):(imZ it p).extract i (imZ it p).size=imZ it (p.drop i):=by
  rw [im_extZ,im_sizeZ,List.take_of_length_le (by rw [List.length_drop];omega)]
end
theorem im_fromLZ {it:Nat→Keyed} (p:List Nat) (i:Nat):(imZ it p).extract i p.length=imZ it (p.drop i):=by
  rw [im_extZ,List.take_of_length_le (by rw [List.length_drop];omega)]
structure MIZ (lt:Nat→Nat→Bool) (a b o P Q:List Nat):Prop where
  so:o.Pairwise fun x y=>lt x y=true
  pe:(o ++ P ++ Q).Perm (a ++ b)
  be:∀ x∈o,∀ y∈P ++ Q,lt x y=true
  sp:P.Pairwise fun x y=>lt x y=true
  sq:Q.Pairwise fun x y=>lt x y=true
structure ResZ (lt:Nat→Nat→Bool) (a b m:List Nat):Prop where
  pe:m.Perm (a ++ b)
  so:m.Pairwise fun x y=>lt x y=true
section
variable {lt:Nat→Nat→Bool} {a b o P Q c:List Nat}
theorem MIZ.left (h:MIZ lt a b o (c ++ P) Q) (k:∀ x∈c,∀ y∈Q,lt x y=true):MIZ lt a b (o ++ c) P Q:=by
  have sp:=List.pairwise_append.mp h.sp
  refine ⟨List.pairwise_append.mpr ⟨h.so,sp.1,fun x hx y hy=>h.be x hx y (by simp [hy])⟩,?_,fun x hx y hy=>?_,sp.2.1,h.sq⟩
  · have:=h.pe
    simpa [List.append_assoc] using this
  · rcases List.mem_append.mp hx with hx | hx
    · exact h.be x hx y (by rcases List.mem_append.mp hy with hy | hy <;> simp [hy])
    · rcases List.mem_append.mp hy with hy | hy
      · exact sp.2.2 x hx y hy
      · exact k x hx y hy
theorem MIZ.right (h:MIZ lt a b o P (c ++ Q)) (k:∀ x∈c,∀ y∈P,lt x y=true):MIZ lt a b (o ++ c) P Q:=by
  have sq:=List.pairwise_append.mp h.sq
  refine ⟨List.pairwise_append.mpr ⟨h.so,sq.1,fun x hx y hy=>h.be x hx y (by simp [hy])⟩,?_,fun x hx y hy=>?_,h.sp,sq.2.1⟩
  · refine List.Perm.trans ?_ h.pe
    rw [List.append_assoc,List.append_assoc,List.append_assoc]
    refine List.Perm.append_left _ ?_
    rw [← List.append_assoc,← List.append_assoc]
    exact List.Perm.append_right _ List.perm_append_comm
  · rcases List.mem_append.mp hx with hx | hx
    · exact h.be x hx y (by rcases List.mem_append.mp hy with hy | hy <;> simp [hy])
    · rcases List.mem_append.mp hy with hy | hy
      · exact k x hx y hy
      · exact sq.2.2 x hx y hy
theorem MIZ.len (h:MIZ lt a b o P Q):o.length + P.length + Q.length=a.length + b.length:=by
  have:=h.pe.length_eq
  simp only [List.length_append] at this
  omega
theorem MIZ.end (h:MIZ lt a b o P Q) (k:∀ x∈P,∀ y∈Q,lt x y=true):ResZ lt a b (o ++ P ++ Q) :=
  ⟨h.pe,List.pairwise_append.mpr ⟨List.pairwise_append.mpr ⟨h.so,h.sp,fun x hx y hy=>h.be x hx y (by simp [hy])⟩,h.sq,fun x hx y hy=>by
    rcases List.mem_append.mp hx with hx | hx
    · exact h.be x hx y (by simp [hy])
    · exact k x hx y hy⟩⟩
theorem MIZ.end' (h:MIZ lt a b o P Q) (k:∀ x∈Q,∀ y∈P,lt x y=true):ResZ lt a b (o ++ Q ++ P):=by
  refine ⟨?_,List.pairwise_append.mpr ⟨List.pairwise_append.mpr ⟨h.so,h.sq,fun x hx y hy=>h.be x hx y (by simp [hy])⟩,h.sp,fun x hx y hy=>?_⟩⟩
  · refine List.Perm.trans ?_ h.pe
    rw [List.append_assoc,List.append_assoc]
    exact List.Perm.append_left _ List.perm_append_comm
  · rcases List.mem_append.mp hx with hx | hx
    · exact h.be x hx y (by simp [hy])
    · exact k x hx y hy
theorem MIZ.start (ha:a.Pairwise fun x y=>lt x y=true) (hb:b.Pairwise fun x y=>lt x y=true):MIZ lt a b [] a b:=⟨.nil,by simp,(fun x h=>nomatch h),ha,hb⟩
end
section
variable {prog:Program} {w:World} {A:Around} {E:Value→Shared→Prop} {s:Shared} {κ:SortKind} {it:Nat→Keyed} {lt:Nat→Nat→Bool} {N:Nat}
def CmpAtZ (prog:Program) (w:World) (A:Around) (s:Shared) (κ:SortKind) (it:Nat→Keyed) (lt:Nat→Nat→Bool) (N:Nat):Prop:=∀ i j (C:Bool→Shared→Prop),i < N→j < N→i≠j→C (lt i j) s→wpAny (model prog w) A (keyLt' κ (it i).1 (it j).1) C (fun _ _=>False) s
structure SteZ (κ:SortKind) (st0 st:SortSt):Prop where
  k:kindOf st=κ
  f:failedOf st=none
  a:arrOf st=arrOf st0
  p:pendingOf st=pendingOf st0
theorem wpS_cmpZ {st:SortSt} {i j:Nat} {Q:Option Bool→SortSt→Prop} (hc:CmpAtZ prog w A s κ it lt N) (hk:kindOf st=κ) (hi:i < N) (hj:j < N) (hij:i≠j) (q:Q (some (lt i j)) st):wpS (model prog w) A E s (lt' (it i) (it j)) Q st:=by
  rw [lt'_eq]
  refine wpS_bind (wpS_get ?_)
  rw [hk]
  refine wpS_bind (wpS_lift (wpAny_attempt (wpAny_mono (hc i j (fun b s'=>s'=s∧b=lt i j) hi hj hij ⟨rfl,rfl⟩) (fun b s' h=>?_) fun _ _ h=>h.elim)))
  obtain ⟨rfl,rfl⟩:=h
  exact ⟨rfl,wpS_pure q⟩
theorem wpS_elemZ {M:Model} {st:SortSt} {arr:Array Keyed} {i:Nat} {x:Keyed} {Q:Keyed→SortSt→Prop} (h:arr[i]?=some x) (q:Q x st):wpS M A E s (elem' arr i) Q st:=by
  rw [elem'_eq,h]
  exact wpS_pure q
theorem lt_flipZ (S:SO lt N) {i j:Nat} (hi:i < N) (hj:j < N) (hij:i≠j):(!lt i j)=lt j i:=by
  cases e:lt i j with
  | false=>rw [S.tot i j hi hj hij e];rfl
  | true =>
    cases e2:lt j i with
    | false=>rfl
    | true =>
      have:=S.trans i j i hi hj hi e e2
      rw [S.irr i hi] at this;cases this
theorem wpS_gallopZ {st:SortSt} {left:Bool} {kx base n hint:Nat} {a:List Nat} {Q:Option Nat→SortSt→Prop} (S:SO lt N) (hc:CmpAtZ prog w A s κ it lt N) (hk:kindOf st=κ) (kN:kx < N) (h1:∀ x∈(a.drop base).take n,x < N∧x≠kx) (srt:((a.drop base).take n).Pairwise fun x y=>lt x y=true) (len:base + n≤a.length) (hh:hint < n)
    (q:∀ k,k≤n→(∀ x∈(a.drop base).take k,lt x kx=true)→(∀ x∈((a.drop base).take n).drop k,lt kx x=true)→Q (some k) st) :
    wpS (model prog w) A E s (gallopGZ left (it kx) (imZ it a) base n hint) Q st:=by
  rw [gallopG_eqZ]
  have g:∀ i,i < n→∃ x,a[base + i]?=some x∧x < N∧x≠kx∧((a.drop base).take n)[i]?=some x:=fun i hi=>by
    have e:a[base + i]?=some a[base + i]:=List.getElem?_eq_getElem (by omega)
    have e2:((a.drop base).take n)[i]?=some a[base + i]:=by rw [List.getElem?_take_of_lt hi,List.getElem?_drop,e]
    exact ⟨_,e,(h1 _ (List.mem_of_getElem? e2)).1,(h1 _ (List.mem_of_getElem? e2)).2,e2⟩
  refine wpS_galFZ (b:=fun i=>lt (a.getD (base + i) 0) kx) (fun i hi Q' q'=>?_) (fun i j hij hj hb=>?_) hh fun k c=>?_
  · obtain ⟨x,e,xN,xk,_⟩:=g i hi
    have ed:a.getD (base + i) 0=x:=by rw [List.getD_eq_getElem?_getD,e];rfl
    dsimp only at q'
    rw [ed] at q'
    unfold beyFZ
    refine wpS_bind (wpS_elemZ (im_getZ e) ?_)
    cases left with
    | true =>
      rw [if_pos rfl]
      exact wpS_cmpZ hc hk xN kN xk q'
    | false =>
      rw [if_neg (by decide)]
      refine wpS_bind (wpS_cmpZ hc hk kN xN (Ne.symm xk) (wpS_pure ?_))
      show Q' (some (!lt kx x)) st
      rw [lt_flipZ S kN xN (Ne.symm xk)]
      exact q'
  · obtain ⟨x,e,xN,xk,ex⟩:=g i (by omega)
    obtain ⟨y,e',yN,yk,ey⟩:=g j hj
    have ed:a.getD (base + i) 0=x:=by rw [List.getD_eq_getElem?_getD,e];rfl
    have ed':a.getD (base + j) 0=y:=by rw [List.getD_eq_getElem?_getD,e'];rfl
    rw [ed'] at hb
    rw [ed]
    by_cases c:i=j
    · subst c;rw [e] at e';cases e';exact hb
    · have l:=(List.getElem?_eq_some_iff.mp ex)
      have l':=(List.getElem?_eq_some_iff.mp ey)
      have:=List.pairwise_iff_getElem.mp srt i j l.1 l'.1 (by omega)
      rw [l.2,l'.2] at this
      exact S.trans _ _ _ xN yN kN this hb
  · refine q k c.le (fun x hx=>?_) fun x hx=>?_
    · obtain ⟨i,hi⟩:=List.getElem?_of_mem hx
      have il:=(List.getElem?_eq_some_iff.mp hi).1
      rw [List.length_take] at il
      rw [List.getElem?_take_of_lt (by omega),List.getElem?_drop] at hi
      have:=c.lo i (by omega)
      rw [List.getD_eq_getElem?_getD,hi] at this
      exact this
    · obtain ⟨i,hi⟩:=List.getElem?_of_mem hx
      rw [List.getElem?_drop] at hi
      have il:=(List.getElem?_eq_some_iff.mp hi).1
      have kl:=c.le
      rw [List.length_take,List.length_drop] at il
      obtain ⟨y,e,yN,yk,ey⟩:=g (k + i) (by omega)
      rw [ey] at hi
      cases hi
      have:=c.hi (k + i) (by omega) (by omega)
      rw [List.getD_eq_getElem?_getD,e] at this
      exact S.tot x kx yN kN yk this
end
end L2
namespace L2
open PySem PySem.W PyProof.Rows
section
variable {prog:Program} {w:World} {A:Around} {E:Value→Shared→Prop} {s:Shared} {κ:SortKind} {it:Nat→Keyed} {lt:Nat→Nat→Bool} {N:Nat}
structure MPreZ (lt:Nat→Nat→Bool) (N:Nat) (a b:List Nat):Prop where
  sa:a.Pairwise fun x y=>lt x y=true
  sb:b.Pairwise fun x y=>lt x y=true
  nA:∀ x∈a,x < N
  nB:∀ x∈b,x < N
  dj:∀ x∈a,∀ y∈b,x≠y
  la:0 < a.length
  lb:0 < b.length
  hd:∀ y∈a,lt (b.getD 0 0) y=true
  tl:∀ x∈b,lt x (a.getD (a.length - 1) 0)=true
variable {a b:List Nat}
theorem drop_consZ {l:List Nat} {i x:Nat} (h:l[i]?=some x):l.drop i=[x] ++ l.drop (i + 1):=by
  obtain ⟨hl,rfl⟩:=List.getElem?_eq_some_iff.mp h
  rw [List.drop_eq_getElem_cons hl];rfl
theorem drop_moreZ {l:List Nat} (i k:Nat):l.drop i=(l.drop i).take k ++ l.drop (i + k):=by
  rw [← List.drop_drop,List.take_append_drop]
theorem drop_memZ {l:List Nat} {i x:Nat} (h:x∈l.drop i):x∈l:=List.mem_of_mem_drop h
theorem MPreZ.last (P:MPreZ lt N a b) {ia ib:Nat} (h:ia + 1=a.length):∀ x∈b.drop ib,∀ y∈a.drop ia,lt x y=true:=by
  intro x hx y hy
  have e:a.drop ia=[a.getD (a.length - 1) 0]:=by
    have g:a[ia]?=some a[ia]:=List.getElem?_eq_getElem (by omega)
    rw [drop_consZ g,List.drop_eq_nil_of_le (by omega)]
    have:a.getD (a.length - 1) 0=a[ia]:=by rw [List.getD_eq_getElem?_getD,show a.length - 1=ia by omega,g];rfl
    rw [this];rfl
  rw [e,List.mem_singleton] at hy
  rw [hy]
  exact P.tl x (drop_memZ hx)
theorem head_belowZ (S:SO lt N) {l:List Nat} {i x y:Nat} (sl:l.Pairwise fun x y=>lt x y=true) (nl:∀ x∈l,x < N) (hx:l[i]?=some x) (yN:y < N) (h:lt y x=true):∀ z∈l.drop i,lt y z=true:=by
  intro z hz
  rw [drop_consZ hx] at hz
  rcases List.mem_append.mp hz with hz | hz
  · rw [List.mem_singleton.mp hz];exact h
  · have xl:=List.mem_of_getElem? hx
    refine S.trans y x z yN (nl x xl) (nl z (drop_memZ hz)) h ?_
    obtain ⟨k,hk⟩:=List.getElem?_of_mem hz
    rw [List.getElem?_drop] at hk
    obtain ⟨l1,e1⟩:=List.getElem?_eq_some_iff.mp hx
    obtain ⟨l2,e2⟩:=List.getElem?_eq_some_iff.mp hk
    have:=List.pairwise_iff_getElem.mp sl i (i + 1 + k) l1 l2 (by omega)
    rw [e1,e2] at this
    exact this
structure WayZ (lt:Nat→Nat→Bool) (a b o:List Nat) (ia ib:Nat):Prop where
  m:MIZ lt a b o (a.drop ia) (b.drop ib)
  ha:ia + 1 < a.length
  hb:ib < b.length
theorem WayZ.len {o:List Nat} {ia ib:Nat} (W:WayZ lt a b o ia ib):o.length < a.length + b.length:=by
  have:=W.m.len
  have h1:=W.ha
  have h2:=W.hb
  rw [List.length_drop,List.length_drop] at this
  omega
def FinZ (κ:SortKind) (it:Nat→Keyed) (lt:Nat→Nat→Bool) (a b:List Nat) (st0:SortSt) (r:Option (Array Keyed)) (st:SortSt):Prop:=∃ m,r=some (imZ it m)∧ResZ lt a b m∧SteZ κ st0 st
abbrev LoSZ:=Option (Array Keyed) × Array Keyed × Nat × Nat × Nat × Nat × Nat
def loT2Z (a b:Array Keyed) (mg ac bc:Nat) (out:Array Keyed) (ia ib:Nat):SMZ (ForInStep LoSZ):=do
  let x ← elem' a ia
  if (ia + 1 + 1 == a.size)=true then pure (.done (some (out.push x ++ b.extract ib b.size ++ a.extract (ia + 1) a.size),out.push x,ia + 1,ib,mg,ac,bc))
  else if (decide (ac < 7) && decide (bc < 7))=true then pure (.done (none,out.push x,ia + 1,ib,mg,ac,bc))
  else pure (.yield (none,out.push x,ia + 1,ib,mg,ac,bc))
def loT1Z (a b:Array Keyed) (mg ac bc:Nat) (out:Array Keyed) (ia ib:Nat):SMZ (ForInStep LoSZ):=do
  let x ← elem' b ib
  if (ib + 1 == b.size)=true then pure (.done (some (out.push x ++ a.extract ia a.size ++ b.extract (ib + 1) b.size),out.push x,ia,ib + 1,mg,ac,bc))
  else do
    let y ← elem' a ia
    match ← gallopGZ true y b (ib + 1) (b.size - (ib + 1)) 0 with
    | some k=>if k > 0 then (if (ib + 1 + k == b.size)=true then pure (.done (some (out.push x ++ b.extract (ib + 1) (ib + 1 + k) ++ a.extract ia a.size ++ b.extract (ib + 1 + k) b.size),out.push x ++ b.extract (ib + 1) (ib + 1 + k),ia,ib + 1 + k,mg,ac,k)) else loT2Z a b mg ac k (out.push x ++ b.extract (ib + 1) (ib + 1 + k)) ia (ib + 1 + k)) else loT2Z a b mg ac k (out.push x) ia (ib + 1)
    | _=>pure (.done (some (out.push x ++ a.extract ia a.size ++ b.extract (ib + 1) b.size),out.push x,ia,ib + 1,mg,ac,bc))
def LoQZ (κ:SortKind) (it:Nat→Keyed) (lt:Nat→Nat→Bool) (a b:List Nat) (st0:SortSt) (n:Nat) (r:ForInStep LoSZ) (st:SortSt):Prop:=match r with
  | .done c=>FinZ κ it lt a b st0 c.1 st∨∃ o ia ib mg ac bc,c=(none,imZ it o,ia,ib,mg,ac,bc)∧WayZ lt a b o ia ib∧n < o.length∧SteZ κ st0 st
  | .yield c=>∃ o ia ib mg ac bc,c=(none,imZ it o,ia,ib,mg,ac,bc)∧WayZ lt a b o ia ib∧n < o.length∧SteZ κ st0 st
theorem wpS_loT2Z {st0 st:SortSt} {mg ac bc ia ib n xa xb:Nat} {o:List Nat} (S:SO lt N) (P:MPreZ lt N a b) (k:SteZ κ st0 st) (m:MIZ lt a b o (a.drop ia) (b.drop ib)) (ha:ia + 1 < a.length) (ga:a[ia]?=some xa) (gb:b[ib]?=some xb) (e:lt xa xb=true) (hn:n≤o.length) :
    wpS (model prog w) A E s (loT2Z (imZ it a) (imZ it b) mg ac bc (imZ it o) ia ib) (LoQZ κ it lt a b st0 n) st:=by
  have mb:=List.mem_of_getElem? gb
  have ma:=List.mem_of_getElem? ga
  have lb:=(List.getElem?_eq_some_iff.mp gb).1
  unfold loT2Z
  refine wpS_bind (wpS_elemZ (im_getZ ga) ?_)
  rw [im_pushZ,im_fromZ,im_fromZ]
  have M2:MIZ lt a b (o ++ [xa]) (a.drop (ia + 1)) (b.drop ib):=by
    rw [drop_consZ ga] at m
    exact m.left fun x hx z hz=>by rw [List.mem_singleton.mp hx];exact head_belowZ S P.sb P.nB gb (P.nA _ ma) e z hz
  by_cases d1:(ia + 1 + 1 == (imZ it a).size)=true
  · rw [if_pos d1]
    rw [im_sizeZ] at d1
    refine wpS_pure (.inl ⟨_,?_,M2.end' (P.last (by simpa using d1)),k⟩)
    rw [im_appZ,im_appZ]
  · rw [if_neg d1]
    rw [im_sizeZ] at d1
    have d1':ia + 1 + 1≠a.length:=by simpa using d1
    have W2:WayZ lt a b (o ++ [xa]) (ia + 1) ib:=⟨M2,by omega,lb⟩
    by_cases d2:(decide (ac < 7) && decide (bc < 7))=true
    · rw [if_pos d2]
      exact wpS_pure (.inr ⟨_,_,_,_,_,_,rfl,W2,by simp;omega,k⟩)
    · rw [if_neg d2]
      exact wpS_pure ⟨_,_,_,_,_,_,rfl,W2,by simp;omega,k⟩
theorem wpS_loT1Z {st0 st:SortSt} {mg ac bc ia ib n xa xb:Nat} {o:List Nat} (S:SO lt N) (hc:CmpAtZ prog w A s κ it lt N) (P:MPreZ lt N a b) (k:SteZ κ st0 st) (m:MIZ lt a b o (a.drop ia) (b.drop ib)) (ha:ia + 1 < a.length) (ga:a[ia]?=some xa) (gb:b[ib]?=some xb) (e:lt xb xa=true) (hn:n≤o.length) :
    wpS (model prog w) A E s (loT1Z (imZ it a) (imZ it b) mg ac bc (imZ it o) ia ib) (LoQZ κ it lt a b st0 n) st:=by
  have mb:=List.mem_of_getElem? gb
  have ma:=List.mem_of_getElem? ga
  have lb:=(List.getElem?_eq_some_iff.mp gb).1
  unfold loT1Z
  refine wpS_bind (wpS_elemZ (im_getZ gb) ?_)
  rw [im_pushZ,im_fromZ,im_fromZ,im_sizeZ]
  have M2:MIZ lt a b (o ++ [xb]) (a.drop ia) (b.drop (ib + 1)):=by
    rw [drop_consZ gb] at m
    exact m.right fun x hx z hz=>by rw [List.mem_singleton.mp hx];exact head_belowZ S P.sa P.nA ga (P.nB _ mb) e z hz
  by_cases d1:(ib + 1 == b.length)=true
  · rw [if_pos d1]
    have d1':ib + 1=b.length:=by simpa using d1
    refine wpS_pure (.inl ⟨_,?_,M2.end (fun x _ y hy=>by rw [d1',List.drop_length] at hy;cases hy),k⟩)
    rw [im_appZ,im_appZ]
  · rw [if_neg d1]
    have d1':ib + 1≠b.length:=by simpa using d1
    refine wpS_bind (wpS_elemZ (im_getZ ga) ?_)
    have tk:(b.drop (ib + 1)).take (b.length - (ib + 1))=b.drop (ib + 1):=List.take_of_length_le (by rw [List.length_drop];omega)
    refine wpS_bind (wpS_gallopZ S hc k.k (P.nA _ ma) (fun x hx=>?_) ?_ (by omega) (by omega) fun j hj lo hi=>?_)
    · rw [tk] at hx;exact ⟨P.nB _ (drop_memZ hx),Ne.symm (P.dj _ ma _ (drop_memZ hx))⟩
    · rw [tk];exact M2.sq
    · rw [tk] at hi
      dsimp only
      -- what is taken of b
      have M3:MIZ lt a b (o ++ [xb] ++ (b.drop (ib + 1)).take j) (a.drop ia) (b.drop (ib + 1 + j)):=by
        rw [drop_moreZ (ib + 1) j] at M2
        exact M2.right fun x hx z hz=>head_belowZ S P.sa P.nA ga (P.nB _ (drop_memZ (List.mem_of_mem_take hx))) (lo x hx) z hz
      have nx:ib + 1 + j < b.length→∃ y,b[ib + 1 + j]?=some y∧lt xa y=true:=fun h=>by
        refine ⟨b[ib + 1 + j],List.getElem?_eq_getElem h,hi _ ?_⟩
        rw [List.drop_drop]
        have g:b[ib + 1 + j]?=some b[ib + 1 + j]:=List.getElem?_eq_getElem h
        rw [drop_consZ g];exact List.mem_append_left _ (List.mem_singleton_self _)
      by_cases z:j > 0
      · rw [if_pos z,im_extZ,show ib + 1 + j - (ib + 1)=j by omega,im_appZ]
        by_cases d2:(ib + 1 + j == b.length)=true
        · rw [if_pos d2]
          have d2':ib + 1 + j=b.length:=by simpa using d2
          refine wpS_pure (.inl ⟨_,?_,M3.end (fun x _ y hy=>by rw [d2',List.drop_length] at hy;cases hy),k⟩)
          rw [im_fromLZ,im_appZ,im_appZ]
        · rw [if_neg d2]
          have d2':ib + 1 + j≠b.length:=by simpa using d2
          obtain ⟨y,gy,ly⟩:=nx (by omega)
          exact wpS_loT2Z S P k M3 ha ga gy ly (by simp;omega)
      · rw [if_neg z]
        obtain rfl:j=0:=by omega
        obtain ⟨y,gy,ly⟩:=nx (by omega)
        exact wpS_loT2Z S P k M2 ha ga gy ly (by simp;omega)
theorem wpS_mergeLoZ {st:SortSt} {Q:Array Keyed→SortSt→Prop} (S:SO lt N) (hc:CmpAtZ prog w A s κ it lt N) (hk:SteZ κ st st) (P:MPreZ lt N a b) (q:∀ m st',ResZ lt a b m→SteZ κ st st'→Q (imZ it m) st') :
    wpS (model prog w) A E s (mergeLoGZ (imZ it a) (imZ it b)) Q st:=by
  refine wpS_bind (wpS_lift (wpAny_rule ⟨rfl,?_⟩))
  have b0:b[0]?=some (b.getD 0 0):=by rw [List.getD_eq_getElem?_getD,List.getElem?_eq_getElem P.lb];rfl
  refine wpS_bind (wpS_elemZ (im_getZ b0) ?_)
  have M0:MIZ lt a b [b.getD 0 0] a (b.drop 1):=by
    have:=MIZ.start P.sa P.sb
    have e:=drop_consZ b0
    rw [List.drop_zero] at e
    have h2:MIZ lt a b [] a ([b.getD 0 0] ++ b.drop 1):=by rw [← e];exact this
    exact h2.right fun x hx y hy=>by rw [List.mem_singleton.mp hx];exact P.hd y hy
  have o0:(#[it (b.getD 0 0)]:Array Keyed)=imZ it [b.getD 0 0]:=rfl
  rw [o0]
  have eA:∀ i,(imZ it a).extract i (imZ it a).size=imZ it (a.drop i):=im_fromZ a
  have eB:∀ i,(imZ it b).extract i (imZ it b).size=imZ it (b.drop i):=im_fromZ b
  have sA:=im_sizeZ (it:=it) a
  have sB:=im_sizeZ (it:=it) b
  -- the ways in which it may end
  have endB:∀ {o:List Nat} {ia ib:Nat},MIZ lt a b o (a.drop ia) (b.drop ib)→ib=b.length→ResZ lt a b (o ++ a.drop ia ++ b.drop ib):=fun m e=>m.end fun x hx y hy=>by rw [e,List.drop_length] at hy;cases hy
  have endA:∀ {o:List Nat} {ia ib:Nat},MIZ lt a b o (a.drop ia) (b.drop ib)→ia=a.length→ResZ lt a b (o ++ a.drop ia ++ b.drop ib):=fun m e=>m.end fun x hx y hy=>by rw [e,List.drop_length] at hx;cases hx
  have endL:∀ {o:List Nat} {ia ib:Nat},MIZ lt a b o (a.drop ia) (b.drop ib)→ia + 1=a.length→ResZ lt a b (o ++ b.drop ib ++ a.drop ia):=fun m e=>m.end' (P.last e)
  have big:∀ {o:List Nat} {ia ib:Nat},imZ it o ++ imZ it (a.drop ia) ++ imZ it (b.drop ib)=imZ it (o ++ a.drop ia ++ b.drop ib):=by intros;rw [im_appZ,im_appZ]
  have big':∀ {o:List Nat} {ia ib:Nat},imZ it o ++ imZ it (b.drop ib) ++ imZ it (a.drop ia)=imZ it (o ++ b.drop ib ++ a.drop ia):=by intros;rw [im_appZ,im_appZ]
  have M0':MIZ lt a b [b.getD 0 0] (a.drop 0) (b.drop 1):=by rw [List.drop_zero];exact M0
  by_cases c1:(1 == (imZ it b).size)=true
  · rw [if_pos c1]
    refine wpS_pure ?_
    dsimp only
    rw [eA,eB,big]
    exact q _ _ (endB M0' (by rw [← sB];simpa using c1)) hk
  · rw [if_neg c1]
    by_cases c2:(0 + 1 == (imZ it a).size)=true
    · rw [if_pos c2]
      refine wpS_pure ?_
      dsimp only
      rw [eA,eB,big']
      exact q _ _ (endL M0' (by rw [← sA];simpa using c2)) hk
    · rw [if_neg c2]
      have n1:1≠b.length:=by rw [← sB];simpa using c1
      have n2:1≠a.length:=by rw [← sA];simpa using c2
      have W0:WayZ lt a b [b.getD 0 0] 0 1:=⟨M0',by have:=P.la;omega,by have:=P.lb;omega⟩
      refine wpS_bind (wpS_get ?_)
      refine wpS_bind (wpS_mono (wpS_forRange (fun x c st'=>∃ o ia ib mg,c=(none,imZ it o,ia,ib,mg)∧WayZ lt a b o ia ib∧x < o.length∧SteZ κ st st') (Q:=fun c st'=>FinZ κ it lt a b st c.1 st') ?step ?fin ⟨[b.getD 0 0],0,1,_,rfl,W0,by simp,hk⟩) ?post)
      case post =>
        rintro c st' ⟨m,e,r,k⟩
        obtain ⟨r1,c⟩:=c
        dsimp only at e
        subst e
        exact wpS_pure (q m st' r k)
      case fin =>
        rintro c st' ⟨o,ia,ib,mg,rfl,W,hx,k⟩
        have:=W.len
        rw [sA,sB] at hx
        omega
      case step =>
        rintro x c st' _ hx ⟨o,ia,ib,mg,rfl,W,hxo,k⟩
        dsimp only
        refine wpS_bind (wpS_mono (wpS_forRange (fun y c st2=>∃ o' ia' ib' ac bc,c=(none,imZ it o',ia',ib',ac,bc)∧WayZ lt a b o' ia' ib'∧o.length + y≤o'.length∧SteZ κ st st2) (Q:=fun c st2=>FinZ κ it lt a b st c.1 st2∨∃ o' ia' ib' ac bc,c=(none,imZ it o',ia',ib',ac,bc)∧WayZ lt a b o' ia' ib'∧o.length + 1≤o'.length∧SteZ κ st st2) ?step1 ?fin1 ⟨o,ia,ib,0,0,rfl,W,Nat.le_refl _,k⟩) ?post1)
        case fin1 =>
          rintro c st2 ⟨o',ia',ib',ac,bc,rfl,W',hl,k'⟩
          have:=W'.len
          rw [sA,sB] at hl
          omega
        case step1 =>
          rintro y c st2 _ hy ⟨o',ia',ib',ac,bc,rfl,W',hl,k'⟩
          dsimp only
          obtain ⟨xb,gb⟩:∃ xb,b[ib']?=some xb:=⟨_,List.getElem?_eq_getElem W'.hb⟩
          obtain ⟨xa,ga⟩:∃ xa,a[ia']?=some xa:=⟨_,List.getElem?_eq_getElem (by have:=W'.ha;omega)⟩
          have mb:=List.mem_of_getElem? gb
          have ma:=List.mem_of_getElem? ga
          refine wpS_bind (wpS_elemZ (im_getZ gb) (wpS_bind (wpS_elemZ (im_getZ ga) (wpS_bind (wpS_cmpZ hc k'.k (P.nB _ mb) (P.nA _ ma) (Ne.symm (P.dj _ ma _ mb)) ?_)))))
          have M1:=W'.m
          cases e:lt xb xa with
          | true =>
            dsimp only
            rw [if_pos rfl]
            refine wpS_bind (wpS_elemZ (im_getZ gb) ?_)
            rw [im_pushZ]
            have M2:MIZ lt a b (o' ++ [xb]) (a.drop ia') (b.drop (ib' + 1)):=by
              rw [drop_consZ gb] at M1
              exact M1.right fun x hx z hz=>by rw [List.mem_singleton.mp hx];exact head_belowZ S P.sa P.nA ga (P.nB _ mb) e z hz
            by_cases d1:(ib' + 1 == (imZ it b).size)=true
            · rw [if_pos d1]
              refine wpS_pure (.inl ⟨_,?_,endB M2 (by rw [← sB];simpa using d1),k'⟩)
              rw [eA,eB,big]
            · rw [if_neg d1]
              have d1':ib' + 1≠b.length:=by rw [← sB];simpa using d1
              have hb':=W'.hb
              have W2:WayZ lt a b (o' ++ [xb]) ia' (ib' + 1):=⟨M2,W'.ha,by omega⟩
              by_cases d2:bc + 1 ≥ mg
              · rw [if_pos d2]
                exact wpS_pure (.inr ⟨_,_,_,_,_,rfl,W2,by simp;omega,k'⟩)
              · rw [if_neg d2]
                exact wpS_pure ⟨_,_,_,_,_,rfl,W2,by simp;omega,k'⟩
          | false =>
            dsimp only
            rw [if_neg (by decide)]
            refine wpS_bind (wpS_elemZ (im_getZ ga) ?_)
            rw [im_pushZ]
            have e':=S.tot _ _ (P.nB _ mb) (P.nA _ ma) (Ne.symm (P.dj _ ma _ mb)) e
            have M2:MIZ lt a b (o' ++ [xa]) (a.drop (ia' + 1)) (b.drop ib'):=by
              rw [drop_consZ ga] at M1
              exact M1.left fun x hx z hz=>by rw [List.mem_singleton.mp hx];exact head_belowZ S P.sb P.nB gb (P.nA _ ma) e' z hz
            by_cases d1:(ia' + 1 + 1 == (imZ it a).size)=true
            · rw [if_pos d1]
              refine wpS_pure (.inl ⟨_,?_,endL M2 (by rw [← sA];simpa using d1),k'⟩)
              rw [eA,eB,big']
            · rw [if_neg d1]
              have d1':ia' + 1 + 1≠a.length:=by rw [← sA];simpa using d1
              have ha':=W'.ha
              have W2:WayZ lt a b (o' ++ [xa]) (ia' + 1) ib':=⟨M2,by omega,W'.hb⟩
              by_cases d2:ac + 1 ≥ mg
              · rw [if_pos d2]
                exact wpS_pure (.inr ⟨_,_,_,_,_,rfl,W2,by simp;omega,k'⟩)
              · rw [if_neg d2]
                exact wpS_pure ⟨_,_,_,_,_,rfl,W2,by simp;omega,k'⟩
        case post1 =>
          rintro c st2 (⟨m,e,r,k'⟩ | ⟨o',ia',ib',ac,bc,rfl,W',hl,k'⟩)
          · obtain ⟨r1,c⟩:=c
            dsimp only at e
            subst e
            exact wpS_pure ⟨m,rfl,r,k'⟩
          · dsimp only
            refine wpS_bind (wpS_lift (wpAny_rule ⟨rfl,?_⟩))
            refine wpS_bind (wpS_mono (wpS_forRange (fun y c st3=>∃ o2 ia2 ib2 mg2 ac2 bc2,c=(none,imZ it o2,ia2,ib2,mg2,ac2,bc2)∧WayZ lt a b o2 ia2 ib2∧o.length + 1 + y≤o2.length∧SteZ κ st st3) (Q:=fun c st3=>FinZ κ it lt a b st c.1 st3∨∃ o2 ia2 ib2 mg2 ac2 bc2,c=(none,imZ it o2,ia2,ib2,mg2,ac2,bc2)∧WayZ lt a b o2 ia2 ib2∧o.length < o2.length∧SteZ κ st st3) ?step2 ?fin2 ⟨o',ia',ib',_,ac,bc,rfl,W',hl,k'⟩) ?post2)
            case fin2 =>
              rintro c st3 ⟨o2,ia2,ib2,mg2,ac2,bc2,rfl,W2,hl2,k2⟩
              have:=W2.len
              rw [sA,sB] at hl2
              omega
            case step2 =>
              rintro y c st3 _ hy ⟨o2,ia2,ib2,mg2,ac2,bc2,rfl,W2,hl2,k2⟩
              dsimp only
              obtain ⟨xb,gb⟩:∃ xb,b[ib2]?=some xb:=⟨_,List.getElem?_eq_getElem W2.hb⟩
              have mb:=List.mem_of_getElem? gb
              have ha2:=W2.ha
              have go:∀ g:Nat,wpS (model prog w) A E s (do
                  setGalZ g
                  let u ← elem' (imZ it b) ib2
                  match ← gallopGZ false u (imZ it a) ia2 ((imZ it a).size - ia2) 0 with
                  | some k=>if k > 0 then (if (ia2 + k + 1 == (imZ it a).size)=true then pure (.done (some (imZ it o2 ++ (imZ it a).extract ia2 (ia2 + k) ++ (imZ it b).extract ib2 (imZ it b).size ++ (imZ it a).extract (ia2 + k) (imZ it a).size),imZ it o2 ++ (imZ it a).extract ia2 (ia2 + k),ia2 + k,ib2,g,k,bc2)) else if (ia2 + k == (imZ it a).size)=true then pure (.done (some (imZ it o2 ++ (imZ it a).extract ia2 (ia2 + k) ++ (imZ it a).extract (ia2 + k) (imZ it a).size ++ (imZ it b).extract ib2 (imZ it b).size),imZ it o2 ++ (imZ it a).extract ia2 (ia2 + k),ia2 + k,ib2,g,k,bc2)) else loT1Z (imZ it a) (imZ it b) g k bc2 (imZ it o2 ++ (imZ it a).extract ia2 (ia2 + k)) (ia2 + k) ib2) else loT1Z (imZ it a) (imZ it b) g k bc2 (imZ it o2) ia2 ib2
                  | _=>pure (.done (some (imZ it o2 ++ (imZ it a).extract ia2 (imZ it a).size ++ (imZ it b).extract ib2 (imZ it b).size),imZ it o2,ia2,ib2,g,ac2,bc2)):SMZ (ForInStep LoSZ)) (LoQZ κ it lt a b st (o.length + 1 + y)) st3:=by
                intro g
                refine wpS_bind (wpS_modify ?_)
                have k3:SteZ κ st (SortSt.mk' (kindOf st3) (arrOf st3) (pendingOf st3) g (failedOf st3)):=⟨k2.k,k2.f,k2.a,k2.p⟩
                refine wpS_bind (wpS_elemZ (im_getZ gb) ?_)
                rw [im_sizeZ]
                have tk:(a.drop ia2).take (a.length - ia2)=a.drop ia2:=List.take_of_length_le (by rw [List.length_drop];omega)
                refine wpS_bind (wpS_gallopZ S hc k3.k (P.nB _ mb) (fun x hx=>?_) ?_ (by omega) (by omega) fun j hj lo hi=>?_)
                · rw [tk] at hx;exact ⟨P.nA _ (drop_memZ hx),P.dj _ (drop_memZ hx) _ mb⟩
                · rw [tk];exact W2.m.sp
                · rw [tk] at hi
                  dsimp only
                  have M3:MIZ lt a b (o2 ++ (a.drop ia2).take j) (a.drop (ia2 + j)) (b.drop ib2):=by
                    have m:=W2.m
                    rw [drop_moreZ ia2 j] at m
                    exact m.left fun x hx z hz=>head_belowZ S P.sb P.nB gb (P.nA _ (drop_memZ (List.mem_of_mem_take hx))) (lo x hx) z hz
                  have nx:ia2 + j < a.length→∃ z,a[ia2 + j]?=some z∧lt xb z=true:=fun h=>by
                    refine ⟨a[ia2 + j],List.getElem?_eq_getElem h,hi _ ?_⟩
                    rw [List.drop_drop]
                    have g:a[ia2 + j]?=some a[ia2 + j]:=List.getElem?_eq_getElem h
                    rw [drop_consZ g];exact List.mem_append_left _ (List.mem_singleton_self _)
                  by_cases z:j > 0
                  · rw [if_pos z,im_extZ,show ia2 + j - ia2=j by omega,im_appZ,im_fromLZ,eB]
                    by_cases d1:(ia2 + j + 1 == a.length)=true
                    · rw [if_pos d1]
                      refine wpS_pure (.inl ⟨_,?_,endL M3 (by simpa using d1),k3⟩)
                      rw [im_appZ,im_appZ]
                    · rw [if_neg d1]
                      have d1':ia2 + j + 1≠a.length:=by simpa using d1
                      by_cases d2:(ia2 + j == a.length)=true
                      · rw [if_pos d2]
                        refine wpS_pure (.inl ⟨_,?_,endA M3 (by simpa using d2),k3⟩)
                        rw [im_appZ,im_appZ]
                      · rw [if_neg d2]
                        have d2':ia2 + j≠a.length:=by simpa using d2
                        obtain ⟨z,gz,lz⟩:=nx (by omega)
                        exact wpS_loT1Z S hc P k3 M3 (by omega) gz gb lz (by simp;omega)
                  · rw [if_neg z]
                    obtain rfl:j=0:=by omega
                    obtain ⟨z,gz,lz⟩:=nx (by omega)
                    exact wpS_loT1Z S hc P k3 W2.m ha2 gz gb lz (by omega)
              have fitD:∀ c' st4,LoQZ κ it lt a b st (o.length + 1 + y) (.done c') st4→FinZ κ it lt a b st c'.1 st4∨∃ o2 ia2 ib2 mg2 ac2 bc2,c'=(none,imZ it o2,ia2,ib2,mg2,ac2,bc2)∧WayZ lt a b o2 ia2 ib2∧o.length < o2.length∧SteZ κ st st4:=by
                intro c st4 h
                rcases h with h | ⟨o3,ia3,ib3,mg3,ac3,bc3,e,W3,l3,k4⟩
                · exact .inl h
                · exact .inr ⟨o3,ia3,ib3,mg3,ac3,bc3,e,W3,by omega,k4⟩
              have fitY:∀ c' st4,LoQZ κ it lt a b st (o.length + 1 + y) (.yield c') st4→∃ o2 ia2 ib2 mg2 ac2 bc2,c'=(none,imZ it o2,ia2,ib2,mg2,ac2,bc2)∧WayZ lt a b o2 ia2 ib2∧o.length + 1 + (y + 1)≤o2.length∧SteZ κ st st4:=by
                intro c st4 h
                obtain ⟨o3,ia3,ib3,mg3,ac3,bc3,e,W3,l3,k4⟩:=h
                exact ⟨o3,ia3,ib3,mg3,ac3,bc3,e,W3,by omega,k4⟩
              by_cases d:mg2 > 1
              · rw [if_pos d]
                exact wpS_mono (go (mg2 - 1)) fun r st4 h=>by cases r with | done c=>exact fitD _ _ h | yield c=>exact fitY _ _ h
              · rw [if_neg d]
                exact wpS_mono (go mg2) fun r st4 h=>by cases r with | done c=>exact fitD _ _ h | yield c=>exact fitY _ _ h
            case post2 =>
              rintro c st3 (⟨m,e,r,k2⟩ | ⟨o2,ia2,ib2,mg2,ac2,bc2,rfl,W2,hl2,k2⟩)
              · obtain ⟨r1,c⟩:=c
                dsimp only at e
                subst e
                exact wpS_pure ⟨m,rfl,r,k2⟩
              · dsimp only
                refine wpS_bind (wpS_modify (wpS_pure ⟨o2,ia2,ib2,_,rfl,W2,by omega,?_⟩))
                exact ⟨k2.k,k2.f,k2.a,k2.p⟩
end
end L2
namespace L2
open PySem PySem.W PyProof.Rows
structure MJZ (lt:Nat→Nat→Bool) (a b o P Q:List Nat):Prop where
  so:o.Pairwise fun x y=>lt x y=true
  pe:(P ++ Q ++ o).Perm (a ++ b)
  be:∀ x∈P ++ Q,∀ y∈o,lt x y=true
  sp:P.Pairwise fun x y=>lt x y=true
  sq:Q.Pairwise fun x y=>lt x y=true
section
variable {lt:Nat→Nat→Bool} {a b o P Q c:List Nat}
theorem MJZ.left (h:MJZ lt a b o (P ++ c) Q) (k:∀ x∈c,∀ y∈Q,lt y x=true):MJZ lt a b (c ++ o) P Q:=by
  have sp:=List.pairwise_append.mp h.sp
  refine ⟨List.pairwise_append.mpr ⟨sp.2.1,h.so,fun x hx y hy=>h.be x (by simp [hx]) y hy⟩,?_,fun x hx y hy=>?_,sp.1,h.sq⟩
  · refine List.Perm.trans ?_ h.pe
    rw [← List.append_assoc,List.append_assoc P Q c,List.append_assoc P c Q]
    exact List.Perm.append_right _ (List.Perm.append_left _ List.perm_append_comm)
  · rcases List.mem_append.mp hy with hy | hy
    · rcases List.mem_append.mp hx with hx | hx
      · exact sp.2.2 x hx y hy
      · exact k y hy x hx
    · exact h.be x (by rcases List.mem_append.mp hx with hx | hx <;> simp [hx]) y hy
theorem MJZ.right (h:MJZ lt a b o P (Q ++ c)) (k:∀ x∈c,∀ y∈P,lt y x=true):MJZ lt a b (c ++ o) P Q:=by
  have sq:=List.pairwise_append.mp h.sq
  refine ⟨List.pairwise_append.mpr ⟨sq.2.1,h.so,fun x hx y hy=>h.be x (by simp [hx]) y hy⟩,?_,fun x hx y hy=>?_,h.sp,sq.1⟩
  · have:=h.pe
    simpa [List.append_assoc] using this
  · rcases List.mem_append.mp hy with hy | hy
    · rcases List.mem_append.mp hx with hx | hx
      · exact k y hy x hx
      · exact sq.2.2 x hx y hy
    · exact h.be x (by rcases List.mem_append.mp hx with hx | hx <;> simp [hx]) y hy
theorem MJZ.len (h:MJZ lt a b o P Q):o.length + P.length + Q.length=a.length + b.length:=by
  have:=h.pe.length_eq
  simp only [List.length_append] at this
  omega
theorem MJZ.end (h:MJZ lt a b o P Q) (k:∀ x∈P,∀ y∈Q,lt x y=true):ResZ lt a b (P ++ Q ++ o) :=
  ⟨h.pe,List.pairwise_append.mpr ⟨List.pairwise_append.mpr ⟨h.sp,h.sq,k⟩,h.so,h.be⟩⟩
theorem MJZ.end' (h:MJZ lt a b o P Q) (k:∀ x∈Q,∀ y∈P,lt x y=true):ResZ lt a b (Q ++ P ++ o) :=
  ⟨List.Perm.trans (List.Perm.append_right _ List.perm_append_comm) h.pe,List.pairwise_append.mpr ⟨List.pairwise_append.mpr ⟨h.sq,h.sp,k⟩,h.so,fun x hx y hy=>h.be x (by rcases List.mem_append.mp hx with hx | hx <;> simp [hx]) y hy⟩⟩
theorem MJZ.start (ha:a.Pairwise fun x y=>lt x y=true) (hb:b.Pairwise fun x y=>lt x y=true):MJZ lt a b [] a b:=⟨.nil,by simp,(fun x _ y h=>nomatch h),ha,hb⟩
theorem take_snocZ {l:List Nat} {i x:Nat} (h:l[i]?=some x):l.take (i + 1)=l.take i ++ [x]:=by rw [List.take_add_one,h];rfl
theorem take_moreZ {l:List Nat} {i j:Nat} (h:i≤j):l.take j=l.take i ++ (l.take j).drop i:=by
  have:=(List.take_append_drop i (l.take j)).symm
  rwa [List.take_take,Nat.min_eq_left h] at this
theorem take_memZ {l:List Nat} {i x:Nat} (h:x∈l.take i):x∈l:=List.mem_of_mem_take h
end
section
variable {it:Nat→Keyed}
theorem im_toZ (p:List Nat) (i:Nat):(imZ it p).extract 0 i=imZ it (p.take i):=by rw [im_extZ];simp
theorem im_revZ (p:List Nat):(imZ it p).reverse=imZ it p.reverse:=by simp [imZ]
theorem im_outZ (p:List Nat) (x:Nat):(imZ it p.reverse).push (it x)=imZ it ([x] ++ p).reverse:=by rw [im_pushZ];simp
theorem im_cutZ {p:List Nat} {i j:Nat} (h:i≤j):(imZ it p).extract i j=imZ it ((p.take j).drop i):=by
  rw [im_extZ]
  congr 1
  rw [List.drop_take]
theorem im_outsZ (p c:List Nat):imZ it p.reverse ++ (imZ it c).reverse=imZ it (c ++ p).reverse:=by rw [im_revZ,im_appZ];simp
end
section
variable {prog:Program} {w:World} {A:Around} {E:Value→Shared→Prop} {s:Shared} {κ:SortKind} {it:Nat→Keyed} {lt:Nat→Nat→Bool} {N:Nat} {a b:List Nat}
theorem last_aboveZ (S:SO lt N) {l:List Nat} {i x y:Nat} (sl:l.Pairwise fun x y=>lt x y=true) (nl:∀ x∈l,x < N) (hx:l[i]?=some x) (yN:y < N) (h:lt x y=true):∀ z∈l.take (i + 1),lt z y=true:=by
  intro z hz
  rw [take_snocZ hx] at hz
  rcases List.mem_append.mp hz with hz | hz
  · have xl:=List.mem_of_getElem? hx
    refine S.trans z x y (nl z (take_memZ hz)) (nl x xl) yN ?_ h
    obtain ⟨k,hk⟩:=List.getElem?_of_mem hz
    have kl:=(List.getElem?_eq_some_iff.mp hk).1
    rw [List.length_take] at kl
    rw [List.getElem?_take_of_lt (by omega)] at hk
    obtain ⟨l1,e1⟩:=List.getElem?_eq_some_iff.mp hx
    obtain ⟨l2,e2⟩:=List.getElem?_eq_some_iff.mp hk
    have:=List.pairwise_iff_getElem.mp sl k i l2 l1 (by omega)
    rw [e1,e2] at this
    exact this
  · rw [List.mem_singleton.mp hz];exact h
theorem MPreZ.first (P:MPreZ lt N a b) {na:Nat}:∀ x∈b.take 1,∀ y∈a.take na,lt x y=true:=by
  intro x hx y hy
  have e:b.take 1=[b.getD 0 0]:=by
    have plb:=P.lb
    have g:b[0]?=some b[0]:=List.getElem?_eq_getElem plb
    have t:=take_snocZ g
    rw [t,List.getD_eq_getElem?_getD,g];rfl
  rw [e,List.mem_singleton] at hx
  rw [hx]
  exact P.hd y (take_memZ hy)
structure WayHZ (lt:Nat→Nat→Bool) (a b o:List Nat) (na nb:Nat):Prop where
  m:MJZ lt a b o (a.take na) (b.take nb)
  ha:0 < na
  la:na≤a.length
  hb:1 < nb
  lb:nb≤b.length
theorem WayHZ.len {o:List Nat} {na nb:Nat} (W:WayHZ lt a b o na nb):o.length < a.length + b.length:=by
  have:=W.m.len
  have h1:=W.ha
  have h2:=W.hb
  have h3:=W.la
  have h4:=W.lb
  rw [List.length_take,List.length_take] at this
  omega
abbrev HiSZ:=Option (Array Keyed) × Nat × Nat × Array Keyed × Nat × Nat × Nat
def hiT2Z (a b:Array Keyed) (mg ac bc:Nat) (na nb:Nat) (out:Array Keyed):SMZ (ForInStep HiSZ):=do
  let x ← elem' a (na - 1)
  if (na - 1 == 0)=true then pure (.done (some (a.extract 0 (na - 1) ++ b.extract 0 nb ++ (out.push x).reverse),na - 1,nb,out.push x,mg,ac,bc))
  else if (decide (ac < 7) && decide (bc < 7))=true then pure (.done (none,na - 1,nb,out.push x,mg,ac,bc))
  else pure (.yield (none,na - 1,nb,out.push x,mg,ac,bc))
def hiT1Z (a b:Array Keyed) (mg ac bc:Nat) (na nb:Nat) (out:Array Keyed):SMZ (ForInStep HiSZ):=do
  let x ← elem' b (nb - 1)
  if (nb - 1 == 1)=true then pure (.done (some (b.extract 0 (nb - 1) ++ a.extract 0 na ++ (out.push x).reverse),na,nb - 1,out.push x,mg,ac,bc))
  else do
    let y ← elem' a (na - 1)
    match ← gallopGZ true y b 0 (nb - 1) (nb - 1 - 1) with
    | some k=>if nb - 1 - k > 0 then (if (k == 1)=true then pure (.done (some (b.extract 0 k ++ a.extract 0 na ++ (out.push x ++ (b.extract k (nb - 1)).reverse).reverse),na,k,out.push x ++ (b.extract k (nb - 1)).reverse,mg,ac,nb - 1 - k)) else if (k == 0)=true then pure (.done (some (a.extract 0 na ++ b.extract 0 k ++ (out.push x ++ (b.extract k (nb - 1)).reverse).reverse),na,k,out.push x ++ (b.extract k (nb - 1)).reverse,mg,ac,nb - 1 - k)) else hiT2Z a b mg ac (nb - 1 - k) na k (out.push x ++ (b.extract k (nb - 1)).reverse)) else hiT2Z a b mg ac (nb - 1 - k) na (nb - 1) (out.push x)
    | _=>pure (.done (some (a.extract 0 na ++ b.extract 0 (nb - 1) ++ (out.push x).reverse),na,nb - 1,out.push x,mg,ac,bc))
def HiQZ (κ:SortKind) (it:Nat→Keyed) (lt:Nat→Nat→Bool) (a b:List Nat) (st0:SortSt) (n:Nat) (r:ForInStep HiSZ) (st:SortSt):Prop:=match r with
  | .done c=>FinZ κ it lt a b st0 c.1 st∨∃ o na nb mg ac bc,c=(none,na,nb,imZ it o.reverse,mg,ac,bc)∧WayHZ lt a b o na nb∧n < o.length∧SteZ κ st0 st
  | .yield c=>∃ o na nb mg ac bc,c=(none,na,nb,imZ it o.reverse,mg,ac,bc)∧WayHZ lt a b o na nb∧n < o.length∧SteZ κ st0 st
theorem outRZ (o:List Nat):(imZ it o.reverse).reverse=imZ it o:=by rw [im_revZ,List.reverse_reverse]
theorem wpS_hiT2Z {st0 st:SortSt} {mg ac bc na nb n xa xb:Nat} {o:List Nat} (S:SO lt N) (P:MPreZ lt N a b) (k:SteZ κ st0 st) (m:MJZ lt a b o (a.take na) (b.take nb)) (ha:0 < na) (la:na≤a.length) (hb:1 < nb) (lb:nb≤b.length) (ga:a[na - 1]?=some xa) (gb:b[nb - 1]?=some xb) (e:lt xb xa=true) (hn:n≤o.length) :
    wpS (model prog w) A E s (hiT2Z (imZ it a) (imZ it b) mg ac bc na nb (imZ it o.reverse)) (HiQZ κ it lt a b st0 n) st:=by
  have mb:=List.mem_of_getElem? gb
  have ma:=List.mem_of_getElem? ga
  unfold hiT2Z
  refine wpS_bind (wpS_elemZ (im_getZ ga) ?_)
  rw [im_outZ,outRZ,im_toZ,im_toZ]
  have M2:MJZ lt a b ([xa] ++ o) (a.take (na - 1)) (b.take nb):=by
    have t:=take_snocZ ga
    rw [show na - 1 + 1=na by omega] at t
    rw [t] at m
    refine m.left fun x hx z hz=>?_
    rw [List.mem_singleton.mp hx]
    have:=last_aboveZ S P.sb P.nB gb (P.nA _ ma) e
    rw [show nb - 1 + 1=nb by omega] at this
    exact this z hz
  by_cases d1:(na - 1 == 0)=true
  · rw [if_pos d1]
    have d1':na - 1=0:=by simpa using d1
    refine wpS_pure (.inl ⟨_,?_,M2.end (fun x hx y hy=>by rw [d1',List.take_zero] at hx;cases hx),k⟩)
    rw [im_appZ,im_appZ]
  · rw [if_neg d1]
    have d1':na - 1≠0:=by simpa using d1
    have W2:WayHZ lt a b ([xa] ++ o) (na - 1) nb:=⟨M2,by omega,by omega,hb,lb⟩
    by_cases d2:(decide (ac < 7) && decide (bc < 7))=true
    · rw [if_pos d2]
      exact wpS_pure (.inr ⟨_,_,_,_,_,_,rfl,W2,by simp;omega,k⟩)
    · rw [if_neg d2]
      exact wpS_pure ⟨_,_,_,_,_,_,rfl,W2,by simp;omega,k⟩
theorem wpS_hiT1Z {st0 st:SortSt} {mg ac bc na nb n xa xb:Nat} {o:List Nat} (S:SO lt N) (hc:CmpAtZ prog w A s κ it lt N) (P:MPreZ lt N a b) (k:SteZ κ st0 st) (m:MJZ lt a b o (a.take na) (b.take nb)) (ha:0 < na) (la:na≤a.length) (hb:1 < nb) (lb:nb≤b.length) (ga:a[na - 1]?=some xa) (gb:b[nb - 1]?=some xb) (e:lt xa xb=true) (hn:n≤o.length) :
    wpS (model prog w) A E s (hiT1Z (imZ it a) (imZ it b) mg ac bc na nb (imZ it o.reverse)) (HiQZ κ it lt a b st0 n) st:=by
  have mb:=List.mem_of_getElem? gb
  have ma:=List.mem_of_getElem? ga
  unfold hiT1Z
  refine wpS_bind (wpS_elemZ (im_getZ gb) ?_)
  rw [im_outZ,outRZ,im_toZ,im_toZ]
  have M2:MJZ lt a b ([xb] ++ o) (a.take na) (b.take (nb - 1)):=by
    have t:=take_snocZ gb
    rw [show nb - 1 + 1=nb by omega] at t
    rw [t] at m
    refine m.right fun x hx z hz=>?_
    rw [List.mem_singleton.mp hx]
    have:=last_aboveZ S P.sa P.nA ga (P.nB _ mb) e
    rw [show na - 1 + 1=na by omega] at this
    exact this z hz
  by_cases d1:(nb - 1 == 1)=true
  · rw [if_pos d1]
    have d1':nb - 1=1:=by simpa using d1
    refine wpS_pure (.inl ⟨_,?_,M2.end' (by rw [d1'];exact P.first),k⟩)
    rw [im_appZ,im_appZ]
  · rw [if_neg d1]
    have d1':nb - 1≠1:=by simpa using d1
    refine wpS_bind (wpS_elemZ (im_getZ ga) ?_)
    refine wpS_bind (wpS_gallopZ S hc k.k (P.nA _ ma) (fun x hx=>?_) ?_ (by omega) (by omega) fun j hj lo hi=>?_)
    · rw [List.drop_zero] at hx;exact ⟨P.nB _ (take_memZ hx),Ne.symm (P.dj _ ma _ (take_memZ hx))⟩
    · rw [List.drop_zero];exact M2.sq
    · rw [List.drop_zero] at lo hi
      dsimp only
      rw [im_toZ,im_cutZ hj,im_outsZ,outRZ]
      have M3:MJZ lt a b ((b.take (nb - 1)).drop j ++ ([xb] ++ o)) (a.take na) (b.take j):=by
        rw [take_moreZ hj] at M2
        refine M2.right fun x hx z hz=>?_
        have xb':x∈b:=take_memZ (List.mem_of_mem_drop hx)
        have h:=hi x hx
        have:=last_aboveZ S P.sa P.nA ga (P.nB _ xb') h
        rw [show na - 1 + 1=na by omega] at this
        exact this z hz
      have nx:0 < j→∃ y,b[j - 1]?=some y∧lt y xa=true:=fun h=>by
        have g:b[j - 1]?=some b[j - 1]:=List.getElem?_eq_getElem (by omega)
        refine ⟨b[j - 1],g,lo _ ?_⟩
        have t:=take_snocZ g
        rw [show j - 1 + 1=j by omega] at t
        rw [t];exact List.mem_append_right _ (List.mem_singleton_self _)
      by_cases z:nb - 1 - j > 0
      · rw [if_pos z]
        by_cases d2:(j == 1)=true
        · rw [if_pos d2]
          have d2':j=1:=by simpa using d2
          refine wpS_pure (.inl ⟨_,?_,M3.end' (by rw [d2'];exact P.first),k⟩)
          rw [im_appZ,im_appZ]
        · rw [if_neg d2]
          have d2':j≠1:=by simpa using d2
          by_cases d3:(j == 0)=true
          · rw [if_pos d3]
            have d3':j=0:=by simpa using d3
            refine wpS_pure (.inl ⟨_,?_,M3.end (fun x _ y hy=>by rw [d3',List.take_zero] at hy;cases hy),k⟩)
            rw [im_appZ,im_appZ]
          · rw [if_neg d3]
            have d3':j≠0:=by simpa using d3
            obtain ⟨y,gy,ly⟩:=nx (by omega)
            exact wpS_hiT2Z S P k M3 ha la (by omega) (by omega) ga gy ly (by simp;omega)
      · rw [if_neg z]
        obtain rfl:j=nb - 1:=by omega
        obtain ⟨y,gy,ly⟩:=nx (by omega)
        exact wpS_hiT2Z S P k M2 ha la (by omega) (by omega) ga gy ly (by simp;omega)
theorem wpS_mergeHiZ {st:SortSt} {Q:Array Keyed→SortSt→Prop} (S:SO lt N) (hc:CmpAtZ prog w A s κ it lt N) (hk:SteZ κ st st) (P:MPreZ lt N a b) (q:∀ m st',ResZ lt a b m→SteZ κ st st'→Q (imZ it m) st') :
    wpS (model prog w) A E s (mergeHiGZ (imZ it a) (imZ it b)) Q st:=by
  have pla:=P.la
  have plb:=P.lb
  refine wpS_bind (wpS_lift (wpAny_rule ⟨rfl,?_⟩))
  have sA:=im_sizeZ (it:=it) a
  have sB:=im_sizeZ (it:=it) b
  have a0:a[a.length - 1]?=some (a.getD (a.length - 1) 0):=by rw [List.getD_eq_getElem?_getD,List.getElem?_eq_getElem (by omega)];rfl
  refine wpS_bind (wpS_elemZ (x:=it (a.getD (a.length - 1) 0)) (by rw [sA];exact im_getZ a0) ?_)
  have M0:MJZ lt a b [a.getD (a.length - 1) 0] (a.take (a.length - 1)) (b.take b.length):=by
    have:=MJZ.start P.sa P.sb
    have t:=take_snocZ a0
    rw [show a.length - 1 + 1=a.length by omega,List.take_length] at t
    have h2:MJZ lt a b [] (a.take (a.length - 1) ++ [a.getD (a.length - 1) 0]) b:=by rw [← t];exact this
    rw [List.take_length]
    exact h2.left fun x hx y hy=>by rw [List.mem_singleton.mp hx];exact P.tl y hy
  have o0:(#[it (a.getD (a.length - 1) 0)]:Array Keyed)=imZ it [a.getD (a.length - 1) 0].reverse:=rfl
  rw [o0,sA,sB]
  have eA:∀ i,(imZ it a).extract 0 i=imZ it (a.take i):=im_toZ a
  have eB:∀ i,(imZ it b).extract 0 i=imZ it (b.take i):=im_toZ b
  have endA:∀ {o:List Nat} {na nb:Nat},MJZ lt a b o (a.take na) (b.take nb)→na=0→ResZ lt a b (a.take na ++ b.take nb ++ o):=fun m e=>m.end fun x hx y hy=>by rw [e,List.take_zero] at hx;cases hx
  have endF:∀ {o:List Nat} {na nb:Nat},MJZ lt a b o (a.take na) (b.take nb)→nb=1→ResZ lt a b (b.take nb ++ a.take na ++ o):=fun m e=>m.end' (by rw [e];exact P.first)
  by_cases c1:(a.length - 1 == 0)=true
  · rw [if_pos c1]
    refine wpS_pure ?_
    dsimp only
    rw [eA,eB,outRZ,im_appZ,im_appZ]
    exact q _ _ (endA M0 (by simpa using c1)) hk
  · rw [if_neg c1]
    by_cases c2:(b.length == 1)=true
    · rw [if_pos c2]
      refine wpS_pure ?_
      dsimp only
      rw [eA,eB,outRZ,im_appZ,im_appZ]
      exact q _ _ (endF M0 (by simpa using c2)) hk
    · rw [if_neg c2]
      have n1:a.length - 1≠0:=by simpa using c1
      have n2:b.length≠1:=by simpa using c2
      have W0:WayHZ lt a b [a.getD (a.length - 1) 0] (a.length - 1) b.length:=⟨M0,by omega,by omega,by omega,by omega⟩
      refine wpS_bind (wpS_get ?_)
      refine wpS_bind (wpS_mono (wpS_forRange (fun x c st'=>∃ o na nb mg,c=(none,na,nb,imZ it o.reverse,mg)∧WayHZ lt a b o na nb∧x < o.length∧SteZ κ st st') (Q:=fun c st'=>FinZ κ it lt a b st c.1 st') ?step ?fin ⟨[a.getD (a.length - 1) 0],_,_,_,rfl,W0,by simp,hk⟩) ?post)
      case post =>
        rintro c st' ⟨m,e,r,k⟩
        obtain ⟨r1,c⟩:=c
        dsimp only at e
        subst e
        exact wpS_pure (q m st' r k)
      case fin =>
        rintro c st' ⟨o,na,nb,mg,rfl,W,hx,k⟩
        have:=W.len
        omega
      case step =>
        rintro x c st' _ hx ⟨o,na,nb,mg,rfl,W,hxo,k⟩
        dsimp only
        refine wpS_bind (wpS_mono (wpS_forRange (fun y c st2=>∃ o' na' nb' ac bc,c=(none,na',nb',imZ it o'.reverse,ac,bc)∧WayHZ lt a b o' na' nb'∧o.length + y≤o'.length∧SteZ κ st st2) (Q:=fun c st2=>FinZ κ it lt a b st c.1 st2∨∃ o' na' nb' ac bc,c=(none,na',nb',imZ it o'.reverse,ac,bc)∧WayHZ lt a b o' na' nb'∧o.length + 1≤o'.length∧SteZ κ st st2) ?step1 ?fin1 ⟨o,na,nb,0,0,rfl,W,Nat.le_refl _,k⟩) ?post1)
        case fin1 =>
          rintro c st2 ⟨o',na',nb',ac,bc,rfl,W',hl,k'⟩
          have:=W'.len
          omega
        case step1 =>
          rintro y c st2 _ hy ⟨o',na',nb',ac,bc,rfl,W',hl,k'⟩
          dsimp only
          have w1:=W'.ha
          have w2:=W'.la
          have w3:=W'.hb
          have w4:=W'.lb
          obtain ⟨xb,gb⟩:∃ xb,b[nb' - 1]?=some xb:=⟨_,List.getElem?_eq_getElem (by omega)⟩
          obtain ⟨xa,ga⟩:∃ xa,a[na' - 1]?=some xa:=⟨_,List.getElem?_eq_getElem (by omega)⟩
          have mb:=List.mem_of_getElem? gb
          have ma:=List.mem_of_getElem? ga
          refine wpS_bind (wpS_elemZ (im_getZ gb) (wpS_bind (wpS_elemZ (im_getZ ga) (wpS_bind (wpS_cmpZ hc k'.k (P.nB _ mb) (P.nA _ ma) (Ne.symm (P.dj _ ma _ mb)) ?_)))))
          have M1:=W'.m
          cases e:lt xb xa with
          | true =>
            dsimp only
            rw [if_pos rfl]
            refine wpS_bind (wpS_elemZ (im_getZ ga) ?_)
            rw [im_outZ]
            have M2:MJZ lt a b ([xa] ++ o') (a.take (na' - 1)) (b.take nb'):=by
              have t:=take_snocZ ga
              rw [show na' - 1 + 1=na' by omega] at t
              rw [t] at M1
              refine M1.left fun x hx z hz=>?_
              rw [List.mem_singleton.mp hx]
              have:=last_aboveZ S P.sb P.nB gb (P.nA _ ma) e
              rw [show nb' - 1 + 1=nb' by omega] at this
              exact this z hz
            by_cases d1:(na' - 1 == 0)=true
            · rw [if_pos d1]
              refine wpS_pure (.inl ⟨_,?_,endA M2 (by simpa using d1),k'⟩)
              rw [eA,eB,outRZ,im_appZ,im_appZ]
            · rw [if_neg d1]
              have d1':na' - 1≠0:=by simpa using d1
              have W2:WayHZ lt a b ([xa] ++ o') (na' - 1) nb':=⟨M2,by omega,by omega,w3,w4⟩
              by_cases d2:ac + 1 ≥ mg
              · rw [if_pos d2]
                exact wpS_pure (.inr ⟨_,_,_,_,_,rfl,W2,by simp;omega,k'⟩)
              · rw [if_neg d2]
                exact wpS_pure ⟨_,_,_,_,_,rfl,W2,by simp;omega,k'⟩
          | false =>
            dsimp only
            rw [if_neg (by decide)]
            refine wpS_bind (wpS_elemZ (im_getZ gb) ?_)
            rw [im_outZ]
            have e':=S.tot _ _ (P.nB _ mb) (P.nA _ ma) (Ne.symm (P.dj _ ma _ mb)) e
            have M2:MJZ lt a b ([xb] ++ o') (a.take na') (b.take (nb' - 1)):=by
              have t:=take_snocZ gb
              rw [show nb' - 1 + 1=nb' by omega] at t
              rw [t] at M1
              refine M1.right fun x hx z hz=>?_
              rw [List.mem_singleton.mp hx]
              have:=last_aboveZ S P.sa P.nA ga (P.nB _ mb) e'
              rw [show na' - 1 + 1=na' by omega] at this
              exact this z hz
            by_cases d1:(nb' - 1 == 1)=true
            · rw [if_pos d1]
              refine wpS_pure (.inl ⟨_,?_,endF M2 (by simpa using d1),k'⟩)
              rw [eA,eB,outRZ,im_appZ,im_appZ]
            · rw [if_neg d1]
              have d1':nb' - 1≠1:=by simpa using d1
              have W2:WayHZ lt a b ([xb] ++ o') na' (nb' - 1):=⟨M2,w1,w2,by omega,by omega⟩
              by_cases d2:bc + 1 ≥ mg
              · rw [if_pos d2]
                exact wpS_pure (.inr ⟨_,_,_,_,_,rfl,W2,by simp;omega,k'⟩)
              · rw [if_neg d2]
                exact wpS_pure ⟨_,_,_,_,_,rfl,W2,by simp;omega,k'⟩
        case post1 =>
          rintro c st2 (⟨m,e,r,k'⟩ | ⟨o',na',nb',ac,bc,rfl,W',hl,k'⟩)
          · obtain ⟨r1,c⟩:=c
            dsimp only at e
            subst e
            exact wpS_pure ⟨m,rfl,r,k'⟩
          · dsimp only
            refine wpS_bind (wpS_lift (wpAny_rule ⟨rfl,?_⟩))
            refine wpS_bind (wpS_mono (wpS_forRange (fun y c st3=>∃ o2 na2 nb2 mg2 ac2 bc2,c=(none,na2,nb2,imZ it o2.reverse,mg2,ac2,bc2)∧WayHZ lt a b o2 na2 nb2∧o.length + 1 + y≤o2.length∧SteZ κ st st3) (Q:=fun c st3=>FinZ κ it lt a b st c.1 st3∨∃ o2 na2 nb2 mg2 ac2 bc2,c=(none,na2,nb2,imZ it o2.reverse,mg2,ac2,bc2)∧WayHZ lt a b o2 na2 nb2∧o.length < o2.length∧SteZ κ st st3) ?step2 ?fin2 ⟨o',na',nb',_,ac,bc,rfl,W',hl,k'⟩) ?post2)
            case fin2 =>
              rintro c st3 ⟨o2,na2,nb2,mg2,ac2,bc2,rfl,W2,hl2,k2⟩
              have:=W2.len
              omega
            case step2 =>
              rintro y c st3 _ hy ⟨o2,na2,nb2,mg2,ac2,bc2,rfl,W2,hl2,k2⟩
              dsimp only
              have w1:=W2.ha
              have w2:=W2.la
              have w3:=W2.hb
              have w4:=W2.lb
              obtain ⟨xb,gb⟩:∃ xb,b[nb2 - 1]?=some xb:=⟨_,List.getElem?_eq_getElem (by omega)⟩
              have mb:=List.mem_of_getElem? gb
              have go:∀ g:Nat,wpS (model prog w) A E s (do
                  setGalZ g
                  let u ← elem' (imZ it b) (nb2 - 1)
                  match ← gallopGZ false u (imZ it a) 0 na2 (na2 - 1) with
                  | some k=>if na2 - k > 0 then (if (k == 0)=true then pure (.done (some ((imZ it a).extract 0 k ++ (imZ it b).extract 0 nb2 ++ (imZ it o2.reverse ++ ((imZ it a).extract k na2).reverse).reverse),k,nb2,imZ it o2.reverse ++ ((imZ it a).extract k na2).reverse,g,na2 - k,bc2)) else hiT1Z (imZ it a) (imZ it b) g (na2 - k) bc2 k nb2 (imZ it o2.reverse ++ ((imZ it a).extract k na2).reverse)) else hiT1Z (imZ it a) (imZ it b) g (na2 - k) bc2 na2 nb2 (imZ it o2.reverse)
                  | _=>pure (.done (some ((imZ it a).extract 0 na2 ++ (imZ it b).extract 0 nb2 ++ (imZ it o2.reverse).reverse),na2,nb2,imZ it o2.reverse,g,ac2,bc2)):SMZ (ForInStep HiSZ)) (HiQZ κ it lt a b st (o.length + 1 + y)) st3:=by
                intro g
                refine wpS_bind (wpS_modify ?_)
                have k3:SteZ κ st (SortSt.mk' (kindOf st3) (arrOf st3) (pendingOf st3) g (failedOf st3)):=⟨k2.k,k2.f,k2.a,k2.p⟩
                refine wpS_bind (wpS_elemZ (im_getZ gb) ?_)
                refine wpS_bind (wpS_gallopZ S hc k3.k (P.nB _ mb) (fun x hx=>?_) ?_ (by omega) (by omega) fun j hj lo hi=>?_)
                · rw [List.drop_zero] at hx;exact ⟨P.nA _ (take_memZ hx),P.dj _ (take_memZ hx) _ mb⟩
                · rw [List.drop_zero];exact W2.m.sp
                · rw [List.drop_zero] at lo hi
                  dsimp only
                  rw [im_cutZ hj,im_outsZ,outRZ,eA,eB]
                  have M3:MJZ lt a b ((a.take na2).drop j ++ o2) (a.take j) (b.take nb2):=by
                    have m:=W2.m
                    rw [take_moreZ hj] at m
                    refine m.left fun x hx z hz=>?_
                    have xa':x∈a:=take_memZ (List.mem_of_mem_drop hx)
                    have:=last_aboveZ S P.sb P.nB gb (P.nA _ xa') (hi x hx)
                    rw [show nb2 - 1 + 1=nb2 by omega] at this
                    exact this z hz
                  have nx:0 < j→∃ z,a[j - 1]?=some z∧lt z xb=true:=fun h=>by
                    have g:a[j - 1]?=some a[j - 1]:=List.getElem?_eq_getElem (by omega)
                    refine ⟨a[j - 1],g,lo _ ?_⟩
                    have t:=take_snocZ g
                    rw [show j - 1 + 1=j by omega] at t
                    rw [t];exact List.mem_append_right _ (List.mem_singleton_self _)
                  by_cases z:na2 - j > 0
                  · rw [if_pos z]
                    by_cases d1:(j == 0)=true
                    · rw [if_pos d1]
                      refine wpS_pure (.inl ⟨_,?_,endA M3 (by simpa using d1),k3⟩)
                      rw [im_appZ,im_appZ]
                    · rw [if_neg d1]
                      have d1':j≠0:=by simpa using d1
                      obtain ⟨z,gz,lz⟩:=nx (by omega)
                      exact wpS_hiT1Z S hc P k3 M3 (by omega) (by omega) w3 w4 gz gb lz (by simp;omega)
                  · rw [if_neg z]
                    obtain rfl:j=na2:=by omega
                    obtain ⟨z,gz,lz⟩:=nx (by omega)
                    exact wpS_hiT1Z S hc P k3 W2.m w1 w2 w3 w4 gz gb lz (by omega)
              have fitD:∀ c' st4,HiQZ κ it lt a b st (o.length + 1 + y) (.done c') st4→FinZ κ it lt a b st c'.1 st4∨∃ o2 na2 nb2 mg2 ac2 bc2,c'=(none,na2,nb2,imZ it o2.reverse,mg2,ac2,bc2)∧WayHZ lt a b o2 na2 nb2∧o.length < o2.length∧SteZ κ st st4:=by
                intro c st4 h
                rcases h with h | ⟨o3,na3,nb3,mg3,ac3,bc3,e,W3,l3,k4⟩
                · exact .inl h
                · exact .inr ⟨o3,na3,nb3,mg3,ac3,bc3,e,W3,by omega,k4⟩
              have fitY:∀ c' st4,HiQZ κ it lt a b st (o.length + 1 + y) (.yield c') st4→∃ o2 na2 nb2 mg2 ac2 bc2,c'=(none,na2,nb2,imZ it o2.reverse,mg2,ac2,bc2)∧WayHZ lt a b o2 na2 nb2∧o.length + 1 + (y + 1)≤o2.length∧SteZ κ st st4:=by
                intro c st4 h
                obtain ⟨o3,na3,nb3,mg3,ac3,bc3,e,W3,l3,k4⟩:=h
                exact ⟨o3,na3,nb3,mg3,ac3,bc3,e,W3,by omega,k4⟩
              by_cases d:mg2 > 1
              · rw [if_pos d]
                exact wpS_mono (go (mg2 - 1)) fun r st4 h=>by cases r with | done c=>exact fitD _ _ h | yield c=>exact fitY _ _ h
              · rw [if_neg d]
                exact wpS_mono (go mg2) fun r st4 h=>by cases r with | done c=>exact fitD _ _ h | yield c=>exact fitY _ _ h
            case post2 =>
              rintro c st3 (⟨m,e,r,k2⟩ | ⟨o2,na2,nb2,mg2,ac2,bc2,rfl,W2,hl2,k2⟩)
              · obtain ⟨r1,c⟩:=c
                dsimp only at e
                subst e
                exact wpS_pure ⟨m,rfl,r,k2⟩
              · dsimp only
                refine wpS_bind (wpS_modify (wpS_pure ⟨o2,na2,nb2,_,rfl,W2,by omega,?_⟩))
                exact ⟨k2.k,k2.f,k2.a,k2.p⟩
end
end L2
namespace L2
open PySem PySem.W PyProof.Rows
section
variable {prog:Program} {w:World} {A:Around} {E:Value→Shared→Prop} {s:Shared} {κ:SortKind} {it:Nat→Keyed} {lt:Nat→Nat→Bool} {N:Nat}
def RiseSZ (lt:Nat→Nat→Bool) (p:Array Nat) (lo m:Nat):Prop:=∀ i j,i < j→j < m→lt (gt p (lo + i)) (gt p (lo + j))=true
structure SAZ (κ:SortKind) (it:Nat→Keyed) (N:Nat) (p:Array Nat) (st:SortSt):Prop where
  k:kindOf st=κ
  f:failedOf st=none
  a:arrOf st=p.map it
  pp:PP N p
theorem SAZ.set {p p':Array Nat} {st:SortSt} (h:SAZ κ it N p st) (hp:PP N p'):SAZ κ it N p' (setArr st (p'.map it)):=⟨h.k,h.f,rfl,hp⟩
theorem wpS_atZ {st:SortSt} {p:Array Nat} {i j:Nat} {Q:Option Bool→SortSt→Prop} (hc:CmpAtZ prog w A s κ it lt N) (h:SAZ κ it N p st) (hi:i < N) (hj:j < N) (hij:i≠j) (q:Q (some (lt (gt p i) (gt p j))) st):wpS (model prog w) A E s (ltAt' i j) Q st:=by
  rw [ltAt'_eq]
  refine wpS_bind (wpS_get ?_)
  have sz:=h.pp.size
  have gi:(arrOf st)[i]?=some (it (gt p i)):=by rw [h.a,Array.getElem?_map,gt_eq (by omega)];rfl
  have gj:(arrOf st)[j]?=some (it (gt p j)):=by rw [h.a,Array.getElem?_map,gt_eq (by omega)];rfl
  exact wpS_bind (wpS_elemZ gi (wpS_bind (wpS_elemZ gj (wpS_cmpZ hc h.k (h.pp.blt hi) (h.pp.blt hj) (fun z=>hij (h.pp.inj hi hj z)) q))))
theorem rise_moreZ (S:SO lt N) {p:Array Nat} {lo m:Nat} (hp:PP N p) (h:RiseSZ lt p lo m) (h1:1≤m) (hm:lo + m < N) (c:lt (gt p (lo + m)) (gt p (lo + m - 1))=false):RiseSZ lt p lo (m + 1):=by
  have up:lt (gt p (lo + m - 1)) (gt p (lo + m))=true:=S.tot _ _ (hp.blt hm) (hp.blt (by omega)) (fun z=>by have:=hp.inj hm (by omega) z;omega) c
  intro i j hij hj
  by_cases e:j < m
  · exact h i j hij e
  · obtain rfl:j=m:=by omega
    by_cases e2:i=j - 1
    · rw [e2,show lo + (j - 1)=lo + j - 1 by omega];exact up
    · refine S.trans _ (gt p (lo + j - 1)) _ (hp.blt (by omega)) (hp.blt (by omega)) (hp.blt hm) ?_ up
      have:=h i (j - 1) (by omega) (by omega)
      rwa [show lo + (j - 1)=lo + j - 1 by omega] at this
theorem mirror_mapZ (p:Array Nat) (i j d:Nat):mirror (p.map it) i j d=(mirror p i j d).map it:=kas_swaps_map it (fun k=>i + k) (fun k=>j - 1 - k) _ p
theorem bubble_mapZ (p:Array Nat) (i d:Nat):bubble (p.map it) i d=(bubble p i d).map it:=kas_swaps_map it (fun k=>i - k) (fun k=>i - k - 1) _ p
theorem rev_atZ {p:Array Nat} {i j k:Nat} (hj:j≤p.size) (hk:k < p.size):gt (mirror p i j ((j - i) / 2)) k=if i≤k∧k < j then gt p (i + j - 1 - k) else gt p k:=by
  have e:=getElem?_mirror_all (xs:=p) (i:=i) (j:=j) hj k
  have e1:=gt_eq (p:=mirror p i j ((j - i) / 2)) (k:=k) (by rw [mirror_size];exact hk)
  rw [e] at e1
  by_cases c:i≤k∧k < j
  · rw [if_pos c] at e1 ⊢
    rw [gt_eq (by omega)] at e1
    exact (Option.some.inj e1).symm
  · rw [if_neg c] at e1 ⊢
    rw [gt_eq hk] at e1
    exact (Option.some.inj e1).symm
theorem wpS_countZ {st:SortSt} {p:Array Nat} {lo nrem:Nat} {Q:Option Nat→SortSt→Prop} (S:SO lt N) (hc:CmpAtZ prog w A s κ it lt N) (h:SAZ κ it N p st) (h1:1≤nrem) (h2:lo + nrem≤N)
    (q:∀ m p',1≤m→m≤nrem→SAZ κ it N p' (setArr st (p'.map it))→(∀ i,i < lo→gt p' i=gt p i)→RiseSZ lt p' lo m→Q (some m) (setArr st (p'.map it))) :
    wpS (model prog w) A E s (countRun' lo nrem) Q st:=by
  have sz:=h.pp.size
  have st0:setArr st (p.map it)=st:=by rw [← h.a]
  refine wpS_bind (wpS_mono (wpS_forRange (fun x c st'=>st=st'∧c=(none,x)∧RiseSZ lt p lo x) (Q:=fun c st'=>st=st'∧∃ m,c=(none,m)∧1≤m∧m≤nrem∧RiseSZ lt p lo m∧(m < nrem→lt (gt p (lo + m)) (gt p (lo + m - 1))=true)) ?step ?fin ⟨rfl,rfl,fun i j hij hj=>by omega⟩) ?post)
  case step =>
    rintro x c st' hx1 hx ⟨rfl,rfl,r⟩
    dsimp only
    refine wpS_bind (wpS_atZ hc h (by omega) (by omega) (by omega) ?_)
    dsimp only
    cases e:lt (gt p (lo + x)) (gt p (lo + x - 1)) with
    | true =>
      rw [if_pos rfl]
      exact wpS_pure ⟨rfl,x,rfl,hx1,by omega,r,fun _=>e⟩
    | false =>
      rw [if_neg (by decide)]
      exact wpS_pure ⟨rfl,rfl,rise_moreZ S h.pp r hx1 (by omega) e⟩
  case fin =>
    rintro c st' ⟨rfl,rfl,r⟩
    exact ⟨rfl,_,rfl,by omega,by omega,r,fun z=>by omega⟩
  case post =>
    rintro c st' ⟨rfl,m,rfl,m1,m2,r,tn⟩
    dsimp only
    by_cases c1:(m == nrem)=true
    · rw [if_pos c1]
      refine wpS_pure ?_
      have:=q m p m1 m2 (h.set h.pp) (fun _ _=>rfl) r
      rw [st0] at this
      exact this
    · rw [if_neg c1]
      have c1':m≠nrem:=by simpa using c1
      by_cases c2:m > 1
      · rw [if_pos c2]
        refine wpS_bind (wpS_atZ hc h (by omega) (by omega) (by omega) ?_)
        dsimp only
        have ro:=r 0 (m - 1) (by omega) (by omega)
        rw [Nat.add_zero,show lo + (m - 1)=lo + m - 1 by omega] at ro
        rw [ro,if_pos rfl]
        refine wpS_pure ?_
        have:=q m p m1 m2 (h.set h.pp) (fun _ _=>rfl) r
        rw [st0] at this
        exact this
      · rw [if_neg c2]
        obtain rfl:m=1:=by omega
        have dn:=tn (by omega)
        refine wpS_bind (wpS_lift (wpAny_rule ⟨rfl,?_⟩))
        -- the part that falls
        refine wpS_bind (wpS_mono (wpS_forRange (fun x c st'=>st=st'∧c=(none,x,0)∧∀ i j,i < j→j < x→lt (gt p (lo + j)) (gt p (lo + i))=true) (Q:=fun c st'=>st=st'∧∃ x,c=(none,x,0)∧2≤x∧x≤nrem∧∀ i j,i < j→j < x→lt (gt p (lo + j)) (gt p (lo + i))=true) ?step2 ?fin2 ⟨rfl,rfl,fun i j hij hj=>(by
          obtain rfl:j=1:=by omega
          obtain rfl:i=0:=by omega
          exact dn)⟩) ?post2)
        case step2 =>
          rintro x c st' hx1 hx ⟨rfl,rfl,f⟩
          dsimp only
          refine wpS_bind (wpS_atZ hc h (by omega) (by omega) (by omega) ?_)
          dsimp only
          cases e:lt (gt p (lo + x)) (gt p (lo + x - 1)) with
          | true =>
            rw [if_pos rfl,if_neg (by decide)]
            refine wpS_pure ⟨rfl,rfl,fun i j hij hj=>?_⟩
            by_cases e1:j < x
            · exact f i j hij e1
            · obtain rfl:j=x:=by omega
              by_cases e2:i=j - 1
              · rw [e2,show lo + (j - 1)=lo + j - 1 by omega];exact e
              · refine S.trans _ (gt p (lo + j - 1)) _ (h.pp.blt (by omega)) (h.pp.blt (by omega)) (h.pp.blt (by omega)) e ?_
                have:=f i (j - 1) (by omega) (by omega)
                rwa [show lo + (j - 1)=lo + j - 1 by omega] at this
          | false =>
            rw [if_neg (by decide)]
            refine wpS_bind (wpS_atZ hc h (by omega) (by omega) (by omega) ?_)
            dsimp only
            have up:lt (gt p (lo + x - 1)) (gt p (lo + x))=true:=S.tot _ _ (h.pp.blt (by omega)) (h.pp.blt (by omega)) (fun z=>by have:=h.pp.inj (by omega) (by omega) z;omega) e
            rw [up,if_pos rfl]
            exact wpS_pure ⟨rfl,x,rfl,hx1,by omega,f⟩
        case fin2 =>
          rintro c st' ⟨rfl,rfl,f⟩
          exact ⟨rfl,_,rfl,by omega,by omega,f⟩
        case post2 =>
          rintro c st' ⟨rfl,x,rfl,x2,xn,f⟩
          dsimp only
          rw [if_neg (by decide)]
          refine wpS_bind (wpS_modify ?_)
          have es:(fun s=>setArr s (mirror (arrOf s) lo (lo + x) ((lo + x - lo) / 2))) st=setArr st ((mirror p lo (lo + x) ((lo + x - lo) / 2)).map it):=by
            show setArr st (mirror (arrOf st) lo (lo + x) ((lo + x - lo) / 2))=_
            rw [h.a,mirror_mapZ]
          have hp':PP N (mirror p lo (lo + x) ((lo + x - lo) / 2)):=Array.Perm.trans (mirror_perm _ _ _ _) h.pp
          have g':∀ k,k < N→gt (mirror p lo (lo + x) ((lo + x - lo) / 2)) k=if lo≤k∧k < lo + x then gt p (lo + (lo + x) - 1 - k) else gt p k:=fun k hk=>rev_atZ (by omega) (by omega)
          show wpS (model prog w) A E s _ Q ((fun s=>setArr s (mirror (arrOf s) lo (lo + x) ((lo + x - lo) / 2))) st)
          rw [es]
          generalize mirror p lo (lo + x) ((lo + x - lo) / 2)=p' at *
          have h':=h.set hp'
          have r':RiseSZ lt p' lo x:=fun i j hij hj=>by
            rw [g' _ (by omega),g' _ (by omega),if_pos ⟨by omega,by omega⟩,if_pos ⟨by omega,by omega⟩]
            have:=f (x - 1 - j) (x - 1 - i) (by omega) (by omega)
            rwa [show lo + (x - 1 - i)=lo + (lo + x) - 1 - (lo + i) by omega,show lo + (x - 1 - j)=lo + (lo + x) - 1 - (lo + j) by omega] at this
          have kp:∀ i,i < lo→gt p' i=gt p i:=fun i hi=>by rw [g' i (by omega),if_neg (by omega)]
          refine wpS_bind (wpS_mono (wpS_forRange (fun y c st'=>setArr st (p'.map it)=st'∧c=(none,y)∧RiseSZ lt p' lo y) (Q:=fun c st'=>setArr st (p'.map it)=st'∧∃ m,c=(none,m)∧1≤m∧m≤nrem∧RiseSZ lt p' lo m) ?step3 ?fin3 ⟨rfl,rfl,r'⟩) ?post3)
          case step3 =>
            rintro y c st' hy1 hy ⟨rfl,rfl,r⟩
            dsimp only
            refine wpS_bind (wpS_atZ hc h' (by omega) (by omega) (by omega) ?_)
            dsimp only
            cases e:lt (gt p' (lo + y)) (gt p' (lo + y - 1)) with
            | true =>
              rw [if_pos rfl]
              exact wpS_pure ⟨rfl,y,rfl,by omega,by omega,r⟩
            | false =>
              rw [if_neg (by decide)]
              exact wpS_pure ⟨rfl,rfl,rise_moreZ S hp' r (by omega) (by omega) e⟩
          case fin3 =>
            rintro c st' ⟨rfl,rfl,r⟩
            exact ⟨rfl,_,rfl,by omega,by omega,r⟩
          case post3 =>
            rintro c st' ⟨rfl,m,rfl,m1,m2,r⟩
            exact wpS_pure (q m p' m1 m2 h' kp r)
theorem wpS_binZ {st:SortSt} {p:Array Nat} {lo n ok:Nat} {Q:Bool→SortSt→Prop} (S:SO lt N) (hc:CmpAtZ prog w A s κ it lt N) (h:SAZ κ it N p st) (h1:1≤ok) (h2:ok≤n) (h3:lo + n≤N) (r:RiseSZ lt p lo ok)
    (q:∀ p',SAZ κ it N p' (setArr st (p'.map it))→(∀ i,i < lo→gt p' i=gt p i)→RiseSZ lt p' lo n→Q true (setArr st (p'.map it))) :
    wpS (model prog w) A E s (binarySort' lo n ok) Q st:=by
  have sz:=h.pp.size
  refine wpS_bind (wpS_mono (wpS_forRange (fun x c st'=>∃ p',setArr st (p'.map it)=st'∧c=(none,())∧PP N p'∧(∀ i,i < lo→gt p' i=gt p i)∧RiseSZ lt p' lo x) (Q:=fun c st'=>∃ p',setArr st (p'.map it)=st'∧c=(none,())∧PP N p'∧(∀ i,i < lo→gt p' i=gt p i)∧RiseSZ lt p' lo n) ?step ?fin ⟨p,by rw [← h.a],rfl,h.pp,fun _ _=>rfl,by rw [Nat.max_eq_left h1];exact r⟩) ?post)
  case fin =>
    rintro c st' ⟨p',rfl,rfl,hp,kp,r⟩
    exact ⟨p',rfl,rfl,hp,kp,by rw [show max (max ok 1) n=n by omega] at r;exact r⟩
  case post =>
    rintro c st' ⟨p',rfl,rfl,hp,kp,r⟩
    exact wpS_pure (q p' (h.set hp) kp r)
  case step =>
    rintro x c st' hx1 hx ⟨p',rfl,rfl,hp,kp,r⟩
    dsimp only
    have h':=h.set hp
    have sz':=hp.size
    refine wpS_bind (wpS_mono (wpS_forRange (fun y c st2=>setArr st (p'.map it)=st2∧∃ l u,c=(none,l,u)∧l≤u∧u≤x∧u - l≤x - y∧(∀ i,i < l→lt (gt p' (lo + i)) (gt p' (lo + x))=true)∧(∀ i,u≤i→i < x→lt (gt p' (lo + x)) (gt p' (lo + i))=true)) (Q:=fun c st2=>setArr st (p'.map it)=st2∧∃ l u,c=(none,l,u)∧l≤x∧(∀ i,i < l→lt (gt p' (lo + i)) (gt p' (lo + x))=true)∧(∀ i,l≤i→i < x→lt (gt p' (lo + x)) (gt p' (lo + i))=true)) ?step1 ?fin1 ⟨rfl,0,x,rfl,by omega,by omega,by omega,fun i hi=>by omega,fun i h1 h2=>by omega⟩) ?post1)
    case fin1 =>
      rintro c st2 ⟨rfl,l,u,rfl,a1,a2,a3,a4,a5⟩
      have:l=u:=by omega
      subst this
      exact ⟨rfl,l,l,rfl,a2,a4,a5⟩
    case step1 =>
      rintro y c st2 _ hy ⟨rfl,l,u,rfl,a1,a2,a3,a4,a5⟩
      dsimp only
      by_cases c1:l ≥ u
      · rw [if_pos c1]
        have:l=u:=by omega
        subst this
        exact wpS_pure ⟨rfl,l,l,rfl,a2,a4,a5⟩
      · rw [if_neg c1]
        refine wpS_bind (wpS_atZ hc h' (by omega) (by omega) (by omega) ?_)
        dsimp only
        cases e:lt (gt p' (lo + x)) (gt p' (lo + (l + u) / 2)) with
        | true =>
          rw [if_pos rfl]
          refine wpS_pure ⟨rfl,l,(l + u) / 2,rfl,by omega,by omega,by omega,a4,fun i h1 h2=>?_⟩
          by_cases d:i=(l + u) / 2
          · rw [d];exact e
          · exact S.trans _ _ _ (hp.blt (by omega)) (hp.blt (by omega)) (hp.blt (by omega)) e (r _ _ (by omega) h2)
        | false =>
          rw [if_neg (by decide)]
          have up:=S.tot _ _ (hp.blt (by omega)) (hp.blt (by omega)) (fun z=>by have:=hp.inj (by omega) (by omega) z;omega) e
          refine wpS_pure ⟨rfl,(l + u) / 2 + 1,u,rfl,by omega,a2,by omega,fun i hi=>?_,a5⟩
          by_cases d:i=(l + u) / 2
          · rw [d];exact up
          · exact S.trans _ _ _ (hp.blt (by omega)) (hp.blt (by omega)) (hp.blt (by omega)) (r _ _ (by omega) (by omega)) up
    case post1 =>
      rintro c st2 ⟨rfl,l,u,rfl,a1,a2,a3⟩
      dsimp only
      refine wpS_bind (wpS_modify ?_)
      have es:(fun s=>setArr s (bubble (arrOf s) (lo + x) (lo + x - (lo + l)))) (setArr st (p'.map it))=setArr st ((bubble p' (lo + x) (lo + x - (lo + l))).map it):=by
        show setArr _ (bubble (p'.map it) _ _)=_
        rw [bubble_mapZ]
      show wpS (model prog w) A E s _ _ ((fun s=>setArr s (bubble (arrOf s) (lo + x) (lo + x - (lo + l)))) (setArr st (p'.map it)))
      rw [es]
      have g':∀ j,j < N→gt (bubble p' (lo + x) (lo + x - (lo + l))) j=if j=lo + l then gt p' (lo + x) else if lo + l < j∧j≤lo + x then gt p' (j - 1) else gt p' j:=fun j hj=>by
        have:=bub_gt (p:=p') (k:=lo + x) (d:=lo + x - (lo + l)) (j:=j) (by omega) (by omega) (by omega)
        rwa [show lo + x - (lo + x - (lo + l))=lo + l by omega] at this
      have hp':PP N (bubble p' (lo + x) (lo + x - (lo + l))):=Array.Perm.trans (bubble_perm _ _ _) hp
      generalize bubble p' (lo + x) (lo + x - (lo + l))=p2 at *
      refine wpS_pure ⟨p2,rfl,rfl,hp',fun i hi=>?_,fun i j hij hj=>?_⟩
      · rw [g' i (by omega),if_neg (by omega),if_neg (by omega)];exact kp i hi
      · rw [g' _ (by omega),g' _ (by omega)]
        by_cases c1:i=l
        · rw [if_pos (by omega),if_neg (by omega),if_pos (by omega),show lo + j - 1=lo + (j - 1) by omega]
          exact a3 _ (by omega) (by omega)
        · rw [if_neg (by omega)]
          by_cases c2:l < i∧i≤x
          · rw [if_pos (by omega),if_neg (by omega),if_pos (by omega),show lo + j - 1=lo + (j - 1) by omega,show lo + i - 1=lo + (i - 1) by omega]
            exact r _ _ (by omega) (by omega)
          · rw [if_neg (by omega)]
            by_cases c3:j=l
            · rw [if_pos (by omega)];exact a2 _ (by omega)
            · rw [if_neg (by omega)]
              by_cases c4:l < j∧j≤x
              · rw [if_pos (by omega),show lo + j - 1=lo + (j - 1) by omega]
                exact r _ _ (by omega) (by omega)
              · rw [if_neg (by omega)]
                exact r _ _ hij (by omega)
end
end L2
namespace L2
open PySem PySem.W PyProof.Rows
theorem fold_setZ {α:Type} (off:Nat):∀ (l:List α) (arr:Array α) (j:Nat),off + j + l.length≤arr.size→(l.zipIdx j).foldl (fun a x=>match x with | (p,j)=>a.setIfInBounds (off + j) p) arr=(arr.toList.take (off + j) ++ l ++ arr.toList.drop (off + j + l.length)).toArray
  | [],arr,j,h=>by simp
  | x :: t,arr,j,h=>by
    rw [List.length_cons] at h
    rw [List.zipIdx_cons,List.foldl_cons]
    have e:=fold_setZ off t (arr.setIfInBounds (off + j) x) (j + 1) (by simp;omega)
    dsimp only at e ⊢
    rw [e]
    congr 1
    have es:(arr.setIfInBounds (off + j) x).toList=arr.toList.take (off + j) ++ x :: arr.toList.drop (off + j + 1):=by
      rw [Array.toList_setIfInBounds,List.set_eq_take_append_cons_drop,if_pos (by simp;omega)]
    have lt:(arr.toList.take (off + j)).length=off + j:=by rw [List.length_take,Array.length_toList];omega
    have a1:∀ (U D:List α) (n:Nat),U.length=n→(U ++ x :: D).take (n + 1)=U ++ [x]:=fun U D n h=>by
      rw [List.take_append,List.take_of_length_le (by omega),show n + 1 - U.length=1 by omega];rfl
    have a2:∀ (U D:List α) (n k:Nat),U.length=n→(U ++ x :: D).drop (n + 1 + k)=D.drop k:=fun U D n k h=>by
      rw [List.drop_append,List.drop_eq_nil_of_le (by omega),show n + 1 + k - U.length=k + 1 by omega];rfl
    rw [es,show off + (j + 1)=(off + j) + 1 by omega,a1 _ _ _ lt,a2 _ _ _ _ lt,List.drop_drop,List.length_cons,show off + j + 1 + t.length=off + j + (t.length + 1) by omega]
    simp
section
variable {prog:Program} {w:World} {A:Around} {E:Value→Shared→Prop} {s:Shared} {κ:SortKind} {it:Nat→Keyed} {lt:Nat→Nat→Bool} {N:Nat}
theorem map_imZ (p:Array Nat):p.map it=imZ it p.toList:=by apply Array.toList_inj.mp;simp [imZ]
theorem wpS_setZ {M:Model} {st st':SortSt} {Q:PUnit→SortSt→Prop} (q:Q ⟨⟩ st'):wpS M A E s (set st':SMZ PUnit) Q st:=by
  unfold wpS
  exact wpAny_pure ⟨rfl,q⟩
theorem gt_listZ {p:Array Nat} {k:Nat} (h:k < p.size):p.toList[k]?=some (gt p k):=by
  rw [Array.getElem?_toList];exact gt_eq h
theorem seg_getZ {p:Array Nat} {lo m i:Nat} (h:lo + m≤p.size) (hi:i < m):((p.toList.drop lo).take m)[i]?=some (gt p (lo + i)):=by
  rw [List.getElem?_take_of_lt hi,List.getElem?_drop,gt_listZ (by omega)]
theorem seg_lenZ {p:Array Nat} {lo m:Nat} (h:lo + m≤p.size):((p.toList.drop lo).take m).length=m:=by
  rw [List.length_take,List.length_drop,Array.length_toList];omega
theorem seg_memZ {p:Array Nat} {lo m x:Nat} (h:lo + m≤p.size) (hx:x∈(p.toList.drop lo).take m):∃ i,i < m∧x=gt p (lo + i):=by
  obtain ⟨i,hi⟩:=List.getElem?_of_mem hx
  have il:=(List.getElem?_eq_some_iff.mp hi).1
  rw [seg_lenZ h] at il
  rw [seg_getZ h il] at hi
  exact ⟨i,il,(Option.some.inj hi).symm⟩
theorem seg_inZ {p:Array Nat} {lo m i:Nat} (h:lo + m≤p.size) (hi:i < m):gt p (lo + i)∈(p.toList.drop lo).take m:=List.mem_of_getElem? (seg_getZ h hi)
theorem seg_riseZ {p:Array Nat} {lo m:Nat} (h:lo + m≤p.size) (r:RiseSZ lt p lo m):((p.toList.drop lo).take m).Pairwise fun x y=>lt x y=true:=by
  rw [List.pairwise_iff_getElem]
  intro i j hi hj hij
  rw [seg_lenZ h] at hi hj
  have gi:=List.getElem?_eq_some_iff.mp (seg_getZ h hi)
  have gj:=List.getElem?_eq_some_iff.mp (seg_getZ h hj)
  rw [gi.2,gj.2]
  exact r i j hij hj
theorem RiseSZ.sub {p:Array Nat} {lo m k n:Nat} (r:RiseSZ lt p lo m) (h:k + n≤m):RiseSZ lt p (lo + k) n:=fun i j hij hj=>by
  have:=r (k + i) (k + j) (by omega) (by omega)
  rwa [← Nat.add_assoc,← Nat.add_assoc] at this
theorem RiseSZ.same {p p':Array Nat} {lo m:Nat} (r:RiseSZ lt p lo m) (h:∀ i,i < m→gt p' (lo + i)=gt p (lo + i)):RiseSZ lt p' lo m:=fun i j hij hj=>by
  rw [h i (by omega),h j hj];exact r i j hij hj
def putSegZ (p:Array Nat) (off:Nat) (m:List Nat):Array Nat:=(p.toList.take off ++ m ++ p.toList.drop (off + m.length)).toArray
theorem put_gtZ {p:Array Nat} {off:Nat} {m:List Nat} (h:off + m.length≤p.size) {k:Nat} (hk:k < p.size):gt (putSegZ p off m) k=if off≤k∧k < off + m.length then m.getD (k - off) 0 else gt p k:=by
  have lt:(p.toList.take off).length=off:=by rw [List.length_take,Array.length_toList];omega
  have e:gt (putSegZ p off m) k=((p.toList.take off ++ m ++ p.toList.drop (off + m.length))[k]?).getD 0:=by
    unfold gt putSegZ
    rw [Array.getD_eq_getD_getElem?]
    simp
  rw [e]
  by_cases c1:k < off
  · rw [if_neg (by omega),List.append_assoc,List.getElem?_append_left (by omega),List.getElem?_take_of_lt c1,gt_listZ hk];rfl
  · by_cases c2:k < off + m.length
    · rw [if_pos ⟨by omega,c2⟩,List.append_assoc,List.getElem?_append_right (by omega),lt,List.getElem?_append_left (by omega),List.getD_eq_getElem?_getD]
    · rw [if_neg (by omega),List.append_assoc,List.getElem?_append_right (by omega),lt,List.getElem?_append_right (by omega),List.getElem?_drop,show off + m.length + (k - off - m.length)=k by omega,gt_listZ hk];rfl
theorem put_permZ {p:Array Nat} {off:Nat} {m:List Nat} (hp:PP N p) (h:m.Perm ((p.toList.drop off).take m.length)):PP N (putSegZ p off m):=by
  refine Array.Perm.trans ?_ hp
  rw [Array.perm_iff_toList_perm]
  unfold putSegZ
  show (p.toList.take off ++ m ++ p.toList.drop (off + m.length)).Perm p.toList
  have e:p.toList=p.toList.take off ++ (p.toList.drop off).take m.length ++ p.toList.drop (off + m.length):=by
    rw [List.append_assoc,← List.drop_drop,List.take_append_drop,List.take_append_drop]
  conv=>rhs;rw [e]
  exact List.Perm.append_right _ (List.Perm.append_left _ h)
theorem wpS_mergeAtZ {st:SortSt} {p:Array Nat} {pre post:List (Nat × Nat × Nat)} {sa na pw sb nb pw2 i:Nat} {Q:Bool→SortSt→Prop} (S:SO lt N) (hc:CmpAtZ prog w A s κ it lt N) (h:SAZ κ it N p st) (hpd:pendingOf st=(pre ++ (sa,na,pw) :: (sb,nb,pw2) :: post).toArray) (hi:i=pre.length) (e:sb=sa + na) (r1:RiseSZ lt p sa na) (r2:RiseSZ lt p sb nb) (n1:0 < na) (n2:0 < nb) (hN:sb + nb≤N)
    (q:∀ p' st',SAZ κ it N p' st'→pendingOf st'=(pre ++ (sa,na + nb,pw) :: post).toArray→(∀ k,k < N→k < sa∨sa + na + nb≤k→gt p' k=gt p k)→RiseSZ lt p' sa (na + nb)→Q true st') :
    wpS (model prog w) A E s (mergeAt' i) Q st:=by
  subst hi
  have sz:=h.pp.size
  refine wpS_bind (wpS_get ?_)
  have g1:(pendingOf st)[pre.length]?=some (sa,na,pw):=by rw [hpd];simp
  have g2:(pendingOf st)[pre.length + 1]?=some (sb,nb,pw2):=by rw [hpd];simp
  have pd':((pendingOf st).setIfInBounds pre.length (sa,na + nb,pw)).eraseIdxIfInBounds (pre.length + 1)=(pre ++ (sa,na + nb,pw) :: post).toArray:=by
    rw [hpd]
    apply Array.toList_inj.mp
    simp only [List.setIfInBounds_toArray,List.eraseIdxIfInBounds_toArray]
    rw [List.set_append_right _ _ (Nat.le_refl _),Nat.sub_self,List.set_cons_zero,List.eraseIdx_append_of_length_le (by omega),show pre.length + 1 - pre.length=1 by omega]
    rfl
  rw [g1,g2]
  dsimp only
  refine wpS_bind (wpS_setZ ?_)
  rw [pd']
  have hA:arrOf st=imZ it p.toList:=by rw [h.a,map_imZ]
  have gb0:=h.pp.blt (k:=sb) (by omega)
  have inj:∀ {k l:Nat},k < N→l < N→k≠l→gt p k≠gt p l:=fun hk hl n z=>n (h.pp.inj hk hl z)
  have hA':(sortPriv% PySem.Builtin.SortState.a) st=imZ it p.toList:=hA
  rw [hA']
  refine wpS_bind (wpS_elemZ (im_getZ (gt_listZ (k:=sb) (by omega))) ?_)
  show wpS (model prog w) A E s _ Q (SortSt.mk' (kindOf st) (imZ it p.toList) (pre ++ (sa,na + nb,pw) :: post).toArray (gallopOf st) (failedOf st))
  generalize est:SortSt.mk' (kindOf st) (imZ it p.toList) (pre ++ (sa,na + nb,pw) :: post).toArray (gallopOf st) (failedOf st)=st1
  have h1:SAZ κ it N p st1:=by rw [← est];exact ⟨h.k,h.f,(map_imZ p).symm,h.pp⟩
  have hp1:pendingOf st1=(pre ++ (sa,na + nb,pw) :: post).toArray:=by rw [← est]
  refine wpS_bind (wpS_gallopZ S hc h1.k gb0 (fun x hx=>?_) (seg_riseZ (by omega) r1) (by rw [Array.length_toList];omega) n1 fun k hk lo hi=>?_)
  · obtain ⟨j,hj,rfl⟩:=seg_memZ (by omega) hx
    exact ⟨h.pp.blt (by omega),inj (by omega) (by omega) (by omega)⟩
  dsimp only
  -- the first part's ones ahead of all of the second part's
  have loA:∀ j,j < k→lt (gt p (sa + j)) (gt p sb)=true:=fun j hj=>lo _ (seg_inZ (by omega) hj)
  have hiA:∀ j,k≤j→j < na→lt (gt p sb) (gt p (sa + j))=true:=fun j h1 h2=>by
    refine hi _ ?_
    refine List.mem_of_getElem? (i:=j - k) ?_
    rw [List.getElem?_drop,show k + (j - k)=j by omega,seg_getZ (by omega) h2]
  have below:∀ j l,j < k→l < nb→lt (gt p (sa + j)) (gt p (sb + l))=true:=fun j l hj hl=>by
    by_cases c:l=0
    · rw [c];exact loA j hj
    · have:=r2 0 l (by omega) hl
      exact S.trans _ (gt p sb) _ (h.pp.blt (by omega)) gb0 (h.pp.blt (by omega)) (loA j hj) this
  by_cases c1:(na - k == 0)=true
  · rw [if_pos c1]
    have c1':na - k=0:=by simpa using c1
    refine wpS_pure (q p st1 h1 hp1 (fun _ _ _=>rfl) fun i j hij hj=>?_)
    by_cases d1:j < na
    · exact r1 i j hij d1
    · have ej:sa + j=sb + (j - na):=by omega
      by_cases d2:i < na
      · rw [ej];exact below i (j - na) (by omega) (by omega)
      · rw [ej,show sa + i=sb + (i - na) by omega]
        exact r2 _ _ (by omega) (by omega)
  · rw [if_neg c1]
    have c1':na - k≠0:=by simpa using c1
    have el:sa + k + (na - k) - 1=sb - 1:=by omega
    rw [el]
    refine wpS_bind (wpS_elemZ (im_getZ (gt_listZ (k:=sb - 1) (by omega))) ?_)
    refine wpS_bind (wpS_gallopZ S hc h1.k (h.pp.blt (k:=sb - 1) (by omega)) (fun x hx=>?_) (seg_riseZ (by omega) r2) (by rw [Array.length_toList];omega) (by omega) fun l hl lo2 hi2=>?_)
    · obtain ⟨j,hj,rfl⟩:=seg_memZ (by omega) hx
      exact ⟨h.pp.blt (by omega),inj (by omega) (by omega) (by omega)⟩
    dsimp only
    have loB:∀ j,j < l→lt (gt p (sb + j)) (gt p (sb - 1))=true:=fun j hj=>lo2 _ (seg_inZ (by omega) hj)
    have hiB:∀ j,l≤j→j < nb→lt (gt p (sb - 1)) (gt p (sb + j))=true:=fun j h1 h2=>by
      refine hi2 _ ?_
      refine List.mem_of_getElem? (i:=j - l) ?_
      rw [List.getElem?_drop,show l + (j - l)=j by omega,seg_getZ (by omega) h2]
    have above:∀ j i,l≤j→j < nb→i < na→lt (gt p (sa + i)) (gt p (sb + j))=true:=fun j i h1 h2 h3=>by
      by_cases c:i=na - 1
      · rw [c,show sa + (na - 1)=sb - 1 by omega];exact hiB j h1 h2
      · have:=r1 i (na - 1) (by omega) (by omega)
        rw [show sa + (na - 1)=sb - 1 by omega] at this
        exact S.trans _ (gt p (sb - 1)) _ (h.pp.blt (by omega)) (h.pp.blt (by omega)) (h.pp.blt (by omega)) this (hiB j h1 h2)
    by_cases c2:(l == 0)=true
    · rw [if_pos c2]
      have c2':l=0:=by simpa using c2
      refine wpS_pure (q p st1 h1 hp1 (fun _ _ _=>rfl) fun i j hij hj=>?_)
      by_cases d1:j < na
      · exact r1 i j hij d1
      · have ej:sa + j=sb + (j - na):=by omega
        by_cases d2:i < na
        · rw [ej];exact above (j - na) i (by omega) (by omega) d2
        · rw [ej,show sa + i=sb + (i - na) by omega]
          exact r2 _ _ (by omega) (by omega)
    · rw [if_neg c2]
      have c2':l≠0:=by simpa using c2
      rw [im_extZ,im_extZ,show sb - (sa + k)=na - k by omega,show sb + l - sb=l by omega]
      have rA:RiseSZ lt p (sa + k) (na - k):=r1.sub (by omega)
      have rB:RiseSZ lt p sb l:=fun i j hij hj=>r2 i j hij (by omega)
      have lA:=seg_lenZ (p:=p) (lo:=sa + k) (m:=na - k) (by omega)
      have lB:=seg_lenZ (p:=p) (lo:=sb) (m:=l) (by omega)
      have P:MPreZ lt N ((p.toList.drop (sa + k)).take (na - k)) ((p.toList.drop sb).take l):=by
        refine ⟨seg_riseZ (by omega) rA,seg_riseZ (by omega) rB,fun x hx=>?_,fun x hx=>?_,fun x hx y hy=>?_,by omega,by omega,fun y hy=>?_,fun x hx=>?_⟩
        · obtain ⟨j,hj,rfl⟩:=seg_memZ (by omega) hx
          exact h.pp.blt (by omega)
        · obtain ⟨j,hj,rfl⟩:=seg_memZ (by omega) hx
          exact h.pp.blt (by omega)
        · obtain ⟨j,hj,rfl⟩:=seg_memZ (by omega) hx
          obtain ⟨j',hj',rfl⟩:=seg_memZ (by omega) hy
          exact inj (by omega) (by omega) (by omega)
        · obtain ⟨j,hj,rfl⟩:=seg_memZ (by omega) hy
          have eb:((p.toList.drop sb).take l).getD 0 0=gt p sb:=by rw [List.getD_eq_getElem?_getD,seg_getZ (by omega) (by omega)];rfl
          rw [eb,show sa + k + j=sa + (k + j) by omega]
          exact hiA _ (by omega) (by omega)
        · obtain ⟨j,hj,rfl⟩:=seg_memZ (by omega) hx
          have ea:((p.toList.drop (sa + k)).take (na - k)).getD (((p.toList.drop (sa + k)).take (na - k)).length - 1) 0=gt p (sb - 1):=by
            rw [lA,List.getD_eq_getElem?_getD,seg_getZ (by omega) (by omega),show sa + k + (na - k - 1)=sb - 1 by omega];rfl
          rw [ea]
          exact loB j hj
      have fin:∀ m st',ResZ lt ((p.toList.drop (sa + k)).take (na - k)) ((p.toList.drop sb).take l) m→SteZ κ st1 st'→wpS (model prog w) A E s (do
          modify fun z=>setArr z ((imZ it m).toList.zipIdx.foldl (fun a x=>match x with | (p,j)=>a.setIfInBounds (sa + k + j) p) (arrOf z))
          let z ← get
          pure (failedOf z).isNone:SMZ Bool) Q st':=by
        intro m st' R T
        have lm:m.length=na - k + l:=by have:=R.pe.length_eq;rw [List.length_append,lA,lB] at this;exact this
        have ea:arrOf st'=imZ it p.toList:=by rw [T.a,h1.a,map_imZ]
        refine wpS_bind (wpS_modify (wpS_bind (wpS_get (wpS_pure ?_))))
        have ef:(imZ it m).toList.zipIdx.foldl (fun a x=>match x with | (p,j)=>a.setIfInBounds (sa + k + j) p) (arrOf st')=(putSegZ p (sa + k) m).map it:=by
          rw [ea]
          have:=fold_setZ (sa + k) (imZ it m).toList (imZ it p.toList) 0 (by
            have e1:(imZ it m).toList.length=m.length:=by simp [imZ]
            have e2:(imZ it p.toList).size=p.size:=by simp [imZ]
            omega)
          rw [this]
          unfold putSegZ
          simp [imZ,List.map_take,List.map_drop]
        show Q (failedOf (setArr st' ((imZ it m).toList.zipIdx.foldl (fun a x=>match x with | (p,j)=>a.setIfInBounds (sa + k + j) p) (arrOf st')))).isNone (setArr st' ((imZ it m).toList.zipIdx.foldl (fun a x=>match x with | (p,j)=>a.setIfInBounds (sa + k + j) p) (arrOf st')))
        rw [ef]
        have en:(failedOf (setArr st' ((putSegZ p (sa + k) m).map it))).isNone=true:=by show (failedOf st').isNone=true;rw [T.f];rfl
        rw [en]
        have ab:(p.toList.drop (sa + k)).take (na - k) ++ (p.toList.drop sb).take l=(p.toList.drop (sa + k)).take m.length:=by
          rw [lm,List.take_add,List.drop_drop,show sa + k + (na - k)=sb by omega]
        have pp':PP N (putSegZ p (sa + k) m):=put_permZ h.pp (by rw [← ab];exact R.pe)
        have gp:∀ j,j < N→gt (putSegZ p (sa + k) m) j=if sa + k≤j∧j < sa + k + m.length then m.getD (j - (sa + k)) 0 else gt p j:=fun j hj=>put_gtZ (by omega) (by omega)
        -- what lies in m
        have mm:∀ j,j < m.length→(∃ i,k≤i∧i < na∧m.getD j 0=gt p (sa + i))∨∃ i,i < l∧m.getD j 0=gt p (sb + i):=fun j hj=>by
          have gm:m[j]?=some (m.getD j 0):=by rw [List.getD_eq_getElem?_getD,List.getElem?_eq_getElem hj];rfl
          have:=R.pe.mem_iff.mp (List.mem_of_getElem? gm)
          rcases List.mem_append.mp this with z | z
          · obtain ⟨i,hi,e⟩:=seg_memZ (by omega) z
            exact .inl ⟨k + i,by omega,by omega,by rw [e,show sa + k + i=sa + (k + i) by omega]⟩
          · obtain ⟨i,hi,e⟩:=seg_memZ (by omega) z
            exact .inr ⟨i,hi,e⟩
        refine q _ _ ⟨T.k,T.f,rfl,pp'⟩ (by show pendingOf st'=_;rw [T.p,hp1]) (fun j hj hc=>?_) fun i j hij hj=>?_
        · rw [gp j hj,if_neg (by omega)]
        · rw [gp _ (by omega),gp _ (by omega)]
          by_cases i1:i < k
          · rw [if_neg (by omega)]
            by_cases j1:j < k
            · rw [if_neg (by omega)];exact r1 i j hij (by omega)
            · by_cases j2:j < na + l
              · rw [if_pos ⟨by omega,by omega⟩]
                rcases mm (sa + j - (sa + k)) (by omega) with ⟨u,u1,u2,eu⟩ | ⟨u,u1,eu⟩
                · rw [eu];exact r1 i u (by omega) u2
                · rw [eu];exact below i u i1 (by omega)
              · rw [if_neg (by omega),show sa + j=sb + (j - na) by omega]
                exact below i _ i1 (by omega)
          · by_cases i2:i < na + l
            · rw [if_pos ⟨by omega,by omega⟩]
              by_cases j2:j < na + l
              · rw [if_pos ⟨by omega,by omega⟩]
                have a1:sa + i - (sa + k) < m.length:=by omega
                have a2:sa + j - (sa + k) < m.length:=by omega
                rw [List.getD_eq_getElem?_getD,List.getD_eq_getElem?_getD,List.getElem?_eq_getElem a1,List.getElem?_eq_getElem a2]
                exact List.pairwise_iff_getElem.mp R.so _ _ a1 a2 (by omega)
              · rw [if_neg (by omega),show sa + j=sb + (j - na) by omega]
                rcases mm (sa + i - (sa + k)) (by omega) with ⟨u,u1,u2,eu⟩ | ⟨u,u1,eu⟩
                · rw [eu];exact above _ u (by omega) (by omega) u2
                · rw [eu];exact r2 u _ (by omega) (by omega)
            · rw [if_neg (by omega),if_neg (by omega),show sa + j=sb + (j - na) by omega,show sa + i=sb + (i - na) by omega]
              exact r2 _ _ (by omega) (by omega)
      have k1:SteZ κ st1 st1:=⟨h1.k,h1.f,rfl,rfl⟩
      by_cases c3:na - k≤l
      · rw [if_pos c3]
        exact wpS_bind (wpS_mergeLoZ S hc k1 P fin)
      · rw [if_neg c3]
        exact wpS_bind (wpS_mergeHiZ S hc k1 P fin)
end
end L2
namespace L2
open PySem PySem.W PyProof.Rows
abbrev RnZ:=Nat × Nat × Nat
def RunsZ (lt:Nat→Nat→Bool) (p:Array Nat):List RnZ→Nat→Nat→Prop
  | [],a,b=>a=b
  | x :: r,a,b=>x.1=a∧0 < x.2.1∧RiseSZ lt p a x.2.1∧RunsZ lt p r (a + x.2.1) b
section
variable {lt:Nat→Nat→Bool} {p p':Array Nat}
theorem RunsZ.app:∀ {L M:List RnZ} {a b:Nat},RunsZ lt p (L ++ M) a b↔∃ c,RunsZ lt p L a c∧RunsZ lt p M c b
  | [],M,a,b=>⟨fun h=>⟨a,rfl,h⟩,fun ⟨c,e,h⟩=>by cases e;exact h⟩
  | x :: L,M,a,b=>by
    constructor
    · rintro ⟨h1,h2,h3,h4⟩
      obtain ⟨c,h5,h6⟩:=RunsZ.app.mp h4
      exact ⟨c,⟨h1,h2,h3,h5⟩,h6⟩
    · rintro ⟨c,⟨h1,h2,h3,h5⟩,h6⟩
      exact ⟨h1,h2,h3,RunsZ.app.mpr ⟨c,h5,h6⟩⟩
theorem RunsZ.len:∀ {L:List RnZ} {a b:Nat},RunsZ lt p L a b→a + L.length≤b
  | [],a,b,h=>by have h:a=b:=h;simp;omega
  | x :: L,a,b,⟨h1,h2,h3,h4⟩=>by have:=RunsZ.len h4;simp;omega
theorem RunsZ.same:∀ {L:List RnZ} {a b:Nat},RunsZ lt p L a b→(∀ k,a≤k→k < b→gt p' k=gt p k)→RunsZ lt p' L a b
  | [],a,b,h,_=>h
  | x :: L,a,b,⟨h1,h2,h3,h4⟩,k=>by
    have:=RunsZ.len h4
    exact ⟨h1,h2,h3.same fun i hi=>k _ (by omega) (by omega),RunsZ.same h4 fun j h5 h6=>k j (by omega) h6⟩
theorem RunsZ.power {pw:Nat}:∀ {L:List RnZ} {a b:Nat} (k:Nat),RunsZ lt p L a b→RunsZ lt p (L.modify k fun x=>(x.1,x.2.1,pw)) a b
  | [],a,b,k,h=>by cases k <;> exact h
  | x :: L,a,b,0,⟨h1,h2,h3,h4⟩=>⟨h1,h2,h3,h4⟩
  | x :: L,a,b,k + 1,⟨h1,h2,h3,h4⟩=>⟨h1,h2,h3,RunsZ.power k h4⟩
end
section
variable {prog:Program} {w:World} {A:Around} {E:Value→Shared→Prop} {s:Shared} {κ:SortKind} {it:Nat→Keyed} {lt:Nat→Nat→Bool} {N:Nat}
structure SRZ (κ:SortKind) (it:Nat→Keyed) (lt:Nat→Nat→Bool) (N lo:Nat) (p:Array Nat) (L:List RnZ) (st:SortSt):Prop where
  h:SAZ κ it N p st
  d:pendingOf st=L.toArray
  r:RunsZ lt p L 0 lo
  l:lo≤N
theorem wpS_mergeZ {st:SortSt} {p:Array Nat} {L:List RnZ} {lo i:Nat} {Q:Bool→SortSt→Prop} (S:SO lt N) (hc:CmpAtZ prog w A s κ it lt N) (h:SRZ κ it lt N lo p L st) (hi:i + 2≤L.length)
    (q:∀ p' L' st',SRZ κ it lt N lo p' L' st'→L'.length + 1=L.length→(∀ k,lo≤k→k < N→gt p' k=gt p k)→Q true st'):wpS (model prog w) A E s (mergeAt' i) Q st:=by
  obtain ⟨x,hx⟩:∃ x,L[i]?=some x:=⟨_,List.getElem?_eq_getElem (by omega)⟩
  obtain ⟨y,hy⟩:∃ y,L[i + 1]?=some y:=⟨_,List.getElem?_eq_getElem (by omega)⟩
  have e:L=L.take i ++ x :: y :: L.drop (i + 2):=by
    obtain ⟨l1,rfl⟩:=List.getElem?_eq_some_iff.mp hx
    obtain ⟨l2,rfl⟩:=List.getElem?_eq_some_iff.mp hy
    rw [← List.drop_eq_getElem_cons l2,← List.drop_eq_getElem_cons l1,List.take_append_drop]
  have lp:(L.take i).length=i:=by rw [List.length_take];omega
  have r:=h.r
  have hd:=h.d
  rw [e] at r hd
  obtain ⟨c,r1,x1,x2,x3,y1,y2,y3,r2⟩:=RunsZ.app.mp r
  obtain ⟨sa,na,pw⟩:=x
  obtain ⟨sb,nb,pw2⟩:=y
  dsimp only at *
  subst x1
  subst y1
  have:=r2.len
  have hl:=h.l
  refine wpS_mergeAtZ S hc h.h hd lp.symm rfl x3 y3 x2 y2 (by omega) fun p' st' h' d' kp r'=>?_
  refine q p' (L.take i ++ (sa,na + nb,pw) :: L.drop (i + 2)) st' ⟨h',d',?_,hl⟩ ?_ fun k h1 h2=>kp k h2 (by omega)
  · refine RunsZ.app.mpr ⟨sa,r1.same fun k h1 h2=>kp k (by omega) (by omega),rfl,by dsimp only;omega,r',?_⟩
    dsimp only
    rw [← Nat.add_assoc]
    exact r2.same fun k h1 h2=>kp k (by omega) (by omega)
  · have e2:=congrArg List.length e
    simp only [List.length_append,List.length_cons] at e2 ⊢
    omega
def srCZ (size pw:Nat):SMZ (Option Unit × Unit) :=
  forIn [:size] (none,()) fun _ _=>do
    let z ← get
    match (if (pendingOf z).size > 1 then (pendingOf z)[(pendingOf z).size - 2]? else none) with
    | some (_,_,older)=>if older≤pw then pure (.done (none,())) else do
        let ok ← mergeAt' ((pendingOf z).size - 2)
        if (!ok)=true then pure (.done (some (),())) else pure (.yield (none,()))
    | _=>pure (.done (none,()))
theorem wpS_srCZ {st:SortSt} {p:Array Nat} {L:List RnZ} {size lo n pw:Nat} {Q:Option Unit × Unit→SortSt→Prop} (S:SO lt N) (hc:CmpAtZ prog w A s κ it lt N) (h:SRZ κ it lt N lo p L st) (n2:lo + n≤N) (r:RiseSZ lt p lo n) (q:∀ p' L' st',SRZ κ it lt N lo p' L' st'→RiseSZ lt p' lo n→Q (none,()) st'):wpS (model prog w) A E s (srCZ size pw) Q st:=by
  unfold srCZ
  refine wpS_forRange (fun _ c st'=>∃ p' L',c=(none,())∧SRZ κ it lt N lo p' L' st'∧RiseSZ lt p' lo n) ?_ ?_ ⟨p,L,rfl,h,r⟩
  · rintro x c st' _ hx ⟨p',L',rfl,h',r'⟩
    refine wpS_bind (wpS_get ?_)
    by_cases c1:(pendingOf st').size > 1
    · rw [if_pos c1]
      rw [h'.d,List.size_toArray] at c1
      obtain ⟨⟨a1,a2,a3⟩,ha⟩:∃ y,(pendingOf st')[(pendingOf st').size - 2]?=some y:=⟨_,by rw [h'.d];exact Array.getElem?_eq_getElem (by simp;omega)⟩
      rw [ha]
      dsimp only
      by_cases c2:a3≤pw
      · rw [if_pos c2]
        exact wpS_pure (q p' L' st' h' r')
      · rw [if_neg c2]
        refine wpS_bind (wpS_mergeZ S hc h' (by rw [h'.d,List.size_toArray];omega) fun p2 L2 st2 h2 _ kp=>?_)
        rw [if_neg (by decide)]
        exact wpS_pure ⟨p2,L2,rfl,h2,r'.same fun i hi=>kp _ (by omega) (by omega)⟩
    · rw [if_neg c1]
      exact wpS_pure (q p' L' st' h' r')
  · rintro c st' ⟨p',L',rfl,h',r'⟩
    exact q p' L' st' h' r'
theorem wpS_runsZ {st:SortSt} {p:Array Nat} {Q:Unit→SortSt→Prop} (S:SO lt N) (hc:CmpAtZ prog w A s κ it lt N) (h:SAZ κ it N p st) (hd:pendingOf st=#[]) (hN:1≤N) (q:∀ p' st',SAZ κ it N p' st'→Rise lt p' N→Q () st'):wpS (model prog w) A E s sortRuns' Q st:=by
  have sz:=h.pp.size
  have size:(arrOf st).size=N:=by rw [h.a,Array.size_map,sz]
  refine wpS_bind (wpS_get ?_)
  have size':((sortPriv% PySem.Builtin.SortState.a) st).size=N:=size
  rw [size']
  refine wpS_bind (wpS_mono (wpS_forRange (fun x c st'=>∃ p L lo,c=(none,lo)∧SRZ κ it lt N lo p L st'∧x≤lo) (Q:=fun c st'=>∃ p L,c=(none,N)∧SRZ κ it lt N N p L st') ?step ?fin ⟨p,[],0,rfl,⟨h,hd,rfl,by omega⟩,Nat.le_refl _⟩) ?post)
  case fin =>
    rintro c st' ⟨p,L,lo,rfl,h,hx⟩
    have:=h.l
    obtain rfl:lo=N:=by omega
    exact ⟨p,L,rfl,h⟩
  case step =>
    rintro x c st' _ hx ⟨p,L,lo,rfl,h,hxl⟩
    dsimp only
    have hl:=h.l
    by_cases c1:lo ≥ N
    · rw [if_pos c1]
      obtain rfl:lo=N:=by omega
      exact wpS_pure ⟨p,L,rfl,h⟩
    · rw [if_neg c1]
      refine wpS_bind (wpS_countZ S hc h.h (by omega) (by omega) fun m p' m1 m2 h' kp r=>?_)
      dsimp only
      have R:SRZ κ it lt N lo p' L (setArr st' (p'.map it)):=⟨h',h.d,h.r.same fun k h1 h2=>kp k h2,hl⟩
      have fin:∀ {n:Nat} {p3:Array Nat} {L3:List RnZ} {st3:SortSt},0 < n→lo + n≤N→SRZ κ it lt N lo p3 L3 st3→RiseSZ lt p3 lo n→∃ p L lo',((none,lo + n):Option Unit × Nat)=(none,lo')∧SRZ κ it lt N lo' p L (setPending st3 ((pendingOf st3).push (lo,n,0)))∧x + 1≤lo':=fun {n p3 L3 st3} n1 n2 h3 r3=>by
        refine ⟨p3,L3 ++ [(lo,n,0)],lo + n,rfl,⟨⟨h3.h.k,h3.h.f,h3.h.a,h3.h.pp⟩,?_,RunsZ.app.mpr ⟨lo,h3.r,rfl,n1,r3,rfl⟩,n2⟩,by omega⟩
        show (pendingOf st3).push (lo,n,0)=_
        rw [h3.d];simp
      have hpw:∀ {pw:Nat} {p3:Array Nat} {L3:List RnZ} {st3:SortSt},SRZ κ it lt N lo p3 L3 st3→SRZ κ it lt N lo p3 (L3.modify (L3.length - 1) fun x=>(x.1,x.2.1,pw)) (setPending st3 ((pendingOf st3).modify ((pendingOf st3).size - 1) fun x=>(x.1,x.2.1,pw))):=fun {pw p3 L3 st3} h3=>by
        refine ⟨⟨h3.h.k,h3.h.f,h3.h.a,h3.h.pp⟩,?_,RunsZ.power _ h3.r,h3.l⟩
        have pe:∀ x,pendingOf (setPending st3 x)=x:=fun _=>rfl
        rw [pe,h3.d]
        simp
      generalize hmr:(sortPriv% PySem.Builtin.minRun) N N 0=mr
      by_cases c2:m < mr
      · rw [if_pos c2]
        refine wpS_bind (wpS_lift (wpAny_rule ⟨rfl,?_⟩))
        refine wpS_bind (wpS_binZ S hc h' m1 (by omega) (by omega) r fun p2 h2 kp2 r2=>?_)
        rw [if_neg (by decide)]
        have R2:SRZ κ it lt N lo p2 L (setArr (setArr st' (p'.map it)) (p2.map it)):=⟨h2,h.d,R.r.same fun k h1 h2=>kp2 k h2,hl⟩
        refine wpS_bind (wpS_get ?_)
        generalize ebk:((sortPriv% PySem.Builtin.SortState.pending) (setArr (setArr st' (p'.map it)) (p2.map it))).back?=bk
        cases bk with
        | none =>
          refine wpS_bind (wpS_modify (wpS_pure ?_))
          exact fin (by omega) (by omega) R2 r2
        | some y =>
          obtain ⟨s1,u1,u⟩:=y
          refine wpS_bind (wpS_srCZ S hc R2 (by omega) r2 fun p3 L3 st3 h3 r3=>?_)
          refine wpS_bind (wpS_modify (wpS_bind (wpS_modify (wpS_pure ?_))))
          exact fin (by omega) (by omega) (hpw h3) r3
      · rw [if_neg c2]
        refine wpS_bind (wpS_get ?_)
        generalize ebk:((sortPriv% PySem.Builtin.SortState.pending) (setArr st' (p'.map it))).back?=bk
        cases bk with
        | none =>
          refine wpS_bind (wpS_modify (wpS_pure ?_))
          exact fin (by omega) (by omega) R r
        | some y =>
          obtain ⟨s1,u1,u⟩:=y
          refine wpS_bind (wpS_srCZ S hc R (by omega) r fun p3 L3 st3 h3 r3=>?_)
          refine wpS_bind (wpS_modify (wpS_bind (wpS_modify (wpS_pure ?_))))
          exact fin (by omega) (by omega) (hpw h3) r3
  case post =>
    rintro c st' ⟨p,L,rfl,h⟩
    dsimp only
    refine wpS_bind (wpS_mono (wpS_forRange (fun x c st'=>∃ p L,c=(none,())∧SRZ κ it lt N N p L st'∧L.length + x≤N + 1) (Q:=fun c st'=>∃ p L,c=(none,())∧SRZ κ it lt N N p L st'∧L.length≤1) ?step2 ?fin2 ⟨p,L,rfl,h,by have:=h.r.len;omega⟩) ?post2)
    case fin2 =>
      rintro c st' ⟨p,L,rfl,h,hl⟩
      exact ⟨p,L,rfl,h,by omega⟩
    case step2 =>
      rintro x c st' _ hx ⟨p,L,rfl,h,hl⟩
      refine wpS_bind (wpS_get ?_)
      have ps:(pendingOf st').size=L.length:=by rw [h.d,List.size_toArray]
      have ps':((sortPriv% PySem.Builtin.SortState.pending) st').size=L.length:=ps
      rw [ps']
      by_cases c1:L.length≤1
      · rw [if_pos c1]
        exact wpS_pure ⟨p,L,rfl,h,c1⟩
      · rw [if_neg c1]
        refine wpS_bind (wpS_mergeZ S hc h ?_ fun p2 L2 st2 h2 l2 _=>?_)
        · have hh:∀ b:Bool,(if b=true then L.length - 2 - 1 else L.length - 2) + 2≤L.length:=fun b=>by cases b <;> simp <;> omega
          exact hh _
        · rw [if_neg (by decide)]
          exact wpS_pure ⟨p2,L2,rfl,h2,by omega⟩
    case post2 =>
      rintro c st' ⟨p,L,rfl,h,hl⟩
      refine wpS_pure (q p st' h.h ?_)
      have r:=h.r
      match L,r,hl with
      | [],r,_=>exact absurd (show (0:Nat)=N from r) (by omega)
      | [x],⟨x1,x2,x3,x4⟩,_ =>
        have x4:0 + x.2.1=N:=x4
        intro i j hij hj
        have:=x3 i j hij (by omega)
        rwa [Nat.zero_add,Nat.zero_add] at this
end
end L2
namespace L2
open PySem PySem.W PyProof.Rows
def Kp (a:Addr) (h h':Heap):Prop:=∀ b o,b≠a→h.get? b=some o→h'.get? b=some o
def outOf (vs:List Value) (p:Array Nat):List Value:=p.toList.map fun i=>vs.getD i Value.none
theorem outOf_range (vs:List Value):outOf vs (List.toArray (List.range vs.length))=vs:=by
  unfold outOf
  apply List.ext_getElem?
  intro i
  simp only [List.getElem?_map]
  by_cases h:i < vs.length
  · rw [List.getElem?_eq_getElem (l:=vs) h]
    simp [List.getElem?_range h,h]
  · rw [List.getElem?_eq_none (by omega:vs.length≤i)]
    simp
    omega
section
variable {P:Program} {w:World} {A:Around} {E:Value→Shared→Prop} {s:Shared}
theorem run_any {vs:List Value} {κ:SortKind} {lt:Nat→Nat→Bool} {Q:SortSt→Shared→Prop} (h1:1≤vs.length) (S:SO lt vs.length) (hc:∀ i j C,i < vs.length→j < vs.length→i≠j→C (lt i j) s→kas_ask P w A κ vs i j C s)
    (q:∀ p st,arrOf st=p.map (kas_item (vs.toArray.zip vs.toArray))→failedOf st=none→PP vs.length p→Rise lt p vs.length→Q st s):wpAny (model P w) A ((sortRuns').run (SortSt.mk' κ (vs.toArray.zip vs.toArray) #[] 7 none)) (fun r s'=>Q r.2 s') E s:=by
  have e:=kas_range (vs.toArray.zip vs.toArray)
  rw [show (vs.toArray.zip vs.toArray).size=vs.length by simp] at e
  have hA:SAZ κ (kas_item (vs.toArray.zip vs.toArray)) vs.length (List.toArray (List.range vs.length)) (SortSt.mk' κ (vs.toArray.zip vs.toArray) #[] 7 none):=⟨rfl,rfl,e.symm,Array.Perm.refl _⟩
  have C:CmpAtZ P w A s κ (kas_item (vs.toArray.zip vs.toArray)) lt vs.length:=fun i j C hi hj hij h=>by
    have:=hc i j C hi hj hij h
    rw [kat_ask_eq (vs:=vs) rfl] at this
    exact this
  exact wpAny_mono (wpS_runsZ (E:=E) S C hA rfl h1 (Q:=fun _ st=>Q st s) fun p st h r=>q p st h.a h.f h.pp r) (fun r s' h=>by obtain ⟨rfl,h⟩:=h;exact h) fun _ _ e=>e
end
section
variable {P:Program} {w:World} {A:Around} {E:Value→Shared→Prop} {s:Shared}
theorem lsort_pure {a:Addr} {vs:List Value} {n:Nat} {κ:SortKind} {lt:Nat→Nat→Bool} {R:PySem.Fin→Shared→Prop} (ho:s.heap.get? a=some (seqObj "list" vs.toArray n)) (h64:vs.length < 1000)
    (hk:2≤vs.length→∀ (h:Heap) (Q:SortKind→Shared→Prop),Kp a s.heap h→Q κ { s with heap:=h }→wpAny (model P w) A (keyKind' vs.toArray) Q (fun _ _=>False) { s with heap:=h })
    (hc:∀ (h:Heap) i j C,Kp a s.heap h→i < vs.length→j < vs.length→i≠j→C (lt i j) { s with heap:=h }→kas_ask P w A κ vs i j C { s with heap:=h }) (S:SO lt vs.length)
    (fin:∀ h p c,Kp a s.heap h→h.get? a=some (seqObj "list" (outOf vs p).toArray c)→PP vs.length p→Rise lt p vs.length→R (.done (.ret .none)) { s with heap:=h }) :
    wpAny (model P w) A (Builtin.«list.sort» ⟨[.ref a],[]⟩) R E s:=by
  have ha:a < s.heap.objs.size:=Heap.lt_size ho
  obtain ⟨e1,o1⟩:∃ e1,(s.heap.update a (Obj.mapSeq fun _=>(#[]:Array Value))).get? a=some (seqObj "list" #[] e1):=⟨_,get?_update_seq ho fun _=>#[]⟩
  have k1:Kp a s.heap (((s.heap.update a (Obj.mapSeq fun _=>(#[]:Array Value))).push (seqObj "tuple" vs.toArray 0)).push (seqObj "list" #[] 0)):=fun b o hb e =>
    Heap.get?_push_of_some _ (Heap.get?_push_of_some _ ((Heap.get?_update_other _ _ (Ne.symm hb)).trans e))
  have o3:(((s.heap.update a (Obj.mapSeq fun _=>(#[]:Array Value))).push (seqObj "tuple" vs.toArray 0)).push (seqObj "list" #[] 0)).get? a=some (seqObj "list" #[] e1):=Heap.get?_push_of_some _ (Heap.get?_push_of_some _ o1)
  have last:∀ out:List Value,out.length=vs.length→∃ c,((((s.heap.update a (Obj.mapSeq fun _=>(#[]:Array Value))).push (seqObj "tuple" vs.toArray 0)).push (seqObj "list" #[] 0)).update a (Obj.mapSeq fun _=>out.toArray)).get? a=some (seqObj "list" out.toArray c):=fun out _=>⟨_,get?_update_seq o3 fun _=>out.toArray⟩
  have keep2:∀ out:List Value,Kp a s.heap ((((s.heap.update a (Obj.mapSeq fun _=>(#[]:Array Value))).push (seqObj "tuple" vs.toArray 0)).push (seqObj "list" #[] 0)).update a (Obj.mapSeq fun _=>out.toArray)):=fun out b o hb e =>
    (Heap.get?_update_other _ _ (Ne.symm hb)).trans (k1 b o hb e)
  rw [list_sort_plain];refine wpAny_bind (listItems_at ho rfl ?_)
  refine wpAny_bind (listUpdate_at ho rfl ?_ (by rw [List.size_toArray,sizeLine_eq];omega) (Nat.zero_le _));refine wpAny_bind (seqEpoch_at o1 rfl ?_)
  refine wpAny_bind (wpAny_newTuple ?_ (by show vs.length≤_;rw [sizeLine_eq];omega));refine wpAny_bind (wpAny_newList ?_ (Nat.zero_le _));refine wpAny_holding ?_
  show wpAny (model P w) A _ R E { s with heap:=((s.heap.update a (Obj.mapSeq fun _=>(#[]:Array Value))).push (seqObj "tuple" vs.toArray 0)).push (seqObj "list" #[] 0) }
  generalize hH:((s.heap.update a (Obj.mapSeq fun _=>(#[]:Array Value))).push (seqObj "tuple" vs.toArray 0)).push (seqObj "list" #[] 0)=g at *
  dsimp only
  have up:∀ out:List Value,out.length=vs.length→∀ p,out=outOf vs p→PP vs.length p→Rise lt p vs.length→R (.done (.ret .none)) { s with heap:=g.update a (Obj.mapSeq fun _=>out.toArray) }:=fun out hl p e hp hr=>by
    obtain ⟨c,hcc⟩:=last out hl
    refine fin _ p c (keep2 out) ?_ hp hr
    rw [← e];exact hcc
  by_cases h2:vs.toArray.size < 2
  · have hl2:vs.length < 2:=by simpa using h2
    rw [if_pos h2,if_pos h2];refine wpAny_bind (wpAny_pure ?_);rw [StateT.run_pure];refine wpAny_bind (wpAny_pure ?_)
    dsimp only
    have ez:((vs.toArray.zip vs.toArray).map (·.2))=vs.toArray:=by
      apply Array.toList_inj.mp
      rw [Array.toList_map,Array.toList_zip]
      simp [List.map_snd_zip]
    refine wpAny_bind (seqEpoch_at o3 rfl ?_)
    rw [show (arrOf (SortSt.mk' general' (vs.toArray.zip vs.toArray) #[] 7 none))=vs.toArray.zip vs.toArray from rfl,ez]
    refine wpAny_bind (listUpdate_at o3 rfl ?_ (Nat.zero_le _) (by rw [List.size_toArray,sizeLine_eq];omega))
    simp only [bne_self_eq_false,Bool.false_eq_true,if_false]
    exact wpAny_pure (up vs rfl _ (outOf_range vs).symm (Array.Perm.refl _) fun i j hij hj=>by omega)
  · have hl2:2≤vs.length:=by simpa using h2
    rw [if_neg h2,if_neg h2];refine wpAny_bind (wpAny_mono (hk hl2 g (fun κ' s'=>κ'=κ∧s'={ s with heap:=g }) k1 ⟨rfl,rfl⟩) (fun κ' s' hs=>?_) fun _ _ x=>x.elim)
    obtain ⟨rfl,rfl⟩:=hs
    refine wpAny_bind (wpAny_mono (run_any (s:={ s with heap:=g }) (vs:=vs) (κ:=κ') (lt:=lt) (Q:=fun st s'=>∃ p:Array Nat,arrOf st=p.map (kas_item (vs.toArray.zip vs.toArray))∧failedOf st=none∧s'={ s with heap:=g }∧PP vs.length p∧Rise lt p vs.length) (by omega) S (fun i j C hi hj hij hC=>hc g i j C k1 hi hj hij hC) fun p st a2 a3 a4 a5=>⟨p,a2,a3,rfl,a4,a5⟩) ?_ fun _ _ e=>e)
    rintro ⟨⟨⟩,st⟩ s' ⟨p,har,hf,rfl,hp,hr⟩
    dsimp only
    have out:=kat_snds (ks:=vs) rfl har
    have ol:(outOf vs p).length=vs.length:=by unfold outOf;rw [List.length_map,Array.length_toList,hp.size]
    rw [out];refine wpAny_bind (seqEpoch_at o3 rfl ?_)
    refine wpAny_bind (listUpdate_at o3 rfl ?_ (Nat.zero_le _) (by show (List.toArray (outOf vs p)).size≤_;rw [List.size_toArray,ol,sizeLine_eq];omega));rw [hf]
    simp only [bne_self_eq_false,Bool.false_eq_true,if_false]
    exact wpAny_pure (up (outOf vs p) ol p rfl hp hr)
end
end L2
namespace L2
open PySem PySem.W PyProof.Rows
def placeLt (a b:Str × Int):Bool:=if a.1=b.1 then decide (a.2 < b.2) else decide (a.1.cps.toList < b.1.cps.toList)
def PlAt (h:Heap) (v:Value) (q:Str × Int):Prop:=∃ a o t u n,v=.ref a∧h.get? a=some o∧o.cls=.type "tuple"∧o.data=.seq #[.str q.1 t,.int q.2 u] n
section
variable {P:Program} {w:World} {A:Around} {E:Value→Shared→Prop} {s:Shared}
end
theorem str_cps_inj {x y:Str} (h:x.cps.toList=y.cps.toList):x=y:=by
  obtain ⟨a⟩:=x
  obtain ⟨b⟩:=y
  have:a=b:=Array.toList_inj.mp h
  rw [this]
theorem placeLt_so {qs:List (Str × Int)} (hn:qs.Nodup):SO (fun i j=>placeLt (qs.getD i ("",0)) (qs.getD j ("",0))) qs.length where
  irr:=fun i _=>by
    unfold placeLt
    rw [if_pos rfl]
    exact decide_eq_false (by omega)
  trans:=fun i j k _ _ _ h1 h2=>by
    generalize qs.getD i ("",0)=a at *
    generalize qs.getD j ("",0)=b at *
    generalize qs.getD k ("",0)=c at *
    unfold placeLt at *
    by_cases e1:a.1=b.1
    · rw [if_pos e1] at h1
      by_cases e2:b.1=c.1
      · rw [if_pos e2] at h2
        rw [if_pos (e1.trans e2)]
        have h1:=of_decide_eq_true h1
        have h2:=of_decide_eq_true h2
        exact decide_eq_true (by omega)
      · rw [if_neg e2] at h2
        rw [if_neg (by rw [e1];exact e2),e1]
        exact h2
    · rw [if_neg e1] at h1
      have h1:=of_decide_eq_true h1
      by_cases e2:b.1=c.1
      · rw [if_neg (by rw [← e2];exact e1),← e2]
        exact decide_eq_true h1
      · rw [if_neg e2] at h2
        have h2:=of_decide_eq_true h2
        have h3:=List.lt_trans h1 h2
        rw [if_neg (fun z=>by rw [z] at h3;exact List.lt_irrefl _ h3)]
        exact decide_eq_true h3
  tot:=fun i j hi hj hij h=>by
    have ne:qs.getD i ("",0)≠qs.getD j ("",0):=fun z=>hij (by
      rw [List.getD_eq_getElem?_getD,List.getD_eq_getElem?_getD,List.getElem?_eq_getElem hi,List.getElem?_eq_getElem hj] at z
      exact (List.getElem_inj hn).mp z)
    generalize qs.getD i ("",0)=a at *
    generalize qs.getD j ("",0)=b at *
    unfold placeLt at *
    by_cases e:a.1=b.1
    · rw [if_pos e] at h
      rw [if_pos e.symm]
      have h:=of_decide_eq_false h
      have:a.2≠b.2:=fun z=>ne (Prod.ext e z)
      exact decide_eq_true (by omega)
    · rw [if_neg e] at h
      rw [if_neg (fun z=>e z.symm)]
      have h:=of_decide_eq_false h
      refine decide_eq_true ?_
      rcases List.le_iff_lt_or_eq.mp (List.not_lt.mp h) with z | z
      · exact z
      · exact absurd (str_cps_inj z.symm) e
end L2
namespace L2
open PySem
def RawD (h:Heap) (d:Addr) (es:Array DictEntry) (ep:Nat):Prop:=∃ o,h.get? d=some o∧o.ExactDict∧o.data=.dict es ep
section
variable {P:Program} {w:World} {A:Around} {E:Value→Shared→Prop} {s:Shared}
theorem RawD.at {h h':Heap} {d:Addr} {es:Array DictEntry} {ep:Nat} (x:RawD h d es ep) (e:∀ o,h.get? d=some o→h'.get? d=some o):RawD h' d es ep:=let ⟨o,ho,r⟩:=x;⟨o,e _ ho,r⟩
end
end L2
namespace L2
open PySem PySem.Spec PyProof.Rows
section
open PySem.SeqAt
open PySem.AutoSeq1 (wpAny_loadPart')
open PySem.MeetsSeq PySem.MeetsSeq2 PySem.MeetsSeq3
theorem tuple_lt_place (l b:Addr) (x y:Str) (i j:Int) (t u t2 u2:Tok) (n n2:Nat) (dd dd2:Option Addr) (sl sl2:Array (Option Value)) :
    Meets (Builtin.«tuple.__lt__» ⟨[.ref l,.ref b],[]⟩) (fun _ R s=>s.heap.get? l=some { cls:=.type "tuple",dict:=dd,data:=.seq #[.str x t,.int i u] n,slots:=sl } ∧
      s.heap.get? b=some { cls:=.type "tuple",dict:=dd2,data:=.seq #[.str y t2,.int j u2] n2,slots:=sl2 }∧R (.ok (.ret (.bool (placeLt (x,i) (y,j))))) s) :=
  .of_wp fun prog w A R s h=>by
    obtain ⟨hp,g,d,tk,os⟩:=s;obtain ⟨hl,hb,h⟩:=h
    have f2:=AutoSeq1.sub_tuple_tuple
    have lt1:∀ (E:Value→Shared→Prop) (Q:Value→Shared→Prop) (s:Shared),Q (.bool (decide (x.cps.toList < y.cps.toList))) s→wpAny (model prog w) A.in1 (richCompare .Lt (.str x t) (.str y t2)) Q E s:=fun E Q s q=>(PyProof.Rows.lt_str q:wpAny (model prog w) A.in1 (compareOp .Lt (.str x t) (.str y t2)) Q E s)
    have lt2:=HT.rcLt_int A.in1 ⟨hp,g,d,tk,os⟩ i u j u2 prog w
    by_cases e:x=y
    · subst e
      have eq1:=SeqAt.EqAt.str_str (A:=A.in1) (s:=⟨hp,g,d,tk,os⟩) x t x t2 prog w
      rw [beq_self_eq_true] at eq1
      unfold placeLt at h
      rw [if_pos rfl] at h
      by_cases e2:i=j
      · subst e2
        have eq2:=SeqAt.EqAt.int_int (A:=A.in1) (s:=⟨hp,g,d,tk,os⟩) i u i u2 prog w
        rw [beq_self_eq_true] at eq2
        wp_walk using wpAny_loadPart' hl,wpAny_loadPart' hb,eq1,eq2
        exact ⟨_,rfl,by simpa [Builtin.Tuple.tupleCompareSizes] using h⟩
      · have eq2:=SeqAt.EqAt.int_int (A:=A.in1) (s:=⟨hp,g,d,tk,os⟩) i u j u2 prog w
        rw [show (i == j)=false from by simpa using e2] at eq2
        wp_walk using wpAny_loadPart' hl,wpAny_loadPart' hb,eq1,eq2,lt2
        exact ⟨_,rfl,by simpa using h⟩
    · have eq1:=SeqAt.EqAt.str_str (A:=A.in1) (s:=⟨hp,g,d,tk,os⟩) x t y t2 prog w
      rw [show (x == y)=false from by simpa using e] at eq1
      unfold placeLt at h
      rw [if_neg e] at h
      wp_walk using wpAny_loadPart' hl,wpAny_loadPart' hb,eq1,lt1
      exact ⟨_,rfl,by simpa using h⟩
end
end L2
namespace L2
open PySem PySem.Spec PyProof.Rows
section
variable {P:Program} {w:World} {A:Around} {E:Value→Shared→Prop} {s:Shared}
theorem RawD.lt {h:Heap} {d:Addr} {es:Array DictEntry} {ep:Nat} (x:RawD h d es ep):d < h.objs.size:=let ⟨_,ho,_⟩:=x;Heap.lt_size ho
end
end L2
namespace L2
open PySem PySem.Spec PyProof.Rows
def plKey (q:Str × Int):List Key:=[.inr q.1,.inl q.2]
abbrev cSrtD:RC:=fun xs H Q=>∃ (a:Addr) (kvs:List (List Key × V)) (qs:List (Str × Int)),xs=[.ref a]∧H a=some (.dT kvs)∧kvs.map (·.1)=qs.map plKey∧kvs.length < 1000 ∧
  ∀ (l:Addr) (ps:List (Addr × (Str × Int))),H l=none→(ps.map (·.2)).Perm qs→(ps.map (·.2)).Pairwise (fun a b=>placeLt a b=true)→(∀ n∈ps,H n.1=some (.tup [.str n.2.1,.int n.2.2]))→Q (.ref l) (upd H l (.lst (ps.map fun n=>V.ref n.1)))
theorem paired_get {α β:Type} {F:α→β→Prop}:∀ {l₁:List α} {l₂:List β},Paired F l₁ l₂→∀ {i:Nat} {a:α} {b:β},l₁[i]?=some a→l₂[i]?=some b→F a b
  | _,_,.nil,i,a,b,h,_=>by simp at h
  | _,_,.cons x r,0,a,b,h1,h2=>by
    simp only [List.getElem?_cons_zero,Option.some.injEq] at h1 h2
    subst h1 h2
    exact x
  | _,_,.cons x r,i + 1,a,b,h1,h2=>paired_get r (by simpa using h1) (by simpa using h2)
theorem PlAt.keep {h h':Heap} {v:Value} {q:Str × Int} (x:PlAt h v q) (k:∀ b o,h.get? b=some o→h'.get? b=some o):PlAt h' v q:=by
  obtain ⟨a,o,t,u,n,e,ho,r⟩:=x
  exact ⟨a,o,t,u,n,e,k _ _ ho,r⟩
section
variable {X:Cx}
theorem place_at {pins:List (Addr × Obj)} {σ:St} {H:Hp} {s:Shared} {a:Addr} {q:Str × Int} (I:Inv X pins σ H s) (h:H a=some (.tup [.str q.1,.int q.2])):PlAt s.heap (.ref a) q:=by
  obtain ⟨its,rv,⟨o,ho,hc,n,hd⟩,_⟩:=I.tuple (SqT.of h)
  cases rv with
  | cons r1 rr =>
    cases rr with
    | cons r2 rn =>
      cases rn
      obtain ⟨t,rfl⟩:=r1
      obtain ⟨u,rfl⟩:=r2
      exact ⟨a,o,t,u,n,rfl,ho,hc,hd⟩
theorem nodup_map_inj {α β:Type} {f:α→β}:∀ {l:List α},(l.map f).Nodup→l.Nodup
  | [],_=>List.nodup_nil
  | a :: r,h=>by
    rw [List.map_cons,List.nodup_cons] at h
    exact List.nodup_cons.mpr ⟨fun z=>h.1 (List.mem_map_of_mem z),nodup_map_inj h.2⟩
end
end L2
namespace L2
open PySem PySem.Spec PyProof.Rows
def Itd (a:Addr) (o:Obj) (kvs:List (List Key × V)):It :=
  ⟨fun i H=>H a=some (.frz o (.dT kvs))∧i < kvs.length,fun i H x H'=>H'=H∧∃ k v p,kvs[i]?=some (k,v)∧x=.ref p∧H p=some (.tup (k.map kV)),fun i H=>H a=some (.frz o (.dT kvs))∧kvs.length≤i⟩
section
variable {X:Cx}
def iDT (tl:TE):TI:=fun σ H R=>tl σ H fun x H1=>∃ a o kvs,x=.ref a∧H1 a=some (.frz o (.dT kvs))∧R (Itd a o kvs) H1
end
section
variable {σ:St} {H:Hp} {nx:St→Hp→Prop} {B:V→St→Hp→(St→Hp→Prop)→Prop}
end
end L2
namespace L2
open PySem PySem.Spec PyProof.Rows
mutual
inductive Dat (K:PySem.W.Frag) (H:Hp):V→PyData→Prop
  | non:Dat K H .non .none
  | bl (b:Bool):Dat K H (.bl b) (.bool b)
  | int (i:Int):Dat K H (.int i) (.int i)
  | str (x:Str):Dat K H (.str x) (.str x)
  | lst {a:Addr} {xs:List V} {ds:List PyData}:SqL K H a xs→DatAll K H xs ds→Dat K H (.ref a) (.list ds)
  | tup {a:Addr} {xs:List V} {ds:List PyData}:SqT K H a xs→DatAll K H xs ds→Dat K H (.ref a) (.tuple ds)
inductive DatAll (K:PySem.W.Frag) (H:Hp):List V→List PyData→Prop
  | nil:DatAll K H [] []
  | cons {x:V} {d:PyData} {xs:List V} {ds:List PyData}:Dat K H x d→DatAll K H xs ds→DatAll K H (x :: xs) (d :: ds)
end
section
variable {X:Cx} {pins:List (Addr × Obj)} {σ:St} {H:Hp} {s:Shared}
mutual
theorem Dat.reads (I:Inv X pins σ H s):∀ {x:V} {d:PyData} {u:Value},Dat X.K H x d→RelV x u→∃ as,Reads s.heap u d as
  | _,_,_,.non,r=>by cases r;exact ⟨_,.none⟩
  | _,_,_,.bl b,r=>by cases r;exact ⟨_,.bool b⟩
  | _,_,_,.int i,r=>by obtain ⟨t,rfl⟩:=r;exact ⟨_,.int i t⟩
  | _,_,_,.str x,r=>by obtain ⟨t,rfl⟩:=r;exact ⟨_,.str x t⟩
  | _,_,_,.lst hq ha,r=>by
    cases r
    obtain ⟨its,rv,⟨o,n,e,c,_,d⟩,_⟩:=I.list hq
    obtain ⟨as,ra⟩:=DatAll.reads I ha rv
    exact ⟨_,.list e c d (by simpa using ra)⟩
  | _,_,_,.tup hq ha,r=>by
    cases r
    obtain ⟨its,rv,⟨o,e,c,n,d⟩,_⟩:=I.tuple hq
    obtain ⟨as,ra⟩:=DatAll.reads I ha rv
    exact ⟨_,.tuple e c d (by simpa using ra)⟩
theorem DatAll.reads (I:Inv X pins σ H s):∀ {xs:List V} {ds:List PyData} {us:List Value},DatAll X.K H xs ds→Vals xs us→∃ as,ReadsAll s.heap us ds as
  | _,_,_,.nil,r=>by cases r;exact ⟨_,.nil⟩
  | _,_,_,.cons hx ht,r=>by
    cases r with
    | cons r1 rr =>
      obtain ⟨as,ra⟩:=Dat.reads I hx r1
      obtain ⟨bs,rb⟩:=DatAll.reads I ht rr
      exact ⟨_,.cons ra rb⟩
end
end
section
variable {K:PySem.W.Frag} {H H':Hp}
theorem SqL.mono {a:Addr} {xs:List V} (k:Same H H') (h:SqL K H a xs):SqL K H' a xs:=by
  rcases h with (h | ⟨o,h⟩) | h
  · exact .inl (.inl (k _ _ h))
  · exact .inl (.inr ⟨o,k _ _ h⟩)
  · exact .inr h
theorem DatAll.of {α:Type} {f:α→V} {g:α→PyData}:∀ {l:List α},(∀ a∈l,Dat K H (f a) (g a))→DatAll K H (l.map f) (l.map g)
  | [],_=>.nil
  | a :: r,h=>.cons (h a List.mem_cons_self) (DatAll.of fun b hb=>h b (List.mem_cons_of_mem _ hb))
end
section
variable {X:Cx} {pins:List (Addr × Obj)} {σ:St} {H:Hp} {s:Shared}
end
mutual
def plainD:PyData→Bool
  | .none=>true
  | .int _=>true
  | .str x=>PyData.strOk x
  | .list xs=>plainDs xs
  | .tuple xs=>plainDs xs
  | .bool _=>false
  | .dict _=>false
def plainDs:List PyData→Bool
  | []=>true
  | x :: xs=>plainD x && plainDs xs
end
mutual
theorem plain_lay:∀ {d:PyData},plainD d=true→d.canLay0=true
  | .none,_=>by simp [PyData.canLay0]
  | .int _,_=>by simp [PyData.canLay0]
  | .str x,h=>by simpa [PyData.canLay0,plainD] using h
  | .list xs,h=>by rw [PyData.canLay0];exact plains_lay (by simpa [plainD] using h)
  | .tuple xs,h=>by rw [PyData.canLay0];exact plains_lay (by simpa [plainD] using h)
  | .bool _,h=>by simp [plainD] at h
  | .dict _,h=>by simp [plainD] at h
theorem plains_lay:∀ {ds:List PyData},plainDs ds=true→PyData.canLayAll0 ds=true
  | [],_=>by simp [PyData.canLayAll0]
  | x :: xs,h=>by
    rw [plainDs,Bool.and_eq_true] at h
    rw [PyData.canLayAll0,plain_lay h.1,plains_lay h.2];rfl
end
mutual
theorem plain_eqv:∀ {d e:PyData},plainD d=true→plainD e=true→(PyData.eqv d e=true↔d=e)
  | .list xs,.list ys,h,h'=>by
    rw [PyData.eqv,plains_eqv (by simpa [plainD] using h) (by simpa [plainD] using h'),PyData.list.injEq]
  | .tuple xs,.tuple ys,h,h'=>by
    rw [PyData.eqv,plains_eqv (by simpa [plainD] using h) (by simpa [plainD] using h'),PyData.tuple.injEq]
  | .bool _,_,h,_=>by simp [plainD] at h
  | .dict _,_,h,_=>by simp [plainD] at h
  | .none,.bool _,_,h=>by simp [plainD] at h
  | .int _,.bool _,_,h=>by simp [plainD] at h
  | .str _,.bool _,_,h=>by simp [plainD] at h
  | .list _,.bool _,_,h=>by simp [plainD] at h
  | .tuple _,.bool _,_,h=>by simp [plainD] at h
  | .none,.dict _,_,h=>by simp [plainD] at h
  | .int _,.dict _,_,h=>by simp [plainD] at h
  | .str _,.dict _,_,h=>by simp [plainD] at h
  | .list _,.dict _,_,h=>by simp [plainD] at h
  | .tuple _,.dict _,_,h=>by simp [plainD] at h
  | .none,.none,_,_ | .none,.int _,_,_ | .none,.str _,_,_ | .none,.list _,_,_ | .none,.tuple _,_,_=>by simp [PyData.eqv]
  | .int _,.none,_,_ | .int _,.int _,_,_ | .int _,.str _,_,_ | .int _,.list _,_,_ | .int _,.tuple _,_,_=>by simp [PyData.eqv]
  | .str _,.none,_,_ | .str _,.int _,_,_ | .str _,.str _,_,_ | .str _,.list _,_,_ | .str _,.tuple _,_,_=>by simp [PyData.eqv]
  | .list _,.none,_,_ | .list _,.int _,_,_ | .list _,.str _,_,_ | .list _,.tuple _,_,_=>by simp [PyData.eqv]
  | .tuple _,.none,_,_ | .tuple _,.int _,_,_ | .tuple _,.str _,_,_ | .tuple _,.list _,_,_=>by simp [PyData.eqv]
theorem plains_eqv:∀ {xs ys:List PyData},plainDs xs=true→plainDs ys=true→(PyData.eqvAll xs ys=true↔xs=ys)
  | [],[],_,_=>by simp [PyData.eqvAll]
  | [],_ :: _,_,_=>by simp [PyData.eqvAll]
  | _ :: _,[],_,_=>by simp [PyData.eqvAll]
  | x :: xs,y :: ys,h,h'=>by
    rw [plainDs,Bool.and_eq_true] at h h'
    rw [PyData.eqvAll,Bool.and_eq_true,plain_eqv h.1 h'.1,plains_eqv h.2 h'.2,List.cons.injEq]
end
abbrev rEqD (K:PySem.W.Frag) (neg:Bool):R2:=fun x y H Q=>∃ d e,Dat K H x d∧Dat K H y e∧(plainD d=true∧plainD e=true∧d.depth≤64∧e.depth≤64)∧∀ b:Bool,(b=true↔d=e)→Q (.bl (if neg then !b else b)) H
section
variable {X:Cx}
theorem shaped_plain {d:PyData} (h:plainD d=true) (h':d.depth≤64):SeqAt.shaped d=true:=by
  unfold SeqAt.shaped
  rw [plain_lay h,decide_eq_true h'];rfl
theorem op_eqAll (hu:X.A.units + 64 < cLine):OpR X (compareOp .Eq) (rEqD X.K false):=by
  intro pins s σ H x y v u Q I rx ry h
  obtain ⟨d,e,hd,he,⟨p1,p2,l1,l2⟩,q⟩:=h
  obtain ⟨as,ra⟩:=hd.reads I rx
  obtain ⟨bs,rb⟩:=he.reads I ry
  exact eq_dataH ra rb (shaped_plain p1 l1) (shaped_plain p2 l2) hu ⟨.bl _,H,I,rfl,q _ (plain_eqv p1 p2)⟩
end
end L2
namespace L2
open PySem PySem.Spec PyProof.Rows
abbrev rGtS:R2:=fun x y H Q=>∃ i j,x=.str i∧y=.str j∧Q (.bl (decide (j.cps.toList < i.cps.toList))) H
abbrev rInD (neg:Bool):R2:=fun x y H Q=>∃ a o,y=.ref a∧DGet H a x o∧Q (.bl (if neg then !o.isSome else o.isSome)) H
section
variable {X:Cx}
theorem op_in_d (hu:X.A.units + 1 < cLine):OpR X (compareOp .In) (rInD false):=by
  intro pins s σ H x y v u Q I rx ry h
  obtain ⟨a,o,rfl,g,q⟩:=h
  cases ry
  exact d_in hu I g rx fun s' I'=>⟨.bl _,H,I',rfl,q⟩
end
end L2
namespace L2
open PySem
abbrev Pl:=Str × Int
abbrev Row:=Pl × Int
def lastW:List Row→Pl→Option Int
  | [],_=>none
  | r :: t,p=>(lastW t p).or (if r.1=p then some r.2 else none)
def dStep (kvs:List (List Key × V)) (q:Row):List (List Key × V):=putK kvs (plKey q.1) (.int q.2)
def dOf (rows:List Row):List (List Key × V):=rows.foldl dStep []
theorem plKey_inj {p q:Pl} (h:plKey p=plKey q):p=q:=by
  unfold plKey at h
  simp only [List.cons.injEq,Sum.inr.injEq,Sum.inl.injEq,and_true] at h
  exact Prod.ext h.1 h.2
theorem val_fold:∀ (rows:List Row) (kvs:List (List Key × V)) (p:Pl),valV (rows.foldl dStep kvs) (plKey p)=((lastW rows p).map V.int).or (valV kvs (plKey p))
  | [],_,_=>rfl
  | r :: t,kvs,p=>by
    rw [List.foldl_cons,val_fold t,lastW]
    show _=_
    rw [dStep,valV_put]
    cases lastW t p with
    | some w=>rfl
    | none =>
      by_cases e:r.1=p
      · subst e;simp
      · rw [if_neg (fun z=>e (plKey_inj z).symm)];simp [e]
theorem val_dOf (rows:List Row) (p:Pl):valV (dOf rows) (plKey p)=(lastW rows p).map V.int:=by
  unfold dOf
  rw [val_fold,valV_nil]
  cases lastW rows p <;> rfl
theorem dOf_snoc (rows:List Row) (q:Row):dOf (rows ++ [q])=putK (dOf rows) (plKey q.1) (.int q.2):=by
  unfold dOf
  rw [List.foldl_append];rfl
def OkKv (kvs:List (List Key × V)):Prop:=(kvs.map (·.1)).Nodup∧∀ kv∈kvs,∃ (p:Pl) (w:Int),kv=(plKey p,.int w)
theorem OkKv.put {kvs:List (List Key × V)} (h:OkKv kvs) (p:Pl) (w:Int):OkKv (putK kvs (plKey p) (.int w)):=by
  cases e:valV kvs (plKey p) with
  | none =>
    refine ⟨nd_putK _ h.1 e,fun kv hk=>?_⟩
    rw [putK_new _ e] at hk
    rcases List.mem_append.mp hk with hk | hk
    · exact h.2 kv hk
    · exact ⟨p,w,List.mem_singleton.mp hk⟩
  | some v =>
    have q:(kvs.any fun kv=>decide (kv.1=plKey p))=true:=by rw [valV_any,e];rfl
    unfold putK
    rw [if_pos q]
    constructor
    · rw [List.map_map]
      have:((fun x:List Key × V=>x.1) ∘ fun kv:List Key × V=>if kv.1=plKey p then (kv.1,V.int w) else kv)=fun x=>x.1:=by
        funext kv
        show (if kv.1=plKey p then (kv.1,V.int w) else kv).1=kv.1
        split <;> rfl
      rw [this];exact h.1
    · intro kv hk
      obtain ⟨z,hz,rfl⟩:=List.mem_map.mp hk
      by_cases e:z.1=plKey p
      · exact ⟨p,w,by rw [if_pos e,e]⟩
      · rw [if_neg e];exact h.2 z hz
theorem okKv_fold:∀ (rows:List Row) (kvs:List (List Key × V)),OkKv kvs→OkKv (rows.foldl dStep kvs)
  | [],_,h=>h
  | r :: t,kvs,h=>okKv_fold t _ (h.put r.1 r.2)
theorem okKv_dOf (rows:List Row):OkKv (dOf rows):=okKv_fold rows [] ⟨List.nodup_nil,fun _ h=>nomatch h⟩
theorem len_put (kvs:List (List Key × V)) (k:List Key) (v:V):(putK kvs k v).length≤kvs.length + 1:=by
  unfold putK
  split
  · rw [List.length_map];omega
  · rw [List.length_append];simp
theorem len_fold:∀ (rows:List Row) (kvs:List (List Key × V)),(rows.foldl dStep kvs).length≤kvs.length + rows.length
  | [],_=>by simp
  | r :: t,kvs=>by
    have:=len_fold t (dStep kvs r)
    have:=len_put kvs (plKey r.1) (.int r.2)
    rw [List.foldl_cons,List.length_cons]
    unfold dStep at *
    omega
theorem len_dOf (rows:List Row):(dOf rows).length≤rows.length:=by have:=len_fold rows [];simpa [dOf] using this
theorem valV_nd {kvs:List (List Key × V)}:(kvs.map (·.1)).Nodup→∀ kv∈kvs,valV kvs kv.1=some kv.2:=by
  induction kvs with
  | nil=>exact fun _ kv h=>nomatch h
  | cons a r ih =>
    intro hn kv hk
    rw [List.map_cons,List.nodup_cons] at hn
    rcases List.mem_cons.mp hk with rfl | hk
    · exact valV_pos rfl
    · rw [valV_neg fun z=>hn.1 (by rw [z];exact List.mem_map_of_mem hk)]
      exact ih hn.2 kv hk
theorem mem_dOf {rows:List Row} {kv:List Key × V}:kv∈dOf rows↔∃ p w,kv=(plKey p,.int w)∧lastW rows p=some w:=by
  constructor
  · intro h
    obtain ⟨p,w,rfl⟩:=(okKv_dOf rows).2 kv h
    have:=valV_nd (okKv_dOf rows).1 _ h
    rw [val_dOf] at this
    obtain ⟨w',e1,e2⟩:=Option.map_eq_some_iff.mp this
    cases e2
    exact ⟨p,w,rfl,e1⟩
  · rintro ⟨p,w,rfl,h⟩
    have e:valV (dOf rows) (plKey p)=some (.int w):=by rw [val_dOf,h];rfl
    obtain ⟨kv,hk,e1⟩:=List.mem_map.mp (valV_in e)
    have:=valV_nd (okKv_dOf rows).1 _ hk
    rw [e1,e] at this
    have e2:kv=(plKey p,V.int w):=Prod.ext e1 (Option.some.inj this).symm
    rw [← e2];exact hk
theorem placeLt_irr (a:Pl):placeLt a a=false:=by
  unfold placeLt
  rw [if_pos rfl]
  exact decide_eq_false (by omega)
def Rising (l:List Row):Prop:=l.Pairwise fun a b=>placeLt a.1 b.1=true
def IsTab (rows out:List Row):Prop:=Rising out∧∀ p w,(p,w)∈out↔lastW rows p=some w∧w≠0
theorem Rising.nd {l:List Row} (h:Rising l):(l.map (·.1)).Nodup:=by
  unfold List.Nodup
  rw [List.pairwise_map]
  exact List.Pairwise.imp (fun {a b} h z=>by rw [z,placeLt_irr] at h;cases h) h
theorem last_none {p:Pl}:∀ {l:List Row},(∀ r∈l,r.1≠p)→lastW l p=none
  | [],_=>rfl
  | r :: t,h=>by
    rw [lastW,last_none fun r hr=>h r (List.mem_cons_of_mem _ hr),if_neg (h r List.mem_cons_self)];rfl
theorem nd_len_le {α:Type} [DecidableEq α]:∀ {a b:List α},a.Nodup→(∀ x∈a,x∈b)→a.length≤b.length
  | [],_,_,_=>Nat.zero_le _
  | x :: a,b,hn,h=>by
    rw [List.nodup_cons] at hn
    have hx:=h x List.mem_cons_self
    have:=nd_len_le (a:=a) (b:=b.erase x) hn.2 fun y hy=>(List.mem_erase_of_ne fun z=>hn.1 (by rw [← z];exact hy)).mpr (h y (List.mem_cons_of_mem _ hy))
    rw [List.length_erase_of_mem hx] at this
    have:0 < b.length:=List.length_pos_of_mem hx
    rw [List.length_cons];omega
end L2
namespace L2
open PySem PySem.Spec PyProof.Rows
def Itzl (K:PySem.W.Frag) (p q:Addr) (xs ys:List V):It:=⟨fun i H=>i < xs.length∧SqL K H p xs∧SqL K H q ys,fun i H x H'=>∃ T u v,x=.ref T∧H T=none∧H'=upd H T (.tup [u,v])∧xs[i]?=some u∧ys[i]?=some v,fun i H=>xs.length≤i∧SqL K H p xs∧SqL K H q ys⟩
def iZipL (K:PySem.W.Frag) (ta:TA):TI:=fun σ H R=>ta σ H fun vs H1=>∃ p q xs ys,vs=[.ref p,.ref q]∧SqL K H1 p xs∧SqL K H1 q ys∧xs.length=ys.length∧R (Itzl K p q xs ys) H1
section
variable {X:Cx}
end
section
variable {σ:St} {H:Hp} {nx:St→Hp→Prop} {B:V→St→Hp→(St→Hp→Prop)→Prop}
end
end L2
namespace L2
open PySem PySem.Spec PyProof.Rows
theorem plain_dul:plainId "dict.update.loop"=true:=by decide +kernel
theorem entry_dul:entryFor table "dict.update.loop"=some Builtin.«dict.update.loop»:=entryFor_of_fast (by kernel_rfl)
section
variable {X:Cx} {A:Around} {R:Result→Shared→Prop}
def PrAt (H:Hp) (v:V) (q:Row):Prop:=∃ r p,v=.ref r∧H r=some (.tup [.ref p,.int q.2])∧H p=some (.tup [.str q.1.1,.int q.1.2])
theorem dul_store {pins:List (Addr × Obj)} {σ:St} {H:Hp} {s:Shared} {d b:Addr} {kvs:List (List Key × V)} {k:List Key} {v:V} {u:Value} {E:Value→Shared→Prop} {Q:Unit→Shared→Prop} (hu:A.units + 1 < cLine) (I:Inv X pins σ H s) (e:H d=some (.dT kvs)) (eb:H b=some (.tup (k.map kV))) (l:kvs.length < sizeLine) (rv:RelV v u)
    (h:∀ h' tk,Inv X pins σ (upd H d (.dT (putK kvs k v))) { s with heap:=h',toks:=tk }→Heap.SameBut d s.heap h'→Q () { s with heap:=h',toks:=tk }):wpAny (model X.prog X.w) A.in1 (dictSet d (.ref b) u) Q E s:=by
  obtain ⟨z,hd,xs,rel,dd⟩:=dt_of I.hok e
  have hz:xs.length≤sizeLine:=by rw [← Paired.length rel];exact z
  have hl:(putK kvs k v).length≤sizeLine:=by have:=length_putK kvs k v;omega
  refine wpAny_dictSet_heap (hsz:=hz) (tupleKind_room_in1 hu) (key_of I.hok eb) dd fun h' dd' hs=>h _ _ ?_ hs
  obtain ⟨q,es,ep,hq,h2,h3,h4,_,h5⟩:=dd'
  refine d_write I (by rw [e];exact True.intro) hs ⟨q,hq⟩ ⟨hl,hd,_,(rel.put k eb rv).keeps fun c ys ec=>?_,q,es,ep,hq,h2,h3,h4,h5⟩
  rw [upd_ne (ne_of ec e (fun z=>nomatch z))]
  exact ec
theorem dul_loop {pins:List (Addr × Obj)} {σ:St} {H:Hp} {d it l:Addr} {xs:List V} {rows:List Row} {res:Value} (hu:A.units + 1 < cLine) (hh:A.handled=none) (hd:H d=none) (hl:H l=some (.lst xs)) (hr:Paired (PrAt H) xs rows) (h63:rows.length≤1000) (dit:it≠d) (lit:l≠it) :
    ∀ (k i:Nat) (s:Shared),rows.length - i=k→i≤rows.length→Inv X pins σ (upd H d (.dT (dOf (rows.take i)))) s→s.heap.IsListIter it l i→(∀ u,FpOk X pins (upd H d u) it) →
    (∀ s',Inv X pins σ (upd H d (.dT (dOf rows))) s'→R (.ok (.ret res)) s') →
    codeAny (model X.prog X.w) A (.builtin "dict.update.loop" ⟨[.ref d,.ref it,rawInt i,res],[]⟩) R s:=by
  have lx:xs.length=rows.length:=Paired.length hr
  have S:∀ u:HO,Same H (upd H d u):=fun u=>isV (o:=u) d hd
  intro k
  induction k with
  | zero =>
    intro i s hk hi I st hf fin
    have e:i=rows.length:=by omega
    subst e
    refine codeAny_builtin entry_dul ?_
    rw [Around.under_plainId plain_dul _]
    show wpAny _ A.in1 (pyNext (.ref it) >>= _) _ _ s
    obtain ⟨its,rv,p,hz⟩:=I.list (SqL.of (S _ _ _ hl))
    obtain ⟨f0,f1,f2,f3,f4,f5⟩:=hf (.dT (dOf (rows.take rows.length)))
    have hl2:=rv.length
    refine wpAny_bind (wpAny_pyNext_list_end hh st p.isList (by simp;omega) fun h' eb=>?_)
    have I1:=I.turned (t':=s.toks) (fun b o hb e=>eb b o hb e) f0 f1 f3 f4 f5
    rw [List.take_length] at I1
    show wpAny _ A.in1 (Builtin.Dict.addKeywords d [] >>= _) _ _ _
    exact wpAny_bind (wpAny_pure (wpAny_pure (fin _ I1)))
  | succ k ih =>
    intro i s hk hi I st hf fin
    have hlt:i < rows.length:=by omega
    refine codeAny_builtin entry_dul ?_
    rw [Around.under_plainId plain_dul _]
    show wpAny _ A.in1 (pyNext (.ref it) >>= _) _ _ s
    obtain ⟨its,rv,p,hz⟩:=I.list (SqL.of (S _ _ _ hl))
    obtain ⟨f0,f1,f2,f3,f4,f5⟩:=hf (.dT (dOf (rows.take i)))
    have hx:xs[i]?=some xs[i]:=List.getElem?_eq_getElem (by omega)
    have hq:rows[i]?=some rows[i]:=List.getElem?_eq_getElem hlt
    obtain ⟨r,pl,e1,t1,u1⟩:=paired_get hr hx hq
    obtain ⟨u,hu',ru⟩:=rv.get hx
    rw [e1] at ru
    cases ru
    refine wpAny_bind (wpAny_pyNext_list_item st p.isList (x:=.ref r) (by simpa using hu') fun h' st' sb=>?_)
    have I1:=I.turned (t':=s.toks) (fun b o hb e=>(sb.2 b hb).trans e) f0 f1 f3 f4 f5
    obtain ⟨tis,tv,⟨o,ho,hc,n,hdt⟩,_⟩:=I1.tuple (SqT.of (S _ _ _ t1))
    cases tv with
    | cons r1 rr =>
      cases rr with
      | cons r2 rn =>
        cases rn
        cases r1
        obtain ⟨tk,rfl⟩:=r2
        refine wpAny_bind (wpAny_holding ?_)
        have T:({ s with heap:=h' }:Shared).TypeIs (.ref r) "tuple":=⟨o,ho,hc⟩
        refine wpAny_bind (wpAny_tryCatch ?_)
        unfold Builtin.Dict.pairItems
        refine wpAny_bind (wpAny_typeOf T ?_)
        rw [if_pos (by decide)]
        refine wpAny_bind ?_
        unfold seqItems?
        refine wpAny_bind (wpAny_load ho ?_)
        rw [hdt]
        refine wpAny_pure (wpAny_pure ?_)
        show wpAny _ _ (holding [.ref pl,.int rows[i].2 tk] (dictSet d (.ref pl) (.int rows[i].2 tk))) _ _ _
        refine wpAny_holding ?_
        have tk2:dOf (rows.take (i + 1))=putK (dOf (rows.take i)) (plKey rows[i].1) (.int rows[i].2):=by rw [List.take_add_one,hq,← dOf_snoc];rfl
        have l2:(dOf (rows.take i)).length < sizeLine:=by
          have h1:=len_dOf (rows.take i)
          have h2:=List.length_take_le' i rows
          exact Nat.lt_of_le_of_lt (by omega:_≤1000) (by decide)
        refine dul_store (k:=plKey rows[i].1) (v:=.int rows[i].2) hu I1 upd_same (S _ _ _ u1) l2 ⟨tk,rfl⟩ fun h2 tk3 I2 sb2=>?_
        rw [upd_upd,← tk2] at I2
        refine wpAny_pure ⟨plainId_quiet plain_dul _,ih (i + 1) _ (by omega) hlt I2 (st'.at fun o e=>(sb2.2 it dit).trans e) hf fin⟩
end
end L2
namespace L2
open PySem PySem.Spec PyProof.Rows
theorem lk_list_keys:typeLookup (.type "list") "keys"=pure none:=by rw [typeLookup_type,builtinLookup_eq_fast];kernel_rfl
section
variable {prog:Program} {w:World} {A:Around} {E:Value→Shared→Prop} {s:Shared} {a:Addr} {o:Obj} {xs:Array Value} {k:Nat}
theorem keys_none_list {Q:Option Value→Shared→Prop} (hx:s.heap.get? a=some o) (hc:o.cls=.type "list") (hdat:o.data=.seq xs k) (hd:o.dict=none) (hA:A.handled=none)
    (h:∀ h' tk,(∀ b ob,s.heap.get? b=some ob→h'.get? b=some ob)→Q none { s with heap:=h',toks:=tk }):wpAny (model prog w) A (getAttr? (.ref a) "keys") Q E s:=by
  obtain ⟨c,dct,dat,sl⟩:=o;simp only at hc hdat hd;subst hc hdat hd
  obtain ⟨hp,g,d,tk,os⟩:=s;have hT:∀ tk',(⟨hp,g,d,tk',os⟩:Shared).TypeIs (.ref a) "list":=fun _=>⟨_,hx,rfl⟩
  have f1:=sub_AttributeError;have f3:=F.slot_list_getattribute.lookup;have f4:=F.slot_list_getattribute.bind (.ref a);have f5:=am_list_getattr_none
  unfold getAttr? getAttrBy? getAttrBy
  repeat (any_goals (first | assumption | exact hT _ | ((with_reducible show wpAny _ _ (call (Value.builtin "list.__getattribute__") _ _) _ _ _);refine call_meets F.slot_list_getattribute (hT _) am_entry_list_getattribute (F.args_list_getattribute_2 _ _) (meets_getattribute_miss_list a xs k sl "keys" _ lk_list_keys (by decide +kernel) (by decide +kernel)) ⟨hx,hA,fun h' tk' e hx'=>?_⟩) | wp_step))
  obtain ⟨t',u',he⟩:=hx'.there;have kp:=hx'.keeps
  show wpAny _ _ (getattributeRaised _ _ _ _ _ _ _) _ _ _;unfold getattributeRaised
  repeat (any_goals (first | assumption | wp_step))
  all_goals exact h _ _ fun b ob e=>kp b ob e
end
theorem hu3 {k:Nat} {A:Around} (r:Room k A):A.units + 3 < cLine:=by have:=hu64 r;omega
abbrev cDctP:RC:=fun vs H Q=>∃ (a:Addr) (xs:List V) (rows:List Row),vs=[.ref a]∧H a=some (.lst xs)∧Paired (PrAt H) xs rows∧rows.length≤1000∧∀ p,H p=none→Q (.ref p) (upd H p (.dT (dOf rows)))
section
variable {X:Cx}
theorem call_dict_pairs (hc:X.calm=true) (hu:X.A.units + 3 < cLine):CallR X (.type "dict") cDctP:=by
  intro pins s σ H vs us Q I r h
  obtain ⟨a,xs,rows,rfl,ha,hr,hl,q⟩:=h
  obtain ⟨u,rfl,ru⟩:=vals1 r
  cases ru
  have hh:X.A.handled=none:=I.ok.hd hc
  refine callType_codes (Q₁:=fun obj s₁=>obj=.ref s.heap.objs.size∧s₁={ s with heap:=s.heap.push { cls:=.type "dict",data:=.dict #[] } }) F.kt_called_dict (F.kt_typeCall_dict_1 _) F.entry_dict_init (kt_code_dict_new _ ⟨rfl,rfl⟩) ?_;rintro obj s₁ ⟨rfl,rfl⟩
  have T0:({ s with heap:=s.heap.push { cls:=.type "dict",data:=.dict #[] } }:Shared).TypeIs (.ref s.heap.objs.size) "dict":=⟨_,Heap.get?_push_size _ rfl,rfl⟩
  refine ⟨T0,F.args_dict_init_2 _ _,?_⟩;unfold Builtin.«dict.__init__»;refine wpAny_bind ?_;unfold Builtin.Dict.selfAndRest
  refine wpAny_bind (wpAny_notOrdered_dict T0 ?_);show wpAny _ _ (pure (s.heap.objs.size,[Value.ref a])) _ _ _;refine wpAny_pure ?_
  show wpAny _ _ (Builtin.Dict.updateFrom "dict.__init__" s.heap.objs.size (.ref a) [] .none) _ _ _;unfold Builtin.Dict.updateFrom
  have hn:H s.heap.objs.size=none:=I.hok.fresh (Nat.le_refl _)
  have S:∀ u:HO,Same H (upd H s.heap.objs.size u):=fun u=>isV (o:=u) _ hn
  have I1:Inv X pins σ (upd H s.heap.objs.size (.dT [])) { s with heap:=s.heap.push { cls:=.type "dict",data:=.dict #[] } } :=
    I.laid (a:=s.heap.objs.size) (o:=.dT []) (t':=s.toks) (fun b o z=>Heap.get?_push_of_some _ z) (Nat.le_refl _) (dt_empty s.heap I.big)
  obtain ⟨its,rv,pl,_⟩:=I1.list (SqL.of (S _ _ _ ha))
  obtain ⟨o,n,ho,oc,od,odat⟩:=id pl
  have T1:({ s with heap:=s.heap.push { cls:=.type "dict",data:=.dict #[] } }:Shared).TypeIs (.ref a) "list":=⟨o,ho,oc⟩
  refine wpAny_bind (wpAny_typeOf T1 ?_);rw [if_pos (by decide)]
  refine wpAny_bind (keys_none_list ho oc odat od (by exact hh) fun h2 tk2 k2=>?_);rw [if_pos (show (none:Option Value).isNone=true from rfl)]
  refine wpAny_bind (wpAny_rule ?_)
  have I2:Inv X pins σ (upd H s.heap.objs.size (.dT [])) { s with heap:=h2,toks:=tk2 }:=I1.kept k2
  obtain ⟨its2,rv2,pl2,_⟩:=I2.list (SqL.of (S _ _ _ ha))
  refine wpAny_bind (wpAny_pyIter_list pl2.isList ?_)
  have I3:Inv X pins σ (upd H s.heap.objs.size (.dT (dOf (rows.take 0)))) { s with heap:=h2.push { cls:=.type "list_iterator",data:=.fields #[.ref a,.int 0 0] },toks:=tk2 }:=I2.kept (t':=tk2) fun b o e=>Heap.get?_push_of_some _ e
  refine wpAny_pure ⟨plainId_quiet plain_dul _,?_⟩
  have lt:s.heap.objs.size < h2.objs.size:=Heap.lt_size (k2 s.heap.objs.size _ (Heap.get?_push_size _ rfl))
  have la:a < h2.objs.size:=by obtain ⟨_,_,z,_⟩:=pl2;exact Heap.lt_size z
  refine dul_loop (A:=X.A.in1) (H:=H) (d:=s.heap.objs.size) (it:=h2.objs.size) (l:=a) (xs:=xs) (rows:=rows) (res:=.none) ?_ hh hn ha hr hl (Nat.ne_of_gt lt) (Nat.ne_of_lt la) rows.length 0 _ (by omega) (Nat.zero_le _) I3 ⟨_,Heap.get?_push_size _ rfl,rfl,rfl⟩ (fun u=>?_) fun s' I'=>⟨rfl,.ref s.heap.objs.size,_,I',rfl,q _ hn⟩
  · have e:X.A.in1.units=X.A.units + 1:=rfl
    omega
  · refine I2.fpOk (Nat.le_refl _) ?_
    rw [upd_ne (Nat.ne_of_gt lt)]
    have:=I2.hok.fresh (Nat.le_refl h2.objs.size)
    rw [upd_ne (Nat.ne_of_gt lt)] at this
    exact this
end
end L2
namespace L2
open PySem PySem.Spec PyProof.Rows
section
variable {X:Cx} {k:Nat} {f C:Addr} {fd:FuncData} {ps:List Str} {sp:Sp} {m:Str} {pos apos:Pos} {e o:Expr} {es:List Expr} {ta:TE} {t:TA}
def tMethX (C:Addr) (m:Str) (sp:Sp) (ta:TE) (t:TA) (EX:EXK):TE:=fun σ H Q=>ta σ H fun x H1=>∃ a dx fs,x=.ref a∧H1 a=some (.ins C dx fs)∧fs.lookup m=none ∧
  t σ H1 fun vs H2=>sp (x :: (vs ++ [])) H2 Q fun cls _ H3=>EX cls σ H3
end
def tTryN (K:PySem.W.Frag) (tb:EXK→TS) (C1:Addr) (th1:TS):TS:=fun D σ H=>tb (fun cls σ1 H1=>∃ C,cls=.ref C∧PySem.W.exmOne K (.ref C) (.ref C1)=some true∧th1 D σ1 H1) D σ H
def tTryNN (K:PySem.W.Frag) (tb:EXK→TS) (C1:Addr) (th1:TS) (C2:Addr) (th2:TS):TS:=fun D σ H=>tb (fun cls σ1 H1=>∃ C,cls=.ref C ∧
  ((PySem.W.exmOne K (.ref C) (.ref C1)=some true∧th1 D σ1 H1)∨(PySem.W.exmOne K (.ref C) (.ref C1)=some false∧PySem.W.exmOne K (.ref C) (.ref C2)=some true∧th2 D σ1 H1))) D σ H
section
variable {X:Cx} {st b₀ b₁:Stmt} {suite suite1:List Stmt} {tb:EXK→TS} {th1 th2:TS} {c1 c2:Str} {C1 C2:Addr} {np hpos np2 hpos2 pos:Pos}
end
section
variable {X:Cx} {k:Nat} {f:Addr} {fd:FuncData} {ps:List Str} {sp:Sp} {x:Str} {p pos:Pos} {e:Expr} {es:List Expr} {t:TA}
end
end L2
namespace L2
open PySem
def rk (kvs:List (Key × V)) (ps:List V):Except Er Int:=match runE kvs ps [] with
  | .ok [i]=>.ok i
  | .ok _=>.error .stuck
  | .error e=>.error e
theorem step_inW {kvs:List (Key × V)} (hs:SlotsOk kvs) {v:V} (hv:okPart v) {st st':List Int} (h:∀ x∈st,inW x=true) (e:stepE kvs st v=.ok st'):∀ x∈st',inW x=true:=by
  unfold stepE at e
  split at e
  · split at e
    · rename_i w b a r hr hj
      unfold joinE at e
      by_cases c1:isDiv w∧b=0
      · rw [if_pos c1] at e;cases e
      · rw [if_neg c1] at e
        by_cases c2:inW (comeV w a b)=true
        · rw [if_pos c2] at e
          cases e
          intro x hx
          rcases List.mem_append.mp hx with hx | hx
          · refine h x (List.mem_reverse.mp ?_)
            rw [hr]
            exact List.mem_cons_of_mem _ (List.mem_cons_of_mem _ (List.mem_reverse.mp hx))
          · rw [List.mem_singleton.mp hx];exact c2
        · rw [if_neg c2] at e;cases e
    · cases e
  · cases e
    intro x hx
    rcases List.mem_append.mp hx with hx | hx
    · exact h x hx
    · rw [List.mem_singleton.mp hx];exact wrth_inW hs hv
theorem run_inW {kvs:List (Key × V)} (hs:SlotsOk kvs):∀ {ps:List V} {st st':List Int},(∀ v∈ps,okPart v)→(∀ x∈st,inW x=true)→runE kvs ps st=.ok st'→∀ x∈st',inW x=true
  | [],st,st',_,h,e=>by cases e;exact h
  | v :: r,st,st',hp,h,e=>by
    unfold runE at e
    split at e
    · rename_i st1 e1
      exact run_inW hs (fun v hv=>hp v (List.mem_cons_of_mem _ hv)) (step_inW hs (hp v List.mem_cons_self) h e1) e
    · cases e
def TermOk (e:List V):Prop:=(∀ kvs,∃ r,Good kvs e r)∧(∀ v∈e,okPart v)∧e.length≤1000
mutual
inductive Rw where
  | take (sh:Str) (e:List V) (sl:Str)
  | give (sh:Str) (e f:List V)
  | lt (sl:Str) (e:List V)
  | say (e:List V)
  | off (e:List V)
  | iff (e:List V) (a b:Rws)
inductive Rws where
  | nil
  | cons (r:Rw) (rs:Rws)
end
set_option genSizeOf false in
set_option genInjectivity false in
structure Sta where
  sl:List (Key × V)
  wo:List Row
  sa:List Int
inductive Res where
  | go (s:Sta)
  | off
  | er (e:Er)
mutual
def goR:Rw→Sta→Res
  | .take sh e sl,s=>match rk s.sl e with
    | .ok n=>.go { s with sl:=putK s.sl (.inr sl) (.int ((lastW s.wo (sh,n)).getD 0)) }
    | .error x=>.er x
  | .give sh e f,s=>match rk s.sl e with
    | .ok n=>(match rk s.sl f with
      | .ok w=>.go { s with wo:=s.wo ++ [((sh,n),w)] }
      | .error x=>.er x)
    | .error x=>.er x
  | .lt sl e,s=>match rk s.sl e with
    | .ok n=>.go { s with sl:=putK s.sl (.inr sl) (.int n) }
    | .error x=>.er x
  | .say e,s=>match rk s.sl e with
    | .ok n=>.go { s with sa:=s.sa ++ [n] }
    | .error x=>.er x
  | .off e,s=>match rk s.sl e with
    | .ok n=>if n=0 then .go s else .off
    | .error x=>.er x
  | .iff e a b,s=>match rk s.sl e with
    | .ok n=>if n=0 then goRs b s else goRs a s
    | .error x=>.er x
def goRs:Rws→Sta→Res
  | .nil,s=>.go s
  | .cons r rs,s=>match goR r s with
    | .go s'=>goRs rs s'
    | x=>x
end
mutual
def RwAt (F:Addr→Prop) (H:Hp) (v:V):Rw→Prop
  | .take sh e sl=>∃ r te,v=.ref r∧F r∧F te∧H r=some (.tup [.str "take",.str sh,.ref te,.str sl])∧H te=some (.tup e)
  | .give sh e f=>∃ r te tf,v=.ref r∧F r∧F te∧F tf∧H r=some (.tup [.str "give",.str sh,.ref te,.ref tf])∧H te=some (.tup e)∧H tf=some (.tup f)
  | .lt sl e=>∃ r te,v=.ref r∧F r∧F te∧H r=some (.tup [.str "let",.str sl,.ref te])∧H te=some (.tup e)
  | .say e=>∃ r te,v=.ref r∧F r∧F te∧H r=some (.tup [.str "say",.ref te])∧H te=some (.tup e)
  | .off e=>∃ r te,v=.ref r∧F r∧F te∧H r=some (.tup [.str "off",.ref te])∧H te=some (.tup e)
  | .iff e a b=>∃ r te la lb xs ys,v=.ref r∧F r∧F te∧F la∧F lb∧H r=some (.tup [.str "if",.ref te,.ref la,.ref lb])∧H te=some (.tup e)∧H la=some (.lst xs)∧RwsAt F H xs a∧H lb=some (.lst ys)∧RwsAt F H ys b
def RwsAt (F:Addr→Prop) (H:Hp) (vs:List V):Rws→Prop
  | .nil=>vs=[]
  | .cons r rs=>∃ v ws,vs=v :: ws∧RwAt F H v r∧RwsAt F H ws rs
end
mutual
def RwOk:Rw→Prop
  | .take _ e _=>TermOk e
  | .give _ e f=>TermOk e∧TermOk f
  | .lt _ e=>TermOk e
  | .say e=>TermOk e
  | .off e=>TermOk e
  | .iff e a b=>TermOk e∧RwsOk a∧RwsOk b
def RwsOk:Rws→Prop
  | .nil=>True
  | .cons r rs=>RwOk r∧RwsOk rs
end
mutual
def Rw.deep:Rw→Nat
  | .iff _ a b=>max a.deep b.deep + 1
  | _=>0
def Rws.deep:Rws→Nat
  | .nil=>0
  | .cons r rs=>max r.deep rs.deep
end
mutual
def Rw.cnt:Rw→Nat
  | .iff _ a b=>max a.cnt b.cnt + 1
  | _=>1
def Rws.cnt:Rws→Nat
  | .nil=>0
  | .cons r rs=>r.cnt + rs.cnt
end
end L2
namespace L2
open PySem
abbrev ItA (h:Heap) (it d:Addr) (i n ep:Nat) (o0:Value) (f:Bool) (ok ov:Value):Prop :=
  h.get? it=some { cls:=.type "dict_itemiterator",dict:=none,data:=.fields #[o0,.bool f,.ref d,.int i 0,.int n 0,.int ep 0,ok,ov],slots:=#[] }
section
variable {P:Program} {w:World} {A:Around} {E:Value→Shared→Prop} {s:Shared}
theorem rit_iter {v d:Addr} {es:Array DictEntry} {ep:Nat} {Q:Value→Shared→Prop} (hv:s.heap.IsItemsView v d) (hm:RawD s.heap d es ep)
    (q:Q (.ref s.heap.objs.size) { s with heap:=s.heap.push { cls:=.type "dict_itemiterator",data:=.fields #[.none,.bool false,.ref d,.int 0 0,.int es.size 0,.int ep 0,.none,.none] } }):wpAny (model P w) A (pyIter (.ref v)) Q E s:=by
  obtain ⟨ov,hov,hcv,hdv⟩:=id hv;obtain ⟨o,ho,hc,hdat⟩:=id hm
  refine wpAny_pyIter_slot hv.typeIs F.slot_dict_items_iter (wpAny_call_entry F.slot_dict_items_iter hv.typeIs F.entry_dict_items_iter ?_ (F.args_dict_items_iter_1 _));unfold Builtin.«dict_items.__iter__»
  refine wpAny_bind (wpAny_pure ?_);refine wpAny_bind ?_;unfold Builtin.Dict_items.dictOf
  refine wpAny_bind (wpAny_field hov hdv (x:=.ref d) rfl (wpAny_pure ?_));refine wpAny_bind ?_;unfold Builtin.Dict_items.newIterator
  refine wpAny_bind (wpAny_dictEntries ho hdat ?_);refine wpAny_bind (wpAny_dictEpoch ho hdat ?_)
  have own:Builtin.Dict_items.ownsTuple "dict_itemiterator"=true:=by decide
  simp only [own,if_true];refine wpAny_newObj_type (wpAny_pure ⟨_,rfl,"dict_itemiterator",_,⟨_,Heap.get?_push_size _ rfl,rfl⟩,F.slot_dict_itemiterator_next.lookup,?_⟩) (by simp only [sizeOk,Builtin.Dict_items.ownedTupleFields,List.size_toArray,List.length_append,List.length_cons,List.length_nil,sizeLine_eq];omega)
  simpa [rawInt,Builtin.Dict_items.ownedTupleFields] using q
theorem rit_next {it d:Addr} {i ep:Nat} {es:Array DictEntry} {e:DictEntry} {o0 ok ov:Value} {f:Bool} {Q:Option Value→Shared→Prop} (hit:ItA s.heap it d i es.size ep o0 f ok ov) (hm:RawD s.heap d es ep) (hx:es[i]?=some e)
    (ho0:(o0=.none∧f=false)∨∃ (a:Addr) (oa:Obj),o0=rawInt (a:Nat)∧s.heap.get? a=some oa∧a≠it)
    (q:∀ h' o1 f1 k1 v1,ItA h' it d (i + 1) es.size ep o1 f1 k1 v1→((o1=.none∧f1=false)∨∃ (a:Addr) (oa:Obj),o1=rawInt (a:Nat)∧h'.get? a=some oa∧a≠it)→h'.get? s.heap.objs.size=some { cls:=.type "tuple",data:=.seq #[e.key,e.val] }→h'.objs.size=s.heap.objs.size + 1 →
      (∀ b o,b≠it→s.heap.get? b=some o→h'.get? b=some o)→(∀ a:Addr,o1=rawInt (a:Nat)→a=s.heap.objs.size∨o0=rawInt (a:Nat))→Q (some (.ref s.heap.objs.size)) { s with heap:=h' }):wpAny (model P w) A (pyNext (.ref it)) Q E s:=by
  obtain ⟨hp,g,dr,tk,os⟩:=s;obtain ⟨od,hod,hcd,hdd⟩:=id hm
  have T:Shared.TypeIs ⟨hp,g,dr,tk,os⟩ (.ref it) "dict_itemiterator":=⟨_,hit,rfl⟩
  unfold pyNext;refine wpAny_bind (wpAny_attempt (wpAny_callSpecial?_slot (name:=Str.ofString "__next__") T F.slot_dict_itemiterator_next (wpAny_call_entry F.slot_dict_itemiterator_next T F.entry_dict_itemiterator_next ?_ (F.args_dict_itemiterator_next_1 _))))
  refine wpAny_bind (wpAny_pure ?_);refine wpAny_bind ?_;refine wpAny_bind ?_
  first | (refine wpAny_bind (wpAny_typeNameOfWhole_itemiter T (wpAny_pure ?_))) | (refine wpAny_bind (wpAny_typeNameOf_itemiter T (wpAny_pure ?_)))
  refine wpAny_bind (wpAny_fieldsOf hit rfl ?_);have own:Builtin.Dict_items.ownsTuple "dict_itemiterator"=true:=by decide
  simp only [own,if_true];show wpAny _ _ (if (Value.ref d == Value.none)=true then _ else _) _ _ _
  rw [if_neg (show ¬ ((Value.ref d == Value.none)=true) from Bool.false_ne_true)];refine wpAny_bind (wpAny_pure ?_);refine wpAny_bind (wpAny_dictEntries hod hdd ?_)
  rw [if_neg (by simp)];refine wpAny_bind (wpAny_pure ?_);refine wpAny_bind (wpAny_dictEpoch hod hdd ?_);rw [if_neg (by simp)];refine wpAny_pure ?_
  simp only [show ¬ ((i:Int) < 0) from by omega,if_false,Int.toNat_natCast,hx];refine wpAny_bind ?_
  first | (refine wpAny_bind (wpAny_typeNameOfWhole_itemiter T (wpAny_pure ?_))) | (refine wpAny_bind (wpAny_typeNameOf_itemiter T (wpAny_pure ?_)))
  refine wpAny_bind (wpAny_isOneOf_itemiter T ?_);show wpAny _ _ (setField (.ref it) 3 (rawInt ((i:Int) + 1)) >>= _) _ _ ⟨hp,g,dr,tk,os⟩
  refine wpAny_bind (wpAny_setField_rec hit (by simp) fun h₁ e1 s1=>?_)
  replace s1:Heap.SameBut it hp h₁:=s1
  replace e1:ItA h₁ it d (i + 1) es.size ep o0 f ok ov:=by
    have z:((i + 1:Nat):Int)=(i:Int) + 1:=by omega
    unfold ItA;rw [z];simpa [rawInt] using e1
  have T1:Shared.TypeIs ⟨h₁,g,dr,tk,os⟩ (.ref it) "dict_itemiterator":=⟨_,e1,rfl⟩
  refine wpAny_bind (wpAny_holding ?_);refine wpAny_bind (wpAny_isOneOf_itemiter T1 ?_);refine wpAny_bind (wpAny_isOneOf_itemiter T1 ?_)
  show wpAny _ _ (Builtin.Dict_items.pairFromOwner (.ref it) 6 e.key e.val) _ _ ⟨h₁,g,dr,tk,os⟩
  unfold Builtin.Dict_items.pairFromOwner;refine wpAny_bind (wpAny_newTuple ?_)
  have e2:ItA (h₁.push { cls:=.type "tuple",data:=.seq #[e.key,e.val] }) it d (i + 1) es.size ep o0 f ok ov:=Heap.get?_push_of_some _ e1
  generalize hg:h₁.push { cls:=.type "tuple",data:=.seq #[e.key,e.val] }=h₂ at e2
  have z1:h₁.objs.size=hp.objs.size:=s1.1;have il:it < hp.objs.size:=Heap.lt_size hit
  have t2:h₂.get? hp.objs.size=some { cls:=.type "tuple",data:=.seq #[e.key,e.val] }:=by rw [← hg,← z1];exact Heap.get?_push_size _ rfl
  have z2:h₂.objs.size=hp.objs.size + 1:=by rw [← hg,Heap.size_push,z1]
  have k2:∀ b o,b≠it→hp.get? b=some o→h₂.get? b=some o:=fun b o hb z=>by rw [← hg];exact Heap.get?_push_of_some _ (s1.extBut b o hb z)
  show wpAny _ _ (Builtin.Dict_items.ownedTupleIsFree (.ref it) >>= _) _ _ ⟨h₂,g,dr,tk,os⟩;rw [z1]
  clear hg e1 s1 T1 z1 h₁;refine wpAny_bind ?_;unfold Builtin.Dict_items.ownedTupleIsFree
  rcases ho0 with ⟨rfl,rfl⟩ | ⟨a,oa,rfl,ha,hai⟩
  · refine wpAny_bind (wpAny_field e2 rfl (x:=.none) rfl (wpAny_pure ?_));simp only [if_true]
    refine wpAny_bind (wpAny_field e2 rfl (x:=ok) rfl ?_);refine wpAny_bind (wpAny_field e2 rfl (x:=ov) rfl ?_)
    refine wpAny_bind (wpAny_setField_rec e2 (by simp) fun h₃ e3 s3=>?_);replace s3:Heap.SameBut it h₂ h₃:=s3;replace e3:ItA h₃ it d (i + 1) es.size ep .none false e.key ov:=e3
    refine wpAny_bind (wpAny_setField_rec e3 (by simp) fun h₄ e4 s4=>?_);replace s4:Heap.SameBut it h₃ h₄:=s4;replace e4:ItA h₄ it d (i + 1) es.size ep .none false e.key e.val:=e4
    refine wpAny_bind (wpAny_setField_rec e4 (by simp) fun h₅ e5 s5=>?_);replace s5:Heap.SameBut it h₄ h₅:=s5;replace e5:ItA h₅ it d (i + 1) es.size ep (rawInt (hp.objs.size:Nat)) false e.key e.val:=e5
    refine wpAny_bind (wpAny_setField_rec e5 (by simp) fun h₆ e6 s6=>?_);replace s6:Heap.SameBut it h₅ h₆:=s6;replace e6:ItA h₆ it d (i + 1) es.size ep (rawInt (hp.objs.size:Nat)) false e.key e.val:=e6
    have k6:∀ b o,b≠it→h₂.get? b=some o→h₆.get? b=some o:=fun b o hb z=>s6.extBut b o hb (s5.extBut b o hb (s4.extBut b o hb (s3.extBut b o hb z)))
    have t6:=k6 _ _ (Nat.ne_of_gt il) t2
    refine wpAny_bind (wpAny_letGo (wpAny_pure (wpAny_pure ⟨_,rfl,wpAny_pure (q h₆ _ _ _ _ e6 (.inr ⟨_,_,rfl,t6,Nat.ne_of_gt il⟩) t6 ?_ (fun b o hb z=>k6 b o hb (k2 b o hb z)) fun a z=>?_)⟩)))
    · show h₆.objs.size=hp.objs.size + 1;rw [s6.1,s5.1,s4.1,s3.1,z2]
    · refine .inl ?_
      have z':(Value.int (hp.objs.size:Nat) 0:Value)=Value.int (a:Nat) 0:=z
      have z'':((hp.objs.size:Nat):Int)=((a:Nat):Int):=by injection z'
      exact (Int.ofNat.inj z'').symm
  · refine wpAny_bind (wpAny_field e2 rfl (x:=rawInt (a:Nat)) rfl ?_);show wpAny _ _ (loadIfAlive (((a:Nat):Int).toNat) >>= _) _ _ _;rw [Int.toNat_natCast]
    have a2:h₂.get? a=some oa:=k2 a oa hai ha
    refine wpAny_bind (PySem.W.kdx_alive a2 ?_);simp only [Option.isNone_some,Bool.false_eq_true,if_false];refine wpAny_bind (wpAny_field e2 rfl (x:=.bool f) rfl ?_)
    cases f with
    | true =>
      rw [if_neg (show ¬ ((Value.bool true != Value.bool true)=true) from Bool.false_ne_true)];refine wpAny_pure ?_;simp only [Bool.false_eq_true,if_false]
      exact wpAny_pure (wpAny_pure ⟨_,rfl,wpAny_pure (q h₂ _ _ _ _ e2 (.inr ⟨_,_,rfl,a2,hai⟩) t2 z2 k2 fun a z=>.inr z)⟩)
    | false =>
      rw [if_pos (show (Value.bool false != Value.bool true)=true from rfl)];refine wpAny_bind (wpAny_setField_rec e2 (by simp) fun h₃ e3 s3=>?_)
      replace s3:Heap.SameBut it h₂ h₃:=s3;replace e3:ItA h₃ it d (i + 1) es.size ep (rawInt (a:Nat)) true ok ov:=e3
      refine wpAny_pure ?_;simp only [Bool.false_eq_true,if_false]
      exact wpAny_pure (wpAny_pure ⟨_,rfl,wpAny_pure (q h₃ _ _ _ _ e3 (.inr ⟨_,_,rfl,s3.extBut _ _ hai a2,hai⟩) (s3.extBut _ _ (Nat.ne_of_gt il) t2) (by show h₃.objs.size=_;rw [s3.1,z2]) (fun b o hb z=>s3.extBut b o hb (k2 b o hb z)) fun a z=>.inr z)⟩)
theorem rit_end {it d:Addr} {i ep:Nat} {es:Array DictEntry} {o0 ok ov:Value} {f:Bool} {Q:Option Value→Shared→Prop} (hh:A.handled=none) (hit:ItA s.heap it d i es.size ep o0 f ok ov) (hm:RawD s.heap d es ep) (hx:es.size≤i)
    (q:∀ h',Heap.ExtBut it s.heap h'→Q none { s with heap:=h' }):wpAny (model P w) A (pyNext (.ref it)) Q E s:=by
  obtain ⟨od,hod,hcd,hdd⟩:=id hm;have T:s.TypeIs (.ref it) "dict_itemiterator":=⟨_,hit,rfl⟩
  unfold pyNext;refine wpAny_bind (wpAny_attempt (wpAny_callSpecial?_slot (name:=Str.ofString "__next__") T F.slot_dict_itemiterator_next (wpAny_call_entry F.slot_dict_itemiterator_next T F.entry_dict_itemiterator_next ?_ (F.args_dict_itemiterator_next_1 _))))
  refine wpAny_bind (wpAny_pure ?_);refine wpAny_bind ?_;refine wpAny_bind ?_
  first | (refine wpAny_bind (wpAny_typeNameOfWhole_itemiter T (wpAny_pure ?_))) | (refine wpAny_bind (wpAny_typeNameOf_itemiter T (wpAny_pure ?_)))
  refine wpAny_bind (wpAny_fieldsOf hit rfl ?_);have own:Builtin.Dict_items.ownsTuple "dict_itemiterator"=true:=by decide
  simp only [own,if_true];show wpAny _ _ (if (Value.ref d == Value.none)=true then _ else _) _ _ s
  rw [if_neg (show ¬ ((Value.ref d == Value.none)=true) from Bool.false_ne_true)];refine wpAny_bind (wpAny_pure ?_);refine wpAny_bind (wpAny_dictEntries hod hdd ?_)
  rw [if_neg (by simp)];refine wpAny_bind (wpAny_pure ?_);refine wpAny_bind (wpAny_dictEpoch hod hdd ?_);rw [if_neg (by simp)];refine wpAny_pure ?_
  simp only [show ¬ ((i:Int) < 0) from by omega,if_false,Int.toNat_natCast,Array.getElem?_eq_none hx];refine wpAny_bind ?_
  first | (refine wpAny_bind (wpAny_typeNameOfWhole_itemiter T (wpAny_pure ?_))) | (refine wpAny_bind (wpAny_typeNameOf_itemiter T (wpAny_pure ?_)))
  show wpAny _ _ (setField (.ref it) 2 .none >>= _) _ _ s;refine wpAny_bind (wpAny_setField hit rfl (by simp) ?_)
  show wpAny _ _ (newExc (.type "StopIteration") [] >>= _) _ _ _;refine wpAny_bind ?_;simp only [newExc,newTuple];refine wpAny_bind (wpAny_newObj_type ?_ (by size_fits))
  refine wpAny_bind (m:=firstArgMember _ _) (wpAny_of_eq (a:=Value.none) (by first | rfl | (simp only [firstArgMember];rfl)) ?_);refine wpAny_newObj_type ?_ (by size_fits)
  simp only [raiseNew];refine wpAny_bind (wpAny_handled ?_);rw [show A.in1.handled=none from hh];refine wpAny_bind (wpAny_pure (wpAny_throw ?_))
  refine wpAny_bind (wpAny_isInstance (T:="StopIteration") (b:=true) ⟨_,Heap.get?_push_size _ rfl,rfl⟩ isSubtype_stop ?_);exact wpAny_pure (q _ (((Heap.SameBut.update ..).extBut.push _).push _))
end
end L2
namespace L2
open PySem PySem.Spec PyProof.Rows
def viewO (r d:Addr):HO:=.ext fun h=>h.IsItemsView r d
def tItems (td:TE):TE:=fun σ H Q=>td σ H fun x H1=>∃ d kvs,x=.ref d∧H1 d=some (.dT kvs)∧∀ r,H1 r=none→Q (.ref r) (upd H1 r (viewO r d))
section
variable {X:Cx} {o:Expr} {apos cpos:Pos} {td:TE}
theorem pe_items (ho:PE X o td) (hbase:attributeBase o "items" X.env (eval o X.env)=eval o X.env:=by rfl) (hline:(apos.endLine == cpos.line)=true:=by rfl):PE X (.Call (.Attribute o "items" apos) [] [] cpos) (tItems td):=by
  intro pins s σ H Q I h
  refine wpAny_Call_method0_late hbase hline (thn (ho pins s σ H _ I h) fun v s1 ⟨x,H1,I1,r1,d,kvs,ex,hd,q1⟩=>?_)
  subst ex
  obtain rfl:v=Value.ref d:=r1
  obtain ⟨t1,t2,t3⟩:=isD_at I1 (.inr ⟨kvs,.inl hd⟩)
  refine ⟨"dict","dict.items",PySem.F.plainAttrs_dict,PySem.F.slot_dict_items,PySem.F.type_dict_items,t1,t2,Calls.callWith_builtin rfl (PySem.evalArgs_none ?_)⟩
  refine wpAny_call_entry PySem.F.slot_dict_items t1 PySem.F.entry_dict_items ?_ (PySem.F.args_dict_items_1 _)
  unfold Builtin.«dict.items»;refine wpAny_bind ?_;unfold Builtin.Dict.noArgs;refine wpAny_bind (wpAny_notOrdered_dict t1 ?_)
  show wpAny _ _ (pure d) _ _ s1;refine wpAny_pure ?_
  show wpAny _ _ (Builtin.Dict.showsAll d >>= _) _ _ s1;unfold Builtin.Dict.showsAll
  rw [if_neg (by rw [t3];exact Bool.false_ne_true)];refine wpAny_bind (wpAny_pure ?_)
  refine wpAny_bind (wpAny_newObj_type (wpAny_pure ⟨_,rfl,?_⟩))
  have hn:H1 s1.heap.objs.size=none:=I1.hok.fresh (Nat.le_refl _)
  have at0:(s1.heap.push { cls:=.type "dict_items",data:=.fields #[.ref d] }).get? s1.heap.objs.size=some { cls:=.type "dict_items",data:=.fields #[.ref d] }:=Heap.get?_push_size _ rfl
  refine ⟨.ref s1.heap.objs.size,_,I1.laid (a:=s1.heap.objs.size) (o:=viewO s1.heap.objs.size d) (t':=s1.toks) (fun b u e=>Heap.get?_push_of_some _ e) (Nat.le_refl _) ?_,rfl,q1 _ hn⟩
  exact ⟨⟨_,at0,rfl,rfl⟩,⟨_,at0⟩,fun h1 h2 ⟨o,e1,e2⟩ k=>⟨o,k o e1,e2⟩⟩
end
def KvAt (H:Hp) (v:V) (kv:List Key × V):Prop:=∃ r p,v=.ref r∧H r=some (.tup [.ref p,kv.2])∧H p=some (.tup (kv.1.map kV))
theorem kvs_mono {H H':Hp} (s:∀ b ys,H b=some (.tup ys)→H' b=some (.tup ys)):∀ {vs:List V} {kvs:List (List Key × V)},Paired (KvAt H) vs kvs→Paired (KvAt H') vs kvs
  | _,_,.nil=>.nil
  | _,_,.cons ⟨r,p,e,h1,h2⟩ t=>.cons ⟨r,p,e,s _ _ h1,s _ _ h2⟩ (kvs_mono s t)
theorem kvs_snoc {H:Hp} {v:V} {q:List Key × V}:∀ {ys:List V} {kvs:List (List Key × V)},Paired (KvAt H) ys kvs→KvAt H v q→Paired (KvAt H) (ys ++ [v]) (kvs ++ [q])
  | _,_,.nil,h=>.cons h .nil
  | _,_,.cons a r,h=>.cons a (kvs_snoc r h)
section
variable {X:Cx} {A:Around} {R:Result→Shared→Prop}
theorem itl_loop {pins:List (Addr × Obj)} {σ:St} {H:Hp} {S it d:Addr} {kvs:List (List Key × V)} {es:Array DictEntry} {ep:Nat} {res:Value} (hh:A.handled=none) (hS:H S=none) (hd:H d=some (.dT kvs)) (Sit:S≠it) (dit:d≠it) (hz:kvs.length≤1000)
    (hes:es.size=kvs.length) (hen:∀ (i:Nat) (e:DictEntry) (kv:List Key × V),es[i]?=some e→kvs[i]?=some kv→∃ p,e.key=.ref p∧H p=some (.tup (kv.1.map kV))∧RelV kv.2 e.val) (fin:∀ s' H' ys,Inv X pins σ H' s'→Same H H'→H' S=some (.lst ys)→Paired (KvAt H') ys kvs→R (.ok (.ret res)) s') :
    ∀ (k i:Nat) (s:Shared) (Hi:Hp) (ys:List V) (o0 ok ov:Value) (f:Bool),kvs.length - i=k→i≤kvs.length→Inv X pins σ Hi s→Same H Hi→Hi S=some (.lst ys)→Paired (KvAt Hi) ys (kvs.take i)→RawD s.heap d es ep→ItA s.heap it d i es.size ep o0 f ok ov →
    ((o0=.none∧f=false)∨∃ (a:Addr) (oa:Obj),o0=rawInt (a:Nat)∧s.heap.get? a=some oa∧a≠it∧a≠S)→FpOk X pins Hi it →
    codeAny (model X.prog X.w) A (.builtin "list.extend.loop" ⟨[.ref S,.ref it,res],[]⟩) R s:=by
  intro k
  induction k with
  | zero =>
    intro i s Hi ys o0 ok ov f hk hi I sm hy pr rd hit ho0 hf
    have e:i=kvs.length:=by omega
    subst e
    refine codeAny_builtin PySem.F.entry_extend_loop ?_;rw [Around.under_plainId PySem.F.plain_extend_loop _]
    show wpAny _ A.in1 (pyNext (.ref it) >>= _) _ _ s
    obtain ⟨f0,f1,f2,f3,f4,f5⟩:=hf
    refine wpAny_bind (rit_end (A:=A.in1) hh hit rd (by omega) fun h' eb=>?_)
    have I1:=I.turned (t':=s.toks) (fun b o hb e=>eb b o hb e) f0 f1 f3 f4 f5
    rw [List.take_length] at pr
    exact wpAny_pure (fin _ Hi ys I1 sm hy pr)
  | succ k ih =>
    intro i s Hi ys o0 ok ov f hk hi I sm hy pr rd hit ho0 hf
    have hlt:i < kvs.length:=by omega
    have hx:es[i]?=some es[i]:=Array.getElem?_eq_getElem (by omega)
    have hkv:kvs[i]?=some kvs[i]:=List.getElem?_eq_getElem hlt
    obtain ⟨p,ek,hp,rv⟩:=hen i _ _ hx hkv
    refine codeAny_builtin PySem.F.entry_extend_loop ?_;rw [Around.under_plainId PySem.F.plain_extend_loop _]
    show wpAny _ A.in1 (pyNext (.ref it) >>= _) _ _ s
    obtain ⟨f0,f1,f2,f3,f4,f5⟩:=id hf
    have ho0':(o0=.none∧f=false)∨∃ (a:Addr) (oa:Obj),o0=rawInt (a:Nat)∧s.heap.get? a=some oa∧a≠it:=by
      rcases ho0 with z | ⟨a,oa,z1,z2,z3,_⟩
      · exact .inl z
      · exact .inr ⟨a,oa,z1,z2,z3⟩
    refine wpAny_bind (rit_next (A:=A.in1) hit rd hx ho0' fun h' o1 f1' k1 v1 hit' ho1 ht hz' kp own=>?_)
    have Sl:S < s.heap.objs.size:=by
      obtain ⟨_,_,_,_,e⟩:=(show ObjOk X.prog X.w Hi s.heap S (.lst ys) from I.hok S _ hy)
      exact Heap.lt_size e
    have tn:s.heap.objs.size≠it:=Nat.ne_of_gt (Heap.lt_size hit)
    have hTn:Hi s.heap.objs.size=none:=I.hok.fresh (Nat.le_refl _)
    have STn:S≠s.heap.objs.size:=Nat.ne_of_lt Sl
    generalize hT:s.heap.objs.size=T at *
    have I6:Inv X pins σ (upd Hi T (.tup [.ref p,kvs[i].2])) { s with heap:=s.heap.push { cls:=.type "tuple",data:=.seq #[es[i].key,es[i].val] } } :=
      I.laid (a:=T) (o:=.tup [.ref p,kvs[i].2]) (t':=s.toks) (fun b u e=>Heap.get?_push_of_some _ e) (by rw [hT];exact Nat.le_refl _) ⟨by show 2≤sizeLine;decide,[es[i].key,es[i].val],.cons (by rw [ek];exact rfl) (.cons rv .nil),⟨_,by rw [← hT];exact Heap.get?_push_size _ rfl,rfl,_,rfl⟩⟩
    have S6:Same Hi (upd Hi T (.tup [.ref p,kvs[i].2])):=isV T hTn
    have I7:Inv X pins σ (upd Hi T (.tup [.ref p,kvs[i].2])) { s with heap:=h' }:=I6.turned (s:={ s with heap:=s.heap.push { cls:=.type "tuple",data:=.seq #[es[i].key,es[i].val] } }) (t':=s.toks) (fun b o hb e=>by
      rcases Heap.get?_push_cases (show (s.heap.push { cls:=.type "tuple",data:=.seq #[es[i].key,es[i].val] }).get? b=some o from e) with ⟨rfl,rfl⟩ | e
      · rw [hT];exact ht
      · exact kp b o hb e) (by rw [upd_ne (Ne.symm tn)];exact f0) f1 f3 f4 f5
    have hy7:(upd Hi T (.tup [.ref p,kvs[i].2])) S=some (.lst ys):=S6 _ _ hy
    obtain ⟨z,its,n,r,hl,e⟩:=I7.lstM hy7
    have yl:ys.length=i:=by
      have:=Paired.length pr
      rw [List.length_take] at this
      omega
    show wpAny _ A.in1 (updateSeq S (·.push (Value.ref T)) >>= _) _ _ _
    have e':h'.get? S=some { cls:=.type "list",data:=.seq its.toArray n }:=e
    refine wpAny_bind (wpAny_updateSeq (s:={ s with heap:=h' }) e' rfl ?_ (by rw [List.size_toArray,← r.length,yl];exact Nat.le_trans (by omega:i≤1000) (by decide)) (by rw [Array.size_push,List.size_toArray,← r.length,yl];exact Nat.le_trans (by omega:i + 1≤1001) (by decide)))
    have I8:=I7.lset (f:=fun xs=>xs.push (Value.ref T)) (t':=s.toks) (its':=its ++ [Value.ref T]) hy7 e' (by simp) (r.append (.cons (show RelV (.ref T) (.ref T) from rfl) .nil)) (by rw [List.length_append,yl];exact Nat.le_trans (by show i + 1≤1001;omega) (by decide))
    have up:∀ b o,b≠S→h'.get? b=some o→(h'.update S (Obj.mapSeq (·.push (Value.ref T)))).get? b=some o:=fun b o hb z=>(Heap.get?_update_other _ _ (Ne.symm hb)).trans z
    have dS:d≠S:=ne_of_none hd hS
    have tS:∀ b zs,Hi b=some (.tup zs)→(upd (upd Hi T (.tup [.ref p,kvs[i].2])) S (.lst (ys ++ [.ref T]))) b=some (.tup zs):=fun b zs z=>by
      rw [upd_ne (ne_of z hy (by intro z;cases z))];exact S6 _ _ z
    have ri:∀ {a b:Nat},(rawInt (a:Int):Value)=rawInt (b:Int)→a=b:=fun {a b} z=>by
      have z':(Value.int (a:Int) 0:Value)=Value.int (b:Int) 0:=z
      have z'':(a:Int)=(b:Int):=by injection z'
      exact Int.ofNat.inj z''
    refine wpAny_pure ⟨plainId_quiet PySem.F.plain_extend_loop _,ih (i + 1) _ _ (ys ++ [.ref T]) o1 k1 v1 f1' (by omega) hlt I8 (fun b o z=>?_) upd_same ?_ (rd.at fun o z=>up d o dS (kp d o dit z)) (up it _ (Ne.symm Sit) hit') ?_ ⟨?_,f1,f2,f3,f4,f5⟩⟩
    · rw [upd_ne (ne_of_none z hS)];exact S6 _ _ (sm _ _ z)
    · rw [List.take_add_one,hkv]
      exact kvs_snoc (kvs_mono tS pr) ⟨T,p,rfl,by rw [upd_ne (Ne.symm STn),upd_same],tS _ _ (sm _ _ hp)⟩
    · rcases ho1 with z | ⟨a,oa,z1,z2,z3⟩
      · exact .inl z
      · have aS:a≠S:=by
          rcases own a z1 with z | z
          · rw [z];exact Ne.symm STn
          · rcases ho0 with ⟨y1,_⟩ | ⟨a',oa',y1,_,_,y4⟩
            · rw [y1] at z;cases z
            · rw [y1] at z
              rw [← ri z];exact y4
        exact .inr ⟨a,oa,z1,up a _ aS z2,z3,aS⟩
    · rw [upd_ne (Ne.symm Sit),upd_ne (Ne.symm tn)];exact f0
end
end L2
namespace L2
open PySem PySem.Spec PyProof.Rows
abbrev cLstI:RC:=fun vs H Q=>∃ r d kvs,vs=[.ref r]∧H r=some (viewO r d)∧H d=some (.dT kvs)∧kvs.length≤1000∧∀ l ys H',Same H H'→H l=none→H' l=some (.lst ys)→Paired (KvAt H') ys kvs→Q (.ref l) H'
theorem view_at {P:Program} {w:World} {H:Hp} {h:Heap} {r d:Addr} (k:HOk P w H h) (e:H r=some (viewO r d)):h.IsItemsView r d:=(k r _ e).1
theorem rel_get {H:Hp}:∀ {kvs:List (List Key × V)} {xs:List (List Key × Addr × Value)},Paired (fun (p:List Key × V) (q:List Key × Addr × Value)=>p.1=q.1∧H q.2.1=some (.tup (p.1.map kV))∧RelV p.2 q.2.2) kvs xs→∀ {i:Nat} {kv:List Key × V} {x:List Key × Addr × Value},kvs[i]?=some kv→xs[i]?=some x→H x.2.1=some (.tup (kv.1.map kV))∧RelV kv.2 x.2.2 :=
  fun {_ _} h {_ _ _} e1 e2=>(paired_get h e1 e2).2
section
variable {X:Cx}
theorem raw_of {pins:List (Addr × Obj)} {σ:St} {H:Hp} {s:Shared} {d:Addr} {kvs:List (List Key × V)} (I:Inv X pins σ H s) (e:H d=some (.dT kvs)):∃ es ep,RawD s.heap d es ep∧es.size=kvs.length ∧
    ∀ (i:Nat) (en:DictEntry) (kv:List Key × V),es[i]?=some en→kvs[i]?=some kv→∃ p,en.key=.ref p∧H p=some (.tup (kv.1.map kV))∧RelV kv.2 en.val:=by
  obtain ⟨z,hd,xs,rel,o,es,ep,h1,h2,h3,h4,_⟩:=(show ObjOk X.prog X.w H s.heap d (.dT kvs) from I.hok d _ e)
  have l1:es.size=xs.length:=by rw [← Array.length_toList,h4,List.length_map]
  refine ⟨es,ep,⟨o,h1,h2,h3⟩,by rw [l1,← Paired.length rel],fun i en kv e1 e2=>?_⟩
  have e3:es.toList[i]?=some en:=by rw [Array.getElem?_toList];exact e1
  rw [h4,List.getElem?_map] at e3
  obtain ⟨x,hx,rfl⟩:=Option.map_eq_some_iff.mp e3
  obtain ⟨g1,g2⟩:=rel_get rel e2 hx
  exact ⟨x.2.1,rfl,g1,g2⟩
theorem ext_items {A:Around} {R:Result→Shared→Prop} {pins:List (Addr × Obj)} {σ:St} {H:Hp} {s:Shared} {S r d:Addr} {kvs:List (List Key × V)} {res:Value} {c:Nat} (hh:A.handled=none) (hS:H S=none) (hr:H r=some (viewO r d)) (hd:H d=some (.dT kvs)) (hl:kvs.length≤1000)
    (I2:Inv X pins σ (upd H S (.lst [])) s) (T2:s.heap.get? S=some { cls:=.type "list",data:=.seq #[] c }) (hR:∀ s' H' ys,Inv X pins σ H' s'→Same H H'→H' S=some (.lst ys)→Paired (KvAt H') ys kvs→R (.ok (.ret res)) s') :
    wpAny (model X.prog X.w) A.in1 (Builtin.List.listExtendWith (.ref S) (.ref r) res) (fun fin s'=>match fin with | .done f=>R (.ok f) s' | .again c'=>c'.quiet=true∧codeAny (model X.prog X.w) A c' R s') (fun e s'=>R (.error e) s') s:=by
  have Sr:r≠S:=ne_of_none hr hS
  have Sd:d≠S:=ne_of_none hd hS
  have SS:Same H (upd H S (.lst [])):=isV S hS
  obtain ⟨es,ep,rd,hes,hen0⟩:=raw_of I2 (SS _ _ hd)
  have hen:∀ (i:Nat) (en:DictEntry) (kv:List Key × V),es[i]?=some en→kvs[i]?=some kv→∃ p,en.key=.ref p∧H p=some (.tup (kv.1.map kV))∧RelV kv.2 en.val:=fun i en kv e1 e2=>by
    obtain ⟨p,g1,g2,g3⟩:=hen0 i en kv e1 e2
    refine ⟨p,g1,?_,g3⟩
    by_cases hp:p=S
    · rw [hp,upd_same] at g2;cases g2
    · rwa [upd_ne hp] at g2
  have vw:=view_at I2.hok (SS _ _ hr)
  unfold Builtin.List.listExtendWith
  refine wpAny_bind (wpAny_typeOf (T:="dict_items") vw.typeIs ?_)
  have c1:Builtin.List.listSameRef (.ref S) (.ref r)=false:=by simp [Builtin.List.listSameRef,Ne.symm Sr]
  have c2:(Value.type "dict_items" == Value.type "list")=false:=by decide
  have c3:(Value.type "dict_items" == Value.type "tuple")=false:=by decide
  simp only [c1,c2,c3,Bool.or_false,Bool.false_eq_true,if_false]
  refine wpAny_bind (rit_iter vw rd ?_)
  have ni:(upd H S (.lst [])) s.heap.objs.size=none:=I2.hok.fresh (Nat.le_refl _)
  have fp:FpOk X pins (upd H S (.lst [])) s.heap.objs.size:=I2.fpOk (Nat.le_refl _) ni
  have Si:S≠s.heap.objs.size:=Nat.ne_of_lt (Heap.lt_size T2)
  have di:d≠s.heap.objs.size:=Nat.ne_of_lt rd.lt
  have I3:Inv X pins σ (upd H S (.lst [])) { s with heap:=s.heap.push { cls:=.type "dict_itemiterator",data:=.fields #[.none,.bool false,.ref d,.int 0 0,.int es.size 0,.int ep 0,.none,.none] } }:=I2.kept (t':=s.toks) fun b o e=>Heap.get?_push_of_some _ e
  have T3:=Heap.get?_push_of_some { cls:=.type "dict_itemiterator",data:=.fields #[.none,.bool false,.ref d,.int 0 0,.int es.size 0,.int ep 0,.none,.none] } T2
  have it3:ItA (s.heap.push { cls:=.type "dict_itemiterator",data:=.fields #[.none,.bool false,.ref d,.int 0 0,.int es.size 0,.int ep 0,.none,.none] }) s.heap.objs.size d 0 es.size ep .none false .none .none:=Heap.get?_push_size _ rfl
  have rd3:RawD (s.heap.push { cls:=.type "dict_itemiterator",data:=.fields #[.none,.bool false,.ref d,.int 0 0,.int es.size 0,.int ep 0,.none,.none] }) d es ep:=rd.at fun o e=>Heap.get?_push_of_some _ e
  have vw3:(s.heap.push { cls:=.type "dict_itemiterator",data:=.fields #[.none,.bool false,.ref d,.int 0 0,.int es.size 0,.int ep 0,.none,.none] }).IsItemsView r d:=let ⟨o,ho,x⟩:=vw;⟨o,Heap.get?_push_of_some _ ho,x⟩
  generalize hh3:s.heap.push { cls:=.type "dict_itemiterator",data:=.fields #[.none,.bool false,.ref d,.int 0 0,.int es.size 0,.int ep 0,.none,.none] }=h3 at *
  generalize s.heap.objs.size=it at *
  refine wpAny_bind (wpAny_holding (PySem.W.kdx_hint vw3.typeIs ?_))
  have fin:∀ (h4:Heap) (tk:Nat) (R:Result→Shared→Prop),(∀ s' H' ys,Inv X pins σ H' s'→Same H H'→H' S=some (.lst ys)→Paired (KvAt H') ys kvs→R (.ok (.ret res)) s')→Inv X pins σ (upd H S (.lst [])) { s with heap:=h4,toks:=tk }→RawD h4 d es ep→ItA h4 it d 0 es.size ep .none false .none .none →
      codeAny (model X.prog X.w) A (.builtin "list.extend.loop" ⟨[.ref S,.ref it,res],[]⟩) R { s with heap:=h4,toks:=tk }:=fun h4 tk R hR I4 rd4 it4 =>
    itl_loop (A:=A) (H:=H) (es:=es) (ep:=ep) hh hS hd Si di hl hes hen hR kvs.length 0 _ (upd H S (.lst [])) [] .none .none .none false (Nat.sub_zero _) (Nat.zero_le _) I4 SS upd_same .nil rd4 it4 (.inl ⟨rfl,rfl⟩) fp
  refine wpAny_ite_split (fun _=>?_) (fun _=>wpAny_pure ⟨plainId_quiet PySem.F.plain_extend_loop _,fin h3 s.toks _ hR I3 rd3 it3⟩)
  refine wpAny_bind (wpAny_rule ?_);refine wpAny_bind ?_
  show wpAny _ _ (updateSeq S (·.push .none) >>= fun _=>updateSeq S (·.pop)) _ _ _;refine wpAny_bind (wpAny_updateSeq T3 rfl ?_)
  have T4:=Heap.get?_update_self (Obj.mapSeq (·.push Value.none)) T3 rfl
  refine wpAny_updateSeq (hz:=by seq_fits) T4 rfl ?_
  have I4:=I3.lset (f:=fun xs=>xs.push Value.none) (its:=[]) (its':=[Value.none]) (ys:=[V.non]) (t':=s.toks) upd_same T3 rfl (.cons rfl .nil) (by show 1≤sizeLine;decide)
  have I5:=I4.lset (f:=fun xs=>xs.pop) (its:=[Value.none]) (its':=[]) (ys:=[]) (t':=s.toks) upd_same T4 rfl .nil (Nat.zero_le _)
  rw [upd_upd,upd_upd] at I5
  have oth:∀ b o,b≠S→h3.get? b=some o→((h3.update S (Obj.mapSeq (·.push Value.none))).update S (Obj.mapSeq (·.pop))).get? b=some o:=fun b o hb e=>(Heap.get?_update_other _ _ (Ne.symm hb)).trans ((Heap.get?_update_other _ _ (Ne.symm hb)).trans e)
  exact wpAny_pure ⟨plainId_quiet PySem.F.plain_extend_loop _,fin _ s.toks _ hR I5 (rd3.at fun o e=>oth d o Sd e) (oth it _ (Ne.symm Si) it3)⟩
theorem call_list_items (hc:X.calm=true):CallR X (.type "list") cLstI:=by
  intro pins s σ H vs us Q I r0 h
  obtain ⟨r,d,kvs,rfl,hr,hd,hl,q⟩:=h
  obtain ⟨u,rfl,ru⟩:=vals1 r0
  cases ru
  have hh:X.A.handled=none:=I.ok.hd hc
  refine callType_codes (Q₁:=fun obj s₁=>obj=.ref s.heap.objs.size∧s₁={ s with heap:=s.heap.push { cls:=.type "list",data:=.seq #[] } }) PySem.F.called_list (PySem.F.typeCall_list_1 _) PySem.F.entry_list_init (code_list_new _ ⟨rfl,rfl⟩) ?_;rintro obj s₁ ⟨rfl,rfl⟩
  have hS:H s.heap.objs.size=none:=I.hok.fresh (Nat.le_refl _)
  have I1:Inv X pins σ (upd H s.heap.objs.size (.lst [])) { s with heap:=s.heap.push { cls:=.type "list",data:=.seq #[] } }:=I.lnew (its:=[]) (t':=s.toks) .nil (Nat.zero_le _)
  have T0:(s.heap.push { cls:=.type "list",data:=.seq #[] }).get? s.heap.objs.size=some { cls:=.type "list",data:=.seq #[] }:=Heap.get?_push_size _ rfl
  generalize hT:s.heap.objs.size=S at *
  refine ⟨⟨_,T0,rfl⟩,PySem.F.args_list_init_2 _ _,?_⟩
  show wpAny _ _ (do let old ← Builtin.List.listItems (.ref S);Builtin.List.listUpdate (.ref S) (fun _=>#[]);letGo old.toList.reverse;Builtin.List.listExtendWith (.ref S) (.ref r) .none) _ _ _
  refine wpAny_bind ?_;unfold Builtin.List.listItems;refine wpAny_bind (wpAny_seqItems T0 rfl (wpAny_pure ?_))
  show wpAny _ _ (updateSeq S (fun _=>#[]) >>= fun _=>letGo (#[]:Array Value).toList.reverse >>= fun _=>Builtin.List.listExtendWith (.ref S) (.ref r) .none) _ _ _
  refine wpAny_bind (wpAny_updateSeq T0 rfl ?_)
  have I2:=I1.lset (f:=fun _=>(#[]:Array Value)) (its:=[]) (its':=[]) (ys:=[]) (t':=s.toks) upd_same T0 rfl .nil (Nat.zero_le _)
  rw [upd_upd] at I2
  have T2:=Heap.get?_update_self (Obj.mapSeq (fun _=>(#[]:Array Value))) T0 rfl
  refine wpAny_bind (wpAny_letGo ?_)
  generalize hh2:(s.heap.push { cls:=.type "list",data:=.seq #[] }).update S (Obj.mapSeq (fun _=>(#[]:Array Value)))=h2 at *
  exact ext_items (A:=X.A.in1) (H:=H) hh hS hr hd hl I2 T2 fun s' H' ys I' sm hy pr=>⟨rfl,.ref S,H',I',rfl,q S ys H' sm hS hy pr⟩
end
end L2
namespace L2
open PySem PySem.Spec PyProof.Rows PySem.W
section
variable {X:Cx}
theorem coll_items {A:Around} {E:Value→Shared→Prop} {R:List Value→Shared→Prop} {pins:List (Addr × Obj)} {σ:St} {H:Hp} {s:Shared} {r d:Addr} {kvs:List (List Key × V)} (hh:A.handled=none) (hr:H r=some (viewO r d)) (hd:H d=some (.dT kvs)) (hl:kvs.length≤1000) (I:Inv X pins σ H s)
    (h:∀ s1 H' ys us,Inv X pins σ H' s1→Same H H'→Paired (KvAt H') ys kvs→Vals ys us→R us s1):wpAny (model X.prog X.w) A (collect (.ref r)) R E s:=by
  have hS:H s.heap.objs.size=none:=I.hok.fresh (Nat.le_refl _)
  have I1:Inv X pins σ (upd H s.heap.objs.size (.lst [])) { s with heap:=s.heap.push { cls:=.type "list",data:=.seq ([]:List Value).toArray } }:=I.lnew (its:=[]) (t':=s.toks) .nil (Nat.zero_le _)
  have T1:(s.heap.push { cls:=.type "list",data:=.seq ([]:List Value).toArray }).get? s.heap.objs.size=some { cls:=.type "list",data:=.seq #[] }:=Heap.get?_push_size _ rfl
  unfold collect;refine wpAny_bind (wpAny_runValue (codeAny_builtin entry_proto_collect' ?_));rw [Around.under_plainId PySem.F.plain_proto_collect _]
  show wpAny _ A.in1 (newList [] >>= fun l=>again (.builtin "list.__iadd__" ⟨[l,.ref r],[]⟩)) _ _ s;refine wpAny_bind (wpAny_newObj_type ?_)
  refine wpAny_pure ⟨plainId_quiet PySem.F.plain_list_iadd _,codeAny_builtin entry_list_iadd' ?_⟩;rw [Around.under_plainId PySem.F.plain_list_iadd _]
  generalize s.heap.objs.size=S at *
  show wpAny _ A.in1 (Builtin.List.listExtendWith (.ref S) (.ref r) (.ref S)) _ _ _
  have key:=ext_items (A:=A) (R:=fun (q:Result) (s':Shared)=>∃ H' ys,q=.ok (.ret (.ref S))∧Inv X pins σ H' s'∧Same H H'∧H' S=some (.lst ys)∧Paired (KvAt H') ys kvs) (res:=.ref S) hh hS hr hd hl I1 T1 fun s' H' ys I' sm hy pr=>⟨H',ys,rfl,I',sm,hy,pr⟩
  have fin:∀ s':Shared,(∃ H' ys,Inv X pins σ H' s'∧Same H H'∧H' S=some (.lst ys)∧Paired (KvAt H') ys kvs)→wpAny (model X.prog X.w) A (load S >>= fun o=>match o.data with | .seq xs _=>pure xs.toList | _=>unsupported "internal:collect") R E s':=fun s' ⟨H',ys,I',sm,hy,pr⟩=>by
    obtain ⟨z,its,n,rv,hl',e⟩:=I'.lstM hy
    refine wpAny_bind (wpAny_load e ?_)
    refine wpAny_pure ?_
    exact h s' H' ys its I' sm pr rv
  refine wpAny_mono key (fun f s' x=>?_) fun e s' x=>?_
  · cases f with
    | done f =>
      obtain ⟨H',ys,e,x⟩:=x
      cases e
      exact fin s' ⟨H',ys,x⟩
    | again c₁ =>
      refine ⟨x.1,codeAny_mono x.2 fun q s₂ y=>?_⟩
      obtain ⟨H',ys,rfl,y⟩:=y
      exact fin s₂ ⟨H',ys,y⟩
  · obtain ⟨_,_,e',_⟩:=x
    cases e'
end
section
variable {P:Program} {w:World} {A:Around} {E:Value→Shared→Prop} {s:Shared}
theorem lt_place {x y:Addr} {a b:Str × Int} {Q:Bool→Shared→Prop} (hu:A.units < cLine) (hx:PlAt s.heap (.ref x) a) (hy:PlAt s.heap (.ref y) b) (h:Q (placeLt a b) s):wpAny (model P w) A (oneLt' false (.ref x) (.ref y)) Q E s:=by
  obtain ⟨p,o,t,u,n,e1,ho,hc,hd⟩:=hx
  obtain ⟨p2,o2,t2,u2,n2,e2,ho2,hc2,hd2⟩:=hy
  cases e1
  cases e2
  obtain ⟨c,dd,dat,sl⟩:=o
  obtain ⟨c2,dd2,dat2,sl2⟩:=o2
  simp only at hc hd hc2 hd2
  subst hc hd hc2 hd2
  have T1:s.TypeIs (.ref x) "tuple":=⟨_,ho,rfl⟩
  have T2:s.TypeIs (.ref y) "tuple":=⟨_,ho2,rfl⟩
  refine kat_one _ _ ?_
  show wpAny _ _ (richCompare .Lt (.ref x) (.ref y)) _ _ _
  refine wpAny_richCompare_same_room T1 T2 PySem.F.slot_tuple_lt ?_ hu
  exact call_meets PySem.F.slot_tuple_lt T1 PySem.F.entry_tuple_lt (PySem.F.args_tuple_lt_2 _ _) (tuple_lt_place x y a.1 b.1 a.2 b.2 t u t2 u2 n n2 dd dd2 sl sl2) ⟨ho,ho2,by simp,h⟩
theorem pl_key {h:Heap} {x:Addr} {a:Str × Int} (hx:PlAt h (.ref x) a):IsTupleKey (mixKind P w) h (plKey a) x:=by
  obtain ⟨p,o,t,u,n,e1,ho,hc,hd⟩:=hx
  cases e1
  exact ⟨o,_,n,ho,hc,hd,items_are (ks:=plKey a) (.cons ⟨t,rfl⟩ (.cons ⟨u,rfl⟩ .nil))⟩
def RvAt (h:Heap) (v:Value) (q:Row):Prop:=∃ a o p t n,v=.ref a∧h.get? a=some o∧o.cls=.type "tuple"∧o.data=.seq #[.ref p,.int q.2 t] n∧PlAt h (.ref p) q.1
theorem RvAt.keep {h h':Heap} {v:Value} {q:Row} (x:RvAt h v q) (k:∀ b o,h.get? b=some o→h'.get? b=some o):RvAt h' v q:=by
  obtain ⟨a,o,p,t,n,e,ho,hc,hd,hp⟩:=x
  exact ⟨a,o,p,t,n,e,k _ _ ho,hc,hd,hp.keep k⟩
theorem ask_row {x y:Value} {a b:Row} {Q:Bool→Shared→Prop} (hu:A.units < cLine) (hx:RvAt s.heap x a) (hy:RvAt s.heap y b) (h:Q (placeLt a.1 b.1) s) (hn:a.1≠b.1):wpAny (model P w) A (keyLt' (tuples' false) x y) Q E s:=by
  obtain ⟨p,o,pp,t,n,rfl,ho,hc,hd,hp⟩:=hx
  obtain ⟨p2,o2,pp2,t2,n2,rfl,ho2,hc2,hd2,hp2⟩:=hy
  refine kat_lt ho hd ho2 hd2 (kat_cons (wpAny_eqBool_tuple (knd:=mixKind P w) hu (pl_key hp) (pl_key hp2) (kat_go (fun e=>?_) fun e=>kat_no ?_)))
  · exact absurd (plKey_inj (of_decide_eq_true e)) hn
  · exact lt_place hu hp hp2 h
theorem kind_row {vs:List Value} {qs:List Row} {Q:SortKind→Shared→Prop} (hl:vs.length=qs.length) (hv:∀ (i:Nat) (v:Value) (q:Row),vs[i]?=some v→qs[i]?=some q→RvAt s.heap v q) (h2:0 < vs.length) (h:Q (tuples' false) s) :
    wpAny (model P w) A (keyKind' vs.toArray) Q E s:=by
  have T:∀ (vs:List Value) (qs:List Row),vs.length=qs.length→(∀ (i:Nat) (v:Value) (q:Row),vs[i]?=some v→qs[i]?=some q→RvAt s.heap v q)→∃ fs,KatTups s.heap vs fs∧fs.length=vs.length∧∀ v∈fs,∃ p o,v=Value.ref p∧s.heap.get? p=some o∧o.cls=.type "tuple":=by
    intro vs
    induction vs with
    | nil=>exact fun qs _ _=>⟨[],trivial,rfl,fun _ z=>nomatch z⟩
    | cons v r ih =>
      intro qs hl hv
      match qs,hl with
      | q :: qr,hl =>
        obtain ⟨fs,k,kl,kf⟩:=ih qr (by simpa using hl) fun i v' q' e1 e2=>hv (i + 1) v' q' (by simpa using e1) (by simpa using e2)
        obtain ⟨a,o,p,t,n,rfl,ho,hc,hd,hp⟩:=hv 0 v q rfl rfl
        refine ⟨.ref p :: fs,KatTups.cons ho hc hd rfl k,by simp [kl],fun z hz=>?_⟩
        rcases List.mem_cons.mp hz with rfl | hz
        · obtain ⟨p',o',_,_,_,e,g1,g2,_⟩:=hp
          cases e
          exact ⟨_,o',rfl,g1,g2⟩
        · exact kf z hz
  obtain ⟨fs,k,kl,kf⟩:=T vs qs hl hv
  refine kat_kind (T:=.type "tuple") k (by omega) (fun v hv=>?_) (by decide) h
  obtain ⟨p,o,rfl,g1,g2⟩:=kf v hv
  exact g2 ▸ (PySem.W.Looks.ld g1).andThen .now
theorem sorted_pure2 {l:Addr} {κ:SortKind} {Q:Value→Shared→Prop} (G:List Value→(Nat→Nat→Bool)→Shared→Prop)
    (coll:∀ R:List Value→Shared→Prop,(∀ vs lt s1,G vs lt s1→R vs s1)→wpAny (model P w) A.in1 (collect (.ref l)) R E s)
    (h64:∀ vs lt s1,G vs lt s1→vs.length < 1000∧SO lt vs.length)
    (hk:∀ vs lt s1,G vs lt s1→2≤vs.length→∀ (h:Heap) (Q:SortKind→Shared→Prop),(∀ b o,s1.heap.get? b=some o→h.get? b=some o)→Q κ { s1 with heap:=h }→wpAny (model P w) A.in1.in1 (keyKind' vs.toArray) Q (fun _ _=>False) { s1 with heap:=h })
    (hc:∀ vs lt s1,G vs lt s1→∀ (h:Heap) i j C,(∀ b o,s1.heap.get? b=some o→h.get? b=some o)→i < vs.length→j < vs.length→i≠j→C (lt i j) { s1 with heap:=h }→kas_ask P w A.in1.in1 κ vs i j C { s1 with heap:=h })
    (fin:∀ vs lt s1,G vs lt s1→∀ (h':Heap) (p:Array Nat) (c:Nat),(∀ b o,s1.heap.get? b=some o→h'.get? b=some o)→h'.get? s1.heap.objs.size=some (seqObj "list" (outOf vs p).toArray c)→PP vs.length p→Rise lt p vs.length→Q (.ref s1.heap.objs.size) { s1 with heap:=h' }) :
    wpAny (model P w) A (call (.builtin "sorted") [.ref l]) Q E s:=by
  refine Calls.call_function_entry kind_sorted plain_sorted entry_sorted (args_sorted1 _) ?_;unfold Builtin.«sorted»
  refine wpAny_bind (m:=checkCount "sorted" 1 1 _) (wpAny_pure ?_);refine wpAny_bind (coll _ fun vs lt s1 g=>?_)
  obtain ⟨l64,S⟩:=h64 vs lt s1 g
  refine wpAny_bind (wpAny_newList ?_ (by rw [sizeLine_eq];omega))
  have hoL:(s1.heap.push (seqObj "list" vs.toArray 0)).get? s1.heap.objs.size=some (seqObj "list" vs.toArray 0):=Heap.get?_push_size _ rfl
  have kept:∀ h',Kp s1.heap.objs.size (s1.heap.push (seqObj "list" vs.toArray 0)) h'→∀ b o,s1.heap.get? b=some o→h'.get? b=some o:=fun h' k b o e=>k b o (Nat.ne_of_lt (Heap.lt_size e)) (Heap.get?_push_of_some _ e)
  refine wpAny_bind (wpAny_holding (wpAny_call_entry slot_list_sort ⟨_,hoL,rfl⟩ entry_list_sort (lsort_pure (s:={ s1 with heap:=s1.heap.push (seqObj "list" vs.toArray 0) }) hoL l64 (κ:=κ) (lt:=lt) (fun h2 h' Q' k q=>?_) (fun h' i j C k hi hj hij q=>?_) S fun h' p c k ho hp hr=>?_) (args_list_sort _)))
  · exact hk vs lt s1 g h2 h' Q' (kept h' k) q
  · exact hc vs lt s1 g h' i j C (kept h' k) hi hj hij q
  · exact ⟨_,rfl,wpAny_pure ⟨_,rfl,fin vs lt s1 g h' p c (kept h' k) ho hp hr⟩⟩
end
end L2
namespace L2
open PySem PySem.Spec PyProof.Rows PySem.W
def d0:Row:=(("",0),0)
theorem its_of (rows:List Row):∃ its:List Row,dOf rows=its.map (fun q=>(plKey q.1,V.int q.2))∧(its.map (·.1)).Nodup∧∀ p w,(p,w)∈its↔lastW rows p=some w:=by
  have h:=okKv_dOf rows
  have:∀ (kvs:List (List Key × V)),(∀ kv∈kvs,∃ (p:Pl) (w:Int),kv=(plKey p,.int w))→∃ its:List Row,kvs=its.map (fun q=>(plKey q.1,V.int q.2)):=fun kvs=>by
    induction kvs with
    | nil=>exact fun _=>⟨[],rfl⟩
    | cons kv r ih =>
      intro hk
      obtain ⟨qs,e⟩:=ih fun z hz=>hk z (List.mem_cons_of_mem _ hz)
      obtain ⟨p,w,e2⟩:=hk kv List.mem_cons_self
      exact ⟨(p,w) :: qs,by rw [List.map_cons,← e,e2]⟩
  obtain ⟨its,e⟩:=this _ h.2
  refine ⟨its,e,?_,fun p w=>?_⟩
  · have:=h.1
    rw [e,List.map_map] at this
    refine nodup_map_inj (f:=plKey) ?_
    rw [List.map_map]
    exact this
  · have m:=mem_dOf (rows:=rows) (kv:=(plKey p,V.int w))
    constructor
    · intro hm
      obtain ⟨p',w',e1,e2⟩:=m.mp (by rw [e];exact List.mem_map.mpr ⟨_,hm,rfl⟩)
      have e3:=plKey_inj (Prod.mk.inj e1).1
      have e4:=V.int.inj (Prod.mk.inj e1).2
      rw [e3,e4];exact e2
    · intro hw
      have hm:=m.mpr ⟨p,w,rfl,hw⟩
      rw [e] at hm
      obtain ⟨q,hq,e1⟩:=List.mem_map.mp hm
      have e3:=plKey_inj (Prod.mk.inj e1).1
      have e4:=V.int.inj (Prod.mk.inj e1).2
      rw [← e3,← e4];exact hq
theorem range_getD {α:Type} (l:List α) (d:α):(List.range l.length).map (fun i=>l.getD i d)=l:=by
  apply List.ext_getElem?
  intro i
  rw [List.getElem?_map]
  by_cases hi:i < l.length
  · rw [List.getElem?_range hi,List.getElem?_eq_getElem hi]
    simp [List.getD_eq_getElem?_getD,List.getElem?_eq_getElem hi]
  · rw [List.getElem?_eq_none (by simpa using hi),List.getElem?_eq_none (by omega)]
    rfl
theorem PP.list {n:Nat} {p:Array Nat} (h:PP n p):p.toList.Perm (List.range n):=by
  have:=Array.perm_iff_toList_perm.mp h
  simpa using this
theorem PP.lt {n:Nat} {p:Array Nat} (h:PP n p):∀ i∈p.toList,i < n:=fun i hi=>by
  have:=h.list.mem_iff.mp hi
  simpa using this
theorem rise_pairs {α:Type} {F:α→α→Bool} {l:List α} {d:α} {n:Nat} {p:Array Nat} (hp:PP n p) (hr:Rise (fun i j=>F (l.getD i d) (l.getD j d)) p n):(p.toList.map fun i=>l.getD i d).Pairwise fun a b=>F a b=true:=by
  rw [List.pairwise_map,List.pairwise_iff_getElem]
  intro i j hi hj hij
  rw [Array.length_toList] at hi hj
  have g1:=gt_eq hi
  have g2:=gt_eq hj
  have sz:=hp.size
  have r:=hr i j hij (by omega)
  have x1:p.toList[i]=gt p i:=by
    rw [Array.getElem?_eq_getElem hi] at g1
    simpa using g1
  have x2:p.toList[j]=gt p j:=by
    rw [Array.getElem?_eq_getElem hj] at g2
    simpa using g2
  rw [x1,x2];exact r
theorem paired_pick {α β:Type} {F:α→β→Prop} {l₁:List α} {l₂:List β} (h:Paired F l₁ l₂) (a:α) (b:β):∀ {is:List Nat},(∀ i∈is,i < l₁.length)→Paired F (is.map fun i=>l₁.getD i a) (is.map fun i=>l₂.getD i b)
  | [],_=>.nil
  | i :: r,hi=>by
    have l:=Paired.length h
    have h1:=hi i List.mem_cons_self
    refine .cons ?_ (paired_pick h a b fun j hj=>hi j (List.mem_cons_of_mem _ hj))
    show F (l₁.getD i a) (l₂.getD i b)
    have e1:=List.getElem?_eq_getElem h1
    have e2:l₂[i]?=some l₂[i]:=List.getElem?_eq_getElem (by omega)
    rw [List.getD_eq_getElem?_getD,List.getD_eq_getElem?_getD,e1,e2]
    exact paired_get h e1 e2
abbrev cSrtI:RC:=fun vs H Q=>∃ r d rows,vs=[.ref r]∧H r=some (viewO r d)∧H d=some (.dT (dOf rows))∧(dOf rows).length < 1000 ∧
  ∀ l ys srt H',Same H H'→H l=none→H' l=some (.lst ys)→Paired (PrAt H') ys srt→Rising srt→(∀ p w,(p,w)∈srt↔lastW rows p=some w)→Q (.ref l) H'
theorem kv_pr {H:Hp}:∀ {ys:List V} {its:List Row},Paired (KvAt H) ys (its.map fun q=>(plKey q.1,V.int q.2))→Paired (PrAt H) ys its
  | _,[],h=>by cases h;exact .nil
  | _,q :: r,h=>by
    rw [List.map_cons] at h
    cases h with
    | cons a t=>exact .cons a (kv_pr t)
section
variable {X:Cx}
theorem rv_at {pins:List (Addr × Obj)} {σ:St} {H:Hp} {s:Shared} {v:V} {u:Value} {q:Row} (I:Inv X pins σ H s) (h:PrAt H v q) (r:RelV v u):RvAt s.heap u q:=by
  obtain ⟨a,p,rfl,h1,h2⟩:=h
  cases r
  obtain ⟨_,its,rv,o,o1,o2,n,o3⟩:=(show ObjOk X.prog X.w H s.heap a (.tup [.ref p,.int q.2]) from I.hok a _ h1)
  cases rv with
  | cons r1 rr =>
    cases rr with
    | cons r2 rn =>
      cases rn
      cases r1
      obtain ⟨t,rfl⟩:=r2
      exact ⟨a,o,p,t,n,rfl,o1,o2,o3,place_at I h2⟩
theorem call_sorted_items (hc:X.calm=true) (hu:X.A.units + 3 < cLine):CallR X (.builtin "sorted") cSrtI:=by
  intro pins s σ H vs us Q I r0 h
  obtain ⟨r,d,rows,rfl,hr,hd,h64,q⟩:=h
  obtain ⟨u,rfl,ru⟩:=vals1 r0
  cases ru
  have hh:X.A.handled=none:=I.ok.hd hc
  obtain ⟨its,ei,nd,mi⟩:=its_of rows
  have li:(dOf rows).length=its.length:=by rw [ei,List.length_map]
  have so:=placeLt_so nd
  have vat:∀ {s1:Shared} {H':Hp} {ys:List V} {vs:List Value},Inv X pins σ H' s1→Paired (PrAt H') ys its→Vals ys vs→∀ (i:Nat) (q:Row),its[i]?=some q→∃ v,vs[i]?=some v∧RvAt s1.heap v q:=fun {s1 H' ys vs} I' pr rv i q hq=>by
    have hi:=(List.getElem?_eq_some_iff.mp hq).1
    have l1:=Paired.length pr
    obtain ⟨y,hy⟩:∃ y,ys[i]?=some y:=⟨_,List.getElem?_eq_getElem (by omega)⟩
    obtain ⟨u,hu',ru⟩:=rv.get hy
    exact ⟨u,hu',rv_at I' (paired_get pr hy hq) ru⟩
  refine sorted_pure2 (κ:=tuples' false) (fun vs lt s1=>∃ H' ys,Inv X pins σ H' s1∧Same H H'∧Paired (PrAt H') ys its∧Vals ys vs∧lt=fun i j=>placeLt ((its.map (·.1)).getD i (("",0):Pl)) ((its.map (·.1)).getD j (("",0):Pl)))
    (fun R hR=>coll_items (A:=X.A.in1) hh hr hd (by omega) I fun s1 H' ys us I' sm pr rv=>hR us _ s1 ⟨H',ys,I',sm,kv_pr (by rw [← ei];exact pr),rv,rfl⟩) ?_ ?_ ?_ ?_
  · rintro vs lt s1 ⟨H',ys,I',sm,pr,rv,rfl⟩
    have l1:=Paired.length pr
    have l2:=rv.length
    refine ⟨by omega,?_⟩
    rw [show vs.length=(its.map (·.1)).length by rw [List.length_map];omega]
    exact so
  · rintro vs lt s1 ⟨H',ys,I',sm,pr,rv,rfl⟩ h2 h Q' k q'
    have l1:=Paired.length pr
    have l2:=rv.length
    refine kind_row (s:={ s1 with heap:=h }) (qs:=its) (by omega) (fun i v q hv hq=>?_) (by omega) q'
    obtain ⟨v',hv',rr⟩:=vat I' pr rv i q hq
    rw [hv] at hv'
    cases hv'
    exact rr.keep k
  · rintro vs lt s1 ⟨H',ys,I',sm,pr,rv,rfl⟩ h i j C k hi hj hij q'
    have l1:=Paired.length pr
    have l2:=rv.length
    have e1:its[i]?=some its[i]:=List.getElem?_eq_getElem (by omega)
    have e2:its[j]?=some its[j]:=List.getElem?_eq_getElem (by omega)
    obtain ⟨v1,g1,r1⟩:=vat I' pr rv i _ e1
    obtain ⟨v2,g2,r2⟩:=vat I' pr rv j _ e2
    have n1:(its.map (·.1)).getD i (("",0):Pl)=its[i].1:=by rw [List.getD_eq_getElem?_getD,List.getElem?_map,e1];rfl
    have n2:(its.map (·.1)).getD j (("",0):Pl)=its[j].1:=by rw [List.getD_eq_getElem?_getD,List.getElem?_map,e2];rfl
    have m1:vs.getD i Value.none=v1:=by rw [List.getD_eq_getElem?_getD,g1];rfl
    have m2:vs.getD j Value.none=v2:=by rw [List.getD_eq_getElem?_getD,g2];rfl
    simp only [n1,n2] at q'
    have key:=ask_row (P:=X.prog) (w:=X.w) (A:=X.A.in1.in1) (E:=fun _ _=>False) (s:={ s1 with heap:=h }) (Q:=C) (by have e:X.A.in1.in1.units=X.A.units + 2:=rfl;omega) (r1.keep k) (r2.keep k) q' fun z=>hij (by
      have e3:(its.map (·.1))[i]?=some its[i].1:=by rw [List.getElem?_map,e1];rfl
      have e4:(its.map (·.1))[j]?=some its[j].1:=by rw [List.getElem?_map,e2];rfl
      rw [z] at e3
      exact (List.getElem?_inj (by rw [List.length_map];omega) nd).mp (e3.trans e4.symm))
    rw [← m1,← m2] at key
    exact key
  · rintro vs lt s1 ⟨H',ys,I',sm,pr,rv,rfl⟩ h' p c k hD hp hr
    have l1:=Paired.length pr
    have l2:=rv.length
    have hp':PP its.length p:=by rw [show its.length=vs.length by omega];exact hp
    have fr:H' s1.heap.objs.size=none:=I'.hok.fresh (Nat.le_refl _)
    have sz:=hp'.size
    have pk:=paired_pick pr V.non d0 (is:=p.toList) fun i hi=>by have:=hp'.lt i hi;omega
    have vk:Vals (p.toList.map fun i=>ys.getD i V.non) (outOf vs p):=paired_pick rv V.non Value.none (is:=p.toList) fun i hi=>by have:=hp'.lt i hi;omega
    have I2:Inv X pins σ (upd H' s1.heap.objs.size (.lst (p.toList.map fun i=>ys.getD i V.non))) { s1 with heap:=h' }:=I'.laid (a:=s1.heap.objs.size) (o:=.lst (p.toList.map fun i=>ys.getD i V.non)) (t':=s1.toks) k (Nat.le_refl _)
      ⟨by rw [List.length_map,Array.length_toList];exact Nat.le_trans (by omega:_≤1000) (by decide),outOf vs p,c,vk,hD⟩
    have S2:Same H' (upd H' s1.heap.objs.size (.lst (p.toList.map fun i=>ys.getD i V.non))):=isV _ fr
    have hn:H s1.heap.objs.size=none:=by
      cases e:H s1.heap.objs.size with
      | none=>rfl
      | some o=>rw [sm _ _ e] at fr;cases fr
    have mono:∀ {us:List V} {ws:List Row},Paired (PrAt H') us ws→Paired (PrAt (upd H' s1.heap.objs.size (.lst (p.toList.map fun i=>ys.getD i V.non)))) us ws:=fun {us ws} h=>by
      induction h with
      | nil=>exact .nil
      | cons a _ ih =>
        obtain ⟨r,p,e,h1,h2⟩:=a
        exact .cons ⟨r,p,e,S2 _ _ h1,S2 _ _ h2⟩ ih
    refine ⟨.ref s1.heap.objs.size,_,I2,rfl,q _ _ (p.toList.map fun i=>its.getD i d0) _ (sm.trans S2) hn upd_same (mono pk) ?_ fun pl wv=>?_⟩
    · have hr':Rise (fun i j=>placeLt ((its.map (·.1)).getD i (("",0):Pl)) ((its.map (·.1)).getD j (("",0):Pl))) p its.length:=by rw [show its.length=vs.length by omega];exact hr
      have pw:=rise_pairs (F:=placeLt) hp' hr'
      have eq:(p.toList.map fun i=>its.getD i d0).map (·.1)=p.toList.map fun i=>(its.map (·.1)).getD i (("",0):Pl):=by
        rw [List.map_map]
        refine List.map_congr_left fun i hi=>?_
        have hi:=hp'.lt i hi
        simp [List.getD_eq_getElem?_getD,List.getElem?_map,List.getElem?_eq_getElem hi]
      rw [← eq,List.pairwise_map] at pw
      exact pw
    · have pm:(p.toList.map fun i=>its.getD i d0).Perm its:=by
        refine (hp'.list.map _).trans ?_
        rw [range_getD]
      rw [pm.mem_iff]
      exact mi pl wv
end
end L2
namespace L2
open PySem PySem.Spec PyProof.Rows
def Itr3 (lo c:Int) (n:Nat):It:=⟨fun i _=>i < n,fun i H x H'=>H'=H∧x=.int (lo + i * c),fun i _=>n≤i⟩
def cntR (i j c:Int):Nat:=if i < j then ((j - i - 1) / c + 1).toNat else 0
def iRng3 (ta:TA):TI:=fun σ H R=>ta σ H fun vs H1=>∃ i j c:Int,vs=[.int i,.int j,.int c]∧(0≤i∧i < 1073741824∧0≤j∧j < 1073741824∧0 < c∧c < 1073741824)∧R (Itr3 i c (cntR i j c)) H1
section
variable {X:Cx} {tg:Expr}
end
end L2
namespace L2
open PySem
structure StOk (n:Nat) (s:Sta):Prop where
  so:SlotsOk s.sl
  wo:∀ r∈s.wo,inW r.2=true
  l1:s.sl.length≤n
  l2:s.wo.length≤n
  l3:s.sa.length≤n
theorem StOk.mono {n m:Nat} {s:Sta} (h:StOk n s) (l:n≤m):StOk m s:=⟨h.so,h.wo,Nat.le_trans h.l1 l,Nat.le_trans h.l2 l,Nat.le_trans h.l3 l⟩
theorem last_in {P:Row→Prop} {p:Pl} {w:Int}:∀ {l:List Row},(∀ r∈l,P r)→lastW l p=some w→P (p,w)
  | [],_,h=>by cases h
  | r :: t,hp,h=>by
    rw [lastW] at h
    cases e:lastW t p with
    | some w' =>
      rw [e] at h
      have:w'=w:=by simpa using h
      subst this
      exact last_in (fun r hr=>hp r (List.mem_cons_of_mem _ hr)) e
    | none =>
      rw [e] at h
      by_cases c:r.1=p
      · rw [if_pos c] at h
        have:r.2=w:=by simpa using h
        rw [← c,← this];exact hp r List.mem_cons_self
      · rw [if_neg c] at h;cases h
mutual
def RwIn (P:Pl→Prop):Rw→Prop
  | .give sh e _=>∀ kvs n,rk kvs e=.ok n→P (sh,n)
  | .iff _ a b=>RwsIn P a∧RwsIn P b
  | _=>True
def RwsIn (P:Pl→Prop):Rws→Prop
  | .nil=>True
  | .cons r rs=>RwIn P r∧RwsIn P rs
end
inductive Oc where
  | done (sa:List Int)
  | off (why:Str)
def whyOf:Er→Str
  | .great=>"great"
  | _=>"nought"
def AloneR (rws:Rws) (tab:List Row) (oc:Oc) (out:List Row):Prop:=match goRs rws ⟨[],tab,[]⟩ with
  | .go s=>oc=.done s.sa∧IsTab s.wo out
  | .off=>oc=.off "told"∧out=tab
  | .er e=>oc=.off (whyOf e)∧out=tab
inductive SeqR:List Rws→List Row→List Oc→List Row→Prop
  | nil {tab:List Row}:SeqR [] tab [] tab
  | cons {d:Rws} {ds:List Rws} {tab mid out:List Row} {oc:Oc} {ocs:List Oc}:AloneR d tab oc mid→SeqR ds mid ocs out→SeqR (d :: ds) tab (oc :: ocs) out
def partD:V→PyData
  | .int i=>.int i
  | .str x=>.str x
  | _=>.none
def plV (v:V):Prop:=(∃ i,v=.int i)∨∃ x,v=.str x∧PyData.strOk x=true
def termD (e:List V):PyData:=.tuple (e.map partD)
mutual
def rwD:Rw→PyData
  | .take sh e sl=>.tuple [.str "take",.str sh,termD e,.str sl]
  | .give sh e f=>.tuple [.str "give",.str sh,termD e,termD f]
  | .lt sl e=>.tuple [.str "let",.str sl,termD e]
  | .say e=>.tuple [.str "say",termD e]
  | .off e=>.tuple [.str "off",termD e]
  | .iff e a b=>.tuple [.str "if",termD e,.list (rwsD a),.list (rwsD b)]
def rwsD:Rws→List PyData
  | .nil=>[]
  | .cons r rs=>rwD r :: rwsD rs
end
def tmP (e:List V):Prop:=∀ v∈e,plV v
mutual
def RwPl:Rw→Prop
  | .take sh e sl=>PyData.strOk sh=true∧tmP e∧PyData.strOk sl=true
  | .give sh e f=>PyData.strOk sh=true∧tmP e∧tmP f
  | .lt sl e=>PyData.strOk sl=true∧tmP e
  | .say e=>tmP e
  | .off e=>tmP e
  | .iff e a b=>tmP e∧RwsPl a∧RwsPl b
def RwsPl:Rws→Prop
  | .nil=>True
  | .cons r rs=>RwPl r∧RwsPl rs
end
section
variable {K:PySem.W.Frag} {H:Hp} {F:Addr→Prop}
theorem part_dat {v:V} (h:plV v):Dat K H v (partD v):=by
  rcases h with ⟨i,rfl⟩ | ⟨x,rfl,_⟩
  · exact .int i
  · exact .str x
theorem parts_dat:∀ {e:List V},tmP e→DatAll K H e (e.map partD)
  | [],_=>.nil
  | v :: r,h=>.cons (part_dat (h v List.mem_cons_self)) (parts_dat fun u hu=>h u (List.mem_cons_of_mem _ hu))
end
theorem parts_plain:∀ {e:List V},tmP e→plainDs (e.map partD)=true
  | [],_=>by simp [plainDs]
  | v :: r,h=>by
    rw [List.map_cons,plainDs,parts_plain fun u hu=>h u (List.mem_cons_of_mem _ hu),Bool.and_true]
    rcases h v List.mem_cons_self with ⟨i,rfl⟩ | ⟨x,rfl,hx⟩
    · rw [partD,plainD]
    · rw [partD,plainD];exact hx
theorem parts_deep:∀ (e:List V),PyData.depthAll (e.map partD)=0
  | []=>by simp [PyData.depthAll]
  | v :: r=>by
    rw [List.map_cons,PyData.depthAll,parts_deep r]
    cases v <;> simp [partD,PyData.depth]
theorem sok_off:PyData.strOk "off"=true:=by decide +kernel
def Rws.snoc:Rws→Rw→Rws
  | .nil,x=>.cons x .nil
  | .cons r rs,x=>.cons r (rs.snoc x)
def Rws.app:Rws→Rws→Rws
  | .nil,x=>x
  | .cons r rs,x=>.cons r (rs.app x)
theorem Paired.snocP {α β:Type} {F:α→β→Prop} {x:α} {y:β}:∀ {a:List α} {b:List β},Paired F a b→F x y→Paired F (a ++ [x]) (b ++ [y])
  | _,_,.nil,h=>.cons h .nil
  | _,_,.cons a r,h=>.cons a (Paired.snocP r h)
theorem Paired.getP {α β:Type} {F:α→β→Prop} {a:List α} {b:List β} {i:Nat} {x:α} (h:Paired F a b) (e:a[i]?=some x):∃ y,b[i]?=some y∧F x y:=by
  have hi:=(List.getElem?_eq_some_iff.mp e).1
  have l:=Paired.length h
  exact ⟨b[i],List.getElem?_eq_getElem (by omega),paired_get h e (List.getElem?_eq_getElem (by omega))⟩
end L2
namespace L2
open PySem PySem.Spec PyProof.Rows
abbrev r_mt_split:RM:=fun x xs H Q=>∃ a b,x=.str a∧xs=[.str b]∧(b.length == 0)=false∧a.length≤100000∧(Txt.split a b).length≤100000∧∀ l,H l=none→Q (.ref l) (upd H l (.lst ((Txt.split a b).map V.str)))
section
variable {X:Cx}
end
def Itel (K:PySem.W.Frag) (p:Addr) (xs:List V):It:=⟨fun i H=>i < xs.length∧SqL K H p xs,fun i H x H'=>∃ T u,x=.ref T∧H T=none∧H'=upd H T (.tup [.int i,u])∧xs[i]?=some u,fun i H=>xs.length≤i∧SqL K H p xs⟩
def iEnm (K:PySem.W.Frag) (ta:TA):TI:=fun σ H R=>ta σ H fun vs H1=>∃ p xs,vs=[.ref p]∧SqL K H1 p xs∧R (Itel K p xs) H1
section
variable {X:Cx}
end
section
variable {σ:St} {H:Hp} {nx:St→Hp→Prop} {B:V→St→Hp→(St→Hp→Prop)→Prop}
end
end L2
namespace L2
open PySem PySem.Spec PyProof.Rows
theorem cut_eq {c:Nat}:∀ {a b r s:List Nat},c ∉ a→c ∉ b→a ++ c :: r=b ++ c :: s→a=b∧r=s
  | [],[],r,s,_,_,h=>by simpa using h
  | [],y :: b,r,s,_,hb,h=>by
    simp only [List.nil_append,List.cons_append,List.cons.injEq] at h
    exact absurd h.1 (fun z=>hb (by rw [z];exact List.mem_cons_self))
  | x :: a,[],r,s,ha,_,h=>by
    simp only [List.nil_append,List.cons_append,List.cons.injEq] at h
    exact absurd h.1.symm (fun z=>ha (by rw [z];exact List.mem_cons_self))
  | x :: a,y :: b,r,s,ha,hb,h=>by
    simp only [List.cons_append,List.cons.injEq] at h
    obtain ⟨e1,e2⟩:=cut_eq (fun z=>ha (List.mem_cons_of_mem _ z)) (fun z=>hb (List.mem_cons_of_mem _ z)) h.2
    exact ⟨by rw [h.1,e1],e2⟩
end L2
namespace L2
open PySem PySem.Spec PyProof.Rows
abbrev cIsiT (K:PySem.W.Frag):RC:=fun xs H Q=>∃ (x:V) (p:Addr) (t:Value) (Ts:List String) (b:Bool),xs=[x,.ref p]∧TyOf K H x t∧H p=some (.tup (Ts.map V.ty))∧PySem.W.kitAny K t (Ts.map Value.type)=some b∧Q (.bl b) H
section
variable {X:Cx}
end
section
variable {prog:Program} {w:World} {A:Around} {E:Value→Shared→Prop} {s:Shared}
end
def sLPut (td ty tv:TE):TS:=fun D σ H=>tv σ H fun v H1=>td σ H1 fun x H2=>ty σ H2 fun y H3=>∃ a xs i j,x=.ref a∧y=.int i∧H3 a=some (.lst xs)∧ixN xs.length i=some j∧(-1000≤i∧i≤1000)∧D.nx σ (upd H3 a (.lst (xs.set j v)))
section
variable {X:Cx} {o i value:Expr} {pos pos':Pos} {td ty tv:TE}
end
section
variable {X:Cx} {st:Stmt} {hs:List ExceptHandler} {pos:Pos} {tb:TS}
end
end L2
namespace L2
open PySem PySem.Spec PyProof.Rows
def iZipB (K:PySem.W.Frag) (ta:TA):TI:=fun σ H R=>ta σ H fun vs H1=>∃ p q xs ys,vs=[.ref p,.ref q]∧xs.length=ys.length∧((SqL K H1 p xs∧SqL K H1 q ys∧R (Itzl K p q xs ys) H1)∨(SqT K H1 p xs∧SqT K H1 q ys∧R (Itz K p q xs ys) H1))
section
variable {X:Cx}
abbrev rNeNil (K:PySem.W.Frag):R2:=fun x y H Q=>∃ a b xs,x=.ref a∧y=.ref b∧SqL K H a xs∧SqL K H b []∧Q (.bl (!decide (xs=[]))) H
theorem op_neNil (hu:X.A.units + 64 < cLine):OpR X (compareOp .NotEq) (rNeNil X.K):=by
  intro pins s σ H x y v u Q I rx ry h
  obtain ⟨a,b,xs,rfl,rfl,ha,hb,q⟩:=h
  by_cases e:xs=[]
  · subst e
    exact op_neL hu pins s σ H _ _ v u Q I rx ry ⟨a,b,[],[],rfl,rfl,ha,hb,⟨rfl,rfl,rfl⟩,q⟩
  · cases rx
    cases ry
    obtain ⟨us,r1,p1,_⟩:=I.list ha
    obtain ⟨ws,r2,p2,_⟩:=I.list hb
    cases r2
    have e1:=r1.length
    have e2:xs.length≠0:=fun z=>e (List.eq_nil_of_length_eq_zero z)
    rw [decide_eq_false e] at q
    exact PySem.SeqAt.RcNeAt.lists_lengths p1.isList p2.isList (by simp;intro z;rw [z] at e1;exact e2 e1) (by omega) X.prog X.w X.xe _ ⟨.bl true,H,I,rfl,q⟩
end
mutual
inductive DatS (H:Hp):V→PyData→Prop
  | int (i:Int):DatS H (.int i) (.int i)
  | str (x:Str):DatS H (.str x) (.str x)
  | lst {a:Addr} {xs:List V} {ds:List PyData}:H a=some (.lst xs)→DatSs H xs ds→DatS H (.ref a) (.list ds)
  | tup {a:Addr} {xs:List V} {ds:List PyData}:H a=some (.tup xs)→DatSs H xs ds→DatS H (.ref a) (.tuple ds)
inductive DatSs (H:Hp):List V→List PyData→Prop
  | nil:DatSs H [] []
  | cons {x:V} {d:PyData} {xs:List V} {ds:List PyData}:DatS H x d→DatSs H xs ds→DatSs H (x :: xs) (d :: ds)
end
end L2
namespace L2
open PySem
end L2
namespace L2
open PySem
abbrev r_mt_extend:RM:=rExtend
end L2
namespace L2
open PySem PySem.Spec PyProof.Rows
abbrev r_mt_clear:RM:=rClear
abbrev cSumL (K:PySem.W.Frag):RC:=fun xs H Q=>∃ a,∃ ns:List Int,xs=[.ref a]∧SqL K H a (ns.map V.int)∧Q (.int ns.sum) H
abbrev cMaxL (K:PySem.W.Frag):RC:=fun xs H Q=>∃ a,∃ ns:List Int,xs=[.ref a]∧SqL K H a (ns.map V.int)∧0 < ns.length∧∀ M,M∈ns→(∀ x∈ns,x≤M)→Q (.int M) H
section
variable {X:Cx}
end
end L2
namespace L2
open PySem PySem.Spec PyProof.Rows
abbrev cMax2:RC:=fun xs H Q=>∃ i j,xs=[.int i,.int j]∧Q (.int (if j > i then j else i)) H
abbrev rInA (K:PySem.W.Frag) (neg:Bool):R2:=fun x y H Q=>∃ (p:Addr) (xs:List V) (d:PyData) (ds:List PyData),y=.ref p∧(SqL K H p xs∨SqT K H p xs)∧Dat K H x d∧DatAll K H xs ds∧(plainD d=true∧d.depth≤50∧∀ e∈ds,plainD e=true) ∧
  ∀ b:Bool,(b=true↔d∈ds)→Q (.bl (if neg then !b else b)) H
section
variable {X:Cx}
open Classical in
noncomputable def hitD (K:PySem.W.Frag) (H:Hp) (d:PyData) (u:Value):Bool:=decide (∃ x,RelV x u∧Dat K H x d)
open Classical in
end
abbrev cSrtL (K:PySem.W.Frag):RC:=fun vs H Q=>∃ r xs its,vs=[.ref r]∧SqL K H r xs∧Paired (PrAt H) xs its∧(its.map (·.1)).Nodup∧its.length < 1000 ∧
  ∀ l ys srt H',Same H H'→H l=none→H' l=some (.lst ys)→Paired (PrAt H') ys srt→Rising srt→srt.Perm its→Q (.ref l) H'
section
variable {X:Cx}
end
def Cb (i:Int):Prop:=Builtin.Int.intBits i≤1048576
section
variable {X:Cx}
end
open Att PySem.W PySem.Calls in
theorem walk_ofB {l:PySem.W.OpenLaw} {n k:Nat} {q:Program} {loose:List Str} {XP:(Str→Option Value)→Heap→Prop} {YP:World→Heap→Prop} {d:DefRec} {K:Params→PySem.W.Frag} {CX:World→CXT} {sp:World→Sp} {x:Str}
    (hn:l.most=some n) (hn2:n≤sizeLine) (hdf:d.params.defaults=[]) (hr:Room k callerA) (hY:∀ (w:World) (h:Heap),YP w h→(K w.params).In h)
    (F:∀ (w:World) (mg:Str→Option Value) (fa:Addr) (h:Heap),(K w.params).In h→h.Ns mainGlobals mg→mg d.name=some (.ref fa) →
      ∃ fd:FuncData,(∀ (s:Shared) (u:Value),BindsTo s fd ⟨[u],[]⟩ [(x,u)]) ∧
        ∀ base:Heap,(K w.params).In base→base.Ns mainGlobals mg→FnOk l.prog w (K w.params) mg base (CX w) k fa fd [x] (sp w))
    (hsp:∀ (w:World) (H:Hp) (a:Addr) (ns:List Int),ns.length≤n→(∀ i∈ns,Cb i)→Only H→SqL (K w.params) H a (ns.map V.int)→sp w [.ref a] H (fun v _=>v=.bl true) fun _ _ _=>False)
    (hCX:∀ (w:World) (H:Hp) (s:Shared) (e:Value) (s':Shared),CX w [] H s (fun _ _ _=>False) e s'→False) :
    PySem.W.WalkO q loose XP YP l.row.toRowW d [] (fun f vs=>PySem.call f vs):=by
  intro w s₀ s₁ mg mb G Y fa o pm cd doc dV kV ho hd hcd hD hmg hg args vals as hpre hlay hrd hwl hlo
  obtain rfl:dV=.none:=Dflts.none hD hdf
  obtain rfl:kV=.none:=Dflts.noKw hD
  obtain ⟨a,vs,ns,rfl,rfl,hobj,hints,hlen⟩:=script_of hn hpre hwl
  have hb:∀ i∈ns,Cb i:=fun i hi=>intBits_le_of_layable (layable_of_mem (lay0_int (layableW_item (layableW_arg hlay _ List.mem_cons_self) _ (List.mem_map.mpr ⟨i,hi,rfl⟩))) List.mem_cons_self)
  have KX:=hY w _ Y
  obtain ⟨fd,hbd,hF⟩:=F w mg fa _ KX G.T.g hmg
  refine enter_call (codeAny_mono (law_call KX G.T.g G.T.b G.T.builtins G.T.nolimit hg hobj hints (Nat.le_trans hlen hn2) hr hF hbd (fun H hO hS=>hsp w H a ns hlen hb hO hS) fun H e s'=>hCX w H s₁ e s') fun r s' hq=>?_)
  obtain ⟨rfl,h2,h3,h4⟩:=hq
  exact ⟨.inl ⟨.bool true,.bool true,[],rfl,fun _=>rfl,.bool true,post_true l _,fun _=>⟨List.Pairwise.nil,fun _ hm=>(nomatch hm)⟩⟩,h2,h3,h4⟩
theorem walk_ofXB {l:PySem.W.OpenLaw} {n k:Nat} {q:Program} {loose:List Str} {XP:(Str→Option Value)→Heap→Prop} {YP:World→Heap→Prop} {d:DefRec} {K:Params→PySem.W.Frag} {sp:PySem.W.Frag→Sp} {x:Str}
    (hn:l.most=some n) (hn2:n≤sizeLine) (hdf:d.params.defaults=[]) (hr:Room k callerA) (hY:∀ (w:World) (h:Heap),YP w h→(K w.params).In h)
    (F:∀ (w:World) (mg:Str→Option Value) (fa:Addr) (h:Heap),(K w.params).In h→h.Ns mainGlobals mg→mg d.name=some (.ref fa) →
      ∃ fd:FuncData,(∀ (s:Shared) (u:Value),BindsTo s fd ⟨[u],[]⟩ [(x,u)]) ∧
        ∀ base:Heap,(K w.params).In base→base.Ns mainGlobals mg→FnOk l.prog w (K w.params) mg base (CX1 l.prog w) k fa fd [x] (sp (K w.params)))
    (hsp:∀ (K:PySem.W.Frag) (H:Hp) (a:Addr) (ns:List Int),ns.length≤n→(∀ i∈ns,Cb i)→Only H→SqL K H a (ns.map V.int)→sp K [.ref a] H (fun v _=>v=.bl true) fun _ _ _=>False) :
    PySem.W.WalkO q loose XP YP l.row.toRowW d [] (fun f vs=>PySem.call f vs) :=
  walk_ofB (K:=K) (CX:=fun w=>CX1 l.prog w) (sp:=fun w=>sp (K w.params)) hn hn2 hdf hr hY F (fun w H a ns h1 hb h2 h3=>hsp (K w.params) H a ns h1 hb h2 h3) fun _ _ _ _ _ z=>by
    obtain ⟨_,_,_,_,_,_,_,_,_,y⟩:=z
    exact y
end L2
namespace L2
open PySem PySem.Spec PyProof.Rows
def Itk (a:Addr) (o:Obj) (kvs:List (Key × V)):It :=
  ⟨fun i H=>H a=some (.frz o (.dK kvs))∧i < kvs.length,fun i H x H'=>H'=H∧∃ k v,kvs[i]?=some (k,v)∧x=kV k,fun i H=>H a=some (.frz o (.dK kvs))∧kvs.length≤i⟩
section
variable {X:Cx}
def iDK (tl:TE):TI:=fun σ H R=>tl σ H fun x H1=>∃ a o kvs,x=.ref a∧H1 a=some (.frz o (.dK kvs))∧R (Itk a o kvs) H1
end
section
variable {σ:St} {H:Hp} {nx:St→Hp→Prop} {B:V→St→Hp→(St→Hp→Prop)→Prop}
end
end L2
namespace L2
open PySem PySem.Spec PyProof.Rows
def PcAt (H:Hp) (v:V) (q:Pl):Prop:=∃ p,v=.ref p∧H p=some (.tup [.str q.1,.int q.2])
abbrev cSrtP (K:PySem.W.Frag):RC:=fun vs H Q=>∃ r xs its,vs=[.ref r]∧SqL K H r xs∧Paired (PcAt H) xs its∧its.Nodup∧its.length < 1000 ∧
  ∀ l ys srt H',Same H H'→H l=none→H' l=some (.lst ys)→Paired (PcAt H') ys srt→srt.Pairwise (fun a b=>placeLt a b=true)→srt.Perm its→Q (.ref l) H'
section
variable {X:Cx}
end
end L2
namespace L2
open PySem PySem.Spec PyProof.Rows
section
variable {K:Type} [DecidableEq K]
end
section
variable {prog:Program} {w:World} {K:Type} [DecidableEq K] {knd:HeapKind prog w K} {A:Around} {E:Value→Shared→Prop} {s:Shared} {d a:Addr} {xs:List (K × Addr × Value)} {k:K}
end
section
variable {X:Cx} {pins:List (Addr × Obj)} {σ:St} {H:Hp} {s:Shared} {a b:Addr} {kvs:List (List Key × V)} {k:List Key} {A:Around} {E:Value→Shared→Prop}
end
def tDPopT (td ty:TE):TE:=fun σ H Q=>td σ H fun x H1=>∃ a,x=.ref a∧IsD H1 a∧ty σ H1 fun y H2=>∃ kvs k b v,H2 a=some (.dT kvs)∧y=.ref b∧H2 b=some (.tup (k.map kV))∧valV kvs k=some v∧Q v (upd H2 a (.dT (dropK kvs k)))
def tDSetD (td ty tx:TE):TE:=fun σ H Q=>td σ H fun x H1=>∃ a,x=.ref a∧IsD H1 a∧ty σ H1 fun y H2=>tx σ H2 fun z H3=>∃ kvs k b,H3 a=some (.dT kvs)∧y=.ref b∧H3 b=some (.tup (k.map kV))∧kvs.length < sizeLine ∧
  (∀ v,valV kvs k=some v→Q v H3)∧(valV kvs k=none→Q z (upd H3 a (.dT (putK kvs k z))))
section
variable {X:Cx} {o e f:Expr} {apos cpos:Pos} {td ty tx:TE}
end
abbrev r_mt_insert:RM:=fun x vs H Q=>∃ (l:Addr) (xs:List V) (k:Nat) (y:V),x=.ref l∧vs=[.int k,y]∧H l=some (.lst xs)∧k≤xs.length∧xs.length < 1000000∧Q .non (upd H l (.lst (xs.take k ++ y :: xs.drop k)))
abbrev r_mt_remove:RM:=fun x vs H Q=>∃ (l:Addr) (ns:List Int) (i:Int),x=.ref l∧vs=[.int i]∧H l=some (.lst (ns.map V.int))∧i∈ns∧Q .non (upd H l (.lst ((ns.erase i).map V.int)))
section
variable {X:Cx}
end
def KyAt (H:Hp) (y:V) (kv:List Key × V):Prop:=∃ p,y=.ref p∧H p=some (.tup (kv.1.map kV))
abbrev cLstD:RC:=fun vs H Q=>∃ a kvs,vs=[.ref a]∧H a=some (.dT kvs)∧∀ l ys,H l=none→Paired (KyAt H) ys kvs→Q (.ref l) (upd H l (.lst ys))
abbrev cLenT:RC:=fun vs H Q=>∃ a kvs,vs=[.ref a]∧H a=some (.dT kvs)∧Q (.int (kvs.length:Nat)) H
section
variable {X:Cx}
end
end L2
namespace L2
open PySem PySem.Spec PyProof.Rows
section
variable {X:Cx} {c:Expr} {s₁ s₂:Stmt} {tc:TT} {t1 t2:EXK→TS} {pos:Pos}
end
section
variable {X:Cx} {e:Expr} {te:TE} {a b:Str} {j k:Nat} {p1 p2 p3 p4:Pos}
end
end L2
namespace L2
open PySem PySem.Spec PyProof.Rows
section
variable {P:Program} {w:World} {K:PySem.W.Frag} {mg:Str→Option Value} {base:Heap} {x qual:Str} {st:Stmt} {f:Addr} {fd:FuncData} {N ps:List Str} {k:Nat} {sp:Sp}
end
section
variable {X:Cx} {o value:Expr} {f:Str} {pos pos':Pos} {ta:TE} {tx:EXK→TE}
def sFldX (K:PySem.W.Frag) (ta:TE) (tx:EXK→TE) (f:Str) (EX:EXK):TS:=sFld K ta (tx EX) f
end
def tTryT (K:PySem.W.Frag) (tb:EXK→TS) (C1 C2:Addr) (th:TS):TS:=fun D σ H=>tb (fun cls σ1 H1=>∃ C,cls=.ref C∧PySem.W.exmAny K (.ref C) [.ref C1,.ref C2]=some true∧th D σ1 H1) D σ H
section
variable {X:Cx} {st b₀:Stmt} {suite:List Stmt} {tb:EXK→TS} {th:TS} {c1 c2:Str} {C1 C2:Addr} {np np2 hpos tpos pos:Pos} {x1:Nat}
end
section
variable {X:Cx} {CX:CXT} {k:Nat} {f C:Addr} {fd:FuncData} {ps:List Str} {sp:Sp} {dvs:List V} {E:XK} {m:Str} {pos apos:Pos} {o:Expr} {ta:TE}
end
end L2
namespace L2
open PySem PySem.Spec PyProof.Rows
abbrev rLtP:R2:=fun x y H Q=>∃ a b p r,x=.ref a∧y=.ref b∧H a=some (.tup [.str p.1,.int p.2])∧H b=some (.tup [.str r.1,.int r.2])∧Q (.bl (placeLt p r)) H
section
variable {X:Cx}
open PySem.SeqAt
open PySem.AutoSeq1 (wpAny_loadPart')
open PySem.MeetsSeq PySem.MeetsSeq2 PySem.MeetsSeq3
end
end L2
namespace L2
open PySem PySem.Spec PyProof.Rows
def tMakeO (C:Addr):TE:=fun _ H Q=>∀ x dx,H x=none→H dx=none→dx≠x→Q (.ref x) (upd (upd H dx (.own x)) x (.ins C dx []))
section
variable {X:Cx} {C:Addr} {x:Str} {p pos:Pos}
end
def tMethU (L:List (Addr × Sp)) (m:Str) (E:XK) (ta:TE) (t:TA):TE:=fun σ H Q=>ta σ H fun x H1=>∃ a dx fs C sp,x=.ref a∧H1 a=some (.ins C dx fs)∧fs.lookup m=none∧(C,sp)∈L∧t σ H1 fun vs H2=>sp (x :: vs) H2 Q E
section
variable {X:Cx} {CX:CXT} {E:XK} {m:Str} {pos apos:Pos} {e o:Expr} {es:List Expr} {ta:TE} {t:TA} {L:List (Addr × Sp)} {C:Addr} {sp:Sp}
end
structure InsK (K:PySem.W.Frag) (C:Addr):Prop where
  cl:Cls K C
  ha:PySem.W.findIn K (.ref C) "__class__"=some (some (.builtin "object.__class__"))
  hn:PySem.W.specialIn K (.builtin "object.__class__") "__get__"=some (some (.builtin "getset_descriptor.__get__"))
  tk:PySem.W.takesIn K (.builtin "object.__class__")=some true
  hm:PySem.W.mroIn K C (.type "object")=some true
abbrev cIsn (K:PySem.W.Frag):RC:=fun xs H Q=>∃ a C dx fs D b,xs=[.ref a,.ref D]∧H a=some (.ins C dx fs)∧InsK K C∧PySem.W.kitOne K (.ref C) (.ref D)=some b∧Q (.bl b) H
section
variable {X:Cx}
end
end L2
namespace L2
open PySem PySem.Spec PyProof.Rows
abbrev cAny (K:PySem.W.Frag):RC:=fun xs H Q=>∃ (a:Addr) (bs:List Bool),xs=[.ref a]∧SqL K H a (bs.map V.bl)∧Q (.bl (bs.any id)) H
section
variable {X:Cx}
theorem call_anyL (hc:X.calm=true):CallR X (.builtin "any") (cAny X.K):=by
  intro pins s σ H xs us Q I r h
  obtain ⟨a,bs,rfl,hq,q⟩:=h
  obtain ⟨u,rfl,r1⟩:=vals1 r
  cases r1
  obtain ⟨its,rv,p,hz⟩:=I.list hq
  have hl:=rv.length
  rw [List.length_map] at hl
  have hne:a≠s.heap.objs.size:=by
    obtain ⟨o,n,e,_⟩:=p
    exact Nat.ne_of_lt (Heap.lt_size e)
  refine call_any_walk (wpAny_pyIter_list p.isList ?_)
  refine ⟨s.heap.objs.size,_,_,its.toArray.size,fun i v=>its.toArray[i]?=some v,_,fun i=>bs.getD i false,rfl,Walks.list (A:=X.A.in1) (I.ok.hd hc) _ a hne its.toArray,?_,?_,fun h' tk k=>?_⟩
  · exact ⟨⟨_,Heap.get?_push_size _ rfl,rfl,rfl⟩,p.isList.at fun o e=>Heap.get?_push_of_some _ e⟩
  · intro i v s' Q' E' hv hQ
    have hv':its[i]?=some v:=by simpa using hv
    have hi:i < bs.length:=by
      rw [hl]
      exact (List.getElem?_eq_some_iff.mp hv').1
    obtain ⟨u',hu,ru⟩:=rv.get (i:=i) (x:=V.bl bs[i]) (by simp [hi])
    rw [hv'] at hu
    cases hu
    cases ru
    have e:bs.getD i false=bs[i]:=by simp [hi]
    have hQ':Q' (bs.getD i false) s':=hQ
    rw [e] at hQ'
    exact wpAny_truthy_bool hQ'
  · have e:(List.range its.toArray.size).any (fun i=>bs.getD i false)=bs.any id:=by
      rw [List.size_toArray,← hl]
      have:bs.map id=(List.range bs.length).map fun i=>bs.getD i false:=by
        apply List.ext_getElem?
        intro i
        by_cases hi:i < bs.length <;> simp [hi]
      have h2:bs.any id=(bs.map id).any id:=by simp
      rw [h2,this,List.any_map]
      rfl
    rw [e]
    refine ⟨.bl (bs.any id),H,?_,rfl,q⟩
    exact I.kept fun b o e=>k b o (by
      have:=Nat.ne_of_lt (Heap.lt_size e)
      simpa using this) (Heap.get?_push_of_some _ e)
end
def tSRev (te ts:TE):TE:=fun σ H Q=>te σ H fun x H1=>ts σ H1 fun k H2=>∃ z y,x=.str z∧k=.int (-1)∧z.length≤sizeLine∧(∀ u,Txt.sliceBy z none none (-1,u)=y)∧Q (.str y) H2
section
variable {X:Cx} {e st:Expr} {p2 pos:Pos} {te ts:TE}
theorem pe_srev (he:PE X e te) (hst:PE X st ts):PE X (.Subscript e (.Slice none none (some st) p2) pos) (tSRev te ts):=by
  intro pins s σ H Q I h
  refine Subscript_ (thn (he pins s σ H _ I h) fun v s1 ⟨x,H1,I1,r1,h1⟩=>?_)
  refine wpAny_Slice ?_
  rw [evalPart_none]
  refine wpAny_pure ?_
  refine wpAny_pure ?_
  rw [evalPart_some]
  refine thn (hst pins s1 σ H1 _ I1 h1) fun u s2 ⟨k,H2,I2,r2,z,y,ex,ek,hz,hy,q1⟩=>?_
  subst ex ek
  obtain ⟨t,rfl⟩:=r1
  obtain ⟨uk,rfl⟩:=r2
  have I4:Inv X pins σ H2 { s2 with heap:=s2.heap.push { cls:=.type "slice",data:=.fields #[.none,.none,.int (-1) uk] } }:=I2.kept (t':=s2.toks) fun b ob q=>Heap.get?_push_of_some _ q
  refine tail_any (ops:=[.ref s2.heap.objs.size,.str z t]) (typeIs_str _ _ _) F.slot_str_getitem.lookup ?_ (by with_unfolding_all rfl)
  refine wpAny_getItem_str_slice (l:=none) (u:=none) (st:=some (-1,uk)) ⟨_,Heap.get?_push_size _ rfl,rfl,rfl⟩ (show ((-1:Int) == 0)=false by decide) ?_
  refine post_val_or_str ⟨Nat.le_trans (Txt.sliceBy_le z _ _ (-1,uk) (show (-1:Int)≠0 by decide)) hz,fun t' k=>⟨.str y,H2,I4.tok k,⟨t',by rw [← hy uk];rfl⟩,q1⟩⟩
end
section
variable {P:Program} {w:World} {A:Around} {E:Value→Shared→Prop} {s:Shared}
end
def tLRev (K:PySem.W.Frag) (ta:TA):TE:=fun σ H Q=>ta σ H fun vs H1=>∃ a xs,vs=[.ref a]∧SqL K H1 a xs∧∀ l,H1 l=none→Q (.ref l) (upd H1 l (.lst xs.reverse))
section
variable {X:Cx} {a:Expr} {ta:TA} {p p2 pos pos2:Pos}
end
end L2
namespace L2
open PySem PySem.Spec PyProof.Rows
abbrev cLenK:RC:=fun vs H Q=>∃ a kvs,vs=[.ref a]∧H a=some (.dK kvs)∧Q (.int (kvs.length:Nat)) H
section
variable {X:Cx}
end
end L2
namespace L2
open PySem PySem.Spec PyProof.Rows
section
variable {X:Cx} {CX:CXT} {k:Nat} {f C:Addr} {fd:FuncData} {ps:List Str} {sp:Sp} {dvs:List V} {E:XK} {x:Str} {p pos:Pos} {e:Expr} {es:List Expr} {t:TA}
end
section
variable {X:Cx} {e:Expr} {te:TE} {a:Str} {j:Nat} {p1 p2 p3:Pos}
end
section
variable {X:Cx} {st b₀:Stmt} {suite:List Stmt} {tb:EXK→TS} {th1:TS} {c1:Str} {C1:Addr} {np hpos pos:Pos}
end
end L2
namespace L2
open PySem PySem.Spec PyProof.Rows
section
variable {X:Cx} {tg:Expr}
def iSeq (K:PySem.W.Frag) (tl:TE):TI:=fun σ H R=>tl σ H fun x H1=>∃ a,x=.ref a∧(((∃ xs,SqL K H1 a xs)∧R (Itl K a) H1)∨((∃ xs,SqT K H1 a xs)∧R (Itt K a) H1))
end
end L2
namespace HT
open PySem PySem.Spec PyProof.Rows
section
variable {prog:Program} {w:World} {A:Around} {E:Value→Shared→Prop} {s:Shared}
end
end HT
namespace L2
open PySem PySem.Spec PyProof.Rows
section
variable {X:Cx}
def rSlT2 (K:PySem.W.Frag):V→Option Int→Option Int→Hp→VK→Prop:=fun x lo hi H Q=>∃ a xs,x=.ref a∧SqT K H a xs ∧
  ((HT.sIx xs.length 0 lo=0∧HT.sIx xs.length xs.length hi=xs.length)→Q (.ref a) H)∧(¬ (HT.sIx xs.length 0 lo=0∧HT.sIx xs.length xs.length hi=xs.length)→∀ p,H p=none→Q (.ref p) (upd H p (.tup (cutV xs lo hi))))
end
end L2
namespace L2
open PySem PySem.Spec PyProof.Rows
theorem pick_rev (items:Array Value):slicePick items none none (some (-1))=items.reverse:=by
  apply Array.toList_inj.mp
  rw [Array.toList_reverse]
  unfold slicePick
  show List.filterMap (fun x=>items[x]?) (sliceRange ((items.size:Int) - 1) (-1) (-1))=_
  have e:sliceRange ((items.size:Int) - 1) (-1) (-1)=(List.range items.size).map fun k=>items.size - 1 - k:=by
    unfold sliceRange
    have c:(if (-1:Int) > 0 then (if (items.size:Int) - 1 < -1 then (-1 - ((items.size:Int) - 1) + -1 - 1) / -1 else 0) else (if (items.size:Int) - 1 > -1 then ((items.size:Int) - 1 - -1 - -1 - 1) / - -1 else 0)).toNat=items.size:=by
      have e1:(- -1:Int)=1:=by decide
      rw [if_neg (by decide),e1,Int.ediv_one]
      split <;> omega
    dsimp only
    rw [c]
    refine List.map_congr_left fun k hk=>?_
    have:k < items.size:=List.mem_range.mp hk
    omega
  rw [e,List.filterMap_map]
  have:∀ n,n≤items.size→List.filterMap ((fun x=>items[x]?) ∘ fun k=>items.size - 1 - k) (List.range n)=items.toList.reverse.take n:=by
    intro n hn
    induction n with
    | zero=>rfl
    | succ n ih =>
      rw [List.range_succ,List.filterMap_append,ih (by omega),List.take_add_one]
      congr 1
      rw [List.getElem?_reverse (by rw [Array.length_toList];omega),Array.length_toList,Array.getElem?_toList]
      simp only [List.filterMap_cons,List.filterMap_nil,Function.comp]
      cases items[items.size - 1 - n]? <;> rfl
  rw [this _ (Nat.le_refl _),List.take_of_length_le (by simp)]
def tLRevS (K:PySem.W.Frag) (te ts:TE):TE:=fun σ H Q=>te σ H fun x H1=>ts σ H1 fun k H2=>∃ a xs,x=.ref a∧k=.int (-1)∧SqL K H2 a xs∧∀ p,H2 p=none→Q (.ref p) (upd H2 p (.lst xs.reverse))
section
variable {X:Cx} {e st:Expr} {p2 pos:Pos} {te ts:TE}
theorem vals_rev:∀ {xs:List V} {us:List Value},Vals xs us→Vals xs.reverse us.reverse
  | _,_,.nil=>.nil
  | _,_,.cons h r=>by
    rw [List.reverse_cons,List.reverse_cons]
    exact Vals.append (vals_rev r) (.cons h .nil)
theorem pe_lrevS (he:PE X e te) (hst:PE X st ts):PE X (.Subscript e (.Slice none none (some st) p2) pos) (tLRevS X.K te ts):=by
  intro pins s σ H Q I h
  refine Subscript_ (thn (he pins s σ H _ I h) fun v s1 ⟨x,H1,I1,r1,h1⟩=>?_)
  refine wpAny_Slice ?_
  rw [evalPart_none]
  refine wpAny_pure ?_
  refine wpAny_pure ?_
  rw [evalPart_some]
  refine thn (hst pins s1 σ H1 _ I1 h1) fun u s2 ⟨k,H2,I2,r2,a,xs,ex,ek,hq,q1⟩=>?_
  subst ek
  obtain ⟨uk,rfl⟩:=r2
  have I4:Inv X pins σ H2 { s2 with heap:=s2.heap.push { cls:=.type "slice",data:=.fields #[.none,.none,.int (-1) uk] } }:=I2.kept (t':=s2.toks) fun b ob q=>Heap.get?_push_of_some _ q
  have g:∃ T id,typeLookup (.type T) "__getitem__"=pure (some (.builtin id))∧({ s2 with heap:=s2.heap.push { cls:=.type "slice",data:=.fields #[.none,.none,.int (-1) uk] } }:Shared).TypeIs v T∧wpAny (model X.prog X.w) X.A (getItem v (.ref s2.heap.objs.size)) (EP X pins σ Q) X.xe { s2 with heap:=s2.heap.push { cls:=.type "slice",data:=.fields #[.none,.none,.int (-1) uk] } }:=by
    subst ex
    cases r1
    obtain ⟨its,r,ht,hz⟩:=I4.list hq
    have hlen:=r.length
    refine ⟨"list",_,slot_list_getitem.lookup,ht.isList.typeIs,?_⟩
    refine wpAny_getItem_list_slice (st:=some (-1)) ht.isList (Heap.IsSliceOf.new ..) .none .none (.int (-1) uk) (by simp) ?_ (by rw [List.size_toArray] <;> omega)
    rw [pick_rev]
    refine ⟨.ref _,_,I4.laid (t':=s2.toks) (o:=.lst xs.reverse) (fun b ob q=>Heap.get?_push_of_some _ q) (Nat.le_refl _) ?_,rfl,q1 _ (I4.hok.fresh (Nat.le_refl _))⟩
    refine ⟨by rw [List.length_reverse];exact hz,its.reverse,0,vals_rev r,?_⟩
    have:(its.toArray.reverse:Array Value)=its.reverse.toArray:=by simp
    rw [this]
    exact Heap.get?_push_size _ rfl
  obtain ⟨T,id,hT,ht,hg⟩:=g
  show wpAny (model X.prog X.w) X.A (subscriptTail e (.Slice none none (some st) p2) v (.ref s2.heap.objs.size)) (EP X pins σ Q) X.xe { s2 with heap:=s2.heap.push { cls:=.type "slice",data:=.fields #[.none,.none,.int (-1) uk] } }
  exact tail_any (ops:=[v,.ref s2.heap.objs.size]) ht hT hg (by with_unfolding_all rfl)
end
end L2
namespace L2
open PySem PySem.Spec PySem.W PyProof.Rows
abbrev cSrtK:RC:=fun xs H Q=>∃ (a:Addr) (kvs:List (Key × V)) (rs:List Int),xs=[.ref a]∧H a=some (.dK kvs)∧kvs.map (·.1)=rs.map Sum.inl∧kvs.length < 1000 ∧
  ∀ (l:Addr) (srt:List Int),H l=none→srt.Perm rs→srt.Pairwise (· < ·)→Q (.ref l) (upd H l (.lst (srt.map V.int)))
section
variable {X:Cx}
end
end L2
namespace K51
open PySem L2
def top (i:Nat):Stmt:=PySem.Challenge.pw_forerun_k51_papers_meet.main.body.getD i (.Pass ⟨0,0,0,0⟩)
abbrev s__law_cell_at:Stmt:=top 4
abbrev s__law_draw:Stmt:=top 5
abbrev s__law_names:Stmt:=top 6
abbrev s__law_shelves:Stmt:=top 7
abbrev s__law_worth:Stmt:=top 8
abbrev s__law_place:Stmt:=top 9
abbrev s__law_drawn:Stmt:=top 10
abbrev s__law_apart:Stmt:=top 11
abbrev s__law_paper:Stmt:=top 12
abbrev s__law_copy:Stmt:=top 14
abbrev s_gives_into:Stmt:=top 1
abbrev s_meet:Stmt:=top 2
abbrev s__law_met:Stmt:=top 13
abbrev s_law:Stmt:=top 15
theorem sc__law_cell_at:FnScope ["script","k"] ["script","k"] (defScope s__law_cell_at):=⟨rfl,rfl,rfl,by decide +kernel,rfl,by decide +kernel,by decide +kernel⟩
theorem sc__law_draw:FnScope ["cell","j","far"] ["cell","j"] (defScope s__law_draw):=⟨rfl,rfl,rfl,by decide +kernel,rfl,by decide +kernel,by decide +kernel⟩
theorem sc__law_names:FnScope ["cell","many","size","signs","stem","k","at","turn"] ["cell","many"] (defScope s__law_names):=⟨rfl,rfl,rfl,by decide +kernel,rfl,by decide +kernel,by decide +kernel⟩
theorem sc__law_shelves:FnScope ["cell","many","signs","stem","more","some","turn"] ["cell","many"] (defScope s__law_shelves):=⟨rfl,rfl,rfl,by decide +kernel,rfl,by decide +kernel,by decide +kernel⟩
theorem sc__law_worth:FnScope ["cell","j"] ["cell","j"] (defScope s__law_worth):=⟨rfl,rfl,rfl,by decide +kernel,rfl,by decide +kernel,by decide +kernel⟩
theorem sc__law_place:FnScope ["cell","shelves","wide","number"] ["cell","shelves","wide"] (defScope s__law_place):=⟨rfl,rfl,rfl,by decide +kernel,rfl,by decide +kernel,by decide +kernel⟩
theorem sc__law_drawn:FnScope ["script","shelves","wide","papers","cell"] ["script","shelves","wide"] (defScope s__law_drawn):=⟨rfl,rfl,rfl,by decide +kernel,rfl,by decide +kernel,by decide +kernel⟩
theorem sc__law_apart:FnScope ["script","shelves","wide","papers","cells","k","which","place","last"] ["script","shelves","wide"] (defScope s__law_apart):=⟨rfl,rfl,rfl,by decide +kernel,rfl,by decide +kernel,by decide +kernel⟩
theorem sc__law_paper:FnScope ["pair","cell","turn","notes"] ["pair","cell","turn"] (defScope s__law_paper):=⟨rfl,rfl,rfl,by decide +kernel,rfl,by decide +kernel,by decide +kernel⟩
theorem sc__law_copy:FnScope ["paper"] ["paper"] (defScope s__law_copy):=⟨rfl,rfl,rfl,by decide +kernel,rfl,by decide +kernel,by decide +kernel⟩
theorem sc_gives_into:FnScope ["one","other","known"] ["one","other"] (defScope s_gives_into):=⟨rfl,rfl,rfl,by decide +kernel,rfl,by decide +kernel,by decide +kernel⟩
theorem sc_meet:FnScope ["one","other"] ["one","other"] (defScope s_meet):=⟨rfl,rfl,rfl,by decide +kernel,rfl,by decide +kernel,by decide +kernel⟩
theorem sc__law_met:FnScope ["one","other","places","row"] ["one","other"] (defScope s__law_met):=⟨rfl,rfl,rfl,by decide +kernel,rfl,by decide +kernel,by decide +kernel⟩
theorem sc_law:FnScope ["script","first","shelves","wide","pairs","papers","handed","k","j","due","told"] ["script"] (defScope s_law):=⟨rfl,rfl,rfl,by decide +kernel,rfl,by decide +kernel,by decide +kernel⟩
set_option genSizeOf false in
set_option genInjectivity false in
structure Adr where
  a__law_cell_at:Addr
  d__law_cell_at:FuncData
  a__law_draw:Addr
  d__law_draw:FuncData
  a__law_names:Addr
  d__law_names:FuncData
  a__law_shelves:Addr
  d__law_shelves:FuncData
  a__law_worth:Addr
  d__law_worth:FuncData
  a__law_place:Addr
  d__law_place:FuncData
  a__law_drawn:Addr
  d__law_drawn:FuncData
  a__law_apart:Addr
  d__law_apart:FuncData
  a__law_paper:Addr
  d__law_paper:FuncData
  a__law_copy:Addr
  d__law_copy:FuncData
  a_gives_into:Addr
  d_gives_into:FuncData
  a_meet:Addr
  d_meet:FuncData
  a__law_met:Addr
  d__law_met:FuncData
  a_law:Addr
  d_law:FuncData
structure Txt (K:PySem.W.Frag) (mg:Str→Option Value) (t:Adr):Prop where
  f__law_cell_at:Fun K "_law_cell_at" "_law_cell_at" s__law_cell_at t.a__law_cell_at t.d__law_cell_at
  b__law_cell_at:Binds K t.d__law_cell_at ["script","k"] []
  m__law_cell_at:mg "_law_cell_at"=some (.ref t.a__law_cell_at)
  f__law_draw:Fun K "_law_draw" "_law_draw" s__law_draw t.a__law_draw t.d__law_draw
  b__law_draw:Binds K t.d__law_draw ["cell","j"] []
  m__law_draw:mg "_law_draw"=some (.ref t.a__law_draw)
  f__law_names:Fun K "_law_names" "_law_names" s__law_names t.a__law_names t.d__law_names
  b__law_names:Binds K t.d__law_names ["cell","many"] []
  m__law_names:mg "_law_names"=some (.ref t.a__law_names)
  f__law_shelves:Fun K "_law_shelves" "_law_shelves" s__law_shelves t.a__law_shelves t.d__law_shelves
  b__law_shelves:Binds K t.d__law_shelves ["cell","many"] []
  m__law_shelves:mg "_law_shelves"=some (.ref t.a__law_shelves)
  f__law_worth:Fun K "_law_worth" "_law_worth" s__law_worth t.a__law_worth t.d__law_worth
  b__law_worth:Binds K t.d__law_worth ["cell","j"] []
  m__law_worth:mg "_law_worth"=some (.ref t.a__law_worth)
  f__law_place:Fun K "_law_place" "_law_place" s__law_place t.a__law_place t.d__law_place
  b__law_place:Binds K t.d__law_place ["cell","shelves","wide"] []
  m__law_place:mg "_law_place"=some (.ref t.a__law_place)
  f__law_drawn:Fun K "_law_drawn" "_law_drawn" s__law_drawn t.a__law_drawn t.d__law_drawn
  b__law_drawn:Binds K t.d__law_drawn ["script","shelves","wide"] []
  m__law_drawn:mg "_law_drawn"=some (.ref t.a__law_drawn)
  f__law_apart:Fun K "_law_apart" "_law_apart" s__law_apart t.a__law_apart t.d__law_apart
  b__law_apart:Binds K t.d__law_apart ["script","shelves","wide"] []
  m__law_apart:mg "_law_apart"=some (.ref t.a__law_apart)
  f__law_paper:Fun K "_law_paper" "_law_paper" s__law_paper t.a__law_paper t.d__law_paper
  b__law_paper:Binds K t.d__law_paper ["pair","cell","turn"] []
  m__law_paper:mg "_law_paper"=some (.ref t.a__law_paper)
  f__law_copy:Fun K "_law_copy" "_law_copy" s__law_copy t.a__law_copy t.d__law_copy
  b__law_copy:Binds K t.d__law_copy ["paper"] []
  m__law_copy:mg "_law_copy"=some (.ref t.a__law_copy)
  f_gives_into:Fun K "gives_into" "gives_into" s_gives_into t.a_gives_into t.d_gives_into
  b_gives_into:Binds K t.d_gives_into ["one","other"] []
  m_gives_into:mg "gives_into"=some (.ref t.a_gives_into)
  f_meet:Fun K "meet" "meet" s_meet t.a_meet t.d_meet
  b_meet:Binds K t.d_meet ["one","other"] []
  m_meet:mg "meet"=some (.ref t.a_meet)
  f__law_met:Fun K "_law_met" "_law_met" s__law_met t.a__law_met t.d__law_met
  b__law_met:Binds K t.d__law_met ["one","other"] []
  m__law_met:mg "_law_met"=some (.ref t.a__law_met)
  f_law:Fun K "law" "law" s_law t.a_law t.d_law
  b_law:Binds K t.d_law ["script"] []
  m_law:mg "law"=some (.ref t.a_law)
  w_law:∀ (s:Shared) (v:Value),BindsTo s t.d_law ⟨[v],[]⟩ [("script",v)]
  b_any:mg "any"=none
  b_bool:mg "bool"=none
  b_dict:mg "dict"=none
  b_isinstance:mg "isinstance"=none
  b_len:mg "len"=none
  b_list:mg "list"=none
  b_range:mg "range"=none
  b_sorted:mg "sorted"=none
theorem txt_mk {K:PySem.W.Frag} {h:Heap} {mg:Str→Option Value} (X:K.In h) (G:h.Ns mainGlobals mg)
    {f0:Addr} {od0 an0:Option Addr} {sl0:Array (Option Value)} {oc0 kV0 dc0 pm0 cd0 ct0:Value}
    {f1:Addr} {od1 an1:Option Addr} {sl1:Array (Option Value)} {oc1 kV1 dc1 pm1 cd1 ct1:Value}
    {f2:Addr} {od2 an2:Option Addr} {sl2:Array (Option Value)} {oc2 kV2 dc2 pm2 cd2 ct2:Value}
    {f3:Addr} {od3 an3:Option Addr} {sl3:Array (Option Value)} {oc3 kV3 dc3 pm3 cd3 ct3:Value}
    {f4:Addr} {od4 an4:Option Addr} {sl4:Array (Option Value)} {oc4 kV4 dc4 pm4 cd4 ct4:Value}
    {f5:Addr} {od5 an5:Option Addr} {sl5:Array (Option Value)} {oc5 kV5 dc5 pm5 cd5 ct5:Value}
    {f6:Addr} {od6 an6:Option Addr} {sl6:Array (Option Value)} {oc6 kV6 dc6 pm6 cd6 ct6:Value}
    {f7:Addr} {od7 an7:Option Addr} {sl7:Array (Option Value)} {oc7 kV7 dc7 pm7 cd7 ct7:Value}
    {f8:Addr} {od8 an8:Option Addr} {sl8:Array (Option Value)} {oc8 kV8 dc8 pm8 cd8 ct8:Value}
    {f9:Addr} {od9 an9:Option Addr} {sl9:Array (Option Value)} {oc9 kV9 dc9 pm9 cd9 ct9:Value}
    {f10:Addr} {od10 an10:Option Addr} {sl10:Array (Option Value)} {oc10 kV10 dc10 pm10 cd10 ct10:Value}
    {f11:Addr} {od11 an11:Option Addr} {sl11:Array (Option Value)} {oc11 kV11 dc11 pm11 cd11 ct11:Value}
    {f12:Addr} {od12 an12:Option Addr} {sl12:Array (Option Value)} {oc12 kV12 dc12 pm12 cd12 ct12:Value}
    {f13:Addr} {od13 an13:Option Addr} {sl13:Array (Option Value)} {oc13 kV13 dc13 pm13 cd13 ct13:Value}
    (qa0:PySem.W.nsIn K mainGlobals "_law_cell_at"=some (some (.ref f0))) (ql0:K.lookup f0=some ⟨oc0,od0,.func (PySem.W.fnOf "_law_cell_at" "_law_cell_at" (defArgs s__law_cell_at) (defBody s__law_cell_at) (defScope s__law_cell_at) .none kV0 dc0 pm0 an0 cd0 ct0),sl0⟩) (qc0:PySem.W.codeIn K cd0 "_law_cell_at"=true) (qk0:PySem.W.keepIn K (.ref f0)=true)
    (qa1:PySem.W.nsIn K mainGlobals "_law_draw"=some (some (.ref f1))) (ql1:K.lookup f1=some ⟨oc1,od1,.func (PySem.W.fnOf "_law_draw" "_law_draw" (defArgs s__law_draw) (defBody s__law_draw) (defScope s__law_draw) .none kV1 dc1 pm1 an1 cd1 ct1),sl1⟩) (qc1:PySem.W.codeIn K cd1 "_law_draw"=true) (qk1:PySem.W.keepIn K (.ref f1)=true)
    (qa2:PySem.W.nsIn K mainGlobals "_law_names"=some (some (.ref f2))) (ql2:K.lookup f2=some ⟨oc2,od2,.func (PySem.W.fnOf "_law_names" "_law_names" (defArgs s__law_names) (defBody s__law_names) (defScope s__law_names) .none kV2 dc2 pm2 an2 cd2 ct2),sl2⟩) (qc2:PySem.W.codeIn K cd2 "_law_names"=true) (qk2:PySem.W.keepIn K (.ref f2)=true)
    (qa3:PySem.W.nsIn K mainGlobals "_law_shelves"=some (some (.ref f3))) (ql3:K.lookup f3=some ⟨oc3,od3,.func (PySem.W.fnOf "_law_shelves" "_law_shelves" (defArgs s__law_shelves) (defBody s__law_shelves) (defScope s__law_shelves) .none kV3 dc3 pm3 an3 cd3 ct3),sl3⟩) (qc3:PySem.W.codeIn K cd3 "_law_shelves"=true) (qk3:PySem.W.keepIn K (.ref f3)=true)
    (qa4:PySem.W.nsIn K mainGlobals "_law_worth"=some (some (.ref f4))) (ql4:K.lookup f4=some ⟨oc4,od4,.func (PySem.W.fnOf "_law_worth" "_law_worth" (defArgs s__law_worth) (defBody s__law_worth) (defScope s__law_worth) .none kV4 dc4 pm4 an4 cd4 ct4),sl4⟩) (qc4:PySem.W.codeIn K cd4 "_law_worth"=true) (qk4:PySem.W.keepIn K (.ref f4)=true)
    (qa5:PySem.W.nsIn K mainGlobals "_law_place"=some (some (.ref f5))) (ql5:K.lookup f5=some ⟨oc5,od5,.func (PySem.W.fnOf "_law_place" "_law_place" (defArgs s__law_place) (defBody s__law_place) (defScope s__law_place) .none kV5 dc5 pm5 an5 cd5 ct5),sl5⟩) (qc5:PySem.W.codeIn K cd5 "_law_place"=true) (qk5:PySem.W.keepIn K (.ref f5)=true)
    (qa6:PySem.W.nsIn K mainGlobals "_law_drawn"=some (some (.ref f6))) (ql6:K.lookup f6=some ⟨oc6,od6,.func (PySem.W.fnOf "_law_drawn" "_law_drawn" (defArgs s__law_drawn) (defBody s__law_drawn) (defScope s__law_drawn) .none kV6 dc6 pm6 an6 cd6 ct6),sl6⟩) (qc6:PySem.W.codeIn K cd6 "_law_drawn"=true) (qk6:PySem.W.keepIn K (.ref f6)=true)
    (qa7:PySem.W.nsIn K mainGlobals "_law_apart"=some (some (.ref f7))) (ql7:K.lookup f7=some ⟨oc7,od7,.func (PySem.W.fnOf "_law_apart" "_law_apart" (defArgs s__law_apart) (defBody s__law_apart) (defScope s__law_apart) .none kV7 dc7 pm7 an7 cd7 ct7),sl7⟩) (qc7:PySem.W.codeIn K cd7 "_law_apart"=true) (qk7:PySem.W.keepIn K (.ref f7)=true)
    (qa8:PySem.W.nsIn K mainGlobals "_law_paper"=some (some (.ref f8))) (ql8:K.lookup f8=some ⟨oc8,od8,.func (PySem.W.fnOf "_law_paper" "_law_paper" (defArgs s__law_paper) (defBody s__law_paper) (defScope s__law_paper) .none kV8 dc8 pm8 an8 cd8 ct8),sl8⟩) (qc8:PySem.W.codeIn K cd8 "_law_paper"=true) (qk8:PySem.W.keepIn K (.ref f8)=true)
    (qa9:PySem.W.nsIn K mainGlobals "_law_copy"=some (some (.ref f9))) (ql9:K.lookup f9=some ⟨oc9,od9,.func (PySem.W.fnOf "_law_copy" "_law_copy" (defArgs s__law_copy) (defBody s__law_copy) (defScope s__law_copy) .none kV9 dc9 pm9 an9 cd9 ct9),sl9⟩) (qc9:PySem.W.codeIn K cd9 "_law_copy"=true) (qk9:PySem.W.keepIn K (.ref f9)=true)
    (qa10:PySem.W.nsIn K mainGlobals "gives_into"=some (some (.ref f10))) (ql10:K.lookup f10=some ⟨oc10,od10,.func (PySem.W.fnOf "gives_into" "gives_into" (defArgs s_gives_into) (defBody s_gives_into) (defScope s_gives_into) .none kV10 dc10 pm10 an10 cd10 ct10),sl10⟩) (qc10:PySem.W.codeIn K cd10 "gives_into"=true) (qk10:PySem.W.keepIn K (.ref f10)=true)
    (qa11:PySem.W.nsIn K mainGlobals "meet"=some (some (.ref f11))) (ql11:K.lookup f11=some ⟨oc11,od11,.func (PySem.W.fnOf "meet" "meet" (defArgs s_meet) (defBody s_meet) (defScope s_meet) .none kV11 dc11 pm11 an11 cd11 ct11),sl11⟩) (qc11:PySem.W.codeIn K cd11 "meet"=true) (qk11:PySem.W.keepIn K (.ref f11)=true)
    (qa12:PySem.W.nsIn K mainGlobals "_law_met"=some (some (.ref f12))) (ql12:K.lookup f12=some ⟨oc12,od12,.func (PySem.W.fnOf "_law_met" "_law_met" (defArgs s__law_met) (defBody s__law_met) (defScope s__law_met) .none kV12 dc12 pm12 an12 cd12 ct12),sl12⟩) (qc12:PySem.W.codeIn K cd12 "_law_met"=true) (qk12:PySem.W.keepIn K (.ref f12)=true)
    (qa13:PySem.W.nsIn K mainGlobals "law"=some (some (.ref f13))) (ql13:K.lookup f13=some ⟨oc13,od13,.func (PySem.W.fnOf "law" "law" (defArgs s_law) (defBody s_law) (defScope s_law) .none kV13 dc13 pm13 an13 cd13 ct13),sl13⟩) (qc13:PySem.W.codeIn K cd13 "law"=true) (qk13:PySem.W.keepIn K (.ref f13)=true)
    (qz0:PySem.W.nsIn K mainGlobals "any"=some none)
    (qz1:PySem.W.nsIn K mainGlobals "bool"=some none)
    (qz2:PySem.W.nsIn K mainGlobals "dict"=some none)
    (qz3:PySem.W.nsIn K mainGlobals "isinstance"=some none)
    (qz4:PySem.W.nsIn K mainGlobals "len"=some none)
    (qz5:PySem.W.nsIn K mainGlobals "list"=some none)
    (qz6:PySem.W.nsIn K mainGlobals "range"=some none)
    (qz7:PySem.W.nsIn K mainGlobals "sorted"=some none):∃ t,Txt K mg t:=by
  have F0:=fun_mk (st:=s__law_cell_at) ql0 qc0 qk0
  have F1:=fun_mk (st:=s__law_draw) ql1 qc1 qk1
  have F2:=fun_mk (st:=s__law_names) ql2 qc2 qk2
  have F3:=fun_mk (st:=s__law_shelves) ql3 qc3 qk3
  have F4:=fun_mk (st:=s__law_worth) ql4 qc4 qk4
  have F5:=fun_mk (st:=s__law_place) ql5 qc5 qk5
  have F6:=fun_mk (st:=s__law_drawn) ql6 qc6 qk6
  have F7:=fun_mk (st:=s__law_apart) ql7 qc7 qk7
  have F8:=fun_mk (st:=s__law_paper) ql8 qc8 qk8
  have F9:=fun_mk (st:=s__law_copy) ql9 qc9 qk9
  have F10:=fun_mk (st:=s_gives_into) ql10 qc10 qk10
  have F11:=fun_mk (st:=s_meet) ql11 qc11 qk11
  have F12:=fun_mk (st:=s__law_met) ql12 qc12 qk12
  have F13:=fun_mk (st:=s_law) ql13 qc13 qk13
  exact ⟨⟨f0,_,f1,_,f2,_,f3,_,f4,_,f5,_,f6,_,f7,_,f8,_,f9,_,f10,_,f11,_,f12,_,f13,_⟩,⟨F0,F0.binds (ps:=["script","k"]) (fun _ _ _ _ _ _ us hl=>match us,hl with | [_,_],_=>rfl),PySem.W.mg_of X G qa0,
    F1,F1.binds (ps:=["cell","j"]) (fun _ _ _ _ _ _ us hl=>match us,hl with | [_,_],_=>rfl),PySem.W.mg_of X G qa1,
    F2,F2.binds (ps:=["cell","many"]) (fun _ _ _ _ _ _ us hl=>match us,hl with | [_,_],_=>rfl),PySem.W.mg_of X G qa2,
    F3,F3.binds (ps:=["cell","many"]) (fun _ _ _ _ _ _ us hl=>match us,hl with | [_,_],_=>rfl),PySem.W.mg_of X G qa3,
    F4,F4.binds (ps:=["cell","j"]) (fun _ _ _ _ _ _ us hl=>match us,hl with | [_,_],_=>rfl),PySem.W.mg_of X G qa4,
    F5,F5.binds (ps:=["cell","shelves","wide"]) (fun _ _ _ _ _ _ us hl=>match us,hl with | [_,_,_],_=>rfl),PySem.W.mg_of X G qa5,
    F6,F6.binds (ps:=["script","shelves","wide"]) (fun _ _ _ _ _ _ us hl=>match us,hl with | [_,_,_],_=>rfl),PySem.W.mg_of X G qa6,
    F7,F7.binds (ps:=["script","shelves","wide"]) (fun _ _ _ _ _ _ us hl=>match us,hl with | [_,_,_],_=>rfl),PySem.W.mg_of X G qa7,
    F8,F8.binds (ps:=["pair","cell","turn"]) (fun _ _ _ _ _ _ us hl=>match us,hl with | [_,_,_],_=>rfl),PySem.W.mg_of X G qa8,
    F9,F9.binds (ps:=["paper"]) (fun _ _ _ _ _ _ us hl=>match us,hl with | [_],_=>rfl),PySem.W.mg_of X G qa9,
    F10,F10.binds (ps:=["one","other"]) (fun _ _ _ _ _ _ us hl=>match us,hl with | [_,_],_=>rfl),PySem.W.mg_of X G qa10,
    F11,F11.binds (ps:=["one","other"]) (fun _ _ _ _ _ _ us hl=>match us,hl with | [_,_],_=>rfl),PySem.W.mg_of X G qa11,
    F12,F12.binds (ps:=["one","other"]) (fun _ _ _ _ _ _ us hl=>match us,hl with | [_,_],_=>rfl),PySem.W.mg_of X G qa12,
    F13,F13.binds (ps:=["script"]) (fun _ _ _ _ _ _ us hl=>match us,hl with | [_],_=>rfl),PySem.W.mg_of X G qa13,
    fun s v=>.of_eq rfl,
    PySem.W.mg_none_of X G qz0,
    PySem.W.mg_none_of X G qz1,
    PySem.W.mg_none_of X G qz2,
    PySem.W.mg_none_of X G qz3,
    PySem.W.mg_none_of X G qz4,
    PySem.W.mg_none_of X G qz5,
    PySem.W.mg_none_of X G qz6,
    PySem.W.mg_none_of X G qz7⟩⟩
structure KF (K:PySem.W.Frag):Prop where
  i_b:PySem.W.kitOne K (.type "int") (.type "bool")=some false
def NamesAt (H:Hp) (nm:Addr) (ws:List Str):Prop:=H nm=some (.lst (ws.map V.str))∧∀ w∈ws,isName w=true
def LsAt (H:Hp) (a:Addr) (rows:List Row):Prop:=∃ xs,H a=some (.lst xs)∧Paired (PrAt H) xs rows
def OcAt (H:Hp) (v:V):Oc→Prop
  | .done sa=>∃ o y,v=.ref o∧H o=some (.tup [.str "done",.ref y])∧H y=some (.tup (sa.map V.int))
  | .off w=>∃ o,v=.ref o∧H o=some (.tup [.str "off",.str w])
structure Pp where
  oc:Oc
  no:List Row
  gi:List Row
def PpV (H:Hp) (v:V) (p:Pp):Prop:=∃ r o nl gl,v=.ref r∧H r=some (.tup [o,.ref nl,.ref gl])∧OcAt H o p.oc∧LsAt H nl p.no∧LsAt H gl p.gi
def PpN (H H':Hp) (v:V) (p:Pp):Prop:=∃ r o nl gl,v=.ref r∧H' r=some (.tup [o,.ref nl,.ref gl])∧OcAt H' o p.oc∧LsAt H' nl p.no∧LsAt H' gl p.gi∧H nl=none∧H gl=none
structure ppOk (p:Pp):Prop where
  ln:p.no.length≤70
  lg:p.gi.length≤70
  sn:∀ r∈p.no,PyData.strOk r.1.1=true
  sg:∀ r∈p.gi,PyData.strOk r.1.1=true
  so:∀ w,p.oc=.off w→PyData.strOk w=true
def pIn (p:Pl) (l:List Row):Bool:=l.any fun r=>decide (r.1=p)
def givB (a b:Pp):Bool:=a.gi.any fun r=>pIn r.1 (b.no ++ b.gi)
def metB (a b:Pp):Bool:=givB a b || givB b a
def sp__law_cell_at (K:PySem.W.Frag):Sp:=fun vs H Q _=>∃ (a:Addr) (ns:List Int) (k:Nat),vs=[.ref a,.int k]∧SqL K H a (ns.map V.int)∧ns.length≤63∧∀ c H',Same H H'→Q (.int c) H'
def sp__law_draw:Sp:=fun vs H Q _=>∃ c j,vs=[.int c,.int j]∧0≤j∧j≤1000∧∀ r H',0≤r→r < 2147483648→Same H H'→Q (.int r) H'
def sp__law_names:Sp:=fun vs H Q _=>∃ c m,vs=[.int c,.int m]∧0≤m∧m≤6∧∀ nm ws H',Same H H'→NamesAt H' nm ws→(ws.length:Int)=m→Q (.ref nm) H'
def sp__law_shelves:Sp:=fun vs H Q _=>∃ c,vs=[.int c,.int 3]∧∀ nm ws H',Same H H'→NamesAt H' nm ws→ws.length=3→Q (.ref nm) H'
def sp__law_worth:Sp:=fun vs H Q _=>∃ c j,vs=[.int c,.int j]∧0≤j∧j≤900∧∀ w H',Same H H'→Q (.int w) H'
def sp_gives_into:Sp:=fun vs H Q _=>∃ (v u:V) (a b:Pp),vs=[v,u]∧PpV H v a∧PpV H u b∧ppOk a∧ppOk b∧∀ H',Same H H'→Q (.bl (givB a b)) H'
def sp_meet:Sp:=fun vs H Q _=>∃ (v u:V) (a b:Pp),vs=[v,u]∧PpV H v a∧PpV H u b∧ppOk a∧ppOk b∧∀ H',Same H H'→Q (.bl (metB a b)) H'
structure DsAt (H:Hp) (l l0 l1:Addr) (d:Bool→Bool→Addr) (R:Bool→Bool→List Row) (n:Nat):Prop where
  hl:H l=some (.lst [.ref l0,.ref l1])
  h0:H l0=some (.lst [.ref (d false false),.ref (d false true)])
  h1:H l1=some (.lst [.ref (d true false),.ref (d true true)])
  hd:∀ i j,H (d i j)=some (.dT (dOf (R i j)))
  nd:∀ i j i' j',d i j=d i' j'→i=i'∧j=j'
  ln:∀ i j,(R i j).length≤n
  ok:∀ i j,∀ r∈R i j,PyData.strOk r.1.1=true
def sp__law_place:Sp:=fun vs H Q _=>∃ (c w:Int) (s:Addr) (ws:List Str),vs=[.int c,.ref s,.int w]∧NamesAt H s ws∧ws.length=3∧2≤w∧w≤41∧∀ q (p:Pl) H',Same H H'→H' q=some (.tup [.str p.1,.int p.2])→PyData.strOk p.1=true→Q (.ref q) H'
def sp__law_drawn (K:PySem.W.Frag):Sp:=fun vs H Q _=>∃ (a s:Addr) (w:Int) (ns:List Int) (ws:List Str),vs=[.ref a,.ref s,.int w]∧SqL K H a (ns.map V.int)∧ns.length≤63∧NamesAt H s ws∧ws.length=3∧2≤w∧w≤41∧∀ l l0 l1 d R H',Same H H'→DsAt H' l l0 l1 d R 65→Q (.ref l) H'
def sp__law_apart (K:PySem.W.Frag):Sp:=fun vs H Q _=>∃ (a s:Addr) (w:Int) (ns:List Int) (ws:List Str),vs=[.ref a,.ref s,.int w]∧SqL K H a (ns.map V.int)∧ns.length≤63∧NamesAt H s ws∧ws.length=3∧2≤w∧w≤41∧∀ l l0 l1 d R H',Same H H'→DsAt H' l l0 l1 d R 65→Q (.ref l) H'
def sp__law_paper:Sp:=fun vs H Q _=>∃ (p d0 d1:Addr) (c:Int) (tn:Int) (r0 r1:List Row),vs=[.ref p,.int c,.int tn]∧H p=some (.lst [.ref d0,.ref d1])∧H d0=some (.dT (dOf r0))∧H d1=some (.dT (dOf r1))∧r0.length≤65∧r1.length≤65∧(∀ r∈r0,PyData.strOk r.1.1=true)∧(∀ r∈r1,PyData.strOk r.1.1=true)∧0≤tn∧tn≤1∧∀ v p H',Same H H'→PpV H' v p→ppOk p→Q v H'
def sp__law_met:Sp:=fun vs H Q _=>∃ (v u:V) (a b:Pp),vs=[v,u]∧PpV H v a∧PpV H u b∧ppOk a∧ppOk b∧∀ H',Same H H'→Q (.bl (givB a b)) H'
def sp__law_copy:Sp:=fun vs H Q _=>∃ (v:V) (p:Pp),vs=[v]∧PpV H v p∧∀ v' H',Same H H'→PpN H H' v' p→Q v' H'
def sp_law (K:PySem.W.Frag):Sp:=fun vs H Q _=>∃ (a:Addr) (ns:List Int),vs=[.ref a]∧SqL K H a (ns.map V.int)∧ns.length≤63∧∀ H',Q (.bl true) H'
def rd__law_cell_at (K:PySem.W.Frag) (t:Adr):TS:=(tSeq (tIfS (tTest (tOp (rI0 fun i j=>.bl (decide (i < j))) (tVar 1) (tCB (cLen K) (tCons (tVar 0) tNil))))
      (tRet (tOp (rIxL K) (tVar 0) (tVar 1)))
      tNext)
    (tRet (tC (.int 0))))
def rd__law_draw (K:PySem.W.Frag) (t:Adr):TS:=(tSeq (tAsg (tOp (rI (fun _ j=>0 < j) fun i j=>.int (i % j)) (tOp (rI0 fun i j=>.int (i + j)) (tOp (rI CMulB fun i j=>.int (i * j)) (tOp (rI (fun _ j=>0 < j) fun i j=>.int (i % j)) (tVar 0) (tC (.int 1000000007))) (tC (.int 6700417))) (tOp (rI CMulB fun i j=>.int (i * j)) (tOp (rI CMulB fun i j=>.int (i * j)) (tOp (rI0 fun i j=>.int (i + j)) (tVar 1) (tC (.int 1))) (tC (.int 104729))) (tC (.int 65537)))) (tC (.int 1000000009))) (gName 2))
    (tRet (tOp (rI CDivB fun i j=>.int (i / j)) (tOp (rI (fun _ j=>0 < j) fun i j=>.int (i % j)) (tOp (rI CMulB fun i j=>.int (i * j)) (tOp (rI (fun _ j=>0 < j) fun i j=>.int (i % j)) (tOp (rI CMulB fun i j=>.int (i * j)) (tVar 2) (tVar 2)) (tC (.int 1000000009))) (tVar 2)) (tC (.int 1000000009))) (tC (.int 32)))))
def rd__law_names_8 (K:PySem.W.Frag) (t:Adr):TS:=(tRet (tComp (iRng1 (tCons (tVar 1) tNil)) (gName 0) tYes (tOp rAddS (tOp rAddS (tSl rSlS (tVar 1) tNoPart (tPart (tVar 2))) (tOp rIxS (tVar 3) (tVar 0))) (tSl rSlS (tVar 1) (tPart (tOp (rI0 fun i j=>.int (i + j)) (tVar 2) (tC (.int 1)))) tNoPart)) 1 [4,6,3]))
def rd__law_names_5 (K:PySem.W.Frag) (t:Adr):TS:=(tSeq (tAsg (tOp (rI (fun _ j=>0 < j) fun i j=>.int (i % j)) (tCall sp__law_draw [] E0 (tCons (tVar 0) (tCons (tC (.int 8)) tNil))) (tVar 2)) (gName 6))
    (tSeq (tAsg (tOp (rI (fun _ j=>0 < j) fun i j=>.int (i % j)) (tCall sp__law_draw [] E0 (tCons (tVar 0) (tCons (tC (.int 9)) tNil))) (tCB (cLen K) (tCons (tVar 3) tNil))) (gName 7))
    (tSeq (tAsg (tOp rAddS (tSl rSlS (tVar 3) (tPart (tVar 7)) tNoPart) (tSl rSlS (tVar 3) tNoPart (tPart (tVar 7)))) (gName 3))
    (rd__law_names_8 K t))))
def rd__law_names_3 (K:PySem.W.Frag) (t:Adr):TS:=(tSeq (tAsg (tC (.str "")) (gName 4))
    (tSeq (tFor (iRng1 (tCons (tVar 2) tNil)) (gName 5)
      (tAsg (tOp rAddS (tVar 4) (tOp rIxS (tVar 3) (tOp (rI (fun _ j=>0 < j) fun i j=>.int (i % j)) (tCall sp__law_draw [] E0 (tCons (tVar 0) (tCons (tOp (rI0 fun i j=>.int (i + j)) (tC (.int 2)) (tVar 5)) tNil))) (tCB (cLen K) (tCons (tVar 3) tNil))))) (gName 4)))
    (rd__law_names_5 K t)))
def rd__law_names (K:PySem.W.Frag) (t:Adr):TS:=(tSeq (tAsg (tOp (rI0 fun i j=>.int (i + j)) (tC (.int 1)) (tOp (rI (fun _ j=>0 < j) fun i j=>.int (i % j)) (tCall sp__law_draw [] E0 (tCons (tVar 0) (tCons (tC (.int 1)) tNil))) (tC (.int 6)))) (gName 2))
    (tSeq (tAsg (tC (.str "zyxwvtsrqpnmlkjhgfdcb")) (gName 3))
    (tSeq (tIfS (tTest (tOp rEq (tVar 2) (tC (.int 6))))
      (tAsg (tC (.str "zyxwvutsrqponmlkjihgfedcba")) (gName 3))
      tNext)
    (rd__law_names_3 K t))))
def rd__law_shelves_6 (K:PySem.W.Frag) (t:Adr):TS:=(tRet (tComp (iRng1 (tCons (tVar 1) tNil)) (gName 0) tYes (tOp (rIxL K) (tVar 1) (tOp (rI (fun _ j=>0 < j) fun i j=>.int (i % j)) (tOp (rI0 fun i j=>.int (i + j)) (tVar 2) (tVar 0)) (tC (.int 4)))) 1 [5,6]))
def rd__law_shelves_4 (K:PySem.W.Frag) (t:Adr):TS:=(tSeq (tAsg (tLst (tCons (tVar 3) (tCons (tOp rAddS (tVar 4) (tVar 3)) (tCons (tSRev (tVar 3) (tUn (rU fun i=>.int (-i)) (tC (.int 1)))) (tCons (tOp rAddS (tVar 3) (tVar 4)) tNil))))) (gName 5))
    (tSeq (tAsg (tOp (rI (fun _ j=>0 < j) fun i j=>.int (i % j)) (tCall sp__law_draw [] E0 (tCons (tVar 0) (tCons (tC (.int 15)) tNil))) (tC (.int 4))) (gName 6))
    (rd__law_shelves_6 K t)))
def rd__law_shelves_1 (K:PySem.W.Frag) (t:Adr):TS:=(tSeq (tAsg (tC (.str "zyxwvtsrqpnmlkjhgfdcb")) (gName 2))
    (tSeq (tAsg (tOp rAddS (tOp rIxS (tVar 2) (tOp (rI (fun _ j=>0 < j) fun i j=>.int (i % j)) (tCall sp__law_draw [] E0 (tCons (tVar 0) (tCons (tC (.int 12)) tNil))) (tC (.int 21)))) (tOp rIxS (tVar 2) (tOp (rI (fun _ j=>0 < j) fun i j=>.int (i % j)) (tCall sp__law_draw [] E0 (tCons (tVar 0) (tCons (tC (.int 13)) tNil))) (tC (.int 21))))) (gName 3))
    (tSeq (tAsg (tOp rIxS (tVar 2) (tOp (rI (fun _ j=>0 < j) fun i j=>.int (i % j)) (tCall sp__law_draw [] E0 (tCons (tVar 0) (tCons (tC (.int 14)) tNil))) (tC (.int 21)))) (gName 4))
    (rd__law_shelves_4 K t))))
def rd__law_shelves (K:PySem.W.Frag) (t:Adr):TS:=(tSeq (tIfS (tTest (tOp (rI0 fun i j=>.bl (decide (j < i))) (tOp (rI (fun _ j=>0 < j) fun i j=>.int (i % j)) (tCall sp__law_draw [] E0 (tCons (tVar 0) (tCons (tC (.int 11)) tNil))) (tC (.int 3))) (tC (.int 0))))
      (tRet (tCall sp__law_names [] E0 (tCons (tVar 0) (tCons (tVar 1) tNil))))
      tNext)
    (rd__law_shelves_1 K t))
def rd__law_worth (K:PySem.W.Frag) (t:Adr):TS:=(tRet (tOp (rI0 fun i j=>.int (i - j)) (tOp (rI (fun _ j=>0 < j) fun i j=>.int (i % j)) (tOp (rI0 fun i j=>.int (i + j)) (tOp (rI CMulB fun i j=>.int (i * j)) (tOp (rI CMulB fun i j=>.int (i * j)) (tOp (rI (fun _ j=>0 < j) fun i j=>.int (i % j)) (tVar 0) (tOp (rI CPow fun i j=>.int (i ^ j.toNat)) (tC (.int 10)) (tC (.int 40)))) (tOp (rI0 fun i j=>.int (i + j)) (tVar 1) (tC (.int 2)))) (tC (.int 1000003))) (tVar 1)) (tOp (rI0 fun i j=>.int (i + j)) (tOp (rI CMulB fun i j=>.int (i * j)) (tC (.int 2)) (tOp (rI CPow fun i j=>.int (i ^ j.toNat)) (tC (.int 10)) (tC (.int 30)))) (tC (.int 1)))) (tOp (rI CPow fun i j=>.int (i ^ j.toNat)) (tC (.int 10)) (tC (.int 30)))))
def rd__law_place_2 (K:PySem.W.Frag) (t:Adr):TS:=(tRet (tTup (tCons (tOp (rIxL K) (tVar 1) (tOp (rI (fun _ j=>0 < j) fun i j=>.int (i % j)) (tCall sp__law_draw [] E0 (tCons (tVar 0) (tCons (tC (.int 7)) tNil))) (tC (.int 3)))) (tCons (tVar 3) tNil))))
def rd__law_place (K:PySem.W.Frag) (t:Adr):TS:=(tSeq (tAsg (tOp (rI0 fun i j=>.int (i - j)) (tOp (rI (fun _ j=>0 < j) fun i j=>.int (i % j)) (tCall sp__law_draw [] E0 (tCons (tVar 0) (tCons (tC (.int 4)) tNil))) (tVar 2)) (tOp (rI CDivB fun i j=>.int (i / j)) (tVar 2) (tC (.int 3)))) (gName 3))
    (tSeq (tIfS (tTest (tOp rEq (tOp (rI (fun _ j=>0 < j) fun i j=>.int (i % j)) (tCall sp__law_draw [] E0 (tCons (tVar 0) (tCons (tC (.int 5)) tNil))) (tC (.int 7))) (tC (.int 0))))
      (tAsg (tCall sp__law_worth [] E0 (tCons (tVar 0) (tCons (tC (.int 6)) tNil))) (gName 3))
      tNext)
    (rd__law_place_2 K t)))
def rd__law_drawn_1 (K:PySem.W.Frag) (t:Adr):TS:=(tSeq (tFor (iList K (tSl (rSlL K) (tVar 0) tNoPart (tPart (tC (.int 240))))) (gName 4)
      (sDPut (tOp (rIxL K) (tOp (rIxL K) (tVar 3) (tOp (rI (fun _ j=>0 < j) fun i j=>.int (i % j)) (tCall sp__law_draw [] E0 (tCons (tVar 4) (tCons (tC (.int 1)) tNil))) (tC (.int 2)))) (tOp (rI (fun _ j=>0 < j) fun i j=>.int (i % j)) (tCall sp__law_draw [] E0 (tCons (tVar 4) (tCons (tC (.int 2)) tNil))) (tC (.int 2)))) (tCall sp__law_place [] E0 (tCons (tVar 4) (tCons (tVar 1) (tCons (tVar 2) tNil)))) (tCall sp__law_worth [] E0 (tCons (tVar 4) (tCons (tC (.int 3)) tNil)))))
    (tRet (tVar 3)))
def rd__law_drawn (K:PySem.W.Frag) (t:Adr):TS:=(tSeq (tAsg (tLst (tCons (tLst (tCons tDNewT (tCons tDNewT tNil))) (tCons (tLst (tCons tDNewT (tCons tDNewT tNil))) tNil))) (gName 3))
    (rd__law_drawn_1 K t))
def rd__law_apart_3 (K:PySem.W.Frag) (t:Adr):TS:=(tSeq (tIfS (tAnd (tTest (tOp (rNeNil K) (tVar 4) (tLst tNil))) (tTest (tOp (rI0 fun i j=>.bl (decide (j < i))) (tOp (rI (fun _ j=>0 < j) fun i j=>.int (i % j)) (tCall sp__law_draw [] E0 (tCons (tOp (rIxL K) (tVar 4) (tC (.int 0))) (tCons (tC (.int 11)) tNil))) (tC (.int 3))) (tC (.int 0)))))
      (tSeq (tAsg (tOp (rIxL K) (tLst (tCons (tC (.int 0)) (tCons (tOp (rI0 fun i j=>.int (i - j)) (tCB (cLen K) (tCons (tVar 4) tNil)) (tC (.int 1))) (tCons (tOp (rI (fun _ j=>0 < j) fun i j=>.int (i % j)) (tCall sp__law_draw [] E0 (tCons (tOp (rIxL K) (tVar 4) (tC (.int 0))) (tCons (tC (.int 12)) tNil))) (tCB (cLen K) (tCons (tVar 4) tNil))) tNil)))) (tOp (rI (fun _ j=>0 < j) fun i j=>.int (i % j)) (tCall sp__law_draw [] E0 (tCons (tOp (rIxL K) (tVar 4) (tC (.int 0))) (tCons (tC (.int 13)) tNil))) (tC (.int 3)))) (gName 8))
    (tSeq (tAsg (tTup (tCons (tOp (rIxL K) (tVar 1) (tOp (rI (fun _ j=>0 < j) fun i j=>.int (i % j)) (tCall sp__law_draw [] E0 (tCons (tOp (rIxL K) (tVar 4) (tVar 8)) (tCons (tC (.int 14)) tNil))) (tC (.int 3)))) (tCons (tOp (rI CMulB fun i j=>.int (i * j)) (tC (.int 2)) (tOp (rI (fun _ j=>0 < j) fun i j=>.int (i % j)) (tCall sp__law_draw [] E0 (tCons (tOp (rIxL K) (tVar 4) (tVar 8)) (tCons (tC (.int 4)) tNil))) (tOp (rI CMulB fun i j=>.int (i * j)) (tVar 2) (tVar 2)))) tNil))) (gName 7))
    (tSeq (sDPut (tOp (rIxL K) (tOp (rIxL K) (tVar 3) (tC (.int 0))) (tOp (rI (fun _ j=>0 < j) fun i j=>.int (i % j)) (tCall sp__law_draw [] E0 (tCons (tOp (rIxL K) (tVar 4) (tC (.int 0))) (tCons (tC (.int 15)) tNil))) (tC (.int 2)))) (tVar 7) (tC (.int 5)))
    (sDPut (tOp (rIxL K) (tOp (rIxL K) (tVar 3) (tC (.int 1))) (tOp (rI (fun _ j=>0 < j) fun i j=>.int (i % j)) (tCall sp__law_draw [] E0 (tCons (tOp (rIxL K) (tVar 4) (tC (.int 0))) (tCons (tC (.int 16)) tNil))) (tC (.int 2)))) (tVar 7) (tC (.int 0))))))
      tNext)
    (tRet (tVar 3)))
def rd__law_apart_2 (K:PySem.W.Frag) (t:Adr):TS:=(tSeq (tFor (iRng1 (tCons (tCB (cLen K) (tCons (tVar 4) tNil)) tNil)) (gName 5)
      (tSeq (tAsg (tOp (rI (fun _ j=>0 < j) fun i j=>.int (i % j)) (tCall sp__law_draw [] E0 (tCons (tOp (rIxL K) (tVar 4) (tVar 5)) (tCons (tC (.int 1)) tNil))) (tC (.int 2))) (gName 6))
    (tSeq (tAsg (tTup (tCons (tOp (rIxL K) (tVar 1) (tOp (rI (fun _ j=>0 < j) fun i j=>.int (i % j)) (tCall sp__law_draw [] E0 (tCons (tOp (rIxL K) (tVar 4) (tVar 5)) (tCons (tC (.int 7)) tNil))) (tC (.int 3)))) (tCons (tOp (rI0 fun i j=>.int (i + j)) (tOp (rI CMulB fun i j=>.int (i * j)) (tC (.int 2)) (tOp (rI (fun _ j=>0 < j) fun i j=>.int (i % j)) (tCall sp__law_draw [] E0 (tCons (tOp (rIxL K) (tVar 4) (tVar 5)) (tCons (tC (.int 4)) tNil))) (tOp (rI CMulB fun i j=>.int (i * j)) (tVar 2) (tVar 2)))) (tVar 6)) tNil))) (gName 7))
    (sDPut (tOp (rIxL K) (tOp (rIxL K) (tVar 3) (tVar 6)) (tOp (rI (fun _ j=>0 < j) fun i j=>.int (i % j)) (tCall sp__law_draw [] E0 (tCons (tOp (rIxL K) (tVar 4) (tVar 5)) (tCons (tC (.int 2)) tNil))) (tC (.int 2)))) (tVar 7) (tCall sp__law_worth [] E0 (tCons (tOp (rIxL K) (tVar 4) (tVar 5)) (tCons (tC (.int 3)) tNil)))))))
    (rd__law_apart_3 K t))
def rd__law_apart_1 (K:PySem.W.Frag) (t:Adr):TS:=(tSeq (tAsg (tSl (rSlL K) (tVar 0) tNoPart (tPart (tC (.int 240)))) (gName 4))
    (rd__law_apart_2 K t))
def rd__law_apart (K:PySem.W.Frag) (t:Adr):TS:=(tSeq (tAsg (tLst (tCons (tLst (tCons tDNewT (tCons tDNewT tNil))) (tCons (tLst (tCons tDNewT (tCons tDNewT tNil))) tNil))) (gName 3))
    (rd__law_apart_1 K t))
def rd__law_paper_3 (K:PySem.W.Frag) (t:Adr):TS:=(tRet (tTup (tCons (tTup (tCons (tC (.str "done")) (tCons (tTup (tCons (tVar 2) (tCons (tCall sp__law_worth [] E0 (tCons (tVar 1) (tCons (tC (.int 21)) tNil))) tNil))) tNil))) (tCons (tVar 3) (tCons (tCB cSrtI (tCons (tItems (tOp (rIxL K) (tVar 0) (tC (.int 1)))) tNil)) tNil)))))
def rd__law_paper_2 (K:PySem.W.Frag) (t:Adr):TS:=(tSeq (tIfS (tTest (tOp rEq (tOp (rI (fun _ j=>0 < j) fun i j=>.int (i % j)) (tCall sp__law_draw [] E0 (tCons (tVar 1) (tCons (tOp (rI0 fun i j=>.int (i + j)) (tC (.int 18)) (tVar 2)) tNil))) (tC (.int 5))) (tC (.int 0))))
      (tRet (tTup (tCons (tTup (tCons (tC (.str "off")) (tCons (tOp (rIxL K) (tLst (tCons (tC (.str "told")) (tCons (tC (.str "great")) (tCons (tC (.str "nought")) tNil)))) (tOp (rI (fun _ j=>0 < j) fun i j=>.int (i % j)) (tCall sp__law_draw [] E0 (tCons (tVar 1) (tCons (tC (.int 20)) tNil))) (tC (.int 3)))) tNil))) (tCons (tVar 3) (tCons (tLst tNil) tNil)))))
      tNext)
    (rd__law_paper_3 K t))
def rd__law_paper_1 (K:PySem.W.Frag) (t:Adr):TS:=(tSeq (tIfS (tTest (tOp rEq (tOp (rI (fun _ j=>0 < j) fun i j=>.int (i % j)) (tCall sp__law_draw [] E0 (tCons (tVar 1) (tCons (tC (.int 17)) tNil))) (tC (.int 2))) (tC (.int 1))))
      (tAsg (tLRevS K (tVar 3) (tUn (rU fun i=>.int (-i)) (tC (.int 1)))) (gName 3))
      tNext)
    (rd__law_paper_2 K t))
def rd__law_paper (K:PySem.W.Frag) (t:Adr):TS:=(tSeq (tAsg (tCB cLstI (tCons (tItems (tOp (rIxL K) (tVar 0) (tC (.int 0)))) tNil)) (gName 3))
    (rd__law_paper_1 K t))
def rd__law_copy (K:PySem.W.Frag) (t:Adr):TS:=(tRet (tTup (tCons (tOp (rIxT K) (tVar 0) (tC (.int 0))) (tCons (tCB (cLst K) (tCons (tOp (rIxT K) (tVar 0) (tC (.int 1))) tNil)) (tCons (tCB (cLst K) (tCons (tOp (rIxT K) (tVar 0) (tC (.int 2))) tNil)) tNil)))))
def rd_gives_into (K:PySem.W.Frag) (t:Adr):TS:=(tSeq (tAsg (tCB cDctP (tCons (tOp rCat (tOp (rIxT K) (tVar 1) (tC (.int 1))) (tOp (rIxT K) (tVar 1) (tC (.int 2)))) tNil)) (gName 2))
    (tRet (tCB (cAny K) (tCons (tComp (iList K (tOp (rIxT K) (tVar 0) (tC (.int 2)))) (gTup K 2 (gCons (gName 0) (gCons (gName 1) gNil))) tYes (tOp (rInD false) (tVar 0) (tVar 2)) 2 [2]) tNil))))
def rd_meet (K:PySem.W.Frag) (t:Adr):TS:=(tRet (tOrV (tCall sp_gives_into [] E0 (tCons (tVar 0) (tCons (tVar 1) tNil))) (tCall sp_gives_into [] E0 (tCons (tVar 1) (tCons (tVar 0) tNil)))))
def rd__law_met_2 (K:PySem.W.Frag) (t:Adr):TS:=(tSeq (tFor (iList K (tOp (rIxT K) (tVar 0) (tC (.int 2)))) (gName 3)
      (tIfS (tTest (tOp (rInD false) (tOp (rIxT K) (tVar 3) (tC (.int 0))) (tVar 2)))
      (tRet (tC (.bl true)))
      tNext))
    (tRet (tC (.bl false))))
def rd__law_met_1 (K:PySem.W.Frag) (t:Adr):TS:=(tSeq (tFor (iList K (tOp rCat (tOp (rIxT K) (tVar 1) (tC (.int 1))) (tOp (rIxT K) (tVar 1) (tC (.int 2))))) (gName 3)
      (sDPut (tVar 2) (tOp (rIxT K) (tVar 3) (tC (.int 0))) (tC (.bl true))))
    (rd__law_met_2 K t))
def rd__law_met (K:PySem.W.Frag) (t:Adr):TS:=(tSeq (tAsg tDNewT (gName 2))
    (rd__law_met_1 K t))
def rd_law_B (K:PySem.W.Frag) (t:Adr):TS:=(tSeq (tAsg (tCall sp_meet [] E0 (tCons (tOp (rIxL K) (tVar 6) (tVar 7)) (tCons (tOp (rIxL K) (tVar 6) (tVar 8)) tNil))) (gName 10))
    (tIfS (tOr (tNot (tB (tCB (cIsi K) (tCons (tVar 10) (tCons (tC (.ty "bool")) tNil))))) (tTest (tOp rNe (tVar 10) (tVar 9))))
      (tRet (tC (.bl false)))
      tNext))
def rd_law_8 (K:PySem.W.Frag) (t:Adr):TS:=(tRet (tOp (rEqD K false) (tVar 6) (tVar 5)))
def rd_law_7 (K:PySem.W.Frag) (t:Adr):TS:=(tSeq (tFor (iRng1 (tCons (tC (.int 3)) tNil)) (gName 7)
      (tFor (iRng1 (tCons (tC (.int 3)) tNil)) (gName 8)
      (tSeq (tAsg (tOrV (tCall sp__law_met [] E0 (tCons (tOp (rIxL K) (tVar 5) (tVar 7)) (tCons (tOp (rIxL K) (tVar 5) (tVar 8)) tNil))) (tCall sp__law_met [] E0 (tCons (tOp (rIxL K) (tVar 5) (tVar 8)) (tCons (tOp (rIxL K) (tVar 5) (tVar 7)) tNil)))) (gName 9))
    (rd_law_B K t))))
    (rd_law_8 K t))
def rd_law_6 (K:PySem.W.Frag) (t:Adr):TS:=(tSeq (tAsg (tComp (iList K (tVar 5)) (gName 0) tYes (tCall sp__law_copy [] E0 (tCons (tVar 0) tNil)) 1 []) (gName 6))
    (rd_law_7 K t))
def rd_law_5 (K:PySem.W.Frag) (t:Adr):TS:=(tSeq (tAsg (tLst (tCons (tCall sp__law_paper [] E0 (tCons (tOp (rIxL K) (tVar 4) (tC (.int 0))) (tCons (tVar 1) (tCons (tC (.int 0)) tNil)))) (tCons (tCall sp__law_paper [] E0 (tCons (tOp (rIxL K) (tVar 4) (tC (.int 1))) (tCons (tVar 1) (tCons (tC (.int 1)) tNil)))) (tCons (tTup (tCons (tTup (tCons (tC (.str "done")) (tCons (tTup tNil) tNil))) (tCons (tLst tNil) (tCons (tLst tNil) tNil)))) tNil)))) (gName 5))
    (rd_law_6 K t))
def rd_law_4 (K:PySem.W.Frag) (t:Adr):TS:=(tSeq (tIfS (tTest (tOp rEq (tOp (rI (fun _ j=>0 < j) fun i j=>.int (i % j)) (tCall sp__law_draw [] E0 (tCons (tVar 1) (tCons (tC (.int 10)) tNil))) (tC (.int 3))) (tC (.int 0))))
      (tAsg (tCall (sp__law_apart K) [] E0 (tCons (tVar 0) (tCons (tVar 2) (tCons (tVar 3) tNil)))) (gName 4))
      tNext)
    (rd_law_5 K t))
def rd_law_3 (K:PySem.W.Frag) (t:Adr):TS:=(tSeq (tAsg (tCall (sp__law_drawn K) [] E0 (tCons (tVar 0) (tCons (tVar 2) (tCons (tVar 3) tNil)))) (gName 4))
    (rd_law_4 K t))
def rd_law (K:PySem.W.Frag) (t:Adr):TS:=(tSeq (tAsg (tCall (sp__law_cell_at K) [] E0 (tCons (tVar 0) (tCons (tC (.int 0)) tNil))) (gName 1))
    (tSeq (tAsg (tCall sp__law_shelves [] E0 (tCons (tCall (sp__law_cell_at K) [] E0 (tCons (tVar 0) (tCons (tC (.int 1)) tNil))) (tCons (tC (.int 3)) tNil))) (gName 2))
    (tSeq (tAsg (tOp (rI0 fun i j=>.int (i + j)) (tC (.int 2)) (tOp (rI (fun _ j=>0 < j) fun i j=>.int (i % j)) (tCall sp__law_draw [] E0 (tCons (tVar 1) (tCons (tC (.int 9)) tNil))) (tC (.int 40)))) (gName 3))
    (rd_law_3 K t))))
section
variable {K:PySem.W.Frag} {t:Adr} {H:Hp} {Q:VK}
theorem pow10 {j:Int} (h0:0≤j) (h1:j≤100):CPow 10 j:=⟨h0,by omega,by decide⟩
theorem small_size {n:Nat} (h:n≤100000):n≤sizeLine:=Nat.le_trans h (by decide)
theorem kit_same (T:String):PySem.W.kitOne K (.type T) (.type T)=some true:=by
  unfold PySem.W.kitOne
  rw [if_pos (by simp)]
theorem kf (K:PySem.W.Frag):KF K:=⟨by with_unfolding_all rfl⟩
theorem dB {i j:Int} (h0:0 < j:=by decide) (h1:j < 10000000000000000000000000000000000000000000000:=by decide):CDivB i j:=by
  have hb:(10000000000000000000000000000000000000000000000:Int) < big:=by decide +kernel
  exact ⟨h0,by omega⟩
theorem at_lt {α:Type} {xs:List α} {i:Int} (h0:0≤i) (h1:i < xs.length):∃ x,atI xs i=some x∧x∈xs:=by
  obtain ⟨n,rfl⟩:∃ n:Nat,i=(n:Int):=⟨i.toNat,by omega⟩
  have hn:n < xs.length:=by omega
  refine ⟨xs[n],?_,List.getElem_mem hn⟩
  unfold atI ixN
  rw [if_pos h0,if_pos h1]
  simp [hn]
theorem at_mod {α:Type} {xs:List α} (e:Int) (n:Nat) (hl:xs.length=n) (hn:0 < (n:Int)):∃ x,atI xs (e % n)=some x∧x∈xs :=
  at_lt (Int.emod_nonneg _ (by omega)) (by rw [hl];exact Int.emod_lt_of_pos _ hn)
theorem rdp__law_cell_at {a:Addr} {ns:List Int} {k:Nat} (hS:SqL K H a (ns.map V.int)) (hl:ns.length≤63) (q:∀ c H',Same H H'→Q (.int c) H') :
    rd__law_cell_at K t { nx:=fun _ H'=>Q .non H',rt:=Q } (L2.start ["script","k"] [.ref a,.int k]) H:=by
  simp only [rd__law_cell_at,L2.start,tSeq,tRet,tNext,tOp,tVar,tC,tCons,tNil,tIfS,tTest,tCB,LenV,rIxL,rI0,cLen,List.map,List.replicate,List.length,List.append,List.cons_append,List.nil_append,List.append_nil,List.getElem?_cons_zero,List.getElem?_cons_succ,Option.some.injEq,exists_eq_left',exists_eq_left,V.int.injEq,V.ref.injEq,V.str.injEq,V.bl.injEq,V.ty.injEq,List.cons.injEq,and_true,true_and,and_assoc,exists_and_left,List.set_cons_zero,List.set_cons_succ,Nat.reduceSub,Nat.reduceAdd,decide_eq_true_eq,Bool.not_eq_true',decide_eq_false_iff_not,Int.reduceToNat,Int.reducePow,Int.reduceNeg,Int.reduceMul,Int.reduceAdd,if_true,ite_true,Bool.false_eq_true,ite_false,if_false]
  refine ⟨_,.inl ⟨_,hS,rfl⟩,ite2 (fun c=>?_) fun _=>q _ _ (Same.refl H)⟩
  obtain ⟨v,hv,hm⟩:=at_lt (xs:=ns.map V.int) (i:=(k:Int)) (by omega) c
  obtain ⟨i,_,rfl⟩:=List.mem_map.mp hm
  exact ⟨_,hS,_,hv,q _ _ (Same.refl H)⟩
theorem one_len (c:Nat):({ cps:=#[c] }:Str).length=1:=rfl
theorem fresh_of {H H':Hp} {D:Addr} (s:Same H H') (h:H' D=none):H D=none:=by
  cases e:H D with
  | none=>rfl
  | some o=>rw [s _ _ e] at h;cases h
theorem last_mem {p:Pl} {w:Int}:∀ {l:List Row},lastW l p=some w→(p,w)∈l
  | [],h=>by cases h
  | r :: t,h=>by
    rw [lastW] at h
    cases e:lastW t p with
    | some w' =>
      rw [e] at h
      have:w'=w:=by simpa using h
      subst this
      exact List.mem_cons_of_mem _ (last_mem e)
    | none =>
      rw [e] at h
      by_cases c:r.1=p
      · rw [if_pos c] at h
        have:r.2=w:=by simpa using h
        rw [← c,← this];exact List.mem_cons_self
      · rw [if_neg c] at h;cases h
theorem rdp__law_draw {c j:Int} (h1:0≤j) (h2:j≤1000) (q:∀ r H',0≤r→r < 2147483648→Same H H'→Q (.int r) H') :
    rd__law_draw K t { nx:=fun _ H'=>Q .non H',rt:=Q } (L2.start ["cell","j","far"] [.int c,.int j]) H:=by
  simp only [rd__law_draw,L2.start,tSeq,tAsg,gName,tRet,tOp,tVar,tC,rI,rI0,List.map,List.replicate,List.length,List.append,List.cons_append,List.nil_append,List.append_nil,List.getElem?_cons_zero,List.getElem?_cons_succ,Option.some.injEq,exists_eq_left',exists_eq_left,V.int.injEq,V.ref.injEq,V.str.injEq,V.bl.injEq,V.ty.injEq,List.cons.injEq,and_true,true_and,and_assoc,exists_and_left,List.set_cons_zero,List.set_cons_succ,Nat.reduceSub,Nat.reduceAdd,decide_eq_true_eq,Bool.not_eq_true',decide_eq_false_iff_not,Int.reduceToNat,Int.reducePow,Int.reduceNeg,Int.reduceMul,Int.reduceAdd,if_true,ite_true,Bool.false_eq_true,ite_false,if_false]
  have hb:(10000000000000000000000000000000000000000000000:Int) < big:=by decide +kernel
  have g1:=Int.emod_nonneg c (b:=1000000007) (by decide)
  have g2:=Int.emod_lt_of_pos c (b:=1000000007) (by decide)
  generalize c % 1000000007=a at *
  have g3:=Int.emod_nonneg (a * 6700417 + (j + 1) * 104729 * 65537) (b:=1000000009) (by decide)
  have g4:=Int.emod_lt_of_pos (a * 6700417 + (j + 1) * 104729 * 65537) (b:=1000000009) (by decide)
  generalize hf:(a * 6700417 + (j + 1) * 104729 * 65537) % 1000000009=f at *
  have g5:=Int.emod_nonneg (f * f) (b:=1000000009) (by decide)
  have g6:=Int.emod_lt_of_pos (f * f) (b:=1000000009) (by decide)
  generalize hg:f * f % 1000000009=g at *
  have g7:=Int.emod_nonneg (g * f) (b:=1000000009) (by decide)
  have g8:=Int.emod_lt_of_pos (g * f) (b:=1000000009) (by decide)
  refine ⟨by decide,⟨⟨by omega,by omega⟩,by omega,by omega⟩,⟨⟨by omega,by omega⟩,by omega,by omega⟩,⟨⟨by omega,by omega⟩,by omega,by omega⟩,by decide,?_⟩
  refine ⟨⟨⟨by omega,by omega⟩,by omega,by omega⟩,by decide,⟨⟨by omega,by omega⟩,by omega,by omega⟩,by decide,dB,q _ _ ?_ ?_ (Same.refl H)⟩
  · exact Int.ediv_nonneg g7 (by decide)
  · omega
def TSm (H H':Hp):Prop:=∀ b ys,H b=some (.tup ys)→H' b=some (.tup ys)
theorem cut_one (ns:List Int) (lo hi:Option Int):∃ ys:List Int,cutV (ns.map V.int) lo hi=ys.map V.int∧ys.length≤ns.length:=by
  refine ⟨(ns.drop (HT.sIx ns.length 0 lo)).take (HT.sIx ns.length ns.length hi - HT.sIx ns.length 0 lo),?_,?_⟩
  · unfold cutV
    rw [List.map_take,List.map_drop,List.length_map]
  · rw [List.length_take,List.length_drop];omega
theorem name_ok {x:Str} (h:isName x=true):PyData.strOk x=true:=(name_asc h).flat
def TSame (H H':Hp):Prop:=∀ b ys,H b=some (.tup ys)→H' b=some (.tup ys)
theorem Same.ts {H H':Hp} (s:Same H H'):TSame H H':=fun b ys e=>s _ _ e
theorem comp_inv {J:It} {D:Addr} {τ₀:St} {H1:Hp} {Q:Hp→Prop} {B:V→St→Hp→(V→St→Hp→Prop)→(St→Hp→Prop)→Prop} (n:Nat) (hn:n≤1000000) (C:St→Prop) (R:Nat→List V→Hp→Prop) (hm:∀ i ys H H',TSame H H'→R i ys H→R i ys H') (hC:C τ₀) (h0:R 0 [] H1)
    (go:∀ i H,Same H1 H→i < n→J.go i H) (stop:∀ H,Same H1 H→J.stop n H) (hD:H1 D=none)
    (hs:∀ i x τ ys H H',C τ→Same H1 H→i < n→R i ys H→J.yld i H x H'→B x τ H' (fun v τ' H4=>C τ'∧R (i + 1) (ys ++ [v]) H4∧Same H H4) (fun τ' H4=>C τ'∧R (i + 1) ys H4∧Same H H4))
    (hd:∀ ys H,ys.length≤n→R n ys H→Same H1 H→H D=some (.lst ys)→Q H) :
    ∃ W:Nat→Nat→List V→St→Hp→Prop,(∃ m,W 0 m [] τ₀ (upd H1 D (.lst [])))∧∀ i m ys τ H,W i m ys τ H→H D=some (.lst ys) ∧
    ((J.stop i H∧Q H)∨(J.go i H∧ys.length < sizeLine∧∃ N:V→St→Hp→Prop,
      (∀ v τ' H',N v τ' H'→H' D=some (.lst ys)∧∃ m',m' < m∧W (i + 1) m' (ys ++ [v]) τ' (upd H' D (.lst (ys ++ [v]))))∧∃ Nf:St→Hp→Prop,(∀ τ' H',Nf τ' H'→∃ m',m' < m∧W (i + 1) m' ys τ' H') ∧
      ∀ x H',J.yld i H x H'→B x τ H' N Nf)):=by
  have ext:∀ {H:Hp} {o:HO},Same H1 H→Same H1 (upd H D o):=fun {H o} h b u e=>by
    rw [upd_ne (ne_of_none e hD)];exact h b u e
  refine ⟨fun i m ys τ H=>m=n - i∧i≤n∧ys.length≤i∧R i ys H∧Same H1 H∧H D=some (.lst ys)∧C τ,⟨n,by simp,Nat.zero_le _,Nat.le_refl _,hm _ _ _ _ (Same.ts (ext (Same.refl _))) h0,ext (Same.refl _),upd_same,hC⟩,?_⟩
  rintro i m ys τ H ⟨rfl,hi,hl,hR,hS,hy,hc⟩
  refine ⟨hy,?_⟩
  by_cases hlt:i < n
  · refine .inr ⟨go i H hS hlt,Nat.lt_of_le_of_lt (by omega:ys.length≤1000000) (by decide),_,?_,_,?_,fun x H' y=>hs i x τ ys H H' hc hS hlt hR y⟩
    · rintro v τ' H4 ⟨c4,r4,s4⟩
      have y4:=s4 _ _ hy
      exact ⟨y4,n - (i + 1),by omega,rfl,hlt,by simp;omega,hm _ _ _ _ (fun b zs e=>by rw [upd_ne (ne_of e y4 (by simp))];exact e) r4,ext (hS.trans s4),upd_same,c4⟩
    · rintro τ' H4 ⟨c4,r4,s4⟩
      exact ⟨n - (i + 1),by omega,rfl,hlt,by omega,r4,hS.trans s4,s4 _ _ hy,c4⟩
  · obtain rfl:i=n:=by omega
    exact .inl ⟨stop H hS,hd ys H hl hR hS hy⟩
def allP (P:Nat→Bool) (x:Str):Prop:=x.cps.toList.all P=true
theorem allP_app {P:Nat→Bool} {x y:Str} (h:allP P x) (h':allP P y):allP P (x ++ y):=by
  unfold allP at *
  rw [cps_app,List.all_append,h,h'];rfl
theorem allP_one {P:Nat→Bool} {c:Nat} (h:P c=true):allP P ⟨#[c]⟩:=by
  show [c].all P=true
  rw [List.all_cons,h];rfl
theorem allP_to {P:Nat→Bool} {x:Str} (h:allP P x) (k:Nat):allP P (Txt.slice x none (some (k:Int))):=by
  unfold allP at *
  rw [slice_to]
  rw [List.all_eq_true] at *
  exact fun c hc=>h c (List.mem_of_mem_take hc)
theorem allP_from {P:Nat→Bool} {x:Str} (h:allP P x) (k:Nat):allP P (Txt.slice x (some (k:Int)) none):=by
  unfold allP at *
  rw [slice_from]
  rw [List.all_eq_true] at *
  exact fun c hc=>h c (List.mem_of_mem_drop hc)
theorem len_to (x:Str) (k:Nat) (h:k≤x.length):(Txt.slice x none (some (k:Int))).length=k:=by
  rw [len_cps] at *
  rw [slice_to,List.length_take];omega
theorem len_from (x:Str) (k:Nat):(Txt.slice x (some (k:Int)) none).length=x.length - k:=by
  rw [len_cps,len_cps,slice_from,List.length_drop]
def inC (c:Nat):Bool:=(Str.ofString "zyxwvtsrqpnmlkjhgfdcb").cps.toList.contains c
theorem inC_L:∀ c∈(Str.ofString "zyxwvtsrqpnmlkjhgfdcb").cps.toList,inL c=true:=by decide +kernel
theorem c_in:∀ c∈(Str.ofString "zyxwvtsrqpnmlkjhgfdcb").cps.toList,inC c=true:=fun c hc=>by unfold inC;exact List.contains_iff_mem.mpr hc
theorem z_in:∀ c∈(Str.ofString "zyxwvutsrqponmlkjihgfedcba").cps.toList,inL c=true:=by decide +kernel
theorem words_six:∀ v∈jw ++ wl,(match v with | .str w=>decide (w.length≠6) && !(w.cps.toList.all inC) | _=>true)=true:=by decide +kernel
theorem no_word {x:Str} (h:x.length=6∨allP inC x):(inV (.str x) jw || inV (.str x) wl)=false:=by
  have key:∀ v∈jw ++ wl,eqV v (.str x)=false:=fun v hv=>by
    have w:=words_six v hv
    cases e:eqV v (.str x) with
    | false=>rfl
    | true =>
      cases v <;> simp only [eqV,Bool.false_eq_true] at e
      rename_i y
      have e':y=x:=by simpa using e
      subst e'
      simp only [Bool.and_eq_true,decide_eq_true_eq,Bool.not_eq_true'] at w
      rcases h with h | h
      · exact absurd h w.1
      · unfold allP at h;rw [h] at w;exact absurd w.2 (by decide)
  rw [Bool.or_eq_false_iff]
  unfold inV
  constructor
  · rw [List.any_eq_false]
    exact fun v hv=>by rw [key v (List.mem_append_left _ hv)];decide
  · rw [List.any_eq_false]
    exact fun v hv=>by rw [key v (List.mem_append_right _ hv)];decide
theorem name_of {x:Str} (h1:1≤x.length) (h2:x.length≤6) (h3:(x.length=6∧allP inL x)∨allP inC x):isName x=true:=by
  have nw:(inV (.str x) jw || inV (.str x) wl)=false:=no_word (h3.imp (·.1) id)
  have al:x.cps.toList.all inL=true:=by
    rcases h3 with h | h
    · exact h.2
    · unfold allP at h
      rw [List.all_eq_true] at *
      exact fun c hc=>inC_L c (List.contains_iff_mem.mp (h c hc))
  have ne:decide (x="")=false:=decide_eq_false fun z=>by rw [z] at h1;exact absurd h1 (by decide)
  have nl:decide (6 < x.length)=false:=decide_eq_false (by omega)
  unfold isName
  rw [nw,al,ne,nl];rfl
structure Sgn (P:Nat→Bool) (sz:Nat) (sg:Str):Prop where
  al:allP P sg
  lo:21≤sg.length
  hi:sg.length≤26
  s1:1≤sz
  s6:sz≤6
  nm:∀ x:Str,x.length=sz→allP P x→isName x=true
theorem sgn_at {P:Nat→Bool} {sz:Nat} {sg:Str} (S:Sgn P sz sg) {i:Int} (h0:0≤i) (h1:i < sg.length):∃ c,atI sg.cps.toList i=some c∧P c=true:=by
  obtain ⟨c,hc,hm⟩:=at_lt (xs:=sg.cps.toList) (i:=i) h0 (by rw [← len_cps];exact h1)
  exact ⟨c,hc,List.all_eq_true.mp S.al c hm⟩
theorem strs_of {P:Str→Prop}:∀ {ys:List V},(∀ v∈ys,∃ x,v=.str x∧P x)→∃ ls:List Str,ys=ls.map V.str∧∀ x∈ls,P x
  | [],_=>⟨[],rfl,fun _ z=>nomatch z⟩
  | v :: r,h=>by
    obtain ⟨x,rfl,px⟩:=h v List.mem_cons_self
    obtain ⟨ls,rfl,pl⟩:=strs_of (ys:=r) fun u hu=>h u (List.mem_cons_of_mem _ hu)
    exact ⟨x :: ls,rfl,fun y hy=>by
      rcases List.mem_cons.mp hy with rfl | hy
      · exact px
      · exact pl y hy⟩
def nmV (v:V):Prop:=∃ x:Str,v=.str x∧isName x=true
theorem rdp_nm8 {P:Nat→Bool} {sz:Nat} {sg stem:Str} {c m tn:Int} {o5:Option V} {at_:Nat} (S:Sgn P sz sg) (hs:stem.length=sz) (hp:allP P stem) (ha:at_ < sz) (h1:0≤m) (h2:m≤6) (q:∀ nm ws H',Same H H'→NamesAt H' nm ws→(ws.length:Int)=m→Q (.ref nm) H') :
    rd__law_names_8 K t { nx:=fun _ H'=>Q .non H',rt:=Q } [some (.int c),some (.int m),some (.int sz),some (.str sg),some (.str stem),o5,some (.int at_),some (.int tn)] H:=by
  simp only [rd__law_names_8,L2.start,gName,tRet,tOp,tVar,tC,tCons,tNil,tSl,tPart,tNoPart,tComp,tYes,capV,iRng1,rIxS,rI0,rSlS,rAddS,List.map,List.replicate,List.length,List.append,List.cons_append,List.nil_append,List.append_nil,List.getElem?_cons_zero,List.getElem?_cons_succ,Option.some.injEq,exists_eq_left',exists_eq_left,V.int.injEq,V.ref.injEq,V.str.injEq,V.bl.injEq,V.ty.injEq,List.cons.injEq,and_true,true_and,and_assoc,exists_and_left,List.set_cons_zero,List.set_cons_succ,Nat.reduceSub,Nat.reduceAdd,decide_eq_true_eq,Bool.not_eq_true',decide_eq_false_iff_not,Int.reduceToNat,Int.reducePow,Int.reduceNeg,Int.reduceMul,Int.reduceAdd,if_true,ite_true,Bool.false_eq_true,ite_false,if_false]
  have lo:=S.lo
  have hi:=S.hi
  have s6:=S.s6
  refine ⟨by omega,by omega,fun D hD=>?_⟩
  refine comp_gen (J:=Itr 0 m.toNat) m.toNat (by omega) (fun τ=>∃ o,τ=[o,some (.str stem),some (.int (at_:Int)),some (.str sg)]) (fun i v=>nmV v) ⟨_,rfl⟩ (fun i H _ h=>h) (fun H _=>Nat.le_refl _) hD ?_ ?_
  · rintro i v τ H2 H' ⟨o,rfl⟩ s hi ⟨rfl,rfl⟩
    simp only [L2.start,gName,tRet,tOp,tVar,tC,tCons,tNil,tSl,tPart,tNoPart,tComp,tYes,capV,iRng1,rIxS,rI0,rSlS,rAddS,List.map,List.replicate,List.length,List.append,List.cons_append,List.nil_append,List.append_nil,List.getElem?_cons_zero,List.getElem?_cons_succ,Option.some.injEq,exists_eq_left',exists_eq_left,V.int.injEq,V.ref.injEq,V.str.injEq,V.bl.injEq,V.ty.injEq,List.cons.injEq,and_true,true_and,and_assoc,exists_and_left,List.set_cons_zero,List.set_cons_succ,Nat.reduceSub,Nat.reduceAdd,decide_eq_true_eq,Bool.not_eq_true',decide_eq_false_iff_not,Int.reduceToNat,Int.reducePow,Int.reduceNeg,Int.reduceMul,Int.reduceAdd,if_true,ite_true,Bool.false_eq_true,ite_false,if_false]
    obtain ⟨d,hd,hP⟩:=sgn_at S (i:=0 + (i:Int)) (by omega) (by omega)
    have l1:=len_to stem at_ (by omega)
    have l2:=len_from stem (at_ + 1)
    have p1:=allP_to hp at_
    have p2:=allP_from hp (at_ + 1)
    rw [show ((at_ + 1:Nat):Int)=(at_:Int) + 1 by omega] at l2 p2
    exact ⟨small_size (by omega),small_size (by omega),d,hd,small_size (by rw [one_len];omega),small_size (by omega),small_size (by rw [len_app,one_len];omega),⟨_,rfl⟩,⟨_,rfl,S.nm _ (by rw [len_app,len_app,one_len];omega) (allP_app (allP_app p1 (allP_one hP)) p2)⟩,Same.refl _⟩
  · intro ys H' hly hv s hq
    obtain ⟨ls,rfl,hp⟩:=strs_of (P:=fun x=>isName x=true) (ys:=ys) fun v hv2=>by
      obtain ⟨i,hi⟩:=List.getElem?_of_mem hv2
      exact hv i v hi
    rw [List.length_map] at hly
    exact q D ls H' s ⟨hq,hp⟩ (by omega)
theorem rdp_nm5 {P:Nat→Bool} {sz:Nat} {sg stem:Str} {c m:Int} {o5:Option V} (S:Sgn P sz sg) (hs:stem.length=sz) (hp:allP P stem) (h1:0≤m) (h2:m≤6) (q:∀ nm ws H',Same H H'→NamesAt H' nm ws→(ws.length:Int)=m→Q (.ref nm) H') :
    rd__law_names_5 K t { nx:=fun _ H'=>Q .non H',rt:=Q } [some (.int c),some (.int m),some (.int sz),some (.str sg),some (.str stem),o5,none,none] H:=by
  simp only [rd__law_names_5,sp__law_draw,L2.start,tSeq,tAsg,gName,tRet,tOp,tVar,tC,tCons,tNil,tCB,tSl,tPart,tNoPart,tCall,tComp,tYes,capV,LenV,iRng1,rIxS,rI,rI0,rSlS,rAddS,cLen,List.map,List.replicate,List.length,List.append,List.cons_append,List.nil_append,List.append_nil,List.getElem?_cons_zero,List.getElem?_cons_succ,Option.some.injEq,exists_eq_left',exists_eq_left,V.int.injEq,V.ref.injEq,V.str.injEq,V.bl.injEq,V.ty.injEq,List.cons.injEq,and_true,true_and,and_assoc,exists_and_left,List.set_cons_zero,List.set_cons_succ,Nat.reduceSub,Nat.reduceAdd,decide_eq_true_eq,Bool.not_eq_true',decide_eq_false_iff_not,Int.reduceToNat,Int.reducePow,Int.reduceNeg,Int.reduceMul,Int.reduceAdd,if_true,ite_true,Bool.false_eq_true,ite_false,if_false]
  have lo:=S.lo
  have hi:=S.hi
  have s1:=S.s1
  have s6:=S.s6
  refine ⟨by decide,by decide,fun r1 H1 a1 b1 s1'=>⟨by omega,by decide,by decide,fun r2 H2 a2 b2 s2'=>⟨small_size (by omega),by omega,?_⟩⟩⟩
  obtain ⟨k,ek⟩:∃ k:Nat,r1 % (sz:Int)=k:=⟨_,(Int.toNat_of_nonneg (Int.emod_nonneg _ (by omega))).symm⟩
  have hk:(k:Int) < sz:=by rw [← ek];exact Int.emod_lt_of_pos _ (by omega)
  obtain ⟨u,eu⟩:∃ u:Nat,r2 % (sg.length:Int)=u:=⟨_,(Int.toNat_of_nonneg (Int.emod_nonneg _ (by omega))).symm⟩
  have hu:(u:Int) < sg.length:=by rw [← eu];exact Int.emod_lt_of_pos _ (by omega)
  rw [ek,eu]
  have l1:=len_to sg u (by omega)
  have l2:=len_from sg u
  refine ⟨small_size (by omega),small_size (by omega),small_size (by omega),?_⟩
  have S':Sgn P sz (Txt.slice sg (some (u:Int)) none ++ Txt.slice sg none (some (u:Int))):=⟨allP_app (allP_from S.al u) (allP_to S.al u),by rw [len_app];omega,by rw [len_app];omega,S.s1,S.s6,S.nm⟩
  exact rdp_nm8 S' hs hp (by omega) h1 h2 fun nm ws H' s hn hl=>q nm ws H' (s1'.trans (s2'.trans s)) hn hl
def nmI (P:Nat→Bool) (c m:Int) (sz:Nat) (sg:Str) (H:Hp) (i:Nat) (σ:St) (H':Hp):Prop:=(∃ (x:Str) (o:Option V),σ=[some (.int c),some (.int m),some (.int sz),some (.str sg),some (.str x),o,none,none]∧x.length=i∧allP P x)∧Same H H'
theorem rdp_nm3 {P:Nat→Bool} {sz:Nat} {sg:Str} {c m:Int} (S:Sgn P sz sg) (h1:0≤m) (h2:m≤6) (q:∀ nm ws H',Same H H'→NamesAt H' nm ws→(ws.length:Int)=m→Q (.ref nm) H') :
    rd__law_names_3 K t { nx:=fun _ H'=>Q .non H',rt:=Q } [some (.int c),some (.int m),some (.int sz),some (.str sg),none,none,none,none] H:=by
  simp only [rd__law_names_3,sp__law_draw,L2.start,tSeq,tAsg,gName,tRet,tOp,tVar,tC,tCons,tNil,tFor,tCB,tSl,tPart,tNoPart,tCall,tComp,tYes,capV,LenV,iRng1,rIxS,rI,rI0,rSlS,rAddS,cLen,List.map,List.replicate,List.length,List.append,List.cons_append,List.nil_append,List.append_nil,List.getElem?_cons_zero,List.getElem?_cons_succ,Option.some.injEq,exists_eq_left',exists_eq_left,V.int.injEq,V.ref.injEq,V.str.injEq,V.bl.injEq,V.ty.injEq,List.cons.injEq,and_true,true_and,and_assoc,exists_and_left,List.set_cons_zero,List.set_cons_succ,Nat.reduceSub,Nat.reduceAdd,decide_eq_true_eq,Bool.not_eq_true',decide_eq_false_iff_not,Int.reduceToNat,Int.reducePow,Int.reduceNeg,Int.reduceMul,Int.reduceAdd,if_true,ite_true,Bool.false_eq_true,ite_false,if_false]
  have lo:=S.lo
  have hi:=S.hi
  have s1:=S.s1
  have s6:=S.s6
  refine ⟨by omega,by omega,loop_range (nmI P c m sz sg H) ⟨⟨_,none,rfl,by decide +kernel,by show [].all P=true;rfl⟩,Same.refl H⟩ ?_ ?_⟩
  · rintro i σ H' hi ⟨⟨x,o,rfl,hx,hp⟩,s⟩
    simp only [L2.start,tSeq,tAsg,gName,tRet,tOp,tVar,tC,tCons,tNil,tFor,tCB,tSl,tPart,tNoPart,tCall,tComp,tYes,capV,LenV,iRng1,rIxS,rI,rI0,rSlS,rAddS,cLen,List.map,List.replicate,List.length,List.append,List.cons_append,List.nil_append,List.append_nil,List.getElem?_cons_zero,List.getElem?_cons_succ,Option.some.injEq,exists_eq_left',exists_eq_left,V.int.injEq,V.ref.injEq,V.str.injEq,V.bl.injEq,V.ty.injEq,List.cons.injEq,and_true,true_and,and_assoc,exists_and_left,List.set_cons_zero,List.set_cons_succ,Nat.reduceSub,Nat.reduceAdd,decide_eq_true_eq,Bool.not_eq_true',decide_eq_false_iff_not,Int.reduceToNat,Int.reducePow,Int.reduceNeg,Int.reduceMul,Int.reduceAdd,if_true,ite_true,Bool.false_eq_true,ite_false,if_false]
    refine ⟨by omega,by omega,fun r1 H1 a1 b1 s1'=>⟨small_size (by omega),by omega,?_⟩⟩
    obtain ⟨d,hd,hP⟩:=sgn_at S (i:=r1 % (sg.length:Int)) (Int.emod_nonneg _ (by omega)) (Int.emod_lt_of_pos _ (by omega))
    exact ⟨small_size (by omega),d,hd,small_size (by rw [one_len];omega),⟨_,_,rfl,by rw [len_app,one_len];omega,allP_app hp (allP_one hP)⟩,s.trans s1'⟩
  · rintro σ H' ⟨⟨x,o,rfl,hx,hp⟩,s⟩
    exact rdp_nm5 S (by omega) hp h1 h2 fun nm ws H2 s2 hn hl=>q nm ws H2 (s.trans s2) hn hl
theorem rdp__law_names {c m:Int} (h1:0≤m) (h2:m≤6) (q:∀ nm ws H',Same H H'→NamesAt H' nm ws→(ws.length:Int)=m→Q (.ref nm) H') :
    rd__law_names K t { nx:=fun _ H'=>Q .non H',rt:=Q } (L2.start ["cell","many","size","signs","stem","k","at","turn"] [.int c,.int m]) H:=by
  simp only [rd__law_names,sp__law_draw,L2.start,tSeq,tAsg,gName,tRet,tNext,tOp,tVar,tC,tCons,tNil,tFor,tIfS,tTest,tCB,tSl,tPart,tNoPart,tCall,tComp,tYes,capV,LenV,iRng1,rIxS,rEq,rI,rI0,rSlS,rAddS,cLen,scal,List.map,List.replicate,List.length,List.append,List.cons_append,List.nil_append,List.append_nil,List.getElem?_cons_zero,List.getElem?_cons_succ,Option.some.injEq,exists_eq_left',exists_eq_left,V.int.injEq,V.ref.injEq,V.str.injEq,V.bl.injEq,V.ty.injEq,List.cons.injEq,and_true,true_and,and_assoc,exists_and_left,List.set_cons_zero,List.set_cons_succ,Nat.reduceSub,Nat.reduceAdd,decide_eq_true_eq,Bool.not_eq_true',decide_eq_false_iff_not,Int.reduceToNat,Int.reducePow,Int.reduceNeg,Int.reduceMul,Int.reduceAdd,if_true,ite_true,Bool.false_eq_true,ite_false,if_false]
  refine ⟨by decide,by decide,fun r1 H1 a1 b1 s1'=>⟨by decide,?_⟩⟩
  obtain ⟨k,ek⟩:∃ k:Nat,1 + r1 % 6=k:=⟨(1 + r1 % 6).toNat,by omega⟩
  rw [ek]
  have lc:(Str.ofString "zyxwvtsrqpnmlkjhgfdcb").length=21:=by decide +kernel
  have lz:(Str.ofString "zyxwvutsrqponmlkjihgfedcba").length=26:=by decide +kernel
  refine ite2 (fun e=>?_) fun e=>?_
  · have e5:(k:Int)=6:=by simpa using e
    have e6:k=6:=by omega
    exact rdp_nm3 (P:=inL) (sg:="zyxwvutsrqponmlkjihgfedcba") ⟨List.all_eq_true.mpr z_in,by rw [lz];omega,by rw [lz];omega,by omega,by omega,fun x hx hp=>name_of (by omega) (by omega) (.inl ⟨by omega,hp⟩)⟩ h1 h2 fun nm ws H2 s2 hn hl=>q nm ws H2 (s1'.trans s2) hn hl
  · exact rdp_nm3 (P:=inC) (sg:="zyxwvtsrqpnmlkjhgfdcb") ⟨List.all_eq_true.mpr c_in,by rw [lc];omega,by rw [lc];omega,by omega,by omega,fun x hx hp=>name_of (by omega) (by omega) (.inr hp)⟩ h1 h2 fun nm ws H2 s2 hn hl=>q nm ws H2 (s1'.trans s2) hn hl
theorem prs_same {H H':Hp} (s:Same H H'):∀ {ys:List V} {rows:List Row},Paired (PrAt H) ys rows→Paired (PrAt H') ys rows
  | _,_,.nil=>.nil
  | _,_,.cons ⟨r,p,e1,e2,e3⟩ t=>.cons ⟨r,p,e1,s _ _ e2,s _ _ e3⟩ (prs_same s t)
section
variable {l:Addr}
theorem ls_kp {H':Hp} {rows:List Row} (h:LsAt H l rows) (k:∀ o,H l=some o→H' l=some o) (ts:TSm H H'):LsAt H' l rows:=by
  obtain ⟨xs,h1,h2⟩:=h
  exact ⟨xs,k _ h1,Paired.mapP h2 fun _ _ ⟨r,p,e1,e2,e3⟩=>⟨r,p,e1,ts _ _ e2,ts _ _ e3⟩⟩
theorem ls_same {H':Hp} {rows:List Row} (h:LsAt H l rows) (s:Same H H'):LsAt H' l rows:=ls_kp h (fun o e=>s _ _ e) fun b ys e=>s _ _ e
end
def plD (p:Pl):PyData:=.tuple [.str p.1,.int p.2]
def rwD' (r:Row):PyData:=.tuple [plD r.1,.int r.2]
theorem pl_dat {q:Addr} {p:Pl} (h:H q=some (.tup [.str p.1,.int p.2])):Dat K H (.ref q) (plD p):=.tup (SqT.of h) (.cons (.str _) (.cons (.int _) .nil))
theorem pl_plain {p:Pl} (h:PyData.strOk p.1=true):plainD (plD p)=true:=by simp [plD,plainD,plainDs,h]
theorem pl_depth (p:Pl):(plD p).depth≤2:=by simp [plD,PyData.depth,PyData.depthAll]
theorem prs_dat:∀ {ys:List V} {rows:List Row},Paired (PrAt H) ys rows→DatAll K H ys (rows.map rwD')
  | _,_,.nil=>.nil
  | _,_,.cons ⟨r,p,e1,e2,e3⟩ t=>by
    rw [List.map_cons,e1]
    exact .cons (.tup (SqT.of e2) (.cons (pl_dat e3) (.cons (.int _) .nil))) (prs_dat t)
theorem ls_dat {l:Addr} {rows:List Row} (h:LsAt H l rows):Dat K H (.ref l) (.list (rows.map rwD')):=by
  obtain ⟨xs,h1,h2⟩:=h
  exact .lst (SqL.of h1) (prs_dat h2)
theorem rw_plainD:∀ {rows:List Row},(∀ r∈rows,PyData.strOk r.1.1=true)→plainDs (rows.map rwD')=true
  | [],_=>rfl
  | r :: t,h=>by
    rw [List.map_cons,plainDs,rw_plainD (fun x hx=>h x (List.mem_cons_of_mem _ hx))]
    have:=pl_plain (h r List.mem_cons_self)
    simp [rwD',plainD,plainDs,this]
theorem rw_deepD:∀ (rows:List Row),PyData.depthAll (rows.map rwD')≤3
  | []=>by simp [PyData.depthAll]
  | r :: t=>by
    have h:=rw_deepD t
    have h2:=pl_depth r.1
    rw [List.map_cons,PyData.depthAll]
    simp only [rwD',PyData.depth,PyData.depthAll] at h2 ⊢
    omega
theorem ls_plain {rows:List Row} (h:∀ r∈rows,PyData.strOk r.1.1=true):plainD (.list (rows.map rwD'))=true:=by rw [plainD];exact rw_plainD h
theorem ls_deep (rows:List Row):(PyData.list (rows.map rwD')).depth≤4:=by
  have:=rw_deepD rows
  rw [PyData.depth];omega
theorem sok_done:PyData.strOk (Str.ofString "done")=true:=by decide +kernel
def ocD:Oc→PyData
  | .done sa=>.tuple [.str (Str.ofString "done"),.tuple (sa.map PyData.int)]
  | .off w=>.tuple [.str (Str.ofString "off"),.str w]
theorem oc_same {H':Hp} {v:V} {oc:Oc} (h:OcAt H v oc) (s:Same H H'):OcAt H' v oc:=by
  cases oc with
  | done sa=>obtain ⟨o,y,e1,e2,e3⟩:=h;exact ⟨o,y,e1,s _ _ e2,s _ _ e3⟩
  | off w=>obtain ⟨o,e1,e2⟩:=h;exact ⟨o,e1,s _ _ e2⟩
theorem oc_ts {H':Hp} {v:V} {oc:Oc} (h:OcAt H v oc) (s:TSm H H'):OcAt H' v oc:=by
  cases oc with
  | done sa=>obtain ⟨o,y,e1,e2,e3⟩:=h;exact ⟨o,y,e1,s _ _ e2,s _ _ e3⟩
  | off w=>obtain ⟨o,e1,e2⟩:=h;exact ⟨o,e1,s _ _ e2⟩
theorem oc_dat {v:V} {oc:Oc} (h:OcAt H v oc):Dat K H v (ocD oc):=by
  cases oc with
  | done sa =>
    obtain ⟨o,y,rfl,e2,e3⟩:=h
    exact .tup (SqT.of e2) (.cons (.str _) (.cons (.tup (SqT.of e3) (DatAll.of fun i _=>.int i)) .nil))
  | off w =>
    obtain ⟨o,rfl,e2⟩:=h
    exact .tup (SqT.of e2) (.cons (.str _) (.cons (.str _) .nil))
theorem ints_plain:∀ (sa:List Int),plainDs (sa.map PyData.int)=true
  | []=>rfl
  | i :: t=>by rw [List.map_cons,plainDs,ints_plain t];rfl
theorem ints_deep:∀ (sa:List Int),PyData.depthAll (sa.map PyData.int)=0
  | []=>by simp [PyData.depthAll]
  | i :: t=>by rw [List.map_cons,PyData.depthAll,ints_deep t,PyData.depth];rfl
theorem oc_plain {oc:Oc} (h:∀ w,oc=.off w→PyData.strOk w=true):plainD (ocD oc)=true:=by
  cases oc with
  | done sa=>have:=sok_done;simp [ocD,plainD,plainDs,ints_plain,this]
  | off w=>have:=h w rfl;have k:=sok_off;simp [ocD,plainD,plainDs,this,k]
theorem oc_deep (oc:Oc):(ocD oc).depth≤3:=by
  cases oc with
  | done sa=>simp only [ocD,PyData.depth,PyData.depthAll,ints_deep];omega
  | off w=>simp only [ocD,PyData.depth,PyData.depthAll];omega
section
variable {H':Hp}
theorem PpV.same {v:V} {p:Pp} (h:PpV H v p) (s:Same H H'):PpV H' v p:=by
  obtain ⟨r,o,nl,gl,e,h1,h2,h3,h4⟩:=h
  exact ⟨r,o,nl,gl,e,s _ _ h1,oc_same h2 s,ls_same h3 s,ls_same h4 s⟩
end
theorem pIn_iff {p:Pl} {l:List Row}:pIn p l=true↔∃ r∈l,r.1=p:=by
  unfold pIn
  rw [List.any_eq_true]
  exact ⟨fun ⟨r,h1,h2⟩=>⟨r,h1,of_decide_eq_true h2⟩,fun ⟨r,h1,h2⟩=>⟨r,h1,decide_eq_true h2⟩⟩
theorem pIn_last {p:Pl} {l:List Row}:(lastW l p).isSome=pIn p l:=by
  cases h:lastW l p with
  | none =>
    cases e:pIn p l with
    | false=>rfl
    | true =>
      obtain ⟨r,hr,rfl⟩:=pIn_iff.mp e
      have:∀ l:List Row,r∈l→lastW l r.1≠none:=by
        intro l
        induction l with
        | nil=>exact fun h=>nomatch h
        | cons x t ih =>
          intro hm hn
          unfold lastW at hn
          cases e:lastW t r.1 with
          | some w=>rw [e] at hn;cases hn
          | none =>
            rw [e] at hn
            rcases List.mem_cons.mp hm with z | hm
            · rw [z] at hn;rw [if_pos rfl] at hn;cases hn
            · exact ih hm e
      exact absurd h (this l hr)
  | some w=>exact (pIn_iff.mpr ⟨(p,w),last_mem h,rfl⟩).symm
section
variable {v u:V} {a b:Pp}
theorem paired_app {α β:Type} {R:α→β→Prop}:∀ {xs:List α} {ys:List β} {us:List α} {vs:List β},Paired R xs ys→Paired R us vs→Paired R (xs ++ us) (ys ++ vs)
  | _,_,_,_,.nil,h=>h
  | _,_,_,_,.cons a t,h=>.cons a (paired_app t h)
def gvR (gi:List Row) (all:List Row) (i:Nat) (ys:List V) (_:Hp):Prop:=ys=((gi.take i).map fun r=>V.bl (pIn r.1 all))
theorem rdp_gives_into (h1:PpV H v a) (h2:PpV H u b) (oa:ppOk a) (ob:ppOk b) (q:∀ H',Same H H'→Q (.bl (givB a b)) H') :
    rd_gives_into K t { nx:=fun _ H'=>Q .non H',rt:=Q } (L2.start ["one","other","known"] [v,u]) H:=by
  obtain ⟨r1,o1,n1,g1,rfl,e1,_,f1,f2⟩:=h1
  obtain ⟨r2,o2,n2,g2,rfl,e2,_,f3,f4⟩:=h2
  obtain ⟨xs,hx,px⟩:=f2
  obtain ⟨ys,hy,py⟩:=f3
  obtain ⟨zs,hz,pz⟩:=f4
  have lx:=Paired.length px
  have ly:=Paired.length py
  have lz:=Paired.length pz
  have la:=oa.lg
  have lb:=ob.lg
  have lc:=ob.ln
  simp only [rd_gives_into,rInD,cDctP,rCat,cAny,L2.start,rIxT,tSeq,tAsg,gName,gTup,gCons,gNil,tRet,tOp,tVar,tC,tCons,tNil,tCB,tComp,tYes,capV,iList,rCat,rIxT,List.map,List.replicate,List.length,List.append,List.cons_append,List.nil_append,List.append_nil,List.getElem?_cons_zero,List.getElem?_cons_succ,Option.some.injEq,exists_eq_left',exists_eq_left,V.int.injEq,V.ref.injEq,V.str.injEq,V.bl.injEq,V.ty.injEq,List.cons.injEq,and_true,true_and,and_assoc,exists_and_left,List.set_cons_zero,List.set_cons_succ,Nat.reduceSub,Nat.reduceAdd,decide_eq_true_eq,Bool.not_eq_true',decide_eq_false_iff_not,Int.reduceToNat,Int.reducePow,Int.reduceNeg,Int.reduceMul,Int.reduceAdd,if_true,ite_true,Bool.false_eq_true,ite_false,if_false]
  refine ⟨_,SqT.of e2,_,rfl,_,SqT.of e2,_,rfl,n2,rfl,g2,rfl,ys,hy,zs,hz,small_size (by omega),fun l hl=>?_⟩
  have s1:=isV (o:=HO.lst (ys ++ zs)) l hl
  have pr:Paired (PrAt (upd H l (HO.lst (ys ++ zs)))) (ys ++ zs) (b.no ++ b.gi):=paired_app (prs_same s1 py) (prs_same s1 pz)
  refine ⟨_,upd_same,b.no ++ b.gi,pr,by rw [List.length_append];omega,fun d hd=>?_⟩
  generalize upd H l (HO.lst (ys ++ zs))=H1 at *
  have s2:=isV (o:=HO.dT (dOf (b.no ++ b.gi))) d hd
  have S2:=s1.trans s2
  have e1':=S2 _ _ e1
  have hx':=S2 _ _ hx
  have hd':upd H1 d (HO.dT (dOf (b.no ++ b.gi))) d=some (.dT (dOf (b.no ++ b.gi))):=upd_same
  have px':=prs_same S2 px
  generalize upd H1 d (HO.dT (dOf (b.no ++ b.gi)))=H2 at *
  refine ⟨_,SqT.of e1',_,rfl,g1,rfl,⟨_,SqL.of hx'⟩,fun D hD=>?_⟩
  refine comp_inv (J:=Itl K g1) xs.length (by omega) (fun τ=>∃ o0 o1,τ=[o0,o1,some (.ref d)]) (gvR a.gi (b.no ++ b.gi)) (fun i ys H H' s h=>h) ⟨_,_,rfl⟩ rfl (fun i H s h=>⟨_,_,SqL.of (s _ _ hx'),List.getElem?_eq_getElem h⟩) (fun H s=>⟨_,SqL.of (s _ _ hx'),Nat.le_refl _⟩) hD ?_ ?_
  · rintro i v τ us H4 H5 ⟨o0,o1,rfl⟩ s4 hi hR ⟨rfl,hv⟩
    have hv:=hv _ (SqL.of (s4 _ _ hx'))
    obtain ⟨row,hrow,r,p0,rfl,q2,q3⟩:=Paired.getP px' hv
    simp only [rInD,cDctP,rCat,cAny,L2.start,rIxT,tSeq,tAsg,gName,gTup,gCons,gNil,tRet,tOp,tVar,tC,tCons,tNil,tCB,tComp,tYes,capV,iList,rCat,rIxT,List.map,List.replicate,List.length,List.append,List.cons_append,List.nil_append,List.append_nil,List.getElem?_cons_zero,List.getElem?_cons_succ,Option.some.injEq,exists_eq_left',exists_eq_left,V.int.injEq,V.ref.injEq,V.str.injEq,V.bl.injEq,V.ty.injEq,List.cons.injEq,and_true,true_and,and_assoc,exists_and_left,List.set_cons_zero,List.set_cons_succ,Nat.reduceSub,Nat.reduceAdd,decide_eq_true_eq,Bool.not_eq_true',decide_eq_false_iff_not,Int.reduceToNat,Int.reducePow,Int.reduceNeg,Int.reduceMul,Int.reduceAdd,if_true,ite_true,Bool.false_eq_true,ite_false,if_false]
    refine ⟨_,SqT.of (s4 _ _ q2),rfl,_,_,rfl,_,_,rfl,rfl,_,DGet.t (k:=plKey row.1) (s4 _ _ hd') (s4 _ _ q3),⟨_,rfl⟩,?_,Same.refl _⟩
    unfold gvR at hR ⊢
    rw [List.take_add_one,hrow,List.map_append,hR]
    have e:(valV (dOf (b.no ++ b.gi)) (plKey row.1)).isSome=pIn row.1 (b.no ++ b.gi):=by
      rw [← pIn_last,val_dOf]
      cases lastW (b.no ++ b.gi) row.1 <;> rfl
    rw [e]
    rfl
  · rintro us H4 hl hR s4 hDl
    unfold gvR at hR
    rw [lx,List.take_length] at hR
    have e:us=(a.gi.map fun r=>pIn r.1 (b.no ++ b.gi)).map V.bl:=by rw [hR,List.map_map];rfl
    rw [e] at hDl
    refine ⟨_,SqL.of hDl,?_⟩
    have:=q H4 (S2.trans s4)
    unfold givB at this
    rw [List.any_map]
    exact this
theorem rdp_meet (h1:PpV H v a) (h2:PpV H u b) (oa:ppOk a) (ob:ppOk b) (q:∀ H',Same H H'→Q (.bl (metB a b)) H') :
    rd_meet K t { nx:=fun _ H'=>Q .non H',rt:=Q } (L2.start ["one","other"] [v,u]) H:=by
  simp only [rd_meet,sp_gives_into,L2.start,tRet,tVar,tCons,tNil,tOrV,tCall,List.map,List.replicate,List.length,List.append,List.cons_append,List.nil_append,List.append_nil,List.getElem?_cons_zero,List.getElem?_cons_succ,Option.some.injEq,exists_eq_left',exists_eq_left,V.int.injEq,V.ref.injEq,V.str.injEq,V.bl.injEq,V.ty.injEq,List.cons.injEq,and_true,true_and,and_assoc,exists_and_left,List.set_cons_zero,List.set_cons_succ,Nat.reduceSub,Nat.reduceAdd,decide_eq_true_eq,Bool.not_eq_true',decide_eq_false_iff_not,Int.reduceToNat,Int.reducePow,Int.reduceNeg,Int.reduceMul,Int.reduceAdd,if_true,ite_true,Bool.false_eq_true,ite_false,if_false]
  refine ⟨a,h1,b,h2,oa,ob,fun H1 s1=>?_⟩
  have e:metB a b=(givB a b || givB b a):=rfl
  cases g:givB a b with
  | true =>
    rw [if_pos rfl]
    rw [g,Bool.true_or] at e
    have:=q H1 s1
    rw [e] at this
    exact this
  | false =>
    rw [if_neg (by decide)]
    rw [g,Bool.false_or] at e
    refine ⟨b,h2.same s1,a,h1.same s1,ob,oa,fun H2 s2=>?_⟩
    have:=q H2 (s1.trans s2)
    rw [e] at this
    exact this
end
theorem allP_rev {P:Nat→Bool} {x:Str} (h:allP P x) (u:Tok):allP P (Txt.sliceBy x none none (-1,u)):=by
  unfold allP at *
  rw [PyProof.Rows.step_rev_list]
  rw [List.all_eq_true] at *
  intro c hc
  obtain ⟨k,hk,rfl⟩:=List.mem_map.mp hc
  have hk:=List.mem_range.mp hk
  refine h _ ?_
  have hlt:x.length - 1 - k < x.cps.size:=by show _ < x.length;omega
  rw [Array.getD_eq_getD_getElem?,Array.getElem?_eq_getElem hlt]
  exact Array.getElem_mem_toList ..
theorem rev_any (x:Str) (u:Tok):Txt.sliceBy x none none (-1,u)=Txt.sliceBy x none none (-1,0):=by
  have h:=(PyProof.Rows.step_rev_list x u).trans (PyProof.Rows.step_rev_list x 0).symm
  generalize Txt.sliceBy x none none (-1,u)=y at *
  generalize Txt.sliceBy x none none (-1,0)=z at *
  obtain ⟨y⟩:=y
  obtain ⟨z⟩:=z
  exact congrArg Str.mk (Array.toList_inj.mp h)
def c21:Str:="zyxwvtsrqpnmlkjhgfdcb"
theorem c21_at (e:Int):∃ c,atI c21.cps.toList (e % 21)=some c∧inC c=true:=by
  have g1:=Int.emod_nonneg e (b:=21) (by decide)
  have g2:=Int.emod_lt_of_pos e (b:=21) (by decide)
  obtain ⟨v,h1,h2⟩:=at_lt (xs:=c21.cps.toList) (i:=e % 21) g1 (by rw [show c21.cps.toList.length=21 from by decide +kernel];exact g2)
  exact ⟨v,h1,c_in v h2⟩
theorem rdp__law_worth {c j:Int} (h1:0≤j) (h2:j≤900) (q:∀ w H',Same H H'→Q (.int w) H') :
    rd__law_worth K t { nx:=fun _ H'=>Q .non H',rt:=Q } (L2.start ["cell","j"] [.int c,.int j]) H:=by
  simp only [rd__law_worth,L2.start,tRet,tOp,tVar,tC,rI,rI0,List.map,List.replicate,List.length,List.append,List.cons_append,List.nil_append,List.append_nil,List.getElem?_cons_zero,List.getElem?_cons_succ,Option.some.injEq,exists_eq_left',exists_eq_left,V.int.injEq,V.ref.injEq,V.str.injEq,V.bl.injEq,V.ty.injEq,List.cons.injEq,and_true,true_and,and_assoc,exists_and_left,List.set_cons_zero,List.set_cons_succ,Nat.reduceSub,Nat.reduceAdd,decide_eq_true_eq,Bool.not_eq_true',decide_eq_false_iff_not,Int.reduceToNat,Int.reducePow,Int.reduceNeg,Int.reduceMul,Int.reduceAdd,if_true,ite_true,Bool.false_eq_true,ite_false,if_false]
  have P30:=pow10 (j:=30) (by decide) (by decide)
  have P40:=pow10 (j:=40) (by decide) (by decide)
  have hb:(1000000000000000000000000000000000000000000000000000000000000:Int) < big:=by decide +kernel
  have g1:=Int.emod_nonneg c (b:=10000000000000000000000000000000000000000) (by decide)
  have g2:=Int.emod_lt_of_pos c (b:=10000000000000000000000000000000000000000) (by decide)
  generalize c % 10000000000000000000000000000000000000000=d at *
  have m1:0≤d * (j + 2):=Int.mul_nonneg g1 (by omega)
  have m2:d * (j + 2)≤10000000000000000000000000000000000000000 * 1000:=Int.mul_le_mul (by omega) (by omega) (by omega) (by decide)
  generalize d * (j + 2)=f at *
  exact ⟨P40,by decide,⟨⟨by omega,by omega⟩,by omega,by omega⟩,⟨⟨by omega,by omega⟩,by omega,by omega⟩,P30,⟨⟨by omega,by omega⟩,by omega,by omega⟩,by decide,P30,q _ _ (Same.refl _)⟩
theorem rdp_shel4 {c:Int} {x y:Str} (lx:x.length=2) (ly:y.length=1) (px:allP inC x) (py:allP inC y) (q:∀ nm ws H',Same H H'→NamesAt H' nm ws→ws.length=3→Q (.ref nm) H') :
    rd__law_shelves_4 K t { nx:=fun _ H'=>Q .non H',rt:=Q } [some (.int c),some (.int 3),some (.str "zyxwvtsrqpnmlkjhgfdcb"),some (.str x),some (.str y),none,none] H:=by
  simp only [rd__law_shelves_4,rd__law_shelves_6,sp__law_draw,tSRev,L2.start,tSeq,tAsg,gName,tRet,tOp,tUn,tVar,tC,tLst,tCons,tNil,tCall,tComp,tYes,capV,iRng1,rIxL,rI,rI0,rU,rAddS,List.map,List.replicate,List.length,List.append,List.cons_append,List.nil_append,List.append_nil,List.getElem?_cons_zero,List.getElem?_cons_succ,Option.some.injEq,exists_eq_left',exists_eq_left,V.int.injEq,V.ref.injEq,V.str.injEq,V.bl.injEq,V.ty.injEq,List.cons.injEq,and_true,true_and,and_assoc,exists_and_left,List.set_cons_zero,List.set_cons_succ,Nat.reduceSub,Nat.reduceAdd,decide_eq_true_eq,Bool.not_eq_true',decide_eq_false_iff_not,Int.reduceToNat,Int.reducePow,Int.reduceNeg,Int.reduceMul,Int.reduceAdd,if_true,ite_true,Bool.false_eq_true,ite_false,if_false]
  have lr:(Txt.sliceBy x none none (-1,0)).length=x.length:=PyProof.Rows.step_rev_len x 0
  have pr:=allP_rev px 0
  refine ⟨small_size (by omega),small_size (by omega),_,rev_any x,small_size (by omega),by decide,fun p hp=>⟨by decide,by decide,fun r H1 r0 r1 s1=>⟨by decide,by decide,by decide,fun D hD=>?_⟩⟩⟩
  have hp1:=s1 _ _ (upd_same (H:=H) (a:=p) (o:=HO.lst [V.str x,V.str (y ++ x),V.str (Txt.sliceBy x none none (-1,0)),V.str (x ++ y)]))
  have S1:Same H H1:=(isV p hp).trans s1
  have nmz:∀ v∈[V.str x,V.str (y ++ x),V.str (Txt.sliceBy x none none (-1,0)),V.str (x ++ y)],nmV v:=fun v hv=>by
    simp only [List.mem_cons,List.not_mem_nil,or_false] at hv
    rcases hv with rfl | rfl | rfl | rfl
    · exact ⟨_,rfl,name_of (by omega) (by omega) (.inr px)⟩
    · exact ⟨_,rfl,name_of (by rw [len_app];omega) (by rw [len_app];omega) (.inr (allP_app py px))⟩
    · exact ⟨_,rfl,name_of (by omega) (by omega) (.inr pr)⟩
    · exact ⟨_,rfl,name_of (by rw [len_app];omega) (by rw [len_app];omega) (.inr (allP_app px py))⟩
  generalize hM:[V.str x,V.str (y ++ x),V.str (Txt.sliceBy x none none (-1,0)),V.str (x ++ y)]=M at *
  have lM:M.length=4:=by rw [← hM];rfl
  refine comp_gen (J:=Itr 0 3) 3 (by decide) (fun τ=>∃ o,τ=[o,some (.ref p),some (.int (r % 4))]) (fun i v=>nmV v) ⟨_,rfl⟩ (fun i H _ h=>h) (fun H _=>Nat.le_refl _) hD ?_ ?_
  · rintro i v τ H2 H' ⟨o,rfl⟩ s hi ⟨rfl,rfl⟩
    simp only [tSRev,L2.start,tSeq,tAsg,gName,tRet,tOp,tUn,tVar,tC,tLst,tCons,tNil,tCall,tComp,tYes,capV,iRng1,rIxL,rI,rI0,rU,rAddS,List.map,List.replicate,List.length,List.append,List.cons_append,List.nil_append,List.append_nil,List.getElem?_cons_zero,List.getElem?_cons_succ,Option.some.injEq,exists_eq_left',exists_eq_left,V.int.injEq,V.ref.injEq,V.str.injEq,V.bl.injEq,V.ty.injEq,List.cons.injEq,and_true,true_and,and_assoc,exists_and_left,List.set_cons_zero,List.set_cons_succ,Nat.reduceSub,Nat.reduceAdd,decide_eq_true_eq,Bool.not_eq_true',decide_eq_false_iff_not,Int.reduceToNat,Int.reducePow,Int.reduceNeg,Int.reduceMul,Int.reduceAdd,if_true,ite_true,Bool.false_eq_true,ite_false,if_false]
    obtain ⟨v,hv,hm⟩:=at_mod (r % 4 + (0 + (i:Int))) 4 (xs:=M) lM (by decide)
    exact ⟨by decide,_,SqL.of (s _ _ hp1),v,hv,⟨_,rfl⟩,nmz v hm,Same.refl _⟩
  · intro ys H' hly hv s hq
    obtain ⟨ls,rfl,hp⟩:=strs_of (P:=fun x=>isName x=true) (ys:=ys) fun v hv2=>by
      obtain ⟨i,hi⟩:=List.getElem?_of_mem hv2
      exact hv i v hi
    rw [List.length_map] at hly
    exact q D ls H' (S1.trans s) ⟨hq,hp⟩ hly
theorem rdp__law_shelves {c:Int} (q:∀ nm ws H',Same H H'→NamesAt H' nm ws→ws.length=3→Q (.ref nm) H') :
    rd__law_shelves K t { nx:=fun _ H'=>Q .non H',rt:=Q } (L2.start ["cell","many","signs","stem","more","some","turn"] [.int c,.int 3]) H:=by
  simp only [rd__law_shelves,rd__law_shelves_1,sp__law_names,sp__law_draw,tSRev,L2.start,tSeq,tAsg,gName,tRet,tNext,tOp,tUn,tVar,tC,tLst,tCons,tNil,tIfS,tTest,tCall,tComp,tYes,capV,iRng1,rIxL,rIxS,rI,rI0,rU,rAddS,List.map,List.replicate,List.length,List.append,List.cons_append,List.nil_append,List.append_nil,List.getElem?_cons_zero,List.getElem?_cons_succ,Option.some.injEq,exists_eq_left',exists_eq_left,V.int.injEq,V.ref.injEq,V.str.injEq,V.bl.injEq,V.ty.injEq,List.cons.injEq,and_true,true_and,and_assoc,exists_and_left,List.set_cons_zero,List.set_cons_succ,Nat.reduceSub,Nat.reduceAdd,decide_eq_true_eq,Bool.not_eq_true',decide_eq_false_iff_not,Int.reduceToNat,Int.reducePow,Int.reduceNeg,Int.reduceMul,Int.reduceAdd,if_true,ite_true,Bool.false_eq_true,ite_false,if_false]
  refine ⟨by decide,by decide,fun r H1 _ _ s1=>⟨by decide,ite2 (fun _=>⟨by decide,by decide,fun nm ws H2 s2 hn hl=>q nm ws H2 (s1.trans s2) hn (by omega)⟩) fun _=>⟨by decide,by decide,fun r2 H2 _ _ s2=>?_⟩⟩⟩
  have sz:(Str.ofString "zyxwvtsrqpnmlkjhgfdcb").length≤sizeLine:=by decide +kernel
  obtain ⟨c1,e1,i1⟩:=c21_at r2
  refine ⟨by decide,sz,c1,e1,by decide,by decide,fun r3 H3 _ _ s3=>?_⟩
  obtain ⟨c2,e2,i2⟩:=c21_at r3
  refine ⟨by decide,sz,c2,e2,small_size (by rw [one_len,one_len];decide),by decide,by decide,fun r4 H4 _ _ s4=>?_⟩
  obtain ⟨c3,e3,i3⟩:=c21_at r4
  refine ⟨by decide,sz,c3,e3,?_⟩
  exact rdp_shel4 (by rw [len_app,one_len,one_len]) (one_len _) (allP_app (allP_one i1) (allP_one i2)) (allP_one i3) fun nm ws H5 s5 hn hl=>q nm ws H5 (s1.trans (s2.trans (s3.trans (s4.trans s5)))) hn hl
section
variable {v u:V} {a b:Pp}
def setP (H:Hp) (d:Addr) (n:Nat) (rows:List Row):Prop:=∃ kvs,H d=some (.dT kvs)∧kvs.length≤n∧∀ q:Pl,(valV kvs (plKey q)).isSome=pIn q rows
theorem setP.add {H':Hp} {d p:Addr} {i:Nat} {rows:List Row} {r:Row} (S:setP H d i (rows.take i)) (hr:rows[i]?=some r) (hp:H p=some (.tup [.str r.1.1,.int r.1.2])) (hi:i≤500):∃ H',DPut H d (.ref p) (.bl true) H'∧setP H' d (i + 1) (rows.take (i + 1))∧∀ c o,c≠d→H c=some o→H' c=some o:=by
  obtain ⟨kvs,h1,h2,h3⟩:=S
  refine ⟨_,DPut.t (k:=plKey r.1) h1 hp (Nat.lt_of_le_of_lt (by omega:_≤900) (by decide)),⟨_,upd_same,?_,fun q=>?_⟩,fun c o n e=>by rw [upd_ne n];exact e⟩
  · have:=length_putK kvs (plKey r.1) (V.bl true);omega
  · rw [valV_put,List.take_add_one,hr]
    have e:pIn q (rows.take i ++ [r])=(pIn q (rows.take i) || decide (r.1=q)):=by unfold pIn;rw [List.any_append];simp
    show _=pIn q (rows.take i ++ [r])
    rw [e]
    by_cases c:plKey q=plKey r.1
    · rw [if_pos c,decide_eq_true (plKey_inj c).symm,Bool.or_true];rfl
    · rw [if_neg c,h3 q,decide_eq_false (fun z=>c (by rw [z])),Bool.or_false]
theorem setP.get {d p:Addr} {n:Nat} {rows:List Row} {r:Row} (S:setP H d n rows) (hp:H p=some (.tup [.str r.1.1,.int r.1.2])):∃ o,DGet H d (.ref p) o∧o.isSome=pIn r.1 rows:=by
  obtain ⟨kvs,h1,h2,h3⟩:=S
  exact ⟨_,DGet.t (k:=plKey r.1) h1 hp,h3 r.1⟩
def srI (σ0:Option V→St) (H0 H:Hp) (rows X:List Row) (i:Nat) (σ:St) (H':Hp):Prop:=(∃ o,σ=σ0 o)∧H'=H∧∀ r∈rows.take i,pIn r.1 X=false
theorem pin_step {rows X:List Row} {i:Nat} {r:Row} (h:∀ r∈rows.take i,pIn r.1 X=false) (hr:rows[i]?=some r) (hn:pIn r.1 X=false):∀ r∈rows.take (i + 1),pIn r.1 X=false:=fun s hs=>by
  rw [List.take_add_one,hr] at hs
  rcases List.mem_append.mp hs with hs | hs
  · exact h s hs
  · rw [List.mem_singleton.mp (show s∈[r] from hs)];exact hn
end
theorem ex_rows:∀ (kvs:List (List Key × V)),(∀ kv∈kvs,∃ (p:Pl) (w:Int),kv=(plKey p,.int w))→∃ its:List Row,kvs=its.map fun q=>(plKey q.1,V.int q.2)
  | [],_=>⟨[],rfl⟩
  | kv :: t,h=>by
    obtain ⟨p,w,e⟩:=h kv List.mem_cons_self
    obtain ⟨its,e2⟩:=ex_rows t fun x hx=>h x (List.mem_cons_of_mem _ hx)
    exact ⟨(p,w) :: its,by rw [List.map_cons,e,← e2]⟩
theorem srt_len {rows srt:List Row} (h1:Rising srt) (h2:∀ p w,(p,w)∈srt↔lastW rows p=some w):srt.length≤rows.length:=by
  have:=nd_len_le h1.nd (b:=rows.map (·.1)) fun p hp=>by
    obtain ⟨r,hr,rfl⟩:=List.mem_map.mp hp
    exact List.mem_map_of_mem (f:=(·.1)) (last_mem ((h2 r.1 r.2).mp hr))
  rw [List.length_map,List.length_map] at this
  exact this
theorem comp_inv2 {J:It} {D:Addr} {τ₀:St} {H1:Hp} {Q:Hp→Prop} {B:V→St→Hp→(V→St→Hp→Prop)→(St→Hp→Prop)→Prop} (n:Nat) (hn:n≤1000000) (C:St→Prop) (R:Nat→List V→Hp→Prop) (hm:∀ i ys H H',(∀ zs,H D≠some (.tup zs))→(∀ b o,b≠D→H b=some o→H' b=some o)→R i ys H→R i ys H') (hC:C τ₀) (h0:R 0 [] H1)
    (go:∀ i H,Same H1 H→i < n→J.go i H) (stop:∀ H,Same H1 H→J.stop n H) (hD:H1 D=none)
    (hs:∀ i x τ ys H H',C τ→Same H1 H→i < n→R i ys H→H D=some (.lst ys)→J.yld i H x H'→B x τ H' (fun v τ' H4=>C τ'∧R (i + 1) (ys ++ [v]) H4∧Same H H4) (fun τ' H4=>C τ'∧R (i + 1) ys H4∧Same H H4))
    (hd:∀ ys H,ys.length≤n→R n ys H→Same H1 H→H D=some (.lst ys)→Q H) :
    ∃ W:Nat→Nat→List V→St→Hp→Prop,(∃ m,W 0 m [] τ₀ (upd H1 D (.lst [])))∧∀ i m ys τ H,W i m ys τ H→H D=some (.lst ys) ∧
    ((J.stop i H∧Q H)∨(J.go i H∧ys.length < sizeLine∧∃ N:V→St→Hp→Prop,
      (∀ v τ' H',N v τ' H'→H' D=some (.lst ys)∧∃ m',m' < m∧W (i + 1) m' (ys ++ [v]) τ' (upd H' D (.lst (ys ++ [v]))))∧∃ Nf:St→Hp→Prop,(∀ τ' H',Nf τ' H'→∃ m',m' < m∧W (i + 1) m' ys τ' H') ∧
      ∀ x H',J.yld i H x H'→B x τ H' N Nf)):=by
  have ext:∀ {H:Hp} {o:HO},Same H1 H→Same H1 (upd H D o):=fun {H o} h b u e=>by
    rw [upd_ne (ne_of_none e hD)];exact h b u e
  refine ⟨fun i m ys τ H=>m=n - i∧i≤n∧ys.length≤i∧R i ys H∧Same H1 H∧H D=some (.lst ys)∧C τ,⟨n,by simp,Nat.zero_le _,Nat.le_refl _,hm _ _ _ _ (fun zs z=>by rw [hD] at z;cases z) (fun b o n e=>by rw [upd_ne n];exact e) h0,ext (Same.refl _),upd_same,hC⟩,?_⟩
  rintro i m ys τ H ⟨rfl,hi,hl,hR,hS,hy,hc⟩
  refine ⟨hy,?_⟩
  by_cases hlt:i < n
  · refine .inr ⟨go i H hS hlt,Nat.lt_of_le_of_lt (by omega:ys.length≤1000000) (by decide),_,?_,_,?_,fun x H' y=>hs i x τ ys H H' hc hS hlt hR hy y⟩
    · rintro v τ' H4 ⟨c4,r4,s4⟩
      have y4:=s4 _ _ hy
      exact ⟨y4,n - (i + 1),by omega,rfl,hlt,by simp;omega,hm _ _ _ _ (fun zs z=>by rw [y4] at z;cases z) (fun b o n e=>by rw [upd_ne n];exact e) r4,ext (hS.trans s4),upd_same,c4⟩
    · rintro τ' H4 ⟨c4,r4,s4⟩
      exact ⟨n - (i + 1),by omega,rfl,hlt,by omega,r4,hS.trans s4,s4 _ _ hy,c4⟩
  · obtain rfl:i=n:=by omega
    exact .inl ⟨stop H hS,hd ys H hl hR hS hy⟩
def PpD (D:Addr) (H:Hp) (v:V) (p:Pp):Prop:=∃ r o nl gl,v=.ref r∧H r=some (.tup [o,.ref nl,.ref gl])∧OcAt H o p.oc∧LsAt H nl p.no∧LsAt H gl p.gi∧nl≠D∧gl≠D
theorem PpD.v {D:Addr} {v:V} {p:Pp} (h:PpD D H v p):PpV H v p:=by
  obtain ⟨r,o,nl,gl,e,a1,a2,a3,a4,_⟩:=h
  exact ⟨r,o,nl,gl,e,a1,a2,a3,a4⟩
theorem PpD.keep {H':Hp} {D:Addr} {v:V} {p:Pp} (h:PpD D H v p) (hD:∀ zs,H D≠some (.tup zs)) (k:∀ b o,b≠D→H b=some o→H' b=some o):PpD D H' v p:=by
  have ts:TSm H H':=fun b zs e=>k b _ (fun z=>hD zs (by rw [← z];exact e)) e
  obtain ⟨r,o,nl,gl,e,a1,a2,a3,a4,a5,a6⟩:=h
  exact ⟨r,o,nl,gl,e,ts _ _ a1,oc_ts a2 ts,ls_kp a3 (fun o e=>k _ _ a5 e) ts,ls_kp a4 (fun o e=>k _ _ a6 e) ts,a5,a6⟩
theorem PpD.same {H':Hp} {D:Addr} {v:V} {p:Pp} (h:PpD D H v p) (s:Same H H'):PpD D H' v p:=by
  obtain ⟨r,o,nl,gl,e,a1,a2,a3,a4,a5,a6⟩:=h
  exact ⟨r,o,nl,gl,e,s _ _ a1,oc_same a2 s,ls_same a3 s,ls_same a4 s,a5,a6⟩
theorem ppd_keep {H':Hp} {D:Addr} (hD:∀ zs,H D≠some (.tup zs)) (k:∀ b o,b≠D→H b=some o→H' b=some o) {ys:List V} {P:List Pp} (h:Paired (PpD D H) ys P):Paired (PpD D H') ys P:=Paired.mapP h fun _ _ z=>z.keep hD k
def ppDat (p:Pp):PyData:=.tuple [ocD p.oc,.list (p.no.map rwD'),.list (p.gi.map rwD')]
theorem ppv_dat {v:V} {p:Pp} (h:PpV H v p):Dat K H v (ppDat p):=by
  obtain ⟨r,o,nl,gl,rfl,a1,a2,a3,a4⟩:=h
  exact .tup (SqT.of a1) (.cons (oc_dat a2) (.cons (ls_dat a3) (.cons (ls_dat a4) .nil)))
theorem pps_dat:∀ {xs:List V} {P:List Pp},Paired (PpV H) xs P→DatAll K H xs (P.map ppDat)
  | _,_,.nil=>.nil
  | _,_,.cons h t=>.cons (ppv_dat h) (pps_dat t)
theorem pps_plain:∀ {P:List Pp},(∀ p∈P,ppOk p)→plainDs (P.map ppDat)=true∧PyData.depthAll (P.map ppDat)≤8
  | [],_=>⟨rfl,by simp [PyData.depthAll]⟩
  | p :: P,h=>by
    have k:=h p List.mem_cons_self
    have ih:=pps_plain (P:=P) fun x hx=>h x (List.mem_cons_of_mem _ hx)
    have a1:=oc_plain k.so
    have a2:=ls_plain k.sn
    have a3:=ls_plain k.sg
    have b1:=oc_deep p.oc
    have b2:=ls_deep p.no
    have b3:=ls_deep p.gi
    have c1:plainD (ppDat p)=true:=by simp only [ppDat,plainD,plainDs,Bool.and_eq_true,and_true] at a1 a2 a3 ⊢;exact ⟨a1,a2,a3⟩
    have c2:(ppDat p).depth≤8:=by simp only [ppDat,PyData.depth,PyData.depthAll] at b1 b2 b3 ⊢;omega
    rw [List.map_cons,plainDs,PyData.depthAll,c1,ih.1]
    exact ⟨rfl,by omega⟩
theorem NamesAt.same {H H':Hp} {nm:Addr} {ws:List Str} (h:NamesAt H nm ws) (s:Same H H'):NamesAt H' nm ws:=⟨s _ _ h.1,h.2⟩
theorem names_at {nm:Addr} {ws:List Str} (h:NamesAt H nm ws) (n:Nat) (hl:ws.length=n) (hn:0 < (n:Int)) (e:Int):∃ x,atI (ws.map V.str) (e % n)=some (.str x)∧x∈ws∧isName x=true:=by
  obtain ⟨v,hv,hm⟩:=at_mod e n (xs:=ws.map V.str) (by rw [List.length_map,hl]) hn
  obtain ⟨x,hx,rfl⟩:=List.mem_map.mp hm
  exact ⟨x,hv,hx,h.2 x hx⟩
theorem rdp_place2 {c w n:Int} {s:Addr} {ws:List Str} {H0:Hp} (h1:NamesAt H s ws) (h2:ws.length=3) (S:Same H0 H) (q:∀ q (p:Pl) H',Same H0 H'→H' q=some (.tup [.str p.1,.int p.2])→PyData.strOk p.1=true→Q (.ref q) H') :
    rd__law_place_2 K t { nx:=fun _ H'=>Q .non H',rt:=Q } [some (.int c),some (.ref s),some (.int w),some (.int n)] H:=by
  simp only [rd__law_place_2,sp__law_draw,L2.start,tRet,tOp,tVar,tC,tTup,tCons,tNil,tCall,rIxL,rI,List.map,List.replicate,List.length,List.append,List.cons_append,List.nil_append,List.append_nil,List.getElem?_cons_zero,List.getElem?_cons_succ,Option.some.injEq,exists_eq_left',exists_eq_left,V.int.injEq,V.ref.injEq,V.str.injEq,V.bl.injEq,V.ty.injEq,List.cons.injEq,and_true,true_and,and_assoc,exists_and_left,List.set_cons_zero,List.set_cons_succ,Nat.reduceSub,Nat.reduceAdd,decide_eq_true_eq,Bool.not_eq_true',decide_eq_false_iff_not,Int.reduceToNat,Int.reducePow,Int.reduceNeg,Int.reduceMul,Int.reduceAdd,if_true,ite_true,Bool.false_eq_true,ite_false,if_false]
  refine ⟨by decide,by decide,fun r H1 a1 b1 s1=>⟨by decide,?_⟩⟩
  obtain ⟨x,hx,_,hn⟩:=names_at h1 3 h2 (by decide) r
  refine ⟨_,SqL.of (s1 _ _ h1.1),_,hx,by decide,fun p hp=>?_⟩
  exact q p (x,n) _ (S.trans (s1.trans (isV p hp))) upd_same (name_ok hn)
theorem rdp__law_place {c w:Int} {s:Addr} {ws:List Str} (h1:NamesAt H s ws) (h2:ws.length=3) (h3:2≤w) (h4:w≤41) (q:∀ q (p:Pl) H',Same H H'→H' q=some (.tup [.str p.1,.int p.2])→PyData.strOk p.1=true→Q (.ref q) H') :
    rd__law_place K t { nx:=fun _ H'=>Q .non H',rt:=Q } (L2.start ["cell","shelves","wide","number"] [.int c,.ref s,.int w]) H:=by
  simp only [rd__law_place,sp__law_draw,sp__law_worth,L2.start,tSeq,tAsg,gName,tRet,tNext,tOp,tVar,tC,tTup,tCons,tNil,tIfS,tTest,tCall,rIxL,rEq,rI,rI0,scal,List.map,List.replicate,List.length,List.append,List.cons_append,List.nil_append,List.append_nil,List.getElem?_cons_zero,List.getElem?_cons_succ,Option.some.injEq,exists_eq_left',exists_eq_left,V.int.injEq,V.ref.injEq,V.str.injEq,V.bl.injEq,V.ty.injEq,List.cons.injEq,and_true,true_and,and_assoc,exists_and_left,List.set_cons_zero,List.set_cons_succ,Nat.reduceSub,Nat.reduceAdd,decide_eq_true_eq,Bool.not_eq_true',decide_eq_false_iff_not,Int.reduceToNat,Int.reducePow,Int.reduceNeg,Int.reduceMul,Int.reduceAdd,if_true,ite_true,Bool.false_eq_true,ite_false,if_false]
  have hb:(1000000000000000000000000000000000000000000000000000000000000:Int) < big:=by decide +kernel
  refine ⟨by decide,by decide,fun r H1 a1 b1 s1=>⟨by omega,⟨by omega,by omega⟩,by decide,by decide,fun r2 H2 a2 b2 s2=>⟨by decide,ite2 (fun _=>⟨by decide,by decide,fun w' H3 s3=>?_⟩) fun _=>?_⟩⟩⟩
  · exact rdp_place2 (h1.same (s1.trans (s2.trans s3))) h2 (s1.trans (s2.trans s3)) q
  · exact rdp_place2 (h1.same (s1.trans s2)) h2 (s1.trans s2) q
section
variable {l l0 l1:Addr} {d:Bool→Bool→Addr} {R:Bool→Bool→List Row} {n:Nat}
theorem DsAt.same {H':Hp} (D:DsAt H l l0 l1 d R n) (s:Same H H'):DsAt H' l l0 l1 d R n:=⟨s _ _ D.hl,s _ _ D.h0,s _ _ D.h1,fun i j=>s _ _ (D.hd i j),D.nd,D.ln,D.ok⟩
theorem DsAt.up {m:Nat} (D:DsAt H l l0 l1 d R n) (h:n≤m):DsAt H l l0 l1 d R m:=⟨D.hl,D.h0,D.h1,D.hd,D.nd,fun i j=>Nat.le_trans (D.ln i j) h,D.ok⟩
def putB (R:Bool→Bool→List Row) (i j:Bool) (r:Row):Bool→Bool→List Row:=fun i' j'=>if i'=i∧j'=j then R i j ++ [r] else R i' j'
theorem DsAt.put {q:Addr} {p:Pl} {w:Int} (D:DsAt H l l0 l1 d R n) (hn:n≤900) (i j:Bool) (hq:H q=some (.tup [.str p.1,.int p.2])) (hp:PyData.strOk p.1=true):∃ H',DPut H (d i j) (.ref q) (.int w) H'∧DsAt H' l l0 l1 d (putB R i j (p,w)) (n + 1)∧∀ b o,(∀ i j,b≠d i j)→H b=some o→H' b=some o:=by
  have ld:=len_dOf (R i j)
  have ln:=D.ln i j
  have ep:putK (dOf (R i j)) (plKey p) (V.int w)=dOf (R i j ++ [(p,w)]):=(dOf_snoc (R i j) (p,w)).symm
  have P:=DPut.t (k:=plKey p) (v:=V.int w) (D.hd i j) hq (Nat.lt_of_le_of_lt (by omega:_≤900) (by decide))
  rw [ep] at P
  have nl:∀ {b:Addr} {xs:List V},H b=some (.lst xs)→b≠d i j:=fun e=>ne_of e (D.hd i j) (fun z=>nomatch z)
  refine ⟨_,P,⟨by rw [upd_ne (nl D.hl)];exact D.hl,by rw [upd_ne (nl D.h0)];exact D.h0,by rw [upd_ne (nl D.h1)];exact D.h1,fun i' j'=>?_,D.nd,fun i' j'=>?_,fun i' j' r hr=>?_⟩,fun b o h e=>by rw [upd_ne (h i j)];exact e⟩
  · by_cases c:i'=i∧j'=j
    · obtain ⟨rfl,rfl⟩:=c
      rw [upd_same];unfold putB;rw [if_pos ⟨rfl,rfl⟩]
    · rw [upd_ne (fun z=>c (D.nd _ _ _ _ z))];unfold putB;rw [if_neg c];exact D.hd i' j'
  · have:=D.ln i' j'
    unfold putB
    split
    · rw [List.length_append,List.length_singleton];omega
    · omega
  · unfold putB at hr
    split at hr
    · rcases List.mem_append.mp hr with hr | hr
      · exact D.ok _ _ r hr
      · rw [List.mem_singleton.mp hr];exact hp
    · exact D.ok _ _ r hr
theorem ds_at1 (D:DsAt H l l0 l1 d R n) (x:Int):∃ i la,atI [V.ref l0,V.ref l1] (x % 2)=some (.ref la)∧H la=some (.lst [.ref (d i false),.ref (d i true)]):=by
  have cx:x % 2=0∨x % 2=1:=by omega
  rcases cx with cx | cx <;> rw [cx]
  · exact ⟨false,l0,rfl,D.h0⟩
  · exact ⟨true,l1,rfl,D.h1⟩
theorem ds_at2 (d:Bool→Bool→Addr) (i:Bool) (y:Int):∃ j,atI [V.ref (d i false),V.ref (d i true)] (y % 2)=some (.ref (d i j)):=by
  have cy:y % 2=0∨y % 2=1:=by omega
  rcases cy with cy | cy <;> rw [cy]
  · exact ⟨false,rfl⟩
  · exact ⟨true,rfl⟩
theorem ds_new {H0 H1 H2 H3 H4 H5 H6 H7:Hp} {a b c e:Addr} (e1:H1=upd H0 a (.dT [])) (ha:H0 a=none) (e2:H2=upd H1 b (.dT [])) (hb:H1 b=none) (e3:H3=upd H2 l0 (.lst [.ref a,.ref b])) (h0:H2 l0=none) (e4:H4=upd H3 c (.dT [])) (hc:H3 c=none) (e5:H5=upd H4 e (.dT [])) (he:H4 e=none) (e6:H6=upd H5 l1 (.lst [.ref c,.ref e])) (h1:H5 l1=none) (e7:H7=upd H6 l (.lst [.ref l0,.ref l1])) (h:H6 l=none) :
    ∃ d:Bool→Bool→Addr,Same H0 H7∧DsAt H7 l l0 l1 d (fun _ _=>[]) 0∧∀ i j,H0 (d i j)=none:=by
  have s1:Same H0 H1:=by rw [e1];exact isV a ha
  have s2:Same H1 H2:=by rw [e2];exact isV b hb
  have s3:Same H2 H3:=by rw [e3];exact isV l0 h0
  have s4:Same H3 H4:=by rw [e4];exact isV c hc
  have s5:Same H4 H5:=by rw [e5];exact isV e he
  have s6:Same H5 H6:=by rw [e6];exact isV l1 h1
  have s7:Same H6 H7:=by rw [e7];exact isV l h
  have va:H1 a=some (.dT []):=by rw [e1];exact upd_same
  have vb:H2 b=some (.dT []):=by rw [e2];exact upd_same
  have v0:H3 l0=some (.lst [.ref a,.ref b]):=by rw [e3];exact upd_same
  have vc:H4 c=some (.dT []):=by rw [e4];exact upd_same
  have ve:H5 e=some (.dT []):=by rw [e5];exact upd_same
  have v1:H6 l1=some (.lst [.ref c,.ref e]):=by rw [e6];exact upd_same
  have vl:H7 l=some (.lst [.ref l0,.ref l1]):=by rw [e7];exact upd_same
  have t3:=s1.trans (s2.trans s3)
  have t25:=s3.trans (s4.trans s5)
  have nab:a≠b:=fun z=>by rw [← z,va] at hb;cases hb
  have nac:a≠c:=fun z=>by rw [← z,(s2.trans s3) _ _ va] at hc;cases hc
  have nae:a≠e:=fun z=>by rw [← z,(s2.trans (s3.trans s4)) _ _ va] at he;cases he
  have nbc:b≠c:=fun z=>by rw [← z,s3 _ _ vb] at hc;cases hc
  have nbe:b≠e:=fun z=>by rw [← z,(s3.trans s4) _ _ vb] at he;cases he
  have nce:c≠e:=fun z=>by rw [← z,vc] at he;cases he
  have t7:=s6.trans s7
  refine ⟨fun i j=>cond i (cond j e c) (cond j b a),t3.trans (s4.trans (s5.trans t7)),⟨vl,(s4.trans (s5.trans t7)) _ _ v0,s7 _ _ v1,fun i j=>?_,fun i j i' j' z=>?_,fun _ _=>Nat.le_refl _,fun _ _ r hr=>nomatch hr⟩,fun i j=>?_⟩
  · cases i <;> cases j
    · exact (s2.trans (t25.trans t7)) _ _ va
    · exact (t25.trans t7) _ _ vb
    · exact (s5.trans t7) _ _ vc
    · exact t7 _ _ ve
  · cases i <;> cases j <;> cases i' <;> cases j' <;> first | exact ⟨rfl,rfl⟩ | exact absurd z nab | exact absurd z.symm nab | exact absurd z nac | exact absurd z.symm nac | exact absurd z nae | exact absurd z.symm nae | exact absurd z nbc | exact absurd z.symm nbc | exact absurd z nbe | exact absurd z.symm nbe | exact absurd z nce | exact absurd z.symm nce
  · cases i <;> cases j
    · exact ha
    · exact fresh_of s1 hb
    · exact fresh_of t3 hc
    · exact fresh_of (t3.trans s4) he
end
def drI (σ0:Option V→St) (d:Bool→Bool→Addr) (l l0 l1:Addr) (H0:Hp) (i:Nat) (σ:St) (H:Hp):Prop:=(∃ o,σ=σ0 o)∧(∀ b o,(∀ i j,b≠d i j)→H0 b=some o→H b=some o)∧∃ R,DsAt H l l0 l1 d R i
theorem rdp__law_drawn {a s:Addr} {w:Int} {ns:List Int} {ws:List Str} (h1:SqL K H a (ns.map V.int)) (h2:ns.length≤63) (h3:NamesAt H s ws) (h4:ws.length=3) (h5:2≤w) (h6:w≤41) (q:∀ l l0 l1 d R H',Same H H'→DsAt H' l l0 l1 d R 65→Q (.ref l) H') :
    rd__law_drawn K t { nx:=fun _ H'=>Q .non H',rt:=Q } (L2.start ["script","shelves","wide","papers","cell"] [.ref a,.ref s,.int w]) H:=by
  simp only [rd__law_drawn,rd__law_drawn_1,sp__law_draw,sp__law_place,sp__law_worth,sDPut,tDNewT,L2.start,tSeq,tAsg,gName,tRet,tOp,tVar,tC,tLst,tCons,tNil,tFor,tSl,tPart,tNoPart,tCall,iList,rIxL,rI,rSlL,List.map,List.replicate,List.length,List.append,List.cons_append,List.nil_append,List.append_nil,List.getElem?_cons_zero,List.getElem?_cons_succ,Option.some.injEq,exists_eq_left',exists_eq_left,V.int.injEq,V.ref.injEq,V.str.injEq,V.bl.injEq,V.ty.injEq,List.cons.injEq,and_true,true_and,and_assoc,exists_and_left,List.set_cons_zero,List.set_cons_succ,Nat.reduceSub,Nat.reduceAdd,decide_eq_true_eq,Bool.not_eq_true',decide_eq_false_iff_not,Int.reduceToNat,Int.reducePow,Int.reduceNeg,Int.reduceMul,Int.reduceAdd,if_true,ite_true,Bool.false_eq_true,ite_false,if_false]
  intro x00 k00 x01 k01
  refine ⟨by decide,fun l0 k0 x10 k10 x11 k11=>⟨by decide,fun l1 k1=>⟨by decide,fun l k=>?_⟩⟩⟩
  obtain ⟨d,S0,D0,F0⟩:=ds_new rfl k00 rfl k01 rfl k0 rfl k10 rfl k11 rfl k1 rfl k
  generalize upd (upd (upd (upd (upd (upd (upd H x00 _) x01 _) l0 _) x10 _) x11 _) l1 _) l _=H7 at S0 D0 ⊢
  refine ⟨_,h1.mono S0,fun cl hcl=>?_⟩
  obtain ⟨cs,ec,lc⟩:=cut_one ns none (some 240)
  rw [ec]
  have s1:=isV (o:=HO.lst (cs.map V.int)) cl hcl
  have hc:upd H7 cl (HO.lst (cs.map V.int)) cl=some (.lst (cs.map V.int)):=upd_same
  generalize upd H7 cl (HO.lst (cs.map V.int))=H8 at *
  have D8:=D0.same s1
  have hs8:=h3.same (S0.trans s1)
  have nl:∀ {b:Addr} {xs:List V},H8 b=some (.lst xs)→∀ i j,b≠d i j:=fun e i j=>ne_of e (D8.hd i j) (fun z=>nomatch z)
  refine ⟨⟨_,SqL.of hc⟩,loop_list (cs.map V.int) (drI (fun o=>[some (.ref a),some (.ref s),some (.int w),some (.ref l),o]) d l l0 l1 H8) ⟨⟨_,rfl⟩,fun b o _ e=>e,_,D8⟩ (fun i σ H' z=>SqL.of (z.2.1 _ _ (nl hc) hc)) ?_ ?_⟩
  · rintro i v σ H' hv ⟨⟨o,rfl⟩,kp,R,D⟩
    have hi:=(List.getElem?_eq_some_iff.mp hv).1
    rw [List.length_map] at hi
    obtain ⟨c,_,rfl⟩:=List.mem_map.mp (List.mem_of_getElem? hv)
    simp only [sp__law_draw,sp__law_place,sp__law_worth,sDPut,tDNewT,L2.start,tSeq,tAsg,gName,tRet,tOp,tVar,tC,tLst,tCons,tNil,tFor,tSl,tPart,tNoPart,tCall,iList,rIxL,rI,rSlL,List.map,List.replicate,List.length,List.append,List.cons_append,List.nil_append,List.append_nil,List.getElem?_cons_zero,List.getElem?_cons_succ,Option.some.injEq,exists_eq_left',exists_eq_left,V.int.injEq,V.ref.injEq,V.str.injEq,V.bl.injEq,V.ty.injEq,List.cons.injEq,and_true,true_and,and_assoc,exists_and_left,List.set_cons_zero,List.set_cons_succ,Nat.reduceSub,Nat.reduceAdd,decide_eq_true_eq,Bool.not_eq_true',decide_eq_false_iff_not,Int.reduceToNat,Int.reducePow,Int.reduceNeg,Int.reduceMul,Int.reduceAdd,if_true,ite_true,Bool.false_eq_true,ite_false,if_false]
    refine ⟨by decide,by decide,fun wo H1 s1=>⟨by decide,by decide,fun r1 H2 _ _ s2=>⟨by decide,?_⟩⟩⟩
    obtain ⟨i1,la,q1,q2⟩:=ds_at1 D r1
    refine ⟨_,SqL.of ((s1.trans s2) _ _ D.hl),_,q1,by decide,by decide,fun r2 H3 _ _ s3=>⟨by decide,la,rfl,_,SqL.of ((s1.trans (s2.trans s3)) _ _ q2),?_⟩⟩
    obtain ⟨j1,q3⟩:=ds_at2 d i1 r2
    have S3:=s1.trans (s2.trans s3)
    refine ⟨_,q3,ws,⟨S3 _ _ (kp _ _ (nl hs8.1) hs8.1),hs8.2⟩,h4,h5,h6,fun qa p H4 s4 hq hp=>?_⟩
    obtain ⟨H5,g1,g2,g3⟩:=(D.same (S3.trans s4)).put (w:=wo) (by omega) i1 j1 hq hp
    exact ⟨_,rfl,H5,g1,⟨_,rfl⟩,fun b o n e=>g3 b o n ((S3.trans s4) _ _ (kp b o n e)),_,g2⟩
  · rintro σ H' ⟨⟨o,rfl⟩,kp,R,D⟩
    rw [List.length_map] at D
    exact ⟨_,rfl,q l l0 l1 d R H' (fun b o e=>kp b o (fun i j z=>by rw [z,F0] at e;cases e) ((S0.trans s1) _ _ e)) (D.up (by omega))⟩
theorem Paired.revP {α β:Type} {r:α→β→Prop}:∀ {xs:List α} {ys:List β},Paired r xs ys→Paired r xs.reverse ys.reverse
  | _,_,.nil=>.nil
  | _,_,.cons h t=>by
    rw [List.reverse_cons,List.reverse_cons]
    exact Paired.snocP (Paired.revP t) h
section
variable {p d0 d1 nl:Addr} {c tn:Int} {r0 r1 no:List Row}
structure pkH (H:Hp) (p d0 d1:Addr) (r1:List Row) (nl:Addr) (no:List Row):Prop where
  hp:H p=some (.lst [.ref d0,.ref d1])
  h1:H d1=some (.dT (dOf r1))
  l1:r1.length≤65
  k1:∀ r∈r1,PyData.strOk r.1.1=true
  hn:LsAt H nl no
  ln:no.length≤65
  kn:∀ r∈no,PyData.strOk r.1.1=true
theorem pkH.same {H':Hp} (h:pkH H p d0 d1 r1 nl no) (s:Same H H'):pkH H' p d0 d1 r1 nl no:=⟨s _ _ h.hp,s _ _ h.h1,h.l1,h.k1,ls_same h.hn s,h.ln,h.kn⟩
theorem told3 (x:Int):∃ w:Str,atI [V.str (Str.ofString "told"),V.str (Str.ofString "great"),V.str (Str.ofString "nought")] (x % 3)=some (.str w)∧PyData.strOk w=true:=by
  have cx:x % 3=0∨x % 3=1∨x % 3=2:=by omega
  rcases cx with cx | cx | cx <;> rw [cx]
  · exact ⟨_,rfl,by decide +kernel⟩
  · exact ⟨_,rfl,by decide +kernel⟩
  · exact ⟨_,rfl,by decide +kernel⟩
theorem rdp_paper3 {H0:Hp} (h:pkH H p d0 d1 r1 nl no) (S:Same H0 H) (q:∀ v p H',Same H0 H'→PpV H' v p→ppOk p→Q v H') :
    rd__law_paper_3 K t { nx:=fun _ H'=>Q .non H',rt:=Q } [some (.ref p),some (.int c),some (.int tn),some (.ref nl)] H:=by
  simp only [rd__law_paper_3,sp__law_worth,tItems,cSrtI,L2.start,tRet,tOp,tVar,tC,tTup,tCons,tNil,tCB,tCall,rIxL,List.map,List.replicate,List.length,List.append,List.cons_append,List.nil_append,List.append_nil,List.getElem?_cons_zero,List.getElem?_cons_succ,Option.some.injEq,exists_eq_left',exists_eq_left,V.int.injEq,V.ref.injEq,V.str.injEq,V.bl.injEq,V.ty.injEq,List.cons.injEq,and_true,true_and,and_assoc,exists_and_left,List.set_cons_zero,List.set_cons_succ,Nat.reduceSub,Nat.reduceAdd,decide_eq_true_eq,Bool.not_eq_true',decide_eq_false_iff_not,Int.reduceToNat,Int.reducePow,Int.reduceNeg,Int.reduceMul,Int.reduceAdd,if_true,ite_true,Bool.false_eq_true,ite_false,if_false]
  have l1:=len_dOf r1
  have l2:=h.l1
  have l3:=h.ln
  refine ⟨by decide,by decide,fun w H1 s1=>⟨by decide,fun pw hpw=>⟨by decide,fun po hpo=>?_⟩⟩⟩
  have s2:=isV (o:=HO.tup [V.int tn,V.int w]) pw hpw
  have s3:=isV (o:=HO.tup [V.str (Str.ofString "done"),V.ref pw]) po hpo
  have e2:=s3 _ _ (upd_same (H:=H1) (a:=pw) (o:=HO.tup [V.int tn,V.int w]))
  have e3:upd (upd H1 pw (HO.tup [V.int tn,V.int w])) po (HO.tup [V.str (Str.ofString "done"),V.ref pw]) po=some (.tup [.str "done",.ref pw]):=upd_same
  have S3:=s1.trans (s2.trans s3)
  generalize upd (upd H1 pw (HO.tup [V.int tn,V.int w])) po (HO.tup [V.str (Str.ofString "done"),V.ref pw])=H3 at *
  have h:=h.same S3
  refine ⟨_,SqL.of h.hp,_,rfl,d1,rfl,_,h.h1,fun r hr=>⟨d1,upd_same,r1,isV r hr _ _ h.h1,by omega,fun l4 zs srt H4 s4 fl4 hl4 pz ri mi=>⟨by decide,fun p5 hp5=>?_⟩⟩⟩
  have S4:=(isV (o:=viewO r d1) r hr).trans s4
  have s5:=isV (o:=HO.tup [V.ref po,V.ref nl,V.ref l4]) p5 hp5
  have T:=S4.trans s5
  have ls:=srt_len ri mi
  refine q _ ⟨.done [tn,w],no,srt⟩ _ (S.trans (S3.trans T)) ⟨p5,.ref po,nl,l4,rfl,upd_same,⟨po,pw,rfl,T _ _ e3,T _ _ e2⟩,ls_same h.hn T,⟨zs,s5 _ _ hl4,prs_same s5 pz⟩⟩ ⟨by show no.length≤70;omega,by show srt.length≤70;omega,h.kn,fun r hr=>h.k1 _ (last_mem ((mi r.1 r.2).mp hr)),fun w e=>nomatch e⟩
theorem rdp_paper2 {H0:Hp} (h:pkH H p d0 d1 r1 nl no) (S:Same H0 H) (t0:0≤tn) (t1:tn≤1) (q:∀ v p H',Same H0 H'→PpV H' v p→ppOk p→Q v H') :
    rd__law_paper_2 K t { nx:=fun _ H'=>Q .non H',rt:=Q } [some (.ref p),some (.int c),some (.int tn),some (.ref nl)] H:=by
  simp only [rd__law_paper_2,sp__law_draw,tItems,cSrtI,L2.start,tSeq,tRet,tNext,tOp,tVar,tC,tLst,tTup,tCons,tNil,tIfS,tTest,tCB,tCall,rIxL,rEq,rI,rI0,scal,List.map,List.replicate,List.length,List.append,List.cons_append,List.nil_append,List.append_nil,List.getElem?_cons_zero,List.getElem?_cons_succ,Option.some.injEq,exists_eq_left',exists_eq_left,V.int.injEq,V.ref.injEq,V.str.injEq,V.bl.injEq,V.ty.injEq,List.cons.injEq,and_true,true_and,and_assoc,exists_and_left,List.set_cons_zero,List.set_cons_succ,Nat.reduceSub,Nat.reduceAdd,decide_eq_true_eq,Bool.not_eq_true',decide_eq_false_iff_not,Int.reduceToNat,Int.reducePow,Int.reduceNeg,Int.reduceMul,Int.reduceAdd,if_true,ite_true,Bool.false_eq_true,ite_false,if_false]
  have l3:=h.ln
  refine ⟨by omega,by omega,fun r H1 _ _ s1=>⟨by decide,ite2 (fun _=>?_) fun _=>rdp_paper3 (h.same s1) (S.trans s1) q⟩⟩
  refine ⟨by decide,fun la hla=>⟨by decide,by decide,fun r2 H2 _ _ s2=>⟨by decide,?_⟩⟩⟩
  have s0:=isV (o:=HO.lst [V.str (Str.ofString "told"),V.str (Str.ofString "great"),V.str (Str.ofString "nought")]) la hla
  obtain ⟨w,e1,e2⟩:=told3 r2
  refine ⟨_,SqL.of (s2 _ _ upd_same),_,e1,by decide,fun po hpo=>⟨by decide,fun lg hlg=>⟨by decide,fun p5 hp5=>?_⟩⟩⟩
  have s3:=isV (o:=HO.tup [V.str (Str.ofString "off"),V.str w]) po hpo
  have s4:=isV (o:=HO.lst []) lg hlg
  have s5:=isV (o:=HO.tup [V.ref po,V.ref nl,V.ref lg]) p5 hp5
  have T:=s0.trans (s2.trans (s3.trans (s4.trans s5)))
  exact q _ ⟨.off w,no,[]⟩ _ (S.trans (s1.trans T)) ⟨p5,.ref po,nl,lg,rfl,upd_same,⟨po,rfl,(s4.trans s5) _ _ upd_same⟩,ls_same h.hn (s1.trans T),⟨[],s5 _ _ upd_same,.nil⟩⟩ ⟨by show no.length≤70;omega,Nat.zero_le _,h.kn,(fun r h=>nomatch h),fun w' e=>by cases e;exact e2⟩
theorem rdp__law_paper (h1:H p=some (.lst [.ref d0,.ref d1])) (h2:H d0=some (.dT (dOf r0))) (h3:H d1=some (.dT (dOf r1))) (h4:r0.length≤65) (h5:r1.length≤65) (h6:∀ r∈r0,PyData.strOk r.1.1=true) (h7:∀ r∈r1,PyData.strOk r.1.1=true) (h8:0≤tn) (h9:tn≤1) (q:∀ v p H',Same H H'→PpV H' v p→ppOk p→Q v H') :
    rd__law_paper K t { nx:=fun _ H'=>Q .non H',rt:=Q } (L2.start ["pair","cell","turn","notes"] [.ref p,.int c,.int tn]) H:=by
  simp only [rd__law_paper,rd__law_paper_1,sp__law_draw,tItems,cLstI,cSrtI,tLRevS,L2.start,tSeq,tAsg,gName,tRet,tNext,tOp,tUn,tVar,tC,tLst,tTup,tCons,tNil,tIfS,tTest,tCB,tCall,rIxL,rEq,rI,rI0,rU,scal,List.map,List.replicate,List.length,List.append,List.cons_append,List.nil_append,List.append_nil,List.getElem?_cons_zero,List.getElem?_cons_succ,Option.some.injEq,exists_eq_left',exists_eq_left,V.int.injEq,V.ref.injEq,V.str.injEq,V.bl.injEq,V.ty.injEq,List.cons.injEq,and_true,true_and,and_assoc,exists_and_left,List.set_cons_zero,List.set_cons_succ,Nat.reduceSub,Nat.reduceAdd,decide_eq_true_eq,Bool.not_eq_true',decide_eq_false_iff_not,Int.reduceToNat,Int.reducePow,Int.reduceNeg,Int.reduceMul,Int.reduceAdd,if_true,ite_true,Bool.false_eq_true,ite_false,if_false]
  have l1:=len_dOf r0
  obtain ⟨its,ei⟩:=ex_rows (dOf r0) (okKv_dOf r0).2
  have li:its.length≤65:=by have:=congrArg List.length ei;rw [List.length_map] at this;omega
  have si:∀ r∈its,PyData.strOk r.1.1=true:=fun r hr=>by
    have:(plKey r.1,V.int r.2)∈dOf r0:=by rw [ei];exact List.mem_map_of_mem (f:=fun q:Row=>(plKey q.1,V.int q.2)) hr
    obtain ⟨p,w,e1,e2⟩:=mem_dOf.mp this
    have ep:r.1=p:=plKey_inj (congrArg Prod.fst e1)
    rw [ep]
    exact h6 _ (last_mem e2)
  refine ⟨_,SqL.of h1,_,rfl,d0,rfl,_,h2,fun r hr=>⟨d0,upd_same,_,isV r hr _ _ h2,by omega,fun l ys H2 s2 fl hl pr=>?_⟩⟩
  rw [ei] at pr
  have pr:=kv_pr pr
  have S2:=(isV (o:=viewO r d0) r hr).trans s2
  refine ⟨by decide,by decide,fun r H3 _ _ s3=>⟨by decide,ite2 (fun _=>?_) fun _=>?_⟩⟩
  · refine ⟨_,SqL.of (s3 _ _ hl),fun l2 hl2=>?_⟩
    have s4:=isV (o:=HO.lst ys.reverse) l2 hl2
    have T:=S2.trans (s3.trans s4)
    exact rdp_paper2 ⟨T _ _ h1,T _ _ h3,h5,h7,⟨_,upd_same,Paired.revP (prs_same (s3.trans s4) pr)⟩,by rw [List.length_reverse];exact li,fun r hr=>si r (List.mem_reverse.mp hr)⟩ T h8 h9 q
  · have T:=S2.trans s3
    exact rdp_paper2 ⟨T _ _ h1,T _ _ h3,h5,h7,⟨_,s3 _ _ hl,prs_same s3 pr⟩,li,si⟩ T h8 h9 q
end
section
variable {v u:V} {a b:Pp}
theorem rdp_met2 {r1 r2 d2:Addr} {o3:Option V} {m:Nat} (h1:PpV H (.ref r1) a) (S:setP H d2 m (b.no ++ b.gi)) (q:∀ H',Same H H'→Q (.bl (givB a b)) H') :
    rd__law_met_2 K t { nx:=fun _ H'=>Q .non H',rt:=Q } [some (.ref r1),some (.ref r2),some (.ref d2),o3] H:=by
  obtain ⟨r,o,nl,gl,e,h,_,f1,f2⟩:=h1
  cases e
  obtain ⟨xs,hx,px⟩:=f2
  simp only [rd__law_met_2,rInD,L2.start,rIxT,tSeq,gName,tRet,tNext,tOp,tVar,tC,tFor,tIfS,tTest,iList,rIxT,List.map,List.replicate,List.length,List.append,List.cons_append,List.nil_append,List.append_nil,List.getElem?_cons_zero,List.getElem?_cons_succ,Option.some.injEq,exists_eq_left',exists_eq_left,V.int.injEq,V.ref.injEq,V.str.injEq,V.bl.injEq,V.ty.injEq,List.cons.injEq,and_true,true_and,and_assoc,exists_and_left,List.set_cons_zero,List.set_cons_succ,Nat.reduceSub,Nat.reduceAdd,decide_eq_true_eq,Bool.not_eq_true',decide_eq_false_iff_not,Int.reduceToNat,Int.reducePow,Int.reduceNeg,Int.reduceMul,Int.reduceAdd,if_true,ite_true,Bool.false_eq_true,ite_false,if_false]
  refine ⟨_,SqT.of h,_,rfl,_,rfl,⟨_,SqL.of hx⟩,loop_list xs (srI (fun o=>[some (.ref r1),some (.ref r2),some (.ref d2),o]) H H a.gi (b.no ++ b.gi)) ⟨⟨_,rfl⟩,rfl,fun r h=>by simp at h⟩ (fun i σ H' ⟨_,e,_⟩=>by rw [e];exact SqL.of hx) ?_ ?_⟩
  · rintro i v σ H' hv ⟨⟨o,rfl⟩,eH,hn⟩
    subst eH
    obtain ⟨row,hr,r',p',rfl,e2,e3⟩:=Paired.getP px hv
    obtain ⟨oo,g1,g2⟩:=S.get e3
    simp only [rInD,L2.start,rIxT,tSeq,gName,tRet,tNext,tOp,tVar,tC,tFor,tIfS,tTest,iList,rIxT,List.map,List.replicate,List.length,List.append,List.cons_append,List.nil_append,List.append_nil,List.getElem?_cons_zero,List.getElem?_cons_succ,Option.some.injEq,exists_eq_left',exists_eq_left,V.int.injEq,V.ref.injEq,V.str.injEq,V.bl.injEq,V.ty.injEq,List.cons.injEq,and_true,true_and,and_assoc,exists_and_left,List.set_cons_zero,List.set_cons_succ,Nat.reduceSub,Nat.reduceAdd,decide_eq_true_eq,Bool.not_eq_true',decide_eq_false_iff_not,Int.reduceToNat,Int.reducePow,Int.reduceNeg,Int.reduceMul,Int.reduceAdd,if_true,ite_true,Bool.false_eq_true,ite_false,if_false]
    refine ⟨_,SqT.of e2,_,rfl,oo,g1,?_⟩
    cases c:pIn row.1 (b.no ++ b.gi) with
    | true =>
      rw [g2,c,if_pos rfl]
      have m:givB a b=true:=List.any_eq_true.mpr ⟨row,List.mem_of_getElem? hr,c⟩
      have:=q _ (Same.refl _)
      rw [m] at this
      exact this
    | false =>
      rw [g2,c,if_neg (by decide)]
      exact ⟨⟨_,rfl⟩,rfl,pin_step hn hr c⟩
  · rintro σ H' ⟨⟨o,rfl⟩,eH,hn⟩
    subst eH
    have hn:∀ r∈a.gi,pIn r.1 (b.no ++ b.gi)=false:=fun r hr=>hn r (by rw [List.take_of_length_le (by rw [Paired.length px];exact Nat.le_refl _)];exact hr)
    have m:givB a b=false:=by
      cases c:givB a b with
      | false=>rfl
      | true =>
        obtain ⟨r,h1,h2⟩:=List.any_eq_true.mp c
        rw [hn r h1] at h2;cases h2
    have:=q _ (Same.refl _)
    rw [m] at this
    exact this
def mtI (σ0:Option V→St) (d:Addr) (H0:Hp) (rows:List Row) (i:Nat) (σ:St) (H':Hp):Prop:=(∃ o,σ=σ0 o)∧(∀ c o,c≠d→H0 c=some o→H' c=some o)∧setP H' d i (rows.take i)
theorem rdp__law_met (h1:PpV H v a) (h2:PpV H u b) (oa:ppOk a) (ob:ppOk b) (q:∀ H',Same H H'→Q (.bl (givB a b)) H') :
    rd__law_met K t { nx:=fun _ H'=>Q .non H',rt:=Q } (L2.start ["one","other","places","row"] [v,u]) H:=by
  obtain ⟨r1,_,_,_,rfl,_⟩:=id h1
  obtain ⟨r2,o2,n2,g2,rfl,e2,_,f3,f4⟩:=h2
  obtain ⟨ys,hy,py⟩:=f3
  obtain ⟨zs,hz,pz⟩:=f4
  have ly:=Paired.length py
  have lz:=Paired.length pz
  have lb:=ob.lg
  have lc:=ob.ln
  simp only [rd__law_met,rd__law_met_1,sDPut,rInD,tDNewT,rCat,L2.start,rIxT,tSeq,tAsg,gName,tRet,tNext,tOp,tVar,tC,tFor,tIfS,tTest,iList,rCat,rIxT,List.map,List.replicate,List.length,List.append,List.cons_append,List.nil_append,List.append_nil,List.getElem?_cons_zero,List.getElem?_cons_succ,Option.some.injEq,exists_eq_left',exists_eq_left,V.int.injEq,V.ref.injEq,V.str.injEq,V.bl.injEq,V.ty.injEq,List.cons.injEq,and_true,true_and,and_assoc,exists_and_left,List.set_cons_zero,List.set_cons_succ,Nat.reduceSub,Nat.reduceAdd,decide_eq_true_eq,Bool.not_eq_true',decide_eq_false_iff_not,Int.reduceToNat,Int.reducePow,Int.reduceNeg,Int.reduceMul,Int.reduceAdd,if_true,ite_true,Bool.false_eq_true,ite_false,if_false]
  intro d2 hd
  have s0:=isV (o:=HO.dT []) d2 hd
  have hd2:upd H d2 (HO.dT []) d2=some (.dT []):=upd_same
  generalize upd H d2 (HO.dT [])=H0 at *
  refine ⟨_,SqT.of (s0 _ _ e2),_,rfl,_,SqT.of (s0 _ _ e2),_,rfl,n2,rfl,g2,rfl,ys,s0 _ _ hy,zs,s0 _ _ hz,small_size (by omega),fun l hl=>?_⟩
  have s1:=isV (o:=HO.lst (ys ++ zs)) l hl
  have S1:=s0.trans s1
  have px:Paired (PrAt (upd H0 l (HO.lst (ys ++ zs)))) (ys ++ zs) (b.no ++ b.gi):=paired_app (prs_same S1 py) (prs_same S1 pz)
  have hx:upd H0 l (HO.lst (ys ++ zs)) l=some (.lst (ys ++ zs)):=upd_same
  have hd2:=s1 _ _ hd2
  generalize upd H0 l (HO.lst (ys ++ zs))=H1 at *
  have lx:=Paired.length px
  have lx2:(b.no ++ b.gi).length≤140:=by rw [List.length_append];omega
  have kp:∀ {H':Hp},(∀ c o,c≠d2→H1 c=some o→H' c=some o)→Same H H':=fun k c o e=>k c o (fun z=>by rw [z,hd] at e;cases e) (S1 c o e)
  have nl:l≠d2:=ne_of hx hd2 (fun z=>nomatch z)
  refine ⟨⟨_,SqL.of hx⟩,loop_list (ys ++ zs) (mtI (fun o=>[some (.ref r1),some (.ref r2),some (.ref d2),o]) d2 H1 (b.no ++ b.gi)) ⟨⟨_,rfl⟩,fun c o _ e=>e,[],hd2,Nat.le_refl _,fun q=>rfl⟩ (fun i σ H' ⟨_,s,_⟩=>SqL.of (s _ _ nl hx)) ?_ ?_⟩
  · rintro i v σ H' hv ⟨⟨o,rfl⟩,s,S⟩
    obtain ⟨row,hr,r',p',rfl,e2,e3⟩:=Paired.getP px hv
    have hi:=(List.getElem?_eq_some_iff.mp hv).1
    have nt:∀ {c:Addr} {us:List V},H1 c=some (.tup us)→c≠d2:=fun e=>ne_of e hd2 (fun z=>nomatch z)
    obtain ⟨H2,g1,g2,g3⟩:=S.add (H':=H') hr (s _ _ (nt e3) e3) (by omega)
    simp only [sDPut,rInD,tDNewT,rCat,L2.start,rIxT,tSeq,tAsg,gName,tRet,tNext,tOp,tVar,tC,tFor,tIfS,tTest,iList,rCat,rIxT,List.map,List.replicate,List.length,List.append,List.cons_append,List.nil_append,List.append_nil,List.getElem?_cons_zero,List.getElem?_cons_succ,Option.some.injEq,exists_eq_left',exists_eq_left,V.int.injEq,V.ref.injEq,V.str.injEq,V.bl.injEq,V.ty.injEq,List.cons.injEq,and_true,true_and,and_assoc,exists_and_left,List.set_cons_zero,List.set_cons_succ,Nat.reduceSub,Nat.reduceAdd,decide_eq_true_eq,Bool.not_eq_true',decide_eq_false_iff_not,Int.reduceToNat,Int.reducePow,Int.reduceNeg,Int.reduceMul,Int.reduceAdd,if_true,ite_true,Bool.false_eq_true,ite_false,if_false]
    exact ⟨_,SqT.of (s _ _ (nt e2) e2),_,rfl,H2,g1,⟨_,rfl⟩,fun c o n e=>g3 c o n (s c o n e),g2⟩
  · rintro σ H' ⟨⟨o,rfl⟩,s,S⟩
    rw [List.take_of_length_le (by omega)] at S
    exact rdp_met2 (h1.same (kp s)) S fun H2 s2=>q H2 ((kp s).trans s2)
end
theorem rdp__law_copy {v:V} {p:Pp} (h:PpV H v p) (q:∀ v' H',Same H H'→PpN H H' v' p→Q v' H') :
    rd__law_copy K t { nx:=fun _ H'=>Q .non H',rt:=Q } (L2.start ["paper"] [v]) H:=by
  obtain ⟨r,o,nl,gl,rfl,a1,a2,⟨ns,b1,b2⟩,⟨gs,c1,c2⟩⟩:=h
  simp only [rd__law_copy,L2.start,cLst,rIxT,tRet,tOp,tVar,tC,tTup,tCons,tNil,tCB,rIxT,List.map,List.replicate,List.length,List.append,List.cons_append,List.nil_append,List.append_nil,List.getElem?_cons_zero,List.getElem?_cons_succ,Option.some.injEq,exists_eq_left',exists_eq_left,V.int.injEq,V.ref.injEq,V.str.injEq,V.bl.injEq,V.ty.injEq,List.cons.injEq,and_true,true_and,and_assoc,exists_and_left,List.set_cons_zero,List.set_cons_succ,Nat.reduceSub,Nat.reduceAdd,decide_eq_true_eq,Bool.not_eq_true',decide_eq_false_iff_not,Int.reduceToNat,Int.reducePow,Int.reduceNeg,Int.reduceMul,Int.reduceAdd,if_true,ite_true,Bool.false_eq_true,ite_false,if_false]
  refine ⟨_,SqT.of a1,_,rfl,_,SqT.of a1,_,rfl,nl,rfl,ns,.inl (SqL.of b1),fun l1 hl1=>?_⟩
  have t1:=isV (o:=HO.lst ns) l1 hl1
  refine ⟨_,SqT.of (t1 _ _ a1),_,rfl,gl,rfl,gs,.inl (SqL.of (t1 _ _ c1)),fun l2 hl2=>⟨by decide,fun l3 hl3=>?_⟩⟩
  have t2:=isV (o:=HO.lst gs) l2 hl2
  have t3:=isV (o:=HO.tup [o,V.ref l1,V.ref l2]) l3 hl3
  have T:=t1.trans (t2.trans t3)
  exact q _ _ T ⟨l3,o,l1,l2,rfl,upd_same,oc_same a2 T,⟨ns,(t2.trans t3) _ _ upd_same,prs_same T b2⟩,⟨gs,t3 _ _ upd_same,prs_same T c2⟩,hl1,fresh_of t1 hl2⟩
structure PsAt (H:Hp) (a:Addr) (P:List Pp):Prop where
  at_:∃ xs,H a=some (.lst xs)∧Paired (PpV H) xs P
  ok:∀ p∈P,ppOk p
  l3:P.length=3
theorem PsAt.same {H':Hp} {a:Addr} {P:List Pp} (h:PsAt H a P) (s:Same H H'):PsAt H' a P:=by
  obtain ⟨⟨xs,h1,h2⟩,h3,h4⟩:=h
  exact ⟨⟨xs,s _ _ h1,Paired.mapP h2 fun _ _ z=>z.same s⟩,h3,h4⟩
theorem PsAt.get {a:Addr} {P:List Pp} (h:PsAt H a P) {i:Nat} {p:Pp} (hp:P[i]?=some p):∃ xs v,H a=some (.lst xs)∧atI xs (i:Int)=some v∧PpV H v p∧ppOk p:=by
  obtain ⟨⟨xs,h1,h2⟩,h3,h4⟩:=h
  have hi:=(List.getElem?_eq_some_iff.mp hp).1
  have lx:=Paired.length h2
  have hv:xs[i]?=some xs[i]:=List.getElem?_eq_getElem (by omega)
  exact ⟨xs,xs[i],h1,atI_nat hv,paired_get h2 hv hp,h3 p (List.mem_of_getElem? hp)⟩
section
variable {a sh l pl hd:Addr} {c w:Int} {P:List Pp}
theorem rdp_lawB {D:Ends} {i j:Nat} {x y:Pp} {o:Option V} (hP:PsAt H hd P) (ex:P[i]?=some x) (ey:P[j]?=some y) (kf:KF K) (q:∀ o H',Same H H'→D.nx [some (.ref a),some (.int c),some (.ref sh),some (.int w),some (.ref l),some (.ref pl),some (.ref hd),some (.int i),some (.int j),some (.bl (metB x y)),o] H') :
    rd_law_B K t D [some (.ref a),some (.int c),some (.ref sh),some (.int w),some (.ref l),some (.ref pl),some (.ref hd),some (.int i),some (.int j),some (.bl (metB x y)),o] H:=by
  simp only [rd_law_B,sp_meet,L2.start,tSeq,tAsg,gName,tRet,tNext,tOp,tVar,tC,tCons,tNil,tIfS,tOr,tNot,tTest,tB,tCB,tCall,rIxL,rNe,cIsi,scal,List.map,List.replicate,List.length,List.append,List.cons_append,List.nil_append,List.append_nil,List.getElem?_cons_zero,List.getElem?_cons_succ,Option.some.injEq,exists_eq_left',exists_eq_left,V.int.injEq,V.ref.injEq,V.str.injEq,V.bl.injEq,V.ty.injEq,List.cons.injEq,and_true,true_and,and_assoc,exists_and_left,List.set_cons_zero,List.set_cons_succ,Nat.reduceSub,Nat.reduceAdd,decide_eq_true_eq,Bool.not_eq_true',decide_eq_false_iff_not,Int.reduceToNat,Int.reducePow,Int.reduceNeg,Int.reduceMul,Int.reduceAdd,if_true,ite_true,Bool.false_eq_true,ite_false,if_false]
  obtain ⟨xs,v,e1,e2,e3,e4⟩:=hP.get ex
  obtain ⟨ys,u,f1,f2,f3,f4⟩:=hP.get ey
  refine ⟨_,SqL.of e1,_,e2,_,SqL.of f1,_,f2,x,e3,y,f3,e4,f4,fun H1 s1=>⟨_,.bl _,true,kit_same "bool",?_⟩⟩
  rw [if_neg (by decide),if_neg (by simp)]
  exact q _ H1 s1
def lwI (σ0:Option V→Option V→Option V→Option V→St) (H0:Hp) (i:Nat) (σ:St) (H:Hp):Prop:=(∃ o1 o2 o3 o4,σ=σ0 o1 o2 o3 o4)∧Same H0 H
theorem rdp_law8 {o7 o8 o9 o10:Option V} (hP:PsAt H hd P) (hP2:PsAt H pl P) (q:∀ H',Q (.bl true) H') :
    rd_law_8 K t { nx:=fun _ H'=>Q .non H',rt:=Q } [some (.ref a),some (.int c),some (.ref sh),some (.int w),some (.ref l),some (.ref pl),some (.ref hd),o7,o8,o9,o10] H:=by
  simp only [rd_law_8,rEqD,L2.start,tRet,tOp,tVar,List.map,List.replicate,List.length,List.append,List.cons_append,List.nil_append,List.append_nil,List.getElem?_cons_zero,List.getElem?_cons_succ,Option.some.injEq,exists_eq_left',exists_eq_left,V.int.injEq,V.ref.injEq,V.str.injEq,V.bl.injEq,V.ty.injEq,List.cons.injEq,and_true,true_and,and_assoc,exists_and_left,List.set_cons_zero,List.set_cons_succ,Nat.reduceSub,Nat.reduceAdd,decide_eq_true_eq,Bool.not_eq_true',decide_eq_false_iff_not,Int.reduceToNat,Int.reducePow,Int.reduceNeg,Int.reduceMul,Int.reduceAdd,if_true,ite_true,Bool.false_eq_true,ite_false,if_false]
  obtain ⟨⟨xs,hx,px⟩,ok,_⟩:=hP
  obtain ⟨⟨ys,hy,py⟩,_,_⟩:=hP2
  have pl:=pps_plain ok
  have d1':plainD (.list (P.map ppDat))=true:=by rw [plainD];exact pl.1
  have d2':(PyData.list (P.map ppDat)).depth≤64:=by rw [PyData.depth];omega
  refine ⟨_,.lst (SqL.of hx) (pps_dat px),_,.lst (SqL.of hy) (pps_dat py),d1',d1',d2',d2',fun b hb=>?_⟩
  rw [hb.mpr rfl]
  exact q _
theorem rdp_law7 (hP:PsAt H hd P) (hP2:PsAt H pl P) (kf:KF K) (q:∀ H',Q (.bl true) H') :
    rd_law_7 K t { nx:=fun _ H'=>Q .non H',rt:=Q } [some (.ref a),some (.int c),some (.ref sh),some (.int w),some (.ref l),some (.ref pl),some (.ref hd),none,none,none,none] H:=by
  simp only [rd_law_7,sp__law_met,rEqD,L2.start,tSeq,tAsg,gName,tRet,tNext,tOp,tVar,tC,tCons,tNil,tFor,tIfS,tOr,tNot,tTest,tB,tOrV,tCB,tCall,iRng1,rIxL,rNe,cIsi,scal,List.map,List.replicate,List.length,List.append,List.cons_append,List.nil_append,List.append_nil,List.getElem?_cons_zero,List.getElem?_cons_succ,Option.some.injEq,exists_eq_left',exists_eq_left,V.int.injEq,V.ref.injEq,V.str.injEq,V.bl.injEq,V.ty.injEq,List.cons.injEq,and_true,true_and,and_assoc,exists_and_left,List.set_cons_zero,List.set_cons_succ,Nat.reduceSub,Nat.reduceAdd,decide_eq_true_eq,Bool.not_eq_true',decide_eq_false_iff_not,Int.reduceToNat,Int.reducePow,Int.reduceNeg,Int.reduceMul,Int.reduceAdd,if_true,ite_true,Bool.false_eq_true,ite_false,if_false]
  have l3:=hP.l3
  refine ⟨by decide,by decide,loop_range (lwI (fun o1 o2 o3 o4=>[some (.ref a),some (.int c),some (.ref sh),some (.int w),some (.ref l),some (.ref pl),some (.ref hd),o1,o2,o3,o4]) H) ⟨⟨_,_,_,_,rfl⟩,Same.refl _⟩ ?_ ?_⟩
  · rintro i σ H1 hi ⟨⟨o1,o2,o3,o4,rfl⟩,s1⟩
    have hi:i < 3:=hi
    simp only [sp__law_met,rEqD,L2.start,tSeq,tAsg,gName,tRet,tNext,tOp,tVar,tC,tCons,tNil,tFor,tIfS,tOr,tNot,tTest,tB,tOrV,tCB,tCall,iRng1,rIxL,rNe,cIsi,scal,List.map,List.replicate,List.length,List.append,List.cons_append,List.nil_append,List.append_nil,List.getElem?_cons_zero,List.getElem?_cons_succ,Option.some.injEq,exists_eq_left',exists_eq_left,V.int.injEq,V.ref.injEq,V.str.injEq,V.bl.injEq,V.ty.injEq,List.cons.injEq,and_true,true_and,and_assoc,exists_and_left,List.set_cons_zero,List.set_cons_succ,Nat.reduceSub,Nat.reduceAdd,decide_eq_true_eq,Bool.not_eq_true',decide_eq_false_iff_not,Int.reduceToNat,Int.reducePow,Int.reduceNeg,Int.reduceMul,Int.reduceAdd,if_true,ite_true,Bool.false_eq_true,ite_false,if_false,Int.zero_add]
    refine ⟨by decide,by decide,loop_range (lwI (fun o1 o2 o3 o4=>[some (.ref a),some (.int c),some (.ref sh),some (.int w),some (.ref l),some (.ref pl),some (.ref hd),some (.int i),o2,o3,o4]) H) ⟨⟨none,_,_,_,rfl⟩,s1⟩ ?_ ?_⟩
    · rintro j σ H2 hj ⟨⟨o1,o2,o3,o4,rfl⟩,s2⟩
      have hj:j < 3:=hj
      simp only [sp__law_met,rEqD,L2.start,tSeq,tAsg,gName,tRet,tNext,tOp,tVar,tC,tCons,tNil,tFor,tIfS,tOr,tNot,tTest,tB,tOrV,tCB,tCall,iRng1,rIxL,rNe,cIsi,scal,List.map,List.replicate,List.length,List.append,List.cons_append,List.nil_append,List.append_nil,List.getElem?_cons_zero,List.getElem?_cons_succ,Option.some.injEq,exists_eq_left',exists_eq_left,V.int.injEq,V.ref.injEq,V.str.injEq,V.bl.injEq,V.ty.injEq,List.cons.injEq,and_true,true_and,and_assoc,exists_and_left,List.set_cons_zero,List.set_cons_succ,Nat.reduceSub,Nat.reduceAdd,decide_eq_true_eq,Bool.not_eq_true',decide_eq_false_iff_not,Int.reduceToNat,Int.reducePow,Int.reduceNeg,Int.reduceMul,Int.reduceAdd,if_true,ite_true,Bool.false_eq_true,ite_false,if_false,Int.zero_add]
      have ex:P[i]?=some P[i]:=List.getElem?_eq_getElem (by omega)
      have ey:P[j]?=some P[j]:=List.getElem?_eq_getElem (by omega)
      obtain ⟨xs,v,e1,e2,e3,e4⟩:=(hP2.same s2).get ex
      obtain ⟨ys,u,f1,f2,f3,f4⟩:=(hP2.same s2).get ey
      refine ⟨_,SqL.of e1,_,e2,_,SqL.of f1,_,f2,_,e3,_,f3,e4,f4,fun H3 s3=>?_⟩
      have hh:=hP.same s2
      cases cb:givB P[i] P[j] with
      | true =>
        rw [if_pos rfl]
        have m:metB P[i] P[j]=true:=by unfold metB;rw [cb];rfl
        rw [← m]
        exact rdp_lawB (hh.same s3) ex ey kf fun o H4 s4=>⟨⟨none,_,_,_,rfl⟩,s2.trans (s3.trans s4)⟩
      | false =>
        rw [if_neg (by decide)]
        refine ⟨_,SqL.of (s3 _ _ f1),_,f2,_,SqL.of (s3 _ _ e1),_,e2,_,f3.same s3,_,e3.same s3,f4,e4,fun H4 s4=>?_⟩
        have m:givB P[j] P[i]=metB P[i] P[j]:=by unfold metB;rw [cb];rfl
        rw [m]
        exact rdp_lawB (hh.same (s3.trans s4)) ex ey kf fun o H5 s5=>⟨⟨none,_,_,_,rfl⟩,s2.trans (s3.trans (s4.trans s5))⟩
    · rintro σ H2 ⟨⟨o1,o2,o3,o4,rfl⟩,s2⟩
      exact ⟨⟨_,_,_,_,rfl⟩,s2⟩
  · rintro σ H1 ⟨⟨o1,o2,o3,o4,rfl⟩,s1⟩
    exact rdp_law8 (hP.same s1) (hP2.same s1) q
def hdR (P:List Pp) (D:Addr) (i:Nat) (ys:List V) (H:Hp):Prop:=Paired (PpD D H) ys (P.take i)
theorem rdp_law6 (hP2:PsAt H pl P) (kf:KF K) (q:∀ H',Q (.bl true) H') :
    rd_law_6 K t { nx:=fun _ H'=>Q .non H',rt:=Q } [some (.ref a),some (.int c),some (.ref sh),some (.int w),some (.ref l),some (.ref pl),none,none,none,none,none] H:=by
  simp only [rd_law_6,sp__law_copy,rEqD,L2.start,tSeq,tAsg,gName,tRet,tNext,tOp,tVar,tC,tCons,tNil,tFor,tIfS,tOr,tNot,tTest,tB,tOrV,tCB,tCall,tComp,tYes,capV,iRng1,iList,rIxL,rNe,cIsi,scal,List.map,List.replicate,List.length,List.append,List.cons_append,List.nil_append,List.append_nil,List.getElem?_cons_zero,List.getElem?_cons_succ,Option.some.injEq,exists_eq_left',exists_eq_left,V.int.injEq,V.ref.injEq,V.str.injEq,V.bl.injEq,V.ty.injEq,List.cons.injEq,and_true,true_and,and_assoc,exists_and_left,List.set_cons_zero,List.set_cons_succ,Nat.reduceSub,Nat.reduceAdd,decide_eq_true_eq,Bool.not_eq_true',decide_eq_false_iff_not,Int.reduceToNat,Int.reducePow,Int.reduceNeg,Int.reduceMul,Int.reduceAdd,if_true,ite_true,Bool.false_eq_true,ite_false,if_false]
  obtain ⟨xs,hx,px⟩:=hP2.at_
  have lx:=Paired.length px
  have l3:=hP2.l3
  refine ⟨⟨_,SqL.of hx⟩,fun D hD=>?_⟩
  refine comp_inv2 (J:=Itl K pl) xs.length (by omega) (fun τ=>∃ o,τ=[o]) (hdR P D) (fun i ys H H' hz k h=>ppd_keep hz k h) ⟨_,rfl⟩ .nil (fun i H s h=>⟨_,_,SqL.of (s _ _ hx),List.getElem?_eq_getElem h⟩) (fun H s=>⟨_,SqL.of (s _ _ hx),Nat.le_refl _⟩) hD ?_ ?_
  · rintro i v τ us H4 H5 ⟨o0,rfl⟩ s4 hi hR hDs ⟨rfl,hv⟩
    have hv:=hv _ (SqL.of (s4 _ _ hx))
    obtain ⟨pp,hp,hpv⟩:=Paired.getP px hv
    simp only [sp__law_copy,rEqD,L2.start,tSeq,tAsg,gName,tRet,tNext,tOp,tVar,tC,tCons,tNil,tFor,tIfS,tOr,tNot,tTest,tB,tOrV,tCB,tCall,tComp,tYes,capV,iRng1,iList,rIxL,rNe,cIsi,scal,List.map,List.replicate,List.length,List.append,List.cons_append,List.nil_append,List.append_nil,List.getElem?_cons_zero,List.getElem?_cons_succ,Option.some.injEq,exists_eq_left',exists_eq_left,V.int.injEq,V.ref.injEq,V.str.injEq,V.bl.injEq,V.ty.injEq,List.cons.injEq,and_true,true_and,and_assoc,exists_and_left,List.set_cons_zero,List.set_cons_succ,Nat.reduceSub,Nat.reduceAdd,decide_eq_true_eq,Bool.not_eq_true',decide_eq_false_iff_not,Int.reduceToNat,Int.reducePow,Int.reduceNeg,Int.reduceMul,Int.reduceAdd,if_true,ite_true,Bool.false_eq_true,ite_false,if_false]
    refine ⟨pp,hpv.same s4,fun v' H6 s6 hn=>⟨⟨_,rfl⟩,?_,s6⟩⟩
    unfold hdR at hR ⊢
    rw [List.take_add_one,hp]
    obtain ⟨r,o,nl,gl,e0,a1,a2,a3,a4,a5,a6⟩:=hn
    exact Paired.snocP (Paired.mapP hR fun _ _ z=>z.same s6) ⟨r,o,nl,gl,e0,a1,a2,a3,a4,(fun z=>by rw [z,hDs] at a5;cases a5),fun z=>by rw [z,hDs] at a6;cases a6⟩
  · rintro us H4 hle hR s4 hDl
    unfold hdR at hR
    rw [lx,List.take_length] at hR
    exact rdp_law7 ⟨⟨us,hDl,Paired.mapP hR fun _ _ z=>z.v⟩,hP2.ok,l3⟩ (hP2.same s4) kf q
theorem rdp_law5 {l0 l1:Addr} {d:Bool→Bool→Addr} {R:Bool→Bool→List Row} (D:DsAt H l l0 l1 d R 65) (kf:KF K) (q:∀ H',Q (.bl true) H') :
    rd_law_5 K t { nx:=fun _ H'=>Q .non H',rt:=Q } [some (.ref a),some (.int c),some (.ref sh),some (.int w),some (.ref l),none,none,none,none,none,none] H:=by
  simp only [rd_law_5,sp__law_paper,rEqD,L2.start,tSeq,tAsg,gName,tRet,tNext,tOp,tVar,tC,tLst,tTup,tCons,tNil,tFor,tIfS,tOr,tNot,tTest,tB,tOrV,tCB,tCall,tComp,tYes,capV,iRng1,iList,rIxL,rNe,cIsi,scal,List.map,List.replicate,List.length,List.append,List.cons_append,List.nil_append,List.append_nil,List.getElem?_cons_zero,List.getElem?_cons_succ,Option.some.injEq,exists_eq_left',exists_eq_left,V.int.injEq,V.ref.injEq,V.str.injEq,V.bl.injEq,V.ty.injEq,List.cons.injEq,and_true,true_and,and_assoc,exists_and_left,List.set_cons_zero,List.set_cons_succ,Nat.reduceSub,Nat.reduceAdd,decide_eq_true_eq,Bool.not_eq_true',decide_eq_false_iff_not,Int.reduceToNat,Int.reducePow,Int.reduceNeg,Int.reduceMul,Int.reduceAdd,if_true,ite_true,Bool.false_eq_true,ite_false,if_false]
  refine ⟨_,SqL.of D.hl,_,rfl,l0,rfl,_,_,D.h0,_,D.hd false false,_,D.hd false true,D.ln _ _,D.ln _ _,D.ok _ _,D.ok _ _,by decide,by decide,fun v0 P0 H1 s1 p0 k0=>?_⟩
  have D1:=D.same s1
  refine ⟨_,SqL.of D1.hl,_,rfl,l1,rfl,_,_,D1.h1,_,D1.hd true false,_,D1.hd true true,D.ln _ _,D.ln _ _,D.ok _ _,D.ok _ _,by decide,by decide,fun v1 P1 H2 s2 p1 k1=>?_⟩
  refine ⟨by decide,fun q0 h0=>⟨by decide,fun q1 h1=>⟨by decide,fun q2 h2=>⟨by decide,fun q3 h3=>⟨by decide,fun q4 h4=>⟨by decide,fun q5 h5=>?_⟩⟩⟩⟩⟩⟩
  have t0:=isV (o:=HO.tup []) q0 h0
  have t1:=isV (o:=HO.tup [V.str (Str.ofString "done"),V.ref q0]) q1 h1
  have t2:=isV (o:=HO.lst []) q2 h2
  have t3:=isV (o:=HO.lst []) q3 h3
  have t4:=isV (o:=HO.tup [V.ref q1,V.ref q2,V.ref q3]) q4 h4
  have t5:=isV (o:=HO.lst [v0,v1,V.ref q4]) q5 h5
  have T4:=t4.trans t5
  have T3:=t3.trans T4
  have T2:=t2.trans T3
  have T1:=t1.trans T2
  have T:=t0.trans T1
  refine rdp_law6 (P:=[P0,P1,⟨.done [],[],[]⟩]) ⟨⟨_,upd_same,.cons (p0.same (s2.trans T)) (.cons (p1.same T) (.cons ⟨q4,.ref q1,q2,q3,rfl,t5 _ _ upd_same,⟨q1,q0,rfl,T2 _ _ upd_same,T1 _ _ upd_same⟩,⟨[],T3 _ _ upd_same,.nil⟩,⟨[],T4 _ _ upd_same,.nil⟩⟩ .nil))⟩,fun x hx=>?_,rfl⟩ kf q
  rcases List.mem_cons.mp hx with rfl | hx
  · exact k0
  · rcases List.mem_cons.mp hx with rfl | hx
    · exact k1
    · rw [List.mem_singleton.mp hx]
      exact ⟨Nat.zero_le _,Nat.zero_le _,(fun r h=>nomatch h),(fun r h=>nomatch h),fun w e=>nomatch e⟩
theorem rdp_law3 {ns:List Int} {ws:List Str} (hS:SqL K H a (ns.map V.int)) (hn:ns.length≤63) (h3:NamesAt H sh ws) (l3:ws.length=3) (w1:2≤w) (w2:w≤41) (kf:KF K) (q:∀ H',Q (.bl true) H') :
    rd_law_3 K t { nx:=fun _ H'=>Q .non H',rt:=Q } [some (.ref a),some (.int c),some (.ref sh),some (.int w),none,none,none,none,none,none,none] H:=by
  simp only [rd_law_3,rd_law_4,sp__law_drawn,sp__law_apart,sp__law_draw,rEqD,L2.start,tSeq,tAsg,gName,tRet,tNext,tOp,tVar,tC,tLst,tTup,tCons,tNil,tFor,tIfS,tOr,tNot,tTest,tB,tOrV,tCB,tCall,tComp,tYes,capV,iRng1,iList,rIxL,rEq,rNe,rI,cIsi,scal,List.map,List.replicate,List.length,List.append,List.cons_append,List.nil_append,List.append_nil,List.getElem?_cons_zero,List.getElem?_cons_succ,Option.some.injEq,exists_eq_left',exists_eq_left,V.int.injEq,V.ref.injEq,V.str.injEq,V.bl.injEq,V.ty.injEq,List.cons.injEq,and_true,true_and,and_assoc,exists_and_left,List.set_cons_zero,List.set_cons_succ,Nat.reduceSub,Nat.reduceAdd,decide_eq_true_eq,Bool.not_eq_true',decide_eq_false_iff_not,Int.reduceToNat,Int.reducePow,Int.reduceNeg,Int.reduceMul,Int.reduceAdd,if_true,ite_true,Bool.false_eq_true,ite_false,if_false]
  refine ⟨ns,hS,hn,ws,h3,l3,w1,w2,fun l l0 l1 d R H1 s1 D=>⟨by decide,by decide,fun r H2 _ _ s2=>⟨by decide,ite2 (fun _=>?_) fun _=>rdp_law5 (D.same s2) kf q⟩⟩⟩
  have S:=s1.trans s2
  exact ⟨ns,hS.mono S,hn,ws,h3.same S,l3,w1,w2,fun l l0 l1 d R H3 s3 D=>rdp_law5 D kf q⟩
end
theorem rdp_law {a:Addr} {ns:List Int} (kf:KF K) (hS:SqL K H a (ns.map V.int)) (hn:ns.length≤63) (q:∀ H',Q (.bl true) H') :
    rd_law K t { nx:=fun _ H'=>Q .non H',rt:=Q } (L2.start ["script","first","shelves","wide","pairs","papers","handed","k","j","due","told"] [.ref a]) H:=by
  simp only [rd_law,sp__law_cell_at,sp__law_shelves,sp__law_draw,rEqD,L2.start,tSeq,tAsg,gName,tRet,tNext,tOp,tVar,tC,tLst,tTup,tCons,tNil,tFor,tIfS,tOr,tNot,tTest,tB,tOrV,tCB,tCall,tComp,tYes,capV,iRng1,iList,rIxL,rEq,rNe,rI,rI0,cIsi,scal,List.map,List.replicate,List.length,List.append,List.cons_append,List.nil_append,List.append_nil,List.getElem?_cons_zero,List.getElem?_cons_succ,Option.some.injEq,exists_eq_left',exists_eq_left,V.int.injEq,V.ref.injEq,V.str.injEq,V.bl.injEq,V.ty.injEq,List.cons.injEq,and_true,true_and,and_assoc,exists_and_left,List.set_cons_zero,List.set_cons_succ,Nat.reduceSub,Nat.reduceAdd,decide_eq_true_eq,Bool.not_eq_true',decide_eq_false_iff_not,Int.reduceToNat,Int.reducePow,Int.reduceNeg,Int.reduceMul,Int.reduceAdd,if_true,ite_true,Bool.false_eq_true,ite_false,if_false]
  refine ⟨ns,0,rfl,hS,hn,fun c1 H1 s1=>⟨ns,1,rfl,hS.mono s1,hn,fun c2 H2 s2 sh ws H3 s3 h3 l3=>⟨by decide,by decide,fun r H4 _ _ s4=>⟨by decide,?_⟩⟩⟩⟩
  exact rdp_law3 (hS.mono (s1.trans (s2.trans (s3.trans s4)))) hn (h3.same s4) l3 (by omega) (by omega) kf q
section
variable {a s l l0 l1 cl:Addr} {w:Int} {d:Bool→Bool→Addr} {ws:List Str} {cs:List Int} {H0:Hp} {R:Bool→Bool→List Row}
theorem last3 (x r:Int) (n:Nat) (hn:0 < n):∃ k:Int,atI [V.int 0,V.int ((n:Int) - 1),V.int (r % n)] (x % 3)=some (.int k)∧0≤k∧k < n:=by
  have cx:x % 3=0∨x % 3=1∨x % 3=2:=by omega
  have g1:=Int.emod_nonneg r (b:=n) (by omega)
  have g2:=Int.emod_lt_of_pos r (b:=n) (by omega)
  rcases cx with cx | cx | cx <;> rw [cx]
  · exact ⟨0,rfl,by omega,by omega⟩
  · exact ⟨_,rfl,by omega,by omega⟩
  · exact ⟨_,rfl,g1,g2⟩
theorem w_sq (h5:2≤w) (h6:w≤41):0 < w * w∧w * w≤1681:=by
  have h1:0 < w * w:=Int.mul_pos (by omega) (by omega)
  have h2:w * w≤41 * 41:=Int.mul_le_mul h6 h6 (by omega) (by omega)
  exact ⟨h1,by omega⟩
theorem rdp_apart3 {o5 o6 o7:Option V} (D:DsAt H l l0 l1 d R 63) (hc:H cl=some (.lst (cs.map V.int))) (lc:cs.length≤63) (hs:NamesAt H s ws) (hl:ws.length=3) (h5:2≤w) (h6:w≤41) (F0:∀ i j,H0 (d i j)=none) (S:Same H0 H) (q:∀ l l0 l1 d R H',Same H0 H'→DsAt H' l l0 l1 d R 65→Q (.ref l) H') :
    rd__law_apart_3 K t { nx:=fun _ H'=>Q .non H',rt:=Q } [some (.ref a),some (.ref s),some (.int w),some (.ref l),some (.ref cl),o5,o6,o7,none] H:=by
  simp only [rd__law_apart_3,sp__law_draw,sDPut,rNeNil,L2.start,tSeq,tAsg,gName,tRet,tNext,tOp,tVar,tC,tLst,tTup,tCons,tNil,tIfS,tAnd,tTest,tCB,tCall,LenV,rIxL,rI,rI0,cLen,List.map,List.replicate,List.length,List.append,List.cons_append,List.nil_append,List.append_nil,List.getElem?_cons_zero,List.getElem?_cons_succ,Option.some.injEq,exists_eq_left',exists_eq_left,V.int.injEq,V.ref.injEq,V.str.injEq,V.bl.injEq,V.ty.injEq,List.cons.injEq,and_true,true_and,and_assoc,exists_and_left,List.set_cons_zero,List.set_cons_succ,Nat.reduceSub,Nat.reduceAdd,decide_eq_true_eq,Bool.not_eq_true',decide_eq_false_iff_not,Int.reduceToNat,Int.reducePow,Int.reduceNeg,Int.reduceMul,Int.reduceAdd,if_true,ite_true,Bool.false_eq_true,ite_false,if_false]
  have hb:(1000000000000000000000000000000000000000000000000000000000000:Int) < big:=by decide +kernel
  obtain ⟨w1,w2⟩:=w_sq h5 h6
  refine ⟨by decide,fun p hp=>⟨_,SqL.of (isV p hp _ _ hc),SqL.of upd_same,?_⟩⟩
  have s1:=isV (o:=HO.lst []) p hp
  generalize upd H p (HO.lst [])=H1 at *
  refine ite2 (fun cn=>?_) fun _=>q l l0 l1 d R H1 (S.trans s1) ((D.same s1).up (by omega))
  have lpos:0 < cs.length:=by
    cases cs with
    | nil=>exact absurd rfl cn
    | cons _ _=>exact Nat.succ_pos _
  have hc1:=s1 _ _ hc
  obtain ⟨c0,e0⟩:∃ c0,cs[0]?=some c0:=⟨_,List.getElem?_eq_getElem lpos⟩
  have a0:atI (cs.map V.int) 0=some (.int c0):=atI_nat (j:=0) (by rw [List.getElem?_map,e0];rfl)
  have lm:(cs.map V.int).length=cs.length:=List.length_map ..
  refine ⟨_,SqL.of hc1,_,a0,c0,rfl,by decide,by decide,fun r1 H2 _ _ s2=>⟨by decide,ite2 (fun _=>?_) fun _=>q l l0 l1 d R H2 (S.trans (s1.trans s2)) ((D.same (s1.trans s2)).up (by omega))⟩⟩
  have hc2:=s2 _ _ hc1
  refine ⟨cs.length,.inl ⟨_,SqL.of hc2,lm.symm⟩,_,SqL.of hc2,_,a0,c0,rfl,by decide,by decide,fun r2 H3 _ _ s3=>⟨cs.length,.inl ⟨_,SqL.of (s3 _ _ hc2),lm.symm⟩,by omega,by decide,fun p2 hp2=>?_⟩⟩
  have s4:=isV (o:=HO.lst [V.int 0,V.int ((cs.length:Int) - 1),V.int (r2 % cs.length)]) p2 hp2
  have e4:upd H3 p2 (HO.lst [V.int 0,V.int ((cs.length:Int) - 1),V.int (r2 % cs.length)]) p2=some (.lst [V.int 0,V.int ((cs.length:Int) - 1),V.int (r2 % cs.length)]):=upd_same
  generalize upd H3 p2 (HO.lst [V.int 0,V.int ((cs.length:Int) - 1),V.int (r2 % cs.length)])=H4 at *
  have hc4:=(s3.trans s4) _ _ hc2
  refine ⟨_,SqL.of hc4,_,a0,c0,rfl,by decide,by decide,fun r3 H5 _ _ s5=>⟨by decide,?_⟩⟩
  obtain ⟨kk,ek,k0,k1⟩:=last3 r3 r2 cs.length lpos
  obtain ⟨v,ev,mv⟩:=at_lt (xs:=cs.map V.int) (i:=kk) k0 (by omega)
  obtain ⟨ck,_,rfl⟩:=List.mem_map.mp mv
  have hc5:=s5 _ _ hc4
  have S5:=s1.trans (s2.trans (s3.trans (s4.trans s5)))
  refine ⟨_,SqL.of (s5 _ _ e4),_,ek,_,kk,rfl,SqL.of hc5,_,ev,ck,rfl,by decide,by decide,fun r4 H6 _ _ s6=>⟨by decide,?_⟩⟩
  obtain ⟨x,hx,_,hn⟩:=names_at (hs.same (S5.trans s6)) 3 hl (by decide) r4
  refine ⟨_,SqL.of ((S5.trans s6) _ _ hs.1),_,hx,_,kk,rfl,SqL.of (s6 _ _ hc5),_,ev,ck,rfl,by decide,by decide,fun r5 H7 _ _ s7=>?_⟩
  have g1:=Int.emod_nonneg r5 (b:=w * w) (by omega)
  have g2:=Int.emod_lt_of_pos r5 (b:=w * w) (by omega)
  refine ⟨⟨⟨by omega,by omega⟩,by omega,by omega⟩,w1,⟨⟨by omega,by omega⟩,by omega,by omega⟩,by decide,fun pq hpq=>?_⟩
  have s8:=isV (o:=HO.tup [V.str x,V.int (2 * (r5 % (w * w)))]) pq hpq
  have e8:upd H7 pq (HO.tup [V.str x,V.int (2 * (r5 % (w * w)))]) pq=some (.tup [.str (x,2 * (r5 % (w * w))).1,.int (x,2 * (r5 % (w * w))).2]):=upd_same
  generalize upd H7 pq (HO.tup [V.str x,V.int (2 * (r5 % (w * w)))])=H8 at *
  have S8:=S5.trans (s6.trans (s7.trans s8))
  have D8:=D.same S8
  have hc8:=S8 _ _ hc
  refine ⟨_,SqL.of D8.hl,_,rfl,_,SqL.of hc8,_,a0,c0,rfl,by decide,by decide,fun r6 H9 _ _ s9=>⟨by decide,l0,rfl,_,SqL.of (s9 _ _ D8.h0),?_⟩⟩
  obtain ⟨j1,q1⟩:=ds_at2 d false r6
  obtain ⟨HA,y1,y2,y3⟩:=(D8.same s9).put (w:=5) (by omega) false j1 (s9 _ _ e8) (name_ok hn)
  have nl:∀ {b:Addr} {xs:List V},H9 b=some (.lst xs)→∀ i j,b≠d i j:=fun e i j=>ne_of e (s9 _ _ (D8.hd i j)) (fun z=>nomatch z)
  have nt:∀ {b:Addr} {xs:List V},H9 b=some (.tup xs)→∀ i j,b≠d i j:=fun e i j=>ne_of e (s9 _ _ (D8.hd i j)) (fun z=>nomatch z)
  have hcA:=y3 _ _ (nl (s9 _ _ hc8)) (s9 _ _ hc8)
  have eA:=y3 _ _ (nt (s9 _ _ e8)) (s9 _ _ e8)
  refine ⟨_,q1,_,rfl,HA,y1,_,SqL.of y2.hl,_,rfl,_,SqL.of hcA,_,a0,c0,rfl,by decide,by decide,fun r7 HB _ _ sB=>⟨by decide,l1,rfl,_,SqL.of (sB _ _ y2.h1),?_⟩⟩
  obtain ⟨j2,q2⟩:=ds_at2 d true r7
  obtain ⟨HC,z1,z2,z3⟩:=(y2.same sB).put (w:=0) (by omega) true j2 (sB _ _ eA) (name_ok hn)
  refine ⟨_,q2,_,rfl,HC,z1,q l l0 l1 d _ HC (fun b o e=>?_) z2⟩
  have nb:∀ i j,b≠d i j:=fun i j z=>by rw [z,F0] at e;cases e
  exact z3 b o nb (sB _ _ (y3 b o nb ((S8.trans s9) _ _ (S _ _ e))))
def apI (σ0:Option V→Option V→Option V→St) (d:Bool→Bool→Addr) (l l0 l1:Addr) (H0:Hp) (i:Nat) (σ:St) (H:Hp):Prop:=(∃ o1 o2 o3,σ=σ0 o1 o2 o3)∧(∀ b o,(∀ i j,b≠d i j)→H0 b=some o→H b=some o)∧∃ R,DsAt H l l0 l1 d R i
theorem rdp_apart2 (D:DsAt H l l0 l1 d R 0) (hc:H cl=some (.lst (cs.map V.int))) (lc:cs.length≤63) (hs:NamesAt H s ws) (hl:ws.length=3) (h5:2≤w) (h6:w≤41) (F0:∀ i j,H0 (d i j)=none) (S:Same H0 H) (q:∀ l l0 l1 d R H',Same H0 H'→DsAt H' l l0 l1 d R 65→Q (.ref l) H') :
    rd__law_apart_2 K t { nx:=fun _ H'=>Q .non H',rt:=Q } [some (.ref a),some (.ref s),some (.int w),some (.ref l),some (.ref cl),none,none,none,none] H:=by
  simp only [rd__law_apart_2,sp__law_draw,sp__law_worth,sDPut,rNeNil,L2.start,tSeq,tAsg,gName,tRet,tNext,tOp,tVar,tC,tLst,tTup,tCons,tNil,tFor,tIfS,tAnd,tTest,tCB,tCall,LenV,iRng1,rIxL,rI,rI0,cLen,List.map,List.replicate,List.length,List.append,List.cons_append,List.nil_append,List.append_nil,List.getElem?_cons_zero,List.getElem?_cons_succ,Option.some.injEq,exists_eq_left',exists_eq_left,V.int.injEq,V.ref.injEq,V.str.injEq,V.bl.injEq,V.ty.injEq,List.cons.injEq,and_true,true_and,and_assoc,exists_and_left,List.set_cons_zero,List.set_cons_succ,Nat.reduceSub,Nat.reduceAdd,decide_eq_true_eq,Bool.not_eq_true',decide_eq_false_iff_not,Int.reduceToNat,Int.reducePow,Int.reduceNeg,Int.reduceMul,Int.reduceAdd,if_true,ite_true,Bool.false_eq_true,ite_false,if_false]
  have hb:(1000000000000000000000000000000000000000000000000000000000000:Int) < big:=by decide +kernel
  obtain ⟨w1,w2⟩:=w_sq h5 h6
  have lm:(cs.map V.int).length=cs.length:=List.length_map ..
  have nl:∀ {b:Addr} {xs:List V},H b=some (.lst xs)→∀ i j,b≠d i j:=fun e i j=>ne_of e (D.hd i j) (fun z=>nomatch z)
  refine ⟨cs.length,.inl ⟨_,SqL.of hc,lm.symm⟩,by omega,by omega,loop_range (apI (fun o1 o2 o3=>[some (.ref a),some (.ref s),some (.int w),some (.ref l),some (.ref cl),o1,o2,o3,none]) d l l0 l1 H) ⟨⟨_,_,_,rfl⟩,fun b o _ e=>e,_,D⟩ ?_ ?_⟩
  · rintro i σ H' hi ⟨⟨o1,o2,o3,rfl⟩,kp,R,D'⟩
    have hi:i < cs.length:=by omega
    simp only [sp__law_draw,sp__law_worth,sDPut,rNeNil,L2.start,tSeq,tAsg,gName,tRet,tNext,tOp,tVar,tC,tLst,tTup,tCons,tNil,tFor,tIfS,tAnd,tTest,tCB,tCall,LenV,iRng1,rIxL,rI,rI0,cLen,List.map,List.replicate,List.length,List.append,List.cons_append,List.nil_append,List.append_nil,List.getElem?_cons_zero,List.getElem?_cons_succ,Option.some.injEq,exists_eq_left',exists_eq_left,V.int.injEq,V.ref.injEq,V.str.injEq,V.bl.injEq,V.ty.injEq,List.cons.injEq,and_true,true_and,and_assoc,exists_and_left,List.set_cons_zero,List.set_cons_succ,Nat.reduceSub,Nat.reduceAdd,decide_eq_true_eq,Bool.not_eq_true',decide_eq_false_iff_not,Int.reduceToNat,Int.reducePow,Int.reduceNeg,Int.reduceMul,Int.reduceAdd,if_true,ite_true,Bool.false_eq_true,ite_false,if_false,Int.zero_add]
    obtain ⟨c,e0⟩:∃ c0,cs[i]?=some c0:=⟨_,List.getElem?_eq_getElem hi⟩
    have a0:atI (cs.map V.int) (i:Int)=some (.int c):=atI_nat (by rw [List.getElem?_map,e0];rfl)
    have hc':=kp _ _ (nl hc) hc
    refine ⟨_,SqL.of hc',_,a0,c,rfl,by decide,by decide,fun r1 H1 _ _ s1=>⟨by decide,_,SqL.of (s1 _ _ hc'),_,a0,c,rfl,by decide,by decide,fun r2 H2 _ _ s2=>⟨by decide,?_⟩⟩⟩
    have S2:=s1.trans s2
    have hs':NamesAt H2 s ws:=⟨S2 _ _ (kp _ _ (nl hs.1) hs.1),hs.2⟩
    obtain ⟨x,hx,_,hn⟩:=names_at hs' 3 hl (by decide) r2
    refine ⟨_,SqL.of hs'.1,_,hx,_,SqL.of (S2 _ _ hc'),_,a0,c,rfl,by decide,by decide,fun r3 H3 _ _ s3=>?_⟩
    have g1:=Int.emod_nonneg r3 (b:=w * w) (by omega)
    have g2:=Int.emod_lt_of_pos r3 (b:=w * w) (by omega)
    refine ⟨⟨⟨by omega,by omega⟩,by omega,by omega⟩,w1,⟨⟨by omega,by omega⟩,by omega,by omega⟩,by decide,fun pq hpq=>?_⟩
    have s4:=isV (o:=HO.tup [V.str x,V.int (2 * (r3 % (w * w)) + r1 % 2)]) pq hpq
    have e4:upd H3 pq (HO.tup [V.str x,V.int (2 * (r3 % (w * w)) + r1 % 2)]) pq=some (.tup [.str (x,2 * (r3 % (w * w)) + r1 % 2).1,.int (x,2 * (r3 % (w * w)) + r1 % 2).2]):=upd_same
    generalize upd H3 pq (HO.tup [V.str x,V.int (2 * (r3 % (w * w)) + r1 % 2)])=H4 at *
    have S4:=S2.trans (s3.trans s4)
    refine ⟨_,SqL.of (S4 _ _ hc'),_,a0,c,rfl,by decide,by decide,fun wo H5 s5=>?_⟩
    obtain ⟨i1,la,q1,q2⟩:=ds_at1 D' r1
    have S5:=S4.trans s5
    refine ⟨_,SqL.of (S5 _ _ D'.hl),_,q1,_,SqL.of (S5 _ _ hc'),_,a0,c,rfl,by decide,by decide,fun r5 H6 _ _ s6=>⟨by decide,la,rfl,_,SqL.of ((S5.trans s6) _ _ q2),?_⟩⟩
    obtain ⟨j1,q3⟩:=ds_at2 d i1 r5
    have S6:=S5.trans s6
    obtain ⟨H7,g1,g2,g3⟩:=(D'.same S6).put (w:=wo) (by omega) i1 j1 ((s5.trans s6) _ _ e4) (name_ok hn)
    exact ⟨_,q3,_,rfl,H7,g1,⟨_,_,_,rfl⟩,fun b o n e=>g3 b o n (S6 _ _ (kp b o n e)),_,g2⟩
  · rintro σ H' ⟨⟨o1,o2,o3,rfl⟩,kp,R,D'⟩
    have S':Same H0 H':=fun b o e=>kp b o (fun i j z=>by rw [z,F0] at e;cases e) (S _ _ e)
    exact rdp_apart3 (D'.up (by omega)) (kp _ _ (nl hc) hc) lc ⟨kp _ _ (nl hs.1) hs.1,hs.2⟩ hl h5 h6 F0 S' q
theorem rdp__law_apart {ns:List Int} (h1:SqL K H a (ns.map V.int)) (h2:ns.length≤63) (h3:NamesAt H s ws) (h4:ws.length=3) (h5:2≤w) (h6:w≤41) (q:∀ l l0 l1 d R H',Same H H'→DsAt H' l l0 l1 d R 65→Q (.ref l) H') :
    rd__law_apart K t { nx:=fun _ H'=>Q .non H',rt:=Q } (L2.start ["script","shelves","wide","papers","cells","k","which","place","last"] [.ref a,.ref s,.int w]) H:=by
  simp only [rd__law_apart,rd__law_apart_1,sDPut,tDNewT,rNeNil,L2.start,tSeq,tAsg,gName,tRet,tNext,tOp,tVar,tC,tLst,tTup,tCons,tNil,tFor,tIfS,tAnd,tTest,tCB,tSl,tPart,tNoPart,tCall,LenV,iRng1,rIxL,rI,rI0,rSlL,cLen,List.map,List.replicate,List.length,List.append,List.cons_append,List.nil_append,List.append_nil,List.getElem?_cons_zero,List.getElem?_cons_succ,Option.some.injEq,exists_eq_left',exists_eq_left,V.int.injEq,V.ref.injEq,V.str.injEq,V.bl.injEq,V.ty.injEq,List.cons.injEq,and_true,true_and,and_assoc,exists_and_left,List.set_cons_zero,List.set_cons_succ,Nat.reduceSub,Nat.reduceAdd,decide_eq_true_eq,Bool.not_eq_true',decide_eq_false_iff_not,Int.reduceToNat,Int.reducePow,Int.reduceNeg,Int.reduceMul,Int.reduceAdd,if_true,ite_true,Bool.false_eq_true,ite_false,if_false]
  intro x00 k00 x01 k01
  refine ⟨by decide,fun l0 k0 x10 k10 x11 k11=>⟨by decide,fun l1 k1=>⟨by decide,fun l k=>?_⟩⟩⟩
  obtain ⟨d,S0,D0,F0⟩:=ds_new rfl k00 rfl k01 rfl k0 rfl k10 rfl k11 rfl k1 rfl k
  generalize upd (upd (upd (upd (upd (upd (upd H x00 _) x01 _) l0 _) x10 _) x11 _) l1 _) l _=H7 at S0 D0 ⊢
  refine ⟨_,h1.mono S0,fun cl hcl=>?_⟩
  obtain ⟨cs,ec,lc⟩:=cut_one ns none (some 240)
  rw [ec]
  have s1:=isV (o:=HO.lst (cs.map V.int)) cl hcl
  exact rdp_apart2 (H0:=H) (D0.same s1) upd_same (by omega) (h3.same (S0.trans s1)) h4 h5 h6 F0 (S0.trans s1) q
end
end
section
variable {P:Program} {w:World} {K:PySem.W.Frag} {mg:Str→Option Value} {base:Heap} {t:Adr}
theorem ok__law_cell_at (T:Txt K mg t):FnOk P w K mg base CX0 1 t.a__law_cell_at t.d__law_cell_at ["script","k"] (sp__law_cell_at K):=by
  refine T.f__law_cell_at.ok sc__law_cell_at (fun vs H Q E h=>?_) (fun cdv A outer s H vs Q E hr h=>?_)
  · obtain ⟨a,ns,k,rfl,_⟩:=h;rfl
  obtain ⟨a,ns,k,rfl,hS,hl,q⟩:=h
  exact ⟨rd__law_cell_at K t,(pss_cons (ps_if (pt_cmpR op_lt (pv 1) (pe_callB call_len rfl T.b_len bt_len (pa_cons (pv 0) pa_nil)) (nomark _)) (pss_one (ps_ret (pe_ix ix_list (pv 0) (pv 1) (fun _ _=>rfl))))
      pss_nil)
    (pss_one (ps_ret (pe_int (i:=0))))),rdp__law_cell_at hS hl q⟩
theorem ok__law_draw (T:Txt K mg t):FnOk P w K mg base CX0 1 t.a__law_draw t.d__law_draw ["cell","j"] (sp__law_draw):=by
  refine T.f__law_draw.ok sc__law_draw (fun vs H Q E h=>?_) (fun cdv A outer s H vs Q E hr h=>?_)
  · obtain ⟨c,j,rfl,_⟩:=h;rfl
  obtain ⟨c,j,rfl,h1,h2,q⟩:=h
  exact ⟨rd__law_draw K t,(pss_cons (ps_set (i:=2) sc__law_draw.nd rfl (Or.inl rfl) (pe_op op_mod (pe_op op_add (pe_op op_mulB (pe_op op_mod (pv 0) (pe_int (i:=1000000007))) (pe_int (i:=6700417))) (pe_op op_mulB (pe_op op_mulB (pe_op op_add (pv 1) (pe_int (i:=1))) (pe_int (i:=104729))) (pe_int (i:=65537)))) (pe_int (i:=1000000009))))
    (pss_one (ps_ret (pe_op op_fdivB (pe_op op_mod (pe_op op_mulB (pe_op op_mod (pe_op op_mulB (pv 2) (pv 2)) (pe_int (i:=1000000009))) (pv 2)) (pe_int (i:=1000000009))) (pe_int (i:=32)))))),rdp__law_draw h1 h2 q⟩
theorem ok__law_names (T:Txt K mg t):FnOk P w K mg base CX0 2 t.a__law_names t.d__law_names ["cell","many"] (sp__law_names):=by
  refine T.f__law_names.ok sc__law_names (fun vs H Q E h=>?_) (fun cdv A outer s H vs Q E hr h=>?_)
  · obtain ⟨c,m,rfl,_⟩:=h;rfl
  obtain ⟨c,m,rfl,h1,h2,q⟩:=h
  exact ⟨rd__law_names K t,(pss_cons (ps_set (i:=2) sc__law_names.nd rfl (Or.inl rfl) (pe_op op_add (pe_int (i:=1)) (pe_op op_mod (pe_call (FnOk.mono (ok__law_draw T) (by decide)) hr rfl T.m__law_draw T.f__law_draw.kp T.b__law_draw .nil pass0 (pa_cons (pv 0) (pa_cons (pe_int (i:=1)) pa_nil))) (pe_int (i:=6)))))
    (pss_cons (ps_set (i:=3) sc__law_names.nd rfl (Or.inr rfl) (pe_str (x:="zyxwvtsrqpnmlkjhgfdcb")))
    (pss_cons (ps_if (pt_cmpR op_eq (pv 2) (pe_int (i:=6)) (nomark _)) (pss_one (ps_set (i:=3) sc__law_names.nd rfl (Or.inr rfl) (pe_str (x:="zyxwvutsrqponmlkjihgfedcba"))))
      pss_nil)
    (pss_cons (ps_set (i:=4) sc__law_names.nd rfl (Or.inr rfl) (pe_str (x:="")))
    (pss_cons (ps_for PassesOwn.never rfl (pi_range1 rfl T.b_range (pa_cons (pv 2) pa_nil)) (pg_name (i:=5) sc__law_names.nd rfl (Or.inl rfl)) (pss_one (ps_set (i:=4) sc__law_names.nd rfl (Or.inr rfl) (pe_op op_add_str (pv 4) (pe_ix ix_str (pv 3) (pe_op op_mod (pe_call (FnOk.mono (ok__law_draw T) (by decide)) hr rfl T.m__law_draw T.f__law_draw.kp T.b__law_draw .nil pass0 (pa_cons (pv 0) (pa_cons (pe_op op_add (pe_int (i:=2)) (pv 5)) pa_nil))) (pe_callB call_len rfl T.b_len bt_len (pa_cons (pv 3) pa_nil))) (fun _ _=>rfl))))))
    (pss_cons (ps_set (i:=6) sc__law_names.nd rfl (Or.inr rfl) (pe_op op_mod (pe_call (FnOk.mono (ok__law_draw T) (by decide)) hr rfl T.m__law_draw T.f__law_draw.kp T.b__law_draw .nil pass0 (pa_cons (pv 0) (pa_cons (pe_int (i:=8)) pa_nil))) (pv 2)))
    (pss_cons (ps_set (i:=7) sc__law_names.nd rfl (Or.inl rfl) (pe_op op_mod (pe_call (FnOk.mono (ok__law_draw T) (by decide)) hr rfl T.m__law_draw T.f__law_draw.kp T.b__law_draw .nil pass0 (pa_cons (pv 0) (pa_cons (pe_int (i:=9)) pa_nil))) (pe_callB call_len rfl T.b_len bt_len (pa_cons (pv 3) pa_nil))))
    (pss_cons (ps_set (i:=3) sc__law_names.nd rfl (Or.inr rfl) (pe_op op_add_str (pe_slice sl_str (pv 3) (po_some (pv 7)) po_none) (pe_slice sl_str (pv 3) po_none (po_some (pv 7)))))
    (pss_one (ps_ret (pe_comp rfl (osc:=defScope s__law_names) (N:=["cell","many","size","signs","stem","k","at","turn"]) (xs:=["k"]) (ix:=[4,6,3]) (by decide +kernel) (pi_range1 rfl T.b_range (pa_cons (pv 1) pa_nil)) (fun _ _ _ _=>(pg_name (i:=0) (show List.Nodup (["k","stem","at","signs"]:List Str) from (by decide +kernel)) rfl (Or.inl rfl) (.inr rfl))) (fun _ _ _ _=>pts_nil) (fun _ _ _ _=>(pe_op op_add_str (pe_op op_add_str (pe_slice sl_str (pv 1) po_none (po_some (pv 2))) (pe_ix ix_str (pv 3) (pv 0) (fun _ _=>rfl))) (pe_slice sl_str (pv 1) (po_some (pe_op op_add (pv 2) (pe_int (i:=1)))) po_none)))))))))))))),rdp__law_names h1 h2 q⟩
theorem ok__law_shelves (T:Txt K mg t):FnOk P w K mg base CX0 3 t.a__law_shelves t.d__law_shelves ["cell","many"] (sp__law_shelves):=by
  refine T.f__law_shelves.ok sc__law_shelves (fun vs H Q E h=>?_) (fun cdv A outer s H vs Q E hr h=>?_)
  · obtain ⟨c,rfl,_⟩:=h;rfl
  obtain ⟨c,rfl,q⟩:=h
  exact ⟨rd__law_shelves K t,(pss_cons (ps_if (pt_cmpR op_gt (pe_op op_mod (pe_call (FnOk.mono (ok__law_draw T) (by decide)) hr rfl T.m__law_draw T.f__law_draw.kp T.b__law_draw .nil pass0 (pa_cons (pv 0) (pa_cons (pe_int (i:=11)) pa_nil))) (pe_int (i:=3))) (pe_int (i:=0)) (nomark _)) (pss_one (ps_ret (pe_call (FnOk.mono (ok__law_names T) (by decide)) hr rfl T.m__law_names T.f__law_names.kp T.b__law_names .nil pass0 (pa_cons (pv 0) (pa_cons (pv 1) pa_nil)))))
      pss_nil)
    (pss_cons (ps_set (i:=2) sc__law_shelves.nd rfl (Or.inl rfl) (pe_str (x:="zyxwvtsrqpnmlkjhgfdcb")))
    (pss_cons (ps_set (i:=3) sc__law_shelves.nd rfl (Or.inl rfl) (pe_op op_add_str (pe_ix ix_str (pv 2) (pe_op op_mod (pe_call (FnOk.mono (ok__law_draw T) (by decide)) hr rfl T.m__law_draw T.f__law_draw.kp T.b__law_draw .nil pass0 (pa_cons (pv 0) (pa_cons (pe_int (i:=12)) pa_nil))) (pe_int (i:=21))) (fun _ _=>rfl)) (pe_ix ix_str (pv 2) (pe_op op_mod (pe_call (FnOk.mono (ok__law_draw T) (by decide)) hr rfl T.m__law_draw T.f__law_draw.kp T.b__law_draw .nil pass0 (pa_cons (pv 0) (pa_cons (pe_int (i:=13)) pa_nil))) (pe_int (i:=21))) (fun _ _=>rfl))))
    (pss_cons (ps_set (i:=4) sc__law_shelves.nd rfl (Or.inl rfl) (pe_ix ix_str (pv 2) (pe_op op_mod (pe_call (FnOk.mono (ok__law_draw T) (by decide)) hr rfl T.m__law_draw T.f__law_draw.kp T.b__law_draw .nil pass0 (pa_cons (pv 0) (pa_cons (pe_int (i:=14)) pa_nil))) (pe_int (i:=21))) (fun _ _=>rfl)))
    (pss_cons (ps_set (i:=5) sc__law_shelves.nd rfl (Or.inr rfl) (pe_lst (pa_cons (pv 3) (pa_cons (pe_op op_add_str (pv 4) (pv 3)) (pa_cons (pe_srev (pv 3) (pe_un un_neg (pe_int (i:=1)))) (pa_cons (pe_op op_add_str (pv 3) (pv 4)) pa_nil))))))
    (pss_cons (ps_set (i:=6) sc__law_shelves.nd rfl (Or.inr rfl) (pe_op op_mod (pe_call (FnOk.mono (ok__law_draw T) (by decide)) hr rfl T.m__law_draw T.f__law_draw.kp T.b__law_draw .nil pass0 (pa_cons (pv 0) (pa_cons (pe_int (i:=15)) pa_nil))) (pe_int (i:=4))))
    (pss_one (ps_ret (pe_comp rfl (osc:=defScope s__law_shelves) (N:=["cell","many","signs","stem","more","some","turn"]) (xs:=["k"]) (ix:=[5,6]) (by decide +kernel) (pi_range1 rfl T.b_range (pa_cons (pv 1) pa_nil)) (fun _ _ _ _=>(pg_name (i:=0) (show List.Nodup (["k","some","turn"]:List Str) from (by decide +kernel)) rfl (Or.inl rfl) (.inr rfl))) (fun _ _ _ _=>pts_nil) (fun _ _ _ _=>(pe_ix ix_list (pv 1) (pe_op op_mod (pe_op op_add (pv 2) (pv 0)) (pe_int (i:=4))) (fun _ _=>rfl)))))))))))),rdp__law_shelves q⟩
theorem ok__law_worth (T:Txt K mg t):FnOk P w K mg base CX0 1 t.a__law_worth t.d__law_worth ["cell","j"] (sp__law_worth):=by
  refine T.f__law_worth.ok sc__law_worth (fun vs H Q E h=>?_) (fun cdv A outer s H vs Q E hr h=>?_)
  · obtain ⟨c,j,rfl,_⟩:=h;rfl
  obtain ⟨c,j,rfl,h1,h2,q⟩:=h
  exact ⟨rd__law_worth K t,(pss_one (ps_ret (pe_op op_sub (pe_op op_mod (pe_op op_add (pe_op op_mulB (pe_op op_mulB (pe_op op_mod (pv 0) (pe_op op_pow (pe_int (i:=10)) (pe_int (i:=40)))) (pe_op op_add (pv 1) (pe_int (i:=2)))) (pe_int (i:=1000003))) (pv 1)) (pe_op op_add (pe_op op_mulB (pe_int (i:=2)) (pe_op op_pow (pe_int (i:=10)) (pe_int (i:=30)))) (pe_int (i:=1)))) (pe_op op_pow (pe_int (i:=10)) (pe_int (i:=30)))))),rdp__law_worth h1 h2 q⟩
theorem ok__law_place (T:Txt K mg t):FnOk P w K mg base CX0 2 t.a__law_place t.d__law_place ["cell","shelves","wide"] (sp__law_place):=by
  refine T.f__law_place.ok sc__law_place (fun vs H Q E h=>?_) (fun cdv A outer s H vs Q E hr h=>?_)
  · obtain ⟨c,w,s,ws,rfl,_⟩:=h;rfl
  obtain ⟨c,w,s,ws,rfl,h1,h2,h3,h4,q⟩:=h
  exact ⟨rd__law_place K t,(pss_cons (ps_set (i:=3) sc__law_place.nd rfl (Or.inl rfl) (pe_op op_sub (pe_op op_mod (pe_call (FnOk.mono (ok__law_draw T) (by decide)) hr rfl T.m__law_draw T.f__law_draw.kp T.b__law_draw .nil pass0 (pa_cons (pv 0) (pa_cons (pe_int (i:=4)) pa_nil))) (pv 2)) (pe_op op_fdivB (pv 2) (pe_int (i:=3)))))
    (pss_cons (ps_if (pt_cmpR op_eq (pe_op op_mod (pe_call (FnOk.mono (ok__law_draw T) (by decide)) hr rfl T.m__law_draw T.f__law_draw.kp T.b__law_draw .nil pass0 (pa_cons (pv 0) (pa_cons (pe_int (i:=5)) pa_nil))) (pe_int (i:=7))) (pe_int (i:=0)) (nomark _)) (pss_one (ps_set (i:=3) sc__law_place.nd rfl (Or.inl rfl) (pe_call (FnOk.mono (ok__law_worth T) (by decide)) hr rfl T.m__law_worth T.f__law_worth.kp T.b__law_worth .nil pass0 (pa_cons (pv 0) (pa_cons (pe_int (i:=6)) pa_nil)))))
      pss_nil)
    (pss_one (ps_ret (pe_tup (pa_cons (pe_ix ix_list (pv 1) (pe_op op_mod (pe_call (FnOk.mono (ok__law_draw T) (by decide)) hr rfl T.m__law_draw T.f__law_draw.kp T.b__law_draw .nil pass0 (pa_cons (pv 0) (pa_cons (pe_int (i:=7)) pa_nil))) (pe_int (i:=3))) (fun _ _=>rfl)) (pa_cons (pv 3) pa_nil))))))),rdp__law_place h1 h2 h3 h4 q⟩
theorem ok__law_drawn (T:Txt K mg t):FnOk P w K mg base CX0 3 t.a__law_drawn t.d__law_drawn ["script","shelves","wide"] (sp__law_drawn K):=by
  refine T.f__law_drawn.ok sc__law_drawn (fun vs H Q E h=>?_) (fun cdv A outer s H vs Q E hr h=>?_)
  · obtain ⟨a,s,w,ns,ws,rfl,_⟩:=h;rfl
  obtain ⟨a,s,w,ns,ws,rfl,h1,h2,h3,h4,h5,h6,q⟩:=h
  exact ⟨rd__law_drawn K t,(pss_cons (ps_set (i:=3) sc__law_drawn.nd rfl (Or.inl rfl) (pe_lst (pa_cons (pe_lst (pa_cons pe_dnewT (pa_cons pe_dnewT pa_nil))) (pa_cons (pe_lst (pa_cons pe_dnewT (pa_cons pe_dnewT pa_nil))) pa_nil))))
    (pss_cons (ps_for PassesOwn.never rfl (pi_list (pe_slice sl_list (pv 0) po_none (po_some (pe_int (i:=240))))) (pg_name (i:=4) sc__law_drawn.nd rfl (Or.inl rfl)) (pss_one (ps_dput (hu_of hr) (pe_ix ix_list (pe_ix ix_list (pv 3) (pe_op op_mod (pe_call (FnOk.mono (ok__law_draw T) (by decide)) hr rfl T.m__law_draw T.f__law_draw.kp T.b__law_draw .nil pass0 (pa_cons (pv 4) (pa_cons (pe_int (i:=1)) pa_nil))) (pe_int (i:=2))) (fun _ _=>rfl)) (pe_op op_mod (pe_call (FnOk.mono (ok__law_draw T) (by decide)) hr rfl T.m__law_draw T.f__law_draw.kp T.b__law_draw .nil pass0 (pa_cons (pv 4) (pa_cons (pe_int (i:=2)) pa_nil))) (pe_int (i:=2))) (fun _ _=>rfl)) (pe_call (FnOk.mono (ok__law_place T) (by decide)) hr rfl T.m__law_place T.f__law_place.kp T.b__law_place .nil pass0 (pa_cons (pv 4) (pa_cons (pv 1) (pa_cons (pv 2) pa_nil)))) (pe_call (FnOk.mono (ok__law_worth T) (by decide)) hr rfl T.m__law_worth T.f__law_worth.kp T.b__law_worth .nil pass0 (pa_cons (pv 4) (pa_cons (pe_int (i:=3)) pa_nil))) rfl)))
    (pss_one (ps_ret (pv 3))))),rdp__law_drawn h1 h2 h3 h4 h5 h6 q⟩
theorem ok__law_apart (T:Txt K mg t):FnOk P w K mg base CX0 2 t.a__law_apart t.d__law_apart ["script","shelves","wide"] (sp__law_apart K):=by
  refine T.f__law_apart.ok sc__law_apart (fun vs H Q E h=>?_) (fun cdv A outer s H vs Q E hr h=>?_)
  · obtain ⟨a,s,w,ns,ws,rfl,_⟩:=h;rfl
  obtain ⟨a,s,w,ns,ws,rfl,h1,h2,h3,h4,h5,h6,q⟩:=h
  exact ⟨rd__law_apart K t,(pss_cons (ps_set (i:=3) sc__law_apart.nd rfl (Or.inl rfl) (pe_lst (pa_cons (pe_lst (pa_cons pe_dnewT (pa_cons pe_dnewT pa_nil))) (pa_cons (pe_lst (pa_cons pe_dnewT (pa_cons pe_dnewT pa_nil))) pa_nil))))
    (pss_cons (ps_set (i:=4) sc__law_apart.nd rfl (Or.inl rfl) (pe_slice sl_list (pv 0) po_none (po_some (pe_int (i:=240)))))
    (pss_cons (ps_for PassesOwn.never rfl (pi_range1 rfl T.b_range (pa_cons (pe_callB call_len rfl T.b_len bt_len (pa_cons (pv 4) pa_nil)) pa_nil)) (pg_name (i:=5) sc__law_apart.nd rfl (Or.inl rfl)) (pss_cons (ps_set (i:=6) sc__law_apart.nd rfl (Or.inl rfl) (pe_op op_mod (pe_call (FnOk.mono (ok__law_draw T) (by decide)) hr rfl T.m__law_draw T.f__law_draw.kp T.b__law_draw .nil pass0 (pa_cons (pe_ix ix_list (pv 4) (pv 5) (fun _ _=>rfl)) (pa_cons (pe_int (i:=1)) pa_nil))) (pe_int (i:=2))))
    (pss_cons (ps_set (i:=7) sc__law_apart.nd rfl (Or.inl rfl) (pe_tup (pa_cons (pe_ix ix_list (pv 1) (pe_op op_mod (pe_call (FnOk.mono (ok__law_draw T) (by decide)) hr rfl T.m__law_draw T.f__law_draw.kp T.b__law_draw .nil pass0 (pa_cons (pe_ix ix_list (pv 4) (pv 5) (fun _ _=>rfl)) (pa_cons (pe_int (i:=7)) pa_nil))) (pe_int (i:=3))) (fun _ _=>rfl)) (pa_cons (pe_op op_add (pe_op op_mulB (pe_int (i:=2)) (pe_op op_mod (pe_call (FnOk.mono (ok__law_draw T) (by decide)) hr rfl T.m__law_draw T.f__law_draw.kp T.b__law_draw .nil pass0 (pa_cons (pe_ix ix_list (pv 4) (pv 5) (fun _ _=>rfl)) (pa_cons (pe_int (i:=4)) pa_nil))) (pe_op op_mulB (pv 2) (pv 2)))) (pv 6)) pa_nil))))
    (pss_one (ps_dput (hu_of hr) (pe_ix ix_list (pe_ix ix_list (pv 3) (pv 6) (fun _ _=>rfl)) (pe_op op_mod (pe_call (FnOk.mono (ok__law_draw T) (by decide)) hr rfl T.m__law_draw T.f__law_draw.kp T.b__law_draw .nil pass0 (pa_cons (pe_ix ix_list (pv 4) (pv 5) (fun _ _=>rfl)) (pa_cons (pe_int (i:=2)) pa_nil))) (pe_int (i:=2))) (fun _ _=>rfl)) (pv 7) (pe_call (FnOk.mono (ok__law_worth T) (by decide)) hr rfl T.m__law_worth T.f__law_worth.kp T.b__law_worth .nil pass0 (pa_cons (pe_ix ix_list (pv 4) (pv 5) (fun _ _=>rfl)) (pa_cons (pe_int (i:=3)) pa_nil))) rfl)))))
    (pss_cons (ps_if (PW.pt (pw_and (pt_cmpR (op_neNil (hu64 hr)) (pv 4) (pe_lst pa_nil) (nomark _)) (pw_and1 (pt_cmpR op_gt (pe_op op_mod (pe_call (FnOk.mono (ok__law_draw T) (by decide)) hr rfl T.m__law_draw T.f__law_draw.kp T.b__law_draw .nil pass0 (pa_cons (pe_ix ix_list (pv 4) (pe_int (i:=0)) (fun _ _=>rfl)) (pa_cons (pe_int (i:=11)) pa_nil))) (pe_int (i:=3))) (pe_int (i:=0)) (nomark _))))) (pss_cons (ps_set (i:=8) sc__law_apart.nd rfl (Or.inl rfl) (pe_ix ix_list (pe_lst (pa_cons (pe_int (i:=0)) (pa_cons (pe_op op_sub (pe_callB call_len rfl T.b_len bt_len (pa_cons (pv 4) pa_nil)) (pe_int (i:=1))) (pa_cons (pe_op op_mod (pe_call (FnOk.mono (ok__law_draw T) (by decide)) hr rfl T.m__law_draw T.f__law_draw.kp T.b__law_draw .nil pass0 (pa_cons (pe_ix ix_list (pv 4) (pe_int (i:=0)) (fun _ _=>rfl)) (pa_cons (pe_int (i:=12)) pa_nil))) (pe_callB call_len rfl T.b_len bt_len (pa_cons (pv 4) pa_nil))) pa_nil)))) (pe_op op_mod (pe_call (FnOk.mono (ok__law_draw T) (by decide)) hr rfl T.m__law_draw T.f__law_draw.kp T.b__law_draw .nil pass0 (pa_cons (pe_ix ix_list (pv 4) (pe_int (i:=0)) (fun _ _=>rfl)) (pa_cons (pe_int (i:=13)) pa_nil))) (pe_int (i:=3))) (fun _ _=>rfl)))
    (pss_cons (ps_set (i:=7) sc__law_apart.nd rfl (Or.inl rfl) (pe_tup (pa_cons (pe_ix ix_list (pv 1) (pe_op op_mod (pe_call (FnOk.mono (ok__law_draw T) (by decide)) hr rfl T.m__law_draw T.f__law_draw.kp T.b__law_draw .nil pass0 (pa_cons (pe_ix ix_list (pv 4) (pv 8) (fun _ _=>rfl)) (pa_cons (pe_int (i:=14)) pa_nil))) (pe_int (i:=3))) (fun _ _=>rfl)) (pa_cons (pe_op op_mulB (pe_int (i:=2)) (pe_op op_mod (pe_call (FnOk.mono (ok__law_draw T) (by decide)) hr rfl T.m__law_draw T.f__law_draw.kp T.b__law_draw .nil pass0 (pa_cons (pe_ix ix_list (pv 4) (pv 8) (fun _ _=>rfl)) (pa_cons (pe_int (i:=4)) pa_nil))) (pe_op op_mulB (pv 2) (pv 2)))) pa_nil))))
    (pss_cons (ps_dput (hu_of hr) (pe_ix ix_list (pe_ix ix_list (pv 3) (pe_int (i:=0)) (fun _ _=>rfl)) (pe_op op_mod (pe_call (FnOk.mono (ok__law_draw T) (by decide)) hr rfl T.m__law_draw T.f__law_draw.kp T.b__law_draw .nil pass0 (pa_cons (pe_ix ix_list (pv 4) (pe_int (i:=0)) (fun _ _=>rfl)) (pa_cons (pe_int (i:=15)) pa_nil))) (pe_int (i:=2))) (fun _ _=>rfl)) (pv 7) (pe_int (i:=5)) rfl)
    (pss_one (ps_dput (hu_of hr) (pe_ix ix_list (pe_ix ix_list (pv 3) (pe_int (i:=1)) (fun _ _=>rfl)) (pe_op op_mod (pe_call (FnOk.mono (ok__law_draw T) (by decide)) hr rfl T.m__law_draw T.f__law_draw.kp T.b__law_draw .nil pass0 (pa_cons (pe_ix ix_list (pv 4) (pe_int (i:=0)) (fun _ _=>rfl)) (pa_cons (pe_int (i:=16)) pa_nil))) (pe_int (i:=2))) (fun _ _=>rfl)) (pv 7) (pe_int (i:=0)) rfl)))))
      pss_nil)
    (pss_one (ps_ret (pv 3))))))),rdp__law_apart h1 h2 h3 h4 h5 h6 q⟩
theorem ok__law_paper (T:Txt K mg t):FnOk P w K mg base CX0 2 t.a__law_paper t.d__law_paper ["pair","cell","turn"] (sp__law_paper):=by
  refine T.f__law_paper.ok sc__law_paper (fun vs H Q E h=>?_) (fun cdv A outer s H vs Q E hr h=>?_)
  · obtain ⟨p,d0,d1,c,tn,r0,r1,rfl,_⟩:=h;rfl
  obtain ⟨p,d0,d1,c,tn,r0,r1,rfl,h1,h2,h3,h4,h5,h6,h7,h8,h9,q⟩:=h
  exact ⟨rd__law_paper K t,(pss_cons (ps_set (i:=3) sc__law_paper.nd rfl (Or.inl rfl) (pe_callTy (call_list_items rfl) rfl T.b_list bt_list (pa_cons (pe_items (pe_ix ix_list (pv 0) (pe_int (i:=0)) (fun _ _=>rfl))) pa_nil)))
    (pss_cons (ps_if (pt_cmpR op_eq (pe_op op_mod (pe_call (FnOk.mono (ok__law_draw T) (by decide)) hr rfl T.m__law_draw T.f__law_draw.kp T.b__law_draw .nil pass0 (pa_cons (pv 1) (pa_cons (pe_int (i:=17)) pa_nil))) (pe_int (i:=2))) (pe_int (i:=1)) (nomark _)) (pss_one (ps_set (i:=3) sc__law_paper.nd rfl (Or.inl rfl) (pe_lrevS (pv 3) (pe_un un_neg (pe_int (i:=1))))))
      pss_nil)
    (pss_cons (ps_if (pt_cmpR op_eq (pe_op op_mod (pe_call (FnOk.mono (ok__law_draw T) (by decide)) hr rfl T.m__law_draw T.f__law_draw.kp T.b__law_draw .nil pass0 (pa_cons (pv 1) (pa_cons (pe_op op_add (pe_int (i:=18)) (pv 2)) pa_nil))) (pe_int (i:=5))) (pe_int (i:=0)) (nomark _)) (pss_one (ps_ret (pe_tup (pa_cons (pe_tup (pa_cons (pe_str (x:="off")) (pa_cons (pe_ix ix_list (pe_lst (pa_cons (pe_str (x:="told")) (pa_cons (pe_str (x:="great")) (pa_cons (pe_str (x:="nought")) pa_nil)))) (pe_op op_mod (pe_call (FnOk.mono (ok__law_draw T) (by decide)) hr rfl T.m__law_draw T.f__law_draw.kp T.b__law_draw .nil pass0 (pa_cons (pv 1) (pa_cons (pe_int (i:=20)) pa_nil))) (pe_int (i:=3))) (fun _ _=>rfl)) pa_nil))) (pa_cons (pv 3) (pa_cons (pe_lst pa_nil) pa_nil))))))
      pss_nil)
    (pss_one (ps_ret (pe_tup (pa_cons (pe_tup (pa_cons (pe_str (x:="done")) (pa_cons (pe_tup (pa_cons (pv 2) (pa_cons (pe_call (FnOk.mono (ok__law_worth T) (by decide)) hr rfl T.m__law_worth T.f__law_worth.kp T.b__law_worth .nil pass0 (pa_cons (pv 1) (pa_cons (pe_int (i:=21)) pa_nil))) pa_nil))) pa_nil))) (pa_cons (pv 3) (pa_cons (pe_callB (call_sorted_items rfl (hu3 hr)) rfl T.b_sorted bt_sorted (pa_cons (pe_items (pe_ix ix_list (pv 0) (pe_int (i:=1)) (fun _ _=>rfl))) pa_nil)) pa_nil))))))))),rdp__law_paper h1 h2 h3 h4 h5 h6 h7 h8 h9 q⟩
theorem ok__law_copy (T:Txt K mg t):FnOk P w K mg base CX0 1 t.a__law_copy t.d__law_copy ["paper"] (sp__law_copy):=by
  refine T.f__law_copy.ok sc__law_copy (fun vs H Q E h=>?_) (fun cdv A outer s H vs Q E hr h=>?_)
  · obtain ⟨v,p,rfl,_⟩:=h;rfl
  obtain ⟨v,p,rfl,h1,q⟩:=h
  exact ⟨rd__law_copy K t,(pss_one (ps_ret (pe_tup (pa_cons (pe_ix ix_tup (pv 0) (pe_int (i:=0)) (fun _ _=>rfl)) (pa_cons (pe_callTy call_list_of rfl T.b_list bt_list (pa_cons (pe_ix ix_tup (pv 0) (pe_int (i:=1)) (fun _ _=>rfl)) pa_nil)) (pa_cons (pe_callTy call_list_of rfl T.b_list bt_list (pa_cons (pe_ix ix_tup (pv 0) (pe_int (i:=2)) (fun _ _=>rfl)) pa_nil)) pa_nil)))))),rdp__law_copy h1 q⟩
theorem ok_gives_into (T:Txt K mg t):FnOk P w K mg base CX0 1 t.a_gives_into t.d_gives_into ["one","other"] (sp_gives_into):=by
  refine T.f_gives_into.ok sc_gives_into (fun vs H Q E h=>?_) (fun cdv A outer s H vs Q E hr h=>?_)
  · obtain ⟨v,u,a,b,rfl,_⟩:=h;rfl
  obtain ⟨v,u,a,b,rfl,h1,h2,h3,h4,q⟩:=h
  exact ⟨rd_gives_into K t,(pss_cons (ps_set (i:=2) sc_gives_into.nd rfl (Or.inr rfl) (pe_callTy (call_dict_pairs rfl (hu3 hr)) rfl T.b_dict bt_dict (pa_cons (pe_op op_cat (pe_ix ix_tup (pv 1) (pe_int (i:=1)) (fun _ _=>rfl)) (pe_ix ix_tup (pv 1) (pe_int (i:=2)) (fun _ _=>rfl))) pa_nil)))
    (pss_one (ps_ret (pe_callB (call_anyL rfl) rfl T.b_any bt_any (pa_cons (pe_comp rfl (osc:=defScope s_gives_into) (N:=["one","other","known"]) (xs:=["place","worth"]) (ix:=[2]) (by decide +kernel) (pi_list (pe_ix ix_tup (pv 0) (pe_int (i:=2)) (fun _ _=>rfl))) (fun _ _ _ _=>(pg_tup rfl (pgs_cons (pg_name (i:=0) (show List.Nodup (["place","worth","known"]:List Str) from (by decide +kernel)) rfl (Or.inl rfl)) (pgs_cons (pg_name (i:=1) (show List.Nodup (["place","worth","known"]:List Str) from (by decide +kernel)) rfl (Or.inl rfl)) pgs_nil)))) (fun _ _ _ _=>pts_nil) (fun _ _ _ _=>(pe_cmpR (op_in_d (hu_of hr)) (pv 0) (pv 2) (by with_unfolding_all rfl)))) pa_nil))))),rdp_gives_into h1 h2 h3 h4 q⟩
theorem ok_meet (T:Txt K mg t):FnOk P w K mg base CX0 2 t.a_meet t.d_meet ["one","other"] (sp_meet):=by
  refine T.f_meet.ok sc_meet (fun vs H Q E h=>?_) (fun cdv A outer s H vs Q E hr h=>?_)
  · obtain ⟨v,u,a,b,rfl,_⟩:=h;rfl
  obtain ⟨v,u,a,b,rfl,h1,h2,h3,h4,q⟩:=h
  exact ⟨rd_meet K t,(pss_one (ps_ret (pe_or (pe_call (FnOk.mono (ok_gives_into T) (by decide)) hr rfl T.m_gives_into T.f_gives_into.kp T.b_gives_into .nil pass0 (pa_cons (pv 0) (pa_cons (pv 1) pa_nil))) (pe_one (pe_call (FnOk.mono (ok_gives_into T) (by decide)) hr rfl T.m_gives_into T.f_gives_into.kp T.b_gives_into .nil pass0 (pa_cons (pv 1) (pa_cons (pv 0) pa_nil))))))),rdp_meet h1 h2 h3 h4 q⟩
theorem ok__law_met (T:Txt K mg t):FnOk P w K mg base CX0 1 t.a__law_met t.d__law_met ["one","other"] (sp__law_met):=by
  refine T.f__law_met.ok sc__law_met (fun vs H Q E h=>?_) (fun cdv A outer s H vs Q E hr h=>?_)
  · obtain ⟨v,u,a,b,rfl,_⟩:=h;rfl
  obtain ⟨v,u,a,b,rfl,h1,h2,h3,h4,q⟩:=h
  exact ⟨rd__law_met K t,(pss_cons (ps_set (i:=2) sc__law_met.nd rfl (Or.inl rfl) pe_dnewT)
    (pss_cons (ps_for PassesOwn.never rfl (pi_list (pe_op op_cat (pe_ix ix_tup (pv 1) (pe_int (i:=1)) (fun _ _=>rfl)) (pe_ix ix_tup (pv 1) (pe_int (i:=2)) (fun _ _=>rfl)))) (pg_name (i:=3) sc__law_met.nd rfl (Or.inl rfl)) (pss_one (ps_dput (hu_of hr) (pv 2) (pe_ix ix_tup (pv 3) (pe_int (i:=0)) (fun _ _=>rfl)) (pe_bl (b:=true)) rfl)))
    (pss_cons (ps_for PassesOwn.never rfl (pi_list (pe_ix ix_tup (pv 0) (pe_int (i:=2)) (fun _ _=>rfl))) (pg_name (i:=3) sc__law_met.nd rfl (Or.inl rfl)) (pss_one (ps_if (pt_cmpR (op_in_d (hu_of hr)) (pe_ix ix_tup (pv 3) (pe_int (i:=0)) (fun _ _=>rfl)) (pv 2) (by with_unfolding_all rfl)) (pss_one (ps_ret (pe_bl (b:=true))))
      pss_nil)))
    (pss_one (ps_ret (pe_bl (b:=false))))))),rdp__law_met h1 h2 h3 h4 q⟩
theorem ok_law (T:Txt K mg t):FnOk P w K mg base CX0 4 t.a_law t.d_law ["script"] (sp_law K):=by
  refine T.f_law.ok sc_law (fun vs H Q E h=>?_) (fun cdv A outer s H vs Q E hr h=>?_)
  · obtain ⟨a,ns,rfl,_⟩:=h;rfl
  obtain ⟨a,ns,rfl,hS,hn,q⟩:=h
  exact ⟨rd_law K t,(pss_cons (ps_set (i:=1) sc_law.nd rfl (Or.inl rfl) (pe_call (FnOk.mono (ok__law_cell_at T) (by decide)) hr rfl T.m__law_cell_at T.f__law_cell_at.kp T.b__law_cell_at .nil pass0 (pa_cons (pv 0) (pa_cons (pe_int (i:=0)) pa_nil))))
    (pss_cons (ps_set (i:=2) sc_law.nd rfl (Or.inl rfl) (pe_call (FnOk.mono (ok__law_shelves T) (by decide)) hr rfl T.m__law_shelves T.f__law_shelves.kp T.b__law_shelves .nil pass0 (pa_cons (pe_call (FnOk.mono (ok__law_cell_at T) (by decide)) hr rfl T.m__law_cell_at T.f__law_cell_at.kp T.b__law_cell_at .nil pass0 (pa_cons (pv 0) (pa_cons (pe_int (i:=1)) pa_nil))) (pa_cons (pe_int (i:=3)) pa_nil))))
    (pss_cons (ps_set (i:=3) sc_law.nd rfl (Or.inl rfl) (pe_op op_add (pe_int (i:=2)) (pe_op op_mod (pe_call (FnOk.mono (ok__law_draw T) (by decide)) hr rfl T.m__law_draw T.f__law_draw.kp T.b__law_draw .nil pass0 (pa_cons (pv 1) (pa_cons (pe_int (i:=9)) pa_nil))) (pe_int (i:=40)))))
    (pss_cons (ps_set (i:=4) sc_law.nd rfl (Or.inl rfl) (pe_call (FnOk.mono (ok__law_drawn T) (by decide)) hr rfl T.m__law_drawn T.f__law_drawn.kp T.b__law_drawn .nil pass0 (pa_cons (pv 0) (pa_cons (pv 2) (pa_cons (pv 3) pa_nil)))))
    (pss_cons (ps_if (pt_cmpR op_eq (pe_op op_mod (pe_call (FnOk.mono (ok__law_draw T) (by decide)) hr rfl T.m__law_draw T.f__law_draw.kp T.b__law_draw .nil pass0 (pa_cons (pv 1) (pa_cons (pe_int (i:=10)) pa_nil))) (pe_int (i:=3))) (pe_int (i:=0)) (nomark _)) (pss_one (ps_set (i:=4) sc_law.nd rfl (Or.inl rfl) (pe_call (FnOk.mono (ok__law_apart T) (by decide)) hr rfl T.m__law_apart T.f__law_apart.kp T.b__law_apart .nil pass0 (pa_cons (pv 0) (pa_cons (pv 2) (pa_cons (pv 3) pa_nil))))))
      pss_nil)
    (pss_cons (ps_set (i:=5) sc_law.nd rfl (Or.inl rfl) (pe_lst (pa_cons (pe_call (FnOk.mono (ok__law_paper T) (by decide)) hr rfl T.m__law_paper T.f__law_paper.kp T.b__law_paper .nil pass0 (pa_cons (pe_ix ix_list (pv 4) (pe_int (i:=0)) (fun _ _=>rfl)) (pa_cons (pv 1) (pa_cons (pe_int (i:=0)) pa_nil)))) (pa_cons (pe_call (FnOk.mono (ok__law_paper T) (by decide)) hr rfl T.m__law_paper T.f__law_paper.kp T.b__law_paper .nil pass0 (pa_cons (pe_ix ix_list (pv 4) (pe_int (i:=1)) (fun _ _=>rfl)) (pa_cons (pv 1) (pa_cons (pe_int (i:=1)) pa_nil)))) (pa_cons (pe_tup (pa_cons (pe_tup (pa_cons (pe_str (x:="done")) (pa_cons (pe_tup pa_nil) pa_nil))) (pa_cons (pe_lst pa_nil) (pa_cons (pe_lst pa_nil) pa_nil)))) pa_nil)))))
    (pss_cons (ps_setComp (j:=6) sc_law.nd rfl rfl (Or.inl rfl) (osc:=defScope s_law) (N:=["script","first","shelves","wide","pairs","papers","handed","k","j","due","told"]) (xs:=["paper"]) (ix:=[]) (by decide +kernel) (pi_list (pv 5)) (fun _ _ _ _=>(pg_name (i:=0) (show List.Nodup (["paper"]:List Str) from (by decide +kernel)) rfl (Or.inl rfl) (.inr rfl))) (fun _ _ _ _=>pts_nil) (fun _ _ _ _=>(pe_call (FnOk.mono (ok__law_copy T) (by decide)) hr rfl T.m__law_copy T.f__law_copy.kp T.b__law_copy .nil pass0 (pa_cons (pv 0) pa_nil))))
    (pss_cons (ps_for PassesOwn.never rfl (pi_range1 rfl T.b_range (pa_cons (pe_int (i:=3)) pa_nil)) (pg_name (i:=7) sc_law.nd rfl (Or.inl rfl)) (pss_one (ps_for PassesOwn.never rfl (pi_range1 rfl T.b_range (pa_cons (pe_int (i:=3)) pa_nil)) (pg_name (i:=8) sc_law.nd rfl (Or.inl rfl)) (pss_cons (ps_set (i:=9) sc_law.nd rfl (Or.inl rfl) (pe_or (pe_call (FnOk.mono (ok__law_met T) (by decide)) hr rfl T.m__law_met T.f__law_met.kp T.b__law_met .nil pass0 (pa_cons (pe_ix ix_list (pv 5) (pv 7) (fun _ _=>rfl)) (pa_cons (pe_ix ix_list (pv 5) (pv 8) (fun _ _=>rfl)) pa_nil))) (pe_one (pe_call (FnOk.mono (ok__law_met T) (by decide)) hr rfl T.m__law_met T.f__law_met.kp T.b__law_met .nil pass0 (pa_cons (pe_ix ix_list (pv 5) (pv 8) (fun _ _=>rfl)) (pa_cons (pe_ix ix_list (pv 5) (pv 7) (fun _ _=>rfl)) pa_nil))))))
    (pss_cons (ps_set (i:=10) sc_law.nd rfl (Or.inl rfl) (pe_call (FnOk.mono (ok_meet T) (by decide)) hr rfl T.m_meet T.f_meet.kp T.b_meet .nil pass0 (pa_cons (pe_ix ix_list (pv 6) (pv 7) (fun _ _=>rfl)) (pa_cons (pe_ix ix_list (pv 6) (pv 8) (fun _ _=>rfl)) pa_nil))))
    (pss_one (ps_if (PW.pt (pw_or (pt_not (pt_val (pe_callB call_isi rfl T.b_isinstance bt_isinstance (pa_cons (pv 10) (pa_cons (pe_bltn rfl T.b_bool bt_bool rfl) pa_nil))))) (pw_or1 (pt_cmpR op_ne (pv 10) (pv 9) (nomark _))))) (pss_one (ps_ret (pe_bl (b:=false))))
      pss_nil)))))))
    (pss_one (ps_ret (pe_cmpR (op_eqAll (hu64 hr)) (pv 6) (pv 5) (nomark _)))))))))))),rdp_law (kf K) hS hn q⟩
end
end K51
open PySem PySem.W PyProof.Rows
def PySem.W.Fast.tw4442079790230429023:Unit:=()
def PySem.W.Fast.tw821624222941190490:Unit:=()
def PySem.W.Fast.tw14098284819810996602:Unit:=()
def PySem.W.Fast.tw17211302187112940318:Unit:=()
def PySem.W.Fast.tw13598900178708607230:Unit:=()
def PySem.W.Fast.tw837634361430670461:Unit:=()
def PySem.W.Fast.tw11353525006536465765:Unit:=()
def PySem.W.Fast.tw6699564665329292551:Unit:=()
def PySem.W.Fast.tw677876978023631865:Unit:=()
def PySem.W.Fast.tw49030637767375762:Unit:=()
def PySem.W.Fast.tw16893136244897317987:Unit:=()
def PySem.W.Fast.tw10601978151432926812:Unit:=()
def PySem.W.Fast.tw2878193370821726294:Unit:=()
def PySem.W.Fast.tw2360722354679153540:Unit:=()
def PySem.W.Fast.tw2803624355001671027:Unit:=()
def PySem.W.Fast.tw9072767650738460458:Unit:=()
def PySem.W.Fast.tw8512141062397114055:Unit:=()
def PySem.W.Fast.tw2603438498810091218:Unit:=()
def PySem.W.Fast.tw1997785018321598537:Unit:=()
def PySem.W.Fast.tw7840079764562057347:Unit:=()
def PySem.W.Fast.tw17481919946967992203:Unit:=()
def PySem.W.Fast.tw15573987396537527367:Unit:=()
def PySem.W.Fast.tw6351868330191149508:Unit:=()
def PySem.W.Fast.tw6227593588590648894:Unit:=()
def PySem.W.Fast.tw1771615866711727411:Unit:=()
def PySem.W.Fast.tw12950418476615253331:Unit:=()
def PySem.W.Fast.tw3980079677801785981:Unit:=()
def PySem.W.Fast.tw14193661492643519086:Unit:=()
def PySem.W.Fast.tw9613613056962333060:Unit:=()
def PySem.W.Fast.tw7389556346671166547:Unit:=()
def PySem.W.Fast.tw18067414692902063297:Unit:=()
def PySem.W.Fast.tw3076905198073727357:Unit:=()
def PySem.W.Fast.tw4577382819594222025:Unit:=()
def PySem.W.Fast.tw2215244477373720930:Unit:=()
def PySem.W.Fast.tw9401041779665069523:Unit:=()
def PySem.W.Fast.tw15037576062324982580:Unit:=()
def PySem.W.Fast.tw12174335094325753323:Unit:=()
def PySem.W.Fast.tw1740870036051426843:Unit:=()
def PySem.W.Fast.tw13370128033320823055:Unit:=()
def PySem.W.Fast.tw15878746296004506348:Unit:=()
def PySem.W.Fast.tw5760139604718598313:Unit:=()
def PySem.W.Fast.tw7465418178447494065:Unit:=()
def PySem.W.Fast.tw3015599827880697198:Unit:=()
def PySem.W.Fast.tw2502579964088497796:Unit:=()
def PySem.W.Fast.tw4636675405781787183:Unit:=()
def PySem.W.Fast.tw5385821984063032347:Unit:=()
def PySem.W.Fast.tw12687601166941660932:Unit:=()
def PySem.W.Fast.tw16117780447633320731:Unit:=()
def PySem.W.Fast.tw5294296473070247602:Unit:=()
def PySem.W.Fast.tw1885240517942781254:Unit:=()
def PySem.W.Fast.tw10550560840358964659:Unit:=()
def PySem.W.Fast.tw6538885073154573903:Unit:=()
def PySem.W.Fast.tw12450911308950825322:Unit:=()
def PySem.W.Fast.tw1789778732799084738:Unit:=()
def PySem.W.Fast.tw5623615306547001169:Unit:=()
def PySem.W.Fast.tw9368454157966851615:Unit:=()
def PySem.W.Fast.tw10392205806350971512:Unit:=()
def PySem.W.Fast.tw16391632650573889776:Unit:=()
def PySem.W.Fast.tw10700692816896654440:Unit:=()
def PySem.W.Fast.tw1055747765147013783:Unit:=()
def PySem.W.Fast.tw16349035187953382358:Unit:=()
def PySem.W.Fast.tw12623344141433125087:Unit:=()
def PySem.W.Fast.tw15399847211983013572:Unit:=()
def PySem.W.Fast.tw13933243786039576096:Unit:=()
def PySem.W.Fast.tw89353069299263327:Unit:=()
def PySem.W.Fast.tw3740025947729134421:Unit:=()
def PySem.W.Fast.tw7553250344891657265:Unit:=()
def PySem.W.Fast.tw6239609078144259473:Unit:=()
def PySem.W.Fast.tw14665610766430847720:Unit:=()
def PySem.W.Fast.tw11718923844602754900:Unit:=()
def PySem.W.Fast.tw487530383406567244:Unit:=()
def PySem.W.Fast.tw9265455667258869061:Unit:=()
def PySem.W.Fast.tw8583159888695207074:Unit:=()
def PySem.W.Fast.tw9459971134544940850:Unit:=()
def PySem.W.Fast.tw303855563853616745:Unit:=()
def PySem.W.Fast.tw11502115904124652103:Unit:=()
def PySem.W.Fast.tw6599736742879897713:Unit:=()
def PySem.W.Fast.tw14771967979414830362:Unit:=()
def PySem.W.Fast.tw17360388713885400283:Unit:=()
def PySem.W.Fast.tw10133326342424268786:Unit:=()
def PySem.W.Fast.tw15970448991144633602:Unit:=()
def PySem.W.Fast.tw10300085514482483626:Unit:=()
def PySem.W.Fast.tw15669396711301340792:Unit:=()
def PySem.W.Fast.tw12520301787088661261:Unit:=()
def PySem.W.Fast.tw10457792368324309047:Unit:=()
def PySem.W.Fast.tw15323332040593067257:Unit:=()
def PySem.W.Fast.tw4537678353018912103:Unit:=()
def PySem.W.Fast.tw17967085061992846477:Unit:=()
def PySem.W.Fast.tw6443553659128244523:Unit:=()
def PySem.W.Fast.tw1802269513158105373:Unit:=()
def PySem.W.Fast.tw9623712962513784802:Unit:=()
def PySem.W.Fast.tw2455710984176563186:Unit:=()
def PySem.W.Fast.tw9784495193303964303:Unit:=()
set_option maxRecDepth 100000 in
set_option maxHeartbeats 0 in
theorem PySem.Challenge.cw_forerun_k51_papers_meet_holds : PySem.Challenge.rw_forerun_k51_papers_meet.Holds := by
  w_on; o_law; k_head; (case hw => w_witness2)
  k_fill
  refine L2.walk_ofK (l := PySem.Challenge.rw_forerun_k51_papers_meet) (n := 63) (k := 4) (x := "script") (CX := L2.CX0) (sp := K51.sp_law) rfl (by decide) rfl ⟨rfl, by decide, by decide⟩ (fun w h Y => PySem.W.kIn_of Y) ?F ?S ?C
  case F =>
    intro w mg fa h KX G hmg
    have T : ∃ t, K51.Txt (L2.KOf KX) mg t := by
      dsimp only [L2.KOf]
      refine' K51.txt_mk KX G ?qa0 ?ql0 ?qc0 ?qk0 ?qa1 ?ql1 ?qc1 ?qk1 ?qa2 ?ql2 ?qc2 ?qk2 ?qa3 ?ql3 ?qc3 ?qk3 ?qa4 ?ql4 ?qc4 ?qk4 ?qa5 ?ql5 ?qc5 ?qk5 ?qa6 ?ql6 ?qc6 ?qk6 ?qa7 ?ql7 ?qc7 ?qk7 ?qa8 ?ql8 ?qc8 ?qk8 ?qa9 ?ql9 ?qc9 ?qk9 ?qa10 ?ql10 ?qc10 ?qk10 ?qa11 ?ql11 ?qc11 ?qk11 ?qa12 ?ql12 ?qc12 ?qk12 ?qa13 ?ql13 ?qc13 ?qk13 ?qz0 ?qz1 ?qz2 ?qz3 ?qz4 ?qz5 ?qz6 ?qz7
      (case qa0 => k_is)
      (case ql0 => k_is)
      (case qc0 => k_is)
      (case qk0 => k_is)
      (case qa1 => k_is)
      (case ql1 => k_is)
      (case qc1 => k_is)
      (case qk1 => k_is)
      (case qa2 => k_is)
      (case ql2 => k_is)
      (case qc2 => k_is)
      (case qk2 => k_is)
      (case qa3 => k_is)
      (case ql3 => k_is)
      (case qc3 => k_is)
      (case qk3 => k_is)
      (case qa4 => k_is)
      (case ql4 => k_is)
      (case qc4 => k_is)
      (case qk4 => k_is)
      (case qa5 => k_is)
      (case ql5 => k_is)
      (case qc5 => k_is)
      (case qk5 => k_is)
      (case qa6 => k_is)
      (case ql6 => k_is)
      (case qc6 => k_is)
      (case qk6 => k_is)
      (case qa7 => k_is)
      (case ql7 => k_is)
      (case qc7 => k_is)
      (case qk7 => k_is)
      (case qa8 => k_is)
      (case ql8 => k_is)
      (case qc8 => k_is)
      (case qk8 => k_is)
      (case qa9 => k_is)
      (case ql9 => k_is)
      (case qc9 => k_is)
      (case qk9 => k_is)
      (case qa10 => k_is)
      (case ql10 => k_is)
      (case qc10 => k_is)
      (case qk10 => k_is)
      (case qa11 => k_is)
      (case ql11 => k_is)
      (case qc11 => k_is)
      (case qk11 => k_is)
      (case qa12 => k_is)
      (case ql12 => k_is)
      (case qc12 => k_is)
      (case qk12 => k_is)
      (case qa13 => k_is)
      (case ql13 => k_is)
      (case qc13 => k_is)
      (case qk13 => k_is)
      (case qz0 => k_is)
      (case qz1 => k_is)
      (case qz2 => k_is)
      (case qz3 => k_is)
      (case qz4 => k_is)
      (case qz5 => k_is)
      (case qz6 => k_is)
      (case qz7 => k_is)
    obtain ⟨t, T⟩ := T
    have e0 := hmg.symm.trans T.m_law
    cases e0
    exact ⟨_, T.w_law, fun base _ _ => K51.ok_law T⟩
  case S => exact fun K H a ns hl _ hS => ⟨a, ns, rfl, hS, hl, fun _ => rfl⟩
  case C => exact fun _ _ _ _ z => z
