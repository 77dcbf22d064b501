import PyProof.Rows.All
import Wide.All
import OpenK.AllK
import Wide.FinOn
import Lean
import PyProof.EqAt
import PyProof.EqKinds
import PyProof.TupleCall
import PySem.Challenge.RW_forerun_k27_answered_alike
import KE.IntBitsLaws
import KE.KDictList
import KE.KDictOf
import KE.KEqDict
import KE.KIntText
import KE.KItemsList
import KE.KRevIter
import KE.KSortAsk
import KE.KSortTup
import KE.KSorted
import KE.KTryMore
import KE.LcSums
import PyProof.AttrMissHeap
import PyProof.Conv_int_bool
import PyProof.DictItems
import PyProof.DictKinds
import PyProof.DictWalks
import PyProof.EnumFor
import PyProof.EnumMake
import PyProof.EqKinds
import PyProof.ListIndexNeg
import PyProof.MeetsStr
import PyProof.NeKinds
import PyProof.NsDelKeeps
import PyProof.P3Eq
import PyProof.Rows.EqDataRows
import PyProof.Rows.Range3
import PyProof.StrCalls2
import PyProof.StrLaws
import PyProof.StrLawsTight
import PyProof.StrOps
import PyProof.StrOps2
import PyProof.TupleIter
import PyProof.TupleKey
import PyProof.TupleOfSeq
import PyProof.ZipIter
import Wide.ObjOpen
import Wide.RegSB
set_option Elab.async false
set_option linter.all false
set_option maxRecDepth 100000
namespace L2
open PySem PySem.Spec PyProof.Rows
abbrev Key:=Sum Int Str
def keyIs:Key→Value→Bool
  | .inl k,v=>Value.isInt k v
  | .inr x,v=>Value.isStrOf x v
def keyH (w:World):Key→Int
  | .inl k=>hashInt k
  | .inr x=>hashStr w x
theorem keyIs_shape:∀ {k:Key} {v:Value},keyIs k v=true→(∃ i t,k=Sum.inl i∧v=Value.int i t)∨(∃ x t,k=Sum.inr x∧v=Value.str x t)
  | .inl i,v,h=>by
    obtain ⟨t,e⟩:=Value.isInt_shape (k:=i) (v:=v) h
    exact .inl ⟨i,t,rfl,e⟩
  | .inr x,v,h=>by
    obtain ⟨t,e⟩:=Value.isStrOf_shape (x:=x) (v:=v) h
    exact .inr ⟨x,t,rfl,e⟩
theorem keyIs_int (i:Int) (t:Tok):keyIs (.inl i) (.int i t)=true:=by simp [keyIs,Value.isInt]
theorem keyIs_str (x:Str) (t:Tok):keyIs (.inr x) (.str x t)=true:=by simp [keyIs,Value.isStrOf]
theorem key_ll (a b:Int):decide ((Sum.inl a:Key)=Sum.inl b)=(a == b):=by
  by_cases e:a=b
  · subst e;simp
  · have h:¬ (Sum.inl a:Key)=Sum.inl b:=fun q=>e (Sum.inl.inj q)
    rw [decide_eq_false h]
    exact (beq_eq_false_iff_ne.mpr e).symm
theorem key_rr (a b:Str):decide ((Sum.inr a:Key)=Sum.inr b)=decide (a=b):=by
  by_cases e:a=b
  · subst e;simp
  · have h:¬ (Sum.inr a:Key)=Sum.inr b:=fun q=>e (Sum.inr.inj q)
    rw [decide_eq_false h,decide_eq_false e]
theorem key_lr (a:Int) (b:Str):decide ((Sum.inl a:Key)=Sum.inr b)=false:=decide_eq_false (fun q=>nomatch q)
theorem key_rl (a:Str) (b:Int):decide ((Sum.inr a:Key)=Sum.inl b)=false:=decide_eq_false (fun q=>nomatch q)
def mixKind (prog:Program) (w:World):PySem.KeyKind prog w Key where
  is:=keyIs
  hash:=keyH w
  inj:=fun v a b ha hb=>by
    rcases keyIs_shape ha with ⟨i,t,rfl,rfl⟩ | ⟨x,t,rfl,rfl⟩
    · rcases keyIs_shape hb with ⟨j,u,rfl,e⟩ | ⟨y,u,rfl,e⟩
      · injection e with e1 _;rw [e1]
      · exact nomatch e
    · rcases keyIs_shape hb with ⟨j,u,rfl,e⟩ | ⟨y,u,rfl,e⟩
      · exact nomatch e
      · injection e with e1 _;rw [e1]
  byValue:=fun k v h=>by
    rcases keyIs_shape h with ⟨i,t,rfl,rfl⟩ | ⟨x,t,rfl,rfl⟩ <;> rfl
  pyHash:=fun hv h=>by
    rcases keyIs_shape hv with ⟨i,t,rfl,rfl⟩ | ⟨x,t,rfl,rfl⟩
    · exact wpAny_pyHash_int h
    · exact wpAny_pyHash_str h
  eqBool:=fun hu hv h=>by
    rcases keyIs_shape hu with ⟨i,t,rfl,rfl⟩ | ⟨x,t,rfl,rfl⟩
    · rcases keyIs_shape hv with ⟨j,u,rfl,rfl⟩ | ⟨y,u,rfl,rfl⟩
      · rw [key_ll] at h;exact wpAny_eqBool_int h
      · rw [key_lr] at h;exact SeqAt.EqAt.int_str i t y u _ _ _ _ h
    · rcases keyIs_shape hv with ⟨j,u,rfl,rfl⟩ | ⟨y,u,rfl,rfl⟩
      · rw [key_rl] at h;exact SeqAt.EqAt.str_int x t j u _ _ _ _ h
      · rw [key_rr] at h;exact wpAny_eqBool_str h
  «strs»:=fun k x t v h=>by
    rcases keyIs_shape h with ⟨i,u,rfl,e⟩ | ⟨y,u,rfl,e⟩
    · exact nomatch e
    · injection e with e1 _
      subst e1
      cases v <;> rfl
theorem mixKind_int (prog:Program) (w:World) (i:Int) (t:Tok):(mixKind prog w).is (.inl i) (.int i t)=true:=keyIs_int i t
theorem mixKind_str (prog:Program) (w:World) (x:Str) (t:Tok):(mixKind prog w).is (.inr x) (.str x t)=true:=keyIs_str x t
end L2
namespace L2
open PySem PySem.Spec PyProof.Rows
inductive V where
  | non | bl (b:Bool) | int (i:Int) | str (x:Str) | byt (b:Array UInt8) | flt (b:UInt64) | ref (a:Addr) | ty (n:String)
  deriving DecidableEq
def RelV:V→Value→Prop
  | .non,u=>u=Value.none
  | .bl b,u=>u=Value.bool b
  | .int i,u=>∃ t,u=Value.int i t
  | .str x,u=>∃ t,u=Value.str x t
  | .byt b,u=>∃ t,u=Value.bytes b t
  | .flt b,u=>∃ t,u=Value.float b t
  | .ref a,u=>u=Value.ref a
  | .ty n,u=>u=Value.type n
abbrev Vals:List V→List Value→Prop:=Paired RelV
theorem Vals.length {xs:List V} {us:List Value} (r:Vals xs us):xs.length=us.length:=Paired.length r
theorem Vals.get:∀ {xs:List V} {us:List Value} {i:Nat} {x:V},Vals xs us→xs[i]?=some x→∃ u,us[i]?=some u∧RelV x u
  | _,_,_,_,.nil,e=>by simp at e
  | _,_,0,_,.cons r _,e=>by simp at e;subst e;exact ⟨_,rfl,r⟩
  | _,_,i + 1,x,.cons _ t,e=>by
    obtain ⟨u,h1,h2⟩:=Vals.get (i:=i) (x:=x) t (by simpa using e)
    exact ⟨u,by simpa using h1,h2⟩
theorem Vals.append:∀ {xs ys:List V} {us ws:List Value},Vals xs us→Vals ys ws→Vals (xs ++ ys) (us ++ ws)
  | _,_,_,_,.nil,s=>s
  | _,_,_,_,.cons r t,s=>.cons r (Vals.append t s)
theorem Vals.take:∀ {xs:List V} {us:List Value} (n:Nat),Vals xs us→Vals (xs.take n) (us.take n)
  | _,_,0,_=>.nil
  | _,_,_ + 1,.nil=>.nil
  | _,_,n + 1,.cons r t=>.cons r (Vals.take n t)
theorem Vals.drop:∀ {xs:List V} {us:List Value} (n:Nat),Vals xs us→Vals (xs.drop n) (us.drop n)
  | _,_,0,r=>r
  | _,_,_ + 1,.nil=>.nil
  | _,_,n + 1,.cons _ t=>Vals.drop n t
def RelO:Option V→Option Value→Prop
  | some v,some u=>RelV v u
  | none,none=>True
  | _,_=>False
def KV {κ:Type}:List (κ × V)→List (κ × Value)→Prop:=Paired fun (p:κ × V) (q:κ × Value)=>p.1=q.1∧RelV p.2 q.2
def kV:Key→V
  | .inl i=>.int i
  | .inr x=>.str x
inductive HO where
    | lst (xs:List V)
    | tup (xs:List V)
    | dK (kvs:List (Key × V)) | dT (kvs:List (List Key × V))
    | set (S:Int→Bool) (n:Nat)
    | ins (C dx:Addr) (fs:List (Str × V))
    | own (x:Addr)
    | xd (fs:List (Str × V))
    | met (f x:Addr)
    | rng (lo hi:Int)
    | frz (o:Obj) (u:HO)
    | tbl (ps:Array Value)
    | ext (φ:Heap→Prop)
abbrev Hp:=Addr→Option HO
def upd (H:Hp) (a:Addr) (o:HO):Hp:=fun b=>if b=a then some o else H b
theorem upd_same {H:Hp} {a:Addr} {o:HO}:upd H a o a=some o:=by unfold upd;rw [if_pos rfl]
theorem upd_ne {H:Hp} {a b:Addr} {o:HO} (h:b≠a):upd H a o b=H b:=by unfold upd;rw [if_neg h]
theorem upd_upd {H:Hp} {a:Addr} {o u:HO}:upd (upd H a o) a u=upd H a u:=by
  funext b;unfold upd;split <;> rfl
theorem ne_of {H:Hp} {a b:Addr} {o u:HO} (h:H a=some o) (h':H b=some u) (d:o≠u):a≠b:=by
  intro e;subst e;rw [h] at h';exact d (Option.some.inj h')
theorem ne_of_none {H:Hp} {a b:Addr} {o:HO} (h:H a=some o) (h':H b=none):a≠b:=by
  intro e;subst e;rw [h] at h';cases h'
section
variable (P:Program) (w:World)
def ObjOk (H:Hp) (h:Heap) (a:Addr):HO→Prop
  | .lst xs=>xs.length≤sizeLine∧∃ (its:List Value) (n:Nat),Vals xs its∧h.get? a=some { cls:=.type "list",data:=.seq its.toArray n }
  | .tup xs=>xs.length≤sizeLine∧∃ its:List Value,Vals xs its∧IsTup h a its.toArray
  | .dK kvs=>kvs.length≤sizeLine∧(a == sysModules)=false∧∃ vs,KV kvs vs∧h.DictOf (mixKind P w) a vs
  | .dT kvs=>kvs.length≤sizeLine∧(a == sysModules)=false∧∃ xs:List (List Key × Addr × Value),
      Paired (fun (p:List Key × V) (q:List Key × Addr × Value)=>p.1=q.1∧H q.2.1=some (.tup (p.1.map kV))∧RelV p.2 q.2.2) kvs xs ∧
      ∃ o es ep,h.get? a=some o∧o.ExactDict∧o.data=.dict es ep∧es.toList=xs.map (entryOfKey (tupleKind (mixKind P w)))∧(xs.map (·.1)).Nodup
  | .set S n=>h.SetOf (intKind P w) a S n
  | .ins C dx fs=>H dx=some (.own a)∧fs.length≤1000∧dx≠a∧h.get? a=some (PySem.W.instObj C dx) ∧
      ∃ mA,h.Ns1 dx mA∧(∀ f,RelO (fs.lookup f) (mA f))∧PySem.Within mA (fs.map (·.1))
  | .own _=>∃ o,h.get? a=some o
  | .xd fs=>∃ mA,h.Ns1 a mA∧∀ f,RelO (fs.lookup f) (mA f)
  | .rng lo hi=>∃ t u v,h.get? a=some { cls:=.type "range",data:=.fields #[.int lo t,.int hi u,.int 1 v] }
  | .frz o u=>h.get? a=some o∧ObjOk H h a u
  | .tbl ps=>h.get? a=some { cls:=.none,data:=.fields ps }
  | .met f x=>h.get? a=some (PySem.W.methodObj (.ref f) (.ref x))
  | .ext φ=>φ h∧(∃ o,h.get? a=some o)∧∀ h1 h2:Heap,φ h1→(∀ o,h1.get? a=some o→h2.get? a=some o)→φ h2
def HOk (H:Hp) (h:Heap):Prop:=∀ a o,H a=some o→ObjOk P w H h a o
end
section
variable {P:Program} {w:World} {H H':Hp} {h h':Heap} {a:Addr} {o:HO}
theorem ObjOk.lt (x:ObjOk P w H h a o):a < h.objs.size:=by
  cases o with
  | lst xs=>obtain ⟨_,_,_,_,e⟩:=x;exact Heap.lt_size e
  | tup xs=>obtain ⟨_,_,_,p⟩:=x;exact p.lt
  | dK kvs=>obtain ⟨_,_,_,_,o,_,_,e,_⟩:=x;exact Heap.lt_size e
  | dT kvs=>obtain ⟨_,_,_,_,o,_,_,e,_⟩:=x;exact Heap.lt_size e
  | set S n=>obtain ⟨o,_,_,_,e,_⟩:=x;exact Heap.lt_size e
  | ins C dx fs=>obtain ⟨_,_,_,e,_⟩:=x;exact Heap.lt_size e
  | own y=>obtain ⟨_,e⟩:=x;exact Heap.lt_size e
  | xd fs=>obtain ⟨_,⟨_,_,_,e,_⟩,_⟩:=x;exact Heap.lt_size e
  | rng lo hi=>obtain ⟨_,_,_,e⟩:=x;exact Heap.lt_size e
  | frz ob u=>obtain ⟨e,_⟩:=x;exact Heap.lt_size e
  | tbl ps=>exact Heap.lt_size (show h.get? a=some _ from x)
  | met f y=>exact Heap.lt_size (show h.get? a=some _ from x)
  | ext φ=>obtain ⟨_,⟨_,e⟩,_⟩:=x;exact Heap.lt_size e
theorem Paired.mapP {α β:Type} {F G:α→β→Prop}:∀ {l₁:List α} {l₂:List β},Paired F l₁ l₂→(∀ a b,F a b→G a b)→Paired G l₁ l₂
  | _,_,.nil,_=>.nil
  | _,_,.cons r t,f=>.cons (f _ _ r) (Paired.mapP t f)
theorem ObjOk.stay (x:ObjOk P w H h a o) (k:∀ b u,(b=a∨H b=some (.own a))→h.get? b=some u→h'.get? b=some u)
    (ho:∀ b,H b=some (.own a)→H' b=some (.own a)) (ht:∀ b xs,H b=some (.tup xs)→H' b=some (.tup xs)):ObjOk P w H' h' a o:=by
  induction o with
  | lst xs=>obtain ⟨z,its,n,r,e⟩:=x;exact ⟨z,its,n,r,k _ _ (.inl rfl) e⟩
  | tup xs=>obtain ⟨z,its,r,ob,e,c⟩:=x;exact ⟨z,its,r,ob,k _ _ (.inl rfl) e,c⟩
  | dK kvs=>obtain ⟨z,y,vs,r,ob,es,ep,e,c⟩:=x;exact ⟨z,y,vs,r,ob,es,ep,k _ _ (.inl rfl) e,c⟩
  | dT kvs =>
    obtain ⟨z,y,xs,r,ob,es,ep,e,c⟩:=x
    exact ⟨z,y,xs,Paired.mapP r fun p q z=>⟨z.1,ht _ _ z.2.1,z.2.2⟩,ob,es,ep,k _ _ (.inl rfl) e,c⟩
  | set S n=>obtain ⟨ob,es,ep,t,e,c⟩:=x;exact ⟨ob,es,ep,t,k _ _ (.inl rfl) e,c⟩
  | ins C dx fs =>
    obtain ⟨d,z,ne,e,mA,⟨od,es,ep,e2,c⟩,r⟩:=x
    exact ⟨ho _ d,z,ne,k _ _ (.inl rfl) e,mA,⟨od,es,ep,k _ _ (.inr d) e2,c⟩,r⟩
  | own y=>obtain ⟨ob,e⟩:=x;exact ⟨ob,k _ _ (.inl rfl) e⟩
  | xd fs=>obtain ⟨mA,⟨od,es,ep,e,c⟩,r⟩:=x;exact ⟨mA,⟨od,es,ep,k _ _ (.inl rfl) e,c⟩,r⟩
  | rng lo hi=>obtain ⟨t,u,v,e⟩:=x;exact ⟨t,u,v,k _ _ (.inl rfl) e⟩
  | frz ob u ih=>obtain ⟨e,q⟩:=x;exact ⟨k _ _ (.inl rfl) e,ih q⟩
  | tbl ps =>
    have e:h.get? a=some { cls:=.none,data:=.fields ps }:=x
    show h'.get? a=some { cls:=.none,data:=.fields ps }
    exact k a _ (.inl rfl) e
  | met f y =>
    have e:h.get? a=some (PySem.W.methodObj (.ref f) (.ref y)):=x
    show h'.get? a=some (PySem.W.methodObj (.ref f) (.ref y))
    exact k a _ (.inl rfl) e
  | ext φ=>obtain ⟨p,⟨o,e⟩,st⟩:=x;exact ⟨st _ _ p fun o q=>k _ _ (.inl rfl) q,⟨o,k _ _ (.inl rfl) e⟩,st⟩
theorem HOk.lt (x:HOk P w H h) (e:H a=some o):a < h.objs.size:=(x a o e).lt
theorem HOk.fresh (x:HOk P w H h) (e:h.objs.size≤a):H a=none:=by
  cases q:H a with
  | none=>rfl
  | some u=>exact absurd (Nat.lt_of_lt_of_le (x.lt q) e) (Nat.lt_irrefl _)
theorem HOk.kept (x:HOk P w H h) (k:∀ b u,h.get? b=some u→h'.get? b=some u):HOk P w H h':=fun a o e =>
  (x a o e).stay (fun b u _ q=>k b u q) (fun _ q=>q) fun _ _ q=>q
theorem HOk.laid (x:HOk P w H h) (k:∀ b u,h.get? b=some u→h'.get? b=some u) (hp:h.objs.size≤a) (new:ObjOk P w (upd H a o) h' a o):HOk P w (upd H a o) h':=fun b u e=>by
  have hn:=x.fresh hp
  by_cases hb:b=a
  · subst hb;rw [upd_same] at e;cases e;exact new
  · rw [upd_ne hb] at e
    exact (x b u e).stay (fun c v _ q=>k c v q) (fun c q=>by rw [upd_ne (ne_of_none q hn)];exact q) fun c xs q=>by rw [upd_ne (ne_of_none q hn)];exact q
end
def Rd (H:Hp) (a:Addr) (u:HO):Prop:=H a=some u∨∃ o,H a=some (.frz o u)
theorem Rd.ok {P:Program} {w:World} {H:Hp} {h:Heap} {a:Addr} {u:HO} (r:Rd H a u) (x:HOk P w H h):ObjOk P w H h a u:=by
  rcases r with r | ⟨o,r⟩
  · exact x a u r
  · obtain ⟨_,q⟩:=x a _ r
    exact q
def Mut:Option HO→Prop
  | some (.lst _)=>True
  | some (.dK _)=>True
  | some (.dT _)=>True
  | some (.set _ _)=>True
  | some (.ins _ _ _)=>True
  | some (.ext _)=>True
  | _=>False
section
variable {P:Program} {w:World} {H:Hp} {h h':Heap} {x e:Addr} {o':HO}
theorem HOk.write (ok:HOk P w H h) (mu:Mut (H x)) (he:e=x∨H e=some (.own x)) (k:∀ b u,b≠e→h.get? b=some u→h'.get? b=some u) (heo:∃ u,h'.get? e=some u)
    (new:ObjOk P w (upd H x o') h' x o'):HOk P w (upd H x o') h':=fun b u q=>by
  have nown:∀ c y,H c=some (.own y)→c≠x:=fun c y r z=>by subst z;rw [r] at mu;exact mu
  have ntup:∀ c xs,H c=some (.tup xs)→c≠x:=fun c xs r z=>by subst z;rw [r] at mu;exact mu
  by_cases hb:b=x
  · subst hb;rw [upd_same] at q;cases q;exact new
  · rw [upd_ne hb] at q
    by_cases hbe:b=e
    · have q':H b=some (.own x):=by
        rcases he with z | z
        · exact absurd (hbe.trans z) hb
        · rw [hbe];exact z
      rw [q] at q';cases q'
      obtain ⟨v,hv⟩:=heo
      exact ⟨v,by rw [hbe];exact hv⟩
    · refine (ok b u q).stay (fun c v hc r=>k c v ?_ r) (fun c r=>by rw [upd_ne (nown c b r)];exact r) fun c xs r=>by rw [upd_ne (ntup c xs r)];exact r
      rcases hc with rfl | hc
      · exact hbe
      · rintro rfl
        rcases he with z | z
        · exact nown c b hc z
        · rw [hc] at z;cases z;exact hb rfl
end
structure Un (fs ex:List Addr) (H H':Hp) (h h':Heap):Prop where
  keep:∀ b o,h.get? b=some o→H b=none→b ∉ fs→b ∉ ex→h'.get? b=some o
  slot:∀ b o,h.get? b=some o→H b=none→b∈fs→b ∉ ex→∃ sl,h'.get? b=some { o with slots:=sl }
  free:∀ b o,h.get? b=some o→H b=none→b ∉ ex→H' b=none
  there:∀ b o,h.get? b=some o→b ∉ ex→∃ o',h'.get? b=some o'
  tups:∀ b xs,H b=some (.tup xs)→H' b=some (.tup xs)
  frzs:∀ b o u,H b=some (.frz o u)→H' b=some (.frz o u)
  tbls:∀ b ps,H b=some (.tbl ps)→∃ more,H' b=some (.tbl (ps ++ more))
section
variable {fs fs' ex ex':List Addr} {H H1 H2:Hp} {h h1 h2 h':Heap} {a x e:Addr} {o:HO}
theorem Un.any (u:Un fs ex H H1 h h1) {b:Addr} {ob:Obj} (q:h.get? b=some ob) (n:H b=none) (hx:b ∉ ex):∃ sl,h1.get? b=some { ob with slots:=sl }:=by
  by_cases hb:b∈fs
  · exact u.slot b ob q n hb hx
  · exact ⟨ob.slots,u.keep b ob q n hb hx⟩
theorem Un.kept (k:∀ b u,h.get? b=some u→h'.get? b=some u):Un fs ex H H h h' :=
  ⟨fun b ob q _ _ _=>k b ob q,fun b ob q _ _ _=>⟨ob.slots,k b ob q⟩,fun _ _ _ n _=>n,fun b ob q _=>⟨ob,k b ob q⟩,fun _ _ q=>q,fun _ _ _ q=>q,fun _ ps q=>⟨#[],by rw [q];simp⟩⟩
theorem Un.refl:Un fs ex H H h h:=Un.kept fun _ _ q=>q
theorem Un.laid (k:∀ b u,h.get? b=some u→h'.get? b=some u) (hp:h.objs.size≤a) (hn:H a=none):Un fs ex H (upd H a o) h h' where
  keep:=fun b u q _ _ _=>k b u q
  slot:=fun b u q _ _ _=>⟨u.slots,k b u q⟩
  free:=fun b u q n _=>by rw [upd_ne (Nat.ne_of_lt (Nat.lt_of_lt_of_le (Heap.lt_size q) hp))];exact n
  there:=fun b u q _=>⟨u,k b u q⟩
  tups:=fun b xs q=>by rw [upd_ne (ne_of_none q hn)];exact q
  frzs:=fun b u xs q=>by rw [upd_ne (ne_of_none q hn)];exact q
  tbls:=fun b ps q=>⟨#[],by rw [upd_ne (ne_of_none q hn),q];simp⟩
theorem Un.write (mu:Mut (H x)) (he:e=x∨H e=some (.own x)) (k:∀ b u,b≠e→h.get? b=some u→h'.get? b=some u) (heo:∃ u,h'.get? e=some u):Un fs ex H (upd H x o) h h':=by
  have hx:∀ b,H b=none→b≠x:=fun b n z=>by subst z;rw [n] at mu;exact mu
  have hb:∀ b,H b=none→b≠e:=fun b n z=>by
    subst z
    rcases he with r | r
    · exact hx b n r
    · rw [n] at r;cases r
  have hm:∀ b u,H b=some u→¬ Mut (some u)→b≠x:=fun b u q nm z=>by subst z;rw [q] at mu;exact nm mu
  refine ⟨fun b u q n _ _=>k b u (hb b n) q,fun b u q n _ _=>⟨u.slots,k b u (hb b n) q⟩,fun b u q n _=>by rw [upd_ne (hx b n)];exact n,fun b u q _=>?_,
    fun b xs q=>by rw [upd_ne (hm b _ q fun z=>z)];exact q,fun b u xs q=>by rw [upd_ne (hm b _ q fun z=>z)];exact q,fun b ps q=>⟨#[],by rw [upd_ne (hm b _ q fun z=>z),q];simp⟩⟩
  by_cases hbe:b=e
  · subst hbe;exact heo
  · exact ⟨u,k b u hbe q⟩
end
def trk (h:Heap) (H:Hp):List Addr:=(List.range h.objs.size).filter fun a=>(H a).isSome
def hidT (h:Heap) (H:Hp):Heap:=PySem.W.hideAll h (trk h H)
theorem hidT_size (h:Heap) (H:Hp):(hidT h H).objs.size=h.objs.size:=PySem.W.hideAll_size _ _
theorem hidT_get {h:Heap} {H:Hp} {b:Addr} {o:Obj} (e:h.get? b=some o) (n:H b=none):(hidT h H).get? b=some o :=
  PySem.W.hideAll_get _ e fun hm=>by
    have q:(H b).isSome=true:=(List.mem_filter.mp hm).2
    rw [n] at q;simp at q
theorem of_hidT {h:Heap} {H:Hp} {b:Addr} {o:Obj} (e:(hidT h H).get? b=some o):h.get? b=some o∧H b=none:=by
  have e':h.get? b=some o:=PySem.W.of_hideAll (trk h H) e
  refine ⟨e',?_⟩
  cases q:H b with
  | none=>rfl
  | some x =>
    have hm:b∈trk h H:=List.mem_filter.mpr ⟨List.mem_range.mpr (Heap.lt_size e'),by simp [q]⟩
    have z:(hidT h H).get? b=none:=PySem.W.hideAll_none (trk h H) hm
    rw [z] at e;cases e
def allNews (g h:Heap) (L:Addr):List (Addr × Obj):=(List.range h.objs.size).filterMap fun a=>if a=L∨(g.get? a).isSome=true then none else (h.get? a).map fun o=>(a,o)
def rest (g h:Heap) (L d:Addr):List (Addr × Obj):=(allNews g h L).filter fun p=>decide (p.1≠d)
end L2
namespace L2
open PySem PySem.Spec PyProof.Rows
structure Mod (K:PySem.W.Frag) (mg:Str→Option Value) (base:Heap):Prop where
  kin:K.In base
  glob:base.Ns mainGlobals mg
  blt:∃ mb,base.Ns builtinsNs mb∧∀ x:Str,x≠"__name__"→mb x=bootBuiltins x
  nolimit:base.NoLimit
set_option genSizeOf false in
set_option genInjectivity false in
structure Cx where
  prog:Program
  w:World
  K:PySem.W.Frag
  mg:Str→Option Value
  base:Heap
  A:Around
  N:List Str
  s₀:Shared
  H₀:Hp
  env:Env
  outer:List Env
  stack:List Env
  ex:List Addr
  fn:Str→Bool
  calm:Bool
  pn:List (Addr × Obj)
  xe:Value→Shared→Prop
def frs (l:List Env):List Addr:=l.filterMap (·.frame)
abbrev Cx.fs (X:Cx):List Addr:=frs X.outer
def Vis (sc:Scope) (x:Str):Prop:=sc.names.lookup x=some .local∨sc.names.lookup x=some .cell∨sc.names.lookup x=some .free
def Loc (sc:Scope) (x:Str):Prop:=sc.names.lookup x=some .local∨sc.names.lookup x=some .cell
def Look (env:Env) (h:Heap) (m:Str→Option Value) (x:Str) (u:Value):Prop :=
  (env.kindOf x=some .local∧m x=some u)∨((env.kindOf x=some .cell∨env.kindOf x=some .free)∧∃ c,env.cells.lookup x=some c∧h.IsCell c (some u))
structure Cx.Ok (X:Cx):Prop where
  mod:Mod X.K X.mg X.base
  kind:X.env.scope.kind=.function
  glob:X.env.globals=mainGlobals
  blt:X.env.builtins=builtinsNs
  above:X.s₀.heap.objs.size≤X.env.locals
  inj:∀ x y c,X.env.cells.lookup x=some c→X.env.cells.lookup y=some c→x=y
  has:∀ x,(X.env.kindOf x=some .cell∨X.env.kindOf x=some .free)→∃ c,X.env.cells.lookup x=some c
  cab:∀ x c,X.fn x=true→X.env.cells.lookup x=some c→X.s₀.heap.objs.size≤c
  hd:X.calm=true→X.A.handled=none
  frames:X.A.frames=some X.stack
  stk:X.stack=X.outer∨(X.stack=X.env :: X.outer∧X.env.frame=some X.env.locals)
  exf:∀ b∈X.ex,b≠X.env.locals∧∀ x c,X.env.cells.lookup x=some c→c≠b
  bs:∀ b o,X.base.get? b=some o→X.s₀.heap.get? b=some o∧X.H₀ b=none
  bsz:X.base.objs.size≤X.s₀.heap.objs.size
  noex:∀ b o,X.base.get? b=some o→b ∉ X.ex
  exfs:∀ b∈X.ex,b ∉ X.fs
  funs:X.s₀.heap.FunFrames X.base X.outer
  frf:∀ b∈X.fs,X.H₀ b=none
structure Inv (X:Cx) (pins:List (Addr × Obj)) (σ:List (Option V)) (H:Hp) (s:Shared):Prop where
  ok:X.Ok
  os:s.os=X.s₀.os
  bare:AllBare s.gens
  base:Un X.fs X.ex X.H₀ H X.s₀.heap s.heap
  loc:∃ m,s.heap.Ns X.env.locals m∧∀ (i:Nat) (x:Str) (v:V),X.N[i]?=some x→σ[i]?=some (some v)→Vis X.env.scope x→∃ u,RelV v u∧Look X.env s.heap m x u
  cell:∀ x c,X.env.cells.lookup x=some c→∃ v,s.heap.IsCell c v
  free:H X.env.locals=none
  freeC:∀ x c,X.env.cells.lookup x=some c→H c=none
  pin:∀ p∈X.pn ++ pins,s.heap.get? p.1=some p.2∧H p.1=none∧p.1≠X.env.locals∧p.1 ∉ X.fs∧∀ v,p.2.data≠.cell v
  hok:HOk X.prog X.w H s.heap
  len:σ.length=X.N.length
section
variable {X:Cx} {pins:List (Addr × Obj)} {σ:List (Option V)} {H H':Hp} {s:Shared} {h':Heap}
theorem Cx.Ok.nofr (ok:X.Ok) {b:Addr} {o:Obj} (e:X.base.get? b=some o):b ∉ X.fs:=fun hb=>by
  have:=(ok.funs.mem hb).1
  rw [e] at this;cases this
theorem Inv.bs (I:Inv X pins σ H s):∀ b o,X.base.get? b=some o→s.heap.get? b=some o∧H b=none:=fun b o e =>
  ⟨I.base.keep b o (I.ok.bs b o e).1 (I.ok.bs b o e).2 (I.ok.nofr e) (I.ok.noex b o e),I.base.free b o (I.ok.bs b o e).1 (I.ok.bs b o e).2 (I.ok.noex b o e)⟩
theorem Inv.bk (I:Inv X pins σ H s):∀ b o,X.base.get? b=some o→s.heap.get? b=some o:=fun b o e=>(I.bs b o e).1
theorem Inv.mod (I:Inv X pins σ H s):Mod X.K X.mg X.base:=I.ok.mod
theorem Inv.kIn (I:Inv X pins σ H s):X.K.In s.heap:=I.ok.mod.kin.keeps I.bk
theorem Inv.lt (I:Inv X pins σ H s):X.env.locals < s.heap.objs.size:=let ⟨_,hn,_⟩:=I.loc;hn.lt
theorem Inv.sz (I:Inv X pins σ H s):X.s₀.heap.objs.size≤s.heap.objs.size:=Nat.le_trans I.ok.above (Nat.le_of_lt I.lt)
theorem Inv.nofs (I:Inv X pins σ H s) {a:Addr} (h:s.heap.objs.size≤a):a ∉ X.fs:=fun hb=>by
  obtain ⟨_,o,ho,_⟩:=I.ok.funs.mem hb
  exact absurd (Nat.lt_of_lt_of_le (Heap.lt_size ho) (Nat.le_trans I.sz h)) (Nat.lt_irrefl _)
theorem Inv.cne (I:Inv X pins σ H s):∀ x c,X.env.cells.lookup x=some c→c≠X.env.locals:=fun x c e z=>by
  obtain ⟨v,o,ho,hd⟩:=I.cell x c e
  obtain ⟨m,⟨o',es,ep,ho',hd',_⟩,_⟩:=I.loc
  rw [z,ho'] at ho;cases ho;rw [hd'] at hd;cases hd
theorem Inv.funs (I:Inv X pins σ H s):s.heap.FunFrames X.base X.outer:=by
  have all:∀ (l:List Env),(∀ b∈frs l,b∈X.fs)→X.s₀.heap.FunFrames X.base l→s.heap.FunFrames X.base l:=by
    intro l
    induction l with
    | nil=>intro _ _;trivial
    | cons env r ih =>
      intro hs hl
      obtain ⟨hk,⟨L,o,hf,hn,ho,hd⟩,hr⟩:=hl
      have hL:L∈X.fs:=hs L (by unfold frs;rw [List.filterMap_cons,hf];exact List.mem_cons_self)
      obtain ⟨sl,e⟩:=I.base.slot L o ho (I.ok.frf L hL) hL fun z=>I.ok.exfs L z hL
      exact ⟨hk,⟨L,_,hf,hn,e,hd⟩,ih (fun b hb=>hs b (by unfold frs;rw [List.filterMap_cons,hf];exact List.mem_cons_of_mem _ hb)) hr⟩
  exact all X.outer (fun _ hb=>hb) I.ok.funs
theorem Inv.stack (I:Inv X pins σ H s):s.heap.FunFrames X.base X.stack:=by
  rcases I.ok.stk with e | ⟨e,hf⟩
  · rw [e];exact I.funs
  · rw [e]
    obtain ⟨m,hn,_⟩:=I.loc
    refine .cons (by rw [I.ok.kind];decide) hf hn ?_ I.funs
    exact Heap.get?_none_of_le (Nat.le_trans I.ok.bsz I.ok.above)
theorem Inv.stkSub (I:Inv X pins σ H s):∀ b∈frs X.stack,b∈X.env.locals :: X.fs:=fun b hb=>by
  rcases I.ok.stk with e | ⟨e,hf⟩
  · rw [e] at hb;exact List.mem_cons_of_mem _ hb
  · rw [e] at hb
    unfold frs at hb
    rw [List.filterMap_cons,hf] at hb
    exact hb
theorem Inv.stkFree (I:Inv X pins σ H s):∀ b∈frs X.stack,H b=none:=fun b hb=>by
  rcases List.mem_cons.mp (I.stkSub b hb) with e | hb
  · rw [e];exact I.free
  · obtain ⟨_,o,ho,_⟩:=I.ok.funs.mem hb
    exact I.base.free b o ho (I.ok.frf b hb) fun z=>I.ok.exfs b z hb
theorem Inv.step {g':Array GenState} {t':Nat} {d':Drawn} {ch:List Addr} (I:Inv X pins σ H s)
    (hch:∀ b∈ch,(b∈X.ex∨X.s₀.heap.objs.size≤b)∧b≠X.env.locals∧(∀ x c,X.env.cells.lookup x=some c→c≠b)∧∀ p∈X.pn ++ pins,p.1≠b)
    (keep:∀ b o,b≠X.env.locals→b ∉ X.fs→b ∉ ch→s.heap.get? b=some o→H b=none→h'.get? b=some o)
    (slot:∀ b o,b≠X.env.locals→b∈X.fs→b ∉ ch→s.heap.get? b=some o→H b=none→∃ sl,h'.get? b=some { o with slots:=sl }) (free:∀ b o,b ∉ ch→s.heap.get? b=some o→H b=none→H' b=none)
    (there:∀ b o,b ∉ ch→s.heap.get? b=some o→∃ o',h'.get? b=some o')
    (tups:∀ b xs,H b=some (.tup xs)→H' b=some (.tup xs)) (frzs:∀ b o u,H b=some (.frz o u)→H' b=some (.frz o u)) (tbls:∀ b ps,H b=some (.tbl ps)→∃ more,H' b=some (.tbl (ps ++ more)))
    (ns:∀ m,s.heap.Ns X.env.locals m→h'.Ns X.env.locals m) (hok:HOk X.prog X.w H' h') (hg:AllBare g') :
    Inv X pins σ H' { s with heap:=h',gens:=g',drawn:=d',toks:=t' }:=by
  have neL:∀ b o,X.s₀.heap.get? b=some o→b≠X.env.locals:=fun b o e=>Nat.ne_of_lt (Nat.lt_of_lt_of_le (Heap.lt_size e) I.ok.above)
  have neC:∀ b o,X.s₀.heap.get? b=some o→b ∉ X.ex→b ∉ ch:=fun b o e hx hb=>by
    rcases (hch b hb).1 with z | z
    · exact hx z
    · exact absurd (Nat.lt_of_lt_of_le (Heap.lt_size e) z) (Nat.lt_irrefl _)
  have cellK:∀ x c,X.env.cells.lookup x=some c→∀ v,s.heap.IsCell c v→h'.IsCell c v:=fun x c e v ⟨o,ho,hd⟩=>by
    have nch:c ∉ ch:=fun z=>(hch c z).2.2.1 x c e rfl
    by_cases hc:c∈X.fs
    · obtain ⟨sl,q⟩:=slot c o (I.cne x c e) hc nch ho (I.freeC x c e)
      exact ⟨_,q,hd⟩
    · exact ⟨o,keep c o (I.cne x c e) hc nch ho (I.freeC x c e),hd⟩
  refine ⟨I.ok,I.os,hg,⟨fun b o e n hb hx=>?_,fun b o e n hb hx=>?_,fun b o e n hx=>?_,fun b o e hx=>?_,fun b xs e=>tups b xs (I.base.tups b xs e),fun b o xs e=>frzs b o xs (I.base.frzs b o xs e),fun b ps e=>?_⟩,?_,fun x c e=>?_,?_,fun x c e=>?_,fun p hp=>?_,hok,I.len⟩
  · exact keep b o (neL b o e) hb (neC b o e hx) (I.base.keep b o e n hb hx) (I.base.free b o e n hx)
  · obtain ⟨sl,e1⟩:=I.base.slot b o e n hb hx
    obtain ⟨sl',e2⟩:=slot b _ (neL b o e) hb (neC b o e hx) e1 (I.base.free b o e n hx)
    exact ⟨sl',e2⟩
  · obtain ⟨o',e1⟩:=I.base.there b o e hx
    exact free b o' (neC b o e hx) e1 (I.base.free b o e n hx)
  · obtain ⟨o',e1⟩:=I.base.there b o e hx
    exact there b o' (neC b o e hx) e1
  · obtain ⟨m1,e1⟩:=I.base.tbls b ps e
    obtain ⟨m2,e2⟩:=tbls b _ e1
    exact ⟨m1 ++ m2,by rw [e2,Array.append_assoc]⟩
  · obtain ⟨m,hn,hl⟩:=I.loc
    refine ⟨m,ns m hn,fun i x v e1 e2 e3=>?_⟩
    obtain ⟨u,r,l⟩:=hl i x v e1 e2 e3
    refine ⟨u,r,?_⟩
    rcases l with l | ⟨k,c,e,z⟩
    · exact .inl l
    · exact .inr ⟨k,c,e,cellK x c e _ z⟩
  · obtain ⟨v,z⟩:=I.cell x c e
    exact ⟨v,cellK x c e v z⟩
  · obtain ⟨m,⟨o,_,_,ho,_⟩,_⟩:=I.loc
    exact free _ o (fun z=>(hch _ z).2.1 rfl) ho I.free
  · obtain ⟨v,o,ho,hd⟩:=I.cell x c e
    exact free c o (fun z=>(hch c z).2.2.1 x c e rfl) ho (I.freeC x c e)
  · obtain ⟨e,n,ne,nf,d⟩:=I.pin p hp
    have nch:p.1 ∉ ch:=fun z=>(hch p.1 z).2.2.2 p hp rfl
    exact ⟨keep p.1 p.2 ne nf nch e n,free p.1 p.2 nch e n,ne,nf,d⟩
theorem Inv.un {t':Nat} (I:Inv X pins σ H s) (u:Un X.fs [] H H' s.heap h') (hok:HOk X.prog X.w H' h'):Inv X pins σ H' { s with heap:=h',toks:=t' }:=by
  obtain ⟨m,⟨o,es,ep,ho,r⟩,_⟩:=id I.loc
  obtain ⟨sl,hL⟩:=u.any ho I.free (by simp)
  exact I.step (g':=s.gens) (d':=s.drawn) (ch:=[]) (fun _ z=>nomatch z) (fun b o _ hb _ e n=>u.keep b o e n hb (by simp)) (fun b o _ hb _ e n=>u.slot b o e n hb (by simp)) (fun b o _ e n=>u.free b o e n (by simp)) (fun b o _ e=>u.there b o e (by simp)) u.tups u.frzs u.tbls (fun m' hm=>by
    obtain ⟨o',es',ep',ho',r'⟩:=hm
    rw [ho] at ho';cases ho'
    exact ⟨_,es',ep',hL,r'⟩) hok I.bare
theorem Inv.call {g':Array GenState} {t':Nat} {d':Drawn} {ch:List Addr} (I:Inv X pins σ H s) (u:Un (frs X.stack) ch H H' s.heap h') (hok:HOk X.prog X.w H' h') (hg:AllBare g')
    (hch:∀ b∈ch,(b∈X.ex∨X.s₀.heap.objs.size≤b)∧b≠X.env.locals∧(∀ x c,X.env.cells.lookup x=some c→c≠b)∧∀ p∈X.pn ++ pins,p.1≠b) :
    Inv X pins σ H' { s with heap:=h',gens:=g',drawn:=d',toks:=t' }:=by
  obtain ⟨m,⟨o,es,ep,ho,r⟩,_⟩:=id I.loc
  obtain ⟨sl,hL⟩:=u.any ho I.free fun z=>(hch _ z).2.1 rfl
  exact I.step (ch:=ch) hch (fun b o hL hb hc e n=>u.keep b o e n (fun z=>(List.mem_cons.mp (I.stkSub b z)).elim hL hb) hc) (fun b o _ _ hc e n=>u.any e n hc) (fun b o hc e n=>u.free b o e n hc) (fun b o hc e=>u.there b o e hc) u.tups u.frzs u.tbls (fun m' hm=>by
    obtain ⟨o',es',ep',ho',r'⟩:=hm
    rw [ho] at ho';cases ho'
    exact ⟨_,es',ep',hL,r'⟩) hok hg
theorem Inv.turned {t':Nat} {it:Addr} (I:Inv X pins σ H s) (k:∀ b o,b≠it→s.heap.get? b=some o→h'.get? b=some o) (hn:H it=none) (hL:it≠X.env.locals)
    (h1:it∈X.ex∨X.s₀.heap.objs.size≤it) (h2:∀ x c,X.env.cells.lookup x=some c→c≠it) (h3:∀ p∈X.pn ++ pins,p.1≠it):Inv X pins σ H { s with heap:=h',toks:=t' }:=by
  have nit:∀ b u,H b=some u→b≠it:=fun b u e z=>by rw [z,hn] at e;cases e
  refine I.step (g':=s.gens) (d':=s.drawn) (ch:=[it]) (fun b hb=>?_) (fun b o _ _ hc e _=>k b o (fun z=>hc (by simp [z])) e) (fun b o _ _ hc e _=>⟨o.slots,k b o (fun z=>hc (by simp [z])) e⟩) (fun _ _ _ _ n=>n)
    (fun b o hc e=>⟨o,k b o (fun z=>hc (by simp [z])) e⟩) (fun _ _ e=>e) (fun _ _ _ e=>e) (fun b ps e=>⟨#[],by rw [e];simp⟩) (fun m hm=>?_) (fun b u e=>?_) I.bare
  · have e:b=it:=by simpa using hb
    subst e
    exact ⟨h1,hL,h2,h3⟩
  · obtain ⟨o,es,ep,ho,r⟩:=hm
    exact ⟨o,es,ep,k _ o (Ne.symm hL) ho,r⟩
  · refine (I.hok b u e).stay (fun c v hc q=>k c v ?_ q) (fun _ q=>q) fun _ _ q=>q
    rcases hc with z | z
    · rw [z];exact nit b u e
    · exact nit c _ z
theorem Inv.tok (I:Inv X pins σ H s) (t:Nat):Inv X pins σ H { s with toks:=t }:=I.un (h':=s.heap) (t':=t) Un.refl I.hok
theorem Inv.kept {t':Nat} (I:Inv X pins σ H s) (k:∀ b u,s.heap.get? b=some u→h'.get? b=some u):Inv X pins σ H { s with heap:=h',toks:=t' }:=I.un (Un.kept k) (I.hok.kept k)
theorem Inv.laid {a:Addr} {o:HO} {t':Nat} (I:Inv X pins σ H s) (k:∀ b u,s.heap.get? b=some u→h'.get? b=some u) (hp:s.heap.objs.size≤a) (new:ObjOk X.prog X.w (upd H a o) h' a o) :
    Inv X pins σ (upd H a o) { s with heap:=h',toks:=t' }:=I.un (Un.laid k hp (I.hok.fresh hp)) (I.hok.laid k hp new)
theorem Inv.write {x e:Addr} {o:HO} {t':Nat} (I:Inv X pins σ H s) (mu:Mut (H x)) (he:e=x∨H e=some (.own x)) (k:∀ b u,b≠e→s.heap.get? b=some u→h'.get? b=some u) (heo:∃ u,h'.get? e=some u)
    (new:ObjOk X.prog X.w (upd H x o) h' x o):Inv X pins σ (upd H x o) { s with heap:=h',toks:=t' }:=I.un (Un.write mu he k heo) (I.hok.write mu he k heo new)
theorem Inv.pins_of {pins':List (Addr × Obj)} (I:Inv X pins σ H s) (h:∀ p∈pins',s.heap.get? p.1=some p.2∧H p.1=none∧p.1≠X.env.locals∧p.1 ∉ X.fs∧∀ v,p.2.data≠.cell v):Inv X pins' σ H s :=
  ⟨I.ok,I.os,I.bare,I.base,I.loc,I.cell,I.free,I.freeC,fun p hp=>(List.mem_append.mp hp).elim (fun z=>I.pin p (List.mem_append_left _ z)) (h p),I.hok,I.len⟩
theorem nodup_ix {N:List Str} (hN:N.Nodup) {i j:Nat} {x:Str} (a:N[i]?=some x) (b:N[j]?=some x):i=j:=by
  obtain ⟨h1,e1⟩:=List.getElem?_eq_some_iff.mp a
  obtain ⟨h2,e2⟩:=List.getElem?_eq_some_iff.mp b
  exact (List.getElem_inj hN).mp (e1.trans e2.symm)
theorem store_ok2 {M:Model} {A:Around} {E:Value→Shared→Prop} {i:Nat} {x:Str} {v:V} {u:Value} {Q:Unit→Shared→Prop} (I:Inv X pins σ H s) (hN:X.N.Nodup) (hi:X.N[i]?=some x) (hx:Loc X.env.scope x) (r:RelV v u)
    (h:∀ s',Inv X pins (σ.set i (some v)) H s'→(∃ a,Heap.SameBut a s.heap s'.heap∧(a=X.env.locals∨X.env.cells.lookup x=some a))→Q () s') (hf:X.fn x=true∨X.env.scope.names.lookup x=some .local:=by first | exact .inl rfl | exact .inr rfl | assumption):wpAny M A (storeName X.env x u) Q E s:=by
  obtain ⟨m,hn,hl⟩:=id I.loc
  have hcls:(X.env.scope.kind == .class || (X.env.scope.kind == .module && X.env.locals != X.env.globals))=false:=by rw [I.ok.kind];rfl
  have hiσ:i < σ.length:=by rw [I.len];exact (List.getElem?_eq_some_iff.mp hi).1
  have cne:=I.cne
  have tracked:∀ {a:Addr} {h':Heap},(∃ o,s.heap.get? a=some o∧H a=none)→Heap.SameBut a s.heap h'→HOk X.prog X.w H h':=fun {a h'} ha hs b ob e=>by
    obtain ⟨_,_,hfree⟩:=ha
    refine (I.hok b ob e).stay (fun c w' hc q=>(hs.2 c ?_).trans q) (fun _ q=>q) fun _ _ q=>q
    rintro rfl
    rcases hc with rfl | hc
    · rw [hfree] at e;cases e
    · rw [hfree] at hc;cases hc
  rcases hx with hk | hk
  · refine wpAny_storeName_local hk hn (fun h' hn' hs=>?_) hcls
    obtain ⟨oL,_,_,hoL,_⟩:=id hn
    refine h _ ⟨I.ok,I.os,I.bare,⟨fun b o e n hb hx=>?_,fun b o e n hb hx=>?_,I.base.free,fun b o e hx=>?_,I.base.tups,I.base.frzs,I.base.tbls⟩,⟨_,hn',fun j y v' e1 e2 e3=>?_⟩,fun y c e=>?_,I.free,I.freeC,fun p hp=>?_,tracked ⟨oL,hoL,I.free⟩ hs,by simpa using I.len⟩ ⟨_,hs,.inl rfl⟩
    · exact (hs.2 b (Nat.ne_of_lt (Nat.lt_of_lt_of_le (Heap.lt_size e) I.ok.above))).trans (I.base.keep b o e n hb hx)
    · obtain ⟨sl,e1⟩:=I.base.slot b o e n hb hx
      exact ⟨sl,(hs.2 b (Nat.ne_of_lt (Nat.lt_of_lt_of_le (Heap.lt_size e) I.ok.above))).trans e1⟩
    · obtain ⟨o',e1⟩:=I.base.there b o e hx
      exact ⟨o',(hs.2 b (Nat.ne_of_lt (Nat.lt_of_lt_of_le (Heap.lt_size e) I.ok.above))).trans e1⟩
    · by_cases hj:j=i
      · subst hj
        rw [hi] at e1;cases e1
        rw [List.getElem?_set_self hiσ] at e2
        cases e2
        exact ⟨u,r,.inl ⟨hk,by simp⟩⟩
      · rw [List.getElem?_set_ne (Ne.symm hj)] at e2
        obtain ⟨u',r',q⟩:=hl j y v' e1 e2 e3
        refine ⟨u',r',?_⟩
        rcases q with ⟨k,e⟩ | ⟨k,c,e,z⟩
        · refine .inl ⟨k,?_⟩
          have:y≠x:=fun e=>hj (nodup_ix hN e1 (e ▸ hi))
          simp [this,e]
        · exact .inr ⟨k,c,e,z.sameBut hs (cne y c e)⟩
    · obtain ⟨w',z⟩:=I.cell y c e
      exact ⟨w',z.sameBut hs (cne y c e)⟩
    · obtain ⟨e,n,ne,nf,d⟩:=I.pin p hp
      exact ⟨(hs.2 p.1 ne).trans e,n,ne,nf,d⟩
  · have hfn:X.fn x=true:=by
      rcases hf with z | z
      · exact z
      · rw [z] at hk;cases hk
    obtain ⟨c,hc⟩:=I.ok.has x (.inl hk)
    obtain ⟨w',z⟩:=I.cell x c hc
    refine wpAny_storeName_cell I.ok.kind hk hc z (fun h' hc' hs=>?_)
    obtain ⟨oc,hoc,hocd⟩:=id z
    refine h { s with heap:=h' } ⟨I.ok,I.os,I.bare,⟨fun b o e n hb hx=>?_,fun b o e n hb hx=>?_,I.base.free,fun b o e hx=>?_,I.base.tups,I.base.frzs,I.base.tbls⟩,⟨m,hn.sameBut hs (Ne.symm (cne x c hc)),fun j y v' e1 e2 e3=>?_⟩,fun y c' e=>?_,I.free,I.freeC,fun p hp=>?_,tracked ⟨oc,hoc,I.freeC x c hc⟩ hs,by simpa using I.len⟩ ⟨c,hs,.inr hc⟩
    · exact (hs.2 b (Nat.ne_of_lt (Nat.lt_of_lt_of_le (Heap.lt_size e) (I.ok.cab x c hfn hc)))).trans (I.base.keep b o e n hb hx)
    · obtain ⟨sl,e1⟩:=I.base.slot b o e n hb hx
      exact ⟨sl,(hs.2 b (Nat.ne_of_lt (Nat.lt_of_lt_of_le (Heap.lt_size e) (I.ok.cab x c hfn hc)))).trans e1⟩
    · obtain ⟨o',e1⟩:=I.base.there b o e hx
      exact ⟨o',(hs.2 b (Nat.ne_of_lt (Nat.lt_of_lt_of_le (Heap.lt_size e) (I.ok.cab x c hfn hc)))).trans e1⟩
    · by_cases hj:j=i
      · subst hj
        rw [hi] at e1;cases e1
        rw [List.getElem?_set_self hiσ] at e2
        cases e2
        exact ⟨u,r,.inr ⟨.inl hk,c,hc,hc'⟩⟩
      · rw [List.getElem?_set_ne (Ne.symm hj)] at e2
        obtain ⟨u',r',q⟩:=hl j y v' e1 e2 e3
        refine ⟨u',r',?_⟩
        rcases q with q | ⟨k,c',e,z'⟩
        · exact .inl q
        · refine .inr ⟨k,c',e,z'.sameBut hs ?_⟩
          rintro rfl
          exact hj (nodup_ix hN e1 (I.ok.inj _ _ _ e hc ▸ hi))
    · by_cases hcc:c'=c
      · subst hcc;exact ⟨_,hc'⟩
      · obtain ⟨w2,z2⟩:=I.cell y c' e
        exact ⟨w2,z2.sameBut hs hcc⟩
    · obtain ⟨e,n,ne,nf,d⟩:=I.pin p hp
      refine ⟨(hs.2 p.1 ?_).trans e,n,ne,nf,d⟩
      intro q
      rw [q,hoc] at e
      have q':oc=p.2:=Option.some.inj e
      exact d w' (by rw [← q'];exact hocd)
theorem store_ok {M:Model} {A:Around} {E:Value→Shared→Prop} {i:Nat} {x:Str} {v:V} {u:Value} {Q:Unit→Shared→Prop} (I:Inv X pins σ H s) (hN:X.N.Nodup) (hi:X.N[i]?=some x) (hx:Loc X.env.scope x) (r:RelV v u)
    (h:∀ s',Inv X pins (σ.set i (some v)) H s'→Q () s') (hf:X.fn x=true∨X.env.scope.names.lookup x=some .local:=by first | exact .inl rfl | exact .inr rfl | assumption):wpAny M A (storeName X.env x u) Q E s :=
  store_ok2 I hN hi hx r (fun s' I' _=>h s' I') hf
theorem Inv.call' {s':Shared} {ch:List Addr} (I:Inv X pins σ H s) (ho:s'.os=s.os) (u:Un (frs X.stack) ch H H' s.heap s'.heap) (hok:HOk X.prog X.w H' s'.heap) (hg:AllBare s'.gens)
    (hch:∀ b∈ch,(b∈X.ex∨X.s₀.heap.objs.size≤b)∧b≠X.env.locals∧(∀ x c,X.env.cells.lookup x=some c→c≠b)∧∀ p∈X.pn ++ pins,p.1≠b):Inv X pins σ H' s':=by
  obtain ⟨h',g',d',t',o'⟩:=s'
  have e:o'=s.os:=ho
  subst e
  exact I.call (g':=g') (t':=t') (d':=d') u hok hg hch
end
abbrev XK:=Value→Option Addr→Hp→Prop
abbrev St:=List (Option V)
abbrev VK:=V→Hp→Prop
abbrev TE:=St→Hp→VK→Prop
abbrev TT:=St→Hp→(Bool→Hp→Prop)→Prop
abbrev TA:=St→Hp→(List V→Hp→Prop)→Prop
set_option genSizeOf false in
set_option genInjectivity false in
structure Ends where
  nx:St→Hp→Prop
  rt:VK
  bk:St→Hp→Prop:=fun _ _=>False
  ct:St→Hp→Prop:=fun _ _=>False
abbrev TS:=Ends→St→Hp→Prop
def EP (X:Cx) (pins:List (Addr × Obj)) (σ:St) (Q:VK) (u:Value) (s':Shared):Prop:=∃ v H',Inv X pins σ H' s'∧RelV v u∧Q v H'
def TP (X:Cx) (pins:List (Addr × Obj)) (σ:St) (Q:Bool→Hp→Prop) (b:Bool) (s':Shared):Prop:=∃ H',Inv X pins σ H' s'∧Q b H'
def AP (X:Cx) (pins:List (Addr × Obj)) (σ:St) (Q:List V→Hp→Prop) (us:List Value) (s':Shared):Prop:=∃ vs H',Inv X pins σ H' s'∧Vals vs us∧Q vs H'
def SP (X:Cx) (pins:List (Addr × Obj)) (D:Ends) (f:Flow) (s':Shared):Prop :=
  match f with
  | .next=>∃ σ' H',Inv X pins σ' H' s'∧D.nx σ' H'
  | .brk=>∃ σ' H',Inv X pins σ' H' s'∧D.bk σ' H'
  | .cont=>∃ σ' H',Inv X pins σ' H' s'∧D.ct σ' H'
  | .ret u=>∃ v σ' H',Inv X pins σ' H' s'∧RelV v u∧D.rt v H'
def PE (X:Cx) (e:Expr) (t:TE):Prop :=
  ∀ (pins:List (Addr × Obj)) (s:Shared) (σ:St) (H:Hp) (Q:VK),Inv X pins σ H s→t σ H Q→wpAny (model X.prog X.w) X.A (eval e X.env) (EP X pins σ Q) X.xe s
def PT (X:Cx) (e:Expr) (t:TT):Prop :=
  ∀ (pins:List (Addr × Obj)) (s:Shared) (σ:St) (H:Hp) (Q:Bool→Hp→Prop),Inv X pins σ H s→t σ H Q→wpAny (model X.prog X.w) X.A (isTrue e X.env (eval e X.env)) (TP X pins σ Q) X.xe s
def PW (X:Cx) (e:Expr) (t:TT):Prop :=
  ∀ (whole:Sem Value) (pins:List (Addr × Obj)) (s:Shared) (σ:St) (H:Hp) (Q:Bool→Hp→Prop),Inv X pins σ H s→t σ H Q→wpAny (model X.prog X.w) X.A (isTrue e X.env whole) (TP X pins σ Q) X.xe s
theorem PW.pt {X:Cx} {e:Expr} {t:TT} (h:PW X e t):PT X e t:=h _
def PA (X:Cx) (es:List Expr) (t:TA):Prop :=
  ∀ (pos:Pos) (pins:List (Addr × Obj)) (s:Shared) (σ:St) (H:Hp) (Q:List V→Hp→Prop),Inv X pins σ H s→t σ H Q→wpAny (model X.prog X.w) X.A (spliced (backTo pos (starEach es X.env))) (AP X pins σ Q) X.xe s
def PS (X:Cx) (st:Stmt) (t:TS):Prop :=
  ∀ (pins:List (Addr × Obj)) (s:Shared) (σ:St) (H:Hp) (D:Ends),Inv X pins σ H s→t D σ H→wpAny (model X.prog X.w) X.A (exec st X.env) (SP X pins D) X.xe s
def PSs (X:Cx) (st:List Stmt) (t:TS):Prop :=
  ∀ (pins:List (Addr × Obj)) (s:Shared) (σ:St) (H:Hp) (D:Ends),Inv X pins σ H s→t D σ H→wpAny (model X.prog X.w) X.A (execs st X.env) (SP X pins D) X.xe s
theorem thn {α:Type} {t:Sem α} {Q Q':α→Shared→Prop} {M:Model} {A:Around} {E:Value→Shared→Prop} {s:Shared} (h:wpAny M A t Q E s) (hQ:∀ a s,Q a s→Q' a s):wpAny M A t Q' E s:=wpAny_mono h hQ fun _ _ x=>x
end L2
namespace L2
open PySem PySem.Spec PyProof.Rows
section
variable {X:Cx}
def tVar (i:Nat):TE:=fun σ H Q=>∃ v,σ[i]?=some (some v)∧Q v H
def tC (v:V):TE:=fun _ H Q=>Q v H
theorem pe_var {i:Nat} {x:Str} {pos:Pos} (hN:X.N[i]?=some x) (hv:Vis X.env.scope x) (hd:(x == ("__debug__":Str))=false:=by decide) (hcd:(x == ("__classdict__":Str))=false:=by decide):PE X (.Name x pos) (tVar i):=by
  intro pins s σ H Q I h
  obtain ⟨v,e,h⟩:=h
  obtain ⟨m,hn,hl⟩:=I.loc
  obtain ⟨u,r,l⟩:=hl i x v hN e hv
  have fin:EP X pins σ Q u s:=⟨v,H,I,r,h⟩
  rcases l with ⟨hk,hm⟩ | ⟨hk,c,hc,hcell⟩
  · exact wpAny_Name (wpAny_loadName_local I.ok.kind hk hn hm fin) hd
  · rcases hk with hk | hk
    · exact wpAny_Name (wpAny_loadName_cell I.ok.kind hk hc hcell fin) hd
    · exact wpAny_Name (wpAny_loadName_free I.ok.kind hk hc hcell fin hcd) hd
theorem pe_int {i j pos}:PE X (.Constant (.int i) j pos) (tC (.int i)):=fun _ _ _ H _ I h=>wpAny_Constant_int ⟨.int i,H,I.tok _,⟨_,rfl⟩,h⟩
theorem pe_bl {b j pos}:PE X (.Constant (.bool b) j pos) (tC (.bl b)):=fun _ _ _ H _ I h=>Constant_bool ⟨.bl b,H,I,rfl,h⟩
theorem pe_non {j pos}:PE X (.Constant .none j pos) (tC .non):=fun _ _ _ H _ I h=>Constant_none ⟨.non,H,I,rfl,h⟩
theorem pe_str {x j pos}:PE X (.Constant (.str x) j pos) (tC (.str x)):=fun _ _ _ H _ I h=>Calls.Constant_str ⟨.str x,H,I.tok _,⟨_,rfl⟩,h⟩
def Gl (X:Cx) (x:Str):Prop:=X.env.kindOf x=some .globalImplicit
theorem ld_glob {E:Value→Shared→Prop} {pins:List (Addr × Obj)} {s:Shared} {σ:St} {H:Hp} {x:Str} {u:Value} {pos:Pos} {Q:Value→Shared→Prop} (I:Inv X pins σ H s) (hg:Gl X x) (hm:X.mg x=some u) (h:Q u s)
    (hd:(x == ("__debug__":Str))=false:=by decide):wpAny (model X.prog X.w) X.A (eval (.Name x pos) X.env) Q E s :=
  Calls.Name_function_global I.ok.kind hg (Calls.loadGlobal_global (by rw [I.ok.glob];exact I.mod.glob.keeps I.bk) hm h) hd
theorem ld_blt {E:Value→Shared→Prop} {pins:List (Addr × Obj)} {s:Shared} {σ:St} {H:Hp} {x:Str} {u:Value} {pos:Pos} {Q:Value→Shared→Prop} (I:Inv X pins σ H s) (hg:Gl X x) (hm:X.mg x=none) (hv:bootBuiltins x=some u) (h:Q u s)
    (hn:x≠"__name__":=by decide) (hd:(x == ("__debug__":Str))=false:=by decide):wpAny (model X.prog X.w) X.A (eval (.Name x pos) X.env) Q E s:=by
  obtain ⟨mb,h1,h2⟩:=I.mod.blt
  exact Calls.Name_function_global I.ok.kind hg (Calls.loadGlobal_builtin (by rw [I.ok.glob];exact I.mod.glob.keeps I.bk) hm (by rw [I.ok.blt];exact h1.keeps I.bk) ((h2 x hn).trans hv) h) hd
theorem pe_glob {x:Str} {v:V} {u:Value} {pos:Pos} (hg:Gl X x) (hm:X.mg x=some u) (r:RelV v u) (hd:(x == ("__debug__":Str))=false:=by decide):PE X (.Name x pos) (tC v) :=
  fun _ _ _ H _ I h=>ld_glob I hg hm ⟨v,H,I,r,h⟩ hd
theorem pe_bltn {x:Str} {v:V} {u:Value} {pos:Pos} (hg:Gl X x) (hm:X.mg x=none) (hv:bootBuiltins x=some u) (r:RelV v u) (hn:x≠"__name__":=by decide) (hd:(x == ("__debug__":Str))=false:=by decide):PE X (.Name x pos) (tC v) :=
  fun _ _ _ H _ I h=>ld_blt I hg hm hv ⟨v,H,I,r,h⟩ hn hd
variable {a b:Expr} {ta tb:TE} {pos:Pos}
def tB (t:TE):TT:=fun σ H Q=>t σ H fun x H1=>∃ c,x=.bl c∧Q c H1
theorem pt_val {e:Expr} {t:TE} (h:PE X e t) (he:∀ whole,isTrue e X.env whole=(do let v ← whole;standAt e.pos;holding [v] (truthy v)):=by intro _;rfl):PT X e (tB t):=by
  intro pins s σ H Q I hw
  refine isTrue_plain (thn (h pins s σ H _ I hw) fun v s1 ⟨x,H1,I1,r1,q1⟩=>?_) (he _)
  obtain ⟨d,rfl,q⟩:=q1
  cases r1
  exact wpAny_truthy_bool ⟨H1,I1,q⟩
variable {tA tB':TT} {rest:List Expr}
def tAnd (t u:TT):TT:=fun σ H Q=>t σ H fun c H1=>if c=true then u σ H1 Q else Q false H1
def tOr (t u:TT):TT:=fun σ H Q=>t σ H fun c H1=>if c=true then Q true H1 else u σ H1 Q
def tNot (t:TT):TT:=fun σ H Q=>t σ H fun c H1=>Q (!c) H1
theorem pw_and1 (ha:PT X a tA):PW X (.BoolOp .And [a] pos) tA:=by
  intro wh pins s σ H Q I h
  refine isTrue_and (thn (ha pins s σ H Q I h) fun c s1 e=>?_)
  cases c with
  | true=>exact isTrue_and_nil e
  | false=>exact e
theorem pw_or1 (ha:PT X a tA):PW X (.BoolOp .Or [a] pos) tA:=by
  intro wh pins s σ H Q I h
  refine isTrue_or (thn (ha pins s σ H Q I h) fun c s1 e=>?_)
  cases c with
  | false=>exact isTrue_or_nil e
  | true=>exact e
theorem pw_and (ha:PT X a tA) (hb:PW X (.BoolOp .And (b :: rest) pos) tB'):PW X (.BoolOp .And (a :: b :: rest) pos) (tAnd tA tB'):=by
  intro wh pins s σ H Q I h
  refine isTrue_and (thn (ha pins s σ H _ I h) fun c s1 ⟨H1,I1,q1⟩=>?_)
  cases c with
  | true=>exact hb wh pins s1 σ H1 Q I1 q1
  | false=>exact ⟨H1,I1,q1⟩
theorem pw_or (ha:PT X a tA) (hb:PW X (.BoolOp .Or (b :: rest) pos) tB'):PW X (.BoolOp .Or (a :: b :: rest) pos) (tOr tA tB'):=by
  intro wh pins s σ H Q I h
  refine isTrue_or (thn (ha pins s σ H _ I h) fun c s1 ⟨H1,I1,q1⟩=>?_)
  cases c with
  | true=>exact ⟨H1,I1,q1⟩
  | false=>exact hb wh pins s1 σ H1 Q I1 q1
theorem pt_not (ha:PT X a tA):PT X (.UnaryOp .Not a pos) (tNot tA):=by
  intro pins s σ H Q I h
  exact isTrue_not (ha pins s σ H (fun c H1=>Q (!c) H1) I h)
def tAndV (ta tb:TE):TE:=fun σ H Q=>ta σ H fun x H1=>∃ c,x=.bl c∧if c=true then tb σ H1 Q else Q (.bl false) H1
def tOrV (ta tb:TE):TE:=fun σ H Q=>ta σ H fun x H1=>∃ c,x=.bl c∧if c=true then Q (.bl true) H1 else tb σ H1 Q
def tNotV (ta:TE):TE:=fun σ H Q=>ta σ H fun x H1=>∃ c,x=.bl c∧Q (.bl (!c)) H1
theorem pe_one {op} {t:TE} (h:PE X a t):PE X (.BoolOp op [a] pos) t:=fun pins s σ H Q I hw=>BoolOp_one (h pins s σ H Q I hw)
theorem pe_and (ha:PE X a ta) (hb:PE X (.BoolOp .And (b :: rest) pos) tb):PE X (.BoolOp .And (a :: b :: rest) pos) (tAndV ta tb):=by
  intro pins s σ H Q I h
  refine BoolOp_and (thn (ha pins s σ H _ I h) fun v s1 ⟨x,H1,I1,r1,q1⟩=>?_)
  obtain ⟨c,rfl,q1⟩:=q1
  cases r1
  refine wpAny_truthy_bool ?_
  cases c with
  | true=>exact hb pins s1 σ H1 Q I1 q1
  | false=>exact ⟨.bl false,H1,I1,rfl,q1⟩
theorem pe_or (ha:PE X a ta) (hb:PE X (.BoolOp .Or (b :: rest) pos) tb):PE X (.BoolOp .Or (a :: b :: rest) pos) (tOrV ta tb):=by
  intro pins s σ H Q I h
  refine BoolOp_or (thn (ha pins s σ H _ I h) fun v s1 ⟨x,H1,I1,r1,q1⟩=>?_)
  obtain ⟨c,rfl,q1⟩:=q1
  cases r1
  refine wpAny_truthy_bool ?_
  cases c with
  | false=>exact hb pins s1 σ H1 Q I1 q1
  | true=>exact ⟨.bl true,H1,I1,rfl,q1⟩
def tIf (t:TT) (ta tb:TE):TE:=fun σ H Q=>t σ H fun c H1=>if c=true then ta σ H1 Q else tb σ H1 Q
theorem pe_ifExp {c:Expr} (hc:PT X c tA) (ha:PE X a ta) (hb:PE X b tb):PE X (.IfExp c a b pos) (tIf tA ta tb):=by
  intro pins s σ H Q I h
  refine wpAny_IfExp (thn (hc pins s σ H _ I h) fun d s1 ⟨H1,I1,q1⟩=>?_)
  cases d with
  | true=>exact ha pins s1 σ H1 Q I1 q1
  | false=>exact hb pins s1 σ H1 Q I1 q1
end
end L2
namespace L2
open PySem PySem.Spec PyProof.Rows
def SqL (K:PySem.W.Frag) (H:Hp) (a:Addr) (xs:List V):Prop :=
  Rd H a (.lst xs) ∨
    ∃ (o:Obj) (its:Array Value) (n:Nat),K.lookup a=some o∧o.cls=.type "list"∧o.dict=none∧o.data=.seq its n∧its.size≤sizeLine∧Vals xs its.toList
def SqT (K:PySem.W.Frag) (H:Hp) (a:Addr) (xs:List V):Prop :=
  Rd H a (.tup xs) ∨
    ∃ (o:Obj) (its:Array Value) (n:Nat),K.lookup a=some o∧o.cls=.type "tuple"∧o.data=.seq its n∧its.size≤sizeLine∧Vals xs its.toList
def absV:Value→Option V
  | .none=>some .non
  | .bool b=>some (.bl b)
  | .int i _=>some (.int i)
  | .str x _=>some (.str x)
  | .bytes b _=>some (.byt b)
  | .float b _=>some (.flt b)
  | .ref a=>some (.ref a)
  | .type n=>some (.ty n)
  | _=>none
theorem RelV.abs {x:V} {u:Value} (r:RelV x u):absV u=some x:=by
  cases x with
  | non=>cases r;rfl
  | bl _=>cases r;rfl
  | int _=>obtain ⟨t,rfl⟩:=r;rfl
  | str _=>obtain ⟨t,rfl⟩:=r;rfl
  | byt _=>obtain ⟨t,rfl⟩:=r;rfl
  | flt _=>obtain ⟨t,rfl⟩:=r;rfl
  | ref _=>cases r;rfl
  | ty _=>cases r;rfl
theorem RelV.inj {x y:V} {u:Value} (r:RelV x u) (q:RelV y u):x=y:=Option.some.inj (r.abs.symm.trans q.abs)
theorem Vals.inj:∀ {xs ys:List V} {us:List Value},Vals xs us→Vals ys us→xs=ys
  | _,_,_,.nil,.nil=>rfl
  | _,_,_,.cons r t,.cons r' t'=>by rw [r.inj r',Vals.inj t t']
section
variable {X:Cx} {pins:List (Addr × Obj)} {σ:St} {H:Hp} {s:Shared} {a:Addr} {xs ys:List V}
theorem SqL.of {K:PySem.W.Frag} (h:H a=some (.lst xs)):SqL K H a xs:=.inl (.inl h)
theorem SqT.of {K:PySem.W.Frag} (h:H a=some (.tup xs)):SqT K H a xs:=.inl (.inl h)
theorem Inv.list (I:Inv X pins σ H s) (h:SqL X.K H a xs):∃ its:List Value,Vals xs its∧PlainL s.heap a its.toArray∧xs.length≤sizeLine:=by
  rcases h with h | ⟨o,its,n,hk,hc,hd,hs,hz,r⟩
  · obtain ⟨z,its,n,r,e⟩:=h.ok I.hok
    exact ⟨its,r,⟨_,n,e,rfl,rfl,rfl⟩,z⟩
  · refine ⟨its.toList,r,⟨o,n,I.kIn a o hk,hc,hd,by simpa using hs⟩,?_⟩
    have e:=r.length
    simp only [Array.length_toList] at e
    omega
theorem Inv.tuple (I:Inv X pins σ H s) (h:SqT X.K H a xs):∃ its:List Value,Vals xs its∧IsTup s.heap a its.toArray∧xs.length≤sizeLine:=by
  rcases h with h | ⟨o,its,n,hk,hc,hs,hz,r⟩
  · obtain ⟨z,its,r,p⟩:=h.ok I.hok
    exact ⟨its,r,p,z⟩
  · refine ⟨its.toList,r,⟨o,I.kIn a o hk,hc,n,by simpa using hs⟩,?_⟩
    have e:=r.length
    simp only [Array.length_toList] at e
    omega
theorem Inv.list_inj (I:Inv X pins σ H s) (h:SqL X.K H a xs) (h':SqL X.K H a ys):xs=ys:=by
  obtain ⟨its,r,⟨o,n,e,_,_,d⟩,_⟩:=I.list h
  obtain ⟨its',r',⟨o',n',e',_,_,d'⟩,_⟩:=I.list h'
  rw [e] at e';cases e'
  rw [d] at d'
  injection d' with d1 _
  have:its=its':=by simpa using congrArg Array.toList d1
  subst this
  exact r.inj r'
theorem Inv.tuple_inj (I:Inv X pins σ H s) (h:SqT X.K H a xs) (h':SqT X.K H a ys):xs=ys:=by
  obtain ⟨its,r,⟨o,e,_,n,d⟩,_⟩:=I.tuple h
  obtain ⟨its',r',⟨o',e',_,n',d'⟩,_⟩:=I.tuple h'
  rw [e] at e';cases e'
  rw [d] at d'
  injection d' with d1 _
  have:its=its':=by simpa using congrArg Array.toList d1
  subst this
  exact r.inj r'
end
abbrev Cx.wish (X:Cx) (E:Value→Shared→Prop):Cx:={ X with xe:=E }
abbrev Cx.nox (X:Cx):Cx:=X.wish fun _ _=>False
theorem Cx.Ok.wish {X:Cx} (ok:X.Ok) (E:Value→Shared→Prop):(X.wish E).Ok :=
  ⟨ok.mod,ok.kind,ok.glob,ok.blt,ok.above,ok.inj,ok.has,ok.cab,ok.hd,ok.frames,ok.stk,ok.exf,ok.bs,ok.bsz,ok.noex,ok.exfs,ok.funs,ok.frf⟩
theorem Cx.Ok.unwish {X:Cx} {E:Value→Shared→Prop} (ok:(X.wish E).Ok):X.Ok :=
  ⟨ok.mod,ok.kind,ok.glob,ok.blt,ok.above,ok.inj,ok.has,ok.cab,ok.hd,ok.frames,ok.stk,ok.exf,ok.bs,ok.bsz,ok.noex,ok.exfs,ok.funs,ok.frf⟩
section
variable {X:Cx} {pins:List (Addr × Obj)} {σ:St} {H:Hp} {s:Shared} {E:Value→Shared→Prop}
theorem Inv.wish (I:Inv X pins σ H s) (E:Value→Shared→Prop):Inv (X.wish E) pins σ H s:=⟨I.ok.wish E,I.os,I.bare,I.base,I.loc,I.cell,I.free,I.freeC,I.pin,I.hok,I.len⟩
theorem Inv.unwish (I:Inv (X.wish E) pins σ H s):Inv X pins σ H s:=⟨I.ok.unwish,I.os,I.bare,I.base,I.loc,I.cell,I.free,I.freeC,I.pin,I.hok,I.len⟩
theorem SP.unwish {D:Ends} {f:Flow} {s':Shared} (h:SP (X.wish E) pins D f s'):SP X pins D f s':=by
  cases f with
  | next=>obtain ⟨σ',H',I,q⟩:=h;exact ⟨σ',H',I.unwish,q⟩
  | brk=>obtain ⟨σ',H',I,q⟩:=h;exact ⟨σ',H',I.unwish,q⟩
  | cont=>obtain ⟨σ',H',I,q⟩:=h;exact ⟨σ',H',I.unwish,q⟩
  | ret u=>obtain ⟨v,σ',H',I,r,q⟩:=h;exact ⟨v,σ',H',I.unwish,r,q⟩
theorem PSs.nox {st:List Stmt} {t:TS} (h:PSs X.nox st t):PSs X st t:=fun pins s σ H D I hw =>
  wpAny_mono (h pins s σ H D (I.wish _) hw) (fun _ _ q=>q.unwish) fun _ _ z=>False.elim z
end
section
variable {X:Cx} {st:Stmt} {rest:List Stmt} {t u:TS} {e:Expr} {te:TE} {pos:Pos}
def tNext:TS:=fun D σ H=>D.nx σ H
def tSeq (t u:TS):TS:=fun D σ H=>t { D with nx:=u D } σ H
theorem pss_nil:PSs X [] tNext:=fun _ _ σ H _ I h=>wpAny_execs_nil ⟨σ,H,I,h⟩
theorem pss_cons (h1:PS X st t) (h2:PSs X rest u):PSs X (st :: rest) (tSeq t u):=by
  intro pins s σ H D I h
  refine wpAny_execs_cons (thn (h1 pins s σ H { D with nx:=u D } I h) fun f s1 q=>?_)
  cases f with
  | next =>
    obtain ⟨σ',H',I',q⟩:=q
    exact h2 pins s1 σ' H' D I' q
  | ret v=>exact q
  | brk=>exact q
  | cont=>exact q
theorem pss_one (h1:PS X st t):PSs X [st] t:=by
  intro pins s σ H D I h
  refine wpAny_execs_cons (thn (h1 pins s σ H D I h) fun f s1 q=>?_)
  cases f with
  | next=>exact wpAny_execs_nil q
  | ret v=>exact q
  | brk=>exact q
  | cont=>exact q
theorem Inv.quiet {pins:List (Addr × Obj)} {σ:St} {H:Hp} {s:Shared} (I:Inv X pins σ H s):interactive X.env=false:=by simp [interactive,I.ok.kind]
def tDrop (te:TE):TS:=fun D σ H=>te σ H fun _ H1=>D.nx σ H1
theorem ps_expr (he:PE X e te) (hs:swapsWith e none pos.line X.env=pure false:=by rfl):PS X (.Expr e pos) (tDrop te):=by
  intro pins s σ H D I h
  exact wpAny_Expr_any (thn (he pins s σ H _ I h) fun v s1 ⟨x,H1,I1,r1,q1⟩=>⟨σ,H1,I1,q1⟩) I.quiet hs
def tRet (te:TE):TS:=fun D σ H=>te σ H D.rt
theorem ps_ret (he:PE X e te):PS X (.Return (some e) pos) (tRet te):=by
  intro pins s σ H D I h
  exact wpAny_Return_some (thn (he pins s σ H _ I h) fun v s1 ⟨x,H1,I1,r1,q1⟩=>⟨x,σ,H1,I1,r1,q1⟩)
def tRetN:TS:=fun D _ H=>D.rt .non H
theorem ps_retN:PS X (.Return none pos) tRetN:=fun _ _ σ H _ I h=>wpAny_Return_none ⟨.non,σ,H,I,rfl,h⟩
def tIfS (c:TT) (t u:TS):TS:=fun D σ H=>c σ H fun b H1=>if b=true then t D σ H1 else u D σ H1
theorem ps_if {c:Expr} {a b:List Stmt} {tc:TT} (hc:PT X c tc) (ha:PSs X a t) (hb:PSs X b u):PS X (.If c a b pos) (tIfS tc t u):=by
  intro pins s σ H D I h
  refine wpAny_If (thn (hc pins s σ H _ I h) fun d s1 ⟨H1,I1,q1⟩=>?_)
  cases d with
  | true=>exact ha pins s1 σ H1 D I1 q1
  | false=>exact hb pins s1 σ H1 D I1 q1
def tNever:TS:=fun _ _ _=>False
end
abbrev TG:=V→St→Hp→(St→Hp→Prop)→Prop
abbrev TGs:=List V→St→Hp→(St→Hp→Prop)→Prop
def PG (X:Cx) (target:Expr) (t:TG):Prop :=
  ∀ (pins:List (Addr × Obj)) (s:Shared) (σ:St) (H:Hp) (v:V) (u:Value) (Q:St→Hp→Prop),Inv X pins σ H s→RelV v u→t v σ H Q →
    wpAny (model X.prog X.w) X.A (assign target X.env u) (fun _ s'=>∃ σ' H',Inv X pins σ' H' s'∧Q σ' H') X.xe s
abbrev TIp:=V→V→Hp→VK→Prop
section
variable {X:Cx} {pos:Pos}
def gName (i:Nat):TG:=fun v σ H Q=>Q (σ.set i (some v)) H
theorem pg_name {i:Nat} {x:Str} (hN:X.N.Nodup) (hi:X.N[i]?=some x) (hx:Loc X.env.scope x) (hf:X.fn x=true∨X.env.scope.names.lookup x=some .local:=by first | exact .inl rfl | exact .inr rfl | assumption):PG X (.Name x pos) (gName i):=by
  intro pins s σ H v u Q I r h
  exact wpAny_assign_Name (store_ok I hN hi hx r (fun s' I'=>⟨_,H,I',h⟩) hf)
def gNil:TGs:=fun vs σ H Q=>vs=[]∧Q σ H
def gCons (t:TG) (u:TGs):TGs:=fun vs σ H Q=>∃ v r,vs=v :: r∧t v σ H fun σ' H'=>u r σ' H' Q
def gTup (K:PySem.W.Frag) (n:Nat) (t:TGs):TG:=fun v σ H Q=>∃ a xs,v=.ref a∧SqT K H a xs∧xs.length=n∧t xs σ H Q
def tAsg (te:TE) (g:TG):TS:=fun D σ H=>te σ H fun x H1=>g x σ H1 D.nx
theorem ps_set {i:Nat} {x:Str} {e:Expr} {te:TE} {pos':Pos} (hN:X.N.Nodup) (hi:X.N[i]?=some x) (hx:Loc X.env.scope x) (he:PE X e te) (hs:swapsWith e (some (.Name x pos')) pos.line X.env=pure false:=by rfl) (hf:X.fn x=true∨X.env.scope.names.lookup x=some .local:=by first | exact .inl rfl | exact .inr rfl | assumption) :
    PS X (.Assign [.Name x pos'] e pos) (tAsg te (gName i)):=by
  intro pins s σ H D I h
  refine wpAny_Assign_Name (thn (he pins s σ H _ I h) fun v s1 ⟨y,H1,I1,r1,q1⟩=>?_) hs
  exact store_ok I1 hN hi hx r1 (fun s2 I2=>⟨_,H1,I2,q1⟩) hf
def tAug (i:Nat) (te:TE) (ti:TIp):TS:=fun D σ H=>∃ x,σ[i]?=some (some x)∧te σ H fun y H1=>ti x y H1 fun z H2=>D.nx (σ.set i (some z)) H2
def ipI (f:Int→Int→Int):TIp:=fun x y H Q=>∃ i j,x=.int i∧y=.int j∧Q (.int (f i j)) H
end
section
variable {X:Cx} {pos:Pos}
def tWhile (c:TT) (tb:TS):TS:=fun D σ H=>∃ W:Nat→St→Hp→Prop,(∃ m,W m σ H)∧∀ m σ H,W m σ H →
  c σ H fun b H1=>if b=true then ∃ N:St→Hp→Prop,(∀ σ' H',N σ' H'→∃ m',m' < m∧W m' σ' H')∧tb { D with nx:=N,ct:=N,bk:=D.nx } σ H1 else D.nx σ H1
theorem ps_while {c:Expr} {body:List Stmt} {tc:TT} {tb:TS} (hp:PassesOwn (model X.prog X.w) X.A X.env X.xe) (hc:PT X c tc) (hb:PSs X body tb):PS X (.While c body [] pos) (tWhile tc tb):=by
  intro pins s σ H D I h
  obtain ⟨W,⟨m0,w0⟩,turn⟩:=h
  refine wpAny_While (codeAny_whileLoop (fun n s'=>∃ σ' H',Inv X pins σ' H' s'∧W n σ' H') ?_ m0 ⟨σ,H,I,w0⟩)
  rintro n s1 ⟨σ1,H1,I1,w1⟩
  refine wpAny_passesOwn hp (thn (hc pins s1 σ1 H1 _ I1 (turn n σ1 H1 w1)) fun b s2 ⟨H2,I2,q2⟩=>?_)
  cases b with
  | true =>
    obtain ⟨N,hN,q2⟩:=q2
    rw [if_pos rfl]
    refine wpAny_passesOwn hp (thn (hb pins s2 σ1 H2 _ I2 q2) fun f s3 q3=>?_)
    cases f with
    | next =>
      obtain ⟨σ3,H3,I3,n3⟩:=q3
      obtain ⟨m',hm,w3⟩:=hN σ3 H3 n3
      exact ⟨m',hm,σ3,H3,I3,w3⟩
    | cont =>
      obtain ⟨σ3,H3,I3,n3⟩:=q3
      obtain ⟨m',hm,w3⟩:=hN σ3 H3 n3
      exact ⟨m',hm,σ3,H3,I3,w3⟩
    | brk=>exact q3
    | ret v=>exact q3
  | false =>
    rw [if_neg Bool.false_ne_true]
    exact wpAny_execs_nil ⟨σ1,H2,I2,q2⟩
end
set_option genSizeOf false in
set_option genInjectivity false in
structure It where
  go:Nat→Hp→Prop
  yld:Nat→Hp→V→Hp→Prop
  stop:Nat→Hp→Prop
def FpOk (X:Cx) (pins:List (Addr × Obj)) (H:Hp) (b:Addr):Prop :=
  H b=none∧b≠X.env.locals∧b ∉ X.fs∧(b∈X.ex∨X.s₀.heap.objs.size≤b)∧(∀ x c,X.env.cells.lookup x=some c→c≠b)∧∀ p∈X.pn ++ pins,p.1≠b
theorem Inv.fpOk {X:Cx} {pins:List (Addr × Obj)} {σ:St} {H H':Hp} {s:Shared} {b:Addr} (I:Inv X pins σ H s) (hb:s.heap.objs.size≤b) (hn:H' b=none):FpOk X pins H' b:=by
  refine ⟨hn,Nat.ne_of_gt (Nat.lt_of_lt_of_le I.lt hb),I.nofs hb,.inr (Nat.le_trans I.sz hb),fun x c e z=>?_,fun p hp z=>?_⟩
  · obtain ⟨v,q⟩:=I.cell x c e
    exact absurd (Nat.lt_of_lt_of_le q.lt (by rw [z];exact hb)) (Nat.lt_irrefl _)
  · exact absurd (Nat.lt_of_lt_of_le (Heap.lt_size (I.pin p hp).1) (by rw [z];exact hb)) (Nat.lt_irrefl _)
structure Turn (P:Program) (w:World) (K:PySem.W.Frag) (tg:Expr) (J:It) (fp:List Addr) (it:Addr) (tn:Nat→Heap→Prop):Prop where
  mem:it∈fp
  obj:∀ i h,tn i h→∀ b∈fp,∃ o,h.get? b=some o∧∀ v,o.data≠.cell v
  keep:∀ i h h',tn i h→(∀ b∈fp,∀ o,h.get? b=some o→h'.get? b=some o)→tn i h'
  item:∀ (X:Cx),X.prog=P→X.w=w→X.K=K→X.calm=true→∀ (i:Nat) (pins:List (Addr × Obj)) (s:Shared) (σ:St) (H:Hp) (E:Value→Shared→Prop),Inv X pins σ H s→(∀ b∈fp,FpOk X pins H b)→tn i s.heap→J.go i H →
    wpAny (model P w) X.A (pyNext (.ref it)) (fun r s1=>∃ u,r=some u ∧
      wpAny (model P w) X.A (letOwnedTupleGo tg (.ref it) u) (fun _ s2=>∃ x H',Inv X pins σ H' s2∧RelV x u∧J.yld i H x H'∧tn (i + 1) s2.heap∧∀ b∈fp,H' b=none) E s1) E s
  done:∀ (X:Cx),X.prog=P→X.w=w→X.K=K→X.calm=true→∀ (i:Nat) (pins:List (Addr × Obj)) (s:Shared) (σ:St) (H:Hp) (E:Value→Shared→Prop),Inv X pins σ H s→(∀ b∈fp,FpOk X pins H b)→tn i s.heap→J.stop i H →
    wpAny (model P w) X.A (pyNext (.ref it)) (fun r s1=>r=none∧Inv X pins σ H s1) E s
  self:∀ (A:Around) (i:Nat) (s:Shared) (Q:Value→Shared→Prop) (E:Value→Shared→Prop),tn i s.heap→Q (.ref it) s→wpAny (model P w) A (pyIter (.ref it)) Q E s
abbrev TI:=St→Hp→(It→Hp→Prop)→Prop
def PIE (X:Cx) (pins:List (Addr × Obj)) (σ:St) (tg:Expr) (R:It→Hp→Prop) (itv:Value) (s2:Shared):Prop :=
  ∃ (it:Addr) (fp:List Addr) (tn:Nat→Heap→Prop) (J:It) (H':Hp),itv=.ref it∧Inv X pins σ H' s2∧Turn X.prog X.w X.K tg J fp it tn∧tn 0 s2.heap∧(∀ b∈fp,FpOk X pins H' b)∧R J H'
def PI (X:Cx) (tg iter:Expr) (wi:TI):Prop :=
  ∀ (pins:List (Addr × Obj)) (s:Shared) (σ:St) (H:Hp) (R:It→Hp→Prop),Inv X pins σ H s→wi σ H R →
    wpAny (model X.prog X.w) X.A (eval iter X.env) (fun v s1=>wpAny (model X.prog X.w) X.A (pyIter v) (PIE X pins σ tg R) X.xe s1) X.xe s
theorem go_of {M:Model} {A:Around} {E:Value→Shared→Prop} {s:Shared} {tg:Expr} {it:Addr} {u:Value} {o:Obj} {n:String} {vs:Array Value} {Q:Unit→Shared→Prop} (ho:s.heap.get? it=some o) (hc:o.cls=.type n) (hd:o.data=.fields vs)
    (hn:["enumerate","zip","dict_itemiterator","dict_reverseitemiterator","odict_iterator","itertools.zip_longest","itertools.pairwise"].contains n=false) (hQ:Q () s):wpAny M A (letOwnedTupleGo tg (.ref it) u) Q E s:=by
  unfold letOwnedTupleGo
  cases tg <;> first
    | exact wpAny_pure hQ
    | (cases u <;> first
        | exact wpAny_pure hQ
        | (refine wpAny_bind (wpAny_load ho ?_)
           rw [hc,hd]
           show wpAny M A (if (["enumerate","zip","dict_itemiterator","dict_reverseitemiterator","odict_iterator","itertools.zip_longest","itertools.pairwise"].contains n && vs[0]? == some (rawInt _))=true then _ else _) Q E s
           rw [if_neg (by intro h;rw [hn,Bool.false_and] at h;cases h)]
           exact wpAny_pure hQ))
def Itl (K:PySem.W.Frag) (a:Addr):It :=
  ⟨fun i H=>∃ xs x,SqL K H a xs∧xs[i]?=some x,fun i H x H'=>H'=H∧∀ xs,SqL K H a xs→xs[i]?=some x,fun i H=>∃ xs,SqL K H a xs∧xs.length≤i⟩
def Itt (K:PySem.W.Frag) (a:Addr):It :=
  ⟨fun i H=>∃ xs x,SqT K H a xs∧xs[i]?=some x,fun i H x H'=>H'=H∧∀ xs,SqT K H a xs→xs[i]?=some x,fun i H=>∃ xs,SqT K H a xs∧xs.length≤i⟩
def Itr (lo:Int) (n:Nat):It:=⟨fun i _=>i < n,fun i H x H'=>H'=H∧x=.int (lo + i),fun i _=>n≤i⟩
theorem turn_list {P:Program} {w:World} {K:PySem.W.Frag} {tg:Expr} (a it:Addr):Turn P w K tg (Itl K a) [it] it (fun i h=>h.IsListIter it a i) where
  mem:=by simp
  obj:=fun i h st b hb=>by
    have e:b=it:=by simpa using hb
    subst e
    obtain ⟨o,e,c,d⟩:=st
    exact ⟨o,e,fun v z=>by rw [d] at z;cases z⟩
  keep:=fun i h h' st k=>st.at fun o e=>k it (by simp) o e
  item:=by
    intro X hP hw hK hc i pins s σ H E I hf st hg
    subst hP hw hK
    obtain ⟨xs,x,hq,hx⟩:=hg
    obtain ⟨its,rv,p,hz⟩:=I.list hq
    obtain ⟨u,hu,ru⟩:=rv.get hx
    obtain ⟨f0,f1,f2,f3,f4,f5⟩:=hf it (by simp)
    refine wpAny_pyNext_list_item st p.isList (x:=u) (by simpa using hu) fun h' st' sb=>?_
    have I1:Inv X pins σ H { s with heap:=h' }:=I.turned (t':=s.toks) (fun b o hb e=>(sb.2 b hb).trans e) f0 f1 f3 f4 f5
    obtain ⟨o,e,c,d⟩:=id st'
    exact ⟨u,rfl,go_of (s:={ s with heap:=h' }) e c d (by decide) ⟨x,H,I1,ru,⟨rfl,fun ys hy=>by rw [I.list_inj hy hq];exact hx⟩,st',fun b hb=>(hf b hb).1⟩⟩
  done:=by
    intro X hP hw hK hc i pins s σ H E I hf st hg
    subst hP hw hK
    obtain ⟨xs,hq,hx⟩:=hg
    obtain ⟨its,rv,p,hz⟩:=I.list hq
    obtain ⟨f0,f1,f2,f3,f4,f5⟩:=hf it (by simp)
    have hl:=rv.length
    exact wpAny_pyNext_list_end (I.ok.hd hc) st p.isList (by simp;omega) fun h' eb=>⟨rfl,I.turned (t':=s.toks) (fun b o hb e=>eb b o hb e) f0 f1 f3 f4 f5⟩
  self:=fun _ _ _ _ _ st h=>wpAny_pyIter_listiter st h
theorem turn_tuple {P:Program} {w:World} {K:PySem.W.Frag} {tg:Expr} (a it:Addr):Turn P w K tg (Itt K a) [it] it (fun i h=>h.IsTupleIter it a i) where
  mem:=by simp
  obj:=fun i h st b hb=>by
    have e:b=it:=by simpa using hb
    subst e
    obtain ⟨o,e,c,d⟩:=st
    exact ⟨o,e,fun v z=>by rw [d] at z;cases z⟩
  keep:=fun i h h' st k=>st.at fun o e=>k it (by simp) o e
  item:=by
    intro X hP hw hK hc i pins s σ H E I hf st hg
    subst hP hw hK
    obtain ⟨xs,x,hq,hx⟩:=hg
    obtain ⟨its,rv,p,hz⟩:=I.tuple hq
    obtain ⟨u,hu,ru⟩:=rv.get hx
    obtain ⟨f0,f1,f2,f3,f4,f5⟩:=hf it (by simp)
    refine wpAny_pyNext_tuple_item st (show s.heap.IsTuple a its.toArray from p) (x:=u) (by simpa using hu) fun h' st' sb=>?_
    have I1:Inv X pins σ H { s with heap:=h' }:=I.turned (t':=s.toks) (fun b o hb e=>(sb.2 b hb).trans e) f0 f1 f3 f4 f5
    obtain ⟨o,e,c,d⟩:=id st'
    exact ⟨u,rfl,go_of (s:={ s with heap:=h' }) e c d (by decide) ⟨x,H,I1,ru,⟨rfl,fun ys hy=>by rw [I.tuple_inj hy hq];exact hx⟩,st',fun b hb=>(hf b hb).1⟩⟩
  done:=by
    intro X hP hw hK hc i pins s σ H E I hf st hg
    subst hP hw hK
    obtain ⟨xs,hq,hx⟩:=hg
    obtain ⟨its,rv,p,hz⟩:=I.tuple hq
    obtain ⟨f0,f1,f2,f3,f4,f5⟩:=hf it (by simp)
    have hl:=rv.length
    exact wpAny_pyNext_tuple_end (I.ok.hd hc) st (show s.heap.IsTuple a its.toArray from p) (by simp;omega) fun h' eb=>⟨rfl,I.turned (t':=s.toks) (fun b o hb e=>eb b o hb e) f0 f1 f3 f4 f5⟩
  self:=fun _ _ _ _ _ st h=>wpAny_pyIter_tupleiter st h
theorem turn_range {P:Program} {w:World} {K:PySem.W.Frag} {tg:Expr} (it:Addr) (lo:Int) (n:Nat):Turn P w K tg (Itr lo n) [it] it (fun i h=>IsRangeIter h it (lo + (i:Nat) * 1) ((n:Int) - (i:Nat)) 1) where
  mem:=by simp
  obj:=fun i h st b hb=>by
    have e:b=it:=by simpa using hb
    subst e
    exact ⟨_,st,fun v z=>by
      have z':Data.fields _=Data.cell v:=z
      cases z'⟩
  keep:=fun i h h' st k=>k it (by simp) _ st
  item:=by
    intro X hP hw hK hc i pins s σ H E I hf st hg
    subst hP hw hK
    obtain ⟨f0,f1,f2,f3,f4,f5⟩:=hf it (by simp)
    have W:=Walks.range (prog:=X.prog) (w:=X.w) (I.ok.hd hc) it lo 1 n
    refine W.item i s _ _ hg st fun v h' tk hv st' kk=>?_
    obtain ⟨t,rfl⟩:=hv
    have I1:Inv X pins σ H { s with heap:=h',toks:=tk }:=I.turned (fun b o hb e=>kk b o (by simpa using hb) e) f0 f1 f3 f4 f5
    refine ⟨_,rfl,go_of (s:={ s with heap:=h',toks:=tk }) (n:="range_iterator") st' rfl rfl (by decide) ⟨.int (lo + i),H,I1,⟨t,?_⟩,⟨rfl,rfl⟩,st',fun b hb=>(hf b hb).1⟩⟩
    rw [Int.mul_one]
  done:=by
    intro X hP hw hK hc i pins s σ H E I hf st hg
    subst hP hw hK
    obtain ⟨f0,f1,f2,f3,f4,f5⟩:=hf it (by simp)
    exact wpAny_pyNext_range_end (I.ok.hd hc) st (by have:n≤i:=hg;omega) fun h' eb=>⟨rfl,I.turned (t':=s.toks) (fun b o hb e=>eb b o hb e) f0 f1 f3 f4 f5⟩
  self:=fun _ _ _ _ _ st h=>wpAny_pyIter_rangeiter st h
end L2
namespace L2
open PySem PySem.Spec PyProof.Rows
section
variable {X:Cx} {tg:Expr}
def iList (K:PySem.W.Frag) (tl:TE):TI:=fun σ H R=>tl σ H fun x H1=>∃ a,x=.ref a∧(∃ xs,SqL K H1 a xs)∧R (Itl K a) H1
def iTup (K:PySem.W.Frag) (tl:TE):TI:=fun σ H R=>tl σ H fun x H1=>∃ a,x=.ref a∧(∃ xs,SqT K H1 a xs)∧R (Itt K a) H1
theorem pi_list {l:Expr} {tl:TE} (hl:PE X l tl):PI X tg l (iList X.K tl):=by
  intro pins s σ H R I h
  refine thn (hl pins s σ H _ I h) fun v s1 ⟨x,H1,I1,r1,q1⟩=>?_
  obtain ⟨a,e,⟨xs,hq⟩,q⟩:=q1
  subst e
  cases r1
  obtain ⟨its,rv,p,hz⟩:=I1.list hq
  refine wpAny_pyIter_list p.isList ?_
  refine ⟨s1.heap.objs.size,[s1.heap.objs.size],_,_,H1,rfl,I1.kept (t':=s1.toks) fun b o e=>Heap.get?_push_of_some _ e,turn_list a _,⟨_,Heap.get?_push_size _ rfl,rfl,rfl⟩,fun b hb=>?_,q⟩
  have e:b=s1.heap.objs.size:=by simpa using hb
  subst e
  exact I1.fpOk (Nat.le_refl _) (I1.hok.fresh (Nat.le_refl _))
theorem pi_tup {l:Expr} {tl:TE} (hl:PE X l tl):PI X tg l (iTup X.K tl):=by
  intro pins s σ H R I h
  refine thn (hl pins s σ H _ I h) fun v s1 ⟨x,H1,I1,r1,q1⟩=>?_
  obtain ⟨a,e,⟨xs,hq⟩,q⟩:=q1
  subst e
  cases r1
  obtain ⟨its,rv,p,hz⟩:=I1.tuple hq
  refine wpAny_pyIter_tuple (show s1.heap.IsTuple a its.toArray from p) ?_
  refine ⟨s1.heap.objs.size,[s1.heap.objs.size],_,_,H1,rfl,I1.kept (t':=s1.toks) fun b o e=>Heap.get?_push_of_some _ e,turn_tuple a _,⟨_,Heap.get?_push_size _ rfl,rfl,rfl⟩,fun b hb=>?_,q⟩
  have e:b=s1.heap.objs.size:=by simpa using hb
  subst e
  exact I1.fpOk (Nat.le_refl _) (I1.hok.fresh (Nat.le_refl _))
theorem range_it {pins:List (Addr × Obj)} {σ:St} {H:Hp} {s:Shared} {R:It→Hp→Prop} {E:Value→Shared→Prop} {lo hi:Int} {t u v:Tok} {tk:Nat} (I:Inv X pins σ H s) (h1:-(2 ^ 62)≤lo) (h2:lo < 2 ^ 62) (h3:-(2 ^ 62)≤hi) (h4:hi < 2 ^ 62)
    (q:R (Itr lo (hi - lo).toNat) H):wpAny (model X.prog X.w) X.A (pyIter (.ref s.heap.objs.size)) (PIE X pins σ tg R) E { s with heap:=s.heap.push { cls:=.type "range",data:=.fields #[.int lo t,.int hi u,.int 1 v] },toks:=tk }:=by
  refine wpAny_pyIter_range (IsRange.new ..) (small_one h1 h2 h3 h4) ?_
  have I1:Inv X pins σ H { s with heap:=s.heap.push { cls:=.type "range",data:=.fields #[.int lo t,.int hi u,.int 1 v] },toks:=tk }:=I.kept fun b o e=>Heap.get?_push_of_some _ e
  refine ⟨(s.heap.push { cls:=.type "range",data:=.fields #[.int lo t,.int hi u,.int 1 v] }).objs.size,[(s.heap.push { cls:=.type "range",data:=.fields #[.int lo t,.int hi u,.int 1 v] }).objs.size],_,_,H,rfl,
    I1.kept (t':=tk) fun b o e=>Heap.get?_push_of_some _ e,turn_range _ lo (hi - lo).toNat,?_,fun b hb=>?_,q⟩
  · have e1:lo + ((0:Nat):Int) * 1=lo:=by simp
    have e2:(((hi - lo).toNat:Nat):Int) - ((0:Nat):Int)=Builtin.Range.rangeSize lo hi 1:=by rw [rangeSize_one];split <;> omega
    show IsRangeIter _ _ (lo + ((0:Nat):Int) * 1) ((((hi - lo).toNat:Nat):Int) - ((0:Nat):Int)) 1
    rw [e1,e2]
    exact Heap.get?_push_size _ rfl
  · have e:b=(s.heap.push { cls:=.type "range",data:=.fields #[.int lo t,.int hi u,.int 1 v] }).objs.size:=by simpa using hb
    subst e
    exact I1.fpOk (Nat.le_refl _) (I1.hok.fresh (Nat.le_refl _))
def iRng1 (ta:TA):TI:=fun σ H R=>ta σ H fun vs H1=>∃ j:Int,vs=[.int j]∧-(2 ^ 62)≤j∧j < 2 ^ 62∧R (Itr 0 j.toNat) H1
def iRng2 (ta:TA):TI:=fun σ H R=>ta σ H fun vs H1=>∃ i j:Int,vs=[.int i,.int j]∧(-(2 ^ 62)≤i∧i < 2 ^ 62∧-(2 ^ 62)≤j∧j < 2 ^ 62)∧R (Itr i (j - i).toNat) H1
theorem pi_range1 {a:Expr} {ta:TA} {p pos:Pos} (hg:Gl X "range") (hm:X.mg "range"=none) (ha:PA X [a] ta) (hs:starEach [a] X.env=[(false,eval a X.env)]:=by rfl):PI X tg (.Call (.Name "range" p) [a] [] pos) (iRng1 ta):=by
  intro pins s σ H R I h
  refine Call_ (ld_blt I hg hm boot_range (PyProof.Rows.callWith_type1 (thn (ha pos pins s σ H _ I h) fun us s1 ⟨vs,H1,I1,r1,q1⟩=>?_) hs rfl))
  obtain ⟨j,e,q1,q2,q⟩:=q1
  subst e
  cases r1 with
  | cons r rr =>
    cases rr
    obtain ⟨t,rfl⟩:=r
    exact call_range_1 (range_it I1 (by omega) (by omega) q1 q2 (by simpa using q))
theorem pi_range2 {a b:Expr} {ta:TA} {p pos:Pos} (hg:Gl X "range") (hm:X.mg "range"=none) (ha:PA X [a,b] ta) (hs:starEach [a,b] X.env=[(false,eval a X.env),(false,eval b X.env)]:=by rfl) (hs2:starEach [b] X.env=[(false,eval b X.env)]:=by rfl) :
    PI X tg (.Call (.Name "range" p) [a,b] [] pos) (iRng2 ta):=by
  intro pins s σ H R I h
  refine Call_ (ld_blt I hg hm boot_range (PyProof.Rows.callWith_type1 (thn (ha pos pins s σ H _ I h) fun us s1 ⟨vs,H1,I1,r1,q1⟩=>?_) (by rw [hs,hs2]) (by rw [hs2];rfl)))
  obtain ⟨i,j,e,⟨q1,q2,q3,q4⟩,q⟩:=q1
  subst e
  cases r1 with
  | cons r rr =>
    cases rr with
    | cons r' rr =>
      cases rr
      obtain ⟨t,rfl⟩:=r
      obtain ⟨t',rfl⟩:=r'
      exact call_range_2 (range_it I1 q1 q2 q3 q4 q)
def tFor (wi:TI) (g:TG) (tb:TS):TS:=fun D σ H=>wi σ H fun J H1=>∃ W:Nat→Nat→St→Hp→Prop,(∃ m,W 0 m σ H1)∧∀ i m σ H,W i m σ H →
  (J.stop i H∧D.nx σ H)∨(J.go i H∧∃ N:St→Hp→Prop,(∀ σ' H',N σ' H'→∃ m',m' < m∧W (i + 1) m' σ' H')∧∀ x H',J.yld i H x H'→g x σ H' fun σ2 H2=>tb { D with nx:=N,ct:=N,bk:=D.nx } σ2 H2)
def pinsAt (fp:List Addr) (h:Heap):List (Addr × Obj):=fp.filterMap fun b=>(h.get? b).map fun o=>(b,o)
theorem mem_pinsAt {fp:List Addr} {h:Heap} {b:Addr} {o:Obj} (hb:b∈fp) (e:h.get? b=some o):(b,o)∈pinsAt fp h:=List.mem_filterMap.mpr ⟨b,hb,by rw [e];rfl⟩
theorem of_pinsAt {fp:List Addr} {h:Heap} {p:Addr × Obj} (hp:p∈pinsAt fp h):p.1∈fp∧h.get? p.1=some p.2:=by
  obtain ⟨b,hb,e⟩:=List.mem_filterMap.mp hp
  cases q:h.get? b with
  | none=>rw [q] at e;cases e
  | some o =>
    rw [q] at e
    have e':(b,o)=p:=Option.some.inj e
    subst e'
    exact ⟨hb,q⟩
theorem Inv.pinned {pins:List (Addr × Obj)} {σ:St} {H:Hp} {s:Shared} {fp:List Addr} (I:Inv X pins σ H s) (hf:∀ b∈fp,FpOk X pins H b) (ho:∀ b∈fp,∃ o,s.heap.get? b=some o∧∀ v,o.data≠.cell v):Inv X (pins ++ pinsAt fp s.heap) σ H s :=
  I.pins_of fun p hp=>(List.mem_append.mp hp).elim (fun z=>I.pin p (List.mem_append_right _ z)) fun z=>by
    obtain ⟨hb,e⟩:=of_pinsAt z
    obtain ⟨f0,f1,f2,_⟩:=hf p.1 hb
    obtain ⟨o,e',d⟩:=ho p.1 hb
    rw [e] at e';cases e'
    exact ⟨e,f0,f1,f2,d⟩
theorem Inv.unpinned {pins pl:List (Addr × Obj)} {σ:St} {H:Hp} {s:Shared} (I:Inv X (pins ++ pl) σ H s):Inv X pins σ H s:=I.pins_of fun p hp=>I.pin p (List.mem_append_right _ (List.mem_append_left _ hp))
theorem ps_for {iter:Expr} {body:List Stmt} {wi:TI} {g:TG} {tb:TS} {pos:Pos} (hp:PassesOwn (model X.prog X.w) X.A X.env X.xe) (hc:X.calm=true) (hi:PI X tg iter wi) (hg:PG X tg g) (hb:PSs X body tb)
    (hs:∀ x,foldedSetIterable iter X.env x=pure x:=by intro _;rfl):PS X (.For tg iter body [] pos) (tFor wi g tb):=by
  intro pins s σ H D I h
  refine wpAny_For (thn (hi pins s σ H _ I h) fun v s1 h1=>thn h1 fun itv s2 h2=>?_) hs
  obtain ⟨it,fp,tn,J,H2,e,I2,T,st2,f2,W,⟨m0,w0⟩,turn⟩:=h2
  subst e
  -- what stays true of the iterator's objects through the loop
  have stat:∀ {H':Hp},(∀ b∈fp,H' b=none)→∀ b∈fp,FpOk X pins H' b:=fun hn b hb=>⟨hn b hb,(f2 b hb).2⟩
  refine codeAny_forLoop_any (fun n s'=>∃ i σ' H',Inv X pins σ' H' s'∧tn i s'.heap∧(∀ b∈fp,H' b=none)∧W i n σ' H') ?_ m0 ⟨0,σ,H2,I2,st2,fun b hb=>(f2 b hb).1,w0⟩
  rintro n s3 ⟨i,σ3,H3,I3,st3,fr3,w3⟩
  rcases turn i n σ3 H3 w3 with ⟨stop,qn⟩ | ⟨go,N,hN,step⟩
  · refine wpAny_passesOwn hp (thn (T.done X rfl rfl rfl hc i pins s3 σ3 H3 X.xe I3 (stat fr3) st3 stop) fun r s4 ⟨hr,I4⟩=>?_)
    subst hr
    exact wpAny_execs_nil ⟨σ3,H3,I4,qn⟩
  · refine wpAny_passesOwn hp (thn (T.item X rfl rfl rfl hc i pins s3 σ3 H3 X.xe I3 (stat fr3) st3 go) fun r s4 ⟨u,hr,h4⟩=>?_)
    subst hr
    refine wpAny_passesOwn hp (thn h4 fun _ s5 ⟨x,H5,I5,r5,y5,st5,fr5⟩=>?_)
    have I5':=I5.pinned (stat fr5) (T.obj _ _ st5)
    refine wpAny_passesOwn hp (thn (hg _ s5 σ3 H5 x u _ I5' r5 (step x H5 y5)) fun _ s6 ⟨σ6,H6,I6,q6⟩=>?_)
    refine wpAny_passesOwn hp (thn (hb _ s6 σ6 H6 _ I6 q6) fun f s7 q7=>?_)
    have again:∀ {σ7:St} {H7:Hp},Inv X (pins ++ pinsAt fp s5.heap) σ7 H7 s7→N σ7 H7→∃ m,m < n∧∃ i σ' H',Inv X pins σ' H' s7∧tn i s7.heap∧(∀ b∈fp,H' b=none)∧W i m σ' H':=fun {σ7 H7} I7 n7=>by
      obtain ⟨m',hm,w7⟩:=hN σ7 H7 n7
      refine ⟨m',hm,i + 1,σ7,H7,I7.unpinned,T.keep _ _ _ st5 fun b hb o e=>(I7.pin (b,o) (List.mem_append_right _ (List.mem_append_right _ (mem_pinsAt hb e)))).1,fun b hb=>?_,w7⟩
      obtain ⟨o,e,d⟩:=T.obj _ _ st5 b hb
      exact (I7.pin (b,o) (List.mem_append_right _ (List.mem_append_right _ (mem_pinsAt hb e)))).2.1
    cases f with
    | next=>obtain ⟨σ7,H7,I7,n7⟩:=q7;exact again I7 n7
    | cont=>obtain ⟨σ7,H7,I7,n7⟩:=q7;exact again I7 n7
    | brk=>obtain ⟨σ7,H7,I7,q7⟩:=q7;exact ⟨σ7,H7,I7.unpinned,q7⟩
    | ret v=>obtain ⟨x7,σ7,H7,I7,r7,q7⟩:=q7;exact ⟨x7,σ7,H7,I7.unpinned,r7,q7⟩
end
end L2
namespace L2
open PySem PySem.Spec PyProof.Rows
abbrev R2:=V→V→Hp→VK→Prop
def OpR (X:Cx) (f:Value→Value→Sem Value) (r:R2):Prop :=
  ∀ (pins:List (Addr × Obj)) (s:Shared) (σ:St) (H:Hp) (x y:V) (v u:Value) (Q:VK),Inv X pins σ H s→RelV x v→RelV y u→r x y H Q →
    wpAny (model X.prog X.w) X.A (f v u) (EP X pins σ Q) X.xe s
def UnR (X:Cx) (f:Value→Sem Value) (r:V→Hp→VK→Prop):Prop :=
  ∀ (pins:List (Addr × Obj)) (s:Shared) (σ:St) (H:Hp) (x:V) (v:Value) (Q:VK),Inv X pins σ H s→RelV x v→r x H Q →
    wpAny (model X.prog X.w) X.A (f v) (EP X pins σ Q) X.xe s
def CallR (X:Cx) (f:Value) (r:List V→Hp→VK→Prop):Prop :=
  ∀ (pins:List (Addr × Obj)) (s:Shared) (σ:St) (H:Hp) (xs:List V) (us:List Value) (Q:VK),Inv X pins σ H s→Vals xs us→r xs H Q →
    wpAny (model X.prog X.w) X.A (call f us) (EP X pins σ Q) X.xe s
def tOp (r:R2) (ta tb:TE):TE:=fun σ H Q=>ta σ H fun x H1=>tb σ H1 fun y H2=>r x y H2 Q
def tUn (r:V→Hp→VK→Prop) (ta:TE):TE:=fun σ H Q=>ta σ H fun x H1=>r x H1 Q
def rI (C:Int→Int→Prop) (g:Int→Int→V):R2:=fun x y H Q=>∃ i j,x=.int i∧y=.int j∧C i j∧Q (g i j) H
def rI0 (g:Int→Int→V):R2:=fun x y H Q=>∃ i j,x=.int i∧y=.int j∧Q (g i j) H
def rU (g:Int→V):V→Hp→VK→Prop:=fun x H Q=>∃ i,x=.int i∧Q (g i) H
section
variable {X:Cx} {a b c:Expr} {ta tb tc:TE} {pos:Pos}
theorem binT (ha:PE X a ta) (hb:PE X b tb) {pins:List (Addr × Obj)} {s:Shared} {σ:St} {H:Hp} {R:V→V→Hp→Prop} (I:Inv X pins σ H s)
    (h:ta σ H fun x H1=>tb σ H1 fun y H2=>R x y H2) {Q:Value→Shared→Prop} {f:Value→Value→Sem Value}
    (hf:∀ v u s2 x y H2,Inv X pins σ H2 s2→RelV x v→RelV y u→R x y H2→wpAny (model X.prog X.w) X.A (f v u) Q X.xe s2) :
    wpAny (model X.prog X.w) X.A (eval a X.env) (fun v s₁=>wpAny (model X.prog X.w) X.A (eval b X.env) (fun u s₂=>wpAny (model X.prog X.w) X.A (f v u) Q X.xe s₂) X.xe s₁) X.xe s:=by
  refine thn (ha pins s σ H _ I h) fun v s1 ⟨x,H1,I1,r1,q1⟩=>?_
  refine thn (hb pins s1 σ H1 _ I1 q1) fun u s2 ⟨y,H2,I2,r2,q2⟩=>?_
  exact hf v u s2 x y H2 I2 r1 r2 q2
theorem pe_op {op:Operator} {r:R2} (ho:OpR X (binaryOp op) r) (ha:PE X a ta) (hb:PE X b tb):PE X (.BinOp a op b pos) (tOp r ta tb):=by
  intro pins s σ H Q I h
  exact wpAny_BinOp (binT ha hb I h fun v u s2 x y H2 I2 rx ry q=>ho pins s2 σ H2 x y v u Q I2 rx ry q)
theorem pe_un {op:UnaryOp} {r:V→Hp→VK→Prop} (ho:UnR X (unaryOp op) r) (ha:PE X a ta):PE X (.UnaryOp op a pos) (tUn r ta):=by
  intro pins s σ H Q I h
  exact UnaryOp_ (thn (ha pins s σ H _ I h) fun v s1 ⟨x,H1,I1,r1,q1⟩=>ho pins s1 σ H1 x v Q I1 r1 q1)
theorem opI {f:Value→Value→Sem Value} {C:Int→Int→Prop} {g:Int→Int→Int}
    (rule:∀ (i j:Int) (t u:Tok) (s:Shared) (Q:Value→Shared→Prop) (E:Value→Shared→Prop),C i j→Q (.int (g i j) s.toks) { s with toks:=s.toks + 1 }→wpAny (model X.prog X.w) X.A (f (.int i t) (.int j u)) Q E s) :
    OpR X f (rI C fun i j=>.int (g i j)):=by
  intro pins s σ H x y v u Q I rx ry h
  obtain ⟨i,j,rfl,rfl,hc,q⟩:=h
  obtain ⟨t,rfl⟩:=rx
  obtain ⟨t',rfl⟩:=ry
  exact rule i j t t' s _ _ hc ⟨.int (g i j),H,I.tok _,⟨_,rfl⟩,q⟩
theorem opI0 {f:Value→Value→Sem Value} {g:Int→Int→Int}
    (rule:∀ (i j:Int) (t u:Tok) (s:Shared) (Q:Value→Shared→Prop) (E:Value→Shared→Prop),Q (.int (g i j) s.toks) { s with toks:=s.toks + 1 }→wpAny (model X.prog X.w) X.A (f (.int i t) (.int j u)) Q E s) :
    OpR X f (rI0 fun i j=>.int (g i j)):=by
  intro pins s σ H x y v u Q I rx ry h
  obtain ⟨i,j,rfl,rfl,q⟩:=h
  obtain ⟨t,rfl⟩:=rx
  obtain ⟨t',rfl⟩:=ry
  exact rule i j t t' s _ _ ⟨.int (g i j),H,I.tok _,⟨_,rfl⟩,q⟩
theorem opB0 {f:Value→Value→Sem Value} {g:Int→Int→Bool}
    (rule:∀ (i j:Int) (t u:Tok) (s:Shared) (Q:Value→Shared→Prop) (E:Value→Shared→Prop),Q (.bool (g i j)) s→wpAny (model X.prog X.w) X.A (f (.int i t) (.int j u)) Q E s) :
    OpR X f (rI0 fun i j=>.bl (g i j)):=by
  intro pins s σ H x y v u Q I rx ry h
  obtain ⟨i,j,rfl,rfl,q⟩:=h
  obtain ⟨t,rfl⟩:=rx
  obtain ⟨t',rfl⟩:=ry
  exact rule i j t t' s _ _ ⟨.bl (g i j),H,I,rfl,q⟩
def CPow (i j:Int):Prop:=0≤j∧j≤1000000∧i.natAbs < 2 ^ 64
theorem op_add:OpR X (binaryOp .Add) (rI0 fun i j=>.int (i + j)):=opI0 fun _ _ _ _ _ _ _ q=>add_int q
theorem op_sub:OpR X (binaryOp .Sub) (rI0 fun i j=>.int (i - j)):=opI0 fun _ _ _ _ _ _ _ q=>sub_int q
theorem op_mod:OpR X (binaryOp .Mod) (rI (fun _ j=>0 < j) fun i j=>.int (i % j)):=opI fun i j _ _ _ _ _ hc q=>by
  have h1:(0:Int) < j:=hc
  exact mod_int' (by omega) (by rw [Int.fmod_eq_emod_of_nonneg i (by omega)];exact q)
theorem op_modN:OpR X (binaryOp .Mod) (rI (fun _ j=>j≠0) fun i j=>.int (i.fmod j)):=opI fun _ _ _ _ _ _ _ hc q=>mod_int' hc q
theorem op_pow:OpR X (binaryOp .Pow) (rI CPow fun i j=>.int (i ^ j.toNat)):=opI fun _ _ _ _ _ _ _ hc q=>pow_int_small hc.1 hc.2.1 hc.2.2 q
theorem unI {f:Value→Sem Value} {g:Int→Int}
    (rule:∀ (i:Int) (t:Tok) (s:Shared) (Q:Value→Shared→Prop) (E:Value→Shared→Prop),Q (.int (g i) s.toks) { s with toks:=s.toks + 1 }→wpAny (model X.prog X.w) X.A (f (.int i t)) Q E s) :
    UnR X f (rU fun i=>.int (g i)):=by
  intro pins s σ H x v Q I rx h
  obtain ⟨i,rfl,q⟩:=h
  obtain ⟨t,rfl⟩:=rx
  exact rule i t s _ _ ⟨.int (g i),H,I.tok _,⟨_,rfl⟩,q⟩
theorem un_neg:UnR X (unaryOp .USub) (rU fun i=>.int (-i)):=unI fun _ _ _ _ _ q=>neg_int q
end
def scal:V→V→Bool
  | .non,.non=>true | .non,.int _=>true | .int _,.non=>true | .non,.bl _=>true | .bl _,.non=>true | .non,.str _=>true | .str _,.non=>true
  | .int _,.int _=>true | .bl _,.bl _=>true | .str _,.str _=>true | .byt _,.byt _=>true
  | .int _,.str _=>true | .str _,.int _=>true | .bl _,.str _=>true | .str _,.bl _=>true
  | _,_=>false
def rEq:R2:=fun x y H Q=>scal x y=true∧Q (.bl (decide (x=y))) H
def rNe:R2:=fun x y H Q=>scal x y=true∧Q (.bl (!decide (x=y))) H
theorem dec_int {i j:Int}:decide (V.int i=V.int j)=(i == j):=by
  rw [Bool.eq_iff_iff]
  simp
theorem dec_bl {i j:Bool}:decide (V.bl i=V.bl j)=(i == j):=by
  rw [Bool.eq_iff_iff]
  simp
theorem dec_str {i j:Str}:decide (V.str i=V.str j)=(i == j):=by
  rw [Bool.eq_iff_iff]
  simp
theorem dec_byt {i j:Array UInt8}:decide (V.byt i=V.byt j)=(i.toList == j.toList):=by
  rw [Bool.eq_iff_iff]
  cases i
  cases j
  simp
section
variable {X:Cx} {a b c:Expr} {ta tb tc:TE} {pos:Pos}
theorem fin_bl {pins:List (Addr × Obj)} {σ:St} {H:Hp} {s:Shared} {Q:VK} {k k':Bool} (I:Inv X pins σ H s) (q:Q (.bl k) H) (e:k=k'):EP X pins σ Q (.bool k') s:=by
  subst e
  exact ⟨.bl k,H,I,rfl,q⟩
theorem op_eq:OpR X (compareOp .Eq) rEq:=by
  intro pins s σ H x y v u Q I rx ry h
  obtain ⟨hs,q⟩:=h
  cases x with
  | non =>
    cases rx
    cases y with
    | non=>cases ry;exact PySem.EqNone.eq_none_none (fin_bl I q (by simp))
    | bl j=>cases ry;exact PySem.EqNone.eq_none_bool (fin_bl I q (by simp))
    | int j=>obtain ⟨t',rfl⟩:=ry;exact PySem.EqNone.eq_none_int (fin_bl I q (by simp))
    | str j=>obtain ⟨t',rfl⟩:=ry;exact PySem.EqNone.eq_none_str (fin_bl I q (by simp))
    | _=>exact absurd (show false=true from hs) Bool.false_ne_true
  | bl i =>
    cases rx
    cases y with
    | non=>cases ry;exact PySem.EqNone.eq_bool_none (fin_bl I q (by simp))
    | bl j=>cases ry;exact eq_bool (fin_bl I q dec_bl)
    | str j=>obtain ⟨t',rfl⟩:=ry;exact PySem.EqMixed.eq_bool_str (fin_bl I q (by simp))
    | _=>exact absurd (show false=true from hs) Bool.false_ne_true
  | int i =>
    obtain ⟨t,rfl⟩:=rx
    cases y with
    | non=>cases ry;exact PySem.EqNone.eq_int_none (fin_bl I q (by simp))
    | int j=>obtain ⟨t',rfl⟩:=ry;exact eq_int (fin_bl I q dec_int)
    | str j=>obtain ⟨t',rfl⟩:=ry;exact PySem.EqMixed.eq_int_str (fin_bl I q (by simp))
    | _=>exact absurd (show false=true from hs) Bool.false_ne_true
  | str i =>
    obtain ⟨t,rfl⟩:=rx
    cases y with
    | non=>cases ry;exact PySem.EqNone.eq_str_none (fin_bl I q (by simp))
    | bl j=>cases ry;exact PySem.EqMixed.eq_str_bool (fin_bl I q (by simp))
    | int j=>obtain ⟨t',rfl⟩:=ry;exact PySem.EqMixed.eq_str_int (fin_bl I q (by simp))
    | str j=>obtain ⟨t',rfl⟩:=ry;exact eq_str (fin_bl I q dec_str)
    | _=>exact absurd (show false=true from hs) Bool.false_ne_true
  | byt i =>
    obtain ⟨t,rfl⟩:=rx
    cases y with
    | byt j=>obtain ⟨t',rfl⟩:=ry;exact PySem.W.eq_bytes (fin_bl I q dec_byt)
    | _=>exact absurd (show false=true from hs) Bool.false_ne_true
  | _=>cases y <;> exact absurd (show false=true from hs) Bool.false_ne_true
theorem op_ne:OpR X (compareOp .NotEq) rNe:=by
  intro pins s σ H x y v u Q I rx ry h
  obtain ⟨hs,q⟩:=h
  cases x with
  | non =>
    cases rx
    cases y with
    | non=>cases ry;exact PySem.EqNone.ne_none_none (fin_bl I q (by simp))
    | bl j=>cases ry;exact PySem.EqNone.ne_none_bool (fin_bl I q (by simp))
    | int j=>obtain ⟨t',rfl⟩:=ry;exact PySem.EqNone.ne_none_int (fin_bl I q (by simp))
    | str j=>obtain ⟨t',rfl⟩:=ry;exact PySem.EqNone.ne_none_str (fin_bl I q (by simp))
    | _=>exact absurd (show false=true from hs) Bool.false_ne_true
  | bl i =>
    cases rx
    cases y with
    | non=>cases ry;exact PySem.EqNone.ne_bool_none (fin_bl I q (by simp))
    | bl j=>cases ry;exact ne_bool (fin_bl I q (congrArg not dec_bl))
    | str j=>obtain ⟨t',rfl⟩:=ry;exact PySem.EqMixed.ne_bool_str (fin_bl I q (by simp))
    | _=>exact absurd (show false=true from hs) Bool.false_ne_true
  | int i =>
    obtain ⟨t,rfl⟩:=rx
    cases y with
    | non=>cases ry;exact PySem.EqNone.ne_int_none (fin_bl I q (by simp))
    | int j=>obtain ⟨t',rfl⟩:=ry;exact ne_int (fin_bl I q (congrArg not dec_int))
    | str j=>obtain ⟨t',rfl⟩:=ry;exact PySem.EqMixed.ne_int_str (fin_bl I q (by simp))
    | _=>exact absurd (show false=true from hs) Bool.false_ne_true
  | str i =>
    obtain ⟨t,rfl⟩:=rx
    cases y with
    | non=>cases ry;exact PySem.EqNone.ne_str_none (fin_bl I q (by simp))
    | bl j=>cases ry;exact PySem.EqMixed.ne_str_bool (fin_bl I q (by simp))
    | int j=>obtain ⟨t',rfl⟩:=ry;exact PySem.EqMixed.ne_str_int (fin_bl I q (by simp))
    | str j=>obtain ⟨t',rfl⟩:=ry;exact ne_str (fin_bl I q (congrArg not dec_str))
    | _=>exact absurd (show false=true from hs) Bool.false_ne_true
  | byt i =>
    obtain ⟨t,rfl⟩:=rx
    cases y with
    | byt j=>obtain ⟨t',rfl⟩:=ry;exact PySem.W.ne_bytes (fin_bl I q (congrArg not dec_byt))
    | _=>exact absurd (show false=true from hs) Bool.false_ne_true
  | _=>cases y <;> exact absurd (show false=true from hs) Bool.false_ne_true
theorem op_lt:OpR X (compareOp .Lt) (rI0 fun i j=>.bl (decide (i < j))):=opB0 fun _ _ _ _ _ _ _ q=>lt_int q
theorem op_le:OpR X (compareOp .LtE) (rI0 fun i j=>.bl (decide (i≤j))):=opB0 fun _ _ _ _ _ _ _ q=>le_int q
theorem op_gt:OpR X (compareOp .Gt) (rI0 fun i j=>.bl (decide (j < i))):=opB0 fun _ _ _ _ _ _ _ q=>gt_int q
theorem op_ge:OpR X (compareOp .GtE) (rI0 fun i j=>.bl (decide (j≤i))):=opB0 fun _ _ _ _ _ _ _ q=>ge_int q
theorem op_isN:OpR X (compareOp .Is) (fun x y H Q=>y=.non∧Q (.bl (decide (x=.non))) H):=by
  intro pins s σ H x y v u Q I rx ry h
  obtain ⟨rfl,q⟩:=h
  cases ry
  refine is_none_gen (fin_bl I q ?_)
  cases x <;> first
    | (cases rx;rfl)
    | (obtain ⟨t,rfl⟩:=rx;rfl)
theorem op_notN:OpR X (compareOp .IsNot) (fun x y H Q=>y=.non∧Q (.bl (!decide (x=.non))) H):=by
  intro pins s σ H x y v u Q I rx ry h
  obtain ⟨rfl,q⟩:=h
  cases ry
  refine isnot_none_gen (fin_bl I q ?_)
  cases x <;> first
    | (cases rx;rfl)
    | (obtain ⟨t,rfl⟩:=rx;rfl)
theorem nomark (b:Expr) {op:CmpOp} (h:op≠.In:=by decide) (h2:op≠.NotIn:=by decide):behindInMarks op b=false:=by
  have e1:(op == CmpOp.In)=false:=by cases op <;> first | rfl | exact absurd rfl h
  have e2:(op == CmpOp.NotIn)=false:=by cases op <;> first | rfl | exact absurd rfl h2
  cases b <;> simp [behindInMarks,e1,e2]
theorem pe_cmpR {op:CmpOp} {r:R2} (ho:OpR X (compareOp op) r) (ha:PE X a ta) (hb:PE X b tb) (hm:behindInMarks op b=false):PE X (.Compare a [op] [b] pos) (tOp r ta tb):=by
  intro pins s σ H Q I h
  exact wpAny_Compare1 (binT ha hb I h fun v u s2 x y H2 I2 rx ry q=>ho pins s2 σ H2 x y v u Q I2 rx ry q) hm
def tTest (t:TE):TT:=fun σ H Q=>t σ H fun x H'=>∃ k,x=.bl k∧Q k H'
theorem pt_cmpR {op:CmpOp} {r:R2} (ho:OpR X (compareOp op) r) (ha:PE X a ta) (hb:PE X b tb) (hm:behindInMarks op b=false):PT X (.Compare a [op] [b] pos) (tTest (tOp r ta tb)):=by
  intro pins s σ H Q I h
  refine wpAny_isTrue_Compare1 (thn (ha pins s σ H _ I h) fun v s1 ⟨x,H1,I1,r1,q1⟩=>thn (hb pins s1 σ H1 _ I1 q1) fun u s2 ⟨y,H2,I2,r2,q2⟩ =>
    thn (ho pins s2 σ H2 x y v u _ I2 r1 r2 q2) fun c s3 ⟨z,H3,I3,r3,k,e,q3⟩=>?_) hm
  subst e
  cases r3
  exact wpAny_truthy_bool ⟨H3,I3,q3⟩
def tChain (r r':R2) (ta tb tc:TE):TE:=fun σ H Q=>ta σ H fun x H1=>tb σ H1 fun y H2=>r x y H2 fun z H3=>∃ k,z=.bl k ∧
  (if k=true then tc σ H3 fun w' H4=>r' y w' H4 Q else Q (.bl false) H3)
theorem pe_chain {op op':CmpOp} {r r':R2} (ho:OpR X (compareOp op) r) (ho':OpR X (compareOp op') r') (ha:PE X a ta) (hb:PE X b tb) (hc:PE X c tc)
    (hm:lastMarks [op,op'] [b,c]=false:=by with_unfolding_all rfl):PE X (.Compare a [op,op'] [b,c] pos) (tChain r r' ta tb tc):=by
  intro pins s σ H Q I h
  refine Compare_chain (thn (ha pins s σ H _ I h) fun v s1 ⟨x,H1,I1,r1,q1⟩=>chain_link (thn (hb pins s1 σ H1 _ I1 q1) fun u s2 ⟨y,H2,I2,r2,q2⟩ =>
    thn (ho pins s2 σ H2 x y v u _ I2 r1 r2 q2) fun d s3 ⟨z,H3,I3,r3,k,e,q3⟩=>?_)) hm
  subst e
  cases r3
  refine wpAny_truthy_bool ?_
  cases k with
  | false=>exact ite_ff ⟨.bl false,H3,I3,rfl,q3⟩
  | true=>exact ite_tt (chain_last (thn (hc pins s3 σ H3 _ I3 q3) fun w' s4 ⟨z',H4,I4,r4,q4⟩=>ho' pins s4 σ H4 y z' u w' Q I4 r2 r4 q4))
theorem line63:(sizeLine:Nat) < 2 ^ 63:=by rw [sizeLine_eq];decide
theorem op_add_str:OpR X (binaryOp .Add) (fun x y H Q=>∃ i j,x=.str i∧y=.str j∧i.length + j.length≤sizeLine∧Q (.str (i ++ j)) H):=by
  intro pins s σ H x y v u Q I rx ry h
  obtain ⟨i,j,rfl,rfl,hz,q⟩:=h
  obtain ⟨t,rfl⟩:=rx
  obtain ⟨t',rfl⟩:=ry
  exact add_str (fun t' tk=>⟨.str (i ++ j),H,I.tok _,⟨_,rfl⟩,q⟩) hz
theorem vals1 {x:V} {us:List Value} (r:Vals [x] us):∃ u,us=[u]∧RelV x u:=by
  cases r with
  | cons r1 r2=>cases r2;exact ⟨_,rfl,r1⟩
theorem vals2 {x y:V} {us:List Value} (r:Vals [x,y] us):∃ u w',us=[u,w']∧RelV x u∧RelV y w':=by
  cases r with
  | cons r1 r2 =>
    cases r2 with
    | cons r3 r4=>cases r4;exact ⟨_,_,rfl,r1,r3⟩
def LenV (K:PySem.W.Frag) (x:V) (H:Hp) (n:Nat):Prop :=
  match x with
  | .str y=>y.length≤sizeLine∧n=y.length
  | .byt y=>y.size≤sizeLine∧n=y.size
  | .ref p=>(∃ xs,SqL K H p xs∧n=xs.length)∨∃ xs,SqT K H p xs∧n=xs.length
  | _=>False
theorem call_len:CallR X (.builtin "len") (fun xs H Q=>∃ x n,xs=[x]∧LenV X.K x H n∧Q (.int n) H):=by
  intro pins s σ H xs us Q I r h
  obtain ⟨x,n,rfl,e,q⟩:=h
  obtain ⟨u,rfl,rx⟩:=vals1 r
  have hl:=line63
  have hs:sizeLine=16777216:=sizeLine_eq
  cases x with
  | str y =>
    obtain ⟨t,rfl⟩:=rx
    obtain ⟨hy,e'⟩:y.length≤sizeLine∧n=y.length:=e
    subst e'
    exact len_str (by omega) ⟨.int _,H,I.tok _,⟨_,rfl⟩,q⟩
  | byt y =>
    obtain ⟨t,rfl⟩:=rx
    obtain ⟨hy,e'⟩:y.size≤sizeLine∧n=y.size:=e
    subst e'
    exact PySem.W.len_bytes (by omega) ⟨.int _,H,I.tok _,⟨_,rfl⟩,q⟩
  | ref p =>
    cases rx
    have e':(∃ xs,SqL X.K H p xs∧n=xs.length)∨∃ xs,SqT X.K H p xs∧n=xs.length:=e
    rcases e' with ⟨xs,hx,e'⟩ | ⟨xs,hx,e'⟩
    · subst e'
      obtain ⟨its,r',pl,hz⟩:=I.list hx
      have hlen:=r'.length
      exact Calls.call_len_list pl.isList (by simp only [List.size_toArray];omega) ⟨.int xs.length,H,I.tok _,⟨_,by simp only [List.size_toArray];rw [hlen]⟩,q⟩
    · subst e'
      obtain ⟨its,r',pl,hz⟩:=I.tuple hx
      have hlen:=r'.length
      exact len_tuple pl (by simp only [List.size_toArray];omega) ⟨.int xs.length,H,I.tok _,⟨_,by simp only [List.size_toArray];rw [hlen]⟩,q⟩
  | _=>exact (show False from e).elim
end
end L2
namespace L2
open PySem PySem.Spec PyProof.Rows
structure ObjM (h:Heap) (x dx C:Addr) (mA:Str→Option Value):Prop where
  obj:h.get? x=some (PySem.W.instObj C dx)
  ns:h.Ns1 dx mA
  ne:dx≠x
theorem lookIn_ns {h:Heap} {dx:Addr} {mA:Str→Option Value} (n:h.Ns1 dx mA):∃ od,h.get? dx=some od∧∀ name,PySem.W.lookIn name od=some (mA name):=by
  obtain ⟨o,es,ep,ho,hd,hk,_,hm⟩:=n
  refine ⟨o,ho,fun name=>?_⟩
  have e:=hm name
  unfold nsFind findBy at e
  rw [← Array.find?_toList] at e
  unfold PySem.W.lookIn
  rw [hd]
  dsimp only
  split
  · rename_i y q
    rw [q] at e
    exact congrArg some e
  · rename_i q
    rw [q] at e
    have a:es.toList.any (·.refKey)=false:=by
      rw [List.any_eq_false]
      intro y hy
      obtain ⟨z,t,hkey⟩:=hk y (Array.mem_toList_iff.mp hy)
      simp [DictEntry.refKey,hkey]
    have a':¬ es.toList.any (·.refKey)=true:=by rw [a];exact Bool.false_ne_true
    rw [if_neg a']
    exact congrArg some e
theorem ObjM.look {h:Heap} {x dx C:Addr} {mA:Str→Option Value} (I:ObjM h x dx C mA):∃ od,PySem.W.InstAt h x (PySem.W.instObj C dx) C (some od)∧∀ name,PySem.W.lookIn name od=some (mA name) :=
  let ⟨od,ho,hl⟩:=lookIn_ns I.ns
  ⟨od,⟨I.obj,rfl,rfl,ho⟩,hl⟩
section
variable {prog:Program} {w:World} {A:Around} {E:Value→Shared→Prop} {s:Shared} {K:PySem.W.Frag} {x dx C f:Addr} {mA:Str→Option Value} {name:Str} {v:Value}
theorem get_map {expr:Bool} {Q:Value→Shared→Prop} (X:K.In s.heap) (I:ObjM s.heap x dx C mA) (hg:PySem.W.plainGet K C name=true) (hh:PySem.W.hasDictIn K C=true)
    (ha:PySem.W.findIn K (.ref C) name=some none) (hv:mA name=some v) (hv':PySem.W.handedIn v=true) (h:Q v { s with toks:=s.toks + 1 }) :
    wpAny (model prog w) A (getAttr (.ref x) name expr) Q E s:=by
  obtain ⟨od,J,hl⟩:=I.look
  exact PySem.W.get_value X J (PySem.W.plainGet_of hg).1 (PySem.W.findObj_own hh ha rfl (by rw [hl,hv])) hv' h
theorem get_meth {pl:Sem Bool} {Q:Value × List Value→Shared→Prop} (X:K.In s.heap) (I:ObjM s.heap x dx C mA) (hg:PySem.W.plainGet K C name=true)
    (hf:PySem.W.findIn K (.ref C) name=some (some (.ref f))) (ht:PySem.W.isFn K (.ref f)=true) (hv:mA name=none) (h:Q (.ref f,[.ref x]) s) :
    wpAny (model prog w) A (getMethod (.ref x) name pl) Q E s:=by
  obtain ⟨od,J,hl⟩:=I.look
  exact PySem.W.method_fn X J (PySem.W.plainGet_of hg).1 (PySem.W.plainGet_of hg).2 hf (beq_iff_eq.mp ht) (by show (PySem.W.lookIn name od).map (·.isSome)=some false;rw [hl,hv];rfl) h
theorem set_map {ns:List Str} {Q:Unit→Shared→Prop} (X:K.In s.heap) (I:ObjM s.heap x dx C mA)
    (hs:PySem.W.findIn K (.ref C) "__setattr__"=some (some (.builtin "object.__setattr__"))) (hp:PySem.W.plainOver K C=true) (ht:PySem.W.takerIn K C name=some none) (hh:PySem.W.hasDictIn K C=true)
    (hw:PySem.Within mA ns) (hsz:ns.length≤sizeLine)
    (h:∀ h',ObjM h' x dx C (fun y=>if y=name then some v else mA y)→Heap.SameBut dx s.heap h'→Q () { s with heap:=h',toks:=s.toks + 2 }) :
    wpAny (model prog w) A (setAttr (.ref x) name v) Q E s:=by
  obtain ⟨od,J,hl⟩:=I.look
  refine PySem.W.set_plain X J hs (PySem.W.osa_open (s:={ s with toks:=s.toks + 1 }) (r:=none) X J hp ht fun b=>?_)
  obtain ⟨cd,hc,hd'⟩:=PySem.W.any_some hh
  have hx:s.heap.get? x=some ⟨.ref C,some dx,.plain,#[]⟩:=I.obj
  refine wpAny_bind (wpAny_pure (wpAny_bind (wpAny_bind (wpAny_loadPart hx (wpAny_bind (PySem.W.Looks.here (s:={ s with toks:=s.toks + 1 }) (PySem.W.looks_clsIn X hc) ?_))))))
  rw [hd']
  refine wpAny_pure (a:=some dx) (wpAny_bind (wpAny_pure (wpAny_bind ?_)))
  refine wpAny_nsSet1 (s:={ s with toks:=s.toks + 1 }) I.ns fun h' hn2 hs2=>?_
  obtain ⟨oD,esD,epD,hoD,hdD,hcD⟩:=hn2.count (PySem.Within.cons name v hw)
  refine wpAny_bind (wpAny_lookBehind hoD (by rw [hdD];exact pastItsLine_dict (Nat.le_trans hcD (by rw [List.length_cons];omega))) ?_)
  exact wpAny_pure (h _ ⟨(hs2.2 _ (Ne.symm I.ne)).trans I.obj,hn2,I.ne⟩ hs2)
theorem make_map {R:Result→Shared→Prop} {vs:List Value} {kw:List (Str × Value)} (X:K.In s.heap) (hm:PySem.W.makesIn K C=true)
    (hi:PySem.W.findIn K (.ref C) "__init__"=some (some (.ref f))) (hf:PySem.W.typeIn K (.ref f)=some (.type "function"))
    (h:codeAny (model prog w) (A.under (.builtin "type.__call__" ⟨.ref C :: vs,kw⟩)) (.call (.ref f) ⟨.ref (s.heap.objs.size + 1) :: vs,kw⟩) (PySem.W.InitBack (s.heap.objs.size + 1) R)
      { s with heap:=(s.heap.push PySem.W.emptyDict).push (PySem.W.instObj C s.heap.objs.size) }) :
    codeAny (model prog w) A (.call (.ref C) ⟨vs,kw⟩) R s:=by
  obtain ⟨hh,g,d,t,os⟩:=s
  exact PySem.W.make_core (PySem.W.makes_of X hm) (PySem.W.looks_findIn X hi) (fun self=>PySem.W.bind_fn X self hf) (.inl rfl) h
end
def putF (f:Str) (v:V):List (Str × V)→List (Str × V)
  | []=>[(f,v)]
  | (g,x) :: r=>if g=f then (g,v) :: r else (g,x) :: putF f v r
theorem lookup_putF (f g:Str) (v:V):∀ fs:List (Str × V),(putF f v fs).lookup g=if g=f then some v else fs.lookup g
  | []=>by
    show List.lookup g [(f,v)]=_
    by_cases h:g=f
    · have hb:(g == f)=true:=beq_iff_eq.mpr h
      simp only [List.lookup,hb,if_pos h]
    · have hb:(g == f)=false:=beq_eq_false_iff_ne.mpr h
      simp only [List.lookup,hb,if_neg h]
  | (k,x) :: r=>by
    have ih:=lookup_putF f g v r
    rw [show putF f v ((k,x) :: r)=(if k=f then (k,v) :: r else (k,x) :: putF f v r) from rfl]
    by_cases hk:k=f
    · rw [if_pos hk]
      by_cases h:g=k
      · have hb:(g == k)=true:=beq_iff_eq.mpr h
        simp only [List.lookup,hb,if_pos (h.trans hk)]
      · have hb:(g == k)=false:=beq_eq_false_iff_ne.mpr h
        simp only [List.lookup,hb,if_neg (fun e:g=f=>h (e.trans hk.symm))]
    · rw [if_neg hk]
      by_cases h:g=k
      · have hb:(g == k)=true:=beq_iff_eq.mpr h
        simp only [List.lookup,hb,if_neg (fun e:g=f=>hk (h.symm.trans e))]
      · have hb:(g == k)=false:=beq_eq_false_iff_ne.mpr h
        simp only [List.lookup,hb]
        exact ih
theorem keys_putF (f:Str) (v:V):∀ fs:List (Str × V),f∈(putF f v fs).map (·.1)∧∀ g,g∈fs.map (·.1)→g∈(putF f v fs).map (·.1)
  | []=>⟨by simp [putF],fun g h=>by simp at h⟩
  | (k,x) :: r=>by
    obtain ⟨i1,i2⟩:=keys_putF f v r
    rw [show putF f v ((k,x) :: r)=(if k=f then (k,v) :: r else (k,x) :: putF f v r) from rfl]
    by_cases hk:k=f
    · rw [if_pos hk]
      subst hk
      exact ⟨by simp,fun g h=>by simpa using h⟩
    · rw [if_neg hk]
      refine ⟨?_,fun g h=>?_⟩
      · rw [List.map_cons]
        exact List.mem_cons_of_mem _ i1
      · rw [List.map_cons] at h ⊢
        rcases List.mem_cons.mp h with e | e
        · exact List.mem_cons.mpr (.inl e)
        · exact List.mem_cons_of_mem _ (i2 g e)
theorem length_putF (f:Str) (v:V):∀ fs:List (Str × V),(putF f v fs).length≤fs.length + 1
  | []=>by simp [putF]
  | (k,x) :: r=>by
    have ih:=length_putF f v r
    rw [show putF f v ((k,x) :: r)=(if k=f then (k,v) :: r else (k,x) :: putF f v r) from rfl]
    by_cases hk:k=f
    · rw [if_pos hk,List.length_cons,List.length_cons];omega
    · rw [if_neg hk,List.length_cons,List.length_cons];omega
theorem RelO.some_of {v:V} {o:Option Value} (r:RelO (some v) o):∃ u,o=some u∧RelV v u:=by
  cases o with
  | none=>exact (show False from r).elim
  | some u=>exact ⟨u,rfl,r⟩
theorem RelO.none_of {o:Option Value} (r:RelO none o):o=none:=by
  cases o with
  | none=>rfl
  | some u=>exact (show False from r).elim
theorem handed_of {v:V} {u:Value} (r:RelV v u):PySem.W.handedIn u=true:=by
  cases v with
  | non=>cases (show u=Value.none from r);rfl
  | bl b=>cases (show u=Value.bool b from r);rfl
  | int i=>obtain ⟨t,e⟩:=(show ∃ t,u=Value.int i t from r);cases e;rfl
  | str x=>obtain ⟨t,e⟩:=(show ∃ t,u=Value.str x t from r);cases e;rfl
  | byt b=>obtain ⟨t,e⟩:=(show ∃ t,u=Value.bytes b t from r);cases e;rfl
  | flt b=>obtain ⟨t,e⟩:=(show ∃ t,u=Value.float b t from r);cases e;rfl
  | ref a=>cases (show u=Value.ref a from r);rfl
  | ty n=>cases (show u=Value.type n from r);rfl
section
variable {P:Program} {w:World} {H H':Hp} {h h':Heap} {a C dx:Addr} {fs fs':List (Str × V)}
theorem ins_get (hok:HOk P w H h) (e:H a=some (.ins C dx fs)):∃ mA,ObjM h a dx C mA∧(∀ f,RelO (fs.lookup f) (mA f))∧PySem.Within mA (fs.map (·.1))∧fs.length≤1000∧H dx=some (.own a):=by
  obtain ⟨d,z,ne,ob,mA,n,r,q⟩:=(show ObjOk P w H h a (.ins C dx fs) from hok a _ e)
  exact ⟨mA,⟨ob,n,ne⟩,r,q,z,d⟩
end
structure Cls (K:PySem.W.Frag) (C:Addr):Prop where
  pg:PySem.W.plainGet K C Str.empty=true
  hd:PySem.W.hasDictIn K C=true
  po:PySem.W.plainOver K C=true
  sa:PySem.W.findIn K (.ref C) "__setattr__"=some (some (.builtin "object.__setattr__"))
theorem Cls.get {K:PySem.W.Frag} {C:Addr} (c:Cls K C) (f:Str):PySem.W.plainGet K C f=true:=c.pg
def NoAttr (K:PySem.W.Frag) (C:Addr) (f:Str):Prop:=PySem.W.findIn K (.ref C) f=some none
theorem NoAttr.taker {K:PySem.W.Frag} {C:Addr} {f:Str} (n:NoAttr K C f):PySem.W.takerIn K C f=some none:=by
  unfold PySem.W.takerIn
  rw [show PySem.W.findIn K (.ref C) f=some none from n]
  rfl
structure Meth (K:PySem.W.Frag) (C:Addr) (m:Str) (f:Addr):Prop where
  at_:PySem.W.findIn K (.ref C) m=some (some (.ref f))
  fn:PySem.W.isFn K (.ref f)=true
  kp:PySem.W.keepIn K (.ref f)=true
section
variable {X:Cx} {pins:List (Addr × Obj)} {σ:St} {H:Hp} {s:Shared} {a C dx:Addr} {fs:List (Str × V)} {f:Str} {v:V} {A:Around} {E:Value→Shared→Prop}
theorem getattr_ok {b:Bool} {Q:Value→Shared→Prop} (I:Inv X pins σ H s) (e:H a=some (.ins C dx fs)) (c:Cls X.K C) (n:NoAttr X.K C f) (l:fs.lookup f=some v)
    (h:∀ u s',Inv X pins σ H s'→RelV v u→Q u s'):wpAny (model X.prog X.w) A (getAttr (.ref a) f b) Q E s:=by
  obtain ⟨mA,O,r,_,_,_⟩:=ins_get I.hok e
  obtain ⟨u,hu,ru⟩:=RelO.some_of (v:=v) (o:=mA f) (by rw [← l];exact r f)
  exact get_map I.kIn O (c.get f) c.hd n hu (handed_of ru) (h u _ (I.tok _) ru)
theorem getmeth_ok {m:Str} {g:Addr} {pl:Sem Bool} {Q:Value × List Value→Shared→Prop} (I:Inv X pins σ H s) (e:H a=some (.ins C dx fs)) (c:Cls X.K C) (k:Meth X.K C m g) (l:fs.lookup m=none)
    (h:Q (.ref g,[.ref a]) s):wpAny (model X.prog X.w) A (getMethod (.ref a) m pl) Q E s:=by
  obtain ⟨mA,O,r,_,_,_⟩:=ins_get I.hok e
  have hn:mA m=none:=RelO.none_of (by rw [← l];exact r m)
  exact get_meth I.kIn O (c.get m) k.at_ k.fn hn h
theorem setattr_ok {y:V} {u:Value} {Q:Unit→Shared→Prop} (I:Inv X pins σ H s) (e:H a=some (.ins C dx fs)) (c:Cls X.K C) (n:NoAttr X.K C f) (hl:fs.length < 1000) (ry:RelV y u)
    (h:∀ s',Inv X pins σ (upd H a (.ins C dx (putF f y fs))) s'→Q () s'):wpAny (model X.prog X.w) A (setAttr (.ref a) f u) Q E s:=by
  obtain ⟨mA,O,r,wi,_,ho⟩:=ins_get I.hok e
  have hz:(fs.map (·.1)).length≤sizeLine:=by rw [List.length_map,sizeLine_eq];omega
  refine set_map I.kIn O c.sa c.po n.taker c.hd wi hz fun h' O' sb=>h _ ?_
  have hd:∃ o,h'.get? dx=some o:=let ⟨o,_,_,e',_⟩:=O'.ns;⟨o,e'⟩
  refine I.write (x:=a) (e:=dx) (by rw [e];exact True.intro) (.inr ho) (fun b q hb z=>(sb.2 b hb).trans z) hd ?_
  refine ⟨by rw [upd_ne O.ne];exact ho,?_,O.ne,O'.obj,_,O'.ns,fun g=>?_,fun g hg=>?_⟩
  · have:=length_putF f y fs;omega
  · show RelO ((putF f y fs).lookup g) (if g=f then some u else mA g)
    rw [lookup_putF]
    by_cases q:g=f
    · rw [if_pos q,if_pos q];exact ry
    · rw [if_neg q,if_neg q];exact r g
  · by_cases q:g=f
    · rw [q];exact (keys_putF f y fs).1
    · refine (keys_putF f y fs).2 g (wi g fun z=>hg ?_)
      show (if g=f then some u else mA g)=none
      rw [if_neg q];exact z
theorem Inv.made (I:Inv X pins σ H s):Inv X pins σ (upd (upd H s.heap.objs.size (.own (s.heap.objs.size + 1))) (s.heap.objs.size + 1) (.ins C s.heap.objs.size []))
    { s with heap:=(s.heap.push PySem.W.emptyDict).push (PySem.W.instObj C s.heap.objs.size) }:=by
  have e1:(s.heap.push PySem.W.emptyDict).get? s.heap.objs.size=some PySem.W.emptyDict:=Heap.get?_push_size s.heap rfl
  have e2:((s.heap.push PySem.W.emptyDict).push (PySem.W.instObj C s.heap.objs.size)).get? (s.heap.objs.size + 1)=some (PySem.W.instObj C s.heap.objs.size):=by
    have:=Heap.get?_push_size (s.heap.push PySem.W.emptyDict) (o:=PySem.W.instObj C s.heap.objs.size) rfl
    rwa [Heap.size_push] at this
  have e3:(s.heap.push PySem.W.emptyDict).Ns s.heap.objs.size (fun _=>none):=⟨PySem.W.emptyDict,#[],_,e1,rfl,(fun e he=>absurd he (by simp)),fun _=>rfl⟩
  have I1:=I.laid (a:=s.heap.objs.size) (o:=.own (s.heap.objs.size + 1)) (h':=s.heap.push PySem.W.emptyDict) (t':=s.toks) (fun b u q=>Heap.get?_push_of_some _ q) (Nat.le_refl _) ⟨_,e1⟩
  refine I1.laid (a:=s.heap.objs.size + 1) (o:=.ins C s.heap.objs.size []) (t':=s.toks) (fun b u q=>Heap.get?_push_of_some _ q) (Nat.le_of_eq (Heap.size_push _ _)) ?_
  have ne:s.heap.objs.size≠s.heap.objs.size + 1:=Nat.ne_of_lt (Nat.lt_succ_self _)
  refine ⟨by rw [upd_ne ne,upd_same],Nat.zero_le _,ne,e2,fun _=>none,(Heap.Ns1.of_empty e3).at fun o q=>Heap.get?_push_of_some _ q,fun _=>True.intro,fun y hy=>absurd rfl hy⟩
theorem attr_of {prog:Program} {w:World} {env:Env} {e:Expr} {f:Str} {pos:Pos} {s:Shared} {Q:Value→Shared→Prop} (hb:attributeBase e f env (eval e env)=eval e env)
    (h:wpAny (model prog w) A (eval e env) (fun o s₁=>wpAny (model prog w) A (getAttr o f true) Q E s₁) E s):wpAny (model prog w) A (eval (.Attribute e f pos) env) Q E s :=
  Attribute_any_ h (by rw [arm_eval_Attribute,hb])
end
def tFld (K:PySem.W.Frag) (ta:TE) (f:Str):TE:=fun σ H Q=>ta σ H fun x H1=>∃ a C dx fs v,x=.ref a∧H1 a=some (.ins C dx fs)∧Cls K C∧NoAttr K C f∧fs.lookup f=some v∧Q v H1
def sFld (K:PySem.W.Frag) (ta tv:TE) (f:Str):TS:=fun D σ H=>tv σ H fun y H1=>ta σ H1 fun x H2=>∃ a C dx fs,x=.ref a∧H2 a=some (.ins C dx fs)∧Cls K C∧NoAttr K C f∧fs.length < 1000 ∧
  D.nx σ (upd H2 a (.ins C dx (putF f y fs)))
section
variable {X:Cx} {o e value:Expr} {f:Str} {pos pos' tpos:Pos} {ta tv:TE}
theorem pe_fld (he:PE X e ta) (hb:attributeBase e f X.env (eval e X.env)=eval e X.env):PE X (.Attribute e f pos) (tFld X.K ta f):=by
  intro pins s σ H Q I h
  refine attr_of hb (thn (he pins s σ H _ I h) fun u s1 ⟨x,H1,I1,rx,a,C,dx,fs,v,ex,ea,c,n,l,q⟩=>?_)
  subst ex
  obtain rfl:u=Value.ref a:=rx
  exact getattr_ok I1 ea c n l fun u' s2 I2 ru=>⟨v,H1,I2,ru,q⟩
theorem ps_fld (ha:PE X o ta) (hv:PE X value tv) (hs:swapsWith value (some (.Attribute o f pos')) pos.line X.env=pure false):PS X (.Assign [.Attribute o f pos'] value pos) (sFld X.K ta tv f):=by
  intro pins s σ H D I h
  refine plainObj_wpAny_Assign_Attribute (thn (hv pins s σ H _ I h) fun u s1 ⟨y,H1,I1,ry,q⟩=>thn (ha pins s1 σ H1 _ I1 q) fun ov s2 ⟨x,H2,I2,rx,a,C,dx,fs,ex,ea,c,n,l,q2⟩=>?_) hs
  subst ex
  obtain rfl:ov=Value.ref a:=rx
  exact setattr_ok I2 ea c n l ry fun s3 I3=>⟨σ,_,I3,q2⟩
end
section
variable {X:Cx} {pins:List (Addr × Obj)} {σ:St} {H:Hp} {s:Shared} {A:Around} {E:Value→Shared→Prop} {Q:Value→Shared→Prop} {c:Value} {b:Bool}
inductive TyOf (K:PySem.W.Frag) (H:Hp):V→Value→Prop where
  | non:TyOf K H .non (.type "NoneType")
  | bl (x:Bool):TyOf K H (.bl x) (.type "bool")
  | int (i:Int):TyOf K H (.int i) (.type "int")
  | str (x:Str):TyOf K H (.str x) (.type "str")
  | flt (x:UInt64):TyOf K H (.flt x) (.type "float")
  | lst {a:Addr} {xs:List V} (e:H a=some (.lst xs)):TyOf K H (.ref a) (.type "list")
  | frz {a:Addr} {o:Obj} {xs:List V} (e:H a=some (.frz o (.lst xs))):TyOf K H (.ref a) (.type "list")
  | tup {a:Addr} {xs:List V} (e:H a=some (.tup xs)):TyOf K H (.ref a) (.type "tuple")
  | dK {a:Addr} {kvs:List (Key × V)} (e:H a=some (.dK kvs)):TyOf K H (.ref a) (.type "dict")
  | dT {a:Addr} {kvs:List (List Key × V)} (e:H a=some (.dT kvs)):TyOf K H (.ref a) (.type "dict")
  | ins {a C dx:Addr} {fs:List (Str × V)} (e:H a=some (.ins C dx fs)) (cl:Cls K C) (ha:PySem.W.findIn K (.ref C) "__class__"=some (some (.builtin "object.__class__")))
      (hn:PySem.W.specialIn K (.builtin "object.__class__") "__get__"=some (some (.builtin "getset_descriptor.__get__"))) (htk:PySem.W.takesIn K (.builtin "object.__class__")=some true)
      (hm:PySem.W.mroIn K C (.type "object")=some true):TyOf K H (.ref a) (.ref C)
theorem isinst_ok {x:V} {u t:Value} (I:Inv X pins σ H s) (rx:RelV x u) (ty:TyOf X.K H x t) (e:PySem.W.kitOne X.K t c=some b) (h:∀ tk,Q (.bool b) { s with toks:=tk }) :
    wpAny (model X.prog X.w) A (call (.builtin "isinstance") [u,c]) Q E s:=by
  cases ty with
  | non=>cases (show u=Value.none from rx);exact PySem.W.kia_one PySem.W.kitx_none I.kIn True.intro e (fun z=>nomatch z) h
  | bl y=>cases (show u=Value.bool y from rx);exact PySem.W.kia_one PySem.W.kitx_bool I.kIn True.intro e (fun z=>nomatch z) h
  | int i=>obtain ⟨t,q⟩:=(show ∃ t,u=Value.int i t from rx);cases q;exact PySem.W.kia_one PySem.W.kitx_int I.kIn True.intro e (fun z=>nomatch z) h
  | str y=>obtain ⟨t,q⟩:=(show ∃ t,u=Value.str y t from rx);cases q;exact PySem.W.kia_one PySem.W.kitx_str I.kIn True.intro e (fun z=>nomatch z) h
  | flt y=>obtain ⟨t,q⟩:=(show ∃ t,u=Value.float y t from rx);cases q;exact PySem.W.kia_one PySem.W.kitx_float I.kIn True.intro e (fun z=>nomatch z) h
  | @lst a xs ea =>
    cases (show u=Value.ref a from rx)
    obtain ⟨_,_,n,_,h1⟩:=(show ObjOk X.prog X.w H s.heap a (.lst xs) from I.hok a _ ea)
    exact PySem.W.kia_one PySem.W.kitx_list I.kIn ⟨_,h1,rfl⟩ e (fun z=>nomatch z) h
  | @frz a ob xs ea =>
    cases (show u=Value.ref a from rx)
    obtain ⟨_,_,_,n,_,h1⟩:=(show ObjOk X.prog X.w H s.heap a (.frz ob (.lst xs)) from I.hok a _ ea)
    exact PySem.W.kia_one PySem.W.kitx_list I.kIn ⟨_,h1,rfl⟩ e (fun z=>nomatch z) h
  | @tup a xs ea =>
    cases (show u=Value.ref a from rx)
    obtain ⟨_,_,_,p⟩:=(show ObjOk X.prog X.w H s.heap a (.tup xs) from I.hok a _ ea)
    obtain ⟨o,h1,h2,_⟩:=p
    exact PySem.W.kia_one PySem.W.kitx_tuple I.kIn ⟨o,h1,h2⟩ e (fun z=>nomatch z) h
  | @dK a kvs ea =>
    cases (show u=Value.ref a from rx)
    obtain ⟨_,_,vs,_,p⟩:=(show ObjOk X.prog X.w H s.heap a (.dK kvs) from I.hok a _ ea)
    obtain ⟨o,es,ep,h1,h2,_⟩:=p
    exact PySem.W.kia_one PySem.W.kitx_dict I.kIn ⟨o,h1,h2.1⟩ e (fun z=>nomatch z) h
  | @dT a kvs ea =>
    cases (show u=Value.ref a from rx)
    obtain ⟨_,_,xs,_,o,es,ep,h1,h2,_⟩:=(show ObjOk X.prog X.w H s.heap a (.dT kvs) from I.hok a _ ea)
    exact PySem.W.kia_one PySem.W.kitx_dict I.kIn ⟨o,h1,h2.1⟩ e (fun z=>nomatch z) h
  | @ins a C dx fs ea cl ha hn htk hm =>
    cases (show u=Value.ref a from rx)
    obtain ⟨mA,O,_⟩:=ins_get I.hok ea
    obtain ⟨od,J,_⟩:=O.look
    exact PySem.W.kia_one (PySem.W.kitx_own (cl.get _) cl.hd ha hn htk hm) I.kIn J e (fun z=>nomatch z) h
end
end L2
namespace L2
open PySem PySem.Spec PyProof.Rows
structure Room (k:Nat) (A:Around):Prop where
  hd:A.handled=none
  dp:A.depth + 3 * k + 5 < recursionLimit
  un:A.units + 16 * k + 200 < cLine
theorem Room.mono {j k:Nat} {A:Around} (r:Room k A) (h:j≤k):Room j A:=⟨r.hd,by have:=r.dp;omega,by have:=r.un;omega⟩
theorem Room.deeper {k:Nat} {A:Around} (r:Room (k + 1) A) (env:Env):Room k (A.deeper env) :=
  ⟨r.hd,by have:=r.dp;show A.depth + 1 + 3 * k + 5 < _;omega,by have:=r.un;show A.units + 3 + 16 * k + 200 < _;omega⟩
theorem make_depth {A:Around} {C:Addr} {us:List Value} {kw:List (Str × Value)}:(A.under (.builtin "type.__call__" ⟨.ref C :: us,kw⟩)).depth=A.depth + 1:=by
  first | rfl | simp [Around.under,Code.weight,Code.isCreation,Code.isGuard,Code.isCaller,Code.frames,Code.isFrame,guardIds]
theorem make_units {A:Around} {C:Addr} {us:List Value} {kw:List (Str × Value)}:(A.under (.builtin "type.__call__" ⟨.ref C :: us,kw⟩)).units=A.units + 1:=by
  first | rfl | simp [Around.under,Code.cUnits,Code.frames,Code.isFrame]
theorem Room.make {k:Nat} {A:Around} (r:Room (k + 1) A) (C:Addr) (us:List Value) (kw:List (Str × Value)):Room k (A.under (.builtin "type.__call__" ⟨.ref C :: us,kw⟩)) :=
  ⟨r.hd,by have:=r.dp;rw [make_depth];omega,by have:=r.un;rw [make_units];omega⟩
theorem Room.depth {k:Nat} {A:Around} (r:Room k A):A.depth < recursionLimit:=by have:=r.dp;omega
theorem Room.units {k:Nat} {A:Around} (r:Room k A):A.units + 64 < cLine:=by have:=r.un;omega
def tNil:TA:=fun _ H Q=>Q [] H
def tCons (ta:TE) (tr:TA):TA:=fun σ H Q=>ta σ H fun x H1=>tr σ H1 fun xs H2=>Q (x :: xs) H2
section
variable {X:Cx} {e:Expr} {es:List Expr} {te:TE} {t:TA} {pos:Pos}
theorem pa_nil:PA X [] tNil:=fun _ _ _ _ H Q I h=>Calls.spliced_nil ⟨[],H,I,.nil,h⟩
theorem pa_cons (ha:PE X e te) (hr:PA X es t) (hs:starEach (e :: es) X.env=(false,eval e X.env) :: starEach es X.env:=by rfl):PA X (e :: es) (tCons te t):=by
  intro pos pins s σ H Q I h
  rw [hs]
  show wpAny _ _ (spliced ((false,eval e X.env) :: backTo pos (starEach es X.env))) _ _ s
  refine Calls.spliced_cons (thn (ha pins s σ H _ I h) fun u s1 ⟨x,H1,I1,r1,q1⟩=>?_)
  exact thn (hr pos pins s1 σ H1 _ I1 q1) fun us s2 ⟨xs,H2,I2,r2,q2⟩=>⟨x :: xs,H2,I2,.cons r1 r2,q2⟩
def tTup (t:TA):TE:=fun σ H Q=>t σ H fun xs H1=>xs.length≤sizeLine∧∀ p,H1 p=none→Q (.ref p) (upd H1 p (.tup xs))
def tLst (t:TA):TE:=fun σ H Q=>t σ H fun xs H1=>xs.length≤sizeLine∧∀ p,H1 p=none→Q (.ref p) (upd H1 p (.lst xs))
theorem pe_tup {x1} (h:PA X es t):PE X (.Tuple es x1 pos) (tTup t):=by
  intro pins s σ H Q I hq
  refine wpAny_Tuple_spliced (thn (h pos pins s σ H _ I hq) fun us s1 ⟨xs,H1,I1,r,z,q⟩=>⟨by rw [← r.length];exact z,?_⟩)
  have hf:H1 s1.heap.objs.size=none:=I1.hok.fresh (Nat.le_refl _)
  refine ⟨.ref s1.heap.objs.size,upd H1 s1.heap.objs.size (.tup xs),I1.laid (t':=s1.toks) (fun b u e=>Heap.get?_push_of_some _ e) (Nat.le_refl _) ?_,rfl,q _ hf⟩
  exact ⟨z,us,r,⟨_,Heap.get?_push_size _ rfl,rfl,_,rfl⟩⟩
theorem pe_lst (h:PA X es t):PE X (.List es pos) (tLst t):=by
  intro pins s σ H Q I hq
  refine wpAny_List_spliced (thn (h pos pins s σ H _ I hq) fun us s1 ⟨xs,H1,I1,r,z,q⟩=>⟨by rw [← r.length];exact z,?_⟩)
  have hf:H1 s1.heap.objs.size=none:=I1.hok.fresh (Nat.le_refl _)
  refine ⟨.ref s1.heap.objs.size,upd H1 s1.heap.objs.size (.lst xs),I1.laid (t':=s1.toks) (fun b u e=>Heap.get?_push_of_some _ e) (Nat.le_refl _) ?_,rfl,q _ hf⟩
  exact ⟨z,us,0,r,Heap.get?_push_size _ rfl⟩
end
abbrev Sp:=List V→Hp→VK→XK→Prop
abbrev CXT:=List Env→Hp→Shared→XK→Value→Shared→Prop
structure Env0 (P:Program) (w:World) (K:PySem.W.Frag) (mg:Str→Option Value) (base:Heap) (A:Around) (outer:List Env) (s:Shared) (H:Hp):Prop where
  frames:A.frames=some outer
  mod:Mod K mg base
  bs:∀ b o,base.get? b=some o→s.heap.get? b=some o∧H b=none
  bsz:base.objs.size≤s.heap.objs.size
  funs:s.heap.FunFrames base outer
  frf:∀ b∈frs outer,H b=none
  hok:HOk P w H s.heap
  bare:AllBare s.gens
def CE (outer:List Env) (P:Program) (w:World) (H:Hp) (s:Shared) (Q:VK) (u:Value) (s':Shared):Prop :=
  ∃ v H',s'.os=s.os∧AllBare s'.gens∧Un (frs outer) [] H H' s.heap s'.heap∧HOk P w H' s'.heap∧RelV v u∧Q v H'
def CR (CX:CXT) (outer:List Env) (P:Program) (w:World) (H:Hp) (s:Shared) (Q:VK) (E:XK) (r:Result) (s':Shared):Prop :=
  match r with
  | .ok (.ret u)=>CE outer P w H s Q u s'
  | .ok _=>False
  | .error e=>CX outer H s E e s'
structure FnOk (P:Program) (w:World) (K:PySem.W.Frag) (mg:Str→Option Value) (base:Heap) (CX:CXT) (k:Nat) (f:Addr) (fd:FuncData) (ps:List Str) (sp:Sp):Prop where
  len:∀ vs H Q E,sp vs H Q E→vs.length=ps.length
  run:∀ (A:Around) (outer:List Env) (s:Shared) (H:Hp) (args:Args) (us:List Value) (vs:List V) (Q:VK) (E:XK),Room k A→Env0 P w K mg base A outer s H→BindsTo s fd args (ps.zip us)→Vals vs us→sp vs H Q E →
    codeAny (model P w) A (.call (.ref f) args) (CR CX outer P w H s Q E) s
theorem FnOk.mono {P:Program} {w:World} {K:PySem.W.Frag} {mg:Str→Option Value} {base:Heap} {CX:CXT} {j k:Nat} {f:Addr} {fd:FuncData} {ps:List Str} {sp:Sp} (F:FnOk P w K mg base CX j f fd ps sp) (h:j≤k) :
    FnOk P w K mg base CX k f fd ps sp:=⟨F.len,fun A outer s H args us vs Q E hr=>F.run A outer s H args us vs Q E (hr.mono h)⟩
theorem Env0.make {P:Program} {w:World} {K:PySem.W.Frag} {mg:Str→Option Value} {base:Heap} {A:Around} {outer:List Env} {s:Shared} {H:Hp} (e:Env0 P w K mg base A outer s H) (C:Addr) (us:List Value) (kw:List (Str × Value)) :
    Env0 P w K mg base (A.under (.builtin "type.__call__" ⟨.ref C :: us,kw⟩)) outer s H:=⟨by first | exact e.frames | (simpa [Around.under,Code.envs,Code.isFrame,pushEnvs] using e.frames),e.mod,e.bs,e.bsz,e.funs,e.frf,e.hok,e.bare⟩
section
variable {X:Cx} {pins:List (Addr × Obj)} {σ:St} {H:Hp} {s s':Shared}
theorem Inv.env0 (I:Inv X pins σ H s):Env0 X.prog X.w X.K X.mg X.base X.A X.stack s H :=
  ⟨I.ok.frames,I.ok.mod,I.bs,Nat.le_trans I.ok.bsz I.sz,I.stack,I.stkFree,I.hok,I.bare⟩
theorem Inv.after {Q:VK} {u:Value} (I:Inv X pins σ H s) (h:CE X.stack X.prog X.w H s Q u s'):EP X pins σ Q u s':=by
  obtain ⟨v,H',os,bare,un,hok,r,q⟩:=h
  obtain ⟨hh,g,d,t,os'⟩:=s'
  obtain rfl:os'=s.os:=os
  exact ⟨v,H',I.call (h':=hh) (g':=g) (d':=d) (t':=t) (ch:=[]) un hok bare (fun b z=>absurd z (by simp)),r,q⟩
end
def tCall (sp:Sp) (dvs:List V) (E:XK) (t:TA):TE:=fun σ H Q=>t σ H fun vs H1=>sp (vs ++ dvs) H1 Q E
def tMeth (C:Addr) (m:Str) (sp:Sp) (dvs:List V) (E:XK) (ta:TE) (t:TA):TE:=fun σ H Q=>ta σ H fun x H1=>∃ a dx fs,x=.ref a∧H1 a=some (.ins C dx fs)∧fs.lookup m=none ∧
  t σ H1 fun vs H2=>sp (x :: (vs ++ dvs)) H2 Q E
def tMake (C:Addr) (sp:Sp) (dvs:List V) (E:XK) (t:TA):TE:=fun σ H Q=>t σ H fun vs H1=>∀ x dx,H1 x=none→H1 dx=none→dx≠x →
  sp (.ref x :: (vs ++ dvs)) (upd (upd H1 dx (.own x)) x (.ins C dx [])) (fun v H2=>v=.non∧Q (.ref x) H2) E
def Binds (K:PySem.W.Frag) (fd:FuncData) (ps:List Str) (ds:List Value):Prop :=
  ∀ (s:Shared) (us:List Value),K.In s.heap→(us ++ ds).length=ps.length→BindsTo s fd ⟨us,[]⟩ (ps.zip (us ++ ds))
theorem Binds.all {K:PySem.W.Frag} {fd:FuncData} {ps:List Str} (h:∀ us:List Value,us.length=ps.length→bindArgs fd ⟨us,[]⟩=pure (ps.zip us)):Binds K fd ps []:=fun s us _ hl=>by
  rw [List.append_nil] at hl ⊢
  exact .of_eq (h us hl)
def Passes (CX:CXT) (X:Cx) (E:XK):Prop:=∀ (pins:List (Addr × Obj)) (σ:St) (H:Hp) (s:Shared) (e:Value) (s':Shared),Inv X pins σ H s→CX X.stack H s E e s'→X.xe e s'
section
variable {X:Cx} {CX:CXT} {k:Nat} {f C:Addr} {fd:FuncData} {ps:List Str} {sp:Sp} {dvs:List V} {ds:List Value} {E:XK} {x m:Str} {p pos apos:Pos} {e o:Expr} {es:List Expr} {ta:TE} {t:TA}
theorem run_fn {pins:List (Addr × Obj)} {σ:St} {H:Hp} {s:Shared} {Q:VK} {us:List Value} {vs:List V} (F:FnOk X.prog X.w X.K X.mg X.base CX k f fd ps sp) (hr:Room k X.A) (hb:Binds X.K fd ps ds) (hd:Vals dvs ds) (hx:Passes CX X E)
    (I:Inv X pins σ H s) (r:Vals vs us) (h:sp (vs ++ dvs) H Q E):wpAny (model X.prog X.w) X.A (call (.ref f) us) (EP X pins σ Q) X.xe s:=by
  have r2:Vals (vs ++ dvs) (us ++ ds):=r.append hd
  have hl:(us ++ ds).length=ps.length:=by rw [← r2.length];exact F.len _ _ _ _ h
  refine wpAny_call (codeAny_mono (F.run X.A X.stack s H ⟨us,[]⟩ (us ++ ds) (vs ++ dvs) Q E hr I.env0 (hb s us I.kIn hl) r2 h) fun r s' hq=>?_)
  cases r with
  | error e=>exact hx pins σ H s e s' I hq
  | ok fl =>
    cases fl with
    | ret u=>exact I.after hq
    | next=>exact False.elim hq
    | brk=>exact False.elim hq
    | cont=>exact False.elim hq
theorem pe_call (F:FnOk X.prog X.w X.K X.mg X.base CX k f fd ps sp) (hr:Room k X.A) (hg:Gl X x) (hm:X.mg x=some (.ref f)) (hk:PySem.W.keepIn X.K (.ref f)=true) (hb:Binds X.K fd ps ds) (hd:Vals dvs ds) (hx:Passes CX X E)
    (ha:PA X (e :: es) t) (hdb:(x == ("__debug__":Str))=false:=by decide) (he:starEach (e :: es) X.env=(false,eval e X.env) :: starEach es X.env:=by rfl) (hpl:(backTo pos (starEach es X.env)).any (·.1)=false:=by rfl) :
    PE X (.Call (.Name x p) (e :: es) [] pos) (tCall sp dvs E t):=by
  intro pins s σ H Q I h
  refine wpAny_Call_Name_kw (ld_glob I hg hm ?_ hdb)
  refine PySem.W.callWith_K (h₀:=X.base) I.ok.mod.kin hk (thn (ha pos pins s σ H _ I h) fun us s1 ⟨vs,H1,I1,r,q⟩=>⟨I1.kIn,?_⟩) he hpl
  exact run_fn F hr hb hd hx I1 r q
theorem pe_meth {pl:Sem Bool} (he:PE X o ta) (c:Cls X.K C) (hm:Meth X.K C m f) (F:FnOk X.prog X.w X.K X.mg X.base CX k f fd ps sp) (hr:Room k X.A) (hb:Binds X.K fd ps ds) (hd:Vals dvs ds) (hx:Passes CX X E) (ha:PA X (e :: es) t)
    (hst:starEach (e :: es) X.env=(false,eval e X.env) :: starEach es X.env:=by rfl) (hpl:(backTo pos (starEach es X.env)).any (·.1)=false:=by rfl)
    (ht:eval (.Call (.Attribute o m apos) (e :: es) [] pos) X.env=(do
      let ov ← eval o X.env
      standAt apos.atName
      let (f,first) ← holding [ov] (getMethod ov m pl)
      callWith pos f first (backTo pos (starEach (e :: es) X.env)) (backToKw pos (keywordEach [] X.env))):=by rfl) :
    PE X (.Call (.Attribute o m apos) (e :: es) [] pos) (tMeth C m sp dvs E ta t):=by
  intro pins s σ H Q I h
  refine PySem.W.methodCall_KW (pl:=pl) (thn (he pins s σ H _ I h) fun u s1 ⟨x,H1,I1,rx,a,dx,fs,ex,ea,l,q⟩=>?_) ht
  subst ex
  obtain rfl:u=Value.ref a:=rx
  refine getmeth_ok I1 ea c hm l ?_
  refine PySem.W.callWith_K (first:=[.ref a]) (h₀:=X.base) I.ok.mod.kin hm.kp (thn (ha pos pins s1 σ H1 _ I1 q) fun us s2 ⟨vs,H2,I2,r,q2⟩=>⟨I2.kIn,?_⟩) hst hpl
  exact run_fn (us:=.ref a :: us) (vs:=.ref a :: vs) F hr hb hd hx I2 (.cons rfl r) q2
theorem pe_meth0 {pl:Sem Bool} (he:PE X o ta) (c:Cls X.K C) (hm:Meth X.K C m f) (F:FnOk X.prog X.w X.K X.mg X.base CX k f fd ps sp) (hr:Room k X.A) (hb:Binds X.K fd ps ds) (hd:Vals dvs ds) (hx:Passes CX X E)
    (ht:eval (.Call (.Attribute o m apos) [] [] pos) X.env=(do
      let ov ← eval o X.env
      standAt apos.atName
      let (f,first) ← holding [ov] (getMethod ov m pl)
      callWith pos f first (backTo pos (starEach [] X.env)) (backToKw pos (keywordEach [] X.env))):=by rfl) :
    PE X (.Call (.Attribute o m apos) [] [] pos) (tMeth C m sp dvs E ta tNil):=by
  intro pins s σ H Q I h
  refine PySem.W.methodCall_KW (pl:=pl) (thn (he pins s σ H _ I h) fun u s1 ⟨x,H1,I1,rx,a,dx,fs,ex,ea,l,q⟩=>?_) ht
  subst ex
  obtain rfl:u=Value.ref a:=rx
  refine getmeth_ok I1 ea c hm l ?_
  exact PySem.W.callWith_K0 (first:=[.ref a]) I1.kIn hm.kp (run_fn (us:=[.ref a]) (vs:=[.ref a]) F hr hb hd hx I1 (.cons rfl .nil) q)
structure Mk (K:PySem.W.Frag) (C f:Addr):Prop where
  makes:PySem.W.makesIn K C=true
  init:PySem.W.findIn K (.ref C) "__init__"=some (some (.ref f))
  fn:PySem.W.isFn K (.ref f)=true
  kp:PySem.W.keepIn K (.ref C)=true
theorem run_make {pins:List (Addr × Obj)} {σ:St} {H:Hp} {s:Shared} {Q:VK} {us:List Value} {vs:List V} (M:Mk X.K C f) (F:FnOk X.prog X.w X.K X.mg X.base CX k f fd ps sp) (hr:Room (k + 1) X.A) (hb:Binds X.K fd ps ds) (hd:Vals dvs ds)
    (hx:Passes CX X E) (I:Inv X pins σ H s) (r:Vals vs us)
    (h:∀ x dx,H x=none→H dx=none→dx≠x→sp (.ref x :: (vs ++ dvs)) (upd (upd H dx (.own x)) x (.ins C dx [])) (fun v H2=>v=.non∧Q (.ref x) H2) E) :
    wpAny (model X.prog X.w) X.A (call (.ref C) us) (EP X pins σ Q) X.xe s:=by
  have hq:=h (s.heap.objs.size + 1) s.heap.objs.size (I.hok.fresh (Nat.le_succ _)) (I.hok.fresh (Nat.le_refl _)) (Nat.ne_of_lt (Nat.lt_succ_self _))
  have I2:=Inv.made (C:=C) I
  have r2:Vals (V.ref (s.heap.objs.size + 1) :: (vs ++ dvs)) (Value.ref (s.heap.objs.size + 1) :: (us ++ ds)):=.cons rfl (r.append hd)
  have hl:(Value.ref (s.heap.objs.size + 1) :: us ++ ds).length=ps.length:=by
    have e:=r2.length
    rw [F.len _ _ _ _ hq] at e
    exact e.symm
  refine wpAny_call (make_map (f:=f) I.kIn M.makes M.init (beq_iff_eq.mp M.fn) (codeAny_mono (F.run _ X.stack _ _ ⟨Value.ref (s.heap.objs.size + 1) :: us,[]⟩ (Value.ref (s.heap.objs.size + 1) :: (us ++ ds)) _ _ E (hr.make C us [])
    (I2.env0.make C us []) (hb _ (Value.ref (s.heap.objs.size + 1) :: us) I2.kIn hl) r2 hq) fun r s' hq'=>?_))
  cases r with
  | error e=>exact hx pins σ _ _ e s' I2 hq'
  | ok fl =>
    cases fl with
    | ret u =>
      obtain ⟨v,H',I3,rv,ev,q3⟩:=I2.after hq'
      subst ev
      exact ⟨rv,⟨V.ref (s.heap.objs.size + 1),H',I3,rfl,q3⟩⟩
    | next=>exact False.elim hq'
    | brk=>exact False.elim hq'
    | cont=>exact False.elim hq'
theorem pe_make (M:Mk X.K C f) (F:FnOk X.prog X.w X.K X.mg X.base CX k f fd ps sp) (hr:Room (k + 1) X.A) (hg:Gl X x) (hm:X.mg x=some (.ref C)) (hb:Binds X.K fd ps ds) (hd:Vals dvs ds) (hx:Passes CX X E)
    (ha:PA X (e :: es) t) (hdb:(x == ("__debug__":Str))=false:=by decide) (he:starEach (e :: es) X.env=(false,eval e X.env) :: starEach es X.env:=by rfl) (hpl:(backTo pos (starEach es X.env)).any (·.1)=false:=by rfl) :
    PE X (.Call (.Name x p) (e :: es) [] pos) (tMake C sp dvs E t):=by
  intro pins s σ H Q I h
  refine wpAny_Call_Name_kw (ld_glob I hg hm ?_ hdb)
  refine PySem.W.callWith_K (h₀:=X.base) I.ok.mod.kin M.kp (thn (ha pos pins s σ H _ I h) fun us s1 ⟨vs,H1,I1,r,q⟩=>⟨I1.kIn,?_⟩) he hpl
  exact run_make M F hr hb hd hx I1 r q
end
section
variable {X:Cx} {CX:CXT} {k:Nat} {f C:Addr} {fd:FuncData} {ps ks:List Str} {sp:Sp} {E:XK} {x m:Str} {p pos apos kpos:Pos} {e o:Expr} {es:List Expr} {kws:List Keyword} {te ta:TE} {t tk:TA} {nm:Option Str}
variable {g:List Value→List Value→List Value} {gV:List V→List V→List V}
end
structure FnScope (N P:List Str) (sc:Scope):Prop where
  kind:sc.kind=.function
  co:sc.isCoroutine=false
  gen:sc.isGenerator=false
  nd:N.Nodup
  pre:N.take P.length=P
  par:∀ x∈P,sc.names.lookup x=some .local∨sc.names.lookup x=some .cell
  nofree:∀ y∈sc.names,y.2≠.free
theorem bindL_out {kindOf:Str→Option NameKind} {x:Str}:∀ {binds:List (Str × Value)} {m:Str→Option Value},(∀ v,(x,v) ∉ binds)→bindL kindOf binds m x=m x
  | [],_,_=>rfl
  | (n,v) :: r,m,h=>by
    unfold bindL
    rw [bindL_out fun w hw=>h w (List.mem_cons_of_mem _ hw)]
    split
    · have:x≠n:=by rintro rfl;exact h v List.mem_cons_self
      simp [this]
    · rfl
theorem bindC_out {kindOf:Str→Option NameKind} {x:Str}:∀ {binds:List (Str × Value)} {m:Str→Option Value},(∀ v,(x,v) ∉ binds)→bindC kindOf binds m x=m x
  | [],_,_=>rfl
  | (n,v) :: r,m,h=>by
    unfold bindC
    rw [bindC_out fun w hw=>h w (List.mem_cons_of_mem _ hw)]
    split
    · rfl
    · have:x≠n:=by rintro rfl;exact h v List.mem_cons_self
      simp [this]
theorem bindL_get {kindOf:Str→Option NameKind} {x:Str} {v:Value}:∀ {P:List Str} {vs:List Value} {i:Nat} {m:Str→Option Value},P.Nodup→P[i]?=some x→vs[i]?=some v→kindOf x=some .local →
    bindL kindOf (P.zip vs) m x=some v
  | [],_,_,_,_,h,_,_=>by simp at h
  | _ :: _,[],_,_,_,_,h,_=>by simp at h
  | p :: P,w :: vs,0,m,nd,h1,h2,hk=>by
    simp at h1 h2;subst h1;subst h2
    show bindL kindOf ((p,w) :: P.zip vs) m p=_
    unfold bindL
    rw [bindL_out fun v hv=>(List.nodup_cons.mp nd).1 (List.of_mem_zip hv).1,if_pos hk]
    simp
  | p :: P,w :: vs,i + 1,m,nd,h1,h2,hk=>by
    show bindL kindOf ((p,w) :: P.zip vs) m x=_
    unfold bindL
    exact bindL_get (i:=i) (List.nodup_cons.mp nd).2 (by simpa using h1) (by simpa using h2) hk
theorem bindC_get {kindOf:Str→Option NameKind} {x:Str} {v:Value}:∀ {P:List Str} {vs:List Value} {i:Nat} {m:Str→Option Value},P.Nodup→P[i]?=some x→vs[i]?=some v→kindOf x≠some .local →
    bindC kindOf (P.zip vs) m x=some v
  | [],_,_,_,_,h,_,_=>by simp at h
  | _ :: _,[],_,_,_,_,h,_=>by simp at h
  | p :: P,w :: vs,0,m,nd,h1,h2,hk=>by
    simp at h1 h2;subst h1;subst h2
    show bindC kindOf ((p,w) :: P.zip vs) m p=_
    unfold bindC
    rw [bindC_out fun v hv=>(List.nodup_cons.mp nd).1 (List.of_mem_zip hv).1,if_neg hk]
    simp
  | p :: P,w :: vs,i + 1,m,nd,h1,h2,hk=>by
    show bindC kindOf ((p,w) :: P.zip vs) m x=_
    unfold bindC
    exact bindC_get (i:=i) (List.nodup_cons.mp nd).2 (by simpa using h1) (by simpa using h2) hk
def start (N:List Str) (vs:List V):St:=vs.map some ++ List.replicate (N.length - vs.length) none
def cxOf (CX:CXT) (P:Program) (w:World) (K:PySem.W.Frag) (mg:Str→Option Value) (base:Heap) (N:List Str) (qual:Str) (scope:Scope) (f:Addr) (cd:Value) (A:Around) (outer:List Env) (s:Shared) (H:Hp) (E:XK):Cx where
  prog:=P
  w:=w
  K:=K
  mg:=mg
  base:=base
  A:=A.deeper (envOfC qual scope s.heap.objs.size f cd)
  N:=N
  s₀:=s
  H₀:=H
  env:=envOfC qual scope s.heap.objs.size f cd
  outer:=outer
  stack:=envOfC qual scope s.heap.objs.size f cd :: outer
  ex:=[]
  calm:=true
  fn:=fun _=>true
  pn:=[]
  xe:=fun e s'=>wpAny (model P w) (A.deeper (envOfC qual scope s.heap.objs.size f cd)) (leaving (envOfC qual scope s.heap.objs.size f cd) e) (fun _ s''=>CX outer H s E e s'') (fun e' s''=>CX outer H s E e' s'') s'
theorem cell_has {sc:Scope} {n:Nat} {x:Str} (h:sc.names.lookup x=some .cell):∃ c,(cellsFrom n sc.names []).lookup x=some c:=by
  have q:=PySem.W.cellsFrom_some sc.names n [] (.inl h)
  exact Option.isSome_iff_exists.mp q
theorem inv_start {CX:CXT} {P:Program} {w:World} {K:PySem.W.Frag} {mg:Str→Option Value} {base:Heap} {N ps:List Str} {qual:Str} {scope:Scope} {f:Addr} {cd:Value} {A:Around} {outer:List Env} {s s1:Shared} {H:Hp} {E:XK} {us:List Value} {vs:List V}
    (S:FnScope N ps scope) (hd:A.handled=none) (e0:Env0 P w K mg base A outer s H) (hl:vs.length=ps.length) (r:Vals vs us)
    (x:InCallC s s.heap.objs.size (bindL (envOfC qual scope s.heap.objs.size f cd).kindOf (ps.zip us) fun _=>none) (cellsFrom (s.heap.objs.size + 1) scope.names []) (bindC (envOfC qual scope s.heap.objs.size f cd).kindOf (ps.zip us) fun _=>none) s1) :
    Inv (cxOf CX P w K mg base N qual scope f cd A outer s H E) [] (start N vs) H s1:=by
  have hpl:ps.length≤N.length:=by have:=congrArg List.length S.pre;rw [List.length_take] at this;omega
  obtain ⟨h1,tk,rfl,hk⟩:=x.done
  have noA:∀ b:Addr,b ∉ (cxOf CX P w K mg base N qual scope f cd A outer s H E).ex:=fun b z=>absurd (show b∈([]:List Addr) from z) (by simp)
  refine ⟨⟨e0.mod,S.kind,rfl,rfl,Nat.le_refl _,fun y z c h1 h2=>?_,fun y hy=>?_,fun y c _ h=>?_,fun _=>hd,Around.frames_deeper e0.frames,.inr ⟨rfl,rfl⟩,fun b z=>absurd z (noA b),e0.bs,e0.bsz,fun b _ _=>noA b,fun b z=>absurd z (noA b),e0.funs,e0.frf⟩,
    rfl,e0.bare,Un.kept hk,⟨_,x.toInCall.ns,fun i y v h1 h2 h3=>?_⟩,fun y c h=>⟨_,x.cell y c h⟩,e0.hok.fresh (Nat.le_refl _),fun y c h=>?_,fun p hp=>absurd (show p∈([]:List (Addr × Obj)) from hp) (by simp),e0.hok.kept hk,?_⟩
  · exact name_of_addr x.apart (PySem.mem_of_lookup h1) (PySem.mem_of_lookup h2)
  · have hy:scope.names.lookup y=some .cell∨scope.names.lookup y=some .free:=hy
    rcases hy with hy | hy
    · exact cell_has hy
    · exact absurd rfl (S.nofree _ (PySem.mem_of_lookup hy))
  · exact Nat.le_of_lt (x.above y c (PySem.mem_of_lookup h))
  · have hi:i < vs.length:=by
      unfold start at h2
      by_cases hi:i < vs.length
      · exact hi
      · rw [List.getElem?_append_right (by simpa using hi)] at h2
        rw [List.getElem?_replicate] at h2
        split at h2 <;> cases h2
    have ha:vs[i]?=some v:=by
      unfold start at h2
      rw [List.getElem?_append_left (by simpa using hi),List.getElem?_map] at h2
      cases e:vs[i]? with
      | none=>rw [e] at h2;cases h2
      | some a=>rw [e] at h2;cases h2;rfl
    obtain ⟨u,hu,rv⟩:=r.get ha
    have hp:ps[i]?=some y:=by
      rw [← S.pre,List.getElem?_take_of_lt (by omega)];exact h1
    have ndP:ps.Nodup:=by rw [← S.pre];exact S.nd.sublist (List.take_sublist _ _)
    refine ⟨u,rv,?_⟩
    rcases S.par y (List.mem_of_getElem? hp) with k | k
    · exact .inl ⟨k,bindL_get ndP hp hu k⟩
    · obtain ⟨c,e⟩:=cell_has (n:=s.heap.objs.size + 1) k
      refine .inr ⟨.inl k,c,e,?_⟩
      have q:=x.cell y c e
      rw [bindC_get ndP hp hu (by show scope.names.lookup y≠_;rw [k];decide)] at q
      exact q
  · exact e0.hok.fresh (Nat.le_of_lt (x.above y c (PySem.mem_of_lookup h)))
  · unfold start
    show _=N.length
    rw [List.length_append,List.length_map,List.length_replicate]
    omega
theorem fn_of {CX:CXT} {P:Program} {w:World} {K:PySem.W.Frag} {mg:Str→Option Value} {base:Heap} {k:Nat} {f:Addr} {name qual:Str} {params:Arguments} {body:List Stmt} {scope:Scope} {dV kV doc pm cdv ct oc:Value} {an od:Option Addr}
    {osl:Array (Option Value)} {N ps:List Str} {sp:Sp} (lk:K.lookup f=some ⟨oc,od,.func (PySem.W.fnOf name qual params body scope dV kV doc pm an cdv ct),osl⟩) (hcd:PySem.W.codeIn K cdv qual=true) (S:FnScope N ps scope)
    (len:∀ vs H Q E,sp vs H Q E→vs.length=ps.length)
    (hbody:∀ (A:Around) (outer:List Env) (s:Shared) (H:Hp) (vs:List V) (Q:VK) (E:XK),Room k (A.deeper (envOfC qual scope s.heap.objs.size f cdv))→sp vs H Q E →
      ∃ t,PSs (cxOf CX P w K mg base N qual scope f cdv A outer s H E) body t∧t { nx:=fun _ H'=>Q .non H',rt:=Q } (start N vs) H) :
    FnOk P w K mg base CX (k + 1) f (PySem.W.fnOf name qual params body scope dV kV doc pm an cdv ct) ps sp:=by
  refine ⟨len,fun A outer s H args us vs Q E hr e0 hb r hsp=>?_⟩
  have hl:=len _ _ _ _ hsp
  have KX:K.In s.heap:=e0.mod.kin.keeps fun b o e=>(e0.bs b o e).1
  have lim:s.heap.NoLimit:=e0.mod.nolimit.keeps fun b o e=>(e0.bs b o e).1
  have hkind:∀ y∈ps.zip us,scope.names.lookup y.1=some .local∨(scope.names.lookup y.1=some .cell∧((cellsFrom (s.heap.objs.size + 1) scope.names []).lookup y.1).isSome=true):=fun ⟨n,v⟩ hy=>by
    rcases S.par n (List.of_mem_zip hy).1 with q | q
    · exact .inl q
    · exact .inr ⟨q,PySem.W.cellsFrom_some _ _ _ (.inl q)⟩
  refine codeAny_call_function hr.depth (KX _ _ lk) rfl S.co S.gen rfl (PySem.W.codeRec_of KX hcd) (hb _ _ _ _ ?_)
  refine wpAny_newFunctionEnv_cells S.kind hkind fun env he s1 x=>?_
  subst he
  refine ⟨lim.keeps x.toInCall.keep,codeAny_func ?_⟩
  obtain ⟨t,ht,hq⟩:=hbody A outer s H vs Q E (hr.deeper _) hsp
  have I:Inv (cxOf CX P w K mg base N qual scope f cdv A outer s H E) [] (start N vs) H s1:=inv_start S hr.hd e0 hl r x
  refine wpAny_mono (ht [] s1 (start N vs) H _ I hq) (fun fl s' hs=>?_) fun e s' hs=>hs
  have fin:∀ {σ':St} {H':Hp} {v:V} {u:Value},Inv (cxOf CX P w K mg base N qual scope f cdv A outer s H E) [] σ' H' s'→RelV v u→Q v H'→CE outer P w H s Q u s' :=
    fun {σ' H' v u} J rv q=>⟨v,H',J.os,J.bare,J.base,J.hok,rv,q⟩
  cases fl with
  | ret u =>
    obtain ⟨v,σ',H',J,rv,q⟩:=hs
    exact fin J rv q
  | next =>
    obtain ⟨σ',H',J,q⟩:=hs
    exact fin (v:=V.non) (u:=Value.none) J rfl q
  | brk =>
    obtain ⟨_,_,_,q⟩:=hs
    exact False.elim q
  | cont =>
    obtain ⟨_,_,_,q⟩:=hs
    exact False.elim q
end L2
namespace L2
open PySem PySem.Spec PyProof.Rows
section
variable {X:Cx} {x:Str} {p pos:Pos} {e:Expr} {es:List Expr} {t:TA} {id T:String} {r:List V→Hp→VK→Prop}
def tCB (r:List V→Hp→VK→Prop) (t:TA):TE:=fun σ H Q=>t σ H fun vs H1=>r vs H1 Q
theorem pe_callB (hc:CallR X (.builtin id) r) (hg:Gl X x) (hm:X.mg x=none) (hv:bootBuiltins x=some (.builtin id)) (ha:PA X (e :: es) t) (hn:x≠"__name__":=by decide) (hdb:(x == ("__debug__":Str))=false:=by decide)
    (he:starEach (e :: es) X.env=(false,eval e X.env) :: starEach es X.env:=by rfl) (hpl:(backTo pos (starEach es X.env)).any (·.1)=false:=by rfl):PE X (.Call (.Name x p) (e :: es) [] pos) (tCB r t):=by
  intro pins s σ H Q I h
  refine wpAny_Call_Name_kw (ld_blt I hg hm hv ?_ hn hdb)
  exact PyProof.Rows.callWith_builtin1 (thn (ha pos pins s σ H _ I h) fun us s1 ⟨vs,H1,I1,r1,q1⟩=>hc pins s1 σ H1 vs us Q I1 r1 q1) he hpl
theorem pe_callTy (hc:CallR X (.type T) r) (hg:Gl X x) (hm:X.mg x=none) (hv:bootBuiltins x=some (.type T)) (ha:PA X (e :: es) t) (hn:x≠"__name__":=by decide) (hdb:(x == ("__debug__":Str))=false:=by decide)
    (he:starEach (e :: es) X.env=(false,eval e X.env) :: starEach es X.env:=by rfl) (hpl:(backTo pos (starEach es X.env)).any (·.1)=false:=by rfl):PE X (.Call (.Name x p) (e :: es) [] pos) (tCB r t):=by
  intro pins s σ H Q I h
  refine wpAny_Call_Name_kw (ld_blt I hg hm hv ?_ hn hdb)
  exact PyProof.Rows.callWith_type1 (thn (ha pos pins s σ H _ I h) fun us s1 ⟨vs,H1,I1,r1,q1⟩=>hc pins s1 σ H1 vs us Q I1 r1 q1) he hpl
end
end L2
namespace HT
open PySem PyProof.Rows
def lexLt:List Int→List Int→Bool
  | [],[]=>false
  | [],_ :: _=>true
  | _ :: _,[]=>false
  | x :: xs,y :: ys=>if x=y then lexLt xs ys else decide (x < y)
theorem rcLt_int (A:Around) (s:Shared) (a:Int) (t:Tok) (c:Int) (u:Tok) (prog:Program) (w:World) (E:Value→Shared→Prop) (Q:Value→Shared→Prop) (h:Q (.bool (decide (a < c))) s) :
    wpAny (model prog w) A (richCompare .Lt (.int a t) (.int c u)) Q E s :=
  (PyProof.Rows.lt_int h:wpAny (model prog w) A (compareOp .Lt (.int a t) (.int c u)) Q E s)
section
open PySem.SeqAt
open PySem.AutoSeq1 (wpAny_loadPart')
open PySem.MeetsSeq PySem.MeetsSeq2 PySem.MeetsSeq3
end
section
variable {prog:Program} {w:World} {A:Around} {E:Value→Shared→Prop} {s:Shared}
def sIx (n d:Nat):Option Int→Nat
  | none=>d
  | some v=>if v < 0 then (v + (n:Int)).toNat else min v.toNat n
theorem sIx_none (n d:Nat):sIx n d none=d:=rfl
theorem sIx_nat (n d k:Nat):sIx n d (some (k:Int))=min k n:=by
  show (if (k:Int) < 0 then ((k:Int) + (n:Int)).toNat else min (k:Int).toNat n)=min k n
  rw [if_neg (by omega),Int.toNat_natCast]
theorem sIx_le (n d:Nat) (hd:d≤n) (o:Option Int):sIx n d o≤n:=by
  cases o with
  | none=>exact hd
  | some v =>
    show (if v < 0 then (v + (n:Int)).toNat else min v.toNat n)≤n
    by_cases hv:v < 0
    · rw [if_pos hv];omega
    · rw [if_neg hv];exact Nat.min_le_right _ _
end
end HT
namespace L2
open PySem PySem.Spec PyProof.Rows
abbrev TO:=St→Hp→(Option Int→Hp→Prop)→Prop
def PO (X:Cx) (e:Option Expr) (t:TO):Prop :=
  ∀ (pins:List (Addr × Obj)) (s:Shared) (σ:St) (H:Hp) (Q:Option Int→Hp→Prop),Inv X pins σ H s→t σ H Q →
    wpAny (model X.prog X.w) X.A (evalPart e X.env) (fun u s'=>∃ o H',Inv X pins σ H' s'∧IsPart u o∧Q o H') X.xe s
def tNoPart:TO:=fun _ H Q=>Q none H
def tPart (t:TE):TO:=fun σ H Q=>t σ H fun x H1=>∃ i,x=.int i∧Q (some i) H1
section
variable {X:Cx} {e:Expr} {te:TE} {lo hi:Option Expr} {tl th:TO} {pos p2:Pos}
theorem po_none:PO X none tNoPart:=by
  intro pins s σ H Q I h
  rw [evalPart_none]
  exact wpAny_pure ⟨none,H,I,.none,h⟩
theorem po_some (h:PE X e te):PO X (some e) (tPart te):=by
  intro pins s σ H Q I hw
  rw [evalPart_some]
  refine thn (h pins s σ H _ I hw) fun u s1 ⟨x,H1,I1,r1,q1⟩=>?_
  obtain ⟨i,rfl,q⟩:=q1
  obtain ⟨t,rfl⟩:=r1
  exact ⟨some i,H1,I1,.int i t,q⟩
def SlR (X:Cx) (r:V→Option Int→Option Int→Hp→VK→Prop):Prop :=
  ∀ (pins:List (Addr × Obj)) (s:Shared) (σ:St) (H:Hp) (x:V) (v vl vu:Value) (lo hi:Option Int) (sl:Addr) (Q:VK),Inv X pins σ H s→RelV x v→s.heap.IsSliceOf sl vl vu .none→IsPart vl lo→IsPart vu hi→r x lo hi H Q →
    ∃ T id,typeLookup (.type T) "__getitem__"=pure (some (.builtin id))∧s.TypeIs v T∧wpAny (model X.prog X.w) X.A (getItem v (.ref sl)) (EP X pins σ Q) X.xe s
def tSl (r:V→Option Int→Option Int→Hp→VK→Prop) (te:TE) (tl th:TO):TE:=fun σ H Q=>te σ H fun x H1=>tl σ H1 fun l H2=>th σ H2 fun u H3=>r x l u H3 Q
theorem pe_slice {r:V→Option Int→Option Int→Hp→VK→Prop} (hr:SlR X r) (he:PE X e te) (hl:PO X lo tl) (hu:PO X hi th):PE X (.Subscript e (.Slice lo hi none p2) pos) (tSl r te tl th):=by
  intro pins s σ H Q I h
  refine Subscript_ (thn (he pins s σ H _ I h) fun v s1 ⟨x,H1,I1,r1,q1⟩=>?_)
  refine wpAny_Slice (thn (hl pins s1 σ H1 _ I1 q1) fun vl s2 ⟨l,H2,I2,pl,q2⟩=>thn (hu pins s2 σ H2 _ I2 q2) fun vu s3 ⟨u,H3,I3,pu,q3⟩=>?_)
  rw [evalPart_none]
  refine wpAny_pure ?_
  have I4:Inv X pins σ H3 { s3 with heap:=s3.heap.push { cls:=.type "slice",data:=.fields #[vl,vu,.none] } }:=I3.kept (t':=s3.toks) fun b ob q=>Heap.get?_push_of_some _ q
  obtain ⟨T,id,hT,ht,hg⟩:=hr pins { s3 with heap:=s3.heap.push { cls:=.type "slice",data:=.fields #[vl,vu,.none] } } σ H3 x v vl vu l u s3.heap.objs.size Q I4 r1 (Heap.IsSliceOf.new ..) pl pu q3
  show wpAny (model X.prog X.w) X.A (subscriptTail e (.Slice lo hi none p2) v (.ref s3.heap.objs.size)) (EP X pins σ Q) X.xe { s3 with heap:=s3.heap.push { cls:=.type "slice",data:=.fields #[vl,vu,.none] } }
  exact tail_any (ops:=[.ref s3.heap.objs.size,v]) ht hT hg (by with_unfolding_all rfl)
def cutV (xs:List V) (lo hi:Option Int):List V:=(xs.drop (HT.sIx xs.length 0 lo)).take (HT.sIx xs.length xs.length hi - HT.sIx xs.length 0 lo)
theorem cutV_length (xs:List V) (lo hi:Option Int):(cutV xs lo hi).length≤xs.length:=by
  unfold cutV
  rw [List.length_take,List.length_drop]
  omega
def rCatT (K:PySem.W.Frag):R2:=fun x y H Q=>∃ a b xs ys,x=.ref a∧y=.ref b∧SqT K H a xs∧SqT K H b ys∧xs≠[]∧xs.length + ys.length≤sizeLine ∧
  (ys=[]→Q (.ref a) H)∧(ys≠[]→∀ p,H p=none→Q (.ref p) (upd H p (.tup (xs ++ ys))))
end
end L2
namespace L2
open PySem PySem.Spec PyProof.Rows
def ixN (n:Nat) (i:Int):Option Nat:=if 0≤i then (if i < n then some i.toNat else none) else if -(n:Int)≤i then some (i + n).toNat else none
def atI {α:Type} (xs:List α) (i:Int):Option α:=(ixN xs.length i).bind fun j=>xs[j]?
theorem ixN_seq {n:Nat} {i:Int} {j:Nat} (h:ixN n i=some j):seqIndex? i n=some j∧j < n∧-(n:Int)≤i∧i < n:=by
  unfold ixN at h
  by_cases h0:0≤i
  · rw [if_pos h0] at h
    by_cases h1:i < n
    · rw [if_pos h1] at h
      have e:i.toNat=j:=Option.some.inj h
      exact ⟨by rw [seqIndex_of h0 h1,e],by omega,by omega,h1⟩
    · rw [if_neg h1] at h;cases h
  · rw [if_neg h0] at h
    by_cases h1:-(n:Int)≤i
    · rw [if_pos h1] at h
      have e:(i + n).toNat=j:=Option.some.inj h
      exact ⟨by rw [seqIndex_neg (by omega) h1,e],by omega,h1,by omega⟩
    · rw [if_neg h1] at h;cases h
theorem atI_get {α:Type} {xs:List α} {i:Int} {v:α} (h:atI xs i=some v):∃ j,seqIndex? i xs.length=some j∧xs[j]?=some v∧j < xs.length∧-(xs.length:Int)≤i∧i < xs.length:=by
  unfold atI at h
  cases e:ixN xs.length i with
  | none=>rw [e] at h;cases h
  | some j =>
    rw [e] at h
    obtain ⟨h1,h2,h3,h4⟩:=ixN_seq e
    exact ⟨j,h1,h,h2,h3,h4⟩
theorem atI_nat {α:Type} {xs:List α} {j:Nat} {v:α} (h:xs[j]?=some v):atI xs (j:Int)=some v:=by
  have hj:j < xs.length:=(List.getElem?_eq_some_iff.mp h).1
  have e:ixN xs.length (j:Int)=some j:=by
    unfold ixN
    rw [if_pos (by omega),if_pos (by omega)];simp
  unfold atI;rw [e];exact h
def PlainIx (b:Expr):Prop:=∀ o i,subscripted b false o i=operate [o,i] (getItem o i)
def IxR (X:Cx) (r:R2):Prop :=
  ∀ (value slice:Expr) (pins:List (Addr × Obj)) (s:Shared) (σ:St) (H:Hp) (x y:V) (v u:Value) (Q:VK),Inv X pins σ H s→RelV x v→RelV y u→r x y H Q →
    subscripted slice false v u=operate [v,u] (getItem v u)→wpAny (model X.prog X.w) X.A (subscriptTail value slice v u) (EP X pins σ Q) X.xe s
def MtR (X:Cx) (id:String) (r:V→List V→Hp→VK→Prop):Prop :=
  ∀ (pins:List (Addr × Obj)) (s:Shared) (σ:St) (H:Hp) (x:V) (xs:List V) (v:Value) (us:List Value) (Q:VK),Inv X pins σ H s→RelV x v→Vals xs us→r x xs H Q →
    wpAny (model X.prog X.w) X.A (call (.builtin id) (v :: us)) (EP X pins σ Q) X.xe s
section
variable {X:Cx} {a b:Expr} {ta tb:TE} {pos:Pos}
theorem pe_ix {r:R2} (hr:IxR X r) (ha:PE X a ta) (hb:PE X b tb) (hs:PlainIx b):PE X (.Subscript a b pos) (tOp r ta tb):=by
  intro pins s σ H Q I h
  exact Subscript_ (binT ha hb I h fun v u s2 x y H2 I2 rx ry q=>hr a b pins s2 σ H2 x y v u Q I2 rx ry q (hs _ _))
def rIxL (K:PySem.W.Frag):R2:=fun x y H Q=>∃ p xs i v,x=.ref p∧y=.int i∧SqL K H p xs∧atI xs i=some v∧Q v H
def rIxT (K:PySem.W.Frag):R2:=fun x y H Q=>∃ p xs i v,x=.ref p∧y=.int i∧SqT K H p xs∧atI xs i=some v∧Q v H
def rIxS:R2:=fun x y H Q=>∃ z i c,x=.str z∧y=.int i∧z.length≤sizeLine∧atI z.cps.toList i=some c∧Q (.str ⟨#[c]⟩) H
theorem ix_list:IxR X (rIxL X.K):=by
  intro value slice pins s σ H x y v u Q I rx ry h hs
  obtain ⟨p,xs,i,z,rfl,rfl,hq,he,q⟩:=h
  cases rx
  obtain ⟨t,rfl⟩:=ry
  obtain ⟨its,r,pl,hz⟩:=I.list hq
  obtain ⟨j,h1,h2,h3,h4,h5⟩:=atI_get he
  obtain ⟨w,ew,rw'⟩:=r.get h2
  have hl:=r.length
  have hn:=line63
  have fin:EP X pins σ Q w s:=⟨z,H,I,rw',q⟩
  by_cases h0:0≤i
  · have hj:i.toNat=j:=by
      rw [seqIndex_of h0 h5] at h1
      exact Option.some.inj h1
    exact item_listR pl.isList h0 (by omega) (by rw [hj];simpa using ew) fin hs
  · have hj:(i + (its.toArray.size:Int)).toNat=j:=by
      rw [seqIndex_neg (by omega) h4] at h1
      rw [List.size_toArray,← hl]
      exact Option.some.inj h1
    exact subscriptTail_builtinR (x:=w) pl.isList.typeIs slot_list_getitem.lookup
      (wpAny_getItem_list_neg (Q:=fun r s'=>r=w∧EP X pins σ Q r s') pl.isList (by omega) (by rw [List.size_toArray] <;> omega) (by omega) (by rw [hj];simpa using ew) ⟨rfl,fin⟩) hs
theorem ix_tup:IxR X (rIxT X.K):=by
  intro value slice pins s σ H x y v u Q I rx ry h hs
  obtain ⟨p,xs,i,z,rfl,rfl,hq,he,q⟩:=h
  cases rx
  obtain ⟨t,rfl⟩:=ry
  obtain ⟨its,r,pl,hz⟩:=I.tuple hq
  obtain ⟨j,h1,h2,h3,h4,h5⟩:=atI_get he
  obtain ⟨w,ew,rw'⟩:=r.get h2
  have hl:=r.length
  have hn:=line63
  have fin:EP X pins σ Q w s:=⟨z,H,I,rw',q⟩
  exact subscriptTail_builtinR (x:=w) pl.typeIs slot_tuple_getitem.lookup
    (getItem_tuple (j:=j) (Q:=fun r s'=>r=w∧EP X pins σ Q r s') pl (by omega) (by omega) (by rw [List.size_toArray,← hl];exact h1) (by simpa using ew) ⟨rfl,fin⟩) hs
theorem ix_str:IxR X rIxS:=by
  intro value slice pins s σ H x y v u Q I rx ry h hs
  obtain ⟨z,i,c,rfl,rfl,hz,he,q⟩:=h
  obtain ⟨t,rfl⟩:=rx
  obtain ⟨t',rfl⟩:=ry
  obtain ⟨j,h1,h2,h3,h4,h5⟩:=atI_get he
  have hl:z.cps.toList.length=z.length:=by simp [Str.length]
  rw [hl] at h1 h4 h5
  have hn:=line63
  exact tail_any (typeIs_str s z t) slot_str_getitem.lookup (getItem_str (c:=c) (by
    have e1:decide (i < -(2 ^ 63:Int))=false:=decide_eq_false (by omega)
    have e2:decide (i ≥ 2 ^ 63)=false:=decide_eq_false (by omega)
    rw [e1,e2,Bool.or_false]) (by rw [h1];simpa using h2) ⟨.str ⟨#[c]⟩,H,I.tok _,⟨_,rfl⟩,q⟩) hs
theorem slice_bounds (lo hi:Option Int) (n:Nat):(sliceBounds lo hi none n).1=((HT.sIx n 0 lo:Nat):Int)∧(sliceBounds lo hi none n).2.1=((HT.sIx n n hi:Nat):Int)∧(sliceBounds lo hi none n).2.2=1:=by
  refine ⟨?_,?_,rfl⟩
  · cases lo with
    | none=>simp [sliceBounds,HT.sIx]
    | some i =>
      simp only [sliceBounds,HT.sIx,Option.getD_none,show (1:Int) > 0 by decide,if_true]
      by_cases h:i < 0
      · simp only [h,if_true] <;> omega
      · simp only [h,if_false] <;> omega
  · cases hi with
    | none=>simp [sliceBounds,HT.sIx]
    | some i =>
      simp only [sliceBounds,HT.sIx,Option.getD_none,show (1:Int) > 0 by decide,if_true]
      by_cases h:i < 0
      · simp only [h,if_true] <;> omega
      · simp only [h,if_false] <;> omega
theorem slicePick_cut (its:List Value) (lo hi:Option Int):slicePick its.toArray lo hi none=((its.drop (HT.sIx its.length 0 lo)).take (HT.sIx its.length its.length hi - HT.sIx its.length 0 lo)).toArray:=by
  obtain ⟨h1,h2,h3⟩:=slice_bounds lo hi its.toArray.size
  unfold slicePick
  rw [h1,h2,h3]
  simp only [sliceRange_one,pick_run,List.size_toArray] <;> rfl
def rSlL (K:PySem.W.Frag):V→Option Int→Option Int→Hp→VK→Prop:=fun x lo hi H Q=>∃ a xs,x=.ref a∧SqL K H a xs∧∀ p,H p=none→Q (.ref p) (upd H p (.lst (cutV xs lo hi)))
theorem sl_list:SlR X (rSlL X.K):=by
  intro pins s σ H x v vl vu lo hi sl Q I rx hs pl pu h
  obtain ⟨a,xs,rfl,hx,q⟩:=h
  cases rx
  obtain ⟨its,r,ht,hz⟩:=I.list hx
  have hlen:=r.length
  refine ⟨"list",_,slot_list_getitem.lookup,ht.isList.typeIs,?_⟩
  refine wpAny_getItem_list_slice ht.isList hs pl pu .none (by simp) ?_ (by rw [List.size_toArray] <;> omega)
  rw [slicePick_cut,← hlen]
  refine ⟨.ref s.heap.objs.size,_,I.laid (t':=s.toks) (o:=.lst (cutV xs lo hi)) (fun b ob q=>Heap.get?_push_of_some _ q) (Nat.le_refl _) ?_,rfl,q _ (I.hok.fresh (Nat.le_refl _))⟩
  exact ⟨Nat.le_trans (cutV_length xs lo hi) hz,_,0,(r.drop (HT.sIx xs.length 0 lo)).take (HT.sIx xs.length xs.length hi - HT.sIx xs.length 0 lo),Heap.get?_push_size _ rfl⟩
def flatV:V→Bool
  | .non=>true
  | .bl _=>true
  | .int _=>true
  | .str _=>true
  | _=>false
def eqV:V→V→Bool
  | .non,.non=>true
  | .bl a,.bl b=>a == b
  | .bl a,.int b=>(if a then 1 else 0) == b
  | .int a,.bl b=>a == (if b then 1 else 0)
  | .int a,.int b=>a == b
  | .str a,.str b=>a == b
  | _,_=>false
theorem eqAt_V {A:Around} {s:Shared} {y x:V} {u v:Value} (ry:RelV y u) (rx:RelV x v) (fy:flatV y=true) (fx:flatV x=true):SeqAt.EqAt A s u v (eqV y x):=by
  cases y with
  | non =>
    cases ry
    cases x with
    | non=>cases rx;exact SeqAt.EqAt.same _
    | bl b=>cases rx;exact SeqAt.EqAt.none_bool b
    | int b=>obtain ⟨t,rfl⟩:=rx;exact SeqAt.EqAt.none_int b t
    | str b=>obtain ⟨t,rfl⟩:=rx;exact SeqAt.EqAt.none_str b t
    | _=>exact absurd (show false=true from fx) Bool.false_ne_true
  | bl a =>
    cases ry
    cases x with
    | non=>cases rx;exact SeqAt.EqAt.bool_none a
    | bl b=>cases rx;exact SeqAt.EqAt.bool_bool a b
    | int b=>obtain ⟨t,rfl⟩:=rx;exact SeqAt.EqAt.bool_int a b t
    | str b=>obtain ⟨t,rfl⟩:=rx;exact SeqAt.EqAt.bool_str a b t
    | _=>exact absurd (show false=true from fx) Bool.false_ne_true
  | int a =>
    obtain ⟨t',rfl⟩:=ry
    cases x with
    | non=>cases rx;exact SeqAt.EqAt.int_none a t'
    | bl b=>cases rx;exact SeqAt.EqAt.int_bool a t' b
    | int b=>obtain ⟨t,rfl⟩:=rx;exact SeqAt.EqAt.int_int a t' b t
    | str b=>obtain ⟨t,rfl⟩:=rx;exact SeqAt.EqAt.int_str a t' b t
    | _=>exact absurd (show false=true from fx) Bool.false_ne_true
  | str a =>
    obtain ⟨t',rfl⟩:=ry
    cases x with
    | non=>cases rx;exact SeqAt.EqAt.str_none a t'
    | bl b=>cases rx;exact SeqAt.EqAt.str_bool a t' b
    | int b=>obtain ⟨t,rfl⟩:=rx;exact SeqAt.EqAt.str_int a t' b t
    | str b=>obtain ⟨t,rfl⟩:=rx;exact SeqAt.EqAt.str_str a t' b t
    | _=>exact absurd (show false=true from fx) Bool.false_ne_true
  | _=>exact absurd (show false=true from fy) Bool.false_ne_true
def eqU (x:V) (u:Value):Bool:=match u with
  | .none=>eqV .non x
  | .bool b=>eqV (.bl b) x
  | .int i _=>eqV (.int i) x
  | .str z _=>eqV (.str z) x
  | _=>false
theorem eqU_of {x y:V} {u:Value} (r:RelV y u) (f:flatV y=true):eqU x u=eqV y x:=by
  cases y with
  | non=>cases r;rfl
  | bl b=>cases r;rfl
  | int i=>obtain ⟨t,rfl⟩:=r;rfl
  | str z=>obtain ⟨t,rfl⟩:=r;rfl
  | _=>exact absurd (show false=true from f) Bool.false_ne_true
theorem any_eqU {x:V}:∀ {xs:List V} {us:List Value},Vals xs us→xs.all flatV=true→us.any (eqU x)=xs.any fun y=>eqV y x
  | _,_,.nil,_=>rfl
  | y :: xs,u :: us,.cons r t,f=>by
    rw [List.all_cons,Bool.and_eq_true] at f
    rw [List.any_cons,List.any_cons,eqU_of r f.1,any_eqU t f.2]
theorem mem_eqAt {A:Around} {s:Shared} {x:V} {v:Value} (rx:RelV x v) (fx:flatV x=true):∀ {xs:List V} {us:List Value},Vals xs us→xs.all flatV=true→∀ u∈us,SeqAt.EqAt A s u v (eqU x u)
  | _,_,.nil,_=>fun u hu=>by cases hu
  | y :: xs,u :: us,.cons r t,f=>fun u' hu=>by
    rw [List.all_cons,Bool.and_eq_true] at f
    rcases List.mem_cons.mp hu with rfl | hu
    · rw [eqU_of r f.1];exact eqAt_V r rx f.1 fx
    · exact mem_eqAt rx fx t f.2 u' hu
def inV (x:V) (xs:List V):Bool:=xs.any fun y=>eqV y x
def rIn (K:PySem.W.Frag) (neg:Bool):R2:=fun x y H Q=>∃ p xs,y=.ref p∧(SqL K H p xs∨SqT K H p xs)∧flatV x=true∧xs.all flatV=true∧Q (.bl (if neg then !inV x xs else inV x xs)) H
theorem op_in_seq:OpR X (compareOp .In) (rIn X.K false):=by
  intro pins s σ H x y v u Q I rx ry h
  obtain ⟨p,xs,rfl,hq,fx,fs,q⟩:=h
  cases ry
  rcases hq with hq | hq
  · obtain ⟨its,r,pl,hz⟩:=I.list hq
    refine SeqAt.in_listAt (eqU x) pl.isList (fun w hw=>mem_eqAt rx fx r fs w (by simpa using hw)) ⟨.bl _,H,I,rfl,?_⟩
    rw [show its.toArray.any (eqU x)=its.any (eqU x) by simp,any_eqU r fs]
    exact q
  · obtain ⟨its,r,pl,hz⟩:=I.tuple hq
    refine SeqAt.in_tupleAt (eqU x) pl (fun w hw=>mem_eqAt rx fx r fs w (by simpa using hw)) ⟨.bl _,H,I,rfl,?_⟩
    rw [show its.toArray.any (eqU x)=its.any (eqU x) by simp,any_eqU r fs]
    exact q
theorem call_list_of:CallR X (.type "list") (fun xs H Q=>∃ p ys,xs=[.ref p]∧(SqL X.K H p ys∨SqT X.K H p ys)∧∀ l,H l=none→Q (.ref l) (upd H l (.lst ys))):=by
  intro pins s σ H xs us Q I r h
  obtain ⟨p,ys,rfl,hq,q⟩:=h
  obtain ⟨u,rfl,rx⟩:=vals1 r
  cases rx
  have fin:∀ (its:List Value),Vals ys its→ys.length≤sizeLine→∀ (h':Heap) (c':Nat),(∀ b o',s.heap.get? b=some o'→h'.get? b=some o') →
      h'.get? s.heap.objs.size=some { cls:=.type "list",dict:=none,data:=.seq its.toArray c',slots:=#[] }→EP X pins σ Q (.ref s.heap.objs.size) { s with heap:=h' }:=fun its r' hz h' c' kp e =>
    ⟨.ref s.heap.objs.size,_,I.laid (t':=s.toks) kp (Nat.le_refl _) (show ObjOk X.prog X.w _ h' _ (.lst ys) from ⟨hz,its,c',r',e⟩),rfl,q _ (I.hok.fresh (Nat.le_refl _))⟩
  rcases hq with hq | hq
  · obtain ⟨its,r',pl,hz⟩:=I.list hq
    have hlen:=r'.length
    obtain ⟨o,ho,hc,n,hd⟩:=pl.isList
    exact call_list_seq p (.inl rfl) ho hc hd (fun h' c' kp e=>fin its r' hz h' c' kp e) (by simp only [List.size_toArray] <;> omega)
  · obtain ⟨its,r',pl,hz⟩:=I.tuple hq
    have hlen:=r'.length
    obtain ⟨o,ho,hc,n,hd⟩:=pl
    exact call_list_seq p (.inr rfl) ho hc hd (fun h' c' kp e=>fin its r' hz h' c' kp e) (by simp only [List.size_toArray] <;> omega)
theorem call_tuple_of:CallR X (.type "tuple") (fun xs H Q=>∃ p ys,xs=[.ref p]∧((SqL X.K H p ys∧∀ l,H l=none→Q (.ref l) (upd H l (.tup ys)))∨(SqT X.K H p ys∧Q (.ref p) H))):=by
  intro pins s σ H xs us Q I r h
  obtain ⟨p,ys,rfl,h⟩:=h
  obtain ⟨u,rfl,rx⟩:=vals1 r
  cases rx
  rcases h with ⟨hq,q⟩ | ⟨hq,q⟩
  · obtain ⟨its,r',pl,hz⟩:=I.list hq
    have hlen:=r'.length
    refine call_tuple_list pl.isList (fun h' kp=>?_) (by simp only [List.size_toArray] <;> omega)
    have I1:Inv X pins σ H { s with heap:=h' }:=I.kept (t':=s.toks) kp
    have I2:Inv X pins σ (upd H h'.objs.size (.tup ys)) { s with heap:=h'.push { cls:=.type "tuple",data:=.seq its.toArray } } :=
      I1.laid (t':=s.toks) (fun b o e=>Heap.get?_push_of_some _ e) (Nat.le_refl _) (show ObjOk X.prog X.w _ _ _ (.tup ys) from ⟨hz,its,r',IsTup.new _ _⟩)
    exact ⟨.ref h'.objs.size,_,I2,rfl,q _ (I1.hok.fresh (Nat.le_refl _))⟩
  · obtain ⟨its,r',pl,hz⟩:=I.tuple hq
    exact call_tuple_same pl ⟨.ref p,H,I,rfl,q⟩
def tyV (K:PySem.W.Frag) (T:String) (x:V) (H:Hp):Prop:=match x with
  | .str _=>T="str"
  | .int _=>T="int"
  | .ref p=>(T="list"∧∃ xs,SqL K H p xs)∨(T="tuple"∧∃ o,K.lookup p=some o∧o.cls=.type "tuple"∧o.dict=none) ∨
      (T="dict"∧((∃ kvs,H p=some (.dK kvs))∨∃ kvs,H p=some (.dT kvs)))∨(T="set"∧∃ S n,H p=some (.set S n))
  | _=>False
theorem tyV_is {pins:List (Addr × Obj)} {σ:St} {H:Hp} {s:Shared} {T:String} {x:V} {v:Value} (I:Inv X pins σ H s) (r:RelV x v) (ty:tyV X.K T x H) :
    s.TypeIs v T∧∀ a,v=.ref a→∃ ob,s.heap.get? a=some ob∧ob.dict=none:=by
  cases x with
  | str z =>
    obtain ⟨t,rfl⟩:=r
    cases (show T="str" from ty)
    exact ⟨typeIs_str s z t,fun _ e=>nomatch e⟩
  | int i =>
    obtain ⟨t,rfl⟩:=r
    cases (show T="int" from ty)
    exact ⟨typeIs_int s i t,fun _ e=>nomatch e⟩
  | ref p =>
    cases r
    rcases ty with ⟨rfl,xs,hq⟩ | ⟨rfl,o,hk,hc,hd⟩ | ⟨rfl,hk⟩ | ⟨rfl,S,n,hk⟩
    · obtain ⟨its,_,pl,_⟩:=I.list hq
      refine ⟨pl.isList.typeIs,fun a e=>?_⟩
      cases e
      obtain ⟨o,n,e,c,hd,_⟩:=pl
      exact ⟨o,e,hd⟩
    · refine ⟨⟨o,I.kIn p o hk,hc⟩,fun a e=>?_⟩
      cases e
      exact ⟨o,I.kIn _ o hk,hd⟩
    · have z:∃ o,s.heap.get? p=some o∧o.ExactDict:=by
        rcases hk with ⟨kvs,hk⟩ | ⟨kvs,hk⟩
        · obtain ⟨_,_,_,_,o,_,_,e,ex,_⟩:=I.hok p _ hk
          exact ⟨o,e,ex⟩
        · obtain ⟨_,_,_,_,o,_,_,e,ex,_⟩:=I.hok p _ hk
          exact ⟨o,e,ex⟩
      obtain ⟨o,e,ex⟩:=z
      refine ⟨⟨o,e,ex.1⟩,fun a e2=>?_⟩
      cases e2
      exact ⟨o,e,ex.2.1⟩
    · obtain ⟨o,_,_,_,e,ex,_⟩:=I.hok p _ hk
      refine ⟨⟨o,e,ex.1⟩,fun a e2=>?_⟩
      cases e2
      exact ⟨o,e,ex.2.1⟩
  | _=>exact False.elim ty
def tBM0 (K:PySem.W.Frag) (T:String) (r:V→List V→Hp→VK→Prop) (to:TE):TE:=fun σ H Q=>to σ H fun x H1=>tyV K T x H1∧r x [] H1 Q
def tBM (K:PySem.W.Frag) (T:String) (r:V→List V→Hp→VK→Prop) (to:TE) (t:TA):TE:=fun σ H Q=>to σ H fun x H1=>tyV K T x H1∧t σ H1 fun xs H2=>r x xs H2 Q
variable {o e:Expr} {es:List Expr} {to:TE} {t:TA} {name:Str} {apos cpos:Pos} {T id:String} {r:V→List V→Hp→VK→Prop}
theorem pe_bm0 (pa:PlainAttrs T) (slot:Slot T name id) (hty:typeOf (.builtin id)=pure (.type "method_descriptor")) (hm:MtR X id r) (ho:PE X o to)
    (hbase:attributeBase o name X.env (eval o X.env)=eval o X.env:=by rfl) (hline:(apos.endLine == cpos.line)=true:=by rfl):PE X (.Call (.Attribute o name apos) [] [] cpos) (tBM0 X.K T r to):=by
  intro pins s σ H Q I h
  refine wpAny_Call_method0_late hbase hline (thn (ho pins s σ H _ I h) fun v s1 ⟨x,H1,I1,r1,ty,q1⟩=>?_)
  obtain ⟨h1,h2⟩:=tyV_is I1 r1 ty
  exact ⟨T,id,pa,slot,hty,h1,h2,Calls.callWith_builtin rfl (PySem.evalArgs_none (hm pins s1 σ H1 x [] v [] Q I1 r1 .nil q1))⟩
theorem pe_bm (pa:PlainAttrs T) (slot:Slot T name id) (hty:typeOf (.builtin id)=pure (.type "method_descriptor")) (hm:MtR X id r) (ho:PE X o to) (ha:PA X (e :: es) t)
    (hbase:attributeBase o name X.env (eval o X.env)=eval o X.env:=by rfl)
    (hfew:((backTo cpos (starEach (e :: es) X.env)).all (fun x=>!x.1) && (backToKw cpos (keywordEach [] X.env)).all (fun x=>x.1.isSome)
      && decide ((e :: es).length + ([]:List Keyword).length + (if ([]:List Keyword).isEmpty then 0 else 1) < 30))=true:=by rfl)
    (hline:(apos.endLine == cpos.line)=true:=by rfl) (hs:starEach (e :: es) X.env=(false,eval e X.env) :: starEach es X.env:=by rfl) (hplain:(backTo cpos (starEach es X.env)).any (·.1)=false:=by rfl) :
    PE X (.Call (.Attribute o name apos) (e :: es) [] cpos) (tBM X.K T r to t):=by
  intro pins s σ H Q I h
  refine wpAny_Call_method_late hbase hfew hline rfl (thn (ho pins s σ H _ I h) fun v s1 ⟨x,H1,I1,r1,ty,q1⟩=>?_)
  obtain ⟨h1,h2⟩:=tyV_is I1 r1 ty
  refine ⟨T,id,pa,slot,hty,h1,h2,?_⟩
  have hA:=ha cpos pins s1 σ H1 _ I1 q1
  rw [hs] at hA ⊢
  refine Calls.callWith_builtin (by show (false || (backTo cpos (starEach es X.env)).any (·.1))=false;rw [hplain] <;> rfl) (Calls.evalArgs_plain ?_)
  exact thn hA fun us s2 ⟨vs,H2,I2,r2,q2⟩=>hm pins s2 σ H2 x vs v us Q I2 r1 r2 q2
end
end L2
namespace L2
open PySem PySem.Spec PyProof.Rows
def MtM (X:Cx) (id:String) (r:V→List V→Hp→VK→Prop):Prop :=
  ∀ (pins:List (Addr × Obj)) (s:Shared) (σ:St) (H:Hp) (x:V) (xs:List V) (v:Value) (us:List Value) (Q:VK),Inv X pins σ H s→RelV x v→Vals xs us→r x xs H Q →
    wpAny (model X.prog X.w) X.A (call (.builtin id) (v :: us)) (EP X pins σ Q) X.xe s
theorem Vals.one:∀ {x:V} {us:List Value},Vals [x] us→∃ u,us=[u]∧RelV x u
  | _,_,.cons r .nil=>⟨_,rfl,r⟩
theorem Vals.zero:∀ {us:List Value},Vals [] us→us=[]
  | _,.nil=>rfl
theorem Vals.dropLast {xs:List V} {us:List Value} (h:Vals xs us):Vals xs.dropLast us.dropLast:=by
  induction h with
  | nil=>exact .nil
  | cons r t ih =>
    cases t with
    | nil=>exact .nil
    | cons q t'=>exact .cons r ih
theorem erase_last {α:Type} (l:List α):l.eraseIdx (l.length - 1)=l.dropLast:=by
  induction l with
  | nil=>rfl
  | cons a r ih =>
    cases r with
    | nil=>rfl
    | cons b r =>
      have e:(a :: b :: r).length - 1=((b :: r).length - 1) + 1:=rfl
      rw [e,List.eraseIdx_cons_succ,ih]
      all_goals rfl
section
variable {X:Cx} {pins:List (Addr × Obj)} {σ:St} {H:Hp} {s:Shared} {l b:Addr} {xs ys zs:List V}
theorem Inv.lset {its its':List Value} {n:Nat} {f:Array Value→Array Value} {t':Nat} (I:Inv X pins σ H s) (hH:H l=some (.lst xs))
    (e:s.heap.get? l=some { cls:=.type "list",data:=.seq its.toArray n }) (hf:f its.toArray=its'.toArray) (hv:Vals ys its') (hz:ys.length≤sizeLine) :
    Inv X pins σ (upd H l (.lst ys)) { s with heap:=s.heap.update l (Obj.mapSeq f),toks:=t' }:=by
  have q:=PySem.IsL.update e f
  rw [hf] at q
  refine I.write (x:=l) (e:=l) (by rw [hH];exact trivial) (.inl rfl) (fun b' u hb hu=>(Heap.get?_update_other s.heap (Obj.mapSeq f) (Ne.symm hb)).trans hu) ⟨_,q⟩ ?_
  exact ⟨hz,its',_,hv,q⟩
theorem Inv.lnew {its:List Value} {t':Nat} (I:Inv X pins σ H s) (hv:Vals ys its) (hz:ys.length≤sizeLine) :
    Inv X pins σ (upd H s.heap.objs.size (.lst ys)) { s with heap:=s.heap.push { cls:=.type "list",data:=.seq its.toArray },toks:=t' } :=
  I.laid (fun _ _ q=>Heap.get?_push_of_some _ q) (Nat.le_refl _) ⟨hz,its,0,hv,Heap.get?_push_size _ rfl⟩
theorem Inv.fresh (I:Inv X pins σ H s):H s.heap.objs.size=none:=I.hok.fresh (Nat.le_refl _)
theorem Inv.lstM (I:Inv X pins σ H s) (hH:H l=some (.lst xs)):xs.length≤sizeLine∧∃ (its:List Value) (n:Nat),Vals xs its∧xs.length=its.length∧s.heap.get? l=some { cls:=.type "list",data:=.seq its.toArray n }:=by
  obtain ⟨z,its,n,r,e⟩:=I.hok l _ hH
  exact ⟨z,its,n,r,r.length,e⟩
theorem notLongL {n:Nat} (h:n≤sizeLine):Builtin.List.listTooLong n=false:=by
  unfold Builtin.List.listTooLong
  exact decide_eq_false (by omega)
end
section
variable {X:Cx}
def rAppend:V→List V→Hp→VK→Prop:=fun x vs H Q=>∃ l xs y,x=.ref l∧vs=[y]∧H l=some (.lst xs)∧xs.length < sizeLine∧Q .non (upd H l (.lst (xs ++ [y])))
theorem mt_append:MtM X "list.append" rAppend:=by
  intro pins s σ H x vs v us Q I rx rv h
  obtain ⟨l,xs,y,rfl,rfl,hH,hz,q⟩:=h
  cases rx
  obtain ⟨u,rfl,ru⟩:=rv.one
  obtain ⟨z,its,n,r,hl,e⟩:=I.lstM hH
  refine call_meets F.slot_list_append ⟨_,e,rfl⟩ F.entry_list_append (F.args_list_append_2 _ _) (PySem.list_append l its.toArray n u (by rw [List.size_toArray];omega)) ⟨e,?_⟩
  refine ⟨.non,_,I.lset (its':=its ++ [u]) hH e (by simp) (r.append (.cons ru .nil)) ?_,rfl,q⟩
  rw [List.length_append,List.length_singleton]
  omega
def rExtend:V→List V→Hp→VK→Prop:=fun x vs H Q=>∃ l b xs zs,x=.ref l∧vs=[.ref b]∧H l=some (.lst xs)∧H b=some (.lst zs)∧xs.length + zs.length≤sizeLine∧Q .non (upd H l (.lst (xs ++ zs)))
theorem mt_extend:MtM X "list.extend" rExtend:=by
  intro pins s σ H x vs v us Q I rx rv h
  obtain ⟨l,b,xs,zs,rfl,rfl,hH,hB,hz,q⟩:=h
  cases rx
  obtain ⟨u,rfl,ru⟩:=rv.one
  cases ru
  obtain ⟨z,its,n,r,hl,e⟩:=I.lstM hH
  obtain ⟨z2,its2,n2,r2,hl2,e2⟩:=I.lstM hB
  have hsz:its.toArray.size + its2.toArray.size≤sizeLine:=by rw [List.size_toArray,List.size_toArray];omega
  have hlong:¬ (!its.toArray.isEmpty && Builtin.List.listTooLong (its.toArray.size + its2.toArray.size))=true:=by
    rw [notLongL hsz,Bool.and_false]
    exact Bool.false_ne_true
  refine call_meets F.slot_list_extend ⟨_,e,rfl⟩ F.entry_list_extend (F.args_list_extend_2 _ _)
    (AutoSeq1.list_extend_list_list_0 l its.toArray n b its2.toArray n2 hlong (by rw [List.size_toArray];omega) (by omega)) ⟨e,e2,?_⟩
  refine ⟨.non,_,I.lset (its':=its ++ its2) hH e (by simp) (r.append r2) ?_,rfl,q⟩
  rw [List.length_append]
  omega
def rPop:V→List V→Hp→VK→Prop:=fun x vs H Q=>∃ l xs y,x=.ref l∧vs=[]∧H l=some (.lst xs)∧xs[xs.length - 1]?=some y∧Q y (upd H l (.lst xs.dropLast))
theorem mt_pop:MtM X "list.pop" rPop:=by
  intro pins s σ H x vs v us Q I rx rv h
  obtain ⟨l,xs,y,rfl,rfl,hH,hy,q⟩:=h
  cases rx
  have hus:=rv.zero
  subst hus
  obtain ⟨z,its,n,r,hl,e⟩:=I.lstM hH
  obtain ⟨u,hu,ru⟩:=r.get hy
  have hy':its.toArray[its.toArray.size - 1]?=some u:=by
    show its.toArray[its.length - 1]?=some u
    rw [← Array.getElem?_toList,← hl]
    exact hu
  refine call_meets F.slot_list_pop ⟨_,e,rfl⟩ F.entry_list_pop (F.args_list_pop_1 _) (MeetsSeq.list_pop_last l its.toArray n u hy' (by rw [List.size_toArray];omega)) ⟨e,?_⟩
  refine ⟨y,_,I.lset (its':=its.dropLast) hH e ?_ r.dropLast ?_,ru,q⟩
  · show its.toArray.eraseIdxIfInBounds (its.toArray.size - 1)=its.dropLast.toArray
    rw [List.size_toArray,List.eraseIdxIfInBounds_toArray,erase_last]
  · rw [List.length_dropLast]
    omega
def rClear:V→List V→Hp→VK→Prop:=fun x vs H Q=>∃ l xs,x=.ref l∧vs=[]∧H l=some (.lst xs)∧Q .non (upd H l (.lst []))
def rCat:R2:=fun x y H Q=>∃ l b xs zs,x=.ref l∧y=.ref b∧H l=some (.lst xs)∧H b=some (.lst zs)∧xs.length + zs.length≤sizeLine∧∀ p,H p=none→Q (.ref p) (upd H p (.lst (xs ++ zs)))
theorem op_cat:OpR X (binaryOp .Add) rCat:=by
  intro pins s σ H x y v u Q I rx ry h
  obtain ⟨l,b,xs,zs,rfl,rfl,hH,hB,hz,q⟩:=h
  cases rx
  cases ry
  obtain ⟨z,its,n,r,hl,e⟩:=I.lstM hH
  obtain ⟨z2,its2,n2,r2,hl2,e2⟩:=I.lstM hB
  refine PySem.P.add_list e e2 ?_ (by rw [List.size_toArray,List.size_toArray];omega)
  have ea:its.toArray ++ its2.toArray=(its ++ its2).toArray:=by simp
  rw [ea]
  exact ⟨.ref _,_,I.lnew (t':=s.toks) (r.append r2) (by rw [List.length_append];omega),rfl,q _ I.fresh⟩
def rRep:R2:=fun x y H Q=>∃ l k xs,x=.ref l∧y=.int k∧H l=some (.lst xs)∧-(2 ^ 63)≤k∧k < 2 ^ 63∧xs.length * k.toNat≤sizeLine ∧
  ∀ p,H p=none→Q (.ref p) (upd H p (.lst (List.replicate k.toNat xs).flatten))
end
section
variable {prog:Program} {w:World} {A:Around} {E:Value→Shared→Prop} {s:Shared}
set_option maxRecDepth 100000 in
end
section
variable {X:Cx}
end
end L2
namespace L2
open PySem PySem.Spec PyProof.Rows
section
variable {κ:Type} [DecidableEq κ]
def valV (kvs:List (κ × V)) (k:κ):Option V:=(kvs.find? fun kv=>decide (kv.1=k)).map (·.2)
def putK (kvs:List (κ × V)) (k:κ) (v:V):List (κ × V) :=
  if (kvs.any fun kv=>decide (kv.1=k))=true then kvs.map (fun kv=>if kv.1=k then (kv.1,v) else kv) else kvs ++ [(k,v)]
def dropK (kvs:List (κ × V)) (k:κ):List (κ × V):=kvs.filter fun kv=>decide (kv.1≠k)
theorem valV_nil {k:κ}:valV ([]:List (κ × V)) k=none:=rfl
theorem valV_pos {p:κ × V} {r:List (κ × V)} {k:κ} (e:p.1=k):valV (p :: r) k=some p.2:=by simp [valV,List.find?_cons,e]
theorem valV_neg {p:κ × V} {r:List (κ × V)} {k:κ} (e:¬ p.1=k):valV (p :: r) k=valV r k:=by simp [valV,List.find?_cons,e]
theorem valV_any (k:κ):∀ kvs:List (κ × V),(kvs.any fun kv=>decide (kv.1=k))=(valV kvs k).isSome
  | []=>rfl
  | p :: r=>by
    rw [List.any_cons]
    by_cases e:p.1=k
    · simp only [valV_pos e,decide_eq_true e,Bool.true_or,Option.isSome_some]
    · rw [valV_neg e,decide_eq_false e,Bool.false_or];exact valV_any k r
theorem valV_map (k j:κ) (y:V):∀ kvs:List (κ × V),valV (kvs.map fun kv=>if kv.1=k then (kv.1,y) else kv) j=(valV kvs j).map fun x=>if j=k then y else x
  | []=>rfl
  | p :: r=>by
    have ih:=valV_map k j y r
    rw [List.map_cons]
    by_cases h:p.1=k
    · rw [if_pos h]
      by_cases e:p.1=j
      · rw [valV_pos (p:=(p.1,y)) e,valV_pos e,Option.map_some,if_pos (e.symm.trans h)]
      · rw [valV_neg (p:=(p.1,y)) e,valV_neg e,ih]
    · rw [if_neg h]
      by_cases e:p.1=j
      · rw [valV_pos (p:=p) e,valV_pos e,Option.map_some,if_neg (fun z=>h (e.trans z))]
      · rw [valV_neg (p:=p) e,valV_neg e,ih]
theorem valV_snoc (k j:κ) (y:V):∀ kvs:List (κ × V),valV kvs k=none→valV (kvs ++ [(k,y)]) j=if j=k then some y else valV kvs j
  | [],_=>by
    by_cases e:k=j
    · rw [if_pos e.symm];exact valV_pos (p:=(k,y)) e
    · rw [if_neg (fun z=>e z.symm)];exact valV_neg (p:=(k,y)) e
  | p :: r,hn=>by
    rw [List.cons_append]
    have hk:¬ p.1=k:=fun z=>by rw [valV_pos z] at hn;cases hn
    rw [valV_neg hk] at hn
    have ih:=valV_snoc k j y r hn
    by_cases e:p.1=j
    · rw [valV_pos e,valV_pos e,if_neg (fun z=>hk (e.trans z))]
    · rw [valV_neg e,valV_neg e,ih]
theorem valV_put (kvs:List (κ × V)) (k j:κ) (y:V):valV (putK kvs k y) j=if j=k then some y else valV kvs j:=by
  unfold putK
  by_cases a:(kvs.any fun kv=>decide (kv.1=k))=true
  · rw [if_pos a,valV_map]
    rw [valV_any] at a
    by_cases e:j=k
    · obtain ⟨x,hx⟩:=Option.isSome_iff_exists.mp a
      rw [if_pos e,e,hx,Option.map_some,if_pos rfl]
    · rw [if_neg e]
      cases valV kvs j with
      | none=>rfl
      | some x=>rw [Option.map_some,if_neg e]
  · rw [if_neg a]
    refine valV_snoc k j y kvs ?_
    rw [valV_any] at a
    cases q:valV kvs k with
    | none=>rfl
    | some x=>rw [q] at a;exact (a rfl).elim
theorem length_putK (kvs:List (κ × V)) (k:κ) (v:V):(putK kvs k v).length≤kvs.length + 1:=by
  unfold putK
  split
  · rw [List.length_map];omega
  · rw [List.length_append,List.length_cons,List.length_nil];omega
theorem putK_new {kvs:List (κ × V)} {k:κ} (v:V) (h:valV kvs k=none):putK kvs k v=kvs ++ [(k,v)]:=by
  unfold putK
  rw [valV_any,h]
  exact if_neg (by decide)
theorem RelO.isSome_eq {o:Option V} {u:Option Value} (r:RelO o u):o.isSome=u.isSome:=by
  cases o with
  | none=>cases u with
    | none=>rfl
    | some _=>exact (show False from r).elim
  | some _=>cases u with
    | none=>exact (show False from r).elim
    | some _=>rfl
theorem RelO.getD {o:Option V} {u:Option Value} {d:V} {d':Value} (r:RelO o u) (rd:RelV d d'):RelV (o.getD d) (u.getD d'):=by
  cases o with
  | none=>cases u with
    | none=>exact rd
    | some _=>exact (show False from r).elim
  | some _=>cases u with
    | none=>exact (show False from r).elim
    | some _=>exact r
theorem KV.val {kvs:List (κ × V)} {vs:List (κ × Value)} (r:KV kvs vs) (k:κ):RelO (valV kvs k) (valueAt vs k):=by
  unfold KV at r
  induction r with
  | nil=>exact True.intro
  | @cons p q ps qs h t ih =>
    obtain ⟨h1,h2⟩:=h
    by_cases e:p.1=k
    · have e':q.1=k:=h1.symm.trans e
      have b:valueAt (q :: qs) k=some q.2:=by simp [valueAt,List.find?_cons,e']
      rw [valV_pos e,b];exact h2
    · have e':¬ q.1=k:=fun z=>e (h1.trans z)
      have b:valueAt (q :: qs) k=valueAt qs k:=by simp [valueAt,List.find?_cons,e']
      rw [valV_neg e,b];exact ih
theorem KV.any {kvs:List (κ × V)} {vs:List (κ × Value)} (r:KV kvs vs) (k:κ):(kvs.any fun kv=>decide (kv.1=k))=vs.any fun kv=>decide (kv.1=k):=by
  unfold KV at r
  induction r with
  | nil=>rfl
  | cons h t ih=>rw [List.any_cons,List.any_cons,ih,h.1]
theorem KV.repl {kvs:List (κ × V)} {vs:List (κ × Value)} (r:KV kvs vs) (k:κ) {y:V} {u:Value} (ry:RelV y u) :
    KV (kvs.map fun kv=>if kv.1=k then (kv.1,y) else kv) (vs.map fun kv=>if kv.1=k then (kv.1,u) else kv):=by
  unfold KV at r ⊢
  induction r with
  | nil=>exact .nil
  | @cons p q ps qs h t ih =>
    rw [List.map_cons,List.map_cons]
    refine .cons ?_ ih
    obtain ⟨h1,h2⟩:=h
    by_cases e:p.1=k
    · rw [if_pos e,if_pos (h1.symm.trans e)];exact ⟨h1,ry⟩
    · rw [if_neg e,if_neg (fun z=>e (h1.trans z))];exact ⟨h1,h2⟩
theorem KV.put {kvs:List (κ × V)} {vs:List (κ × Value)} (r:KV kvs vs) (k:κ) {y:V} {u:Value} (ry:RelV y u):KV (putK kvs k y) (stored vs k u):=by
  unfold putK stored
  rw [r.any k]
  by_cases e:(vs.any fun kv=>decide (kv.1=k))=true
  · rw [if_pos e,if_pos e];exact r.repl k ry
  · rw [if_neg e,if_neg e];exact Paired.snoc r ⟨rfl,ry⟩
theorem KV.length {kvs:List (κ × V)} {vs:List (κ × Value)} (r:KV kvs vs):kvs.length=vs.length:=Paired.length r
end
theorem kV_is {P:Program} {w:World} {k:Key} {u:Value} (r:RelV (kV k) u):(mixKind P w).is k u=true:=by
  cases k with
  | inl i=>obtain ⟨t,e⟩:=(show ∃ t,u=Value.int i t from r);subst e;exact mixKind_int P w i t
  | inr x=>obtain ⟨t,e⟩:=(show ∃ t,u=Value.str x t from r);subst e;exact mixKind_str P w x t
theorem items_are {P:Program} {w:World}:∀ {ks:List Key} {us:List Value},Vals (ks.map kV) us→ItemsAre (mixKind P w) ks us
  | [],_,r=>by rw [List.map_nil] at r;cases r;exact .nil
  | k :: ks,_,r=>by
    rw [List.map_cons] at r
    cases r with
    | cons h t=>exact .cons (kV_is h) (items_are t)
abbrev KT (H:Hp):List (List Key × V)→List (List Key × Addr × Value)→Prop:=Paired fun p q=>p.1=q.1∧H q.2.1=some (.tup (p.1.map kV))∧RelV p.2 q.2.2
theorem KT.val {H:Hp} {kvs:List (List Key × V)} {xs:List (List Key × Addr × Value)} (r:KT H kvs xs) (k:List Key):RelO (valV kvs k) ((atKey xs k).map (·.2)):=by
  induction r with
  | nil=>exact True.intro
  | @cons p q ps qs h t ih =>
    obtain ⟨h1,_,h2⟩:=h
    by_cases e:p.1=k
    · have e':q.1=k:=h1.symm.trans e
      have b:atKey (q :: qs) k=some q.2:=by simp [atKey,List.find?_cons,e']
      rw [valV_pos e,b];exact h2
    · have e':¬ q.1=k:=fun z=>e (h1.trans z)
      have b:atKey (q :: qs) k=atKey qs k:=by simp [atKey,List.find?_cons,e']
      rw [valV_neg e,b];exact ih
theorem KT.repl {H:Hp} {kvs:List (List Key × V)} {xs:List (List Key × Addr × Value)} (r:KT H kvs xs) (k:List Key) {y:V} {u:Value} (ry:RelV y u) :
    KT H (kvs.map fun kv=>if kv.1=k then (kv.1,y) else kv) (xs.map (putAt k u)):=by
  induction r with
  | nil=>exact .nil
  | @cons p q ps qs h t ih =>
    rw [List.map_cons,List.map_cons]
    refine .cons ?_ ih
    obtain ⟨h1,h2,h3⟩:=h
    unfold putAt
    by_cases e:p.1=k
    · rw [if_pos e,if_pos (h1.symm.trans e)];exact ⟨h1,h2,ry⟩
    · rw [if_neg e,if_neg (fun z=>e (h1.trans z))];exact ⟨h1,h2,h3⟩
theorem KT.put {H:Hp} {kvs:List (List Key × V)} {xs:List (List Key × Addr × Value)} (r:KT H kvs xs) (k:List Key) {b:Addr} {y:V} {u:Value} (hb:H b=some (.tup (k.map kV))) (ry:RelV y u) :
    KT H (putK kvs k y) (storedH xs k b u):=by
  have e:(kvs.any fun kv=>decide (kv.1=k))=(atKey xs k).isSome:=by
    rw [valV_any,(r.val k).isSome_eq,Option.isSome_map]
  unfold putK storedH
  rw [e]
  by_cases q:(atKey xs k).isSome=true
  · rw [if_pos q,if_pos q];exact r.repl k ry
  · rw [if_neg q,if_neg q];exact Paired.snoc r ⟨rfl,hb,ry⟩
theorem KT.keeps {H H':Hp} {kvs:List (List Key × V)} {xs:List (List Key × Addr × Value)} (r:KT H kvs xs) (ht:∀ b ys,H b=some (.tup ys)→H' b=some (.tup ys)):KT H' kvs xs :=
  Paired.mapP r fun _ _ z=>⟨z.1,ht _ _ z.2.1,z.2.2⟩
section
variable {P:Program} {w:World} {H:Hp} {h:Heap} {a:Addr}
theorem rd_of {u:HO} (ok:HOk P w H h) (e:Rd H a u):ObjOk P w H h a u:=e.ok ok
theorem dk_rd {kvs:List (Key × V)} (ok:HOk P w H h) (e:Rd H a (.dK kvs)):kvs.length≤sizeLine∧(a == sysModules)=false∧∃ vs,KV kvs vs∧h.DictOf (mixKind P w) a vs :=
  show ObjOk P w H h a (.dK kvs) from rd_of ok e
theorem dk_of {kvs:List (Key × V)} (ok:HOk P w H h) (e:H a=some (.dK kvs)):kvs.length≤sizeLine∧(a == sysModules)=false∧∃ vs,KV kvs vs∧h.DictOf (mixKind P w) a vs:=dk_rd ok (.inl e)
theorem key_of {ks:List Key} (ok:HOk P w H h) (e:H a=some (.tup (ks.map kV))):(tupleKind (mixKind P w)).is h ks a:=by
  obtain ⟨_,its,r,o,h1,h2,n,h3⟩:=(show ObjOk P w H h a (.tup (ks.map kV)) from ok a _ e)
  exact ⟨o,its.toArray,n,h1,h2,h3,by simpa using items_are r⟩
theorem dt_rd {kvs:List (List Key × V)} (ok:HOk P w H h) (e:Rd H a (.dT kvs)):kvs.length≤sizeLine∧(a == sysModules)=false ∧
    ∃ xs,KT H kvs xs∧h.DictOfH (tupleKind (mixKind P w)) a xs:=by
  obtain ⟨z,y,xs,r,o,es,ep,h1,h2,h3,h4,h5⟩:=(show ObjOk P w H h a (.dT kvs) from rd_of ok e)
  refine ⟨z,y,xs,r,o,es,ep,h1,h2,h3,h4,fun x hx=>?_,h5⟩
  have all:∀ {l:List (List Key × V)} {m:List (List Key × Addr × Value)},KT H l m→∀ x∈m,(tupleKind (mixKind P w)).is h x.1 x.2.1:=by
    intro l m q
    induction q with
    | nil=>intro x hx;exact nomatch hx
    | @cons p q ps qs hq t ih =>
      intro x hx
      rcases List.mem_cons.mp hx with e | hx
      · subst e
        exact key_of ok (by rw [← hq.1];exact hq.2.1)
      · exact ih x hx
  exact all r x hx
theorem dt_of {kvs:List (List Key × V)} (ok:HOk P w H h) (e:H a=some (.dT kvs)):kvs.length≤sizeLine∧(a == sysModules)=false ∧
    ∃ xs,KT H kvs xs∧h.DictOfH (tupleKind (mixKind P w)) a xs:=dt_rd ok (.inl e)
end
def DGet (H:Hp) (a:Addr) (y:V) (r:Option V):Prop :=
  (∃ kvs k,Rd H a (.dK kvs)∧y=kV k∧r=valV kvs k)∨∃ kvs k b,Rd H a (.dT kvs)∧y=.ref b∧H b=some (.tup (k.map kV))∧r=valV kvs k
def DPut (H:Hp) (a:Addr) (y v:V) (H':Hp):Prop :=
  (∃ kvs k,H a=some (.dK kvs)∧y=kV k∧kvs.length < sizeLine∧H'=upd H a (.dK (putK kvs k v))) ∨
  ∃ kvs k b,H a=some (.dT kvs)∧y=.ref b∧H b=some (.tup (k.map kV))∧kvs.length < sizeLine∧H'=upd H a (.dT (putK kvs k v))
theorem DGet.k {H:Hp} {a:Addr} {kvs:List (Key × V)} {k:Key} (e:H a=some (.dK kvs)):DGet H a (kV k) (valV kvs k):=.inl ⟨kvs,k,.inl e,rfl,rfl⟩
theorem DPut.k {H:Hp} {a:Addr} {kvs:List (Key × V)} {k:Key} {v:V} (e:H a=some (.dK kvs)) (hl:kvs.length < sizeLine):DPut H a (kV k) v (upd H a (.dK (putK kvs k v))):=.inl ⟨kvs,k,e,rfl,hl,rfl⟩
theorem DPut.t {H:Hp} {a b:Addr} {kvs:List (List Key × V)} {k:List Key} {v:V} (e:H a=some (.dT kvs)) (eb:H b=some (.tup (k.map kV))) (hl:kvs.length < sizeLine) :
    DPut H a (.ref b) v (upd H a (.dT (putK kvs k v))):=.inr ⟨kvs,k,b,e,rfl,eb,hl,rfl⟩
section
variable {X:Cx} {pins:List (Addr × Obj)} {σ:St} {H:Hp} {s:Shared} {a:Addr} {y v:V} {u r:Value} {o:Option V} {A:Around} {E:Value→Shared→Prop}
theorem Inv.big (I:Inv X pins σ H s):sysModules < s.heap.objs.size:=by
  have h:mainGlobals < s.heap.objs.size:=(I.mod.glob.keeps I.bk).lt
  exact Nat.lt_trans (by decide) h
theorem d_getItem {Q:Value→Shared→Prop} (hu:A.units + 1 < cLine) (I:Inv X pins σ H s) (g:DGet H a y (some v)) (ry:RelV y u) (h:∀ w' s',Inv X pins σ H s'→RelV v w'→Q w' s') :
    wpAny (model X.prog X.w) A (getItem (.ref a) u) Q E s:=by
  rcases g with ⟨kvs,k,e,ey,l⟩ | ⟨kvs,k,b,e,ey,eb,l⟩
  · subst ey
    obtain ⟨z,hd,vs,rel,dd⟩:=dk_rd I.hok e
    obtain ⟨w',hw,rw'⟩:=RelO.some_of (v:=v) (o:=valueAt vs k) (by rw [l];exact rel.val k)
    exact wpAny_getItem_of (kV_is ry) dd.mapOf hw (h w' _ (I.tok _) rw')
  · subst ey
    cases (show u=Value.ref b from ry)
    obtain ⟨z,hd,xs,rel,dd⟩:=dt_rd I.hok e
    obtain ⟨w',hw,rw'⟩:=RelO.some_of (v:=v) (o:=(atKey xs k).map (·.2)) (by rw [l];exact rel.val k)
    obtain ⟨p,hp,hp2⟩:=Option.map_eq_some_iff.mp hw
    refine wpAny_getItem_heap (tupleKind_room_in1 hu) (key_of I.hok eb) dd hp ?_
    rw [hp2]
    exact h w' _ (I.tok _) rw'
theorem d_in {Q:Value→Shared→Prop} (hu:A.units + 1 < cLine) (I:Inv X pins σ H s) (g:DGet H a y o) (ry:RelV y u) (h:∀ s',Inv X pins σ H s'→Q (.bool o.isSome) s') :
    wpAny (model X.prog X.w) A (compareOp .In u (.ref a)) Q E s:=by
  rcases g with ⟨kvs,k,e,ey,l⟩ | ⟨kvs,k,b,e,ey,eb,l⟩
  · subst ey
    obtain ⟨z,hd,vs,rel,dd⟩:=dk_rd I.hok e
    refine wpAny_in_of (kV_is ry) hd dd.mapOf ?_
    rw [← (rel.val k).isSome_eq,← l]
    exact h _ (I.tok _)
  · subst ey
    cases (show u=Value.ref b from ry)
    obtain ⟨z,hd,xs,rel,dd⟩:=dt_rd I.hok e
    refine wpAny_in_heap (tupleKind_room_in1 hu) (key_of I.hok eb) hd dd ?_
    have q:=(rel.val k).isSome_eq
    rw [Option.isSome_map] at q
    rw [← q,← l]
    exact h _ (I.tok _)
theorem d_notIn {Q:Value→Shared→Prop} (hu:A.units + 1 < cLine) (I:Inv X pins σ H s) (g:DGet H a y o) (ry:RelV y u) (h:∀ s',Inv X pins σ H s'→Q (.bool (!o.isSome)) s') :
    wpAny (model X.prog X.w) A (compareOp .NotIn u (.ref a)) Q E s:=by
  rcases g with ⟨kvs,k,e,ey,l⟩ | ⟨kvs,k,b,e,ey,eb,l⟩
  · subst ey
    obtain ⟨z,hd,vs,rel,dd⟩:=dk_rd I.hok e
    refine wpAny_notIn_of (kV_is ry) hd dd.mapOf ?_
    rw [← (rel.val k).isSome_eq,← l]
    exact h _ (I.tok _)
  · subst ey
    cases (show u=Value.ref b from ry)
    obtain ⟨z,hd,xs,rel,dd⟩:=dt_rd I.hok e
    refine wpAny_notIn_heap (tupleKind_room_in1 hu) (key_of I.hok eb) hd dd ?_
    have q:=(rel.val k).isSome_eq
    rw [Option.isSome_map] at q
    rw [← q,← l]
    exact h _ (I.tok _)
theorem d_write {h':Heap} {t':Nat} {ob:HO} (I:Inv X pins σ H s) (mu:Mut (H a)) (hs:Heap.SameBut a s.heap h') (he:∃ q,h'.get? a=some q) (new:ObjOk X.prog X.w (upd H a ob) h' a ob) :
    Inv X pins σ (upd H a ob) { s with heap:=h',toks:=t' } :=
  I.write (x:=a) (e:=a) mu (.inl rfl) (fun b q hb z=>(hs.2 b hb).trans z) he new
theorem dk_new {P:Program} {w:World} {H':Hp} {h':Heap} {kvs:List (Key × V)} {vs:List (Key × Value)} (z:kvs.length≤sizeLine) (hd:(a == sysModules)=false) (rel:KV kvs vs) (dd:h'.DictOf (mixKind P w) a vs) :
    ObjOk P w H' h' a (.dK kvs):=⟨z,hd,vs,rel,dd⟩
theorem d_setItem {H':Hp} {Q:Unit→Shared→Prop} (hu:A.units + 1 < cLine) (I:Inv X pins σ H s) (g:DPut H a y v H') (ry:RelV y u) (rv:RelV v r) (h:∀ s',Inv X pins σ H' s'→Q () s') :
    wpAny (model X.prog X.w) A (setItem (.ref a) u r) Q E s:=by
  rcases g with ⟨kvs,k,e,ey,l,eH⟩ | ⟨kvs,k,b,e,ey,eb,l,eH⟩
  · subst ey eH
    obtain ⟨z,hd,vs,rel,dd⟩:=dk_of I.hok e
    have hz:vs.length≤sizeLine:=by rw [← rel.length];exact z
    have hl:(putK kvs k v).length≤sizeLine:=by have:=length_putK kvs k v;omega
    refine wpAny_setItem_pairs (hsz:=hz) (kV_is ry) dd fun h' dd' hs=>h _ ?_
    have he:∃ q,h'.get? a=some q:=let ⟨q,_,_,hq,_⟩:=dd';⟨q,hq⟩
    exact d_write I (by rw [e];exact True.intro) hs he (dk_new hl hd (rel.put k rv) dd')
  · subst ey eH
    cases (show u=Value.ref b from ry)
    obtain ⟨z,hd,xs,rel,dd⟩:=dt_of I.hok e
    have hz:xs.length≤sizeLine:=by rw [← Paired.length rel];exact z
    have hl:(putK kvs k v).length≤sizeLine:=by have:=length_putK kvs k v;omega
    refine wpAny_setItem_heap (hsz:=hz) (tupleKind_room_in1 hu) (key_of I.hok eb) dd fun h' dd' hs=>h _ ?_
    obtain ⟨q,es,ep,hq,h2,h3,h4,_,h5⟩:=dd'
    refine d_write I (by rw [e];exact True.intro) hs ⟨q,hq⟩ ⟨hl,hd,_,(rel.put k eb rv).keeps fun c ys ec=>?_,q,es,ep,hq,h2,h3,h4,h5⟩
    rw [upd_ne (ne_of ec e (fun z=>nomatch z))]
    exact ec
end
section
variable {X:Cx} {pins:List (Addr × Obj)} {σ:St} {H:Hp} {s:Shared} {a:Addr} {kvs:List (Key × V)} {k:Key} {u:Value} {A:Around} {E:Value→Shared→Prop}
end
def NoSl (i:Expr):Prop:=∀ ov iv,subscripted i false ov iv=operate [ov,iv] (getItem ov iv)
theorem subD_of {prog:Program} {w:World} {A:Around} {E:Value→Shared→Prop} {s:Shared} {env:Env} {value slice:Expr} {pos:Pos} {T id:String} {Q:Value→Shared→Prop}
    (hl:typeLookup (.type T) "__getitem__"=pure (some (.builtin id))) (hs:NoSl slice)
    (h:wpAny (model prog w) A (eval value env) (fun o s₁=>wpAny (model prog w) A (eval slice env) (fun i s₂=>s₂.TypeIs o T∧wpAny (model prog w) A (getItem o i) Q E s₂) E s₁) E s) :
    wpAny (model prog w) A (eval (.Subscript value slice pos) env) Q E s:=by
  refine Subscript_ (wpAny_mono h (fun o s₁ h₁=>wpAny_mono h₁ (fun i s₂ h₂=>?_) fun _ _ x=>x) fun _ _ x=>x)
  obtain ⟨hT,h₂⟩:=h₂
  unfold subscriptTail
  refine wpAny_bind ?_
  rw [getitemInPython_of_ne hT.not_modules]
  refine wpAny_bind (wpAny_specialOf hT hl ?_)
  have fin:wpAny (model prog w) A (subscripted slice false o i) (fun r s₃=>wpAny (model prog w) A (letTemporaryGo value o r >>= fun _=>pure r) Q E s₃) E s₂:=by
    rw [hs o i]
    exact wpAny_operating (wpAny_mono h₂ (fun r s₃ h₃=>wpAny_bind (wpAny_letTemporaryGo (wpAny_pure h₃))) fun _ _ x=>x)
  first
    | exact wpAny_pure (wpAny_bind fin)
    | exact wpAny_bind (wpAny_pure (wpAny_bind fin))
    | exact wpAny_bind fin
theorem dict_typeIs {X:Cx} {pins:List (Addr × Obj)} {σ:St} {H:Hp} {s:Shared} {a:Addr} {y:V} {o:Option V} (I:Inv X pins σ H s) (g:DGet H a y o):s.TypeIs (.ref a) "dict":=by
  rcases g with ⟨kvs,k,e,_,_⟩ | ⟨kvs,k,b,e,_,_,_⟩
  · obtain ⟨_,_,vs,_,dd⟩:=dk_rd I.hok e
    exact dd.typeIs
  · obtain ⟨_,_,xs,_,dd⟩:=dt_rd I.hok e
    exact dd.typeIs
def tDGet (td ty:TE):TE:=fun σ H Q=>td σ H fun x H1=>ty σ H1 fun y H2=>∃ a v,x=.ref a∧DGet H2 a y (some v)∧Q v H2
def sDPut (td ty tv:TE):TS:=fun D σ H=>tv σ H fun v H1=>td σ H1 fun x H2=>ty σ H2 fun y H3=>∃ a H4,x=.ref a∧DPut H3 a y v H4∧D.nx σ H4
section
variable {X:Cx} {o i e value:Expr} {pos pos' tpos:Pos} {td ty tv:TE}
theorem pe_dget (hu:X.A.units + 1 < cLine) (ho:PE X o td) (hi:PE X i ty) (hs:NoSl i):PE X (.Subscript o i pos) (tDGet td ty):=by
  intro pins s σ H Q I h
  refine subD_of PySem.F.slot_dict_getitem.lookup hs (thn (ho pins s σ H _ I h) fun u s1 ⟨x,H1,I1,rx,q1⟩=>thn (hi pins s1 σ H1 _ I1 q1) fun iv s2 ⟨y,H2,I2,ry,a,v,ex,g,q2⟩=>?_)
  subst ex
  obtain rfl:u=Value.ref a:=rx
  exact ⟨dict_typeIs I2 g,d_getItem hu I2 g ry fun w' s3 I3 rw'=>⟨v,H2,I3,rw',q2⟩⟩
theorem ps_dput (hu:X.A.units + 1 < cLine) (ho:PE X o td) (hi:PE X i ty) (hv:PE X value tv) (hs:swapsWith value (some (.Subscript o i pos')) pos.line X.env=pure false) :
    PS X (.Assign [.Subscript o i pos'] value pos) (sDPut td ty tv):=by
  intro pins s σ H D I h
  refine wpAny_Assign_Subscript (thn (hv pins s σ H _ I h) fun r s1 ⟨v,H1,I1,rv,q1⟩=>thn (ho pins s1 σ H1 _ I1 q1) fun u s2 ⟨x,H2,I2,rx,q2⟩=>thn (hi pins s2 σ H2 _ I2 q2) fun iv s3 ⟨y,H3,I3,ry,a,H4,ex,g,q3⟩=>?_) hs
  subst ex
  obtain rfl:u=Value.ref a:=rx
  exact d_setItem hu I3 g ry rv fun s4 I4=>⟨σ,H4,I4,q3⟩
end
theorem dk_empty {P:Program} {w:World} {H:Hp} (h:Heap) (hb:sysModules < h.objs.size):ObjOk P w H (h.push { cls:=.type "dict",data:=.dict #[] }) h.objs.size (.dK []) :=
  ⟨Nat.zero_le _,beq_eq_false_iff_ne.mpr (Ne.symm (Nat.ne_of_lt hb)),[],.nil,Heap.DictOf.new h⟩
theorem dt_empty {P:Program} {w:World} {H:Hp} (h:Heap) (hb:sysModules < h.objs.size):ObjOk P w H (h.push { cls:=.type "dict",data:=.dict #[] }) h.objs.size (.dT []) :=
  ⟨Nat.zero_le _,beq_eq_false_iff_ne.mpr (Ne.symm (Nat.ne_of_lt hb)),[],.nil,_,#[],0,Heap.get?_push_size _ rfl,⟨rfl,rfl,rfl⟩,rfl,rfl,List.nodup_nil⟩
def tDNewK:TE:=fun _ H Q=>∀ p,H p=none→Q (.ref p) (upd H p (.dK []))
def tDNewT:TE:=fun _ H Q=>∀ p,H p=none→Q (.ref p) (upd H p (.dT []))
section
variable {X:Cx} {pos:Pos}
theorem pe_dnewK:PE X (.Dict [] [] pos) tDNewK:=fun pins s σ H Q I h =>
  wpAny_Dict_empty ⟨.ref s.heap.objs.size,_,I.laid (a:=s.heap.objs.size) (o:=.dK []) (t':=s.toks) (fun _ _ q=>Heap.get?_push_of_some _ q) (Nat.le_refl _) (dk_empty s.heap I.big),rfl,h _ (I.hok.fresh (Nat.le_refl _))⟩
theorem pe_dnewT:PE X (.Dict [] [] pos) tDNewT:=fun pins s σ H Q I h =>
  wpAny_Dict_empty ⟨.ref s.heap.objs.size,_,I.laid (a:=s.heap.objs.size) (o:=.dT []) (t':=s.toks) (fun _ _ q=>Heap.get?_push_of_some _ q) (Nat.le_refl _) (dt_empty s.heap I.big),rfl,h _ (I.hok.fresh (Nat.le_refl _))⟩
end
def tPairs:List (TE × TE)→St→Hp→(List (V × V)→Hp→Prop)→Prop
  | [],_,H,Q=>Q [] H
  | (tk,tv) :: r,σ,H,Q=>tk σ H fun x H1=>tv σ H1 fun y H2=>tPairs r σ H2 fun ps H3=>Q ((x,y) :: ps) H3
def mergeK (kvs more:List (Key × V)):List (Key × V):=more.foldl (fun acc kv=>putK acc kv.1 kv.2) kvs
def tDisp (trs:List (TE × TE)):TE:=fun σ H Q=>∀ p,H p=none→tPairs trs σ (upd H p (.dK [])) fun ps H2=>H2 p=some (.dK [])∧∃ kvs:List (Key × V),ps=kvs.map (fun kv=>(kV kv.1,kv.2))∧kvs.length≤15∧Q (.ref p) (upd H2 p (.dK (mergeK [] kvs)))
structure M2 (X:Cx) (o:Expr) (m:Str) (apos:Pos) (e f:Expr) (cpos:Pos):Prop where
  base:attributeBase o m X.env (eval o X.env)=eval o X.env
  few:((backTo cpos (starEach [e,f] X.env)).all (fun x=>!x.1) && (backToKw cpos (keywordEach [] X.env)).all (fun x=>x.1.isSome)
    && decide (([e,f]:List Expr).length + ([]:List Keyword).length + (if ([]:List Keyword).isEmpty then 0 else 1) < 30))=true
  line:(apos.endLine == cpos.line)=true
  trees:backTo cpos (starEach [e,f] X.env)=[(false,eval e X.env),(false,eval f X.env)]
def IsD (H:Hp) (a:Addr):Prop:=(∃ kvs,Rd H a (.dK kvs))∨∃ kvs,Rd H a (.dT kvs)
theorem isD_at {X:Cx} {pins:List (Addr × Obj)} {σ:St} {H:Hp} {s:Shared} {a:Addr} (I:Inv X pins σ H s) (d:IsD H a) :
    s.TypeIs (.ref a) "dict"∧(∀ b,Value.ref a=.ref b→∃ ob,s.heap.get? b=some ob∧ob.dict=none)∧(a == sysModules)=false:=by
  rcases d with ⟨kvs,e⟩ | ⟨kvs,e⟩
  · obtain ⟨_,hd,vs,_,dd⟩:=dk_rd I.hok e
    refine ⟨dd.typeIs,fun b q=>?_,hd⟩
    cases q
    obtain ⟨ob,_,_,h1,h2,_⟩:=dd
    exact ⟨ob,h1,h2.2.1⟩
  · obtain ⟨_,hd,xs,_,dd⟩:=dt_rd I.hok e
    refine ⟨dd.typeIs,fun b q=>?_,hd⟩
    cases q
    obtain ⟨ob,_,_,h1,h2,_⟩:=dd
    exact ⟨ob,h1,h2.2.1⟩
section
variable {X:Cx} {pins:List (Addr × Obj)} {σ:St} {H:Hp} {s:Shared} {a:Addr} {y d:V} {u r:Value} {o:Option V} {A:Around} {E:Value→Shared→Prop}
theorem d_get2 {Q:Value→Shared→Prop} (hu:A.units + 1 < cLine) (I:Inv X pins σ H s) (g:DGet H a y o) (ry:RelV y u) (rd:RelV d r) (h:∀ w' s',Inv X pins σ H s'→RelV (o.getD d) w'→Q w' s') :
    wpAny (model X.prog X.w) A (call (.builtin "dict.get") [.ref a,u,r]) Q E s:=by
  rcases g with ⟨kvs,k,e,ey,l⟩ | ⟨kvs,k,b,e,ey,eb,l⟩
  · subst ey
    obtain ⟨z,hd,vs,rel,dd⟩:=dk_rd I.hok e
    refine call_meetsIn PySem.F.slot_dict_get dd.typeIs PySem.F.entry_dict_get (PySem.F.args_dict_get_3 _ _ _) (meets_dict_get_default (mixKind X.prog X.w) a (kV_is ry) hd r) ⟨_,dd.mapOf,h _ _ (I.tok _) ?_⟩
    rw [l]
    exact (rel.val k).getD rd
  · subst ey
    cases (show u=Value.ref b from ry)
    obtain ⟨z,hd,xs,rel,dd⟩:=dt_rd I.hok e
    refine call_meetsIn PySem.F.slot_dict_get dd.typeIs PySem.F.entry_dict_get (PySem.F.args_dict_get_3 _ _ _) (meetsH_dict_get_default (tupleKind (mixKind X.prog X.w)) a b hd r) ⟨tupleKind_room_in1 hu,k,xs,key_of I.hok eb,dd,h _ _ (I.tok _) ?_⟩
    rw [l]
    exact (rel.val k).getD rd
end
def tDGet2 (td ty tx:TE):TE:=fun σ H Q=>td σ H fun x H1=>∃ a,x=.ref a∧IsD H1 a∧ty σ H1 fun y H2=>tx σ H2 fun z H3=>∃ o,DGet H3 a y o∧Q (o.getD z) H3
def tDPop2 (td ty tx:TE):TE:=fun σ H Q=>td σ H fun x H1=>∃ a,x=.ref a∧IsD H1 a∧ty σ H1 fun y H2=>tx σ H2 fun z H3=>∃ kvs k,H3 a=some (.dK kvs)∧y=kV k ∧
  (∀ v,valV kvs k=some v→Q v (upd H3 a (.dK (dropK kvs k))))∧(valV kvs k=none→Q z H3)
section
variable {X:Cx} {o e f:Expr} {apos cpos:Pos} {td ty tx:TE}
theorem pe_dget2 (hu:X.A.units + 1 < cLine) (ho:PE X o td) (he:PE X e ty) (hf:PE X f tx) (m:M2 X o "get" apos e f cpos):PE X (.Call (.Attribute o "get" apos) [e,f] [] cpos) (tDGet2 td ty tx):=by
  intro pins s σ H Q I h
  refine wpAny_Call_method m.base m.few m.line PySem.F.plainAttrs_dict PySem.F.slot_dict_get PySem.F.type_dict_get (thn (ho pins s σ H _ I h) fun u s1 ⟨x,H1,I1,rx,a,ex,d,q1⟩=>?_)
  subst ex
  obtain rfl:u=Value.ref a:=rx
  obtain ⟨t1,t2,_⟩:=isD_at I1 d
  refine ⟨t1,t2,?_⟩
  rw [m.trees]
  refine Calls.callWith_builtin rfl (Calls.evalArgs_plain (Calls.spliced_cons (thn (he pins s1 σ H1 _ I1 q1) fun iv s2 ⟨y,H2,I2,ry,q2⟩ =>
    Calls.spliced_cons (thn (hf pins s2 σ H2 _ I2 q2) fun fv s3 ⟨z,H3,I3,rz,ov,g,q3⟩=>Calls.spliced_nil ?_))))
  exact d_get2 hu I3 g ry rz fun w' s4 I4 rw'=>⟨_,H3,I4,rw',q3⟩
end
section
variable {X:Cx} {pins:List (Addr × Obj)} {σ:St} {H:Hp} {s:Shared} {a:Addr} {kvs:List (Key × V)} {A:Around} {E:Value→Shared→Prop}
end
section
variable {X:Cx} {pins:List (Addr × Obj)} {σ:St} {H:Hp} {s:Shared} {a:Addr} {y:V} {u:Value} {A:Around} {E:Value→Shared→Prop}
end
end L2
namespace Att
open PySem PySem.W PySem.Calls PyProof.Rows
theorem ints_of_wellAll {P:Params} {h:Heap}:∀ (ns:List Int) (vs:List Value),WellAll P h vs (ns.map WData.int)→IntsAre vs ns:=by
  intro ns
  induction ns with
  | nil =>
    intro vs w
    rw [List.map_nil] at w
    cases w
    exact .nil
  | cons n ns ih =>
    intro vs w
    rw [List.map_cons] at w
    cases w with
    | cons a b =>
      cases a
      exact .cons _ _ (ih _ b)
theorem script_of {l:OpenLaw} {n:Nat} (hn:l.most=some n) {P:Params} {h:Heap} {args:List WData} {vals:List Value}
    (hpre:l.row.toRowW.claim.pre args=true) (hwl:WellAll P h vals args) :
    ∃ a vs ns,vals=[Value.ref a]∧args=[WData.list (ns.map WData.int)]∧h.get? a=some { cls:=.type "list",data:=.seq vs.toArray }∧IntsAre vs ns∧ns.length≤n:=by
  have hsh:WShape.hasAll [] args [.list .int]=true:=(pre_splitW hpre).1
  have hc:l.pre.holds [] { args:=args }=true:=(pre_splitW hpre).2
  obtain ⟨d,r,rfl,h1,h2⟩:=hasAllW_cons hsh
  obtain rfl:=hasAllW_nil h2
  obtain ⟨xs,rfl,h3⟩:=hasW_list h1
  obtain ⟨ns,rfl⟩:=items_int h3
  have hlen:ns.length≤n:=by
    unfold OpenLaw.pre at hc
    have h4:(WTm.not (.lt (.lit (.int (n:Int))) (.len (.arg 0)))).holds [] { args:=[.list (ns.map .int)] }=true:=by
      have h4:=(holds_andW hc).1
      rw [hn] at h4
      exact h4
    have h5:=condW_of h4 (w_not (w_lt w_lit (w_len_list (w_arg rfl))))
    rw [List.length_map] at h5
    refine Nat.le_of_not_lt fun q=>?_
    have q':(n:Int) < ((ns.length:Nat):Int):=by omega
    first
      | (rw [decide_eq_true q'] at h5;exact absurd h5 (by decide))
      | (simp at h5;omega)
  cases hwl with
  | cons w1 w2 =>
    cases w2
    cases w1 with
    | list ho hall=>exact ⟨_,_,ns,rfl,rfl,ho,ints_of_wellAll ns _ hall,hlen⟩
theorem post_true (l:OpenLaw) (args:List WData):l.row.toRowW.claim.post args (.bool true) args=true :=
  postW_of (r:=l.row.toRowW) (X:=(true == true))
    (show WShape.has [] (.bool true) .bool=true by first | rfl | decide | simp [WShape.has,WShape.arms,WShape.armsAll])
    (show (WTm.eq .res (.lit (.bool true))).value [] { args:=args,res:=some (.bool true),after:=args }=some (.bool (true == true)) from w_eq_bool (w_res rfl) w_lit) rfl
theorem attach_call {l:OpenLaw} {n:Nat} {q:Program} {loose:List Str} {XP:(Str→Option Value)→Heap→Prop} {YP:World→Heap→Prop} {d:DefRec}
    (hn:l.most=some n) (hdf:d.params.defaults=[])
    (call:∀ (w:World) (s₀ s₁:Shared) (mg mb:Str→Option Value) (fa:Addr) (o:Obj) (pm cd doc:Value) (a:Addr) (vs:List Value) (ns:List Int),
      Ground q loose [] XP w s₀ mg mb s₁.heap→YP w s₁.heap →
      s₁.heap.get? fa=some o→o.data=.func (docDef d.name d.params d.body d.scope pm cd doc)→s₁.heap.CodeRec cd d.name→mg d.name=some (.ref fa) →
      s₁.heap.get? a=some { cls:=.type "list",data:=.seq vs.toArray }→IntsAre vs ns→ns.length≤n→s₁.gens=#[] →
      codeAny (model l.prog w) callerA (.call (.ref fa) ⟨[.ref a],[]⟩) (fun r s'=>r=.ok (.ret (.bool true))∧OldK s₁.heap s'.heap∧s'.os=s₁.os∧AllBare s'.gens) s₁) :
    WalkO q loose XP YP l.row.toRowW d [] (fun f vs=>PySem.call f vs):=by
  intro w s₀ s₁ mg mb G Y fa o pm cd doc dV kV ho hd hcd hD hmg hg args vals as hpre hlay hrd hwl hlo
  obtain rfl:dV=.none:=Dflts.none hD hdf
  obtain rfl:kV=.none:=Dflts.noKw hD
  obtain ⟨a,vs,ns,rfl,rfl,hobj,hints,hlen⟩:=script_of hn hpre hwl
  refine enter_call (codeAny_mono (call w s₀ s₁ mg mb fa o pm cd doc a vs ns G Y ho (fd_plain hd) hcd hmg hobj hints hlen hg) fun r s' hq=>?_)
  obtain ⟨rfl,h2,h3,h4⟩:=hq
  exact ⟨.inl ⟨.bool true,.bool true,[],rfl,fun _=>rfl,.bool true,post_true l _,fun _=>⟨List.Pairwise.nil,fun _ hm=>(nomatch hm)⟩⟩,h2,h3,h4⟩
section
variable {prog:Program} {w:World} {A:Around} {E:Value→Shared→Prop} {s:Shared} {K:Frag}
def ledger (h:Heap) (L d:Addr):List (Addr × Obj):=(List.range h.objs.size).filterMap fun a=>if a=L∨a=d then none else (h.get? a).map fun o=>(a,o)
end
end Att
namespace L2
open PySem PySem.Spec PyProof.Rows
theorem vals_ints:∀ {vs:List Value} {ns:List Int},IntsAre vs ns→Vals (ns.map V.int) vs
  | _,_,.nil=>.nil
  | _,_,.cons n t h=>.cons ⟨t,rfl⟩ (vals_ints h)
def Only (H:Hp):Prop:=∀ b,H b=none∨∃ o xs,H b=some (.frz o (.lst xs))
theorem law_call {P:Program} {w:World} {K:PySem.W.Frag} {mg mb:Str→Option Value} {CX:CXT} {k:Nat} {fa a:Addr} {fd:FuncData} {x:Str} {sp:Sp} {s₁:Shared} {vs:List Value} {ns:List Int}
    (KX:K.In s₁.heap) (hns:s₁.heap.Ns mainGlobals mg) (hb:s₁.heap.Ns builtinsNs mb) (hbb:∀ x:Str,x≠"__name__"→mb x=bootBuiltins x) (hlim:s₁.heap.NoLimit) (hg:s₁.gens=#[])
    (ha:s₁.heap.get? a=some { cls:=.type "list",data:=.seq vs.toArray }) (hi:IntsAre vs ns) (hl:ns.length≤sizeLine) (hr:Room k callerA)
    (F:∀ base:Heap,K.In base→base.Ns mainGlobals mg→FnOk P w K mg base CX k fa fd [x] sp) (hbind:∀ (s:Shared) (u:Value),BindsTo s fd ⟨[u],[]⟩ [(x,u)])
    (hsp:∀ H:Hp,Only H→SqL K H a (ns.map V.int)→sp [.ref a] H (fun v _=>v=.bl true) fun _ _ _=>False)
    (hCX:∀ H e s',CX [] H s₁ (fun _ _ _=>False) e s'→False) :
    codeAny (model P w) callerA (.call (.ref fa) ⟨[.ref a],[]⟩) (fun r s'=>r=.ok (.ret (.bool true))∧OldK s₁.heap s'.heap∧s'.os=s₁.os∧AllBare s'.gens) s₁:=by
  have rv:=vals_ints hi
  have lenV:=hi.length
  -- from an abstract heap in which nothing but the script may be tracked
  have core:∀ H:Hp,Only H→SqL K H a (ns.map V.int)→HOk P w H s₁.heap→(∀ b,H b≠none→b=a)→(H a≠none→K.lookup a=none) →
      codeAny (model P w) callerA (.call (.ref fa) ⟨[.ref a],[]⟩) (fun r s'=>r=.ok (.ret (.bool true))∧OldK s₁.heap s'.heap∧s'.os=s₁.os∧AllBare s'.gens) s₁:=by
    intro H hO hS hok hA hK
    have base_of:∀ {b:Addr} {o:Obj},s₁.heap.get? b=some o→H b=none→(hidT s₁.heap H).get? b=some o:=fun e n=>hidT_get e n
    have noA:∀ {b:Addr} {o:Obj} {es:Array DictEntry} {ep:Nat},s₁.heap.get? b=some o→o.data=.dict es ep→H b=none:=fun {b o es ep} e d=>by
      cases q:H b with
      | none=>rfl
      | some u =>
        have e':b=a:=hA b (by rw [q];simp)
        subst e'
        rw [ha] at e;cases e
        have d':Data.seq vs.toArray _=Data.dict es ep:=d
        cases d'
    have nsK:∀ {b:Addr} {m:Str→Option Value},s₁.heap.Ns b m→(hidT s₁.heap H).Ns b m:=fun {b m} ⟨o,es,ep,e,d,r⟩=>⟨o,es,ep,base_of e (noA e d),d,r⟩
    have hKb:K.In (hidT s₁.heap H):=fun b o e=>base_of (KX b o e) (by
      cases q:H b with
      | none=>rfl
      | some u =>
        have e':b=a:=hA b (by rw [q];simp)
        subst e'
        rw [hK (by rw [q];simp)] at e;cases e)
    have hM:Mod K mg (hidT s₁.heap H):=⟨hKb,nsK hns,⟨mb,nsK hb,hbb⟩,let ⟨mc,h1,h2⟩:=hlim;⟨mc,nsK h1,h2⟩⟩
    have e0:Env0 P w K mg (hidT s₁.heap H) callerA [] s₁ H:=⟨rfl,hM,fun b o e=>of_hidT e,Nat.le_of_eq (hidT_size _ _),trivial,fun b hb=>absurd (show b∈([]:List Addr) from hb) (by simp),hok,.of_eq hg⟩
    refine codeAny_mono ((F _ hKb (nsK hns)).run callerA [] s₁ H ⟨[.ref a],[]⟩ [.ref a] [.ref a] _ _ hr e0 (hbind s₁ (.ref a)) (.cons rfl .nil) (hsp H hO hS)) fun r s' h=>?_
    cases r with
    | error e=>exact (hCX H e s' h).elim
    | ok fl =>
      cases fl with
      | next=>exact False.elim h
      | brk=>exact False.elim h
      | cont=>exact False.elim h
      | ret u =>
        obtain ⟨v,H',os,bare,un,hok',r',q⟩:=h
        have q':v=.bl true:=q
        subst q'
        obtain rfl:u=Value.bool true:=r'
        refine ⟨rfl,OldK.of_keep fun b o e=>?_,os,bare⟩
        cases q:H b with
        | none=>exact un.keep b o e q (by intro z;exact absurd (show b∈([]:List Addr) from z) (by simp)) (by simp)
        | some u =>
          rcases hO b with z | ⟨ob,xs,z⟩
          · rw [q] at z;cases z
          · have z2:=un.frzs b ob _ z
            obtain ⟨e1,_⟩:=hok b _ z
            obtain ⟨e2,_⟩:=hok' b _ z2
            rw [e] at e1;cases e1
            exact e2
  cases hk:K.lookup a with
  | some o =>
    -- the script is one of the module's own objects
    have e:=KX a o hk
    rw [ha] at e
    cases e
    refine core (fun _=>none) (fun _=>.inl rfl) (.inr ⟨_,vs.toArray,_,hk,rfl,rfl,rfl,by rw [List.size_toArray,lenV];exact hl,by simpa using rv⟩) (fun b u z=>by have z':(none:Option HO)=some u:=z;cases z') (fun b z=>absurd rfl z) fun z=>absurd rfl z
  | none =>
    refine core (fun b=>if b=a then some (.frz { cls:=.type "list",data:=.seq vs.toArray } (.lst (ns.map V.int))) else none) (fun b=>?_) (.inl (.inr ⟨{ cls:=.type "list",data:=.seq vs.toArray },if_pos rfl⟩)) (fun b u z=>?_) (fun b z=>?_) fun _=>hk
    · by_cases hb:b=a
      · exact .inr ⟨_,_,if_pos hb⟩
      · exact .inl (if_neg hb)
    · by_cases hb:b=a
      · have z':=(if_pos hb).symm.trans z
        cases z'
        subst hb
        exact ⟨ha,by rw [List.length_map];exact hl,vs,_,rv,ha⟩
      · have z':=(if_neg hb).symm.trans z
        cases z'
    · by_cases hb:b=a
      · exact hb
      · exact absurd (if_neg hb) z
end L2
namespace L2
open PySem PySem.Spec PyProof.Rows
abbrev KOf {K:PySem.W.Frag} {h:Heap} (_:K.In h):PySem.W.Frag:=K
theorem walk_of {l:PySem.W.OpenLaw} {n k:Nat} {q:Program} {loose:List Str} {XP:(Str→Option Value)→Heap→Prop} {YP:World→Heap→Prop} {d:DefRec} {K:Params→PySem.W.Frag} {CX:World→CXT} {sp:World→Sp} {x:Str}
    (hn:l.most=some n) (hn2:n≤sizeLine) (hdf:d.params.defaults=[]) (hr:Room k callerA)
    (hY:∀ (w:World) (h:Heap),YP w h→(K w.params).In h)
    (F:∀ (w:World) (mg:Str→Option Value) (fa:Addr) (h:Heap),(K w.params).In h→h.Ns mainGlobals mg→mg d.name=some (.ref fa) →
      ∃ fd:FuncData,(∀ (s:Shared) (u:Value),BindsTo s fd ⟨[u],[]⟩ [(x,u)]) ∧
        ∀ base:Heap,(K w.params).In base→base.Ns mainGlobals mg→FnOk l.prog w (K w.params) mg base (CX w) k fa fd [x] (sp w))
    (hsp:∀ (w:World) (H:Hp) (a:Addr) (ns:List Int),ns.length≤n→Only H→SqL (K w.params) H a (ns.map V.int)→sp w [.ref a] H (fun v _=>v=.bl true) fun _ _ _=>False)
    (hCX:∀ (w:World) (H:Hp) (s:Shared) (e:Value) (s':Shared),CX w [] H s (fun _ _ _=>False) e s'→False) :
    PySem.W.WalkO q loose XP YP l.row.toRowW d [] (fun f vs=>PySem.call f vs):=by
  refine Att.attach_call hn hdf fun w s₀ s₁ mg mb fa o pm cd doc a vs ns G Y ho hd hcd hmg hobj hints hlen hg=>?_
  have KX:=hY w _ Y
  obtain ⟨fd,hb,hF⟩:=F w mg fa _ KX G.T.g hmg
  exact law_call KX G.T.g G.T.b G.T.builtins G.T.nolimit hg hobj hints (Nat.le_trans hlen hn2) hr hF hb (fun H hO hS=>hsp w H a ns hlen hO hS) fun H e s'=>hCX w H s₁ e s'
theorem walk_ofK {l:PySem.W.OpenLaw} {n k:Nat} {q:Program} {loose:List Str} {XP:(Str→Option Value)→Heap→Prop} {YP:World→Heap→Prop} {d:DefRec} {K:Params→PySem.W.Frag} {CX:CXT} {sp:PySem.W.Frag→Sp} {x:Str}
    (hn:l.most=some n) (hn2:n≤sizeLine) (hdf:d.params.defaults=[]) (hr:Room k callerA)
    (hY:∀ (w:World) (h:Heap),YP w h→(K w.params).In h)
    (F:∀ (w:World) (mg:Str→Option Value) (fa:Addr) (h:Heap),(K w.params).In h→h.Ns mainGlobals mg→mg d.name=some (.ref fa) →
      ∃ fd:FuncData,(∀ (s:Shared) (u:Value),BindsTo s fd ⟨[u],[]⟩ [(x,u)]) ∧
        ∀ base:Heap,(K w.params).In base→base.Ns mainGlobals mg→FnOk l.prog w (K w.params) mg base CX k fa fd [x] (sp (K w.params)))
    (hsp:∀ (K:PySem.W.Frag) (H:Hp) (a:Addr) (ns:List Int),ns.length≤n→Only H→SqL K H a (ns.map V.int)→sp K [.ref a] H (fun v _=>v=.bl true) fun _ _ _=>False)
    (hCX:∀ (H:Hp) (s:Shared) (e:Value) (s':Shared),CX [] H s (fun _ _ _=>False) e s'→False) :
    PySem.W.WalkO q loose XP YP l.row.toRowW d [] (fun f vs=>PySem.call f vs) :=
  walk_of (K:=K) (CX:=fun _=>CX) (sp:=fun w=>sp (K w.params)) hn hn2 hdf hr hY F (fun w H a ns h1 h2 h3=>hsp (K w.params) H a ns h1 h2 h3) fun _ H s e s'=>hCX H s e s'
end L2
namespace L2
open PySem PySem.Spec PyProof.Rows
def inClass (s:Stmt) (j:Nat):Stmt:=match s with
  | .ClassDef _ _ _ body _ _ _ _ _ _ _=>body.getD j (.Pass ⟨0,0,0,0⟩)
  | _=>.Pass ⟨0,0,0,0⟩
def defArgs (s:Stmt):Arguments:=match s with
  | .FunctionDef _ a _ _ _ _ _ _ _ _=>a
  | _=>{ posonlyargs:=[],args:=[],vararg:=none,kwonlyargs:=[],kw_defaults:=[],kwarg:=none,defaults:=[] }
def defBody (s:Stmt):List Stmt:=match s with
  | .FunctionDef _ _ b _ _ _ _ _ _ _=>b
  | _=>[]
def defScope (s:Stmt):Scope:=match s with
  | .FunctionDef _ _ _ _ _ _ sc _ _ _=>sc
  | _=>{ kind:=.function,names:=[],isGenerator:=false,isCoroutine:=false }
abbrev E0:XK:=fun _ _ _=>False
structure Fun (K:PySem.W.Frag) (x qual:Str) (st:Stmt) (f:Addr) (fd:FuncData):Prop where
  ex:∃ (oc:Value) (od:Option Addr) (kV doc pm:Value) (an:Option Addr) (cdv ct:Value) (osl:Array (Option Value)),
    fd=PySem.W.fnOf x qual (defArgs st) (defBody st) (defScope st) .none kV doc pm an cdv ct∧K.lookup f=some ⟨oc,od,.func fd,osl⟩∧PySem.W.codeIn K cdv qual=true
  kp:PySem.W.keepIn K (.ref f)=true
section
variable {P:Program} {w:World} {K:PySem.W.Frag} {mg:Str→Option Value} {base:Heap}
theorem Fun.binds {x qual:Str} {st:Stmt} {f:Addr} {fd:FuncData} {ps:List Str} (F:Fun K x qual st f fd)
    (h:∀ (kV doc pm:Value) (an:Option Addr) (cdv ct:Value) (us:List Value),us.length=ps.length→bindArgs (PySem.W.fnOf x qual (defArgs st) (defBody st) (defScope st) .none kV doc pm an cdv ct) ⟨us,[]⟩=pure (ps.zip us)):Binds K fd ps []:=by
  obtain ⟨oc,od,kV,doc,pm,an,cdv,ct,osl,rfl,lk,hcd⟩:=F.ex
  exact .all (h kV doc pm an cdv ct)
theorem fun_mk {x qual:Str} {st:Stmt} {f:Addr} {oc:Value} {od an:Option Addr} {osl:Array (Option Value)} {kV doc pm cdv ct:Value} (l:K.lookup f=some ⟨oc,od,.func (PySem.W.fnOf x qual (defArgs st) (defBody st) (defScope st) .none kV doc pm an cdv ct),osl⟩)
    (c:PySem.W.codeIn K cdv qual=true) (k:PySem.W.keepIn K (.ref f)=true):Fun K x qual st f (PySem.W.fnOf x qual (defArgs st) (defBody st) (defScope st) .none kV doc pm an cdv ct):=⟨⟨oc,od,kV,doc,pm,an,cdv,ct,osl,rfl,l,c⟩,k⟩
end
theorem hu_of {A:Around} {k:Nat} (hr:Room k A):A.units + 1 < cLine:=Nat.lt_of_le_of_lt (Nat.add_le_add_left (by decide:1≤64) _) hr.units
section
variable {X:Cx}
theorem pv (i:Nat) {x:Str} {pos:Pos} (hN:X.N[i]?=some x:=by rfl) (hv:Vis X.env.scope x:=by first | exact Or.inl rfl | exact Or.inr (Or.inl rfl) | exact Or.inr (Or.inr rfl)) (hd:(x == ("__debug__":Str))=false:=by decide)
    (hcd:(x == ("__classdict__":Str))=false:=by decide):PE X (.Name x pos) (tVar i):=pe_var hN hv hd hcd
end
theorem ite2 {c A B:Prop} [Decidable c] (h1:c→A) (h2:¬ c→B):if c then A else B:=by
  by_cases h:c
  · rw [if_pos h]
    exact h1 h
  · rw [if_neg h]
    exact h2 h
def Same (H H':Hp):Prop:=∀ b o,H b=some o→H' b=some o
theorem Same.refl (H:Hp):Same H H:=fun _ _ h=>h
theorem Same.trans {H H1 H2:Hp} (a:Same H H1) (b:Same H1 H2):Same H H2:=fun c o h=>b c o (a c o h)
end L2
namespace L2
open PySem PySem.Spec PyProof.Rows
section
variable {X:Cx}
end
section
variable {κ:Type} [DecidableEq κ]
theorem valV_not {kvs:List (κ × V)} {k:κ} (h:valV kvs k=none):¬ k∈kvs.map (·.1):=by
  intro m
  obtain ⟨p,hp,e⟩:=List.mem_map.mp m
  have q:(kvs.any fun kv=>decide (kv.1=k))=true:=List.any_eq_true.mpr ⟨p,hp,decide_eq_true e⟩
  rw [valV_any,h] at q
  exact absurd q (by simp)
theorem valV_in {kvs:List (κ × V)} {k:κ} {v:V} (h:valV kvs k=some v):k∈kvs.map (·.1):=by
  have q:(kvs.any fun kv=>decide (kv.1=k))=true:=by
    rw [valV_any,h]
    all_goals rfl
  obtain ⟨p,hp,e⟩:=List.any_eq_true.mp q
  exact List.mem_map.mpr ⟨p,hp,of_decide_eq_true e⟩
theorem nd_snoc:∀ {l:List κ} {k:κ},l.Nodup→¬ k∈l→(l ++ [k]).Nodup
  | [],k,_,_=>by simp
  | a :: r,k,h,hk=>by
    obtain ⟨h1,h2⟩:=List.nodup_cons.mp h
    show (a :: (r ++ [k])).Nodup
    refine List.nodup_cons.mpr ⟨fun m=>?_,nd_snoc h2 fun m=>hk (List.mem_cons.mpr (Or.inr m))⟩
    rcases List.mem_append.mp m with q | q
    · exact h1 q
    · exact hk (List.mem_cons.mpr (Or.inl (List.mem_singleton.mp q).symm))
theorem nd_putK {kvs:List (κ × V)} {k:κ} (v:V) (hn:(kvs.map (·.1)).Nodup) (h:valV kvs k=none):((putK kvs k v).map (·.1)).Nodup:=by
  rw [putK_new v h,List.map_append]
  exact nd_snoc hn (valV_not h)
theorem dropK_neg {p:κ × V} {r:List (κ × V)} {k:κ} (e:¬ p.1=k):dropK (p :: r) k=p :: dropK r k:=by
  unfold dropK
  rw [List.filter_cons,if_pos (by simp [e])]
theorem dropK_no:∀ {kvs:List (κ × V)} {k:κ},¬ k∈kvs.map (·.1)→dropK kvs k=kvs
  | [],_,_=>rfl
  | p :: r,k,h=>by
    have h':¬ k∈r.map (·.1):=fun m=>by
      obtain ⟨q,hq,e⟩:=List.mem_map.mp m
      exact h (List.mem_map.mpr ⟨q,List.mem_cons.mpr (Or.inr hq),e⟩)
    rw [dropK_neg fun e=>h (List.mem_map.mpr ⟨p,List.mem_cons.mpr (Or.inl rfl),e⟩),dropK_no h']
end
end L2
set_option Elab.async false
set_option linter.all false
set_option maxRecDepth 100000
set_option maxHeartbeats 4000000
namespace L2
open PySem PySem.Spec PyProof.Rows
def Cx.comp (X:Cx) (scope:Scope) (cl:List (Str × Addr)) (C:Addr) (N:List Str) (fp:List Addr) (s:Shared) (H:Hp):Cx :=
  { X with env:=compEnvC scope cl C X.env,N:=N,s₀:=s,H₀:=H,outer:=X.stack,ex:=fp,fn:=fun _=>false,pn:=[],xe:=fun _ _=>False }
structure CompScope (X:Cx) (scope:Scope) (cl:List (Str × Addr)) (ix:List Nat):Prop where
  clos:closureFor scope X.env=pure cl
  nocell:∀ y∈scope.names,y.2≠.cell
  kind:scope.kind=.function
  names:∀ y∈scope.names,y.2=.local→scope.names.lookup y.1=some .local
  sub:∀ y c,cl.lookup y=some c→X.env.cells.lookup y=some c
  has:∀ y,((relabel scope X.env).names.lookup y=some .cell∨(relabel scope X.env).names.lookup y=some .free)→∃ c,cl.lookup y=some c
  cap:∀ i∈ix,∃ y,X.N[i]?=some y∧(X.env.kindOf y=some .cell∨X.env.kindOf y=some .free)∧((relabel scope X.env).names.lookup y=some .cell∨(relabel scope X.env).names.lookup y=some .free)
def closOf (scope:Scope) (env:Env):List (Str × Addr):=scope.names.foldl (fun cs y=>if y.2 == .free then (y.1,(env.cells.lookup y.1).getD 0) :: cs else cs) []
def compD (osc:Scope) (N:List Str) (sc:Scope) (ix:List Nat):Bool :=
  sc.kind == .function && sc.names.all (fun y=>y.2 != .cell && (y.2 != .local || sc.names.lookup y.1 == some .local) && (y.2 != .free || osc.names.lookup y.1 == some .cell || osc.names.lookup y.1 == some .free)) &&
    ix.all fun i=>match N[i]? with
      | some y=>sc.names.lookup y == some .free
      | none=>false
theorem mem_of_look {l:List (Str × NameKind)} {y:Str} {k:NameKind} (h:l.lookup y=some k):(y,k)∈l:=PySem.mem_of_lookup h
theorem relabel_look {env:Env}:∀ {names:List (Str × NameKind)} {x:Str} {k:NameKind},(names.map fun (n,k)=>if (k == NameKind.free && env.scope.kind == .function && env.kindOf n == some .cell) then (n,NameKind.cell) else (n,k)).lookup x=some k →
    ∃ k',names.lookup x=some k'∧(k'=.free∨k'=k)
  | [],_,_,h=>by simp at h
  | (n,k') :: r,x,k,h=>by
    have ih:=@relabel_look env r x k
    rw [List.map_cons] at h
    cases hx:x == n with
    | true =>
      by_cases hc:(k' == NameKind.free && env.scope.kind == .function && env.kindOf n == some .cell)=true
      · have e:k'=.free:=by
          have:=(Bool.and_eq_true _ _ ▸ (Bool.and_eq_true _ _ ▸ hc).1).1
          simpa using this
        exact ⟨k',by simp [List.lookup_cons,hx],.inl e⟩
      · simp only [if_neg hc,List.lookup_cons,hx] at h
        exact ⟨k',by simp [List.lookup_cons,hx],.inr (Option.some.inj h)⟩
    | false =>
      have h':(r.map fun (n,k)=>if (k == NameKind.free && env.scope.kind == .function && env.kindOf n == some .cell) then (n,NameKind.cell) else (n,k)).lookup x=some k:=by
        by_cases hc:(k' == NameKind.free && env.scope.kind == .function && env.kindOf n == some .cell)=true
        · simp only [if_pos hc,List.lookup_cons,hx] at h;exact h
        · simp only [if_neg hc,List.lookup_cons,hx] at h;exact h
      obtain ⟨q,e,r'⟩:=ih h'
      exact ⟨q,by simp only [List.lookup_cons,hx];exact e,r'⟩
theorem relabel_free {env:Env}:∀ {names:List (Str × NameKind)} {x:Str},names.lookup x=some .free →
    ((names.map fun (n,k)=>if (k == NameKind.free && env.scope.kind == .function && env.kindOf n == some .cell) then (n,NameKind.cell) else (n,k)).lookup x=some .cell ∨
      (names.map fun (n,k)=>if (k == NameKind.free && env.scope.kind == .function && env.kindOf n == some .cell) then (n,NameKind.cell) else (n,k)).lookup x=some .free)
  | [],_,h=>by simp at h
  | (n,k') :: r,x,h=>by
    have ih:=@relabel_free env r x
    rw [List.map_cons]
    cases hx:x == n with
    | true =>
      simp only [List.lookup_cons,hx] at h
      cases h
      by_cases hc:(NameKind.free == NameKind.free && env.scope.kind == .function && env.kindOf n == some .cell)=true
      · left;simp only [if_pos hc,List.lookup_cons,hx]
      · right;simp only [if_neg hc,List.lookup_cons,hx]
    | false =>
      simp only [List.lookup_cons,hx] at h
      by_cases hc:(k' == NameKind.free && env.scope.kind == .function && env.kindOf n == some .cell)=true
      · simp only [if_pos hc,List.lookup_cons,hx];exact ih h
      · simp only [if_neg hc,List.lookup_cons,hx];exact ih h
theorem clos_fold {env:Env}:∀ (l:List (Str × NameKind)) (cs:List (Str × Addr)),(∀ y∈l,y.2=.free→∃ c,env.cells.lookup y.1=some c) →
    (∀ y c,cs.lookup y=some c→env.cells.lookup y=some c)→∀ y c,(l.foldl (fun cs y=>if y.2 == .free then (y.1,(env.cells.lookup y.1).getD 0) :: cs else cs) cs).lookup y=some c→env.cells.lookup y=some c
  | [],_,_,h,y,c,e=>h y c e
  | z :: r,cs,hl,h,y,c,e=>by
    rw [List.foldl_cons] at e
    refine clos_fold r _ (fun y hy=>hl y (List.mem_cons_of_mem _ hy)) (fun y' c' e'=>?_) y c e
    by_cases hz:z.2=.free
    · obtain ⟨c0,h0⟩:=hl z List.mem_cons_self hz
      have hb:(z.2 == NameKind.free)=true:=by simpa using hz
      rw [if_pos hb,h0,List.lookup_cons] at e'
      cases hq:y' == z.1 with
      | true =>
        rw [hq] at e'
        have e2:y'=z.1:=by simpa using hq
        cases e'
        rw [e2];exact h0
      | false=>rw [hq] at e';exact h _ _ e'
    · have hb:(z.2 == NameKind.free)=false:=by simpa using hz
      rw [hb] at e'
      exact h _ _ e'
theorem clos_has {env:Env}:∀ (l:List (Str × NameKind)) (cs:List (Str × Addr)) (y:Str),((∃ c,cs.lookup y=some c)∨(y,NameKind.free)∈l) →
    ∃ c,(l.foldl (fun cs y=>if y.2 == .free then (y.1,(env.cells.lookup y.1).getD 0) :: cs else cs) cs).lookup y=some c
  | [],_,_,h=>h.elim id fun z=>nomatch z
  | z :: r,cs,y,h=>by
    rw [List.foldl_cons]
    refine clos_has r _ y ?_
    rcases h with ⟨c,h⟩ | h
    · left
      by_cases hz:(z.2 == NameKind.free)=true
      · rw [if_pos hz,List.lookup_cons]
        cases y == z.1 with
        | true=>exact ⟨_,rfl⟩
        | false=>exact ⟨c,h⟩
      · rw [if_neg hz];exact ⟨c,h⟩
    · rcases List.mem_cons.mp h with h | h
      · left
        subst h
        rw [if_pos (by rfl),List.lookup_cons]
        simp
      · exact .inr h
theorem clos_eq {env:Env}:∀ (l:List (Str × NameKind)) (cs:List (Str × Addr)),(∀ y∈l,y.2=.free→∃ c,env.cells.lookup y.1=some c) →
    forIn (m:=Sem) l cs (fun x r=>match x with | (name,kind)=>if (kind == NameKind.free)=true then do let c ← cellOf env name;pure (ForInStep.yield ((name,c) :: r)) else pure (ForInStep.yield r)) =
      pure (l.foldl (fun cs y=>if y.2 == .free then (y.1,(env.cells.lookup y.1).getD 0) :: cs else cs) cs)
  | [],_,_=>rfl
  | (n,k) :: r,cs,h=>by
    rw [List.forIn_cons,List.foldl_cons]
    by_cases hz:(k == NameKind.free)=true
    · obtain ⟨c,hc⟩:=h (n,k) List.mem_cons_self (by simpa using hz)
      have e:cellOf env n=pure c:=by unfold cellOf;rw [hc]
      simp only [hz,if_true,e,pure_bind]
      rw [clos_eq r _ fun y hy=>h y (List.mem_cons_of_mem _ hy)]
      simp only [hc,Option.getD_some]
    · simp only [hz,if_false,pure_bind]
      exact clos_eq r _ fun y hy=>h y (List.mem_cons_of_mem _ hy)
theorem compScope_of {X:Cx} {osc scope:Scope} {N:List Str} {ix:List Nat} (ok:X.Ok) (h:compD osc N scope ix=true) (hs:X.env.scope=osc) (hN:X.N=N):CompScope X scope (closOf scope X.env) ix:=by
  subst hs hN
  unfold compD at h
  rw [Bool.and_eq_true,Bool.and_eq_true,List.all_eq_true,List.all_eq_true] at h
  obtain ⟨⟨h1,h2⟩,h3⟩:=h
  have p:∀ y∈scope.names,y.2≠.cell∧(y.2=.local→scope.names.lookup y.1=some .local)∧(y.2=.free→X.env.kindOf y.1=some .cell∨X.env.kindOf y.1=some .free):=fun y hy=>by
    have q:=h2 y hy
    rw [Bool.and_eq_true,Bool.and_eq_true] at q
    obtain ⟨⟨q1,q2⟩,q3⟩:=q
    refine ⟨by simpa using q1,fun e=>?_,fun e=>?_⟩
    · rw [e] at q2;simpa using q2
    · rw [e] at q3
      have q3':X.env.scope.names.lookup y.1=some .cell∨X.env.scope.names.lookup y.1=some .free:=by simpa using q3
      exact q3'
  have f:∀ y∈scope.names,y.2=.free→∃ c,X.env.cells.lookup y.1=some c:=fun y hy e=>ok.has y.1 ((p y hy).2.2 e)
  refine ⟨?_,fun y hy=>(p y hy).1,by simpa using h1,fun y hy=>(p y hy).2.1,fun y c e=>clos_fold scope.names [] f (fun _ _ z=>by simp at z) y c e,fun y hy=>?_,fun i hi=>?_⟩
  · have e:=clos_eq scope.names [] f
    unfold closureFor closOf
    refine Eq.trans (congrArg (fun m=>m >>= fun s=>(pure s:Sem (List (Str × Addr)))) e) ?_
    rw [pure_bind]
  · refine clos_has scope.names [] y (.inr ?_)
    rcases hy with hy | hy
    · obtain ⟨k',e,z | z⟩:=relabel_look hy
      · subst z;exact mem_of_look e
      · subst z;exact absurd rfl (p _ (mem_of_look e)).1
    · obtain ⟨k',e,z | z⟩:=relabel_look hy
      · subst z;exact mem_of_look e
      · subst z;exact mem_of_look e
  · have q:=h3 i hi
    cases hy:X.N[i]? with
    | none=>rw [hy] at q;cases q
    | some y =>
      rw [hy] at q
      have q':scope.names.lookup y=some .free:=by simpa using q
      exact ⟨y,rfl,(p _ (mem_of_look q')).2.2 rfl,relabel_free q'⟩
def capV (ix:List Nat) (σ:St):St:=ix.map fun i=>(σ[i]?).getD none
def capN (ix:List Nat) (N:List Str):List Str:=ix.map fun i=>(N[i]?).getD ""
section
variable {X:Cx} {pins:List (Addr × Obj)} {σ:St} {H:Hp} {s:Shared} {scope:Scope} {cl:List (Str × Addr)} {ix:List Nat} {fp:List Addr} {C:Addr} {xs:List Str}
theorem Inv.compOk (I:Inv X pins σ H s) (S:CompScope X scope cl ix) (hC:C=s.heap.objs.size) (hf:∀ b∈fp,FpOk X pins H b) (hl:∀ b∈fp,b < s.heap.objs.size) (N':List Str) :
    (X.comp scope cl C N' fp s H).Ok where
  mod:=I.ok.mod
  kind:=S.kind
  glob:=I.ok.glob
  blt:=I.ok.blt
  above:=Nat.le_of_eq hC.symm
  inj:=fun x y c h1 h2=>I.ok.inj x y c (S.sub x c h1) (S.sub y c h2)
  has:=fun x hx=>S.has x hx
  cab:=fun x c h1 _=>nomatch h1
  hd:=I.ok.hd
  frames:=I.ok.frames
  stk:=.inl rfl
  exf:=fun b hb=>⟨fun z=>absurd (hl b hb) (by rw [z];show ¬ C < _;rw [hC];exact Nat.lt_irrefl _),fun x c h=>(hf b hb).2.2.2.2.1 x c (S.sub x c h)⟩
  bs:=I.bs
  bsz:=Nat.le_trans I.ok.bsz I.sz
  noex:=fun b o e hb=>by
    rcases (hf b hb).2.2.2.1 with z | z
    · exact I.ok.noex b o e z
    · exact absurd (Nat.lt_of_lt_of_le (Heap.lt_size e) (Nat.le_trans I.ok.bsz z)) (Nat.lt_irrefl _)
  exfs:=fun b hb z=>by
    rcases List.mem_cons.mp (I.stkSub b z) with e | e
    · exact (hf b hb).2.1 e
    · exact (hf b hb).2.2.1 e
  funs:=I.stack
  frf:=I.stkFree
theorem Inv.comp {h₁:Heap} {m₁:Str→Option Value} {t':Nat} (I:Inv X pins σ H s) (S:CompScope X scope cl ix) (hC:C=s.heap.objs.size) (hf:∀ b∈fp,FpOk X pins H b) (hl:∀ b∈fp,b < s.heap.objs.size)
    (hn:h₁.Ns C m₁) (hk:∀ b o,s.heap.get? b=some o→h₁.get? b=some o) :
    Inv (X.comp scope cl C (xs ++ capN ix X.N) fp s H) [] (List.replicate xs.length none ++ capV ix σ) H { s with heap:=h₁,toks:=t' } where
  ok:=I.compOk S hC hf hl _
  os:=rfl
  bare:=I.bare
  base:=Un.kept hk
  loc:=by
    refine ⟨m₁,hn,fun i y v e1 e2 e3=>?_⟩
    by_cases hi:i < xs.length
    · rw [List.getElem?_append_left (by simpa using hi),List.getElem?_replicate,if_pos hi] at e2
      cases e2
    · have e1':(xs ++ capN ix X.N)[i]?=some y:=e1
      rw [List.getElem?_append_right (by omega)] at e1'
      rw [List.getElem?_append_right (by rw [List.length_replicate];omega),List.length_replicate] at e2
      generalize i - xs.length=j at e1' e2
      unfold capN at e1'
      unfold capV at e2
      rw [List.getElem?_map] at e1' e2
      cases hj:ix[j]? with
      | none=>rw [hj] at e1';cases e1'
      | some k =>
        rw [hj] at e1' e2
        obtain ⟨y',c1,c2,c3⟩:=S.cap k (List.mem_of_getElem? hj)
        have ey:y'=y:=by
          have q:(X.N[k]?).getD ""=y:=Option.some.inj e1'
          rw [c1] at q
          exact q
        subst ey
        have ev:σ[k]?=some (some v):=by
          have q:(σ[k]?).getD none=some v:=Option.some.inj e2
          cases hs:σ[k]? with
          | none=>rw [hs] at q;cases q
          | some o=>rw [hs] at q;exact congrArg some q
        obtain ⟨m,hm,hv⟩:=I.loc
        obtain ⟨u,r,l⟩:=hv k y' v c1 ev (c2.elim (fun z=>.inr (.inl z)) fun z=>.inr (.inr z))
        refine ⟨u,r,.inr ⟨c3,?_⟩⟩
        rcases l with ⟨l1,_⟩ | ⟨_,c,lc,⟨o,ho,hd⟩⟩
        · rcases c2 with z | z <;> (rw [l1] at z;cases z)
        · obtain ⟨c',hc'⟩:=S.has y' c3
          have e:=S.sub _ _ hc'
          rw [lc] at e
          cases e
          exact ⟨c,hc',o,hk _ _ ho,hd⟩
  cell:=fun x c e=>by
    obtain ⟨v,o,ho,hd⟩:=I.cell x c (S.sub x c e)
    exact ⟨v,o,hk _ _ ho,hd⟩
  free:=I.hok.fresh (Nat.le_of_eq hC.symm)
  freeC:=fun x c e=>I.freeC x c (S.sub x c e)
  pin:=fun p hp=>absurd (show p∈([]:List (Addr × Obj)) from hp) (by simp)
  hok:=I.hok.kept hk
  len:=by
    show (List.replicate xs.length none ++ capV ix σ).length=(xs ++ capN ix X.N).length
    rw [List.length_append,List.length_append,List.length_replicate,capV,capN,List.length_map,List.length_map]
theorem Inv.uncomp {s':Shared} {σ':St} {H':Hp} {N':List Str} {h':Heap} (I:Inv X pins σ H s) (hC:C=s.heap.objs.size) (hf:∀ b∈fp,FpOk X pins H b)
    (J:Inv (X.comp scope cl C N' fp s H) [] σ' H' s') (hb:Heap.SameBut C s'.heap h'):Inv X pins σ H' { s' with heap:=h' }:=by
  have lt:∀ b o,s.heap.get? b=some o→b≠C:=fun b o e=>by
    rw [hC];exact Nat.ne_of_lt (Heap.lt_size e)
  have B:Un (frs X.stack) fp H H' s.heap s'.heap:=J.base
  refine I.call' (s':={ s' with heap:=h' }) (ch:=fp) J.os ?_ ?_ J.bare ?_
  · exact ⟨fun b o e n h1 h2=>(hb.2 b (lt b o e)).trans (B.keep b o e n h1 h2),fun b o e n h1 h2=>by
      obtain ⟨sl,q⟩:=B.slot b o e n h1 h2
      exact ⟨sl,(hb.2 b (lt b o e)).trans q⟩,B.free,fun b o e h1=>by
      obtain ⟨o',q⟩:=B.there b o e h1
      exact ⟨o',(hb.2 b (lt b o e)).trans q⟩,B.tups,B.frzs,B.tbls⟩
  · intro b o e
    refine (J.hok b o e).stay (fun c u hc q=>(hb.2 c ?_).trans q) (fun _ q=>q) fun _ _ q=>q
    have hC0:H' C=none:=J.free
    rintro rfl
    rcases hc with rfl | hc
    · rw [hC0] at e;cases e
    · rw [hC0] at hc;cases hc
  · intro b hb'
    obtain ⟨f0,f1,f2,f3,f4,f5⟩:=hf b hb'
    exact ⟨f3,f1,f4,f5⟩
end
def PTs (X:Cx) (ifs:List Expr) (t:TT):Prop :=
  ∀ (pins:List (Addr × Obj)) (s:Shared) (σ:St) (H:Hp) (Q:Bool→Hp→Prop),Inv X pins σ H s→t σ H Q →
    wpAny (model X.prog X.w) X.A (forIn ifs true fun c r=>if r=true then do let ok ← isTrue c X.env (eval c X.env);pure (ForInStep.yield ok) else pure (ForInStep.yield r)) (TP X pins σ Q) X.xe s
def tYes:TT:=fun _ H Q=>Q true H
theorem pts_nil {X:Cx}:PTs X [] tYes:=fun _ _ _ H _ I h=>wpAny_tests_nil ⟨H,I,h⟩
section
variable {prog:Program} {w:World} {A:Around} {R:Result→Shared→Prop} {s:Shared}
theorem compLoop_any {elt target iter:Expr} {ifs:List Expr} {scope:Scope} {pos:Pos} {it acc:Value} {env:Env} (W:Nat→Shared→Prop) {EE:Value→Shared→Prop}
    (hE:∀ e s',EE e s'→notedBy (model prog w) A env (fun e s'=>R (.error e) s') e s')
    (turn:∀ n s,W n s→wpAny (model prog w) A (pyNext it) (fun r s₁=>match r with
      | none=>R (.ok .next) s₁
      | some v=>wpAny (model prog w) A (letOwnedTupleGo target it v) (fun _ t₁=>wpAny (model prog w) A (assign target env v) (fun _ s₂ =>
          wpAny (model prog w) A (forIn ifs true fun c r=>if r=true then do let ok ← isTrue c env (eval c env);pure (ForInStep.yield ok) else pure (ForInStep.yield r)) (fun ok s₃ =>
            if ok=true then wpAny (model prog w) A (eval elt env) (fun x s₄=>wpAny (model prog w) A (call (.builtin "list.append") [acc,x]) (fun _ s₅=>∃ m,m < n∧W m s₅) EE s₄) EE s₃
            else ∃ m,m < n∧W m s₃) EE s₂) EE t₁) EE s₁) EE s)
    (n:Nat) (h:W n s):codeAny (model prog w) A (.compLoop (.ListComp elt [⟨target,iter,ifs,0⟩] scope pos) 0 it acc env) R s:=by
  refine codeAny_loop rfl W (fun n s hW=>?_) n h
  show wpAny _ A ((compTurn (.ListComp elt [⟨target,iter,ifs,0⟩] scope pos) 0 it acc env).onRaise (fun x=>do noteFrame x env;theTreesLotGoes x)) _ _ s
  refine wpAny_noted (wpAny_mono ?_ (fun _ _ q=>q) hE)
  rw [compTurn_list]
  refine wpAny_bind (wpAny_standAt (wpAny_bind (thn (turn n s hW) fun r s₁ h₁=>?_)))
  cases r with
  | none=>exact wpAny_pure h₁
  | some v =>
    refine wpAny_bind (thn h₁ fun _ t₁ k₁=>?_)
    refine wpAny_bind (thn k₁ fun _ s₂ h₂=>wpAny_bind (thn h₂ fun ok s₃ h₃=>?_))
    cases ok with
    | false=>exact wpAny_pure ⟨rfl,h₃⟩
    | true=>exact wpAny_bind (wpAny_bind (thn h₃ fun x s₄ h₄=>wpAny_bind (thn h₄ fun _ s₅ h₅=>wpAny_pure (wpAny_pure ⟨rfl,h₅⟩))))
end
def tComp (wi:TI) (g:TG) (tt:TT) (te:TE) (k:Nat) (ix:List Nat):TE:=fun σ H Q=>wi σ H fun J H1=>∀ D,H1 D=none →
  ∃ W:Nat→Nat→List V→St→Hp→Prop,(∃ m,W 0 m [] (List.replicate k none ++ capV ix σ) (upd H1 D (.lst [])))∧∀ i m ys τ H,W i m ys τ H→H D=some (.lst ys) ∧
    ((J.stop i H∧Q (.ref D) H)∨(J.go i H∧ys.length < sizeLine∧∃ N:V→St→Hp→Prop,
      (∀ v τ' H',N v τ' H'→H' D=some (.lst ys)∧∃ m',m' < m∧W (i + 1) m' (ys ++ [v]) τ' (upd H' D (.lst (ys ++ [v]))))∧∃ Nf:St→Hp→Prop,(∀ τ' H',Nf τ' H'→∃ m',m' < m∧W (i + 1) m' ys τ' H') ∧
      ∀ x H',J.yld i H x H'→g x τ H' fun τ2 H2=>tt τ2 H2 fun b H3=>if b=true then te τ2 H3 fun v H4=>N v τ2 H4 else Nf τ2 H3))
section
variable {X:Cx} {elt iter tg:Expr} {ifs:List Expr} {scope:Scope} {pos:Pos} {cl:List (Str × Addr)} {ix:List Nat} {xs:List Str} {wi:TI} {g:TG} {tt:TT} {te:TE}
theorem comp_block (S:CompScope X scope cl ix) (hc:X.calm=true) (hi:PI X tg iter wi)
    (hg:∀ C fp s H,PG (X.comp scope cl C (xs ++ capN ix X.N) fp s H) tg g) (ht:∀ C fp s H,PTs (X.comp scope cl C (xs ++ capN ix X.N) fp s H) ifs tt)
    (he:∀ C fp s H,PE (X.comp scope cl C (xs ++ capN ix X.N) fp s H) elt te)
    {pins:List (Addr × Obj)} {s:Shared} {σ:St} {H:Hp} {Q:VK} (I:Inv X pins σ H s) (h:tComp wi g tt te xs.length ix σ H Q) {RR:Value→Addr→Result→Shared→Prop}
    (hR:∀ v u s' C,RelV v u→(∃ H',Q v H'∧(∃ m,s'.heap.Ns C m)∧(∀ h',Heap.SameBut C s'.heap h'→Inv X pins σ H' { s' with heap:=h' })∧FpOk X pins H' C)→RR u C (.ok .next) s') :
    wpAny (model X.prog X.w) X.A (eval iter X.env) (fun x s₁=>wpAny (model X.prog X.w) X.A (pyIter x) (fun it s₂=>wpAny (model X.prog X.w) X.A (newList []) (fun acc s₃ =>
      wpAny (model X.prog X.w) X.A (newFunctionEnv scope X.env.globals cl [] X.env.qual none .none (some X.env)) (fun cenv s₄ =>
        codeAny (model X.prog X.w) X.A (.compStart (.ListComp elt [⟨tg,iter,ifs,0⟩] scope pos) 0 it acc { cenv with scope:=relabel scope X.env }) (RR acc cenv.locals) s₄) X.xe s₃) X.xe s₂) X.xe s₁) X.xe s:=by
  refine thn (hi pins s σ H _ I h) fun v s1 h1=>thn h1 fun itv s2 h2=>?_
  obtain ⟨it,fp,tn,J,H2,e,I2,T,st2,f2,hW⟩:=h2
  subst e
  refine wpAny_newObj_type (wpAny_newFunctionEnv S.nocell (fun y hy=>nomatch hy) (fun h₁ hns₁ hsb₁=>?_) S.kind)
  dsimp only at hns₁ hsb₁ ⊢
  obtain ⟨W,⟨m0,w0⟩,turn⟩:=hW s2.heap.objs.size I2.fresh
  have I3:=I2.lnew (t':=s2.toks) (ys:=[]) (its:=[]) .nil (Nat.zero_le _)
  have hl3:∀ b∈fp,b < s2.heap.objs.size:=fun b hb=>by
    obtain ⟨o,e,_⟩:=T.obj _ _ st2 b hb
    exact Heap.lt_size e
  generalize hs3:({ s2 with heap:=s2.heap.push { cls:=.type "list",data:=.seq ([]:List Value).toArray },toks:=s2.toks }:Shared)=s3 at I3
  have hs3h:s3.heap=s2.heap.push { cls:=.type "list",data:=.seq ([]:List Value).toArray }:=by rw [← hs3]
  have hsz:s3.heap.objs.size=s2.heap.objs.size + 1:=by rw [hs3h,Heap.size_push]
  have f3:∀ b∈fp,FpOk X pins (upd H2 s2.heap.objs.size (.lst [])) b:=fun b hb=>by
    obtain ⟨q0,q⟩:=f2 b hb
    exact ⟨by rw [upd_ne (Nat.ne_of_lt (hl3 b hb))];exact q0,q⟩
  have hl3':∀ b∈fp,b < s3.heap.objs.size:=fun b hb=>by rw [hsz];exact Nat.lt_succ_of_lt (hl3 b hb)
  rw [← hs3h] at hns₁ hsb₁ ⊢
  have hk:∀ b o,s3.heap.get? b=some o→h₁.get? b=some o:=fun b o e=>(hsb₁.2 b (Nat.ne_of_lt (Heap.lt_size e))).trans (Heap.get?_push_of_some _ e)
  have hk2:∀ b o,s2.heap.get? b=some o→s3.heap.get? b=some o:=fun b o e=>by rw [hs3h];exact Heap.get?_push_of_some _ e
  have J0:=I3.comp (xs:=xs) (t':=s2.toks) (C:=s3.heap.objs.size) S rfl f3 hl3' hns₁ hk
  have st3:tn 0 h₁:=T.keep _ _ _ st2 fun b _ o e=>hk b o (hk2 b o e)
  have loop:∀ tk,codeAny (model X.prog X.w) X.A (.compLoop (.ListComp elt [⟨tg,iter,ifs,0⟩] scope pos) 0 (.ref it) (.ref s2.heap.objs.size) (compEnvC scope cl s3.heap.objs.size X.env))
      (RR (.ref s2.heap.objs.size) s3.heap.objs.size) { s3 with heap:=h₁,toks:=tk }:=by
    intro tk
    refine compLoop_any (EE:=fun _ _=>False) (fun n s'=>∃ i ys τ H',Inv (X.comp scope cl s3.heap.objs.size (xs ++ capN ix X.N) fp s3 (upd H2 s2.heap.objs.size (.lst []))) [] τ H' s'∧tn i s'.heap∧(∀ b∈fp,H' b=none)∧W i n ys τ H')
      (fun _ _ z=>z.elim) ?_ m0 ⟨0,[],_,_,J0.tok tk,st3,fun b hb=>(f3 b hb).1,w0⟩
    rintro n s' ⟨i,ys,τ,H',I',st',fr',w'⟩
    have stat:∀ {H':Hp},(∀ b∈fp,H' b=none)→∀ b∈fp,FpOk (X.comp scope cl s3.heap.objs.size (xs ++ capN ix X.N) fp s3 (upd H2 s2.heap.objs.size (.lst []))) [] H' b:=fun hn b hb =>
      ⟨hn b hb,(I'.ok.exf b hb).1,I'.ok.exfs b hb,.inl hb,(I'.ok.exf b hb).2,fun p hp=>absurd (show p∈([]:List (Addr × Obj)) from hp) (by simp)⟩
    obtain ⟨hD,⟨stop,q⟩ | ⟨go,hz,N,hN,Nf,hNf,step⟩⟩:=turn i n ys τ H' w'
    · refine thn (T.done (X.comp scope cl s3.heap.objs.size (xs ++ capN ix X.N) fp s3 (upd H2 s2.heap.objs.size (.lst []))) rfl rfl rfl hc i [] s' τ H' _ I' (stat fr') st' stop) fun r s4 ⟨hr,I4⟩=>?_
      subst hr
      refine hR (.ref s2.heap.objs.size) _ s4 _ rfl ⟨H',q,?_,fun h' hb=>I3.uncomp rfl f3 I4 hb,I3.fpOk (Nat.le_refl _) I4.free⟩
      obtain ⟨m,hn,_⟩:=I4.loc
      exact ⟨m,hn⟩
    · refine thn (T.item (X.comp scope cl s3.heap.objs.size (xs ++ capN ix X.N) fp s3 (upd H2 s2.heap.objs.size (.lst []))) rfl rfl rfl hc i [] s' τ H' _ I' (stat fr') st' go) fun r s4 ⟨u,hr,h4⟩=>?_
      subst hr
      refine thn h4 fun _ s5 ⟨x,H5,I5,r5,y5,st5,fr5⟩=>?_
      have I5':=I5.pinned (stat fr5) (T.obj _ _ st5)
      refine thn (hg _ _ _ _ _ s5 τ H5 x u _ I5' r5 (step x H5 y5)) fun _ s6 ⟨τ6,H6,I6,q6⟩=>?_
      refine thn (ht _ _ _ _ _ s6 τ6 H6 _ I6 q6) fun ok s7 ⟨H7,I7,q7⟩=>?_
      have back:∀ {s8:Shared} {H8:Hp} {m:Nat} {zs:List V},Inv (X.comp scope cl s3.heap.objs.size (xs ++ capN ix X.N) fp s3 (upd H2 s2.heap.objs.size (.lst []))) ([] ++ pinsAt fp s5.heap) τ6 H8 s8→W (i + 1) m zs τ6 H8 →
          ∃ i ys τ H',Inv (X.comp scope cl s3.heap.objs.size (xs ++ capN ix X.N) fp s3 (upd H2 s2.heap.objs.size (.lst []))) [] τ H' s8∧tn i s8.heap∧(∀ b∈fp,H' b=none)∧W i m ys τ H':=fun {s8 H8 m zs} I8 w8=>by
        refine ⟨i + 1,zs,τ6,H8,I8.unpinned,T.keep _ _ _ st5 fun b hb o e=>(I8.pin (b,o) (List.mem_append_right _ (List.mem_append_right _ (mem_pinsAt hb e)))).1,fun b hb=>?_,w8⟩
        obtain ⟨o,e,d⟩:=T.obj _ _ st5 b hb
        exact (I8.pin (b,o) (List.mem_append_right _ (List.mem_append_right _ (mem_pinsAt hb e)))).2.1
      cases ok with
      | false =>
        rw [if_neg Bool.false_ne_true] at q7 ⊢
        obtain ⟨m',hm,w7⟩:=hNf _ _ q7
        exact ⟨m',hm,back I7 w7⟩
      | true =>
        rw [if_pos rfl] at q7 ⊢
        refine thn (he _ _ _ _ _ s7 τ6 H7 _ I7 q7) fun y s8 ⟨v8,H8,I8,r8,n8⟩=>?_
        obtain ⟨hD8,m',hm,w8⟩:=hN _ _ _ n8
        refine thn (mt_append _ s8 τ6 H8 (.ref s2.heap.objs.size) [v8] (.ref s2.heap.objs.size) [y] (fun _ Hn=>∃ m,m < n∧W (i + 1) m (ys ++ [v8]) τ6 Hn) I8 rfl (.cons r8 .nil) ⟨_,ys,v8,rfl,rfl,hD8,hz,m',hm,w8⟩) fun _ s9 ⟨_,H9,I9,_,m9,hm9,w9⟩=>?_
        exact ⟨m9,hm9,back I9 w9⟩
  have e3:∀ tk,({ s3 with heap:=h₁,toks:=tk }:Shared)={ s2 with heap:=h₁,toks:=tk }:=fun tk=>by rw [← hs3]
  have loop':∀ tk,codeAny (model X.prog X.w) X.A (.compLoop (.ListComp elt [⟨tg,iter,ifs,0⟩] scope pos) 0 (.ref it) (.ref s2.heap.objs.size) (compEnvC scope cl s3.heap.objs.size X.env))
      (RR (.ref s2.heap.objs.size) s3.heap.objs.size) { s2 with heap:=h₁,toks:=tk }:=fun tk=>by rw [← e3];exact loop tk
  exact codeAny_compStart_list (loop' _) (T.self _ 0 _ _ _ st3 (loop' _))
theorem pe_comp {osc:Scope} {N:List Str} (hc:X.calm=true) (hD:compD osc N scope ix=true) (hi:PI X tg iter wi)
    (hg:∀ C fp s H,PG (X.comp scope (closOf scope X.env) C (xs ++ capN ix X.N) fp s H) tg g) (ht:∀ C fp s H,PTs (X.comp scope (closOf scope X.env) C (xs ++ capN ix X.N) fp s H) ifs tt)
    (he:∀ C fp s H,PE (X.comp scope (closOf scope X.env) C (xs ++ capN ix X.N) fp s H) elt te) (hsc:X.env.scope=osc:=by rfl) (hN:X.N=N:=by rfl) (hs:∀ x,foldedSetIterable iter X.env x=pure x:=by intro _;rfl) :
    PE X (.ListComp elt [⟨tg,iter,ifs,0⟩] scope pos) (tComp wi g tt te xs.length ix):=by
  intro pins s σ H Q I h
  have S:=compScope_of I.ok hD hsc hN
  rw [eval_ListComp]
  refine wpAny_comprehension_free (use:=none) rfl hs S.clos S.kind S.names (comp_block S hc hi hg ht he I h (RR:=fun acc C=>compPost (model X.prog X.w) X.A X.xe none (EP X pins σ Q) acc C) ?_)
  rintro v u s' C r ⟨H',q,⟨m,hn⟩,hI,_⟩
  exact ⟨m,hn,fun h' hb=>⟨v,H',hI h' hb,r,q⟩⟩
end
end L2
namespace L2
open PySem PySem.Spec PyProof.Rows
abbrev rAddS:R2:=fun x y H Q=>∃ i j,x=.str i∧y=.str j∧i.length + j.length≤sizeLine∧Q (.str (i ++ j)) H
abbrev rInS:R2:=fun x y H Q=>∃ i j,x=.str i∧y=.str j∧Q (.bl (!(Builtin.Str.occurrences j i 0 j.length 1).isEmpty)) H
abbrev rNotInS:R2:=fun x y H Q=>∃ i j,x=.str i∧y=.str j∧Q (.bl (!(!(Builtin.Str.occurrences j i 0 j.length 1).isEmpty))) H
abbrev rIsB:R2:=fun x y H Q=>∃ a b,x=.bl a∧y=.bl b∧Q (.bl (a == b)) H
abbrev rIsNotB:R2:=fun x y H Q=>∃ a b,x=.bl a∧y=.bl b∧Q (.bl (a != b)) H
abbrev rIsN:R2:=fun x y H Q=>y=.non∧Q (.bl (decide (x=.non))) H
abbrev rNotN:R2:=fun x y H Q=>y=.non∧Q (.bl (!decide (x=.non))) H
abbrev RC:=List V→Hp→VK→Prop
abbrev cLen (K:PySem.W.Frag):RC:=fun xs H Q=>∃ x n,xs=[x]∧LenV K x H n∧Q (.int n) H
abbrev cIsi (K:PySem.W.Frag):RC:=fun xs H Q=>∃ x c t b,xs=[x,c]∧TyOf K H x t∧(∃ T,c=.ty T∧PySem.W.kitOne K t (.type T)=some b)∧Q (.bl b) H
abbrev cAll (K:PySem.W.Frag):RC:=fun xs H Q=>∃ (a:Addr) (bs:List Bool),xs=[.ref a]∧SqL K H a (bs.map V.bl)∧Q (.bl (bs.all id)) H
abbrev cAbs:RC:=fun xs H Q=>∃ i,xs=[.int i]∧Q (.int (if i < 0 then -i else i)) H
abbrev cStr:RC:=fun xs H Q=>∃ i,xs=[.int i]∧i.natAbs.log2 < 1920∧Q (.str (toString i)) H
abbrev RM:=V→List V→Hp→VK→Prop
abbrev r_mt_startswith:RM:=fun x xs H Q=>∃ a b,x=.str a∧xs=[.str b]∧Q (.bl (0 + b.length≤a.length && Builtin.Str.subAt a b 0)) H
def spP (pre:List V→Hp→Prop) (post:List V→Hp→V→Hp→Prop):Sp:=fun vs H Q _=>pre vs H∧∀ r H',post vs H r H'→Same H H'→Q r H'
abbrev cInt:RC:=fun xs H Q=>∃ (x:Str) (n:Int),xs=[.str x]∧PySem.intText? x=some n∧x.length≤640∧Q (.int n) H
abbrev r_mt_upper:RM:=fun x xs H Q=>∃ a:Str,x=.str a∧xs=[]∧(∀ c∈a.cps.toList,c < 128)∧a.length≤sizeLine∧∀ y:Str,y.length=a.length→Q (.str y) H
theorem new_obj {H:Hp} {p:Addr} {o:HO} (h:H p=none):∃ H',H'=upd H p o∧Same H H'∧H' p=some o :=
  ⟨_,rfl,fun b u e=>by rw [upd_ne (ne_of_none e h)];exact e,upd_same⟩
theorem isV (p:Addr) {H:Hp} {o:HO} (h:H p=none):Same H (upd H p o):=fun b u e=>by rw [upd_ne (ne_of_none e h)];exact e
theorem bt_len:bootBuiltins "len"=some (.builtin "len"):=by decide +kernel
theorem bt_isinstance:bootBuiltins "isinstance"=some (.builtin "isinstance"):=by decide +kernel
theorem bt_sorted:bootBuiltins "sorted"=some (.builtin "sorted"):=by decide +kernel
theorem bt_str:bootBuiltins "str"=some (.type "str"):=by decide +kernel
theorem bt_int:bootBuiltins "int"=some (.type "int"):=by decide +kernel
theorem bt_bool:bootBuiltins "bool"=some (.type "bool"):=by decide +kernel
theorem bt_list:bootBuiltins "list"=some (.type "list"):=by decide +kernel
theorem bt_tuple:bootBuiltins "tuple"=some (.type "tuple"):=by decide +kernel
section
variable {X:Cx}
def big:Int:=10 ^ 200
def CDivB (_ j:Int):Prop:=0 < j∧j < big
def CMulB (i j:Int):Prop:=(-big < i∧i < big)∧(-big < j∧j < big)
theorem log2_big {j:Int} (h:j.natAbs < 10 ^ 200):j.natAbs.log2 < 700:=by
  by_cases h0:j.natAbs=0
  · rw [h0];decide
  · exact (Nat.log2_lt h0).mpr (Nat.lt_of_lt_of_le h (by decide +kernel))
theorem abs_big {j:Int} (h:-big < j∧j < big):j.natAbs < 10 ^ 200:=by
  have e:big=((10 ^ 200:Nat):Int):=by decide +kernel
  rw [e] at h
  omega
theorem CMulB.ok {i j:Int} (h:CMulB i j):IntMulOk i j:=by
  have b:∀ k:Int,(-big < k∧k < big)→Builtin.Int.intBits k≤2 ^ 20:=fun k hk=>by
    have q:=log2_big (abs_big hk)
    unfold Builtin.Int.intBits
    split <;> omega
  exact .of_bits (b i h.1) (b j h.2)
theorem op_mulB:OpR X (binaryOp .Mult) (rI CMulB fun i j=>.int (i * j)):=opI fun _ _ _ _ _ _ _ hc q=>mul_int q hc.ok
theorem op_fdivB:OpR X (binaryOp .FloorDiv) (rI CDivB fun i j=>.int (i / j)):=opI fun i j _ _ _ _ _ hc q=>by
  have h1:(0:Int) < j:=hc.1
  refine floordiv_int (by omega) ?_ (.inl (PyProof.noPylong_of_log2 (Nat.lt_trans (log2_big (abs_big ⟨by have:=hc.2;omega,hc.2⟩)) (by decide))))
  rw [Int.fdiv_eq_ediv_of_nonneg i (by omega)]
  exact q
theorem op_is_bl:OpR X (compareOp .Is) (fun x y H Q=>∃ a b,x=.bl a∧y=.bl b∧Q (.bl (a == b)) H):=by
  intro pins s σ H x y v u Q I rx ry h
  obtain ⟨a,b,rfl,rfl,q⟩:=h
  cases rx
  cases ry
  exact is_bool ⟨.bl (a == b),H,I,rfl,q⟩
theorem op_isnot_bl:OpR X (compareOp .IsNot) (fun x y H Q=>∃ a b,x=.bl a∧y=.bl b∧Q (.bl (a != b)) H):=by
  intro pins s σ H x y v u Q I rx ry h
  obtain ⟨a,b,rfl,rfl,q⟩:=h
  cases rx
  cases ry
  exact isnot_bool ⟨.bl (a != b),H,I,rfl,q⟩
theorem call_isi:CallR X (.builtin "isinstance") (cIsi X.K):=by
  intro pins s σ H xs us Q I r h
  obtain ⟨x,c,t,b,rfl,ty,⟨T,rfl,e⟩,q⟩:=h
  obtain ⟨u,w',rfl,r1,r2⟩:=vals2 r
  cases r2
  exact isinst_ok I r1 ty e fun tk=>⟨.bl b,H,I.tok tk,rfl,q⟩
def Its (x:Str):It:=⟨fun i _=>i < x.cps.size,fun i H v H'=>H'=H∧∃ c,x.cps[i]?=some c∧v=.str ⟨#[c]⟩,fun i _=>x.cps.size≤i⟩
def iStr (tl:TE):TI:=fun σ H R=>tl σ H fun x H1=>∃ z,x=.str z∧R (Its z) H1
def rSlS:V→Option Int→Option Int→Hp→VK→Prop:=fun x lo hi H Q=>∃ z,x=.str z∧z.length≤sizeLine∧Q (.str (Txt.slice z lo hi)) H
theorem sl_str:SlR X rSlS:=by
  intro pins s σ H x v vl vu lo hi sl Q I rx hs pl pu h
  obtain ⟨z,rfl,hz,q⟩:=h
  obtain ⟨t,rfl⟩:=rx
  obtain ⟨o,ho,hc,hd⟩:=hs
  refine ⟨"str",_,F.slot_str_getitem.lookup,typeIs_str _ _ _,?_⟩
  obtain ⟨l,e1,e2⟩:∃ l:Option (Int × Tok),vl=partValue l∧lo=l.map (·.1):=by
    cases pl with
    | none=>exact ⟨none,rfl,rfl⟩
    | int i t=>exact ⟨some (i,t),rfl,rfl⟩
  obtain ⟨u,e3,e4⟩:∃ l:Option (Int × Tok),vu=partValue l∧hi=l.map (·.1):=by
    cases pu with
    | none=>exact ⟨none,rfl,rfl⟩
    | int i t=>exact ⟨some (i,t),rfl,rfl⟩
  subst e1 e2 e3 e4
  exact wpAny_getItem_str_slice (l:=l) (u:=u) (st:=none) ⟨o,ho,hc,hd⟩ rfl
    (post_val_or_str ⟨Nat.le_trans (Txt.slice_le z _ _) hz,fun t' k=>⟨.str (Txt.slice z (l.map (·.1)) (u.map (·.1))),H,I.tok k,⟨t',rfl⟩,q⟩⟩)
end
end L2
namespace L2
open PySem PySem.Spec PyProof.Rows
theorem ObjOk.there {P:Program} {w:World} {H:Hp} {h:Heap} {a:Addr} {o:HO} (x:ObjOk P w H h a o):∃ u,h.get? a=some u:=by
  cases o with
  | lst xs=>obtain ⟨_,_,_,_,e⟩:=x;exact ⟨_,e⟩
  | tup xs=>obtain ⟨_,_,_,o,e,_⟩:=x;exact ⟨_,e⟩
  | dK kvs=>obtain ⟨_,_,_,_,o,_,_,e,_⟩:=x;exact ⟨_,e⟩
  | dT kvs=>obtain ⟨_,_,_,_,o,_,_,e,_⟩:=x;exact ⟨_,e⟩
  | set S n=>obtain ⟨o,_,_,_,e,_⟩:=x;exact ⟨_,e⟩
  | ins C dx fs=>obtain ⟨_,_,_,e,_⟩:=x;exact ⟨_,e⟩
  | own y=>exact x
  | xd fs=>obtain ⟨_,⟨o,_,_,e,_⟩,_⟩:=x;exact ⟨_,e⟩
  | rng lo hi=>obtain ⟨_,_,_,e⟩:=x;exact ⟨_,e⟩
  | frz ob u=>obtain ⟨e,_⟩:=x;exact ⟨_,e⟩
  | tbl ps=>exact ⟨_,(show h.get? a=some _ from x)⟩
  | met f y=>exact ⟨_,(show h.get? a=some _ from x)⟩
  | ext φ=>obtain ⟨_,e,_⟩:=x;exact e
def XF (g h:Heap) (H:Hp) (e:Addr) (cls:Value):Prop :=
  ∃ oe vs a0 T oT ts,h.get? e=some oe∧(oe.cls=cls∧vs[0]?=some a0)∧oe.data=.fields vs∧vs[1]?=some (.ref T)∧T≠e∧h.get? T=some oT∧oT.data=.fields ts∧ts[3]?=some .none ∧
    g.get? e=none∧g.get? T=none∧H e=none∧H T=none
def CX1 (P:Program) (w:World):CXT:=fun outer H s E ev s'=>∃ e cls H',ev=.ref e∧s'.os=s.os∧AllBare s'.gens∧Un (frs outer) [] H H' s.heap s'.heap∧HOk P w H' s'.heap∧XF s.heap s'.heap H' e cls∧E cls none H'
theorem none_back {g h:Heap} (k:∀ b o,g.get? b=some o→∃ o',h.get? b=some o') {b:Addr} (e:h.get? b=none):g.get? b=none:=by
  cases q:g.get? b with
  | none=>rfl
  | some o =>
    obtain ⟨o',z⟩:=k b o q
    rw [e] at z;cases z
theorem XF.older {g g' h:Heap} {H:Hp} {e:Addr} {cls:Value} (x:XF g h H e cls) (k:∀ b o,g'.get? b=some o→∃ o',g.get? b=some o'):XF g' h H e cls:=by
  obtain ⟨oe,vs,a0,T,oT,ts,h1,h2,h3,h4,h5,h6,h7,h8,h9,h10,h11,h12⟩:=x
  exact ⟨oe,vs,a0,T,oT,ts,h1,h2,h3,h4,h5,h6,h7,h8,none_back k h9,none_back k h10,h11,h12⟩
section
variable {X:Cx} {pins:List (Addr × Obj)} {σ:St} {H:Hp} {s:Shared}
theorem Inv.stackFields (J:Inv X pins σ H s) {b:Addr} (hb:b∈frs X.stack):∃ o,s.heap.get? b=some o∧∀ vs,o.data≠.fields vs:=(J.stack.mem hb).2
theorem Inv.there0 (hex:X.ex=[]) (J:Inv X pins σ H s):∀ b o,X.s₀.heap.get? b=some o→∃ o',s.heap.get? b=some o':=fun b o e=>J.base.there b o e (by rw [hex];simp)
theorem Inv.behind {h2:Heap} {cs:List Addr} (hex:X.ex=[]) (J:Inv X pins σ H s) (hcs:∀ b∈cs,H b=none∧X.s₀.heap.get? b=none)
    (hB:∀ b o,s.heap.get? b=some o→b ∉ frs X.stack→b ∉ cs→h2.get? b=some o) (hF:∀ b o,s.heap.get? b=some o→b∈frs X.stack→∃ sl,h2.get? b=some { o with slots:=sl }) :
    Un X.fs [] X.H₀ H X.s₀.heap h2∧HOk X.prog X.w H h2:=by
  have B:Un X.fs [] X.H₀ H X.s₀.heap s.heap:=by have:=J.base;rw [hex] at this;exact this
  have nL:∀ b o,X.s₀.heap.get? b=some o→b≠X.env.locals:=fun b o e=>Nat.ne_of_lt (Nat.lt_of_lt_of_le (Heap.lt_size e) J.ok.above)
  have nC:∀ b o,X.s₀.heap.get? b=some o→b ∉ cs:=fun b o e z=>by rw [(hcs b z).2] at e;cases e
  have any:∀ b o,s.heap.get? b=some o→b ∉ cs→∃ sl,h2.get? b=some { o with slots:=sl }:=fun b o e n=>by
    by_cases hb:b∈frs X.stack
    · exact hF b o e hb
    · exact ⟨o.slots,hB b o e hb n⟩
  refine ⟨⟨fun b o e n h1 _=>?_,fun b o e n h1 _=>?_,B.free,fun b o e h1=>?_,B.tups,B.frzs,B.tbls⟩,fun b u e=>?_⟩
  · refine hB b o (B.keep b o e n h1 (by simp)) (fun z=>?_) (nC b o e)
    rcases List.mem_cons.mp (J.stkSub b z) with q | q
    · exact nL b o e q
    · exact h1 q
  · obtain ⟨sl,q⟩:=B.slot b o e n h1 (by simp)
    obtain ⟨sl',q'⟩:=any b _ q (nC b o e)
    exact ⟨sl',q'⟩
  · obtain ⟨o',q⟩:=B.there b o e (by simp)
    obtain ⟨sl,q'⟩:=any b o' q (nC b o e)
    exact ⟨_,q'⟩
  · refine (J.hok b u e).stay (fun c v hc q=>?_) (fun _ q=>q) fun _ _ q=>q
    have hn:H c≠none:=by
      rcases hc with rfl | hc
      · rw [e];simp
      · rw [hc];simp
    exact hB c v q (fun z=>hn (J.stkFree c z)) fun z=>hn (hcs c z).1
theorem Inv.flown {B h2:Heap} {cs:List Addr} {e:Addr} {cls a0:Value} (hex:X.ex=[]) (J:Inv X pins σ H s) (hcs:∀ b∈cs,H b=none∧X.s₀.heap.get? b=none)
    (hB:∀ b o,s.heap.get? b=some o→b ∉ frs X.stack→b ∉ cs→B.get? b=some o) (hF:∀ b o,s.heap.get? b=some o→b∈frs X.stack→∃ sl,h2.get? b=some { o with slots:=sl })
    (he:H e=none) (he0:X.s₀.heap.get? e=none) (kb:B.StaysIn h2) (tr:h2.TracedW B e cls a0) :
    Un X.fs [] X.H₀ H X.s₀.heap h2∧HOk X.prog X.w H h2∧XF X.s₀.heap h2 H e cls:=by
  have hk:=J.behind (h2:=h2) hex hcs (fun b o q n1 n2=>kb b o (hB b o q n1 n2)) hF
  refine ⟨hk.1,hk.2,?_⟩
  obtain ⟨oe,vs,T,oT,ts,h1,h2',h3,h4,h5,h6,h7,h8,h9⟩:=tr
  have noT:∀ o,s.heap.get? T=some o→T∈cs:=fun o q=>by
    by_cases hb:T∈frs X.stack
    · obtain ⟨o',q',nf⟩:=J.stackFields hb
      obtain ⟨sl,z⟩:=hF T o' q' hb
      rw [h7] at z
      have z':oT={ o' with slots:=sl }:=Option.some.inj z
      exact absurd (by rw [← h8,z']) (nf ts)
    · by_cases hc:T∈cs
      · exact hc
      · rw [hB T o q hb hc] at h5;cases h5
  refine ⟨oe,vs,a0,T,oT,ts,h1,h2',h3,h4,h6,h7,h8,h9,he0,?_,he,?_⟩
  · cases q:X.s₀.heap.get? T with
    | none=>rfl
    | some o =>
      obtain ⟨o',q'⟩:=J.there0 hex T o q
      rw [(hcs T (noT o' q')).2] at q;cases q
  · cases q:H T with
    | none=>rfl
    | some u =>
      obtain ⟨o,z⟩:=(J.hok T u q).there
      rw [(hcs T (noT o z)).1] at q;cases q
theorem leave_new {h':Heap} {e:Addr} {cls:Value} {vs:List Value} {E:XK} {EE:Value→Shared→Prop} (hst:X.stack=X.env :: X.outer∧X.env.frame=some X.env.locals) (hex:X.ex=[]) (J:Inv X pins σ H s) (hx:Heap.MadeExcOf s.heap h' e cls vs) (hE:E cls none H) :
    wpAny (model X.prog X.w) X.A (leaving X.env (.ref e)) (fun _ s2=>CX1 X.prog X.w X.outer X.H₀ X.s₀ E (.ref e) s2) EE { s with heap:=h' }:=by
  have fr:s.heap.FunFrames (PySem.W.hideAll s.heap (frs X.stack)) (X.env :: X.outer):=by
    have q:=PySem.W.funFrames_hide (as:=frs X.stack) J.stack fun env he a ha=>List.mem_filterMap.mpr ⟨env,he,ha⟩
    rw [hst.1] at q ⊢
    exact q
  refine wpAny_leaves_madeW (s:={ s with heap:=h' }) (base:=PySem.W.hideAll s.heap (frs X.stack)) (h:=s.heap) (by rw [J.ok.frames,hst.1]) hst.2 (fun b o q=>PySem.W.of_hideAll _ q) fr hx fun h2 t hfl _ _ hup=>?_
  obtain ⟨f1,f2,f3,f4⟩:=hfl
  have hF:∀ b o,s.heap.get? b=some o→b∈frs X.stack→∃ sl,h2.get? b=some { o with slots:=sl }:=fun b o q hb=>by
    obtain ⟨o',q',nf⟩:=J.stackFields hb
    rw [q] at q';cases q'
    exact hup b o (hx.keeps b o q) nf
  obtain ⟨r1,r2,r3⟩:=J.flown (cs:=[]) hex (fun b z=>nomatch z) (fun b o q n _=>PySem.W.hideAll_get _ q n) hF
    (by
      cases q:H e with
      | none=>rfl
      | some u =>
        obtain ⟨o,z⟩:=(J.hok e u q).there
        rw [hx.new] at z;cases z)
    (none_back (J.there0 hex) hx.new) f1 f4
  exact ⟨e,cls,H,rfl,J.os,J.bare,r1,r2,r3,hE⟩
theorem leave_on {e:Addr} {cls:Value} {E:XK} {EE:Value→Shared→Prop} (hst:X.stack=X.env :: X.outer∧X.env.frame=some X.env.locals) (hex:X.ex=[]) (J:Inv X pins σ H s) (xf:XF X.s₀.heap s.heap H e cls) (hE:E cls none H) :
    wpAny (model X.prog X.w) X.A (leaving X.env (.ref e)) (fun _ s2=>CX1 X.prog X.w X.outer X.H₀ X.s₀ E (.ref e) s2) EE s:=by
  obtain ⟨oe,vs,a0,T,oT,ts,h1,h2,h3,h4,h5,h6,h7,h8,h9,h10,h11,h12⟩:=id xf
  have fr:s.heap.FunFrames (PySem.W.hideAll s.heap (frs X.stack ++ [e,T])) (X.env :: X.outer):=by
    have q:=PySem.W.funFrames_hide (as:=frs X.stack ++ [e,T]) J.stack fun env he a ha=>List.mem_append_left _ (List.mem_filterMap.mpr ⟨env,he,ha⟩)
    rw [hst.1] at q ⊢
    exact q
  refine wpAny_leaves_onW (base:=PySem.W.hideAll s.heap (frs X.stack ++ [e,T])) (a0:=a0) (by rw [J.ok.frames,hst.1]) hst.2
    ⟨fun b o q=>PySem.W.of_hideAll _ q,PySem.W.hideAll_none _ (List.mem_append_right _ (by simp)),fr,oe,vs,T,oT,ts,h1,h2,h3,h4,PySem.W.hideAll_none _ (List.mem_append_right _ (by simp)),h5,h6,h7,h8⟩ fun h2' hfl hup=>?_
  obtain ⟨f1,f2,f3,f4⟩:=hfl
  have hF:∀ b o,s.heap.get? b=some o→b∈frs X.stack→∃ sl,h2'.get? b=some { o with slots:=sl }:=fun b o q hb=>by
    obtain ⟨o',q',nf⟩:=J.stackFields hb
    rw [q] at q';cases q'
    exact hup b o q nf
  obtain ⟨r1,r2,r3⟩:=J.flown (cs:=[e,T]) hex (fun b z=>by
      have z':b=e∨b=T:=by simpa using z
      rcases z' with rfl | rfl
      · exact ⟨h11,h9⟩
      · exact ⟨h12,h10⟩) (fun b o q n n2=>PySem.W.hideAll_get _ q fun z=>(List.mem_append.mp z).elim n n2) hF h11 h9 f1 f4
  exact ⟨e,cls,H,rfl,J.os,J.bare,r1,r2,r3,hE⟩
end
def Raises (X:Cx) (E:XK):Prop:=∀ (pins:List (Addr × Obj)) (σ:St) (H:Hp) (s:Shared) (h':Heap) (e:Addr) (cls:Value) (vs:List Value),Inv X pins σ H s→Heap.MadeExcOf s.heap h' e cls vs→E cls none H→X.xe (.ref e) { s with heap:=h' }
section
variable {P:Program} {w:World} {K:PySem.W.Frag} {mg:Str→Option Value} {base:Heap} {N:List Str} {qual:Str} {scope:Scope} {f:Addr} {cd:Value} {A:Around} {outer:List Env} {s₀:Shared} {H₀:Hp} {E:XK}
theorem pass1:Passes (CX1 P w) (cxOf (CX1 P w) P w K mg base N qual scope f cd A outer s₀ H₀ E) E:=by
  intro pins σ H s ev s' I hcx
  obtain ⟨e,cls,H',rfl,os,bare,un,hok,xf,hE⟩:=hcx
  have J:=I.call' (ch:=[]) os un hok bare (fun b z=>nomatch z)
  exact leave_on (X:=cxOf (CX1 P w) P w K mg base N qual scope f cd A outer s₀ H₀ E) ⟨rfl,rfl⟩ rfl J (xf.older (I.there0 rfl)) hE
theorem raises1:Raises (cxOf (CX1 P w) P w K mg base N qual scope f cd A outer s₀ H₀ E) E:=by
  intro pins σ H s h' e cls vs I hx hE
  exact leave_new (X:=cxOf (CX1 P w) P w K mg base N qual scope f cd A outer s₀ H₀ E) ⟨rfl,rfl⟩ rfl I hx hE
theorem own1:PassesOwn (model P w) (cxOf (CX1 P w) P w K mg base N qual scope f cd A outer s₀ H₀ E).A (cxOf (CX1 P w) P w K mg base N qual scope f cd A outer s₀ H₀ E).env (cxOf (CX1 P w) P w K mg base N qual scope f cd A outer s₀ H₀ E).xe:=PassesOwn.leaving
end
abbrev bmVal:List Value:=[.type "ValueError",.type "Exception",.type "BaseException",.type "object"]
abbrev newVal:String:="ValueError.__new__"
def tRaise (C:Addr) (ta:TA) (E:XK):TS:=fun _ σ H=>ta σ H fun vs H1=>vs.length≤sizeLine∧E (.ref C) none H1
theorem own_cls {K:PySem.W.Frag} {h:Heap} {C:Addr} {bmB:List Value} {newId:String} (X:K.In h) (q:PySem.W.excIn K C bmB newId=true) :
    ∃ bm N nm qn bs hdct sn sub ab col dd k0 k1 k2 k3 k5 mN,h.get? C=some (excClassObj nm qn C N bs bm hdct sn sub ab col dd k0 k1 k2 k3 k5 newId)∧h.Ns N mN∧mN "__init__"=none∧OwnTail h bmB bm:=by
  unfold PySem.W.excIn at q
  split at q
  case h_2=>cases q
  rename_i dd cd sl ho
  split at q
  case h_2=>cases q
  rename_i C' bm k0 k1 k2 k3 n k5 hm hs
  rw [Bool.and_eq_true,Bool.and_eq_true,Bool.and_eq_true,Bool.and_eq_true,Bool.and_eq_true] at q
  obtain ⟨⟨⟨⟨⟨q1,q2⟩,q3⟩,q4⟩,q5⟩,q6⟩:=q
  obtain rfl:C'=C:=by simpa using q1
  obtain rfl:n=newId:=by simpa using q2
  obtain ⟨nm,bs,mro,ns,qn,hd,sn,sub,ab,col,del⟩:=cd
  have hdel:del=false:=by simpa using q3
  have hm':mro=.ref C' :: bm:=hm
  subst hdel hm'
  have hsl:sl=#[k0,k1,k2,k3,some (.builtin n),k5]:=by
    apply Array.ext'
    exact hs
  subst hsl
  exact ⟨bm,ns,nm,qn,bs,hd,sn,sub,ab,col,dd,k0,k1,k2,k3,k5,_,X _ _ ho,.of_isNs (PySem.W.isNs_of_in X q5),PySem.W.nsMap_none_of_in X q5 (by simpa using q6),PySem.W.tail_of_in X q4⟩
section
variable {X:Cx} {x:Str} {C:Addr} {np cpos pos:Pos} {e₀:Expr} {rest:List Expr} {ta:TA} {E:XK}
theorem ps_raise (hc:X.calm=true) (q:PySem.W.excIn X.K C bmVal newVal=true) (hr:Raises X E) (hg:Gl X x) (hm:X.mg x=some (.ref C)) (ha:PA X (e₀ :: rest) ta)
    (he:starEach (e₀ :: rest) X.env=(false,eval e₀ X.env) :: starEach rest X.env:=by rfl) (hp:(backTo cpos (starEach rest X.env)).any (·.1)=false:=by rfl) (hd:(x == ("__debug__":Str))=false:=by decide) :
    PS X (.Raise (some (.Call (.Name x np) (e₀ :: rest) [] cpos)) none pos) (tRaise C ta E):=by
  intro pins s σ H D I h
  obtain ⟨tl,N,nm,qn,bs,hdct,sn,sub,ab,col,dd,k0,k1,k2,k3,k5,mN,hC,hN,hni,T⟩:=own_cls I.ok.mod.kin q
  refine wpAny_Raise_call_subT (C:=C) (nm:=nm) (q:=qn) (N:=N) (bs:=bs) (bm:=tl) (hdct:=hdct) (sn:=sn) (sub:=sub) (ab:=ab) (col:=col) (dd:=dd) (k0:=k0) (k1:=k1) (k2:=k2) (k3:=k3) (k5:=k5) (newId:=newVal)
    PySem.F.excBase_ValueError (mN:=mN) (T.hasType PySem.F.excBase_ValueError.hasBase) (I.ok.hd hc) (by rw [he];exact hp) hni (ld_glob I hg hm ⟨rfl,?_⟩ hd)
  have hA:=ha cpos pins s σ H _ I h
  rw [he] at hA ⊢
  refine Calls.evalArgs_plain (thn hA fun us s2 ⟨vs,H2,I2,r2,z2,q2⟩=>?_)
  exact ⟨rfl,by rw [← r2.length];exact z2,I2.bk _ _ hC,hN.keeps I2.bk,T.keeps I2.bk,fun h' e hm=>hr pins σ H2 s2 h' e _ _ I2 hm q2⟩
end
def Asc (x:Str):Prop:=∀ c∈x.cps.toList,c < 128
section
variable {X:Cx} {e:Expr} {te:TE} {a:Str} {j:Nat} {p1 p2 p3:Pos}
def tMsgR (te:TE):TE:=fun σ H Q=>te σ H fun v H1=>∃ x:Str,v=.str x∧x.length≤100000∧Asc x∧∀ y:Str,Q (.str y) H1
def tMsgS (te:TE):TE:=fun σ H Q=>te σ H fun v H1=>∃ x:Str,v=.str x∧x.length≤100000∧∀ y:Str,Q (.str y) H1
theorem pe_msgS (he:PE X e te) (hl:a.length≤1000:=by decide +kernel):PE X (.JoinedStr [.FormattedValue e (-1) none p2,.Constant (.str a) j p1] p3) (tMsgS te):=by
  intro pins s σ H Q I h
  refine wpAny_JoinedStr ?_
  show wpAny _ _ (eval (.FormattedValue e (-1) none p2) X.env) _ _ s
  refine wpAny_FormattedValue_plain (thn (he pins _ σ H _ I h) fun v s1 ⟨x,H1,I1,r1,z,ex,hz,q⟩=>?_)
  subst ex
  obtain ⟨t,rfl⟩:=r1
  have hs:sizeLine=16777216:=sizeLine_eq
  have e0:(Str.empty ++ z).length=z.length:=by rw [Str.length_append];simp [Str.empty,Str.length]
  have fin:∀ (t':Tok) (tk:Nat),∃ y u,Value.str z t'=Value.str y u∧(Str.empty ++ y).length≤sizeLine∧Joins (model X.prog X.w) X.A X.xe (evalEach [.Constant (.str a) j p1] X.env) (Str.empty ++ y) (fun out s₁=>out.length≤sizeLine∧EP X pins σ Q (.str out s₁.toks) { s₁ with toks:=s₁.toks + 1 }) { s1 with toks:=tk }:=fun t' tk=>by
    refine ⟨_,_,rfl,by rw [e0];omega,?_⟩
    show wpAny _ _ (eval (.Constant (.str a) j p1) X.env) _ _ _
    have hz2:(Str.empty ++ z ++ a).length≤sizeLine:=by rw [Str.length_append,e0];omega
    refine Calls.Constant_str ⟨a,_,rfl,hz2,hz2,.str _,H1,I1.tok _,⟨_,rfl⟩,q _⟩
  exact wpAny_formatField_str (fin _ _) (fin _ _) (by omega)
end
end L2
namespace L2
open PySem PySem.Spec PyProof.Rows
structure ExC (K:PySem.W.Frag) (C:Addr):Prop where
  ga:PySem.W.findIn K (.ref C) "__getattribute__"=some (some (.builtin "BaseException.__getattribute__"))
  gx:PySem.W.findIn K (.ref C) "__getattr__"=some none
  cl:PySem.W.findIn K (.ref C) "__class__"=some (some (.builtin "object.__class__"))
  ob:PySem.W.mroIn K C (.type "object")=some true
  be:PySem.W.mroIn K C (.type "BaseException")=some true
  ge:PySem.W.specialIn K (.builtin "object.__class__") "__get__"=some (some (.builtin "getset_descriptor.__get__"))
  tk:PySem.W.takesIn K (.builtin "object.__class__")=some true
section
variable {prog:Program} {w:World} {A:Around} {E:Value→Shared→Prop} {K:PySem.W.Frag} {e C:Addr} {s:Shared}
open PySem.Builtin PySem.Builtin.Getset_descriptor in
end
end L2
namespace L2
open PySem PySem.Spec PyProof.Rows
section
variable {X:Cx} {pins:List (Addr × Obj)} {σ:St} {H:Hp} {s:Shared}
theorem Inv.land {h2:Heap} {cs:List Addr} (hex:X.ex=[]) (I:Inv X pins σ H s) (hcs:∀ b∈cs,H b=none∧X.s₀.heap.get? b=none) (hcp:∀ b∈cs,∀ p∈X.pn ++ pins,p.1≠b)
    (hB:∀ b o,s.heap.get? b=some o→b ∉ frs X.stack→b ∉ cs→h2.get? b=some o) (sm:s.heap.UpToSlots h2):Inv X pins σ H { s with heap:=h2 }:=by
  have hF:∀ b o,s.heap.get? b=some o→b∈frs X.stack→∃ sl,h2.get? b=some { o with slots:=sl }:=fun b o q hb=>by
    obtain ⟨o',q',nf⟩:=I.stackFields hb
    rw [q] at q';cases q'
    exact sm b o q nf
  obtain ⟨r1,r2⟩:=I.behind hex hcs hB hF
  have ce:∀ c v,s.heap.IsCell c v→h2.IsCell c v:=fun c v ⟨o,ho,hd⟩=>by
    obtain ⟨sl,q⟩:=sm c o ho fun vs z=>by rw [hd] at z;cases z
    exact ⟨_,q,hd⟩
  refine ⟨I.ok,I.os,I.bare,by rw [hex];exact r1,?_,fun x c e=>?_,I.free,I.freeC,fun p hp=>?_,r2,I.len⟩
  · obtain ⟨m,hn,hl⟩:=I.loc
    refine ⟨m,sm.ns hn,fun i x v e1 e2 e3=>?_⟩
    obtain ⟨u,r,l⟩:=hl i x v e1 e2 e3
    refine ⟨u,r,?_⟩
    rcases l with l | ⟨k,c,e,z⟩
    · exact .inl l
    · exact .inr ⟨k,c,e,ce c _ z⟩
  · obtain ⟨v,z⟩:=I.cell x c e
    exact ⟨v,ce c v z⟩
  · obtain ⟨e,n,ne,nf,d⟩:=I.pin p hp
    exact ⟨hB _ _ e (fun z=>(List.mem_cons.mp (I.stkSub _ z)).elim ne nf) fun z=>hcp _ z p hp rfl,n,ne,nf,d⟩
end
def exO (e C:Addr):HO:=.ext fun h=>∃ o,h.get? e=some o∧o.cls=.ref C
abbrev Cx.sub (X:Cx) (e:Addr):Cx:={ X with A:=X.A.mark (some (.ref e)),calm:=false,xe:=fun _ _=>False }
section
variable {X:Cx} {pins:List (Addr × Obj)} {σ:St} {H:Hp} {s:Shared} {e:Addr}
theorem Inv.toSub (I:Inv X pins σ H s):Inv (X.sub e) pins σ H s :=
  ⟨⟨I.ok.mod,I.ok.kind,I.ok.glob,I.ok.blt,I.ok.above,I.ok.inj,I.ok.has,I.ok.cab,(fun z=>nomatch z),I.ok.frames,I.ok.stk,I.ok.exf,I.ok.bs,I.ok.bsz,I.ok.noex,I.ok.exfs,I.ok.funs,I.ok.frf⟩,I.os,I.bare,I.base,I.loc,I.cell,I.free,I.freeC,I.pin,I.hok,I.len⟩
theorem Inv.ofSub {J:Inv X pins σ H s} {σ':St} {H':Hp} {s':Shared} (I:Inv (X.sub e) pins σ' H' s'):Inv X pins σ' H' s' :=
  ⟨J.ok,I.os,I.bare,I.base,I.loc,I.cell,I.free,I.freeC,I.pin,I.hok,I.len⟩
end
abbrev EXK:=Value→St→Hp→Prop
def PX (X:Cx) (pins:List (Addr × Obj)) (EX:EXK):Value→Shared→Prop:=fun ev s'=>∃ e cls σ s1 H1 H',ev=.ref e∧Inv X pins σ H1 s1∧Inv X pins σ H' s'∧XF s1.heap s'.heap H' e cls∧EX cls σ H'
def PEX (X:Cx) (ex:Expr) (t:EXK→TE):Prop :=
  ∀ (pins:List (Addr × Obj)) (s:Shared) (σ:St) (H:Hp) (Q:VK) (EX:EXK),Inv X pins σ H s→t EX σ H Q→wpAny (model X.prog X.w) X.A (eval ex X.env) (EP X pins σ Q) (PX X pins EX) s
def PSX (X:Cx) (st:Stmt) (t:EXK→TS):Prop :=
  ∀ (pins:List (Addr × Obj)) (s:Shared) (σ:St) (H:Hp) (D:Ends) (EX:EXK),Inv X pins σ H s→t EX D σ H→wpAny (model X.prog X.w) X.A (exec st X.env) (SP X pins D) (PX X pins EX) s
section
variable {X:Cx} {k:Nat} {f:Addr} {fd:FuncData} {ps:List Str} {sp:Sp} {x:Str} {p pos:Pos} {e:Expr} {es:List Expr} {t:TA}
def tCallX (sp:Sp) (ta:TA) (EX:EXK):TE:=fun σ H Q=>ta σ H fun vs H1=>sp (vs ++ []) H1 Q fun cls _ H2=>EX cls σ H2
end
section
variable {X:Cx} {ex:Expr} {tx:EXK→TE} {pos p1:Pos} {i:Nat} {y:Str}
def tDropX (tx:EXK→TE) (EX:EXK):TS:=fun D σ H=>tx EX σ H fun _ H1=>D.nx σ H1
def tRetX (tx:EXK→TE) (EX:EXK):TS:=fun D σ H=>tx EX σ H D.rt
def tAsgX (tx:EXK→TE) (i:Nat) (EX:EXK):TS:=fun D σ H=>tx EX σ H fun v H1=>D.nx (σ.set i (some v)) H1
theorem psx_set {pos':Pos} (hN:X.N.Nodup) (hi:X.N[i]?=some y) (hx:Loc X.env.scope y) (he:PEX X ex tx) (hs:swapsWith ex (some (.Name y pos')) pos.line X.env=pure false:=by rfl) (hf:X.fn y=true∨X.env.scope.names.lookup y=some .local:=by first | exact .inl rfl | exact .inr rfl | assumption) :
    PSX X (.Assign [.Name y pos'] ex pos) (tAsgX tx i):=by
  intro pins s σ H D EX I h
  refine wpAny_Assign_Name (thn (he pins s σ H _ EX I h) fun v s1 ⟨x,H1,I1,r1,q1⟩=>?_) hs
  exact store_ok I1 hN hi hx r1 (fun s2 I2=>⟨_,H1,I2,q1⟩) hf
end
structure ExK (K:PySem.W.Frag) (C:Addr):Prop extends ExC K C where
  has:(PySem.W.clsIn K C).isSome=true
def endT (i:Nat) (D:Ends):Ends:={ nx:=fun σ H=>D.nx (σ.set i none) H,rt:=D.rt,bk:=fun σ H=>D.bk (σ.set i none) H,ct:=fun σ H=>D.ct (σ.set i none) H }
def tTry (K:PySem.W.Frag) (tb:EXK→TS) (C0:Addr) (i:Nat) (th:TS):TS:=fun D σ H=>tb (fun cls σ1 H1=>∃ C,cls=.ref C∧ExK K C∧PySem.W.exmOne K (.ref C) (.ref C0)=some true ∧
  ∀ e,H1 e=none→th (endT i D) (σ1.set i (some (.ref e))) (upd H1 e (exO e C))) D σ H
section
variable {X:Cx} {st b₀:Stmt} {suite:List Stmt} {tb:EXK→TS} {th:TS} {c n:Str} {C0:Addr} {i:Nat} {np hpos pos:Pos}
end
end L2
namespace L2
open PySem PySem.Spec PyProof.Rows
def clsV:V→Option Value
  | .ty T=>some (.type T)
  | .ref D=>some (.ref D)
  | _=>none
abbrev cIsx (K:PySem.W.Frag):RC:=fun xs H Q=>∃ a C c cv b,xs=[.ref a,c]∧H a=some (exO a C)∧ExK K C∧clsV c=some cv∧PySem.W.kitOne K (.ref C) cv=some b∧Q (.bl b) H
abbrev cIsxT (K:PySem.W.Frag):RC:=fun xs H Q=>∃ a C p,∃ cs:List Addr,∃ b,xs=[.ref a,.ref p]∧H a=some (exO a C)∧ExK K C∧H p=some (.tup (cs.map V.ref))∧PySem.W.kitAny K (.ref C) (cs.map Value.ref)=some b∧Q (.bl b) H
section
variable {X:Cx}
end
theorem pass10 {P:Program} {w:World} {X:Cx}:Passes (CX1 P w) X E0:=fun _ _ _ _ _ _ _ h=>by
  obtain ⟨_,_,_,_,_,_,_,_,_,z⟩:=h
  exact z.elim
section
variable {P:Program} {w:World} {K:PySem.W.Frag} {mg:Str→Option Value} {base:Heap}
theorem Fun.ok1 {x qual:Str} {st:Stmt} {f:Addr} {fd:FuncData} {N ps:List Str} {k:Nat} {sp:Sp} (F:Fun K x qual st f fd) (S:FnScope N ps (defScope st)) (len:∀ vs H Q E,sp vs H Q E→vs.length=ps.length)
    (hbody:∀ (cdv:Value) (A:Around) (outer:List Env) (s:Shared) (H:Hp) (vs:List V) (Q:VK) (E:XK),Room k (A.deeper (envOfC qual (defScope st) s.heap.objs.size f cdv))→sp vs H Q E →
      ∃ t,PSs (cxOf (CX1 P w) P w K mg base N qual (defScope st) f cdv A outer s H E) (defBody st) t∧t { nx:=fun _ H'=>Q .non H',rt:=Q } (start N vs) H):FnOk P w K mg base (CX1 P w) (k + 1) f fd ps sp:=by
  obtain ⟨oc,od,kV,doc,pm,an,cdv,ct,osl,rfl,lk,hcd⟩:=F.ex
  exact fn_of lk hcd S len fun A outer s H vs Q E hr hsp=>hbody cdv A outer s H vs Q E hr hsp
theorem Fun.ok0 {x qual:Str} {st:Stmt} {f:Addr} {fd:FuncData} {N ps:List Str} {k:Nat} {sp:Sp} (F:Fun K x qual st f fd) (S:FnScope N ps (defScope st)) (len:∀ vs H Q E,sp vs H Q E→vs.length=ps.length)
    (hbody:∀ (cdv:Value) (A:Around) (outer:List Env) (s:Shared) (H:Hp) (vs:List V) (Q:VK) (E:XK),Room k (A.deeper (envOfC qual (defScope st) s.heap.objs.size f cdv))→sp vs H Q E →
      ∃ t,PSs (cxOf (CX1 P w) P w K mg base N qual (defScope st) f cdv A outer s H E).nox (defBody st) t∧t { nx:=fun _ H'=>Q .non H',rt:=Q } (start N vs) H):FnOk P w K mg base (CX1 P w) (k + 1) f fd ps sp :=
  F.ok1 S len fun cdv A outer s H vs Q E hr h=>let ⟨t,a,b⟩:=hbody cdv A outer s H vs Q E hr h;⟨t,a.nox,b⟩
end
theorem walk_ofX {l:PySem.W.OpenLaw} {n k:Nat} {q:Program} {loose:List Str} {XP:(Str→Option Value)→Heap→Prop} {YP:World→Heap→Prop} {d:DefRec} {K:Params→PySem.W.Frag} {sp:PySem.W.Frag→Sp} {x:Str}
    (hn:l.most=some n) (hn2:n≤sizeLine) (hdf:d.params.defaults=[]) (hr:Room k callerA)
    (hY:∀ (w:World) (h:Heap),YP w h→(K w.params).In h)
    (F:∀ (w:World) (mg:Str→Option Value) (fa:Addr) (h:Heap),(K w.params).In h→h.Ns mainGlobals mg→mg d.name=some (.ref fa) →
      ∃ fd:FuncData,(∀ (s:Shared) (u:Value),BindsTo s fd ⟨[u],[]⟩ [(x,u)]) ∧
        ∀ base:Heap,(K w.params).In base→base.Ns mainGlobals mg→FnOk l.prog w (K w.params) mg base (CX1 l.prog w) k fa fd [x] (sp (K w.params)))
    (hsp:∀ (K:PySem.W.Frag) (H:Hp) (a:Addr) (ns:List Int),ns.length≤n→Only H→SqL K H a (ns.map V.int)→sp K [.ref a] H (fun v _=>v=.bl true) fun _ _ _=>False) :
    PySem.W.WalkO q loose XP YP l.row.toRowW d [] (fun f vs=>PySem.call f vs) :=
  walk_of (K:=K) (CX:=fun w=>CX1 l.prog w) (sp:=fun w=>sp (K w.params)) hn hn2 hdf hr hY F (fun w H a ns h1 h2 h3=>hsp (K w.params) H a ns h1 h2 h3) fun _ _ _ _ _ z=>by
    obtain ⟨_,_,_,_,_,_,_,_,_,y⟩:=z
    exact y
end L2
namespace L2
open PySem
section
variable {σ:St} {H:Hp} {nx:St→Hp→Prop} {B:V→St→Hp→(St→Hp→Prop)→Prop}
theorem loop_range {lo:Int} {n:Nat} (Pv:Nat→St→Hp→Prop) (h0:Pv 0 σ H) (hs:∀ i σ H,i < n→Pv i σ H→B (.int (lo + i)) σ H (Pv (i + 1))) (hd:∀ σ H,Pv n σ H→nx σ H) :
    ∃ W:Nat→Nat→St→Hp→Prop,(∃ m,W 0 m σ H)∧∀ i m σ H,W i m σ H→((Itr lo n).stop i H∧nx σ H)∨((Itr lo n).go i H∧∃ N:St→Hp→Prop,(∀ σ' H',N σ' H'→∃ m',m' < m∧W (i + 1) m' σ' H')∧∀ x H',(Itr lo n).yld i H x H'→B x σ H' N):=by
  refine ⟨fun i m σ H=>m=n - i∧i≤n∧Pv i σ H,⟨n,by simp,Nat.zero_le _,h0⟩,?_⟩
  rintro i m σ H ⟨rfl,hi,p⟩
  by_cases hlt:i < n
  · refine .inr ⟨hlt,Pv (i + 1),fun σ' H' p'=>⟨n - (i + 1),by omega,rfl,hlt,p'⟩,?_⟩
    rintro x H' ⟨rfl,rfl⟩
    exact hs i σ _ hlt p
  · obtain rfl:i=n:=by omega
    exact .inl ⟨Nat.le_refl _,hd σ H p⟩
theorem loop_list {K:PySem.W.Frag} {a:Addr} (xs:List V) (Pv:Nat→St→Hp→Prop) (h0:Pv 0 σ H) (hl:∀ i σ H,Pv i σ H→SqL K H a xs) (hs:∀ i x σ H,xs[i]?=some x→Pv i σ H→B x σ H (Pv (i + 1))) (hd:∀ σ H,Pv xs.length σ H→nx σ H) :
    ∃ W:Nat→Nat→St→Hp→Prop,(∃ m,W 0 m σ H)∧∀ i m σ H,W i m σ H→((Itl K a).stop i H∧nx σ H)∨((Itl K a).go i H∧∃ N:St→Hp→Prop,(∀ σ' H',N σ' H'→∃ m',m' < m∧W (i + 1) m' σ' H')∧∀ x H',(Itl K a).yld i H x H'→B x σ H' N):=by
  refine ⟨fun i m σ H=>m=xs.length - i∧i≤xs.length∧Pv i σ H,⟨xs.length,by simp,Nat.zero_le _,h0⟩,?_⟩
  rintro i m σ H ⟨rfl,hi,p⟩
  have q:=hl i σ H p
  by_cases hlt:i < xs.length
  · refine .inr ⟨⟨xs,xs[i],q,by simp [hlt]⟩,Pv (i + 1),fun σ' H' p'=>⟨xs.length - (i + 1),by omega,rfl,hlt,p'⟩,?_⟩
    rintro x H' ⟨rfl,y⟩
    exact hs i x σ _ (y xs q) p
  · obtain rfl:i=xs.length:=by omega
    exact .inl ⟨⟨xs,q,Nat.le_refl _⟩,hd σ H p⟩
theorem loop_tup {K:PySem.W.Frag} {a:Addr} (xs:List V) (Pv:Nat→St→Hp→Prop) (h0:Pv 0 σ H) (hl:∀ i σ H,Pv i σ H→SqT K H a xs) (hs:∀ i x σ H,xs[i]?=some x→Pv i σ H→B x σ H (Pv (i + 1))) (hd:∀ σ H,Pv xs.length σ H→nx σ H) :
    ∃ W:Nat→Nat→St→Hp→Prop,(∃ m,W 0 m σ H)∧∀ i m σ H,W i m σ H→((Itt K a).stop i H∧nx σ H)∨((Itt K a).go i H∧∃ N:St→Hp→Prop,(∀ σ' H',N σ' H'→∃ m',m' < m∧W (i + 1) m' σ' H')∧∀ x H',(Itt K a).yld i H x H'→B x σ H' N):=by
  refine ⟨fun i m σ H=>m=xs.length - i∧i≤xs.length∧Pv i σ H,⟨xs.length,by simp,Nat.zero_le _,h0⟩,?_⟩
  rintro i m σ H ⟨rfl,hi,p⟩
  have q:=hl i σ H p
  by_cases hlt:i < xs.length
  · refine .inr ⟨⟨xs,xs[i],q,by simp [hlt]⟩,Pv (i + 1),fun σ' H' p'=>⟨xs.length - (i + 1),by omega,rfl,hlt,p'⟩,?_⟩
    rintro x H' ⟨rfl,y⟩
    exact hs i x σ _ (y xs q) p
  · obtain rfl:i=xs.length:=by omega
    exact .inl ⟨⟨xs,q,Nat.le_refl _⟩,hd σ H p⟩
end
theorem comp_gen {J:It} {D:Addr} {τ₀:St} {H1:Hp} {Q:Hp→Prop} {B:V→St→Hp→(V→St→Hp→Prop)→(St→Hp→Prop)→Prop} (n:Nat) (hn:n≤1000000) (C:St→Prop) (R:Nat→V→Prop) (hC:C τ₀)
    (go:∀ i H,Same H1 H→i < n→J.go i H) (stop:∀ H,Same H1 H→J.stop n H) (hD:H1 D=none)
    (hs:∀ i x τ H H',C τ→Same H1 H→i < n→J.yld i H x H'→B x τ H' (fun v τ' H4=>C τ'∧R i v∧Same H H4) (fun _ _=>False))
    (hd:∀ ys H,ys.length=n→(∀ i v,ys[i]?=some v→R i v)→Same H1 H→H D=some (.lst ys)→Q H) :
    ∃ W:Nat→Nat→List V→St→Hp→Prop,(∃ m,W 0 m [] τ₀ (upd H1 D (.lst [])))∧∀ i m ys τ H,W i m ys τ H→H D=some (.lst ys) ∧
    ((J.stop i H∧Q H)∨(J.go i H∧ys.length < sizeLine∧∃ N:V→St→Hp→Prop,
      (∀ v τ' H',N v τ' H'→H' D=some (.lst ys)∧∃ m',m' < m∧W (i + 1) m' (ys ++ [v]) τ' (upd H' D (.lst (ys ++ [v]))))∧∃ Nf:St→Hp→Prop,(∀ τ' H',Nf τ' H'→∃ m',m' < m∧W (i + 1) m' ys τ' H') ∧
      ∀ x H',J.yld i H x H'→B x τ H' N Nf)):=by
  have ext:∀ {H:Hp} {o:HO},Same H1 H→Same H1 (upd H D o):=fun {H o} h b u e=>by
    rw [upd_ne (ne_of_none e hD)];exact h b u e
  refine ⟨fun i m ys τ H=>m=n - i∧i≤n∧ys.length=i∧(∀ j v,ys[j]?=some v→R j v)∧Same H1 H∧H D=some (.lst ys)∧C τ,⟨n,by simp,Nat.zero_le _,rfl,by simp,ext (Same.refl _),upd_same,hC⟩,?_⟩
  rintro i m ys τ H ⟨rfl,hi,hl,hR,hS,hy,hc⟩
  refine ⟨hy,?_⟩
  by_cases hlt:i < n
  · refine .inr ⟨go i H hS hlt,Nat.lt_of_le_of_lt (by omega:ys.length≤1000000) (by decide),(fun v τ' H4=>C τ'∧R i v∧Same H H4),?_,(fun _ _=>False),fun _ _ z=>z.elim,fun x H' y=>hs i x τ H H' hc hS hlt y⟩
    rintro v τ' H4 ⟨c4,r4,s4⟩
    refine ⟨s4 _ _ hy,n - (i + 1),by omega,rfl,hlt,by simp [hl],fun j u hj=>?_,ext (hS.trans s4),upd_same,c4⟩
    rcases Nat.lt_trichotomy j ys.length with h | h | h
    · exact hR j u (by rwa [List.getElem?_append_left h] at hj)
    · subst h
      simp at hj
      subst hj
      rw [hl];exact r4
    · rw [List.getElem?_eq_none (by simp;omega)] at hj;cases hj
  · obtain rfl:i=n:=by omega
    exact .inl ⟨stop H hS,hd ys H hl hR hS hy⟩
theorem sIx_eq (n d:Nat) (v:Int):max (0:Int) (min (if v < 0 then v + n else v) n)=((HT.sIx n d (some v):Nat):Int):=by
  show _=(((if v < 0 then (v + (n:Int)).toNat else min v.toNat n):Nat):Int)
  by_cases hv:v < 0
  · simp only [if_pos hv];omega
  · simp only [if_neg hv];omega
theorem rng_one (a b:Nat):sliceRange (a:Int) (b:Int) 1=(List.range (b - a)).map fun k=>a + k:=by
  simp only [sliceRange,show ((1:Int) > 0)=True from by simp,if_true]
  by_cases hlt:(a:Int) < b
  · have e3:(((b:Int) - a + 1 - 1) / 1).toNat=b - a:=by rw [Int.ediv_one];omega
    simp only [hlt,if_true,e3]
    refine List.map_congr_left fun k _=>?_
    omega
  · have:b - a=0:=by omega
    simp [hlt,this]
theorem slice_ix (lo hi:Option Int) (n:Nat):Builtin.Str.strSliceIndices lo hi 1 n=(List.range (HT.sIx n n hi - HT.sIx n 0 lo)).map fun k=>HT.sIx n 0 lo + k:=by
  rw [← rng_one]
  unfold Builtin.Str.strSliceIndices
  simp only [show ((1:Int) > 0)=True from by simp,if_true]
  cases lo with
  | none =>
    cases hi with
    | none=>rfl
    | some v=>simp only [sIx_eq n n v];rfl
  | some u =>
    cases hi with
    | none=>simp only [sIx_eq n 0 u];rfl
    | some v=>simp only [sIx_eq n n v,sIx_eq n 0 u]
theorem slice_cps (x:Str) (lo hi:Option Int):(Txt.slice x lo hi).cps.toList=(x.cps.toList.drop (HT.sIx x.length 0 lo)).take (HT.sIx x.length x.length hi - HT.sIx x.length 0 lo):=by
  have hb:=HT.sIx_le x.length x.length (Nat.le_refl _) hi
  have hn:x.cps.toList.length=x.length:=by simp [Str.length]
  unfold Txt.slice
  rw [slice_ix]
  split
  · rename_i h
    have h':HT.sIx x.length x.length hi - HT.sIx x.length 0 lo=x.length:=by simpa using h
    have e0:HT.sIx x.length 0 lo=0∨x.length=0:=by omega
    rcases e0 with e0 | e0
    · rw [e0,List.drop_zero,List.take_of_length_le]
      omega
    · rw [List.eq_nil_of_length_eq_zero (by omega:x.cps.toList.length=0)];simp
  · by_cases hab:HT.sIx x.length 0 lo≤HT.sIx x.length x.length hi
    · have h:=StrLaws.picks x.cps.toList (HT.sIx x.length x.length hi - HT.sIx x.length 0 lo) (HT.sIx x.length 0 lo) (by omega)
      simpa using h
    · have:HT.sIx x.length x.length hi - HT.sIx x.length 0 lo=0:=by omega
      rw [this];simp
theorem slice_from (x:Str) (k:Nat):(Txt.slice x (some (k:Int)) none).cps.toList=x.cps.toList.drop k:=by
  rw [slice_cps,HT.sIx_none,HT.sIx_nat]
  have hn:x.cps.toList.length=x.length:=by simp [Str.length]
  by_cases h:k≤x.length
  · rw [Nat.min_eq_left h,List.take_of_length_le (by rw [List.length_drop];omega)]
  · rw [List.drop_eq_nil_of_le (by omega:x.cps.toList.length≤k),Nat.min_eq_right (by omega),List.drop_eq_nil_of_le (by omega)];simp
theorem slice_to (x:Str) (k:Nat):(Txt.slice x none (some (k:Int))).cps.toList=x.cps.toList.take k:=by
  rw [slice_cps,HT.sIx_none,HT.sIx_nat,List.drop_zero,Nat.sub_zero]
  have hn:x.cps.toList.length=x.length:=by simp [Str.length]
  by_cases h:k≤x.length
  · rw [Nat.min_eq_left h]
  · rw [Nat.min_eq_right (by omega),List.take_of_length_le (by omega),List.take_of_length_le (by omega)]
theorem str_ext {x y:Str} (h:x.cps.toList=y.cps.toList):x=y:=by
  obtain ⟨a⟩:=x
  obtain ⟨b⟩:=y
  have:a=b:=Array.toList_inj.mp h
  rw [this]
theorem cps_app (x y:Str):(x ++ y).cps.toList=x.cps.toList ++ y.cps.toList:=by
  show (x.cps ++ y.cps).toList=_
  simp
open PySem.NumText in
section
def numS (w:Int):Str:=Str.ofString (toString w)
theorem len_cps (x:Str):x.length=x.cps.toList.length:=by simp [Str.length]
def inF (c:Nat):Bool:=!(Builtin.Str.occurrences "0123456789" ⟨#[c]⟩ 0 (Str.length "0123456789") 1).isEmpty
def isFig (x:Str):Bool:=!decide (x="") && x.cps.toList.all inF
def inW (i:Int):Bool:=decide (-1000000000000000000000000000000≤i∧i≤1000000000000000000000000000000)
def fpart (x:Str):Str:=if (x.cps.toList.take 1 == [45])=true then Txt.slice x (some 1) none else x
def valOf (x:Str):Int:=(intText? x).getD 0
def isNum (x:Str):Bool:=!(decide (31 < (fpart x).length) || !isFig (fpart x)) && (inW (valOf x) && decide (numS (valOf x)=x))
end
end L2
namespace L2
open PySem PySem.Spec PyProof.Rows
def findS (x y:Str):Int:=match Builtin.Str.occurrences x y 0 x.length 1 with | i :: _=>(i:Int) | []=>-1
abbrev r_mt_find:RM:=fun x xs H Q=>∃ a b,x=.str a∧xs=[.str b]∧Q (.int (findS a b)) H
def joinS (sep:Str):List Str→Str
  | [p]=>p
  | l=>Builtin.Str.glued sep l
def sumL (sep:Str) (ls:List Str):Nat:=ls.foldl (fun n p=>n + p.length + sep.length) 0
abbrev r_mt_join (K:PySem.W.Frag):RM:=fun x xs H Q=>∃ sep a ls,x=.str sep∧xs=[.ref a]∧SqL K H a (ls.map V.str)∧sumL sep ls≤sizeLine∧Q (.str (joinS sep ls)) H
def repS (x:Str) (n:Int):Str:=if n < 1 then Str.empty else if (n == 1 || x.length == 0)=true then x else ⟨(List.replicate n.toNat x.cps).foldl (· ++ ·) #[]⟩
abbrev rMulS:R2:=fun x y H Q=>∃ a n,x=.str a∧y=.int n∧(n < 1000000∧-1000000 < n∧a.length * n.toNat≤1000000)∧Q (.str (repS a n)) H
section
variable {X:Cx}
end
theorem len_app (x y:Str):(x ++ y).length=x.length + y.length:=Str.length_append x y
end L2
namespace L2
open PySem PySem.Spec PyProof.Rows
section
open PySem.NumText
end
end L2
namespace L2
open PySem PySem.Spec PyProof.Rows
def CDivS (_ j:Int):Prop:=j≠0∧-big < j∧j < big
section
variable {X:Cx}
theorem op_fdivS:OpR X (binaryOp .FloorDiv) (rI CDivS fun i j=>.int (i.fdiv j)):=opI fun i j _ _ _ _ _ hc q =>
  floordiv_int hc.1 q (.inl (PyProof.noPylong_of_log2 (Nat.lt_trans (log2_big (abs_big hc.2)) (by decide))))
abbrev cIntB:RC:=fun xs H Q=>∃ b:Bool,xs=[.bl b]∧Q (.int (if b then 1 else 0)) H
end
theorem hu64 {k:Nat} {A:Around} (r:Room k A):A.units + 64 < cLine:=by have:=r.un;omega
def datV:V→PyData
  | .non=>.none
  | .bl b=>.bool b
  | .int i=>.int i
  | .str x=>.str x
  | _=>.none
def isFlat:V→Bool
  | .non=>true
  | .bl _=>true
  | .int _=>true
  | .str x=>PyData.strOk x
  | _=>false
theorem Asc.flat {x:Str} (h:Asc x):isFlat (.str x)=true:=by
  unfold isFlat PyData.strOk
  rw [Array.all_eq_true]
  intro i hi
  have:=h x.cps[i] (by simp)
  exact decide_eq_true (by omega)
def mixV:V→V→Bool
  | .bl _,.int _=>false
  | .int _,.bl _=>false
  | _,_=>true
def mixAll:List V→List V→Bool
  | x :: xs,y :: ys=>mixV x y && mixAll xs ys
  | _,_=>true
theorem carried_of:∀ {xs:List V} {us:List Value},xs.all isFlat=true→Vals xs us→CarriedAll us (xs.map datV)
  | [],_,_,.nil=>.nil
  | x :: r,_,h,.cons rx t=>by
    rw [List.all_cons,Bool.and_eq_true] at h
    refine .cons ?_ (carried_of h.2 t)
    cases x with
    | non=>cases rx;exact .none
    | bl b=>cases rx;exact .bool b
    | int i=>obtain ⟨t,rfl⟩:=rx;exact .int i t
    | str x=>obtain ⟨t,rfl⟩:=rx;exact .str x t
    | byt b=>exact absurd h.1 (by simp [isFlat])
    | flt b=>exact absurd h.1 (by simp [isFlat])
    | ref a=>exact absurd h.1 (by simp [isFlat])
    | ty n=>exact absurd h.1 (by simp [isFlat])
theorem same_dat {x y:V} (hx:isFlat x=true) (hy:isFlat y=true):PySem.Spec.same (datV x) (datV y)=decide (x=y):=by
  cases x <;> cases y <;> simp_all [isFlat,datV,PySem.Spec.same] <;> (rename_i a b;by_cases e:a=b <;> simp [e])
theorem sameAll_dat:∀ {xs ys:List V},xs.all isFlat=true→ys.all isFlat=true→PySem.Spec.sameAll (xs.map datV) (ys.map datV)=decide (xs=ys)
  | [],[],_,_=>by simp [PySem.Spec.sameAll]
  | [],_ :: _,_,_=>by simp [PySem.Spec.sameAll]
  | _ :: _,[],_,_=>by simp [PySem.Spec.sameAll]
  | x :: r,y :: t,hx,hy=>by
    rw [List.all_cons,Bool.and_eq_true] at hx hy
    rw [List.map_cons,List.map_cons,PySem.Spec.sameAll,same_dat hx.1 hy.1,sameAll_dat hx.2 hy.2]
    by_cases a:x=y <;> by_cases b:r=t <;> simp [a,b]
theorem noMix_dat {x y:V} (hx:isFlat x=true) (hy:isFlat y=true) (h:mixV x y=true):SeqAt.noMix (datV x) (datV y)=true:=by
  cases x <;> cases y <;> simp_all [isFlat,datV,SeqAt.noMix,mixV]
theorem noMixAll_dat:∀ {xs ys:List V},xs.all isFlat=true→ys.all isFlat=true→mixAll xs ys=true→SeqAt.noMixAll (xs.map datV) (ys.map datV)=true
  | [],[],_,_,_=>by simp [SeqAt.noMixAll]
  | [],_ :: _,_,_,_=>by simp [SeqAt.noMixAll]
  | _ :: _,[],_,_,_=>by simp [SeqAt.noMixAll]
  | x :: r,y :: t,hx,hy,h=>by
    rw [List.all_cons,Bool.and_eq_true] at hx hy
    rw [mixAll,Bool.and_eq_true] at h
    rw [List.map_cons,List.map_cons,SeqAt.noMixAll,noMix_dat hx.1 hy.1 h.1,noMixAll_dat hx.2 hy.2 h.2]
    rfl
theorem shaped_dat {xs:List V} (h:xs.all isFlat=true):SeqAt.shaped (.list (xs.map datV))=true∧SeqAt.shaped (.tuple (xs.map datV))=true:=by
  have a:∀ x,isFlat x=true→(datV x).canLay0=true∧(datV x).depth=0:=fun x=>by cases x <;> simp [datV,PyData.canLay0,PyData.depth,isFlat]
  have l:∀ ys:List V,ys.all isFlat=true→PyData.canLayAll0 (ys.map datV)=true∧PyData.depthAll (ys.map datV)=0:=by
    intro ys
    induction ys with
    | nil=>exact fun _=>⟨rfl,rfl⟩
    | cons y r ih =>
      intro h
      rw [List.all_cons,Bool.and_eq_true] at h
      exact ⟨by rw [List.map_cons,PyData.canLayAll0,(a y h.1).1,(ih h.2).1];rfl,by rw [List.map_cons,PyData.depthAll,(a y h.1).2,(ih h.2).2];rfl⟩
  exact ⟨by simp [SeqAt.shaped,PyData.canLay0,PyData.depth,(l xs h).1,(l xs h).2],by simp [SeqAt.shaped,PyData.canLay0,PyData.depth,(l xs h).1,(l xs h).2]⟩
abbrev rEqL (K:PySem.W.Frag) (neg:Bool):R2:=fun x y H Q=>∃ a b xs ys,x=.ref a∧y=.ref b∧SqL K H a xs∧SqL K H b ys∧(xs.all isFlat=true∧ys.all isFlat=true∧mixAll xs ys=true)∧Q (.bl (if neg then !decide (xs=ys) else decide (xs=ys))) H
section
variable {X:Cx}
theorem op_eqL (hu:X.A.units + 64 < cLine):OpR X (compareOp .Eq) (rEqL X.K false):=by
  intro pins s σ H x y v u Q I rx ry h
  obtain ⟨a,b,xs,ys,rfl,rfl,ha,hb,⟨f1,f2,f3⟩,q⟩:=h
  cases rx
  cases ry
  obtain ⟨us,r1,p1,_⟩:=I.list ha
  obtain ⟨ws,r2,p2,_⟩:=I.list hb
  refine eq_dataH_same (reads_newData p1.isList (carried_of f1 r1)) (reads_newData p2.isList (carried_of f2 r2)) (shaped_dat f1).1 (shaped_dat f2).1 hu (by rw [SeqAt.noMix];exact noMixAll_dat f1 f2 f3) ?_
  rw [PySem.Spec.same,sameAll_dat f1 f2]
  exact ⟨.bl _,H,I,rfl,q⟩
abbrev rEqNil (K:PySem.W.Frag):R2:=fun x y H Q=>∃ a b xs,x=.ref a∧y=.ref b∧SqL K H a xs∧SqL K H b []∧Q (.bl (decide (xs=[]))) H
theorem op_eqNil (hu:X.A.units + 64 < cLine):OpR X (compareOp .Eq) (rEqNil X.K):=by
  intro pins s σ H x y v u Q I rx ry h
  obtain ⟨a,b,xs,rfl,rfl,ha,hb,q⟩:=h
  by_cases e:xs=[]
  · subst e
    exact op_eqL hu pins s σ H _ _ v u Q I rx ry ⟨a,b,[],[],rfl,rfl,ha,hb,⟨rfl,rfl,rfl⟩,q⟩
  · cases rx
    cases ry
    obtain ⟨us,r1,p1,_⟩:=I.list ha
    obtain ⟨ws,r2,p2,_⟩:=I.list hb
    cases r2
    have e1:=r1.length
    have e2:xs.length≠0:=fun z=>e (List.eq_nil_of_length_eq_zero z)
    refine PySem.SeqAt.eq_list_lengthsAt p1.isList p2.isList (by simp;intro z;rw [z] at e1;exact e2 e1) (by omega) ?_
    rw [decide_eq_false e] at q
    exact ⟨.bl false,H,I,rfl,q⟩
end
end L2
namespace L2
open PySem PySem.Spec PyProof.Rows
abbrev r_mt_append:RM:=rAppend
abbrev r_mt_pop:RM:=rPop
def jw:List V:=[.str "plus",.str "minus",.str "times",.str "over",.str "rest",.str "under",.str "same"]
def isJ (v:V):Bool:=inV v jw
inductive Er where
  | nought | great | stuck
  deriving DecidableEq
def comeV (w:Str) (a b:Int):Int :=
  if w="plus" then a + b else if w="minus" then a - b else if w="times" then a * b else if w="under" then (if a < b then 1 else 0) else if w="same" then (if a=b then 1 else 0) else if w="over" then a.fdiv b else a.fmod b
def isDiv (w:Str):Prop:=¬ w="plus"∧¬ w="minus"∧¬ w="times"∧¬ w="under"∧¬ w="same"
instance (w:Str):Decidable (isDiv w):=by unfold isDiv;infer_instance
def joinE (w:Str) (a b:Int):Except Er Int:=if isDiv w∧b=0 then .error .nought else if inW (comeV w a b)=true then .ok (comeV w a b) else .error .great
def wrth (kvs:List (Key × V)):V→Int
  | .int i=>i
  | .str x=>(match valV kvs (.inr x) with | some (.int i)=>i | _=>0)
  | _=>0
def stepE (kvs:List (Key × V)) (st:List Int) (v:V):Except Er (List Int) :=
  if isJ v=true then (match v,st.reverse with | .str w,b :: a :: r=>(match joinE w a b with | .ok c=>.ok (r.reverse ++ [c]) | .error e=>.error e) | _,_=>.error .stuck) else .ok (st ++ [wrth kvs v])
def runE (kvs:List (Key × V)):List V→List Int→Except Er (List Int)
  | [],st=>.ok st
  | v :: r,st=>match stepE kvs st v with | .ok st'=>runE kvs r st' | .error e=>.error e
section
variable {kvs:List (Key × V)}
theorem runE_app:∀ (p q:List V) (st:List Int),runE kvs (p ++ q) st=match runE kvs p st with | .ok st'=>runE kvs q st' | .error e=>.error e
  | [],q,st=>rfl
  | v :: r,q,st=>by
    show (match stepE kvs st v with | .ok st'=>runE kvs (r ++ q) st' | .error e=>.error e)=match (match stepE kvs st v with | .ok st'=>runE kvs r st' | .error e=>.error e) with | .ok st'=>runE kvs q st' | .error e=>.error e
    cases stepE kvs st v with
    | error e=>rfl
    | ok st'=>exact runE_app r q st'
def Good (kvs:List (Key × V)) (ps:List V) (r:Except Er Int):Prop:=(∀ st,runE kvs ps st=match r with | .ok i=>.ok (st ++ [i]) | .error e=>.error e)∧r≠.error .stuck
theorem good_leaf {v:V} (h:isJ v=false):Good kvs [v] (.ok (wrth kvs v)):=by
  refine ⟨fun st=>?_,fun z=>nomatch z⟩
  unfold runE stepE
  rw [h,if_neg (by decide)]
  rfl
def joinR (w:Str) (r1 r2:Except Er Int):Except Er Int:=match r1 with | .error e=>.error e | .ok a=>match r2 with | .error e=>.error e | .ok b=>joinE w a b
theorem joinE_ns (w:Str) (a b:Int):joinE w a b≠.error .stuck:=by
  unfold joinE
  split
  · exact fun z=>nomatch z
  · split <;> exact fun z=>nomatch z
theorem good_join {w:Str} {p1 p2:List V} {r1 r2:Except Er Int} (hw:isJ (.str w)=true) (g1:Good kvs p1 r1) (g2:Good kvs p2 r2):Good kvs (p1 ++ p2 ++ [.str w]) (joinR w r1 r2):=by
  refine ⟨fun st=>?_,?_⟩
  · rw [runE_app,runE_app,g1.1]
    cases r1 with
    | error e=>rfl
    | ok a =>
      show (match runE kvs p2 (st ++ [a]) with | .ok st'=>runE kvs [.str w] st' | .error e=>.error e)=_
      rw [g2.1]
      cases r2 with
      | error e=>rfl
      | ok b =>
        show runE kvs [.str w] (st ++ [a] ++ [b])=match joinE w a b with | .ok i=>.ok (st ++ [i]) | .error e=>.error e
        unfold runE stepE
        rw [hw,if_pos rfl]
        simp only [List.reverse_append,List.reverse_cons,List.reverse_nil,List.nil_append,List.cons_append,List.append_assoc]
        cases joinE w a b with
        | error e=>rfl
        | ok c=>simp [runE]
  · unfold joinR
    cases r1 with
    | error e=>exact g1.2
    | ok a =>
      cases r2 with
      | error e=>exact g2.2
      | ok b=>exact joinE_ns w a b
theorem run_err {ps:List V} {i:Nat} {st:List Int} {e:Er} (h:runE kvs (ps.take i) st=.error e):runE kvs ps st=.error e:=by
  have:=runE_app (kvs:=kvs) (ps.take i) (ps.drop i) st
  rw [List.take_append_drop,h] at this
  exact this
theorem run_one {ps:List V} {i:Nat} {st st0:List Int} {v:V} (h:runE kvs (ps.take i) st0=.ok st) (hv:ps[i]?=some v):runE kvs (ps.take (i + 1)) st0=stepE kvs st v:=by
  rw [List.take_add_one,hv]
  show runE kvs (ps.take i ++ [v]) st0=_
  rw [runE_app,h]
  show (match stepE kvs st v with | .ok st'=>runE kvs [] st' | .error e=>.error e)=_
  cases stepE kvs st v <;> rfl
end
def okPart (v:V):Prop:=(∃ i,v=.int i∧inW i=true)∨∃ x:Str,v=.str x∧x.length≤1000
def SlotsOk (kvs:List (Key × V)):Prop:=∀ k v,valV kvs k=some v→∃ i,v=.int i∧inW i=true
theorem wrth_inW {kvs:List (Key × V)} (h:SlotsOk kvs) {v:V} (hv:okPart v):inW (wrth kvs v)=true:=by
  rcases hv with ⟨i,rfl,hi⟩ | ⟨x,rfl,_⟩
  · exact hi
  · show inW (match valV kvs (.inr x) with | some (.int i)=>i | _=>0)=true
    cases e:valV kvs (.inr x) with
    | none=>rfl
    | some u =>
      obtain ⟨i,rfl,hi⟩:=h _ _ e
      exact hi
theorem inW_iff {i:Int}:inW i=true↔-1000000000000000000000000000000≤i∧i≤1000000000000000000000000000000:=by unfold inW;rw [decide_eq_true_eq]
theorem inW_big {i:Int} (h:inW i=true):-big < i∧i < big:=by
  have:=inW_iff.mp h
  have hb:(1000000000000000000000000000001:Int) < big:=by decide +kernel
  omega
end L2
namespace L2
open PySem PySem.Spec PyProof.Rows
def Itv (K:PySem.W.Frag) (a:Addr) (xs:List V):It:=⟨fun i H=>i < xs.length∧SqL K H a xs,fun i H x H'=>H'=H∧xs[xs.length - 1 - i]?=some x,fun i _=>xs.length≤i⟩
def iRev (K:PySem.W.Frag) (ta:TA):TI:=fun σ H R=>ta σ H fun vs H1=>∃ a xs,vs=[.ref a]∧SqL K H1 a xs∧R (Itv K a xs) H1
section
variable {X:Cx} {tg:Expr}
end
section
variable {σ:St} {H:Hp} {nx:St→Hp→Prop} {B:V→St→Hp→(St→Hp→Prop)→Prop}
end
end L2
namespace L2
open PySem PySem.Spec PyProof.Rows
abbrev cLst (K:PySem.W.Frag):RC:=fun xs H Q=>∃ p ys,xs=[.ref p]∧(SqL K H p ys∨SqT K H p ys)∧∀ l,H l=none→Q (.ref l) (upd H l (.lst ys))
abbrev cMin:RC:=fun xs H Q=>∃ i j,xs=[.int i,.int j]∧Q (.int (if j < i then j else i)) H
def inL (c:Nat):Bool:=!(Builtin.Str.occurrences "abcdefghijklmnopqrstuvwxyz" ⟨#[c]⟩ 0 (Str.length "abcdefghijklmnopqrstuvwxyz") 1).isEmpty
def wl:List V:=[.str "take",.str "give",.str "let",.str "say",.str "off",.str "if",.str "else",.str "end",.str "as"]
def isName (x:Str):Bool:=!(decide (x="") || decide (6 < x.length)) && !(inV (.str x) jw || inV (.str x) wl) && x.cps.toList.all inL
theorem inL_iff (c:Nat):inL c=true→97≤c∧c≤122:=by
  unfold inL
  rw [StrLaws.found_one]
  have e:(Str.ofString "abcdefghijklmnopqrstuvwxyz").cps.toList=[97,98,99,100,101,102,103,104,105,106,107,108,109,110,111,112,113,114,115,116,117,118,119,120,121,122]:=by decide +kernel
  rw [e]
  simp only [decide_eq_true_eq,List.mem_cons,List.not_mem_nil,or_false]
  omega
theorem isName_parts {x:Str} (h:isName x=true):x.cps.toList≠[]∧x.length≤6∧isJ (.str x)=false∧x.cps.toList.all inL=true:=by
  unfold isName at h
  rw [Bool.and_eq_true,Bool.and_eq_true,Bool.not_eq_true',Bool.not_eq_true',Bool.or_eq_false_iff,Bool.or_eq_false_iff,decide_eq_false_iff_not,decide_eq_false_iff_not] at h
  refine ⟨fun z=>h.1.1.1 (str_ext (by rw [z];decide +kernel)),by omega,h.1.2.1,h.2⟩
def partW (w:Str):Option V:=if isName w=true then some (.str w) else if isNum w=true then some (.int (valOf w)) else none
inductive Tw where
  | leaf (w:Str) | node (w:Str) (a b:Tw)
def pre:Tw→List Str
  | .leaf w=>[w]
  | .node w a b=>w :: (pre a ++ pre b)
def wfT:Tw→Prop
  | .leaf w=>isJ (.str w)=false
  | .node w a b=>isJ (.str w)=true∧wfT a∧wfT b
def okT:Tw→Bool
  | .leaf w=>(partW w).isSome
  | .node _ a b=>okT a && okT b
def pvw (w:Str):V:=(partW w).getD (.str w)
def pst:Tw→List V
  | .leaf w=>[pvw w]
  | .node w a b=>pst a ++ pst b ++ [.str w]
def scanE:List Str→Nat→Option Nat
  | _,0=>some 0
  | [],_ + 1=>none
  | w :: r,d + 1=>(scanE r (if isJ (.str w)=true then d + 2 else d)).map (· + 1)
def stepR (st:List (List V)) (w:Str):Except Bool (List (List V)) :=
  if isJ (.str w)=true then (match st.reverse with | a :: b :: r=>.ok (r.reverse ++ [a ++ b ++ [.str w]]) | _=>.error false) else (match partW w with | some v=>.ok (st ++ [[v]]) | none=>.error true)
def runR:List Str→List (List V)→Except Bool (List (List V))
  | [],st=>.ok st
  | w :: r,st=>match stepR st w with | .ok st'=>runR r st' | .error e=>.error e
theorem runR_app:∀ (p q:List Str) (st:List (List V)),runR (p ++ q) st=match runR p st with | .ok st'=>runR q st' | .error e=>.error e
  | [],q,st=>rfl
  | v :: r,q,st=>by
    show (match stepR st v with | .ok st'=>runR (r ++ q) st' | .error e=>.error e)=match (match stepR st v with | .ok st'=>runR r st' | .error e=>.error e) with | .ok st'=>runR q st' | .error e=>.error e
    cases stepR st v with
    | error e=>rfl
    | ok st'=>exact runR_app r q st'
end L2
namespace L2
open PySem PySem.Spec PyProof.Rows
abbrev cDct:RC:=fun xs H Q=>∃ a kvs,xs=[.ref a]∧H a=some (.dK kvs)∧∀ p,H p=none→Q (.ref p) (upd H p (.dK kvs))
abbrev rNeD:R2:=fun x y H Q=>∃ a b kvs,x=.ref a∧y=.ref b∧H a=some (.dK kvs)∧H b=some (.dK kvs)∧(∀ p∈kvs,∃ i,p.2=V.int i)∧Q (.bl false) H
section
variable {X:Cx}
end
theorem name_asc {x:Str} (h:isName x=true):Asc x:=fun c hc=>by
  have:=inL_iff c (List.all_eq_true.mp (isName_parts h).2.2.2 c hc)
  omega
end L2
namespace L2
open PySem PySem.Spec PyProof.Rows
section
variable {P:Program} {w:World} {A:Around} {E:Value→Shared→Prop} {s:Shared}
end
section
variable {P:Program} {w:World} {A:Around} {E:Value→Shared→Prop} {s:Shared}
end
section
variable {P:Program} {w:World} {A:Around} {E:Value→Shared→Prop} {s:Shared}
end
def Itz (K:PySem.W.Frag) (p q:Addr) (xs ys:List V):It:=⟨fun i H=>i < xs.length∧SqT K H p xs∧SqT K H q ys,fun i H x H'=>∃ T u v,x=.ref T∧H T=none∧H'=upd H T (.tup [u,v])∧xs[i]?=some u∧ys[i]?=some v,fun i H=>xs.length≤i∧SqT K H p xs∧SqT K H q ys⟩
def iZip (K:PySem.W.Frag) (ta:TA):TI:=fun σ H R=>ta σ H fun vs H1=>∃ p q xs ys,vs=[.ref p,.ref q]∧SqT K H1 p xs∧SqT K H1 q ys∧xs.length=ys.length∧R (Itz K p q xs ys) H1
section
variable {X:Cx}
end
section
variable {σ:St} {H:Hp} {nx:St→Hp→Prop} {B:V→St→Hp→(St→Hp→Prop)→Prop}
end
abbrev cTup (K:PySem.W.Frag):RC:=fun xs H Q=>∃ p ys,xs=[.ref p]∧((SqL K H p ys∧∀ l,H l=none→Q (.ref l) (upd H l (.tup ys)))∨(SqT K H p ys∧Q (.ref p) H))
def stepA (st:List (List V)) (v:V):Option (List (List V)):=if isJ v=true then (match st.reverse with | b :: a :: r=>some (r.reverse ++ [v :: (a ++ b)]) | _=>none) else some (st ++ [[v]])
def runA:List V→List (List V)→Option (List (List V))
  | [],st=>some st
  | v :: r,st=>(stepA st v).bind (runA r)
theorem runA_app:∀ (p q:List V) (st:List (List V)),runA (p ++ q) st=(runA p st).bind (runA q)
  | [],q,st=>rfl
  | v :: r,q,st=>by
    show (stepA st v).bind (runA (r ++ q))=((stepA st v).bind (runA r)).bind (runA q)
    cases stepA st v with
    | none=>rfl
    | some st'=>exact runA_app r q st'
end L2
namespace L2
open PySem PySem.W PyProof.Rows
section
variable {α β:Type} {lt:Nat→Nat→Bool} {n:Nat}
def kOk (lt:Nat→Nat→Bool) (n:Nat):KasT α→(α→Prop)→Prop
  | .ret a,R=>R a
  | .ask i j k,R=>i < n∧j < n∧i≠j∧kOk lt n (k (lt i j)) R
theorem kOk_bind:∀ {t:KasT α} {f:α→KasT β} {R:β→Prop},kOk lt n t (fun a=>kOk lt n (f a) R)→kOk lt n (t.bind f) R
  | .ret _,_,_,h=>h
  | .ask _ _ _,_,_,h=>⟨h.1,h.2.1,h.2.2.1,kOk_bind h.2.2.2⟩
theorem kOk_mono:∀ {t:KasT α} {R R':α→Prop},kOk lt n t R→(∀ a,R a→R' a)→kOk lt n t R'
  | .ret _,_,_,h,m=>m _ h
  | .ask _ _ _,_,_,h,m=>⟨h.1,h.2.1,h.2.2.1,kOk_mono h.2.2.2 m⟩
structure SO (lt:Nat→Nat→Bool) (n:Nat):Prop where
  irr:∀ i,i < n→lt i i=false
  trans:∀ i j k,i < n→j < n→k < n→lt i j=true→lt j k=true→lt i k=true
  tot:∀ i j,i < n→j < n→i≠j→lt i j=false→lt j i=true
def PP (n:Nat) (p:Array Nat):Prop:=p.Perm (List.range n).toArray
def gt (p:Array Nat) (k:Nat):Nat:=p.getD k 0
theorem gt_eq {p:Array Nat} {k:Nat} (h:k < p.size):p[k]?=some (gt p k):=by
  unfold gt
  rw [Array.getD_eq_getD_getElem?,Array.getElem?_eq_getElem h]
  rfl
theorem PP.size {p:Array Nat} (h:PP n p):p.size=n:=by
  have:=h.size_eq
  simpa using this
theorem PP.blt {p:Array Nat} (h:PP n p) {k:Nat} (hk:k < n):gt p k < n:=by
  have hs:=h.size
  have m:gt p k∈p:=Array.mem_of_getElem? (gt_eq (by omega))
  have m2:gt p k∈(List.range n).toArray:=(Array.Perm.mem_iff h).mp m
  simpa using m2
theorem PP.inj {p:Array Nat} (h:PP n p) {i j:Nat} (hi:i < n) (hj:j < n) (e:gt p i=gt p j):i=j:=by
  have hs:=h.size
  have nd:p.toList.Nodup:=by
    have:p.toList.Perm (List.range n):=by
      have:=Array.perm_iff_toList_perm.mp h
      simpa using this
    exact this.nodup_iff.mpr List.nodup_range
  have e1:=gt_eq (p:=p) (k:=i) (by omega)
  have e2:=gt_eq (p:=p) (k:=j) (by omega)
  rw [← e] at e2
  have e1':p.toList[i]?=some (gt p i):=by simpa using e1
  have e2':p.toList[j]?=some (gt p i):=by simpa using e2
  obtain ⟨a1,b1⟩:=List.getElem?_eq_some_iff.mp e1'
  obtain ⟨a2,b2⟩:=List.getElem?_eq_some_iff.mp e2'
  exact (List.getElem_inj nd).mp (b1.trans b2.symm)
def Rise (lt:Nat→Nat→Bool) (p:Array Nat) (m:Nat):Prop:=∀ i j,i < j→j < m→lt (gt p i) (gt p j)=true
def Fall (lt:Nat→Nat→Bool) (p:Array Nat) (m:Nat):Prop:=∀ i j,i < j→j < m→lt (gt p j) (gt p i)=true
theorem asc_ok (S:SO lt n) {p:Array Nat} (hp:PP n p):∀ (f a:Nat),1≤a→a + f≤n→Rise lt p a→kOk lt n (kas_asc p f a) fun m=>a≤m∧m≤a + f∧Rise lt p m∧(m < a + f→lt (gt p m) (gt p (m - 1))=true)
  | 0,a,h1,h2,hr=>⟨Nat.le_refl _,Nat.le_refl _,hr,fun z=>absurd z (Nat.lt_irrefl _)⟩
  | f + 1,a,h1,h2,hr=>by
    refine ⟨hp.blt (by omega),hp.blt (by omega),(fun z=>by have:=hp.inj (by omega) (by omega) z;omega),?_⟩
    show kOk lt n (if lt (gt p a) (gt p (a - 1))=true then .ret a else kas_asc p f (a + 1)) _
    by_cases c:lt (gt p a) (gt p (a - 1))=true
    · rw [if_pos c]
      exact ⟨Nat.le_refl _,by omega,hr,fun _=>c⟩
    · rw [if_neg c]
      have up:lt (gt p (a - 1)) (gt p a)=true:=S.tot _ _ (hp.blt (by omega)) (hp.blt (by omega)) (fun z=>by have:=hp.inj (by omega) (by omega) z;omega) (Bool.eq_false_iff.mpr c)
      refine kOk_mono (asc_ok S hp f (a + 1) (by omega) (by omega) fun i j hij hj=>?_) fun m ⟨x1,x2,x3,x4⟩=>⟨by omega,by omega,x3,fun z=>x4 (by omega)⟩
      by_cases hja:j < a
      · exact hr i j hij hja
      · obtain rfl:j=a:=by omega
        by_cases hi:i=j - 1
        · rw [hi];exact up
        · exact S.trans _ _ _ (hp.blt (by omega)) (hp.blt (by omega)) (hp.blt (by omega)) (hr i (j - 1) (by omega) (by omega)) up
theorem desc_ok (S:SO lt n) {p:Array Nat} (hp:PP n p):∀ (f a:Nat),1≤a→a + f≤n→Fall lt p a→kOk lt n (kas_desc f p a 0) fun r=>r.1=p∧r.2.2=0∧a≤r.2.1∧r.2.1≤a + f∧Fall lt p r.2.1
  | 0,a,h1,h2,hr=>⟨rfl,rfl,Nat.le_refl _,Nat.le_refl _,hr⟩
  | f + 1,a,h1,h2,hr=>by
    refine ⟨hp.blt (by omega),hp.blt (by omega),(fun z=>by have:=hp.inj (by omega) (by omega) z;omega),?_⟩
    show kOk lt n (if lt (gt p a) (gt p (a - 1))=true then (if 0 > 0 then _ else kas_desc f p (a + 1) 0) else .ask (gt p (a - 1)) (gt p a) fun d=>if d=true then .ret (p,a,0) else kas_desc f p (a + 1) (0 + 1)) _
    by_cases c:lt (gt p a) (gt p (a - 1))=true
    · rw [if_pos c,if_neg (by omega)]
      refine kOk_mono (desc_ok S hp f (a + 1) (by omega) (by omega) fun i j hij hj=>?_) fun m ⟨x1,x2,x3,x4,x5⟩=>⟨x1,x2,by omega,by omega,x5⟩
      by_cases hja:j < a
      · exact hr i j hij hja
      · obtain rfl:j=a:=by omega
        by_cases hi:i=j - 1
        · rw [hi];exact c
        · exact S.trans _ _ _ (hp.blt (by omega)) (hp.blt (by omega)) (hp.blt (by omega)) c (hr i (j - 1) (by omega) (by omega))
    · rw [if_neg c]
      have up:lt (gt p (a - 1)) (gt p a)=true:=S.tot _ _ (hp.blt (by omega)) (hp.blt (by omega)) (fun z=>by have:=hp.inj (by omega) (by omega) z;omega) (Bool.eq_false_iff.mpr c)
      refine ⟨hp.blt (by omega),hp.blt (by omega),(fun z=>by have:=hp.inj (by omega) (by omega) z;omega),?_⟩
      show kOk lt n (if lt (gt p (a - 1)) (gt p a)=true then .ret (p,a,0) else _) _
      rw [if_pos up]
      exact ⟨rfl,rfl,Nat.le_refl _,Nat.le_add_right _ _,hr⟩
theorem rev_gt {p:Array Nat} {m k:Nat} (hm:m≤p.size) (hk:k < m):gt (kas_rev p 0 m) k=gt p (m - 1 - k):=by
  have e:=getElem?_mirror_all (xs:=p) (i:=0) (j:=m) hm k
  rw [if_pos ⟨Nat.zero_le _,hk⟩] at e
  have e1:=gt_eq (p:=kas_rev p 0 m) (k:=k) (by unfold kas_rev;rw [mirror_size];omega)
  have e2:=gt_eq (p:=p) (k:=m - 1 - k) (by omega)
  unfold kas_rev at e1 ⊢
  rw [e,show 0 + m - 1 - k=m - 1 - k by omega,e2] at e1
  exact (Option.some.inj e1).symm
theorem PP.rev {p:Array Nat} (h:PP n p) (m:Nat):PP n (kas_rev p 0 m):=Array.Perm.trans (mirror_perm _ _ _ _) h
theorem tail_ok (S:SO lt n) {p:Array Nat} (hp:PP n p) {m:Nat} (h1:1≤m) (h2:m≤n) (hf:Fall lt p m):kOk lt n (kas_tail3 m n p) fun r=>PP n r.2∧Rise lt r.2 r.1∧1≤r.1∧r.1≤n:=by
  refine kOk_bind (kOk_mono (asc_ok S (hp.rev m) (n - m) m h1 (by omega) fun i j hij hj=>?_) fun a ⟨x1,x2,x3,_⟩=>⟨hp.rev m,x3,by omega,by omega⟩)
  have hs:=hp.size
  rw [rev_gt (by omega) (by omega),rev_gt (by omega) hj]
  exact hf _ _ (by omega) (by omega)
theorem count_ok (S:SO lt n) {p:Array Nat} (hp:PP n p) (hn:1≤n):kOk lt n (kas_count n p) fun r=>PP n r.2∧Rise lt r.2 r.1∧1≤r.1∧r.1≤n:=by
  refine kOk_bind (kOk_mono (asc_ok S hp (n - 1) 1 (Nat.le_refl _) (by omega) fun i j hij hj=>by omega) fun m ⟨x1,x2,x3,x4⟩=>?_)
  by_cases e:(m == n)=true
  · rw [if_pos e]
    exact ⟨hp,x3,x1,by omega⟩
  · rw [if_neg e]
    have ne:m≠n:=by simpa using e
    by_cases h:m > 1
    · rw [if_pos h]
      refine ⟨hp.blt (by omega),hp.blt (by omega),(fun z=>by have:=hp.inj (by omega) (by omega) z;omega),?_⟩
      show kOk lt n (if lt (gt p 0) (gt p (m - 1))=true then .ret (m,p) else _) _
      rw [if_pos (x3 0 (m - 1) (by omega) (by omega))]
      exact ⟨hp,x3,x1,by omega⟩
    · rw [if_neg h]
      obtain rfl:m=1:=by omega
      have c:=x4 (by omega)
      refine kOk_bind (kOk_mono (desc_ok S hp (n - 2) 2 (by omega) (by omega) fun i j hij hj=>?_) fun r ⟨y1,y2,y3,y4,y5⟩=>?_)
      · obtain rfl:j=1:=by omega
        obtain rfl:i=0:=by omega
        exact c
      · rw [if_neg (by omega),y1]
        exact tail_ok S hp (by omega) (by omega) y5
theorem place_ok (S:SO lt n) {p:Array Nat} (hp:PP n p) {k:Nat} (hk:k < n) (hr:Rise lt p k):∀ (f l r:Nat),l≤r→r≤k→r - l≤f→(∀ i,i < l→lt (gt p i) (gt p k)=true)→(∀ i,r≤i→i < k→lt (gt p k) (gt p i)=true) →
    kOk lt n (kas_place p k f l r) fun m=>m≤k∧(∀ i,i < m→lt (gt p i) (gt p k)=true)∧∀ i,m≤i→i < k→lt (gt p k) (gt p i)=true
  | 0,l,r,h1,h2,h3,h4,h5=>⟨by omega,h4,fun i hi hik=>h5 i (by omega) hik⟩
  | f + 1,l,r,h1,h2,h3,h4,h5=>by
    unfold kas_place
    by_cases c:l ≥ r
    · rw [if_pos c]
      exact ⟨by omega,h4,fun i hi hik=>h5 i (by omega) hik⟩
    · rw [if_neg c]
      refine ⟨hp.blt (by omega),hp.blt (by omega),(fun z=>by have:=hp.inj (by omega) (by omega) z;omega),?_⟩
      show kOk lt n (if lt (gt p k) (gt p ((l + r) / 2))=true then _ else _) _
      by_cases d:lt (gt p k) (gt p ((l + r) / 2))=true
      · rw [if_pos d]
        refine place_ok S hp hk hr f l ((l + r) / 2) (by omega) (by omega) (by omega) h4 fun i hi hik=>?_
        by_cases e:i=(l + r) / 2
        · rw [e];exact d
        · exact S.trans _ _ _ (hp.blt (by omega)) (hp.blt (by omega)) (hp.blt (by omega)) d (hr _ i (by omega) hik)
      · rw [if_neg d]
        have up:lt (gt p ((l + r) / 2)) (gt p k)=true:=S.tot _ _ (hp.blt (by omega)) (hp.blt (by omega)) (fun z=>by have:=hp.inj (by omega) (by omega) z;omega) (Bool.eq_false_iff.mpr d)
        refine place_ok S hp hk hr f ((l + r) / 2 + 1) r (by omega) (by omega) (by omega) (fun i hi=>?_) h5
        by_cases e:i=(l + r) / 2
        · rw [e];exact up
        · exact S.trans _ _ _ (hp.blt (by omega)) (hp.blt (by omega)) (hp.blt (by omega)) (hr i _ (by omega) (by omega)) up
theorem bub_gt {p:Array Nat} {k d j:Nat} (hk:k < p.size) (hd:d≤k) (hj:j < p.size):gt (bubble p k d) j=if j=k - d then gt p k else if k - d < j∧j≤k then gt p (j - 1) else gt p j:=by
  have e:=getElem?_bubble hk d hd j
  rw [gt_eq (p:=bubble p k d) (k:=j) (by rw [bubble_size];exact hj)] at e
  by_cases h1:j=k - d
  · rw [if_pos h1,gt_eq hk] at e
    rw [if_pos h1];exact Option.some.inj e
  · rw [if_neg h1] at e ⊢
    by_cases h2:k - d < j∧j≤k
    · rw [if_pos h2,gt_eq (by omega)] at e
      rw [if_pos h2];exact Option.some.inj e
    · rw [if_neg h2,gt_eq hj] at e
      rw [if_neg h2];exact Option.some.inj e
theorem bin_ok (S:SO lt n):∀ (f:Nat) {p:Array Nat} (k:Nat),PP n p→k + f=n→Rise lt p k→kOk lt n (kas_bin f p k) fun p'=>PP n p'∧Rise lt p' n
  | 0,p,k,hp,hk,hr=>⟨hp,by rw [← hk];exact hr⟩
  | f + 1,p,k,hp,hk,hr=>by
    have hs:=hp.size
    refine kOk_bind (kOk_mono (place_ok S hp (by omega) hr k 0 k (Nat.zero_le _) (Nat.le_refl _) (by omega) (fun i hi=>by omega) (fun i h1 h2=>by omega)) fun l ⟨x1,x2,x3⟩=>?_)
    refine bin_ok S f (k + 1) (Array.Perm.trans (bubble_perm _ _ _) hp) (by omega) fun i j hij hj=>?_
    rw [bub_gt (by omega) (by omega) (by omega),bub_gt (by omega) (by omega) (by omega)]
    have e:k - (k - l)=l:=by omega
    rw [e]
    by_cases hi:i=l
    · rw [if_pos hi,if_neg (by omega),if_pos (by omega)]
      exact x3 _ (by omega) (by omega)
    · rw [if_neg hi]
      by_cases hi2:l < i∧i≤k
      · rw [if_pos hi2,if_neg (by omega),if_pos (by omega)]
        exact hr _ _ (by omega) (by omega)
      · rw [if_neg hi2]
        by_cases hj1:j=l
        · rw [if_pos hj1]
          exact x2 _ (by omega)
        · rw [if_neg hj1]
          by_cases hj2:l < j∧j≤k
          · rw [if_pos hj2]
            by_cases hij2:i < j - 1
            · exact hr _ _ hij2 (by omega)
            · omega
          · rw [if_neg hj2]
            exact hr _ _ hij (by omega)
theorem sort_ok (S:SO lt n) (hn:1≤n):kOk lt n (kas_sort n) fun p=>PP n p∧Rise lt p n:=by
  refine kOk_bind (kOk_mono (count_ok S (p:=List.toArray (List.range n)) (Array.Perm.refl _) hn) fun r ⟨x1,x2,x3,x4⟩=>?_)
  by_cases h:r.1 < n
  · rw [if_pos h,Nat.max_eq_left x3]
    exact bin_ok S _ _ x1 (by omega) x2
  · rw [if_neg h]
    obtain e:r.1=n:=by omega
    exact ⟨x1,by rw [← e];rw [e] at x2 ⊢;exact x2⟩
end
end L2
namespace L2
open PySem PySem.W PyProof.Rows
theorem kOk_at {α:Type} {lt:Nat→Nat→Bool} {n:Nat} {s:Shared} {cmp:Nat→Nat→(Bool→Shared→Prop)→Shared→Prop} (hc:∀ i j C,i < n→j < n→i≠j→C (lt i j) s→cmp i j C s):∀ {t:KasT α} {R:α→Prop} {Q:α→Shared→Prop},kOk lt n t R→(∀ a,R a→Q a s)→t.kasWp cmp Q s
  | .ret _,_,_,h,m=>m _ h
  | .ask _ _ _,_,_,h,m=>hc _ _ _ h.1 h.2.1 h.2.2.1 (kOk_at hc h.2.2.2 m)
def Kp (a:Addr) (h h':Heap):Prop:=∀ b o,b≠a→h.get? b=some o→h'.get? b=some o
def outOf (vs:List Value) (p:Array Nat):List Value:=p.toList.map fun i=>vs.getD i Value.none
theorem outOf_range (vs:List Value):outOf vs (List.toArray (List.range vs.length))=vs:=by
  unfold outOf
  apply List.ext_getElem?
  intro i
  simp only [List.getElem?_map]
  by_cases h:i < vs.length
  · rw [List.getElem?_eq_getElem (l:=vs) h]
    simp [List.getElem?_range h,h]
  · rw [List.getElem?_eq_none (by omega:vs.length≤i)]
    simp
    omega
section
variable {P:Program} {w:World} {A:Around} {E:Value→Shared→Prop} {s:Shared}
theorem lsort_pure {a:Addr} {vs:List Value} {n:Nat} {κ:SortKind} {lt:Nat→Nat→Bool} {R:PySem.Fin→Shared→Prop} (ho:s.heap.get? a=some (seqObj "list" vs.toArray n)) (h64:vs.length < 64)
    (hk:2≤vs.length→∀ (h:Heap) (Q:SortKind→Shared→Prop),Kp a s.heap h→Q κ { s with heap:=h }→wpAny (model P w) A (keyKind' vs.toArray) Q (fun _ _=>False) { s with heap:=h })
    (hc:∀ (h:Heap) i j C,Kp a s.heap h→i < vs.length→j < vs.length→i≠j→C (lt i j) { s with heap:=h }→kas_ask P w A κ vs i j C { s with heap:=h }) (S:SO lt vs.length)
    (fin:∀ h p c,Kp a s.heap h→h.get? a=some (seqObj "list" (outOf vs p).toArray c)→PP vs.length p→Rise lt p vs.length→R (.done (.ret .none)) { s with heap:=h }) :
    wpAny (model P w) A (Builtin.«list.sort» ⟨[.ref a],[]⟩) R E s:=by
  have ha:a < s.heap.objs.size:=Heap.lt_size ho
  obtain ⟨e1,o1⟩:∃ e1,(s.heap.update a (Obj.mapSeq fun _=>(#[]:Array Value))).get? a=some (seqObj "list" #[] e1):=⟨_,get?_update_seq ho fun _=>#[]⟩
  have k1:Kp a s.heap (((s.heap.update a (Obj.mapSeq fun _=>(#[]:Array Value))).push (seqObj "tuple" vs.toArray 0)).push (seqObj "list" #[] 0)):=fun b o hb e =>
    Heap.get?_push_of_some _ (Heap.get?_push_of_some _ ((Heap.get?_update_other _ _ (Ne.symm hb)).trans e))
  have o3:(((s.heap.update a (Obj.mapSeq fun _=>(#[]:Array Value))).push (seqObj "tuple" vs.toArray 0)).push (seqObj "list" #[] 0)).get? a=some (seqObj "list" #[] e1):=Heap.get?_push_of_some _ (Heap.get?_push_of_some _ o1)
  have last:∀ out:List Value,out.length=vs.length→∃ c,((((s.heap.update a (Obj.mapSeq fun _=>(#[]:Array Value))).push (seqObj "tuple" vs.toArray 0)).push (seqObj "list" #[] 0)).update a (Obj.mapSeq fun _=>out.toArray)).get? a=some (seqObj "list" out.toArray c):=fun out _=>⟨_,get?_update_seq o3 fun _=>out.toArray⟩
  have keep2:∀ out:List Value,Kp a s.heap ((((s.heap.update a (Obj.mapSeq fun _=>(#[]:Array Value))).push (seqObj "tuple" vs.toArray 0)).push (seqObj "list" #[] 0)).update a (Obj.mapSeq fun _=>out.toArray)):=fun out b o hb e =>
    (Heap.get?_update_other _ _ (Ne.symm hb)).trans (k1 b o hb e)
  rw [list_sort_plain];refine wpAny_bind (listItems_at ho rfl ?_)
  refine wpAny_bind (listUpdate_at ho rfl ?_ (by rw [List.size_toArray,sizeLine_eq];omega) (Nat.zero_le _));refine wpAny_bind (seqEpoch_at o1 rfl ?_)
  refine wpAny_bind (wpAny_newTuple ?_ (by show vs.length≤_;rw [sizeLine_eq];omega));refine wpAny_bind (wpAny_newList ?_ (Nat.zero_le _));refine wpAny_holding ?_
  show wpAny (model P w) A _ R E { s with heap:=((s.heap.update a (Obj.mapSeq fun _=>(#[]:Array Value))).push (seqObj "tuple" vs.toArray 0)).push (seqObj "list" #[] 0) }
  generalize hH:((s.heap.update a (Obj.mapSeq fun _=>(#[]:Array Value))).push (seqObj "tuple" vs.toArray 0)).push (seqObj "list" #[] 0)=g at *
  dsimp only
  have up:∀ out:List Value,out.length=vs.length→∀ p,out=outOf vs p→PP vs.length p→Rise lt p vs.length→R (.done (.ret .none)) { s with heap:=g.update a (Obj.mapSeq fun _=>out.toArray) }:=fun out hl p e hp hr=>by
    obtain ⟨c,hcc⟩:=last out hl
    refine fin _ p c (keep2 out) ?_ hp hr
    rw [← e];exact hcc
  by_cases h2:vs.toArray.size < 2
  · have hl2:vs.length < 2:=by simpa using h2
    rw [if_pos h2,if_pos h2];refine wpAny_bind (wpAny_pure ?_);rw [StateT.run_pure];refine wpAny_bind (wpAny_pure ?_)
    dsimp only
    have ez:((vs.toArray.zip vs.toArray).map (·.2))=vs.toArray:=by
      apply Array.toList_inj.mp
      rw [Array.toList_map,Array.toList_zip]
      simp [List.map_snd_zip]
    refine wpAny_bind (seqEpoch_at o3 rfl ?_)
    rw [show (arrOf (SortSt.mk' general' (vs.toArray.zip vs.toArray) #[] 7 none))=vs.toArray.zip vs.toArray from rfl,ez]
    refine wpAny_bind (listUpdate_at o3 rfl ?_ (Nat.zero_le _) (by rw [List.size_toArray,sizeLine_eq];omega))
    simp only [bne_self_eq_false,Bool.false_eq_true,if_false]
    exact wpAny_pure (up vs rfl _ (outOf_range vs).symm (Array.Perm.refl _) fun i j hij hj=>by omega)
  · have hl2:2≤vs.length:=by simpa using h2
    rw [if_neg h2,if_neg h2];refine wpAny_bind (wpAny_mono (hk hl2 g (fun κ' s'=>κ'=κ∧s'={ s with heap:=g }) k1 ⟨rfl,rfl⟩) (fun κ' s' hs=>?_) fun _ _ x=>x.elim)
    obtain ⟨rfl,rfl⟩:=hs
    have run:=kOk_at (s:={ s with heap:=g }) (cmp:=kas_ask P w A κ' vs) (fun i j C hi hj hij hC=>hc g i j C k1 hi hj hij hC) (sort_ok S (by omega)) (Q:=fun p s'=>s'={ s with heap:=g }∧PP vs.length p∧Rise lt p vs.length) fun p hp=>⟨rfl,hp⟩
    refine wpAny_bind (wpAny_mono (kat_run (ks:=vs) (Q:=fun st s'=>∃ p:Array Nat,arrOf st=p.map (kas_item (vs.toArray.zip vs.toArray))∧failedOf st=none∧s'={ s with heap:=g }∧PP vs.length p∧Rise lt p vs.length) rfl hl2 h64 (fun p st s' _ a2 a3 a4=>⟨p,a2,a3,a4⟩) run) ?_ fun _ _ e=>e)
    rintro ⟨⟨⟩,st⟩ s' ⟨p,har,hf,rfl,hp,hr⟩
    dsimp only
    have out:=kat_snds (ks:=vs) rfl har
    have ol:(outOf vs p).length=vs.length:=by unfold outOf;rw [List.length_map,Array.length_toList,hp.size]
    rw [out];refine wpAny_bind (seqEpoch_at o3 rfl ?_)
    refine wpAny_bind (listUpdate_at o3 rfl ?_ (Nat.zero_le _) (by show (List.toArray (outOf vs p)).size≤_;rw [List.size_toArray,ol,sizeLine_eq];omega));rw [hf]
    simp only [bne_self_eq_false,Bool.false_eq_true,if_false]
    exact wpAny_pure (up (outOf vs p) ol p rfl hp hr)
end
end L2
namespace L2
open PySem PySem.W PyProof.Rows
def placeLt (a b:Str × Int):Bool:=if a.1=b.1 then decide (a.2 < b.2) else decide (a.1.cps.toList < b.1.cps.toList)
def PlAt (h:Heap) (v:Value) (q:Str × Int):Prop:=∃ a o t u n,v=.ref a∧h.get? a=some o∧o.cls=.type "tuple"∧o.data=.seq #[.str q.1 t,.int q.2 u] n
section
variable {P:Program} {w:World} {A:Around} {E:Value→Shared→Prop} {s:Shared}
end
theorem str_cps_inj {x y:Str} (h:x.cps.toList=y.cps.toList):x=y:=by
  obtain ⟨a⟩:=x
  obtain ⟨b⟩:=y
  have:a=b:=Array.toList_inj.mp h
  rw [this]
theorem placeLt_so {qs:List (Str × Int)} (hn:qs.Nodup):SO (fun i j=>placeLt (qs.getD i ("",0)) (qs.getD j ("",0))) qs.length where
  irr:=fun i _=>by
    unfold placeLt
    rw [if_pos rfl]
    exact decide_eq_false (by omega)
  trans:=fun i j k _ _ _ h1 h2=>by
    generalize qs.getD i ("",0)=a at *
    generalize qs.getD j ("",0)=b at *
    generalize qs.getD k ("",0)=c at *
    unfold placeLt at *
    by_cases e1:a.1=b.1
    · rw [if_pos e1] at h1
      by_cases e2:b.1=c.1
      · rw [if_pos e2] at h2
        rw [if_pos (e1.trans e2)]
        have h1:=of_decide_eq_true h1
        have h2:=of_decide_eq_true h2
        exact decide_eq_true (by omega)
      · rw [if_neg e2] at h2
        rw [if_neg (by rw [e1];exact e2),e1]
        exact h2
    · rw [if_neg e1] at h1
      have h1:=of_decide_eq_true h1
      by_cases e2:b.1=c.1
      · rw [if_neg (by rw [← e2];exact e1),← e2]
        exact decide_eq_true h1
      · rw [if_neg e2] at h2
        have h2:=of_decide_eq_true h2
        have h3:=List.lt_trans h1 h2
        rw [if_neg (fun z=>by rw [z] at h3;exact List.lt_irrefl _ h3)]
        exact decide_eq_true h3
  tot:=fun i j hi hj hij h=>by
    have ne:qs.getD i ("",0)≠qs.getD j ("",0):=fun z=>hij (by
      rw [List.getD_eq_getElem?_getD,List.getD_eq_getElem?_getD,List.getElem?_eq_getElem hi,List.getElem?_eq_getElem hj] at z
      exact (List.getElem_inj hn).mp z)
    generalize qs.getD i ("",0)=a at *
    generalize qs.getD j ("",0)=b at *
    unfold placeLt at *
    by_cases e:a.1=b.1
    · rw [if_pos e] at h
      rw [if_pos e.symm]
      have h:=of_decide_eq_false h
      have:a.2≠b.2:=fun z=>ne (Prod.ext e z)
      exact decide_eq_true (by omega)
    · rw [if_neg e] at h
      rw [if_neg (fun z=>e z.symm)]
      have h:=of_decide_eq_false h
      refine decide_eq_true ?_
      rcases List.le_iff_lt_or_eq.mp (List.not_lt.mp h) with z | z
      · exact z
      · exact absurd (str_cps_inj z.symm) e
end L2
namespace L2
open PySem
def RawD (h:Heap) (d:Addr) (es:Array DictEntry) (ep:Nat):Prop:=∃ o,h.get? d=some o∧o.ExactDict∧o.data=.dict es ep
section
variable {P:Program} {w:World} {A:Around} {E:Value→Shared→Prop} {s:Shared}
theorem RawD.at {h h':Heap} {d:Addr} {es:Array DictEntry} {ep:Nat} (x:RawD h d es ep) (e:∀ o,h.get? d=some o→h'.get? d=some o):RawD h' d es ep:=let ⟨o,ho,r⟩:=x;⟨o,e _ ho,r⟩
end
end L2
namespace L2
open PySem PySem.Spec PyProof.Rows
section
open PySem.SeqAt
open PySem.AutoSeq1 (wpAny_loadPart')
open PySem.MeetsSeq PySem.MeetsSeq2 PySem.MeetsSeq3
theorem tuple_lt_place (l b:Addr) (x y:Str) (i j:Int) (t u t2 u2:Tok) (n n2:Nat) (dd dd2:Option Addr) (sl sl2:Array (Option Value)) :
    Meets (Builtin.«tuple.__lt__» ⟨[.ref l,.ref b],[]⟩) (fun _ R s=>s.heap.get? l=some { cls:=.type "tuple",dict:=dd,data:=.seq #[.str x t,.int i u] n,slots:=sl } ∧
      s.heap.get? b=some { cls:=.type "tuple",dict:=dd2,data:=.seq #[.str y t2,.int j u2] n2,slots:=sl2 }∧R (.ok (.ret (.bool (placeLt (x,i) (y,j))))) s) :=
  .of_wp fun prog w A R s h=>by
    obtain ⟨hp,g,d,tk,os⟩:=s;obtain ⟨hl,hb,h⟩:=h
    have f2:=AutoSeq1.sub_tuple_tuple
    have lt1:∀ (E:Value→Shared→Prop) (Q:Value→Shared→Prop) (s:Shared),Q (.bool (decide (x.cps.toList < y.cps.toList))) s→wpAny (model prog w) A.in1 (richCompare .Lt (.str x t) (.str y t2)) Q E s:=fun E Q s q=>(PyProof.Rows.lt_str q:wpAny (model prog w) A.in1 (compareOp .Lt (.str x t) (.str y t2)) Q E s)
    have lt2:=HT.rcLt_int A.in1 ⟨hp,g,d,tk,os⟩ i u j u2 prog w
    by_cases e:x=y
    · subst e
      have eq1:=SeqAt.EqAt.str_str (A:=A.in1) (s:=⟨hp,g,d,tk,os⟩) x t x t2 prog w
      rw [beq_self_eq_true] at eq1
      unfold placeLt at h
      rw [if_pos rfl] at h
      by_cases e2:i=j
      · subst e2
        have eq2:=SeqAt.EqAt.int_int (A:=A.in1) (s:=⟨hp,g,d,tk,os⟩) i u i u2 prog w
        rw [beq_self_eq_true] at eq2
        wp_walk using wpAny_loadPart' hl,wpAny_loadPart' hb,eq1,eq2
        exact ⟨_,rfl,by simpa [Builtin.Tuple.tupleCompareSizes] using h⟩
      · have eq2:=SeqAt.EqAt.int_int (A:=A.in1) (s:=⟨hp,g,d,tk,os⟩) i u j u2 prog w
        rw [show (i == j)=false from by simpa using e2] at eq2
        wp_walk using wpAny_loadPart' hl,wpAny_loadPart' hb,eq1,eq2,lt2
        exact ⟨_,rfl,by simpa using h⟩
    · have eq1:=SeqAt.EqAt.str_str (A:=A.in1) (s:=⟨hp,g,d,tk,os⟩) x t y t2 prog w
      rw [show (x == y)=false from by simpa using e] at eq1
      unfold placeLt at h
      rw [if_neg e] at h
      wp_walk using wpAny_loadPart' hl,wpAny_loadPart' hb,eq1,lt1
      exact ⟨_,rfl,by simpa using h⟩
end
end L2
namespace L2
open PySem PySem.Spec PyProof.Rows
section
variable {P:Program} {w:World} {A:Around} {E:Value→Shared→Prop} {s:Shared}
theorem RawD.lt {h:Heap} {d:Addr} {es:Array DictEntry} {ep:Nat} (x:RawD h d es ep):d < h.objs.size:=let ⟨_,ho,_⟩:=x;Heap.lt_size ho
end
end L2
namespace L2
open PySem PySem.Spec PyProof.Rows
def plKey (q:Str × Int):List Key:=[.inr q.1,.inl q.2]
abbrev cSrtD:RC:=fun xs H Q=>∃ (a:Addr) (kvs:List (List Key × V)) (qs:List (Str × Int)),xs=[.ref a]∧H a=some (.dT kvs)∧kvs.map (·.1)=qs.map plKey∧kvs.length < 64 ∧
  ∀ (l:Addr) (ps:List (Addr × (Str × Int))),H l=none→(ps.map (·.2)).Perm qs→(ps.map (·.2)).Pairwise (fun a b=>placeLt a b=true)→(∀ n∈ps,H n.1=some (.tup [.str n.2.1,.int n.2.2]))→Q (.ref l) (upd H l (.lst (ps.map fun n=>V.ref n.1)))
theorem paired_get {α β:Type} {F:α→β→Prop}:∀ {l₁:List α} {l₂:List β},Paired F l₁ l₂→∀ {i:Nat} {a:α} {b:β},l₁[i]?=some a→l₂[i]?=some b→F a b
  | _,_,.nil,i,a,b,h,_=>by simp at h
  | _,_,.cons x r,0,a,b,h1,h2=>by
    simp only [List.getElem?_cons_zero,Option.some.injEq] at h1 h2
    subst h1 h2
    exact x
  | _,_,.cons x r,i + 1,a,b,h1,h2=>paired_get r (by simpa using h1) (by simpa using h2)
theorem PlAt.keep {h h':Heap} {v:Value} {q:Str × Int} (x:PlAt h v q) (k:∀ b o,h.get? b=some o→h'.get? b=some o):PlAt h' v q:=by
  obtain ⟨a,o,t,u,n,e,ho,r⟩:=x
  exact ⟨a,o,t,u,n,e,k _ _ ho,r⟩
section
variable {X:Cx}
theorem place_at {pins:List (Addr × Obj)} {σ:St} {H:Hp} {s:Shared} {a:Addr} {q:Str × Int} (I:Inv X pins σ H s) (h:H a=some (.tup [.str q.1,.int q.2])):PlAt s.heap (.ref a) q:=by
  obtain ⟨its,rv,⟨o,ho,hc,n,hd⟩,_⟩:=I.tuple (SqT.of h)
  cases rv with
  | cons r1 rr =>
    cases rr with
    | cons r2 rn =>
      cases rn
      obtain ⟨t,rfl⟩:=r1
      obtain ⟨u,rfl⟩:=r2
      exact ⟨a,o,t,u,n,rfl,ho,hc,hd⟩
theorem nodup_map_inj {α β:Type} {f:α→β}:∀ {l:List α},(l.map f).Nodup→l.Nodup
  | [],_=>List.nodup_nil
  | a :: r,h=>by
    rw [List.map_cons,List.nodup_cons] at h
    exact List.nodup_cons.mpr ⟨fun z=>h.1 (List.mem_map_of_mem z),nodup_map_inj h.2⟩
end
end L2
namespace L2
open PySem PySem.Spec PyProof.Rows
def Itd (a:Addr) (o:Obj) (kvs:List (List Key × V)):It :=
  ⟨fun i H=>H a=some (.frz o (.dT kvs))∧i < kvs.length,fun i H x H'=>H'=H∧∃ k v p,kvs[i]?=some (k,v)∧x=.ref p∧H p=some (.tup (k.map kV)),fun i H=>H a=some (.frz o (.dT kvs))∧kvs.length≤i⟩
section
variable {X:Cx}
def iDT (tl:TE):TI:=fun σ H R=>tl σ H fun x H1=>∃ a o kvs,x=.ref a∧H1 a=some (.frz o (.dT kvs))∧R (Itd a o kvs) H1
end
section
variable {σ:St} {H:Hp} {nx:St→Hp→Prop} {B:V→St→Hp→(St→Hp→Prop)→Prop}
end
end L2
namespace L2
open PySem PySem.Spec PyProof.Rows
mutual
inductive Dat (K:PySem.W.Frag) (H:Hp):V→PyData→Prop
  | non:Dat K H .non .none
  | bl (b:Bool):Dat K H (.bl b) (.bool b)
  | int (i:Int):Dat K H (.int i) (.int i)
  | str (x:Str):Dat K H (.str x) (.str x)
  | lst {a:Addr} {xs:List V} {ds:List PyData}:SqL K H a xs→DatAll K H xs ds→Dat K H (.ref a) (.list ds)
  | tup {a:Addr} {xs:List V} {ds:List PyData}:SqT K H a xs→DatAll K H xs ds→Dat K H (.ref a) (.tuple ds)
inductive DatAll (K:PySem.W.Frag) (H:Hp):List V→List PyData→Prop
  | nil:DatAll K H [] []
  | cons {x:V} {d:PyData} {xs:List V} {ds:List PyData}:Dat K H x d→DatAll K H xs ds→DatAll K H (x :: xs) (d :: ds)
end
section
variable {X:Cx} {pins:List (Addr × Obj)} {σ:St} {H:Hp} {s:Shared}
mutual
theorem Dat.reads (I:Inv X pins σ H s):∀ {x:V} {d:PyData} {u:Value},Dat X.K H x d→RelV x u→∃ as,Reads s.heap u d as
  | _,_,_,.non,r=>by cases r;exact ⟨_,.none⟩
  | _,_,_,.bl b,r=>by cases r;exact ⟨_,.bool b⟩
  | _,_,_,.int i,r=>by obtain ⟨t,rfl⟩:=r;exact ⟨_,.int i t⟩
  | _,_,_,.str x,r=>by obtain ⟨t,rfl⟩:=r;exact ⟨_,.str x t⟩
  | _,_,_,.lst hq ha,r=>by
    cases r
    obtain ⟨its,rv,⟨o,n,e,c,_,d⟩,_⟩:=I.list hq
    obtain ⟨as,ra⟩:=DatAll.reads I ha rv
    exact ⟨_,.list e c d (by simpa using ra)⟩
  | _,_,_,.tup hq ha,r=>by
    cases r
    obtain ⟨its,rv,⟨o,e,c,n,d⟩,_⟩:=I.tuple hq
    obtain ⟨as,ra⟩:=DatAll.reads I ha rv
    exact ⟨_,.tuple e c d (by simpa using ra)⟩
theorem DatAll.reads (I:Inv X pins σ H s):∀ {xs:List V} {ds:List PyData} {us:List Value},DatAll X.K H xs ds→Vals xs us→∃ as,ReadsAll s.heap us ds as
  | _,_,_,.nil,r=>by cases r;exact ⟨_,.nil⟩
  | _,_,_,.cons hx ht,r=>by
    cases r with
    | cons r1 rr =>
      obtain ⟨as,ra⟩:=Dat.reads I hx r1
      obtain ⟨bs,rb⟩:=DatAll.reads I ht rr
      exact ⟨_,.cons ra rb⟩
end
end
section
variable {K:PySem.W.Frag} {H H':Hp}
theorem SqL.mono {a:Addr} {xs:List V} (k:Same H H') (h:SqL K H a xs):SqL K H' a xs:=by
  rcases h with (h | ⟨o,h⟩) | h
  · exact .inl (.inl (k _ _ h))
  · exact .inl (.inr ⟨o,k _ _ h⟩)
  · exact .inr h
theorem DatAll.of {α:Type} {f:α→V} {g:α→PyData}:∀ {l:List α},(∀ a∈l,Dat K H (f a) (g a))→DatAll K H (l.map f) (l.map g)
  | [],_=>.nil
  | a :: r,h=>.cons (h a List.mem_cons_self) (DatAll.of fun b hb=>h b (List.mem_cons_of_mem _ hb))
end
section
variable {X:Cx} {pins:List (Addr × Obj)} {σ:St} {H:Hp} {s:Shared}
end
mutual
def plainD:PyData→Bool
  | .none=>true
  | .int _=>true
  | .str x=>PyData.strOk x
  | .list xs=>plainDs xs
  | .tuple xs=>plainDs xs
  | .bool _=>false
  | .dict _=>false
def plainDs:List PyData→Bool
  | []=>true
  | x :: xs=>plainD x && plainDs xs
end
mutual
theorem plain_lay:∀ {d:PyData},plainD d=true→d.canLay0=true
  | .none,_=>by simp [PyData.canLay0]
  | .int _,_=>by simp [PyData.canLay0]
  | .str x,h=>by simpa [PyData.canLay0,plainD] using h
  | .list xs,h=>by rw [PyData.canLay0];exact plains_lay (by simpa [plainD] using h)
  | .tuple xs,h=>by rw [PyData.canLay0];exact plains_lay (by simpa [plainD] using h)
  | .bool _,h=>by simp [plainD] at h
  | .dict _,h=>by simp [plainD] at h
theorem plains_lay:∀ {ds:List PyData},plainDs ds=true→PyData.canLayAll0 ds=true
  | [],_=>by simp [PyData.canLayAll0]
  | x :: xs,h=>by
    rw [plainDs,Bool.and_eq_true] at h
    rw [PyData.canLayAll0,plain_lay h.1,plains_lay h.2];rfl
end
mutual
theorem plain_eqv:∀ {d e:PyData},plainD d=true→plainD e=true→(PyData.eqv d e=true↔d=e)
  | .list xs,.list ys,h,h'=>by
    rw [PyData.eqv,plains_eqv (by simpa [plainD] using h) (by simpa [plainD] using h'),PyData.list.injEq]
  | .tuple xs,.tuple ys,h,h'=>by
    rw [PyData.eqv,plains_eqv (by simpa [plainD] using h) (by simpa [plainD] using h'),PyData.tuple.injEq]
  | .bool _,_,h,_=>by simp [plainD] at h
  | .dict _,_,h,_=>by simp [plainD] at h
  | .none,.bool _,_,h=>by simp [plainD] at h
  | .int _,.bool _,_,h=>by simp [plainD] at h
  | .str _,.bool _,_,h=>by simp [plainD] at h
  | .list _,.bool _,_,h=>by simp [plainD] at h
  | .tuple _,.bool _,_,h=>by simp [plainD] at h
  | .none,.dict _,_,h=>by simp [plainD] at h
  | .int _,.dict _,_,h=>by simp [plainD] at h
  | .str _,.dict _,_,h=>by simp [plainD] at h
  | .list _,.dict _,_,h=>by simp [plainD] at h
  | .tuple _,.dict _,_,h=>by simp [plainD] at h
  | .none,.none,_,_ | .none,.int _,_,_ | .none,.str _,_,_ | .none,.list _,_,_ | .none,.tuple _,_,_=>by simp [PyData.eqv]
  | .int _,.none,_,_ | .int _,.int _,_,_ | .int _,.str _,_,_ | .int _,.list _,_,_ | .int _,.tuple _,_,_=>by simp [PyData.eqv]
  | .str _,.none,_,_ | .str _,.int _,_,_ | .str _,.str _,_,_ | .str _,.list _,_,_ | .str _,.tuple _,_,_=>by simp [PyData.eqv]
  | .list _,.none,_,_ | .list _,.int _,_,_ | .list _,.str _,_,_ | .list _,.tuple _,_,_=>by simp [PyData.eqv]
  | .tuple _,.none,_,_ | .tuple _,.int _,_,_ | .tuple _,.str _,_,_ | .tuple _,.list _,_,_=>by simp [PyData.eqv]
theorem plains_eqv:∀ {xs ys:List PyData},plainDs xs=true→plainDs ys=true→(PyData.eqvAll xs ys=true↔xs=ys)
  | [],[],_,_=>by simp [PyData.eqvAll]
  | [],_ :: _,_,_=>by simp [PyData.eqvAll]
  | _ :: _,[],_,_=>by simp [PyData.eqvAll]
  | x :: xs,y :: ys,h,h'=>by
    rw [plainDs,Bool.and_eq_true] at h h'
    rw [PyData.eqvAll,Bool.and_eq_true,plain_eqv h.1 h'.1,plains_eqv h.2 h'.2,List.cons.injEq]
end
abbrev rEqD (K:PySem.W.Frag) (neg:Bool):R2:=fun x y H Q=>∃ d e,Dat K H x d∧Dat K H y e∧(plainD d=true∧plainD e=true∧d.depth≤64∧e.depth≤64)∧∀ b:Bool,(b=true↔d=e)→Q (.bl (if neg then !b else b)) H
section
variable {X:Cx}
theorem shaped_plain {d:PyData} (h:plainD d=true) (h':d.depth≤64):SeqAt.shaped d=true:=by
  unfold SeqAt.shaped
  rw [plain_lay h,decide_eq_true h'];rfl
theorem op_eqAll (hu:X.A.units + 64 < cLine):OpR X (compareOp .Eq) (rEqD X.K false):=by
  intro pins s σ H x y v u Q I rx ry h
  obtain ⟨d,e,hd,he,⟨p1,p2,l1,l2⟩,q⟩:=h
  obtain ⟨as,ra⟩:=hd.reads I rx
  obtain ⟨bs,rb⟩:=he.reads I ry
  exact eq_dataH ra rb (shaped_plain p1 l1) (shaped_plain p2 l2) hu ⟨.bl _,H,I,rfl,q _ (plain_eqv p1 p2)⟩
theorem op_neAll (hu:X.A.units + 64 < cLine):OpR X (compareOp .NotEq) (rEqD X.K true):=by
  intro pins s σ H x y v u Q I rx ry h
  obtain ⟨d,e,hd,he,⟨p1,p2,l1,l2⟩,q⟩:=h
  obtain ⟨as,ra⟩:=hd.reads I rx
  obtain ⟨bs,rb⟩:=he.reads I ry
  exact ne_dataH ra rb (shaped_plain p1 l1) (shaped_plain p2 l2) hu ⟨.bl _,H,I,rfl,q _ (plain_eqv p1 p2)⟩
end
end L2
namespace L2
open PySem PySem.Spec PyProof.Rows
abbrev rGtS:R2:=fun x y H Q=>∃ i j,x=.str i∧y=.str j∧Q (.bl (decide (j.cps.toList < i.cps.toList))) H
abbrev rInD (neg:Bool):R2:=fun x y H Q=>∃ a o,y=.ref a∧DGet H a x o∧Q (.bl (if neg then !o.isSome else o.isSome)) H
section
variable {X:Cx}
theorem op_in_d (hu:X.A.units + 1 < cLine):OpR X (compareOp .In) (rInD false):=by
  intro pins s σ H x y v u Q I rx ry h
  obtain ⟨a,o,rfl,g,q⟩:=h
  cases ry
  exact d_in hu I g rx fun s' I'=>⟨.bl _,H,I',rfl,q⟩
theorem op_notin_d (hu:X.A.units + 1 < cLine):OpR X (compareOp .NotIn) (rInD true):=by
  intro pins s σ H x y v u Q I rx ry h
  obtain ⟨a,o,rfl,g,q⟩:=h
  cases ry
  exact d_notIn hu I g rx fun s' I'=>⟨.bl _,H,I',rfl,q⟩
end
end L2
namespace L2
open PySem
abbrev Pl:=Str × Int
abbrev Row:=Pl × Int
def lastW:List Row→Pl→Option Int
  | [],_=>none
  | r :: t,p=>(lastW t p).or (if r.1=p then some r.2 else none)
def dStep (kvs:List (List Key × V)) (q:Row):List (List Key × V):=putK kvs (plKey q.1) (.int q.2)
def dOf (rows:List Row):List (List Key × V):=rows.foldl dStep []
theorem plKey_inj {p q:Pl} (h:plKey p=plKey q):p=q:=by
  unfold plKey at h
  simp only [List.cons.injEq,Sum.inr.injEq,Sum.inl.injEq,and_true] at h
  exact Prod.ext h.1 h.2
theorem val_fold:∀ (rows:List Row) (kvs:List (List Key × V)) (p:Pl),valV (rows.foldl dStep kvs) (plKey p)=((lastW rows p).map V.int).or (valV kvs (plKey p))
  | [],_,_=>rfl
  | r :: t,kvs,p=>by
    rw [List.foldl_cons,val_fold t,lastW]
    show _=_
    rw [dStep,valV_put]
    cases lastW t p with
    | some w=>rfl
    | none =>
      by_cases e:r.1=p
      · subst e;simp
      · rw [if_neg (fun z=>e (plKey_inj z).symm)];simp [e]
theorem val_dOf (rows:List Row) (p:Pl):valV (dOf rows) (plKey p)=(lastW rows p).map V.int:=by
  unfold dOf
  rw [val_fold,valV_nil]
  cases lastW rows p <;> rfl
theorem dOf_snoc (rows:List Row) (q:Row):dOf (rows ++ [q])=putK (dOf rows) (plKey q.1) (.int q.2):=by
  unfold dOf
  rw [List.foldl_append];rfl
def OkKv (kvs:List (List Key × V)):Prop:=(kvs.map (·.1)).Nodup∧∀ kv∈kvs,∃ (p:Pl) (w:Int),kv=(plKey p,.int w)
theorem OkKv.put {kvs:List (List Key × V)} (h:OkKv kvs) (p:Pl) (w:Int):OkKv (putK kvs (plKey p) (.int w)):=by
  cases e:valV kvs (plKey p) with
  | none =>
    refine ⟨nd_putK _ h.1 e,fun kv hk=>?_⟩
    rw [putK_new _ e] at hk
    rcases List.mem_append.mp hk with hk | hk
    · exact h.2 kv hk
    · exact ⟨p,w,List.mem_singleton.mp hk⟩
  | some v =>
    have q:(kvs.any fun kv=>decide (kv.1=plKey p))=true:=by rw [valV_any,e];rfl
    unfold putK
    rw [if_pos q]
    constructor
    · rw [List.map_map]
      have:((fun x:List Key × V=>x.1) ∘ fun kv:List Key × V=>if kv.1=plKey p then (kv.1,V.int w) else kv)=fun x=>x.1:=by
        funext kv
        show (if kv.1=plKey p then (kv.1,V.int w) else kv).1=kv.1
        split <;> rfl
      rw [this];exact h.1
    · intro kv hk
      obtain ⟨z,hz,rfl⟩:=List.mem_map.mp hk
      by_cases e:z.1=plKey p
      · exact ⟨p,w,by rw [if_pos e,e]⟩
      · rw [if_neg e];exact h.2 z hz
theorem okKv_fold:∀ (rows:List Row) (kvs:List (List Key × V)),OkKv kvs→OkKv (rows.foldl dStep kvs)
  | [],_,h=>h
  | r :: t,kvs,h=>okKv_fold t _ (h.put r.1 r.2)
theorem okKv_dOf (rows:List Row):OkKv (dOf rows):=okKv_fold rows [] ⟨List.nodup_nil,fun _ h=>nomatch h⟩
theorem len_put (kvs:List (List Key × V)) (k:List Key) (v:V):(putK kvs k v).length≤kvs.length + 1:=by
  unfold putK
  split
  · rw [List.length_map];omega
  · rw [List.length_append];simp
theorem len_fold:∀ (rows:List Row) (kvs:List (List Key × V)),(rows.foldl dStep kvs).length≤kvs.length + rows.length
  | [],_=>by simp
  | r :: t,kvs=>by
    have:=len_fold t (dStep kvs r)
    have:=len_put kvs (plKey r.1) (.int r.2)
    rw [List.foldl_cons,List.length_cons]
    unfold dStep at *
    omega
theorem len_dOf (rows:List Row):(dOf rows).length≤rows.length:=by have:=len_fold rows [];simpa [dOf] using this
theorem valV_nd {kvs:List (List Key × V)}:(kvs.map (·.1)).Nodup→∀ kv∈kvs,valV kvs kv.1=some kv.2:=by
  induction kvs with
  | nil=>exact fun _ kv h=>nomatch h
  | cons a r ih =>
    intro hn kv hk
    rw [List.map_cons,List.nodup_cons] at hn
    rcases List.mem_cons.mp hk with rfl | hk
    · exact valV_pos rfl
    · rw [valV_neg fun z=>hn.1 (by rw [z];exact List.mem_map_of_mem hk)]
      exact ih hn.2 kv hk
theorem mem_dOf {rows:List Row} {kv:List Key × V}:kv∈dOf rows↔∃ p w,kv=(plKey p,.int w)∧lastW rows p=some w:=by
  constructor
  · intro h
    obtain ⟨p,w,rfl⟩:=(okKv_dOf rows).2 kv h
    have:=valV_nd (okKv_dOf rows).1 _ h
    rw [val_dOf] at this
    obtain ⟨w',e1,e2⟩:=Option.map_eq_some_iff.mp this
    cases e2
    exact ⟨p,w,rfl,e1⟩
  · rintro ⟨p,w,rfl,h⟩
    have e:valV (dOf rows) (plKey p)=some (.int w):=by rw [val_dOf,h];rfl
    obtain ⟨kv,hk,e1⟩:=List.mem_map.mp (valV_in e)
    have:=valV_nd (okKv_dOf rows).1 _ hk
    rw [e1,e] at this
    have e2:kv=(plKey p,V.int w):=Prod.ext e1 (Option.some.inj this).symm
    rw [← e2];exact hk
theorem placeLt_irr (a:Pl):placeLt a a=false:=by
  unfold placeLt
  rw [if_pos rfl]
  exact decide_eq_false (by omega)
theorem placeLt_trans {a b c:Pl} (h1:placeLt a b=true) (h2:placeLt b c=true):placeLt a c=true:=by
  unfold placeLt at *
  by_cases e1:a.1=b.1
  · rw [if_pos e1] at h1
    by_cases e2:b.1=c.1
    · rw [if_pos e2] at h2
      rw [if_pos (e1.trans e2)]
      have h1:=of_decide_eq_true h1
      have h2:=of_decide_eq_true h2
      exact decide_eq_true (by omega)
    · rw [if_neg e2] at h2
      rw [if_neg (by rw [e1];exact e2),e1]
      exact h2
  · rw [if_neg e1] at h1
    have h1:=of_decide_eq_true h1
    by_cases e2:b.1=c.1
    · rw [if_neg (by rw [← e2];exact e1),← e2]
      exact decide_eq_true h1
    · rw [if_neg e2] at h2
      have h2:=of_decide_eq_true h2
      have h3:=List.lt_trans h1 h2
      rw [if_neg (fun z=>by rw [z] at h3;exact List.lt_irrefl _ h3)]
      exact decide_eq_true h3
def Rising (l:List Row):Prop:=l.Pairwise fun a b=>placeLt a.1 b.1=true
def IsTab (rows out:List Row):Prop:=Rising out∧∀ p w,(p,w)∈out↔lastW rows p=some w∧w≠0
theorem Rising.nd {l:List Row} (h:Rising l):(l.map (·.1)).Nodup:=by
  unfold List.Nodup
  rw [List.pairwise_map]
  exact List.Pairwise.imp (fun {a b} h z=>by rw [z,placeLt_irr] at h;cases h) h
theorem last_none {p:Pl}:∀ {l:List Row},(∀ r∈l,r.1≠p)→lastW l p=none
  | [],_=>rfl
  | r :: t,h=>by
    rw [lastW,last_none fun r hr=>h r (List.mem_cons_of_mem _ hr),if_neg (h r List.mem_cons_self)];rfl
theorem last_nd {p:Pl} {w:Int}:∀ {l:List Row},(l.map (·.1)).Nodup→(lastW l p=some w↔(p,w)∈l)
  | [],_=>by simp [lastW]
  | r :: t,hn=>by
    rw [List.map_cons,List.nodup_cons] at hn
    have ih:=last_nd (p:=p) (w:=w) hn.2
    by_cases e:r.1=p
    · have z:lastW t p=none:=last_none fun q hq zz=>hn.1 (by rw [e,← zz];exact List.mem_map_of_mem hq)
      rw [lastW,z,if_pos e]
      constructor
      · intro h
        have:r.2=w:=by simpa using h
        rw [← e,← this];exact List.mem_cons_self
      · intro h
        rcases List.mem_cons.mp h with h | h
        · rw [← h];rfl
        · exact absurd (List.mem_map_of_mem (f:=(·.1)) h) (by rw [← e];exact hn.1)
    · rw [lastW,if_neg e,Option.or_none,ih,List.mem_cons]
      constructor
      · exact .inr
      · rintro (h | h)
        · exact absurd (by rw [← h]) e
        · exact h
theorem rising_ext:∀ {a b:List Row},Rising a→Rising b→(∀ x,x∈a↔x∈b)→a=b
  | [],[],_,_,_=>rfl
  | [],y :: _,_,_,h=>absurd ((h y).mpr List.mem_cons_self) (by simp)
  | x :: _,[],_,_,h=>absurd ((h x).mp List.mem_cons_self) (by simp)
  | x :: a,y :: b,ha,hb,h=>by
    unfold Rising at ha hb
    rw [List.pairwise_cons] at ha hb
    have e:x=y:=by
      rcases List.mem_cons.mp ((h x).mp List.mem_cons_self) with e | e
      · exact e
      · rcases List.mem_cons.mp ((h y).mpr List.mem_cons_self) with e' | e'
        · exact e'.symm
        · have:=placeLt_trans (ha.1 y e') (hb.1 x e)
          rw [placeLt_irr] at this;cases this
    subst e
    have nx:x ∉ a:=fun z=>by have:=ha.1 x z;rw [placeLt_irr] at this;cases this
    have ny:x ∉ b:=fun z=>by have:=hb.1 x z;rw [placeLt_irr] at this;cases this
    rw [rising_ext ha.2 hb.2 fun z=>?_]
    constructor
    · intro hz
      rcases List.mem_cons.mp ((h z).mp (List.mem_cons_of_mem _ hz)) with e | e
      · subst e;exact absurd hz nx
      · exact e
    · intro hz
      rcases List.mem_cons.mp ((h z).mpr (List.mem_cons_of_mem _ hz)) with e | e
      · subst e;exact absurd hz ny
      · exact e
theorem nd_len_le {α:Type} [DecidableEq α]:∀ {a b:List α},a.Nodup→(∀ x∈a,x∈b)→a.length≤b.length
  | [],_,_,_=>Nat.zero_le _
  | x :: a,b,hn,h=>by
    rw [List.nodup_cons] at hn
    have hx:=h x List.mem_cons_self
    have:=nd_len_le (a:=a) (b:=b.erase x) hn.2 fun y hy=>(List.mem_erase_of_ne fun z=>hn.1 (by rw [← z];exact hy)).mpr (h y (List.mem_cons_of_mem _ hy))
    rw [List.length_erase_of_mem hx] at this
    have:0 < b.length:=List.length_pos_of_mem hx
    rw [List.length_cons];omega
end L2
namespace L2
open PySem PySem.Spec PyProof.Rows
def Itzl (K:PySem.W.Frag) (p q:Addr) (xs ys:List V):It:=⟨fun i H=>i < xs.length∧SqL K H p xs∧SqL K H q ys,fun i H x H'=>∃ T u v,x=.ref T∧H T=none∧H'=upd H T (.tup [u,v])∧xs[i]?=some u∧ys[i]?=some v,fun i H=>xs.length≤i∧SqL K H p xs∧SqL K H q ys⟩
def iZipL (K:PySem.W.Frag) (ta:TA):TI:=fun σ H R=>ta σ H fun vs H1=>∃ p q xs ys,vs=[.ref p,.ref q]∧SqL K H1 p xs∧SqL K H1 q ys∧xs.length=ys.length∧R (Itzl K p q xs ys) H1
section
variable {X:Cx}
end
section
variable {σ:St} {H:Hp} {nx:St→Hp→Prop} {B:V→St→Hp→(St→Hp→Prop)→Prop}
end
end L2
namespace L2
open PySem PySem.Spec PyProof.Rows
section
variable {X:Cx} {A:Around} {R:Result→Shared→Prop}
def PrAt (H:Hp) (v:V) (q:Row):Prop:=∃ r p,v=.ref r∧H r=some (.tup [.ref p,.int q.2])∧H p=some (.tup [.str q.1.1,.int q.1.2])
end
end L2
namespace L2
open PySem PySem.Spec PyProof.Rows
section
variable {prog:Program} {w:World} {A:Around} {E:Value→Shared→Prop} {s:Shared} {a:Addr} {o:Obj} {xs:Array Value} {k:Nat}
end
theorem hu3 {k:Nat} {A:Around} (r:Room k A):A.units + 3 < cLine:=by have:=hu64 r;omega
abbrev cDctP:RC:=fun vs H Q=>∃ (a:Addr) (xs:List V) (rows:List Row),vs=[.ref a]∧H a=some (.lst xs)∧Paired (PrAt H) xs rows∧rows.length≤1000∧∀ p,H p=none→Q (.ref p) (upd H p (.dT (dOf rows)))
section
variable {X:Cx}
end
end L2
namespace L2
open PySem PySem.Spec PyProof.Rows
section
variable {X:Cx} {k:Nat} {f C:Addr} {fd:FuncData} {ps:List Str} {sp:Sp} {m:Str} {pos apos:Pos} {e o:Expr} {es:List Expr} {ta:TE} {t:TA}
def tMethX (C:Addr) (m:Str) (sp:Sp) (ta:TE) (t:TA) (EX:EXK):TE:=fun σ H Q=>ta σ H fun x H1=>∃ a dx fs,x=.ref a∧H1 a=some (.ins C dx fs)∧fs.lookup m=none ∧
  t σ H1 fun vs H2=>sp (x :: (vs ++ [])) H2 Q fun cls _ H3=>EX cls σ H3
theorem pex_meth {pl:Sem Bool} (he:PE X.nox o ta) (c:Cls X.K C) (hm:Meth X.K C m f) (F:FnOk X.prog X.w X.K X.mg X.base (CX1 X.prog X.w) k f fd ps sp) (hr:Room k X.A) (hb:Binds X.K fd ps []) (ha:PA X.nox (e :: es) t)
    (hst:starEach (e :: es) X.env=(false,eval e X.env) :: starEach es X.env:=by rfl) (hpl:(backTo pos (starEach es X.env)).any (·.1)=false:=by rfl)
    (ht:eval (.Call (.Attribute o m apos) (e :: es) [] pos) X.env=(do
      let ov ← eval o X.env
      standAt apos.atName
      let (f,first) ← holding [ov] (getMethod ov m pl)
      callWith pos f first (backTo pos (starEach (e :: es) X.env)) (backToKw pos (keywordEach [] X.env))):=by rfl) :
    PEX X (.Call (.Attribute o m apos) (e :: es) [] pos) (tMethX C m sp ta t):=by
  intro pins s σ H Q EX I h
  refine PySem.W.methodCall_KW (pl:=pl) (wpAny_mono (he pins s σ H _ (I.wish _) h) (fun u s1 ⟨x,H1,I1',rx,a,dx,fs,ex,ea,l,q⟩=>?_) fun _ _ z=>False.elim z) ht
  subst ex
  obtain rfl:u=Value.ref a:=rx
  have I1:=I1'.unwish
  refine getmeth_ok I1 ea c hm l ?_
  refine PySem.W.callWith_K (first:=[.ref a]) (h₀:=X.base) I.ok.mod.kin hm.kp (wpAny_mono (ha pos pins s1 σ H1 _ (I1.wish _) q) (fun us s2 ⟨vs,H2,I2',r,q2⟩=>⟨I2'.kIn,?_⟩) fun _ _ z=>False.elim z) hst hpl
  have I2:=I2'.unwish
  have r2:Vals (V.ref a :: (vs ++ [])) (Value.ref a :: (us ++ [])):=.cons rfl (r.append .nil)
  have hl:((Value.ref a :: us) ++ []).length=ps.length:=by
    have e:=r2.length
    rw [F.len _ _ _ _ q2] at e
    exact e.symm
  refine wpAny_call (codeAny_mono (F.run X.A X.stack s2 H2 ⟨.ref a :: us,[]⟩ ((.ref a :: us) ++ []) (.ref a :: (vs ++ [])) _ _ hr I2.env0 (hb s2 (.ref a :: us) I2.kIn hl) r2 q2) fun r s' hq=>?_)
  cases r with
  | error ev =>
    obtain ⟨e,cls,H',rfl,os,bare,un,hok,xf,hE⟩:=hq
    exact ⟨e,cls,σ,s2,H2,H',rfl,I2,I2.call' (ch:=[]) os un hok bare (fun b z=>nomatch z),xf,hE⟩
  | ok fl =>
    cases fl with
    | ret u=>exact I2.after hq
    | next=>exact False.elim hq
    | brk=>exact False.elim hq
    | cont=>exact False.elim hq
end
def tTryN (K:PySem.W.Frag) (tb:EXK→TS) (C1:Addr) (th1:TS):TS:=fun D σ H=>tb (fun cls σ1 H1=>∃ C,cls=.ref C∧PySem.W.exmOne K (.ref C) (.ref C1)=some true∧th1 D σ1 H1) D σ H
def tTryNN (K:PySem.W.Frag) (tb:EXK→TS) (C1:Addr) (th1:TS) (C2:Addr) (th2:TS):TS:=fun D σ H=>tb (fun cls σ1 H1=>∃ C,cls=.ref C ∧
  ((PySem.W.exmOne K (.ref C) (.ref C1)=some true∧th1 D σ1 H1)∨(PySem.W.exmOne K (.ref C) (.ref C1)=some false∧PySem.W.exmOne K (.ref C) (.ref C2)=some true∧th2 D σ1 H1))) D σ H
section
variable {X:Cx} {st b₀ b₁:Stmt} {suite suite1:List Stmt} {tb:EXK→TS} {th1 th2:TS} {c1 c2:Str} {C1 C2:Addr} {np hpos np2 hpos2 pos:Pos}
theorem ps_tryNN (hst:X.stack=X.env :: X.outer∧X.env.frame=some X.env.locals) (hex:X.ex=[]) (hb:PSX X st tb) (hg1:Gl X c1) (hm1:X.mg c1=some (.ref C1)) (hg2:Gl X c2) (hm2:X.mg c2=some (.ref C2))
    (hs1:∀ e,PSs (X.sub e) (b₀ :: suite) th1) (hs2:∀ e,PSs (X.sub e) (b₁ :: suite1) th2) (hdb1:(c1 == ("__debug__":Str))=false:=by decide) (hdb2:(c2 == ("__debug__":Str))=false:=by decide) :
    PS X (.Try [st] [.ExceptHandler (some (.Name c1 np)) none (b₀ :: suite) hpos,.ExceptHandler (some (.Name c2 np2)) none (b₁ :: suite1) hpos2] [] [] pos) (tTryNN X.K tb C1 th1 C2 th2):=by
  intro pins s σ H D I h
  refine wpAny_Try_except (wpAny_execs_cons (wpAny_mono (hb pins s σ H D _ I h) (fun f s1 q=>?_) fun ev s1 q=>?_))
  · cases f with
    | next=>exact wpAny_execs_nil (wpAny_execs_nil q)
    | ret v=>exact q
    | brk=>exact q
    | cont=>exact q
  obtain ⟨e,cls,σ1,s0,H0,H1,rfl,I0,I1,xf,C,rfl,hth⟩:=q
  obtain ⟨oe,vs,a0,T,oT,ts,h1,h2,h3,h4,h5,h6,h7,h8,h9,h10,h11,h12⟩:=xf
  have fr:s1.heap.FunFrames (PySem.W.hideAll s1.heap (frs X.stack ++ [e,T])) (X.env :: X.outer):=by
    have q:=PySem.W.funFrames_hide (as:=frs X.stack ++ [e,T]) I1.stack fun env he a ha=>List.mem_append_left _ (List.mem_filterMap.mpr ⟨env,he,ha⟩)
    rw [hst.1] at q ⊢
    exact q
  have two:∀ b∈[e,T],s0.heap.get? b=none∧H1 b=none:=fun b z=>by
    have z':b=e∨b=T:=by simpa using z
    rcases z' with rfl | rfl
    · exact ⟨h9,h11⟩
    · exact ⟨h10,h12⟩
  have hcs:∀ b∈[e,T],H1 b=none∧X.s₀.heap.get? b=none:=fun b z=>⟨(two b z).2,none_back (I0.there0 hex) (two b z).1⟩
  have hcp:∀ b∈[e,T],∀ p∈X.pn ++ pins,p.1≠b:=fun b z p hp q=>by
    have:=(I0.pin p hp).1
    rw [q,(two b z).1] at this;cases this
  refine wpAny_looks_onW (base:=PySem.W.hideAll s1.heap (frs X.stack ++ [e,T])) (a0:=a0) (cls:=.ref C) (by rw [I1.ok.frames,hst.1]) hst.2
    ⟨fun b o q=>PySem.W.of_hideAll _ q,PySem.W.hideAll_none _ (List.mem_append_right _ (by simp)),fr,oe,vs,T,oT,ts,h1,h2,h3,h4,PySem.W.hideAll_none _ (List.mem_append_right _ (by simp)),h5,h6,h7,h8⟩ fun g4 held4 sm4=>?_
  refine wpAny_landsW held4 fun g5 fly5 sm5=>?_
  have hB:∀ {g:Heap},(PySem.W.hideAll s1.heap (frs X.stack ++ [e,T])).StaysIn g→∀ b o,s1.heap.get? b=some o→b ∉ frs X.stack→b ∉ [e,T]→g.get? b=some o :=
    fun {g} k b o q n1 n2=>k b o (PySem.W.hideAll_get _ q fun z=>(List.mem_append.mp z).elim n1 n2)
  have I5:Inv X pins σ1 H1 { s1 with heap:=g5 }:=I1.land hex hcs hcp (hB fly5.1) (sm4.trans sm5)
  have K5:=I5.kIn
  have ty5:PySem.W.Looks (model X.prog X.w) g5 (typeOf (.ref e)) (.ref C):=by
    obtain ⟨o,p1,p2⟩:=fly5.there
    exact p2 ▸ (PySem.W.Looks.ld p1).andThen .now
  have run:∀ {b₂:Stmt} {su:List Stmt} {th:TS} {hp:Pos} {R:Result→Shared→Prop},(∀ e,PSs (X.sub e) (b₂ :: su) th)→th D σ1 H1→(∀ f s',SP X pins D f s'→R (.ok f) s') →
      codeAny (model X.prog X.w) (X.A.mark (some (.ref e))) (.handlers (.ref e) [.ExceptHandler none none (b₂ :: su) hp] X.env) R { s1 with heap:=g5 }:=fun {b₂ su th hp R} hs hth hR=>by
    refine codeAny_handlers_suite (lands_againW fly5 fun g6 fly6 sm6=>?_)
    have I6:Inv X pins σ1 H1 { s1 with heap:=g6 }:=I1.land hex hcs hcp (hB fly6.1) ((sm4.trans sm5).trans sm6)
    refine wpAny_mono (hs e pins _ σ1 H1 D I6.toSub hth) (fun f s9 q=>hR f s9 ?_) fun _ _ z=>False.elim z
    cases f with
    | next=>obtain ⟨σ9,H9,J,z⟩:=q;exact ⟨σ9,H9,Inv.ofSub (J:=I) J,z⟩
    | brk=>obtain ⟨σ9,H9,J,z⟩:=q;exact ⟨σ9,H9,Inv.ofSub (J:=I) J,z⟩
    | cont=>obtain ⟨σ9,H9,J,z⟩:=q;exact ⟨σ9,H9,Inv.ofSub (J:=I) J,z⟩
    | ret u=>obtain ⟨v,σ9,H9,J,r,z⟩:=q;exact ⟨v,σ9,H9,Inv.ofSub (J:=I) J,r,z⟩
  refine wpAny_handleBy_cons (codeAny_handlers_test ?_) (by intro q;cases q)
  refine ld_glob (X:=X.sub e) (I5.toSub (e:=e)) hg1 hm1 ?_ hdb1
  rcases hth with ⟨hx,ht⟩ | ⟨hx,hx2,ht⟩
  · refine (PySem.W.exm_one K5 ty5 hx).here ?_
    exact run hs1 ht fun f s' q=>q
  · refine (PySem.W.exm_one K5 ty5 hx).here ?_
    show wpAny _ _ (handleBy (.ref e) X.env _) _ _ _
    refine wpAny_handleBy_cons (codeAny_handlers_test ?_) (by intro q;cases q)
    refine ld_glob (X:=X.sub e) (I5.toSub (e:=e)) hg2 hm2 ?_ hdb2
    refine (PySem.W.exm_one K5 ty5 hx2).here ?_
    exact run hs2 ht fun f s' q=>q
end
section
variable {X:Cx} {k:Nat} {f:Addr} {fd:FuncData} {ps:List Str} {sp:Sp} {x:Str} {p pos:Pos} {e:Expr} {es:List Expr} {t:TA}
end
end L2
namespace L2
open PySem
def rk (kvs:List (Key × V)) (ps:List V):Except Er Int:=match runE kvs ps [] with
  | .ok [i]=>.ok i
  | .ok _=>.error .stuck
  | .error e=>.error e
theorem Good.rk {kvs:List (Key × V)} {ps:List V} {r:Except Er Int} (h:Good kvs ps r):L2.rk kvs ps=r:=by
  unfold L2.rk
  rw [h.1 []]
  cases r <;> rfl
theorem step_inW {kvs:List (Key × V)} (hs:SlotsOk kvs) {v:V} (hv:okPart v) {st st':List Int} (h:∀ x∈st,inW x=true) (e:stepE kvs st v=.ok st'):∀ x∈st',inW x=true:=by
  unfold stepE at e
  split at e
  · split at e
    · rename_i w b a r hr hj
      unfold joinE at e
      by_cases c1:isDiv w∧b=0
      · rw [if_pos c1] at e;cases e
      · rw [if_neg c1] at e
        by_cases c2:inW (comeV w a b)=true
        · rw [if_pos c2] at e
          cases e
          intro x hx
          rcases List.mem_append.mp hx with hx | hx
          · refine h x (List.mem_reverse.mp ?_)
            rw [hr]
            exact List.mem_cons_of_mem _ (List.mem_cons_of_mem _ (List.mem_reverse.mp hx))
          · rw [List.mem_singleton.mp hx];exact c2
        · rw [if_neg c2] at e;cases e
    · cases e
  · cases e
    intro x hx
    rcases List.mem_append.mp hx with hx | hx
    · exact h x hx
    · rw [List.mem_singleton.mp hx];exact wrth_inW hs hv
theorem run_inW {kvs:List (Key × V)} (hs:SlotsOk kvs):∀ {ps:List V} {st st':List Int},(∀ v∈ps,okPart v)→(∀ x∈st,inW x=true)→runE kvs ps st=.ok st'→∀ x∈st',inW x=true
  | [],st,st',_,h,e=>by cases e;exact h
  | v :: r,st,st',hp,h,e=>by
    unfold runE at e
    split at e
    · rename_i st1 e1
      exact run_inW hs (fun v hv=>hp v (List.mem_cons_of_mem _ hv)) (step_inW hs (hp v List.mem_cons_self) h e1) e
    · cases e
theorem rk_inW {kvs:List (Key × V)} (hs:SlotsOk kvs) {ps:List V} (hp:∀ v∈ps,okPart v) {i:Int} (e:rk kvs ps=.ok i):inW i=true:=by
  unfold rk at e
  split at e
  · rename_i j hj
    cases e
    exact run_inW hs hp (fun _ z=>absurd z List.not_mem_nil) hj i List.mem_cons_self
  · cases e
  · cases e
def TermOk (e:List V):Prop:=(∀ kvs,∃ r,Good kvs e r)∧(∀ v∈e,okPart v)∧e.length≤1000
theorem TermOk.good {e:List V} (h:TermOk e) (kvs:List (Key × V)):Good kvs e (rk kvs e):=by
  obtain ⟨r,g⟩:=h.1 kvs
  rw [g.rk];exact g
mutual
inductive Rw where
  | take (sh:Str) (e:List V) (sl:Str)
  | give (sh:Str) (e f:List V)
  | lt (sl:Str) (e:List V)
  | say (e:List V)
  | off (e:List V)
  | iff (e:List V) (a b:Rws)
inductive Rws where
  | nil
  | cons (r:Rw) (rs:Rws)
end
set_option genSizeOf false in
set_option genInjectivity false in
structure Sta where
  sl:List (Key × V)
  wo:List Row
  sa:List Int
inductive Res where
  | go (s:Sta)
  | off
  | er (e:Er)
mutual
def goR:Rw→Sta→Res
  | .take sh e sl,s=>match rk s.sl e with
    | .ok n=>.go { s with sl:=putK s.sl (.inr sl) (.int ((lastW s.wo (sh,n)).getD 0)) }
    | .error x=>.er x
  | .give sh e f,s=>match rk s.sl e with
    | .ok n=>(match rk s.sl f with
      | .ok w=>.go { s with wo:=s.wo ++ [((sh,n),w)] }
      | .error x=>.er x)
    | .error x=>.er x
  | .lt sl e,s=>match rk s.sl e with
    | .ok n=>.go { s with sl:=putK s.sl (.inr sl) (.int n) }
    | .error x=>.er x
  | .say e,s=>match rk s.sl e with
    | .ok n=>.go { s with sa:=s.sa ++ [n] }
    | .error x=>.er x
  | .off e,s=>match rk s.sl e with
    | .ok n=>if n=0 then .go s else .off
    | .error x=>.er x
  | .iff e a b,s=>match rk s.sl e with
    | .ok n=>if n=0 then goRs b s else goRs a s
    | .error x=>.er x
def goRs:Rws→Sta→Res
  | .nil,s=>.go s
  | .cons r rs,s=>match goR r s with
    | .go s'=>goRs rs s'
    | x=>x
end
mutual
def RwAt (F:Addr→Prop) (H:Hp) (v:V):Rw→Prop
  | .take sh e sl=>∃ r te,v=.ref r∧F r∧F te∧H r=some (.tup [.str "take",.str sh,.ref te,.str sl])∧H te=some (.tup e)
  | .give sh e f=>∃ r te tf,v=.ref r∧F r∧F te∧F tf∧H r=some (.tup [.str "give",.str sh,.ref te,.ref tf])∧H te=some (.tup e)∧H tf=some (.tup f)
  | .lt sl e=>∃ r te,v=.ref r∧F r∧F te∧H r=some (.tup [.str "let",.str sl,.ref te])∧H te=some (.tup e)
  | .say e=>∃ r te,v=.ref r∧F r∧F te∧H r=some (.tup [.str "say",.ref te])∧H te=some (.tup e)
  | .off e=>∃ r te,v=.ref r∧F r∧F te∧H r=some (.tup [.str "off",.ref te])∧H te=some (.tup e)
  | .iff e a b=>∃ r te la lb xs ys,v=.ref r∧F r∧F te∧F la∧F lb∧H r=some (.tup [.str "if",.ref te,.ref la,.ref lb])∧H te=some (.tup e)∧H la=some (.lst xs)∧RwsAt F H xs a∧H lb=some (.lst ys)∧RwsAt F H ys b
def RwsAt (F:Addr→Prop) (H:Hp) (vs:List V):Rws→Prop
  | .nil=>vs=[]
  | .cons r rs=>∃ v ws,vs=v :: ws∧RwAt F H v r∧RwsAt F H ws rs
end
mutual
theorem RwAt.to_ {F G:Addr→Prop} {H H':Hp} (g:∀ b o,F b→H b=some o→G b) (s:∀ b o,F b→H b=some o→H' b=some o):∀ {v:V} (r:Rw),RwAt F H v r→RwAt G H' v r
  | v,.take sh e sl,h=>by
    unfold RwAt at h ⊢
    obtain ⟨r,te,e1,f1,f2,e2,e3⟩:=h
    exact ⟨r,te,e1,g _ _ f1 e2,g _ _ f2 e3,s _ _ f1 e2,s _ _ f2 e3⟩
  | v,.give sh e f,h=>by
    unfold RwAt at h ⊢
    obtain ⟨r,te,tf,e1,f1,f2,f3,e2,e3,e4⟩:=h
    exact ⟨r,te,tf,e1,g _ _ f1 e2,g _ _ f2 e3,g _ _ f3 e4,s _ _ f1 e2,s _ _ f2 e3,s _ _ f3 e4⟩
  | v,.lt sl e,h=>by
    unfold RwAt at h ⊢
    obtain ⟨r,te,e1,f1,f2,e2,e3⟩:=h
    exact ⟨r,te,e1,g _ _ f1 e2,g _ _ f2 e3,s _ _ f1 e2,s _ _ f2 e3⟩
  | v,.say e,h=>by
    unfold RwAt at h ⊢
    obtain ⟨r,te,e1,f1,f2,e2,e3⟩:=h
    exact ⟨r,te,e1,g _ _ f1 e2,g _ _ f2 e3,s _ _ f1 e2,s _ _ f2 e3⟩
  | v,.off e,h=>by
    unfold RwAt at h ⊢
    obtain ⟨r,te,e1,f1,f2,e2,e3⟩:=h
    exact ⟨r,te,e1,g _ _ f1 e2,g _ _ f2 e3,s _ _ f1 e2,s _ _ f2 e3⟩
  | v,.iff e a b,h=>by
    unfold RwAt at h ⊢
    obtain ⟨r,te,la,lb,xs,ys,e1,f1,f2,f3,f4,e2,e3,e4,e5,e6,e7⟩:=h
    exact ⟨r,te,la,lb,xs,ys,e1,g _ _ f1 e2,g _ _ f2 e3,g _ _ f3 e4,g _ _ f4 e6,s _ _ f1 e2,s _ _ f2 e3,s _ _ f3 e4,RwsAt.to_ g s a e5,s _ _ f4 e6,RwsAt.to_ g s b e7⟩
theorem RwsAt.to_ {F G:Addr→Prop} {H H':Hp} (g:∀ b o,F b→H b=some o→G b) (s:∀ b o,F b→H b=some o→H' b=some o):∀ {vs:List V} (r:Rws),RwsAt F H vs r→RwsAt G H' vs r
  | vs,.nil,h=>by
    unfold RwsAt at h ⊢
    exact h
  | vs,.cons r rs,h=>by
    unfold RwsAt at h ⊢
    obtain ⟨v,ws,e1,e2,e3⟩:=h
    exact ⟨v,ws,e1,RwAt.to_ g s r e2,RwsAt.to_ g s rs e3⟩
end
theorem RwAt.to {F G:Addr→Prop} {H H':Hp} {v:V} (r:Rw) (g:∀ b o,F b→H b=some o→G b) (s:∀ b o,F b→H b=some o→H' b=some o) (h:RwAt F H v r):RwAt G H' v r:=RwAt.to_ g s r h
theorem RwsAt.to {F G:Addr→Prop} {H H':Hp} {vs:List V} (r:Rws) (g:∀ b o,F b→H b=some o→G b) (s:∀ b o,F b→H b=some o→H' b=some o) (h:RwsAt F H vs r):RwsAt G H' vs r:=RwsAt.to_ g s r h
theorem RwAt.mono {F:Addr→Prop} {H H':Hp} (s:Same H H') {v:V} {r:Rw} (h:RwAt F H v r):RwAt F H' v r:=h.to r (fun _ _ f _=>f) (fun b o _ e=>s b o e)
theorem RwsAt.mono {F:Addr→Prop} {H H':Hp} (s:Same H H') {vs:List V} {r:Rws} (h:RwsAt F H vs r):RwsAt F H' vs r:=h.to r (fun _ _ f _=>f) (fun b o _ e=>s b o e)
def RlAt (F:Addr→Prop) (H:Hp) (v:V) (r:Rws):Prop:=∃ a xs,v=.ref a∧F a∧H a=some (.lst xs)∧RwsAt F H xs r
theorem RlAt.to {F G:Addr→Prop} {H H':Hp} (g:∀ b o,F b→H b=some o→G b) (s:∀ b o,F b→H b=some o→H' b=some o) {v:V} {r:Rws} (h:RlAt F H v r):RlAt G H' v r:=by
  obtain ⟨a,xs,e,f,e1,e2⟩:=h
  exact ⟨a,xs,e,g _ _ f e1,s _ _ f e1,RwsAt.to r g s e2⟩
abbrev anyA:Addr→Prop:=fun _=>True
theorem RlAt.any {F:Addr→Prop} {H:Hp} {v:V} {r:Rws} (h:RlAt F H v r):RlAt anyA H v r:=h.to (fun _ _ _ _=>trivial) fun b o _ e=>e
mutual
def RwOk:Rw→Prop
  | .take _ e _=>TermOk e
  | .give _ e f=>TermOk e∧TermOk f
  | .lt _ e=>TermOk e
  | .say e=>TermOk e
  | .off e=>TermOk e
  | .iff e a b=>TermOk e∧RwsOk a∧RwsOk b
def RwsOk:Rws→Prop
  | .nil=>True
  | .cons r rs=>RwOk r∧RwsOk rs
end
mutual
def Rw.deep:Rw→Nat
  | .iff _ a b=>max a.deep b.deep + 1
  | _=>0
def Rws.deep:Rws→Nat
  | .nil=>0
  | .cons r rs=>max r.deep rs.deep
end
mutual
def Rw.cnt:Rw→Nat
  | .iff _ a b=>max a.cnt b.cnt + 1
  | _=>1
def Rws.cnt:Rws→Nat
  | .nil=>0
  | .cons r rs=>r.cnt + rs.cnt
end
end L2
namespace L2
open PySem
abbrev ItA (h:Heap) (it d:Addr) (i n ep:Nat) (o0:Value) (f:Bool) (ok ov:Value):Prop :=
  h.get? it=some { cls:=.type "dict_itemiterator",dict:=none,data:=.fields #[o0,.bool f,.ref d,.int i 0,.int n 0,.int ep 0,ok,ov],slots:=#[] }
section
variable {P:Program} {w:World} {A:Around} {E:Value→Shared→Prop} {s:Shared}
theorem rit_iter {v d:Addr} {es:Array DictEntry} {ep:Nat} {Q:Value→Shared→Prop} (hv:s.heap.IsItemsView v d) (hm:RawD s.heap d es ep)
    (q:Q (.ref s.heap.objs.size) { s with heap:=s.heap.push { cls:=.type "dict_itemiterator",data:=.fields #[.none,.bool false,.ref d,.int 0 0,.int es.size 0,.int ep 0,.none,.none] } }):wpAny (model P w) A (pyIter (.ref v)) Q E s:=by
  obtain ⟨ov,hov,hcv,hdv⟩:=id hv;obtain ⟨o,ho,hc,hdat⟩:=id hm
  refine wpAny_pyIter_slot hv.typeIs F.slot_dict_items_iter (wpAny_call_entry F.slot_dict_items_iter hv.typeIs F.entry_dict_items_iter ?_ (F.args_dict_items_iter_1 _));unfold Builtin.«dict_items.__iter__»
  refine wpAny_bind (wpAny_pure ?_);refine wpAny_bind ?_;unfold Builtin.Dict_items.dictOf
  refine wpAny_bind (wpAny_field hov hdv (x:=.ref d) rfl (wpAny_pure ?_));refine wpAny_bind ?_;unfold Builtin.Dict_items.newIterator
  refine wpAny_bind (wpAny_dictEntries ho hdat ?_);refine wpAny_bind (wpAny_dictEpoch ho hdat ?_)
  have own:Builtin.Dict_items.ownsTuple "dict_itemiterator"=true:=by decide
  simp only [own,if_true];refine wpAny_newObj_type (wpAny_pure ⟨_,rfl,"dict_itemiterator",_,⟨_,Heap.get?_push_size _ rfl,rfl⟩,F.slot_dict_itemiterator_next.lookup,?_⟩) (by simp only [sizeOk,Builtin.Dict_items.ownedTupleFields,List.size_toArray,List.length_append,List.length_cons,List.length_nil,sizeLine_eq];omega)
  simpa [rawInt,Builtin.Dict_items.ownedTupleFields] using q
theorem rit_next {it d:Addr} {i ep:Nat} {es:Array DictEntry} {e:DictEntry} {o0 ok ov:Value} {f:Bool} {Q:Option Value→Shared→Prop} (hit:ItA s.heap it d i es.size ep o0 f ok ov) (hm:RawD s.heap d es ep) (hx:es[i]?=some e)
    (ho0:(o0=.none∧f=false)∨∃ (a:Addr) (oa:Obj),o0=rawInt (a:Nat)∧s.heap.get? a=some oa∧a≠it)
    (q:∀ h' o1 f1 k1 v1,ItA h' it d (i + 1) es.size ep o1 f1 k1 v1→((o1=.none∧f1=false)∨∃ (a:Addr) (oa:Obj),o1=rawInt (a:Nat)∧h'.get? a=some oa∧a≠it)→h'.get? s.heap.objs.size=some { cls:=.type "tuple",data:=.seq #[e.key,e.val] }→h'.objs.size=s.heap.objs.size + 1 →
      (∀ b o,b≠it→s.heap.get? b=some o→h'.get? b=some o)→(∀ a:Addr,o1=rawInt (a:Nat)→a=s.heap.objs.size∨o0=rawInt (a:Nat))→Q (some (.ref s.heap.objs.size)) { s with heap:=h' }):wpAny (model P w) A (pyNext (.ref it)) Q E s:=by
  obtain ⟨hp,g,dr,tk,os⟩:=s;obtain ⟨od,hod,hcd,hdd⟩:=id hm
  have T:Shared.TypeIs ⟨hp,g,dr,tk,os⟩ (.ref it) "dict_itemiterator":=⟨_,hit,rfl⟩
  unfold pyNext;refine wpAny_bind (wpAny_attempt (wpAny_callSpecial?_slot (name:=Str.ofString "__next__") T F.slot_dict_itemiterator_next (wpAny_call_entry F.slot_dict_itemiterator_next T F.entry_dict_itemiterator_next ?_ (F.args_dict_itemiterator_next_1 _))))
  refine wpAny_bind (wpAny_pure ?_);refine wpAny_bind ?_;refine wpAny_bind ?_
  first | (refine wpAny_bind (wpAny_typeNameOfWhole_itemiter T (wpAny_pure ?_))) | (refine wpAny_bind (wpAny_typeNameOf_itemiter T (wpAny_pure ?_)))
  refine wpAny_bind (wpAny_fieldsOf hit rfl ?_);have own:Builtin.Dict_items.ownsTuple "dict_itemiterator"=true:=by decide
  simp only [own,if_true];show wpAny _ _ (if (Value.ref d == Value.none)=true then _ else _) _ _ _
  rw [if_neg (show ¬ ((Value.ref d == Value.none)=true) from Bool.false_ne_true)];refine wpAny_bind (wpAny_pure ?_);refine wpAny_bind (wpAny_dictEntries hod hdd ?_)
  rw [if_neg (by simp)];refine wpAny_bind (wpAny_pure ?_);refine wpAny_bind (wpAny_dictEpoch hod hdd ?_);rw [if_neg (by simp)];refine wpAny_pure ?_
  simp only [show ¬ ((i:Int) < 0) from by omega,if_false,Int.toNat_natCast,hx];refine wpAny_bind ?_
  first | (refine wpAny_bind (wpAny_typeNameOfWhole_itemiter T (wpAny_pure ?_))) | (refine wpAny_bind (wpAny_typeNameOf_itemiter T (wpAny_pure ?_)))
  refine wpAny_bind (wpAny_isOneOf_itemiter T ?_);show wpAny _ _ (setField (.ref it) 3 (rawInt ((i:Int) + 1)) >>= _) _ _ ⟨hp,g,dr,tk,os⟩
  refine wpAny_bind (wpAny_setField_rec hit (by simp) fun h₁ e1 s1=>?_)
  replace s1:Heap.SameBut it hp h₁:=s1
  replace e1:ItA h₁ it d (i + 1) es.size ep o0 f ok ov:=by
    have z:((i + 1:Nat):Int)=(i:Int) + 1:=by omega
    unfold ItA;rw [z];simpa [rawInt] using e1
  have T1:Shared.TypeIs ⟨h₁,g,dr,tk,os⟩ (.ref it) "dict_itemiterator":=⟨_,e1,rfl⟩
  refine wpAny_bind (wpAny_holding ?_);refine wpAny_bind (wpAny_isOneOf_itemiter T1 ?_);refine wpAny_bind (wpAny_isOneOf_itemiter T1 ?_)
  show wpAny _ _ (Builtin.Dict_items.pairFromOwner (.ref it) 6 e.key e.val) _ _ ⟨h₁,g,dr,tk,os⟩
  unfold Builtin.Dict_items.pairFromOwner;refine wpAny_bind (wpAny_newTuple ?_)
  have e2:ItA (h₁.push { cls:=.type "tuple",data:=.seq #[e.key,e.val] }) it d (i + 1) es.size ep o0 f ok ov:=Heap.get?_push_of_some _ e1
  generalize hg:h₁.push { cls:=.type "tuple",data:=.seq #[e.key,e.val] }=h₂ at e2
  have z1:h₁.objs.size=hp.objs.size:=s1.1;have il:it < hp.objs.size:=Heap.lt_size hit
  have t2:h₂.get? hp.objs.size=some { cls:=.type "tuple",data:=.seq #[e.key,e.val] }:=by rw [← hg,← z1];exact Heap.get?_push_size _ rfl
  have z2:h₂.objs.size=hp.objs.size + 1:=by rw [← hg,Heap.size_push,z1]
  have k2:∀ b o,b≠it→hp.get? b=some o→h₂.get? b=some o:=fun b o hb z=>by rw [← hg];exact Heap.get?_push_of_some _ (s1.extBut b o hb z)
  show wpAny _ _ (Builtin.Dict_items.ownedTupleIsFree (.ref it) >>= _) _ _ ⟨h₂,g,dr,tk,os⟩;rw [z1]
  clear hg e1 s1 T1 z1 h₁;refine wpAny_bind ?_;unfold Builtin.Dict_items.ownedTupleIsFree
  rcases ho0 with ⟨rfl,rfl⟩ | ⟨a,oa,rfl,ha,hai⟩
  · refine wpAny_bind (wpAny_field e2 rfl (x:=.none) rfl (wpAny_pure ?_));simp only [if_true]
    refine wpAny_bind (wpAny_field e2 rfl (x:=ok) rfl ?_);refine wpAny_bind (wpAny_field e2 rfl (x:=ov) rfl ?_)
    refine wpAny_bind (wpAny_setField_rec e2 (by simp) fun h₃ e3 s3=>?_);replace s3:Heap.SameBut it h₂ h₃:=s3;replace e3:ItA h₃ it d (i + 1) es.size ep .none false e.key ov:=e3
    refine wpAny_bind (wpAny_setField_rec e3 (by simp) fun h₄ e4 s4=>?_);replace s4:Heap.SameBut it h₃ h₄:=s4;replace e4:ItA h₄ it d (i + 1) es.size ep .none false e.key e.val:=e4
    refine wpAny_bind (wpAny_setField_rec e4 (by simp) fun h₅ e5 s5=>?_);replace s5:Heap.SameBut it h₄ h₅:=s5;replace e5:ItA h₅ it d (i + 1) es.size ep (rawInt (hp.objs.size:Nat)) false e.key e.val:=e5
    refine wpAny_bind (wpAny_setField_rec e5 (by simp) fun h₆ e6 s6=>?_);replace s6:Heap.SameBut it h₅ h₆:=s6;replace e6:ItA h₆ it d (i + 1) es.size ep (rawInt (hp.objs.size:Nat)) false e.key e.val:=e6
    have k6:∀ b o,b≠it→h₂.get? b=some o→h₆.get? b=some o:=fun b o hb z=>s6.extBut b o hb (s5.extBut b o hb (s4.extBut b o hb (s3.extBut b o hb z)))
    have t6:=k6 _ _ (Nat.ne_of_gt il) t2
    refine wpAny_bind (wpAny_letGo (wpAny_pure (wpAny_pure ⟨_,rfl,wpAny_pure (q h₆ _ _ _ _ e6 (.inr ⟨_,_,rfl,t6,Nat.ne_of_gt il⟩) t6 ?_ (fun b o hb z=>k6 b o hb (k2 b o hb z)) fun a z=>?_)⟩)))
    · show h₆.objs.size=hp.objs.size + 1;rw [s6.1,s5.1,s4.1,s3.1,z2]
    · refine .inl ?_
      have z':(Value.int (hp.objs.size:Nat) 0:Value)=Value.int (a:Nat) 0:=z
      have z'':((hp.objs.size:Nat):Int)=((a:Nat):Int):=by injection z'
      exact (Int.ofNat.inj z'').symm
  · refine wpAny_bind (wpAny_field e2 rfl (x:=rawInt (a:Nat)) rfl ?_);show wpAny _ _ (loadIfAlive (((a:Nat):Int).toNat) >>= _) _ _ _;rw [Int.toNat_natCast]
    have a2:h₂.get? a=some oa:=k2 a oa hai ha
    refine wpAny_bind (PySem.W.kdx_alive a2 ?_);simp only [Option.isNone_some,Bool.false_eq_true,if_false];refine wpAny_bind (wpAny_field e2 rfl (x:=.bool f) rfl ?_)
    cases f with
    | true =>
      rw [if_neg (show ¬ ((Value.bool true != Value.bool true)=true) from Bool.false_ne_true)];refine wpAny_pure ?_;simp only [Bool.false_eq_true,if_false]
      exact wpAny_pure (wpAny_pure ⟨_,rfl,wpAny_pure (q h₂ _ _ _ _ e2 (.inr ⟨_,_,rfl,a2,hai⟩) t2 z2 k2 fun a z=>.inr z)⟩)
    | false =>
      rw [if_pos (show (Value.bool false != Value.bool true)=true from rfl)];refine wpAny_bind (wpAny_setField_rec e2 (by simp) fun h₃ e3 s3=>?_)
      replace s3:Heap.SameBut it h₂ h₃:=s3;replace e3:ItA h₃ it d (i + 1) es.size ep (rawInt (a:Nat)) true ok ov:=e3
      refine wpAny_pure ?_;simp only [Bool.false_eq_true,if_false]
      exact wpAny_pure (wpAny_pure ⟨_,rfl,wpAny_pure (q h₃ _ _ _ _ e3 (.inr ⟨_,_,rfl,s3.extBut _ _ hai a2,hai⟩) (s3.extBut _ _ (Nat.ne_of_gt il) t2) (by show h₃.objs.size=_;rw [s3.1,z2]) (fun b o hb z=>s3.extBut b o hb (k2 b o hb z)) fun a z=>.inr z)⟩)
theorem rit_end {it d:Addr} {i ep:Nat} {es:Array DictEntry} {o0 ok ov:Value} {f:Bool} {Q:Option Value→Shared→Prop} (hh:A.handled=none) (hit:ItA s.heap it d i es.size ep o0 f ok ov) (hm:RawD s.heap d es ep) (hx:es.size≤i)
    (q:∀ h',Heap.ExtBut it s.heap h'→Q none { s with heap:=h' }):wpAny (model P w) A (pyNext (.ref it)) Q E s:=by
  obtain ⟨od,hod,hcd,hdd⟩:=id hm;have T:s.TypeIs (.ref it) "dict_itemiterator":=⟨_,hit,rfl⟩
  unfold pyNext;refine wpAny_bind (wpAny_attempt (wpAny_callSpecial?_slot (name:=Str.ofString "__next__") T F.slot_dict_itemiterator_next (wpAny_call_entry F.slot_dict_itemiterator_next T F.entry_dict_itemiterator_next ?_ (F.args_dict_itemiterator_next_1 _))))
  refine wpAny_bind (wpAny_pure ?_);refine wpAny_bind ?_;refine wpAny_bind ?_
  first | (refine wpAny_bind (wpAny_typeNameOfWhole_itemiter T (wpAny_pure ?_))) | (refine wpAny_bind (wpAny_typeNameOf_itemiter T (wpAny_pure ?_)))
  refine wpAny_bind (wpAny_fieldsOf hit rfl ?_);have own:Builtin.Dict_items.ownsTuple "dict_itemiterator"=true:=by decide
  simp only [own,if_true];show wpAny _ _ (if (Value.ref d == Value.none)=true then _ else _) _ _ s
  rw [if_neg (show ¬ ((Value.ref d == Value.none)=true) from Bool.false_ne_true)];refine wpAny_bind (wpAny_pure ?_);refine wpAny_bind (wpAny_dictEntries hod hdd ?_)
  rw [if_neg (by simp)];refine wpAny_bind (wpAny_pure ?_);refine wpAny_bind (wpAny_dictEpoch hod hdd ?_);rw [if_neg (by simp)];refine wpAny_pure ?_
  simp only [show ¬ ((i:Int) < 0) from by omega,if_false,Int.toNat_natCast,Array.getElem?_eq_none hx];refine wpAny_bind ?_
  first | (refine wpAny_bind (wpAny_typeNameOfWhole_itemiter T (wpAny_pure ?_))) | (refine wpAny_bind (wpAny_typeNameOf_itemiter T (wpAny_pure ?_)))
  show wpAny _ _ (setField (.ref it) 2 .none >>= _) _ _ s;refine wpAny_bind (wpAny_setField hit rfl (by simp) ?_)
  show wpAny _ _ (newExc (.type "StopIteration") [] >>= _) _ _ _;refine wpAny_bind ?_;simp only [newExc,newTuple];refine wpAny_bind (wpAny_newObj_type ?_ (by size_fits))
  refine wpAny_bind (m:=firstArgMember _ _) (wpAny_of_eq (a:=Value.none) (by first | rfl | (simp only [firstArgMember];rfl)) ?_);refine wpAny_newObj_type ?_ (by size_fits)
  simp only [raiseNew];refine wpAny_bind (wpAny_handled ?_);rw [show A.in1.handled=none from hh];refine wpAny_bind (wpAny_pure (wpAny_throw ?_))
  refine wpAny_bind (wpAny_isInstance (T:="StopIteration") (b:=true) ⟨_,Heap.get?_push_size _ rfl,rfl⟩ isSubtype_stop ?_);exact wpAny_pure (q _ (((Heap.SameBut.update ..).extBut.push _).push _))
end
end L2
namespace L2
open PySem PySem.Spec PyProof.Rows
def viewO (r d:Addr):HO:=.ext fun h=>h.IsItemsView r d
def tItems (td:TE):TE:=fun σ H Q=>td σ H fun x H1=>∃ d kvs,x=.ref d∧H1 d=some (.dT kvs)∧∀ r,H1 r=none→Q (.ref r) (upd H1 r (viewO r d))
section
variable {X:Cx} {o:Expr} {apos cpos:Pos} {td:TE}
theorem pe_items (ho:PE X o td) (hbase:attributeBase o "items" X.env (eval o X.env)=eval o X.env:=by rfl) (hline:(apos.endLine == cpos.line)=true:=by rfl):PE X (.Call (.Attribute o "items" apos) [] [] cpos) (tItems td):=by
  intro pins s σ H Q I h
  refine wpAny_Call_method0_late hbase hline (thn (ho pins s σ H _ I h) fun v s1 ⟨x,H1,I1,r1,d,kvs,ex,hd,q1⟩=>?_)
  subst ex
  obtain rfl:v=Value.ref d:=r1
  obtain ⟨t1,t2,t3⟩:=isD_at I1 (.inr ⟨kvs,.inl hd⟩)
  refine ⟨"dict","dict.items",PySem.F.plainAttrs_dict,PySem.F.slot_dict_items,PySem.F.type_dict_items,t1,t2,Calls.callWith_builtin rfl (PySem.evalArgs_none ?_)⟩
  refine wpAny_call_entry PySem.F.slot_dict_items t1 PySem.F.entry_dict_items ?_ (PySem.F.args_dict_items_1 _)
  unfold Builtin.«dict.items»;refine wpAny_bind ?_;unfold Builtin.Dict.noArgs;refine wpAny_bind (wpAny_notOrdered_dict t1 ?_)
  show wpAny _ _ (pure d) _ _ s1;refine wpAny_pure ?_
  show wpAny _ _ (Builtin.Dict.showsAll d >>= _) _ _ s1;unfold Builtin.Dict.showsAll
  rw [if_neg (by rw [t3];exact Bool.false_ne_true)];refine wpAny_bind (wpAny_pure ?_)
  refine wpAny_bind (wpAny_newObj_type (wpAny_pure ⟨_,rfl,?_⟩))
  have hn:H1 s1.heap.objs.size=none:=I1.hok.fresh (Nat.le_refl _)
  have at0:(s1.heap.push { cls:=.type "dict_items",data:=.fields #[.ref d] }).get? s1.heap.objs.size=some { cls:=.type "dict_items",data:=.fields #[.ref d] }:=Heap.get?_push_size _ rfl
  refine ⟨.ref s1.heap.objs.size,_,I1.laid (a:=s1.heap.objs.size) (o:=viewO s1.heap.objs.size d) (t':=s1.toks) (fun b u e=>Heap.get?_push_of_some _ e) (Nat.le_refl _) ?_,rfl,q1 _ hn⟩
  exact ⟨⟨_,at0,rfl,rfl⟩,⟨_,at0⟩,fun h1 h2 ⟨o,e1,e2⟩ k=>⟨o,k o e1,e2⟩⟩
end
def KvAt (H:Hp) (v:V) (kv:List Key × V):Prop:=∃ r p,v=.ref r∧H r=some (.tup [.ref p,kv.2])∧H p=some (.tup (kv.1.map kV))
theorem kvs_mono {H H':Hp} (s:∀ b ys,H b=some (.tup ys)→H' b=some (.tup ys)):∀ {vs:List V} {kvs:List (List Key × V)},Paired (KvAt H) vs kvs→Paired (KvAt H') vs kvs
  | _,_,.nil=>.nil
  | _,_,.cons ⟨r,p,e,h1,h2⟩ t=>.cons ⟨r,p,e,s _ _ h1,s _ _ h2⟩ (kvs_mono s t)
theorem kvs_snoc {H:Hp} {v:V} {q:List Key × V}:∀ {ys:List V} {kvs:List (List Key × V)},Paired (KvAt H) ys kvs→KvAt H v q→Paired (KvAt H) (ys ++ [v]) (kvs ++ [q])
  | _,_,.nil,h=>.cons h .nil
  | _,_,.cons a r,h=>.cons a (kvs_snoc r h)
section
variable {X:Cx} {A:Around} {R:Result→Shared→Prop}
theorem itl_loop {pins:List (Addr × Obj)} {σ:St} {H:Hp} {S it d:Addr} {kvs:List (List Key × V)} {es:Array DictEntry} {ep:Nat} {res:Value} (hh:A.handled=none) (hS:H S=none) (hd:H d=some (.dT kvs)) (Sit:S≠it) (dit:d≠it) (hz:kvs.length≤1000)
    (hes:es.size=kvs.length) (hen:∀ (i:Nat) (e:DictEntry) (kv:List Key × V),es[i]?=some e→kvs[i]?=some kv→∃ p,e.key=.ref p∧H p=some (.tup (kv.1.map kV))∧RelV kv.2 e.val) (fin:∀ s' H' ys,Inv X pins σ H' s'→Same H H'→H' S=some (.lst ys)→Paired (KvAt H') ys kvs→R (.ok (.ret res)) s') :
    ∀ (k i:Nat) (s:Shared) (Hi:Hp) (ys:List V) (o0 ok ov:Value) (f:Bool),kvs.length - i=k→i≤kvs.length→Inv X pins σ Hi s→Same H Hi→Hi S=some (.lst ys)→Paired (KvAt Hi) ys (kvs.take i)→RawD s.heap d es ep→ItA s.heap it d i es.size ep o0 f ok ov →
    ((o0=.none∧f=false)∨∃ (a:Addr) (oa:Obj),o0=rawInt (a:Nat)∧s.heap.get? a=some oa∧a≠it∧a≠S)→FpOk X pins Hi it →
    codeAny (model X.prog X.w) A (.builtin "list.extend.loop" ⟨[.ref S,.ref it,res],[]⟩) R s:=by
  intro k
  induction k with
  | zero =>
    intro i s Hi ys o0 ok ov f hk hi I sm hy pr rd hit ho0 hf
    have e:i=kvs.length:=by omega
    subst e
    refine codeAny_builtin PySem.F.entry_extend_loop ?_;rw [Around.under_plainId PySem.F.plain_extend_loop _]
    show wpAny _ A.in1 (pyNext (.ref it) >>= _) _ _ s
    obtain ⟨f0,f1,f2,f3,f4,f5⟩:=hf
    refine wpAny_bind (rit_end (A:=A.in1) hh hit rd (by omega) fun h' eb=>?_)
    have I1:=I.turned (t':=s.toks) (fun b o hb e=>eb b o hb e) f0 f1 f3 f4 f5
    rw [List.take_length] at pr
    exact wpAny_pure (fin _ Hi ys I1 sm hy pr)
  | succ k ih =>
    intro i s Hi ys o0 ok ov f hk hi I sm hy pr rd hit ho0 hf
    have hlt:i < kvs.length:=by omega
    have hx:es[i]?=some es[i]:=Array.getElem?_eq_getElem (by omega)
    have hkv:kvs[i]?=some kvs[i]:=List.getElem?_eq_getElem hlt
    obtain ⟨p,ek,hp,rv⟩:=hen i _ _ hx hkv
    refine codeAny_builtin PySem.F.entry_extend_loop ?_;rw [Around.under_plainId PySem.F.plain_extend_loop _]
    show wpAny _ A.in1 (pyNext (.ref it) >>= _) _ _ s
    obtain ⟨f0,f1,f2,f3,f4,f5⟩:=id hf
    have ho0':(o0=.none∧f=false)∨∃ (a:Addr) (oa:Obj),o0=rawInt (a:Nat)∧s.heap.get? a=some oa∧a≠it:=by
      rcases ho0 with z | ⟨a,oa,z1,z2,z3,_⟩
      · exact .inl z
      · exact .inr ⟨a,oa,z1,z2,z3⟩
    refine wpAny_bind (rit_next (A:=A.in1) hit rd hx ho0' fun h' o1 f1' k1 v1 hit' ho1 ht hz' kp own=>?_)
    have Sl:S < s.heap.objs.size:=by
      obtain ⟨_,_,_,_,e⟩:=(show ObjOk X.prog X.w Hi s.heap S (.lst ys) from I.hok S _ hy)
      exact Heap.lt_size e
    have tn:s.heap.objs.size≠it:=Nat.ne_of_gt (Heap.lt_size hit)
    have hTn:Hi s.heap.objs.size=none:=I.hok.fresh (Nat.le_refl _)
    have STn:S≠s.heap.objs.size:=Nat.ne_of_lt Sl
    generalize hT:s.heap.objs.size=T at *
    have I6:Inv X pins σ (upd Hi T (.tup [.ref p,kvs[i].2])) { s with heap:=s.heap.push { cls:=.type "tuple",data:=.seq #[es[i].key,es[i].val] } } :=
      I.laid (a:=T) (o:=.tup [.ref p,kvs[i].2]) (t':=s.toks) (fun b u e=>Heap.get?_push_of_some _ e) (by rw [hT];exact Nat.le_refl _) ⟨by show 2≤sizeLine;decide,[es[i].key,es[i].val],.cons (by rw [ek];exact rfl) (.cons rv .nil),⟨_,by rw [← hT];exact Heap.get?_push_size _ rfl,rfl,_,rfl⟩⟩
    have S6:Same Hi (upd Hi T (.tup [.ref p,kvs[i].2])):=isV T hTn
    have I7:Inv X pins σ (upd Hi T (.tup [.ref p,kvs[i].2])) { s with heap:=h' }:=I6.turned (s:={ s with heap:=s.heap.push { cls:=.type "tuple",data:=.seq #[es[i].key,es[i].val] } }) (t':=s.toks) (fun b o hb e=>by
      rcases Heap.get?_push_cases (show (s.heap.push { cls:=.type "tuple",data:=.seq #[es[i].key,es[i].val] }).get? b=some o from e) with ⟨rfl,rfl⟩ | e
      · rw [hT];exact ht
      · exact kp b o hb e) (by rw [upd_ne (Ne.symm tn)];exact f0) f1 f3 f4 f5
    have hy7:(upd Hi T (.tup [.ref p,kvs[i].2])) S=some (.lst ys):=S6 _ _ hy
    obtain ⟨z,its,n,r,hl,e⟩:=I7.lstM hy7
    have yl:ys.length=i:=by
      have:=Paired.length pr
      rw [List.length_take] at this
      omega
    show wpAny _ A.in1 (updateSeq S (·.push (Value.ref T)) >>= _) _ _ _
    have e':h'.get? S=some { cls:=.type "list",data:=.seq its.toArray n }:=e
    refine wpAny_bind (wpAny_updateSeq (s:={ s with heap:=h' }) e' rfl ?_ (by rw [List.size_toArray,← r.length,yl];exact Nat.le_trans (by omega:i≤1000) (by decide)) (by rw [Array.size_push,List.size_toArray,← r.length,yl];exact Nat.le_trans (by omega:i + 1≤1001) (by decide)))
    have I8:=I7.lset (f:=fun xs=>xs.push (Value.ref T)) (t':=s.toks) (its':=its ++ [Value.ref T]) hy7 e' (by simp) (r.append (.cons (show RelV (.ref T) (.ref T) from rfl) .nil)) (by rw [List.length_append,yl];exact Nat.le_trans (by show i + 1≤1001;omega) (by decide))
    have up:∀ b o,b≠S→h'.get? b=some o→(h'.update S (Obj.mapSeq (·.push (Value.ref T)))).get? b=some o:=fun b o hb z=>(Heap.get?_update_other _ _ (Ne.symm hb)).trans z
    have dS:d≠S:=ne_of_none hd hS
    have tS:∀ b zs,Hi b=some (.tup zs)→(upd (upd Hi T (.tup [.ref p,kvs[i].2])) S (.lst (ys ++ [.ref T]))) b=some (.tup zs):=fun b zs z=>by
      rw [upd_ne (ne_of z hy (by intro z;cases z))];exact S6 _ _ z
    have ri:∀ {a b:Nat},(rawInt (a:Int):Value)=rawInt (b:Int)→a=b:=fun {a b} z=>by
      have z':(Value.int (a:Int) 0:Value)=Value.int (b:Int) 0:=z
      have z'':(a:Int)=(b:Int):=by injection z'
      exact Int.ofNat.inj z''
    refine wpAny_pure ⟨plainId_quiet PySem.F.plain_extend_loop _,ih (i + 1) _ _ (ys ++ [.ref T]) o1 k1 v1 f1' (by omega) hlt I8 (fun b o z=>?_) upd_same ?_ (rd.at fun o z=>up d o dS (kp d o dit z)) (up it _ (Ne.symm Sit) hit') ?_ ⟨?_,f1,f2,f3,f4,f5⟩⟩
    · rw [upd_ne (ne_of_none z hS)];exact S6 _ _ (sm _ _ z)
    · rw [List.take_add_one,hkv]
      exact kvs_snoc (kvs_mono tS pr) ⟨T,p,rfl,by rw [upd_ne (Ne.symm STn),upd_same],tS _ _ (sm _ _ hp)⟩
    · rcases ho1 with z | ⟨a,oa,z1,z2,z3⟩
      · exact .inl z
      · have aS:a≠S:=by
          rcases own a z1 with z | z
          · rw [z];exact Ne.symm STn
          · rcases ho0 with ⟨y1,_⟩ | ⟨a',oa',y1,_,_,y4⟩
            · rw [y1] at z;cases z
            · rw [y1] at z
              rw [← ri z];exact y4
        exact .inr ⟨a,oa,z1,up a _ aS z2,z3,aS⟩
    · rw [upd_ne (Ne.symm Sit),upd_ne (Ne.symm tn)];exact f0
end
end L2
namespace L2
open PySem PySem.Spec PyProof.Rows
abbrev cLstI:RC:=fun vs H Q=>∃ r d kvs,vs=[.ref r]∧H r=some (viewO r d)∧H d=some (.dT kvs)∧kvs.length≤1000∧∀ l ys H',Same H H'→H l=none→H' l=some (.lst ys)→Paired (KvAt H') ys kvs→Q (.ref l) H'
theorem view_at {P:Program} {w:World} {H:Hp} {h:Heap} {r d:Addr} (k:HOk P w H h) (e:H r=some (viewO r d)):h.IsItemsView r d:=(k r _ e).1
theorem rel_get {H:Hp}:∀ {kvs:List (List Key × V)} {xs:List (List Key × Addr × Value)},Paired (fun (p:List Key × V) (q:List Key × Addr × Value)=>p.1=q.1∧H q.2.1=some (.tup (p.1.map kV))∧RelV p.2 q.2.2) kvs xs→∀ {i:Nat} {kv:List Key × V} {x:List Key × Addr × Value},kvs[i]?=some kv→xs[i]?=some x→H x.2.1=some (.tup (kv.1.map kV))∧RelV kv.2 x.2.2 :=
  fun {_ _} h {_ _ _} e1 e2=>(paired_get h e1 e2).2
section
variable {X:Cx}
theorem raw_of {pins:List (Addr × Obj)} {σ:St} {H:Hp} {s:Shared} {d:Addr} {kvs:List (List Key × V)} (I:Inv X pins σ H s) (e:H d=some (.dT kvs)):∃ es ep,RawD s.heap d es ep∧es.size=kvs.length ∧
    ∀ (i:Nat) (en:DictEntry) (kv:List Key × V),es[i]?=some en→kvs[i]?=some kv→∃ p,en.key=.ref p∧H p=some (.tup (kv.1.map kV))∧RelV kv.2 en.val:=by
  obtain ⟨z,hd,xs,rel,o,es,ep,h1,h2,h3,h4,_⟩:=(show ObjOk X.prog X.w H s.heap d (.dT kvs) from I.hok d _ e)
  have l1:es.size=xs.length:=by rw [← Array.length_toList,h4,List.length_map]
  refine ⟨es,ep,⟨o,h1,h2,h3⟩,by rw [l1,← Paired.length rel],fun i en kv e1 e2=>?_⟩
  have e3:es.toList[i]?=some en:=by rw [Array.getElem?_toList];exact e1
  rw [h4,List.getElem?_map] at e3
  obtain ⟨x,hx,rfl⟩:=Option.map_eq_some_iff.mp e3
  obtain ⟨g1,g2⟩:=rel_get rel e2 hx
  exact ⟨x.2.1,rfl,g1,g2⟩
theorem ext_items {A:Around} {R:Result→Shared→Prop} {pins:List (Addr × Obj)} {σ:St} {H:Hp} {s:Shared} {S r d:Addr} {kvs:List (List Key × V)} {res:Value} {c:Nat} (hh:A.handled=none) (hS:H S=none) (hr:H r=some (viewO r d)) (hd:H d=some (.dT kvs)) (hl:kvs.length≤1000)
    (I2:Inv X pins σ (upd H S (.lst [])) s) (T2:s.heap.get? S=some { cls:=.type "list",data:=.seq #[] c }) (hR:∀ s' H' ys,Inv X pins σ H' s'→Same H H'→H' S=some (.lst ys)→Paired (KvAt H') ys kvs→R (.ok (.ret res)) s') :
    wpAny (model X.prog X.w) A.in1 (Builtin.List.listExtendWith (.ref S) (.ref r) res) (fun fin s'=>match fin with | .done f=>R (.ok f) s' | .again c'=>c'.quiet=true∧codeAny (model X.prog X.w) A c' R s') (fun e s'=>R (.error e) s') s:=by
  have Sr:r≠S:=ne_of_none hr hS
  have Sd:d≠S:=ne_of_none hd hS
  have SS:Same H (upd H S (.lst [])):=isV S hS
  obtain ⟨es,ep,rd,hes,hen0⟩:=raw_of I2 (SS _ _ hd)
  have hen:∀ (i:Nat) (en:DictEntry) (kv:List Key × V),es[i]?=some en→kvs[i]?=some kv→∃ p,en.key=.ref p∧H p=some (.tup (kv.1.map kV))∧RelV kv.2 en.val:=fun i en kv e1 e2=>by
    obtain ⟨p,g1,g2,g3⟩:=hen0 i en kv e1 e2
    refine ⟨p,g1,?_,g3⟩
    by_cases hp:p=S
    · rw [hp,upd_same] at g2;cases g2
    · rwa [upd_ne hp] at g2
  have vw:=view_at I2.hok (SS _ _ hr)
  unfold Builtin.List.listExtendWith
  refine wpAny_bind (wpAny_typeOf (T:="dict_items") vw.typeIs ?_)
  have c1:Builtin.List.listSameRef (.ref S) (.ref r)=false:=by simp [Builtin.List.listSameRef,Ne.symm Sr]
  have c2:(Value.type "dict_items" == Value.type "list")=false:=by decide
  have c3:(Value.type "dict_items" == Value.type "tuple")=false:=by decide
  simp only [c1,c2,c3,Bool.or_false,Bool.false_eq_true,if_false]
  refine wpAny_bind (rit_iter vw rd ?_)
  have ni:(upd H S (.lst [])) s.heap.objs.size=none:=I2.hok.fresh (Nat.le_refl _)
  have fp:FpOk X pins (upd H S (.lst [])) s.heap.objs.size:=I2.fpOk (Nat.le_refl _) ni
  have Si:S≠s.heap.objs.size:=Nat.ne_of_lt (Heap.lt_size T2)
  have di:d≠s.heap.objs.size:=Nat.ne_of_lt rd.lt
  have I3:Inv X pins σ (upd H S (.lst [])) { s with heap:=s.heap.push { cls:=.type "dict_itemiterator",data:=.fields #[.none,.bool false,.ref d,.int 0 0,.int es.size 0,.int ep 0,.none,.none] } }:=I2.kept (t':=s.toks) fun b o e=>Heap.get?_push_of_some _ e
  have T3:=Heap.get?_push_of_some { cls:=.type "dict_itemiterator",data:=.fields #[.none,.bool false,.ref d,.int 0 0,.int es.size 0,.int ep 0,.none,.none] } T2
  have it3:ItA (s.heap.push { cls:=.type "dict_itemiterator",data:=.fields #[.none,.bool false,.ref d,.int 0 0,.int es.size 0,.int ep 0,.none,.none] }) s.heap.objs.size d 0 es.size ep .none false .none .none:=Heap.get?_push_size _ rfl
  have rd3:RawD (s.heap.push { cls:=.type "dict_itemiterator",data:=.fields #[.none,.bool false,.ref d,.int 0 0,.int es.size 0,.int ep 0,.none,.none] }) d es ep:=rd.at fun o e=>Heap.get?_push_of_some _ e
  have vw3:(s.heap.push { cls:=.type "dict_itemiterator",data:=.fields #[.none,.bool false,.ref d,.int 0 0,.int es.size 0,.int ep 0,.none,.none] }).IsItemsView r d:=let ⟨o,ho,x⟩:=vw;⟨o,Heap.get?_push_of_some _ ho,x⟩
  generalize hh3:s.heap.push { cls:=.type "dict_itemiterator",data:=.fields #[.none,.bool false,.ref d,.int 0 0,.int es.size 0,.int ep 0,.none,.none] }=h3 at *
  generalize s.heap.objs.size=it at *
  refine wpAny_bind (wpAny_holding (PySem.W.kdx_hint vw3.typeIs ?_))
  have fin:∀ (h4:Heap) (tk:Nat) (R:Result→Shared→Prop),(∀ s' H' ys,Inv X pins σ H' s'→Same H H'→H' S=some (.lst ys)→Paired (KvAt H') ys kvs→R (.ok (.ret res)) s')→Inv X pins σ (upd H S (.lst [])) { s with heap:=h4,toks:=tk }→RawD h4 d es ep→ItA h4 it d 0 es.size ep .none false .none .none →
      codeAny (model X.prog X.w) A (.builtin "list.extend.loop" ⟨[.ref S,.ref it,res],[]⟩) R { s with heap:=h4,toks:=tk }:=fun h4 tk R hR I4 rd4 it4 =>
    itl_loop (A:=A) (H:=H) (es:=es) (ep:=ep) hh hS hd Si di hl hes hen hR kvs.length 0 _ (upd H S (.lst [])) [] .none .none .none false (Nat.sub_zero _) (Nat.zero_le _) I4 SS upd_same .nil rd4 it4 (.inl ⟨rfl,rfl⟩) fp
  refine wpAny_ite_split (fun _=>?_) (fun _=>wpAny_pure ⟨plainId_quiet PySem.F.plain_extend_loop _,fin h3 s.toks _ hR I3 rd3 it3⟩)
  refine wpAny_bind (wpAny_rule ?_);refine wpAny_bind ?_
  show wpAny _ _ (updateSeq S (·.push .none) >>= fun _=>updateSeq S (·.pop)) _ _ _;refine wpAny_bind (wpAny_updateSeq T3 rfl ?_)
  have T4:=Heap.get?_update_self (Obj.mapSeq (·.push Value.none)) T3 rfl
  refine wpAny_updateSeq (hz:=by seq_fits) T4 rfl ?_
  have I4:=I3.lset (f:=fun xs=>xs.push Value.none) (its:=[]) (its':=[Value.none]) (ys:=[V.non]) (t':=s.toks) upd_same T3 rfl (.cons rfl .nil) (by show 1≤sizeLine;decide)
  have I5:=I4.lset (f:=fun xs=>xs.pop) (its:=[Value.none]) (its':=[]) (ys:=[]) (t':=s.toks) upd_same T4 rfl .nil (Nat.zero_le _)
  rw [upd_upd,upd_upd] at I5
  have oth:∀ b o,b≠S→h3.get? b=some o→((h3.update S (Obj.mapSeq (·.push Value.none))).update S (Obj.mapSeq (·.pop))).get? b=some o:=fun b o hb e=>(Heap.get?_update_other _ _ (Ne.symm hb)).trans ((Heap.get?_update_other _ _ (Ne.symm hb)).trans e)
  exact wpAny_pure ⟨plainId_quiet PySem.F.plain_extend_loop _,fin _ s.toks _ hR I5 (rd3.at fun o e=>oth d o Sd e) (oth it _ (Ne.symm Si) it3)⟩
theorem call_list_items (hc:X.calm=true):CallR X (.type "list") cLstI:=by
  intro pins s σ H vs us Q I r0 h
  obtain ⟨r,d,kvs,rfl,hr,hd,hl,q⟩:=h
  obtain ⟨u,rfl,ru⟩:=vals1 r0
  cases ru
  have hh:X.A.handled=none:=I.ok.hd hc
  refine callType_codes (Q₁:=fun obj s₁=>obj=.ref s.heap.objs.size∧s₁={ s with heap:=s.heap.push { cls:=.type "list",data:=.seq #[] } }) PySem.F.called_list (PySem.F.typeCall_list_1 _) PySem.F.entry_list_init (code_list_new _ ⟨rfl,rfl⟩) ?_;rintro obj s₁ ⟨rfl,rfl⟩
  have hS:H s.heap.objs.size=none:=I.hok.fresh (Nat.le_refl _)
  have I1:Inv X pins σ (upd H s.heap.objs.size (.lst [])) { s with heap:=s.heap.push { cls:=.type "list",data:=.seq #[] } }:=I.lnew (its:=[]) (t':=s.toks) .nil (Nat.zero_le _)
  have T0:(s.heap.push { cls:=.type "list",data:=.seq #[] }).get? s.heap.objs.size=some { cls:=.type "list",data:=.seq #[] }:=Heap.get?_push_size _ rfl
  generalize hT:s.heap.objs.size=S at *
  refine ⟨⟨_,T0,rfl⟩,PySem.F.args_list_init_2 _ _,?_⟩
  show wpAny _ _ (do let old ← Builtin.List.listItems (.ref S);Builtin.List.listUpdate (.ref S) (fun _=>#[]);letGo old.toList.reverse;Builtin.List.listExtendWith (.ref S) (.ref r) .none) _ _ _
  refine wpAny_bind ?_;unfold Builtin.List.listItems;refine wpAny_bind (wpAny_seqItems T0 rfl (wpAny_pure ?_))
  show wpAny _ _ (updateSeq S (fun _=>#[]) >>= fun _=>letGo (#[]:Array Value).toList.reverse >>= fun _=>Builtin.List.listExtendWith (.ref S) (.ref r) .none) _ _ _
  refine wpAny_bind (wpAny_updateSeq T0 rfl ?_)
  have I2:=I1.lset (f:=fun _=>(#[]:Array Value)) (its:=[]) (its':=[]) (ys:=[]) (t':=s.toks) upd_same T0 rfl .nil (Nat.zero_le _)
  rw [upd_upd] at I2
  have T2:=Heap.get?_update_self (Obj.mapSeq (fun _=>(#[]:Array Value))) T0 rfl
  refine wpAny_bind (wpAny_letGo ?_)
  generalize hh2:(s.heap.push { cls:=.type "list",data:=.seq #[] }).update S (Obj.mapSeq (fun _=>(#[]:Array Value)))=h2 at *
  exact ext_items (A:=X.A.in1) (H:=H) hh hS hr hd hl I2 T2 fun s' H' ys I' sm hy pr=>⟨rfl,.ref S,H',I',rfl,q S ys H' sm hS hy pr⟩
end
end L2
namespace L2
open PySem PySem.Spec PyProof.Rows PySem.W
section
variable {X:Cx}
theorem coll_items {A:Around} {E:Value→Shared→Prop} {R:List Value→Shared→Prop} {pins:List (Addr × Obj)} {σ:St} {H:Hp} {s:Shared} {r d:Addr} {kvs:List (List Key × V)} (hh:A.handled=none) (hr:H r=some (viewO r d)) (hd:H d=some (.dT kvs)) (hl:kvs.length≤1000) (I:Inv X pins σ H s)
    (h:∀ s1 H' ys us,Inv X pins σ H' s1→Same H H'→Paired (KvAt H') ys kvs→Vals ys us→R us s1):wpAny (model X.prog X.w) A (collect (.ref r)) R E s:=by
  have hS:H s.heap.objs.size=none:=I.hok.fresh (Nat.le_refl _)
  have I1:Inv X pins σ (upd H s.heap.objs.size (.lst [])) { s with heap:=s.heap.push { cls:=.type "list",data:=.seq ([]:List Value).toArray } }:=I.lnew (its:=[]) (t':=s.toks) .nil (Nat.zero_le _)
  have T1:(s.heap.push { cls:=.type "list",data:=.seq ([]:List Value).toArray }).get? s.heap.objs.size=some { cls:=.type "list",data:=.seq #[] }:=Heap.get?_push_size _ rfl
  unfold collect;refine wpAny_bind (wpAny_runValue (codeAny_builtin entry_proto_collect' ?_));rw [Around.under_plainId PySem.F.plain_proto_collect _]
  show wpAny _ A.in1 (newList [] >>= fun l=>again (.builtin "list.__iadd__" ⟨[l,.ref r],[]⟩)) _ _ s;refine wpAny_bind (wpAny_newObj_type ?_)
  refine wpAny_pure ⟨plainId_quiet PySem.F.plain_list_iadd _,codeAny_builtin entry_list_iadd' ?_⟩;rw [Around.under_plainId PySem.F.plain_list_iadd _]
  generalize s.heap.objs.size=S at *
  show wpAny _ A.in1 (Builtin.List.listExtendWith (.ref S) (.ref r) (.ref S)) _ _ _
  have key:=ext_items (A:=A) (R:=fun (q:Result) (s':Shared)=>∃ H' ys,q=.ok (.ret (.ref S))∧Inv X pins σ H' s'∧Same H H'∧H' S=some (.lst ys)∧Paired (KvAt H') ys kvs) (res:=.ref S) hh hS hr hd hl I1 T1 fun s' H' ys I' sm hy pr=>⟨H',ys,rfl,I',sm,hy,pr⟩
  have fin:∀ s':Shared,(∃ H' ys,Inv X pins σ H' s'∧Same H H'∧H' S=some (.lst ys)∧Paired (KvAt H') ys kvs)→wpAny (model X.prog X.w) A (load S >>= fun o=>match o.data with | .seq xs _=>pure xs.toList | _=>unsupported "internal:collect") R E s':=fun s' ⟨H',ys,I',sm,hy,pr⟩=>by
    obtain ⟨z,its,n,rv,hl',e⟩:=I'.lstM hy
    refine wpAny_bind (wpAny_load e ?_)
    refine wpAny_pure ?_
    exact h s' H' ys its I' sm pr rv
  refine wpAny_mono key (fun f s' x=>?_) fun e s' x=>?_
  · cases f with
    | done f =>
      obtain ⟨H',ys,e,x⟩:=x
      cases e
      exact fin s' ⟨H',ys,x⟩
    | again c₁ =>
      refine ⟨x.1,codeAny_mono x.2 fun q s₂ y=>?_⟩
      obtain ⟨H',ys,rfl,y⟩:=y
      exact fin s₂ ⟨H',ys,y⟩
  · obtain ⟨_,_,e',_⟩:=x
    cases e'
end
section
variable {P:Program} {w:World} {A:Around} {E:Value→Shared→Prop} {s:Shared}
theorem lt_place {x y:Addr} {a b:Str × Int} {Q:Bool→Shared→Prop} (hu:A.units < cLine) (hx:PlAt s.heap (.ref x) a) (hy:PlAt s.heap (.ref y) b) (h:Q (placeLt a b) s):wpAny (model P w) A (oneLt' false (.ref x) (.ref y)) Q E s:=by
  obtain ⟨p,o,t,u,n,e1,ho,hc,hd⟩:=hx
  obtain ⟨p2,o2,t2,u2,n2,e2,ho2,hc2,hd2⟩:=hy
  cases e1
  cases e2
  obtain ⟨c,dd,dat,sl⟩:=o
  obtain ⟨c2,dd2,dat2,sl2⟩:=o2
  simp only at hc hd hc2 hd2
  subst hc hd hc2 hd2
  have T1:s.TypeIs (.ref x) "tuple":=⟨_,ho,rfl⟩
  have T2:s.TypeIs (.ref y) "tuple":=⟨_,ho2,rfl⟩
  refine kat_one _ _ ?_
  show wpAny _ _ (richCompare .Lt (.ref x) (.ref y)) _ _ _
  refine wpAny_richCompare_same_room T1 T2 PySem.F.slot_tuple_lt ?_ hu
  exact call_meets PySem.F.slot_tuple_lt T1 PySem.F.entry_tuple_lt (PySem.F.args_tuple_lt_2 _ _) (tuple_lt_place x y a.1 b.1 a.2 b.2 t u t2 u2 n n2 dd dd2 sl sl2) ⟨ho,ho2,by simp,h⟩
theorem pl_key {h:Heap} {x:Addr} {a:Str × Int} (hx:PlAt h (.ref x) a):IsTupleKey (mixKind P w) h (plKey a) x:=by
  obtain ⟨p,o,t,u,n,e1,ho,hc,hd⟩:=hx
  cases e1
  exact ⟨o,_,n,ho,hc,hd,items_are (ks:=plKey a) (.cons ⟨t,rfl⟩ (.cons ⟨u,rfl⟩ .nil))⟩
def RvAt (h:Heap) (v:Value) (q:Row):Prop:=∃ a o p t n,v=.ref a∧h.get? a=some o∧o.cls=.type "tuple"∧o.data=.seq #[.ref p,.int q.2 t] n∧PlAt h (.ref p) q.1
theorem RvAt.keep {h h':Heap} {v:Value} {q:Row} (x:RvAt h v q) (k:∀ b o,h.get? b=some o→h'.get? b=some o):RvAt h' v q:=by
  obtain ⟨a,o,p,t,n,e,ho,hc,hd,hp⟩:=x
  exact ⟨a,o,p,t,n,e,k _ _ ho,hc,hd,hp.keep k⟩
theorem ask_row {x y:Value} {a b:Row} {Q:Bool→Shared→Prop} (hu:A.units < cLine) (hx:RvAt s.heap x a) (hy:RvAt s.heap y b) (h:Q (placeLt a.1 b.1) s) (hn:a.1≠b.1):wpAny (model P w) A (keyLt' (tuples' false) x y) Q E s:=by
  obtain ⟨p,o,pp,t,n,rfl,ho,hc,hd,hp⟩:=hx
  obtain ⟨p2,o2,pp2,t2,n2,rfl,ho2,hc2,hd2,hp2⟩:=hy
  refine kat_lt ho hd ho2 hd2 (kat_cons (wpAny_eqBool_tuple (knd:=mixKind P w) hu (pl_key hp) (pl_key hp2) (kat_go (fun e=>?_) fun e=>kat_no ?_)))
  · exact absurd (plKey_inj (of_decide_eq_true e)) hn
  · exact lt_place hu hp hp2 h
theorem kind_row {vs:List Value} {qs:List Row} {Q:SortKind→Shared→Prop} (hl:vs.length=qs.length) (hv:∀ (i:Nat) (v:Value) (q:Row),vs[i]?=some v→qs[i]?=some q→RvAt s.heap v q) (h2:0 < vs.length) (h:Q (tuples' false) s) :
    wpAny (model P w) A (keyKind' vs.toArray) Q E s:=by
  have T:∀ (vs:List Value) (qs:List Row),vs.length=qs.length→(∀ (i:Nat) (v:Value) (q:Row),vs[i]?=some v→qs[i]?=some q→RvAt s.heap v q)→∃ fs,KatTups s.heap vs fs∧fs.length=vs.length∧∀ v∈fs,∃ p o,v=Value.ref p∧s.heap.get? p=some o∧o.cls=.type "tuple":=by
    intro vs
    induction vs with
    | nil=>exact fun qs _ _=>⟨[],trivial,rfl,fun _ z=>nomatch z⟩
    | cons v r ih =>
      intro qs hl hv
      match qs,hl with
      | q :: qr,hl =>
        obtain ⟨fs,k,kl,kf⟩:=ih qr (by simpa using hl) fun i v' q' e1 e2=>hv (i + 1) v' q' (by simpa using e1) (by simpa using e2)
        obtain ⟨a,o,p,t,n,rfl,ho,hc,hd,hp⟩:=hv 0 v q rfl rfl
        refine ⟨.ref p :: fs,KatTups.cons ho hc hd rfl k,by simp [kl],fun z hz=>?_⟩
        rcases List.mem_cons.mp hz with rfl | hz
        · obtain ⟨p',o',_,_,_,e,g1,g2,_⟩:=hp
          cases e
          exact ⟨_,o',rfl,g1,g2⟩
        · exact kf z hz
  obtain ⟨fs,k,kl,kf⟩:=T vs qs hl hv
  refine kat_kind (T:=.type "tuple") k (by omega) (fun v hv=>?_) (by decide) h
  obtain ⟨p,o,rfl,g1,g2⟩:=kf v hv
  exact g2 ▸ (PySem.W.Looks.ld g1).andThen .now
theorem sorted_pure2 {l:Addr} {κ:SortKind} {Q:Value→Shared→Prop} (G:List Value→(Nat→Nat→Bool)→Shared→Prop)
    (coll:∀ R:List Value→Shared→Prop,(∀ vs lt s1,G vs lt s1→R vs s1)→wpAny (model P w) A.in1 (collect (.ref l)) R E s)
    (h64:∀ vs lt s1,G vs lt s1→vs.length < 64∧SO lt vs.length)
    (hk:∀ vs lt s1,G vs lt s1→2≤vs.length→∀ (h:Heap) (Q:SortKind→Shared→Prop),(∀ b o,s1.heap.get? b=some o→h.get? b=some o)→Q κ { s1 with heap:=h }→wpAny (model P w) A.in1.in1 (keyKind' vs.toArray) Q (fun _ _=>False) { s1 with heap:=h })
    (hc:∀ vs lt s1,G vs lt s1→∀ (h:Heap) i j C,(∀ b o,s1.heap.get? b=some o→h.get? b=some o)→i < vs.length→j < vs.length→i≠j→C (lt i j) { s1 with heap:=h }→kas_ask P w A.in1.in1 κ vs i j C { s1 with heap:=h })
    (fin:∀ vs lt s1,G vs lt s1→∀ (h':Heap) (p:Array Nat) (c:Nat),(∀ b o,s1.heap.get? b=some o→h'.get? b=some o)→h'.get? s1.heap.objs.size=some (seqObj "list" (outOf vs p).toArray c)→PP vs.length p→Rise lt p vs.length→Q (.ref s1.heap.objs.size) { s1 with heap:=h' }) :
    wpAny (model P w) A (call (.builtin "sorted") [.ref l]) Q E s:=by
  refine Calls.call_function_entry kind_sorted plain_sorted entry_sorted (args_sorted1 _) ?_;unfold Builtin.«sorted»
  refine wpAny_bind (m:=checkCount "sorted" 1 1 _) (wpAny_pure ?_);refine wpAny_bind (coll _ fun vs lt s1 g=>?_)
  obtain ⟨l64,S⟩:=h64 vs lt s1 g
  refine wpAny_bind (wpAny_newList ?_ (by rw [sizeLine_eq];omega))
  have hoL:(s1.heap.push (seqObj "list" vs.toArray 0)).get? s1.heap.objs.size=some (seqObj "list" vs.toArray 0):=Heap.get?_push_size _ rfl
  have kept:∀ h',Kp s1.heap.objs.size (s1.heap.push (seqObj "list" vs.toArray 0)) h'→∀ b o,s1.heap.get? b=some o→h'.get? b=some o:=fun h' k b o e=>k b o (Nat.ne_of_lt (Heap.lt_size e)) (Heap.get?_push_of_some _ e)
  refine wpAny_bind (wpAny_holding (wpAny_call_entry slot_list_sort ⟨_,hoL,rfl⟩ entry_list_sort (lsort_pure (s:={ s1 with heap:=s1.heap.push (seqObj "list" vs.toArray 0) }) hoL l64 (κ:=κ) (lt:=lt) (fun h2 h' Q' k q=>?_) (fun h' i j C k hi hj hij q=>?_) S fun h' p c k ho hp hr=>?_) (args_list_sort _)))
  · exact hk vs lt s1 g h2 h' Q' (kept h' k) q
  · exact hc vs lt s1 g h' i j C (kept h' k) hi hj hij q
  · exact ⟨_,rfl,wpAny_pure ⟨_,rfl,fin vs lt s1 g h' p c (kept h' k) ho hp hr⟩⟩
end
end L2
namespace L2
open PySem PySem.Spec PyProof.Rows PySem.W
def d0:Row:=(("",0),0)
theorem its_of (rows:List Row):∃ its:List Row,dOf rows=its.map (fun q=>(plKey q.1,V.int q.2))∧(its.map (·.1)).Nodup∧∀ p w,(p,w)∈its↔lastW rows p=some w:=by
  have h:=okKv_dOf rows
  have:∀ (kvs:List (List Key × V)),(∀ kv∈kvs,∃ (p:Pl) (w:Int),kv=(plKey p,.int w))→∃ its:List Row,kvs=its.map (fun q=>(plKey q.1,V.int q.2)):=fun kvs=>by
    induction kvs with
    | nil=>exact fun _=>⟨[],rfl⟩
    | cons kv r ih =>
      intro hk
      obtain ⟨qs,e⟩:=ih fun z hz=>hk z (List.mem_cons_of_mem _ hz)
      obtain ⟨p,w,e2⟩:=hk kv List.mem_cons_self
      exact ⟨(p,w) :: qs,by rw [List.map_cons,← e,e2]⟩
  obtain ⟨its,e⟩:=this _ h.2
  refine ⟨its,e,?_,fun p w=>?_⟩
  · have:=h.1
    rw [e,List.map_map] at this
    refine nodup_map_inj (f:=plKey) ?_
    rw [List.map_map]
    exact this
  · have m:=mem_dOf (rows:=rows) (kv:=(plKey p,V.int w))
    constructor
    · intro hm
      obtain ⟨p',w',e1,e2⟩:=m.mp (by rw [e];exact List.mem_map.mpr ⟨_,hm,rfl⟩)
      have e3:=plKey_inj (Prod.mk.inj e1).1
      have e4:=V.int.inj (Prod.mk.inj e1).2
      rw [e3,e4];exact e2
    · intro hw
      have hm:=m.mpr ⟨p,w,rfl,hw⟩
      rw [e] at hm
      obtain ⟨q,hq,e1⟩:=List.mem_map.mp hm
      have e3:=plKey_inj (Prod.mk.inj e1).1
      have e4:=V.int.inj (Prod.mk.inj e1).2
      rw [← e3,← e4];exact hq
theorem range_getD {α:Type} (l:List α) (d:α):(List.range l.length).map (fun i=>l.getD i d)=l:=by
  apply List.ext_getElem?
  intro i
  rw [List.getElem?_map]
  by_cases hi:i < l.length
  · rw [List.getElem?_range hi,List.getElem?_eq_getElem hi]
    simp [List.getD_eq_getElem?_getD,List.getElem?_eq_getElem hi]
  · rw [List.getElem?_eq_none (by simpa using hi),List.getElem?_eq_none (by omega)]
    rfl
theorem PP.list {n:Nat} {p:Array Nat} (h:PP n p):p.toList.Perm (List.range n):=by
  have:=Array.perm_iff_toList_perm.mp h
  simpa using this
theorem PP.lt {n:Nat} {p:Array Nat} (h:PP n p):∀ i∈p.toList,i < n:=fun i hi=>by
  have:=h.list.mem_iff.mp hi
  simpa using this
theorem rise_pairs {α:Type} {F:α→α→Bool} {l:List α} {d:α} {n:Nat} {p:Array Nat} (hp:PP n p) (hr:Rise (fun i j=>F (l.getD i d) (l.getD j d)) p n):(p.toList.map fun i=>l.getD i d).Pairwise fun a b=>F a b=true:=by
  rw [List.pairwise_map,List.pairwise_iff_getElem]
  intro i j hi hj hij
  rw [Array.length_toList] at hi hj
  have g1:=gt_eq hi
  have g2:=gt_eq hj
  have sz:=hp.size
  have r:=hr i j hij (by omega)
  have x1:p.toList[i]=gt p i:=by
    rw [Array.getElem?_eq_getElem hi] at g1
    simpa using g1
  have x2:p.toList[j]=gt p j:=by
    rw [Array.getElem?_eq_getElem hj] at g2
    simpa using g2
  rw [x1,x2];exact r
theorem paired_pick {α β:Type} {F:α→β→Prop} {l₁:List α} {l₂:List β} (h:Paired F l₁ l₂) (a:α) (b:β):∀ {is:List Nat},(∀ i∈is,i < l₁.length)→Paired F (is.map fun i=>l₁.getD i a) (is.map fun i=>l₂.getD i b)
  | [],_=>.nil
  | i :: r,hi=>by
    have l:=Paired.length h
    have h1:=hi i List.mem_cons_self
    refine .cons ?_ (paired_pick h a b fun j hj=>hi j (List.mem_cons_of_mem _ hj))
    show F (l₁.getD i a) (l₂.getD i b)
    have e1:=List.getElem?_eq_getElem h1
    have e2:l₂[i]?=some l₂[i]:=List.getElem?_eq_getElem (by omega)
    rw [List.getD_eq_getElem?_getD,List.getD_eq_getElem?_getD,e1,e2]
    exact paired_get h e1 e2
abbrev cSrtI:RC:=fun vs H Q=>∃ r d rows,vs=[.ref r]∧H r=some (viewO r d)∧H d=some (.dT (dOf rows))∧(dOf rows).length < 64 ∧
  ∀ l ys srt H',Same H H'→H l=none→H' l=some (.lst ys)→Paired (PrAt H') ys srt→Rising srt→(∀ p w,(p,w)∈srt↔lastW rows p=some w)→Q (.ref l) H'
theorem kv_pr {H:Hp}:∀ {ys:List V} {its:List Row},Paired (KvAt H) ys (its.map fun q=>(plKey q.1,V.int q.2))→Paired (PrAt H) ys its
  | _,[],h=>by cases h;exact .nil
  | _,q :: r,h=>by
    rw [List.map_cons] at h
    cases h with
    | cons a t=>exact .cons a (kv_pr t)
section
variable {X:Cx}
theorem rv_at {pins:List (Addr × Obj)} {σ:St} {H:Hp} {s:Shared} {v:V} {u:Value} {q:Row} (I:Inv X pins σ H s) (h:PrAt H v q) (r:RelV v u):RvAt s.heap u q:=by
  obtain ⟨a,p,rfl,h1,h2⟩:=h
  cases r
  obtain ⟨_,its,rv,o,o1,o2,n,o3⟩:=(show ObjOk X.prog X.w H s.heap a (.tup [.ref p,.int q.2]) from I.hok a _ h1)
  cases rv with
  | cons r1 rr =>
    cases rr with
    | cons r2 rn =>
      cases rn
      cases r1
      obtain ⟨t,rfl⟩:=r2
      exact ⟨a,o,p,t,n,rfl,o1,o2,o3,place_at I h2⟩
theorem call_sorted_items (hc:X.calm=true) (hu:X.A.units + 3 < cLine):CallR X (.builtin "sorted") cSrtI:=by
  intro pins s σ H vs us Q I r0 h
  obtain ⟨r,d,rows,rfl,hr,hd,h64,q⟩:=h
  obtain ⟨u,rfl,ru⟩:=vals1 r0
  cases ru
  have hh:X.A.handled=none:=I.ok.hd hc
  obtain ⟨its,ei,nd,mi⟩:=its_of rows
  have li:(dOf rows).length=its.length:=by rw [ei,List.length_map]
  have so:=placeLt_so nd
  have vat:∀ {s1:Shared} {H':Hp} {ys:List V} {vs:List Value},Inv X pins σ H' s1→Paired (PrAt H') ys its→Vals ys vs→∀ (i:Nat) (q:Row),its[i]?=some q→∃ v,vs[i]?=some v∧RvAt s1.heap v q:=fun {s1 H' ys vs} I' pr rv i q hq=>by
    have hi:=(List.getElem?_eq_some_iff.mp hq).1
    have l1:=Paired.length pr
    obtain ⟨y,hy⟩:∃ y,ys[i]?=some y:=⟨_,List.getElem?_eq_getElem (by omega)⟩
    obtain ⟨u,hu',ru⟩:=rv.get hy
    exact ⟨u,hu',rv_at I' (paired_get pr hy hq) ru⟩
  refine sorted_pure2 (κ:=tuples' false) (fun vs lt s1=>∃ H' ys,Inv X pins σ H' s1∧Same H H'∧Paired (PrAt H') ys its∧Vals ys vs∧lt=fun i j=>placeLt ((its.map (·.1)).getD i (("",0):Pl)) ((its.map (·.1)).getD j (("",0):Pl)))
    (fun R hR=>coll_items (A:=X.A.in1) hh hr hd (by omega) I fun s1 H' ys us I' sm pr rv=>hR us _ s1 ⟨H',ys,I',sm,kv_pr (by rw [← ei];exact pr),rv,rfl⟩) ?_ ?_ ?_ ?_
  · rintro vs lt s1 ⟨H',ys,I',sm,pr,rv,rfl⟩
    have l1:=Paired.length pr
    have l2:=rv.length
    refine ⟨by omega,?_⟩
    rw [show vs.length=(its.map (·.1)).length by rw [List.length_map];omega]
    exact so
  · rintro vs lt s1 ⟨H',ys,I',sm,pr,rv,rfl⟩ h2 h Q' k q'
    have l1:=Paired.length pr
    have l2:=rv.length
    refine kind_row (s:={ s1 with heap:=h }) (qs:=its) (by omega) (fun i v q hv hq=>?_) (by omega) q'
    obtain ⟨v',hv',rr⟩:=vat I' pr rv i q hq
    rw [hv] at hv'
    cases hv'
    exact rr.keep k
  · rintro vs lt s1 ⟨H',ys,I',sm,pr,rv,rfl⟩ h i j C k hi hj hij q'
    have l1:=Paired.length pr
    have l2:=rv.length
    have e1:its[i]?=some its[i]:=List.getElem?_eq_getElem (by omega)
    have e2:its[j]?=some its[j]:=List.getElem?_eq_getElem (by omega)
    obtain ⟨v1,g1,r1⟩:=vat I' pr rv i _ e1
    obtain ⟨v2,g2,r2⟩:=vat I' pr rv j _ e2
    have n1:(its.map (·.1)).getD i (("",0):Pl)=its[i].1:=by rw [List.getD_eq_getElem?_getD,List.getElem?_map,e1];rfl
    have n2:(its.map (·.1)).getD j (("",0):Pl)=its[j].1:=by rw [List.getD_eq_getElem?_getD,List.getElem?_map,e2];rfl
    have m1:vs.getD i Value.none=v1:=by rw [List.getD_eq_getElem?_getD,g1];rfl
    have m2:vs.getD j Value.none=v2:=by rw [List.getD_eq_getElem?_getD,g2];rfl
    simp only [n1,n2] at q'
    have key:=ask_row (P:=X.prog) (w:=X.w) (A:=X.A.in1.in1) (E:=fun _ _=>False) (s:={ s1 with heap:=h }) (Q:=C) (by have e:X.A.in1.in1.units=X.A.units + 2:=rfl;omega) (r1.keep k) (r2.keep k) q' fun z=>hij (by
      have e3:(its.map (·.1))[i]?=some its[i].1:=by rw [List.getElem?_map,e1];rfl
      have e4:(its.map (·.1))[j]?=some its[j].1:=by rw [List.getElem?_map,e2];rfl
      rw [z] at e3
      exact (List.getElem?_inj (by rw [List.length_map];omega) nd).mp (e3.trans e4.symm))
    rw [← m1,← m2] at key
    exact key
  · rintro vs lt s1 ⟨H',ys,I',sm,pr,rv,rfl⟩ h' p c k hD hp hr
    have l1:=Paired.length pr
    have l2:=rv.length
    have hp':PP its.length p:=by rw [show its.length=vs.length by omega];exact hp
    have fr:H' s1.heap.objs.size=none:=I'.hok.fresh (Nat.le_refl _)
    have sz:=hp'.size
    have pk:=paired_pick pr V.non d0 (is:=p.toList) fun i hi=>by have:=hp'.lt i hi;omega
    have vk:Vals (p.toList.map fun i=>ys.getD i V.non) (outOf vs p):=paired_pick rv V.non Value.none (is:=p.toList) fun i hi=>by have:=hp'.lt i hi;omega
    have I2:Inv X pins σ (upd H' s1.heap.objs.size (.lst (p.toList.map fun i=>ys.getD i V.non))) { s1 with heap:=h' }:=I'.laid (a:=s1.heap.objs.size) (o:=.lst (p.toList.map fun i=>ys.getD i V.non)) (t':=s1.toks) k (Nat.le_refl _)
      ⟨by rw [List.length_map,Array.length_toList];exact Nat.le_trans (by omega:_≤64) (by decide),outOf vs p,c,vk,hD⟩
    have S2:Same H' (upd H' s1.heap.objs.size (.lst (p.toList.map fun i=>ys.getD i V.non))):=isV _ fr
    have hn:H s1.heap.objs.size=none:=by
      cases e:H s1.heap.objs.size with
      | none=>rfl
      | some o=>rw [sm _ _ e] at fr;cases fr
    have mono:∀ {us:List V} {ws:List Row},Paired (PrAt H') us ws→Paired (PrAt (upd H' s1.heap.objs.size (.lst (p.toList.map fun i=>ys.getD i V.non)))) us ws:=fun {us ws} h=>by
      induction h with
      | nil=>exact .nil
      | cons a _ ih =>
        obtain ⟨r,p,e,h1,h2⟩:=a
        exact .cons ⟨r,p,e,S2 _ _ h1,S2 _ _ h2⟩ ih
    refine ⟨.ref s1.heap.objs.size,_,I2,rfl,q _ _ (p.toList.map fun i=>its.getD i d0) _ (sm.trans S2) hn upd_same (mono pk) ?_ fun pl wv=>?_⟩
    · have hr':Rise (fun i j=>placeLt ((its.map (·.1)).getD i (("",0):Pl)) ((its.map (·.1)).getD j (("",0):Pl))) p its.length:=by rw [show its.length=vs.length by omega];exact hr
      have pw:=rise_pairs (F:=placeLt) hp' hr'
      have eq:(p.toList.map fun i=>its.getD i d0).map (·.1)=p.toList.map fun i=>(its.map (·.1)).getD i (("",0):Pl):=by
        rw [List.map_map]
        refine List.map_congr_left fun i hi=>?_
        have hi:=hp'.lt i hi
        simp [List.getD_eq_getElem?_getD,List.getElem?_map,List.getElem?_eq_getElem hi]
      rw [← eq,List.pairwise_map] at pw
      exact pw
    · have pm:(p.toList.map fun i=>its.getD i d0).Perm its:=by
        refine (hp'.list.map _).trans ?_
        rw [range_getD]
      rw [pm.mem_iff]
      exact mi pl wv
end
end L2
namespace L2
open PySem PySem.Spec PyProof.Rows
def Itr3 (lo c:Int) (n:Nat):It:=⟨fun i _=>i < n,fun i H x H'=>H'=H∧x=.int (lo + i * c),fun i _=>n≤i⟩
theorem turn_range3 {P:Program} {w:World} {K:PySem.W.Frag} {tg:Expr} (it:Addr) (lo c:Int) (n:Nat):Turn P w K tg (Itr3 lo c n) [it] it (fun i h=>IsRangeIter h it (lo + (i:Nat) * c) ((n:Int) - (i:Nat)) c) where
  mem:=by simp
  obj:=fun i h st b hb=>by
    have e:b=it:=by simpa using hb
    subst e
    refine ⟨_,st,fun v z=>?_⟩
    have z':Data.fields _=Data.cell v:=z
    cases z'
  keep:=fun i h h' st k=>k it (by simp) _ st
  item:=by
    intro X hP hw hK hc i pins s σ H E I hf st hg;subst hP hw hK
    obtain ⟨f0,f1,f2,f3,f4,f5⟩:=hf it (by simp)
    refine (Walks.range (prog:=X.prog) (w:=X.w) (I.ok.hd hc) it lo c n).item i s _ _ hg st fun v h' tk hv st' kk=>?_
    obtain ⟨t,rfl⟩:=hv
    have I1:Inv X pins σ H { s with heap:=h',toks:=tk }:=I.turned (fun b o hb e=>kk b o (by simpa using hb) e) f0 f1 f3 f4 f5
    exact ⟨_,rfl,go_of (s:={ s with heap:=h',toks:=tk }) (n:="range_iterator") st' rfl rfl (by decide) ⟨.int (lo + i * c),H,I1,⟨t,rfl⟩,⟨rfl,rfl⟩,st',fun b hb=>(hf b hb).1⟩⟩
  done:=by
    intro X hP hw hK hc i pins s σ H E I hf st hg;subst hP hw hK
    obtain ⟨f0,f1,f2,f3,f4,f5⟩:=hf it (by simp)
    exact wpAny_pyNext_range_end (I.ok.hd hc) st (by have:n≤i:=hg;omega) fun h' eb=>⟨rfl,I.turned (t':=s.toks) (fun b o hb e=>eb b o hb e) f0 f1 f3 f4 f5⟩
  self:=fun _ _ _ _ _ st h=>wpAny_pyIter_rangeiter st h
def cntR (i j c:Int):Nat:=if i < j then ((j - i - 1) / c + 1).toNat else 0
def iRng3 (ta:TA):TI:=fun σ H R=>ta σ H fun vs H1=>∃ i j c:Int,vs=[.int i,.int j,.int c]∧(0≤i∧i < 1073741824∧0≤j∧j < 1073741824∧0 < c∧c < 1073741824)∧R (Itr3 i c (cntR i j c)) H1
section
variable {X:Cx} {tg:Expr}
theorem pi_range3 {a b c:Expr} {ta:TA} {p pos:Pos} (hg:Gl X "range") (hm:X.mg "range"=none) (ha:PA X [a,b,c] ta) (hs:starEach [a,b,c] X.env=[(false,eval a X.env),(false,eval b X.env),(false,eval c X.env)]:=by rfl) (hs2:starEach [b,c] X.env=[(false,eval b X.env),(false,eval c X.env)]:=by rfl) :
    PI X tg (.Call (.Name "range" p) [a,b,c] [] pos) (iRng3 ta):=by
  intro pins s σ H R I h
  refine Call_ (ld_blt I hg hm boot_range (PyProof.Rows.callWith_type1 (thn (ha pos pins s σ H _ I h) fun us s1 ⟨vs,H1,I1,r1,q1⟩=>?_) (by rw [hs,hs2]) (by rw [hs2];rfl)))
  obtain ⟨i,j,c,e,⟨q1,q2,q3,q4,q5,q6⟩,q⟩:=q1
  subst e
  cases r1 with
  | cons r rr =>
    cases rr with
    | cons r' rr =>
      cases rr with
      | cons r'' rr =>
        cases rr
        obtain ⟨t,rfl⟩:=r
        obtain ⟨t',rfl⟩:=r'
        obtain ⟨t'',rfl⟩:=r''
        refine call_range_3 (by omega) ?_ (.inl (PyProof.noPylong_small (by omega)))
        have hz:Builtin.Range.rangeSize i j c=(cntR i j c:Int):=by
          unfold Builtin.Range.rangeSize cntR
          rw [if_pos q5]
          split
          · rename_i h
            have:=Int.ediv_nonneg (a:=j - i - 1) (b:=c) (by omega) (by omega)
            omega
          · rfl
        have hb:(cntR i j c:Int)≤1073741824∧(cntR i j c:Int) * c≤2147483648:=by
          unfold cntR
          split
          · rename_i h
            have h1:=Int.ediv_nonneg (a:=j - i - 1) (b:=c) (by omega) (by omega)
            have h2:=Int.ediv_le_self (a:=j - i - 1) c (by omega)
            have h3:=Int.ediv_mul_le (j - i - 1) (b:=c) (by omega)
            rw [Int.toNat_of_nonneg (by omega),Int.add_mul]
            omega
          · simp
        generalize cntR i j c=n at *
        have sm:Builtin.Range.small i j c=true:=by
          unfold Builtin.Range.small
          rw [hz]
          simp only [Builtin.Range.rangeFitsLong,Bool.and_eq_true,Bool.or_eq_true,decide_eq_true_eq,beq_iff_eq,show c > 0 from q5,if_true]
          omega
        refine wpAny_pyIter_range (IsRange.new ..) sm ?_
        rw [hz]
        have I2:Inv X pins σ H1 { s1 with heap:=s1.heap.push { cls:=.type "range",data:=.fields #[.int i t,.int j t',.int c t''] },toks:=s1.toks }:=I1.kept fun b o e=>Heap.get?_push_of_some _ e
        refine ⟨(s1.heap.push { cls:=.type "range",data:=.fields #[.int i t,.int j t',.int c t''] }).objs.size,[(s1.heap.push { cls:=.type "range",data:=.fields #[.int i t,.int j t',.int c t''] }).objs.size],_,_,H1,rfl,I2.kept (t':=s1.toks) fun b o e=>Heap.get?_push_of_some _ e,turn_range3 _ i c n,?_,fun b hb=>?_,q⟩
        · show IsRangeIter _ _ (i + ((0:Nat):Int) * c) ((n:Int) - ((0:Nat):Int)) c
          rw [show i + ((0:Nat):Int) * c=i by simp,show (n:Int) - ((0:Nat):Int)=n by simp]
          exact Heap.get?_push_size _ rfl
        · have e:b=(s1.heap.push { cls:=.type "range",data:=.fields #[.int i t,.int j t',.int c t''] }).objs.size:=by simpa using hb
          subst e
          exact I2.fpOk (Nat.le_refl _) (I2.hok.fresh (Nat.le_refl _))
end
end L2
namespace L2
open PySem
structure StOk (n:Nat) (s:Sta):Prop where
  so:SlotsOk s.sl
  wo:∀ r∈s.wo,inW r.2=true
  l1:s.sl.length≤n
  l2:s.wo.length≤n
  l3:s.sa.length≤n
theorem StOk.mono {n m:Nat} {s:Sta} (h:StOk n s) (l:n≤m):StOk m s:=⟨h.so,h.wo,Nat.le_trans h.l1 l,Nat.le_trans h.l2 l,Nat.le_trans h.l3 l⟩
theorem slots_put {kvs:List (Key × V)} (h:SlotsOk kvs) (k:Key) {i:Int} (hi:inW i=true):SlotsOk (putK kvs k (.int i)):=fun k' v e=>by
  rw [valV_put] at e
  by_cases c:k'=k
  · rw [if_pos c] at e
    exact ⟨i,(Option.some.inj e).symm,hi⟩
  · rw [if_neg c] at e
    exact h k' v e
theorem last_in {P:Row→Prop} {p:Pl} {w:Int}:∀ {l:List Row},(∀ r∈l,P r)→lastW l p=some w→P (p,w)
  | [],_,h=>by cases h
  | r :: t,hp,h=>by
    rw [lastW] at h
    cases e:lastW t p with
    | some w' =>
      rw [e] at h
      have:w'=w:=by simpa using h
      subst this
      exact last_in (fun r hr=>hp r (List.mem_cons_of_mem _ hr)) e
    | none =>
      rw [e] at h
      by_cases c:r.1=p
      · rw [if_pos c] at h
        have:r.2=w:=by simpa using h
        rw [← c,← this];exact hp r List.mem_cons_self
      · rw [if_neg c] at h;cases h
mutual
def RwIn (P:Pl→Prop):Rw→Prop
  | .give sh e _=>∀ kvs n,rk kvs e=.ok n→P (sh,n)
  | .iff _ a b=>RwsIn P a∧RwsIn P b
  | _=>True
def RwsIn (P:Pl→Prop):Rws→Prop
  | .nil=>True
  | .cons r rs=>RwIn P r∧RwsIn P rs
end
inductive Oc where
  | done (sa:List Int)
  | off (why:Str)
def whyOf:Er→Str
  | .great=>"great"
  | _=>"nought"
def AloneR (rws:Rws) (tab:List Row) (oc:Oc) (out:List Row):Prop:=match goRs rws ⟨[],tab,[]⟩ with
  | .go s=>oc=.done s.sa∧IsTab s.wo out
  | .off=>oc=.off "told"∧out=tab
  | .er e=>oc=.off (whyOf e)∧out=tab
inductive SeqR:List Rws→List Row→List Oc→List Row→Prop
  | nil {tab:List Row}:SeqR [] tab [] tab
  | cons {d:Rws} {ds:List Rws} {tab mid out:List Row} {oc:Oc} {ocs:List Oc}:AloneR d tab oc mid→SeqR ds mid ocs out→SeqR (d :: ds) tab (oc :: ocs) out
def partD:V→PyData
  | .int i=>.int i
  | .str x=>.str x
  | _=>.none
def plV (v:V):Prop:=(∃ i,v=.int i)∨∃ x,v=.str x∧PyData.strOk x=true
def termD (e:List V):PyData:=.tuple (e.map partD)
mutual
def rwD:Rw→PyData
  | .take sh e sl=>.tuple [.str "take",.str sh,termD e,.str sl]
  | .give sh e f=>.tuple [.str "give",.str sh,termD e,termD f]
  | .lt sl e=>.tuple [.str "let",.str sl,termD e]
  | .say e=>.tuple [.str "say",termD e]
  | .off e=>.tuple [.str "off",termD e]
  | .iff e a b=>.tuple [.str "if",termD e,.list (rwsD a),.list (rwsD b)]
def rwsD:Rws→List PyData
  | .nil=>[]
  | .cons r rs=>rwD r :: rwsD rs
end
def tmP (e:List V):Prop:=∀ v∈e,plV v
mutual
def RwPl:Rw→Prop
  | .take sh e sl=>PyData.strOk sh=true∧tmP e∧PyData.strOk sl=true
  | .give sh e f=>PyData.strOk sh=true∧tmP e∧tmP f
  | .lt sl e=>PyData.strOk sl=true∧tmP e
  | .say e=>tmP e
  | .off e=>tmP e
  | .iff e a b=>tmP e∧RwsPl a∧RwsPl b
def RwsPl:Rws→Prop
  | .nil=>True
  | .cons r rs=>RwPl r∧RwsPl rs
end
section
variable {K:PySem.W.Frag} {H:Hp} {F:Addr→Prop}
theorem part_dat {v:V} (h:plV v):Dat K H v (partD v):=by
  rcases h with ⟨i,rfl⟩ | ⟨x,rfl,_⟩
  · exact .int i
  · exact .str x
theorem parts_dat:∀ {e:List V},tmP e→DatAll K H e (e.map partD)
  | [],_=>.nil
  | v :: r,h=>.cons (part_dat (h v List.mem_cons_self)) (parts_dat fun u hu=>h u (List.mem_cons_of_mem _ hu))
theorem term_dat {a:Addr} {e:List V} (h:H a=some (.tup e)) (p:tmP e):Dat K H (.ref a) (termD e):=.tup (SqT.of h) (parts_dat p)
mutual
theorem rw_dat:∀ (r:Rw) {v:V},RwAt F H v r→RwPl r→Dat K H v (rwD r)
  | .take sh e sl,v,h,p=>by
    unfold RwAt at h
    unfold RwPl at p
    obtain ⟨r,te,rfl,f1,f2,e2,e3⟩:=h
    rw [rwD]
    exact .tup (SqT.of e2) (.cons (.str _) (.cons (.str _) (.cons (term_dat e3 p.2.1) (.cons (.str _) .nil))))
  | .give sh e f,v,h,p=>by
    unfold RwAt at h
    unfold RwPl at p
    obtain ⟨r,te,tf,rfl,f1,f2,f3,e2,e3,e4⟩:=h
    rw [rwD]
    exact .tup (SqT.of e2) (.cons (.str _) (.cons (.str _) (.cons (term_dat e3 p.2.1) (.cons (term_dat e4 p.2.2) .nil))))
  | .lt sl e,v,h,p=>by
    unfold RwAt at h
    unfold RwPl at p
    obtain ⟨r,te,rfl,f1,f2,e2,e3⟩:=h
    rw [rwD]
    exact .tup (SqT.of e2) (.cons (.str _) (.cons (.str _) (.cons (term_dat e3 p.2) .nil)))
  | .say e,v,h,p=>by
    unfold RwAt at h
    unfold RwPl at p
    obtain ⟨r,te,rfl,f1,f2,e2,e3⟩:=h
    rw [rwD]
    exact .tup (SqT.of e2) (.cons (.str _) (.cons (term_dat e3 p) .nil))
  | .off e,v,h,p=>by
    unfold RwAt at h
    unfold RwPl at p
    obtain ⟨r,te,rfl,f1,f2,e2,e3⟩:=h
    rw [rwD]
    exact .tup (SqT.of e2) (.cons (.str _) (.cons (term_dat e3 p) .nil))
  | .iff e a b,v,h,p=>by
    unfold RwAt at h
    unfold RwPl at p
    obtain ⟨r,te,la,lb,xs,ys,rfl,f1,f2,f3,f4,e2,e3,e4,e5,e6,e7⟩:=h
    rw [rwD]
    exact .tup (SqT.of e2) (.cons (.str _) (.cons (term_dat e3 p.1) (.cons (.lst (SqL.of e4) (rws_dat a e5 p.2.1)) (.cons (.lst (SqL.of e6) (rws_dat b e7 p.2.2)) .nil))))
theorem rws_dat:∀ (r:Rws) {vs:List V},RwsAt F H vs r→RwsPl r→DatAll K H vs (rwsD r)
  | .nil,vs,h,p=>by
    unfold RwsAt at h
    subst h
    rw [rwsD];exact .nil
  | .cons r rs,vs,h,p=>by
    unfold RwsAt at h
    unfold RwsPl at p
    obtain ⟨v,ws,rfl,e2,e3⟩:=h
    rw [rwsD]
    exact .cons (rw_dat r e2 p.1) (rws_dat rs e3 p.2)
end
end
theorem parts_plain:∀ {e:List V},tmP e→plainDs (e.map partD)=true
  | [],_=>by simp [plainDs]
  | v :: r,h=>by
    rw [List.map_cons,plainDs,parts_plain fun u hu=>h u (List.mem_cons_of_mem _ hu),Bool.and_true]
    rcases h v List.mem_cons_self with ⟨i,rfl⟩ | ⟨x,rfl,hx⟩
    · rw [partD,plainD]
    · rw [partD,plainD];exact hx
theorem term_plain {e:List V} (h:tmP e):plainD (termD e)=true:=by rw [termD,plainD];exact parts_plain h
theorem parts_deep:∀ (e:List V),PyData.depthAll (e.map partD)=0
  | []=>by simp [PyData.depthAll]
  | v :: r=>by
    rw [List.map_cons,PyData.depthAll,parts_deep r]
    cases v <;> simp [partD,PyData.depth]
theorem term_deep (e:List V):(termD e).depth≤1:=by rw [termD,PyData.depth,parts_deep];omega
theorem sok_take:PyData.strOk "take"=true:=by decide +kernel
theorem sok_give:PyData.strOk "give"=true:=by decide +kernel
theorem sok_let:PyData.strOk "let"=true:=by decide +kernel
theorem sok_say:PyData.strOk "say"=true:=by decide +kernel
theorem sok_off:PyData.strOk "off"=true:=by decide +kernel
theorem sok_if:PyData.strOk "if"=true:=by decide +kernel
mutual
theorem rw_plain:∀ (r:Rw),RwPl r→plainD (rwD r)=true
  | .take sh e sl,p=>by unfold RwPl at p;rw [rwD];simp [plainD,plainDs,sok_take,term_plain p.2.1,p.1,p.2.2]
  | .give sh e f,p=>by unfold RwPl at p;rw [rwD];simp [plainD,plainDs,sok_give,term_plain p.2.1,p.1,term_plain p.2.2]
  | .lt sl e,p=>by unfold RwPl at p;rw [rwD];simp [plainD,plainDs,sok_let,term_plain p.2,p.1]
  | .say e,p=>by unfold RwPl at p;rw [rwD];simp [plainD,plainDs,sok_say,term_plain p]
  | .off e,p=>by unfold RwPl at p;rw [rwD];simp [plainD,plainDs,sok_off,term_plain p]
  | .iff e a b,p=>by unfold RwPl at p;rw [rwD];simp [plainD,plainDs,sok_if,term_plain p.1,rws_plain a p.2.1,rws_plain b p.2.2]
theorem rws_plain:∀ (r:Rws),RwsPl r→plainDs (rwsD r)=true
  | .nil,_=>by rw [rwsD,plainDs]
  | .cons r rs,p=>by unfold RwsPl at p;rw [rwsD,plainDs,rw_plain r p.1,rws_plain rs p.2];rfl
end
mutual
theorem rw_deep:∀ (r:Rw),(rwD r).depth≤2 * r.deep + 2
  | .take sh e sl=>by have:=term_deep e;rw [rwD];simp [PyData.depth,PyData.depthAll];omega
  | .give sh e f=>by have:=term_deep e;have:=term_deep f;rw [rwD];simp [PyData.depth,PyData.depthAll];omega
  | .lt sl e=>by have:=term_deep e;rw [rwD];simp [PyData.depth,PyData.depthAll];omega
  | .say e=>by have:=term_deep e;rw [rwD];simp [PyData.depth,PyData.depthAll];omega
  | .off e=>by have:=term_deep e;rw [rwD];simp [PyData.depth,PyData.depthAll];omega
  | .iff e a b=>by
    have:=term_deep e
    have h1:=rws_deep a
    have h2:=rws_deep b
    have c:(Rw.iff e a b).deep=max a.deep b.deep + 1:=by rw [Rw.deep]
    rw [rwD,c];simp [PyData.depth,PyData.depthAll];omega
theorem rws_deep:∀ (r:Rws),PyData.depthAll (rwsD r)≤2 * r.deep + 2
  | .nil=>by rw [rwsD];simp [PyData.depthAll]
  | .cons r rs=>by
    have h1:=rw_deep r
    have h2:=rws_deep rs
    have c:(Rws.cons r rs).deep=max r.deep rs.deep:=by rw [Rws.deep]
    rw [rwsD,c,PyData.depthAll];omega
end
def Rws.snoc:Rws→Rw→Rws
  | .nil,x=>.cons x .nil
  | .cons r rs,x=>.cons r (rs.snoc x)
def Rws.app:Rws→Rws→Rws
  | .nil,x=>x
  | .cons r rs,x=>.cons r (rs.app x)
theorem RwsAt.snoc {F:Addr→Prop} {H:Hp} {v:V} {x:Rw} (hx:RwAt F H v x):∀ (r:Rws) {vs:List V},RwsAt F H vs r→RwsAt F H (vs ++ [v]) (r.snoc x)
  | .nil,vs,h=>by
    unfold RwsAt at h
    subst h
    show RwsAt F H [v] (.cons x .nil)
    unfold RwsAt
    exact ⟨v,[],rfl,hx,by unfold RwsAt;rfl⟩
  | .cons r rs,vs,h=>by
    unfold RwsAt at h
    obtain ⟨u,ws,rfl,e2,e3⟩:=h
    show RwsAt F H (u :: (ws ++ [v])) (.cons r (rs.snoc x))
    unfold RwsAt
    exact ⟨u,ws ++ [v],rfl,e2,RwsAt.snoc hx rs e3⟩
theorem RwsAt.len {F:Addr→Prop} {H:Hp}:∀ (r:Rws) {vs:List V},RwsAt F H vs r→vs.length≤r.cnt
  | .nil,vs,h=>by
    unfold RwsAt at h
    subst h
    exact Nat.zero_le _
  | .cons r rs,vs,h=>by
    unfold RwsAt at h
    obtain ⟨u,ws,rfl,e2,e3⟩:=h
    have:=RwsAt.len rs e3
    have c:(Rws.cons r rs).cnt=r.cnt + rs.cnt:=by rw [Rws.cnt]
    have:1≤r.cnt:=by cases r <;> simp [Rw.cnt]
    rw [c,List.length_cons];omega
theorem RwsAt.get {F:Addr→Prop} {H:Hp}:∀ {r:Rws} {vs:List V} {i:Nat} {v:V},RwsAt F H (vs.drop i) r→vs[i]?=some v→∃ x rs,r=.cons x rs∧RwAt F H v x∧RwsAt F H (vs.drop (i + 1)) rs
  | .nil,vs,i,v,h,e=>by
    unfold RwsAt at h
    have:=(List.getElem?_eq_some_iff.mp e).1
    have:=congrArg List.length h
    rw [List.length_drop] at this
    simp at this
    omega
  | .cons x rs,vs,i,v,h,e=>by
    unfold RwsAt at h
    obtain ⟨u,ws,e1,e2,e3⟩:=h
    have hi:=(List.getElem?_eq_some_iff.mp e).1
    have d:=List.drop_eq_getElem_cons hi
    rw [e1] at d
    have e4:vs[i]=v:=(List.getElem?_eq_some_iff.mp e).2
    rw [e4] at d
    injection d with d1 d2
    subst d1 d2
    exact ⟨x,rs,rfl,e2,e3⟩
theorem RwsAt.none {F:Addr→Prop} {H:Hp} {r:Rws} {vs:List V} (h:RwsAt F H (vs.drop vs.length) r):r=.nil:=by
  rw [List.drop_length] at h
  cases r with
  | nil=>rfl
  | cons x rs =>
    unfold RwsAt at h
    obtain ⟨_,_,e,_⟩:=h
    cases e
theorem snoc_ok {x:Rw} (hx:RwOk x):∀ (r:Rws),RwsOk r→RwsOk (r.snoc x)
  | .nil,_=>by show RwsOk (.cons x .nil);unfold RwsOk;exact ⟨hx,by unfold RwsOk;trivial⟩
  | .cons y r,h=>by
    unfold RwsOk at h
    show RwsOk (.cons y (r.snoc x))
    unfold RwsOk
    exact ⟨h.1,snoc_ok hx r h.2⟩
theorem snoc_pl {x:Rw} (hx:RwPl x):∀ (r:Rws),RwsPl r→RwsPl (r.snoc x)
  | .nil,_=>by show RwsPl (.cons x .nil);unfold RwsPl;exact ⟨hx,by unfold RwsPl;trivial⟩
  | .cons y r,h=>by
    unfold RwsPl at h
    show RwsPl (.cons y (r.snoc x))
    unfold RwsPl
    exact ⟨h.1,snoc_pl hx r h.2⟩
theorem snoc_deep (x:Rw):∀ (r:Rws),(r.snoc x).deep=max r.deep x.deep
  | .nil=>by show (Rws.cons x .nil).deep=_;simp [Rws.deep]
  | .cons y r=>by
    show (Rws.cons y (r.snoc x)).deep=_
    rw [Rws.deep,Rws.deep,snoc_deep x r];exact (Nat.max_assoc _ _ _).symm
theorem term_one {v:V} (h:okPart v) (j:isJ v=false):TermOk [v] :=
  ⟨fun kvs=>⟨_,good_leaf j⟩,fun u hu=>by rw [List.mem_singleton.mp hu];exact h,by simp⟩
theorem term_two {u v:V} {w:Str} (hu:okPart u) (ju:isJ u=false) (hv:okPart v) (jv:isJ v=false) (hw:isJ (.str w)=true) (lw:w.length≤1000):TermOk [u,v,.str w] :=
  ⟨fun kvs=>⟨_,good_join (p1:=[u]) (p2:=[v]) hw (good_leaf ju) (good_leaf jv)⟩,fun z hz=>by
    simp only [List.mem_cons,List.not_mem_nil,or_false] at hz
    rcases hz with rfl | rfl | rfl
    · exact hu
    · exact hv
    · exact .inr ⟨w,rfl,lw⟩,by simp⟩
theorem Paired.snocP {α β:Type} {F:α→β→Prop} {x:α} {y:β}:∀ {a:List α} {b:List β},Paired F a b→F x y→Paired F (a ++ [x]) (b ++ [y])
  | _,_,.nil,h=>.cons h .nil
  | _,_,.cons a r,h=>.cons a (Paired.snocP r h)
theorem Paired.getP {α β:Type} {F:α→β→Prop} {a:List α} {b:List β} {i:Nat} {x:α} (h:Paired F a b) (e:a[i]?=some x):∃ y,b[i]?=some y∧F x y:=by
  have hi:=(List.getElem?_eq_some_iff.mp e).1
  have l:=Paired.length h
  exact ⟨b[i],List.getElem?_eq_getElem (by omega),paired_get h e (List.getElem?_eq_getElem (by omega))⟩
theorem RwAt.up {F:Addr→Prop} {H1:Hp} {R:Addr} {o:HO} {v:V} {r:Rw} (h:RwAt F H1 v r) (hF:∀ b,F b→b≠R):RwAt F (upd H1 R o) v r:=h.to r (fun _ _ f _=>f) fun b u f e=>by rw [upd_ne (hF b f)];exact e
theorem RwsAt.up {F:Addr→Prop} {H1:Hp} {R:Addr} {o:HO} {vs:List V} {r:Rws} (h:RwsAt F H1 vs r) (hF:∀ b,F b→b≠R):RwsAt F (upd H1 R o) vs r:=h.to r (fun _ _ f _=>f) fun b u f e=>by rw [upd_ne (hF b f)];exact e
end L2
namespace L2
open PySem PySem.Spec PyProof.Rows
abbrev r_mt_split:RM:=fun x xs H Q=>∃ a b,x=.str a∧xs=[.str b]∧(b.length == 0)=false∧a.length≤100000∧(Txt.split a b).length≤100000∧∀ l,H l=none→Q (.ref l) (upd H l (.lst ((Txt.split a b).map V.str)))
section
variable {X:Cx}
end
def Itel (K:PySem.W.Frag) (p:Addr) (xs:List V):It:=⟨fun i H=>i < xs.length∧SqL K H p xs,fun i H x H'=>∃ T u,x=.ref T∧H T=none∧H'=upd H T (.tup [.int i,u])∧xs[i]?=some u,fun i H=>xs.length≤i∧SqL K H p xs⟩
def iEnm (K:PySem.W.Frag) (ta:TA):TI:=fun σ H R=>ta σ H fun vs H1=>∃ p xs,vs=[.ref p]∧SqL K H1 p xs∧R (Itel K p xs) H1
section
variable {X:Cx}
end
section
variable {σ:St} {H:Hp} {nx:St→Hp→Prop} {B:V→St→Hp→(St→Hp→Prop)→Prop}
end
end L2
namespace L2
open PySem PySem.Spec PyProof.Rows
theorem cut_eq {c:Nat}:∀ {a b r s:List Nat},c ∉ a→c ∉ b→a ++ c :: r=b ++ c :: s→a=b∧r=s
  | [],[],r,s,_,_,h=>by simpa using h
  | [],y :: b,r,s,_,hb,h=>by
    simp only [List.nil_append,List.cons_append,List.cons.injEq] at h
    exact absurd h.1 (fun z=>hb (by rw [z];exact List.mem_cons_self))
  | x :: a,[],r,s,ha,_,h=>by
    simp only [List.nil_append,List.cons_append,List.cons.injEq] at h
    exact absurd h.1.symm (fun z=>ha (by rw [z];exact List.mem_cons_self))
  | x :: a,y :: b,r,s,ha,hb,h=>by
    simp only [List.cons_append,List.cons.injEq] at h
    obtain ⟨e1,e2⟩:=cut_eq (fun z=>ha (List.mem_cons_of_mem _ z)) (fun z=>hb (List.mem_cons_of_mem _ z)) h.2
    exact ⟨by rw [h.1,e1],e2⟩
end L2
namespace L2
open PySem PySem.Spec PyProof.Rows
abbrev cIsiT (K:PySem.W.Frag):RC:=fun xs H Q=>∃ (x:V) (p:Addr) (t:Value) (Ts:List String) (b:Bool),xs=[x,.ref p]∧TyOf K H x t∧H p=some (.tup (Ts.map V.ty))∧PySem.W.kitAny K t (Ts.map Value.type)=some b∧Q (.bl b) H
section
variable {X:Cx}
end
section
variable {prog:Program} {w:World} {A:Around} {E:Value→Shared→Prop} {s:Shared}
end
def sLPut (td ty tv:TE):TS:=fun D σ H=>tv σ H fun v H1=>td σ H1 fun x H2=>ty σ H2 fun y H3=>∃ a xs i j,x=.ref a∧y=.int i∧H3 a=some (.lst xs)∧ixN xs.length i=some j∧(-1000≤i∧i≤1000)∧D.nx σ (upd H3 a (.lst (xs.set j v)))
section
variable {X:Cx} {o i value:Expr} {pos pos':Pos} {td ty tv:TE}
end
section
variable {X:Cx} {st:Stmt} {hs:List ExceptHandler} {pos:Pos} {tb:TS}
end
end L2
namespace L2
open PySem PySem.Spec PyProof.Rows
def iZipB (K:PySem.W.Frag) (ta:TA):TI:=fun σ H R=>ta σ H fun vs H1=>∃ p q xs ys,vs=[.ref p,.ref q]∧xs.length=ys.length∧((SqL K H1 p xs∧SqL K H1 q ys∧R (Itzl K p q xs ys) H1)∨(SqT K H1 p xs∧SqT K H1 q ys∧R (Itz K p q xs ys) H1))
section
variable {X:Cx}
abbrev rNeNil (K:PySem.W.Frag):R2:=fun x y H Q=>∃ a b xs,x=.ref a∧y=.ref b∧SqL K H a xs∧SqL K H b []∧Q (.bl (!decide (xs=[]))) H
end
mutual
inductive DatS (H:Hp):V→PyData→Prop
  | int (i:Int):DatS H (.int i) (.int i)
  | str (x:Str):DatS H (.str x) (.str x)
  | lst {a:Addr} {xs:List V} {ds:List PyData}:H a=some (.lst xs)→DatSs H xs ds→DatS H (.ref a) (.list ds)
  | tup {a:Addr} {xs:List V} {ds:List PyData}:H a=some (.tup xs)→DatSs H xs ds→DatS H (.ref a) (.tuple ds)
inductive DatSs (H:Hp):List V→List PyData→Prop
  | nil:DatSs H [] []
  | cons {x:V} {d:PyData} {xs:List V} {ds:List PyData}:DatS H x d→DatSs H xs ds→DatSs H (x :: xs) (d :: ds)
end
end L2
namespace L2
open PySem
end L2
namespace L2
open PySem
abbrev r_mt_extend:RM:=rExtend
end L2
namespace L2
open PySem PySem.Spec PyProof.Rows
abbrev r_mt_clear:RM:=rClear
abbrev cSumL (K:PySem.W.Frag):RC:=fun xs H Q=>∃ a,∃ ns:List Int,xs=[.ref a]∧SqL K H a (ns.map V.int)∧Q (.int ns.sum) H
abbrev cMaxL (K:PySem.W.Frag):RC:=fun xs H Q=>∃ a,∃ ns:List Int,xs=[.ref a]∧SqL K H a (ns.map V.int)∧0 < ns.length∧∀ M,M∈ns→(∀ x∈ns,x≤M)→Q (.int M) H
section
variable {X:Cx}
end
end L2
namespace L2
open PySem PySem.Spec PyProof.Rows
abbrev cMax2:RC:=fun xs H Q=>∃ i j,xs=[.int i,.int j]∧Q (.int (if j > i then j else i)) H
abbrev rInA (K:PySem.W.Frag) (neg:Bool):R2:=fun x y H Q=>∃ (p:Addr) (xs:List V) (d:PyData) (ds:List PyData),y=.ref p∧(SqL K H p xs∨SqT K H p xs)∧Dat K H x d∧DatAll K H xs ds∧(plainD d=true∧d.depth≤50∧∀ e∈ds,plainD e=true) ∧
  ∀ b:Bool,(b=true↔d∈ds)→Q (.bl (if neg then !b else b)) H
section
variable {X:Cx}
open Classical in
noncomputable def hitD (K:PySem.W.Frag) (H:Hp) (d:PyData) (u:Value):Bool:=decide (∃ x,RelV x u∧Dat K H x d)
open Classical in
end
abbrev cSrtL (K:PySem.W.Frag):RC:=fun vs H Q=>∃ r xs its,vs=[.ref r]∧SqL K H r xs∧Paired (PrAt H) xs its∧(its.map (·.1)).Nodup∧its.length < 64 ∧
  ∀ l ys srt H',Same H H'→H l=none→H' l=some (.lst ys)→Paired (PrAt H') ys srt→Rising srt→srt.Perm its→Q (.ref l) H'
section
variable {X:Cx}
end
def Cb (i:Int):Prop:=Builtin.Int.intBits i≤1048576
section
variable {X:Cx}
end
open Att PySem.W PySem.Calls in
theorem walk_ofB {l:PySem.W.OpenLaw} {n k:Nat} {q:Program} {loose:List Str} {XP:(Str→Option Value)→Heap→Prop} {YP:World→Heap→Prop} {d:DefRec} {K:Params→PySem.W.Frag} {CX:World→CXT} {sp:World→Sp} {x:Str}
    (hn:l.most=some n) (hn2:n≤sizeLine) (hdf:d.params.defaults=[]) (hr:Room k callerA) (hY:∀ (w:World) (h:Heap),YP w h→(K w.params).In h)
    (F:∀ (w:World) (mg:Str→Option Value) (fa:Addr) (h:Heap),(K w.params).In h→h.Ns mainGlobals mg→mg d.name=some (.ref fa) →
      ∃ fd:FuncData,(∀ (s:Shared) (u:Value),BindsTo s fd ⟨[u],[]⟩ [(x,u)]) ∧
        ∀ base:Heap,(K w.params).In base→base.Ns mainGlobals mg→FnOk l.prog w (K w.params) mg base (CX w) k fa fd [x] (sp w))
    (hsp:∀ (w:World) (H:Hp) (a:Addr) (ns:List Int),ns.length≤n→(∀ i∈ns,Cb i)→Only H→SqL (K w.params) H a (ns.map V.int)→sp w [.ref a] H (fun v _=>v=.bl true) fun _ _ _=>False)
    (hCX:∀ (w:World) (H:Hp) (s:Shared) (e:Value) (s':Shared),CX w [] H s (fun _ _ _=>False) e s'→False) :
    PySem.W.WalkO q loose XP YP l.row.toRowW d [] (fun f vs=>PySem.call f vs):=by
  intro w s₀ s₁ mg mb G Y fa o pm cd doc dV kV ho hd hcd hD hmg hg args vals as hpre hlay hrd hwl hlo
  obtain rfl:dV=.none:=Dflts.none hD hdf
  obtain rfl:kV=.none:=Dflts.noKw hD
  obtain ⟨a,vs,ns,rfl,rfl,hobj,hints,hlen⟩:=script_of hn hpre hwl
  have hb:∀ i∈ns,Cb i:=fun i hi=>intBits_le_of_layable (layable_of_mem (lay0_int (layableW_item (layableW_arg hlay _ List.mem_cons_self) _ (List.mem_map.mpr ⟨i,hi,rfl⟩))) List.mem_cons_self)
  have KX:=hY w _ Y
  obtain ⟨fd,hbd,hF⟩:=F w mg fa _ KX G.T.g hmg
  refine enter_call (codeAny_mono (law_call KX G.T.g G.T.b G.T.builtins G.T.nolimit hg hobj hints (Nat.le_trans hlen hn2) hr hF hbd (fun H hO hS=>hsp w H a ns hlen hb hO hS) fun H e s'=>hCX w H s₁ e s') fun r s' hq=>?_)
  obtain ⟨rfl,h2,h3,h4⟩:=hq
  exact ⟨.inl ⟨.bool true,.bool true,[],rfl,fun _=>rfl,.bool true,post_true l _,fun _=>⟨List.Pairwise.nil,fun _ hm=>(nomatch hm)⟩⟩,h2,h3,h4⟩
theorem walk_ofXB {l:PySem.W.OpenLaw} {n k:Nat} {q:Program} {loose:List Str} {XP:(Str→Option Value)→Heap→Prop} {YP:World→Heap→Prop} {d:DefRec} {K:Params→PySem.W.Frag} {sp:PySem.W.Frag→Sp} {x:Str}
    (hn:l.most=some n) (hn2:n≤sizeLine) (hdf:d.params.defaults=[]) (hr:Room k callerA) (hY:∀ (w:World) (h:Heap),YP w h→(K w.params).In h)
    (F:∀ (w:World) (mg:Str→Option Value) (fa:Addr) (h:Heap),(K w.params).In h→h.Ns mainGlobals mg→mg d.name=some (.ref fa) →
      ∃ fd:FuncData,(∀ (s:Shared) (u:Value),BindsTo s fd ⟨[u],[]⟩ [(x,u)]) ∧
        ∀ base:Heap,(K w.params).In base→base.Ns mainGlobals mg→FnOk l.prog w (K w.params) mg base (CX1 l.prog w) k fa fd [x] (sp (K w.params)))
    (hsp:∀ (K:PySem.W.Frag) (H:Hp) (a:Addr) (ns:List Int),ns.length≤n→(∀ i∈ns,Cb i)→Only H→SqL K H a (ns.map V.int)→sp K [.ref a] H (fun v _=>v=.bl true) fun _ _ _=>False) :
    PySem.W.WalkO q loose XP YP l.row.toRowW d [] (fun f vs=>PySem.call f vs) :=
  walk_ofB (K:=K) (CX:=fun w=>CX1 l.prog w) (sp:=fun w=>sp (K w.params)) hn hn2 hdf hr hY F (fun w H a ns h1 hb h2 h3=>hsp (K w.params) H a ns h1 hb h2 h3) fun _ _ _ _ _ z=>by
    obtain ⟨_,_,_,_,_,_,_,_,_,y⟩:=z
    exact y
end L2
namespace L2
open PySem PySem.Spec PyProof.Rows
def Itk (a:Addr) (o:Obj) (kvs:List (Key × V)):It :=
  ⟨fun i H=>H a=some (.frz o (.dK kvs))∧i < kvs.length,fun i H x H'=>H'=H∧∃ k v,kvs[i]?=some (k,v)∧x=kV k,fun i H=>H a=some (.frz o (.dK kvs))∧kvs.length≤i⟩
section
variable {X:Cx}
def iDK (tl:TE):TI:=fun σ H R=>tl σ H fun x H1=>∃ a o kvs,x=.ref a∧H1 a=some (.frz o (.dK kvs))∧R (Itk a o kvs) H1
end
section
variable {σ:St} {H:Hp} {nx:St→Hp→Prop} {B:V→St→Hp→(St→Hp→Prop)→Prop}
end
end L2
namespace L2
open PySem PySem.Spec PyProof.Rows
def PcAt (H:Hp) (v:V) (q:Pl):Prop:=∃ p,v=.ref p∧H p=some (.tup [.str q.1,.int q.2])
abbrev cSrtP (K:PySem.W.Frag):RC:=fun vs H Q=>∃ r xs its,vs=[.ref r]∧SqL K H r xs∧Paired (PcAt H) xs its∧its.Nodup∧its.length < 64 ∧
  ∀ l ys srt H',Same H H'→H l=none→H' l=some (.lst ys)→Paired (PcAt H') ys srt→srt.Pairwise (fun a b=>placeLt a b=true)→srt.Perm its→Q (.ref l) H'
section
variable {X:Cx}
end
end L2
namespace L2
open PySem PySem.Spec PyProof.Rows
section
variable {K:Type} [DecidableEq K]
end
section
variable {prog:Program} {w:World} {K:Type} [DecidableEq K] {knd:HeapKind prog w K} {A:Around} {E:Value→Shared→Prop} {s:Shared} {d a:Addr} {xs:List (K × Addr × Value)} {k:K}
end
section
variable {X:Cx} {pins:List (Addr × Obj)} {σ:St} {H:Hp} {s:Shared} {a b:Addr} {kvs:List (List Key × V)} {k:List Key} {A:Around} {E:Value→Shared→Prop}
end
def tDPopT (td ty:TE):TE:=fun σ H Q=>td σ H fun x H1=>∃ a,x=.ref a∧IsD H1 a∧ty σ H1 fun y H2=>∃ kvs k b v,H2 a=some (.dT kvs)∧y=.ref b∧H2 b=some (.tup (k.map kV))∧valV kvs k=some v∧Q v (upd H2 a (.dT (dropK kvs k)))
def tDSetD (td ty tx:TE):TE:=fun σ H Q=>td σ H fun x H1=>∃ a,x=.ref a∧IsD H1 a∧ty σ H1 fun y H2=>tx σ H2 fun z H3=>∃ kvs k b,H3 a=some (.dT kvs)∧y=.ref b∧H3 b=some (.tup (k.map kV))∧kvs.length < sizeLine ∧
  (∀ v,valV kvs k=some v→Q v H3)∧(valV kvs k=none→Q z (upd H3 a (.dT (putK kvs k z))))
section
variable {X:Cx} {o e f:Expr} {apos cpos:Pos} {td ty tx:TE}
end
abbrev r_mt_insert:RM:=fun x vs H Q=>∃ (l:Addr) (xs:List V) (k:Nat) (y:V),x=.ref l∧vs=[.int k,y]∧H l=some (.lst xs)∧k≤xs.length∧xs.length < 1000000∧Q .non (upd H l (.lst (xs.take k ++ y :: xs.drop k)))
abbrev r_mt_remove:RM:=fun x vs H Q=>∃ (l:Addr) (ns:List Int) (i:Int),x=.ref l∧vs=[.int i]∧H l=some (.lst (ns.map V.int))∧i∈ns∧Q .non (upd H l (.lst ((ns.erase i).map V.int)))
section
variable {X:Cx}
end
def KyAt (H:Hp) (y:V) (kv:List Key × V):Prop:=∃ p,y=.ref p∧H p=some (.tup (kv.1.map kV))
abbrev cLstD:RC:=fun vs H Q=>∃ a kvs,vs=[.ref a]∧H a=some (.dT kvs)∧∀ l ys,H l=none→Paired (KyAt H) ys kvs→Q (.ref l) (upd H l (.lst ys))
abbrev cLenT:RC:=fun vs H Q=>∃ a kvs,vs=[.ref a]∧H a=some (.dT kvs)∧Q (.int (kvs.length:Nat)) H
section
variable {X:Cx}
end
end L2
namespace L2
open PySem PySem.Spec PyProof.Rows
section
variable {X:Cx} {c:Expr} {s₁ s₂:Stmt} {tc:TT} {t1 t2:EXK→TS} {pos:Pos}
end
section
variable {X:Cx} {e:Expr} {te:TE} {a b:Str} {j k:Nat} {p1 p2 p3 p4:Pos}
end
end L2
namespace L2
open PySem PySem.Spec PyProof.Rows
structure FunD (K:PySem.W.Frag) (x qual:Str) (st:Stmt) (f:Addr) (fd:FuncData):Prop where
  ex:∃ (oc:Value) (od:Option Addr) (dV kV doc pm:Value) (an:Option Addr) (cdv ct:Value) (osl:Array (Option Value)),fd=PySem.W.fnOf x qual (defArgs st) (defBody st) (defScope st) dV kV doc pm an cdv ct∧K.lookup f=some ⟨oc,od,.func fd,osl⟩∧PySem.W.codeIn K cdv qual=true
  kp:PySem.W.keepIn K (.ref f)=true
section
variable {P:Program} {w:World} {K:PySem.W.Frag} {mg:Str→Option Value} {base:Heap} {x qual:Str} {st:Stmt} {f:Addr} {fd:FuncData} {N ps:List Str} {k:Nat} {sp:Sp}
theorem FunD.ok1 (F:FunD K x qual st f fd) (S:FnScope N ps (defScope st)) (len:∀ vs H Q E,sp vs H Q E→vs.length=ps.length)
    (hbody:∀ (cdv:Value) (A:Around) (outer:List Env) (s:Shared) (H:Hp) (vs:List V) (Q:VK) (E:XK),Room k (A.deeper (envOfC qual (defScope st) s.heap.objs.size f cdv))→sp vs H Q E→∃ t,PSs (cxOf (CX1 P w) P w K mg base N qual (defScope st) f cdv A outer s H E) (defBody st) t∧t { nx:=fun _ H'=>Q .non H',rt:=Q } (start N vs) H):FnOk P w K mg base (CX1 P w) (k + 1) f fd ps sp:=by
  obtain ⟨oc,od,dV,kV,doc,pm,an,cdv,ct,osl,rfl,lk,hcd⟩:=F.ex
  exact fn_of lk hcd S len fun A outer s H vs Q E hr hsp=>hbody cdv A outer s H vs Q E hr hsp
theorem FunD.ok0 (F:FunD K x qual st f fd) (S:FnScope N ps (defScope st)) (len:∀ vs H Q E,sp vs H Q E→vs.length=ps.length)
    (hbody:∀ (cdv:Value) (A:Around) (outer:List Env) (s:Shared) (H:Hp) (vs:List V) (Q:VK) (E:XK),Room k (A.deeper (envOfC qual (defScope st) s.heap.objs.size f cdv))→sp vs H Q E→∃ t,PSs (cxOf (CX1 P w) P w K mg base N qual (defScope st) f cdv A outer s H E).nox (defBody st) t∧t { nx:=fun _ H'=>Q .non H',rt:=Q } (start N vs) H):FnOk P w K mg base (CX1 P w) (k + 1) f fd ps sp :=
  F.ok1 S len fun cdv A outer s H vs Q E hr h=>let ⟨t,a,b⟩:=hbody cdv A outer s H vs Q E hr h;⟨t,a.nox,b⟩
theorem fun_mkD {oc:Value} {od an:Option Addr} {osl:Array (Option Value)} {dV kV doc pm cdv ct:Value} (l:K.lookup f=some ⟨oc,od,.func (PySem.W.fnOf x qual (defArgs st) (defBody st) (defScope st) dV kV doc pm an cdv ct),osl⟩)
    (c:PySem.W.codeIn K cdv qual=true) (k:PySem.W.keepIn K (.ref f)=true):FunD K x qual st f (PySem.W.fnOf x qual (defArgs st) (defBody st) (defScope st) dV kV doc pm an cdv ct):=⟨⟨oc,od,dV,kV,doc,pm,an,cdv,ct,osl,rfl,l,c⟩,k⟩
end
section
variable {X:Cx} {o value:Expr} {f:Str} {pos pos':Pos} {ta:TE} {tx:EXK→TE}
def sFldX (K:PySem.W.Frag) (ta:TE) (tx:EXK→TE) (f:Str) (EX:EXK):TS:=sFld K ta (tx EX) f
theorem psx_fld (ha:PE X.nox o ta) (hv:PEX X value tx) (hs:swapsWith value (some (.Attribute o f pos')) pos.line X.env=pure false):PSX X (.Assign [.Attribute o f pos'] value pos) (sFldX X.K ta tx f):=by
  intro pins s σ H D EX I h
  refine plainObj_wpAny_Assign_Attribute (thn (hv pins s σ H _ EX I h) fun u s1 ⟨y,H1,I1,ry,q⟩=>wpAny_mono (ha pins s1 σ H1 _ (I1.wish _) q) (fun ov s2 ⟨x,H2,I2',rx,a,C,dx,fs,ex,ea,c,n,l,q2⟩=>?_) fun _ _ z=>False.elim z) hs
  subst ex
  obtain rfl:ov=Value.ref a:=rx
  exact setattr_ok I2'.unwish ea c n l ry fun s3 I3=>⟨σ,_,I3,q2⟩
end
def tTryT (K:PySem.W.Frag) (tb:EXK→TS) (C1 C2:Addr) (th:TS):TS:=fun D σ H=>tb (fun cls σ1 H1=>∃ C,cls=.ref C∧PySem.W.exmAny K (.ref C) [.ref C1,.ref C2]=some true∧th D σ1 H1) D σ H
theorem fly_push {base h:Heap} {l:List Env} {e:Addr} {cls a0:Value} (x:Heap.FlyingW base l e cls a0 h) (o:Obj):Heap.FlyingW base l e cls a0 (h.push o):=by
  obtain ⟨f1,f2,f3,oe,vs,T,oT,ts,a1,a2,a3,a4,a5,a6,a7,a8,a9⟩:=x
  exact ⟨fun b u q=>Heap.get?_push_of_some _ (f1 b u q),f2,f3.of_keeps (fun b u q _=>⟨u,Heap.get?_push_of_some _ q,rfl⟩),oe,vs,T,oT,ts,Heap.get?_push_of_some _ a1,a2,a3,a4,a5,a6,Heap.get?_push_of_some _ a7,a8,a9⟩
section
variable {X:Cx} {st b₀:Stmt} {suite:List Stmt} {tb:EXK→TS} {th:TS} {c1 c2:Str} {C1 C2:Addr} {np np2 hpos tpos pos:Pos} {x1:Nat}
theorem ps_tryT (hst:X.stack=X.env :: X.outer∧X.env.frame=some X.env.locals) (hex:X.ex=[]) (hb:PSX X st tb) (hg1:Gl X c1) (hm1:X.mg c1=some (.ref C1)) (hg2:Gl X c2) (hm2:X.mg c2=some (.ref C2))
    (hs:∀ e,PSs (X.sub e) (b₀ :: suite) th) (hdb1:(c1 == ("__debug__":Str))=false:=by decide) (hdb2:(c2 == ("__debug__":Str))=false:=by decide) :
    PS X (.Try [st] [.ExceptHandler (some (.Tuple [.Name c1 np,.Name c2 np2] x1 tpos)) none (b₀ :: suite) hpos] [] [] pos) (tTryT X.K tb C1 C2 th):=by
  intro pins s σ H D I h
  refine wpAny_Try_except (wpAny_execs_cons (wpAny_mono (hb pins s σ H D _ I h) (fun f s1 q=>?_) fun ev s1 q=>?_))
  · cases f with
    | next=>exact wpAny_execs_nil (wpAny_execs_nil q)
    | ret v=>exact q
    | brk=>exact q
    | cont=>exact q
  obtain ⟨e,cls,σ1,s0,H0,H1,rfl,I0,I1,xf,C,rfl,hx,hth⟩:=q
  obtain ⟨oe,vs,a0,T,oT,ts,h1,h2,h3,h4,h5,h6,h7,h8,h9,h10,h11,h12⟩:=xf
  have fr:s1.heap.FunFrames (PySem.W.hideAll s1.heap (frs X.stack ++ [e,T])) (X.env :: X.outer):=by
    have q:=PySem.W.funFrames_hide (as:=frs X.stack ++ [e,T]) I1.stack fun env he a ha=>List.mem_append_left _ (List.mem_filterMap.mpr ⟨env,he,ha⟩)
    rw [hst.1] at q ⊢
    exact q
  have two:∀ b∈[e,T],s0.heap.get? b=none∧H1 b=none:=fun b z=>by
    have z':b=e∨b=T:=by simpa using z
    rcases z' with rfl | rfl
    · exact ⟨h9,h11⟩
    · exact ⟨h10,h12⟩
  have hcs:∀ b∈[e,T],H1 b=none∧X.s₀.heap.get? b=none:=fun b z=>⟨(two b z).2,none_back (I0.there0 hex) (two b z).1⟩
  have hcp:∀ b∈[e,T],∀ p∈X.pn ++ pins,p.1≠b:=fun b z p hp q=>by
    have:=(I0.pin p hp).1
    rw [q,(two b z).1] at this;cases this
  refine wpAny_looks_onW (base:=PySem.W.hideAll s1.heap (frs X.stack ++ [e,T])) (a0:=a0) (cls:=.ref C) (by rw [I1.ok.frames,hst.1]) hst.2
    ⟨fun b o q=>PySem.W.of_hideAll _ q,PySem.W.hideAll_none _ (List.mem_append_right _ (by simp)),fr,oe,vs,T,oT,ts,h1,h2,h3,h4,PySem.W.hideAll_none _ (List.mem_append_right _ (by simp)),h5,h6,h7,h8⟩ fun g4 held4 sm4=>?_
  refine wpAny_landsW held4 fun g5 fly5 sm5=>?_
  have hB:∀ {g:Heap},(PySem.W.hideAll s1.heap (frs X.stack ++ [e,T])).StaysIn g→∀ b o,s1.heap.get? b=some o→b ∉ frs X.stack→b ∉ [e,T]→g.get? b=some o :=
    fun {g} k b o q n1 n2=>k b o (PySem.W.hideAll_get _ q fun z=>(List.mem_append.mp z).elim n1 n2)
  have I5:Inv X pins σ1 H1 { s1 with heap:=g5 }:=I1.land hex hcs hcp (hB fly5.1) (sm4.trans sm5)
  refine wpAny_handleBy_cons (codeAny_handlers_test ?_) (by intro q;cases q)
  refine wpAny_Tuple_spliced (Calls.spliced_cons (ld_glob (X:=X.sub e) (I5.toSub (e:=e)) hg1 hm1 (Calls.spliced_cons (ld_glob (X:=X.sub e) (I5.toSub (e:=e)) hg2 hm2 (Calls.spliced_nil ⟨(by show 2≤sizeLine;decide),?_⟩) hdb2)) hdb1))
  have fly6:=fly_push fly5 { cls:=.type "tuple",data:=.seq [Value.ref C1,Value.ref C2].toArray }
  have kp:∀ b o,g5.get? b=some o→(g5.push { cls:=.type "tuple",data:=.seq [Value.ref C1,Value.ref C2].toArray }).get? b=some o:=fun b o q=>Heap.get?_push_of_some _ q
  have hp:(g5.push { cls:=.type "tuple",data:=.seq [Value.ref C1,Value.ref C2].toArray }).get? g5.objs.size=some { cls:=.type "tuple",data:=.seq [Value.ref C1,Value.ref C2].toArray }:=Heap.get?_push_size _ rfl
  have K6:X.K.In (g5.push { cls:=.type "tuple",data:=.seq [Value.ref C1,Value.ref C2].toArray }):=(I5.kept (t':=s1.toks) kp).kIn
  have ty6:PySem.W.Looks (model X.prog X.w) (g5.push { cls:=.type "tuple",data:=.seq [Value.ref C1,Value.ref C2].toArray }) (typeOf (.ref e)) (.ref C):=by
    obtain ⟨o,p1,p2⟩:=fly6.there
    exact p2 ▸ (PySem.W.Looks.ld p1).andThen .now
  refine (PySem.W.exm_tup2 K6 ty6 hp hx).here ?_
  refine codeAny_handlers_suite (lands_againW fly6 fun g7 fly7 sm7=>?_)
  have I7:Inv X pins σ1 H1 { s1 with heap:=g7 }:=I1.land hex hcs hcp (hB fly7.1) (((sm4.trans sm5).trans (Heap.UpToSlots.of_keeps kp)).trans sm7)
  refine wpAny_mono (hs e pins _ σ1 H1 D I7.toSub hth) (fun f s9 q=>?_) fun _ _ z=>False.elim z
  cases f with
  | next=>obtain ⟨σ9,H9,J,z⟩:=q;exact ⟨σ9,H9,Inv.ofSub (J:=I) J,z⟩
  | brk=>obtain ⟨σ9,H9,J,z⟩:=q;exact ⟨σ9,H9,Inv.ofSub (J:=I) J,z⟩
  | cont=>obtain ⟨σ9,H9,J,z⟩:=q;exact ⟨σ9,H9,Inv.ofSub (J:=I) J,z⟩
  | ret u=>obtain ⟨v,σ9,H9,J,r,z⟩:=q;exact ⟨v,σ9,H9,Inv.ofSub (J:=I) J,r,z⟩
end
section
variable {X:Cx} {CX:CXT} {k:Nat} {f C:Addr} {fd:FuncData} {ps:List Str} {sp:Sp} {dvs:List V} {E:XK} {m:Str} {pos apos:Pos} {o:Expr} {ta:TE}
theorem pe_meth0D {pl:Sem Bool} (he:PE X o ta) (c:Cls X.K C) (hm:Meth X.K C m f) (F:FnOk X.prog X.w X.K X.mg X.base CX k f fd ps sp) (hr:Room k X.A) (hb:∃ ds,Vals dvs ds∧Binds X.K fd ps ds) (hx:Passes CX X E)
    (ht:eval (.Call (.Attribute o m apos) [] [] pos) X.env=(do
      let ov ← eval o X.env
      standAt apos.atName
      let (f,first) ← holding [ov] (getMethod ov m pl)
      callWith pos f first (backTo pos (starEach [] X.env)) (backToKw pos (keywordEach [] X.env))):=by rfl) :
    PE X (.Call (.Attribute o m apos) [] [] pos) (tMeth C m sp dvs E ta tNil):=by
  obtain ⟨ds,hd,hb⟩:=hb
  exact pe_meth0 he c hm F hr hb hd hx ht
end
end L2
namespace L2
open PySem PySem.Spec PyProof.Rows
abbrev rLtP:R2:=fun x y H Q=>∃ a b p r,x=.ref a∧y=.ref b∧H a=some (.tup [.str p.1,.int p.2])∧H b=some (.tup [.str r.1,.int r.2])∧Q (.bl (placeLt p r)) H
section
variable {X:Cx}
open PySem.SeqAt
open PySem.AutoSeq1 (wpAny_loadPart')
open PySem.MeetsSeq PySem.MeetsSeq2 PySem.MeetsSeq3
theorem op_ltP (hu0:X.A.units + 64 < cLine):OpR X (compareOp .Lt) rLtP:=by
  intro pins s σ H x y v u Q I rx ry h
  obtain ⟨a,b,p,r,rfl,rfl,ha,hb,q⟩:=h
  have hu:X.A.units < cLine:=by omega
  cases rx
  cases ry
  obtain ⟨p1,o,t,u,n,e1,ho,hc,hd⟩:=place_at I ha
  obtain ⟨p2,o2,t2,u2,n2,e2,ho2,hc2,hd2⟩:=place_at I hb
  cases e1
  cases e2
  obtain ⟨c,dd,dat,sl⟩:=o
  obtain ⟨c2,dd2,dat2,sl2⟩:=o2
  simp only at hc hd hc2 hd2
  subst hc hd hc2 hd2
  have T1:s.TypeIs (.ref a) "tuple":=⟨_,ho,rfl⟩
  have T2:s.TypeIs (.ref b) "tuple":=⟨_,ho2,rfl⟩
  show wpAny _ _ (richCompare .Lt (.ref a) (.ref b)) _ _ _
  refine wpAny_richCompare_same_room T1 T2 PySem.F.slot_tuple_lt ?_ hu
  exact call_meets PySem.F.slot_tuple_lt T1 PySem.F.entry_tuple_lt (PySem.F.args_tuple_lt_2 _ _) (tuple_lt_place a b p.1 r.1 p.2 r.2 t u t2 u2 n n2 dd dd2 sl sl2) ⟨ho,ho2,by simp,⟨.bl _,H,I,rfl,q⟩⟩
end
end L2
namespace K27
open PySem L2
def top (i:Nat):Stmt:=PySem.Challenge.pw_forerun_k27_answered_alike.main.body.getD i (.Pass ⟨0,0,0,0⟩)
abbrev s__law_draw:Stmt:=top 20
abbrev s__law_names:Stmt:=top 21
abbrev s__law_cell_at:Stmt:=top 19
abbrev s_block_steps:Stmt:=top 16
abbrev s_steps_of:Stmt:=top 15
abbrev s_code_of:Stmt:=top 17
abbrev s__law_worth:Stmt:=top 22
abbrev s__law_term:Stmt:=top 23
abbrev s__law_row:Stmt:=top 24
abbrev s__law_rows:Stmt:=top 25
abbrev s_Run_over:Stmt:=inClass (top 13) 1
abbrev s_Run_taken:Stmt:=inClass (top 13) 9
abbrev s_divided:Stmt:=top 8
abbrev s_come_to:Stmt:=top 9
abbrev s_is_worth:Stmt:=top 5
abbrev s_joined:Stmt:=top 10
abbrev s_reckoned:Stmt:=top 11
abbrev s_Run_worth_of:Stmt:=inClass (top 13) 5
abbrev s_Run_place_in:Stmt:=inClass (top 13) 6
abbrev s_Run_does:Stmt:=inClass (top 13) 8
abbrev s_Run_led_by:Stmt:=inClass (top 13) 7
abbrev s_Run_step:Stmt:=inClass (top 13) 3
abbrev s__law_leads_on:Stmt:=top 26
abbrev s_Run_init:Stmt:=inClass (top 13) 0
abbrev s_Run_asks:Stmt:=inClass (top 13) 2
abbrev s__law_stepped:Stmt:=top 27
abbrev s_Run_paper:Stmt:=inClass (top 13) 4
abbrev s__law_outcome:Stmt:=top 30
abbrev s__law_rows_of:Stmt:=top 29
abbrev s__law_paper:Stmt:=top 31
abbrev s__law_again:Stmt:=top 28
abbrev s__law_two:Stmt:=top 32
abbrev s_law:Stmt:=top 33
theorem sc__law_draw:FnScope ["cell","j","far"] ["cell","j"] (defScope s__law_draw):=⟨rfl,rfl,rfl,by decide +kernel,rfl,by decide +kernel,by decide +kernel⟩
theorem sc__law_names:FnScope ["cell","many","size","signs","stem","k","at","turn"] ["cell","many"] (defScope s__law_names):=⟨rfl,rfl,rfl,by decide +kernel,rfl,by decide +kernel,by decide +kernel⟩
theorem sc__law_cell_at:FnScope ["script","k"] ["script","k"] (defScope s__law_cell_at):=⟨rfl,rfl,rfl,by decide +kernel,rfl,by decide +kernel,by decide +kernel⟩
theorem sc_block_steps:FnScope ["row","at","steps","to","others"] ["row","at"] (defScope s_block_steps):=⟨rfl,rfl,rfl,by decide +kernel,rfl,by decide +kernel,by decide +kernel⟩
theorem sc_steps_of:FnScope ["rows","first","steps","row"] ["rows","first"] (defScope s_steps_of):=⟨rfl,rfl,rfl,by decide +kernel,rfl,by decide +kernel,by decide +kernel⟩
theorem sc_code_of:FnScope ["rows"] ["rows"] (defScope s_code_of):=⟨rfl,rfl,rfl,by decide +kernel,rfl,by decide +kernel,by decide +kernel⟩
theorem sc__law_worth:FnScope ["cell","j"] ["cell","j"] (defScope s__law_worth):=⟨rfl,rfl,rfl,by decide +kernel,rfl,by decide +kernel,by decide +kernel⟩
theorem sc__law_term:FnScope ["cell","j","slots","one","words"] ["cell","j","slots"] (defScope s__law_term):=⟨rfl,rfl,rfl,by decide +kernel,rfl,by decide +kernel,by decide +kernel⟩
theorem sc__law_row:FnScope ["cell","j","slots","shelves","kind","shelf","slot","spot"] ["cell","j","slots","shelves"] (defScope s__law_row):=⟨rfl,rfl,rfl,by decide +kernel,rfl,by decide +kernel,by decide +kernel⟩
theorem sc__law_rows:FnScope ["cells","slots","shelves","rows","cell","row","others"] ["cells","slots","shelves"] (defScope s__law_rows):=⟨rfl,rfl,rfl,by decide +kernel,rfl,by decide +kernel,by decide +kernel⟩
theorem sc_Run_over:FnScope ["self"] ["self"] (defScope s_Run_over):=⟨rfl,rfl,rfl,by decide +kernel,rfl,by decide +kernel,by decide +kernel⟩
theorem sc_Run_taken:FnScope ["self","place","worth"] ["self","place","worth"] (defScope s_Run_taken):=⟨rfl,rfl,rfl,by decide +kernel,rfl,by decide +kernel,by decide +kernel⟩
theorem sc_divided:FnScope ["word","first","second"] ["word","first","second"] (defScope s_divided):=⟨rfl,rfl,rfl,by decide +kernel,rfl,by decide +kernel,by decide +kernel⟩
theorem sc_come_to:FnScope ["word","first","second"] ["word","first","second"] (defScope s_come_to):=⟨rfl,rfl,rfl,by decide +kernel,rfl,by decide +kernel,by decide +kernel⟩
theorem sc_is_worth:FnScope ["thing"] ["thing"] (defScope s_is_worth):=⟨rfl,rfl,rfl,by decide +kernel,rfl,by decide +kernel,by decide +kernel⟩
theorem sc_joined:FnScope ["word","first","second","worth"] ["word","first","second"] (defScope s_joined):=⟨rfl,rfl,rfl,by decide +kernel,rfl,by decide +kernel,by decide +kernel⟩
theorem sc_reckoned:FnScope ["term","slots","worths","part","second","first"] ["term","slots"] (defScope s_reckoned):=⟨rfl,rfl,rfl,by decide +kernel,rfl,by decide +kernel,by decide +kernel⟩
theorem sc_Run_worth_of:FnScope ["self","term"] ["self","term"] (defScope s_Run_worth_of):=⟨rfl,rfl,rfl,by decide +kernel,rfl,by decide +kernel,by decide +kernel⟩
theorem sc_Run_place_in:FnScope ["self","due"] ["self","due"] (defScope s_Run_place_in):=⟨rfl,rfl,rfl,by decide +kernel,rfl,by decide +kernel,by decide +kernel⟩
theorem sc_Run_does:FnScope ["self","due","worth","place"] ["self","due","worth"] (defScope s_Run_does):=⟨rfl,rfl,rfl,by decide +kernel,rfl,by decide +kernel,by decide +kernel⟩
theorem sc_Run_led_by:FnScope ["self","due","worth"] ["self","due","worth"] (defScope s_Run_led_by):=⟨rfl,rfl,rfl,by decide +kernel,rfl,by decide +kernel,by decide +kernel⟩
theorem sc_Run_step:FnScope ["self","worth"] ["self","worth"] (defScope s_Run_step):=⟨rfl,rfl,rfl,by decide +kernel,rfl,by decide +kernel,by decide +kernel⟩
theorem sc__law_leads_on:FnScope ["code","k","far"] ["code"] (defScope s__law_leads_on):=⟨rfl,rfl,rfl,by decide +kernel,rfl,by decide +kernel,by decide +kernel⟩
theorem sc_Run_init:FnScope ["self","code"] ["self","code"] (defScope s_Run_init):=⟨rfl,rfl,rfl,by decide +kernel,rfl,by decide +kernel,by decide +kernel⟩
theorem sc_Run_asks:FnScope ["self","place"] ["self"] (defScope s_Run_asks):=⟨rfl,rfl,rfl,by decide +kernel,rfl,by decide +kernel,by decide +kernel⟩
theorem sc__law_stepped:FnScope ["run","cell","made"] ["run","cell","made"] (defScope s__law_stepped):=⟨rfl,rfl,rfl,by decide +kernel,rfl,by decide +kernel,by decide +kernel⟩
theorem sc_Run_paper:FnScope ["self","notes"] ["self"] (defScope s_Run_paper):=⟨rfl,rfl,rfl,by decide +kernel,rfl,by decide +kernel,by decide +kernel⟩
theorem sc__law_outcome:FnScope ["found","gifts"] ["found","gifts"] (defScope s__law_outcome):=⟨rfl,rfl,rfl,by decide +kernel,rfl,by decide +kernel,by decide +kernel⟩
theorem sc__law_rows_of:FnScope ["found","row"] ["found"] (defScope s__law_rows_of):=⟨rfl,rfl,rfl,by decide +kernel,rfl,by decide +kernel,by decide +kernel⟩
theorem sc__law_paper:FnScope ["paper","k"] ["paper"] (defScope s__law_paper):=⟨rfl,rfl,rfl,by decide +kernel,rfl,by decide +kernel,by decide +kernel⟩
theorem sc__law_again:FnScope ["code","made","run","k"] ["code","made"] (defScope s__law_again):=⟨rfl,rfl,rfl,by decide +kernel,rfl,by decide +kernel,by decide +kernel⟩
theorem sc__law_two:FnScope ["code","cells","handed","runs","made","turn","cell","which","k","paper"] ["code","cells"] (defScope s__law_two):=⟨rfl,rfl,rfl,by decide +kernel,rfl,by decide +kernel,by decide +kernel⟩
theorem sc_law:FnScope ["script","slots","shelves","many","cells","at","part","code"] ["script"] (defScope s_law):=⟨rfl,rfl,rfl,by decide +kernel,rfl,by decide +kernel,by decide +kernel⟩
set_option genSizeOf false in
set_option genInjectivity false in
structure Adr where
  a__law_draw:Addr
  d__law_draw:FuncData
  a__law_names:Addr
  d__law_names:FuncData
  a__law_cell_at:Addr
  d__law_cell_at:FuncData
  a_block_steps:Addr
  d_block_steps:FuncData
  a_steps_of:Addr
  d_steps_of:FuncData
  a_code_of:Addr
  d_code_of:FuncData
  a__law_worth:Addr
  d__law_worth:FuncData
  a__law_term:Addr
  d__law_term:FuncData
  a__law_row:Addr
  d__law_row:FuncData
  a__law_rows:Addr
  d__law_rows:FuncData
  a_Run_over:Addr
  d_Run_over:FuncData
  a_Run_taken:Addr
  d_Run_taken:FuncData
  a_divided:Addr
  d_divided:FuncData
  a_come_to:Addr
  d_come_to:FuncData
  a_is_worth:Addr
  d_is_worth:FuncData
  a_joined:Addr
  d_joined:FuncData
  a_reckoned:Addr
  d_reckoned:FuncData
  a_Run_worth_of:Addr
  d_Run_worth_of:FuncData
  a_Run_place_in:Addr
  d_Run_place_in:FuncData
  a_Run_does:Addr
  d_Run_does:FuncData
  a_Run_led_by:Addr
  d_Run_led_by:FuncData
  a_Run_step:Addr
  d_Run_step:FuncData
  a__law_leads_on:Addr
  d__law_leads_on:FuncData
  a_Run_init:Addr
  d_Run_init:FuncData
  a_Run_asks:Addr
  d_Run_asks:FuncData
  a__law_stepped:Addr
  d__law_stepped:FuncData
  a_Run_paper:Addr
  d_Run_paper:FuncData
  a__law_outcome:Addr
  d__law_outcome:FuncData
  a__law_rows_of:Addr
  d__law_rows_of:FuncData
  a__law_paper:Addr
  d__law_paper:FuncData
  a__law_again:Addr
  d__law_again:FuncData
  a__law_two:Addr
  d__law_two:FuncData
  a_law:Addr
  d_law:FuncData
  c_JOINING:Addr
  c_Great:Addr
  c_Nought:Addr
  c_Run:Addr
structure Txt (K:PySem.W.Frag) (mg:Str→Option Value) (t:Adr):Prop where
  f__law_draw:Fun K "_law_draw" "_law_draw" s__law_draw t.a__law_draw t.d__law_draw
  b__law_draw:Binds K t.d__law_draw ["cell","j"] []
  m__law_draw:mg "_law_draw"=some (.ref t.a__law_draw)
  f__law_names:Fun K "_law_names" "_law_names" s__law_names t.a__law_names t.d__law_names
  b__law_names:Binds K t.d__law_names ["cell","many"] []
  m__law_names:mg "_law_names"=some (.ref t.a__law_names)
  f__law_cell_at:Fun K "_law_cell_at" "_law_cell_at" s__law_cell_at t.a__law_cell_at t.d__law_cell_at
  b__law_cell_at:Binds K t.d__law_cell_at ["script","k"] []
  m__law_cell_at:mg "_law_cell_at"=some (.ref t.a__law_cell_at)
  f_block_steps:Fun K "block_steps" "block_steps" s_block_steps t.a_block_steps t.d_block_steps
  b_block_steps:Binds K t.d_block_steps ["row","at"] []
  m_block_steps:mg "block_steps"=some (.ref t.a_block_steps)
  f_steps_of:Fun K "steps_of" "steps_of" s_steps_of t.a_steps_of t.d_steps_of
  b_steps_of:Binds K t.d_steps_of ["rows","first"] []
  m_steps_of:mg "steps_of"=some (.ref t.a_steps_of)
  f_code_of:Fun K "code_of" "code_of" s_code_of t.a_code_of t.d_code_of
  b_code_of:Binds K t.d_code_of ["rows"] []
  m_code_of:mg "code_of"=some (.ref t.a_code_of)
  f__law_worth:Fun K "_law_worth" "_law_worth" s__law_worth t.a__law_worth t.d__law_worth
  b__law_worth:Binds K t.d__law_worth ["cell","j"] []
  m__law_worth:mg "_law_worth"=some (.ref t.a__law_worth)
  f__law_term:Fun K "_law_term" "_law_term" s__law_term t.a__law_term t.d__law_term
  b__law_term:Binds K t.d__law_term ["cell","j","slots"] []
  m__law_term:mg "_law_term"=some (.ref t.a__law_term)
  f__law_row:Fun K "_law_row" "_law_row" s__law_row t.a__law_row t.d__law_row
  b__law_row:Binds K t.d__law_row ["cell","j","slots","shelves"] []
  m__law_row:mg "_law_row"=some (.ref t.a__law_row)
  f__law_rows:Fun K "_law_rows" "_law_rows" s__law_rows t.a__law_rows t.d__law_rows
  b__law_rows:Binds K t.d__law_rows ["cells","slots","shelves"] []
  m__law_rows:mg "_law_rows"=some (.ref t.a__law_rows)
  f_Run_over:Fun K "over" "Run.over" s_Run_over t.a_Run_over t.d_Run_over
  b_Run_over:Binds K t.d_Run_over ["self"] []
  me_Run_over:Meth K t.c_Run "over" t.a_Run_over
  f_Run_taken:Fun K "taken" "Run.taken" s_Run_taken t.a_Run_taken t.d_Run_taken
  b_Run_taken:Binds K t.d_Run_taken ["self","place","worth"] []
  me_Run_taken:Meth K t.c_Run "taken" t.a_Run_taken
  f_divided:Fun K "divided" "divided" s_divided t.a_divided t.d_divided
  b_divided:Binds K t.d_divided ["word","first","second"] []
  m_divided:mg "divided"=some (.ref t.a_divided)
  f_come_to:Fun K "come_to" "come_to" s_come_to t.a_come_to t.d_come_to
  b_come_to:Binds K t.d_come_to ["word","first","second"] []
  m_come_to:mg "come_to"=some (.ref t.a_come_to)
  f_is_worth:Fun K "is_worth" "is_worth" s_is_worth t.a_is_worth t.d_is_worth
  b_is_worth:Binds K t.d_is_worth ["thing"] []
  m_is_worth:mg "is_worth"=some (.ref t.a_is_worth)
  f_joined:Fun K "joined" "joined" s_joined t.a_joined t.d_joined
  b_joined:Binds K t.d_joined ["word","first","second"] []
  m_joined:mg "joined"=some (.ref t.a_joined)
  f_reckoned:Fun K "reckoned" "reckoned" s_reckoned t.a_reckoned t.d_reckoned
  b_reckoned:Binds K t.d_reckoned ["term","slots"] []
  m_reckoned:mg "reckoned"=some (.ref t.a_reckoned)
  f_Run_worth_of:Fun K "worth_of" "Run.worth_of" s_Run_worth_of t.a_Run_worth_of t.d_Run_worth_of
  b_Run_worth_of:Binds K t.d_Run_worth_of ["self","term"] []
  me_Run_worth_of:Meth K t.c_Run "worth_of" t.a_Run_worth_of
  f_Run_place_in:Fun K "place_in" "Run.place_in" s_Run_place_in t.a_Run_place_in t.d_Run_place_in
  b_Run_place_in:Binds K t.d_Run_place_in ["self","due"] []
  me_Run_place_in:Meth K t.c_Run "place_in" t.a_Run_place_in
  f_Run_does:Fun K "does" "Run.does" s_Run_does t.a_Run_does t.d_Run_does
  b_Run_does:Binds K t.d_Run_does ["self","due","worth"] []
  me_Run_does:Meth K t.c_Run "does" t.a_Run_does
  f_Run_led_by:Fun K "led_by" "Run.led_by" s_Run_led_by t.a_Run_led_by t.d_Run_led_by
  b_Run_led_by:Binds K t.d_Run_led_by ["self","due","worth"] []
  me_Run_led_by:Meth K t.c_Run "led_by" t.a_Run_led_by
  f_Run_step:FunD K "step" "Run.step" s_Run_step t.a_Run_step t.d_Run_step
  b_Run_step:Binds K t.d_Run_step ["self","worth"] []
  bd_Run_step:∃ ds,Vals [.int 0] ds∧Binds K t.d_Run_step ["self","worth"] ds
  me_Run_step:Meth K t.c_Run "step" t.a_Run_step
  f__law_leads_on:Fun K "_law_leads_on" "_law_leads_on" s__law_leads_on t.a__law_leads_on t.d__law_leads_on
  b__law_leads_on:Binds K t.d__law_leads_on ["code"] []
  m__law_leads_on:mg "_law_leads_on"=some (.ref t.a__law_leads_on)
  f_Run_init:Fun K "__init__" "Run.__init__" s_Run_init t.a_Run_init t.d_Run_init
  b_Run_init:Binds K t.d_Run_init ["self","code"] []
  f_Run_asks:Fun K "asks" "Run.asks" s_Run_asks t.a_Run_asks t.d_Run_asks
  b_Run_asks:Binds K t.d_Run_asks ["self"] []
  me_Run_asks:Meth K t.c_Run "asks" t.a_Run_asks
  f__law_stepped:Fun K "_law_stepped" "_law_stepped" s__law_stepped t.a__law_stepped t.d__law_stepped
  b__law_stepped:Binds K t.d__law_stepped ["run","cell","made"] []
  m__law_stepped:mg "_law_stepped"=some (.ref t.a__law_stepped)
  f_Run_paper:Fun K "paper" "Run.paper" s_Run_paper t.a_Run_paper t.d_Run_paper
  b_Run_paper:Binds K t.d_Run_paper ["self"] []
  me_Run_paper:Meth K t.c_Run "paper" t.a_Run_paper
  f__law_outcome:Fun K "_law_outcome" "_law_outcome" s__law_outcome t.a__law_outcome t.d__law_outcome
  b__law_outcome:Binds K t.d__law_outcome ["found","gifts"] []
  m__law_outcome:mg "_law_outcome"=some (.ref t.a__law_outcome)
  f__law_rows_of:Fun K "_law_rows_of" "_law_rows_of" s__law_rows_of t.a__law_rows_of t.d__law_rows_of
  b__law_rows_of:Binds K t.d__law_rows_of ["found"] []
  m__law_rows_of:mg "_law_rows_of"=some (.ref t.a__law_rows_of)
  f__law_paper:Fun K "_law_paper" "_law_paper" s__law_paper t.a__law_paper t.d__law_paper
  b__law_paper:Binds K t.d__law_paper ["paper"] []
  m__law_paper:mg "_law_paper"=some (.ref t.a__law_paper)
  f__law_again:Fun K "_law_again" "_law_again" s__law_again t.a__law_again t.d__law_again
  b__law_again:Binds K t.d__law_again ["code","made"] []
  m__law_again:mg "_law_again"=some (.ref t.a__law_again)
  f__law_two:Fun K "_law_two" "_law_two" s__law_two t.a__law_two t.d__law_two
  b__law_two:Binds K t.d__law_two ["code","cells"] []
  m__law_two:mg "_law_two"=some (.ref t.a__law_two)
  f_law:Fun K "law" "law" s_law t.a_law t.d_law
  b_law:Binds K t.d_law ["script"] []
  m_law:mg "law"=some (.ref t.a_law)
  w_law:∀ (s:Shared) (v:Value),BindsTo s t.d_law ⟨[v],[]⟩ [("script",v)]
  b_bool:mg "bool"=none
  b_int:mg "int"=none
  b_isinstance:mg "isinstance"=none
  b_len:mg "len"=none
  b_list:mg "list"=none
  b_range:mg "range"=none
  b_sorted:mg "sorted"=none
  b_str:mg "str"=none
  b_tuple:mg "tuple"=none
  g_JOINING:mg "JOINING"=some (.ref t.c_JOINING)
  v_JOINING:∀ H:Hp,SqT K H t.c_JOINING [.str "plus",.str "minus",.str "times",.str "over",.str "rest",.str "under",.str "same"]
  g_Great:mg "Great"=some (.ref t.c_Great)
  g_Nought:mg "Nought"=some (.ref t.c_Nought)
  g_Run:mg "Run"=some (.ref t.c_Run)
  cl_Run:Cls K t.c_Run
  mk_Run:Mk K t.c_Run t.a_Run_init
  na_Run_at:NoAttr K t.c_Run "at"
  na_Run_code:NoAttr K t.c_Run "code"
  na_Run_gifts:NoAttr K t.c_Run "gifts"
  na_Run_notes:NoAttr K t.c_Run "notes"
  na_Run_sayings:NoAttr K t.c_Run "sayings"
  na_Run_slots:NoAttr K t.c_Run "slots"
  na_Run_why:NoAttr K t.c_Run "why"
  x_Nought:PySem.W.excIn K t.c_Nought bmVal newVal=true
  y_Nought:ExK K t.c_Nought
  e_Nought_Great:PySem.W.exmOne K (.ref t.c_Nought) (.ref t.c_Great)=some false
  e_Nought_Nought:PySem.W.exmOne K (.ref t.c_Nought) (.ref t.c_Nought)=some true
  m_Nought_Great_Nought:PySem.W.exmAny K (.ref t.c_Nought) [.ref t.c_Great,.ref t.c_Nought]=some true
  x_Great:PySem.W.excIn K t.c_Great bmVal newVal=true
  y_Great:ExK K t.c_Great
  e_Great_Great:PySem.W.exmOne K (.ref t.c_Great) (.ref t.c_Great)=some true
  e_Great_Nought:PySem.W.exmOne K (.ref t.c_Great) (.ref t.c_Nought)=some false
  m_Great_Great_Nought:PySem.W.exmAny K (.ref t.c_Great) [.ref t.c_Great,.ref t.c_Nought]=some true
theorem txt_mk {K:PySem.W.Frag} {h:Heap} {mg:Str→Option Value} (X:K.In h) (G:h.Ns mainGlobals mg)
    {f0:Addr} {od0 an0:Option Addr} {sl0:Array (Option Value)} {oc0 kV0 dc0 pm0 cd0 ct0:Value}
    {f1:Addr} {od1 an1:Option Addr} {sl1:Array (Option Value)} {oc1 kV1 dc1 pm1 cd1 ct1:Value}
    {f2:Addr} {od2 an2:Option Addr} {sl2:Array (Option Value)} {oc2 kV2 dc2 pm2 cd2 ct2:Value}
    {f3:Addr} {od3 an3:Option Addr} {sl3:Array (Option Value)} {oc3 kV3 dc3 pm3 cd3 ct3:Value}
    {f4:Addr} {od4 an4:Option Addr} {sl4:Array (Option Value)} {oc4 kV4 dc4 pm4 cd4 ct4:Value}
    {f5:Addr} {od5 an5:Option Addr} {sl5:Array (Option Value)} {oc5 kV5 dc5 pm5 cd5 ct5:Value}
    {f6:Addr} {od6 an6:Option Addr} {sl6:Array (Option Value)} {oc6 kV6 dc6 pm6 cd6 ct6:Value}
    {f7:Addr} {od7 an7:Option Addr} {sl7:Array (Option Value)} {oc7 kV7 dc7 pm7 cd7 ct7:Value}
    {f8:Addr} {od8 an8:Option Addr} {sl8:Array (Option Value)} {oc8 kV8 dc8 pm8 cd8 ct8:Value}
    {f9:Addr} {od9 an9:Option Addr} {sl9:Array (Option Value)} {oc9 kV9 dc9 pm9 cd9 ct9:Value}
    {f10:Addr} {od10 an10:Option Addr} {sl10:Array (Option Value)} {oc10 kV10 dc10 pm10 cd10 ct10:Value}
    {f11:Addr} {od11 an11:Option Addr} {sl11:Array (Option Value)} {oc11 kV11 dc11 pm11 cd11 ct11:Value}
    {f12:Addr} {od12 an12:Option Addr} {sl12:Array (Option Value)} {oc12 kV12 dc12 pm12 cd12 ct12:Value}
    {f13:Addr} {od13 an13:Option Addr} {sl13:Array (Option Value)} {oc13 kV13 dc13 pm13 cd13 ct13:Value}
    {f14:Addr} {od14 an14:Option Addr} {sl14:Array (Option Value)} {oc14 kV14 dc14 pm14 cd14 ct14:Value}
    {f15:Addr} {od15 an15:Option Addr} {sl15:Array (Option Value)} {oc15 kV15 dc15 pm15 cd15 ct15:Value}
    {f16:Addr} {od16 an16:Option Addr} {sl16:Array (Option Value)} {oc16 kV16 dc16 pm16 cd16 ct16:Value}
    {f17:Addr} {od17 an17:Option Addr} {sl17:Array (Option Value)} {oc17 kV17 dc17 pm17 cd17 ct17:Value}
    {f18:Addr} {od18 an18:Option Addr} {sl18:Array (Option Value)} {oc18 kV18 dc18 pm18 cd18 ct18:Value}
    {f19:Addr} {od19 an19:Option Addr} {sl19:Array (Option Value)} {oc19 kV19 dc19 pm19 cd19 ct19:Value}
    {f20:Addr} {od20 an20:Option Addr} {sl20:Array (Option Value)} {oc20 kV20 dc20 pm20 cd20 ct20:Value}
    {f21:Addr} {od21 an21:Option Addr} {sl21:Array (Option Value)} {oc21 kV21 dc21 pm21 cd21 ct21:Value} {dA21:Addr} {dn21:Nat} {dt21_0:Tok}
    {f22:Addr} {od22 an22:Option Addr} {sl22:Array (Option Value)} {oc22 kV22 dc22 pm22 cd22 ct22:Value}
    {f23:Addr} {od23 an23:Option Addr} {sl23:Array (Option Value)} {oc23 kV23 dc23 pm23 cd23 ct23:Value}
    {f24:Addr} {od24 an24:Option Addr} {sl24:Array (Option Value)} {oc24 kV24 dc24 pm24 cd24 ct24:Value}
    {f25:Addr} {od25 an25:Option Addr} {sl25:Array (Option Value)} {oc25 kV25 dc25 pm25 cd25 ct25:Value}
    {f26:Addr} {od26 an26:Option Addr} {sl26:Array (Option Value)} {oc26 kV26 dc26 pm26 cd26 ct26:Value}
    {f27:Addr} {od27 an27:Option Addr} {sl27:Array (Option Value)} {oc27 kV27 dc27 pm27 cd27 ct27:Value}
    {f28:Addr} {od28 an28:Option Addr} {sl28:Array (Option Value)} {oc28 kV28 dc28 pm28 cd28 ct28:Value}
    {f29:Addr} {od29 an29:Option Addr} {sl29:Array (Option Value)} {oc29 kV29 dc29 pm29 cd29 ct29:Value}
    {f30:Addr} {od30 an30:Option Addr} {sl30:Array (Option Value)} {oc30 kV30 dc30 pm30 cd30 ct30:Value}
    {f31:Addr} {od31 an31:Option Addr} {sl31:Array (Option Value)} {oc31 kV31 dc31 pm31 cd31 ct31:Value}
    {f32:Addr} {od32 an32:Option Addr} {sl32:Array (Option Value)} {oc32 kV32 dc32 pm32 cd32 ct32:Value}
    {ga0:Addr} {gn0:Nat} {gt0_0:Tok} {gt0_1:Tok} {gt0_2:Tok} {gt0_3:Tok} {gt0_4:Tok} {gt0_5:Tok} {gt0_6:Tok}
    {ca0:Addr}
    {ca1:Addr}
    {ca2:Addr}
    {cl0:ClassData}
    {cl1:ClassData}
    (qa0:PySem.W.nsIn K mainGlobals "_law_draw"=some (some (.ref f0))) (ql0:K.lookup f0=some ⟨oc0,od0,.func (PySem.W.fnOf "_law_draw" "_law_draw" (defArgs s__law_draw) (defBody s__law_draw) (defScope s__law_draw) .none kV0 dc0 pm0 an0 cd0 ct0),sl0⟩) (qc0:PySem.W.codeIn K cd0 "_law_draw"=true) (qk0:PySem.W.keepIn K (.ref f0)=true)
    (qa1:PySem.W.nsIn K mainGlobals "_law_names"=some (some (.ref f1))) (ql1:K.lookup f1=some ⟨oc1,od1,.func (PySem.W.fnOf "_law_names" "_law_names" (defArgs s__law_names) (defBody s__law_names) (defScope s__law_names) .none kV1 dc1 pm1 an1 cd1 ct1),sl1⟩) (qc1:PySem.W.codeIn K cd1 "_law_names"=true) (qk1:PySem.W.keepIn K (.ref f1)=true)
    (qa2:PySem.W.nsIn K mainGlobals "_law_cell_at"=some (some (.ref f2))) (ql2:K.lookup f2=some ⟨oc2,od2,.func (PySem.W.fnOf "_law_cell_at" "_law_cell_at" (defArgs s__law_cell_at) (defBody s__law_cell_at) (defScope s__law_cell_at) .none kV2 dc2 pm2 an2 cd2 ct2),sl2⟩) (qc2:PySem.W.codeIn K cd2 "_law_cell_at"=true) (qk2:PySem.W.keepIn K (.ref f2)=true)
    (qa3:PySem.W.nsIn K mainGlobals "block_steps"=some (some (.ref f3))) (ql3:K.lookup f3=some ⟨oc3,od3,.func (PySem.W.fnOf "block_steps" "block_steps" (defArgs s_block_steps) (defBody s_block_steps) (defScope s_block_steps) .none kV3 dc3 pm3 an3 cd3 ct3),sl3⟩) (qc3:PySem.W.codeIn K cd3 "block_steps"=true) (qk3:PySem.W.keepIn K (.ref f3)=true)
    (qa4:PySem.W.nsIn K mainGlobals "steps_of"=some (some (.ref f4))) (ql4:K.lookup f4=some ⟨oc4,od4,.func (PySem.W.fnOf "steps_of" "steps_of" (defArgs s_steps_of) (defBody s_steps_of) (defScope s_steps_of) .none kV4 dc4 pm4 an4 cd4 ct4),sl4⟩) (qc4:PySem.W.codeIn K cd4 "steps_of"=true) (qk4:PySem.W.keepIn K (.ref f4)=true)
    (qa5:PySem.W.nsIn K mainGlobals "code_of"=some (some (.ref f5))) (ql5:K.lookup f5=some ⟨oc5,od5,.func (PySem.W.fnOf "code_of" "code_of" (defArgs s_code_of) (defBody s_code_of) (defScope s_code_of) .none kV5 dc5 pm5 an5 cd5 ct5),sl5⟩) (qc5:PySem.W.codeIn K cd5 "code_of"=true) (qk5:PySem.W.keepIn K (.ref f5)=true)
    (qa6:PySem.W.nsIn K mainGlobals "_law_worth"=some (some (.ref f6))) (ql6:K.lookup f6=some ⟨oc6,od6,.func (PySem.W.fnOf "_law_worth" "_law_worth" (defArgs s__law_worth) (defBody s__law_worth) (defScope s__law_worth) .none kV6 dc6 pm6 an6 cd6 ct6),sl6⟩) (qc6:PySem.W.codeIn K cd6 "_law_worth"=true) (qk6:PySem.W.keepIn K (.ref f6)=true)
    (qa7:PySem.W.nsIn K mainGlobals "_law_term"=some (some (.ref f7))) (ql7:K.lookup f7=some ⟨oc7,od7,.func (PySem.W.fnOf "_law_term" "_law_term" (defArgs s__law_term) (defBody s__law_term) (defScope s__law_term) .none kV7 dc7 pm7 an7 cd7 ct7),sl7⟩) (qc7:PySem.W.codeIn K cd7 "_law_term"=true) (qk7:PySem.W.keepIn K (.ref f7)=true)
    (qa8:PySem.W.nsIn K mainGlobals "_law_row"=some (some (.ref f8))) (ql8:K.lookup f8=some ⟨oc8,od8,.func (PySem.W.fnOf "_law_row" "_law_row" (defArgs s__law_row) (defBody s__law_row) (defScope s__law_row) .none kV8 dc8 pm8 an8 cd8 ct8),sl8⟩) (qc8:PySem.W.codeIn K cd8 "_law_row"=true) (qk8:PySem.W.keepIn K (.ref f8)=true)
    (qa9:PySem.W.nsIn K mainGlobals "_law_rows"=some (some (.ref f9))) (ql9:K.lookup f9=some ⟨oc9,od9,.func (PySem.W.fnOf "_law_rows" "_law_rows" (defArgs s__law_rows) (defBody s__law_rows) (defScope s__law_rows) .none kV9 dc9 pm9 an9 cd9 ct9),sl9⟩) (qc9:PySem.W.codeIn K cd9 "_law_rows"=true) (qk9:PySem.W.keepIn K (.ref f9)=true)
    (qa10:PySem.W.findIn K (.ref ca2) "over"=some (some (.ref f10))) (qi10:PySem.W.isFn K (.ref f10)=true) (ql10:K.lookup f10=some ⟨oc10,od10,.func (PySem.W.fnOf "over" "Run.over" (defArgs s_Run_over) (defBody s_Run_over) (defScope s_Run_over) .none kV10 dc10 pm10 an10 cd10 ct10),sl10⟩) (qc10:PySem.W.codeIn K cd10 "Run.over"=true) (qk10:PySem.W.keepIn K (.ref f10)=true)
    (qa11:PySem.W.findIn K (.ref ca2) "taken"=some (some (.ref f11))) (qi11:PySem.W.isFn K (.ref f11)=true) (ql11:K.lookup f11=some ⟨oc11,od11,.func (PySem.W.fnOf "taken" "Run.taken" (defArgs s_Run_taken) (defBody s_Run_taken) (defScope s_Run_taken) .none kV11 dc11 pm11 an11 cd11 ct11),sl11⟩) (qc11:PySem.W.codeIn K cd11 "Run.taken"=true) (qk11:PySem.W.keepIn K (.ref f11)=true)
    (qa12:PySem.W.nsIn K mainGlobals "divided"=some (some (.ref f12))) (ql12:K.lookup f12=some ⟨oc12,od12,.func (PySem.W.fnOf "divided" "divided" (defArgs s_divided) (defBody s_divided) (defScope s_divided) .none kV12 dc12 pm12 an12 cd12 ct12),sl12⟩) (qc12:PySem.W.codeIn K cd12 "divided"=true) (qk12:PySem.W.keepIn K (.ref f12)=true)
    (qa13:PySem.W.nsIn K mainGlobals "come_to"=some (some (.ref f13))) (ql13:K.lookup f13=some ⟨oc13,od13,.func (PySem.W.fnOf "come_to" "come_to" (defArgs s_come_to) (defBody s_come_to) (defScope s_come_to) .none kV13 dc13 pm13 an13 cd13 ct13),sl13⟩) (qc13:PySem.W.codeIn K cd13 "come_to"=true) (qk13:PySem.W.keepIn K (.ref f13)=true)
    (qa14:PySem.W.nsIn K mainGlobals "is_worth"=some (some (.ref f14))) (ql14:K.lookup f14=some ⟨oc14,od14,.func (PySem.W.fnOf "is_worth" "is_worth" (defArgs s_is_worth) (defBody s_is_worth) (defScope s_is_worth) .none kV14 dc14 pm14 an14 cd14 ct14),sl14⟩) (qc14:PySem.W.codeIn K cd14 "is_worth"=true) (qk14:PySem.W.keepIn K (.ref f14)=true)
    (qa15:PySem.W.nsIn K mainGlobals "joined"=some (some (.ref f15))) (ql15:K.lookup f15=some ⟨oc15,od15,.func (PySem.W.fnOf "joined" "joined" (defArgs s_joined) (defBody s_joined) (defScope s_joined) .none kV15 dc15 pm15 an15 cd15 ct15),sl15⟩) (qc15:PySem.W.codeIn K cd15 "joined"=true) (qk15:PySem.W.keepIn K (.ref f15)=true)
    (qa16:PySem.W.nsIn K mainGlobals "reckoned"=some (some (.ref f16))) (ql16:K.lookup f16=some ⟨oc16,od16,.func (PySem.W.fnOf "reckoned" "reckoned" (defArgs s_reckoned) (defBody s_reckoned) (defScope s_reckoned) .none kV16 dc16 pm16 an16 cd16 ct16),sl16⟩) (qc16:PySem.W.codeIn K cd16 "reckoned"=true) (qk16:PySem.W.keepIn K (.ref f16)=true)
    (qa17:PySem.W.findIn K (.ref ca2) "worth_of"=some (some (.ref f17))) (qi17:PySem.W.isFn K (.ref f17)=true) (ql17:K.lookup f17=some ⟨oc17,od17,.func (PySem.W.fnOf "worth_of" "Run.worth_of" (defArgs s_Run_worth_of) (defBody s_Run_worth_of) (defScope s_Run_worth_of) .none kV17 dc17 pm17 an17 cd17 ct17),sl17⟩) (qc17:PySem.W.codeIn K cd17 "Run.worth_of"=true) (qk17:PySem.W.keepIn K (.ref f17)=true)
    (qa18:PySem.W.findIn K (.ref ca2) "place_in"=some (some (.ref f18))) (qi18:PySem.W.isFn K (.ref f18)=true) (ql18:K.lookup f18=some ⟨oc18,od18,.func (PySem.W.fnOf "place_in" "Run.place_in" (defArgs s_Run_place_in) (defBody s_Run_place_in) (defScope s_Run_place_in) .none kV18 dc18 pm18 an18 cd18 ct18),sl18⟩) (qc18:PySem.W.codeIn K cd18 "Run.place_in"=true) (qk18:PySem.W.keepIn K (.ref f18)=true)
    (qa19:PySem.W.findIn K (.ref ca2) "does"=some (some (.ref f19))) (qi19:PySem.W.isFn K (.ref f19)=true) (ql19:K.lookup f19=some ⟨oc19,od19,.func (PySem.W.fnOf "does" "Run.does" (defArgs s_Run_does) (defBody s_Run_does) (defScope s_Run_does) .none kV19 dc19 pm19 an19 cd19 ct19),sl19⟩) (qc19:PySem.W.codeIn K cd19 "Run.does"=true) (qk19:PySem.W.keepIn K (.ref f19)=true)
    (qa20:PySem.W.findIn K (.ref ca2) "led_by"=some (some (.ref f20))) (qi20:PySem.W.isFn K (.ref f20)=true) (ql20:K.lookup f20=some ⟨oc20,od20,.func (PySem.W.fnOf "led_by" "Run.led_by" (defArgs s_Run_led_by) (defBody s_Run_led_by) (defScope s_Run_led_by) .none kV20 dc20 pm20 an20 cd20 ct20),sl20⟩) (qc20:PySem.W.codeIn K cd20 "Run.led_by"=true) (qk20:PySem.W.keepIn K (.ref f20)=true)
    (qa21:PySem.W.findIn K (.ref ca2) "step"=some (some (.ref f21))) (qi21:PySem.W.isFn K (.ref f21)=true) (ql21:K.lookup f21=some ⟨oc21,od21,.func (PySem.W.fnOf "step" "Run.step" (defArgs s_Run_step) (defBody s_Run_step) (defScope s_Run_step) (.ref dA21) kV21 dc21 pm21 an21 cd21 ct21),sl21⟩) (qc21:PySem.W.codeIn K cd21 "Run.step"=true) (qk21:PySem.W.keepIn K (.ref f21)=true) (qd21:K.lookup dA21=some ⟨.type "tuple",none,.seq #[.int 0 dt21_0] dn21,#[]⟩)
    (qa22:PySem.W.nsIn K mainGlobals "_law_leads_on"=some (some (.ref f22))) (ql22:K.lookup f22=some ⟨oc22,od22,.func (PySem.W.fnOf "_law_leads_on" "_law_leads_on" (defArgs s__law_leads_on) (defBody s__law_leads_on) (defScope s__law_leads_on) .none kV22 dc22 pm22 an22 cd22 ct22),sl22⟩) (qc22:PySem.W.codeIn K cd22 "_law_leads_on"=true) (qk22:PySem.W.keepIn K (.ref f22)=true)
    (qa23:PySem.W.findIn K (.ref ca2) "__init__"=some (some (.ref f23))) (qi23:PySem.W.isFn K (.ref f23)=true) (ql23:K.lookup f23=some ⟨oc23,od23,.func (PySem.W.fnOf "__init__" "Run.__init__" (defArgs s_Run_init) (defBody s_Run_init) (defScope s_Run_init) .none kV23 dc23 pm23 an23 cd23 ct23),sl23⟩) (qc23:PySem.W.codeIn K cd23 "Run.__init__"=true) (qk23:PySem.W.keepIn K (.ref f23)=true)
    (qa24:PySem.W.findIn K (.ref ca2) "asks"=some (some (.ref f24))) (qi24:PySem.W.isFn K (.ref f24)=true) (ql24:K.lookup f24=some ⟨oc24,od24,.func (PySem.W.fnOf "asks" "Run.asks" (defArgs s_Run_asks) (defBody s_Run_asks) (defScope s_Run_asks) .none kV24 dc24 pm24 an24 cd24 ct24),sl24⟩) (qc24:PySem.W.codeIn K cd24 "Run.asks"=true) (qk24:PySem.W.keepIn K (.ref f24)=true)
    (qa25:PySem.W.nsIn K mainGlobals "_law_stepped"=some (some (.ref f25))) (ql25:K.lookup f25=some ⟨oc25,od25,.func (PySem.W.fnOf "_law_stepped" "_law_stepped" (defArgs s__law_stepped) (defBody s__law_stepped) (defScope s__law_stepped) .none kV25 dc25 pm25 an25 cd25 ct25),sl25⟩) (qc25:PySem.W.codeIn K cd25 "_law_stepped"=true) (qk25:PySem.W.keepIn K (.ref f25)=true)
    (qa26:PySem.W.findIn K (.ref ca2) "paper"=some (some (.ref f26))) (qi26:PySem.W.isFn K (.ref f26)=true) (ql26:K.lookup f26=some ⟨oc26,od26,.func (PySem.W.fnOf "paper" "Run.paper" (defArgs s_Run_paper) (defBody s_Run_paper) (defScope s_Run_paper) .none kV26 dc26 pm26 an26 cd26 ct26),sl26⟩) (qc26:PySem.W.codeIn K cd26 "Run.paper"=true) (qk26:PySem.W.keepIn K (.ref f26)=true)
    (qa27:PySem.W.nsIn K mainGlobals "_law_outcome"=some (some (.ref f27))) (ql27:K.lookup f27=some ⟨oc27,od27,.func (PySem.W.fnOf "_law_outcome" "_law_outcome" (defArgs s__law_outcome) (defBody s__law_outcome) (defScope s__law_outcome) .none kV27 dc27 pm27 an27 cd27 ct27),sl27⟩) (qc27:PySem.W.codeIn K cd27 "_law_outcome"=true) (qk27:PySem.W.keepIn K (.ref f27)=true)
    (qa28:PySem.W.nsIn K mainGlobals "_law_rows_of"=some (some (.ref f28))) (ql28:K.lookup f28=some ⟨oc28,od28,.func (PySem.W.fnOf "_law_rows_of" "_law_rows_of" (defArgs s__law_rows_of) (defBody s__law_rows_of) (defScope s__law_rows_of) .none kV28 dc28 pm28 an28 cd28 ct28),sl28⟩) (qc28:PySem.W.codeIn K cd28 "_law_rows_of"=true) (qk28:PySem.W.keepIn K (.ref f28)=true)
    (qa29:PySem.W.nsIn K mainGlobals "_law_paper"=some (some (.ref f29))) (ql29:K.lookup f29=some ⟨oc29,od29,.func (PySem.W.fnOf "_law_paper" "_law_paper" (defArgs s__law_paper) (defBody s__law_paper) (defScope s__law_paper) .none kV29 dc29 pm29 an29 cd29 ct29),sl29⟩) (qc29:PySem.W.codeIn K cd29 "_law_paper"=true) (qk29:PySem.W.keepIn K (.ref f29)=true)
    (qa30:PySem.W.nsIn K mainGlobals "_law_again"=some (some (.ref f30))) (ql30:K.lookup f30=some ⟨oc30,od30,.func (PySem.W.fnOf "_law_again" "_law_again" (defArgs s__law_again) (defBody s__law_again) (defScope s__law_again) .none kV30 dc30 pm30 an30 cd30 ct30),sl30⟩) (qc30:PySem.W.codeIn K cd30 "_law_again"=true) (qk30:PySem.W.keepIn K (.ref f30)=true)
    (qa31:PySem.W.nsIn K mainGlobals "_law_two"=some (some (.ref f31))) (ql31:K.lookup f31=some ⟨oc31,od31,.func (PySem.W.fnOf "_law_two" "_law_two" (defArgs s__law_two) (defBody s__law_two) (defScope s__law_two) .none kV31 dc31 pm31 an31 cd31 ct31),sl31⟩) (qc31:PySem.W.codeIn K cd31 "_law_two"=true) (qk31:PySem.W.keepIn K (.ref f31)=true)
    (qa32:PySem.W.nsIn K mainGlobals "law"=some (some (.ref f32))) (ql32:K.lookup f32=some ⟨oc32,od32,.func (PySem.W.fnOf "law" "law" (defArgs s_law) (defBody s_law) (defScope s_law) .none kV32 dc32 pm32 an32 cd32 ct32),sl32⟩) (qc32:PySem.W.codeIn K cd32 "law"=true) (qk32:PySem.W.keepIn K (.ref f32)=true)
    (qz0:PySem.W.nsIn K mainGlobals "bool"=some none)
    (qz1:PySem.W.nsIn K mainGlobals "int"=some none)
    (qz2:PySem.W.nsIn K mainGlobals "isinstance"=some none)
    (qz3:PySem.W.nsIn K mainGlobals "len"=some none)
    (qz4:PySem.W.nsIn K mainGlobals "list"=some none)
    (qz5:PySem.W.nsIn K mainGlobals "range"=some none)
    (qz6:PySem.W.nsIn K mainGlobals "sorted"=some none)
    (qz7:PySem.W.nsIn K mainGlobals "str"=some none)
    (qz8:PySem.W.nsIn K mainGlobals "tuple"=some none)
    (qg0:PySem.W.nsIn K mainGlobals "JOINING"=some (some (.ref ga0))) (qh0:K.lookup ga0=some ⟨.type "tuple",none,.seq #[.str "plus" gt0_0,.str "minus" gt0_1,.str "times" gt0_2,.str "over" gt0_3,.str "rest" gt0_4,.str "under" gt0_5,.str "same" gt0_6] gn0,#[]⟩)
    (qv0:PySem.W.nsIn K mainGlobals "Great"=some (some (.ref ca0)))
    (qv1:PySem.W.nsIn K mainGlobals "Nought"=some (some (.ref ca1)))
    (qv2:PySem.W.nsIn K mainGlobals "Run"=some (some (.ref ca2)))
    (pg2:PySem.W.plainGet K ca2 Str.empty=true) (pd2:PySem.W.hasDictIn K ca2=true) (po2:PySem.W.plainOver K ca2=true) (pe2:PySem.W.findIn K (.ref ca2) "__setattr__"=some (some (.builtin "object.__setattr__"))) (pm2_:PySem.W.makesIn K ca2=true) (pk2:PySem.W.keepIn K (.ref ca2)=true)
    (pn2_0:PySem.W.findIn K (.ref ca2) "at"=some none)
    (pn2_1:PySem.W.findIn K (.ref ca2) "code"=some none)
    (pn2_2:PySem.W.findIn K (.ref ca2) "gifts"=some none)
    (pn2_3:PySem.W.findIn K (.ref ca2) "notes"=some none)
    (pn2_4:PySem.W.findIn K (.ref ca2) "sayings"=some none)
    (pn2_5:PySem.W.findIn K (.ref ca2) "slots"=some none)
    (pn2_6:PySem.W.findIn K (.ref ca2) "why"=some none)
    (rx0:PySem.W.excIn K ca1 bmVal newVal=true)
    (ry0_0:PySem.W.findIn K (.ref ca1) "__getattribute__"=some (some (.builtin "BaseException.__getattribute__")))
    (ry0_1:PySem.W.findIn K (.ref ca1) "__getattr__"=some none)
    (ry0_2:PySem.W.findIn K (.ref ca1) "__class__"=some (some (.builtin "object.__class__")))
    (ry0_3:PySem.W.mroIn K ca1 (.type "object")=some true)
    (ry0_4:PySem.W.mroIn K ca1 (.type "BaseException")=some true)
    (ry0_5:PySem.W.specialIn K (.builtin "object.__class__") "__get__"=some (some (.builtin "getset_descriptor.__get__")))
    (ry0_6:PySem.W.takesIn K (.builtin "object.__class__")=some true)
    (ry0_7:PySem.W.clsIn K ca1=some cl0)
    (re0_0:PySem.W.exmOne K (.ref ca1) (.ref ca0)=some false)
    (re0_1:PySem.W.exmOne K (.ref ca1) (.ref ca1)=some true)
    (rm0_0:PySem.W.exmAny K (.ref ca1) [(.ref ca0),(.ref ca1)]=some true)
    (rx1:PySem.W.excIn K ca0 bmVal newVal=true)
    (ry1_0:PySem.W.findIn K (.ref ca0) "__getattribute__"=some (some (.builtin "BaseException.__getattribute__")))
    (ry1_1:PySem.W.findIn K (.ref ca0) "__getattr__"=some none)
    (ry1_2:PySem.W.findIn K (.ref ca0) "__class__"=some (some (.builtin "object.__class__")))
    (ry1_3:PySem.W.mroIn K ca0 (.type "object")=some true)
    (ry1_4:PySem.W.mroIn K ca0 (.type "BaseException")=some true)
    (ry1_5:PySem.W.specialIn K (.builtin "object.__class__") "__get__"=some (some (.builtin "getset_descriptor.__get__")))
    (ry1_6:PySem.W.takesIn K (.builtin "object.__class__")=some true)
    (ry1_7:PySem.W.clsIn K ca0=some cl1)
    (re1_0:PySem.W.exmOne K (.ref ca0) (.ref ca0)=some true)
    (re1_1:PySem.W.exmOne K (.ref ca0) (.ref ca1)=some false)
    (rm1_0:PySem.W.exmAny K (.ref ca0) [(.ref ca0),(.ref ca1)]=some true):∃ t,Txt K mg t:=by
  have F0:=fun_mk (st:=s__law_draw) ql0 qc0 qk0
  have F1:=fun_mk (st:=s__law_names) ql1 qc1 qk1
  have F2:=fun_mk (st:=s__law_cell_at) ql2 qc2 qk2
  have F3:=fun_mk (st:=s_block_steps) ql3 qc3 qk3
  have F4:=fun_mk (st:=s_steps_of) ql4 qc4 qk4
  have F5:=fun_mk (st:=s_code_of) ql5 qc5 qk5
  have F6:=fun_mk (st:=s__law_worth) ql6 qc6 qk6
  have F7:=fun_mk (st:=s__law_term) ql7 qc7 qk7
  have F8:=fun_mk (st:=s__law_row) ql8 qc8 qk8
  have F9:=fun_mk (st:=s__law_rows) ql9 qc9 qk9
  have F10:=fun_mk (st:=s_Run_over) ql10 qc10 qk10
  have F11:=fun_mk (st:=s_Run_taken) ql11 qc11 qk11
  have F12:=fun_mk (st:=s_divided) ql12 qc12 qk12
  have F13:=fun_mk (st:=s_come_to) ql13 qc13 qk13
  have F14:=fun_mk (st:=s_is_worth) ql14 qc14 qk14
  have F15:=fun_mk (st:=s_joined) ql15 qc15 qk15
  have F16:=fun_mk (st:=s_reckoned) ql16 qc16 qk16
  have F17:=fun_mk (st:=s_Run_worth_of) ql17 qc17 qk17
  have F18:=fun_mk (st:=s_Run_place_in) ql18 qc18 qk18
  have F19:=fun_mk (st:=s_Run_does) ql19 qc19 qk19
  have F20:=fun_mk (st:=s_Run_led_by) ql20 qc20 qk20
  have F21:=fun_mkD (st:=s_Run_step) ql21 qc21 qk21
  have F22:=fun_mk (st:=s__law_leads_on) ql22 qc22 qk22
  have F23:=fun_mk (st:=s_Run_init) ql23 qc23 qk23
  have F24:=fun_mk (st:=s_Run_asks) ql24 qc24 qk24
  have F25:=fun_mk (st:=s__law_stepped) ql25 qc25 qk25
  have F26:=fun_mk (st:=s_Run_paper) ql26 qc26 qk26
  have F27:=fun_mk (st:=s__law_outcome) ql27 qc27 qk27
  have F28:=fun_mk (st:=s__law_rows_of) ql28 qc28 qk28
  have F29:=fun_mk (st:=s__law_paper) ql29 qc29 qk29
  have F30:=fun_mk (st:=s__law_again) ql30 qc30 qk30
  have F31:=fun_mk (st:=s__law_two) ql31 qc31 qk31
  have F32:=fun_mk (st:=s_law) ql32 qc32 qk32
  exact ⟨⟨f0,_,f1,_,f2,_,f3,_,f4,_,f5,_,f6,_,f7,_,f8,_,f9,_,f10,_,f11,_,f12,_,f13,_,f14,_,f15,_,f16,_,f17,_,f18,_,f19,_,f20,_,f21,_,f22,_,f23,_,f24,_,f25,_,f26,_,f27,_,f28,_,f29,_,f30,_,f31,_,f32,_,ga0,ca0,ca1,ca2⟩,⟨F0,F0.binds (ps:=["cell","j"]) (fun _ _ _ _ _ _ us hl=>match us,hl with | [_,_],_=>rfl),PySem.W.mg_of X G qa0,
    F1,F1.binds (ps:=["cell","many"]) (fun _ _ _ _ _ _ us hl=>match us,hl with | [_,_],_=>rfl),PySem.W.mg_of X G qa1,
    F2,F2.binds (ps:=["script","k"]) (fun _ _ _ _ _ _ us hl=>match us,hl with | [_,_],_=>rfl),PySem.W.mg_of X G qa2,
    F3,F3.binds (ps:=["row","at"]) (fun _ _ _ _ _ _ us hl=>match us,hl with | [_,_],_=>rfl),PySem.W.mg_of X G qa3,
    F4,F4.binds (ps:=["rows","first"]) (fun _ _ _ _ _ _ us hl=>match us,hl with | [_,_],_=>rfl),PySem.W.mg_of X G qa4,
    F5,F5.binds (ps:=["rows"]) (fun _ _ _ _ _ _ us hl=>match us,hl with | [_],_=>rfl),PySem.W.mg_of X G qa5,
    F6,F6.binds (ps:=["cell","j"]) (fun _ _ _ _ _ _ us hl=>match us,hl with | [_,_],_=>rfl),PySem.W.mg_of X G qa6,
    F7,F7.binds (ps:=["cell","j","slots"]) (fun _ _ _ _ _ _ us hl=>match us,hl with | [_,_,_],_=>rfl),PySem.W.mg_of X G qa7,
    F8,F8.binds (ps:=["cell","j","slots","shelves"]) (fun _ _ _ _ _ _ us hl=>match us,hl with | [_,_,_,_],_=>rfl),PySem.W.mg_of X G qa8,
    F9,F9.binds (ps:=["cells","slots","shelves"]) (fun _ _ _ _ _ _ us hl=>match us,hl with | [_,_,_],_=>rfl),PySem.W.mg_of X G qa9,
    F10,F10.binds (ps:=["self"]) (fun _ _ _ _ _ _ us hl=>match us,hl with | [_],_=>rfl),⟨qa10,qi10,qk10⟩,
    F11,F11.binds (ps:=["self","place","worth"]) (fun _ _ _ _ _ _ us hl=>match us,hl with | [_,_,_],_=>rfl),⟨qa11,qi11,qk11⟩,
    F12,F12.binds (ps:=["word","first","second"]) (fun _ _ _ _ _ _ us hl=>match us,hl with | [_,_,_],_=>rfl),PySem.W.mg_of X G qa12,
    F13,F13.binds (ps:=["word","first","second"]) (fun _ _ _ _ _ _ us hl=>match us,hl with | [_,_,_],_=>rfl),PySem.W.mg_of X G qa13,
    F14,F14.binds (ps:=["thing"]) (fun _ _ _ _ _ _ us hl=>match us,hl with | [_],_=>rfl),PySem.W.mg_of X G qa14,
    F15,F15.binds (ps:=["word","first","second"]) (fun _ _ _ _ _ _ us hl=>match us,hl with | [_,_,_],_=>rfl),PySem.W.mg_of X G qa15,
    F16,F16.binds (ps:=["term","slots"]) (fun _ _ _ _ _ _ us hl=>match us,hl with | [_,_],_=>rfl),PySem.W.mg_of X G qa16,
    F17,F17.binds (ps:=["self","term"]) (fun _ _ _ _ _ _ us hl=>match us,hl with | [_,_],_=>rfl),⟨qa17,qi17,qk17⟩,
    F18,F18.binds (ps:=["self","due"]) (fun _ _ _ _ _ _ us hl=>match us,hl with | [_,_],_=>rfl),⟨qa18,qi18,qk18⟩,
    F19,F19.binds (ps:=["self","due","worth"]) (fun _ _ _ _ _ _ us hl=>match us,hl with | [_,_,_],_=>rfl),⟨qa19,qi19,qk19⟩,
    F20,F20.binds (ps:=["self","due","worth"]) (fun _ _ _ _ _ _ us hl=>match us,hl with | [_,_,_],_=>rfl),⟨qa20,qi20,qk20⟩,
    F21,(fun s us hK hl=>match us,(show us.length=2 by simpa using hl) with | [_,_],_=>.of_defaults (T:=dA21) rfl (hK _ _ qd21) rfl rfl rfl),⟨[.int 0 dt21_0],(.cons ⟨_,rfl⟩ .nil),(fun s us hK hl=>match us,(show us.length=1 by simpa using hl) with | [_],_=>.of_defaults (T:=dA21) rfl (hK _ _ qd21) rfl rfl rfl)⟩,⟨qa21,qi21,qk21⟩,
    F22,F22.binds (ps:=["code"]) (fun _ _ _ _ _ _ us hl=>match us,hl with | [_],_=>rfl),PySem.W.mg_of X G qa22,
    F23,F23.binds (ps:=["self","code"]) (fun _ _ _ _ _ _ us hl=>match us,hl with | [_,_],_=>rfl),
    F24,F24.binds (ps:=["self"]) (fun _ _ _ _ _ _ us hl=>match us,hl with | [_],_=>rfl),⟨qa24,qi24,qk24⟩,
    F25,F25.binds (ps:=["run","cell","made"]) (fun _ _ _ _ _ _ us hl=>match us,hl with | [_,_,_],_=>rfl),PySem.W.mg_of X G qa25,
    F26,F26.binds (ps:=["self"]) (fun _ _ _ _ _ _ us hl=>match us,hl with | [_],_=>rfl),⟨qa26,qi26,qk26⟩,
    F27,F27.binds (ps:=["found","gifts"]) (fun _ _ _ _ _ _ us hl=>match us,hl with | [_,_],_=>rfl),PySem.W.mg_of X G qa27,
    F28,F28.binds (ps:=["found"]) (fun _ _ _ _ _ _ us hl=>match us,hl with | [_],_=>rfl),PySem.W.mg_of X G qa28,
    F29,F29.binds (ps:=["paper"]) (fun _ _ _ _ _ _ us hl=>match us,hl with | [_],_=>rfl),PySem.W.mg_of X G qa29,
    F30,F30.binds (ps:=["code","made"]) (fun _ _ _ _ _ _ us hl=>match us,hl with | [_,_],_=>rfl),PySem.W.mg_of X G qa30,
    F31,F31.binds (ps:=["code","cells"]) (fun _ _ _ _ _ _ us hl=>match us,hl with | [_,_],_=>rfl),PySem.W.mg_of X G qa31,
    F32,F32.binds (ps:=["script"]) (fun _ _ _ _ _ _ us hl=>match us,hl with | [_],_=>rfl),PySem.W.mg_of X G qa32,
    fun s v=>.of_eq rfl,
    PySem.W.mg_none_of X G qz0,
    PySem.W.mg_none_of X G qz1,
    PySem.W.mg_none_of X G qz2,
    PySem.W.mg_none_of X G qz3,
    PySem.W.mg_none_of X G qz4,
    PySem.W.mg_none_of X G qz5,
    PySem.W.mg_none_of X G qz6,
    PySem.W.mg_none_of X G qz7,
    PySem.W.mg_none_of X G qz8,
    PySem.W.mg_of X G qg0,fun _=>.inr ⟨_,_,_,qh0,rfl,rfl,(by show 7≤sizeLine;decide),(.cons ⟨_,rfl⟩ (.cons ⟨_,rfl⟩ (.cons ⟨_,rfl⟩ (.cons ⟨_,rfl⟩ (.cons ⟨_,rfl⟩ (.cons ⟨_,rfl⟩ (.cons ⟨_,rfl⟩ .nil)))))))⟩,
    PySem.W.mg_of X G qv0,
    PySem.W.mg_of X G qv1,
    PySem.W.mg_of X G qv2,
    ⟨pg2,pd2,po2,pe2⟩,
    ⟨pm2_,qa23,qi23,pk2⟩,
    pn2_0,
    pn2_1,
    pn2_2,
    pn2_3,
    pn2_4,
    pn2_5,
    pn2_6,
    rx0,
    ⟨⟨ry0_0,ry0_1,ry0_2,ry0_3,ry0_4,ry0_5,ry0_6⟩,by rw [ry0_7];rfl⟩,
    re0_0,
    re0_1,
    rm0_0,
    rx1,
    ⟨⟨ry1_0,ry1_1,ry1_2,ry1_3,ry1_4,ry1_5,ry1_6⟩,by rw [ry1_7];rfl⟩,
    re1_0,
    re1_1,
    rm1_0⟩⟩
structure KF (K:PySem.W.Frag):Prop where
  i_b:PySem.W.kitOne K (.type "int") (.type "bool")=some false
  i_s:PySem.W.kitOne K (.type "int") (.type "str")=some false
def fin (t:Adr) (r:Except Er Int) (Q:VK) (E:XK) (H:Hp):Prop:=match r with
  | .ok i=>Q (.int i) H
  | .error .nought=>E (.ref t.c_Nought) none H
  | .error .great=>E (.ref t.c_Great) none H
  | .error .stuck=>True
def errE (t:Adr) (e:Er) (E:XK) (H:Hp):Prop:=match e with
  | .nought=>E (.ref t.c_Nought) none H
  | .great=>E (.ref t.c_Great) none H
  | .stuck=>True
def IntFact (K:PySem.W.Frag):Prop:=PySem.W.kitOne K (.type "int") (.type "bool")=some false
def NamesAt (H:Hp) (nm:Addr) (ws:List Str):Prop:=H nm=some (.lst (ws.map V.str))∧∀ w∈ws,isName w=true
def isDoes:Rw→Prop
  | .off _=>False
  | .iff _ _ _=>False
  | _=>True
def sp_is_worth:Sp:=fun vs H Q _=>∃ i,vs=[.int i]∧∀ H',Same H H'→Q (.bl (inW i)) H'
def sp_divided (t:Adr):Sp:=fun vs H Q E=>∃ w a b,vs=[.str w,.int a,.int b]∧w.length≤1000∧inW a=true∧inW b=true∧∀ H',Same H H'→if b=0 then E (.ref t.c_Nought) none H' else Q (.int (if w="over" then a.fdiv b else a.fmod b)) H'
def sp_come_to (t:Adr):Sp:=fun vs H Q E=>∃ w a b,vs=[.str w,.int a,.int b]∧w.length≤1000∧inW a=true∧inW b=true∧∀ H',Same H H'→if isDiv w∧b=0 then E (.ref t.c_Nought) none H' else Q (.int (comeV w a b)) H'
def sp_joined (t:Adr):Sp:=fun vs H Q E=>∃ w a b,vs=[.str w,.int a,.int b]∧w.length≤1000∧inW a=true∧inW b=true∧∀ H',Same H H'→fin t (joinE w a b) Q E H'
def sp_reckoned (t:Adr):Sp:=fun vs H Q E=>∃ kvs tm sl ps r,vs=[.ref tm,.ref sl]∧H tm=some (.tup ps)∧H sl=some (.dK kvs)∧Good kvs ps r∧(∀ v∈ps,okPart v)∧ps.length≤1000∧SlotsOk kvs∧∀ H',Same H H'→fin t r Q E H'
inductive Cs where
  | row (r:Rw)
  | skip (e:List V) (to:Nat)
  | go (en:Nat)
def Rws.isNil:Rws→Bool
  | .nil=>true
  | .cons _ _=>false
def blk (e:List V) (k:Nat) (A:List Cs) (nl:Bool) (B:List Cs):List Cs :=
  if nl=true then .skip e (k + 1 + A.length) :: A else .skip e (k + 2 + A.length) :: (A ++ (.go (k + 2 + A.length + B.length) :: B))
mutual
def codeR:Rw→Nat→List Cs
  | .iff e a b,k=>blk e k (codeRs a (k + 1)) (Rws.isNil b) (codeRs b (k + 2 + (codeRs a (k + 1)).length))
  | r,_=>[.row r]
def codeRs:Rws→Nat→List Cs
  | .nil,_=>[]
  | .cons r rs,k=>codeR r k ++ codeRs rs (k + (codeR r k).length)
end
def noIf:Rw→Prop
  | .iff _ _ _=>False
  | _=>True
def CsAt (H:Hp) (v:V):Cs→Prop
  | .row r=>RwAt anyA H v r∧noIf r
  | .skip e to=>∃ p te,v=.ref p∧H p=some (.tup [.str "skip",.ref te,.int (to:Nat)])∧H te=some (.tup e)
  | .go en=>∃ p,v=.ref p∧H p=some (.tup [.str "go",.int (en:Nat)])
structure RsOk (n:Nat) (r:Rws):Prop where
  dp:r.deep < n
  ct:r.cnt≤500
  pl:RwsPl r
def sp_block_steps (n:Nat):Sp:=fun vs H Q _=>∃ (v:V) (e:List V) (a b:Rws) (k:Nat),vs=[v,.int k]∧RwAt anyA H v (.iff e a b)∧RsOk n a∧RsOk n b∧k + (codeR (.iff e a b) k).length≤500∧∀ l xs H',Same H H'→H' l=some (.lst xs)→Paired (CsAt H') xs (codeR (.iff e a b) k)→Q (.ref l) H'
def sp_steps_of (n:Nat):Sp:=fun vs H Q _=>∃ (v:V) (r:Rws) (k:Nat),vs=[v,.int k]∧RlAt anyA H v r∧RsOk n r∧k + (codeRs r k).length≤500∧∀ l xs H',Same H H'→H l=none→H' l=some (.lst xs)→Paired (CsAt H') xs (codeRs r k)→Q (.ref l) H'
def sp_code_of:Sp:=fun vs H Q _=>∃ (v:V) (r:Rws),vs=[v]∧RlAt anyA H v r∧RsOk 6 r∧(codeRs r 0).length≤500∧∀ l xs H',Same H H'→H l=none→H' l=some (.lst xs)→Paired (CsAt H') xs (codeRs r 0)→Q (.ref l) H'
structure RSt where
  n:Nat
  why:Option Str
  sl:List (Key × V)
  gi:List Row
  no:List Row
  sa:List Int
structure RAd where
  dx:Addr
  co:Addr
  sl:Addr
  gi:Addr
  no:Addr
  sa:Addr
def whyV:Option Str→V
  | none=>.non
  | some w=>.str w
def rnFs (a:RAd) (s:RSt):List (Str × V):=[(Str.ofString "code",.ref a.co),(Str.ofString "at",.int s.n),(Str.ofString "why",whyV s.why),(Str.ofString "slots",.ref a.sl),(Str.ofString "gifts",.ref a.gi),(Str.ofString "notes",.ref a.no),(Str.ofString "sayings",.ref a.sa)]
structure RnAt (t:Adr) (H:Hp) (x:Addr) (a:RAd) (C:List Cs) (s:RSt):Prop where
  ix:H x=some (.ins t.c_Run a.dx (rnFs a s))
  hc:∃ xs,H a.co=some (.lst xs)∧Paired (CsAt H) xs C
  hs:H a.sl=some (.dK s.sl)
  hg:H a.gi=some (.dT (dOf s.gi))
  hn:H a.no=some (.dT (dOf s.no))
  ha:H a.sa=some (.lst (s.sa.map V.int))
  ng:a.gi≠a.no
  nc:a.co≠a.sa
def Ow (x:Addr) (a:RAd) (b:Addr):Prop:=b=x∨b=a.sl∨b=a.gi∨b=a.no∨b=a.sa
def OwA (x:Addr) (a:RAd) (b:Addr):Prop:=Ow x a b∨b=a.co
def Kp (x:Addr) (a:RAd) (H H':Hp):Prop:=∀ b o,¬ Ow x a b→H b=some o→H' b=some o
def SameX (x:Addr) (H H':Hp):Prop:=∀ b o,b≠x→H b=some o→H' b=some o
structure RnOk (m:Nat) (s:RSt):Prop where
  so:SlotsOk s.sl
  gw:∀ r∈s.gi,inW r.2=true
  nw:∀ r∈s.no,inW r.2=true
  l1:s.sl.length≤m
  l2:s.gi.length≤m
  l3:s.no.length≤m
  l4:s.sa.length≤m
  nd:(s.no.map (·.1)).Nodup
def CsOk:Cs→Prop
  | .row r=>RwOk r
  | .skip e _=>TermOk e
  | .go _=>True
def overB (C:List Cs) (s:RSt):Bool:=s.why.isSome || decide (C.length≤s.n)
def noteW (p:Pl) (w:Int) (s:RSt):RSt:=if (lastW s.gi p).isSome=true∨(lastW s.no p).isSome=true then s else { s with no:=s.no ++ [(p,w)] }
def knownW (p:Pl) (w:Int) (s:RSt):Int:=(lastW s.gi p).getD ((lastW s.no p).getD w)
def doR:Rw→Int→RSt→Except Er RSt
  | .take sh e x,w,s=>match rk s.sl e with
    | .error er=>.error er
    | .ok n=>.ok { noteW (sh,n) w s with sl:=putK s.sl (.inr x) (.int (knownW (sh,n) w s)) }
  | .give sh e f,_,s=>match rk s.sl e with
    | .error er=>.error er
    | .ok n=>match rk s.sl f with
      | .error er=>.error er
      | .ok i=>.ok { s with gi:=s.gi ++ [((sh,n),i)] }
  | .lt x e,_,s=>match rk s.sl e with
    | .error er=>.error er
    | .ok i=>.ok { s with sl:=putK s.sl (.inr x) (.int i) }
  | .say e,_,s=>match rk s.sl e with
    | .error er=>.error er
    | .ok i=>.ok { s with sa:=s.sa ++ [i] }
  | _,_,s=>.ok s
def ledC:Cs→Int→RSt→Except Er (Nat × RSt)
  | .go k,_,s=>.ok (k,s)
  | .skip e to,_,s=>match rk s.sl e with
    | .error er=>.error er
    | .ok i=>.ok (if i=0 then to else s.n + 1,s)
  | .row (.off e),_,s=>match rk s.sl e with
    | .error er=>.error er
    | .ok i=>.ok (s.n + 1,if i=0 then s else { s with why:=some (Str.ofString "told") })
  | .row r,w,s=>match doR r w s with
    | .error er=>.error er
    | .ok s'=>.ok (s.n + 1,s')
def stepC (c:Cs) (w:Int) (s:RSt):RSt:=match ledC c w s with
  | .ok (k,s')=>{ s' with n:=k }
  | .error er=>{ s with why:=some (whyOf er) }
def stepR (C:List Cs) (w:Int) (s:RSt):RSt:=if overB C s=true then s else match C[s.n]? with
  | none=>s
  | some c=>stepC c w s
def asksC (c:Cs) (s:RSt):Option Pl:=match c with
  | .row (.take sh e _)=>match rk s.sl e with
    | .error _=>none
    | .ok n=>if (lastW s.gi (sh,n)).isSome=true∨(lastW s.no (sh,n)).isSome=true then none else some (sh,n)
  | _=>none
def asksR (C:List Cs) (s:RSt):Option Pl:=if overB C s=true then none else (C[s.n]?).bind fun c=>asksC c s
def LsAt (H:Hp) (a:Addr) (rows:List Row):Prop:=∃ xs,H a=some (.lst xs)∧Paired (PrAt H) xs rows
def OcAt (H:Hp) (v:V):Oc→Prop
  | .done sa=>∃ o y,v=.ref o∧H o=some (.tup [.str "done",.ref y])∧H y=some (.tup (sa.map V.int))
  | .off w=>∃ o,v=.ref o∧H o=some (.tup [.str "off",.str w])
def ocOf (s:RSt):Oc:=match s.why with
  | some w=>.off w
  | none=>.done s.sa
def GiOf (s:RSt) (out:List Row):Prop:=match s.why with
  | some _=>out=[]
  | none=>Rising out∧∀ p w,(p,w)∈out↔lastW s.gi p=some w
structure RnF (K:PySem.W.Frag) (t:Adr):Prop where
  cl:Cls K t.c_Run
  n1:NoAttr K t.c_Run "code"
  n2:NoAttr K t.c_Run "at"
  n3:NoAttr K t.c_Run "why"
  n4:NoAttr K t.c_Run "slots"
  n5:NoAttr K t.c_Run "gifts"
  n6:NoAttr K t.c_Run "notes"
  n7:NoAttr K t.c_Run "sayings"
def st0:RSt:=⟨0,none,[],[],[],[]⟩
def sp_Run_init (t:Adr):Sp:=fun vs H Q _=>∃ (x l dx:Addr) (xs:List V) (C:List Cs),vs=[.ref x,.ref l]∧H x=some (.ins t.c_Run dx [])∧H l=some (.lst xs)∧Paired (CsAt H) xs C∧∀ H' a,SameX x H H'→RnAt t H' x a C st0→(∀ b,OwA x a b→b=x∨H b=none)→Q .non H'
def sp_Run_over (t:Adr):Sp:=fun vs H Q _=>∃ (x:Addr) (a:RAd) (C:List Cs) (s:RSt),vs=[.ref x]∧RnAt t H x a C s∧∀ H',Same H H'→Q (.bl (overB C s)) H'
def sp_Run_worth_of (t:Adr):Sp:=fun vs H Q E=>∃ (x tm:Addr) (e:List V) (a:RAd) (C:List Cs) (s:RSt),vs=[.ref x,.ref tm]∧RnAt t H x a C s∧SlotsOk s.sl∧H tm=some (.tup e)∧TermOk e∧∀ H',Same H H'→fin t (rk s.sl e) Q E H'
def sp_Run_place_in (t:Adr):Sp:=fun vs H Q E=>∃ (x p:Addr) (xs:List V) (sh:Str) (te:Addr) (e:List V) (a:RAd) (C:List Cs) (s:RSt),vs=[.ref x,.ref p]∧RnAt t H x a C s∧SlotsOk s.sl∧H p=some (.tup xs)∧atI xs 1=some (.str sh)∧atI xs 2=some (.ref te)∧H te=some (.tup e)∧TermOk e ∧
  (∀ i q H',rk s.sl e=.ok i→Same H H'→H' q=some (.tup [.str sh,.int i])→Q (.ref q) H')∧∀ er H',rk s.sl e=.error er→Same H H'→errE t er E H'
def sp_Run_taken (t:Adr):Sp:=fun vs H Q _=>∃ (x q:Addr) (p:Pl) (w:Int) (a:RAd) (C:List Cs) (s:RSt),vs=[.ref x,.ref q,.int w]∧RnAt t H x a C s∧H q=some (.tup [.str p.1,.int p.2])∧s.no.length≤900∧∀ H',Kp x a H H'→RnAt t H' x a C (noteW p w s)→Q (.int (knownW p w s)) H'
def sp_Run_does (t:Adr):Sp:=fun vs H Q E=>∃ (x:Addr) (v:V) (r:Rw) (w:Int) (m:Nat) (a:RAd) (C:List Cs) (s:RSt),vs=[.ref x,v,.int w]∧RnAt t H x a C s∧RwAt anyA H v r∧isDoes r∧RwOk r∧RnOk m s∧m≤900 ∧
  (∀ H' s',doR r w s=.ok s'→Kp x a H H'→RnAt t H' x a C s'→Q .non H')∧∀ H' er,doR r w s=.error er→Same H H'→errE t er E H'
def sp_Run_led_by (t:Adr):Sp:=fun vs H Q E=>∃ (x:Addr) (v:V) (c:Cs) (w:Int) (m:Nat) (a:RAd) (C:List Cs) (s:RSt),vs=[.ref x,v,.int w]∧RnAt t H x a C s∧CsAt H v c∧CsOk c∧RnOk m s∧m≤900 ∧
  (∀ H' s' k,ledC c w s=.ok (k,s')→Kp x a H H'→RnAt t H' x a C s'→Q (.int (k:Nat)) H')∧∀ H' er,ledC c w s=.error er→Same H H'→errE t er E H'
def sp_Run_step (t:Adr):Sp:=fun vs H Q _=>∃ (x:Addr) (w:Int) (m:Nat) (a:RAd) (C:List Cs) (s:RSt),vs=[.ref x,.int w]∧RnAt t H x a C s∧(∀ c∈C,CsOk c)∧RnOk m s∧m≤900∧∀ H',Kp x a H H'→RnAt t H' x a C (stepR C w s)→Q .non H'
def sp_Run_asks (t:Adr):Sp:=fun vs H Q _=>∃ (x:Addr) (a:RAd) (C:List Cs) (s:RSt),vs=[.ref x]∧RnAt t H x a C s∧(∀ c∈C,CsOk c)∧SlotsOk s.sl∧(∀ H',asksR C s=none→Same H H'→Q .non H')∧∀ p q H',asksR C s=some p→Same H H'→H' q=some (.tup [.str p.1,.int p.2])→Q (.ref q) H'
def sp_Run_paper (t:Adr):Sp:=fun vs H Q _=>∃ (x:Addr) (a:RAd) (C:List Cs) (s:RSt),vs=[.ref x]∧RnAt t H x a C s∧s.no.length≤900∧(s.no.map (·.1)).Nodup∧s.gi.length≤63∧(∀ H',overB C s=false→Same H H'→Q .non H') ∧
  ∀ r o nl gl out H',overB C s=true→Same H H'→H nl=none→H gl=none→nl≠gl→H' r=some (.tup [o,.ref nl,.ref gl])→OcAt H' o (ocOf s)→LsAt H' nl s.no→LsAt H' gl out→GiOf s out→Q (.ref r) H'
def sp__law_cell_at (K:PySem.W.Frag):Sp:=fun vs H Q _=>∃ (a:Addr) (ns:List Int) (k:Nat),vs=[.ref a,.int k]∧SqL K H a (ns.map V.int)∧ns.length≤63∧∀ c H',Same H H'→Q (.int c) H'
def sp__law_draw:Sp:=fun vs H Q _=>∃ c j,vs=[.int c,.int j]∧0≤j∧j≤1000∧∀ r H',0≤r→r < 2147483648→Same H H'→Q (.int r) H'
def sp__law_names:Sp:=fun vs H Q _=>∃ c m,vs=[.int c,.int m]∧0≤m∧m≤6∧∀ nm ws H',Same H H'→NamesAt H' nm ws→(ws.length:Int)=m→Q (.ref nm) H'
structure rwV (r:Rw):Prop where
  ni:noIf r
  pl:RwPl r
  ok:RwOk r
def sp__law_worth:Sp:=fun vs H Q _=>∃ c j,vs=[.int c,.int j]∧0≤j∧j≤900∧∀ w H',inW w=true→Same H H'→Q (.int w) H'
def sp__law_term:Sp:=fun vs H Q _=>∃ c j a ws,vs=[.int c,.int j,.ref a]∧0≤j∧j≤700∧NamesAt H a ws∧ws.length=2∧∀ p e H',Same H H'→H p=none→H' p=some (.tup e)→TermOk e→tmP e→Q (.ref p) H'
def sp__law_row:Sp:=fun vs H Q _=>∃ c j a b ws us,vs=[.int c,.int j,.ref a,.ref b]∧0≤j∧j≤600∧NamesAt H a ws∧ws.length=2∧NamesAt H b us∧us.length=2∧∀ v r H',Same H H'→RwAt (fun b=>H b=none) H' v r→rwV r→Q v H'
def sp__law_rows:Sp:=fun vs H Q _=>∃ (p:Addr) (ns:List Int) (a b:Addr) (ws us:List Str),vs=[.ref p,.ref a,.ref b]∧H p=some (.lst (ns.map V.int))∧ns.length≤8∧NamesAt H a ws∧ws.length=2∧NamesAt H b us∧us.length=2∧∀ v r H',Same H H'→RlAt (fun b=>H b=none) H' v r→RsOk 6 r→RwsOk r→(codeRs r 0).length≤40→Q v H'
def CsPl:Cs→Prop
  | .row r=>RwPl r
  | _=>True
structure CoOk (C:List Cs):Prop where
  ok:∀ c∈C,CsOk c
  pl:∀ c∈C,CsPl c
  fw:∀ (i to:Nat) (e:List V),C[i]?=some (Cs.skip e to)→i < to∧to≤C.length
  fg:∀ (i to:Nat),C[i]?=some (Cs.go to)→i < to∧to≤C.length
  le:C.length≤40
structure RnI (C:List Cs) (m:Nat) (s:RSt):Prop where
  ok:RnOk m s
  ng:∀ r∈s.gi,PyData.strOk r.1.1=true
  nn:∀ r∈s.no,PyData.strOk r.1.1=true
  at_:s.why=none→m≤s.n
  wy:∀ w,s.why=some w→PyData.strOk w=true
def sp__law_leads_on:Sp:=fun vs H Q _=>∃ (l:Addr) (xs:List V) (C:List Cs),vs=[.ref l]∧H l=some (.lst xs)∧Paired (CsAt H) xs C∧CoOk C∧∀ H',Same H H'→Q (.bl true) H'
def csP:Cs→Prop
  | .row r=>RwPl r∧noIf r
  | .skip e _=>tmP e
  | .go _=>True
def optV:Option Int→V
  | none=>.non
  | some i=>.int i
def goR (C:List Cs) (ws:List (Option Int)):RSt:=ws.foldl (fun s w=>stepR C (w.getD 0) s) st0
def PathOk (C:List Cs) (ws:List (Option Int)):Prop:=∀ k w,ws[k]?=some w→overB C (goR C (ws.take k))=false∧w.isSome=(asksR C (goR C (ws.take k))).isSome∧inW (w.getD 0)=true
def sp__law_stepped (t:Adr):Sp:=fun vs H Q _=>∃ (x md:Addr) (c:Int) (a:RAd) (C:List Cs) (s:RSt) (ws:List (Option Int)),vs=[.ref x,.int c,.ref md]∧RnAt t H x a C s∧CoOk C∧RnI C ws.length s∧ws.length≤40∧H md=some (.lst (ws.map optV))∧¬ OwA x a md ∧
  ∀ w H',inW (w.getD 0)=true→w.isSome=(asksR C s).isSome→(∀ b o,¬ Ow x a b→b≠md→H b=some o→H' b=some o)→RnAt t H' x a C (stepR C (w.getD 0) s)→H' md=some (.lst ((ws ++ [w]).map optV))→Q .non H'
def PpAt (H:Hp) (r:Addr) (s:RSt):Prop:=∃ o nl gl out,H r=some (.tup [o,.ref nl,.ref gl])∧OcAt H o (ocOf s)∧LsAt H nl s.no∧LsAt H gl out∧GiOf s out
def sp__law_again (t:Adr):Sp:=fun vs H Q _=>∃ (l md:Addr) (xs:List V) (C:List Cs) (ws:List (Option Int)),vs=[.ref l,.ref md]∧H l=some (.lst xs)∧Paired (CsAt H) xs C∧CoOk C∧H md=some (.lst (ws.map optV))∧PathOk C ws∧ws.length≤40∧overB C (goR C ws)=true∧∀ r H',Same H H'→PpAt H' r (goR C ws)→Q (.ref r) H'
def sp__law_rows_of:Sp:=fun vs H Q _=>∃ (l:Addr) (rows:List Row),vs=[.ref l]∧LsAt H l rows∧rows.length≤500∧∀ H',Same H H'→Q (.bl true) H'
def wyOk (oc:Oc) (rows:List Row):Prop:=∀ w,oc=.off w→(w=Str.ofString "told"∨w=Str.ofString "great"∨w=Str.ofString "nought")∧rows=[]
def sp__law_outcome:Sp:=fun vs H Q _=>∃ (o:V) (g:Addr) (oc:Oc) (rows:List Row),vs=[o,.ref g]∧OcAt H o oc∧LsAt H g rows∧wyOk oc rows∧∀ H',Same H H'→Q (.bl true) H'
def sp__law_paper:Sp:=fun vs H Q _=>∃ (r nl gl:Addr) (o:V) (oc:Oc) (no gi:List Row),vs=[.ref r]∧H r=some (.tup [o,.ref nl,.ref gl])∧OcAt H o oc∧LsAt H nl no∧LsAt H gl gi∧wyOk oc gi∧no.length≤500∧gi.length≤500∧Rising gi∧∀ H',Same H H'→Q (.bl true) H'
def sp__law_two (t:Adr):Sp:=fun vs H Q _=>∃ (l p:Addr) (xs:List V) (C:List Cs) (ns:List Int),vs=[.ref l,.ref p]∧H l=some (.lst xs)∧Paired (CsAt H) xs C∧CoOk C∧(∀ c∈C,csP c)∧H p=some (.lst (ns.map V.int))∧0 < ns.length∧ns.length≤63∧∀ H',Same H H'→Q (.bl true) H'
def sp_law (K:PySem.W.Frag):Sp:=fun vs H Q _=>∃ (a:Addr) (ns:List Int),vs=[.ref a]∧SqL K H a (ns.map V.int)∧ns.length≤63∧∀ H',Q (.bl true) H'
def rd__law_draw (K:PySem.W.Frag) (t:Adr):TS:=(tSeq (tAsg (tOp (rI (fun _ j=>0 < j) fun i j=>.int (i % j)) (tOp (rI0 fun i j=>.int (i + j)) (tOp (rI CMulB fun i j=>.int (i * j)) (tOp (rI (fun _ j=>0 < j) fun i j=>.int (i % j)) (tVar 0) (tC (.int 1000000007))) (tC (.int 6700417))) (tOp (rI CMulB fun i j=>.int (i * j)) (tOp (rI CMulB fun i j=>.int (i * j)) (tOp (rI0 fun i j=>.int (i + j)) (tVar 1) (tC (.int 1))) (tC (.int 104729))) (tC (.int 65537)))) (tC (.int 1000000009))) (gName 2))
    (tRet (tOp (rI CDivB fun i j=>.int (i / j)) (tOp (rI (fun _ j=>0 < j) fun i j=>.int (i % j)) (tOp (rI CMulB fun i j=>.int (i * j)) (tOp (rI (fun _ j=>0 < j) fun i j=>.int (i % j)) (tOp (rI CMulB fun i j=>.int (i * j)) (tVar 2) (tVar 2)) (tC (.int 1000000009))) (tVar 2)) (tC (.int 1000000009))) (tC (.int 32)))))
def rd__law_names_8 (K:PySem.W.Frag) (t:Adr):TS:=(tRet (tComp (iRng1 (tCons (tVar 1) tNil)) (gName 0) tYes (tOp rAddS (tOp rAddS (tSl rSlS (tVar 1) tNoPart (tPart (tVar 2))) (tOp rIxS (tVar 3) (tVar 0))) (tSl rSlS (tVar 1) (tPart (tOp (rI0 fun i j=>.int (i + j)) (tVar 2) (tC (.int 1)))) tNoPart)) 1 [4,6,3]))
def rd__law_names_5 (K:PySem.W.Frag) (t:Adr):TS:=(tSeq (tAsg (tOp (rI (fun _ j=>0 < j) fun i j=>.int (i % j)) (tCall sp__law_draw [] E0 (tCons (tVar 0) (tCons (tC (.int 8)) tNil))) (tVar 2)) (gName 6))
    (tSeq (tAsg (tOp (rI (fun _ j=>0 < j) fun i j=>.int (i % j)) (tCall sp__law_draw [] E0 (tCons (tVar 0) (tCons (tC (.int 9)) tNil))) (tCB (cLen K) (tCons (tVar 3) tNil))) (gName 7))
    (tSeq (tAsg (tOp rAddS (tSl rSlS (tVar 3) (tPart (tVar 7)) tNoPart) (tSl rSlS (tVar 3) tNoPart (tPart (tVar 7)))) (gName 3))
    (rd__law_names_8 K t))))
def rd__law_names_3 (K:PySem.W.Frag) (t:Adr):TS:=(tSeq (tAsg (tC (.str "")) (gName 4))
    (tSeq (tFor (iRng1 (tCons (tVar 2) tNil)) (gName 5)
      (tAsg (tOp rAddS (tVar 4) (tOp rIxS (tVar 3) (tOp (rI (fun _ j=>0 < j) fun i j=>.int (i % j)) (tCall sp__law_draw [] E0 (tCons (tVar 0) (tCons (tOp (rI0 fun i j=>.int (i + j)) (tC (.int 2)) (tVar 5)) tNil))) (tCB (cLen K) (tCons (tVar 3) tNil))))) (gName 4)))
    (rd__law_names_5 K t)))
def rd__law_names (K:PySem.W.Frag) (t:Adr):TS:=(tSeq (tAsg (tOp (rI0 fun i j=>.int (i + j)) (tC (.int 1)) (tOp (rI (fun _ j=>0 < j) fun i j=>.int (i % j)) (tCall sp__law_draw [] E0 (tCons (tVar 0) (tCons (tC (.int 1)) tNil))) (tC (.int 6)))) (gName 2))
    (tSeq (tAsg (tC (.str "zyxwvtsrqpnmlkjhgfdcb")) (gName 3))
    (tSeq (tIfS (tTest (tOp rEq (tVar 2) (tC (.int 6))))
      (tAsg (tC (.str "zyxwvutsrqponmlkjihgfedcba")) (gName 3))
      tNext)
    (rd__law_names_3 K t))))
def rd__law_cell_at (K:PySem.W.Frag) (t:Adr):TS:=(tSeq (tIfS (tTest (tOp (rI0 fun i j=>.bl (decide (i < j))) (tVar 1) (tCB (cLen K) (tCons (tVar 0) tNil))))
      (tRet (tOp (rIxL K) (tVar 0) (tVar 1)))
      tNext)
    (tRet (tC (.int 0))))
def rd_block_steps (K:PySem.W.Frag) (t:Adr) (n:Nat):TS:=(tSeq (tAsg (tCall (sp_steps_of  n) [] E0 (tCons (tOp (rIxT K) (tVar 0) (tC (.int 2))) (tCons (tOp (rI0 fun i j=>.int (i + j)) (tVar 1) (tC (.int 1))) tNil))) (gName 2))
    (tSeq (tAsg (tOp (rI0 fun i j=>.int (i + j)) (tOp (rI0 fun i j=>.int (i + j)) (tVar 1) (tC (.int 1))) (tCB (cLen K) (tCons (tVar 2) tNil))) (gName 3))
    (tSeq (tIfS (tTest (tOp (rEqNil K) (tOp (rIxT K) (tVar 0) (tC (.int 3))) (tLst tNil)))
      (tRet (tOp rCat (tLst (tCons (tTup (tCons (tC (.str "skip")) (tCons (tOp (rIxT K) (tVar 0) (tC (.int 1))) (tCons (tVar 3) tNil)))) tNil)) (tVar 2)))
      tNext)
    (tSeq (tAsg (tCall (sp_steps_of  n) [] E0 (tCons (tOp (rIxT K) (tVar 0) (tC (.int 3))) (tCons (tOp (rI0 fun i j=>.int (i + j)) (tVar 3) (tC (.int 1))) tNil))) (gName 4))
    (tRet (tOp rCat (tOp rCat (tOp rCat (tLst (tCons (tTup (tCons (tC (.str "skip")) (tCons (tOp (rIxT K) (tVar 0) (tC (.int 1))) (tCons (tOp (rI0 fun i j=>.int (i + j)) (tVar 3) (tC (.int 1))) tNil)))) tNil)) (tVar 2)) (tLst (tCons (tTup (tCons (tC (.str "go")) (tCons (tOp (rI0 fun i j=>.int (i + j)) (tOp (rI0 fun i j=>.int (i + j)) (tVar 3) (tC (.int 1))) (tCB (cLen K) (tCons (tVar 4) tNil))) tNil))) tNil))) (tVar 4)))))))
def rd_steps_of (K:PySem.W.Frag) (t:Adr) (n:Nat):TS:=(tSeq (tAsg (tLst tNil) (gName 2))
    (tSeq (tFor (iList K (tVar 0)) (gName 3)
      (tIfS (tTest (tOp rEq (tOp (rIxT K) (tVar 3) (tC (.int 0))) (tC (.str "if"))))
      (tDrop (tBM K "list" r_mt_extend (tVar 2) (tCons (tCall (sp_block_steps  n) [] E0 (tCons (tVar 3) (tCons (tOp (rI0 fun i j=>.int (i + j)) (tVar 1) (tCB (cLen K) (tCons (tVar 2) tNil))) tNil))) tNil)))
      (tDrop (tBM K "list" r_mt_append (tVar 2) (tCons (tVar 3) tNil)))))
    (tRet (tVar 2))))
def rd_code_of (K:PySem.W.Frag) (t:Adr):TS:=(tRet (tCall (sp_steps_of  6) [] E0 (tCons (tVar 0) (tCons (tC (.int 0)) tNil))))
def rd__law_worth (K:PySem.W.Frag) (t:Adr):TS:=(tSeq (tIfS (tTest (tOp rEq (tOp (rI (fun _ j=>0 < j) fun i j=>.int (i % j)) (tCall sp__law_draw [] E0 (tCons (tVar 0) (tCons (tVar 1) tNil))) (tC (.int 4))) (tC (.int 1))))
      (tRet (tOp (rI0 fun i j=>.int (i - j)) (tOp (rI (fun _ j=>0 < j) fun i j=>.int (i % j)) (tOp (rI0 fun i j=>.int (i + j)) (tOp (rI CMulB fun i j=>.int (i * j)) (tOp (rI CMulB fun i j=>.int (i * j)) (tOp (rI (fun _ j=>0 < j) fun i j=>.int (i % j)) (tVar 0) (tOp (rI CPow fun i j=>.int (i ^ j.toNat)) (tC (.int 10)) (tC (.int 40)))) (tOp (rI0 fun i j=>.int (i + j)) (tVar 1) (tC (.int 2)))) (tC (.int 1000003))) (tVar 1)) (tOp (rI0 fun i j=>.int (i + j)) (tOp (rI CMulB fun i j=>.int (i * j)) (tC (.int 2)) (tOp (rI CPow fun i j=>.int (i ^ j.toNat)) (tC (.int 10)) (tC (.int 30)))) (tC (.int 1)))) (tOp (rI CPow fun i j=>.int (i ^ j.toNat)) (tC (.int 10)) (tC (.int 30)))))
      tNext)
    (tRet (tOp (rI0 fun i j=>.int (i - j)) (tOp (rI (fun _ j=>0 < j) fun i j=>.int (i % j)) (tCall sp__law_draw [] E0 (tCons (tVar 0) (tCons (tOp (rI0 fun i j=>.int (i + j)) (tVar 1) (tC (.int 1))) tNil))) (tC (.int 6))) (tC (.int 2)))))
def rd__law_term_3 (K:PySem.W.Frag) (t:Adr):TS:=(tSeq (tAsg (tLst (tCons (tC (.str "plus")) (tCons (tC (.str "minus")) (tCons (tC (.str "times")) (tCons (tC (.str "over")) (tCons (tC (.str "rest")) (tCons (tC (.str "same")) (tCons (tC (.str "under")) tNil)))))))) (gName 4))
    (tRet (tTup (tCons (tVar 3) (tCons (tOp (rIxL K) (tVar 2) (tOp (rI (fun _ j=>0 < j) fun i j=>.int (i % j)) (tCall sp__law_draw [] E0 (tCons (tVar 0) (tCons (tOp (rI0 fun i j=>.int (i + j)) (tVar 1) (tC (.int 5))) tNil))) (tC (.int 2)))) (tCons (tOp (rIxL K) (tVar 4) (tOp (rI (fun _ j=>0 < j) fun i j=>.int (i % j)) (tCall sp__law_draw [] E0 (tCons (tVar 0) (tCons (tOp (rI0 fun i j=>.int (i + j)) (tVar 1) (tC (.int 6))) tNil))) (tC (.int 7)))) tNil))))))
def rd__law_term_2 (K:PySem.W.Frag) (t:Adr):TS:=(tSeq (tIfS (tTest (tOp (rI0 fun i j=>.bl (decide (j < i))) (tOp (rI (fun _ j=>0 < j) fun i j=>.int (i % j)) (tCall sp__law_draw [] E0 (tCons (tVar 0) (tCons (tOp (rI0 fun i j=>.int (i + j)) (tVar 1) (tC (.int 4))) tNil))) (tC (.int 3))) (tC (.int 0))))
      (tRet (tTup (tCons (tVar 3) tNil)))
      tNext)
    (rd__law_term_3 K t))
def rd__law_term (K:PySem.W.Frag) (t:Adr):TS:=(tSeq (tAsg (tOp (rIxL K) (tVar 2) (tOp (rI (fun _ j=>0 < j) fun i j=>.int (i % j)) (tCall sp__law_draw [] E0 (tCons (tVar 0) (tCons (tVar 1) tNil))) (tC (.int 2)))) (gName 3))
    (tSeq (tIfS (tTest (tOp rEq (tOp (rI (fun _ j=>0 < j) fun i j=>.int (i % j)) (tCall sp__law_draw [] E0 (tCons (tVar 0) (tCons (tOp (rI0 fun i j=>.int (i + j)) (tVar 1) (tC (.int 1))) tNil))) (tC (.int 2))) (tC (.int 0))))
      (tAsg (tCall sp__law_worth [] E0 (tCons (tVar 0) (tCons (tOp (rI0 fun i j=>.int (i + j)) (tVar 1) (tC (.int 2))) tNil))) (gName 3))
      tNext)
    (rd__law_term_2 K t)))
def rd__law_row_5 (K:PySem.W.Frag) (t:Adr):TS:=(tSeq (tIfS (tTest (tOp (rI0 fun i j=>.bl (decide (i < j))) (tVar 4) (tC (.int 6))))
      (tRet (tTup (tCons (tC (.str "take")) (tCons (tVar 5) (tCons (tVar 7) (tCons (tVar 6) tNil))))))
      tNext)
    (tSeq (tIfS (tTest (tOp (rI0 fun i j=>.bl (decide (i < j))) (tVar 4) (tC (.int 11))))
      (tRet (tTup (tCons (tC (.str "give")) (tCons (tVar 5) (tCons (tVar 7) (tCons (tCall sp__law_term [] E0 (tCons (tVar 0) (tCons (tOp (rI0 fun i j=>.int (i + j)) (tVar 1) (tC (.int 20))) (tCons (tVar 2) tNil)))) tNil))))))
      tNext)
    (tSeq (tIfS (tTest (tOp (rI0 fun i j=>.bl (decide (i < j))) (tVar 4) (tC (.int 13))))
      (tRet (tTup (tCons (tC (.str "let")) (tCons (tVar 6) (tCons (tCall sp__law_term [] E0 (tCons (tVar 0) (tCons (tOp (rI0 fun i j=>.int (i + j)) (tVar 1) (tC (.int 20))) (tCons (tVar 2) tNil)))) tNil)))))
      tNext)
    (tSeq (tIfS (tTest (tOp rEq (tVar 4) (tC (.int 13))))
      (tRet (tTup (tCons (tC (.str "off")) (tCons (tTup (tCons (tVar 6) (tCons (tCall sp__law_worth [] E0 (tCons (tVar 0) (tCons (tOp (rI0 fun i j=>.int (i + j)) (tVar 1) (tC (.int 30))) tNil))) (tCons (tC (.str "same")) tNil)))) tNil))))
      tNext)
    (tRet (tTup (tCons (tC (.str "say")) (tCons (tCall sp__law_term [] E0 (tCons (tVar 0) (tCons (tOp (rI0 fun i j=>.int (i + j)) (tVar 1) (tC (.int 20))) (tCons (tVar 2) tNil)))) tNil))))))))
def rd__law_row (K:PySem.W.Frag) (t:Adr):TS:=(tSeq (tAsg (tOp (rI (fun _ j=>0 < j) fun i j=>.int (i % j)) (tCall sp__law_draw [] E0 (tCons (tVar 0) (tCons (tVar 1) tNil))) (tC (.int 16))) (gName 4))
    (tSeq (tAsg (tOp (rIxL K) (tVar 3) (tOp (rI (fun _ j=>0 < j) fun i j=>.int (i % j)) (tCall sp__law_draw [] E0 (tCons (tVar 0) (tCons (tOp (rI0 fun i j=>.int (i + j)) (tVar 1) (tC (.int 1))) tNil))) (tC (.int 2)))) (gName 5))
    (tSeq (tAsg (tOp (rIxL K) (tVar 2) (tOp (rI (fun _ j=>0 < j) fun i j=>.int (i % j)) (tCall sp__law_draw [] E0 (tCons (tVar 0) (tCons (tOp (rI0 fun i j=>.int (i + j)) (tVar 1) (tC (.int 2))) tNil))) (tC (.int 2)))) (gName 6))
    (tSeq (tAsg (tTup (tCons (tOp (rI0 fun i j=>.int (i - j)) (tOp (rI (fun _ j=>0 < j) fun i j=>.int (i % j)) (tCall sp__law_draw [] E0 (tCons (tVar 0) (tCons (tOp (rI0 fun i j=>.int (i + j)) (tVar 1) (tC (.int 3))) tNil))) (tC (.int 4))) (tC (.int 1))) tNil)) (gName 7))
    (tSeq (tIfS (tTest (tOp rEq (tOp (rI (fun _ j=>0 < j) fun i j=>.int (i % j)) (tCall sp__law_draw [] E0 (tCons (tVar 0) (tCons (tOp (rI0 fun i j=>.int (i + j)) (tVar 1) (tC (.int 4))) tNil))) (tC (.int 5))) (tC (.int 0))))
      (tAsg (tCall sp__law_term [] E0 (tCons (tVar 0) (tCons (tOp (rI0 fun i j=>.int (i + j)) (tVar 1) (tC (.int 10))) (tCons (tVar 2) tNil)))) (gName 7))
      tNext)
    (rd__law_row_5 K t))))))
def rd__law_rows (K:PySem.W.Frag) (t:Adr):TS:=(tSeq (tAsg (tLst tNil) (gName 3))
    (tSeq (tFor (iList K (tVar 0)) (gName 4)
      (tSeq (tAsg (tCall sp__law_row [] E0 (tCons (tVar 4) (tCons (tC (.int 10)) (tCons (tVar 1) (tCons (tVar 2) tNil))))) (gName 5))
    (tSeq (tIfS (tTest (tOp rEq (tOp (rI (fun _ j=>0 < j) fun i j=>.int (i % j)) (tCall sp__law_draw [] E0 (tCons (tVar 4) (tCons (tC (.int 0)) tNil))) (tC (.int 4))) (tC (.int 0))))
      (tSeq (tAsg (tLst (tCons (tCall sp__law_row [] E0 (tCons (tVar 4) (tCons (tC (.int 60)) (tCons (tVar 1) (tCons (tVar 2) tNil))))) tNil)) (gName 6))
    (tAsg (tTup (tCons (tC (.str "if")) (tCons (tCall sp__law_term [] E0 (tCons (tVar 4) (tCons (tC (.int 120)) (tCons (tVar 1) tNil)))) (tCons (tLst (tCons (tVar 5) tNil)) (tCons (tSl (rSlL K) (tVar 6) tNoPart (tPart (tOp (rI (fun _ j=>0 < j) fun i j=>.int (i % j)) (tCall sp__law_draw [] E0 (tCons (tVar 4) (tCons (tC (.int 1)) tNil))) (tC (.int 2))))) tNil))))) (gName 5)))
      tNext)
    (tDrop (tBM K "list" r_mt_append (tVar 3) (tCons (tVar 5) tNil))))))
    (tRet (tVar 3))))
def rd_Run_over (K:PySem.W.Frag) (t:Adr):TS:=(tRet (tOrV (tOp rNotN (tFld K (tVar 0) "why") (tC .non)) (tOp (rI0 fun i j=>.bl (decide (j≤i))) (tFld K (tVar 0) "at") (tCB (cLen K) (tCons (tFld K (tVar 0) "code") tNil)))))
def rd_Run_taken (K:PySem.W.Frag) (t:Adr):TS:=(tSeq (tIfS (tTest (tOp (rInD false) (tVar 1) (tFld K (tVar 0) "gifts")))
      (tRet (tDGet (tFld K (tVar 0) "gifts") (tVar 1)))
      tNext)
    (tSeq (tIfS (tTest (tOp (rInD true) (tVar 1) (tFld K (tVar 0) "notes")))
      (sDPut (tFld K (tVar 0) "notes") (tVar 1) (tVar 2))
      tNext)
    (tRet (tDGet (tFld K (tVar 0) "notes") (tVar 1)))))
def rd_divided (K:PySem.W.Frag) (t:Adr) (E:XK):TS:=(tSeq (tIfS (tTest (tOp rEq (tVar 2) (tC (.int 0))))
      (tRaise t.c_Nought (tCons (tMsgS (tVar 0)) tNil) E)
      tNext)
    (tRet (tIf (tTest (tOp rEq (tVar 0) (tC (.str "over")))) (tOp (rI CDivS fun i j=>.int (i.fdiv j)) (tVar 1) (tVar 2)) (tOp (rI (fun _ j=>j≠0) fun i j=>.int (i.fmod j)) (tVar 1) (tVar 2)))))
def rd_come_to (K:PySem.W.Frag) (t:Adr) (E:XK):TS:=(tSeq (tIfS (tTest (tOp rEq (tVar 0) (tC (.str "plus"))))
      (tRet (tOp (rI0 fun i j=>.int (i + j)) (tVar 1) (tVar 2)))
      tNext)
    (tSeq (tIfS (tTest (tOp rEq (tVar 0) (tC (.str "minus"))))
      (tRet (tOp (rI0 fun i j=>.int (i - j)) (tVar 1) (tVar 2)))
      tNext)
    (tSeq (tIfS (tTest (tOp rEq (tVar 0) (tC (.str "times"))))
      (tRet (tOp (rI CMulB fun i j=>.int (i * j)) (tVar 1) (tVar 2)))
      tNext)
    (tSeq (tIfS (tTest (tOp rEq (tVar 0) (tC (.str "under"))))
      (tRet (tIf (tTest (tOp (rI0 fun i j=>.bl (decide (i < j))) (tVar 1) (tVar 2))) (tC (.int 1)) (tC (.int 0))))
      tNext)
    (tSeq (tIfS (tTest (tOp rEq (tVar 0) (tC (.str "same"))))
      (tRet (tIf (tTest (tOp rEq (tVar 1) (tVar 2))) (tC (.int 1)) (tC (.int 0))))
      tNext)
    (tRet (tCall (sp_divided t) [] E (tCons (tVar 0) (tCons (tVar 1) (tCons (tVar 2) tNil))))))))))
def rd_is_worth (K:PySem.W.Frag) (t:Adr):TS:=(tSeq (tIfS (tOr (tNot (tB (tCB (cIsi K) (tCons (tVar 0) (tCons (tC (.ty "int")) tNil))))) (tB (tCB (cIsi K) (tCons (tVar 0) (tCons (tC (.ty "bool")) tNil)))))
      (tRet (tC (.bl false)))
      tNext)
    (tRet (tChain (rI0 fun i j=>.bl (decide (i≤j))) (rI0 fun i j=>.bl (decide (i≤j))) (tUn (rU fun i=>.int (-i)) (tOp (rI CPow fun i j=>.int (i ^ j.toNat)) (tC (.int 10)) (tC (.int 30)))) (tVar 0) (tOp (rI CPow fun i j=>.int (i ^ j.toNat)) (tC (.int 10)) (tC (.int 30))))))
def rd_joined (K:PySem.W.Frag) (t:Adr) (E:XK):TS:=(tSeq (tAsg (tCall (sp_come_to t) [] E (tCons (tVar 0) (tCons (tVar 1) (tCons (tVar 2) tNil)))) (gName 3))
    (tSeq (tIfS (tNot (tB (tCall sp_is_worth [] E (tCons (tVar 3) tNil))))
      (tRaise t.c_Great (tCons (tMsgS (tVar 0)) tNil) E)
      tNext)
    (tRet (tVar 3))))
def rd_reckoned (K:PySem.W.Frag) (t:Adr) (E:XK):TS:=(tSeq (tAsg (tLst tNil) (gName 2))
    (tSeq (tFor (iTup K (tVar 0)) (gName 3)
      (tIfS (tTest (tOp (rIn K false) (tVar 3) (tC (.ref t.c_JOINING))))
      (tSeq (tAsg (tBM0 K "list" r_mt_pop (tVar 2)) (gName 4))
    (tSeq (tAsg (tBM0 K "list" r_mt_pop (tVar 2)) (gName 5))
    (tDrop (tBM K "list" r_mt_append (tVar 2) (tCons (tCall (sp_joined t) [] E (tCons (tVar 3) (tCons (tVar 5) (tCons (tVar 4) tNil)))) tNil)))))
      (tDrop (tBM K "list" r_mt_append (tVar 2) (tCons (tIf (tB (tCB (cIsi K) (tCons (tVar 3) (tCons (tC (.ty "str")) tNil)))) (tDGet2 (tVar 1) (tVar 3) (tC (.int 0))) (tVar 3)) tNil)))))
    (tRet (tBM0 K "list" r_mt_pop (tVar 2)))))
def rd_Run_worth_of (K:PySem.W.Frag) (t:Adr) (E:XK):TS:=(tRet (tCall (sp_reckoned t) [] E (tCons (tVar 1) (tCons (tFld K (tVar 0) "slots") tNil))))
def rd_Run_place_in (K:PySem.W.Frag) (t:Adr) (E:XK):TS:=(tRet (tTup (tCons (tOp (rIxT K) (tVar 1) (tC (.int 1))) (tCons (tMeth t.c_Run "worth_of" (sp_Run_worth_of t) [] E (tVar 0) (tCons (tOp (rIxT K) (tVar 1) (tC (.int 2))) tNil)) tNil))))
def rd_Run_does (K:PySem.W.Frag) (t:Adr) (E:XK):TS:=(tIfS (tTest (tOp rEq (tOp (rIxT K) (tVar 1) (tC (.int 0))) (tC (.str "take"))))
      (sDPut (tFld K (tVar 0) "slots") (tOp (rIxT K) (tVar 1) (tC (.int 3))) (tMeth t.c_Run "taken" (sp_Run_taken t) [] E (tVar 0) (tCons (tMeth t.c_Run "place_in" (sp_Run_place_in t) [] E (tVar 0) (tCons (tVar 1) tNil)) (tCons (tVar 2) tNil))))
      (tIfS (tTest (tOp rEq (tOp (rIxT K) (tVar 1) (tC (.int 0))) (tC (.str "give"))))
      (tSeq (tAsg (tMeth t.c_Run "place_in" (sp_Run_place_in t) [] E (tVar 0) (tCons (tVar 1) tNil)) (gName 3))
    (sDPut (tFld K (tVar 0) "gifts") (tVar 3) (tMeth t.c_Run "worth_of" (sp_Run_worth_of t) [] E (tVar 0) (tCons (tOp (rIxT K) (tVar 1) (tC (.int 3))) tNil))))
      (tIfS (tTest (tOp rEq (tOp (rIxT K) (tVar 1) (tC (.int 0))) (tC (.str "let"))))
      (sDPut (tFld K (tVar 0) "slots") (tOp (rIxT K) (tVar 1) (tC (.int 1))) (tMeth t.c_Run "worth_of" (sp_Run_worth_of t) [] E (tVar 0) (tCons (tOp (rIxT K) (tVar 1) (tC (.int 2))) tNil)))
      (tDrop (tBM K "list" r_mt_append (tFld K (tVar 0) "sayings") (tCons (tMeth t.c_Run "worth_of" (sp_Run_worth_of t) [] E (tVar 0) (tCons (tOp (rIxT K) (tVar 1) (tC (.int 1))) tNil)) tNil))))))
def rd_Run_led_by (K:PySem.W.Frag) (t:Adr) (E:XK):TS:=(tSeq (tIfS (tTest (tOp rEq (tOp (rIxT K) (tVar 1) (tC (.int 0))) (tC (.str "go"))))
      (tRet (tOp (rIxT K) (tVar 1) (tC (.int 1))))
      tNext)
    (tSeq (tIfS (tTest (tOp rEq (tOp (rIxT K) (tVar 1) (tC (.int 0))) (tC (.str "skip"))))
      (tRet (tIf (tTest (tOp rEq (tMeth t.c_Run "worth_of" (sp_Run_worth_of t) [] E (tVar 0) (tCons (tOp (rIxT K) (tVar 1) (tC (.int 1))) tNil)) (tC (.int 0)))) (tOp (rIxT K) (tVar 1) (tC (.int 2))) (tOp (rI0 fun i j=>.int (i + j)) (tFld K (tVar 0) "at") (tC (.int 1)))))
      tNext)
    (tSeq (tIfS (tTest (tOp rEq (tOp (rIxT K) (tVar 1) (tC (.int 0))) (tC (.str "off"))))
      (tIfS (tTest (tOp rNe (tMeth t.c_Run "worth_of" (sp_Run_worth_of t) [] E (tVar 0) (tCons (tOp (rIxT K) (tVar 1) (tC (.int 1))) tNil)) (tC (.int 0))))
      (sFld K (tVar 0) (tC (.str "told")) "why")
      tNext)
      (tDrop (tMeth t.c_Run "does" (sp_Run_does t) [] E (tVar 0) (tCons (tVar 1) (tCons (tVar 2) tNil)))))
    (tRet (tOp (rI0 fun i j=>.int (i + j)) (tFld K (tVar 0) "at") (tC (.int 1)))))))
def rd_Run_step (K:PySem.W.Frag) (t:Adr):TS:=(tSeq (tIfS (tB (tMeth t.c_Run "over" (sp_Run_over t) [] E0 (tVar 0) tNil))
      tRetN
      tNext)
    (tTryNN K (sFldX K (tVar 0) (tMethX t.c_Run "led_by" (sp_Run_led_by t) (tVar 0) (tCons (tOp (rIxL K) (tFld K (tVar 0) "code") (tFld K (tVar 0) "at")) (tCons (tVar 1) tNil))) "at") t.c_Great (sFld K (tVar 0) (tC (.str "great")) "why") t.c_Nought (sFld K (tVar 0) (tC (.str "nought")) "why")))
def rd__law_leads_on (K:PySem.W.Frag) (t:Adr):TS:=(tSeq (tFor (iRng1 (tCons (tCB (cLen K) (tCons (tVar 0) tNil)) tNil)) (gName 1)
      (tSeq (tAsg (tOp (rI0 fun i j=>.int (i + j)) (tVar 1) (tC (.int 1))) (gName 2))
    (tSeq (tIfS (tTest (tOp rEq (tOp (rIxT K) (tOp (rIxL K) (tVar 0) (tVar 1)) (tC (.int 0))) (tC (.str "skip"))))
      (tAsg (tOp (rIxT K) (tOp (rIxL K) (tVar 0) (tVar 1)) (tC (.int 2))) (gName 2))
      tNext)
    (tSeq (tIfS (tTest (tOp rEq (tOp (rIxT K) (tOp (rIxL K) (tVar 0) (tVar 1)) (tC (.int 0))) (tC (.str "go"))))
      (tAsg (tOp (rIxT K) (tOp (rIxL K) (tVar 0) (tVar 1)) (tC (.int 1))) (gName 2))
      tNext)
    (tIfS (tOr (tTest (tOp (rI0 fun i j=>.bl (decide (i≤j))) (tVar 2) (tVar 1))) (tTest (tOp (rI0 fun i j=>.bl (decide (j < i))) (tVar 2) (tCB (cLen K) (tCons (tVar 0) tNil)))))
      (tRet (tC (.bl false)))
      tNext)))))
    (tRet (tC (.bl true))))
def rd_Run_init (K:PySem.W.Frag) (t:Adr):TS:=(tSeq (sFld K (tVar 0) (tCB (cLst K) (tCons (tVar 1) tNil)) "code")
    (tSeq (sFld K (tVar 0) (tC (.int 0)) "at")
    (tSeq (sFld K (tVar 0) (tC .non) "why")
    (tSeq (sFld K (tVar 0) tDNewK "slots")
    (tSeq (sFld K (tVar 0) tDNewT "gifts")
    (tSeq (sFld K (tVar 0) tDNewT "notes")
    (sFld K (tVar 0) (tLst tNil) "sayings")))))))
def rd_Run_asks_2 (K:PySem.W.Frag) (t:Adr):TS:=(tSeq (tIfS (tOr (tTest (tOp (rInD false) (tVar 1) (tFld K (tVar 0) "gifts"))) (tTest (tOp (rInD false) (tVar 1) (tFld K (tVar 0) "notes"))))
      (tRet (tC .non))
      tNext)
    (tRet (tVar 1)))
def rd_Run_asks_1 (K:PySem.W.Frag) (t:Adr):TS:=(tSeq (tTryT K (tAsgX (tMethX t.c_Run "place_in" (sp_Run_place_in t) (tVar 0) (tCons (tOp (rIxL K) (tFld K (tVar 0) "code") (tFld K (tVar 0) "at")) tNil)) 1) t.c_Great t.c_Nought (tRet (tC .non)))
    (rd_Run_asks_2 K t))
def rd_Run_asks (K:PySem.W.Frag) (t:Adr):TS:=(tSeq (tIfS (tOr (tB (tMeth t.c_Run "over" (sp_Run_over t) [] E0 (tVar 0) tNil)) (tTest (tOp rNe (tOp (rIxT K) (tOp (rIxL K) (tFld K (tVar 0) "code") (tFld K (tVar 0) "at")) (tC (.int 0))) (tC (.str "take")))))
      (tRet (tC .non))
      tNext)
    (rd_Run_asks_1 K t))
def rd__law_stepped (K:PySem.W.Frag) (t:Adr):TS:=(tIfS (tTest (tOp rIsN (tMeth t.c_Run "asks" (sp_Run_asks t) [] E0 (tVar 0) tNil) (tC .non)))
      (tSeq (tDrop (tBM K "list" r_mt_append (tVar 2) (tCons (tC .non) tNil)))
    (tDrop (tMeth t.c_Run "step" (sp_Run_step t) [.int 0] E0 (tVar 0) tNil)))
      (tSeq (tDrop (tBM K "list" r_mt_append (tVar 2) (tCons (tCall sp__law_worth [] E0 (tCons (tVar 1) (tCons (tOp (rI0 fun i j=>.int (i + j)) (tC (.int 140)) (tCB (cLen K) (tCons (tVar 2) tNil))) tNil))) tNil)))
    (tDrop (tMeth t.c_Run "step" (sp_Run_step t) [] E0 (tVar 0) (tCons (tOp (rIxL K) (tVar 2) (tUn (rU fun i=>.int (-i)) (tC (.int 1)))) tNil)))))
def rd_Run_paper_2 (K:PySem.W.Frag) (t:Adr):TS:=(tSeq (tIfS (tTest (tOp rNotN (tFld K (tVar 0) "why") (tC .non)))
      (tRet (tTup (tCons (tTup (tCons (tC (.str "off")) (tCons (tFld K (tVar 0) "why") tNil))) (tCons (tVar 1) (tCons (tLst tNil) tNil)))))
      tNext)
    (tRet (tTup (tCons (tTup (tCons (tC (.str "done")) (tCons (tCB (cTup K) (tCons (tFld K (tVar 0) "sayings") tNil)) tNil))) (tCons (tVar 1) (tCons (tCB cSrtI (tCons (tItems (tFld K (tVar 0) "gifts")) tNil)) tNil))))))
def rd_Run_paper_1 (K:PySem.W.Frag) (t:Adr):TS:=(tSeq (tAsg (tCB cLstI (tCons (tItems (tFld K (tVar 0) "notes")) tNil)) (gName 1))
    (rd_Run_paper_2 K t))
def rd_Run_paper (K:PySem.W.Frag) (t:Adr):TS:=(tSeq (tIfS (tNot (tB (tMeth t.c_Run "over" (sp_Run_over t) [] E0 (tVar 0) tNil)))
      (tRet (tC .non))
      tNext)
    (rd_Run_paper_1 K t))
def rd__law_outcome (K:PySem.W.Frag) (t:Adr):TS:=(tSeq (tIfS (tOr (tNot (tB (tCB (cIsi K) (tCons (tVar 0) (tCons (tC (.ty "tuple")) tNil))))) (tTest (tOp rNe (tCB (cLen K) (tCons (tVar 0) tNil)) (tC (.int 2)))))
      (tRet (tC (.bl false)))
      tNext)
    (tSeq (tIfS (tTest (tOp rEq (tOp (rIxT K) (tVar 0) (tC (.int 0))) (tC (.str "off"))))
      (tRet (tAndV (tOp (rIn K false) (tOp (rIxT K) (tVar 0) (tC (.int 1))) (tTup (tCons (tC (.str "told")) (tCons (tC (.str "great")) (tCons (tC (.str "nought")) tNil))))) (tOp (rEqNil K) (tVar 1) (tLst tNil))))
      tNext)
    (tRet (tAndV (tOp rEq (tOp (rIxT K) (tVar 0) (tC (.int 0))) (tC (.str "done"))) (tCB (cIsi K) (tCons (tOp (rIxT K) (tVar 0) (tC (.int 1))) (tCons (tC (.ty "tuple")) tNil)))))))
def rd__law_rows_of (K:PySem.W.Frag) (t:Adr):TS:=(tSeq (tIfS (tNot (tB (tCB (cIsi K) (tCons (tVar 0) (tCons (tC (.ty "list")) tNil)))))
      (tRet (tC (.bl false)))
      tNext)
    (tSeq (tFor (iList K (tVar 0)) (gName 1)
      (tSeq (tIfS (tOr (tNot (tB (tCB (cIsi K) (tCons (tVar 1) (tCons (tC (.ty "tuple")) tNil))))) (tOr (tTest (tOp rNe (tCB (cLen K) (tCons (tVar 1) tNil)) (tC (.int 2)))) (tNot (tB (tCB (cIsi K) (tCons (tOp (rIxT K) (tVar 1) (tC (.int 0))) (tCons (tC (.ty "tuple")) tNil)))))))
      (tRet (tC (.bl false)))
      tNext)
    (tIfS (tOr (tNot (tB (tCB (cIsi K) (tCons (tOp (rIxT K) (tVar 1) (tC (.int 1))) (tCons (tC (.ty "int")) tNil))))) (tB (tCB (cIsi K) (tCons (tOp (rIxT K) (tVar 1) (tC (.int 1))) (tCons (tC (.ty "bool")) tNil)))))
      (tRet (tC (.bl false)))
      tNext)))
    (tRet (tC (.bl true)))))
def rd__law_paper (K:PySem.W.Frag) (t:Adr):TS:=(tSeq (tIfS (tOr (tNot (tB (tCB (cIsi K) (tCons (tVar 0) (tCons (tC (.ty "tuple")) tNil))))) (tOr (tTest (tOp rNe (tCB (cLen K) (tCons (tVar 0) tNil)) (tC (.int 3)))) (tNot (tB (tCall sp__law_outcome [] E0 (tCons (tOp (rIxT K) (tVar 0) (tC (.int 0))) (tCons (tOp (rIxT K) (tVar 0) (tC (.int 2))) tNil)))))))
      (tRet (tC (.bl false)))
      tNext)
    (tSeq (tIfS (tOr (tNot (tB (tCall sp__law_rows_of [] E0 (tCons (tOp (rIxT K) (tVar 0) (tC (.int 1))) tNil)))) (tNot (tB (tCall sp__law_rows_of [] E0 (tCons (tOp (rIxT K) (tVar 0) (tC (.int 2))) tNil)))))
      (tRet (tC (.bl false)))
      tNext)
    (tSeq (tFor (iRng2 (tCons (tC (.int 1)) (tCons (tCB (cLen K) (tCons (tOp (rIxT K) (tVar 0) (tC (.int 2))) tNil)) tNil))) (gName 1)
      (tIfS (tNot (tTest (tOp rLtP (tOp (rIxT K) (tOp (rIxL K) (tOp (rIxT K) (tVar 0) (tC (.int 2))) (tOp (rI0 fun i j=>.int (i - j)) (tVar 1) (tC (.int 1)))) (tC (.int 0))) (tOp (rIxT K) (tOp (rIxL K) (tOp (rIxT K) (tVar 0) (tC (.int 2))) (tVar 1)) (tC (.int 0))))))
      (tRet (tC (.bl false)))
      tNext))
    (tRet (tC (.bl true))))))
def rd__law_again (K:PySem.W.Frag) (t:Adr):TS:=(tSeq (tAsg (tMake t.c_Run (sp_Run_init t) [] E0 (tCons (tCB (cLst K) (tCons (tVar 0) tNil)) tNil)) (gName 2))
    (tSeq (tFor (iRng1 (tCons (tCB (cLen K) (tCons (tVar 1) tNil)) tNil)) (gName 3)
      (tSeq (tIfS (tOr (tTest (tOp rIsNotB (tMeth t.c_Run "over" (sp_Run_over t) [] E0 (tVar 2) tNil) (tC (.bl false)))) (tTest (tOp rNotN (tMeth t.c_Run "paper" (sp_Run_paper t) [] E0 (tVar 2) tNil) (tC .non))))
      (tRet (tC .non))
      tNext)
    (tIfS (tTest (tOp rIsN (tOp (rIxL K) (tVar 1) (tVar 3)) (tC .non)))
      (tDrop (tMeth t.c_Run "step" (sp_Run_step t) [] E0 (tVar 2) (tCons (tOp (rI0 fun i j=>.int (i + j)) (tC (.int 1000)) (tVar 3)) tNil)))
      (tDrop (tMeth t.c_Run "step" (sp_Run_step t) [] E0 (tVar 2) (tCons (tOp (rIxL K) (tVar 1) (tVar 3)) tNil))))))
    (tRet (tMeth t.c_Run "paper" (sp_Run_paper t) [] E0 (tVar 2) tNil))))
def rd__law_two_E (K:PySem.W.Frag) (t:Adr):TS:=(tSeq (tDrop (tCall (sp__law_stepped t) [] E0 (tCons (tOp (rIxL K) (tVar 3) (tVar 7)) (tCons (tOp (rI0 fun i j=>.int (i + j)) (tOp (rI CMulB fun i j=>.int (i * j)) (tVar 6) (tC (.int 2))) (tVar 7)) (tCons (tOp (rIxL K) (tVar 4) (tVar 7)) tNil)))))
    (tAsg (tOp (rI0 fun i j=>.int (i + j)) (tVar 5) (tC (.int 1))) (gName 5)))
def rd__law_two_D (K:PySem.W.Frag) (t:Adr):TS:=(tSeq (tIfS (tB (tMeth t.c_Run "over" (sp_Run_over t) [] E0 (tOp (rIxL K) (tVar 3) (tVar 7)) tNil))
      (tAsg (tOp (rI0 fun i j=>.int (i - j)) (tC (.int 1)) (tVar 7)) (gName 7))
      tNext)
    (rd__law_two_E K t))
def rd__law_two_B (K:PySem.W.Frag) (t:Adr):TS:=(tSeq (tIfS (tTest (tOp (rI0 fun i j=>.bl (decide (j < i))) (tVar 5) (tOp (rI CMulB fun i j=>.int (i * j)) (tC (.int 4)) (tCB (cLen K) (tCons (tVar 0) tNil)))))
      (tRet (tC (.bl false)))
      tNext)
    (tSeq (tAsg (tOp (rI0 fun i j=>.int (i + j)) (tOp (rI (fun _ j=>0 < j) fun i j=>.int (i % j)) (tOp (rIxL K) (tVar 1) (tOp (rI (fun _ j=>0 < j) fun i j=>.int (i % j)) (tVar 5) (tCB (cLen K) (tCons (tVar 1) tNil)))) (tOp (rI CPow fun i j=>.int (i ^ j.toNat)) (tC (.int 10)) (tC (.int 40)))) (tVar 5)) (gName 6))
    (tSeq (tAsg (tOp (rI (fun _ j=>0 < j) fun i j=>.int (i % j)) (tCall sp__law_draw [] E0 (tCons (tVar 6) (tCons (tC (.int 2)) tNil))) (tC (.int 2))) (gName 7))
    (rd__law_two_D K t))))
def rd__law_two_5 (K:PySem.W.Frag) (t:Adr):TS:=(tSeq (tFor (iRng1 (tCons (tC (.int 2)) tNil)) (gName 8)
      (tSeq (tAsg (tMeth t.c_Run "paper" (sp_Run_paper t) [] E0 (tOp (rIxL K) (tVar 3) (tVar 8)) tNil) (gName 9))
    (tIfS (tOr (tNot (tB (tCall sp__law_paper [] E0 (tCons (tVar 9) tNil)))) (tOr (tTest (tOp (rI0 fun i j=>.bl (decide (j < i))) (tCB (cLen K) (tCons (tOp (rIxL K) (tVar 4) (tVar 8)) tNil)) (tCB (cLen K) (tCons (tVar 0) tNil)))) (tTest (tOp (rEqD K true) (tCall (sp__law_again t) [] E0 (tCons (tVar 0) (tCons (tOp (rIxL K) (tVar 4) (tVar 8)) tNil))) (tVar 9)))))
      (tRet (tC (.bl false)))
      tNext)))
    (tRet (tOp (rEqD K false) (tVar 2) (tVar 0))))
def rd__law_two_4 (K:PySem.W.Frag) (t:Adr):TS:=(tSeq (tWhile (tNot (tAnd (tB (tMeth t.c_Run "over" (sp_Run_over t) [] E0 (tOp (rIxL K) (tVar 3) (tC (.int 0))) tNil)) (tB (tMeth t.c_Run "over" (sp_Run_over t) [] E0 (tOp (rIxL K) (tVar 3) (tC (.int 1))) tNil)))) (rd__law_two_B K t))
    (rd__law_two_5 K t))
def rd__law_two (K:PySem.W.Frag) (t:Adr):TS:=(tSeq (tAsg (tCB (cLst K) (tCons (tVar 0) tNil)) (gName 2))
    (tSeq (tAsg (tLst (tCons (tMake t.c_Run (sp_Run_init t) [] E0 (tCons (tVar 2) tNil)) (tCons (tMake t.c_Run (sp_Run_init t) [] E0 (tCons (tVar 2) tNil)) tNil))) (gName 3))
    (tSeq (tAsg (tLst (tCons (tLst tNil) (tCons (tLst tNil) tNil))) (gName 4))
    (tSeq (tAsg (tC (.int 0)) (gName 5))
    (rd__law_two_4 K t)))))
def rd_law_5 (K:PySem.W.Frag) (t:Adr):TS:=(tRet (tAndV (tOp rIsB (tMeth t.c_Run "over" (sp_Run_over t) [] E0 (tMake t.c_Run (sp_Run_init t) [] E0 (tCons (tLst tNil) tNil)) tNil) (tC (.bl true))) (tOp rIsN (tMeth t.c_Run "step" (sp_Run_step t) [.int 0] E0 (tMake t.c_Run (sp_Run_init t) [] E0 (tCons (tLst tNil) tNil)) tNil) (tC .non))))
def rd_law_4 (K:PySem.W.Frag) (t:Adr):TS:=(tSeq (tFor (iRng3 (tCons (tC (.int 0)) (tCons (tCB (cLen K) (tCons (tVar 4) tNil)) (tCons (tVar 3) tNil)))) (gName 5)
      (tSeq (tAsg (tSl (rSlL K) (tVar 4) (tPart (tVar 5)) (tPart (tOp (rI0 fun i j=>.int (i + j)) (tVar 5) (tVar 3)))) (gName 6))
    (tSeq (tAsg (tCall sp_code_of [] E0 (tCons (tCall sp__law_rows [] E0 (tCons (tVar 6) (tCons (tVar 1) (tCons (tVar 2) tNil)))) tNil)) (gName 7))
    (tIfS (tOr (tNot (tB (tCall sp__law_leads_on [] E0 (tCons (tVar 7) tNil)))) (tNot (tB (tCall (sp__law_two t) [] E0 (tCons (tVar 7) (tCons (tVar 6) tNil))))))
      (tRet (tC (.bl false)))
      tNext))))
    (rd_law_5 K t))
def rd_law_3 (K:PySem.W.Frag) (t:Adr):TS:=(tSeq (tAsg (tSl (rSlL K) (tVar 0) tNoPart (tPart (tC (.int 240)))) (gName 4))
    (rd_law_4 K t))
def rd_law (K:PySem.W.Frag) (t:Adr):TS:=(tSeq (tAsg (tCall sp__law_names [] E0 (tCons (tCall (sp__law_cell_at K) [] E0 (tCons (tVar 0) (tCons (tC (.int 0)) tNil))) (tCons (tC (.int 2)) tNil))) (gName 1))
    (tSeq (tAsg (tCall sp__law_names [] E0 (tCons (tCall (sp__law_cell_at K) [] E0 (tCons (tVar 0) (tCons (tC (.int 1)) tNil))) (tCons (tC (.int 2)) tNil))) (gName 2))
    (tSeq (tAsg (tOp (rI0 fun i j=>.int (i + j)) (tC (.int 1)) (tOp (rI (fun _ j=>0 < j) fun i j=>.int (i % j)) (tCall sp__law_draw [] E0 (tCons (tCall (sp__law_cell_at K) [] E0 (tCons (tVar 0) (tCons (tC (.int 0)) tNil))) (tCons (tC (.int 200)) tNil))) (tC (.int 8)))) (gName 3))
    (rd_law_3 K t))))
section
variable {K:PySem.W.Frag} {t:Adr} {H:Hp} {Q:VK}
theorem pow10 {j:Int} (h0:0≤j) (h1:j≤100):CPow 10 j:=⟨h0,by omega,by decide⟩
theorem small_size {n:Nat} (h:n≤100000):n≤sizeLine:=Nat.le_trans h (by decide)
theorem kit_same (T:String):PySem.W.kitOne K (.type T) (.type T)=some true:=by
  unfold PySem.W.kitOne
  rw [if_pos (by simp)]
theorem kf (K:PySem.W.Frag):KF K:=⟨by with_unfolding_all rfl,by with_unfolding_all rfl⟩
theorem dB {i j:Int} (h0:0 < j:=by decide) (h1:j < 10000000000000000000000000000000000000000000000:=by decide):CDivB i j:=by
  have hb:(10000000000000000000000000000000000000000000000:Int) < big:=by decide +kernel
  exact ⟨h0,by omega⟩
theorem at_lt {α:Type} {xs:List α} {i:Int} (h0:0≤i) (h1:i < xs.length):∃ x,atI xs i=some x∧x∈xs:=by
  obtain ⟨n,rfl⟩:∃ n:Nat,i=(n:Int):=⟨i.toNat,by omega⟩
  have hn:n < xs.length:=by omega
  refine ⟨xs[n],?_,List.getElem_mem hn⟩
  unfold atI ixN
  rw [if_pos h0,if_pos h1]
  simp [hn]
theorem at_mod {α:Type} {xs:List α} (e:Int) (n:Nat) (hl:xs.length=n) (hn:0 < (n:Int)):∃ x,atI xs (e % n)=some x∧x∈xs :=
  at_lt (Int.emod_nonneg _ (by omega)) (by rw [hl];exact Int.emod_lt_of_pos _ hn)
theorem rdp_is_worth {i:Int} (hK:IntFact K) (q:∀ H',Same H H'→Q (.bl (inW i)) H') :
    rd_is_worth K t { nx:=fun _ H'=>Q .non H',rt:=Q } (L2.start ["thing"] [.int i]) H:=by
  simp only [rd_is_worth,L2.start,tSeq,tRet,tNext,tOp,tUn,tVar,tC,tCons,tNil,tIfS,tOr,tNot,tB,tCB,tChain,rI,rI0,rU,cIsi,List.map,List.replicate,List.length,List.append,List.cons_append,List.nil_append,List.append_nil,List.getElem?_cons_zero,List.getElem?_cons_succ,Option.some.injEq,exists_eq_left',exists_eq_left,V.int.injEq,V.ref.injEq,V.str.injEq,V.bl.injEq,V.ty.injEq,List.cons.injEq,and_true,true_and,and_assoc,exists_and_left,List.set_cons_zero,List.set_cons_succ,Nat.reduceSub,Nat.reduceAdd,decide_eq_true_eq,Bool.not_eq_true',decide_eq_false_iff_not,Int.reduceToNat,Int.reducePow,Int.reduceNeg,Int.reduceMul,Int.reduceAdd,if_true,ite_true,Bool.false_eq_true,ite_false,if_false]
  have q:=q H (Same.refl H)
  refine ⟨_,.int i,true,kit_same _,?_⟩
  rw [if_neg (by decide)]
  refine ⟨_,.int i,false,hK,?_⟩
  rw [if_neg (by decide)]
  refine ⟨pow10 (by decide) (by decide),ite2 (fun c=>⟨pow10 (by decide) (by decide),?_⟩) fun c=>?_⟩
  · have e:inW i=decide (i≤1000000000000000000000000000000):=by
      unfold inW
      by_cases h:i≤1000000000000000000000000000000
      · rw [decide_eq_true h,decide_eq_true ⟨c,h⟩]
      · rw [decide_eq_false h,decide_eq_false fun z=>h z.2]
    rw [e] at q
    exact q
  · have e:inW i=false:=decide_eq_false fun z=>c z.1
    rw [e] at q
    exact q
theorem rdp_divided {E:XK} {w:Str} {a b:Int} (hw:w.length≤1000) (ha:inW a=true) (hb:inW b=true) (q:∀ H',Same H H'→if b=0 then E (.ref t.c_Nought) none H' else Q (.int (if w="over" then a.fdiv b else a.fmod b)) H') :
    rd_divided K t E { nx:=fun _ H'=>Q .non H',rt:=Q } (L2.start ["word","first","second"] [.str w,.int a,.int b]) H:=by
  simp only [rd_divided,L2.start,tRaise,tMsgS,tSeq,tRet,tNext,tOp,tVar,tC,tCons,tNil,tIfS,tTest,tIf,rEq,rI,scal,List.map,List.replicate,List.length,List.append,List.cons_append,List.nil_append,List.append_nil,List.getElem?_cons_zero,List.getElem?_cons_succ,Option.some.injEq,exists_eq_left',exists_eq_left,V.int.injEq,V.ref.injEq,V.str.injEq,V.bl.injEq,V.ty.injEq,List.cons.injEq,and_true,true_and,and_assoc,exists_and_left,List.set_cons_zero,List.set_cons_succ,Nat.reduceSub,Nat.reduceAdd,decide_eq_true_eq,Bool.not_eq_true',decide_eq_false_iff_not,Int.reduceToNat,Int.reducePow,Int.reduceNeg,Int.reduceMul,Int.reduceAdd,if_true,ite_true,Bool.false_eq_true,ite_false,if_false]
  have q:=q H (Same.refl H)
  have B:=inW_big hb
  refine ite2 (fun c=>?_) fun c=>?_
  · rw [if_pos c] at q
    exact ⟨by omega,fun y=>⟨by decide,q⟩⟩
  · rw [if_neg c] at q
    refine ite2 (fun e=>?_) fun e=>?_
    · rw [if_pos e] at q
      exact ⟨⟨c,B⟩,q⟩
    · rw [if_neg e] at q
      exact ⟨c,q⟩
theorem rdp_come_to {E:XK} {w:Str} {a b:Int} (hw:w.length≤1000) (ha:inW a=true) (hb:inW b=true) (q:∀ H',Same H H'→if isDiv w∧b=0 then E (.ref t.c_Nought) none H' else Q (.int (comeV w a b)) H') :
    rd_come_to K t E { nx:=fun _ H'=>Q .non H',rt:=Q } (L2.start ["word","first","second"] [.str w,.int a,.int b]) H:=by
  simp only [rd_come_to,sp_divided,L2.start,tSeq,tRet,tNext,tOp,tVar,tC,tCons,tNil,tIfS,tTest,tIf,tCall,rEq,rI,rI0,scal,List.map,List.replicate,List.length,List.append,List.cons_append,List.nil_append,List.append_nil,List.getElem?_cons_zero,List.getElem?_cons_succ,Option.some.injEq,exists_eq_left',exists_eq_left,V.int.injEq,V.ref.injEq,V.str.injEq,V.bl.injEq,V.ty.injEq,List.cons.injEq,and_true,true_and,and_assoc,exists_and_left,List.set_cons_zero,List.set_cons_succ,Nat.reduceSub,Nat.reduceAdd,decide_eq_true_eq,Bool.not_eq_true',decide_eq_false_iff_not,Int.reduceToNat,Int.reducePow,Int.reduceNeg,Int.reduceMul,Int.reduceAdd,if_true,ite_true,Bool.false_eq_true,ite_false,if_false]
  have A:=inW_big ha
  have B:=inW_big hb
  have nd:¬ isDiv w→Q (.int (comeV w a b)) H:=fun h=>by
    have q:=q H (Same.refl H)
    rw [if_neg fun z=>h z.1] at q
    exact q
  refine ite2 (fun c=>?_) fun c1=>ite2 (fun c=>?_) fun c2=>ite2 (fun c=>⟨⟨A,B⟩,?_⟩) fun c3=>ite2 (fun c=>?_) fun c4=>ite2 (fun c=>?_) fun c5=>⟨hw,ha,hb,fun H' s=>?_⟩
  · subst c
    have q:=nd fun z=>z.1 rfl
    exact q
  · subst c
    have q:=nd fun z=>z.2.1 rfl
    rw [show comeV "minus" a b=a - b by unfold comeV;rw [if_neg c1,if_pos rfl]] at q
    exact q
  · subst c
    have q:=nd fun z=>z.2.2.1 rfl
    rw [show comeV "times" a b=a * b by unfold comeV;rw [if_neg c1,if_neg c2,if_pos rfl]] at q
    exact q
  · subst c
    have q:=nd fun z=>z.2.2.2.1 rfl
    rw [show comeV "under" a b=if a < b then 1 else 0 by unfold comeV;rw [if_neg c1,if_neg c2,if_neg c3,if_pos rfl]] at q
    refine ite2 (fun d=>?_) fun d=>?_
    · rw [if_pos d] at q;exact q
    · rw [if_neg d] at q;exact q
  · subst c
    have q:=nd fun z=>z.2.2.2.2 rfl
    rw [show comeV "same" a b=if a=b then 1 else 0 by unfold comeV;rw [if_neg c1,if_neg c2,if_neg c3,if_neg c4,if_pos rfl]] at q
    refine ite2 (fun d=>?_) fun d=>?_
    · rw [if_pos d] at q;exact q
    · rw [if_neg d] at q;exact q
  · have q:=q H' s
    have hd:isDiv w:=⟨c1,c2,c3,c4,c5⟩
    refine ite2 (fun d=>?_) fun d=>?_
    · rw [if_pos ⟨hd,d⟩] at q;exact q
    · rw [if_neg fun z=>d z.2] at q
      unfold comeV at q
      rw [if_neg c1,if_neg c2,if_neg c3,if_neg c4,if_neg c5] at q
      exact q
theorem rdp_joined {E:XK} {w:Str} {a b:Int} (hw:w.length≤1000) (ha:inW a=true) (hb:inW b=true) (q:∀ H',Same H H'→fin t (joinE w a b) Q E H') :
    rd_joined K t E { nx:=fun _ H'=>Q .non H',rt:=Q } (L2.start ["word","first","second","worth"] [.str w,.int a,.int b]) H:=by
  simp only [rd_joined,sp_come_to,sp_is_worth,L2.start,tRaise,tMsgS,tSeq,tAsg,gName,tRet,tNext,tVar,tCons,tNil,tIfS,tNot,tB,tCall,List.map,List.replicate,List.length,List.append,List.cons_append,List.nil_append,List.append_nil,List.getElem?_cons_zero,List.getElem?_cons_succ,Option.some.injEq,exists_eq_left',exists_eq_left,V.int.injEq,V.ref.injEq,V.str.injEq,V.bl.injEq,V.ty.injEq,List.cons.injEq,and_true,true_and,and_assoc,exists_and_left,List.set_cons_zero,List.set_cons_succ,Nat.reduceSub,Nat.reduceAdd,decide_eq_true_eq,Bool.not_eq_true',decide_eq_false_iff_not,Int.reduceToNat,Int.reducePow,Int.reduceNeg,Int.reduceMul,Int.reduceAdd,if_true,ite_true,Bool.false_eq_true,ite_false,if_false]
  refine ⟨hw,ha,hb,fun H1 s1=>ite2 (fun c=>?_) fun c H2 s2=>ite2 (fun d=>?_) fun d=>?_⟩
  · have q:=q H1 s1
    unfold joinE at q
    rw [if_pos c] at q
    exact q
  · have q:=q H2 (s1.trans s2)
    unfold joinE at q
    rw [if_neg c,if_neg (by rw [d];decide)] at q
    exact ⟨by omega,fun y=>⟨by decide,q⟩⟩
  · have q:=q H2 (s1.trans s2)
    unfold joinE at q
    rw [if_neg c,if_pos (by simpa using d)] at q
    exact q
theorem last_get {xs:List V} {y:V}:(xs ++ [y])[(xs ++ [y]).length - 1]?=some y:=by simp
theorem drop_last {xs:List V} {y:V}:(xs ++ [y]).dropLast=xs:=by simp
theorem same_upd {H H':Hp} {w:Addr} {o:HO} (s:Same H H') (hw:H w=none):Same H (upd H' w o):=fun b u e=>by rw [upd_ne (ne_of_none e hw)];exact s b u e
theorem two_or (st:List Int):(∃ l a b,st=l ++ [a,b])∨∀ kvs v,isJ v=true→stepE kvs st v=.error .stuck:=by
  cases h:st.reverse with
  | nil =>
    refine .inr fun kvs v hv=>?_
    unfold stepE
    rw [hv,if_pos rfl,h]
    split <;> rename_i e1 e2 <;> first | rfl | cases e2
  | cons b r =>
    cases r with
    | nil =>
      refine .inr fun kvs v hv=>?_
      unfold stepE
      rw [hv,if_pos rfl,h]
      split <;> rename_i e1 e2 <;> first | rfl | cases e2
    | cons a r =>
      refine .inl ⟨r.reverse,a,b,?_⟩
      have:=congrArg List.reverse h
      rw [List.reverse_reverse] at this
      rw [this];simp
theorem step_two {kvs:List (Key × V)} {l:List Int} {a b:Int} {w:Str} (hw:isJ (.str w)=true):stepE kvs (l ++ [a,b]) (.str w)=match joinE w a b with | .ok c=>.ok (l ++ [c]) | .error e=>.error e:=by
  unfold stepE
  rw [hw,if_pos rfl]
  simp only [List.reverse_append,List.reverse_cons,List.reverse_nil,List.nil_append,List.cons_append]
  cases joinE w a b with
  | error e=>rfl
  | ok c=>simp
def rkI (kvs:List (Key × V)) (ps:List V) (tm sl w:Addr) (H:Hp) (i:Nat) (σ:St) (H':Hp):Prop:=∃ st,(∃ o3 o4 o5,σ=[some (.ref tm),some (.ref sl),some (.ref w),o3,o4,o5])∧runE kvs (ps.take i) []=.ok st∧(∀ x∈st,inW x=true)∧st.length≤i∧H' w=some (.lst (st.map V.int))∧Same H H'
theorem rdp_reckoned {E:XK} {kvs:List (Key × V)} {tm sl:Addr} {ps:List V} {r:Except Er Int} (hK:PySem.W.kitOne K (.type "int") (.type "str")=some false) (hJ:∀ H:Hp,SqT K H t.c_JOINING jw) (h1:H tm=some (.tup ps)) (h2:H sl=some (.dK kvs)) (h3:Good kvs ps r) (h4:∀ v∈ps,okPart v) (h5:ps.length≤1000) (h6:SlotsOk kvs)
    (q:∀ H',Same H H'→fin t r Q E H'):rd_reckoned K t E { nx:=fun _ H'=>Q .non H',rt:=Q } (L2.start ["term","slots","worths","part","second","first"] [.ref tm,.ref sl]) H:=by
  simp only [rd_reckoned,sp_joined,tDGet2,L2.start,tDGet2,r_mt_append,r_mt_pop,rAppend,rPop,tSeq,tAsg,gName,tRet,tDrop,tOp,tVar,tC,tLst,tCons,tNil,tFor,tIfS,tTest,tB,tIf,tCB,tBM,tBM0,tyV,tCall,iTup,rIn,cIsi,List.map,List.replicate,List.length,List.append,List.cons_append,List.nil_append,List.append_nil,List.getElem?_cons_zero,List.getElem?_cons_succ,Option.some.injEq,exists_eq_left',exists_eq_left,V.int.injEq,V.ref.injEq,V.str.injEq,V.bl.injEq,V.ty.injEq,List.cons.injEq,and_true,true_and,and_assoc,exists_and_left,List.set_cons_zero,List.set_cons_succ,Nat.reduceSub,Nat.reduceAdd,decide_eq_true_eq,Bool.not_eq_true',decide_eq_false_iff_not,Int.reduceToNat,Int.reducePow,Int.reduceNeg,Int.reduceMul,Int.reduceAdd,if_true,ite_true,Bool.false_eq_true,ite_false,if_false]
  refine ⟨by decide,fun w hw=>⟨⟨_,SqT.of ((isV w hw) _ _ h1)⟩,?_⟩⟩
  have run0:=h3.1 []
  have fe:∀ {e:Er} {H':Hp},runE kvs ps []=.error e→Same H H'→fin t (.error e) Q E H':=fun {e H'} z s=>by
    rw [z] at run0
    cases r with
    | ok i=>cases run0
    | error e' =>
      cases run0
      exact q _ s
  have ns:runE kvs ps []≠.error .stuck:=fun z=>by
    rw [z] at run0
    cases r with
    | ok i=>cases run0
    | error e' =>
      cases run0
      exact h3.2 rfl
  refine loop_tup ps (rkI kvs ps tm sl w H) ⟨[],⟨_,_,_,rfl⟩,rfl,(fun x z=>nomatch z),Nat.le_refl _,upd_same,isV w hw⟩ (fun i σ H' ⟨st,a,b,c,d,e,s⟩=>SqT.of (s _ _ h1)) ?_ ?_
  · rintro i v σ H' hv ⟨st,⟨o3,o4,o5,rfl⟩,hr,hW,hl,hst,hS⟩
    have hi:i < ps.length:=(List.getElem?_eq_some_iff.mp hv).1
    have one:=run_one hr hv
    have ok:=h4 v (List.mem_of_getElem? hv)
    have fl:flatV v=true:=by rcases ok with ⟨j,rfl,_⟩ | ⟨x,rfl,_⟩ <;> rfl
    simp only [tDGet2,L2.start,tDGet2,r_mt_append,r_mt_pop,rAppend,rPop,tSeq,tAsg,gName,tRet,tDrop,tOp,tVar,tC,tLst,tCons,tNil,tFor,tIfS,tTest,tB,tIf,tCB,tBM,tBM0,tyV,tCall,iTup,rIn,cIsi,List.map,List.replicate,List.length,List.append,List.cons_append,List.nil_append,List.append_nil,List.getElem?_cons_zero,List.getElem?_cons_succ,Option.some.injEq,exists_eq_left',exists_eq_left,V.int.injEq,V.ref.injEq,V.str.injEq,V.bl.injEq,V.ty.injEq,List.cons.injEq,and_true,true_and,and_assoc,exists_and_left,List.set_cons_zero,List.set_cons_succ,Nat.reduceSub,Nat.reduceAdd,decide_eq_true_eq,Bool.not_eq_true',decide_eq_false_iff_not,Int.reduceToNat,Int.reducePow,Int.reduceNeg,Int.reduceMul,Int.reduceAdd,if_true,ite_true,Bool.false_eq_true,ite_false,if_false]
    refine ⟨jw,.inr (hJ H'),fl,rfl,ite2 (fun c=>?_) fun c=>?_⟩
    · rcases two_or st with ⟨l,a,b,rfl⟩ | z
      · obtain ⟨x,rfl,hx⟩:∃ x:Str,v=.str x∧x.length≤1000:=by
          rcases ok with ⟨j,rfl,_⟩ | h
          · exact absurd c (by rw [show inV (V.int j) jw=false from rfl];decide)
          · exact h
        have e1:List.map V.int (l ++ [a,b])=(l.map V.int ++ [.int a]) ++ [.int b]:=by simp
        rw [e1] at hst
        have one':=one.trans (step_two c)
        have wa:=hW a (by simp)
        have wb:=hW b (by simp)
        refine ⟨.inl ⟨_,SqL.of hst⟩,_,hst,_,last_get,.inl ⟨_,SqL.of upd_same⟩,_,by rw [drop_last];exact upd_same,_,last_get,.inl ⟨_,SqL.of upd_same⟩,x,rfl,a,rfl,b,rfl,hx,wa,wb,fun H2 s2=>?_⟩
        rw [drop_last,drop_last] at s2
        have S2:Same H H2:=(same_upd (same_upd hS hw) hw).trans s2
        cases e:joinE x a b with
        | ok d =>
          rw [e] at one'
          have hd:inW d=true:=by
            unfold joinE at e
            split at e
            · cases e
            · split at e
              · rename_i z;cases e;exact z
              · cases e
          refine ⟨_,s2 _ _ upd_same,?_,l ++ [d],⟨_,_,_,rfl⟩,one',?_,?_,?_,same_upd S2 hw⟩
          · rw [List.length_map]
            have:(l ++ [a,b]).length=l.length + 2:=by simp
            exact Nat.lt_of_le_of_lt (by omega:l.length≤1000) (by decide)
          · intro y hy
            rcases List.mem_append.mp hy with h | h
            · exact hW y (List.mem_append_left _ h)
            · have:y=d:=by simpa using h
              rw [this];exact hd
          · have:(l ++ [a,b]).length=l.length + 2:=by simp
            rw [List.length_append];show l.length + 1≤i + 1
            omega
          · rw [List.map_append];exact upd_same
        | error er =>
          rw [e] at one'
          have:=fe (run_err one') S2
          cases er with
          | nought=>exact this
          | great=>exact this
          | stuck=>trivial
      · exact absurd (run_err (one.trans (z kvs v c))) ns
    · have st1:stepE kvs st v=.ok (st ++ [wrth kvs v]):=by
        unfold stepE
        rw [if_neg (by unfold isJ;exact c)]
      have one':=one.trans st1
      have hwv:=wrth_inW h6 ok
      have fin1:∀ u,u=V.int (wrth kvs v)→rkI kvs ps tm sl w H (i + 1) [some (V.ref tm),some (V.ref sl),some (V.ref w),some v,o4,o5] (upd H' w (HO.lst (List.map V.int st ++ [u]))):=fun u hu=>by
        subst hu
        refine ⟨st ++ [wrth kvs v],⟨_,_,_,rfl⟩,one',?_,?_,?_,same_upd hS hw⟩
        · intro y hy
          rcases List.mem_append.mp hy with h | h
          · exact hW y h
          · have:y=wrth kvs v:=by simpa using h
            rw [this];exact hwv
        · rw [List.length_append];show st.length + 1≤i + 1
          omega
        · rw [List.map_append];exact upd_same
      have sz:(List.map V.int st).length < sizeLine:=by
        rw [List.length_map]
        exact Nat.lt_of_le_of_lt (by omega:st.length≤1000) (by decide)
      refine ⟨.inl ⟨_,SqL.of hst⟩,?_⟩
      rcases ok with ⟨j,rfl,hj⟩ | ⟨x,rfl,hx⟩
      · refine ⟨_,.int j,false,hK,?_⟩
        rw [if_neg (by decide)]
        exact ⟨_,hst,sz,fin1 _ rfl⟩
      · refine ⟨_,.str x,true,kit_same _,?_⟩
        rw [if_pos rfl]
        refine ⟨.inl ⟨kvs,.inl (hS _ _ h2)⟩,_,DGet.k (k:=.inr x) (hS _ _ h2),_,hst,sz,fin1 _ ?_⟩
        show (valV kvs (.inr x)).getD (V.int 0)=V.int (match valV kvs (.inr x) with | some (.int i)=>i | _=>0)
        cases e:valV kvs (.inr x) with
        | none=>rfl
        | some u =>
          obtain ⟨i,rfl,_⟩:=h6 _ _ e
          rfl
  · rintro σ H' ⟨st,⟨o3,o4,o5,rfl⟩,hr,hW,hl,hst,hS⟩
    rw [List.take_length] at hr
    simp only [tDGet2,L2.start,tDGet2,r_mt_append,r_mt_pop,rAppend,rPop,tSeq,tAsg,gName,tRet,tDrop,tOp,tVar,tC,tLst,tCons,tNil,tFor,tIfS,tTest,tB,tIf,tCB,tBM,tBM0,tyV,tCall,iTup,rIn,cIsi,List.map,List.replicate,List.length,List.append,List.cons_append,List.nil_append,List.append_nil,List.getElem?_cons_zero,List.getElem?_cons_succ,Option.some.injEq,exists_eq_left',exists_eq_left,V.int.injEq,V.ref.injEq,V.str.injEq,V.bl.injEq,V.ty.injEq,List.cons.injEq,and_true,true_and,and_assoc,exists_and_left,List.set_cons_zero,List.set_cons_succ,Nat.reduceSub,Nat.reduceAdd,decide_eq_true_eq,Bool.not_eq_true',decide_eq_false_iff_not,Int.reduceToNat,Int.reducePow,Int.reduceNeg,Int.reduceMul,Int.reduceAdd,if_true,ite_true,Bool.false_eq_true,ite_false,if_false]
    rw [hr] at run0
    cases r with
    | error e=>cases run0
    | ok i =>
      have e:st=[i]:=by injection run0
      subst e
      exact ⟨.inl ⟨_,SqL.of hst⟩,_,hst,_,rfl,q _ (same_upd hS hw)⟩
theorem rdp__law_cell_at {a:Addr} {ns:List Int} {k:Nat} (hS:SqL K H a (ns.map V.int)) (hl:ns.length≤63) (q:∀ c H',Same H H'→Q (.int c) H') :
    rd__law_cell_at K t { nx:=fun _ H'=>Q .non H',rt:=Q } (L2.start ["script","k"] [.ref a,.int k]) H:=by
  simp only [rd__law_cell_at,L2.start,tSeq,tRet,tNext,tOp,tVar,tC,tCons,tNil,tIfS,tTest,tCB,LenV,rIxL,rI0,cLen,List.map,List.replicate,List.length,List.append,List.cons_append,List.nil_append,List.append_nil,List.getElem?_cons_zero,List.getElem?_cons_succ,Option.some.injEq,exists_eq_left',exists_eq_left,V.int.injEq,V.ref.injEq,V.str.injEq,V.bl.injEq,V.ty.injEq,List.cons.injEq,and_true,true_and,and_assoc,exists_and_left,List.set_cons_zero,List.set_cons_succ,Nat.reduceSub,Nat.reduceAdd,decide_eq_true_eq,Bool.not_eq_true',decide_eq_false_iff_not,Int.reduceToNat,Int.reducePow,Int.reduceNeg,Int.reduceMul,Int.reduceAdd,if_true,ite_true,Bool.false_eq_true,ite_false,if_false]
  refine ⟨_,.inl ⟨_,hS,rfl⟩,ite2 (fun c=>?_) fun _=>q _ _ (Same.refl H)⟩
  obtain ⟨v,hv,hm⟩:=at_lt (xs:=ns.map V.int) (i:=(k:Int)) (by omega) c
  obtain ⟨i,_,rfl⟩:=List.mem_map.mp hm
  exact ⟨_,hS,_,hv,q _ _ (Same.refl H)⟩
theorem one_len (c:Nat):({ cps:=#[c] }:Str).length=1:=rfl
theorem fresh_of {H H':Hp} {D:Addr} (s:Same H H') (h:H' D=none):H D=none:=by
  cases e:H D with
  | none=>rfl
  | some o=>rw [s _ _ e] at h;cases h
theorem fresh_ne {H1:Hp} {R b:Addr} {o:HO} (h:H1 R=some o) (hb:H1 b=none):b≠R:=fun z=>by rw [z,h] at hb;cases hb
theorem fin_err {t:Adr} {e:Er} {Q:VK} {E:XK} {H:Hp}:fin t (.error e) Q E H↔errE t e E H:=by cases e <;> rfl
theorem fin_ok {t:Adr} {i:Int} {Q:VK} {E:XK} {H:Hp}:fin t (.ok i) Q E H↔Q (.int i) H:=Iff.rfl
theorem rdp__law_draw {c j:Int} (h1:0≤j) (h2:j≤1000) (q:∀ r H',0≤r→r < 2147483648→Same H H'→Q (.int r) H') :
    rd__law_draw K t { nx:=fun _ H'=>Q .non H',rt:=Q } (L2.start ["cell","j","far"] [.int c,.int j]) H:=by
  simp only [rd__law_draw,L2.start,tSeq,tAsg,gName,tRet,tOp,tVar,tC,rI,rI0,List.map,List.replicate,List.length,List.append,List.cons_append,List.nil_append,List.append_nil,List.getElem?_cons_zero,List.getElem?_cons_succ,Option.some.injEq,exists_eq_left',exists_eq_left,V.int.injEq,V.ref.injEq,V.str.injEq,V.bl.injEq,V.ty.injEq,List.cons.injEq,and_true,true_and,and_assoc,exists_and_left,List.set_cons_zero,List.set_cons_succ,Nat.reduceSub,Nat.reduceAdd,decide_eq_true_eq,Bool.not_eq_true',decide_eq_false_iff_not,Int.reduceToNat,Int.reducePow,Int.reduceNeg,Int.reduceMul,Int.reduceAdd,if_true,ite_true,Bool.false_eq_true,ite_false,if_false]
  have hb:(10000000000000000000000000000000000000000000000:Int) < big:=by decide +kernel
  have g1:=Int.emod_nonneg c (b:=1000000007) (by decide)
  have g2:=Int.emod_lt_of_pos c (b:=1000000007) (by decide)
  generalize c % 1000000007=a at *
  have g3:=Int.emod_nonneg (a * 6700417 + (j + 1) * 104729 * 65537) (b:=1000000009) (by decide)
  have g4:=Int.emod_lt_of_pos (a * 6700417 + (j + 1) * 104729 * 65537) (b:=1000000009) (by decide)
  generalize hf:(a * 6700417 + (j + 1) * 104729 * 65537) % 1000000009=f at *
  have g5:=Int.emod_nonneg (f * f) (b:=1000000009) (by decide)
  have g6:=Int.emod_lt_of_pos (f * f) (b:=1000000009) (by decide)
  generalize hg:f * f % 1000000009=g at *
  have g7:=Int.emod_nonneg (g * f) (b:=1000000009) (by decide)
  have g8:=Int.emod_lt_of_pos (g * f) (b:=1000000009) (by decide)
  refine ⟨by decide,⟨⟨by omega,by omega⟩,by omega,by omega⟩,⟨⟨by omega,by omega⟩,by omega,by omega⟩,⟨⟨by omega,by omega⟩,by omega,by omega⟩,by decide,?_⟩
  refine ⟨⟨⟨by omega,by omega⟩,by omega,by omega⟩,by decide,⟨⟨by omega,by omega⟩,by omega,by omega⟩,by decide,dB,q _ _ ?_ ?_ (Same.refl H)⟩
  · exact Int.ediv_nonneg g7 (by decide)
  · omega
theorem CsAt.same {H H':Hp} {v:V} {c:Cs} (h:CsAt H v c) (s:Same H H'):CsAt H' v c:=by
  cases c with
  | row r=>exact ⟨h.1.mono s,h.2⟩
  | skip e to =>
    obtain ⟨p,te,h1,h2,h3⟩:=h
    exact ⟨p,te,h1,s _ _ h2,s _ _ h3⟩
  | go en =>
    obtain ⟨p,h1,h2⟩:=h
    exact ⟨p,h1,s _ _ h2⟩
theorem cs_same {H H':Hp} (s:Same H H'):∀ {xs:List V} {C:List Cs},Paired (CsAt H) xs C→Paired (CsAt H') xs C
  | _,_,.nil=>.nil
  | _,_,.cons h r=>.cons (h.same s) (cs_same s r)
def TSm (H H':Hp):Prop:=∀ b ys,H b=some (.tup ys)→H' b=some (.tup ys)
theorem CsAt.ts {H H':Hp} {v:V} {c:Cs} (s:TSm H H') (h:CsAt H v c):CsAt H' v c:=by
  cases c with
  | row r =>
    obtain ⟨h,n⟩:=h
    refine ⟨?_,n⟩
    cases r with
    | iff e a b=>exact n.elim
    | take sh e sl =>
      obtain ⟨r,te,a1,a2,a3,a4,a5⟩:=h
      exact ⟨r,te,a1,a2,a3,s _ _ a4,s _ _ a5⟩
    | give sh e f =>
      obtain ⟨r,te,tf,a1,a2,a3,a4,a5,a6,a7⟩:=h
      exact ⟨r,te,tf,a1,a2,a3,a4,s _ _ a5,s _ _ a6,s _ _ a7⟩
    | lt sl e =>
      obtain ⟨r,te,a1,a2,a3,a4,a5⟩:=h
      exact ⟨r,te,a1,a2,a3,s _ _ a4,s _ _ a5⟩
    | say e =>
      obtain ⟨r,te,a1,a2,a3,a4,a5⟩:=h
      exact ⟨r,te,a1,a2,a3,s _ _ a4,s _ _ a5⟩
    | off e =>
      obtain ⟨r,te,a1,a2,a3,a4,a5⟩:=h
      exact ⟨r,te,a1,a2,a3,s _ _ a4,s _ _ a5⟩
  | skip e to =>
    obtain ⟨p,te,h1,h2,h3⟩:=h
    exact ⟨p,te,h1,s _ _ h2,s _ _ h3⟩
  | go en =>
    obtain ⟨p,h1,h2⟩:=h
    exact ⟨p,h1,s _ _ h2⟩
theorem css_ts {H H':Hp} (s:TSm H H'):∀ {xs:List V} {C:List Cs},Paired (CsAt H) xs C→Paired (CsAt H') xs C
  | _,_,.nil=>.nil
  | _,_,.cons h r=>.cons (h.ts s) (css_ts s r)
theorem noIf_em (x:Rw):(∃ e a b,x=.iff e a b)∨noIf x:=by
  cases x with
  | iff e a b=>exact .inl ⟨e,a,b,rfl⟩
  | _=>exact .inr trivial
theorem codeR_row {x:Rw} (h:noIf x) (k:Nat):codeR x k=[.row x]:=by
  cases x with
  | iff e a b=>exact h.elim
  | _=>rw [codeR];intro e a b z;cases z
theorem row_tup {F:Addr→Prop} {v:V} {r:Rw} (h:RwAt F H v r):∃ p xs hd,v=.ref p∧H p=some (.tup xs)∧atI xs 0=some (.str hd)∧(hd="if"↔¬ noIf r):=by
  cases r with
  | take sh e sl =>
    unfold RwAt at h
    obtain ⟨r,te,rfl,_,_,e2,e3⟩:=h
    exact ⟨r,_,_,rfl,e2,rfl,⟨fun z=>absurd z (by decide +kernel),fun z=>absurd trivial z⟩⟩
  | give sh e f =>
    unfold RwAt at h
    obtain ⟨r,te,tf,rfl,_,_,_,e2,e3⟩:=h
    exact ⟨r,_,_,rfl,e2,rfl,⟨fun z=>absurd z (by decide +kernel),fun z=>absurd trivial z⟩⟩
  | lt sl e =>
    unfold RwAt at h
    obtain ⟨r,te,rfl,_,_,e2,e3⟩:=h
    exact ⟨r,_,_,rfl,e2,rfl,⟨fun z=>absurd z (by decide +kernel),fun z=>absurd trivial z⟩⟩
  | say e =>
    unfold RwAt at h
    obtain ⟨r,te,rfl,_,_,e2,e3⟩:=h
    exact ⟨r,_,_,rfl,e2,rfl,⟨fun z=>absurd z (by decide +kernel),fun z=>absurd trivial z⟩⟩
  | off e =>
    unfold RwAt at h
    obtain ⟨r,te,rfl,_,_,e2,e3⟩:=h
    exact ⟨r,_,_,rfl,e2,rfl,⟨fun z=>absurd z (by decide +kernel),fun z=>absurd trivial z⟩⟩
  | iff e a b =>
    unfold RwAt at h
    obtain ⟨r,te,la,lb,xs,ys,rfl,f1,f2,f3,f4,e2,e3⟩:=h
    exact ⟨r,_,_,rfl,e2,rfl,⟨fun _ z=>z,fun _=>rfl⟩⟩
theorem Paired.app2 {α β:Type} {F:α→β→Prop}:∀ {a:List α} {b:List β} {c:List α} {d:List β},Paired F a b→Paired F c d→Paired F (a ++ c) (b ++ d)
  | _,_,_,_,.nil,h=>h
  | _,_,_,_,.cons h r,h2=>.cons h (Paired.app2 r h2)
theorem rdp_code_of {v:V} {r:Rws} (h1:RlAt anyA H v r) (h2:RsOk 6 r) (h3:(codeRs r 0).length≤500) (q:∀ l xs H',Same H H'→H l=none→H' l=some (.lst xs)→Paired (CsAt H') xs (codeRs r 0)→Q (.ref l) H') :
    rd_code_of K t { nx:=fun _ H'=>Q .non H',rt:=Q } (L2.start ["rows"] [v]) H:=by
  simp only [rd_code_of,sp_steps_of,L2.start,tRet,tVar,tC,tCons,tNil,tCall,List.map,List.replicate,List.length,List.append,List.cons_append,List.nil_append,List.append_nil,List.getElem?_cons_zero,List.getElem?_cons_succ,Option.some.injEq,exists_eq_left',exists_eq_left,V.int.injEq,V.ref.injEq,V.str.injEq,V.bl.injEq,V.ty.injEq,List.cons.injEq,and_true,true_and,and_assoc,exists_and_left,List.set_cons_zero,List.set_cons_succ,Nat.reduceSub,Nat.reduceAdd,decide_eq_true_eq,Bool.not_eq_true',decide_eq_false_iff_not,Int.reduceToNat,Int.reducePow,Int.reduceNeg,Int.reduceMul,Int.reduceAdd,if_true,ite_true,Bool.false_eq_true,ite_false,if_false]
  exact ⟨r,0,rfl,h1,h2,by omega,q⟩
def sfI (v:V) (L:Addr) (xs:List V) (k n:Nat) (r:Rws) (H:Hp) (i:Nat) (σ:St) (H':Hp):Prop:=∃ (rest:Rws) (ys:List V) (C:List Cs),(∃ o,σ=[some v,some (.int k),some (.ref L),o])∧Same H H'∧H' L=some (.lst ys)∧Paired (CsAt H') ys C∧RwsAt anyA H (xs.drop i) rest∧RsOk (n + 1) rest∧C ++ codeRs rest (k + C.length)=codeRs r k
theorem ts_upd {H:Hp} {L:Addr} {ys zs:List V} (h:H L=some (.lst ys)):TSm H (upd H L (.lst zs)):=fun b us e=>by rw [upd_ne (ne_of e h (fun z=>nomatch z))];exact e
theorem rdp_steps_of {v:V} {r:Rws} {k n:Nat} (h1:RlAt anyA H v r) (h2:RsOk (n + 1) r) (h3:k + (codeRs r k).length≤500) (q:∀ l xs H',Same H H'→H l=none→H' l=some (.lst xs)→Paired (CsAt H') xs (codeRs r k)→Q (.ref l) H') :
    rd_steps_of K t n { nx:=fun _ H'=>Q .non H',rt:=Q } (L2.start ["rows","first","steps","row"] [v,.int k]) H:=by
  obtain ⟨p,xs,rfl,_,hp,hx⟩:=h1
  simp only [rd_steps_of,sp_block_steps,r_mt_extend,rExtend,L2.start,r_mt_append,rAppend,rIxT,tSeq,tAsg,gName,tRet,tDrop,tOp,tVar,tC,tLst,tCons,tNil,tFor,tIfS,tTest,tCB,tBM,tyV,tCall,LenV,iList,rIxT,rEq,rI0,cLen,scal,List.map,List.replicate,List.length,List.append,List.cons_append,List.nil_append,List.append_nil,List.getElem?_cons_zero,List.getElem?_cons_succ,Option.some.injEq,exists_eq_left',exists_eq_left,V.int.injEq,V.ref.injEq,V.str.injEq,V.bl.injEq,V.ty.injEq,List.cons.injEq,and_true,true_and,and_assoc,exists_and_left,List.set_cons_zero,List.set_cons_succ,Nat.reduceSub,Nat.reduceAdd,decide_eq_true_eq,Bool.not_eq_true',decide_eq_false_iff_not,Int.reduceToNat,Int.reducePow,Int.reduceNeg,Int.reduceMul,Int.reduceAdd,if_true,ite_true,Bool.false_eq_true,ite_false,if_false]
  refine ⟨by decide,fun L hL=>?_⟩
  have s0:=isV (o:=HO.lst []) L hL
  refine ⟨⟨_,SqL.of (s0 _ _ hp)⟩,loop_list xs (sfI (.ref p) L xs k n r H) ⟨r,[],[],⟨_,rfl⟩,s0,upd_same,.nil,by rw [List.drop_zero];exact hx,h2,rfl⟩ (fun i σ H' ⟨_,_,_,_,s,_⟩=>SqL.of (s _ _ hp)) ?_ ?_⟩
  · rintro i u σ H' hu ⟨rest,ys,C,⟨o,rfl⟩,s,hy,pr,hr,ok,eq⟩
    obtain ⟨x,rs,rfl,rx,rr⟩:=hr.get hu
    have e0:codeRs (.cons x rs) (k + C.length)=codeR x (k + C.length) ++ codeRs rs (k + C.length + (codeR x (k + C.length)).length):=by rw [codeRs]
    rw [e0] at eq
    have okd:=ok.dp
    have c1:(Rws.cons x rs).deep=max x.deep rs.deep:=by rw [Rws.deep]
    rw [c1] at okd
    have okc:=ok.ct
    have c2:(Rws.cons x rs).cnt=x.cnt + rs.cnt:=by rw [Rws.cnt]
    rw [c2] at okc
    have okp:=ok.pl
    unfold RwsPl at okp
    have le:=congrArg List.length eq
    rw [List.length_append,List.length_append] at le
    have ly:=Paired.length pr
    have nx:∀ {H2:Hp} {o':Option V} {zs:List V},Same H H2→H2 L=some (.lst zs)→Paired (CsAt H2) zs (C ++ codeR x (k + C.length))→sfI (.ref p) L xs k n r H (i + 1) [some (.ref p),some (.int k),some (.ref L),o'] H2:=fun {H2 o' zs} s2 g2 p2 =>
      ⟨rs,zs,_,⟨_,rfl⟩,s2,g2,p2,rr,⟨by omega,by omega,okp.2⟩,by rw [List.append_assoc,List.length_append,← Nat.add_assoc];exact eq⟩
    obtain ⟨p1,fs,hd,rfl,e2,e3,e4⟩:=row_tup rx
    simp only [r_mt_extend,rExtend,L2.start,r_mt_append,rAppend,rIxT,tSeq,tAsg,gName,tRet,tDrop,tOp,tVar,tC,tLst,tCons,tNil,tFor,tIfS,tTest,tCB,tBM,tyV,tCall,LenV,iList,rIxT,rEq,rI0,cLen,scal,List.map,List.replicate,List.length,List.append,List.cons_append,List.nil_append,List.append_nil,List.getElem?_cons_zero,List.getElem?_cons_succ,Option.some.injEq,exists_eq_left',exists_eq_left,V.int.injEq,V.ref.injEq,V.str.injEq,V.bl.injEq,V.ty.injEq,List.cons.injEq,and_true,true_and,and_assoc,exists_and_left,List.set_cons_zero,List.set_cons_succ,Nat.reduceSub,Nat.reduceAdd,decide_eq_true_eq,Bool.not_eq_true',decide_eq_false_iff_not,Int.reduceToNat,Int.reducePow,Int.reduceNeg,Int.reduceMul,Int.reduceAdd,if_true,ite_true,Bool.false_eq_true,ite_false,if_false]
    refine ⟨_,SqT.of (s _ _ e2),_,e3,rfl,?_⟩
    rcases noIf_em x with ⟨e,a,b,rfl⟩ | hni
    · rw [if_pos (congrArg V.str (e4.mpr (fun z=>z)))]
      have d1:(Rw.iff e a b).deep=max a.deep b.deep + 1:=by rw [Rw.deep]
      have d2:(Rw.iff e a b).cnt=max a.cnt b.cnt + 1:=by rw [Rw.cnt]
      rw [d1] at okd
      rw [d2] at okc
      have pl:=okp.1
      unfold RwPl at pl
      refine ⟨.inl ⟨_,SqL.of hy⟩,ys.length,.inl ⟨_,SqL.of hy,rfl⟩,e,a,b,k + C.length,by omega,rx.mono s,⟨by omega,by omega,pl.2.1⟩,⟨by omega,by omega,pl.2.2⟩,by omega,fun l us H2 s2 hl pu=>?_⟩
      have lu:=Paired.length pu
      refine ⟨ys,s2 _ _ hy,us,hl,Nat.le_trans (by omega:ys.length + us.length≤1000) (by decide),?_⟩
      exact nx (same_upd (s.trans s2) hL) upd_same (css_ts (ts_upd (s2 _ _ hy)) (Paired.app2 (cs_same s2 pr) pu))
    · rw [if_neg (fun z=>e4.mp (V.str.inj z) hni)]
      have ec:=codeR_row hni (k + C.length)
      rw [ec] at nx
      refine ⟨.inl ⟨_,SqL.of hy⟩,ys,hy,Nat.lt_of_le_of_lt (by omega:ys.length≤900) (by decide),?_⟩
      exact nx (same_upd s hL) upd_same (Paired.snocP (css_ts (ts_upd hy) pr) (CsAt.ts (ts_upd hy) ⟨rx.mono s,hni⟩))
  · rintro σ H' ⟨rest,ys,C,⟨o,rfl⟩,s,hy,pr,hr,ok,eq⟩
    have e:=hr.none
    subst e
    rw [show codeRs .nil (k + C.length)=[] by rw [codeRs],List.append_nil] at eq
    rw [eq] at pr
    exact ⟨_,rfl,q L ys H' s hL hy pr⟩
theorem rdp_block_steps {v:V} {e:List V} {a b:Rws} {k n:Nat} (h1:RwAt anyA H v (.iff e a b)) (h2:RsOk n a) (h3:RsOk n b) (h4:k + (codeR (.iff e a b) k).length≤500) (q:∀ l xs H',Same H H'→H' l=some (.lst xs)→Paired (CsAt H') xs (codeR (.iff e a b) k)→Q (.ref l) H') :
    rd_block_steps K t n { nx:=fun _ H'=>Q .non H',rt:=Q } (L2.start ["row","at","steps","to","others"] [v,.int k]) H:=by
  unfold RwAt at h1
  obtain ⟨p,te,la,lb,xs,ys,rfl,f1,f2,f3,f4,e2,e3,e4,e6,e5,e7⟩:=h1
  have ec:codeR (.iff e a b) k=blk e k (codeRs a (k + 1)) (Rws.isNil b) (codeRs b (k + 2 + (codeRs a (k + 1)).length)):=by rw [codeR]
  rw [ec] at h4 q
  simp only [rd_block_steps,sp_steps_of,rCat,L2.start,rEqNil,rIxT,tSeq,tAsg,gName,tRet,tNext,tOp,tVar,tC,tLst,tTup,tCons,tNil,tIfS,tTest,tCB,tCall,LenV,rCat,rIxT,rI0,cLen,List.map,List.replicate,List.length,List.append,List.cons_append,List.nil_append,List.append_nil,List.getElem?_cons_zero,List.getElem?_cons_succ,Option.some.injEq,exists_eq_left',exists_eq_left,V.int.injEq,V.ref.injEq,V.str.injEq,V.bl.injEq,V.ty.injEq,List.cons.injEq,and_true,true_and,and_assoc,exists_and_left,List.set_cons_zero,List.set_cons_succ,Nat.reduceSub,Nat.reduceAdd,decide_eq_true_eq,Bool.not_eq_true',decide_eq_false_iff_not,Int.reduceToNat,Int.reducePow,Int.reduceNeg,Int.reduceMul,Int.reduceAdd,if_true,ite_true,Bool.false_eq_true,ite_false,if_false]
  refine ⟨_,SqT.of e2,_,rfl,a,k + 1,by omega,⟨la,xs,rfl,f3,e4,e6⟩,h2,?_,fun l us H1 s1 fl hl pu=>?_⟩
  · unfold blk at h4;split at h4 <;> simp only [List.length_cons,List.length_append] at h4 <;> omega
  have lu:=Paired.length pu
  refine ⟨us.length,.inl ⟨_,SqL.of hl,rfl⟩,_,SqT.of (s1 _ _ e2),_,rfl,by decide,fun z gz=>?_⟩
  have s2:=isV (o:=HO.lst []) z gz
  refine ⟨lb,rfl,ys,SqL.of (s2 _ _ (s1 _ _ e5)),SqL.of upd_same,?_⟩
  generalize upd H1 z (HO.lst [])=H2 at *
  have S2:=s1.trans s2
  have nb:Rws.isNil b=decide (ys=[]):=by
    cases b with
    | nil=>unfold RwsAt at e7;simp [Rws.isNil,e7]
    | cons x r=>unfold RwsAt at e7;obtain ⟨v,vs,rfl,_⟩:=e7;simp [Rws.isNil]
  have hl2:=s2 _ _ hl
  have pu2:=cs_same s2 pu
  by_cases hb:ys=[]
  · rw [if_pos hb]
    have eb:∀ B,blk e k (codeRs a (k + 1)) (Rws.isNil b) B=.skip e (k + 1 + (codeRs a (k + 1)).length) :: codeRs a (k + 1):=fun B=>by unfold blk;rw [if_pos (by rw [nb];exact decide_eq_true hb)]
    rw [eb] at q h4
    have ei:(k:Int) + 1 + us.length=((k + 1 + (codeRs a (k + 1)).length:Nat):Int):=by omega
    rw [ei]
    refine ⟨_,SqT.of (S2 _ _ e2),_,rfl,by decide,fun p1 g1=>⟨by decide,fun p2 g2=>?_⟩⟩
    have t1:=isV (o:=HO.tup [V.str (Str.ofString "skip"),V.ref te,V.int (k + 1 + (codeRs a (k + 1)).length:Nat)]) p1 g1
    have t2:=isV (o:=HO.lst [V.ref p1]) p2 g2
    have T:=t1.trans t2
    rw [List.length_cons] at h4
    refine ⟨_,upd_same,us,T _ _ hl2,Nat.le_trans (by rw [List.length_singleton];omega:_≤1000) (by decide),fun p3 g3=>?_⟩
    have t3:=isV (o:=HO.lst ([V.ref p1] ++ us)) p3 g3
    exact q p3 ([V.ref p1] ++ us) _ (S2.trans (T.trans t3)) upd_same (.cons ⟨p1,te,rfl,(t2.trans t3) _ _ upd_same,(S2.trans (T.trans t3)) _ _ e3⟩ (cs_same (T.trans t3) pu2))
  · rw [if_neg hb]
    have eb:∀ B,blk e k (codeRs a (k + 1)) (Rws.isNil b) B=.skip e (k + 2 + (codeRs a (k + 1)).length) :: (codeRs a (k + 1) ++ (.go (k + 2 + (codeRs a (k + 1)).length + B.length) :: B)):=fun B=>by unfold blk;rw [if_neg (by rw [nb];simpa using hb)]
    rw [eb] at q h4
    rw [List.length_cons,List.length_append,List.length_cons] at h4
    have ei:(k:Int) + 1 + us.length + 1=((k + 2 + (codeRs a (k + 1)).length:Nat):Int):=by omega
    rw [ei]
    refine ⟨_,SqT.of (S2 _ _ e2),_,rfl,b,_,rfl,⟨lb,ys,rfl,f4,S2 _ _ e5,e7.mono S2⟩,h3,by omega,fun l2 ws H3 s3 fl2 hl3 pw=>?_⟩
    have lw:=Paired.length pw
    have S3:=S2.trans s3
    have hlu:=s3 _ _ hl2
    have pu3:=cs_same s3 pu2
    refine ⟨_,SqT.of (S3 _ _ e2),_,rfl,by decide,fun p1 g1=>⟨by decide,fun p2 g2=>?_⟩⟩
    have t1:=isV (o:=HO.tup [V.str (Str.ofString "skip"),V.ref te,V.int (k + 2 + (codeRs a (k + 1)).length:Nat)]) p1 g1
    have t2:=isV (o:=HO.lst [V.ref p1]) p2 g2
    have T:=t1.trans t2
    refine ⟨_,upd_same,us,T _ _ hlu,Nat.le_trans (by rw [List.length_singleton];omega:_≤1000) (by decide),fun p3 g3=>?_⟩
    have t3:=isV (o:=HO.lst ([V.ref p1] ++ us)) p3 g3
    have T3:=T.trans t3
    have hp1:=(t2.trans t3) p1 _ upd_same
    refine ⟨ws.length,.inl ⟨_,SqL.of (T3 _ _ hl3),rfl⟩,by decide,?_⟩
    have eg:((k + 2 + (codeRs a (k + 1)).length:Nat):Int) + ws.length=((k + 2 + (codeRs a (k + 1)).length + (codeRs b (k + 2 + (codeRs a (k + 1)).length)).length:Nat):Int):=by omega
    rw [eg]
    have hp3:upd (upd (upd H3 p1 (HO.tup [V.str (Str.ofString "skip"),V.ref te,V.int (k + 2 + (codeRs a (k + 1)).length:Nat)])) p2 (HO.lst [V.ref p1])) p3 (HO.lst ([V.ref p1] ++ us)) p3=some (HO.lst ([V.ref p1] ++ us)):=upd_same
    generalize upd (upd (upd H3 p1 (HO.tup [V.str (Str.ofString "skip"),V.ref te,V.int (k + 2 + (codeRs a (k + 1)).length:Nat)])) p2 (HO.lst [V.ref p1])) p3 (HO.lst ([V.ref p1] ++ us))=H4 at *
    refine fun p4 g4=>⟨by decide,fun p5 g5=>?_⟩
    have t4:=isV (o:=HO.tup [V.str (Str.ofString "go"),V.int (k + 2 + (codeRs a (k + 1)).length + (codeRs b (k + 2 + (codeRs a (k + 1)).length)).length:Nat)]) p4 g4
    have t5:=isV (o:=HO.lst [V.ref p4]) p5 g5
    refine ⟨_,(t4.trans t5) _ _ hp3,_,upd_same,Nat.le_trans (by rw [List.length_append,List.length_singleton,List.length_singleton];omega:_≤1000) (by decide),fun p6 g6=>?_⟩
    have t6:=isV (o:=HO.lst ([V.ref p1] ++ us ++ [V.ref p4])) p6 g6
    refine ⟨_,upd_same,ws,(T3.trans (t4.trans (t5.trans t6))) _ _ hl3,Nat.le_trans (by rw [List.length_append,List.length_append,List.length_singleton,List.length_singleton];omega:_≤1000) (by decide),fun p7 g7=>?_⟩
    have t7:=isV (o:=HO.lst ([V.ref p1] ++ us ++ [V.ref p4] ++ ws)) p7 g7
    have T4:=t4.trans (t5.trans (t6.trans t7))
    have T7:=T3.trans T4
    have el:[V.ref p1] ++ us ++ [V.ref p4] ++ ws=V.ref p1 :: (us ++ (V.ref p4 :: ws)):=by simp
    have P:∀ {Hx:Hp},Same H4 Hx→Hx p4=some (HO.tup [V.str (Str.ofString "go"),V.int (k + 2 + (codeRs a (k + 1)).length + (codeRs b (k + 2 + (codeRs a (k + 1)).length)).length:Nat)])→Paired (CsAt Hx) ([V.ref p1] ++ us ++ [V.ref p4] ++ ws) (.skip e (k + 2 + (codeRs a (k + 1)).length) :: (codeRs a (k + 1) ++ (.go (k + 2 + (codeRs a (k + 1)).length + (codeRs b (k + 2 + (codeRs a (k + 1)).length)).length) :: codeRs b (k + 2 + (codeRs a (k + 1)).length)))):=by
      intro Hx sx hx
      rw [el]
      exact .cons ⟨p1,te,rfl,sx _ _ hp1,(S3.trans (T3.trans sx)) _ _ e3⟩ (Paired.app2 (cs_same (T3.trans sx) pu3) (.cons ⟨p4,rfl,hx⟩ (cs_same (T3.trans sx) pw)))
    exact q p7 _ _ (S3.trans T7) upd_same (P T4 ((t5.trans (t6.trans t7)) _ _ upd_same))
theorem nil_steps_of {vs:List V} {H:Hp} {Q:VK} {E:XK} (h:sp_steps_of 0 vs H Q E):False:=by
  obtain ⟨v,r,k,e,h1,h2,h3⟩:=h
  have:=h2.dp
  omega
theorem rnF {P:Str→Option Value} (T:Txt K P t):RnF K t:=⟨T.cl_Run,T.na_Run_code,T.na_Run_at,T.na_Run_why,T.na_Run_slots,T.na_Run_gifts,T.na_Run_notes,T.na_Run_sayings⟩
section
variable {x:Addr} {a:RAd} {C:List Cs} {s:RSt}
theorem RnAt.notup {b:Addr} {zs:List V} (R:RnAt t H x a C s) (h:H b=some (.tup zs)):¬ Ow x a b:=by
  rintro (rfl | rfl | rfl | rfl | rfl)
  · rw [R.ix] at h;cases h
  · rw [R.hs] at h;cases h
  · rw [R.hg] at h;cases h
  · rw [R.hn] at h;cases h
  · rw [R.ha] at h;cases h
theorem RnAt.ts {H':Hp} (R:RnAt t H x a C s) (k:Kp x a H H'):TSm H H':=fun b ys e=>k b _ (R.notup e) e
theorem Kp.of_same {H':Hp} (s:Same H H'):Kp x a H H':=fun b o _ e=>s b o e
theorem Kp.trans {H' H'':Hp} (h:Kp x a H H') (k:Kp x a H' H''):Kp x a H H'':=fun b o n e=>k b o n (h b o n e)
theorem kp_upd {b:Addr} {o:HO} (h:Ow x a b):Kp x a H (upd H b o):=fun c o' n e=>by rw [upd_ne (fun z=>n (by rw [z];exact h))];exact e
theorem RnAt.same {H':Hp} (R:RnAt t H x a C s) (k:Same H H'):RnAt t H' x a C s :=
  ⟨k _ _ R.ix,let ⟨xs,h1,h2⟩:=R.hc;⟨xs,k _ _ h1,cs_same k h2⟩,k _ _ R.hs,k _ _ R.hg,k _ _ R.hn,k _ _ R.ha,R.ng,R.nc⟩
theorem RnAt.keep {H':Hp} (R:RnAt t H x a C s) (k:∀ b o,OwA x a b→H b=some o→H' b=some o) (ts:TSm H H'):RnAt t H' x a C s :=
  ⟨k _ _ (.inl (.inl rfl)) R.ix,let ⟨xs,h1,h2⟩:=R.hc;⟨xs,k _ _ (.inr rfl) h1,css_ts ts h2⟩,k _ _ (.inl (.inr (.inl rfl))) R.hs,k _ _ (.inl (.inr (.inr (.inl rfl)))) R.hg,k _ _ (.inl (.inr (.inr (.inr (.inl rfl))))) R.hn,k _ _ (.inl (.inr (.inr (.inr (.inr rfl))))) R.ha,R.ng,R.nc⟩
theorem RnAt.putI (R:RnAt t H x a C s) (s':RSt) (e1:s'.sl=s.sl) (e2:s'.gi=s.gi) (e3:s'.no=s.no) (e4:s'.sa=s.sa):RnAt t (upd H x (.ins t.c_Run a.dx (rnFs a s'))) x a C s':=by
  refine ⟨upd_same,?_,?_,?_,?_,?_,R.ng,R.nc⟩
  · obtain ⟨xs,h1,h2⟩:=R.hc
    exact ⟨xs,by rw [upd_ne (ne_of h1 R.ix (fun z=>nomatch z))];exact h1,css_ts (R.ts (kp_upd (.inl rfl))) h2⟩
  · rw [upd_ne (ne_of R.hs R.ix (fun z=>nomatch z)),e1];exact R.hs
  · rw [upd_ne (ne_of R.hg R.ix (fun z=>nomatch z)),e2];exact R.hg
  · rw [upd_ne (ne_of R.hn R.ix (fun z=>nomatch z)),e3];exact R.hn
  · rw [upd_ne (ne_of R.ha R.ix (fun z=>nomatch z)),e4];exact R.ha
theorem RnAt.putS (R:RnAt t H x a C s) (kvs:List (Key × V)):RnAt t (upd H a.sl (.dK kvs)) x a C { s with sl:=kvs }:=by
  refine ⟨by rw [upd_ne (ne_of R.ix R.hs (fun z=>nomatch z))];exact R.ix,?_,upd_same,?_,?_,?_,R.ng,R.nc⟩
  · obtain ⟨xs,h1,h2⟩:=R.hc
    exact ⟨xs,by rw [upd_ne (ne_of h1 R.hs (fun z=>nomatch z))];exact h1,css_ts (R.ts (kp_upd (.inr (.inl rfl)))) h2⟩
  · rw [upd_ne (ne_of R.hg R.hs (fun z=>nomatch z))];exact R.hg
  · rw [upd_ne (ne_of R.hn R.hs (fun z=>nomatch z))];exact R.hn
  · rw [upd_ne (ne_of R.ha R.hs (fun z=>nomatch z))];exact R.ha
theorem RnAt.putG (R:RnAt t H x a C s) (rows:List Row):RnAt t (upd H a.gi (.dT (dOf rows))) x a C { s with gi:=rows }:=by
  refine ⟨by rw [upd_ne (ne_of R.ix R.hg (fun z=>nomatch z))];exact R.ix,?_,?_,upd_same,?_,?_,R.ng,R.nc⟩
  · obtain ⟨xs,h1,h2⟩:=R.hc
    exact ⟨xs,by rw [upd_ne (ne_of h1 R.hg (fun z=>nomatch z))];exact h1,css_ts (R.ts (kp_upd (.inr (.inr (.inl rfl))))) h2⟩
  · rw [upd_ne (ne_of R.hs R.hg (fun z=>nomatch z))];exact R.hs
  · rw [upd_ne (Ne.symm R.ng)];exact R.hn
  · rw [upd_ne (ne_of R.ha R.hg (fun z=>nomatch z))];exact R.ha
theorem RnAt.putO (R:RnAt t H x a C s) (rows:List Row):RnAt t (upd H a.no (.dT (dOf rows))) x a C { s with no:=rows }:=by
  refine ⟨by rw [upd_ne (ne_of R.ix R.hn (fun z=>nomatch z))];exact R.ix,?_,?_,?_,upd_same,?_,R.ng,R.nc⟩
  · obtain ⟨xs,h1,h2⟩:=R.hc
    exact ⟨xs,by rw [upd_ne (ne_of h1 R.hn (fun z=>nomatch z))];exact h1,css_ts (R.ts (kp_upd (.inr (.inr (.inr (.inl rfl)))))) h2⟩
  · rw [upd_ne (ne_of R.hs R.hn (fun z=>nomatch z))];exact R.hs
  · rw [upd_ne R.ng];exact R.hg
  · rw [upd_ne (ne_of R.ha R.hn (fun z=>nomatch z))];exact R.ha
theorem RnAt.putA (R:RnAt t H x a C s) (is:List Int):RnAt t (upd H a.sa (.lst (is.map V.int))) x a C { s with sa:=is }:=by
  refine ⟨by rw [upd_ne (ne_of R.ix R.ha (fun z=>nomatch z))];exact R.ix,?_,?_,?_,?_,upd_same,R.ng,R.nc⟩
  · obtain ⟨xs,h1,h2⟩:=R.hc
    exact ⟨xs,by rw [upd_ne R.nc];exact h1,css_ts (R.ts (kp_upd (.inr (.inr (.inr (.inr rfl)))))) h2⟩
  · rw [upd_ne (ne_of R.hs R.ha (fun z=>nomatch z))];exact R.hs
  · rw [upd_ne (ne_of R.hg R.ha (fun z=>nomatch z))];exact R.hg
  · rw [upd_ne (ne_of R.hn R.ha (fun z=>nomatch z))];exact R.hn
end
theorem over_lt {C:List Cs} {s:RSt} (h:¬ overB C s=true):s.n < C.length:=by
  unfold overB at h
  simp only [Bool.or_eq_true,decide_eq_true_eq,not_or] at h
  omega
theorem lastW_snoc (rows:List Row) (p:Pl) (w:Int):lastW (rows ++ [(p,w)]) p=some w:=by
  have h:=val_dOf (rows ++ [(p,w)]) p
  rw [dOf_snoc,valV_put,if_pos rfl] at h
  cases hl:lastW (rows ++ [(p,w)]) p with
  | none=>rw [hl] at h;cases h
  | some i=>rw [hl] at h;cases h;rfl
theorem cs_tup {v:V} {c:Cs} (h:CsAt H v c):∃ p zs hd,v=.ref p∧H p=some (.tup zs)∧atI zs 0=some (.str hd)∧(hd=Str.ofString "take"→∃ sh e x te,c=.row (.take sh e x)∧atI zs 1=some (.str sh)∧atI zs 2=some (.ref te)∧H te=some (.tup e))∧(hd≠Str.ofString "take"→∀ s,asksC c s=none):=by
  cases c with
  | row r =>
    have h1:=h.1
    cases r with
    | take sh e sl=>unfold RwAt at h1;obtain ⟨r,te,rfl,_,_,e2,e3⟩:=h1;exact ⟨r,_,_,rfl,e2,rfl,fun _=>⟨sh,e,sl,te,rfl,rfl,rfl,e3⟩,fun z=>absurd rfl z⟩
    | give sh e f=>unfold RwAt at h1;obtain ⟨r,te,tf,rfl,_,_,_,e2,e3⟩:=h1;exact ⟨r,_,_,rfl,e2,rfl,fun z=>absurd z (by decide +kernel),fun _ _=>rfl⟩
    | lt sl e=>unfold RwAt at h1;obtain ⟨r,te,rfl,_,_,e2,e3⟩:=h1;exact ⟨r,_,_,rfl,e2,rfl,fun z=>absurd z (by decide +kernel),fun _ _=>rfl⟩
    | say e=>unfold RwAt at h1;obtain ⟨r,te,rfl,_,_,e2,e3⟩:=h1;exact ⟨r,_,_,rfl,e2,rfl,fun z=>absurd z (by decide +kernel),fun _ _=>rfl⟩
    | off e=>unfold RwAt at h1;obtain ⟨r,te,rfl,_,_,e2,e3⟩:=h1;exact ⟨r,_,_,rfl,e2,rfl,fun z=>absurd z (by decide +kernel),fun _ _=>rfl⟩
    | iff e b d=>exact (h.2:False).elim
  | skip e to=>obtain ⟨p,te,e1,e2,_⟩:=h;exact ⟨p,_,_,e1,e2,rfl,fun z=>absurd z (by decide +kernel),fun _ _=>rfl⟩
  | go en=>obtain ⟨p,e1,e2⟩:=h;exact ⟨p,_,_,e1,e2,rfl,fun z=>absurd z (by decide +kernel),fun _ _=>rfl⟩
theorem val_no {κ:Type} [DecidableEq κ] {kvs:List (κ × V)} {k:κ} (h:k ∉ kvs.map (·.1)):valV kvs k=none:=by
  cases e:valV kvs k with
  | none=>rfl
  | some v=>exact absurd (valV_in e) h
theorem fold_nd:∀ (gs:List Row) (kvs:List (List Key × V)),(∀ r∈gs,plKey r.1 ∉ kvs.map (·.1))→(gs.map (·.1)).Nodup→gs.foldl dStep kvs=kvs ++ gs.map fun r=>(plKey r.1,V.int r.2)
  | [],kvs,_,_=>by simp
  | r :: gs,kvs,h,nd=>by
    rw [List.map_cons,List.nodup_cons] at nd
    rw [List.foldl_cons,dStep,putK_new _ (val_no (h r List.mem_cons_self)),fold_nd gs _ (fun q hq=>?_) nd.2,List.map_cons,List.append_assoc,List.singleton_append]
    rw [List.map_append,List.mem_append,not_or]
    refine ⟨h q (List.mem_cons_of_mem _ hq),fun z=>nd.1 ?_⟩
    have z2:plKey q.1=plKey r.1:=by simpa using z
    rw [← plKey_inj z2]
    exact List.mem_map_of_mem hq
theorem dOf_nd {gs:List Row} (nd:(gs.map (·.1)).Nodup):dOf gs=gs.map fun r=>(plKey r.1,V.int r.2):=by
  unfold dOf
  rw [fold_nd gs [] (fun _ _ h=>nomatch h) nd,List.nil_append]
theorem prs_same {H H':Hp} (s:Same H H'):∀ {ys:List V} {rows:List Row},Paired (PrAt H) ys rows→Paired (PrAt H') ys rows
  | _,_,.nil=>.nil
  | _,_,.cons ⟨r,p,e1,e2,e3⟩ t=>.cons ⟨r,p,e1,s _ _ e2,s _ _ e3⟩ (prs_same s t)
theorem ini {H HA:Hp} {x sl:Addr} {o i i':HO} (A1:SameX x H HA) (A2:HA x=some i) (h:HA sl=none):x≠sl∧H sl=none∧SameX x H (upd (upd HA sl o) x i')∧upd (upd HA sl o) x i' sl=some o∧SameX x HA (upd (upd HA sl o) x i'):=by
  have n:x≠sl:=ne_of_none A2 h
  have S:SameX x HA (upd (upd HA sl o) x i'):=fun b u nb e=>by rw [upd_ne nb,upd_ne (fun z=>by rw [z,h] at e;cases e)];exact e
  refine ⟨n,?_,fun b u nb e=>S b u nb (A1 b u nb e),by rw [upd_ne (Ne.symm n),upd_same],S⟩
  cases hs:H sl with
  | none=>rfl
  | some u=>rw [A1 sl u (Ne.symm n) hs] at h;cases h
section
variable {x:Addr} {a:RAd} {C:List Cs} {s:RSt} {E:XK}
theorem rdp_Run_over (F:RnF K t) (R:RnAt t H x a C s) (q:∀ H',Same H H'→Q (.bl (overB C s)) H') :
    rd_Run_over K t { nx:=fun _ H'=>Q .non H',rt:=Q } (L2.start ["self"] [.ref x]) H:=by
  simp only [rd_Run_over,tFld,L2.start,tRet,tOp,tVar,tC,tCons,tNil,tOrV,tCB,LenV,rI0,rNotN,cLen,List.map,List.replicate,List.length,List.append,List.cons_append,List.nil_append,List.append_nil,List.getElem?_cons_zero,List.getElem?_cons_succ,Option.some.injEq,exists_eq_left',exists_eq_left,V.int.injEq,V.ref.injEq,V.str.injEq,V.bl.injEq,V.ty.injEq,List.cons.injEq,and_true,true_and,and_assoc,exists_and_left,List.set_cons_zero,List.set_cons_succ,Nat.reduceSub,Nat.reduceAdd,decide_eq_true_eq,Bool.not_eq_true',decide_eq_false_iff_not,Int.reduceToNat,Int.reducePow,Int.reduceNeg,Int.reduceMul,Int.reduceAdd,if_true,ite_true,Bool.false_eq_true,ite_false,if_false]
  obtain ⟨xs,hx,pr⟩:=R.hc
  have lx:=Paired.length pr
  refine ⟨_,_,_,R.ix,F.cl,F.n3,_,rfl,?_⟩
  cases hw:s.why with
  | some w =>
    rw [if_pos (fun z=>nomatch z)]
    have e:overB C s=true:=by unfold overB;rw [hw];rfl
    rw [e] at q
    exact q H fun _ _ z=>z
  | none =>
    rw [if_neg (fun z=>z rfl)]
    refine ⟨_,_,_,R.ix,F.cl,F.n2,_,rfl,_,_,_,R.ix,F.cl,F.n1,_,rfl,xs.length,.inl ⟨_,SqL.of hx,rfl⟩,_,rfl,?_⟩
    have e:overB C s=decide ((xs.length:Int)≤(s.n:Int)):=by unfold overB;rw [hw,lx];simp
    rw [← e]
    exact q H fun _ _ z=>z
theorem rdp_Run_worth_of {tm:Addr} {e:List V} (F:RnF K t) (R:RnAt t H x a C s) (h2:SlotsOk s.sl) (h3:H tm=some (.tup e)) (h4:TermOk e)
    (q:∀ H',Same H H'→fin t (rk s.sl e) Q E H'):rd_Run_worth_of K t E { nx:=fun _ H'=>Q .non H',rt:=Q } (L2.start ["self","term"] [.ref x,.ref tm]) H:=by
  simp only [rd_Run_worth_of,sp_reckoned,tFld,L2.start,tRet,tVar,tCons,tNil,tCall,List.map,List.replicate,List.length,List.append,List.cons_append,List.nil_append,List.append_nil,List.getElem?_cons_zero,List.getElem?_cons_succ,Option.some.injEq,exists_eq_left',exists_eq_left,V.int.injEq,V.ref.injEq,V.str.injEq,V.bl.injEq,V.ty.injEq,List.cons.injEq,and_true,true_and,and_assoc,exists_and_left,List.set_cons_zero,List.set_cons_succ,Nat.reduceSub,Nat.reduceAdd,decide_eq_true_eq,Bool.not_eq_true',decide_eq_false_iff_not,Int.reduceToNat,Int.reducePow,Int.reduceNeg,Int.reduceMul,Int.reduceAdd,if_true,ite_true,Bool.false_eq_true,ite_false,if_false]
  exact ⟨_,_,_,R.ix,F.cl,F.n4,_,rfl,s.sl,_,rfl,e,h3,R.hs,_,h4.good s.sl,h4.2.1,h4.2.2,h2,q⟩
theorem rdp_Run_place_in {p te:Addr} {xs e:List V} {sh:Str} (F:RnF K t) (R:RnAt t H x a C s) (h2:SlotsOk s.sl) (h3:H p=some (.tup xs)) (h4:atI xs 1=some (.str sh)) (h5:atI xs 2=some (.ref te)) (h6:H te=some (.tup e)) (h7:TermOk e)
    (q1:∀ i q H',rk s.sl e=.ok i→Same H H'→H' q=some (.tup [.str sh,.int i])→Q (.ref q) H') (q2:∀ er H',rk s.sl e=.error er→Same H H'→errE t er E H') :
    rd_Run_place_in K t E { nx:=fun _ H'=>Q .non H',rt:=Q } (L2.start ["self","due"] [.ref x,.ref p]) H:=by
  simp only [rd_Run_place_in,sp_Run_worth_of,tMeth,L2.start,rIxT,tRet,tOp,tVar,tC,tTup,tCons,tNil,rIxT,List.map,List.replicate,List.length,List.append,List.cons_append,List.nil_append,List.append_nil,List.getElem?_cons_zero,List.getElem?_cons_succ,Option.some.injEq,exists_eq_left',exists_eq_left,V.int.injEq,V.ref.injEq,V.str.injEq,V.bl.injEq,V.ty.injEq,List.cons.injEq,and_true,true_and,and_assoc,exists_and_left,List.set_cons_zero,List.set_cons_succ,Nat.reduceSub,Nat.reduceAdd,decide_eq_true_eq,Bool.not_eq_true',decide_eq_false_iff_not,Int.reduceToNat,Int.reducePow,Int.reduceNeg,Int.reduceMul,Int.reduceAdd,if_true,ite_true,Bool.false_eq_true,ite_false,if_false]
  refine ⟨_,SqT.of h3,_,h4,_,_,R.ix,rfl,_,SqT.of h3,_,h5,_,rfl,e,a,C,s,R,h2,h6,h7,fun H1 s1=>?_⟩
  cases hk:rk s.sl e with
  | error er=>exact fin_err.mpr (q2 er H1 hk s1)
  | ok n =>
    refine fin_ok.mpr ⟨by decide,fun p hp=>?_⟩
    exact q1 n p _ hk (s1.trans (isV (o:=HO.tup [V.str sh,V.int n]) p hp)) upd_same
theorem rdp_Run_taken {q:Addr} {p:Pl} {w:Int} (F:RnF K t) (R:RnAt t H x a C s) (h2:H q=some (.tup [.str p.1,.int p.2])) (h3:s.no.length≤900)
    (k:∀ H',Kp x a H H'→RnAt t H' x a C (noteW p w s)→Q (.int (knownW p w s)) H') :
    rd_Run_taken K t { nx:=fun _ H'=>Q .non H',rt:=Q } (L2.start ["self","place","worth"] [.ref x,.ref q,.int w]) H:=by
  simp only [rd_Run_taken,sDPut,rInD,tDGet,tFld,L2.start,tSeq,tRet,tNext,tOp,tVar,tIfS,tTest,List.map,List.replicate,List.length,List.append,List.cons_append,List.nil_append,List.append_nil,List.getElem?_cons_zero,List.getElem?_cons_succ,Option.some.injEq,exists_eq_left',exists_eq_left,V.int.injEq,V.ref.injEq,V.str.injEq,V.bl.injEq,V.ty.injEq,List.cons.injEq,and_true,true_and,and_assoc,exists_and_left,List.set_cons_zero,List.set_cons_succ,Nat.reduceSub,Nat.reduceAdd,decide_eq_true_eq,Bool.not_eq_true',decide_eq_false_iff_not,Int.reduceToNat,Int.reducePow,Int.reduceNeg,Int.reduceMul,Int.reduceAdd,if_true,ite_true,Bool.false_eq_true,ite_false,if_false]
  have g1:DGet H a.gi (.ref q) ((lastW s.gi p).map V.int):=.inr ⟨dOf s.gi,plKey p,q,.inl R.hg,rfl,h2,(val_dOf _ _).symm⟩
  have g2:DGet H a.no (.ref q) ((lastW s.no p).map V.int):=.inr ⟨dOf s.no,plKey p,q,.inl R.hn,rfl,h2,(val_dOf _ _).symm⟩
  refine ⟨_,_,_,R.ix,F.cl,F.n5,_,rfl,_,rfl,_,g1,?_⟩
  cases hg:lastW s.gi p with
  | some i =>
    rw [if_pos (by simp)]
    have e:noteW p w s=s:=by unfold noteW;rw [if_pos (.inl (by rw [hg];rfl))]
    have e2:knownW p w s=i:=by unfold knownW;rw [hg];rfl
    rw [e,e2] at k
    rw [hg] at g1
    exact ⟨_,_,_,R.ix,F.cl,F.n5,_,rfl,_,rfl,_,g1,k H (.of_same fun _ _ z=>z) R⟩
  | none =>
    rw [if_neg (by simp)]
    refine ⟨_,_,_,R.ix,F.cl,F.n6,_,rfl,_,rfl,_,g2,?_⟩
    cases ho:lastW s.no p with
    | some i =>
      rw [if_neg (by simp)]
      have e:noteW p w s=s:=by unfold noteW;rw [if_pos (.inr (by rw [ho];rfl))]
      have e2:knownW p w s=i:=by unfold knownW;rw [hg,ho];rfl
      rw [e,e2] at k
      rw [ho] at g2
      exact ⟨_,_,_,R.ix,F.cl,F.n6,_,rfl,_,rfl,_,g2,k H (.of_same fun _ _ z=>z) R⟩
    | none =>
      rw [if_pos (by simp)]
      have e:noteW p w s={ s with no:=s.no ++ [(p,w)] }:=by unfold noteW;rw [if_neg (by rw [hg,ho];simp)]
      have e2:knownW p w s=w:=by unfold knownW;rw [hg,ho];rfl
      rw [e,e2] at k
      have ld:=len_dOf s.no
      have ep:putK (dOf s.no) (plKey p) (V.int w)=dOf (s.no ++ [(p,w)]):=(dOf_snoc s.no (p,w)).symm
      have D:=DPut.t (k:=plKey p) (v:=V.int w) R.hn h2 (Nat.lt_of_le_of_lt (by omega:_≤900) (by decide))
      rw [ep] at D
      have R2:=R.putO (s.no ++ [(p,w)])
      have K2:Kp x a H (upd H a.no (.dT (dOf (s.no ++ [(p,w)])))):=kp_upd (.inr (.inr (.inr (.inl rfl))))
      refine ⟨_,_,_,R.ix,F.cl,F.n6,_,rfl,_,rfl,_,D,_,_,_,R2.ix,F.cl,F.n6,_,rfl,_,rfl,V.int w,?_,k _ K2 R2⟩
      refine .inr ⟨_,plKey p,q,.inl R2.hn,rfl,K2 _ _ (R.notup h2) h2,?_⟩
      rw [val_dOf,lastW_snoc];rfl
theorem rdp_Run_init {l dx:Addr} {xs:List V} (F:RnF K t) (h1:H x=some (.ins t.c_Run dx [])) (h2:H l=some (.lst xs)) (h3:Paired (CsAt H) xs C)
    (q:∀ H' a,SameX x H H'→RnAt t H' x a C st0→(∀ b,OwA x a b→b=x∨H b=none)→Q .non H') :
    rd_Run_init K t { nx:=fun _ H'=>Q .non H',rt:=Q } (L2.start ["self","code"] [.ref x,.ref l]) H:=by
  simp only [rd_Run_init,tDNewT,sFld,putF,L2.start,cLst,tSeq,tVar,tC,tLst,tCons,tNil,tCB,tDNewK,List.map,List.replicate,List.length,List.append,List.cons_append,List.nil_append,List.append_nil,List.getElem?_cons_zero,List.getElem?_cons_succ,Option.some.injEq,exists_eq_left',exists_eq_left,V.int.injEq,V.ref.injEq,V.str.injEq,V.bl.injEq,V.ty.injEq,List.cons.injEq,and_true,true_and,and_assoc,exists_and_left,List.set_cons_zero,List.set_cons_succ,Nat.reduceSub,Nat.reduceAdd,decide_eq_true_eq,Bool.not_eq_true',decide_eq_false_iff_not,Int.reduceToNat,Int.reducePow,Int.reduceNeg,Int.reduceMul,Int.reduceAdd,if_true,ite_true,Bool.false_eq_true,ite_false,if_false]
  refine ⟨xs,.inl (SqL.of h2),fun co hco=>?_⟩
  have nco:x≠co:=ne_of_none h1 hco
  refine ⟨_,_,_,(by rw [upd_ne nco];exact h1),F.cl,F.n1,by decide,_,_,_,upd_same,F.cl,F.n2,(by show (1:Nat) < 1000;decide),_,_,_,upd_same,F.cl,F.n3,(by show (2:Nat) < 1000;decide),?_⟩
  have A1:SameX x H (upd (upd (upd (upd H co (HO.lst xs)) x (.ins t.c_Run dx (putF (Str.ofString "code") (V.ref co) []))) x (.ins t.c_Run dx (putF (Str.ofString "at") (V.int 0) (putF (Str.ofString "code") (V.ref co) [])))) x (.ins t.c_Run dx (putF (Str.ofString "why") V.non (putF (Str.ofString "at") (V.int 0) (putF (Str.ofString "code") (V.ref co) []))))):=fun b o n e=>by
    rw [upd_ne n,upd_ne n,upd_ne n,upd_ne (fun z=>by rw [z,hco] at e;cases e)];exact e
  have A2:(upd (upd (upd (upd H co (HO.lst xs)) x (.ins t.c_Run dx (putF (Str.ofString "code") (V.ref co) []))) x (.ins t.c_Run dx (putF (Str.ofString "at") (V.int 0) (putF (Str.ofString "code") (V.ref co) [])))) x (.ins t.c_Run dx (putF (Str.ofString "why") V.non (putF (Str.ofString "at") (V.int 0) (putF (Str.ofString "code") (V.ref co) []))))) x=some (.ins t.c_Run dx [(Str.ofString "code",V.ref co),(Str.ofString "at",V.int 0),(Str.ofString "why",V.non)]):=upd_same
  have A3:(upd (upd (upd (upd H co (HO.lst xs)) x (.ins t.c_Run dx (putF (Str.ofString "code") (V.ref co) []))) x (.ins t.c_Run dx (putF (Str.ofString "at") (V.int 0) (putF (Str.ofString "code") (V.ref co) [])))) x (.ins t.c_Run dx (putF (Str.ofString "why") V.non (putF (Str.ofString "at") (V.int 0) (putF (Str.ofString "code") (V.ref co) []))))) co=some (.lst xs):=by
    rw [upd_ne (Ne.symm nco),upd_ne (Ne.symm nco),upd_ne (Ne.symm nco),upd_same]
  generalize (upd (upd (upd (upd H co (HO.lst xs)) x (.ins t.c_Run dx (putF (Str.ofString "code") (V.ref co) []))) x (.ins t.c_Run dx (putF (Str.ofString "at") (V.int 0) (putF (Str.ofString "code") (V.ref co) [])))) x (.ins t.c_Run dx (putF (Str.ofString "why") V.non (putF (Str.ofString "at") (V.int 0) (putF (Str.ofString "code") (V.ref co) [])))))=HA at *
  intro sl hsl
  obtain ⟨nsl,fsl,B1,B4,B5⟩:=ini (o:=HO.dK []) (i':=HO.ins t.c_Run dx (putF (Str.ofString "slots") (V.ref sl) [(Str.ofString "code",V.ref co),(Str.ofString "at",V.int 0),(Str.ofString "why",V.non)])) A1 A2 hsl
  refine ⟨_,_,_,(by rw [upd_ne nsl];exact A2),F.cl,F.n4,(by show (3:Nat) < 1000;decide),?_⟩
  have B2:(upd (upd HA sl (HO.dK [])) x (.ins t.c_Run dx (putF (Str.ofString "slots") (V.ref sl) [(Str.ofString "code",V.ref co),(Str.ofString "at",V.int 0),(Str.ofString "why",V.non)]))) x=some (.ins t.c_Run dx [(Str.ofString "code",V.ref co),(Str.ofString "at",V.int 0),(Str.ofString "why",V.non),(Str.ofString "slots",V.ref sl)]):=upd_same
  have B_co:=B5 _ _ (Ne.symm nco) A3
  generalize (upd (upd HA sl (HO.dK [])) x (.ins t.c_Run dx (putF (Str.ofString "slots") (V.ref sl) [(Str.ofString "code",V.ref co),(Str.ofString "at",V.int 0),(Str.ofString "why",V.non)])))=HB at *
  intro gi hgi
  obtain ⟨ngi,fgi,C1,C4,C5⟩:=ini (o:=HO.dT []) (i':=HO.ins t.c_Run dx (putF (Str.ofString "gifts") (V.ref gi) [(Str.ofString "code",V.ref co),(Str.ofString "at",V.int 0),(Str.ofString "why",V.non),(Str.ofString "slots",V.ref sl)])) B1 B2 hgi
  refine ⟨_,_,_,(by rw [upd_ne ngi];exact B2),F.cl,F.n5,(by show (4:Nat) < 1000;decide),?_⟩
  have C2:(upd (upd HB gi (HO.dT [])) x (.ins t.c_Run dx (putF (Str.ofString "gifts") (V.ref gi) [(Str.ofString "code",V.ref co),(Str.ofString "at",V.int 0),(Str.ofString "why",V.non),(Str.ofString "slots",V.ref sl)]))) x=some (.ins t.c_Run dx [(Str.ofString "code",V.ref co),(Str.ofString "at",V.int 0),(Str.ofString "why",V.non),(Str.ofString "slots",V.ref sl),(Str.ofString "gifts",V.ref gi)]):=upd_same
  have C_co:=C5 _ _ (Ne.symm nco) B_co
  have C_sl:=C5 _ _ (Ne.symm nsl) B4
  generalize (upd (upd HB gi (HO.dT [])) x (.ins t.c_Run dx (putF (Str.ofString "gifts") (V.ref gi) [(Str.ofString "code",V.ref co),(Str.ofString "at",V.int 0),(Str.ofString "why",V.non),(Str.ofString "slots",V.ref sl)])))=HC at *
  intro no hno
  obtain ⟨nno,fno,D1,D4,D5⟩:=ini (o:=HO.dT []) (i':=HO.ins t.c_Run dx (putF (Str.ofString "notes") (V.ref no) [(Str.ofString "code",V.ref co),(Str.ofString "at",V.int 0),(Str.ofString "why",V.non),(Str.ofString "slots",V.ref sl),(Str.ofString "gifts",V.ref gi)])) C1 C2 hno
  refine ⟨_,_,_,(by rw [upd_ne nno];exact C2),F.cl,F.n6,(by show (5:Nat) < 1000;decide),Nat.zero_le _,?_⟩
  have D2:(upd (upd HC no (HO.dT [])) x (.ins t.c_Run dx (putF (Str.ofString "notes") (V.ref no) [(Str.ofString "code",V.ref co),(Str.ofString "at",V.int 0),(Str.ofString "why",V.non),(Str.ofString "slots",V.ref sl),(Str.ofString "gifts",V.ref gi)]))) x=some (.ins t.c_Run dx [(Str.ofString "code",V.ref co),(Str.ofString "at",V.int 0),(Str.ofString "why",V.non),(Str.ofString "slots",V.ref sl),(Str.ofString "gifts",V.ref gi),(Str.ofString "notes",V.ref no)]):=upd_same
  have D_co:=D5 _ _ (Ne.symm nco) C_co
  have D_sl:=D5 _ _ (Ne.symm nsl) C_sl
  have D_gi:=D5 _ _ (Ne.symm ngi) C4
  have ngn:gi≠no:=fun z=>by rw [← z,C4] at hno;cases hno
  generalize (upd (upd HC no (HO.dT [])) x (.ins t.c_Run dx (putF (Str.ofString "notes") (V.ref no) [(Str.ofString "code",V.ref co),(Str.ofString "at",V.int 0),(Str.ofString "why",V.non),(Str.ofString "slots",V.ref sl),(Str.ofString "gifts",V.ref gi)])))=HD at *
  intro sa hsa
  obtain ⟨nsa,fsa,E1,E4,E5⟩:=ini (o:=HO.lst []) (i':=HO.ins t.c_Run dx (putF (Str.ofString "sayings") (V.ref sa) [(Str.ofString "code",V.ref co),(Str.ofString "at",V.int 0),(Str.ofString "why",V.non),(Str.ofString "slots",V.ref sl),(Str.ofString "gifts",V.ref gi),(Str.ofString "notes",V.ref no)])) D1 D2 hsa
  refine ⟨_,_,_,(by rw [upd_ne nsa];exact D2),F.cl,F.n7,(by show (6:Nat) < 1000;decide),?_⟩
  have E2:(upd (upd HD sa (HO.lst [])) x (.ins t.c_Run dx (putF (Str.ofString "sayings") (V.ref sa) [(Str.ofString "code",V.ref co),(Str.ofString "at",V.int 0),(Str.ofString "why",V.non),(Str.ofString "slots",V.ref sl),(Str.ofString "gifts",V.ref gi),(Str.ofString "notes",V.ref no)]))) x=some (.ins t.c_Run dx [(Str.ofString "code",V.ref co),(Str.ofString "at",V.int 0),(Str.ofString "why",V.non),(Str.ofString "slots",V.ref sl),(Str.ofString "gifts",V.ref gi),(Str.ofString "notes",V.ref no),(Str.ofString "sayings",V.ref sa)]):=upd_same
  have E_co:=E5 _ _ (Ne.symm nco) D_co
  have E_sl:=E5 _ _ (Ne.symm nsl) D_sl
  have E_gi:=E5 _ _ (Ne.symm ngi) D_gi
  have E_no:=E5 _ _ (Ne.symm nno) D4
  have ncs:co≠sa:=fun z=>by rw [← z,D_co] at hsa;cases hsa
  refine q _ ⟨dx,co,sl,gi,no,sa⟩ E1 ⟨E2,⟨xs,E_co,css_ts (fun b ys e=>E1 b _ (fun z=>by rw [z,h1] at e;cases e) e) h3⟩,E_sl,E_gi,E_no,E4,ngn,ncs⟩ ?_
  rintro b ((z | z | z | z | z) | z)
  · exact .inl z
  · exact .inr (by rw [z];exact fsl)
  · exact .inr (by rw [z];exact fgi)
  · exact .inr (by rw [z];exact fno)
  · exact .inr (by rw [z];exact fsa)
  · exact .inr (by rw [z];exact hco)
theorem rdp_Run_step {P:Str→Option Value} {w:Int} {m:Nat} (T:Txt K P t) (R:RnAt t H x a C s) (h2:∀ c∈C,CsOk c) (h3:RnOk m s) (h4:m≤900) (q:∀ H',Kp x a H H'→RnAt t H' x a C (stepR C w s)→Q .non H') :
    rd_Run_step K t { nx:=fun _ H'=>Q .non H',rt:=Q } (L2.start ["self","worth"] [.ref x,.int w]) H:=by
  simp only [rd_Run_step,sp_Run_over,sp_Run_led_by,tFld,sFld,tMeth,tMethX,tTryNN,putF,sFldX,L2.start,tSeq,tRetN,tNext,tOp,tVar,tC,tCons,tNil,tIfS,tB,rIxL,List.map,List.replicate,List.length,List.append,List.cons_append,List.nil_append,List.append_nil,List.getElem?_cons_zero,List.getElem?_cons_succ,Option.some.injEq,exists_eq_left',exists_eq_left,V.int.injEq,V.ref.injEq,V.str.injEq,V.bl.injEq,V.ty.injEq,List.cons.injEq,and_true,true_and,and_assoc,exists_and_left,List.set_cons_zero,List.set_cons_succ,Nat.reduceSub,Nat.reduceAdd,decide_eq_true_eq,Bool.not_eq_true',decide_eq_false_iff_not,Int.reduceToNat,Int.reducePow,Int.reduceNeg,Int.reduceMul,Int.reduceAdd,if_true,ite_true,Bool.false_eq_true,ite_false,if_false]
  have F:=rnF T
  refine ⟨_,_,R.ix,rfl,a,C,s,R,fun H1 s1=>?_⟩
  have R1:=R.same s1
  by_cases ho:overB C s=true
  · rw [if_pos ho]
    exact q H1 (.of_same s1) (by unfold stepR;rw [if_pos ho];exact R1)
  rw [if_neg ho]
  obtain ⟨xs,hx,pr⟩:=R1.hc
  have lx:=Paired.length pr
  have lt:=over_lt ho
  have hc:C[s.n]?=some C[s.n]:=List.getElem?_eq_getElem lt
  have hv:xs[s.n]?=some xs[s.n]:=List.getElem?_eq_getElem (by omega)
  have cv:=paired_get pr hv hc
  have es:∀ w,stepR C w s=stepC C[s.n] w s:=fun w=>by unfold stepR;rw [if_neg ho,hc]
  rw [es] at q
  refine ⟨_,_,R1.ix,rfl,_,_,_,R1.ix,F.cl,F.n1,_,rfl,_,_,_,R1.ix,F.cl,F.n2,_,rfl,_,rfl,xs,_,rfl,SqL.of hx,_,atI_nat hv,C[s.n],m,a,C,s,R1,cv,h2 _ (List.getElem_mem lt),h3,h4,fun H2 s' k e K2 R2=>⟨_,_,_,R2.ix,F.cl,F.n2,(by show (7:Nat) < 1000;decide),?_⟩,fun H2 er e s2=>?_⟩
  · have z:=R2.putI { s' with n:=k } rfl rfl rfl rfl
    exact q _ ((Kp.of_same s1).trans (K2.trans (kp_upd (.inl rfl)))) (by unfold stepC;rw [e];exact z)
  · have R3:=R1.same s2
    have z:=R3.putI { s with why:=some (whyOf er) } rfl rfl rfl rfl
    have q':=q _ ((Kp.of_same s1).trans ((Kp.of_same s2).trans (kp_upd (.inl rfl)))) (by unfold stepC;rw [e];exact z)
    cases er with
    | nought=>exact ⟨t.c_Nought,rfl,.inr ⟨T.e_Nought_Great,T.e_Nought_Nought,_,_,_,R3.ix,F.cl,F.n3,(by show (7:Nat) < 1000;decide),q'⟩⟩
    | great=>exact ⟨t.c_Great,rfl,.inl ⟨T.e_Great_Great,_,_,_,R3.ix,F.cl,F.n3,(by show (7:Nat) < 1000;decide),q'⟩⟩
    | stuck=>trivial
theorem rdp_Run_asks {P:Str→Option Value} (T:Txt K P t) (R:RnAt t H x a C s) (h2:∀ c∈C,CsOk c) (h3:SlotsOk s.sl) (q1:∀ H',asksR C s=none→Same H H'→Q .non H') (q2:∀ p q H',asksR C s=some p→Same H H'→H' q=some (.tup [.str p.1,.int p.2])→Q (.ref q) H') :
    rd_Run_asks K t { nx:=fun _ H'=>Q .non H',rt:=Q } (L2.start ["self","place"] [.ref x]) H:=by
  simp only [rd_Run_asks,sp_Run_over,sp_Run_place_in,rInD,tFld,tMeth,tMethX,tTryT,L2.start,rIxT,tAsgX,tSeq,tRet,tNext,tOp,tVar,tC,tCons,tNil,tIfS,tOr,tTest,tB,rIxL,rIxT,rNe,scal,List.map,List.replicate,List.length,List.append,List.cons_append,List.nil_append,List.append_nil,List.getElem?_cons_zero,List.getElem?_cons_succ,Option.some.injEq,exists_eq_left',exists_eq_left,V.int.injEq,V.ref.injEq,V.str.injEq,V.bl.injEq,V.ty.injEq,List.cons.injEq,and_true,true_and,and_assoc,exists_and_left,List.set_cons_zero,List.set_cons_succ,Nat.reduceSub,Nat.reduceAdd,decide_eq_true_eq,Bool.not_eq_true',decide_eq_false_iff_not,Int.reduceToNat,Int.reducePow,Int.reduceNeg,Int.reduceMul,Int.reduceAdd,if_true,ite_true,Bool.false_eq_true,ite_false,if_false]
  have F:=rnF T
  refine ⟨_,_,R.ix,rfl,a,C,s,R,fun H1 s1=>?_⟩
  have R1:=R.same s1
  by_cases ho:overB C s=true
  · rw [if_pos ho]
    exact q1 H1 (by unfold asksR;rw [if_pos ho]) s1
  rw [if_neg ho]
  obtain ⟨xs,hx,pr⟩:=R1.hc
  have lx:=Paired.length pr
  have lt:=over_lt ho
  have hc:C[s.n]?=some C[s.n]:=List.getElem?_eq_getElem lt
  have hv:xs[s.n]?=some xs[s.n]:=List.getElem?_eq_getElem (by omega)
  have cv:=paired_get pr hv hc
  have ok:=h2 _ (List.getElem_mem lt)
  have es:asksR C s=asksC C[s.n] s:=by unfold asksR;rw [if_neg ho,hc];rfl
  rw [es] at q1 q2
  obtain ⟨p,zs,hd,ev,hp,h0,ht,hnt⟩:=cs_tup cv
  refine ⟨_,_,_,R1.ix,F.cl,F.n1,_,rfl,_,_,_,R1.ix,F.cl,F.n2,_,rfl,_,rfl,xs,_,rfl,SqL.of hx,_,atI_nat hv,p,ev,_,SqT.of hp,_,h0,rfl,?_⟩
  by_cases hh:hd=Str.ofString "take"
  case neg =>
    rw [if_pos (fun z=>hh (V.str.inj z))]
    exact q1 H1 (hnt hh s) s1
  rw [if_neg (fun z=>z (congrArg V.str hh))]
  obtain ⟨sh,e,sl,te,ec,a1,a2,ht⟩:=ht hh
  rw [ec] at q1 q2 ok
  unfold CsOk RwOk at ok
  simp only [rd_Run_asks_1,rd_Run_asks_2,sp_Run_place_in,rInD,tFld,tMeth,tMethX,tTryT,L2.start,rIxT,tAsgX,tSeq,tRet,tNext,tOp,tVar,tC,tCons,tNil,tIfS,tOr,tTest,tB,rIxL,rIxT,rNe,scal,List.map,List.replicate,List.length,List.append,List.cons_append,List.nil_append,List.append_nil,List.getElem?_cons_zero,List.getElem?_cons_succ,Option.some.injEq,exists_eq_left',exists_eq_left,V.int.injEq,V.ref.injEq,V.str.injEq,V.bl.injEq,V.ty.injEq,List.cons.injEq,and_true,true_and,and_assoc,exists_and_left,List.set_cons_zero,List.set_cons_succ,Nat.reduceSub,Nat.reduceAdd,decide_eq_true_eq,Bool.not_eq_true',decide_eq_false_iff_not,Int.reduceToNat,Int.reducePow,Int.reduceNeg,Int.reduceMul,Int.reduceAdd,if_true,ite_true,Bool.false_eq_true,ite_false,if_false]
  refine ⟨_,_,R1.ix,rfl,_,_,_,R1.ix,F.cl,F.n1,_,rfl,_,_,_,R1.ix,F.cl,F.n2,_,rfl,_,rfl,xs,_,rfl,SqL.of hx,_,atI_nat hv,p,ev,zs,sh,te,e,a,C,s,R1,h3,hp,a1,a2,ht,ok,fun i q H2 hk s2 hq=>?_,fun er H2 hk s2=>?_⟩
  case refine_2 =>
    have q':=q1 H2 (by unfold asksC;simp only [hk]) (s1.trans s2)
    cases er with
    | nought=>exact ⟨t.c_Nought,rfl,T.m_Nought_Great_Nought,q'⟩
    | great=>exact ⟨t.c_Great,rfl,T.m_Great_Great_Nought,q'⟩
    | stuck=>trivial
  have R2:=R1.same s2
  have g1:DGet H2 a.gi (.ref q) ((lastW s.gi (sh,i)).map V.int):=.inr ⟨dOf s.gi,plKey (sh,i),q,.inl R2.hg,rfl,hq,(val_dOf _ _).symm⟩
  have g2:DGet H2 a.no (.ref q) ((lastW s.no (sh,i)).map V.int):=.inr ⟨dOf s.no,plKey (sh,i),q,.inl R2.hn,rfl,hq,(val_dOf _ _).symm⟩
  refine ⟨_,_,_,R2.ix,F.cl,F.n5,_,rfl,_,rfl,_,g1,?_⟩
  cases hg:lastW s.gi (sh,i) with
  | some j =>
    rw [if_pos (by simp)]
    exact q1 H2 (by unfold asksC;simp only [hk,hg];rfl) (s1.trans s2)
  | none =>
    rw [if_neg (by simp)]
    refine ⟨_,_,_,R2.ix,F.cl,F.n6,_,rfl,_,rfl,_,g2,?_⟩
    cases hn:lastW s.no (sh,i) with
    | some j =>
      rw [if_pos (by simp)]
      exact q1 H2 (by unfold asksC;simp only [hk,hg,hn];rfl) (s1.trans s2)
    | none =>
      rw [if_neg (by simp)]
      exact q2 (sh,i) q H2 (by unfold asksC;simp only [hk,hg,hn];rfl) (s1.trans s2) hq
theorem rdp_Run_paper (F:RnF K t) (R:RnAt t H x a C s) (h2:s.no.length≤900) (h3:(s.no.map (·.1)).Nodup) (h4:s.gi.length≤63) (q1:∀ H',overB C s=false→Same H H'→Q .non H')
    (q2:∀ r o nl gl out H',overB C s=true→Same H H'→H nl=none→H gl=none→nl≠gl→H' r=some (.tup [o,.ref nl,.ref gl])→OcAt H' o (ocOf s)→LsAt H' nl s.no→LsAt H' gl out→GiOf s out→Q (.ref r) H') :
    rd_Run_paper K t { nx:=fun _ H'=>Q .non H',rt:=Q } (L2.start ["self","notes"] [.ref x]) H:=by
  simp only [rd_Run_paper,sp_Run_over,cTup,tFld,tMeth,tItems,cLstI,cSrtI,L2.start,tSeq,tAsg,gName,tRet,tNext,tOp,tVar,tC,tLst,tTup,tCons,tNil,tIfS,tNot,tTest,tB,tCB,rNotN,List.map,List.replicate,List.length,List.append,List.cons_append,List.nil_append,List.append_nil,List.getElem?_cons_zero,List.getElem?_cons_succ,Option.some.injEq,exists_eq_left',exists_eq_left,V.int.injEq,V.ref.injEq,V.str.injEq,V.bl.injEq,V.ty.injEq,List.cons.injEq,and_true,true_and,and_assoc,exists_and_left,List.set_cons_zero,List.set_cons_succ,Nat.reduceSub,Nat.reduceAdd,decide_eq_true_eq,Bool.not_eq_true',decide_eq_false_iff_not,Int.reduceToNat,Int.reducePow,Int.reduceNeg,Int.reduceMul,Int.reduceAdd,if_true,ite_true,Bool.false_eq_true,ite_false,if_false]
  refine ⟨_,_,R.ix,rfl,a,C,s,R,fun H1 s1=>?_⟩
  have R1:=R.same s1
  cases ho:overB C s with
  | false=>rw [if_pos rfl];exact q1 H1 ho s1
  | true =>
    rw [if_neg (by decide)]
    simp only [rd_Run_paper_1,rd_Run_paper_2,cTup,tFld,tMeth,tItems,cLstI,cSrtI,L2.start,tSeq,tAsg,gName,tRet,tNext,tOp,tVar,tC,tLst,tTup,tCons,tNil,tIfS,tNot,tTest,tB,tCB,rNotN,List.map,List.replicate,List.length,List.append,List.cons_append,List.nil_append,List.append_nil,List.getElem?_cons_zero,List.getElem?_cons_succ,Option.some.injEq,exists_eq_left',exists_eq_left,V.int.injEq,V.ref.injEq,V.str.injEq,V.bl.injEq,V.ty.injEq,List.cons.injEq,and_true,true_and,and_assoc,exists_and_left,List.set_cons_zero,List.set_cons_succ,Nat.reduceSub,Nat.reduceAdd,decide_eq_true_eq,Bool.not_eq_true',decide_eq_false_iff_not,Int.reduceToNat,Int.reducePow,Int.reduceNeg,Int.reduceMul,Int.reduceAdd,if_true,ite_true,Bool.false_eq_true,ite_false,if_false]
    refine ⟨_,_,_,R1.ix,F.cl,F.n6,_,rfl,_,rfl,_,R1.hn,fun r hr=>⟨a.no,upd_same,dOf s.no,(by rw [upd_ne (ne_of_none R1.hn hr)];exact R1.hn),(by have:=len_dOf s.no;omega),fun l ys H2 s2 fl hl pr=>?_⟩⟩
    have sv:=isV (o:=viewO r a.no) r hr
    have S2:=sv.trans s2
    have R2:=R1.same S2
    have nl:H l=none:=fresh_of (s1.trans sv) fl
    rw [dOf_nd h3] at pr
    have pn:=kv_pr pr
    refine ⟨_,_,_,R2.ix,F.cl,F.n3,_,rfl,?_⟩
    cases hw:s.why with
    | some w =>
      rw [if_pos (fun z=>nomatch z)]
      refine ⟨_,_,_,R2.ix,F.cl,F.n3,_,rfl,by decide,fun p hp=>⟨by decide,fun g hg=>⟨by decide,fun r2 hr2=>?_⟩⟩⟩
      rw [hw]
      rw [hw] at hg hr2
      have t1:=isV (o:=HO.tup [V.str (Str.ofString "off"),whyV (some w)]) p hp
      have t2:=isV (o:=HO.lst []) g hg
      have t3:=isV (o:=HO.tup [V.ref p,V.ref l,V.ref g]) r2 hr2
      have T3:=t1.trans (t2.trans t3)
      refine q2 r2 (.ref p) l g [] _ ho (s1.trans (S2.trans T3)) nl (fresh_of (s1.trans (S2.trans t1)) hg) (fun z=>by rw [← z,t1 _ _ hl] at hg;cases hg) upd_same ?_ ⟨ys,T3 _ _ hl,prs_same T3 pn⟩ ⟨[],t3 _ _ upd_same,.nil⟩ ?_
      · unfold ocOf;rw [hw];exact ⟨p,rfl,(t2.trans t3) _ _ upd_same⟩
      · unfold GiOf;rw [hw]
    | none =>
      rw [if_neg (fun z=>z rfl)]
      refine ⟨_,_,_,R2.ix,F.cl,F.n7,_,rfl,_,rfl,_,.inl ⟨SqL.of R2.ha,fun y hy=>⟨by decide,fun p hp=>?_⟩⟩⟩
      have t1:=isV (o:=HO.tup (List.map V.int s.sa)) y hy
      have t2:=isV (o:=HO.tup [V.str (Str.ofString "done"),V.ref y]) p hp
      have R3:=R2.same (t1.trans t2)
      have ly:=t2 _ _ (upd_same (H:=H2) (a:=y) (o:=HO.tup (List.map V.int s.sa)))
      have lp:upd (upd H2 y (HO.tup (List.map V.int s.sa))) p (HO.tup [V.str (Str.ofString "done"),V.ref y]) p=some (HO.tup [V.str (Str.ofString "done"),V.ref y]):=upd_same
      have T2:=t1.trans t2
      generalize upd (upd H2 y (HO.tup (List.map V.int s.sa))) p (HO.tup [V.str (Str.ofString "done"),V.ref y])=H3 at *
      refine ⟨_,_,_,R3.ix,F.cl,F.n5,_,rfl,_,rfl,_,R3.hg,fun r3 hr3=>⟨a.gi,upd_same,s.gi,(by rw [upd_ne (ne_of_none R3.hg hr3)];exact R3.hg),(by have:=len_dOf s.gi;omega),fun g zs srt H4 s4 fg hg ps ri mi=>⟨by decide,fun r2 hr2=>?_⟩⟩⟩
      have t3:=(isV (o:=viewO r3 a.gi) r3 hr3).trans s4
      have t5:=isV (o:=HO.tup [V.ref p,V.ref l,V.ref g]) r2 hr2
      have T5:=t3.trans t5
      have fg3:H3 g=none:=fresh_of (isV (o:=viewO r3 a.gi) r3 hr3) fg
      refine q2 r2 (.ref p) l g srt _ ho (s1.trans (S2.trans (T2.trans T5))) nl (fresh_of (s1.trans (S2.trans T2)) fg3) (fun z=>by rw [← z,T2 _ _ hl] at fg3;cases fg3) upd_same ?_ ⟨ys,(T2.trans T5) _ _ hl,prs_same (T2.trans T5) pn⟩ ⟨zs,t5 _ _ hg,prs_same t5 ps⟩ ?_
      · unfold ocOf;rw [hw];exact ⟨p,y,rfl,T5 _ _ lp,T5 _ _ ly⟩
      · unfold GiOf;rw [hw];exact ⟨ri,mi⟩
end
theorem noteW_sl (p:Pl) (w:Int) (s:RSt):(noteW p w s).sl=s.sl:=by unfold noteW;split <;> rfl
theorem noteW_n (p:Pl) (w:Int) (s:RSt):(noteW p w s).n=s.n:=by unfold noteW;split <;> rfl
theorem doR_n {r:Rw} {w:Int} {s s':RSt} (h:isDoes r) (e:doR r w s=.ok s'):s'.n=s.n:=by
  cases r with
  | take sh e' x =>
    cases hk:rk s.sl e' with
    | error er=>simp only [doR,hk] at e;cases e
    | ok n=>simp only [doR,hk] at e;cases e;exact noteW_n _ _ _
  | give sh e' f =>
    cases hk:rk s.sl e' with
    | error er=>simp only [doR,hk] at e;cases e
    | ok n =>
      cases hk2:rk s.sl f with
      | error er=>simp only [doR,hk,hk2] at e;cases e
      | ok i=>simp only [doR,hk,hk2] at e;cases e;rfl
  | lt x e' =>
    cases hk:rk s.sl e' with
    | error er=>simp only [doR,hk] at e;cases e
    | ok n=>simp only [doR,hk] at e;cases e;rfl
  | say e' =>
    cases hk:rk s.sl e' with
    | error er=>simp only [doR,hk] at e;cases e
    | ok n=>simp only [doR,hk] at e;cases e;rfl
  | off e'=>exact h.elim
  | iff e' b d=>exact h.elim
theorem led_does {r:Rw} {w:Int} {s:RSt} (h:isDoes r):ledC (.row r) w s=match doR r w s with
    | .error er=>.error er
    | .ok s'=>.ok (s.n + 1,s'):=by
  cases r with
  | off e'=>exact h.elim
  | iff e' b d=>exact h.elim
  | take sh e' x=>rfl
  | give sh e' f=>rfl
  | lt x e'=>rfl
  | say e'=>rfl
theorem does_or (r:Rw) (h:noIf r):(∃ e,r=.off e)∨isDoes r:=by
  cases r with
  | off e'=>exact .inl ⟨e',rfl⟩
  | iff e' b d=>exact h.elim
  | take sh e' x=>exact .inr trivial
  | give sh e' f=>exact .inr trivial
  | lt x e'=>exact .inr trivial
  | say e'=>exact .inr trivial
theorem does_hd {F:Addr→Prop} {v:V} {r:Rw} (h:RwAt F H v r) (d:isDoes r):∃ p xs hd,v=.ref p∧H p=some (.tup xs)∧atI xs 0=some (.str hd)∧hd≠Str.ofString "go"∧hd≠Str.ofString "skip"∧hd≠Str.ofString "off":=by
  cases r with
  | take sh e sl=>unfold RwAt at h;obtain ⟨r,te,rfl,_,_,e2,e3⟩:=h;exact ⟨r,_,_,rfl,e2,rfl,by decide +kernel,by decide +kernel,by decide +kernel⟩
  | give sh e f=>unfold RwAt at h;obtain ⟨r,te,tf,rfl,_,_,_,e2,e3⟩:=h;exact ⟨r,_,_,rfl,e2,rfl,by decide +kernel,by decide +kernel,by decide +kernel⟩
  | lt sl e=>unfold RwAt at h;obtain ⟨r,te,rfl,_,_,e2,e3⟩:=h;exact ⟨r,_,_,rfl,e2,rfl,by decide +kernel,by decide +kernel,by decide +kernel⟩
  | say e=>unfold RwAt at h;obtain ⟨r,te,rfl,_,_,e2,e3⟩:=h;exact ⟨r,_,_,rfl,e2,rfl,by decide +kernel,by decide +kernel,by decide +kernel⟩
  | off e=>exact d.elim
  | iff e a b=>exact d.elim
section
variable {x:Addr} {a:RAd} {C:List Cs} {s:RSt} {E:XK}
theorem rdp_Run_does {v:V} {r:Rw} {w:Int} {m:Nat} (F:RnF K t) (R:RnAt t H x a C s) (h1:RwAt anyA H v r) (h2:isDoes r) (h3:RwOk r) (h4:RnOk m s) (h5:m≤900)
    (q1:∀ H' s',doR r w s=.ok s'→Kp x a H H'→RnAt t H' x a C s'→Q .non H') (q2:∀ H' er,doR r w s=.error er→Same H H'→errE t er E H') :
    rd_Run_does K t E { nx:=fun _ H'=>Q .non H',rt:=Q } (L2.start ["self","due","worth","place"] [.ref x,v,.int w]) H:=by
  have l1:=h4.l1
  have l2:=h4.l2
  have l4:=h4.l4
  have so:=h4.so
  cases r with
  | take sh e sl' =>
    unfold RwAt at h1
    unfold RwOk at h3
    obtain ⟨r,te,rfl,_,_,e2,e3⟩:=h1
    simp only [rd_Run_does,sp_Run_worth_of,sp_Run_place_in,sp_Run_taken,sDPut,tFld,tMeth,L2.start,r_mt_append,rAppend,rIxT,tSeq,tAsg,gName,tDrop,tOp,tVar,tC,tCons,tNil,tIfS,tTest,tBM,tyV,rIxT,rEq,scal,List.map,List.replicate,List.length,List.append,List.cons_append,List.nil_append,List.append_nil,List.getElem?_cons_zero,List.getElem?_cons_succ,Option.some.injEq,exists_eq_left',exists_eq_left,V.int.injEq,V.ref.injEq,V.str.injEq,V.bl.injEq,V.ty.injEq,List.cons.injEq,and_true,true_and,and_assoc,exists_and_left,List.set_cons_zero,List.set_cons_succ,Nat.reduceSub,Nat.reduceAdd,decide_eq_true_eq,Bool.not_eq_true',decide_eq_false_iff_not,Int.reduceToNat,Int.reducePow,Int.reduceNeg,Int.reduceMul,Int.reduceAdd,if_true,ite_true,Bool.false_eq_true,ite_false,if_false]
    refine ⟨_,SqT.of e2,_,rfl,rfl,?_⟩
    rw [if_pos rfl]
    refine ⟨_,_,R.ix,rfl,_,_,R.ix,rfl,_,sh,te,e,a,C,s,R,so,e2,rfl,rfl,e3,h3,fun i q H1 hk s1 hq=>?_,fun er H1 hk s1=>q2 H1 er (by unfold doR;simp only [hk]) s1⟩
    have R1:=R.same s1
    refine ⟨(sh,i),a,C,s,R1,hq,by have:=h4.l3;omega,fun H2 K2 R2=>?_⟩
    have hs2:=R2.hs
    rw [noteW_sl] at hs2
    exact ⟨_,_,_,R2.ix,F.cl,F.n4,_,rfl,_,SqT.of (K2 _ _ (R1.notup (s1 _ _ e2)) (s1 _ _ e2)),_,rfl,_,rfl,_,DPut.k (k:=.inr sl') hs2 (Nat.lt_of_le_of_lt (by omega:_≤900) (by decide)),q1 _ _ (by unfold doR;simp only [hk]) ((Kp.of_same s1).trans (K2.trans (kp_upd (.inr (.inl rfl))))) (R2.putS _)⟩
  | give sh e f =>
    unfold RwAt at h1
    unfold RwOk at h3
    obtain ⟨r,te,tf,rfl,_,_,_,e2,e3,e4⟩:=h1
    simp only [rd_Run_does,sp_Run_worth_of,sp_Run_place_in,sp_Run_taken,sDPut,tFld,tMeth,L2.start,r_mt_append,rAppend,rIxT,tSeq,tAsg,gName,tDrop,tOp,tVar,tC,tCons,tNil,tIfS,tTest,tBM,tyV,rIxT,rEq,scal,List.map,List.replicate,List.length,List.append,List.cons_append,List.nil_append,List.append_nil,List.getElem?_cons_zero,List.getElem?_cons_succ,Option.some.injEq,exists_eq_left',exists_eq_left,V.int.injEq,V.ref.injEq,V.str.injEq,V.bl.injEq,V.ty.injEq,List.cons.injEq,and_true,true_and,and_assoc,exists_and_left,List.set_cons_zero,List.set_cons_succ,Nat.reduceSub,Nat.reduceAdd,decide_eq_true_eq,Bool.not_eq_true',decide_eq_false_iff_not,Int.reduceToNat,Int.reducePow,Int.reduceNeg,Int.reduceMul,Int.reduceAdd,if_true,ite_true,Bool.false_eq_true,ite_false,if_false]
    refine ⟨_,SqT.of e2,_,rfl,rfl,?_⟩
    rw [if_neg (by decide)]
    refine ⟨_,SqT.of e2,_,rfl,rfl,?_⟩
    rw [if_pos rfl]
    refine ⟨_,_,R.ix,rfl,_,sh,te,e,a,C,s,R,so,e2,rfl,rfl,e3,h3.1,fun i q H1 hk s1 hq=>?_,fun er H1 hk s1=>q2 H1 er (by unfold doR;simp only [hk]) s1⟩
    have R1:=R.same s1
    refine ⟨_,_,R1.ix,rfl,_,SqT.of (s1 _ _ e2),_,rfl,_,rfl,f,a,C,s,R1,so,s1 _ _ e4,h3.2,fun H3 s3=>?_⟩
    cases hk2:rk s.sl f with
    | error er=>exact fin_err.mpr (q2 H3 er (by unfold doR;simp only [hk,hk2]) (s1.trans s3))
    | ok n =>
      have R3:=R1.same s3
      have ld:=len_dOf s.gi
      refine fin_ok.mpr ⟨_,_,_,R3.ix,F.cl,F.n5,_,rfl,_,rfl,_,DPut.t (k:=plKey (sh,i)) R3.hg (s3 _ _ hq) (Nat.lt_of_le_of_lt (by omega:_≤900) (by decide)),?_⟩
      rw [show putK (dOf s.gi) (plKey (sh,i)) (V.int n)=dOf (s.gi ++ [((sh,i),n)]) from (dOf_snoc s.gi ((sh,i),n)).symm]
      exact q1 _ _ (by unfold doR;simp only [hk,hk2]) ((Kp.of_same (s1.trans s3)).trans (kp_upd (.inr (.inr (.inl rfl))))) (R3.putG _)
  | lt sl' e =>
    unfold RwAt at h1
    unfold RwOk at h3
    obtain ⟨r,te,rfl,_,_,e2,e3⟩:=h1
    simp only [rd_Run_does,sp_Run_worth_of,sp_Run_place_in,sp_Run_taken,sDPut,tFld,tMeth,L2.start,r_mt_append,rAppend,rIxT,tSeq,tAsg,gName,tDrop,tOp,tVar,tC,tCons,tNil,tIfS,tTest,tBM,tyV,rIxT,rEq,scal,List.map,List.replicate,List.length,List.append,List.cons_append,List.nil_append,List.append_nil,List.getElem?_cons_zero,List.getElem?_cons_succ,Option.some.injEq,exists_eq_left',exists_eq_left,V.int.injEq,V.ref.injEq,V.str.injEq,V.bl.injEq,V.ty.injEq,List.cons.injEq,and_true,true_and,and_assoc,exists_and_left,List.set_cons_zero,List.set_cons_succ,Nat.reduceSub,Nat.reduceAdd,decide_eq_true_eq,Bool.not_eq_true',decide_eq_false_iff_not,Int.reduceToNat,Int.reducePow,Int.reduceNeg,Int.reduceMul,Int.reduceAdd,if_true,ite_true,Bool.false_eq_true,ite_false,if_false]
    refine ⟨_,SqT.of e2,_,rfl,rfl,?_⟩
    rw [if_neg (by decide)]
    refine ⟨_,SqT.of e2,_,rfl,rfl,?_⟩
    rw [if_neg (by decide)]
    refine ⟨_,SqT.of e2,_,rfl,rfl,?_⟩
    rw [if_pos rfl]
    refine ⟨_,_,R.ix,rfl,_,SqT.of e2,_,rfl,_,rfl,e,a,C,s,R,so,e3,h3,fun H1 s1=>?_⟩
    cases hk:rk s.sl e with
    | error er=>exact fin_err.mpr (q2 H1 er (by unfold doR;simp only [hk]) s1)
    | ok n =>
      have R2:=R.same s1
      exact fin_ok.mpr ⟨_,_,_,R2.ix,F.cl,F.n4,_,rfl,_,SqT.of (s1 _ _ e2),_,rfl,_,rfl,_,DPut.k (k:=.inr sl') R2.hs (Nat.lt_of_le_of_lt (by omega:_≤900) (by decide)),q1 _ _ (by unfold doR;simp only [hk]) ((Kp.of_same s1).trans (kp_upd (.inr (.inl rfl)))) (R2.putS _)⟩
  | say e =>
    unfold RwAt at h1
    unfold RwOk at h3
    obtain ⟨r,te,rfl,_,_,e2,e3⟩:=h1
    simp only [rd_Run_does,sp_Run_worth_of,sp_Run_place_in,sp_Run_taken,sDPut,tFld,tMeth,L2.start,r_mt_append,rAppend,rIxT,tSeq,tAsg,gName,tDrop,tOp,tVar,tC,tCons,tNil,tIfS,tTest,tBM,tyV,rIxT,rEq,scal,List.map,List.replicate,List.length,List.append,List.cons_append,List.nil_append,List.append_nil,List.getElem?_cons_zero,List.getElem?_cons_succ,Option.some.injEq,exists_eq_left',exists_eq_left,V.int.injEq,V.ref.injEq,V.str.injEq,V.bl.injEq,V.ty.injEq,List.cons.injEq,and_true,true_and,and_assoc,exists_and_left,List.set_cons_zero,List.set_cons_succ,Nat.reduceSub,Nat.reduceAdd,decide_eq_true_eq,Bool.not_eq_true',decide_eq_false_iff_not,Int.reduceToNat,Int.reducePow,Int.reduceNeg,Int.reduceMul,Int.reduceAdd,if_true,ite_true,Bool.false_eq_true,ite_false,if_false]
    refine ⟨_,SqT.of e2,_,rfl,rfl,?_⟩
    rw [if_neg (by decide)]
    refine ⟨_,SqT.of e2,_,rfl,rfl,?_⟩
    rw [if_neg (by decide)]
    refine ⟨_,SqT.of e2,_,rfl,rfl,?_⟩
    rw [if_neg (by decide)]
    refine ⟨_,_,_,R.ix,F.cl,F.n7,_,rfl,.inl ⟨_,SqL.of R.ha⟩,_,_,R.ix,rfl,_,SqT.of e2,_,rfl,_,rfl,e,a,C,s,R,so,e3,h3,fun H1 s1=>?_⟩
    cases hk:rk s.sl e with
    | error er=>exact fin_err.mpr (q2 H1 er (by unfold doR;simp only [hk]) s1)
    | ok n =>
      have R1:=R.same s1
      refine fin_ok.mpr ⟨_,rfl,_,R1.ha,Nat.lt_of_le_of_lt (by rw [List.length_map];omega:_≤900) (by decide),?_⟩
      rw [show List.map V.int s.sa ++ [V.int n]=List.map V.int (s.sa ++ [n]) by simp]
      exact q1 _ _ (by unfold doR;simp only [hk]) ((Kp.of_same s1).trans (kp_upd (.inr (.inr (.inr (.inr rfl)))))) (R1.putA _)
  | off e=>exact h2.elim
  | iff e b d=>exact h2.elim
theorem rdp_Run_led_by {v:V} {c:Cs} {w:Int} {m:Nat} (F:RnF K t) (R:RnAt t H x a C s) (h1:CsAt H v c) (h2:CsOk c) (h3:RnOk m s) (h4:m≤900)
    (q1:∀ H' s' k,ledC c w s=.ok (k,s')→Kp x a H H'→RnAt t H' x a C s'→Q (.int (k:Nat)) H') (q2:∀ H' er,ledC c w s=.error er→Same H H'→errE t er E H') :
    rd_Run_led_by K t E { nx:=fun _ H'=>Q .non H',rt:=Q } (L2.start ["self","due","worth"] [.ref x,v,.int w]) H:=by
  have so:=h3.so
  cases c with
  | go en =>
    obtain ⟨p,rfl,e2⟩:=h1
    simp only [rd_Run_led_by,sp_Run_worth_of,sp_Run_does,tFld,sFld,tMeth,putF,L2.start,rIxT,tSeq,tRet,tDrop,tNext,tOp,tVar,tC,tCons,tNil,tIfS,tTest,tIf,rIxT,rEq,rNe,rI0,scal,List.map,List.replicate,List.length,List.append,List.cons_append,List.nil_append,List.append_nil,List.getElem?_cons_zero,List.getElem?_cons_succ,Option.some.injEq,exists_eq_left',exists_eq_left,V.int.injEq,V.ref.injEq,V.str.injEq,V.bl.injEq,V.ty.injEq,List.cons.injEq,and_true,true_and,and_assoc,exists_and_left,List.set_cons_zero,List.set_cons_succ,Nat.reduceSub,Nat.reduceAdd,decide_eq_true_eq,Bool.not_eq_true',decide_eq_false_iff_not,Int.reduceToNat,Int.reducePow,Int.reduceNeg,Int.reduceMul,Int.reduceAdd,if_true,ite_true,Bool.false_eq_true,ite_false,if_false]
    refine ⟨_,SqT.of e2,_,rfl,rfl,?_⟩
    rw [if_pos rfl]
    exact ⟨_,SqT.of e2,_,rfl,q1 H s en rfl (.of_same fun _ _ z=>z) R⟩
  | skip e to =>
    obtain ⟨p,te,rfl,e2,e3⟩:=h1
    simp only [rd_Run_led_by,sp_Run_worth_of,sp_Run_does,tFld,sFld,tMeth,putF,L2.start,rIxT,tSeq,tRet,tDrop,tNext,tOp,tVar,tC,tCons,tNil,tIfS,tTest,tIf,rIxT,rEq,rNe,rI0,scal,List.map,List.replicate,List.length,List.append,List.cons_append,List.nil_append,List.append_nil,List.getElem?_cons_zero,List.getElem?_cons_succ,Option.some.injEq,exists_eq_left',exists_eq_left,V.int.injEq,V.ref.injEq,V.str.injEq,V.bl.injEq,V.ty.injEq,List.cons.injEq,and_true,true_and,and_assoc,exists_and_left,List.set_cons_zero,List.set_cons_succ,Nat.reduceSub,Nat.reduceAdd,decide_eq_true_eq,Bool.not_eq_true',decide_eq_false_iff_not,Int.reduceToNat,Int.reducePow,Int.reduceNeg,Int.reduceMul,Int.reduceAdd,if_true,ite_true,Bool.false_eq_true,ite_false,if_false]
    refine ⟨_,SqT.of e2,_,rfl,rfl,?_⟩
    rw [if_neg (by decide)]
    refine ⟨_,SqT.of e2,_,rfl,rfl,?_⟩
    rw [if_pos rfl]
    refine ⟨_,_,R.ix,rfl,_,SqT.of e2,_,rfl,_,rfl,e,a,C,s,R,so,e3,h2,fun H1 s1=>?_⟩
    cases hk:rk s.sl e with
    | error er=>exact fin_err.mpr (q2 H1 er (by unfold ledC;simp only [hk]) s1)
    | ok n =>
      have R2:=R.same s1
      refine fin_ok.mpr ⟨rfl,?_⟩
      by_cases hn:n=0
      · rw [if_pos (congrArg V.int hn)]
        exact ⟨_,SqT.of (s1 _ _ e2),_,rfl,q1 H1 s to (by unfold ledC;simp only [hk,if_pos hn]) (.of_same s1) R2⟩
      · rw [if_neg (fun z=>hn (V.int.inj z))]
        exact ⟨_,_,_,R2.ix,F.cl,F.n2,_,rfl,_,rfl,q1 H1 s (s.n + 1) (by unfold ledC;simp only [hk,if_neg hn]) (.of_same s1) R2⟩
  | row r =>
    obtain ⟨h1,hni⟩:=h1
    rcases does_or r hni with ⟨e,rfl⟩ | hdo
    · unfold RwAt at h1
      unfold CsOk RwOk at h2
      obtain ⟨r,te,rfl,_,_,e2,e3⟩:=h1
      simp only [rd_Run_led_by,sp_Run_worth_of,sp_Run_does,tFld,sFld,tMeth,putF,L2.start,rIxT,tSeq,tRet,tDrop,tNext,tOp,tVar,tC,tCons,tNil,tIfS,tTest,tIf,rIxT,rEq,rNe,rI0,scal,List.map,List.replicate,List.length,List.append,List.cons_append,List.nil_append,List.append_nil,List.getElem?_cons_zero,List.getElem?_cons_succ,Option.some.injEq,exists_eq_left',exists_eq_left,V.int.injEq,V.ref.injEq,V.str.injEq,V.bl.injEq,V.ty.injEq,List.cons.injEq,and_true,true_and,and_assoc,exists_and_left,List.set_cons_zero,List.set_cons_succ,Nat.reduceSub,Nat.reduceAdd,decide_eq_true_eq,Bool.not_eq_true',decide_eq_false_iff_not,Int.reduceToNat,Int.reducePow,Int.reduceNeg,Int.reduceMul,Int.reduceAdd,if_true,ite_true,Bool.false_eq_true,ite_false,if_false]
      refine ⟨_,SqT.of e2,_,rfl,rfl,?_⟩
      rw [if_neg (by decide)]
      refine ⟨_,SqT.of e2,_,rfl,rfl,?_⟩
      rw [if_neg (by decide)]
      refine ⟨_,SqT.of e2,_,rfl,rfl,?_⟩
      rw [if_pos rfl]
      refine ⟨_,_,R.ix,rfl,_,SqT.of e2,_,rfl,_,rfl,e,a,C,s,R,so,e3,h2,fun H1 s1=>?_⟩
      cases hk:rk s.sl e with
      | error er=>exact fin_err.mpr (q2 H1 er (by unfold ledC;simp only [hk]) s1)
      | ok n =>
        have R2:=R.same s1
        refine fin_ok.mpr ⟨rfl,?_⟩
        by_cases hn:n=0
        · rw [if_neg (fun z=>z (congrArg V.int hn))]
          exact ⟨_,_,_,R2.ix,F.cl,F.n2,_,rfl,_,rfl,q1 H1 s (s.n + 1) (by unfold ledC;simp only [hk,if_pos hn]) (.of_same s1) R2⟩
        · rw [if_pos (fun z=>hn (V.int.inj z))]
          have R3:=R2.putI { s with why:=some (Str.ofString "told") } rfl rfl rfl rfl
          refine ⟨_,_,_,R2.ix,F.cl,F.n3,(by show (7:Nat) < 1000;decide),_,_,_,R3.ix,F.cl,F.n2,_,rfl,_,rfl,?_⟩
          exact q1 _ { s with why:=some (Str.ofString "told") } (s.n + 1) (by unfold ledC;simp only [hk,if_neg hn]) ((Kp.of_same s1).trans (kp_upd (.inl rfl))) R3
    · obtain ⟨p,zs,hd,rfl,e2,e3,n1,n2,n3⟩:=does_hd h1 hdo
      have el:=led_does (w:=w) (s:=s) hdo
      simp only [rd_Run_led_by,sp_Run_worth_of,sp_Run_does,tFld,sFld,tMeth,putF,L2.start,rIxT,tSeq,tRet,tDrop,tNext,tOp,tVar,tC,tCons,tNil,tIfS,tTest,tIf,rIxT,rEq,rNe,rI0,scal,List.map,List.replicate,List.length,List.append,List.cons_append,List.nil_append,List.append_nil,List.getElem?_cons_zero,List.getElem?_cons_succ,Option.some.injEq,exists_eq_left',exists_eq_left,V.int.injEq,V.ref.injEq,V.str.injEq,V.bl.injEq,V.ty.injEq,List.cons.injEq,and_true,true_and,and_assoc,exists_and_left,List.set_cons_zero,List.set_cons_succ,Nat.reduceSub,Nat.reduceAdd,decide_eq_true_eq,Bool.not_eq_true',decide_eq_false_iff_not,Int.reduceToNat,Int.reducePow,Int.reduceNeg,Int.reduceMul,Int.reduceAdd,if_true,ite_true,Bool.false_eq_true,ite_false,if_false]
      refine ⟨_,SqT.of e2,_,e3,rfl,?_⟩
      rw [if_neg (fun z=>n1 (V.str.inj z))]
      refine ⟨_,SqT.of e2,_,e3,rfl,?_⟩
      rw [if_neg (fun z=>n2 (V.str.inj z))]
      refine ⟨_,SqT.of e2,_,e3,rfl,?_⟩
      rw [if_neg (fun z=>n3 (V.str.inj z))]
      refine ⟨_,_,R.ix,rfl,r,m,a,C,s,R,h1,hdo,h2,h3,h4,fun H1 s' e K1 R1=>?_,fun H1 er e s1=>q2 H1 er (by rw [el,e]) s1⟩
      have en:=doR_n hdo e
      refine ⟨_,_,_,R1.ix,F.cl,F.n2,_,rfl,_,rfl,?_⟩
      exact q1 H1 s' (s'.n + 1) (by rw [el,e,en]) K1 R1
end
theorem name_ok {x:Str} (h:isName x=true):PyData.strOk x=true:=(name_asc h).flat
def allP (P:Nat→Bool) (x:Str):Prop:=x.cps.toList.all P=true
theorem allP_app {P:Nat→Bool} {x y:Str} (h:allP P x) (h':allP P y):allP P (x ++ y):=by
  unfold allP at *
  rw [cps_app,List.all_append,h,h'];rfl
theorem allP_one {P:Nat→Bool} {c:Nat} (h:P c=true):allP P ⟨#[c]⟩:=by
  show [c].all P=true
  rw [List.all_cons,h];rfl
theorem allP_to {P:Nat→Bool} {x:Str} (h:allP P x) (k:Nat):allP P (Txt.slice x none (some (k:Int))):=by
  unfold allP at *
  rw [slice_to]
  rw [List.all_eq_true] at *
  exact fun c hc=>h c (List.mem_of_mem_take hc)
theorem allP_from {P:Nat→Bool} {x:Str} (h:allP P x) (k:Nat):allP P (Txt.slice x (some (k:Int)) none):=by
  unfold allP at *
  rw [slice_from]
  rw [List.all_eq_true] at *
  exact fun c hc=>h c (List.mem_of_mem_drop hc)
theorem len_to (x:Str) (k:Nat) (h:k≤x.length):(Txt.slice x none (some (k:Int))).length=k:=by
  rw [len_cps] at *
  rw [slice_to,List.length_take];omega
theorem len_from (x:Str) (k:Nat):(Txt.slice x (some (k:Int)) none).length=x.length - k:=by
  rw [len_cps,len_cps,slice_from,List.length_drop]
def inC (c:Nat):Bool:=(Str.ofString "zyxwvtsrqpnmlkjhgfdcb").cps.toList.contains c
theorem inC_L:∀ c∈(Str.ofString "zyxwvtsrqpnmlkjhgfdcb").cps.toList,inL c=true:=by decide +kernel
theorem c_in:∀ c∈(Str.ofString "zyxwvtsrqpnmlkjhgfdcb").cps.toList,inC c=true:=fun c hc=>by unfold inC;exact List.contains_iff_mem.mpr hc
theorem z_in:∀ c∈(Str.ofString "zyxwvutsrqponmlkjihgfedcba").cps.toList,inL c=true:=by decide +kernel
theorem words_six:∀ v∈jw ++ wl,(match v with | .str w=>decide (w.length≠6) && !(w.cps.toList.all inC) | _=>true)=true:=by decide +kernel
theorem no_word {x:Str} (h:x.length=6∨allP inC x):(inV (.str x) jw || inV (.str x) wl)=false:=by
  have key:∀ v∈jw ++ wl,eqV v (.str x)=false:=fun v hv=>by
    have w:=words_six v hv
    cases e:eqV v (.str x) with
    | false=>rfl
    | true =>
      cases v <;> simp only [eqV,Bool.false_eq_true] at e
      rename_i y
      have e':y=x:=by simpa using e
      subst e'
      simp only [Bool.and_eq_true,decide_eq_true_eq,Bool.not_eq_true'] at w
      rcases h with h | h
      · exact absurd h w.1
      · unfold allP at h;rw [h] at w;exact absurd w.2 (by decide)
  rw [Bool.or_eq_false_iff]
  unfold inV
  constructor
  · rw [List.any_eq_false]
    exact fun v hv=>by rw [key v (List.mem_append_left _ hv)];decide
  · rw [List.any_eq_false]
    exact fun v hv=>by rw [key v (List.mem_append_right _ hv)];decide
theorem name_of {x:Str} (h1:1≤x.length) (h2:x.length≤6) (h3:(x.length=6∧allP inL x)∨allP inC x):isName x=true:=by
  have nw:(inV (.str x) jw || inV (.str x) wl)=false:=no_word (h3.imp (·.1) id)
  have al:x.cps.toList.all inL=true:=by
    rcases h3 with h | h
    · exact h.2
    · unfold allP at h
      rw [List.all_eq_true] at *
      exact fun c hc=>inC_L c (List.contains_iff_mem.mp (h c hc))
  have ne:decide (x="")=false:=decide_eq_false fun z=>by rw [z] at h1;exact absurd h1 (by decide)
  have nl:decide (6 < x.length)=false:=decide_eq_false (by omega)
  unfold isName
  rw [nw,al,ne,nl];rfl
structure Sgn (P:Nat→Bool) (sz:Nat) (sg:Str):Prop where
  al:allP P sg
  lo:21≤sg.length
  hi:sg.length≤26
  s1:1≤sz
  s6:sz≤6
  nm:∀ x:Str,x.length=sz→allP P x→isName x=true
theorem sgn_at {P:Nat→Bool} {sz:Nat} {sg:Str} (S:Sgn P sz sg) {i:Int} (h0:0≤i) (h1:i < sg.length):∃ c,atI sg.cps.toList i=some c∧P c=true:=by
  obtain ⟨c,hc,hm⟩:=at_lt (xs:=sg.cps.toList) (i:=i) h0 (by rw [← len_cps];exact h1)
  exact ⟨c,hc,List.all_eq_true.mp S.al c hm⟩
theorem strs_of {P:Str→Prop}:∀ {ys:List V},(∀ v∈ys,∃ x,v=.str x∧P x)→∃ ls:List Str,ys=ls.map V.str∧∀ x∈ls,P x
  | [],_=>⟨[],rfl,fun _ z=>nomatch z⟩
  | v :: r,h=>by
    obtain ⟨x,rfl,px⟩:=h v List.mem_cons_self
    obtain ⟨ls,rfl,pl⟩:=strs_of (ys:=r) fun u hu=>h u (List.mem_cons_of_mem _ hu)
    exact ⟨x :: ls,rfl,fun y hy=>by
      rcases List.mem_cons.mp hy with rfl | hy
      · exact px
      · exact pl y hy⟩
def nmV (v:V):Prop:=∃ x:Str,v=.str x∧isName x=true
theorem rdp_nm8 {P:Nat→Bool} {sz:Nat} {sg stem:Str} {c m tn:Int} {o5:Option V} {at_:Nat} (S:Sgn P sz sg) (hs:stem.length=sz) (hp:allP P stem) (ha:at_ < sz) (h1:0≤m) (h2:m≤6) (q:∀ nm ws H',Same H H'→NamesAt H' nm ws→(ws.length:Int)=m→Q (.ref nm) H') :
    rd__law_names_8 K t { nx:=fun _ H'=>Q .non H',rt:=Q } [some (.int c),some (.int m),some (.int sz),some (.str sg),some (.str stem),o5,some (.int at_),some (.int tn)] H:=by
  simp only [rd__law_names_8,L2.start,gName,tRet,tOp,tVar,tC,tCons,tNil,tSl,tPart,tNoPart,tComp,tYes,capV,iRng1,rIxS,rI0,rSlS,rAddS,List.map,List.replicate,List.length,List.append,List.cons_append,List.nil_append,List.append_nil,List.getElem?_cons_zero,List.getElem?_cons_succ,Option.some.injEq,exists_eq_left',exists_eq_left,V.int.injEq,V.ref.injEq,V.str.injEq,V.bl.injEq,V.ty.injEq,List.cons.injEq,and_true,true_and,and_assoc,exists_and_left,List.set_cons_zero,List.set_cons_succ,Nat.reduceSub,Nat.reduceAdd,decide_eq_true_eq,Bool.not_eq_true',decide_eq_false_iff_not,Int.reduceToNat,Int.reducePow,Int.reduceNeg,Int.reduceMul,Int.reduceAdd,if_true,ite_true,Bool.false_eq_true,ite_false,if_false]
  have lo:=S.lo
  have hi:=S.hi
  have s6:=S.s6
  refine ⟨by omega,by omega,fun D hD=>?_⟩
  refine comp_gen (J:=Itr 0 m.toNat) m.toNat (by omega) (fun τ=>∃ o,τ=[o,some (.str stem),some (.int (at_:Int)),some (.str sg)]) (fun i v=>nmV v) ⟨_,rfl⟩ (fun i H _ h=>h) (fun H _=>Nat.le_refl _) hD ?_ ?_
  · rintro i v τ H2 H' ⟨o,rfl⟩ s hi ⟨rfl,rfl⟩
    simp only [L2.start,gName,tRet,tOp,tVar,tC,tCons,tNil,tSl,tPart,tNoPart,tComp,tYes,capV,iRng1,rIxS,rI0,rSlS,rAddS,List.map,List.replicate,List.length,List.append,List.cons_append,List.nil_append,List.append_nil,List.getElem?_cons_zero,List.getElem?_cons_succ,Option.some.injEq,exists_eq_left',exists_eq_left,V.int.injEq,V.ref.injEq,V.str.injEq,V.bl.injEq,V.ty.injEq,List.cons.injEq,and_true,true_and,and_assoc,exists_and_left,List.set_cons_zero,List.set_cons_succ,Nat.reduceSub,Nat.reduceAdd,decide_eq_true_eq,Bool.not_eq_true',decide_eq_false_iff_not,Int.reduceToNat,Int.reducePow,Int.reduceNeg,Int.reduceMul,Int.reduceAdd,if_true,ite_true,Bool.false_eq_true,ite_false,if_false]
    obtain ⟨d,hd,hP⟩:=sgn_at S (i:=0 + (i:Int)) (by omega) (by omega)
    have l1:=len_to stem at_ (by omega)
    have l2:=len_from stem (at_ + 1)
    have p1:=allP_to hp at_
    have p2:=allP_from hp (at_ + 1)
    rw [show ((at_ + 1:Nat):Int)=(at_:Int) + 1 by omega] at l2 p2
    exact ⟨small_size (by omega),small_size (by omega),d,hd,small_size (by rw [one_len];omega),small_size (by omega),small_size (by rw [len_app,one_len];omega),⟨_,rfl⟩,⟨_,rfl,S.nm _ (by rw [len_app,len_app,one_len];omega) (allP_app (allP_app p1 (allP_one hP)) p2)⟩,Same.refl _⟩
  · intro ys H' hly hv s hq
    obtain ⟨ls,rfl,hp⟩:=strs_of (P:=fun x=>isName x=true) (ys:=ys) fun v hv2=>by
      obtain ⟨i,hi⟩:=List.getElem?_of_mem hv2
      exact hv i v hi
    rw [List.length_map] at hly
    exact q D ls H' s ⟨hq,hp⟩ (by omega)
theorem rdp_nm5 {P:Nat→Bool} {sz:Nat} {sg stem:Str} {c m:Int} {o5:Option V} (S:Sgn P sz sg) (hs:stem.length=sz) (hp:allP P stem) (h1:0≤m) (h2:m≤6) (q:∀ nm ws H',Same H H'→NamesAt H' nm ws→(ws.length:Int)=m→Q (.ref nm) H') :
    rd__law_names_5 K t { nx:=fun _ H'=>Q .non H',rt:=Q } [some (.int c),some (.int m),some (.int sz),some (.str sg),some (.str stem),o5,none,none] H:=by
  simp only [rd__law_names_5,sp__law_draw,L2.start,tSeq,tAsg,gName,tRet,tOp,tVar,tC,tCons,tNil,tCB,tSl,tPart,tNoPart,tCall,tComp,tYes,capV,LenV,iRng1,rIxS,rI,rI0,rSlS,rAddS,cLen,List.map,List.replicate,List.length,List.append,List.cons_append,List.nil_append,List.append_nil,List.getElem?_cons_zero,List.getElem?_cons_succ,Option.some.injEq,exists_eq_left',exists_eq_left,V.int.injEq,V.ref.injEq,V.str.injEq,V.bl.injEq,V.ty.injEq,List.cons.injEq,and_true,true_and,and_assoc,exists_and_left,List.set_cons_zero,List.set_cons_succ,Nat.reduceSub,Nat.reduceAdd,decide_eq_true_eq,Bool.not_eq_true',decide_eq_false_iff_not,Int.reduceToNat,Int.reducePow,Int.reduceNeg,Int.reduceMul,Int.reduceAdd,if_true,ite_true,Bool.false_eq_true,ite_false,if_false]
  have lo:=S.lo
  have hi:=S.hi
  have s1:=S.s1
  have s6:=S.s6
  refine ⟨by decide,by decide,fun r1 H1 a1 b1 s1'=>⟨by omega,by decide,by decide,fun r2 H2 a2 b2 s2'=>⟨small_size (by omega),by omega,?_⟩⟩⟩
  obtain ⟨k,ek⟩:∃ k:Nat,r1 % (sz:Int)=k:=⟨_,(Int.toNat_of_nonneg (Int.emod_nonneg _ (by omega))).symm⟩
  have hk:(k:Int) < sz:=by rw [← ek];exact Int.emod_lt_of_pos _ (by omega)
  obtain ⟨u,eu⟩:∃ u:Nat,r2 % (sg.length:Int)=u:=⟨_,(Int.toNat_of_nonneg (Int.emod_nonneg _ (by omega))).symm⟩
  have hu:(u:Int) < sg.length:=by rw [← eu];exact Int.emod_lt_of_pos _ (by omega)
  rw [ek,eu]
  have l1:=len_to sg u (by omega)
  have l2:=len_from sg u
  refine ⟨small_size (by omega),small_size (by omega),small_size (by omega),?_⟩
  have S':Sgn P sz (Txt.slice sg (some (u:Int)) none ++ Txt.slice sg none (some (u:Int))):=⟨allP_app (allP_from S.al u) (allP_to S.al u),by rw [len_app];omega,by rw [len_app];omega,S.s1,S.s6,S.nm⟩
  exact rdp_nm8 S' hs hp (by omega) h1 h2 fun nm ws H' s hn hl=>q nm ws H' (s1'.trans (s2'.trans s)) hn hl
def nmI (P:Nat→Bool) (c m:Int) (sz:Nat) (sg:Str) (H:Hp) (i:Nat) (σ:St) (H':Hp):Prop:=(∃ (x:Str) (o:Option V),σ=[some (.int c),some (.int m),some (.int sz),some (.str sg),some (.str x),o,none,none]∧x.length=i∧allP P x)∧Same H H'
theorem rdp_nm3 {P:Nat→Bool} {sz:Nat} {sg:Str} {c m:Int} (S:Sgn P sz sg) (h1:0≤m) (h2:m≤6) (q:∀ nm ws H',Same H H'→NamesAt H' nm ws→(ws.length:Int)=m→Q (.ref nm) H') :
    rd__law_names_3 K t { nx:=fun _ H'=>Q .non H',rt:=Q } [some (.int c),some (.int m),some (.int sz),some (.str sg),none,none,none,none] H:=by
  simp only [rd__law_names_3,sp__law_draw,L2.start,tSeq,tAsg,gName,tRet,tOp,tVar,tC,tCons,tNil,tFor,tCB,tSl,tPart,tNoPart,tCall,tComp,tYes,capV,LenV,iRng1,rIxS,rI,rI0,rSlS,rAddS,cLen,List.map,List.replicate,List.length,List.append,List.cons_append,List.nil_append,List.append_nil,List.getElem?_cons_zero,List.getElem?_cons_succ,Option.some.injEq,exists_eq_left',exists_eq_left,V.int.injEq,V.ref.injEq,V.str.injEq,V.bl.injEq,V.ty.injEq,List.cons.injEq,and_true,true_and,and_assoc,exists_and_left,List.set_cons_zero,List.set_cons_succ,Nat.reduceSub,Nat.reduceAdd,decide_eq_true_eq,Bool.not_eq_true',decide_eq_false_iff_not,Int.reduceToNat,Int.reducePow,Int.reduceNeg,Int.reduceMul,Int.reduceAdd,if_true,ite_true,Bool.false_eq_true,ite_false,if_false]
  have lo:=S.lo
  have hi:=S.hi
  have s1:=S.s1
  have s6:=S.s6
  refine ⟨by omega,by omega,loop_range (nmI P c m sz sg H) ⟨⟨_,none,rfl,by decide +kernel,by show [].all P=true;rfl⟩,Same.refl H⟩ ?_ ?_⟩
  · rintro i σ H' hi ⟨⟨x,o,rfl,hx,hp⟩,s⟩
    simp only [L2.start,tSeq,tAsg,gName,tRet,tOp,tVar,tC,tCons,tNil,tFor,tCB,tSl,tPart,tNoPart,tCall,tComp,tYes,capV,LenV,iRng1,rIxS,rI,rI0,rSlS,rAddS,cLen,List.map,List.replicate,List.length,List.append,List.cons_append,List.nil_append,List.append_nil,List.getElem?_cons_zero,List.getElem?_cons_succ,Option.some.injEq,exists_eq_left',exists_eq_left,V.int.injEq,V.ref.injEq,V.str.injEq,V.bl.injEq,V.ty.injEq,List.cons.injEq,and_true,true_and,and_assoc,exists_and_left,List.set_cons_zero,List.set_cons_succ,Nat.reduceSub,Nat.reduceAdd,decide_eq_true_eq,Bool.not_eq_true',decide_eq_false_iff_not,Int.reduceToNat,Int.reducePow,Int.reduceNeg,Int.reduceMul,Int.reduceAdd,if_true,ite_true,Bool.false_eq_true,ite_false,if_false]
    refine ⟨by omega,by omega,fun r1 H1 a1 b1 s1'=>⟨small_size (by omega),by omega,?_⟩⟩
    obtain ⟨d,hd,hP⟩:=sgn_at S (i:=r1 % (sg.length:Int)) (Int.emod_nonneg _ (by omega)) (Int.emod_lt_of_pos _ (by omega))
    exact ⟨small_size (by omega),d,hd,small_size (by rw [one_len];omega),⟨_,_,rfl,by rw [len_app,one_len];omega,allP_app hp (allP_one hP)⟩,s.trans s1'⟩
  · rintro σ H' ⟨⟨x,o,rfl,hx,hp⟩,s⟩
    exact rdp_nm5 S (by omega) hp h1 h2 fun nm ws H2 s2 hn hl=>q nm ws H2 (s.trans s2) hn hl
theorem rdp__law_names {c m:Int} (h1:0≤m) (h2:m≤6) (q:∀ nm ws H',Same H H'→NamesAt H' nm ws→(ws.length:Int)=m→Q (.ref nm) H') :
    rd__law_names K t { nx:=fun _ H'=>Q .non H',rt:=Q } (L2.start ["cell","many","size","signs","stem","k","at","turn"] [.int c,.int m]) H:=by
  simp only [rd__law_names,sp__law_draw,L2.start,tSeq,tAsg,gName,tRet,tNext,tOp,tVar,tC,tCons,tNil,tFor,tIfS,tTest,tCB,tSl,tPart,tNoPart,tCall,tComp,tYes,capV,LenV,iRng1,rIxS,rEq,rI,rI0,rSlS,rAddS,cLen,scal,List.map,List.replicate,List.length,List.append,List.cons_append,List.nil_append,List.append_nil,List.getElem?_cons_zero,List.getElem?_cons_succ,Option.some.injEq,exists_eq_left',exists_eq_left,V.int.injEq,V.ref.injEq,V.str.injEq,V.bl.injEq,V.ty.injEq,List.cons.injEq,and_true,true_and,and_assoc,exists_and_left,List.set_cons_zero,List.set_cons_succ,Nat.reduceSub,Nat.reduceAdd,decide_eq_true_eq,Bool.not_eq_true',decide_eq_false_iff_not,Int.reduceToNat,Int.reducePow,Int.reduceNeg,Int.reduceMul,Int.reduceAdd,if_true,ite_true,Bool.false_eq_true,ite_false,if_false]
  refine ⟨by decide,by decide,fun r1 H1 a1 b1 s1'=>⟨by decide,?_⟩⟩
  obtain ⟨k,ek⟩:∃ k:Nat,1 + r1 % 6=k:=⟨(1 + r1 % 6).toNat,by omega⟩
  rw [ek]
  have lc:(Str.ofString "zyxwvtsrqpnmlkjhgfdcb").length=21:=by decide +kernel
  have lz:(Str.ofString "zyxwvutsrqponmlkjihgfedcba").length=26:=by decide +kernel
  refine ite2 (fun e=>?_) fun e=>?_
  · have e5:(k:Int)=6:=by simpa using e
    have e6:k=6:=by omega
    exact rdp_nm3 (P:=inL) (sg:="zyxwvutsrqponmlkjihgfedcba") ⟨List.all_eq_true.mpr z_in,by rw [lz];omega,by rw [lz];omega,by omega,by omega,fun x hx hp=>name_of (by omega) (by omega) (.inl ⟨by omega,hp⟩)⟩ h1 h2 fun nm ws H2 s2 hn hl=>q nm ws H2 (s1'.trans s2) hn hl
  · exact rdp_nm3 (P:=inC) (sg:="zyxwvtsrqpnmlkjhgfdcb") ⟨List.all_eq_true.mpr c_in,by rw [lc];omega,by rw [lc];omega,by omega,by omega,fun x hx hp=>name_of (by omega) (by omega) (.inr hp)⟩ h1 h2 fun nm ws H2 s2 hn hl=>q nm ws H2 (s1'.trans s2) hn hl
structure RnP (m:Nat) (s:RSt):Prop where
  ok:RnOk m s
  ng:∀ r∈s.gi,PyData.strOk r.1.1=true
  nn:∀ r∈s.no,PyData.strOk r.1.1=true
theorem RnOk.up {m:Nat} {s:RSt} (h:RnOk m s):RnOk (m + 1) s:=⟨h.so,h.gw,h.nw,Nat.le_succ_of_le h.l1,Nat.le_succ_of_le h.l2,Nat.le_succ_of_le h.l3,Nat.le_succ_of_le h.l4,h.nd⟩
theorem RnP.up {m:Nat} {s:RSt} (h:RnP m s):RnP (m + 1) s:=⟨h.ok.up,h.ng,h.nn⟩
theorem last_not {p:Pl} {l:List Row} (nd:(l.map (·.1)).Nodup) (h:lastW l p=none):p ∉ l.map (·.1):=fun z=>by
  obtain ⟨r,hr,e⟩:=List.mem_map.mp z
  have:=(last_nd (w:=r.2) nd).mpr (show (p,r.2)∈l by rw [← e];exact hr)
  rw [h] at this
  cases this
theorem known_in {m:Nat} {s:RSt} {p:Pl} {w:Int} (h:RnOk m s) (hw:inW w=true):inW (knownW p w s)=true:=by
  unfold knownW
  cases e:lastW s.gi p with
  | some i=>exact last_in (P:=fun r=>inW r.2=true) h.gw e
  | none =>
    cases e2:lastW s.no p with
    | some i=>exact last_in (P:=fun r=>inW r.2=true) h.nw e2
    | none=>exact hw
theorem note_ok {m:Nat} {s:RSt} {p:Pl} {w i:Int} {x:Str} (h:RnP m s) (hp:PyData.strOk p.1=true) (hw:inW w=true) (hi:inW i=true):RnP (m + 1) { noteW p w s with sl:=putK s.sl (.inr x) (.int i) }:=by
  have so:=slots_put h.ok.so (.inr x) hi
  have l1:(putK s.sl (.inr x) (V.int i)).length≤m + 1:=Nat.le_trans (length_putK _ _ _) (Nat.succ_le_succ h.ok.l1)
  unfold noteW
  by_cases c:(lastW s.gi p).isSome=true∨(lastW s.no p).isSome=true
  · rw [if_pos c]
    exact ⟨⟨so,h.ok.gw,h.ok.nw,l1,Nat.le_succ_of_le h.ok.l2,Nat.le_succ_of_le h.ok.l3,Nat.le_succ_of_le h.ok.l4,h.ok.nd⟩,h.ng,h.nn⟩
  · rw [if_neg c]
    have cn:lastW s.no p=none:=by
      cases e:lastW s.no p with
      | none=>rfl
      | some i=>exact absurd (.inr (by rw [e];rfl)) c
    refine ⟨⟨so,h.ok.gw,fun r hr=>?_,l1,Nat.le_succ_of_le h.ok.l2,?_,Nat.le_succ_of_le h.ok.l4,?_⟩,h.ng,fun r hr=>?_⟩
    · rcases List.mem_append.mp hr with hr | hr
      · exact h.ok.nw r hr
      · rw [List.mem_singleton.mp hr];exact hw
    · show (s.no ++ [(p,w)]).length≤m + 1
      rw [List.length_append];exact Nat.succ_le_succ h.ok.l3
    · show ((s.no ++ [(p,w)]).map (·.1)).Nodup
      rw [List.map_append]
      refine List.nodup_append.mpr ⟨h.ok.nd,by simp,fun a ha b hb=>?_⟩
      have hb:b=p:=by simpa using hb
      rw [hb]
      exact fun z=>last_not h.ok.nd cn (by rw [← z];exact ha)
    · rcases List.mem_append.mp hr with hr | hr
      · exact h.nn r hr
      · rw [List.mem_singleton.mp hr];exact hp
theorem doR_ok {r:Rw} {m:Nat} {w:Int} {s s':RSt} (h:RnP m s) (d:isDoes r) (k:RwOk r) (pl:RwPl r) (hw:inW w=true) (e:doR r w s=.ok s'):RnP (m + 1) s'∧s'.why=s.why:=by
  cases r with
  | off e'=>exact d.elim
  | iff e' b c=>exact d.elim
  | take sh e' x =>
    cases hk:rk s.sl e' with
    | error er=>simp only [doR,hk] at e;cases e
    | ok n =>
      simp only [doR,hk] at e
      cases e
      exact ⟨note_ok h pl.1 hw (known_in h.ok hw),by show (noteW _ _ _).why=_;unfold noteW;split <;> rfl⟩
  | give sh e' f =>
    cases hk:rk s.sl e' with
    | error er=>simp only [doR,hk] at e;cases e
    | ok n =>
      cases hk2:rk s.sl f with
      | error er=>simp only [doR,hk,hk2] at e;cases e
      | ok i =>
        simp only [doR,hk,hk2] at e
        cases e
        have hi:=rk_inW h.ok.so k.2.2.1 hk2
        refine ⟨⟨⟨h.ok.so,fun r hr=>?_,h.ok.nw,Nat.le_succ_of_le h.ok.l1,?_,Nat.le_succ_of_le h.ok.l3,Nat.le_succ_of_le h.ok.l4,h.ok.nd⟩,fun r hr=>?_,h.nn⟩,rfl⟩
        · rcases List.mem_append.mp hr with hr | hr
          · exact h.ok.gw r hr
          · rw [List.mem_singleton.mp hr];exact hi
        · show (s.gi ++ [((sh,n),i)]).length≤m + 1
          rw [List.length_append];exact Nat.succ_le_succ h.ok.l2
        · rcases List.mem_append.mp hr with hr | hr
          · exact h.ng r hr
          · rw [List.mem_singleton.mp hr];exact pl.1
  | lt x e' =>
    cases hk:rk s.sl e' with
    | error er=>simp only [doR,hk] at e;cases e
    | ok i =>
      simp only [doR,hk] at e
      cases e
      have hi:=rk_inW h.ok.so k.2.1 hk
      exact ⟨⟨⟨slots_put h.ok.so _ hi,h.ok.gw,h.ok.nw,Nat.le_trans (length_putK _ _ _) (Nat.succ_le_succ h.ok.l1),Nat.le_succ_of_le h.ok.l2,Nat.le_succ_of_le h.ok.l3,Nat.le_succ_of_le h.ok.l4,h.ok.nd⟩,h.ng,h.nn⟩,rfl⟩
  | say e' =>
    cases hk:rk s.sl e' with
    | error er=>simp only [doR,hk] at e;cases e
    | ok i =>
      simp only [doR,hk] at e
      cases e
      exact ⟨⟨⟨h.ok.so,h.ok.gw,h.ok.nw,Nat.le_succ_of_le h.ok.l1,Nat.le_succ_of_le h.ok.l2,Nat.le_succ_of_le h.ok.l3,by show (s.sa ++ [i]).length≤m + 1;rw [List.length_append];exact Nat.succ_le_succ h.ok.l4,h.ok.nd⟩,h.ng,h.nn⟩,rfl⟩
theorem why_ok (er:Er):PyData.strOk (whyOf er)=true:=by cases er <;> decide +kernel
theorem step_ok {C:List Cs} {m:Nat} {w:Int} {s:RSt} (O:CoOk C) (h:RnI C m s) (ho:overB C s=false) (hw:inW w=true):RnI C (m + 1) (stepR C w s):=by
  have no:¬ overB C s=true:=by rw [ho];decide
  have lt:=over_lt no
  have hc:C[s.n]?=some C[s.n]:=List.getElem?_eq_getElem lt
  have es:stepR C w s=stepC C[s.n] w s:=by unfold stepR;rw [if_neg no,hc]
  have wn:s.why=none:=by
    cases e:s.why with
    | none=>rfl
    | some v=>exact absurd (show overB C s=true by unfold overB;rw [e];rfl) no
  have mn:=h.at_ wn
  have ok:=O.ok _ (List.getElem_mem lt)
  have pl:=O.pl _ (List.getElem_mem lt)
  have P:RnP m s:=⟨h.ok,h.ng,h.nn⟩
  have fin:∀ {s':RSt} {k:Nat},RnP (m + 1) s'→(s'.why=none→m + 1≤k)→(∀ v,s'.why=some v→PyData.strOk v=true)→RnI C (m + 1) { s' with n:=k }:=fun {s' k} p l y =>
    ⟨⟨p.ok.so,p.ok.gw,p.ok.nw,p.ok.l1,p.ok.l2,p.ok.l3,p.ok.l4,p.ok.nd⟩,p.ng,p.nn,l,y⟩
  have bad:∀ er,RnI C (m + 1) { s with why:=some (whyOf er) }:=fun er=>⟨⟨P.up.ok.so,P.up.ok.gw,P.up.ok.nw,P.up.ok.l1,P.up.ok.l2,P.up.ok.l3,P.up.ok.l4,P.up.ok.nd⟩,P.ng,P.nn,fun z=>(by cases z),fun v z=>by cases z;exact why_ok er⟩
  have does:∀ r:Rw,isDoes r→CsOk (.row r)→CsPl (.row r)→RnI C (m + 1) (stepC (.row r) w s):=fun r hf ok pl=>by
    unfold stepC
    rw [led_does hf]
    cases hk:doR r w s with
    | error er=>exact bad er
    | ok s' =>
      obtain ⟨a,b⟩:=doR_ok P hf ok pl hw hk
      exact fin a (fun _=>by omega) (fun v z=>h.wy v (by rw [← b];exact z))
  rw [es]
  have hg:∀ to,C[s.n]=.go to→s.n < to:=fun to e=>(O.fg s.n to (by rw [hc,e])).1
  have hs:∀ e to,C[s.n]=.skip e to→s.n < to:=fun e to e2=>(O.fw s.n to e (by rw [hc,e2])).1
  generalize C[s.n]=c at *
  cases c with
  | go to =>
    have:=hg to rfl
    exact fin P.up (fun _=>by omega) h.wy
  | skip e to =>
    have:=hs e to rfl
    cases hk:rk s.sl e with
    | error er=>simp only [stepC,ledC,hk];exact bad er
    | ok i =>
      simp only [stepC,ledC,hk]
      refine fin P.up (fun _=>?_) h.wy
      split <;> omega
  | row r =>
    cases r with
    | off e =>
      cases hk:rk s.sl e with
      | error er=>simp only [stepC,ledC,hk];exact bad er
      | ok i =>
        by_cases hi:i=0
        · simp only [stepC,ledC,hk,if_pos hi]
          exact fin P.up (fun _=>by omega) h.wy
        · simp only [stepC,ledC,hk,if_neg hi]
          exact fin (s':={ s with why:=some (Str.ofString "told") }) ⟨⟨P.up.ok.so,P.up.ok.gw,P.up.ok.nw,P.up.ok.l1,P.up.ok.l2,P.up.ok.l3,P.up.ok.l4,P.up.ok.nd⟩,P.ng,P.nn⟩ (fun z=>by cases z) (fun v z=>by cases z;decide +kernel)
    | iff e b d=>exact fin (k:=s.n + 1) P.up (fun _=>by omega) h.wy
    | take sh e x=>exact does (.take sh e x) trivial ok pl
    | give sh e x=>exact does (.give sh e x) trivial ok pl
    | lt sh e=>exact does (.lt sh e) trivial ok pl
    | say e=>exact does (.say e) trivial ok pl
theorem lf_int {i:Int} (h:inW i=true):okPart (.int i)∧isJ (.int i)=false∧plV (.int i):=⟨.inl ⟨i,rfl,h⟩,rfl,.inl ⟨i,rfl⟩⟩
theorem lf_nam {x:Str} (hx:isName x=true):okPart (.str x)∧isJ (.str x)=false∧plV (.str x):=by
  have:=isName_parts hx
  exact ⟨.inr ⟨x,rfl,by omega⟩,this.2.2.1,.inr ⟨x,rfl,name_ok hx⟩⟩
theorem NamesAt.same {H H':Hp} {nm:Addr} {ws:List Str} (h:NamesAt H nm ws) (s:Same H H'):NamesAt H' nm ws:=⟨s _ _ h.1,h.2⟩
theorem names_at {nm:Addr} {ws:List Str} (h:NamesAt H nm ws) (n:Nat) (hl:ws.length=n) (hn:0 < (n:Int)) (e:Int):∃ x,atI (ws.map V.str) (e % n)=some (.str x)∧x∈ws∧isName x=true:=by
  obtain ⟨v,hv,hm⟩:=at_mod e n (xs:=ws.map V.str) (by rw [List.length_map,hl]) hn
  obtain ⟨x,hx,rfl⟩:=List.mem_map.mp hm
  exact ⟨x,hv,hx,h.2 x hx⟩
theorem tm_one {v:V} (h:okPart v∧isJ v=false∧plV v):TermOk [v]∧tmP [v]:=⟨term_one h.1 h.2.1,fun z hz=>by rw [List.mem_singleton.mp hz];exact h.2.2⟩
theorem tm_two {u v:V} {w:Str} (h:okPart u∧isJ u=false∧plV u) (k:okPart v∧isJ v=false∧plV v) (jw:isJ (.str w)=true) (lw:w.length≤1000) (sw:PyData.strOk w=true):TermOk [u,v,.str w]∧tmP [u,v,.str w]:=⟨term_two h.1 h.2.1 k.1 k.2.1 jw lw,fun z hz=>by
  simp only [List.mem_cons,List.not_mem_nil,or_false] at hz
  rcases hz with rfl | rfl | rfl
  · exact h.2.2
  · exact k.2.2
  · exact .inr ⟨w,rfl,sw⟩⟩
theorem rdp__law_worth {c j:Int} (h1:0≤j) (h2:j≤900) (q:∀ w H',inW w=true→Same H H'→Q (.int w) H') :
    rd__law_worth K t { nx:=fun _ H'=>Q .non H',rt:=Q } (L2.start ["cell","j"] [.int c,.int j]) H:=by
  simp only [rd__law_worth,sp__law_draw,L2.start,tSeq,tRet,tNext,tOp,tVar,tC,tCons,tNil,tIfS,tTest,tCall,rEq,rI,rI0,scal,List.map,List.replicate,List.length,List.append,List.cons_append,List.nil_append,List.append_nil,List.getElem?_cons_zero,List.getElem?_cons_succ,Option.some.injEq,exists_eq_left',exists_eq_left,V.int.injEq,V.ref.injEq,V.str.injEq,V.bl.injEq,V.ty.injEq,List.cons.injEq,and_true,true_and,and_assoc,exists_and_left,List.set_cons_zero,List.set_cons_succ,Nat.reduceSub,Nat.reduceAdd,decide_eq_true_eq,Bool.not_eq_true',decide_eq_false_iff_not,Int.reduceToNat,Int.reducePow,Int.reduceNeg,Int.reduceMul,Int.reduceAdd,if_true,ite_true,Bool.false_eq_true,ite_false,if_false]
  have P30:=pow10 (j:=30) (by decide) (by decide)
  have P40:=pow10 (j:=40) (by decide) (by decide)
  have hb:(1000000000000000000000000000000000000000000000000000000000000:Int) < big:=by decide +kernel
  refine ⟨h1,by omega,fun r1 H1 a1 b1 s1=>⟨by decide,ite2 (fun _=>?_) fun _=>⟨by omega,by omega,fun r2 H2 a2 b2 s2=>⟨by decide,q _ _ (inW_iff.mpr ?_) (s1.trans s2)⟩⟩⟩⟩
  · have g1:=Int.emod_nonneg c (b:=10000000000000000000000000000000000000000) (by decide)
    have g2:=Int.emod_lt_of_pos c (b:=10000000000000000000000000000000000000000) (by decide)
    generalize c % 10000000000000000000000000000000000000000=d at *
    have m1:0≤d * (j + 2):=Int.mul_nonneg g1 (by omega)
    have m2:d * (j + 2)≤10000000000000000000000000000000000000000 * 1000:=Int.mul_le_mul (by omega) (by omega) (by omega) (by decide)
    generalize d * (j + 2)=f at *
    have g3:=Int.emod_nonneg (f * 1000003 + j) (b:=2000000000000000000000000000001) (by decide)
    have g4:=Int.emod_lt_of_pos (f * 1000003 + j) (b:=2000000000000000000000000000001) (by decide)
    exact ⟨P40,by decide,⟨by omega,by omega⟩,⟨by omega,by omega⟩,P30,⟨by omega,by omega⟩,by decide,P30,q _ _ (inW_iff.mpr (by omega)) s1⟩
  · omega
theorem rdp_term3 {c j:Int} {a:Addr} {ws:List Str} {u:V} {o4:Option V} {Hb:Hp} (h1:0≤j) (h2:j≤700) (h3:NamesAt H a ws) (h4:ws.length=2) (hu:okPart u∧isJ u=false∧plV u) (sb:Same Hb H) (q:∀ p e H',Same Hb H'→Hb p=none→H' p=some (.tup e)→TermOk e→tmP e→Q (.ref p) H') :
    rd__law_term_3 K t { nx:=fun _ H'=>Q .non H',rt:=Q } [some (.int c),some (.int j),some (.ref a),some u,o4] H:=by
  simp only [rd__law_term_3,sp__law_draw,L2.start,tSeq,tAsg,gName,tRet,tOp,tVar,tC,tLst,tTup,tCons,tNil,tCall,rIxL,rI,rI0,List.map,List.replicate,List.length,List.append,List.cons_append,List.nil_append,List.append_nil,List.getElem?_cons_zero,List.getElem?_cons_succ,Option.some.injEq,exists_eq_left',exists_eq_left,V.int.injEq,V.ref.injEq,V.str.injEq,V.bl.injEq,V.ty.injEq,List.cons.injEq,and_true,true_and,and_assoc,exists_and_left,List.set_cons_zero,List.set_cons_succ,Nat.reduceSub,Nat.reduceAdd,decide_eq_true_eq,Bool.not_eq_true',decide_eq_false_iff_not,Int.reduceToNat,Int.reducePow,Int.reduceNeg,Int.reduceMul,Int.reduceAdd,if_true,ite_true,Bool.false_eq_true,ite_false,if_false]
  refine ⟨by decide,fun l hl=>?_⟩
  obtain ⟨H1,eH,s1,q1⟩:=new_obj (o:=HO.lst [V.str (Str.ofString "plus"),V.str (Str.ofString "minus"),V.str (Str.ofString "times"),V.str (Str.ofString "over"),V.str (Str.ofString "rest"),V.str (Str.ofString "same"),V.str (Str.ofString "under")]) hl
  rw [← eH]
  clear eH
  refine ⟨by omega,by omega,fun r1 H2 a1 b1 s2=>⟨by decide,?_⟩⟩
  obtain ⟨x,hx,_,hn⟩:=names_at h3 2 h4 (by decide) r1
  refine ⟨_,SqL.of ((s1.trans s2) _ _ h3.1),_,hx,by omega,by omega,fun r2 H3 a2 b2 s3=>⟨by decide,?_⟩⟩
  obtain ⟨y,hy,hm⟩:=at_mod r2 7 (xs:=[V.str (Str.ofString "plus"),V.str (Str.ofString "minus"),V.str (Str.ofString "times"),V.str (Str.ofString "over"),V.str (Str.ofString "rest"),V.str (Str.ofString "same"),V.str (Str.ofString "under")]) rfl (by decide)
  obtain ⟨w,rfl,jw,lw,sw⟩:∃ w:Str,y=.str w∧isJ (.str w)=true∧w.length≤1000∧PyData.strOk w=true:=by
    simp only [List.mem_cons,List.not_mem_nil,or_false] at hm
    rcases hm with rfl | rfl | rfl | rfl | rfl | rfl | rfl <;> exact ⟨_,rfl,by decide +kernel,by decide +kernel,by decide +kernel⟩
  refine ⟨_,SqL.of ((s2.trans s3) _ _ q1),_,hy,by decide,fun p hp=>?_⟩
  have S:=sb.trans (s1.trans (s2.trans s3))
  obtain ⟨t1,t2⟩:=tm_two hu (lf_nam hn) jw lw sw
  exact q p _ _ (S.trans (isV p hp)) (fresh_of S hp) upd_same t1 t2
theorem rdp_term2 {c j:Int} {a:Addr} {ws:List Str} {u:V} {o4:Option V} {Hb:Hp} (h1:0≤j) (h2:j≤700) (h3:NamesAt H a ws) (h4:ws.length=2) (hu:okPart u∧isJ u=false∧plV u) (sb:Same Hb H) (q:∀ p e H',Same Hb H'→Hb p=none→H' p=some (.tup e)→TermOk e→tmP e→Q (.ref p) H') :
    rd__law_term_2 K t { nx:=fun _ H'=>Q .non H',rt:=Q } [some (.int c),some (.int j),some (.ref a),some u,o4] H:=by
  simp only [rd__law_term_2,sp__law_draw,L2.start,tSeq,tAsg,gName,tRet,tNext,tOp,tVar,tC,tLst,tTup,tCons,tNil,tIfS,tTest,tCall,rIxL,rI,rI0,List.map,List.replicate,List.length,List.append,List.cons_append,List.nil_append,List.append_nil,List.getElem?_cons_zero,List.getElem?_cons_succ,Option.some.injEq,exists_eq_left',exists_eq_left,V.int.injEq,V.ref.injEq,V.str.injEq,V.bl.injEq,V.ty.injEq,List.cons.injEq,and_true,true_and,and_assoc,exists_and_left,List.set_cons_zero,List.set_cons_succ,Nat.reduceSub,Nat.reduceAdd,decide_eq_true_eq,Bool.not_eq_true',decide_eq_false_iff_not,Int.reduceToNat,Int.reducePow,Int.reduceNeg,Int.reduceMul,Int.reduceAdd,if_true,ite_true,Bool.false_eq_true,ite_false,if_false]
  refine ⟨by omega,by omega,fun r1 H1 a1 b1 s1=>⟨by decide,ite2 (fun _=>⟨by decide,fun p hp=>?_⟩) fun _=>rdp_term3 h1 h2 (h3.same s1) h4 hu (sb.trans s1) q⟩⟩
  obtain ⟨t1,t2⟩:=tm_one hu
  exact q p _ _ ((sb.trans s1).trans (isV p hp)) (fresh_of (sb.trans s1) hp) upd_same t1 t2
theorem rdp__law_term {c j:Int} {a:Addr} {ws:List Str} (h1:0≤j) (h2:j≤700) (h3:NamesAt H a ws) (h4:ws.length=2) (q:∀ p e H',Same H H'→H p=none→H' p=some (.tup e)→TermOk e→tmP e→Q (.ref p) H') :
    rd__law_term K t { nx:=fun _ H'=>Q .non H',rt:=Q } (L2.start ["cell","j","slots","one","words"] [.int c,.int j,.ref a]) H:=by
  simp only [rd__law_term,sp__law_draw,sp__law_worth,L2.start,tSeq,tAsg,gName,tRet,tNext,tOp,tVar,tC,tLst,tTup,tCons,tNil,tIfS,tTest,tCall,rIxL,rEq,rI,rI0,scal,List.map,List.replicate,List.length,List.append,List.cons_append,List.nil_append,List.append_nil,List.getElem?_cons_zero,List.getElem?_cons_succ,Option.some.injEq,exists_eq_left',exists_eq_left,V.int.injEq,V.ref.injEq,V.str.injEq,V.bl.injEq,V.ty.injEq,List.cons.injEq,and_true,true_and,and_assoc,exists_and_left,List.set_cons_zero,List.set_cons_succ,Nat.reduceSub,Nat.reduceAdd,decide_eq_true_eq,Bool.not_eq_true',decide_eq_false_iff_not,Int.reduceToNat,Int.reducePow,Int.reduceNeg,Int.reduceMul,Int.reduceAdd,if_true,ite_true,Bool.false_eq_true,ite_false,if_false]
  refine ⟨h1,by omega,fun r1 H1 a1 b1 s1=>⟨by decide,?_⟩⟩
  obtain ⟨x,hx,_,hn⟩:=names_at h3 2 h4 (by decide) r1
  refine ⟨_,SqL.of (s1 _ _ h3.1),_,hx,by omega,by omega,fun r2 H2 a2 b2 s2=>⟨by decide,ite2 (fun _=>⟨by omega,by omega,fun w H3 hw s3=>?_⟩) fun _=>?_⟩⟩
  · exact rdp_term2 h1 h2 (h3.same (s1.trans (s2.trans s3))) h4 (lf_int hw) (s1.trans (s2.trans s3)) q
  · exact rdp_term2 h1 h2 (h3.same (s1.trans s2)) h4 (lf_nam hn) (s1.trans s2) q
theorem rdp_row5 {c j k:Int} {a b sp:Addr} {ws us:List Str} {sh sl:Str} {e:List V} {Hb:Hp} (h1:0≤j) (h2:j≤600) (h3:NamesAt H a ws) (h4:ws.length=2) (nsh:isName sh=true) (nsl:isName sl=true) (hp:H sp=some (.tup e)) (fp:Hb sp=none) (te:TermOk e) (tp:tmP e) (S:Same Hb H) (q:∀ v r H',Same Hb H'→RwAt (fun b=>Hb b=none) H' v r→rwV r→Q v H') :
    rd__law_row_5 K t { nx:=fun _ H'=>Q .non H',rt:=Q } [some (.int c),some (.int j),some (.ref a),some (.ref b),some (.int k),some (.str sh),some (.str sl),some (.ref sp)] H:=by
  simp only [rd__law_row_5,sp__law_term,sp__law_worth,L2.start,tSeq,tRet,tNext,tOp,tVar,tC,tTup,tCons,tNil,tIfS,tTest,tCall,rEq,rI0,scal,List.map,List.replicate,List.length,List.append,List.cons_append,List.nil_append,List.append_nil,List.getElem?_cons_zero,List.getElem?_cons_succ,Option.some.injEq,exists_eq_left',exists_eq_left,V.int.injEq,V.ref.injEq,V.str.injEq,V.bl.injEq,V.ty.injEq,List.cons.injEq,and_true,true_and,and_assoc,exists_and_left,List.set_cons_zero,List.set_cons_succ,Nat.reduceSub,Nat.reduceAdd,decide_eq_true_eq,Bool.not_eq_true',decide_eq_false_iff_not,Int.reduceToNat,Int.reducePow,Int.reduceNeg,Int.reduceMul,Int.reduceAdd,if_true,ite_true,Bool.false_eq_true,ite_false,if_false]
  refine ite2 (fun _=>⟨by decide,fun r hr=>?_⟩) fun _=>ite2 (fun _=>⟨by omega,by omega,ws,h3,h4,fun p2 f H5 s5 fp2 hp2 tf pf=>⟨by decide,fun r hr=>?_⟩⟩) fun _=>ite2 (fun _=>⟨by omega,by omega,ws,h3,h4,fun p2 f H5 s5 fp2 hp2 tf pf=>⟨by decide,fun r hr=>?_⟩⟩) fun _=>ite2 (fun _=>⟨by omega,by omega,fun w H5 hw s5=>⟨by decide,fun p2 hp2=>⟨by decide,fun r hr=>?_⟩⟩⟩) fun _=>⟨by omega,by omega,ws,h3,h4,fun p2 f H5 s5 fp2 hp2 tf pf=>⟨by decide,fun r hr=>?_⟩⟩
  · refine q (.ref r) (.take sh e sl) _ (S.trans (isV r hr)) ?_ ⟨trivial,⟨name_ok nsh,tp,name_ok nsl⟩,te⟩
    exact ⟨r,sp,rfl,fresh_of S hr,fp,upd_same,isV r hr _ _ hp⟩
  · have S5:=S.trans s5
    refine q (.ref r) (.give sh e f) _ (S5.trans (isV r hr)) ?_ ⟨trivial,⟨name_ok nsh,tp,pf⟩,te,tf⟩
    exact ⟨r,sp,p2,rfl,fresh_of S5 hr,fp,fresh_of S fp2,upd_same,isV r hr _ _ (s5 _ _ hp),isV r hr _ _ hp2⟩
  · have S5:=S.trans s5
    refine q (.ref r) (.lt sl f) _ (S5.trans (isV r hr)) ?_ ⟨trivial,⟨name_ok nsl,pf⟩,tf⟩
    exact ⟨r,p2,rfl,fresh_of S5 hr,fresh_of S fp2,upd_same,isV r hr _ _ hp2⟩
  · have S5:=S.trans s5
    obtain ⟨t1,t2⟩:=tm_two (lf_nam nsl) (lf_int hw) (w:=Str.ofString "same") (by decide +kernel) (by decide +kernel) (by decide +kernel)
    have s6:=isV (o:=HO.tup [V.str sl,V.int w,V.str (Str.ofString "same")]) p2 hp2
    refine q (.ref r) (.off _) _ (S5.trans (s6.trans (isV r hr))) ?_ ⟨trivial,t2,t1⟩
    exact ⟨r,p2,rfl,fresh_of (S5.trans s6) hr,fresh_of S5 hp2,upd_same,isV r hr _ _ upd_same⟩
  · have S5:=S.trans s5
    refine q (.ref r) (.say f) _ (S5.trans (isV r hr)) ?_ ⟨trivial,pf,tf⟩
    exact ⟨r,p2,rfl,fresh_of S5 hr,fresh_of S fp2,upd_same,isV r hr _ _ hp2⟩
theorem rdp__law_row {c j:Int} {a b:Addr} {ws us:List Str} (h1:0≤j) (h2:j≤600) (h3:NamesAt H a ws) (h4:ws.length=2) (h5:NamesAt H b us) (h6:us.length=2) (q:∀ v r H',Same H H'→RwAt (fun b=>H b=none) H' v r→rwV r→Q v H') :
    rd__law_row K t { nx:=fun _ H'=>Q .non H',rt:=Q } (L2.start ["cell","j","slots","shelves","kind","shelf","slot","spot"] [.int c,.int j,.ref a,.ref b]) H:=by
  simp only [rd__law_row,sp__law_draw,sp__law_term,L2.start,tSeq,tAsg,gName,tRet,tNext,tOp,tVar,tC,tTup,tCons,tNil,tIfS,tTest,tCall,rIxL,rEq,rI,rI0,scal,List.map,List.replicate,List.length,List.append,List.cons_append,List.nil_append,List.append_nil,List.getElem?_cons_zero,List.getElem?_cons_succ,Option.some.injEq,exists_eq_left',exists_eq_left,V.int.injEq,V.ref.injEq,V.str.injEq,V.bl.injEq,V.ty.injEq,List.cons.injEq,and_true,true_and,and_assoc,exists_and_left,List.set_cons_zero,List.set_cons_succ,Nat.reduceSub,Nat.reduceAdd,decide_eq_true_eq,Bool.not_eq_true',decide_eq_false_iff_not,Int.reduceToNat,Int.reducePow,Int.reduceNeg,Int.reduceMul,Int.reduceAdd,if_true,ite_true,Bool.false_eq_true,ite_false,if_false]
  refine ⟨h1,by omega,fun r1 H1 a1 b1 s1=>⟨by decide,by omega,by omega,fun r2 H2 a2 b2 s2=>⟨by decide,?_⟩⟩⟩
  obtain ⟨sh,hsh,_,nsh⟩:=names_at h5 2 h6 (by decide) r2
  refine ⟨_,SqL.of ((s1.trans s2) _ _ h5.1),_,hsh,by omega,by omega,fun r3 H3 a3 b3 s3=>⟨by decide,?_⟩⟩
  obtain ⟨sl,hsl,_,nsl⟩:=names_at h3 2 h4 (by decide) r3
  have S:=s1.trans (s2.trans s3)
  refine ⟨_,SqL.of (S _ _ h3.1),_,hsl,by omega,by omega,fun r4 H4 a4 b4 s4=>⟨by decide,by decide,fun p hp=>?_⟩⟩
  have s5:=isV (o:=HO.tup [V.int (r4 % 4 - 1)]) p hp
  have S4:=S.trans s4
  have hp1:upd H4 p (HO.tup [V.int (r4 % 4 - 1)]) p=some (.tup [.int (r4 % 4 - 1)]):=upd_same
  obtain ⟨t1,t2⟩:=tm_one (lf_int (i:=r4 % 4 - 1) (inW_iff.mpr (by omega)))
  generalize upd H4 p (HO.tup [V.int (r4 % 4 - 1)])=H5 at *
  have S5:=S4.trans s5
  refine ⟨by omega,by omega,fun r5 H6 a6 b6 s6=>⟨by decide,ite2 (fun _=>⟨by omega,by omega,ws,h3.same (S5.trans s6),h4,fun p2 f H7 s7 fp2 hp2 tf pf=>?_⟩) fun _=>?_⟩⟩
  · exact rdp_row5 (us:=us) h1 h2 (h3.same (S5.trans (s6.trans s7))) h4 nsh nsl hp2 (fresh_of (S5.trans s6) fp2) tf pf (S5.trans (s6.trans s7)) q
  · exact rdp_row5 (us:=us) h1 h2 (h3.same (S5.trans s6)) h4 nsh nsl (s6 _ _ hp1) (fresh_of S4 hp) t1 t2 (S5.trans s6) q
mutual
def szR:Rw→Nat
  | .iff _ a b=>szRs a + szRs b + 2
  | _=>1
def szRs:Rws→Nat
  | .nil=>0
  | .cons r rs=>szR r + szRs rs
end
mutual
theorem code_sz:∀ (r:Rw) (k:Nat),(codeR r k).length≤szR r∧r.cnt≤szR r
  | .iff e a b,k=>by
    have h1:=codes_sz a (k + 1)
    have h2:=codes_sz b (k + 2 + (codeRs a (k + 1)).length)
    have c:(Rw.iff e a b).cnt=max a.cnt b.cnt + 1:=by rw [Rw.cnt]
    have z:szR (.iff e a b)=szRs a + szRs b + 2:=by rw [szR]
    rw [codeR,c,z]
    unfold blk
    split
    · exact ⟨by simp;omega,by omega⟩
    · exact ⟨by simp;omega,by omega⟩
  | .take sh e sl,k=>by simp [codeR,szR,Rw.cnt]
  | .give sh e f,k=>by simp [codeR,szR,Rw.cnt]
  | .lt sl e,k=>by simp [codeR,szR,Rw.cnt]
  | .say e,k=>by simp [codeR,szR,Rw.cnt]
  | .off e,k=>by simp [codeR,szR,Rw.cnt]
theorem codes_sz:∀ (r:Rws) (k:Nat),(codeRs r k).length≤szRs r∧r.cnt≤szRs r
  | .nil,k=>by simp [codeRs,szRs,Rws.cnt]
  | .cons r rs,k=>by
    have h1:=code_sz r k
    have h2:=codes_sz rs (k + (codeR r k).length)
    rw [codeRs,szRs,Rws.cnt,List.length_append]
    omega
end
theorem szRs_snoc (x:Rw):∀ (r:Rws),szRs (r.snoc x)=szRs r + szR x
  | .nil=>by show szRs (.cons x .nil)=_;simp [szRs]
  | .cons y r=>by
    show szRs (.cons y (r.snoc x))=_
    rw [szRs,szRs,szRs_snoc x r];omega
theorem rwV.deep {r:Rw} (h:rwV r):r.deep=0∧szR r=1:=by
  have:=h.ni
  cases r with
  | iff e a b=>exact this.elim
  | _=>exact ⟨by simp [Rw.deep],by simp [szR]⟩
structure rsV (m:Nat) (r:Rws):Prop where
  ok:RwsOk r
  pl:RwsPl r
  dp:r.deep≤1
  sz:szRs r≤m
def rsI (p a b R:Addr) (H:Hp) (i:Nat) (σ:St) (H':Hp):Prop:=∃ (vs:List V) (rws:Rws),(∃ o1 o2 o3,σ=[some (.ref p),some (.ref a),some (.ref b),some (.ref R),o1,o2,o3])∧Same H H'∧H' R=some (.lst vs)∧RwsAt (fun b=>H b=none∧b≠R) H' vs rws∧rsV (4 * i) rws
theorem rs_next {p a b R:Addr} {H0 H1:Hp} {i:Nat} {vs:List V} {rws:Rws} {v:V} {x:Rw} {o1 o2 o3:Option V} (sm:Same H0 H1) (fr:H0 R=none) (hR:H1 R=some (.lst vs)) (hr:RwsAt (fun b=>H0 b=none∧b≠R) H1 vs rws) (hv:rsV (4 * i) rws) (hx:RwAt (fun b=>H0 b=none∧b≠R) H1 v x)
    (ok:RwOk x) (pl:RwPl x) (dp:x.deep≤1) (z4:szR x≤4):rsI p a b R H0 (i + 1) [some (.ref p),some (.ref a),some (.ref b),some (.ref R),o1,o2,o3] (upd H1 R (.lst (vs ++ [v]))) :=
  ⟨vs ++ [v],rws.snoc x,⟨_,_,_,rfl⟩,same_upd sm fr,upd_same,RwsAt.snoc (hx.up fun b f=>f.2) rws (hr.up fun b f=>f.2),snoc_ok ok rws hv.ok,snoc_pl pl rws hv.pl,by rw [snoc_deep];have:=hv.dp;omega,by rw [szRs_snoc];have:=hv.sz;omega⟩
theorem rws_one {x:Rw} (h:rwV x):RwsOk (.cons x .nil)∧RwsPl (.cons x .nil)∧(Rws.cons x .nil).deep=0∧szRs (.cons x .nil)=1:=by
  obtain ⟨d,z⟩:=h.deep
  exact ⟨by unfold RwsOk;exact ⟨h.ok,by unfold RwsOk;trivial⟩,by unfold RwsPl;exact ⟨h.pl,by unfold RwsPl;trivial⟩,by simp [Rws.deep,d],by rw [szRs,szRs,z]⟩
theorem rdp__law_rows {p:Addr} {ns:List Int} {a b:Addr} {ws us:List Str} (h1:H p=some (.lst (ns.map V.int))) (h2:ns.length≤8) (h3:NamesAt H a ws) (h4:ws.length=2) (h5:NamesAt H b us) (h6:us.length=2) (q:∀ v r H',Same H H'→RlAt (fun b=>H b=none) H' v r→RsOk 6 r→RwsOk r→(codeRs r 0).length≤40→Q v H') :
    rd__law_rows K t { nx:=fun _ H'=>Q .non H',rt:=Q } (L2.start ["cells","slots","shelves","rows","cell","row","others"] [.ref p,.ref a,.ref b]) H:=by
  simp only [rd__law_rows,sp__law_draw,sp__law_row,sp__law_term,L2.start,r_mt_append,rAppend,tSeq,tAsg,gName,tRet,tDrop,tNext,tOp,tVar,tC,tLst,tTup,tCons,tNil,tFor,tIfS,tTest,tBM,tyV,tSl,tPart,tNoPart,tCall,iList,rEq,rI,rSlL,scal,List.map,List.replicate,List.length,List.append,List.cons_append,List.nil_append,List.append_nil,List.getElem?_cons_zero,List.getElem?_cons_succ,Option.some.injEq,exists_eq_left',exists_eq_left,V.int.injEq,V.ref.injEq,V.str.injEq,V.bl.injEq,V.ty.injEq,List.cons.injEq,and_true,true_and,and_assoc,exists_and_left,List.set_cons_zero,List.set_cons_succ,Nat.reduceSub,Nat.reduceAdd,decide_eq_true_eq,Bool.not_eq_true',decide_eq_false_iff_not,Int.reduceToNat,Int.reducePow,Int.reduceNeg,Int.reduceMul,Int.reduceAdd,if_true,ite_true,Bool.false_eq_true,ite_false,if_false]
  refine ⟨by decide,fun R hR=>?_⟩
  have s0:=isV (o:=HO.lst []) R hR
  refine ⟨⟨_,SqL.of (s0 _ _ h1)⟩,loop_list (ns.map V.int) (rsI p a b R H) ⟨[],.nil,⟨_,_,_,rfl⟩,s0,upd_same,by unfold RwsAt;rfl,by unfold RwsOk;trivial,by unfold RwsPl;trivial,by simp [Rws.deep],by rw [szRs];omega⟩ (fun i σ H' ⟨vs,rws,_,s,_⟩=>SqL.of (s _ _ h1)) ?_ ?_⟩
  · rintro i v σ H' hv ⟨vs,rws,⟨o1,o2,o3,rfl⟩,s,hL,hr,hV⟩
    obtain ⟨c,_,rfl⟩:=List.mem_map.mp (List.mem_of_getElem? hv)
    have hi:i < ns.length:=by have:=(List.getElem?_eq_some_iff.mp hv).1;rwa [List.length_map] at this
    have lv:vs.length < sizeLine:=by
      have e1:=RwsAt.len rws hr
      have e2:=hV.sz
      have e3:=(codes_sz rws 0).2
      exact Nat.lt_of_le_of_lt (by omega:vs.length≤126) (by decide)
    simp only [L2.start,r_mt_append,rAppend,tSeq,tAsg,gName,tRet,tDrop,tNext,tOp,tVar,tC,tLst,tTup,tCons,tNil,tFor,tIfS,tTest,tBM,tyV,tSl,tPart,tNoPart,tCall,iList,rEq,rI,rSlL,scal,List.map,List.replicate,List.length,List.append,List.cons_append,List.nil_append,List.append_nil,List.getElem?_cons_zero,List.getElem?_cons_succ,Option.some.injEq,exists_eq_left',exists_eq_left,V.int.injEq,V.ref.injEq,V.str.injEq,V.bl.injEq,V.ty.injEq,List.cons.injEq,and_true,true_and,and_assoc,exists_and_left,List.set_cons_zero,List.set_cons_succ,Nat.reduceSub,Nat.reduceAdd,decide_eq_true_eq,Bool.not_eq_true',decide_eq_false_iff_not,Int.reduceToNat,Int.reducePow,Int.reduceNeg,Int.reduceMul,Int.reduceAdd,if_true,ite_true,Bool.false_eq_true,ite_false,if_false]
    refine ⟨by decide,by decide,ws,h3.same s,h4,us,h5.same s,h6,fun v1 x1 H1 s1 hx1 hv1=>?_⟩
    have hL1:=s1 _ _ hL
    have hr1:=hr.mono s1
    have x1':RwAt (fun b=>H b=none∧b≠R) H1 v1 x1:=hx1.to x1 (fun b o f _=>⟨fresh_of s f,fresh_ne hL f⟩) fun b o _ e=>e
    obtain ⟨q1,q2,q3,q4⟩:=rws_one hv1
    refine ⟨by decide,by decide,fun r1 H2 a1 b1 s2=>⟨by decide,ite2 (fun _=>?_) fun _=>?_⟩⟩
    · have S2:=s.trans (s1.trans s2)
      refine ⟨by decide,by decide,ws,h3.same S2,h4,us,h5.same S2,h6,fun v2 x2 H3 s3 hx2 hv2=>⟨by decide,fun O hO=>?_⟩⟩
      have x2':RwAt (fun b=>H b=none∧b≠R) H3 v2 x2:=hx2.to x2 (fun b o f _=>⟨fresh_of S2 f,fresh_ne ((s1.trans s2) _ _ hL) f⟩) fun b o _ e=>e
      have s4:=isV (o:=HO.lst [v2]) O hO
      have S4:=S2.trans (s3.trans s4)
      have hO4:upd H3 O (HO.lst [v2]) O=some (.lst [v2]):=upd_same
      generalize upd H3 O (HO.lst [v2])=H4 at *
      refine ⟨by decide,by decide,ws,h3.same S4,h4,fun pt e H5 s5 fp he te pe=>⟨by decide,fun L hLn=>⟨by decide,by decide,fun r2 H6 a2 b2 s6=>⟨by decide,_,SqL.of ((s5.trans ((isV (o:=HO.lst [v1]) L hLn).trans s6)) _ _ hO4),fun D hD=>⟨by decide,fun r hr'=>?_⟩⟩⟩⟩⟩
      have s7:=(isV (o:=HO.lst [v1]) L hLn).trans s6
      have hL6:=s6 _ _ (upd_same (H:=H5) (a:=L) (o:=HO.lst [v1]))
      obtain ⟨zs,b4,ez,ok4,pl4,dp4,sz4,at4⟩:∃ zs b4,cutV [v2] none (some (r2 % 2))=zs∧RwsOk b4∧RwsPl b4∧b4.deep=0∧szRs b4≤1∧RwsAt (fun b=>H b=none∧b≠R) H3 zs b4:=by
        obtain ⟨k1,k2,k3,k4⟩:=rws_one hv2
        have:r2 % 2=0∨r2 % 2=1:=by omega
        rcases this with z | z <;> rw [z]
        · exact ⟨[],.nil,rfl,by unfold RwsOk;trivial,by unfold RwsPl;trivial,by simp [Rws.deep],by rw [szRs];omega,by unfold RwsAt;rfl⟩
        · exact ⟨[v2],.cons x2 .nil,rfl,k1,k2,k3,by omega,by unfold RwsAt;exact ⟨v2,[],rfl,x2',by unfold RwsAt;rfl⟩⟩
      rw [ez]
      rw [ez] at hr'
      have s8:=isV (o:=HO.lst zs) D hD
      have s9:=isV (o:=HO.tup [V.str (Str.ofString "if"),V.ref pt,V.ref L,V.ref D]) r hr'
      have T5:=S4.trans s5
      have T6:=T5.trans s7
      have T8:=T6.trans s8
      have hD8:=s9 _ _ (upd_same (H:=H6) (a:=D) (o:=HO.lst zs))
      have hr8:upd (upd H6 D (HO.lst zs)) r (HO.tup [V.str (Str.ofString "if"),V.ref pt,V.ref L,V.ref D]) r=some (.tup [.str (Str.ofString "if"),.ref pt,.ref L,.ref D]):=upd_same
      have s89:=s8.trans s9
      generalize upd (upd H6 D (HO.lst zs)) r (HO.tup [V.str (Str.ofString "if"),V.ref pt,V.ref L,V.ref D])=H8 at *
      have S14:Same H1 H4:=s2.trans (s3.trans s4)
      have S18:=S14.trans (s5.trans (s7.trans s89))
      have S38:=s4.trans (s5.trans (s7.trans s89))
      have hL8:=S18 _ _ hL1
      have fF:∀ {b:Addr} {Hx:Hp},Same H Hx→Same H1 Hx→Hx b=none→H b=none∧b≠R:=fun sx s1x e=>⟨fresh_of sx e,fresh_ne (s1x _ _ hL1) e⟩
      refine ⟨.inl ⟨_,SqL.of hL8⟩,vs,hL8,lv,rs_next (x:=.iff e (.cons x1 .nil) b4) (s.trans (s1.trans S18)) hR hL8 (hr1.mono S18) hV ?_ ?_ ?_ ?_ ?_⟩
      · unfold RwAt
        refine ⟨r,pt,L,D,[v1],zs,rfl,fF T8 (S14.trans (s5.trans (s7.trans s8))) hr',fF S4 S14 fp,fF T5 (S14.trans s5) hLn,fF T6 (S14.trans (s5.trans s7)) hD,hr8,(s7.trans s89) _ _ he,s89 _ _ hL6,?_,hD8,at4.mono S38⟩
        unfold RwsAt
        exact ⟨v1,[],rfl,x1'.mono S18,by unfold RwsAt;rfl⟩
      · unfold RwOk;exact ⟨te,q1,ok4⟩
      · unfold RwPl;exact ⟨pe,q2,pl4⟩
      · rw [Rw.deep,q3,dp4];decide
      · rw [szR,q4];omega
    · have hL2:=s2 _ _ hL1
      obtain ⟨d0,z1⟩:=hv1.deep
      exact ⟨.inl ⟨_,SqL.of hL2⟩,vs,hL2,lv,rs_next (s.trans (s1.trans s2)) hR hL2 (hr1.mono s2) hV (x1'.mono s2) hv1.ok hv1.pl (by omega) (by omega)⟩
  · rintro σ H' ⟨vs,rws,⟨o1,o2,o3,rfl⟩,s,hL,hr,hV⟩
    rw [List.length_map] at hV
    have e3:=codes_sz rws 0
    have e4:=hV.sz
    have e5:=hV.dp
    exact ⟨_,rfl,q _ rws H' s ⟨R,vs,rfl,hR,hL,hr.to rws (fun b o f _=>f.1) fun b o _ e=>e⟩ ⟨by omega,by omega,hV.pl⟩ hV.ok (by omega)⟩
structure FwC (k:Nat) (C:List Cs):Prop where
  ok:∀ c∈C,CsOk c∧CsPl c
  fw:∀ (i to:Nat) (e:List V),C[i]?=some (Cs.skip e to)→k + i < to∧to≤k + C.length
  fg:∀ (i to:Nat),C[i]?=some (Cs.go to)→k + i < to∧to≤k + C.length
theorem FwC.nil (k:Nat):FwC k []:=⟨fun c h=>(nomatch h),fun i to e h=>by simp at h,fun i to h=>by simp at h⟩
theorem FwC.cons {k:Nat} {c:Cs} {C:List Cs} (h1:CsOk c∧CsPl c) (h2:∀ e to,c=.skip e to→k < to∧to≤k + 1 + C.length) (h3:∀ to,c=.go to→k < to∧to≤k + 1 + C.length) (h:FwC (k + 1) C):FwC k (c :: C):=by
  refine ⟨fun x hx=>?_,fun i to e hi=>?_,fun i to hi=>?_⟩
  · rcases List.mem_cons.mp hx with rfl | hx
    · exact h1
    · exact h.ok x hx
  · rw [List.length_cons]
    cases i with
    | zero=>have:=h2 e to (by simpa using hi);omega
    | succ i=>have:=h.fw i to e (by simpa using hi);omega
  · rw [List.length_cons]
    cases i with
    | zero=>have:=h3 to (by simpa using hi);omega
    | succ i=>have:=h.fg i to (by simpa using hi);omega
theorem FwC.app {A B:List Cs} {k:Nat} (h:FwC k A) (h':FwC (k + A.length) B):FwC k (A ++ B):=by
  refine ⟨fun x hx=>?_,fun i to e hi=>?_,fun i to hi=>?_⟩
  · rcases List.mem_append.mp hx with hx | hx
    · exact h.ok x hx
    · exact h'.ok x hx
  · rw [List.length_append]
    by_cases c:i < A.length
    · rw [List.getElem?_append_left c] at hi
      have:=h.fw i to e hi;omega
    · rw [List.getElem?_append_right (by omega)] at hi
      have:=h'.fw _ to e hi;omega
  · rw [List.length_append]
    by_cases c:i < A.length
    · rw [List.getElem?_append_left c] at hi
      have:=h.fg i to hi;omega
    · rw [List.getElem?_append_right (by omega)] at hi
      have:=h'.fg _ to hi;omega
mutual
theorem codeR_fw:∀ (r:Rw) (k:Nat),RwOk r→RwPl r→FwC k (codeR r k)
  | .iff e a b,k,o,p=>by
    unfold RwOk at o
    unfold RwPl at p
    have ha:=codeRs_fw a (k + 1) o.2.1 p.2.1
    have hb:=codeRs_fw b (k + 2 + (codeRs a (k + 1)).length) o.2.2 p.2.2
    have ec:codeR (.iff e a b) k=blk e k (codeRs a (k + 1)) (Rws.isNil b) (codeRs b (k + 2 + (codeRs a (k + 1)).length)):=by rw [codeR]
    rw [ec]
    generalize codeRs a (k + 1)=A at *
    generalize codeRs b (k + 2 + A.length)=B at *
    unfold blk
    split
    · exact .cons ⟨o.1,trivial⟩ (fun e' to z=>by cases z;omega) (fun to z=>nomatch z) ha
    · refine .cons ⟨o.1,trivial⟩ (fun e' to z=>by cases z;rw [List.length_append,List.length_cons];omega) (fun to z=>nomatch z) (.app ha (.cons ⟨trivial,trivial⟩ (fun e' to z=>nomatch z) (fun to z=>by cases z;omega) ?_))
      rw [show k + 1 + A.length + 1=k + 2 + A.length by omega]
      exact hb
  | .take sh e sl,k,o,p=>by rw [codeR_row (x:=.take sh e sl) trivial];exact .cons ⟨o,p⟩ (fun _ _ z=>nomatch z) (fun _ z=>nomatch z) (.nil _)
  | .give sh e f,k,o,p=>by rw [codeR_row (x:=.give sh e f) trivial];exact .cons ⟨o,p⟩ (fun _ _ z=>nomatch z) (fun _ z=>nomatch z) (.nil _)
  | .lt sl e,k,o,p=>by rw [codeR_row (x:=.lt sl e) trivial];exact .cons ⟨o,p⟩ (fun _ _ z=>nomatch z) (fun _ z=>nomatch z) (.nil _)
  | .say e,k,o,p=>by rw [codeR_row (x:=.say e) trivial];exact .cons ⟨o,p⟩ (fun _ _ z=>nomatch z) (fun _ z=>nomatch z) (.nil _)
  | .off e,k,o,p=>by rw [codeR_row (x:=.off e) trivial];exact .cons ⟨o,p⟩ (fun _ _ z=>nomatch z) (fun _ z=>nomatch z) (.nil _)
theorem codeRs_fw:∀ (r:Rws) (k:Nat),RwsOk r→RwsPl r→FwC k (codeRs r k)
  | .nil,k,o,p=>by rw [codeRs];exact .nil k
  | .cons r rs,k,o,p=>by
    unfold RwsOk at o
    unfold RwsPl at p
    rw [codeRs]
    exact .app (codeR_fw r k o.1 p.1) (codeRs_fw rs _ o.2 p.2)
end
theorem co_ok {r:Rws} (h1:RsOk 6 r) (h2:RwsOk r) (h3:(codeRs r 0).length≤40):CoOk (codeRs r 0):=by
  have f:=codeRs_fw r 0 h2 h1.pl
  exact ⟨fun c hc=>(f.ok c hc).1,fun c hc=>(f.ok c hc).2,fun i to e h=>by have:=f.fw i to e h;omega,fun i to h=>by have:=f.fg i to h;omega,h3⟩
def plD (p:Pl):PyData:=.tuple [.str p.1,.int p.2]
def rwD' (r:Row):PyData:=.tuple [plD r.1,.int r.2]
theorem pl_dat {q:Addr} {p:Pl} (h:H q=some (.tup [.str p.1,.int p.2])):Dat K H (.ref q) (plD p):=.tup (SqT.of h) (.cons (.str _) (.cons (.int _) .nil))
theorem pl_plain {p:Pl} (h:PyData.strOk p.1=true):plainD (plD p)=true:=by simp [plD,plainD,plainDs,h]
theorem pl_depth (p:Pl):(plD p).depth≤2:=by simp [plD,PyData.depth,PyData.depthAll]
theorem prs_dat:∀ {ys:List V} {rows:List Row},Paired (PrAt H) ys rows→DatAll K H ys (rows.map rwD')
  | _,_,.nil=>.nil
  | _,_,.cons ⟨r,p,e1,e2,e3⟩ t=>by
    rw [List.map_cons,e1]
    exact .cons (.tup (SqT.of e2) (.cons (pl_dat e3) (.cons (.int _) .nil))) (prs_dat t)
theorem ls_dat {l:Addr} {rows:List Row} (h:LsAt H l rows):Dat K H (.ref l) (.list (rows.map rwD')):=by
  obtain ⟨xs,h1,h2⟩:=h
  exact .lst (SqL.of h1) (prs_dat h2)
theorem rw_plainD:∀ {rows:List Row},(∀ r∈rows,PyData.strOk r.1.1=true)→plainDs (rows.map rwD')=true
  | [],_=>rfl
  | r :: t,h=>by
    rw [List.map_cons,plainDs,rw_plainD (fun x hx=>h x (List.mem_cons_of_mem _ hx))]
    have:=pl_plain (h r List.mem_cons_self)
    simp [rwD',plainD,plainDs,this]
theorem rw_deepD:∀ (rows:List Row),PyData.depthAll (rows.map rwD')≤3
  | []=>by simp [PyData.depthAll]
  | r :: t=>by
    have h:=rw_deepD t
    have h2:=pl_depth r.1
    rw [List.map_cons,PyData.depthAll]
    simp only [rwD',PyData.depth,PyData.depthAll] at h2 ⊢
    omega
theorem ls_plain {rows:List Row} (h:∀ r∈rows,PyData.strOk r.1.1=true):plainD (.list (rows.map rwD'))=true:=by rw [plainD];exact rw_plainD h
theorem ls_deep (rows:List Row):(PyData.list (rows.map rwD')).depth≤4:=by
  have:=rw_deepD rows
  rw [PyData.depth];omega
theorem row_hd {F:Addr→Prop} {v:V} {r:Rw} (h:RwAt F H v r) (ni:noIf r):∃ p xs hd,v=.ref p∧H p=some (.tup xs)∧atI xs 0=some (.str hd)∧hd≠Str.ofString "go"∧hd≠Str.ofString "skip":=by
  rcases does_or r ni with ⟨e,rfl⟩ | hd
  · unfold RwAt at h;obtain ⟨r,te,rfl,_,_,e2,e3⟩:=h;exact ⟨r,_,_,rfl,e2,rfl,by decide +kernel,by decide +kernel⟩
  · obtain ⟨p,xs,hd,a,b,c,d,e,_⟩:=does_hd h hd
    exact ⟨p,xs,hd,a,b,c,d,e⟩
def loI (l:Addr) (H:Hp) (i:Nat) (σ:St) (H':Hp):Prop:=(∃ o1 o2,σ=[some (.ref l),o1,o2])∧Same H H'
theorem rdp__law_leads_on {l:Addr} {xs:List V} {C:List Cs} (h1:H l=some (.lst xs)) (h2:Paired (CsAt H) xs C) (O:CoOk C) (q:∀ H',Same H H'→Q (.bl true) H') :
    rd__law_leads_on K t { nx:=fun _ H'=>Q .non H',rt:=Q } (L2.start ["code","k","far"] [.ref l]) H:=by
  simp only [rd__law_leads_on,L2.start,rIxT,tSeq,tAsg,gName,tRet,tNext,tOp,tVar,tC,tCons,tNil,tFor,tIfS,tOr,tTest,tCB,LenV,iRng1,rIxL,rIxT,rEq,rI0,cLen,scal,List.map,List.replicate,List.length,List.append,List.cons_append,List.nil_append,List.append_nil,List.getElem?_cons_zero,List.getElem?_cons_succ,Option.some.injEq,exists_eq_left',exists_eq_left,V.int.injEq,V.ref.injEq,V.str.injEq,V.bl.injEq,V.ty.injEq,List.cons.injEq,and_true,true_and,and_assoc,exists_and_left,List.set_cons_zero,List.set_cons_succ,Nat.reduceSub,Nat.reduceAdd,decide_eq_true_eq,Bool.not_eq_true',decide_eq_false_iff_not,Int.reduceToNat,Int.reducePow,Int.reduceNeg,Int.reduceMul,Int.reduceAdd,if_true,ite_true,Bool.false_eq_true,ite_false,if_false]
  have lx:=Paired.length h2
  have le:=O.le
  refine ⟨xs.length,.inl ⟨_,SqL.of h1,rfl⟩,by omega,by omega,loop_range (loI l H) ⟨⟨_,_,rfl⟩,Same.refl H⟩ ?_ ?_⟩
  · rintro i σ H' hi ⟨⟨o1,o2,rfl⟩,s⟩
    simp only [L2.start,rIxT,tSeq,tAsg,gName,tRet,tNext,tOp,tVar,tC,tCons,tNil,tFor,tIfS,tOr,tTest,tCB,LenV,iRng1,rIxL,rIxT,rEq,rI0,cLen,scal,List.map,List.replicate,List.length,List.append,List.cons_append,List.nil_append,List.append_nil,List.getElem?_cons_zero,List.getElem?_cons_succ,Option.some.injEq,exists_eq_left',exists_eq_left,V.int.injEq,V.ref.injEq,V.str.injEq,V.bl.injEq,V.ty.injEq,List.cons.injEq,and_true,true_and,and_assoc,exists_and_left,List.set_cons_zero,List.set_cons_succ,Nat.reduceSub,Nat.reduceAdd,decide_eq_true_eq,Bool.not_eq_true',decide_eq_false_iff_not,Int.reduceToNat,Int.reducePow,Int.reduceNeg,Int.reduceMul,Int.reduceAdd,if_true,ite_true,Bool.false_eq_true,ite_false,if_false,Int.zero_add]
    have hc:C[i]?=some C[i]:=List.getElem?_eq_getElem (by omega)
    have hv:xs[i]?=some xs[i]:=List.getElem?_eq_getElem hi
    have cv:=paired_get h2 hv hc
    have hx:=s _ _ h1
    have hfw:=fun to e z=>O.fw i to e (hc.trans (congrArg some z))
    have hfg:=fun to z=>O.fg i to (hc.trans (congrArg some z))
    generalize C[i]=c at *
    generalize xs[i]=v at *
    cases c with
    | skip e to =>
      obtain ⟨p,te,ev,e2,e3⟩:=cv
      have e2:=s _ _ e2
      have:=hfw to e rfl
      refine ⟨_,SqL.of hx,_,atI_nat hv,p,ev,_,SqT.of e2,_,rfl,rfl,?_⟩
      rw [if_pos rfl]
      refine ⟨_,SqL.of hx,_,atI_nat hv,p,ev,_,SqT.of e2,_,rfl,_,SqL.of hx,_,atI_nat hv,p,ev,_,SqT.of e2,_,rfl,rfl,?_⟩
      rw [if_neg (by decide)]
      refine ⟨_,rfl,?_⟩
      rw [if_neg (by omega)]
      refine ⟨xs.length,.inl ⟨_,SqL.of hx,rfl⟩,_,rfl,?_⟩
      rw [if_neg (by omega)]
      exact ⟨⟨_,_,rfl⟩,s⟩
    | go to =>
      obtain ⟨p,ev,e2⟩:=cv
      have e2:=s _ _ e2
      have:=hfg to rfl
      refine ⟨_,SqL.of hx,_,atI_nat hv,p,ev,_,SqT.of e2,_,rfl,rfl,?_⟩
      rw [if_neg (by decide)]
      refine ⟨_,SqL.of hx,_,atI_nat hv,p,ev,_,SqT.of e2,_,rfl,rfl,?_⟩
      rw [if_pos rfl]
      refine ⟨_,SqL.of hx,_,atI_nat hv,p,ev,_,SqT.of e2,_,rfl,_,rfl,?_⟩
      rw [if_neg (by omega)]
      refine ⟨xs.length,.inl ⟨_,SqL.of hx,rfl⟩,_,rfl,?_⟩
      rw [if_neg (by omega)]
      exact ⟨⟨_,_,rfl⟩,s⟩
    | row r =>
      obtain ⟨p,zs,hd,ev,e2,e3,n1,n2⟩:=row_hd cv.1 cv.2
      have e2:=s _ _ e2
      refine ⟨_,SqL.of hx,_,atI_nat hv,p,ev,_,SqT.of e2,_,e3,rfl,?_⟩
      rw [if_neg (fun z=>n2 (V.str.inj z))]
      refine ⟨_,SqL.of hx,_,atI_nat hv,p,ev,_,SqT.of e2,_,e3,rfl,?_⟩
      rw [if_neg (fun z=>n1 (V.str.inj z))]
      rw [if_neg (by omega)]
      refine ⟨xs.length,.inl ⟨_,SqL.of hx,rfl⟩,?_⟩
      rw [if_neg (by omega)]
      exact ⟨⟨_,_,rfl⟩,s⟩
  · rintro σ H' ⟨⟨o1,o2,rfl⟩,s⟩
    exact q _ s
section
variable {l:Addr}
theorem ls_kp {H':Hp} {rows:List Row} (h:LsAt H l rows) (k:∀ o,H l=some o→H' l=some o) (ts:TSm H H'):LsAt H' l rows:=by
  obtain ⟨xs,h1,h2⟩:=h
  exact ⟨xs,k _ h1,Paired.mapP h2 fun _ _ ⟨r,p,e1,e2,e3⟩=>⟨r,p,e1,ts _ _ e2,ts _ _ e3⟩⟩
theorem ls_same {H':Hp} {rows:List Row} (h:LsAt H l rows) (s:Same H H'):LsAt H' l rows:=ls_kp h (fun o e=>s _ _ e) fun b ys e=>s _ _ e
end
def roI (l:Addr) (H:Hp) (_:Nat) (σ:St) (H':Hp):Prop:=(∃ o,σ=[some (.ref l),o])∧Same H H'
theorem rdp__law_rows_of {l:Addr} {rows:List Row} (kf:KF K) (h1:LsAt H l rows) (h2:rows.length≤500) (q:∀ H',Same H H'→Q (.bl true) H') :
    rd__law_rows_of K t { nx:=fun _ H'=>Q .non H',rt:=Q } (L2.start ["found","row"] [.ref l]) H:=by
  simp only [rd__law_rows_of,L2.start,rIxT,tSeq,gName,tRet,tNext,tOp,tVar,tC,tCons,tNil,tFor,tIfS,tOr,tNot,tTest,tB,tCB,LenV,iList,rIxT,rNe,cLen,cIsi,scal,List.map,List.replicate,List.length,List.append,List.cons_append,List.nil_append,List.append_nil,List.getElem?_cons_zero,List.getElem?_cons_succ,Option.some.injEq,exists_eq_left',exists_eq_left,V.int.injEq,V.ref.injEq,V.str.injEq,V.bl.injEq,V.ty.injEq,List.cons.injEq,and_true,true_and,and_assoc,exists_and_left,List.set_cons_zero,List.set_cons_succ,Nat.reduceSub,Nat.reduceAdd,decide_eq_true_eq,Bool.not_eq_true',decide_eq_false_iff_not,Int.reduceToNat,Int.reducePow,Int.reduceNeg,Int.reduceMul,Int.reduceAdd,if_true,ite_true,Bool.false_eq_true,ite_false,if_false]
  obtain ⟨xs,hx,pr⟩:=h1
  refine ⟨_,.lst hx,true,kit_same _,?_⟩
  rw [if_neg (by decide)]
  refine ⟨⟨_,SqL.of hx⟩,loop_list xs (roI l H) ⟨⟨_,rfl⟩,Same.refl H⟩ (fun i σ H' ⟨_,s⟩=>SqL.of (s _ _ hx)) ?_ ?_⟩
  · rintro i v σ H' hv ⟨⟨o',rfl⟩,s⟩
    obtain ⟨row,_,r',p',rfl,e2,e3⟩:=Paired.getP pr hv
    have e2:=s _ _ e2
    have e3:=s _ _ e3
    simp only [L2.start,rIxT,tSeq,gName,tRet,tNext,tOp,tVar,tC,tCons,tNil,tFor,tIfS,tOr,tNot,tTest,tB,tCB,LenV,iList,rIxT,rNe,cLen,cIsi,scal,List.map,List.replicate,List.length,List.append,List.cons_append,List.nil_append,List.append_nil,List.getElem?_cons_zero,List.getElem?_cons_succ,Option.some.injEq,exists_eq_left',exists_eq_left,V.int.injEq,V.ref.injEq,V.str.injEq,V.bl.injEq,V.ty.injEq,List.cons.injEq,and_true,true_and,and_assoc,exists_and_left,List.set_cons_zero,List.set_cons_succ,Nat.reduceSub,Nat.reduceAdd,decide_eq_true_eq,Bool.not_eq_true',decide_eq_false_iff_not,Int.reduceToNat,Int.reducePow,Int.reduceNeg,Int.reduceMul,Int.reduceAdd,if_true,ite_true,Bool.false_eq_true,ite_false,if_false]
    refine ⟨_,.tup e2,true,kit_same _,?_⟩
    rw [if_neg (by decide)]
    refine ⟨2,.inr ⟨_,SqT.of e2,rfl⟩,?_⟩
    rw [if_neg (by decide)]
    refine ⟨_,SqT.of e2,_,rfl,_,.tup e3,true,kit_same _,?_⟩
    rw [if_neg (by decide)]
    refine ⟨_,SqT.of e2,_,rfl,_,.int _,true,kit_same _,?_⟩
    rw [if_neg (by decide)]
    refine ⟨_,SqT.of e2,_,rfl,_,.int _,false,kf.i_b,?_⟩
    rw [if_neg (by decide)]
    exact ⟨⟨_,rfl⟩,s⟩
  · rintro σ H' ⟨⟨o',rfl⟩,s⟩
    exact q _ s
theorem rdp__law_outcome {o:V} {g:Addr} {oc:Oc} {rows:List Row} (h1:OcAt H o oc) (h2:LsAt H g rows) (h3:wyOk oc rows) (q:∀ H',Same H H'→Q (.bl true) H') :
    rd__law_outcome K t { nx:=fun _ H'=>Q .non H',rt:=Q } (L2.start ["found","gifts"] [o,.ref g]) H:=by
  cases oc with
  | off w =>
    obtain ⟨o1,rfl,e2⟩:=h1
    obtain ⟨hw,hg⟩:=h3 w rfl
    simp only [rd__law_outcome,L2.start,rEqNil,rIxT,tSeq,tRet,tNext,tOp,tVar,tC,tLst,tTup,tCons,tNil,tIfS,tOr,tNot,tTest,tB,tAndV,tCB,LenV,rIxT,rEq,rNe,rIn,cLen,cIsi,scal,List.map,List.replicate,List.length,List.append,List.cons_append,List.nil_append,List.append_nil,List.getElem?_cons_zero,List.getElem?_cons_succ,Option.some.injEq,exists_eq_left',exists_eq_left,V.int.injEq,V.ref.injEq,V.str.injEq,V.bl.injEq,V.ty.injEq,List.cons.injEq,and_true,true_and,and_assoc,exists_and_left,List.set_cons_zero,List.set_cons_succ,Nat.reduceSub,Nat.reduceAdd,decide_eq_true_eq,Bool.not_eq_true',decide_eq_false_iff_not,Int.reduceToNat,Int.reducePow,Int.reduceNeg,Int.reduceMul,Int.reduceAdd,if_true,ite_true,Bool.false_eq_true,ite_false,if_false]
    refine ⟨_,.tup e2,true,kit_same _,?_⟩
    rw [if_neg (by decide)]
    refine ⟨2,.inr ⟨_,SqT.of e2,rfl⟩,?_⟩
    rw [if_neg (by decide)]
    refine ⟨_,SqT.of e2,_,rfl,rfl,?_⟩
    rw [if_pos rfl]
    refine ⟨_,SqT.of e2,_,rfl,by decide,fun p hp=>⟨_,.inr (SqT.of upd_same),rfl,rfl,?_⟩⟩
    have s1:=isV (o:=HO.tup [V.str (Str.ofString "told"),V.str (Str.ofString "great"),V.str (Str.ofString "nought")]) p hp
    generalize upd H p (HO.tup [V.str (Str.ofString "told"),V.str (Str.ofString "great"),V.str (Str.ofString "nought")])=H1 at *
    have iw:inV (V.str w) [V.str (Str.ofString "told"),V.str (Str.ofString "great"),V.str (Str.ofString "nought")]=true:=by
      rcases hw with rfl | rfl | rfl <;> decide +kernel
    rw [if_pos iw]
    refine ⟨by decide,fun p1 hp1=>?_⟩
    obtain ⟨xs,hx,pr⟩:=h2
    rw [hg] at pr
    cases pr
    have s2:=isV (o:=HO.lst []) p1 hp1
    exact ⟨[],SqL.of ((s1.trans s2) _ _ hx),SqL.of upd_same,q _ (s1.trans s2)⟩
  | done sa =>
    obtain ⟨o1,y,rfl,e2,e3⟩:=h1
    simp only [rd__law_outcome,L2.start,rEqNil,rIxT,tSeq,tRet,tNext,tOp,tVar,tC,tLst,tTup,tCons,tNil,tIfS,tOr,tNot,tTest,tB,tAndV,tCB,LenV,rIxT,rEq,rNe,rIn,cLen,cIsi,scal,List.map,List.replicate,List.length,List.append,List.cons_append,List.nil_append,List.append_nil,List.getElem?_cons_zero,List.getElem?_cons_succ,Option.some.injEq,exists_eq_left',exists_eq_left,V.int.injEq,V.ref.injEq,V.str.injEq,V.bl.injEq,V.ty.injEq,List.cons.injEq,and_true,true_and,and_assoc,exists_and_left,List.set_cons_zero,List.set_cons_succ,Nat.reduceSub,Nat.reduceAdd,decide_eq_true_eq,Bool.not_eq_true',decide_eq_false_iff_not,Int.reduceToNat,Int.reducePow,Int.reduceNeg,Int.reduceMul,Int.reduceAdd,if_true,ite_true,Bool.false_eq_true,ite_false,if_false]
    refine ⟨_,.tup e2,true,kit_same _,?_⟩
    rw [if_neg (by decide)]
    refine ⟨2,.inr ⟨_,SqT.of e2,rfl⟩,?_⟩
    rw [if_neg (by decide)]
    refine ⟨_,SqT.of e2,_,rfl,rfl,?_⟩
    rw [if_neg (by decide)]
    refine ⟨_,SqT.of e2,_,rfl,rfl,?_⟩
    rw [if_pos rfl]
    exact ⟨_,SqT.of e2,_,rfl,_,.tup e3,true,kit_same _,q _ (Same.refl _)⟩
theorem goR_snoc {C:List Cs} {ws:List (Option Int)} {w:Option Int}:goR C (ws ++ [w])=stepR C (w.getD 0) (goR C ws):=by
  unfold goR
  rw [List.foldl_append]
  rfl
theorem path_nil (C:List Cs):PathOk C []:=fun k w h=>by simp at h
theorem path_snoc {C:List Cs} {ws:List (Option Int)} {w:Option Int} (P:PathOk C ws) (ho:overB C (goR C ws)=false) (ha:w.isSome=(asksR C (goR C ws)).isSome) (hw:inW (w.getD 0)=true):PathOk C (ws ++ [w]):=by
  intro k v hv
  by_cases c:k < ws.length
  · rw [List.getElem?_append_left c] at hv
    rw [List.take_append_of_le_length (by omega)]
    exact P k v hv
  · have lk:=(List.getElem?_eq_some_iff.mp hv).1
    rw [List.length_append,List.length_singleton] at lk
    have e:k=ws.length:=by omega
    subst e
    rw [List.getElem?_concat_length] at hv
    cases hv
    rw [List.take_append_of_le_length (Nat.le_refl _),List.take_length]
    exact ⟨ho,ha,hw⟩
theorem rn0 (C:List Cs):RnI C 0 st0:=⟨⟨(fun k v e=>by cases e),(fun r h=>nomatch h),(fun r h=>nomatch h),Nat.le_refl _,Nat.le_refl _,Nat.le_refl _,Nat.le_refl _,List.nodup_nil⟩,(fun r h=>nomatch h),(fun r h=>nomatch h),fun _=>Nat.le_refl _,fun w z=>nomatch z⟩
theorem take_snoc {ws:List (Option Int)} {k:Nat} {w:Option Int} (h:ws[k]?=some w):ws.take (k + 1)=ws.take k ++ [w]:=by rw [List.take_add_one,h];rfl
theorem path_rn {C:List Cs} {ws:List (Option Int)} (O:CoOk C) (P:PathOk C ws):∀ k,k≤ws.length→RnI C k (goR C (ws.take k))
  | 0,_=>rn0 C
  | k + 1,h=>by
    have hv:ws[k]?=some ws[k]:=List.getElem?_eq_getElem (by omega)
    obtain ⟨ho,_,hw⟩:=P k _ hv
    rw [take_snoc hv,goR_snoc]
    exact step_ok O (path_rn O P k (by omega)) ho hw
theorem path_end {C:List Cs} {ws:List (Option Int)} (O:CoOk C) (P:PathOk C ws):RnI C ws.length (goR C ws):=by
  have:=path_rn O P ws.length (Nat.le_refl _)
  rw [List.take_length] at this
  exact this
theorem step_any {C:List Cs} {s:RSt} {w v:Int} (h:asksR C s=none):stepR C w s=stepR C v s:=by
  unfold stepR
  unfold asksR at h
  split
  · rfl
  · rename_i no
    rw [if_neg no] at h
    cases hc:C[s.n]? with
    | none=>rfl
    | some c =>
      rw [hc] at h
      have h:asksC c s=none:=h
      show stepC c w s=stepC c v s
      cases c with
      | go to=>rfl
      | skip e to=>rfl
      | row r =>
        cases r with
        | take sh e x =>
          cases hk:rk s.sl e with
          | error er=>simp only [stepC,ledC,doR,hk]
          | ok n =>
            simp only [asksC,hk] at h
            split at h
            · rename_i c
              have e1:noteW (sh,n) w s=noteW (sh,n) v s:=by unfold noteW;rw [if_pos c,if_pos c]
              have e2:knownW (sh,n) w s=knownW (sh,n) v s:=by
                unfold knownW
                cases g:lastW s.gi (sh,n) with
                | some i=>rfl
                | none =>
                  rw [g] at c
                  cases g2:lastW s.no (sh,n) with
                  | some i=>rfl
                  | none=>rw [g2] at c;exact absurd c (by simp)
              simp only [stepC,ledC,doR,hk,e1,e2]
            · cases h
        | _=>rfl
def wyS (s:RSt):Prop:=∀ w,s.why=some w→w=Str.ofString "told"∨w=Str.ofString "great"∨w=Str.ofString "nought"
theorem doR_why {r:Rw} {w:Int} {s s':RSt} (e:doR r w s=.ok s'):s'.why=s.why:=by
  cases r with
  | off e'=>cases e;rfl
  | iff e' b c=>cases e;rfl
  | take sh e' x =>
    cases hk:rk s.sl e' with
    | error er=>simp only [doR,hk] at e;cases e
    | ok n =>
      simp only [doR,hk] at e
      cases e
      show (noteW _ _ _).why=_
      unfold noteW
      split <;> rfl
  | give sh e' f =>
    cases hk:rk s.sl e' with
    | error er=>simp only [doR,hk] at e;cases e
    | ok n =>
      cases hk2:rk s.sl f with
      | error er=>simp only [doR,hk,hk2] at e;cases e
      | ok i=>simp only [doR,hk,hk2] at e;cases e;rfl
  | lt x e' =>
    cases hk:rk s.sl e' with
    | error er=>simp only [doR,hk] at e;cases e
    | ok n=>simp only [doR,hk] at e;cases e;rfl
  | say e' =>
    cases hk:rk s.sl e' with
    | error er=>simp only [doR,hk] at e;cases e
    | ok n=>simp only [doR,hk] at e;cases e;rfl
theorem led_why {c:Cs} {w:Int} {k:Nat} {s s':RSt} (e:ledC c w s=.ok (k,s')):s'.why=s.why∨s'.why=some (Str.ofString "told"):=by
  have row:∀ r,ledC (.row r) w s=(match doR r w s with | .error er=>.error er | .ok s'=>.ok (s.n + 1,s'))→ledC (.row r) w s=.ok (k,s')→s'.why=s.why:=fun r h1 h2=>by
    rw [h1] at h2
    cases hd:doR r w s with
    | error er=>rw [hd] at h2;cases h2
    | ok s2=>rw [hd] at h2;cases h2;exact doR_why hd
  cases c with
  | go to=>cases e;exact .inl rfl
  | skip e' to =>
    cases hk:rk s.sl e' with
    | error er=>simp only [ledC,hk] at e;cases e
    | ok n=>simp only [ledC,hk] at e;cases e;exact .inl rfl
  | row r =>
    cases r with
    | off e' =>
      cases hk:rk s.sl e' with
      | error er=>simp only [ledC,hk] at e;cases e
      | ok n =>
        simp only [ledC,hk] at e
        cases e
        by_cases c:n=0
        · rw [if_pos c];exact .inl rfl
        · rw [if_neg c];exact .inr rfl
    | iff e' b d=>exact .inl (row _ rfl e)
    | take sh e' x=>exact .inl (row _ rfl e)
    | give sh e' x=>exact .inl (row _ rfl e)
    | lt sh e'=>exact .inl (row _ rfl e)
    | say e'=>exact .inl (row _ rfl e)
theorem wy_step {C:List Cs} {w:Int} {s:RSt} (h:wyS s):wyS (stepR C w s):=by
  unfold stepR
  split
  · exact h
  · split
    · exact h
    · rename_i c _
      unfold stepC
      split
      · rename_i k s' e
        intro v hv
        rcases led_why e with z | z
        · exact h v (by rw [← z];exact hv)
        · exact .inl (Option.some.inj (hv.symm.trans z))
      · rename_i er e
        intro v hv
        cases hv
        cases er
        all_goals first | exact .inr (.inl rfl) | exact .inr (.inr rfl)
theorem wy_go {C:List Cs}:∀ (ws:List (Option Int)) {s:RSt},wyS s→wyS (ws.foldl (fun s w=>stepR C (w.getD 0) s) s)
  | [],_,h=>h
  | _ :: ws,_,h=>wy_go ws (wy_step h)
theorem wy_all (C:List Cs) (ws:List (Option Int)):wyS (goR C ws):=wy_go ws fun w z=>nomatch z
theorem wy_oc {s:RSt} {out:List Row} (h:wyS s) (g:GiOf s out):wyOk (ocOf s) out:=by
  intro w e
  unfold ocOf at e
  unfold GiOf at g
  cases hy:s.why with
  | none=>rw [hy] at e;cases e
  | some v =>
    rw [hy] at e g
    cases e
    exact ⟨h _ hy,g⟩
theorem gi_rise {s:RSt} {out:List Row} (g:GiOf s out):Rising out:=by
  unfold GiOf at g
  cases hy:s.why with
  | none=>rw [hy] at g;exact g.1
  | some v=>rw [hy] at g;rw [g];exact List.Pairwise.nil
theorem atI_last {xs:List V} {y:V}:atI (xs ++ [y]) (-1)=some y:=by
  have e:ixN (xs ++ [y]).length (-1)=some ((xs ++ [y]).length - 1):=by
    unfold ixN
    rw [List.length_append,List.length_singleton]
    simp
    omega
  unfold atI
  rw [e]
  exact last_get
theorem mk_run {H0 H1 H3:Hp} {x dx:Addr} {a:RAd} (s1:Same H0 H1) (hx:H1 x=none) (hdx:H1 dx=none) (k3:SameX x (upd (upd H1 dx (.own x)) x (.ins t.c_Run dx [])) H3) (fr:∀ b,OwA x a b→b=x∨upd (upd H1 dx (.own x)) x (.ins t.c_Run dx []) b=none):Same H1 H3∧∀ b,OwA x a b→H1 b=none:=by
  have s2:Same H1 (upd (upd H1 dx (HO.own x)) x (HO.ins t.c_Run dx [])):=fun b o e=>by rw [upd_ne (ne_of_none e hx),upd_ne (ne_of_none e hdx)];exact e
  refine ⟨fun b o e=>k3 b o (fun z=>by rw [z,hx] at e;cases e) (s2 b o e),fun b ob=>?_⟩
  rcases fr b ob with z | z
  · rw [z];exact hx
  · exact fresh_of s2 z
theorem RnAt.off {x l:Addr} {a:RAd} {C:List Cs} {s:RSt} {ys zs:List V} (R:RnAt t H x a C s) (n:¬ OwA x a l) (h:H l=some (.lst ys)):RnAt t (upd H l (.lst zs)) x a C s :=
  R.keep (fun b o ow e=>by rw [upd_ne (fun z=>n (by rw [← z];exact ow))];exact e) (ts_upd h)
def lpI (r:Addr) (H:Hp) (_:Nat) (σ:St) (H':Hp):Prop:=(∃ o,σ=[some (.ref r),o])∧Same H H'
theorem rdp__law_paper {r nl gl:Addr} {o:V} {oc:Oc} {no gi:List Row} (h1:H r=some (.tup [o,.ref nl,.ref gl])) (h2:OcAt H o oc) (h3:LsAt H nl no) (h4:LsAt H gl gi) (h5:wyOk oc gi) (h6:no.length≤500) (h7:gi.length≤500) (h8:Rising gi) (q:∀ H',Same H H'→Q (.bl true) H') :
    rd__law_paper K t { nx:=fun _ H'=>Q .non H',rt:=Q } (L2.start ["paper","k"] [.ref r]) H:=by
  simp only [rd__law_paper,sp__law_outcome,sp__law_rows_of,rLtP,L2.start,rIxT,tSeq,gName,tRet,tNext,tOp,tVar,tC,tCons,tNil,tFor,tIfS,tOr,tNot,tTest,tB,tCB,tCall,LenV,iRng2,rIxL,rIxT,rNe,rI0,cLen,cIsi,scal,List.map,List.replicate,List.length,List.append,List.cons_append,List.nil_append,List.append_nil,List.getElem?_cons_zero,List.getElem?_cons_succ,Option.some.injEq,exists_eq_left',exists_eq_left,V.int.injEq,V.ref.injEq,V.str.injEq,V.bl.injEq,V.ty.injEq,List.cons.injEq,and_true,true_and,and_assoc,exists_and_left,List.set_cons_zero,List.set_cons_succ,Nat.reduceSub,Nat.reduceAdd,decide_eq_true_eq,Bool.not_eq_true',decide_eq_false_iff_not,Int.reduceToNat,Int.reducePow,Int.reduceNeg,Int.reduceMul,Int.reduceAdd,if_true,ite_true,Bool.false_eq_true,ite_false,if_false]
  refine ⟨_,.tup h1,true,kit_same _,?_⟩
  rw [if_neg (by decide)]
  refine ⟨3,.inr ⟨_,SqT.of h1,rfl⟩,?_⟩
  rw [if_neg (by decide)]
  refine ⟨_,SqT.of h1,_,rfl,_,SqT.of h1,_,rfl,_,rfl,oc,h2,gi,h4,h5,fun H1 s1=>?_⟩
  rw [if_neg (by decide)]
  have h1':=s1 _ _ h1
  refine ⟨_,SqT.of h1',_,rfl,_,rfl,no,ls_same h3 s1,h6,fun H2 s2=>?_⟩
  rw [if_neg (by decide)]
  have h1':=s2 _ _ h1'
  have S2:=s1.trans s2
  refine ⟨_,SqT.of h1',_,rfl,_,rfl,gi,ls_same h4 S2,h7,fun H3 s3=>?_⟩
  rw [if_neg (by decide)]
  have S3:=S2.trans s3
  obtain ⟨xs,hx,pr⟩:=h4
  have lx:=Paired.length pr
  refine ⟨_,SqT.of (S3 _ _ h1),_,rfl,xs.length,.inl ⟨_,SqL.of (S3 _ _ hx),rfl⟩,by omega,by omega,by omega,by omega,loop_range (lpI r H) ⟨⟨_,rfl⟩,S3⟩ ?_ ?_⟩
  · rintro i σ H' hi ⟨⟨o1,rfl⟩,s⟩
    simp only [rLtP,L2.start,rIxT,tSeq,gName,tRet,tNext,tOp,tVar,tC,tCons,tNil,tFor,tIfS,tOr,tNot,tTest,tB,tCB,tCall,LenV,iRng2,rIxL,rIxT,rNe,rI0,cLen,cIsi,scal,List.map,List.replicate,List.length,List.append,List.cons_append,List.nil_append,List.append_nil,List.getElem?_cons_zero,List.getElem?_cons_succ,Option.some.injEq,exists_eq_left',exists_eq_left,V.int.injEq,V.ref.injEq,V.str.injEq,V.bl.injEq,V.ty.injEq,List.cons.injEq,and_true,true_and,and_assoc,exists_and_left,List.set_cons_zero,List.set_cons_succ,Nat.reduceSub,Nat.reduceAdd,decide_eq_true_eq,Bool.not_eq_true',decide_eq_false_iff_not,Int.reduceToNat,Int.reducePow,Int.reduceNeg,Int.reduceMul,Int.reduceAdd,if_true,ite_true,Bool.false_eq_true,ite_false,if_false]
    have hi:i + 1 < xs.length:=by omega
    have e1:(1:Int) + i - 1=(i:Nat):=by omega
    have e2:(1:Int) + i=((i + 1:Nat):Int):=by omega
    obtain ⟨r1,g1,a1,p1,ev1,f1,f2⟩:=Paired.getP pr (List.getElem?_eq_getElem (show i < xs.length by omega))
    obtain ⟨r2,g2,a2,p2,ev2,f3,f4⟩:=Paired.getP pr (List.getElem?_eq_getElem hi)
    refine ⟨_,SqT.of (s _ _ h1),_,rfl,gl,rfl,_,SqL.of (s _ _ hx),_,by rw [e1];exact atI_nat (List.getElem?_eq_getElem (show i < xs.length by omega)),a1,ev1,_,SqT.of (s _ _ f1),_,rfl,_,SqT.of (s _ _ h1),_,rfl,gl,rfl,_,SqL.of (s _ _ hx),_,by rw [e2];exact atI_nat (List.getElem?_eq_getElem hi),a2,ev2,_,SqT.of (s _ _ f3),_,rfl,p1,rfl,p2,rfl,r1.1,s _ _ f2,r2.1,s _ _ f4,?_⟩
    have lt:placeLt r1.1 r2.1=true:=by
      have:=List.pairwise_iff_getElem.mp h8 i (i + 1) (by omega) (by omega) (by omega)
      rw [List.getElem?_eq_getElem (by omega)] at g1 g2
      rw [Option.some.inj g1,Option.some.inj g2] at this
      exact this
    rw [lt,if_neg (by decide)]
    exact ⟨⟨_,rfl⟩,s⟩
  · rintro σ H' ⟨⟨o1,rfl⟩,s⟩
    exact q _ s
theorem rdp__law_stepped {x md:Addr} {c:Int} {a:RAd} {C:List Cs} {s:RSt} {ws:List (Option Int)} (R:RnAt t H x a C s) (O:CoOk C) (I:RnI C ws.length s) (hm:ws.length≤40) (hl:H md=some (.lst (ws.map optV))) (nl:¬ OwA x a md)
    (q:∀ w H',inW (w.getD 0)=true→w.isSome=(asksR C s).isSome→(∀ b o,¬ Ow x a b→b≠md→H b=some o→H' b=some o)→RnAt t H' x a C (stepR C (w.getD 0) s)→H' md=some (.lst ((ws ++ [w]).map optV))→Q .non H') :
    rd__law_stepped K t { nx:=fun _ H'=>Q .non H',rt:=Q } (L2.start ["run","cell","made"] [.ref x,.int c,.ref md]) H:=by
  simp only [rd__law_stepped,sp_Run_asks,sp_Run_step,sp__law_worth,tMeth,L2.start,r_mt_append,rAppend,tSeq,tDrop,tOp,tUn,tVar,tC,tCons,tNil,tIfS,tTest,tCB,tBM,tyV,tCall,LenV,rIxL,rI0,rU,rIsN,cLen,List.map,List.replicate,List.length,List.append,List.cons_append,List.nil_append,List.append_nil,List.getElem?_cons_zero,List.getElem?_cons_succ,Option.some.injEq,exists_eq_left',exists_eq_left,V.int.injEq,V.ref.injEq,V.str.injEq,V.bl.injEq,V.ty.injEq,List.cons.injEq,and_true,true_and,and_assoc,exists_and_left,List.set_cons_zero,List.set_cons_succ,Nat.reduceSub,Nat.reduceAdd,decide_eq_true_eq,Bool.not_eq_true',decide_eq_false_iff_not,Int.reduceToNat,Int.reducePow,Int.reduceNeg,Int.reduceMul,Int.reduceAdd,if_true,ite_true,Bool.false_eq_true,ite_false,if_false]
  have lw:(ws.map optV).length=ws.length:=List.length_map ..
  have big:(ws.map optV).length < sizeLine:=Nat.lt_of_le_of_lt (by omega:_≤900) (by decide)
  have fin:∀ (w:Option Int) (H1:Hp),inW (w.getD 0)=true→w.isSome=(asksR C s).isSome→Same H H1→∀ H',Kp x a (upd H1 md (.lst (ws.map optV ++ [optV w]))) H'→RnAt t H' x a C (stepR C (w.getD 0) s)→Q .non H':=fun w H1 hw ha s1 H' k R' =>
    q w H' hw ha (fun b o n1 n2 e=>k b o n1 (by rw [upd_ne n2];exact s1 _ _ e)) R' (k _ _ (fun z=>nl (.inl z)) (by rw [List.map_append];exact upd_same))
  refine ⟨_,_,R.ix,rfl,a,C,s,R,O.ok,I.ok.so,fun H1 ea s1=>?_,fun p q0 H1 ea s1 hq=>?_⟩
  · have hl1:=s1 _ _ hl
    have R2:RnAt t (upd H1 md (.lst (ws.map optV ++ [V.non]))) x a C s:=(R.same s1).off nl hl1
    exact ⟨.inl ⟨_,SqL.of hl1⟩,_,hl1,big,_,_,R2.ix,rfl,ws.length,a,C,s,R2,O.ok,I.ok,by omega,fin none H1 (by decide) (by rw [ea];rfl) s1⟩
  · have hl1:=s1 _ _ hl
    rw [if_neg (fun z=>nomatch z)]
    refine ⟨.inl ⟨_,SqL.of hl1⟩,_,.inl ⟨_,SqL.of hl1,rfl⟩,by omega,by omega,fun w H2 hw s2=>?_⟩
    have hl2:=s2 _ _ hl1
    have R2:RnAt t (upd H2 md (.lst (ws.map optV ++ [V.int w]))) x a C s:=(R.same (s1.trans s2)).off nl hl2
    exact ⟨_,hl2,big,_,_,R2.ix,rfl,_,SqL.of upd_same,_,atI_last,w,rfl,ws.length,a,C,s,R2,O.ok,I.ok,by omega,fin (some w) H2 hw (by rw [ea];rfl) (s1.trans s2)⟩
def agI (t:Adr) (C:List Cs) (ws:List (Option Int)) (x l md:Addr) (a:RAd) (H0:Hp) (k:Nat) (σ:St) (H:Hp):Prop:=(∃ o,σ=[some (.ref l),some (.ref md),some (.ref x),o])∧Same H0 H∧RnAt t H x a C (goR C (ws.take k))
theorem rdp__law_again {l md:Addr} {xs:List V} {C:List Cs} {ws:List (Option Int)} (h1:H l=some (.lst xs)) (h2:Paired (CsAt H) xs C) (O:CoOk C) (h4:H md=some (.lst (ws.map optV))) (P:PathOk C ws) (h6:ws.length≤40) (h7:overB C (goR C ws)=true) (q:∀ r H',Same H H'→PpAt H' r (goR C ws)→Q (.ref r) H') :
    rd__law_again K t { nx:=fun _ H'=>Q .non H',rt:=Q } (L2.start ["code","made","run","k"] [.ref l,.ref md]) H:=by
  simp only [rd__law_again,sp_Run_init,sp_Run_over,sp_Run_paper,sp_Run_step,tMeth,tMake,L2.start,cLst,tSeq,tAsg,gName,tRet,tDrop,tNext,tOp,tVar,tC,tCons,tNil,tFor,tIfS,tOr,tTest,tCB,LenV,iRng1,rIxL,rI0,rIsNotB,rIsN,rNotN,cLen,List.map,List.replicate,List.length,List.append,List.cons_append,List.nil_append,List.append_nil,List.getElem?_cons_zero,List.getElem?_cons_succ,Option.some.injEq,exists_eq_left',exists_eq_left,V.int.injEq,V.ref.injEq,V.str.injEq,V.bl.injEq,V.ty.injEq,List.cons.injEq,and_true,true_and,and_assoc,exists_and_left,List.set_cons_zero,List.set_cons_succ,Nat.reduceSub,Nat.reduceAdd,decide_eq_true_eq,Bool.not_eq_true',decide_eq_false_iff_not,Int.reduceToNat,Int.reducePow,Int.reduceNeg,Int.reduceMul,Int.reduceAdd,if_true,ite_true,Bool.false_eq_true,ite_false,if_false]
  have lw:(ws.map optV).length=ws.length:=List.length_map ..
  refine ⟨xs,.inl (SqL.of h1),fun hd hhd x dx hx hdx nxd=>?_⟩
  have s1:=isV (o:=HO.lst xs) hd hhd
  have hh1:upd H hd (HO.lst xs) hd=some (.lst xs):=upd_same
  generalize upd H hd (HO.lst xs)=H1 at *
  have s2:Same H1 (upd (upd H1 dx (HO.own x)) x (HO.ins t.c_Run dx [])):=fun b o e=>by rw [upd_ne (ne_of_none e hx),upd_ne (ne_of_none e hdx)];exact e
  refine ⟨_,upd_same,_,s2 _ _ hh1,C,cs_same (s1.trans s2) h2,fun H3 a k3 R3 fr=>?_⟩
  obtain ⟨s3,fr⟩:=mk_run s1 hx hdx k3 fr
  have S3:=s1.trans s3
  have fr0:∀ b,Ow x a b→H b=none:=fun b ob=>fresh_of s1 (fr b (.inl ob))
  refine ⟨(ws.map optV).length,.inl ⟨_,SqL.of (S3 _ _ h4),rfl⟩,by omega,by omega,loop_range (agI t C ws x l md a H) ⟨⟨_,rfl⟩,S3,R3⟩ ?_ ?_⟩
  · rintro i σ H4 hi ⟨⟨o,rfl⟩,S4,R4⟩
    have hi:i < ws.length:=by omega
    have hv:ws[i]?=some ws[i]:=List.getElem?_eq_getElem hi
    have tk:=take_snoc hv
    obtain ⟨ho,ha,hw⟩:=P i _ hv
    have I:=path_rn O P i (by omega)
    have l3:=I.ok.l3
    have l2:=I.ok.l2
    have av:atI (ws.map optV) (i:Nat)=some (optV ws[i]):=atI_nat (by rw [List.getElem?_map,hv];rfl)
    have nx:∀ H5 H',Same H4 H5→Kp x a H5 H'→RnAt t H' x a C (stepR C (ws[i].getD 0) (goR C (ws.take i)))→agI t C ws x l md a H (i + 1) [some (.ref l),some (.ref md),some (.ref x),some (.int (i:Nat))] H':=fun H5 H' s5 k R' =>
      ⟨⟨_,rfl⟩,fun b o e=>k b o (fun z=>by rw [fr0 b z] at e;cases e) (s5 _ _ (S4 b o e)),by rw [tk,goR_snoc];exact R'⟩
    generalize ws[i]=w at *
    simp only [tMeth,tMake,L2.start,cLst,tSeq,tAsg,gName,tRet,tDrop,tNext,tOp,tVar,tC,tCons,tNil,tFor,tIfS,tOr,tTest,tCB,LenV,iRng1,rIxL,rI0,rIsNotB,rIsN,rNotN,cLen,List.map,List.replicate,List.length,List.append,List.cons_append,List.nil_append,List.append_nil,List.getElem?_cons_zero,List.getElem?_cons_succ,Option.some.injEq,exists_eq_left',exists_eq_left,V.int.injEq,V.ref.injEq,V.str.injEq,V.bl.injEq,V.ty.injEq,List.cons.injEq,and_true,true_and,and_assoc,exists_and_left,List.set_cons_zero,List.set_cons_succ,Nat.reduceSub,Nat.reduceAdd,decide_eq_true_eq,Bool.not_eq_true',decide_eq_false_iff_not,Int.reduceToNat,Int.reducePow,Int.reduceNeg,Int.reduceMul,Int.reduceAdd,if_true,ite_true,Bool.false_eq_true,ite_false,if_false,Int.zero_add]
    refine ⟨_,_,R4.ix,rfl,a,C,_,R4,fun H5 s5=>?_⟩
    rw [ho,if_neg (by decide)]
    have R5:=R4.same s5
    refine ⟨_,_,R5.ix,rfl,a,C,_,R5,by omega,I.ok.nd,by omega,fun H6 _ s6=>?_,fun _ _ _ _ _ _ e=>absurd (ho.symm.trans e) (by decide)⟩
    have R6:=R5.same s6
    have S6:=S4.trans (s5.trans s6)
    rw [if_neg (fun z=>z trivial)]
    refine ⟨_,SqL.of (S6 _ _ h4),_,av,?_⟩
    cases w with
    | none =>
      rw [if_pos (show optV none=V.non from rfl)]
      refine ⟨_,_,R6.ix,rfl,i,a,C,_,R6,O.ok,I.ok,by omega,fun H7 k7 R7=>nx H6 H7 (s5.trans s6) k7 ?_⟩
      have ea:asksR C (goR C (ws.take i))=none:=by
        cases e:asksR C (goR C (ws.take i)) with
        | none=>rfl
        | some p=>rw [e] at ha;cases ha
      rw [step_any (v:=(none:Option Int).getD 0) ea] at R7
      exact R7
    | some w =>
      rw [if_neg (show ¬ optV (some w)=V.non from fun z=>nomatch z)]
      exact ⟨_,_,R6.ix,rfl,_,SqL.of (S6 _ _ h4),_,av,w,rfl,i,a,C,_,R6,O.ok,I.ok,by omega,fun H7 k7 R7=>nx H6 H7 (s5.trans s6) k7 R7⟩
  · rintro σ H4 ⟨⟨o,rfl⟩,S4,R4⟩
    rw [show ws.take ((ws.map optV).length:Int).toNat=ws by rw [Int.toNat_natCast,lw,List.take_length]] at R4
    have I:=path_end O P
    have l3:=I.ok.l3
    have l2:=I.ok.l2
    refine ⟨_,rfl,_,rfl,_,_,R4.ix,rfl,x,rfl,a,C,_,R4,by omega,I.ok.nd,by omega,fun H5 e=>absurd (h7.symm.trans e) (by decide),fun r o nl gl out H5 _ s5 _ _ _ hr hoc hnl hgl gi=>q r H5 (S4.trans s5) ⟨o,nl,gl,out,hr,hoc,hnl,hgl,gi⟩⟩
section
variable {C:List Cs} {s:RSt} {m:Nat}
theorem sok_done:PyData.strOk (Str.ofString "done")=true:=by decide +kernel
theorem ne_of_none' {H:Hp} {a b:Addr} {o:HO} (h:H a=some o) (k:H b=none):b≠a:=fun z=>by rw [z,h] at k;cases k
def ocD:Oc→PyData
  | .done sa=>.tuple [.str (Str.ofString "done"),.tuple (sa.map PyData.int)]
  | .off w=>.tuple [.str (Str.ofString "off"),.str w]
theorem oc_same {H':Hp} {v:V} {oc:Oc} (h:OcAt H v oc) (s:Same H H'):OcAt H' v oc:=by
  cases oc with
  | done sa=>obtain ⟨o,y,e1,e2,e3⟩:=h;exact ⟨o,y,e1,s _ _ e2,s _ _ e3⟩
  | off w=>obtain ⟨o,e1,e2⟩:=h;exact ⟨o,e1,s _ _ e2⟩
theorem oc_dat {v:V} {oc:Oc} (h:OcAt H v oc):Dat K H v (ocD oc):=by
  cases oc with
  | done sa =>
    obtain ⟨o,y,rfl,e2,e3⟩:=h
    exact .tup (SqT.of e2) (.cons (.str _) (.cons (.tup (SqT.of e3) (DatAll.of fun i _=>.int i)) .nil))
  | off w =>
    obtain ⟨o,rfl,e2⟩:=h
    exact .tup (SqT.of e2) (.cons (.str _) (.cons (.str _) .nil))
theorem ints_plain:∀ (sa:List Int),plainDs (sa.map PyData.int)=true
  | []=>rfl
  | i :: t=>by rw [List.map_cons,plainDs,ints_plain t];rfl
theorem ints_deep:∀ (sa:List Int),PyData.depthAll (sa.map PyData.int)=0
  | []=>by simp [PyData.depthAll]
  | i :: t=>by rw [List.map_cons,PyData.depthAll,ints_deep t,PyData.depth];rfl
theorem oc_plain {oc:Oc} (h:∀ w,oc=.off w→PyData.strOk w=true):plainD (ocD oc)=true:=by
  cases oc with
  | done sa=>have:=sok_done;simp [ocD,plainD,plainDs,ints_plain,this]
  | off w=>have:=h w rfl;have k:=sok_off;simp [ocD,plainD,plainDs,this,k]
theorem oc_deep (oc:Oc):(ocD oc).depth≤3:=by
  cases oc with
  | done sa=>simp only [ocD,PyData.depth,PyData.depthAll,ints_deep];omega
  | off w=>simp only [ocD,PyData.depth,PyData.depthAll];omega
def ppD (oc:Oc) (no gi:List Row):PyData:=.tuple [ocD oc,.list (no.map rwD'),.list (gi.map rwD')]
theorem gi_uniq {out out':List Row} (h:GiOf s out) (h':GiOf s out'):out=out':=by
  unfold GiOf at h h'
  cases e:s.why with
  | some w=>rw [e] at h h';rw [h,h']
  | none=>rw [e] at h h';exact rising_ext h.1 h'.1 fun ⟨p,w⟩=>(h.2 p w).trans (h'.2 p w).symm
theorem gi_ok {out:List Row} (I:RnI C m s) (h:GiOf s out):∀ r∈out,PyData.strOk r.1.1=true:=by
  unfold GiOf at h
  cases e:s.why with
  | some w=>rw [e] at h;rw [h];exact fun r hr=>nomatch hr
  | none =>
    rw [e] at h
    intro r hr
    exact last_in (P:=fun r=>PyData.strOk r.1.1=true) I.ng ((h.2 r.1 r.2).mp hr)
theorem gi_len {out:List Row} (h:GiOf s out):out.length≤s.gi.length:=by
  unfold GiOf at h
  cases e:s.why with
  | some w=>rw [e] at h;rw [h];exact Nat.zero_le _
  | none =>
    rw [e] at h
    have ld:=len_dOf s.gi
    have n1:((dOf s.gi).map (·.1)).Nodup:=(okKv_dOf s.gi).1
    have n2:((out.map (·.1)).map plKey).Nodup:=by
      have:=h.1.nd
      unfold List.Nodup at *
      rw [List.pairwise_map]
      exact this.imp fun {a b} hab z=>hab (plKey_inj z)
    have sub2:∀ k∈(out.map (·.1)).map plKey,k∈(dOf s.gi).map (·.1):=fun k hk=>by
      obtain ⟨p,hp,rfl⟩:=List.mem_map.mp hk
      obtain ⟨r,hr,rfl⟩:=List.mem_map.mp hp
      exact List.mem_map_of_mem (f:=(·.1)) (mem_dOf.mpr ⟨r.1,r.2,rfl,(h.2 r.1 r.2).mp hr⟩)
    have:=nd_len_le n2 sub2
    simp only [List.length_map] at this
    omega
end
def csD:Cs→PyData
  | .row r=>rwD r
  | .skip e to=>.tuple [.str "skip",termD e,.int (to:Nat)]
  | .go en=>.tuple [.str "go",.int (en:Nat)]
theorem cs_dat {v:V} {c:Cs} (h:CsAt H v c) (p:csP c):Dat K H v (csD c):=by
  cases c with
  | row r=>exact rw_dat r h.1 p.1
  | skip e to =>
    obtain ⟨q,te,rfl,h2,h3⟩:=h
    exact .tup (SqT.of h2) (.cons (.str _) (.cons (term_dat h3 p) (.cons (.int _) .nil)))
  | go en =>
    obtain ⟨q,rfl,h2⟩:=h
    exact .tup (SqT.of h2) (.cons (.str _) (.cons (.int _) .nil))
theorem css_dat:∀ {xs:List V} {C:List Cs},Paired (CsAt H) xs C→(∀ c∈C,csP c)→DatAll K H xs (C.map csD)
  | _,_,.nil,_=>.nil
  | _,_,.cons h r,p=>.cons (cs_dat h (p _ List.mem_cons_self)) (css_dat r fun c hc=>p c (List.mem_cons_of_mem _ hc))
theorem sok_skip:PyData.strOk "skip"=true:=by decide +kernel
theorem sok_go:PyData.strOk "go"=true:=by decide +kernel
theorem cs_plain {c:Cs} (p:csP c):plainD (csD c)=true∧(csD c).depth≤3:=by
  cases c with
  | row r =>
    have d0:r.deep=0:=by
      have:=p.2
      cases r <;> first | exact this.elim | simp [Rw.deep]
    have:=rw_deep r
    exact ⟨rw_plain r p.1,by show (rwD r).depth≤3;omega⟩
  | skip e to=>exact ⟨by simp [csD,plainD,plainDs,sok_skip,term_plain p],by have:=term_deep e;simp [csD,PyData.depth,PyData.depthAll];omega⟩
  | go en=>exact ⟨by simp [csD,plainD,plainDs,sok_go],by simp [csD,PyData.depth,PyData.depthAll]⟩
theorem css_plain:∀ {C:List Cs},(∀ c∈C,csP c)→plainDs (C.map csD)=true∧PyData.depthAll (C.map csD)≤3
  | [],_=>by simp [plainDs,PyData.depthAll]
  | c :: C,p=>by
    have h1:=cs_plain (p c List.mem_cons_self)
    have h2:=css_plain (C:=C) fun x hx=>p x (List.mem_cons_of_mem _ hx)
    rw [List.map_cons,plainDs,PyData.depthAll,h1.1,h2.1]
    exact ⟨rfl,by omega⟩
mutual
theorem code_pl:∀ (r:Rw) (k:Nat),RwPl r→∀ c∈codeR r k,csP c
  | .iff e a b,k,p,c,hc=>by
    unfold RwPl at p
    rw [codeR] at hc
    unfold blk at hc
    split at hc
    · rcases List.mem_cons.mp hc with rfl | hc
      · exact p.1
      · exact codes_pl a _ p.2.1 c hc
    · rcases List.mem_cons.mp hc with rfl | hc
      · exact p.1
      rcases List.mem_append.mp hc with hc | hc
      · exact codes_pl a _ p.2.1 c hc
      rcases List.mem_cons.mp hc with rfl | hc
      · trivial
      · exact codes_pl b _ p.2.2 c hc
  | .take sh e sl,k,p,c,hc=>by rw [codeR_row (x:=.take sh e sl) trivial,List.mem_singleton] at hc;rw [hc];exact ⟨p,trivial⟩
  | .give sh e f,k,p,c,hc=>by rw [codeR_row (x:=.give sh e f) trivial,List.mem_singleton] at hc;rw [hc];exact ⟨p,trivial⟩
  | .lt sl e,k,p,c,hc=>by rw [codeR_row (x:=.lt sl e) trivial,List.mem_singleton] at hc;rw [hc];exact ⟨p,trivial⟩
  | .say e,k,p,c,hc=>by rw [codeR_row (x:=.say e) trivial,List.mem_singleton] at hc;rw [hc];exact ⟨p,trivial⟩
  | .off e,k,p,c,hc=>by rw [codeR_row (x:=.off e) trivial,List.mem_singleton] at hc;rw [hc];exact ⟨p,trivial⟩
theorem codes_pl:∀ (r:Rws) (k:Nat),RwsPl r→∀ c∈codeRs r k,csP c
  | .nil,k,p,c,hc=>by rw [codeRs] at hc;cases hc
  | .cons r rs,k,p,c,hc=>by
    unfold RwsPl at p
    rw [codeRs] at hc
    rcases List.mem_append.mp hc with hc | hc
    · exact code_pl r k p.1 c hc
    · exact codes_pl rs _ p.2 c hc
end
structure TwS (t:Adr) (H0 H:Hp) (rs ml hd:Addr) (xs:List V) (C:List Cs) (X:Nat→Addr) (A:Nat→RAd) (M:Nat→Addr) (W:Nat→List (Option Int)):Prop where
  sm:Same H0 H
  R:∀ i,i < 2→RnAt t H (X i) (A i) C (goR C (W i))
  hm:∀ i,i < 2→H (M i)=some (.lst ((W i).map optV))
  pk:∀ i,i < 2→PathOk C (W i)
  le:∀ i,i < 2→(W i).length≤C.length
  hr:H rs=some (.lst [.ref (X 0),.ref (X 1)])
  hl:H ml=some (.lst [.ref (M 0),.ref (M 1)])
  hh:H hd=some (.lst xs)
  dj:∀ i j b,i < 2→j < 2→i≠j→Ow (X i) (A i) b→¬ OwA (X j) (A j) b
  mo:∀ i j,i < 2→j < 2→¬ OwA (X i) (A i) (M j)
  mm:∀ i j,i < 2→j < 2→i≠j→M i≠M j
  ro:∀ i,i < 2→¬ Ow (X i) (A i) rs∧¬ Ow (X i) (A i) ml∧¬ Ow (X i) (A i) hd
  rm:∀ i,i < 2→rs≠M i∧ml≠M i∧hd≠M i
  fr:∀ i,i < 2→∀ b,Ow (X i) (A i) b→H0 b=none
  fm:∀ i,i < 2→H0 (M i)=none
def putW (W:Nat→List (Option Int)) (i:Nat) (w:Option Int):Nat→List (Option Int):=fun k=>if k=i then W i ++ [w] else W k
section
variable {H0 H':Hp} {rs ml hd:Addr} {xs:List V} {C:List Cs} {X:Nat→Addr} {A:Nat→RAd} {M:Nat→Addr} {W:Nat→List (Option Int)}
theorem TwS.same (S:TwS t H0 H rs ml hd xs C X A M W) (k:Same H H'):TwS t H0 H' rs ml hd xs C X A M W :=
  ⟨S.sm.trans k,fun i hi=>(S.R i hi).same k,fun i hi=>k _ _ (S.hm i hi),S.pk,S.le,k _ _ S.hr,k _ _ S.hl,k _ _ S.hh,S.dj,S.mo,S.mm,S.ro,S.rm,S.fr,S.fm⟩
theorem TwS.lt {i:Nat} (S:TwS t H0 H rs ml hd xs C X A M W) (O:CoOk C) (hi:i < 2) (ho:overB C (goR C (W i))=false):(W i).length < C.length:=by
  have I:=path_end O (S.pk i hi)
  have no:¬ overB C (goR C (W i))=true:=by rw [ho];decide
  have l1:=over_lt no
  have wn:(goR C (W i)).why=none:=by
    cases e:(goR C (W i)).why with
    | none=>rfl
    | some v=>exact absurd (show overB C (goR C (W i))=true by unfold overB;rw [e];rfl) no
  have:=I.at_ wn
  omega
theorem TwS.next {i:Nat} {w:Option Int} (S:TwS t H0 H rs ml hd xs C X A M W) (O:CoOk C) (hi:i < 2) (ho:overB C (goR C (W i))=false) (hw:inW (w.getD 0)=true) (ha:w.isSome=(asksR C (goR C (W i))).isSome) (k:∀ b o,¬ Ow (X i) (A i) b→b≠M i→H b=some o→H' b=some o) (R:RnAt t H' (X i) (A i) C (stepR C (w.getD 0) (goR C (W i)))) (hm:H' (M i)=some (.lst ((W i ++ [w]).map optV))):TwS t H0 H' rs ml hd xs C X A M (putW W i w):=by
  have ei:putW W i w i=W i ++ [w]:=if_pos rfl
  have en:∀ j,j≠i→putW W i w j=W j:=fun j hj=>if_neg hj
  have ts:TSm H H':=fun b ys e=>k b _ ((S.R i hi).notup e) (fun z=>by rw [z,S.hm i hi] at e;cases e) e
  have lt:=S.lt O hi ho
  refine ⟨fun b o e=>k b o (fun z=>by rw [S.fr i hi b z] at e;cases e) (fun z=>by rw [z,S.fm i hi] at e;cases e) (S.sm b o e),fun j hj=>?_,fun j hj=>?_,fun j hj=>?_,fun j hj=>?_,k _ _ (S.ro i hi).1 (S.rm i hi).1 S.hr,k _ _ (S.ro i hi).2.1 (S.rm i hi).2.1 S.hl,k _ _ (S.ro i hi).2.2 (S.rm i hi).2.2 S.hh,S.dj,S.mo,S.mm,S.ro,S.rm,S.fr,S.fm⟩
  · by_cases e:j=i
    · subst e;rw [ei,goR_snoc];exact R
    · rw [en j e]
      refine (S.R j hj).keep (fun b o ow eb=>k b o (fun z=>S.dj i j b hi hj (Ne.symm e) z ow) (fun z=>S.mo j i hj hi (by rw [← z];exact ow)) eb) ts
  · by_cases e:j=i
    · subst e;rw [ei];exact hm
    · rw [en j e];exact k _ _ (fun z=>S.mo i j hi hj (.inl z)) (S.mm j i hj hi e) (S.hm j hj)
  · by_cases e:j=i
    · subst e;rw [ei];exact path_snoc (S.pk j hj) ho ha hw
    · rw [en j e];exact S.pk j hj
  · by_cases e:j=i
    · subst e;rw [ei,List.length_append,List.length_singleton];omega
    · rw [en j e];exact S.le j hj
theorem putW_sum {i:Nat} {w:Option Int} (hi:i < 2):(putW W i w 0).length + (putW W i w 1).length=(W 0).length + (W 1).length + 1:=by
  have:i=0∨i=1:=by omega
  rcases this with rfl | rfl
  · simp only [putW,if_pos,List.length_append,List.length_singleton,if_neg (show ¬ (1:Nat)=0 by omega)];omega
  · simp only [putW,if_pos,List.length_append,List.length_singleton,if_neg (show ¬ (0:Nat)=1 by omega)];omega
theorem two_at {β:Type} (F:Nat→β) {i:Nat} (hi:i < 2):atI [F 0,F 1] (i:Nat)=some (F i):=by
  have:i=0∨i=1:=by omega
  rcases this with rfl | rfl <;> rfl
theorem pp_dat {r:Addr} {s:RSt} {out:List Row} {o:V} {nl gl:Addr} (h1:H r=some (.tup [o,.ref nl,.ref gl])) (h2:OcAt H o (ocOf s)) (h3:LsAt H nl s.no) (h4:LsAt H gl out):Dat K H (.ref r) (ppD (ocOf s) s.no out):=.tup (SqT.of h1) (.cons (oc_dat h2) (.cons (ls_dat h3) (.cons (ls_dat h4) .nil)))
theorem pp_plain {m:Nat} {s:RSt} {out:List Row} (I:RnI C m s) (g:GiOf s out):plainD (ppD (ocOf s) s.no out)=true∧(ppD (ocOf s) s.no out).depth≤64:=by
  have wk:∀ w,ocOf s=.off w→PyData.strOk w=true:=fun w z=>by
    unfold ocOf at z
    cases e:s.why with
    | none=>rw [e] at z;cases z
    | some v=>rw [e] at z;cases z;exact I.wy _ e
  constructor
  · have a1:=oc_plain wk
    have a2:=ls_plain I.nn
    have a3:=ls_plain (gi_ok I g)
    simp only [ppD,plainD,plainDs,Bool.and_eq_true,and_true] at a1 a2 a3 ⊢
    exact ⟨a1,a2,a3⟩
  · have a1:=oc_deep (ocOf s)
    have a2:=ls_deep s.no
    have a3:=ls_deep out
    simp only [ppD,PyData.depth,PyData.depthAll] at a1 a2 a3 ⊢
    omega
def st2 (l p hd rs ml:Addr) (m:Nat) (o6 o7:Option V):St:=[some (.ref l),some (.ref p),some (.ref hd),some (.ref rs),some (.ref ml),some (.int m),o6,o7,none,none]
theorem rdp_twoE {D:Ends} {l p:Addr} {c:Int} {m i:Nat} (O:CoOk C) (S:TwS t H0 H rs ml hd xs C X A M W) (hi:i < 2) (ho:overB C (goR C (W i))=false) (c1:0≤c) (c2:c < 100000000000000000000000000000000000000000) (q:∀ w H',TwS t H0 H' rs ml hd xs C X A M (putW W i w)→D.nx (st2 l p hd rs ml (m + 1) (some (.int c)) (some (.int i))) H') :
    rd__law_two_E K t D (st2 l p hd rs ml m (some (.int c)) (some (.int i))) H:=by
  simp only [rd__law_two_E,st2,sp__law_stepped,L2.start,tSeq,tAsg,gName,tDrop,tOp,tVar,tC,tCons,tNil,tCall,rIxL,rI,rI0,List.map,List.replicate,List.length,List.append,List.cons_append,List.nil_append,List.append_nil,List.getElem?_cons_zero,List.getElem?_cons_succ,Option.some.injEq,exists_eq_left',exists_eq_left,V.int.injEq,V.ref.injEq,V.str.injEq,V.bl.injEq,V.ty.injEq,List.cons.injEq,and_true,true_and,and_assoc,exists_and_left,List.set_cons_zero,List.set_cons_succ,Nat.reduceSub,Nat.reduceAdd,decide_eq_true_eq,Bool.not_eq_true',decide_eq_false_iff_not,Int.reduceToNat,Int.reducePow,Int.reduceNeg,Int.reduceMul,Int.reduceAdd,if_true,ite_true,Bool.false_eq_true,ite_false,if_false]
  have hb:(1000000000000000000000000000000000000000000000000000000000000:Int) < big:=by decide +kernel
  have le:=S.le i hi
  have cl:=O.le
  refine ⟨_,SqL.of S.hr,_,two_at (fun k=>V.ref (X k)) hi,⟨⟨by omega,by omega⟩,by omega,by omega⟩,_,SqL.of S.hl,_,two_at (fun k=>V.ref (M k)) hi,?_⟩
  exact ⟨X i,rfl,M i,rfl,A i,C,goR C (W i),S.R i hi,O,W i,path_end O (S.pk i hi),by omega,S.hm i hi,S.mo i i hi hi,fun w H' hw ha k R' hm=>q w H' (S.next O hi ho hw ha k R' hm)⟩
theorem rdp_twoD {D:Ends} {l p:Addr} {c:Int} {m i:Nat} (O:CoOk C) (S:TwS t H0 H rs ml hd xs C X A M W) (hi:i < 2) (ho:¬ (overB C (goR C (W 0))=true∧overB C (goR C (W 1))=true)) (c1:0≤c) (c2:c < 100000000000000000000000000000000000000000) (q:∀ j w H',j < 2→TwS t H0 H' rs ml hd xs C X A M (putW W j w)→D.nx (st2 l p hd rs ml (m + 1) (some (.int c)) (some (.int j))) H') :
    rd__law_two_D K t D (st2 l p hd rs ml m (some (.int c)) (some (.int i))) H:=by
  simp only [rd__law_two_D,st2,sp_Run_over,tMeth,L2.start,tSeq,tAsg,gName,tDrop,tNext,tOp,tVar,tC,tCons,tNil,tIfS,tB,tCall,rIxL,rI,rI0,List.map,List.replicate,List.length,List.append,List.cons_append,List.nil_append,List.append_nil,List.getElem?_cons_zero,List.getElem?_cons_succ,Option.some.injEq,exists_eq_left',exists_eq_left,V.int.injEq,V.ref.injEq,V.str.injEq,V.bl.injEq,V.ty.injEq,List.cons.injEq,and_true,true_and,and_assoc,exists_and_left,List.set_cons_zero,List.set_cons_succ,Nat.reduceSub,Nat.reduceAdd,decide_eq_true_eq,Bool.not_eq_true',decide_eq_false_iff_not,Int.reduceToNat,Int.reducePow,Int.reduceNeg,Int.reduceMul,Int.reduceAdd,if_true,ite_true,Bool.false_eq_true,ite_false,if_false]
  refine ⟨_,SqL.of S.hr,_,two_at (fun k=>V.ref (X k)) hi,X i,rfl,_,_,(S.R i hi).ix,rfl,X i,rfl,A i,C,_,S.R i hi,fun H' s'=>?_⟩
  have S':=S.same s'
  cases e:overB C (goR C (W i)) with
  | false =>
    rw [if_neg (by decide)]
    exact rdp_twoE O S' hi e c1 c2 fun w H2 S2=>q i w H2 hi S2
  | true =>
    rw [if_pos rfl]
    have hj:i=0∨i=1:=by omega
    have e1:(1:Int) - (i:Nat)=((1 - i:Nat):Int):=by omega
    have hj2:1 - i < 2:=by omega
    have e2:overB C (goR C (W (1 - i)))=false:=by
      cases e3:overB C (goR C (W (1 - i))) with
      | false=>rfl
      | true=>rcases hj with rfl | rfl;exact absurd ⟨e,e3⟩ ho;exact absurd ⟨e3,e⟩ ho
    rw [e1]
    exact rdp_twoE O S' hj2 e2 c1 c2 fun w H2 S2=>q (1 - i) w H2 hj2 S2
theorem rdp_twoB {D:Ends} {l p:Addr} {ns:List Int} {m:Nat} {o6 o7:Option V} (h1:H0 l=some (.lst xs)) (h2:xs.length=C.length) (h4:H0 p=some (.lst (ns.map V.int))) (h5:0 < ns.length) (h6:ns.length≤63) (O:CoOk C) (S:TwS t H0 H rs ml hd xs C X A M W) (hm:m=(W 0).length + (W 1).length) (ho:¬ (overB C (goR C (W 0))=true∧overB C (goR C (W 1))=true)) (q:∀ c j w H',j < 2→TwS t H0 H' rs ml hd xs C X A M (putW W j w)→D.nx (st2 l p hd rs ml (m + 1) (some c) (some (.int (j:Nat)))) H') :
    rd__law_two_B K t D (st2 l p hd rs ml m o6 o7) H:=by
  simp only [rd__law_two_B,st2,sp__law_draw,tMeth,L2.start,tSeq,tAsg,gName,tRet,tDrop,tNext,tOp,tVar,tC,tCons,tNil,tIfS,tTest,tB,tCB,tCall,LenV,rIxL,rI,rI0,cLen,List.map,List.replicate,List.length,List.append,List.cons_append,List.nil_append,List.append_nil,List.getElem?_cons_zero,List.getElem?_cons_succ,Option.some.injEq,exists_eq_left',exists_eq_left,V.int.injEq,V.ref.injEq,V.str.injEq,V.bl.injEq,V.ty.injEq,List.cons.injEq,and_true,true_and,and_assoc,exists_and_left,List.set_cons_zero,List.set_cons_succ,Nat.reduceSub,Nat.reduceAdd,decide_eq_true_eq,Bool.not_eq_true',decide_eq_false_iff_not,Int.reduceToNat,Int.reducePow,Int.reduceNeg,Int.reduceMul,Int.reduceAdd,if_true,ite_true,Bool.false_eq_true,ite_false,if_false]
  have hb:(1000000000000000000000000000000000000000000000000000000000000:Int) < big:=by decide +kernel
  have P40:=pow10 (j:=40) (by decide) (by decide)
  have l0:=S.le 0 (by omega)
  have l1:=S.le 1 (by omega)
  have cl:=O.le
  have hl:=S.sm _ _ h1
  have hp:=S.sm _ _ h4
  have ln:(ns.map V.int).length=ns.length:=List.length_map ..
  obtain ⟨v0,hv0,hm0⟩:=at_mod m ns.length (xs:=ns.map V.int) ln (by omega)
  obtain ⟨i,_,rfl⟩:=List.mem_map.mp hm0
  refine ⟨xs.length,.inl ⟨_,SqL.of hl,rfl⟩,⟨⟨by omega,by omega⟩,by omega,by omega⟩,?_⟩
  rw [if_neg (by omega)]
  refine ⟨ns.length,.inl ⟨_,SqL.of hp,ln.symm⟩,by omega,_,SqL.of hp,_,hv0,P40,i,rfl,by decide,by decide,by decide,fun r H1 r0 r1 s1=>⟨by decide,?_⟩⟩
  have g1:=Int.emod_nonneg i (b:=10000000000000000000000000000000000000000) (by decide)
  have g2:=Int.emod_lt_of_pos i (b:=10000000000000000000000000000000000000000) (by decide)
  have g3:=Int.emod_nonneg r (b:=2) (by decide)
  have g4:=Int.emod_lt_of_pos r (b:=2) (by decide)
  obtain ⟨j,ej⟩:∃ j:Nat,r % 2=j:=⟨(r % 2).toNat,(Int.toNat_of_nonneg g3).symm⟩
  rw [ej]
  exact rdp_twoD O (S.same s1) (i:=j) (by omega) ho (by omega) (by omega) fun k w H2 hk S2=>q _ k w H2 hk S2
def twI (t:Adr) (H0:Hp) (rs ml hd:Addr) (xs:List V) (C:List Cs) (X:Nat→Addr) (A:Nat→RAd) (M:Nat→Addr) (l p:Addr) (v:Nat) (σ:St) (H:Hp):Prop:=∃ (W:Nat→List (Option Int)) (m:Nat) (o6 o7:Option V),σ=st2 l p hd rs ml m o6 o7∧TwS t H0 H rs ml hd xs C X A M W∧m=(W 0).length + (W 1).length∧v + m=2 * C.length
def tvI (t:Adr) (H0:Hp) (rs ml hd:Addr) (xs:List V) (C:List Cs) (X:Nat→Addr) (A:Nat→RAd) (M:Nat→Addr) (W:Nat→List (Option Int)) (l p:Addr) (m:Nat) (_:Nat) (σ:St) (H:Hp):Prop:=(∃ o6 o7 o8 o9,σ=[some (.ref l),some (.ref p),some (.ref hd),some (.ref rs),some (.ref ml),some (.int (m:Nat)),o6,o7,o8,o9])∧TwS t H0 H rs ml hd xs C X A M W
theorem rdp_two5 {l p:Addr} {m:Nat} {o6 o7:Option V} (h1:H0 l=some (.lst xs)) (h2:Paired (CsAt H0) xs C) (O:CoOk C) (hc:∀ c∈C,csP c) (S:TwS t H0 H rs ml hd xs C X A M W) (ho:∀ i,i < 2→overB C (goR C (W i))=true) (q:∀ H',Same H0 H'→Q (.bl true) H') :
    rd__law_two_5 K t { nx:=fun _ H'=>Q .non H',rt:=Q } (st2 l p hd rs ml m o6 o7) H:=by
  simp only [rd__law_two_5,st2,sp_Run_paper,sp__law_paper,sp__law_again,rEqD,tMeth,L2.start,tSeq,tAsg,gName,tRet,tNext,tOp,tVar,tC,tCons,tNil,tFor,tIfS,tOr,tNot,tTest,tB,tCB,tCall,LenV,iRng1,rIxL,rI0,cLen,List.map,List.replicate,List.length,List.append,List.cons_append,List.nil_append,List.append_nil,List.getElem?_cons_zero,List.getElem?_cons_succ,Option.some.injEq,exists_eq_left',exists_eq_left,V.int.injEq,V.ref.injEq,V.str.injEq,V.bl.injEq,V.ty.injEq,List.cons.injEq,and_true,true_and,and_assoc,exists_and_left,List.set_cons_zero,List.set_cons_succ,Nat.reduceSub,Nat.reduceAdd,decide_eq_true_eq,Bool.not_eq_true',decide_eq_false_iff_not,Int.reduceToNat,Int.reducePow,Int.reduceNeg,Int.reduceMul,Int.reduceAdd,if_true,ite_true,Bool.false_eq_true,ite_false,if_false]
  refine ⟨by decide,by decide,loop_range (tvI t H0 rs ml hd xs C X A M W l p m) ⟨⟨_,_,_,_,rfl⟩,S⟩ ?_ ?_⟩
  · rintro i σ H1 hi ⟨⟨o6,o7,o8,o9,rfl⟩,S⟩
    have hi:i < 2:=by omega
    simp only [rEqD,tMeth,L2.start,tSeq,tAsg,gName,tRet,tNext,tOp,tVar,tC,tCons,tNil,tFor,tIfS,tOr,tNot,tTest,tB,tCB,tCall,LenV,iRng1,rIxL,rI0,cLen,List.map,List.replicate,List.length,List.append,List.cons_append,List.nil_append,List.append_nil,List.getElem?_cons_zero,List.getElem?_cons_succ,Option.some.injEq,exists_eq_left',exists_eq_left,V.int.injEq,V.ref.injEq,V.str.injEq,V.bl.injEq,V.ty.injEq,List.cons.injEq,and_true,true_and,and_assoc,exists_and_left,List.set_cons_zero,List.set_cons_succ,Nat.reduceSub,Nat.reduceAdd,decide_eq_true_eq,Bool.not_eq_true',decide_eq_false_iff_not,Int.reduceToNat,Int.reducePow,Int.reduceNeg,Int.reduceMul,Int.reduceAdd,if_true,ite_true,Bool.false_eq_true,ite_false,if_false,Int.zero_add]
    have R:=S.R i hi
    have I:=path_end O (S.pk i hi)
    have l3:=I.ok.l3
    have l2:=I.ok.l2
    have le:=S.le i hi
    have cl:=O.le
    have hov:=ho i hi
    refine ⟨_,SqL.of S.hr,_,two_at (fun k=>V.ref (X k)) hi,X i,rfl,_,_,R.ix,rfl,X i,rfl,A i,C,_,R,by omega,I.ok.nd,by omega,fun H2 e=>absurd (hov.symm.trans e) (by decide),fun r o nl gl out H2 _ s2 _ _ _ hr hoc hnl hgl gi=>?_⟩
    have lg:=gi_len gi
    refine ⟨nl,gl,o,hr,_,hoc,_,hnl,out,hgl,wy_oc (wy_all C (W i)) gi,by omega,by omega,gi_rise gi,fun H3 s3=>?_⟩
    rw [if_neg (by decide)]
    have S3:=S.same (s2.trans s3)
    have lx:=Paired.length h2
    refine ⟨_,SqL.of S3.hl,_,two_at (fun k=>V.ref (M k)) hi,(W i).length,.inl ⟨_,SqL.of (S3.hm i hi),(List.length_map ..).symm⟩,xs.length,.inl ⟨_,SqL.of (S3.sm _ _ h1),rfl⟩,?_⟩
    rw [if_neg (by omega)]
    refine ⟨_,SqL.of S3.hl,_,two_at (fun k=>V.ref (M k)) hi,M i,rfl,xs,S3.sm _ _ h1,C,cs_same S3.sm h2,O,W i,S3.hm i hi,S.pk i hi,by omega,hov,fun r2 H4 s4 pp=>?_⟩
    obtain ⟨o',nl',gl',out',hr',hoc',hnl',hgl',gi'⟩:=pp
    have eo:=gi_uniq gi' gi
    subst eo
    have k4:=s3.trans s4
    obtain ⟨p1,p2⟩:=pp_plain I gi
    refine ⟨_,pp_dat hr' hoc' hnl' hgl',_,pp_dat (k4 _ _ hr) (oc_same hoc k4) (ls_same hnl k4) (ls_same hgl k4),p1,p1,p2,p2,fun b hb=>?_⟩
    rw [hb.mpr rfl]
    exact ⟨⟨_,_,_,_,rfl⟩,S3.same s4⟩
  · rintro σ H1 ⟨⟨o6,o7,o8,o9,rfl⟩,S⟩
    have pr:=cs_same S.sm h2
    have c1:=css_plain hc
    have pd2:plainD (.list (C.map csD))=true:=by rw [plainD];exact c1.1
    have dd2:(PyData.list (C.map csD)).depth≤64:=by rw [PyData.depth];omega
    exact ⟨_,rfl,_,rfl,_,.lst (SqL.of S.hh) (css_dat pr hc),_,.lst (SqL.of (S.sm _ _ h1)) (css_dat pr hc),pd2,pd2,dd2,dd2,fun b hb=>by rw [hb.mpr rfl];exact q _ S.sm⟩
theorem rdp_two4 {l p:Addr} {ns:List Int} (h1:H0 l=some (.lst xs)) (h2:Paired (CsAt H0) xs C) (O:CoOk C) (hc:∀ c∈C,csP c) (h4:H0 p=some (.lst (ns.map V.int))) (h5:0 < ns.length) (h6:ns.length≤63) (S:TwS t H0 H rs ml hd xs C X A M fun _=>[]) (q:∀ H',Same H0 H'→Q (.bl true) H') :
    rd__law_two_4 K t { nx:=fun _ H'=>Q .non H',rt:=Q } (st2 l p hd rs ml 0 none none) H:=by
  simp only [rd__law_two_4,tWhile,sp_Run_over,rEqD,tMeth,L2.start,tSeq,tAsg,gName,tRet,tDrop,tNext,tOp,tVar,tC,tCons,tNil,tFor,tIfS,tAnd,tOr,tNot,tTest,tB,tCB,tCall,LenV,iRng1,rIxL,rI,rI0,cLen,List.map,List.replicate,List.length,List.append,List.cons_append,List.nil_append,List.append_nil,List.getElem?_cons_zero,List.getElem?_cons_succ,Option.some.injEq,exists_eq_left',exists_eq_left,V.int.injEq,V.ref.injEq,V.str.injEq,V.bl.injEq,V.ty.injEq,List.cons.injEq,and_true,true_and,and_assoc,exists_and_left,List.set_cons_zero,List.set_cons_succ,Nat.reduceSub,Nat.reduceAdd,decide_eq_true_eq,Bool.not_eq_true',decide_eq_false_iff_not,Int.reduceToNat,Int.reducePow,Int.reduceNeg,Int.reduceMul,Int.reduceAdd,if_true,ite_true,Bool.false_eq_true,ite_false,if_false]
  refine ⟨twI t H0 rs ml hd xs C X A M l p,⟨2 * C.length,_,0,_,_,rfl,S,rfl,rfl⟩,?_⟩
  rintro v σ H1 ⟨W,m,o6,o7,rfl,S,hm,hv⟩
  simp only [st2,rEqD,tMeth,L2.start,tSeq,tAsg,gName,tRet,tDrop,tNext,tOp,tVar,tC,tCons,tNil,tFor,tIfS,tAnd,tOr,tNot,tTest,tB,tCB,tCall,LenV,iRng1,rIxL,rI,rI0,cLen,List.map,List.replicate,List.length,List.append,List.cons_append,List.nil_append,List.append_nil,List.getElem?_cons_zero,List.getElem?_cons_succ,Option.some.injEq,exists_eq_left',exists_eq_left,V.int.injEq,V.ref.injEq,V.str.injEq,V.bl.injEq,V.ty.injEq,List.cons.injEq,and_true,true_and,and_assoc,exists_and_left,List.set_cons_zero,List.set_cons_succ,Nat.reduceSub,Nat.reduceAdd,decide_eq_true_eq,Bool.not_eq_true',decide_eq_false_iff_not,Int.reduceToNat,Int.reducePow,Int.reduceNeg,Int.reduceMul,Int.reduceAdd,if_true,ite_true,Bool.false_eq_true,ite_false,if_false]
  have R0:=S.R 0 (by omega)
  have body:∀ H2,Same H1 H2→¬ (overB C (goR C (W 0))=true∧overB C (goR C (W 1))=true)→∃ N:St→Hp→Prop,(∀ σ' H',N σ' H'→∃ m',m' < v∧twI t H0 rs ml hd xs C X A M l p m' σ' H')∧rd__law_two_B K t { nx:=N,rt:=Q,bk:=rd__law_two_5 K t { nx:=fun x H'=>Q V.non H',rt:=Q },ct:=N } (st2 l p hd rs ml m o6 o7) H2:=fun H2 s2 ho=>by
    have l0:=S.le 0 (by omega)
    have l1:=S.le 1 (by omega)
    have lt:m < 2 * C.length:=by
      have:=fun i (hi:i < 2)=>S.lt O hi
      by_cases e0:overB C (goR C (W 0))=true
      · have:=this 1 (by omega) (by cases e:overB C (goR C (W 1)) with | false=>rfl | true=>exact absurd ⟨e0,e⟩ ho)
        omega
      · have:=this 0 (by omega) (by simpa using e0)
        omega
    refine ⟨twI t H0 rs ml hd xs C X A M l p (v - 1),fun σ' H' z=>⟨v - 1,by omega,z⟩,?_⟩
    exact rdp_twoB h1 (Paired.length h2) h4 h5 h6 O (S.same s2) hm ho fun c j w H3 hj S3=>⟨putW W j w,m + 1,some c,some (.int (j:Nat)),rfl,S3,by rw [putW_sum hj,hm],by omega⟩
  refine ⟨_,SqL.of S.hr,_,rfl,X 0,rfl,_,_,R0.ix,rfl,X 0,rfl,A 0,C,_,R0,fun H2 s2=>?_⟩
  have S2:=S.same s2
  cases e0:overB C (goR C (W 0)) with
  | false =>
    rw [if_neg (by decide)]
    exact body H2 s2 (fun z=>by rw [e0] at z;exact absurd z.1 (by decide))
  | true =>
    rw [if_pos rfl]
    have R1:=S2.R 1 (by omega)
    refine ⟨_,SqL.of S2.hr,_,rfl,X 1,rfl,_,_,R1.ix,rfl,X 1,rfl,A 1,C,_,R1,fun H3 s3=>?_⟩
    cases e1:overB C (goR C (W 1)) with
    | false =>
      rw [if_pos rfl]
      exact body H3 (s2.trans s3) (fun z=>by rw [e1] at z;exact absurd z.2 (by decide))
    | true =>
      rw [if_neg (by decide)]
      exact rdp_two5 h1 h2 O hc (S2.same s3) (fun i hi=>by
        have:i=0∨i=1:=by omega
        rcases this with rfl | rfl
        · exact e0
        · exact e1) q
def two {α:Type} (a b:α):Nat→α
  | 0=>a
  | _=>b
theorem all2 {P:Nat→Prop} (h0:P 0) (h1:P 1):∀ i,i < 2→P i:=fun i hi=>by
  have:i=0∨i=1:=by omega
  rcases this with rfl | rfl
  · exact h0
  · exact h1
theorem RnAt.has {x b:Addr} {a:RAd} {s:RSt} (R:RnAt t H x a C s) (ow:OwA x a b):H b≠none:=by
  obtain ⟨ys,hy,_⟩:=R.hc
  rcases ow with (z | z | z | z | z) | z
  · rw [z,R.ix];exact fun z=>nomatch z
  · rw [z,R.hs];exact fun z=>nomatch z
  · rw [z,R.hg];exact fun z=>nomatch z
  · rw [z,R.hn];exact fun z=>nomatch z
  · rw [z,R.ha];exact fun z=>nomatch z
  · rw [z,hy];exact fun z=>nomatch z
theorem rdp__law_two {l p:Addr} {ns:List Int} (h1:H l=some (.lst xs)) (h2:Paired (CsAt H) xs C) (O:CoOk C) (hc:∀ c∈C,csP c) (h4:H p=some (.lst (ns.map V.int))) (h5:0 < ns.length) (h6:ns.length≤63) (q:∀ H',Same H H'→Q (.bl true) H') :
    rd__law_two K t { nx:=fun _ H'=>Q .non H',rt:=Q } (L2.start ["code","cells","handed","runs","made","turn","cell","which","k","paper"] [.ref l,.ref p]) H:=by
  simp only [rd__law_two,sp_Run_init,rEqD,tMeth,tMake,L2.start,cLst,tSeq,tAsg,gName,tRet,tDrop,tNext,tOp,tVar,tC,tLst,tCons,tNil,tFor,tIfS,tAnd,tOr,tNot,tTest,tB,tCB,tCall,LenV,iRng1,rIxL,rI,rI0,cLen,List.map,List.replicate,List.length,List.append,List.cons_append,List.nil_append,List.append_nil,List.getElem?_cons_zero,List.getElem?_cons_succ,Option.some.injEq,exists_eq_left',exists_eq_left,V.int.injEq,V.ref.injEq,V.str.injEq,V.bl.injEq,V.ty.injEq,List.cons.injEq,and_true,true_and,and_assoc,exists_and_left,List.set_cons_zero,List.set_cons_succ,Nat.reduceSub,Nat.reduceAdd,decide_eq_true_eq,Bool.not_eq_true',decide_eq_false_iff_not,Int.reduceToNat,Int.reducePow,Int.reduceNeg,Int.reduceMul,Int.reduceAdd,if_true,ite_true,Bool.false_eq_true,ite_false,if_false]
  refine ⟨xs,.inl (SqL.of h1),fun hd hhd x0 dx0 hx0 hdx0 _=>?_⟩
  have s1:=isV (o:=HO.lst xs) hd hhd
  have hh1:upd H hd (HO.lst xs) hd=some (.lst xs):=upd_same
  generalize upd H hd (HO.lst xs)=H1 at *
  have s2:Same H1 (upd (upd H1 dx0 (HO.own x0)) x0 (HO.ins t.c_Run dx0 [])):=fun b o e=>by rw [upd_ne (ne_of_none e hx0),upd_ne (ne_of_none e hdx0)];exact e
  refine ⟨_,upd_same,_,s2 _ _ hh1,C,cs_same (s1.trans s2) h2,fun H3 a0 k3 R0 fr0=>?_⟩
  obtain ⟨s3,fr0⟩:=mk_run s1 hx0 hdx0 k3 fr0
  have S3:=s1.trans s3
  have hh3:=s3 _ _ hh1
  intro x1 dx1 hx1 hdx1 _
  have s4:Same H3 (upd (upd H3 dx1 (HO.own x1)) x1 (HO.ins t.c_Run dx1 [])):=fun b o e=>by rw [upd_ne (ne_of_none e hx1),upd_ne (ne_of_none e hdx1)];exact e
  refine ⟨_,upd_same,_,s4 _ _ hh3,C,cs_same (S3.trans s4) h2,fun H5 a1 k5 R1 fr1=>?_⟩
  obtain ⟨s5,fr1⟩:=mk_run S3 hx1 hdx1 k5 fr1
  have S5:=S3.trans s5
  have hh5:=s5 _ _ hh3
  have R05:=R0.same s5
  refine ⟨by decide,fun rs hrs=>⟨by decide,fun m0 hm0=>⟨by decide,fun m1 hm1=>⟨by decide,fun ml hml=>?_⟩⟩⟩⟩
  have s6:=isV (o:=HO.lst [V.ref x0,V.ref x1]) rs hrs
  have e6:upd H5 rs (HO.lst [V.ref x0,V.ref x1]) rs=some (.lst [.ref x0,.ref x1]):=upd_same
  generalize upd H5 rs (HO.lst [V.ref x0,V.ref x1])=H6 at *
  have s7:=isV (o:=HO.lst []) m0 hm0
  have e7:upd H6 m0 (HO.lst []) m0=some (.lst []):=upd_same
  generalize upd H6 m0 (HO.lst [])=H7 at *
  have s8:=isV (o:=HO.lst []) m1 hm1
  have e8:upd H7 m1 (HO.lst []) m1=some (.lst []):=upd_same
  generalize upd H7 m1 (HO.lst [])=H8 at *
  have s9:=isV (o:=HO.lst [V.ref m0,V.ref m1]) ml hml
  have e9:upd H8 ml (HO.lst [V.ref m0,V.ref m1]) ml=some (.lst [.ref m0,.ref m1]):=upd_same
  generalize upd H8 ml (HO.lst [V.ref m0,V.ref m1])=H9 at *
  have T59:=s6.trans (s7.trans (s8.trans s9))
  have n60:=fresh_of s6 hm0
  have n61:=fresh_of (s6.trans s7) hm1
  have n6l:=fresh_of (s6.trans (s7.trans s8)) hml
  have nn:∀ {b:Addr},H5 b=none→¬ OwA x0 a0 b∧¬ OwA x1 a1 b:=fun h=>⟨fun z=>R05.has z h,fun z=>R1.has z h⟩
  have fo1:∀ b,OwA x0 a0 b→¬ OwA x1 a1 b:=fun b z w=>R0.has z (fr1 b w)
  have nh0:¬ OwA x0 a0 hd:=fun z=>by have:=fr0 _ z;rw [hh1] at this;cases this
  have nh1:¬ OwA x1 a1 hd:=fun z=>by have:=fr1 _ z;rw [hh3] at this;cases this
  refine rdp_two4 (X:=two x0 x1) (A:=two a0 a1) (M:=two m0 m1) h1 h2 O hc h4 h5 h6 ⟨S5.trans T59,all2 (R05.same T59) (R1.same T59),all2 ((s8.trans s9) _ _ e7) (s9 _ _ e8),all2 (path_nil C) (path_nil C),all2 (Nat.zero_le _) (Nat.zero_le _),(s7.trans (s8.trans s9)) _ _ e6,e9,T59 _ _ hh5,?_,?_,?_,?_,?_,?_,?_⟩ q
  · intro i j b hi hj hn
    have ci:i=0∨i=1:=by omega
    have cj:j=0∨j=1:=by omega
    rcases ci with rfl | rfl <;> rcases cj with rfl | rfl
    · exact absurd rfl hn
    · exact fun z w=>fo1 b (.inl z) w
    · exact fun z w=>fo1 b w (.inl z)
    · exact absurd rfl hn
  · intro i j hi hj
    have ci:i=0∨i=1:=by omega
    have cj:j=0∨j=1:=by omega
    rcases ci with rfl | rfl <;> rcases cj with rfl | rfl
    · exact (nn n60).1
    · exact (nn n61).1
    · exact (nn n60).2
    · exact (nn n61).2
  · intro i j hi hj hn
    have n01:m1≠m0:=ne_of_none' e7 hm1
    have ci:i=0∨i=1:=by omega
    have cj:j=0∨j=1:=by omega
    rcases ci with rfl | rfl <;> rcases cj with rfl | rfl
    · exact absurd rfl hn
    · exact Ne.symm n01
    · exact n01
    · exact absurd rfl hn
  · exact all2 ⟨fun z=>(nn hrs).1 (.inl z),fun z=>(nn n6l).1 (.inl z),fun z=>nh0 (.inl z)⟩ ⟨fun z=>(nn hrs).2 (.inl z),fun z=>(nn n6l).2 (.inl z),fun z=>nh1 (.inl z)⟩
  · exact all2 ⟨Ne.symm (ne_of_none' e6 hm0),ne_of_none' (s8 _ _ e7) hml,Ne.symm (ne_of_none' hh5 n60)⟩ ⟨Ne.symm (ne_of_none' (s7 _ _ e6) hm1),ne_of_none' e8 hml,Ne.symm (ne_of_none' hh5 n61)⟩
  · exact all2 (fun b z=>fresh_of s1 (fr0 b (.inl z))) (fun b z=>fresh_of S3 (fr1 b (.inl z)))
  · exact all2 (fresh_of S5 n60) (fresh_of S5 n61)
end
theorem cut_one (ns:List Int) (lo hi:Option Int):∃ ys:List Int,cutV (ns.map V.int) lo hi=ys.map V.int∧ys.length≤ns.length:=by
  refine ⟨(ns.drop (HT.sIx ns.length 0 lo)).take (HT.sIx ns.length ns.length hi - HT.sIx ns.length 0 lo),?_,?_⟩
  · unfold cutV
    rw [List.map_take,List.map_drop,List.length_map]
  · rw [List.length_take,List.length_drop];omega
theorem loop_range3 {σ:St} {H:Hp} {nx:St→Hp→Prop} {B:V→St→Hp→(St→Hp→Prop)→Prop} {lo c:Int} {n:Nat} (Pv:Nat→St→Hp→Prop) (h0:Pv 0 σ H) (hs:∀ i σ H,i < n→Pv i σ H→B (.int (lo + i * c)) σ H (Pv (i + 1))) (hd:∀ σ H,Pv n σ H→nx σ H) :
    ∃ W:Nat→Nat→St→Hp→Prop,(∃ m,W 0 m σ H)∧∀ i m σ H,W i m σ H→((Itr3 lo c n).stop i H∧nx σ H)∨((Itr3 lo c n).go i H∧∃ N:St→Hp→Prop,(∀ σ' H',N σ' H'→∃ m',m' < m∧W (i + 1) m' σ' H')∧∀ x H',(Itr3 lo c n).yld i H x H'→B x σ H' N):=by
  refine ⟨fun i m σ H=>m=n - i∧i≤n∧Pv i σ H,⟨n,by simp,Nat.zero_le _,h0⟩,?_⟩
  rintro i m σ H ⟨rfl,hi,p⟩
  by_cases hlt:i < n
  · refine .inr ⟨hlt,Pv (i + 1),fun σ' H' p'=>⟨n - (i + 1),by omega,rfl,hlt,p'⟩,?_⟩
    rintro x H' ⟨rfl,rfl⟩
    exact hs i σ _ hlt p
  · obtain rfl:i=n:=by omega
    exact .inl ⟨Nat.le_refl _,hd σ H p⟩
theorem cnt_lt {i:Nat} {j c:Int} (hj:0≤j) (hc:0 < c) (h:i < cntR 0 j c):(i:Int) * c < j:=by
  unfold cntR at h
  split at h
  · have h2:(i:Int)≤(j - 0 - 1) / c:=by omega
    have h3:=(Int.le_ediv_iff_mul_le hc).mp h2
    omega
  · omega
theorem cut_two (ns:List Int) (k m:Nat) (hk:k < ns.length) (hm:1≤m):∃ ys:List Int,cutV (ns.map V.int) (some (k:Int)) (some ((k + m:Nat):Int))=ys.map V.int∧ys.length≤m∧0 < ys.length:=by
  refine ⟨(ns.drop k).take m,?_,?_,?_⟩
  · unfold cutV
    rw [List.length_map,HT.sIx_nat,HT.sIx_nat,List.map_take,List.map_drop,Nat.min_eq_left (by omega:k≤ns.length)]
    by_cases c:k + m≤ns.length
    · rw [Nat.min_eq_left c,Nat.add_sub_cancel_left]
    · rw [Nat.min_eq_right (by omega)]
      rw [List.take_of_length_le (by simp),List.take_of_length_le (by simp;omega)]
  · rw [List.length_take];omega
  · rw [List.length_take,List.length_drop];omega
def lwI (a sa sb cl:Addr) (mn:Int) (H:Hp) (i:Nat) (σ:St) (H':Hp):Prop:=(∃ o5 o6 o7,σ=[some (.ref a),some (.ref sa),some (.ref sb),some (.int mn),some (.ref cl),o5,o6,o7])∧Same H H'
theorem rdp_law5 {σ:St} (q:∀ H',Q (.bl true) H'):rd_law_5 K t { nx:=fun _ H'=>Q .non H',rt:=Q } σ H:=by
  simp only [rd_law_5,sp_Run_init,sp_Run_over,sp_Run_step,tMeth,tMake,L2.start,tRet,tOp,tC,tLst,tCons,tNil,tAndV,rIsB,rIsN,List.map,List.replicate,List.length,List.append,List.cons_append,List.nil_append,List.append_nil,List.getElem?_cons_zero,List.getElem?_cons_succ,Option.some.injEq,exists_eq_left',exists_eq_left,V.int.injEq,V.ref.injEq,V.str.injEq,V.bl.injEq,V.ty.injEq,List.cons.injEq,and_true,true_and,and_assoc,exists_and_left,List.set_cons_zero,List.set_cons_succ,Nat.reduceSub,Nat.reduceAdd,decide_eq_true_eq,Bool.not_eq_true',decide_eq_false_iff_not,Int.reduceToNat,Int.reducePow,Int.reduceNeg,Int.reduceMul,Int.reduceAdd,if_true,ite_true,Bool.false_eq_true,ite_false,if_false]
  refine ⟨by decide,fun l hl x dx hx hdx nxd=>?_⟩
  have s1:=isV (o:=HO.lst []) l hl
  have hl1:upd H l (HO.lst []) l=some (.lst []):=upd_same
  generalize upd H l (HO.lst [])=H1 at *
  have s2:Same H1 (upd (upd H1 dx (HO.own x)) x (HO.ins t.c_Run dx [])):=fun b o e=>by rw [upd_ne (ne_of_none e hx),upd_ne (ne_of_none e hdx)];exact e
  refine ⟨_,upd_same,_,s2 _ _ hl1,[],.nil,fun H3 a k3 R3 fr=>⟨_,_,R3.ix,rfl,a,[],st0,R3,fun H4 s4=>?_⟩⟩
  rw [if_pos (by decide)]
  refine ⟨by decide,fun l hl x dx hx hdx nxd=>?_⟩
  have s1:=isV (o:=HO.lst []) l hl
  have hl1:upd H4 l (HO.lst []) l=some (.lst []):=upd_same
  generalize upd H4 l (HO.lst [])=H1 at *
  have s2:Same H1 (upd (upd H1 dx (HO.own x)) x (HO.ins t.c_Run dx [])):=fun b o e=>by rw [upd_ne (ne_of_none e hx),upd_ne (ne_of_none e hdx)];exact e
  exact ⟨_,upd_same,_,s2 _ _ hl1,[],.nil,fun H3 a k3 R3 fr=>⟨_,_,R3.ix,rfl,0,a,[],st0,R3,(fun c hc=>nomatch hc),(rn0 []).ok,by decide,fun H4 k4 R4=>q _⟩⟩
theorem rdp_law4 {a sa sb cl:Addr} {mn:Int} {cs:List Int} {ws us:List Str} (n1:NamesAt H sa ws) (n2:ws.length=2) (n3:NamesAt H sb us) (n4:us.length=2) (hc:H cl=some (.lst (cs.map V.int))) (lc:cs.length≤63) (m1:1≤mn) (m2:mn≤8) (q:∀ H',Q (.bl true) H') :
    rd_law_4 K t { nx:=fun _ H'=>Q .non H',rt:=Q } [some (.ref a),some (.ref sa),some (.ref sb),some (.int mn),some (.ref cl),none,none,none] H:=by
  simp only [rd_law_4,sp__law_rows,sp_code_of,sp__law_leads_on,sp__law_two,tMeth,tMake,iRng3,L2.start,tSeq,tAsg,gName,tRet,tNext,tOp,tVar,tC,tLst,tCons,tNil,tFor,tIfS,tOr,tNot,tB,tAndV,tCB,tSl,tPart,tCall,LenV,rI0,rSlL,rIsB,rIsN,cLen,List.map,List.replicate,List.length,List.append,List.cons_append,List.nil_append,List.append_nil,List.getElem?_cons_zero,List.getElem?_cons_succ,Option.some.injEq,exists_eq_left',exists_eq_left,V.int.injEq,V.ref.injEq,V.str.injEq,V.bl.injEq,V.ty.injEq,List.cons.injEq,and_true,true_and,and_assoc,exists_and_left,List.set_cons_zero,List.set_cons_succ,Nat.reduceSub,Nat.reduceAdd,decide_eq_true_eq,Bool.not_eq_true',decide_eq_false_iff_not,Int.reduceToNat,Int.reducePow,Int.reduceNeg,Int.reduceMul,Int.reduceAdd,if_true,ite_true,Bool.false_eq_true,ite_false,if_false]
  have lm:(cs.map V.int).length=cs.length:=List.length_map ..
  refine ⟨cs.length,.inl ⟨_,SqL.of hc,by rw [lm]⟩,by omega,by omega,by omega,by omega,by omega,by omega,loop_range3 (lwI a sa sb cl mn H) ⟨⟨_,_,_,rfl⟩,Same.refl H⟩ ?_ ?_⟩
  · rintro i σ H1 hi ⟨⟨o5,o6,o7,rfl⟩,s1⟩
    simp only [tMeth,tMake,iRng3,L2.start,tSeq,tAsg,gName,tRet,tNext,tOp,tVar,tC,tLst,tCons,tNil,tFor,tIfS,tOr,tNot,tB,tAndV,tCB,tSl,tPart,tCall,LenV,rI0,rSlL,rIsB,rIsN,cLen,List.map,List.replicate,List.length,List.append,List.cons_append,List.nil_append,List.append_nil,List.getElem?_cons_zero,List.getElem?_cons_succ,Option.some.injEq,exists_eq_left',exists_eq_left,V.int.injEq,V.ref.injEq,V.str.injEq,V.bl.injEq,V.ty.injEq,List.cons.injEq,and_true,true_and,and_assoc,exists_and_left,List.set_cons_zero,List.set_cons_succ,Nat.reduceSub,Nat.reduceAdd,decide_eq_true_eq,Bool.not_eq_true',decide_eq_false_iff_not,Int.reduceToNat,Int.reducePow,Int.reduceNeg,Int.reduceMul,Int.reduceAdd,if_true,ite_true,Bool.false_eq_true,ite_false,if_false,Int.zero_add]
    refine ⟨_,SqL.of (s1 _ _ hc),fun p hp=>?_⟩
    have lt:=cnt_lt (by omega) (by omega) hi
    have im:0≤(i:Int) * mn:=Int.mul_nonneg (by omega) (by omega)
    obtain ⟨k,ek⟩:∃ k:Nat,(i:Int) * mn=k:=⟨((i:Int) * mn).toNat,(Int.toNat_of_nonneg im).symm⟩
    obtain ⟨m,em⟩:∃ m:Nat,mn=m:=⟨mn.toNat,by omega⟩
    obtain ⟨es,ee,le,pe⟩:=cut_two cs k m (by omega) (by omega)
    have e2:(i:Int) * mn + mn=((k + m:Nat):Int):=by rw [ek,em];omega
    rw [e2,ek,ee]
    have s2:=isV (o:=HO.lst (es.map V.int)) p hp
    have S2:=s1.trans s2
    have hp2:upd H1 p (HO.lst (es.map V.int)) p=some (.lst (es.map V.int)):=upd_same
    refine ⟨es,hp2,by omega,ws,n1.same S2,n2,us,n3.same S2,n4,fun v r H3 s3 hv ok rk lr=>?_⟩
    refine ⟨r,hv.any,ok,by omega,fun l xs H4 s4 fl hl pr=>?_⟩
    have O:=co_ok ok rk lr
    refine ⟨xs,hl,_,pr,O,fun H5 s5=>?_⟩
    rw [if_neg (by decide)]
    refine ⟨xs,s5 _ _ hl,_,cs_same s5 pr,O,codes_pl r 0 ok.pl,es,(s3.trans (s4.trans s5)) _ _ hp2,pe,by omega,fun H6 s6=>?_⟩
    rw [if_neg (by decide)]
    exact ⟨⟨_,_,_,rfl⟩,S2.trans (s3.trans (s4.trans (s5.trans s6)))⟩
  · rintro σ H1 ⟨⟨o5,o6,o7,rfl⟩,s1⟩
    exact rdp_law5 q
theorem rdp_law {a:Addr} {ns:List Int} (hS:SqL K H a (ns.map V.int)) (hn:ns.length≤63) (q:∀ H',Q (.bl true) H') :
    rd_law K t { nx:=fun _ H'=>Q .non H',rt:=Q } (L2.start ["script","slots","shelves","many","cells","at","part","code"] [.ref a]) H:=by
  simp only [rd_law,rd_law_3,sp__law_cell_at,sp__law_draw,sp__law_names,tMeth,tMake,iRng3,L2.start,tSeq,tAsg,gName,tRet,tNext,tOp,tVar,tC,tLst,tCons,tNil,tFor,tIfS,tOr,tNot,tB,tAndV,tCB,tSl,tPart,tNoPart,tCall,LenV,rI,rI0,rSlL,rIsB,rIsN,cLen,List.map,List.replicate,List.length,List.append,List.cons_append,List.nil_append,List.append_nil,List.getElem?_cons_zero,List.getElem?_cons_succ,Option.some.injEq,exists_eq_left',exists_eq_left,V.int.injEq,V.ref.injEq,V.str.injEq,V.bl.injEq,V.ty.injEq,List.cons.injEq,and_true,true_and,and_assoc,exists_and_left,List.set_cons_zero,List.set_cons_succ,Nat.reduceSub,Nat.reduceAdd,decide_eq_true_eq,Bool.not_eq_true',decide_eq_false_iff_not,Int.reduceToNat,Int.reducePow,Int.reduceNeg,Int.reduceMul,Int.reduceAdd,if_true,ite_true,Bool.false_eq_true,ite_false,if_false]
  refine ⟨ns,0,rfl,hS,hn,fun c1 H1 s1=>⟨by decide,by decide,fun sa ws H2 s2 n1 n2=>⟨ns,1,rfl,hS.mono (s1.trans s2),hn,fun c2 H3 s3=>⟨by decide,by decide,fun sb us H4 s4 n3 n4=>?_⟩⟩⟩⟩
  have S4:=s1.trans (s2.trans (s3.trans s4))
  refine ⟨ns,0,rfl,hS.mono S4,hn,fun c3 H5 s5=>⟨by decide,by decide,fun r H6 a6 b6 s6=>⟨by decide,_,hS.mono (S4.trans (s5.trans s6)),fun p hp=>?_⟩⟩⟩
  obtain ⟨cs,ec,lc⟩:=cut_one ns none (some 240)
  rw [ec]
  have s7:=isV (o:=HO.lst (cs.map V.int)) p hp
  have g1:=Int.emod_nonneg r (b:=8) (by decide)
  have g2:=Int.emod_lt_of_pos r (b:=8) (by decide)
  exact rdp_law4 (n1.same (s3.trans (s4.trans (s5.trans (s6.trans s7))))) (by omega) (n3.same (s5.trans (s6.trans s7))) (by omega) upd_same (by omega) (by omega) (by omega) q
end
section
variable {P:Program} {w:World} {K:PySem.W.Frag} {mg:Str→Option Value} {base:Heap} {t:Adr}
theorem ok__law_draw (T:Txt K mg t):FnOk P w K mg base (CX1 P w) 1 t.a__law_draw t.d__law_draw ["cell","j"] (sp__law_draw):=by
  refine T.f__law_draw.ok0 sc__law_draw (fun vs H Q E h=>?_) (fun cdv A outer s H vs Q E hr h=>?_)
  · obtain ⟨c,j,rfl,_⟩:=h;rfl
  obtain ⟨c,j,rfl,h1,h2,q⟩:=h
  exact ⟨rd__law_draw K t,(pss_cons (ps_set (i:=2) sc__law_draw.nd rfl (Or.inl rfl) (pe_op op_mod (pe_op op_add (pe_op op_mulB (pe_op op_mod (pv 0) (pe_int (i:=1000000007))) (pe_int (i:=6700417))) (pe_op op_mulB (pe_op op_mulB (pe_op op_add (pv 1) (pe_int (i:=1))) (pe_int (i:=104729))) (pe_int (i:=65537)))) (pe_int (i:=1000000009))))
    (pss_one (ps_ret (pe_op op_fdivB (pe_op op_mod (pe_op op_mulB (pe_op op_mod (pe_op op_mulB (pv 2) (pv 2)) (pe_int (i:=1000000009))) (pv 2)) (pe_int (i:=1000000009))) (pe_int (i:=32)))))),rdp__law_draw h1 h2 q⟩
theorem ok__law_names (T:Txt K mg t):FnOk P w K mg base (CX1 P w) 2 t.a__law_names t.d__law_names ["cell","many"] (sp__law_names):=by
  refine T.f__law_names.ok0 sc__law_names (fun vs H Q E h=>?_) (fun cdv A outer s H vs Q E hr h=>?_)
  · obtain ⟨c,m,rfl,_⟩:=h;rfl
  obtain ⟨c,m,rfl,h1,h2,q⟩:=h
  exact ⟨rd__law_names K t,(pss_cons (ps_set (i:=2) sc__law_names.nd rfl (Or.inl rfl) (pe_op op_add (pe_int (i:=1)) (pe_op op_mod (pe_call (FnOk.mono (ok__law_draw T) (by decide)) hr rfl T.m__law_draw T.f__law_draw.kp T.b__law_draw .nil pass10 (pa_cons (pv 0) (pa_cons (pe_int (i:=1)) pa_nil))) (pe_int (i:=6)))))
    (pss_cons (ps_set (i:=3) sc__law_names.nd rfl (Or.inr rfl) (pe_str (x:="zyxwvtsrqpnmlkjhgfdcb")))
    (pss_cons (ps_if (pt_cmpR op_eq (pv 2) (pe_int (i:=6)) (nomark _)) (pss_one (ps_set (i:=3) sc__law_names.nd rfl (Or.inr rfl) (pe_str (x:="zyxwvutsrqponmlkjihgfedcba"))))
      pss_nil)
    (pss_cons (ps_set (i:=4) sc__law_names.nd rfl (Or.inr rfl) (pe_str (x:="")))
    (pss_cons (ps_for PassesOwn.never rfl (pi_range1 rfl T.b_range (pa_cons (pv 2) pa_nil)) (pg_name (i:=5) sc__law_names.nd rfl (Or.inl rfl)) (pss_one (ps_set (i:=4) sc__law_names.nd rfl (Or.inr rfl) (pe_op op_add_str (pv 4) (pe_ix ix_str (pv 3) (pe_op op_mod (pe_call (FnOk.mono (ok__law_draw T) (by decide)) hr rfl T.m__law_draw T.f__law_draw.kp T.b__law_draw .nil pass10 (pa_cons (pv 0) (pa_cons (pe_op op_add (pe_int (i:=2)) (pv 5)) pa_nil))) (pe_callB call_len rfl T.b_len bt_len (pa_cons (pv 3) pa_nil))) (fun _ _=>rfl))))))
    (pss_cons (ps_set (i:=6) sc__law_names.nd rfl (Or.inr rfl) (pe_op op_mod (pe_call (FnOk.mono (ok__law_draw T) (by decide)) hr rfl T.m__law_draw T.f__law_draw.kp T.b__law_draw .nil pass10 (pa_cons (pv 0) (pa_cons (pe_int (i:=8)) pa_nil))) (pv 2)))
    (pss_cons (ps_set (i:=7) sc__law_names.nd rfl (Or.inl rfl) (pe_op op_mod (pe_call (FnOk.mono (ok__law_draw T) (by decide)) hr rfl T.m__law_draw T.f__law_draw.kp T.b__law_draw .nil pass10 (pa_cons (pv 0) (pa_cons (pe_int (i:=9)) pa_nil))) (pe_callB call_len rfl T.b_len bt_len (pa_cons (pv 3) pa_nil))))
    (pss_cons (ps_set (i:=3) sc__law_names.nd rfl (Or.inr rfl) (pe_op op_add_str (pe_slice sl_str (pv 3) (po_some (pv 7)) po_none) (pe_slice sl_str (pv 3) po_none (po_some (pv 7)))))
    (pss_one (ps_ret (pe_comp rfl (osc:=defScope s__law_names) (N:=["cell","many","size","signs","stem","k","at","turn"]) (xs:=["k"]) (ix:=[4,6,3]) (by decide +kernel) (pi_range1 rfl T.b_range (pa_cons (pv 1) pa_nil)) (fun _ _ _ _=>(pg_name (i:=0) (show List.Nodup (["k","stem","at","signs"]:List Str) from (by decide +kernel)) rfl (Or.inl rfl) (.inr rfl))) (fun _ _ _ _=>pts_nil) (fun _ _ _ _=>(pe_op op_add_str (pe_op op_add_str (pe_slice sl_str (pv 1) po_none (po_some (pv 2))) (pe_ix ix_str (pv 3) (pv 0) (fun _ _=>rfl))) (pe_slice sl_str (pv 1) (po_some (pe_op op_add (pv 2) (pe_int (i:=1)))) po_none)))))))))))))),rdp__law_names h1 h2 q⟩
theorem ok__law_cell_at (T:Txt K mg t):FnOk P w K mg base (CX1 P w) 1 t.a__law_cell_at t.d__law_cell_at ["script","k"] (sp__law_cell_at K):=by
  refine T.f__law_cell_at.ok0 sc__law_cell_at (fun vs H Q E h=>?_) (fun cdv A outer s H vs Q E hr h=>?_)
  · obtain ⟨a,ns,k,rfl,_⟩:=h;rfl
  obtain ⟨a,ns,k,rfl,hS,hl,q⟩:=h
  exact ⟨rd__law_cell_at K t,(pss_cons (ps_if (pt_cmpR op_lt (pv 1) (pe_callB call_len rfl T.b_len bt_len (pa_cons (pv 0) pa_nil)) (nomark _)) (pss_one (ps_ret (pe_ix ix_list (pv 0) (pv 1) (fun _ _=>rfl))))
      pss_nil)
    (pss_one (ps_ret (pe_int (i:=0))))),rdp__law_cell_at hS hl q⟩
theorem ok_block_steps (T:Txt K mg t) (n:Nat) (IH:FnOk P w K mg base (CX1 P w) (2 + 2 * n) t.a_steps_of t.d_steps_of ["rows","first"] (sp_steps_of n)):FnOk P w K mg base (CX1 P w) (2 + 2 * n + 1) t.a_block_steps t.d_block_steps ["row","at"] (sp_block_steps n):=by
  refine T.f_block_steps.ok0 sc_block_steps (k:=2 + 2 * n) (fun vs H Q E h=>?_) (fun cdv A outer s H vs Q E hr h=>?_)
  · obtain ⟨v,e,a,b,k,rfl,_⟩:=h;rfl
  obtain ⟨v,e,a,b,k,rfl,h1,h2,h3,h4,q⟩:=h
  exact ⟨rd_block_steps K t n,(pss_cons (ps_set (i:=2) sc_block_steps.nd rfl (Or.inl rfl) (pe_call (FnOk.mono IH (by omega)) hr rfl T.m_steps_of T.f_steps_of.kp T.b_steps_of .nil pass10 (pa_cons (pe_ix ix_tup (pv 0) (pe_int (i:=2)) (fun _ _=>rfl)) (pa_cons (pe_op op_add (pv 1) (pe_int (i:=1))) pa_nil))))
    (pss_cons (ps_set (i:=3) sc_block_steps.nd rfl (Or.inl rfl) (pe_op op_add (pe_op op_add (pv 1) (pe_int (i:=1))) (pe_callB call_len rfl T.b_len bt_len (pa_cons (pv 2) pa_nil))))
    (pss_cons (ps_if (pt_cmpR (op_eqNil (hu64 hr)) (pe_ix ix_tup (pv 0) (pe_int (i:=3)) (fun _ _=>rfl)) (pe_lst pa_nil) (nomark _)) (pss_one (ps_ret (pe_op op_cat (pe_lst (pa_cons (pe_tup (pa_cons (pe_str (x:="skip")) (pa_cons (pe_ix ix_tup (pv 0) (pe_int (i:=1)) (fun _ _=>rfl)) (pa_cons (pv 3) pa_nil)))) pa_nil)) (pv 2))))
      pss_nil)
    (pss_cons (ps_set (i:=4) sc_block_steps.nd rfl (Or.inl rfl) (pe_call (FnOk.mono IH (by omega)) hr rfl T.m_steps_of T.f_steps_of.kp T.b_steps_of .nil pass10 (pa_cons (pe_ix ix_tup (pv 0) (pe_int (i:=3)) (fun _ _=>rfl)) (pa_cons (pe_op op_add (pv 3) (pe_int (i:=1))) pa_nil))))
    (pss_one (ps_ret (pe_op op_cat (pe_op op_cat (pe_op op_cat (pe_lst (pa_cons (pe_tup (pa_cons (pe_str (x:="skip")) (pa_cons (pe_ix ix_tup (pv 0) (pe_int (i:=1)) (fun _ _=>rfl)) (pa_cons (pe_op op_add (pv 3) (pe_int (i:=1))) pa_nil)))) pa_nil)) (pv 2)) (pe_lst (pa_cons (pe_tup (pa_cons (pe_str (x:="go")) (pa_cons (pe_op op_add (pe_op op_add (pv 3) (pe_int (i:=1))) (pe_callB call_len rfl T.b_len bt_len (pa_cons (pv 4) pa_nil))) pa_nil))) pa_nil))) (pv 4)))))))),rdp_block_steps h1 h2 h3 h4 q⟩
theorem ok_steps_of (T:Txt K mg t):∀ n,FnOk P w K mg base (CX1 P w) (2 + 2 * n) t.a_steps_of t.d_steps_of ["rows","first"] (sp_steps_of n):=by
  intro n
  induction n with
  | zero=>exact ⟨fun vs H Q E h=>(nil_steps_of h).elim,fun A outer s H args us vs Q E hr he hb hv h=>(nil_steps_of h).elim⟩
  | succ n IH =>
  refine T.f_steps_of.ok0 sc_steps_of (k:=2 + 2 * n + 1) (fun vs H Q E h=>?_) (fun cdv A outer s H vs Q E hr h=>?_)
  · obtain ⟨v,r,k,rfl,_⟩:=h;rfl
  obtain ⟨v,r,k,rfl,h1,h2,h3,q⟩:=h
  exact ⟨rd_steps_of K t n,(pss_cons (ps_set (i:=2) sc_steps_of.nd rfl (Or.inl rfl) (pe_lst pa_nil))
    (pss_cons (ps_for PassesOwn.never rfl (pi_list (pv 0)) (pg_name (i:=3) sc_steps_of.nd rfl (Or.inl rfl)) (pss_one (ps_if (pt_cmpR op_eq (pe_ix ix_tup (pv 3) (pe_int (i:=0)) (fun _ _=>rfl)) (pe_str (x:="if")) (nomark _)) (pss_one (ps_expr (pe_bm PySem.F.plainAttrs_list PySem.F.slot_list_extend PySem.F.type_list_extend mt_extend (pv 2) (pa_cons (pe_call (FnOk.mono (ok_block_steps T n IH) (by omega)) hr rfl T.m_block_steps T.f_block_steps.kp T.b_block_steps .nil pass10 (pa_cons (pv 3) (pa_cons (pe_op op_add (pv 1) (pe_callB call_len rfl T.b_len bt_len (pa_cons (pv 2) pa_nil))) pa_nil))) pa_nil))))
      (pss_one (ps_expr (pe_bm PySem.F.plainAttrs_list PySem.F.slot_list_append PySem.F.type_list_append mt_append (pv 2) (pa_cons (pv 3) pa_nil)))))))
    (pss_one (ps_ret (pv 2))))),rdp_steps_of h1 h2 h3 q⟩
theorem ok_code_of (T:Txt K mg t):FnOk P w K mg base (CX1 P w) 15 t.a_code_of t.d_code_of ["rows"] (sp_code_of):=by
  refine T.f_code_of.ok0 sc_code_of (fun vs H Q E h=>?_) (fun cdv A outer s H vs Q E hr h=>?_)
  · obtain ⟨v,r,rfl,_⟩:=h;rfl
  obtain ⟨v,r,rfl,h1,h2,h3,q⟩:=h
  exact ⟨rd_code_of K t,(pss_one (ps_ret (pe_call (FnOk.mono (ok_steps_of T 6) (by decide)) hr rfl T.m_steps_of T.f_steps_of.kp T.b_steps_of .nil pass10 (pa_cons (pv 0) (pa_cons (pe_int (i:=0)) pa_nil))))),rdp_code_of h1 h2 h3 q⟩
theorem ok__law_worth (T:Txt K mg t):FnOk P w K mg base (CX1 P w) 2 t.a__law_worth t.d__law_worth ["cell","j"] (sp__law_worth):=by
  refine T.f__law_worth.ok0 sc__law_worth (fun vs H Q E h=>?_) (fun cdv A outer s H vs Q E hr h=>?_)
  · obtain ⟨c,j,rfl,_⟩:=h;rfl
  obtain ⟨c,j,rfl,h1,h2,q⟩:=h
  exact ⟨rd__law_worth K t,(pss_cons (ps_if (pt_cmpR op_eq (pe_op op_mod (pe_call (FnOk.mono (ok__law_draw T) (by decide)) hr rfl T.m__law_draw T.f__law_draw.kp T.b__law_draw .nil pass10 (pa_cons (pv 0) (pa_cons (pv 1) pa_nil))) (pe_int (i:=4))) (pe_int (i:=1)) (nomark _)) (pss_one (ps_ret (pe_op op_sub (pe_op op_mod (pe_op op_add (pe_op op_mulB (pe_op op_mulB (pe_op op_mod (pv 0) (pe_op op_pow (pe_int (i:=10)) (pe_int (i:=40)))) (pe_op op_add (pv 1) (pe_int (i:=2)))) (pe_int (i:=1000003))) (pv 1)) (pe_op op_add (pe_op op_mulB (pe_int (i:=2)) (pe_op op_pow (pe_int (i:=10)) (pe_int (i:=30)))) (pe_int (i:=1)))) (pe_op op_pow (pe_int (i:=10)) (pe_int (i:=30))))))
      pss_nil)
    (pss_one (ps_ret (pe_op op_sub (pe_op op_mod (pe_call (FnOk.mono (ok__law_draw T) (by decide)) hr rfl T.m__law_draw T.f__law_draw.kp T.b__law_draw .nil pass10 (pa_cons (pv 0) (pa_cons (pe_op op_add (pv 1) (pe_int (i:=1))) pa_nil))) (pe_int (i:=6))) (pe_int (i:=2)))))),rdp__law_worth h1 h2 q⟩
theorem ok__law_term (T:Txt K mg t):FnOk P w K mg base (CX1 P w) 3 t.a__law_term t.d__law_term ["cell","j","slots"] (sp__law_term):=by
  refine T.f__law_term.ok0 sc__law_term (fun vs H Q E h=>?_) (fun cdv A outer s H vs Q E hr h=>?_)
  · obtain ⟨c,j,a,ws,rfl,_⟩:=h;rfl
  obtain ⟨c,j,a,ws,rfl,h1,h2,h3,h4,q⟩:=h
  exact ⟨rd__law_term K t,(pss_cons (ps_set (i:=3) sc__law_term.nd rfl (Or.inl rfl) (pe_ix ix_list (pv 2) (pe_op op_mod (pe_call (FnOk.mono (ok__law_draw T) (by decide)) hr rfl T.m__law_draw T.f__law_draw.kp T.b__law_draw .nil pass10 (pa_cons (pv 0) (pa_cons (pv 1) pa_nil))) (pe_int (i:=2))) (fun _ _=>rfl)))
    (pss_cons (ps_if (pt_cmpR op_eq (pe_op op_mod (pe_call (FnOk.mono (ok__law_draw T) (by decide)) hr rfl T.m__law_draw T.f__law_draw.kp T.b__law_draw .nil pass10 (pa_cons (pv 0) (pa_cons (pe_op op_add (pv 1) (pe_int (i:=1))) pa_nil))) (pe_int (i:=2))) (pe_int (i:=0)) (nomark _)) (pss_one (ps_set (i:=3) sc__law_term.nd rfl (Or.inl rfl) (pe_call (FnOk.mono (ok__law_worth T) (by decide)) hr rfl T.m__law_worth T.f__law_worth.kp T.b__law_worth .nil pass10 (pa_cons (pv 0) (pa_cons (pe_op op_add (pv 1) (pe_int (i:=2))) pa_nil)))))
      pss_nil)
    (pss_cons (ps_if (pt_cmpR op_gt (pe_op op_mod (pe_call (FnOk.mono (ok__law_draw T) (by decide)) hr rfl T.m__law_draw T.f__law_draw.kp T.b__law_draw .nil pass10 (pa_cons (pv 0) (pa_cons (pe_op op_add (pv 1) (pe_int (i:=4))) pa_nil))) (pe_int (i:=3))) (pe_int (i:=0)) (nomark _)) (pss_one (ps_ret (pe_tup (pa_cons (pv 3) pa_nil))))
      pss_nil)
    (pss_cons (ps_set (i:=4) sc__law_term.nd rfl (Or.inl rfl) (pe_lst (pa_cons (pe_str (x:="plus")) (pa_cons (pe_str (x:="minus")) (pa_cons (pe_str (x:="times")) (pa_cons (pe_str (x:="over")) (pa_cons (pe_str (x:="rest")) (pa_cons (pe_str (x:="same")) (pa_cons (pe_str (x:="under")) pa_nil)))))))))
    (pss_one (ps_ret (pe_tup (pa_cons (pv 3) (pa_cons (pe_ix ix_list (pv 2) (pe_op op_mod (pe_call (FnOk.mono (ok__law_draw T) (by decide)) hr rfl T.m__law_draw T.f__law_draw.kp T.b__law_draw .nil pass10 (pa_cons (pv 0) (pa_cons (pe_op op_add (pv 1) (pe_int (i:=5))) pa_nil))) (pe_int (i:=2))) (fun _ _=>rfl)) (pa_cons (pe_ix ix_list (pv 4) (pe_op op_mod (pe_call (FnOk.mono (ok__law_draw T) (by decide)) hr rfl T.m__law_draw T.f__law_draw.kp T.b__law_draw .nil pass10 (pa_cons (pv 0) (pa_cons (pe_op op_add (pv 1) (pe_int (i:=6))) pa_nil))) (pe_int (i:=7))) (fun _ _=>rfl)) pa_nil)))))))))),rdp__law_term h1 h2 h3 h4 q⟩
theorem ok__law_row (T:Txt K mg t):FnOk P w K mg base (CX1 P w) 4 t.a__law_row t.d__law_row ["cell","j","slots","shelves"] (sp__law_row):=by
  refine T.f__law_row.ok0 sc__law_row (fun vs H Q E h=>?_) (fun cdv A outer s H vs Q E hr h=>?_)
  · obtain ⟨c,j,a,b,ws,us,rfl,_⟩:=h;rfl
  obtain ⟨c,j,a,b,ws,us,rfl,h1,h2,h3,h4,h5,h6,q⟩:=h
  exact ⟨rd__law_row K t,(pss_cons (ps_set (i:=4) sc__law_row.nd rfl (Or.inl rfl) (pe_op op_mod (pe_call (FnOk.mono (ok__law_draw T) (by decide)) hr rfl T.m__law_draw T.f__law_draw.kp T.b__law_draw .nil pass10 (pa_cons (pv 0) (pa_cons (pv 1) pa_nil))) (pe_int (i:=16))))
    (pss_cons (ps_set (i:=5) sc__law_row.nd rfl (Or.inl rfl) (pe_ix ix_list (pv 3) (pe_op op_mod (pe_call (FnOk.mono (ok__law_draw T) (by decide)) hr rfl T.m__law_draw T.f__law_draw.kp T.b__law_draw .nil pass10 (pa_cons (pv 0) (pa_cons (pe_op op_add (pv 1) (pe_int (i:=1))) pa_nil))) (pe_int (i:=2))) (fun _ _=>rfl)))
    (pss_cons (ps_set (i:=6) sc__law_row.nd rfl (Or.inl rfl) (pe_ix ix_list (pv 2) (pe_op op_mod (pe_call (FnOk.mono (ok__law_draw T) (by decide)) hr rfl T.m__law_draw T.f__law_draw.kp T.b__law_draw .nil pass10 (pa_cons (pv 0) (pa_cons (pe_op op_add (pv 1) (pe_int (i:=2))) pa_nil))) (pe_int (i:=2))) (fun _ _=>rfl)))
    (pss_cons (ps_set (i:=7) sc__law_row.nd rfl (Or.inl rfl) (pe_tup (pa_cons (pe_op op_sub (pe_op op_mod (pe_call (FnOk.mono (ok__law_draw T) (by decide)) hr rfl T.m__law_draw T.f__law_draw.kp T.b__law_draw .nil pass10 (pa_cons (pv 0) (pa_cons (pe_op op_add (pv 1) (pe_int (i:=3))) pa_nil))) (pe_int (i:=4))) (pe_int (i:=1))) pa_nil)))
    (pss_cons (ps_if (pt_cmpR op_eq (pe_op op_mod (pe_call (FnOk.mono (ok__law_draw T) (by decide)) hr rfl T.m__law_draw T.f__law_draw.kp T.b__law_draw .nil pass10 (pa_cons (pv 0) (pa_cons (pe_op op_add (pv 1) (pe_int (i:=4))) pa_nil))) (pe_int (i:=5))) (pe_int (i:=0)) (nomark _)) (pss_one (ps_set (i:=7) sc__law_row.nd rfl (Or.inl rfl) (pe_call (FnOk.mono (ok__law_term T) (by decide)) hr rfl T.m__law_term T.f__law_term.kp T.b__law_term .nil pass10 (pa_cons (pv 0) (pa_cons (pe_op op_add (pv 1) (pe_int (i:=10))) (pa_cons (pv 2) pa_nil))))))
      pss_nil)
    (pss_cons (ps_if (pt_cmpR op_lt (pv 4) (pe_int (i:=6)) (nomark _)) (pss_one (ps_ret (pe_tup (pa_cons (pe_str (x:="take")) (pa_cons (pv 5) (pa_cons (pv 7) (pa_cons (pv 6) pa_nil)))))))
      pss_nil)
    (pss_cons (ps_if (pt_cmpR op_lt (pv 4) (pe_int (i:=11)) (nomark _)) (pss_one (ps_ret (pe_tup (pa_cons (pe_str (x:="give")) (pa_cons (pv 5) (pa_cons (pv 7) (pa_cons (pe_call (FnOk.mono (ok__law_term T) (by decide)) hr rfl T.m__law_term T.f__law_term.kp T.b__law_term .nil pass10 (pa_cons (pv 0) (pa_cons (pe_op op_add (pv 1) (pe_int (i:=20))) (pa_cons (pv 2) pa_nil)))) pa_nil)))))))
      pss_nil)
    (pss_cons (ps_if (pt_cmpR op_lt (pv 4) (pe_int (i:=13)) (nomark _)) (pss_one (ps_ret (pe_tup (pa_cons (pe_str (x:="let")) (pa_cons (pv 6) (pa_cons (pe_call (FnOk.mono (ok__law_term T) (by decide)) hr rfl T.m__law_term T.f__law_term.kp T.b__law_term .nil pass10 (pa_cons (pv 0) (pa_cons (pe_op op_add (pv 1) (pe_int (i:=20))) (pa_cons (pv 2) pa_nil)))) pa_nil))))))
      pss_nil)
    (pss_cons (ps_if (pt_cmpR op_eq (pv 4) (pe_int (i:=13)) (nomark _)) (pss_one (ps_ret (pe_tup (pa_cons (pe_str (x:="off")) (pa_cons (pe_tup (pa_cons (pv 6) (pa_cons (pe_call (FnOk.mono (ok__law_worth T) (by decide)) hr rfl T.m__law_worth T.f__law_worth.kp T.b__law_worth .nil pass10 (pa_cons (pv 0) (pa_cons (pe_op op_add (pv 1) (pe_int (i:=30))) pa_nil))) (pa_cons (pe_str (x:="same")) pa_nil)))) pa_nil)))))
      pss_nil)
    (pss_one (ps_ret (pe_tup (pa_cons (pe_str (x:="say")) (pa_cons (pe_call (FnOk.mono (ok__law_term T) (by decide)) hr rfl T.m__law_term T.f__law_term.kp T.b__law_term .nil pass10 (pa_cons (pv 0) (pa_cons (pe_op op_add (pv 1) (pe_int (i:=20))) (pa_cons (pv 2) pa_nil)))) pa_nil)))))))))))))),rdp__law_row h1 h2 h3 h4 h5 h6 q⟩
theorem ok__law_rows (T:Txt K mg t):FnOk P w K mg base (CX1 P w) 5 t.a__law_rows t.d__law_rows ["cells","slots","shelves"] (sp__law_rows):=by
  refine T.f__law_rows.ok0 sc__law_rows (fun vs H Q E h=>?_) (fun cdv A outer s H vs Q E hr h=>?_)
  · obtain ⟨p,ns,a,b,ws,us,rfl,_⟩:=h;rfl
  obtain ⟨p,ns,a,b,ws,us,rfl,h1,h2,h3,h4,h5,h6,q⟩:=h
  exact ⟨rd__law_rows K t,(pss_cons (ps_set (i:=3) sc__law_rows.nd rfl (Or.inl rfl) (pe_lst pa_nil))
    (pss_cons (ps_for PassesOwn.never rfl (pi_list (pv 0)) (pg_name (i:=4) sc__law_rows.nd rfl (Or.inl rfl)) (pss_cons (ps_set (i:=5) sc__law_rows.nd rfl (Or.inl rfl) (pe_call (FnOk.mono (ok__law_row T) (by decide)) hr rfl T.m__law_row T.f__law_row.kp T.b__law_row .nil pass10 (pa_cons (pv 4) (pa_cons (pe_int (i:=10)) (pa_cons (pv 1) (pa_cons (pv 2) pa_nil))))))
    (pss_cons (ps_if (pt_cmpR op_eq (pe_op op_mod (pe_call (FnOk.mono (ok__law_draw T) (by decide)) hr rfl T.m__law_draw T.f__law_draw.kp T.b__law_draw .nil pass10 (pa_cons (pv 4) (pa_cons (pe_int (i:=0)) pa_nil))) (pe_int (i:=4))) (pe_int (i:=0)) (nomark _)) (pss_cons (ps_set (i:=6) sc__law_rows.nd rfl (Or.inl rfl) (pe_lst (pa_cons (pe_call (FnOk.mono (ok__law_row T) (by decide)) hr rfl T.m__law_row T.f__law_row.kp T.b__law_row .nil pass10 (pa_cons (pv 4) (pa_cons (pe_int (i:=60)) (pa_cons (pv 1) (pa_cons (pv 2) pa_nil))))) pa_nil)))
    (pss_one (ps_set (i:=5) sc__law_rows.nd rfl (Or.inl rfl) (pe_tup (pa_cons (pe_str (x:="if")) (pa_cons (pe_call (FnOk.mono (ok__law_term T) (by decide)) hr rfl T.m__law_term T.f__law_term.kp T.b__law_term .nil pass10 (pa_cons (pv 4) (pa_cons (pe_int (i:=120)) (pa_cons (pv 1) pa_nil)))) (pa_cons (pe_lst (pa_cons (pv 5) pa_nil)) (pa_cons (pe_slice sl_list (pv 6) po_none (po_some (pe_op op_mod (pe_call (FnOk.mono (ok__law_draw T) (by decide)) hr rfl T.m__law_draw T.f__law_draw.kp T.b__law_draw .nil pass10 (pa_cons (pv 4) (pa_cons (pe_int (i:=1)) pa_nil))) (pe_int (i:=2))))) pa_nil))))))))
      pss_nil)
    (pss_one (ps_expr (pe_bm PySem.F.plainAttrs_list PySem.F.slot_list_append PySem.F.type_list_append mt_append (pv 3) (pa_cons (pv 5) pa_nil)))))))
    (pss_one (ps_ret (pv 3))))),rdp__law_rows h1 h2 h3 h4 h5 h6 q⟩
theorem ok_Run_over (T:Txt K mg t):FnOk P w K mg base (CX1 P w) 1 t.a_Run_over t.d_Run_over ["self"] (sp_Run_over t):=by
  refine T.f_Run_over.ok0 sc_Run_over (fun vs H Q E h=>?_) (fun cdv A outer s H vs Q E hr h=>?_)
  · obtain ⟨x,a,C,s,rfl,_⟩:=h;rfl
  obtain ⟨x,a,C,s,rfl,h1,q⟩:=h
  exact ⟨rd_Run_over K t,(pss_one (ps_ret (pe_or (pe_cmpR op_notN (pe_fld (f:="why") (pv 0) rfl) pe_non (nomark _)) (pe_one (pe_cmpR op_ge (pe_fld (f:="at") (pv 0) rfl) (pe_callB call_len rfl T.b_len bt_len (pa_cons (pe_fld (f:="code") (pv 0) rfl) pa_nil)) (nomark _)))))),rdp_Run_over (rnF T) h1 q⟩
theorem ok_Run_taken (T:Txt K mg t):FnOk P w K mg base (CX1 P w) 1 t.a_Run_taken t.d_Run_taken ["self","place","worth"] (sp_Run_taken t):=by
  refine T.f_Run_taken.ok0 sc_Run_taken (fun vs H Q E h=>?_) (fun cdv A outer s H vs Q E hr h=>?_)
  · obtain ⟨x,q,p,w,a,C,s,rfl,_⟩:=h;rfl
  obtain ⟨x,q,p,w,a,C,s,rfl,h1,h2,h3,q⟩:=h
  exact ⟨rd_Run_taken K t,(pss_cons (ps_if (pt_cmpR (op_in_d (hu_of hr)) (pv 1) (pe_fld (f:="gifts") (pv 0) rfl) (by with_unfolding_all rfl)) (pss_one (ps_ret (pe_dget (hu_of hr) (pe_fld (f:="gifts") (pv 0) rfl) (pv 1) (fun _ _=>rfl))))
      pss_nil)
    (pss_cons (ps_if (pt_cmpR (op_notin_d (hu_of hr)) (pv 1) (pe_fld (f:="notes") (pv 0) rfl) (by with_unfolding_all rfl)) (pss_one (ps_dput (hu_of hr) (pe_fld (f:="notes") (pv 0) rfl) (pv 1) (pv 2) rfl))
      pss_nil)
    (pss_one (ps_ret (pe_dget (hu_of hr) (pe_fld (f:="notes") (pv 0) rfl) (pv 1) (fun _ _=>rfl)))))),rdp_Run_taken (rnF T) h1 h2 h3 q⟩
theorem ok_divided (T:Txt K mg t):FnOk P w K mg base (CX1 P w) 1 t.a_divided t.d_divided ["word","first","second"] (sp_divided t):=by
  refine T.f_divided.ok1 sc_divided (fun vs H Q E h=>?_) (fun cdv A outer s H vs Q E hr h=>?_)
  · obtain ⟨w,a,b,rfl,_⟩:=h;rfl
  obtain ⟨w,a,b,rfl,hw,ha,hb,q⟩:=h
  exact ⟨rd_divided K t E,(pss_cons (ps_if (pt_cmpR op_eq (pv 2) (pe_int (i:=0)) (nomark _)) (pss_one (ps_raise rfl T.x_Nought raises1 rfl T.g_Nought (pa_cons (pe_msgS (pv 0)) pa_nil)))
      pss_nil)
    (pss_one (ps_ret (pe_ifExp (pt_cmpR op_eq (pv 0) (pe_str (x:="over")) (nomark _)) (pe_op op_fdivS (pv 1) (pv 2)) (pe_op op_modN (pv 1) (pv 2)))))),rdp_divided hw ha hb q⟩
theorem ok_come_to (T:Txt K mg t):FnOk P w K mg base (CX1 P w) 2 t.a_come_to t.d_come_to ["word","first","second"] (sp_come_to t):=by
  refine T.f_come_to.ok1 sc_come_to (fun vs H Q E h=>?_) (fun cdv A outer s H vs Q E hr h=>?_)
  · obtain ⟨w,a,b,rfl,_⟩:=h;rfl
  obtain ⟨w,a,b,rfl,hw,ha,hb,q⟩:=h
  exact ⟨rd_come_to K t E,(pss_cons (ps_if (pt_cmpR op_eq (pv 0) (pe_str (x:="plus")) (nomark _)) (pss_one (ps_ret (pe_op op_add (pv 1) (pv 2))))
      pss_nil)
    (pss_cons (ps_if (pt_cmpR op_eq (pv 0) (pe_str (x:="minus")) (nomark _)) (pss_one (ps_ret (pe_op op_sub (pv 1) (pv 2))))
      pss_nil)
    (pss_cons (ps_if (pt_cmpR op_eq (pv 0) (pe_str (x:="times")) (nomark _)) (pss_one (ps_ret (pe_op op_mulB (pv 1) (pv 2))))
      pss_nil)
    (pss_cons (ps_if (pt_cmpR op_eq (pv 0) (pe_str (x:="under")) (nomark _)) (pss_one (ps_ret (pe_ifExp (pt_cmpR op_lt (pv 1) (pv 2) (nomark _)) (pe_int (i:=1)) (pe_int (i:=0)))))
      pss_nil)
    (pss_cons (ps_if (pt_cmpR op_eq (pv 0) (pe_str (x:="same")) (nomark _)) (pss_one (ps_ret (pe_ifExp (pt_cmpR op_eq (pv 1) (pv 2) (nomark _)) (pe_int (i:=1)) (pe_int (i:=0)))))
      pss_nil)
    (pss_one (ps_ret (pe_call (FnOk.mono (ok_divided T) (by decide)) hr rfl T.m_divided T.f_divided.kp T.b_divided .nil pass1 (pa_cons (pv 0) (pa_cons (pv 1) (pa_cons (pv 2) pa_nil))))))))))),rdp_come_to hw ha hb q⟩
theorem ok_is_worth (T:Txt K mg t):FnOk P w K mg base (CX1 P w) 1 t.a_is_worth t.d_is_worth ["thing"] (sp_is_worth):=by
  refine T.f_is_worth.ok0 sc_is_worth (fun vs H Q E h=>?_) (fun cdv A outer s H vs Q E hr h=>?_)
  · obtain ⟨i,rfl,_⟩:=h;rfl
  obtain ⟨i,rfl,q⟩:=h
  exact ⟨rd_is_worth K t,(pss_cons (ps_if (PW.pt (pw_or (pt_not (pt_val (pe_callB call_isi rfl T.b_isinstance bt_isinstance (pa_cons (pv 0) (pa_cons (pe_bltn rfl T.b_int bt_int rfl) pa_nil))))) (pw_or1 (pt_val (pe_callB call_isi rfl T.b_isinstance bt_isinstance (pa_cons (pv 0) (pa_cons (pe_bltn rfl T.b_bool bt_bool rfl) pa_nil))))))) (pss_one (ps_ret (pe_bl (b:=false))))
      pss_nil)
    (pss_one (ps_ret (pe_chain op_le op_le (pe_un un_neg (pe_op op_pow (pe_int (i:=10)) (pe_int (i:=30)))) (pv 0) (pe_op op_pow (pe_int (i:=10)) (pe_int (i:=30))))))),rdp_is_worth (kf K).i_b q⟩
theorem ok_joined (T:Txt K mg t):FnOk P w K mg base (CX1 P w) 3 t.a_joined t.d_joined ["word","first","second"] (sp_joined t):=by
  refine T.f_joined.ok1 sc_joined (fun vs H Q E h=>?_) (fun cdv A outer s H vs Q E hr h=>?_)
  · obtain ⟨w,a,b,rfl,_⟩:=h;rfl
  obtain ⟨w,a,b,rfl,hw,ha,hb,q⟩:=h
  exact ⟨rd_joined K t E,(pss_cons (ps_set (i:=3) sc_joined.nd rfl (Or.inl rfl) (pe_call (FnOk.mono (ok_come_to T) (by decide)) hr rfl T.m_come_to T.f_come_to.kp T.b_come_to .nil pass1 (pa_cons (pv 0) (pa_cons (pv 1) (pa_cons (pv 2) pa_nil)))))
    (pss_cons (ps_if (pt_not (pt_val (pe_call (FnOk.mono (ok_is_worth T) (by decide)) hr rfl T.m_is_worth T.f_is_worth.kp T.b_is_worth .nil pass1 (pa_cons (pv 3) pa_nil)))) (pss_one (ps_raise rfl T.x_Great raises1 rfl T.g_Great (pa_cons (pe_msgS (pv 0)) pa_nil)))
      pss_nil)
    (pss_one (ps_ret (pv 3))))),rdp_joined hw ha hb q⟩
theorem ok_reckoned (T:Txt K mg t):FnOk P w K mg base (CX1 P w) 4 t.a_reckoned t.d_reckoned ["term","slots"] (sp_reckoned t):=by
  refine T.f_reckoned.ok1 sc_reckoned (fun vs H Q E h=>?_) (fun cdv A outer s H vs Q E hr h=>?_)
  · obtain ⟨kvs,tm,sl,ps,r,rfl,_⟩:=h;rfl
  obtain ⟨kvs,tm,sl,ps,r,rfl,h1,h2,h3,h4,h5,h6,q⟩:=h
  exact ⟨rd_reckoned K t E,(pss_cons (ps_set (i:=2) sc_reckoned.nd rfl (Or.inl rfl) (pe_lst pa_nil))
    (pss_cons (ps_for own1 rfl (pi_tup (pv 0)) (pg_name (i:=3) sc_reckoned.nd rfl (Or.inl rfl)) (pss_one (ps_if (pt_cmpR op_in_seq (pv 3) (pe_glob rfl T.g_JOINING rfl) (by with_unfolding_all rfl)) (pss_cons (ps_set (i:=4) sc_reckoned.nd rfl (Or.inl rfl) (pe_bm0 PySem.F.plainAttrs_list PySem.F.slot_list_pop PySem.F.type_list_pop mt_pop (pv 2)))
    (pss_cons (ps_set (i:=5) sc_reckoned.nd rfl (Or.inl rfl) (pe_bm0 PySem.F.plainAttrs_list PySem.F.slot_list_pop PySem.F.type_list_pop mt_pop (pv 2)))
    (pss_one (ps_expr (pe_bm PySem.F.plainAttrs_list PySem.F.slot_list_append PySem.F.type_list_append mt_append (pv 2) (pa_cons (pe_call (FnOk.mono (ok_joined T) (by decide)) hr rfl T.m_joined T.f_joined.kp T.b_joined .nil pass1 (pa_cons (pv 3) (pa_cons (pv 5) (pa_cons (pv 4) pa_nil)))) pa_nil))))))
      (pss_one (ps_expr (pe_bm PySem.F.plainAttrs_list PySem.F.slot_list_append PySem.F.type_list_append mt_append (pv 2) (pa_cons (pe_ifExp (pt_val (pe_callB call_isi rfl T.b_isinstance bt_isinstance (pa_cons (pv 3) (pa_cons (pe_bltn rfl T.b_str bt_str rfl) pa_nil)))) (pe_dget2 (hu_of hr) (pv 1) (pv 3) (pe_int (i:=0)) ⟨rfl,rfl,rfl,rfl⟩) (pv 3)) pa_nil)))))))
    (pss_one (ps_ret (pe_bm0 PySem.F.plainAttrs_list PySem.F.slot_list_pop PySem.F.type_list_pop mt_pop (pv 2)))))),rdp_reckoned (kf K).i_s T.v_JOINING h1 h2 h3 h4 h5 h6 q⟩
theorem ok_Run_worth_of (T:Txt K mg t):FnOk P w K mg base (CX1 P w) 5 t.a_Run_worth_of t.d_Run_worth_of ["self","term"] (sp_Run_worth_of t):=by
  refine T.f_Run_worth_of.ok1 sc_Run_worth_of (fun vs H Q E h=>?_) (fun cdv A outer s H vs Q E hr h=>?_)
  · obtain ⟨x,tm,e,a,C,s,rfl,_⟩:=h;rfl
  obtain ⟨x,tm,e,a,C,s,rfl,h1,h2,h3,h4,q⟩:=h
  exact ⟨rd_Run_worth_of K t E,(pss_one (ps_ret (pe_call (FnOk.mono (ok_reckoned T) (by decide)) hr rfl T.m_reckoned T.f_reckoned.kp T.b_reckoned .nil pass1 (pa_cons (pv 1) (pa_cons (pe_fld (f:="slots") (pv 0) rfl) pa_nil))))),rdp_Run_worth_of (rnF T) h1 h2 h3 h4 q⟩
theorem ok_Run_place_in (T:Txt K mg t):FnOk P w K mg base (CX1 P w) 6 t.a_Run_place_in t.d_Run_place_in ["self","due"] (sp_Run_place_in t):=by
  refine T.f_Run_place_in.ok1 sc_Run_place_in (fun vs H Q E h=>?_) (fun cdv A outer s H vs Q E hr h=>?_)
  · obtain ⟨x,p,xs,sh,te,e,a,C,s,rfl,_⟩:=h;rfl
  obtain ⟨x,p,xs,sh,te,e,a,C,s,rfl,h1,h2,h3,h4,h5,h6,h7,q1,q2⟩:=h
  exact ⟨rd_Run_place_in K t E,(pss_one (ps_ret (pe_tup (pa_cons (pe_ix ix_tup (pv 1) (pe_int (i:=1)) (fun _ _=>rfl)) (pa_cons (pe_meth (pv 0) T.cl_Run T.me_Run_worth_of (FnOk.mono (ok_Run_worth_of T) (by decide)) hr T.b_Run_worth_of .nil pass1 (pa_cons (pe_ix ix_tup (pv 1) (pe_int (i:=2)) (fun _ _=>rfl)) pa_nil)) pa_nil))))),rdp_Run_place_in (rnF T) h1 h2 h3 h4 h5 h6 h7 q1 q2⟩
theorem ok_Run_does (T:Txt K mg t):FnOk P w K mg base (CX1 P w) 7 t.a_Run_does t.d_Run_does ["self","due","worth"] (sp_Run_does t):=by
  refine T.f_Run_does.ok1 sc_Run_does (fun vs H Q E h=>?_) (fun cdv A outer s H vs Q E hr h=>?_)
  · obtain ⟨x,v,r,w,m,a,C,s,rfl,_⟩:=h;rfl
  obtain ⟨x,v,r,w,m,a,C,s,rfl,h1,h2,h3,h4,h5,h6,q1,q2⟩:=h
  exact ⟨rd_Run_does K t E,(pss_one (ps_if (pt_cmpR op_eq (pe_ix ix_tup (pv 1) (pe_int (i:=0)) (fun _ _=>rfl)) (pe_str (x:="take")) (nomark _)) (pss_one (ps_dput (hu_of hr) (pe_fld (f:="slots") (pv 0) rfl) (pe_ix ix_tup (pv 1) (pe_int (i:=3)) (fun _ _=>rfl)) (pe_meth (pv 0) T.cl_Run T.me_Run_taken (FnOk.mono (ok_Run_taken T) (by decide)) hr T.b_Run_taken .nil pass1 (pa_cons (pe_meth (pv 0) T.cl_Run T.me_Run_place_in (FnOk.mono (ok_Run_place_in T) (by decide)) hr T.b_Run_place_in .nil pass1 (pa_cons (pv 1) pa_nil)) (pa_cons (pv 2) pa_nil))) rfl))
      (pss_one (ps_if (pt_cmpR op_eq (pe_ix ix_tup (pv 1) (pe_int (i:=0)) (fun _ _=>rfl)) (pe_str (x:="give")) (nomark _)) (pss_cons (ps_set (i:=3) sc_Run_does.nd rfl (Or.inl rfl) (pe_meth (pv 0) T.cl_Run T.me_Run_place_in (FnOk.mono (ok_Run_place_in T) (by decide)) hr T.b_Run_place_in .nil pass1 (pa_cons (pv 1) pa_nil)))
    (pss_one (ps_dput (hu_of hr) (pe_fld (f:="gifts") (pv 0) rfl) (pv 3) (pe_meth (pv 0) T.cl_Run T.me_Run_worth_of (FnOk.mono (ok_Run_worth_of T) (by decide)) hr T.b_Run_worth_of .nil pass1 (pa_cons (pe_ix ix_tup (pv 1) (pe_int (i:=3)) (fun _ _=>rfl)) pa_nil)) rfl)))
      (pss_one (ps_if (pt_cmpR op_eq (pe_ix ix_tup (pv 1) (pe_int (i:=0)) (fun _ _=>rfl)) (pe_str (x:="let")) (nomark _)) (pss_one (ps_dput (hu_of hr) (pe_fld (f:="slots") (pv 0) rfl) (pe_ix ix_tup (pv 1) (pe_int (i:=1)) (fun _ _=>rfl)) (pe_meth (pv 0) T.cl_Run T.me_Run_worth_of (FnOk.mono (ok_Run_worth_of T) (by decide)) hr T.b_Run_worth_of .nil pass1 (pa_cons (pe_ix ix_tup (pv 1) (pe_int (i:=2)) (fun _ _=>rfl)) pa_nil)) rfl))
      (pss_one (ps_expr (pe_bm PySem.F.plainAttrs_list PySem.F.slot_list_append PySem.F.type_list_append mt_append (pe_fld (f:="sayings") (pv 0) rfl) (pa_cons (pe_meth (pv 0) T.cl_Run T.me_Run_worth_of (FnOk.mono (ok_Run_worth_of T) (by decide)) hr T.b_Run_worth_of .nil pass1 (pa_cons (pe_ix ix_tup (pv 1) (pe_int (i:=1)) (fun _ _=>rfl)) pa_nil)) pa_nil)))))))))),rdp_Run_does (rnF T) h1 h2 h3 h4 h5 h6 q1 q2⟩
theorem ok_Run_led_by (T:Txt K mg t):FnOk P w K mg base (CX1 P w) 8 t.a_Run_led_by t.d_Run_led_by ["self","due","worth"] (sp_Run_led_by t):=by
  refine T.f_Run_led_by.ok1 sc_Run_led_by (fun vs H Q E h=>?_) (fun cdv A outer s H vs Q E hr h=>?_)
  · obtain ⟨x,v,c,w,m,a,C,s,rfl,_⟩:=h;rfl
  obtain ⟨x,v,c,w,m,a,C,s,rfl,h1,h2,h3,h4,h5,q1,q2⟩:=h
  exact ⟨rd_Run_led_by K t E,(pss_cons (ps_if (pt_cmpR op_eq (pe_ix ix_tup (pv 1) (pe_int (i:=0)) (fun _ _=>rfl)) (pe_str (x:="go")) (nomark _)) (pss_one (ps_ret (pe_ix ix_tup (pv 1) (pe_int (i:=1)) (fun _ _=>rfl))))
      pss_nil)
    (pss_cons (ps_if (pt_cmpR op_eq (pe_ix ix_tup (pv 1) (pe_int (i:=0)) (fun _ _=>rfl)) (pe_str (x:="skip")) (nomark _)) (pss_one (ps_ret (pe_ifExp (pt_cmpR op_eq (pe_meth (pv 0) T.cl_Run T.me_Run_worth_of (FnOk.mono (ok_Run_worth_of T) (by decide)) hr T.b_Run_worth_of .nil pass1 (pa_cons (pe_ix ix_tup (pv 1) (pe_int (i:=1)) (fun _ _=>rfl)) pa_nil)) (pe_int (i:=0)) (nomark _)) (pe_ix ix_tup (pv 1) (pe_int (i:=2)) (fun _ _=>rfl)) (pe_op op_add (pe_fld (f:="at") (pv 0) rfl) (pe_int (i:=1))))))
      pss_nil)
    (pss_cons (ps_if (pt_cmpR op_eq (pe_ix ix_tup (pv 1) (pe_int (i:=0)) (fun _ _=>rfl)) (pe_str (x:="off")) (nomark _)) (pss_one (ps_if (pt_cmpR op_ne (pe_meth (pv 0) T.cl_Run T.me_Run_worth_of (FnOk.mono (ok_Run_worth_of T) (by decide)) hr T.b_Run_worth_of .nil pass1 (pa_cons (pe_ix ix_tup (pv 1) (pe_int (i:=1)) (fun _ _=>rfl)) pa_nil)) (pe_int (i:=0)) (nomark _)) (pss_one (ps_fld (f:="why") (pv 0) (pe_str (x:="told")) rfl))
      pss_nil))
      (pss_one (ps_expr (pe_meth (pv 0) T.cl_Run T.me_Run_does (FnOk.mono (ok_Run_does T) (by decide)) hr T.b_Run_does .nil pass1 (pa_cons (pv 1) (pa_cons (pv 2) pa_nil))))))
    (pss_one (ps_ret (pe_op op_add (pe_fld (f:="at") (pv 0) rfl) (pe_int (i:=1)))))))),rdp_Run_led_by (rnF T) h1 h2 h3 h4 h5 q1 q2⟩
theorem ok_Run_step (T:Txt K mg t):FnOk P w K mg base (CX1 P w) 9 t.a_Run_step t.d_Run_step ["self","worth"] (sp_Run_step t):=by
  refine T.f_Run_step.ok0 sc_Run_step (fun vs H Q E h=>?_) (fun cdv A outer s H vs Q E hr h=>?_)
  · obtain ⟨x,w,m,a,C,s,rfl,_⟩:=h;rfl
  obtain ⟨x,w,m,a,C,s,rfl,h1,h2,h3,h4,q⟩:=h
  exact ⟨rd_Run_step K t,(pss_cons (ps_if (pt_val (pe_meth0 (pv 0) T.cl_Run T.me_Run_over (FnOk.mono (ok_Run_over T) (by decide)) hr T.b_Run_over .nil pass10)) (pss_one ps_retN)
      pss_nil)
    (pss_one (ps_tryNN (And.intro rfl rfl) rfl (psx_fld (f:="at") (pv 0) (pex_meth (pv 0) T.cl_Run T.me_Run_led_by (FnOk.mono (ok_Run_led_by T) (by decide)) hr T.b_Run_led_by (pa_cons (pe_ix ix_list (pe_fld (f:="code") (pv 0) rfl) (pe_fld (f:="at") (pv 0) rfl) (fun _ _=>rfl)) (pa_cons (pv 1) pa_nil))) rfl) rfl T.g_Great rfl T.g_Nought (fun _=>(pss_one (ps_fld (f:="why") (pv 0) (pe_str (x:="great")) rfl))) (fun _=>(pss_one (ps_fld (f:="why") (pv 0) (pe_str (x:="nought")) rfl)))))),rdp_Run_step T h1 h2 h3 h4 q⟩
theorem ok__law_leads_on (T:Txt K mg t):FnOk P w K mg base (CX1 P w) 1 t.a__law_leads_on t.d__law_leads_on ["code"] (sp__law_leads_on):=by
  refine T.f__law_leads_on.ok0 sc__law_leads_on (fun vs H Q E h=>?_) (fun cdv A outer s H vs Q E hr h=>?_)
  · obtain ⟨l,xs,C,rfl,_⟩:=h;rfl
  obtain ⟨l,xs,C,rfl,h1,h2,h3,q⟩:=h
  exact ⟨rd__law_leads_on K t,(pss_cons (ps_for PassesOwn.never rfl (pi_range1 rfl T.b_range (pa_cons (pe_callB call_len rfl T.b_len bt_len (pa_cons (pv 0) pa_nil)) pa_nil)) (pg_name (i:=1) sc__law_leads_on.nd rfl (Or.inl rfl)) (pss_cons (ps_set (i:=2) sc__law_leads_on.nd rfl (Or.inl rfl) (pe_op op_add (pv 1) (pe_int (i:=1))))
    (pss_cons (ps_if (pt_cmpR op_eq (pe_ix ix_tup (pe_ix ix_list (pv 0) (pv 1) (fun _ _=>rfl)) (pe_int (i:=0)) (fun _ _=>rfl)) (pe_str (x:="skip")) (nomark _)) (pss_one (ps_set (i:=2) sc__law_leads_on.nd rfl (Or.inl rfl) (pe_ix ix_tup (pe_ix ix_list (pv 0) (pv 1) (fun _ _=>rfl)) (pe_int (i:=2)) (fun _ _=>rfl))))
      pss_nil)
    (pss_cons (ps_if (pt_cmpR op_eq (pe_ix ix_tup (pe_ix ix_list (pv 0) (pv 1) (fun _ _=>rfl)) (pe_int (i:=0)) (fun _ _=>rfl)) (pe_str (x:="go")) (nomark _)) (pss_one (ps_set (i:=2) sc__law_leads_on.nd rfl (Or.inl rfl) (pe_ix ix_tup (pe_ix ix_list (pv 0) (pv 1) (fun _ _=>rfl)) (pe_int (i:=1)) (fun _ _=>rfl))))
      pss_nil)
    (pss_one (ps_if (PW.pt (pw_or (pt_cmpR op_le (pv 2) (pv 1) (nomark _)) (pw_or1 (pt_cmpR op_gt (pv 2) (pe_callB call_len rfl T.b_len bt_len (pa_cons (pv 0) pa_nil)) (nomark _))))) (pss_one (ps_ret (pe_bl (b:=false))))
      pss_nil))))))
    (pss_one (ps_ret (pe_bl (b:=true))))),rdp__law_leads_on h1 h2 h3 q⟩
theorem ok_Run_init (T:Txt K mg t):FnOk P w K mg base (CX1 P w) 1 t.a_Run_init t.d_Run_init ["self","code"] (sp_Run_init t):=by
  refine T.f_Run_init.ok0 sc_Run_init (fun vs H Q E h=>?_) (fun cdv A outer s H vs Q E hr h=>?_)
  · obtain ⟨x,l,dx,xs,C,rfl,_⟩:=h;rfl
  obtain ⟨x,l,dx,xs,C,rfl,h1,h2,h3,q⟩:=h
  exact ⟨rd_Run_init K t,(pss_cons (ps_fld (f:="code") (pv 0) (pe_callTy call_list_of rfl T.b_list bt_list (pa_cons (pv 1) pa_nil)) rfl)
    (pss_cons (ps_fld (f:="at") (pv 0) (pe_int (i:=0)) rfl)
    (pss_cons (ps_fld (f:="why") (pv 0) pe_non rfl)
    (pss_cons (ps_fld (f:="slots") (pv 0) pe_dnewK rfl)
    (pss_cons (ps_fld (f:="gifts") (pv 0) pe_dnewT rfl)
    (pss_cons (ps_fld (f:="notes") (pv 0) pe_dnewT rfl)
    (pss_one (ps_fld (f:="sayings") (pv 0) (pe_lst pa_nil) rfl)))))))),rdp_Run_init (rnF T) h1 h2 h3 q⟩
theorem ok_Run_asks (T:Txt K mg t):FnOk P w K mg base (CX1 P w) 7 t.a_Run_asks t.d_Run_asks ["self"] (sp_Run_asks t):=by
  refine T.f_Run_asks.ok0 sc_Run_asks (fun vs H Q E h=>?_) (fun cdv A outer s H vs Q E hr h=>?_)
  · obtain ⟨x,a,C,s,rfl,_⟩:=h;rfl
  obtain ⟨x,a,C,s,rfl,h1,h2,h3,q1,q2⟩:=h
  exact ⟨rd_Run_asks K t,(pss_cons (ps_if (PW.pt (pw_or (pt_val (pe_meth0 (pv 0) T.cl_Run T.me_Run_over (FnOk.mono (ok_Run_over T) (by decide)) hr T.b_Run_over .nil pass10)) (pw_or1 (pt_cmpR op_ne (pe_ix ix_tup (pe_ix ix_list (pe_fld (f:="code") (pv 0) rfl) (pe_fld (f:="at") (pv 0) rfl) (fun _ _=>rfl)) (pe_int (i:=0)) (fun _ _=>rfl)) (pe_str (x:="take")) (nomark _))))) (pss_one (ps_ret pe_non))
      pss_nil)
    (pss_cons (ps_tryT (And.intro rfl rfl) rfl (psx_set (i:=1) sc_Run_asks.nd rfl (Or.inl rfl) (pex_meth (pv 0) T.cl_Run T.me_Run_place_in (FnOk.mono (ok_Run_place_in T) (by decide)) hr T.b_Run_place_in (pa_cons (pe_ix ix_list (pe_fld (f:="code") (pv 0) rfl) (pe_fld (f:="at") (pv 0) rfl) (fun _ _=>rfl)) pa_nil))) rfl T.g_Great rfl T.g_Nought (fun _=>(pss_one (ps_ret pe_non))))
    (pss_cons (ps_if (PW.pt (pw_or (pt_cmpR (op_in_d (hu_of hr)) (pv 1) (pe_fld (f:="gifts") (pv 0) rfl) (by with_unfolding_all rfl)) (pw_or1 (pt_cmpR (op_in_d (hu_of hr)) (pv 1) (pe_fld (f:="notes") (pv 0) rfl) (by with_unfolding_all rfl))))) (pss_one (ps_ret pe_non))
      pss_nil)
    (pss_one (ps_ret (pv 1)))))),rdp_Run_asks T h1 h2 h3 q1 q2⟩
theorem ok__law_stepped (T:Txt K mg t):FnOk P w K mg base (CX1 P w) 10 t.a__law_stepped t.d__law_stepped ["run","cell","made"] (sp__law_stepped t):=by
  refine T.f__law_stepped.ok0 sc__law_stepped (fun vs H Q E h=>?_) (fun cdv A outer s H vs Q E hr h=>?_)
  · obtain ⟨x,md,c,a,C,s,ws,rfl,_⟩:=h;rfl
  obtain ⟨x,md,c,a,C,s,ws,rfl,h1,h2,h3,h4,h5,h6,q⟩:=h
  exact ⟨rd__law_stepped K t,(pss_one (ps_if (pt_cmpR op_isN (pe_meth0 (pv 0) T.cl_Run T.me_Run_asks (FnOk.mono (ok_Run_asks T) (by decide)) hr T.b_Run_asks .nil pass10) pe_non (nomark _)) (pss_cons (ps_expr (pe_bm PySem.F.plainAttrs_list PySem.F.slot_list_append PySem.F.type_list_append mt_append (pv 2) (pa_cons pe_non pa_nil)))
    (pss_one (ps_expr (pe_meth0D (pv 0) T.cl_Run T.me_Run_step (FnOk.mono (ok_Run_step T) (by decide)) hr T.bd_Run_step pass10))))
      (pss_cons (ps_expr (pe_bm PySem.F.plainAttrs_list PySem.F.slot_list_append PySem.F.type_list_append mt_append (pv 2) (pa_cons (pe_call (FnOk.mono (ok__law_worth T) (by decide)) hr rfl T.m__law_worth T.f__law_worth.kp T.b__law_worth .nil pass10 (pa_cons (pv 1) (pa_cons (pe_op op_add (pe_int (i:=140)) (pe_callB call_len rfl T.b_len bt_len (pa_cons (pv 2) pa_nil))) pa_nil))) pa_nil)))
    (pss_one (ps_expr (pe_meth (pv 0) T.cl_Run T.me_Run_step (FnOk.mono (ok_Run_step T) (by decide)) hr T.b_Run_step .nil pass10 (pa_cons (pe_ix ix_list (pv 2) (pe_un un_neg (pe_int (i:=1))) (fun _ _=>rfl)) pa_nil))))))),rdp__law_stepped h1 h2 h3 h4 h5 h6 q⟩
theorem ok_Run_paper (T:Txt K mg t):FnOk P w K mg base (CX1 P w) 2 t.a_Run_paper t.d_Run_paper ["self"] (sp_Run_paper t):=by
  refine T.f_Run_paper.ok0 sc_Run_paper (fun vs H Q E h=>?_) (fun cdv A outer s H vs Q E hr h=>?_)
  · obtain ⟨x,a,C,s,rfl,_⟩:=h;rfl
  obtain ⟨x,a,C,s,rfl,h1,h2,h3,h4,q1,q2⟩:=h
  exact ⟨rd_Run_paper K t,(pss_cons (ps_if (pt_not (pt_val (pe_meth0 (pv 0) T.cl_Run T.me_Run_over (FnOk.mono (ok_Run_over T) (by decide)) hr T.b_Run_over .nil pass10))) (pss_one (ps_ret pe_non))
      pss_nil)
    (pss_cons (ps_set (i:=1) sc_Run_paper.nd rfl (Or.inl rfl) (pe_callTy (call_list_items rfl) rfl T.b_list bt_list (pa_cons (pe_items (pe_fld (f:="notes") (pv 0) rfl)) pa_nil)))
    (pss_cons (ps_if (pt_cmpR op_notN (pe_fld (f:="why") (pv 0) rfl) pe_non (nomark _)) (pss_one (ps_ret (pe_tup (pa_cons (pe_tup (pa_cons (pe_str (x:="off")) (pa_cons (pe_fld (f:="why") (pv 0) rfl) pa_nil))) (pa_cons (pv 1) (pa_cons (pe_lst pa_nil) pa_nil))))))
      pss_nil)
    (pss_one (ps_ret (pe_tup (pa_cons (pe_tup (pa_cons (pe_str (x:="done")) (pa_cons (pe_callTy call_tuple_of rfl T.b_tuple bt_tuple (pa_cons (pe_fld (f:="sayings") (pv 0) rfl) pa_nil)) pa_nil))) (pa_cons (pv 1) (pa_cons (pe_callB (call_sorted_items rfl (hu3 hr)) rfl T.b_sorted bt_sorted (pa_cons (pe_items (pe_fld (f:="gifts") (pv 0) rfl)) pa_nil)) pa_nil))))))))),rdp_Run_paper (rnF T) h1 h2 h3 h4 q1 q2⟩
theorem ok__law_outcome (T:Txt K mg t):FnOk P w K mg base (CX1 P w) 1 t.a__law_outcome t.d__law_outcome ["found","gifts"] (sp__law_outcome):=by
  refine T.f__law_outcome.ok0 sc__law_outcome (fun vs H Q E h=>?_) (fun cdv A outer s H vs Q E hr h=>?_)
  · obtain ⟨o,g,oc,rows,rfl,_⟩:=h;rfl
  obtain ⟨o,g,oc,rows,rfl,h1,h2,h3,q⟩:=h
  exact ⟨rd__law_outcome K t,(pss_cons (ps_if (PW.pt (pw_or (pt_not (pt_val (pe_callB call_isi rfl T.b_isinstance bt_isinstance (pa_cons (pv 0) (pa_cons (pe_bltn rfl T.b_tuple bt_tuple rfl) pa_nil))))) (pw_or1 (pt_cmpR op_ne (pe_callB call_len rfl T.b_len bt_len (pa_cons (pv 0) pa_nil)) (pe_int (i:=2)) (nomark _))))) (pss_one (ps_ret (pe_bl (b:=false))))
      pss_nil)
    (pss_cons (ps_if (pt_cmpR op_eq (pe_ix ix_tup (pv 0) (pe_int (i:=0)) (fun _ _=>rfl)) (pe_str (x:="off")) (nomark _)) (pss_one (ps_ret (pe_and (pe_cmpR op_in_seq (pe_ix ix_tup (pv 0) (pe_int (i:=1)) (fun _ _=>rfl)) (pe_tup (pa_cons (pe_str (x:="told")) (pa_cons (pe_str (x:="great")) (pa_cons (pe_str (x:="nought")) pa_nil)))) (by with_unfolding_all rfl)) (pe_one (pe_cmpR (op_eqNil (hu64 hr)) (pv 1) (pe_lst pa_nil) (nomark _))))))
      pss_nil)
    (pss_one (ps_ret (pe_and (pe_cmpR op_eq (pe_ix ix_tup (pv 0) (pe_int (i:=0)) (fun _ _=>rfl)) (pe_str (x:="done")) (nomark _)) (pe_one (pe_callB call_isi rfl T.b_isinstance bt_isinstance (pa_cons (pe_ix ix_tup (pv 0) (pe_int (i:=1)) (fun _ _=>rfl)) (pa_cons (pe_bltn rfl T.b_tuple bt_tuple rfl) pa_nil))))))))),rdp__law_outcome h1 h2 h3 q⟩
theorem ok__law_rows_of (T:Txt K mg t):FnOk P w K mg base (CX1 P w) 1 t.a__law_rows_of t.d__law_rows_of ["found"] (sp__law_rows_of):=by
  refine T.f__law_rows_of.ok0 sc__law_rows_of (fun vs H Q E h=>?_) (fun cdv A outer s H vs Q E hr h=>?_)
  · obtain ⟨l,rows,rfl,_⟩:=h;rfl
  obtain ⟨l,rows,rfl,h1,h2,q⟩:=h
  exact ⟨rd__law_rows_of K t,(pss_cons (ps_if (pt_not (pt_val (pe_callB call_isi rfl T.b_isinstance bt_isinstance (pa_cons (pv 0) (pa_cons (pe_bltn rfl T.b_list bt_list rfl) pa_nil))))) (pss_one (ps_ret (pe_bl (b:=false))))
      pss_nil)
    (pss_cons (ps_for PassesOwn.never rfl (pi_list (pv 0)) (pg_name (i:=1) sc__law_rows_of.nd rfl (Or.inl rfl)) (pss_cons (ps_if (PW.pt (pw_or (pt_not (pt_val (pe_callB call_isi rfl T.b_isinstance bt_isinstance (pa_cons (pv 1) (pa_cons (pe_bltn rfl T.b_tuple bt_tuple rfl) pa_nil))))) (pw_or (pt_cmpR op_ne (pe_callB call_len rfl T.b_len bt_len (pa_cons (pv 1) pa_nil)) (pe_int (i:=2)) (nomark _)) (pw_or1 (pt_not (pt_val (pe_callB call_isi rfl T.b_isinstance bt_isinstance (pa_cons (pe_ix ix_tup (pv 1) (pe_int (i:=0)) (fun _ _=>rfl)) (pa_cons (pe_bltn rfl T.b_tuple bt_tuple rfl) pa_nil))))))))) (pss_one (ps_ret (pe_bl (b:=false))))
      pss_nil)
    (pss_one (ps_if (PW.pt (pw_or (pt_not (pt_val (pe_callB call_isi rfl T.b_isinstance bt_isinstance (pa_cons (pe_ix ix_tup (pv 1) (pe_int (i:=1)) (fun _ _=>rfl)) (pa_cons (pe_bltn rfl T.b_int bt_int rfl) pa_nil))))) (pw_or1 (pt_val (pe_callB call_isi rfl T.b_isinstance bt_isinstance (pa_cons (pe_ix ix_tup (pv 1) (pe_int (i:=1)) (fun _ _=>rfl)) (pa_cons (pe_bltn rfl T.b_bool bt_bool rfl) pa_nil))))))) (pss_one (ps_ret (pe_bl (b:=false))))
      pss_nil))))
    (pss_one (ps_ret (pe_bl (b:=true)))))),rdp__law_rows_of (kf K) h1 h2 q⟩
theorem ok__law_paper (T:Txt K mg t):FnOk P w K mg base (CX1 P w) 2 t.a__law_paper t.d__law_paper ["paper"] (sp__law_paper):=by
  refine T.f__law_paper.ok0 sc__law_paper (fun vs H Q E h=>?_) (fun cdv A outer s H vs Q E hr h=>?_)
  · obtain ⟨r,nl,gl,o,oc,no,gi,rfl,_⟩:=h;rfl
  obtain ⟨r,nl,gl,o,oc,no,gi,rfl,h1,h2,h3,h4,h5,h6,h7,h8,q⟩:=h
  exact ⟨rd__law_paper K t,(pss_cons (ps_if (PW.pt (pw_or (pt_not (pt_val (pe_callB call_isi rfl T.b_isinstance bt_isinstance (pa_cons (pv 0) (pa_cons (pe_bltn rfl T.b_tuple bt_tuple rfl) pa_nil))))) (pw_or (pt_cmpR op_ne (pe_callB call_len rfl T.b_len bt_len (pa_cons (pv 0) pa_nil)) (pe_int (i:=3)) (nomark _)) (pw_or1 (pt_not (pt_val (pe_call (FnOk.mono (ok__law_outcome T) (by decide)) hr rfl T.m__law_outcome T.f__law_outcome.kp T.b__law_outcome .nil pass10 (pa_cons (pe_ix ix_tup (pv 0) (pe_int (i:=0)) (fun _ _=>rfl)) (pa_cons (pe_ix ix_tup (pv 0) (pe_int (i:=2)) (fun _ _=>rfl)) pa_nil))))))))) (pss_one (ps_ret (pe_bl (b:=false))))
      pss_nil)
    (pss_cons (ps_if (PW.pt (pw_or (pt_not (pt_val (pe_call (FnOk.mono (ok__law_rows_of T) (by decide)) hr rfl T.m__law_rows_of T.f__law_rows_of.kp T.b__law_rows_of .nil pass10 (pa_cons (pe_ix ix_tup (pv 0) (pe_int (i:=1)) (fun _ _=>rfl)) pa_nil)))) (pw_or1 (pt_not (pt_val (pe_call (FnOk.mono (ok__law_rows_of T) (by decide)) hr rfl T.m__law_rows_of T.f__law_rows_of.kp T.b__law_rows_of .nil pass10 (pa_cons (pe_ix ix_tup (pv 0) (pe_int (i:=2)) (fun _ _=>rfl)) pa_nil))))))) (pss_one (ps_ret (pe_bl (b:=false))))
      pss_nil)
    (pss_cons (ps_for PassesOwn.never rfl (pi_range2 rfl T.b_range (pa_cons (pe_int (i:=1)) (pa_cons (pe_callB call_len rfl T.b_len bt_len (pa_cons (pe_ix ix_tup (pv 0) (pe_int (i:=2)) (fun _ _=>rfl)) pa_nil)) pa_nil))) (pg_name (i:=1) sc__law_paper.nd rfl (Or.inl rfl)) (pss_one (ps_if (pt_not (pt_cmpR (op_ltP (hu64 hr)) (pe_ix ix_tup (pe_ix ix_list (pe_ix ix_tup (pv 0) (pe_int (i:=2)) (fun _ _=>rfl)) (pe_op op_sub (pv 1) (pe_int (i:=1))) (fun _ _=>rfl)) (pe_int (i:=0)) (fun _ _=>rfl)) (pe_ix ix_tup (pe_ix ix_list (pe_ix ix_tup (pv 0) (pe_int (i:=2)) (fun _ _=>rfl)) (pv 1) (fun _ _=>rfl)) (pe_int (i:=0)) (fun _ _=>rfl)) (nomark _))) (pss_one (ps_ret (pe_bl (b:=false))))
      pss_nil)))
    (pss_one (ps_ret (pe_bl (b:=true))))))),rdp__law_paper h1 h2 h3 h4 h5 h6 h7 h8 q⟩
theorem ok__law_again (T:Txt K mg t):FnOk P w K mg base (CX1 P w) 10 t.a__law_again t.d__law_again ["code","made"] (sp__law_again t):=by
  refine T.f__law_again.ok0 sc__law_again (fun vs H Q E h=>?_) (fun cdv A outer s H vs Q E hr h=>?_)
  · obtain ⟨l,md,xs,C,ws,rfl,_⟩:=h;rfl
  obtain ⟨l,md,xs,C,ws,rfl,h1,h2,h3,h4,h5,h6,h7,q⟩:=h
  exact ⟨rd__law_again K t,(pss_cons (ps_set (i:=2) sc__law_again.nd rfl (Or.inl rfl) (pe_make T.mk_Run (FnOk.mono (ok_Run_init T) (by decide)) hr rfl T.g_Run T.b_Run_init .nil pass10 (pa_cons (pe_callTy call_list_of rfl T.b_list bt_list (pa_cons (pv 0) pa_nil)) pa_nil)))
    (pss_cons (ps_for PassesOwn.never rfl (pi_range1 rfl T.b_range (pa_cons (pe_callB call_len rfl T.b_len bt_len (pa_cons (pv 1) pa_nil)) pa_nil)) (pg_name (i:=3) sc__law_again.nd rfl (Or.inl rfl)) (pss_cons (ps_if (PW.pt (pw_or (pt_cmpR op_isnot_bl (pe_meth0 (pv 2) T.cl_Run T.me_Run_over (FnOk.mono (ok_Run_over T) (by decide)) hr T.b_Run_over .nil pass10) (pe_bl (b:=false)) (nomark _)) (pw_or1 (pt_cmpR op_notN (pe_meth0 (pv 2) T.cl_Run T.me_Run_paper (FnOk.mono (ok_Run_paper T) (by decide)) hr T.b_Run_paper .nil pass10) pe_non (nomark _))))) (pss_one (ps_ret pe_non))
      pss_nil)
    (pss_one (ps_if (pt_cmpR op_isN (pe_ix ix_list (pv 1) (pv 3) (fun _ _=>rfl)) pe_non (nomark _)) (pss_one (ps_expr (pe_meth (pv 2) T.cl_Run T.me_Run_step (FnOk.mono (ok_Run_step T) (by decide)) hr T.b_Run_step .nil pass10 (pa_cons (pe_op op_add (pe_int (i:=1000)) (pv 3)) pa_nil))))
      (pss_one (ps_expr (pe_meth (pv 2) T.cl_Run T.me_Run_step (FnOk.mono (ok_Run_step T) (by decide)) hr T.b_Run_step .nil pass10 (pa_cons (pe_ix ix_list (pv 1) (pv 3) (fun _ _=>rfl)) pa_nil))))))))
    (pss_one (ps_ret (pe_meth0 (pv 2) T.cl_Run T.me_Run_paper (FnOk.mono (ok_Run_paper T) (by decide)) hr T.b_Run_paper .nil pass10))))),rdp__law_again h1 h2 h3 h4 h5 h6 h7 q⟩
theorem ok__law_two (T:Txt K mg t):FnOk P w K mg base (CX1 P w) 11 t.a__law_two t.d__law_two ["code","cells"] (sp__law_two t):=by
  refine T.f__law_two.ok0 sc__law_two (fun vs H Q E h=>?_) (fun cdv A outer s H vs Q E hr h=>?_)
  · obtain ⟨l,p,xs,C,ns,rfl,_⟩:=h;rfl
  obtain ⟨l,p,xs,C,ns,rfl,h1,h2,h3,h4,h5,h6,h7,q⟩:=h
  exact ⟨rd__law_two K t,(pss_cons (ps_set (i:=2) sc__law_two.nd rfl (Or.inl rfl) (pe_callTy call_list_of rfl T.b_list bt_list (pa_cons (pv 0) pa_nil)))
    (pss_cons (ps_set (i:=3) sc__law_two.nd rfl (Or.inl rfl) (pe_lst (pa_cons (pe_make T.mk_Run (FnOk.mono (ok_Run_init T) (by decide)) hr rfl T.g_Run T.b_Run_init .nil pass10 (pa_cons (pv 2) pa_nil)) (pa_cons (pe_make T.mk_Run (FnOk.mono (ok_Run_init T) (by decide)) hr rfl T.g_Run T.b_Run_init .nil pass10 (pa_cons (pv 2) pa_nil)) pa_nil))))
    (pss_cons (ps_set (i:=4) sc__law_two.nd rfl (Or.inl rfl) (pe_lst (pa_cons (pe_lst pa_nil) (pa_cons (pe_lst pa_nil) pa_nil))))
    (pss_cons (ps_set (i:=5) sc__law_two.nd rfl (Or.inl rfl) (pe_int (i:=0)))
    (pss_cons (ps_while PassesOwn.never (pt_not (PW.pt (pw_and (pt_val (pe_meth0 (pe_ix ix_list (pv 3) (pe_int (i:=0)) (fun _ _=>rfl)) T.cl_Run T.me_Run_over (FnOk.mono (ok_Run_over T) (by decide)) hr T.b_Run_over .nil pass10)) (pw_and1 (pt_val (pe_meth0 (pe_ix ix_list (pv 3) (pe_int (i:=1)) (fun _ _=>rfl)) T.cl_Run T.me_Run_over (FnOk.mono (ok_Run_over T) (by decide)) hr T.b_Run_over .nil pass10)))))) (pss_cons (ps_if (pt_cmpR op_gt (pv 5) (pe_op op_mulB (pe_int (i:=4)) (pe_callB call_len rfl T.b_len bt_len (pa_cons (pv 0) pa_nil))) (nomark _)) (pss_one (ps_ret (pe_bl (b:=false))))
      pss_nil)
    (pss_cons (ps_set (i:=6) sc__law_two.nd rfl (Or.inl rfl) (pe_op op_add (pe_op op_mod (pe_ix ix_list (pv 1) (pe_op op_mod (pv 5) (pe_callB call_len rfl T.b_len bt_len (pa_cons (pv 1) pa_nil))) (fun _ _=>rfl)) (pe_op op_pow (pe_int (i:=10)) (pe_int (i:=40)))) (pv 5)))
    (pss_cons (ps_set (i:=7) sc__law_two.nd rfl (Or.inl rfl) (pe_op op_mod (pe_call (FnOk.mono (ok__law_draw T) (by decide)) hr rfl T.m__law_draw T.f__law_draw.kp T.b__law_draw .nil pass10 (pa_cons (pv 6) (pa_cons (pe_int (i:=2)) pa_nil))) (pe_int (i:=2))))
    (pss_cons (ps_if (pt_val (pe_meth0 (pe_ix ix_list (pv 3) (pv 7) (fun _ _=>rfl)) T.cl_Run T.me_Run_over (FnOk.mono (ok_Run_over T) (by decide)) hr T.b_Run_over .nil pass10)) (pss_one (ps_set (i:=7) sc__law_two.nd rfl (Or.inl rfl) (pe_op op_sub (pe_int (i:=1)) (pv 7))))
      pss_nil)
    (pss_cons (ps_expr (pe_call (FnOk.mono (ok__law_stepped T) (by decide)) hr rfl T.m__law_stepped T.f__law_stepped.kp T.b__law_stepped .nil pass10 (pa_cons (pe_ix ix_list (pv 3) (pv 7) (fun _ _=>rfl)) (pa_cons (pe_op op_add (pe_op op_mulB (pv 6) (pe_int (i:=2))) (pv 7)) (pa_cons (pe_ix ix_list (pv 4) (pv 7) (fun _ _=>rfl)) pa_nil)))))
    (pss_one (ps_set (i:=5) sc__law_two.nd rfl (Or.inl rfl) (pe_op op_add (pv 5) (pe_int (i:=1)))))))))))
    (pss_cons (ps_for PassesOwn.never rfl (pi_range1 rfl T.b_range (pa_cons (pe_int (i:=2)) pa_nil)) (pg_name (i:=8) sc__law_two.nd rfl (Or.inl rfl)) (pss_cons (ps_set (i:=9) sc__law_two.nd rfl (Or.inl rfl) (pe_meth0 (pe_ix ix_list (pv 3) (pv 8) (fun _ _=>rfl)) T.cl_Run T.me_Run_paper (FnOk.mono (ok_Run_paper T) (by decide)) hr T.b_Run_paper .nil pass10))
    (pss_one (ps_if (PW.pt (pw_or (pt_not (pt_val (pe_call (FnOk.mono (ok__law_paper T) (by decide)) hr rfl T.m__law_paper T.f__law_paper.kp T.b__law_paper .nil pass10 (pa_cons (pv 9) pa_nil)))) (pw_or (pt_cmpR op_gt (pe_callB call_len rfl T.b_len bt_len (pa_cons (pe_ix ix_list (pv 4) (pv 8) (fun _ _=>rfl)) pa_nil)) (pe_callB call_len rfl T.b_len bt_len (pa_cons (pv 0) pa_nil)) (nomark _)) (pw_or1 (pt_cmpR (op_neAll (hu64 hr)) (pe_call (FnOk.mono (ok__law_again T) (by decide)) hr rfl T.m__law_again T.f__law_again.kp T.b__law_again .nil pass10 (pa_cons (pv 0) (pa_cons (pe_ix ix_list (pv 4) (pv 8) (fun _ _=>rfl)) pa_nil))) (pv 9) (nomark _)))))) (pss_one (ps_ret (pe_bl (b:=false))))
      pss_nil))))
    (pss_one (ps_ret (pe_cmpR (op_eqAll (hu64 hr)) (pv 2) (pv 0) (nomark _)))))))))),rdp__law_two h1 h2 h3 h4 h5 h6 h7 q⟩
theorem ok_law (T:Txt K mg t):FnOk P w K mg base (CX1 P w) 16 t.a_law t.d_law ["script"] (sp_law K):=by
  refine T.f_law.ok0 sc_law (fun vs H Q E h=>?_) (fun cdv A outer s H vs Q E hr h=>?_)
  · obtain ⟨a,ns,rfl,_⟩:=h;rfl
  obtain ⟨a,ns,rfl,hS,hn,q⟩:=h
  exact ⟨rd_law K t,(pss_cons (ps_set (i:=1) sc_law.nd rfl (Or.inl rfl) (pe_call (FnOk.mono (ok__law_names T) (by decide)) hr rfl T.m__law_names T.f__law_names.kp T.b__law_names .nil pass10 (pa_cons (pe_call (FnOk.mono (ok__law_cell_at T) (by decide)) hr rfl T.m__law_cell_at T.f__law_cell_at.kp T.b__law_cell_at .nil pass10 (pa_cons (pv 0) (pa_cons (pe_int (i:=0)) pa_nil))) (pa_cons (pe_int (i:=2)) pa_nil))))
    (pss_cons (ps_set (i:=2) sc_law.nd rfl (Or.inl rfl) (pe_call (FnOk.mono (ok__law_names T) (by decide)) hr rfl T.m__law_names T.f__law_names.kp T.b__law_names .nil pass10 (pa_cons (pe_call (FnOk.mono (ok__law_cell_at T) (by decide)) hr rfl T.m__law_cell_at T.f__law_cell_at.kp T.b__law_cell_at .nil pass10 (pa_cons (pv 0) (pa_cons (pe_int (i:=1)) pa_nil))) (pa_cons (pe_int (i:=2)) pa_nil))))
    (pss_cons (ps_set (i:=3) sc_law.nd rfl (Or.inl rfl) (pe_op op_add (pe_int (i:=1)) (pe_op op_mod (pe_call (FnOk.mono (ok__law_draw T) (by decide)) hr rfl T.m__law_draw T.f__law_draw.kp T.b__law_draw .nil pass10 (pa_cons (pe_call (FnOk.mono (ok__law_cell_at T) (by decide)) hr rfl T.m__law_cell_at T.f__law_cell_at.kp T.b__law_cell_at .nil pass10 (pa_cons (pv 0) (pa_cons (pe_int (i:=0)) pa_nil))) (pa_cons (pe_int (i:=200)) pa_nil))) (pe_int (i:=8)))))
    (pss_cons (ps_set (i:=4) sc_law.nd rfl (Or.inl rfl) (pe_slice sl_list (pv 0) po_none (po_some (pe_int (i:=240)))))
    (pss_cons (ps_for PassesOwn.never rfl (pi_range3 rfl T.b_range (pa_cons (pe_int (i:=0)) (pa_cons (pe_callB call_len rfl T.b_len bt_len (pa_cons (pv 4) pa_nil)) (pa_cons (pv 3) pa_nil)))) (pg_name (i:=5) sc_law.nd rfl (Or.inl rfl)) (pss_cons (ps_set (i:=6) sc_law.nd rfl (Or.inl rfl) (pe_slice sl_list (pv 4) (po_some (pv 5)) (po_some (pe_op op_add (pv 5) (pv 3)))))
    (pss_cons (ps_set (i:=7) sc_law.nd rfl (Or.inl rfl) (pe_call (FnOk.mono (ok_code_of T) (by decide)) hr rfl T.m_code_of T.f_code_of.kp T.b_code_of .nil pass10 (pa_cons (pe_call (FnOk.mono (ok__law_rows T) (by decide)) hr rfl T.m__law_rows T.f__law_rows.kp T.b__law_rows .nil pass10 (pa_cons (pv 6) (pa_cons (pv 1) (pa_cons (pv 2) pa_nil)))) pa_nil)))
    (pss_one (ps_if (PW.pt (pw_or (pt_not (pt_val (pe_call (FnOk.mono (ok__law_leads_on T) (by decide)) hr rfl T.m__law_leads_on T.f__law_leads_on.kp T.b__law_leads_on .nil pass10 (pa_cons (pv 7) pa_nil)))) (pw_or1 (pt_not (pt_val (pe_call (FnOk.mono (ok__law_two T) (by decide)) hr rfl T.m__law_two T.f__law_two.kp T.b__law_two .nil pass10 (pa_cons (pv 7) (pa_cons (pv 6) pa_nil)))))))) (pss_one (ps_ret (pe_bl (b:=false))))
      pss_nil)))))
    (pss_one (ps_ret (pe_and (pe_cmpR op_is_bl (pe_meth0 (pe_make T.mk_Run (FnOk.mono (ok_Run_init T) (by decide)) hr rfl T.g_Run T.b_Run_init .nil pass10 (pa_cons (pe_lst pa_nil) pa_nil)) T.cl_Run T.me_Run_over (FnOk.mono (ok_Run_over T) (by decide)) hr T.b_Run_over .nil pass10) (pe_bl (b:=true)) (nomark _)) (pe_one (pe_cmpR op_isN (pe_meth0D (pe_make T.mk_Run (FnOk.mono (ok_Run_init T) (by decide)) hr rfl T.g_Run T.b_Run_init .nil pass10 (pa_cons (pe_lst pa_nil) pa_nil)) T.cl_Run T.me_Run_step (FnOk.mono (ok_Run_step T) (by decide)) hr T.bd_Run_step pass10) pe_non (nomark _))))))))))),rdp_law hS hn q⟩
end
end K27
open PySem PySem.W PyProof.Rows
def PySem.W.Fast.tw6399804159176260214:Unit:=()
def PySem.W.Fast.tw9673423127741645546:Unit:=()
def PySem.W.Fast.tw4252013869092769831:Unit:=()
def PySem.W.Fast.tw7958697365175380847:Unit:=()
def PySem.W.Fast.tw12098151148630282272:Unit:=()
def PySem.W.Fast.tw6421770053992675963:Unit:=()
def PySem.W.Fast.tw5229325596749369629:Unit:=()
def PySem.W.Fast.tw8178802634063793983:Unit:=()
def PySem.W.Fast.tw13060102348561096738:Unit:=()
def PySem.W.Fast.tw8241075754152741685:Unit:=()
def PySem.W.Fast.tw16945523623600746259:Unit:=()
def PySem.W.Fast.tw18360340117761368839:Unit:=()
def PySem.W.Fast.tw2501326478164225169:Unit:=()
def PySem.W.Fast.tw9506905298278321555:Unit:=()
def PySem.W.Fast.tw6427916669267709034:Unit:=()
def PySem.W.Fast.tw12356617703318488506:Unit:=()
def PySem.W.Fast.tw2708241248951837017:Unit:=()
def PySem.W.Fast.tw16691453604020605035:Unit:=()
def PySem.W.Fast.tw4769648114551093582:Unit:=()
def PySem.W.Fast.tw17453521903107537961:Unit:=()
def PySem.W.Fast.tw15584762898897540601:Unit:=()
def PySem.W.Fast.tw12295243842148813524:Unit:=()
def PySem.W.Fast.tw6670184744977022591:Unit:=()
def PySem.W.Fast.tw14232715383715330701:Unit:=()
def PySem.W.Fast.tw106024936949775869:Unit:=()
def PySem.W.Fast.tw989447988328445824:Unit:=()
def PySem.W.Fast.tw118939486948805950:Unit:=()
def PySem.W.Fast.tw10785963809785627571:Unit:=()
def PySem.W.Fast.tw8578990419327011421:Unit:=()
def PySem.W.Fast.tw15509304057484584701:Unit:=()
def PySem.W.Fast.tw12117201097018405733:Unit:=()
def PySem.W.Fast.tw4062161022546353748:Unit:=()
def PySem.W.Fast.tw2435802076478595868:Unit:=()
def PySem.W.Fast.tw10593120838242717155:Unit:=()
def PySem.W.Fast.tw3519842729950143330:Unit:=()
def PySem.W.Fast.tw13042933843391879269:Unit:=()
def PySem.W.Fast.tw7557251580372696846:Unit:=()
def PySem.W.Fast.tw3623432401143993146:Unit:=()
def PySem.W.Fast.tw4237347911308736294:Unit:=()
def PySem.W.Fast.tw12307191126767177669:Unit:=()
def PySem.W.Fast.tw15694542569035899645:Unit:=()
def PySem.W.Fast.tw13622422603451552741:Unit:=()
def PySem.W.Fast.tw4666722464389078133:Unit:=()
def PySem.W.Fast.tw14444311436822992905:Unit:=()
def PySem.W.Fast.tw10231910176575256500:Unit:=()
def PySem.W.Fast.tw1543714751352012671:Unit:=()
def PySem.W.Fast.tw635164872880772695:Unit:=()
def PySem.W.Fast.tw7868717872834934874:Unit:=()
def PySem.W.Fast.tw12532662141853717197:Unit:=()
def PySem.W.Fast.tw7767546089193892858:Unit:=()
def PySem.W.Fast.tw6333390998368273849:Unit:=()
def PySem.W.Fast.tw16817498415658637998:Unit:=()
def PySem.W.Fast.tw3827402627088874453:Unit:=()
def PySem.W.Fast.tw5947683987034967870:Unit:=()
def PySem.W.Fast.tw12384571744144902833:Unit:=()
def PySem.W.Fast.tw4532267501543319057:Unit:=()
def PySem.W.Fast.tw12310533461852281317:Unit:=()
def PySem.W.Fast.tw9380168985617324058:Unit:=()
def PySem.W.Fast.tw12673434394714110950:Unit:=()
def PySem.W.Fast.tw4075376410816504733:Unit:=()
def PySem.W.Fast.tw7413447597192926176:Unit:=()
def PySem.W.Fast.tw1740111995155901186:Unit:=()
def PySem.W.Fast.tw7459447348000364119:Unit:=()
def PySem.W.Fast.tw7735149968238912403:Unit:=()
def PySem.W.Fast.tw1152264877049983199:Unit:=()
def PySem.W.Fast.tw2352877992924181744:Unit:=()
def PySem.W.Fast.tw2397898355740264538:Unit:=()
def PySem.W.Fast.tw2424426297617676838:Unit:=()
def PySem.W.Fast.tw15723386115055479981:Unit:=()
def PySem.W.Fast.tw10605827290054875530:Unit:=()
def PySem.W.Fast.tw9690851411997695647:Unit:=()
def PySem.W.Fast.tw7458275958477043257:Unit:=()
def PySem.W.Fast.tw4544214440659884730:Unit:=()
def PySem.W.Fast.tw12227273131645317646:Unit:=()
def PySem.W.Fast.tw15703292047483449614:Unit:=()
def PySem.W.Fast.tw725745535543032319:Unit:=()
def PySem.W.Fast.tw15422109901515356339:Unit:=()
def PySem.W.Fast.tw18320359499175238184:Unit:=()
def PySem.W.Fast.tw5309673477122861343:Unit:=()
def PySem.W.Fast.tw5748274139985664414:Unit:=()
def PySem.W.Fast.tw11043045580800632003:Unit:=()
def PySem.W.Fast.tw4108925898937332053:Unit:=()
def PySem.W.Fast.tw11230404079137410082:Unit:=()
def PySem.W.Fast.tw15897302803634007423:Unit:=()
def PySem.W.Fast.tw9631581349731406932:Unit:=()
def PySem.W.Fast.tw14249528065191930261:Unit:=()
def PySem.W.Fast.tw605810927178582652:Unit:=()
def PySem.W.Fast.tw13045195626305941126:Unit:=()
def PySem.W.Fast.tw16913018973780030099:Unit:=()
def PySem.W.Fast.tw13219126488709142982:Unit:=()
def PySem.W.Fast.tw17381121780104307815:Unit:=()
def PySem.W.Fast.tw5222649476908616126:Unit:=()
def PySem.W.Fast.tw15794449303818108758:Unit:=()
def PySem.W.Fast.tw2836029309882724300:Unit:=()
def PySem.W.Fast.tw6960959864849820461:Unit:=()
def PySem.W.Fast.tw9862573776725605586:Unit:=()
def PySem.W.Fast.tw2503424826978649631:Unit:=()
def PySem.W.Fast.tw14495784522498894411:Unit:=()
def PySem.W.Fast.tw7879108740040748217:Unit:=()
def PySem.W.Fast.tw2133887686946851174:Unit:=()
def PySem.W.Fast.tw9141444531395114876:Unit:=()
def PySem.W.Fast.tw9650789742153383502:Unit:=()
def PySem.W.Fast.tw14943624027891225227:Unit:=()
def PySem.W.Fast.tw18365189994697921999:Unit:=()
def PySem.W.Fast.tw6663363032226180457:Unit:=()
def PySem.W.Fast.tw15831859504644386595:Unit:=()
def PySem.W.Fast.tw11107860519140251686:Unit:=()
def PySem.W.Fast.tw16838139340176594151:Unit:=()
def PySem.W.Fast.tw3913107618586415583:Unit:=()
def PySem.W.Fast.tw8913791596770730963:Unit:=()
def PySem.W.Fast.tw9943088886462623352:Unit:=()
def PySem.W.Fast.tw16834103795424564169:Unit:=()
def PySem.W.Fast.tw3155111744554243175:Unit:=()
def PySem.W.Fast.tw5385739221477197897:Unit:=()
def PySem.W.Fast.tw18319869979984519897:Unit:=()
def PySem.W.Fast.tw16411597074056404530:Unit:=()
def PySem.W.Fast.tw5838936468050462645:Unit:=()
def PySem.W.Fast.tw18200476464883778398:Unit:=()
def PySem.W.Fast.tw16777941283387630795:Unit:=()
def PySem.W.Fast.tw15681990612961494450:Unit:=()
def PySem.W.Fast.tw556284805840118407:Unit:=()
def PySem.W.Fast.tw5895023301217033306:Unit:=()
def PySem.W.Fast.tw12635875592500764639:Unit:=()
def PySem.W.Fast.tw10277690403283604266:Unit:=()
def PySem.W.Fast.tw4970211287196394469:Unit:=()
def PySem.W.Fast.tw12772676266228242553:Unit:=()
def PySem.W.Fast.tw5905370568678786714:Unit:=()
def PySem.W.Fast.tw14275486193338911583:Unit:=()
def PySem.W.Fast.tw9672629137200527996:Unit:=()
def PySem.W.Fast.tw17967021945378282501:Unit:=()
def PySem.W.Fast.tw60050210805633171:Unit:=()
def PySem.W.Fast.tw12659560205684787347:Unit:=()
def PySem.W.Fast.tw10982905043181924991:Unit:=()
def PySem.W.Fast.tw15280353791705993368:Unit:=()
def PySem.W.Fast.tw12244669121868274738:Unit:=()
def PySem.W.Fast.tw3516022421958399320:Unit:=()
def PySem.W.Fast.tw13797310026572922470:Unit:=()
def PySem.W.Fast.tw9294574428645006291:Unit:=()
def PySem.W.Fast.tw10519863978342909098:Unit:=()
def PySem.W.Fast.tw15055790611250288712:Unit:=()
def PySem.W.Fast.tw5639669686198081734:Unit:=()
def PySem.W.Fast.tw10856660030113925407:Unit:=()
def PySem.W.Fast.tw9341914337352444718:Unit:=()
def PySem.W.Fast.tw2878372527060054358:Unit:=()
def PySem.W.Fast.tw2361000401261724339:Unit:=()
def PySem.W.Fast.tw183720675207997293:Unit:=()
def PySem.W.Fast.tw2177809645791369554:Unit:=()
def PySem.W.Fast.tw16607761628925678822:Unit:=()
def PySem.W.Fast.tw15692305728300999533:Unit:=()
def PySem.W.Fast.tw861565861188286224:Unit:=()
def PySem.W.Fast.tw9865332723658200797:Unit:=()
def PySem.W.Fast.tw3937682625263860054:Unit:=()
def PySem.W.Fast.tw6575015220053164439:Unit:=()
def PySem.W.Fast.tw9869743512287119816:Unit:=()
def PySem.W.Fast.tw13253668255226108681:Unit:=()
def PySem.W.Fast.tw11657302824162677556:Unit:=()
def PySem.W.Fast.tw7002370843316764724:Unit:=()
def PySem.W.Fast.tw12285169153747770200:Unit:=()
def PySem.W.Fast.tw13671861802685433105:Unit:=()
def PySem.W.Fast.tw4451330415935414400:Unit:=()
def PySem.W.Fast.tw14937339034242362635:Unit:=()
def PySem.W.Fast.tw13021933141916091222:Unit:=()
def PySem.W.Fast.tw7427918969852235802:Unit:=()
def PySem.W.Fast.tw11558603185973766562:Unit:=()
def PySem.W.Fast.tw5654169177137864034:Unit:=()
def PySem.W.Fast.tw2100118567556788792:Unit:=()
def PySem.W.Fast.tw862194014953264830:Unit:=()
def PySem.W.Fast.tw134069454484009392:Unit:=()
def PySem.W.Fast.tw4675806051309933500:Unit:=()
def PySem.W.Fast.tw552226291010399355:Unit:=()
def PySem.W.Fast.tw4627632922889258:Unit:=()
def PySem.W.Fast.tw9595605106351580672:Unit:=()
def PySem.W.Fast.tw15375809740125653983:Unit:=()
def PySem.W.Fast.tw16561684681943008883:Unit:=()
def PySem.W.Fast.tw6369852408281775493:Unit:=()
def PySem.W.Fast.tw11699317394627238238:Unit:=()
def PySem.W.Fast.tw5345006359809727159:Unit:=()
def PySem.W.Fast.tw13403563681840240191:Unit:=()
def PySem.W.Fast.tw3275546267461776424:Unit:=()
def PySem.W.Fast.tw10786086485747430656:Unit:=()
def PySem.W.Fast.tw14320691334165351943:Unit:=()
def PySem.W.Fast.tw9364838529100206871:Unit:=()
def PySem.W.Fast.tw11793001567245472992:Unit:=()
def PySem.W.Fast.tw12683111033155225834:Unit:=()
def PySem.W.Fast.tw14525770329816561312:Unit:=()
def PySem.W.Fast.tw6549577181991219451:Unit:=()
def PySem.W.Fast.tw17501194585777887779:Unit:=()
def PySem.W.Fast.tw13168494369614129119:Unit:=()
def PySem.W.Fast.tw14811071450397114692:Unit:=()
def PySem.W.Fast.tw17906630140438698831:Unit:=()
def PySem.W.Fast.tw2760255067550344252:Unit:=()
def PySem.W.Fast.tw3926739106039403482:Unit:=()
def PySem.W.Fast.tw783283051841533020:Unit:=()
def PySem.W.Fast.tw16176124944162121552:Unit:=()
def PySem.W.Fast.tw10013105229047689834:Unit:=()
def PySem.W.Fast.tw10445938147537471646:Unit:=()
def PySem.W.Fast.tw1702262384636840367:Unit:=()
def PySem.W.Fast.tw12348735796660780082:Unit:=()
def PySem.W.Fast.tw16502896002175790409:Unit:=()
def PySem.W.Fast.tw8480203293442879774:Unit:=()
def PySem.W.Fast.tw6125993448186202441:Unit:=()
def PySem.W.Fast.tw5853232864206866888:Unit:=()
def PySem.W.Fast.tw953546419915066961:Unit:=()
def PySem.W.Fast.tw10792045204287040580:Unit:=()
def PySem.W.Fast.tw3012785970790316020:Unit:=()
def PySem.W.Fast.tw10589202476371273872:Unit:=()
def PySem.W.Fast.tw9081278944673190305:Unit:=()
def PySem.W.Fast.tw6234725793581033076:Unit:=()
def PySem.W.Fast.tw17669391345609157953:Unit:=()
def PySem.W.Fast.tw14719262303195208688:Unit:=()
def PySem.W.Fast.tw14270304069498855841:Unit:=()
def PySem.W.Fast.tw17483151798763385300:Unit:=()
def PySem.W.Fast.tw12286607384985397843:Unit:=()
def PySem.W.Fast.tw11911720091057330926:Unit:=()
def PySem.W.Fast.tw12717308841299584879:Unit:=()
def PySem.W.Fast.tw16154190935198903015:Unit:=()
def PySem.W.Fast.tw10255017006025772684:Unit:=()
def PySem.W.Fast.tw4893966011636112902:Unit:=()
def PySem.W.Fast.tw153854495301225983:Unit:=()
def PySem.W.Fast.tw18081954694734070224:Unit:=()
def PySem.W.Fast.tw11812649860917911798:Unit:=()
def PySem.W.Fast.tw1863044626300107190:Unit:=()
def PySem.W.Fast.tw6191292100423488659:Unit:=()
def PySem.W.Fast.tw4610764735892083400:Unit:=()
def PySem.W.Fast.tw9186129794240826910:Unit:=()
def PySem.W.Fast.tw8417336683860327009:Unit:=()
def PySem.W.Fast.tw1231983274297069930:Unit:=()
def PySem.W.Fast.tw808310916113481639:Unit:=()
def PySem.W.Fast.tw5419051502031968372:Unit:=()
def PySem.W.Fast.tw16098399546097112197:Unit:=()
def PySem.W.Fast.tw2047512916296132815:Unit:=()
def PySem.W.Fast.tw14580033367205090507:Unit:=()
def PySem.W.Fast.tw1818268927872758393:Unit:=()
def PySem.W.Fast.tw14885021897605244678:Unit:=()
def PySem.W.Fast.tw9880998820724706081:Unit:=()
def PySem.W.Fast.tw1686623309399110221:Unit:=()
def PySem.W.Fast.tw410320827125182756:Unit:=()
def PySem.W.Fast.tw12622372751207106359:Unit:=()
def PySem.W.Fast.tw10072954195800072918:Unit:=()
def PySem.W.Fast.tw6849396774441340504:Unit:=()
def PySem.W.Fast.tw9830230469963226643:Unit:=()
def PySem.W.Fast.tw17226780329386532039:Unit:=()
def PySem.W.Fast.tw14574396398576691933:Unit:=()
def PySem.W.Fast.tw5831243592101417895:Unit:=()
def PySem.W.Fast.tw13412356771176198925:Unit:=()
def PySem.W.Fast.tw4016511504249289892:Unit:=()
def PySem.W.Fast.tw6788427718095231286:Unit:=()
def PySem.W.Fast.tw16991294068662141633:Unit:=()
def PySem.W.Fast.tw7879950107727893027:Unit:=()
def PySem.W.Fast.tw16730617513702520980:Unit:=()
def PySem.W.Fast.tw18291698521514053272:Unit:=()
def PySem.W.Fast.tw6594471297232640377:Unit:=()
def PySem.W.Fast.tw11895088539465309815:Unit:=()
def PySem.W.Fast.tw12679772956838536081:Unit:=()
def PySem.W.Fast.tw18061067373712844290:Unit:=()
def PySem.W.Fast.tw17181742332104209849:Unit:=()
def PySem.W.Fast.tw7903021665231508901:Unit:=()
def PySem.W.Fast.tw13374822346414560858:Unit:=()
def PySem.W.Fast.tw12981784371912892591:Unit:=()
def PySem.W.Fast.tw14761197898440225677:Unit:=()
def PySem.W.Fast.tw6208111496169840729:Unit:=()
def PySem.W.Fast.tw4142679536820618288:Unit:=()
def PySem.W.Fast.tw7996386956395705518:Unit:=()
def PySem.W.Fast.tw9360805444034735789:Unit:=()
def PySem.W.Fast.tw1520267893638594334:Unit:=()
def PySem.W.Fast.tw16715701073354464415:Unit:=()
def PySem.W.Fast.tw303033795911082980:Unit:=()
def PySem.W.Fast.tw4193448180528831626:Unit:=()
def PySem.W.Fast.tw1051646842402659540:Unit:=()
def PySem.W.Fast.tw6809906804427493834:Unit:=()
def PySem.W.Fast.tw12012697270179167289:Unit:=()
def PySem.W.Fast.tw16020666607784279255:Unit:=()
def PySem.W.Fast.tw12225188540785485476:Unit:=()
def PySem.W.Fast.tw3592046795103882801:Unit:=()
def PySem.W.Fast.tw3721952889028598709:Unit:=()
def PySem.W.Fast.tw4968313805776437721:Unit:=()
def PySem.W.Fast.tw6796511666244449034:Unit:=()
def PySem.W.Fast.tw2910510821269672972:Unit:=()
def PySem.W.Fast.tw3952888352545217837:Unit:=()
set_option maxRecDepth 100000 in
set_option maxHeartbeats 0 in
theorem PySem.Challenge.cw_forerun_k27_answered_alike_holds : PySem.Challenge.rw_forerun_k27_answered_alike.Holds := by
  w_on; o_law; k_head; (case hw => w_witness2)
  k_fill
  refine L2.walk_ofX (l := PySem.Challenge.rw_forerun_k27_answered_alike) (n := 63) (k := 16) (x := "script") (sp := K27.sp_law) rfl (by decide) rfl ⟨rfl, by decide, by decide⟩ (fun w h Y => PySem.W.kIn_of Y) ?F ?S
  case F =>
    intro w mg fa h KX G hmg
    have T : ∃ t, K27.Txt (L2.KOf KX) mg t := by
      dsimp only [L2.KOf]
      refine' K27.txt_mk KX G ?qa0 ?ql0 ?qc0 ?qk0 ?qa1 ?ql1 ?qc1 ?qk1 ?qa2 ?ql2 ?qc2 ?qk2 ?qa3 ?ql3 ?qc3 ?qk3 ?qa4 ?ql4 ?qc4 ?qk4 ?qa5 ?ql5 ?qc5 ?qk5 ?qa6 ?ql6 ?qc6 ?qk6 ?qa7 ?ql7 ?qc7 ?qk7 ?qa8 ?ql8 ?qc8 ?qk8 ?qa9 ?ql9 ?qc9 ?qk9 ?qa10 ?qi10 ?ql10 ?qc10 ?qk10 ?qa11 ?qi11 ?ql11 ?qc11 ?qk11 ?qa12 ?ql12 ?qc12 ?qk12 ?qa13 ?ql13 ?qc13 ?qk13 ?qa14 ?ql14 ?qc14 ?qk14 ?qa15 ?ql15 ?qc15 ?qk15 ?qa16 ?ql16 ?qc16 ?qk16 ?qa17 ?qi17 ?ql17 ?qc17 ?qk17 ?qa18 ?qi18 ?ql18 ?qc18 ?qk18 ?qa19 ?qi19 ?ql19 ?qc19 ?qk19 ?qa20 ?qi20 ?ql20 ?qc20 ?qk20 ?qa21 ?qi21 ?ql21 ?qc21 ?qk21 ?qd21 ?qa22 ?ql22 ?qc22 ?qk22 ?qa23 ?qi23 ?ql23 ?qc23 ?qk23 ?qa24 ?qi24 ?ql24 ?qc24 ?qk24 ?qa25 ?ql25 ?qc25 ?qk25 ?qa26 ?qi26 ?ql26 ?qc26 ?qk26 ?qa27 ?ql27 ?qc27 ?qk27 ?qa28 ?ql28 ?qc28 ?qk28 ?qa29 ?ql29 ?qc29 ?qk29 ?qa30 ?ql30 ?qc30 ?qk30 ?qa31 ?ql31 ?qc31 ?qk31 ?qa32 ?ql32 ?qc32 ?qk32 ?qz0 ?qz1 ?qz2 ?qz3 ?qz4 ?qz5 ?qz6 ?qz7 ?qz8 ?qg0 ?qh0 ?qv0 ?qv1 ?qv2 ?pg2 ?pd2 ?po2 ?pe2 ?pm2_ ?pk2 ?pn2_0 ?pn2_1 ?pn2_2 ?pn2_3 ?pn2_4 ?pn2_5 ?pn2_6 ?rx0 ?ry0_0 ?ry0_1 ?ry0_2 ?ry0_3 ?ry0_4 ?ry0_5 ?ry0_6 ?ry0_7 ?re0_0 ?re0_1 ?rm0_0 ?rx1 ?ry1_0 ?ry1_1 ?ry1_2 ?ry1_3 ?ry1_4 ?ry1_5 ?ry1_6 ?ry1_7 ?re1_0 ?re1_1 ?rm1_0
      (case qv0 => k_is)
      (case qv1 => k_is)
      (case qv2 => k_is)
      (case qa0 => k_is)
      (case ql0 => k_is)
      (case qc0 => k_is)
      (case qk0 => k_is)
      (case qa1 => k_is)
      (case ql1 => k_is)
      (case qc1 => k_is)
      (case qk1 => k_is)
      (case qa2 => k_is)
      (case ql2 => k_is)
      (case qc2 => k_is)
      (case qk2 => k_is)
      (case qa3 => k_is)
      (case ql3 => k_is)
      (case qc3 => k_is)
      (case qk3 => k_is)
      (case qa4 => k_is)
      (case ql4 => k_is)
      (case qc4 => k_is)
      (case qk4 => k_is)
      (case qa5 => k_is)
      (case ql5 => k_is)
      (case qc5 => k_is)
      (case qk5 => k_is)
      (case qa6 => k_is)
      (case ql6 => k_is)
      (case qc6 => k_is)
      (case qk6 => k_is)
      (case qa7 => k_is)
      (case ql7 => k_is)
      (case qc7 => k_is)
      (case qk7 => k_is)
      (case qa8 => k_is)
      (case ql8 => k_is)
      (case qc8 => k_is)
      (case qk8 => k_is)
      (case qa9 => k_is)
      (case ql9 => k_is)
      (case qc9 => k_is)
      (case qk9 => k_is)
      (case qa10 => k_is)
      (case qi10 => k_is)
      (case ql10 => k_is)
      (case qc10 => k_is)
      (case qk10 => k_is)
      (case qa11 => k_is)
      (case qi11 => k_is)
      (case ql11 => k_is)
      (case qc11 => k_is)
      (case qk11 => k_is)
      (case qa12 => k_is)
      (case ql12 => k_is)
      (case qc12 => k_is)
      (case qk12 => k_is)
      (case qa13 => k_is)
      (case ql13 => k_is)
      (case qc13 => k_is)
      (case qk13 => k_is)
      (case qa14 => k_is)
      (case ql14 => k_is)
      (case qc14 => k_is)
      (case qk14 => k_is)
      (case qa15 => k_is)
      (case ql15 => k_is)
      (case qc15 => k_is)
      (case qk15 => k_is)
      (case qa16 => k_is)
      (case ql16 => k_is)
      (case qc16 => k_is)
      (case qk16 => k_is)
      (case qa17 => k_is)
      (case qi17 => k_is)
      (case ql17 => k_is)
      (case qc17 => k_is)
      (case qk17 => k_is)
      (case qa18 => k_is)
      (case qi18 => k_is)
      (case ql18 => k_is)
      (case qc18 => k_is)
      (case qk18 => k_is)
      (case qa19 => k_is)
      (case qi19 => k_is)
      (case ql19 => k_is)
      (case qc19 => k_is)
      (case qk19 => k_is)
      (case qa20 => k_is)
      (case qi20 => k_is)
      (case ql20 => k_is)
      (case qc20 => k_is)
      (case qk20 => k_is)
      (case qa21 => k_is)
      (case qi21 => k_is)
      (case ql21 => k_is)
      (case qc21 => k_is)
      (case qk21 => k_is)
      (case qd21 => k_is)
      (case qa22 => k_is)
      (case ql22 => k_is)
      (case qc22 => k_is)
      (case qk22 => k_is)
      (case qa23 => k_is)
      (case qi23 => k_is)
      (case ql23 => k_is)
      (case qc23 => k_is)
      (case qk23 => k_is)
      (case qa24 => k_is)
      (case qi24 => k_is)
      (case ql24 => k_is)
      (case qc24 => k_is)
      (case qk24 => k_is)
      (case qa25 => k_is)
      (case ql25 => k_is)
      (case qc25 => k_is)
      (case qk25 => k_is)
      (case qa26 => k_is)
      (case qi26 => k_is)
      (case ql26 => k_is)
      (case qc26 => k_is)
      (case qk26 => k_is)
      (case qa27 => k_is)
      (case ql27 => k_is)
      (case qc27 => k_is)
      (case qk27 => k_is)
      (case qa28 => k_is)
      (case ql28 => k_is)
      (case qc28 => k_is)
      (case qk28 => k_is)
      (case qa29 => k_is)
      (case ql29 => k_is)
      (case qc29 => k_is)
      (case qk29 => k_is)
      (case qa30 => k_is)
      (case ql30 => k_is)
      (case qc30 => k_is)
      (case qk30 => k_is)
      (case qa31 => k_is)
      (case ql31 => k_is)
      (case qc31 => k_is)
      (case qk31 => k_is)
      (case qa32 => k_is)
      (case ql32 => k_is)
      (case qc32 => k_is)
      (case qk32 => k_is)
      (case qz0 => k_is)
      (case qz1 => k_is)
      (case qz2 => k_is)
      (case qz3 => k_is)
      (case qz4 => k_is)
      (case qz5 => k_is)
      (case qz6 => k_is)
      (case qz7 => k_is)
      (case qz8 => k_is)
      (case qg0 => k_is)
      (case qh0 => k_is)
      (case pg2 => k_is)
      (case pd2 => k_is)
      (case po2 => k_is)
      (case pe2 => k_is)
      (case pm2_ => k_is)
      (case pk2 => k_is)
      (case pn2_0 => k_is)
      (case pn2_1 => k_is)
      (case pn2_2 => k_is)
      (case pn2_3 => k_is)
      (case pn2_4 => k_is)
      (case pn2_5 => k_is)
      (case pn2_6 => k_is)
      (case rx0 => k_exc)
      (case ry0_0 => k_is)
      (case ry0_1 => k_is)
      (case ry0_2 => k_is)
      (case ry0_3 => k_is)
      (case ry0_4 => k_is)
      (case ry0_5 => k_is)
      (case ry0_6 => k_is)
      (case ry0_7 => k_is)
      (case re0_0 => kernel_rfl)
      (case re0_1 => kernel_rfl)
      (case rm0_0 => kernel_rfl)
      (case rx1 => k_exc)
      (case ry1_0 => k_is)
      (case ry1_1 => k_is)
      (case ry1_2 => k_is)
      (case ry1_3 => k_is)
      (case ry1_4 => k_is)
      (case ry1_5 => k_is)
      (case ry1_6 => k_is)
      (case ry1_7 => k_is)
      (case re1_0 => kernel_rfl)
      (case re1_1 => kernel_rfl)
      (case rm1_0 => kernel_rfl)
    obtain ⟨t, T⟩ := T
    have e0 := hmg.symm.trans T.m_law
    cases e0
    exact ⟨_, T.w_law, fun base _ _ => K27.ok_law T⟩
  case S => exact fun K H a ns hl _ hS => ⟨a, ns, rfl, hS, hl, fun _ => rfl⟩
