import PyProof.Rows.All
import Wide.All
import OpenK.AllK
import Wide.FinOn
import Lean
import PyProof.EqAt
import PyProof.EqKinds
import PyProof.TupleCall
import PySem.Challenge.RW_forerun_k35_below_the_fold
import KE.IntBitsLaws
import KE.KDictList
import KE.KDictOf
import KE.KEqDict
import KE.KIntText
import KE.KItemsList
import KE.KRevIter
import KE.KSortAsk
import KE.KSortTup
import KE.KSorted
import KE.KTryMore
import KE.LcSums
import PyProof.AttrMissHeap
import PyProof.Conv_int_bool
import PyProof.DictItems
import PyProof.DictKinds
import PyProof.DictWalks
import PyProof.EnumFor
import PyProof.EnumMake
import PyProof.EqKinds
import PyProof.ListIndexNeg
import PyProof.MeetsStr
import PyProof.NeKinds
import PyProof.NsDelKeeps
import PyProof.P3Eq
import PyProof.Rows.EqDataRows
import PyProof.Rows.Range3
import PyProof.StrCalls2
import PyProof.StrLaws
import PyProof.StrLawsTight
import PyProof.StrOps
import PyProof.StrOps2
import PyProof.TupleIter
import PyProof.TupleKey
import PyProof.TupleOfSeq
import PyProof.ZipIter
import Wide.ObjOpen
import Wide.RegSB
set_option Elab.async false
set_option linter.all false
set_option maxRecDepth 100000
namespace L2
open PySem PySem.Spec PyProof.Rows
abbrev Key:=Sum Int Str
def keyIs:Key→Value→Bool
  | .inl k,v=>Value.isInt k v
  | .inr x,v=>Value.isStrOf x v
def keyH (w:World):Key→Int
  | .inl k=>hashInt k
  | .inr x=>hashStr w x
theorem keyIs_shape:∀ {k:Key} {v:Value},keyIs k v=true→(∃ i t,k=Sum.inl i∧v=Value.int i t)∨(∃ x t,k=Sum.inr x∧v=Value.str x t)
  | .inl i,v,h=>by
    obtain ⟨t,e⟩:=Value.isInt_shape (k:=i) (v:=v) h
    exact .inl ⟨i,t,rfl,e⟩
  | .inr x,v,h=>by
    obtain ⟨t,e⟩:=Value.isStrOf_shape (x:=x) (v:=v) h
    exact .inr ⟨x,t,rfl,e⟩
theorem keyIs_int (i:Int) (t:Tok):keyIs (.inl i) (.int i t)=true:=by simp [keyIs,Value.isInt]
theorem keyIs_str (x:Str) (t:Tok):keyIs (.inr x) (.str x t)=true:=by simp [keyIs,Value.isStrOf]
theorem key_ll (a b:Int):decide ((Sum.inl a:Key)=Sum.inl b)=(a == b):=by
  by_cases e:a=b
  · subst e;simp
  · have h:¬ (Sum.inl a:Key)=Sum.inl b:=fun q=>e (Sum.inl.inj q)
    rw [decide_eq_false h]
    exact (beq_eq_false_iff_ne.mpr e).symm
theorem key_rr (a b:Str):decide ((Sum.inr a:Key)=Sum.inr b)=decide (a=b):=by
  by_cases e:a=b
  · subst e;simp
  · have h:¬ (Sum.inr a:Key)=Sum.inr b:=fun q=>e (Sum.inr.inj q)
    rw [decide_eq_false h,decide_eq_false e]
theorem key_lr (a:Int) (b:Str):decide ((Sum.inl a:Key)=Sum.inr b)=false:=decide_eq_false (fun q=>nomatch q)
theorem key_rl (a:Str) (b:Int):decide ((Sum.inr a:Key)=Sum.inl b)=false:=decide_eq_false (fun q=>nomatch q)
def mixKind (prog:Program) (w:World):PySem.KeyKind prog w Key where
  is:=keyIs
  hash:=keyH w
  inj:=fun v a b ha hb=>by
    rcases keyIs_shape ha with ⟨i,t,rfl,rfl⟩ | ⟨x,t,rfl,rfl⟩
    · rcases keyIs_shape hb with ⟨j,u,rfl,e⟩ | ⟨y,u,rfl,e⟩
      · injection e with e1 _;rw [e1]
      · exact nomatch e
    · rcases keyIs_shape hb with ⟨j,u,rfl,e⟩ | ⟨y,u,rfl,e⟩
      · exact nomatch e
      · injection e with e1 _;rw [e1]
  byValue:=fun k v h=>by
    rcases keyIs_shape h with ⟨i,t,rfl,rfl⟩ | ⟨x,t,rfl,rfl⟩ <;> rfl
  pyHash:=fun hv h=>by
    rcases keyIs_shape hv with ⟨i,t,rfl,rfl⟩ | ⟨x,t,rfl,rfl⟩
    · exact wpAny_pyHash_int h
    · exact wpAny_pyHash_str h
  eqBool:=fun hu hv h=>by
    rcases keyIs_shape hu with ⟨i,t,rfl,rfl⟩ | ⟨x,t,rfl,rfl⟩
    · rcases keyIs_shape hv with ⟨j,u,rfl,rfl⟩ | ⟨y,u,rfl,rfl⟩
      · rw [key_ll] at h;exact wpAny_eqBool_int h
      · rw [key_lr] at h;exact SeqAt.EqAt.int_str i t y u _ _ _ _ h
    · rcases keyIs_shape hv with ⟨j,u,rfl,rfl⟩ | ⟨y,u,rfl,rfl⟩
      · rw [key_rl] at h;exact SeqAt.EqAt.str_int x t j u _ _ _ _ h
      · rw [key_rr] at h;exact wpAny_eqBool_str h
  «strs»:=fun k x t v h=>by
    rcases keyIs_shape h with ⟨i,u,rfl,e⟩ | ⟨y,u,rfl,e⟩
    · exact nomatch e
    · injection e with e1 _
      subst e1
      cases v <;> rfl
theorem mixKind_int (prog:Program) (w:World) (i:Int) (t:Tok):(mixKind prog w).is (.inl i) (.int i t)=true:=keyIs_int i t
theorem mixKind_str (prog:Program) (w:World) (x:Str) (t:Tok):(mixKind prog w).is (.inr x) (.str x t)=true:=keyIs_str x t
end L2
namespace L2
open PySem PySem.Spec PyProof.Rows
inductive V where
  | non | bl (b:Bool) | int (i:Int) | str (x:Str) | byt (b:Array UInt8) | flt (b:UInt64) | ref (a:Addr) | ty (n:String)
  deriving DecidableEq
def RelV:V→Value→Prop
  | .non,u=>u=Value.none
  | .bl b,u=>u=Value.bool b
  | .int i,u=>∃ t,u=Value.int i t
  | .str x,u=>∃ t,u=Value.str x t
  | .byt b,u=>∃ t,u=Value.bytes b t
  | .flt b,u=>∃ t,u=Value.float b t
  | .ref a,u=>u=Value.ref a
  | .ty n,u=>u=Value.type n
abbrev Vals:List V→List Value→Prop:=Paired RelV
theorem Vals.length {xs:List V} {us:List Value} (r:Vals xs us):xs.length=us.length:=Paired.length r
theorem Vals.get:∀ {xs:List V} {us:List Value} {i:Nat} {x:V},Vals xs us→xs[i]?=some x→∃ u,us[i]?=some u∧RelV x u
  | _,_,_,_,.nil,e=>by simp at e
  | _,_,0,_,.cons r _,e=>by simp at e;subst e;exact ⟨_,rfl,r⟩
  | _,_,i + 1,x,.cons _ t,e=>by
    obtain ⟨u,h1,h2⟩:=Vals.get (i:=i) (x:=x) t (by simpa using e)
    exact ⟨u,by simpa using h1,h2⟩
theorem Vals.append:∀ {xs ys:List V} {us ws:List Value},Vals xs us→Vals ys ws→Vals (xs ++ ys) (us ++ ws)
  | _,_,_,_,.nil,s=>s
  | _,_,_,_,.cons r t,s=>.cons r (Vals.append t s)
theorem Vals.take:∀ {xs:List V} {us:List Value} (n:Nat),Vals xs us→Vals (xs.take n) (us.take n)
  | _,_,0,_=>.nil
  | _,_,_ + 1,.nil=>.nil
  | _,_,n + 1,.cons r t=>.cons r (Vals.take n t)
theorem Vals.drop:∀ {xs:List V} {us:List Value} (n:Nat),Vals xs us→Vals (xs.drop n) (us.drop n)
  | _,_,0,r=>r
  | _,_,_ + 1,.nil=>.nil
  | _,_,n + 1,.cons _ t=>Vals.drop n t
def RelO:Option V→Option Value→Prop
  | some v,some u=>RelV v u
  | none,none=>True
  | _,_=>False
def KV {κ:Type}:List (κ × V)→List (κ × Value)→Prop:=Paired fun (p:κ × V) (q:κ × Value)=>p.1=q.1∧RelV p.2 q.2
def kV:Key→V
  | .inl i=>.int i
  | .inr x=>.str x
inductive HO where
    | lst (xs:List V)
    | tup (xs:List V)
    | dK (kvs:List (Key × V)) | dT (kvs:List (List Key × V))
    | set (S:Int→Bool) (n:Nat)
    | ins (C dx:Addr) (fs:List (Str × V))
    | own (x:Addr)
    | xd (fs:List (Str × V))
    | met (f x:Addr)
    | rng (lo hi:Int)
    | frz (o:Obj) (u:HO)
    | tbl (ps:Array Value)
    | ext (φ:Heap→Prop)
abbrev Hp:=Addr→Option HO
def upd (H:Hp) (a:Addr) (o:HO):Hp:=fun b=>if b=a then some o else H b
theorem upd_same {H:Hp} {a:Addr} {o:HO}:upd H a o a=some o:=by unfold upd;rw [if_pos rfl]
theorem upd_ne {H:Hp} {a b:Addr} {o:HO} (h:b≠a):upd H a o b=H b:=by unfold upd;rw [if_neg h]
theorem upd_upd {H:Hp} {a:Addr} {o u:HO}:upd (upd H a o) a u=upd H a u:=by
  funext b;unfold upd;split <;> rfl
theorem ne_of {H:Hp} {a b:Addr} {o u:HO} (h:H a=some o) (h':H b=some u) (d:o≠u):a≠b:=by
  intro e;subst e;rw [h] at h';exact d (Option.some.inj h')
theorem ne_of_none {H:Hp} {a b:Addr} {o:HO} (h:H a=some o) (h':H b=none):a≠b:=by
  intro e;subst e;rw [h] at h';cases h'
section
variable (P:Program) (w:World)
def ObjOk (H:Hp) (h:Heap) (a:Addr):HO→Prop
  | .lst xs=>xs.length≤sizeLine∧∃ (its:List Value) (n:Nat),Vals xs its∧h.get? a=some { cls:=.type "list",data:=.seq its.toArray n }
  | .tup xs=>xs.length≤sizeLine∧∃ its:List Value,Vals xs its∧IsTup h a its.toArray
  | .dK kvs=>kvs.length≤sizeLine∧(a == sysModules)=false∧∃ vs,KV kvs vs∧h.DictOf (mixKind P w) a vs
  | .dT kvs=>kvs.length≤sizeLine∧(a == sysModules)=false∧∃ xs:List (List Key × Addr × Value),
      Paired (fun (p:List Key × V) (q:List Key × Addr × Value)=>p.1=q.1∧H q.2.1=some (.tup (p.1.map kV))∧RelV p.2 q.2.2) kvs xs ∧
      ∃ o es ep,h.get? a=some o∧o.ExactDict∧o.data=.dict es ep∧es.toList=xs.map (entryOfKey (tupleKind (mixKind P w)))∧(xs.map (·.1)).Nodup
  | .set S n=>h.SetOf (intKind P w) a S n
  | .ins C dx fs=>H dx=some (.own a)∧fs.length≤1000∧dx≠a∧h.get? a=some (PySem.W.instObj C dx) ∧
      ∃ mA,h.Ns1 dx mA∧(∀ f,RelO (fs.lookup f) (mA f))∧PySem.Within mA (fs.map (·.1))
  | .own _=>∃ o,h.get? a=some o
  | .xd fs=>∃ mA,h.Ns1 a mA∧∀ f,RelO (fs.lookup f) (mA f)
  | .rng lo hi=>∃ t u v,h.get? a=some { cls:=.type "range",data:=.fields #[.int lo t,.int hi u,.int 1 v] }
  | .frz o u=>h.get? a=some o∧ObjOk H h a u
  | .tbl ps=>h.get? a=some { cls:=.none,data:=.fields ps }
  | .met f x=>h.get? a=some (PySem.W.methodObj (.ref f) (.ref x))
  | .ext φ=>φ h∧(∃ o,h.get? a=some o)∧∀ h1 h2:Heap,φ h1→(∀ o,h1.get? a=some o→h2.get? a=some o)→φ h2
def HOk (H:Hp) (h:Heap):Prop:=∀ a o,H a=some o→ObjOk P w H h a o
end
section
variable {P:Program} {w:World} {H H':Hp} {h h':Heap} {a:Addr} {o:HO}
theorem ObjOk.lt (x:ObjOk P w H h a o):a < h.objs.size:=by
  cases o with
  | lst xs=>obtain ⟨_,_,_,_,e⟩:=x;exact Heap.lt_size e
  | tup xs=>obtain ⟨_,_,_,p⟩:=x;exact p.lt
  | dK kvs=>obtain ⟨_,_,_,_,o,_,_,e,_⟩:=x;exact Heap.lt_size e
  | dT kvs=>obtain ⟨_,_,_,_,o,_,_,e,_⟩:=x;exact Heap.lt_size e
  | set S n=>obtain ⟨o,_,_,_,e,_⟩:=x;exact Heap.lt_size e
  | ins C dx fs=>obtain ⟨_,_,_,e,_⟩:=x;exact Heap.lt_size e
  | own y=>obtain ⟨_,e⟩:=x;exact Heap.lt_size e
  | xd fs=>obtain ⟨_,⟨_,_,_,e,_⟩,_⟩:=x;exact Heap.lt_size e
  | rng lo hi=>obtain ⟨_,_,_,e⟩:=x;exact Heap.lt_size e
  | frz ob u=>obtain ⟨e,_⟩:=x;exact Heap.lt_size e
  | tbl ps=>exact Heap.lt_size (show h.get? a=some _ from x)
  | met f y=>exact Heap.lt_size (show h.get? a=some _ from x)
  | ext φ=>obtain ⟨_,⟨_,e⟩,_⟩:=x;exact Heap.lt_size e
theorem Paired.mapP {α β:Type} {F G:α→β→Prop}:∀ {l₁:List α} {l₂:List β},Paired F l₁ l₂→(∀ a b,F a b→G a b)→Paired G l₁ l₂
  | _,_,.nil,_=>.nil
  | _,_,.cons r t,f=>.cons (f _ _ r) (Paired.mapP t f)
theorem ObjOk.stay (x:ObjOk P w H h a o) (k:∀ b u,(b=a∨H b=some (.own a))→h.get? b=some u→h'.get? b=some u)
    (ho:∀ b,H b=some (.own a)→H' b=some (.own a)) (ht:∀ b xs,H b=some (.tup xs)→H' b=some (.tup xs)):ObjOk P w H' h' a o:=by
  induction o with
  | lst xs=>obtain ⟨z,its,n,r,e⟩:=x;exact ⟨z,its,n,r,k _ _ (.inl rfl) e⟩
  | tup xs=>obtain ⟨z,its,r,ob,e,c⟩:=x;exact ⟨z,its,r,ob,k _ _ (.inl rfl) e,c⟩
  | dK kvs=>obtain ⟨z,y,vs,r,ob,es,ep,e,c⟩:=x;exact ⟨z,y,vs,r,ob,es,ep,k _ _ (.inl rfl) e,c⟩
  | dT kvs =>
    obtain ⟨z,y,xs,r,ob,es,ep,e,c⟩:=x
    exact ⟨z,y,xs,Paired.mapP r fun p q z=>⟨z.1,ht _ _ z.2.1,z.2.2⟩,ob,es,ep,k _ _ (.inl rfl) e,c⟩
  | set S n=>obtain ⟨ob,es,ep,t,e,c⟩:=x;exact ⟨ob,es,ep,t,k _ _ (.inl rfl) e,c⟩
  | ins C dx fs =>
    obtain ⟨d,z,ne,e,mA,⟨od,es,ep,e2,c⟩,r⟩:=x
    exact ⟨ho _ d,z,ne,k _ _ (.inl rfl) e,mA,⟨od,es,ep,k _ _ (.inr d) e2,c⟩,r⟩
  | own y=>obtain ⟨ob,e⟩:=x;exact ⟨ob,k _ _ (.inl rfl) e⟩
  | xd fs=>obtain ⟨mA,⟨od,es,ep,e,c⟩,r⟩:=x;exact ⟨mA,⟨od,es,ep,k _ _ (.inl rfl) e,c⟩,r⟩
  | rng lo hi=>obtain ⟨t,u,v,e⟩:=x;exact ⟨t,u,v,k _ _ (.inl rfl) e⟩
  | frz ob u ih=>obtain ⟨e,q⟩:=x;exact ⟨k _ _ (.inl rfl) e,ih q⟩
  | tbl ps =>
    have e:h.get? a=some { cls:=.none,data:=.fields ps }:=x
    show h'.get? a=some { cls:=.none,data:=.fields ps }
    exact k a _ (.inl rfl) e
  | met f y =>
    have e:h.get? a=some (PySem.W.methodObj (.ref f) (.ref y)):=x
    show h'.get? a=some (PySem.W.methodObj (.ref f) (.ref y))
    exact k a _ (.inl rfl) e
  | ext φ=>obtain ⟨p,⟨o,e⟩,st⟩:=x;exact ⟨st _ _ p fun o q=>k _ _ (.inl rfl) q,⟨o,k _ _ (.inl rfl) e⟩,st⟩
theorem HOk.lt (x:HOk P w H h) (e:H a=some o):a < h.objs.size:=(x a o e).lt
theorem HOk.fresh (x:HOk P w H h) (e:h.objs.size≤a):H a=none:=by
  cases q:H a with
  | none=>rfl
  | some u=>exact absurd (Nat.lt_of_lt_of_le (x.lt q) e) (Nat.lt_irrefl _)
theorem HOk.kept (x:HOk P w H h) (k:∀ b u,h.get? b=some u→h'.get? b=some u):HOk P w H h':=fun a o e =>
  (x a o e).stay (fun b u _ q=>k b u q) (fun _ q=>q) fun _ _ q=>q
theorem HOk.laid (x:HOk P w H h) (k:∀ b u,h.get? b=some u→h'.get? b=some u) (hp:h.objs.size≤a) (new:ObjOk P w (upd H a o) h' a o):HOk P w (upd H a o) h':=fun b u e=>by
  have hn:=x.fresh hp
  by_cases hb:b=a
  · subst hb;rw [upd_same] at e;cases e;exact new
  · rw [upd_ne hb] at e
    exact (x b u e).stay (fun c v _ q=>k c v q) (fun c q=>by rw [upd_ne (ne_of_none q hn)];exact q) fun c xs q=>by rw [upd_ne (ne_of_none q hn)];exact q
end
def Rd (H:Hp) (a:Addr) (u:HO):Prop:=H a=some u∨∃ o,H a=some (.frz o u)
theorem Rd.ok {P:Program} {w:World} {H:Hp} {h:Heap} {a:Addr} {u:HO} (r:Rd H a u) (x:HOk P w H h):ObjOk P w H h a u:=by
  rcases r with r | ⟨o,r⟩
  · exact x a u r
  · obtain ⟨_,q⟩:=x a _ r
    exact q
def Mut:Option HO→Prop
  | some (.lst _)=>True
  | some (.dK _)=>True
  | some (.dT _)=>True
  | some (.set _ _)=>True
  | some (.ins _ _ _)=>True
  | some (.ext _)=>True
  | _=>False
section
variable {P:Program} {w:World} {H:Hp} {h h':Heap} {x e:Addr} {o':HO}
theorem HOk.write (ok:HOk P w H h) (mu:Mut (H x)) (he:e=x∨H e=some (.own x)) (k:∀ b u,b≠e→h.get? b=some u→h'.get? b=some u) (heo:∃ u,h'.get? e=some u)
    (new:ObjOk P w (upd H x o') h' x o'):HOk P w (upd H x o') h':=fun b u q=>by
  have nown:∀ c y,H c=some (.own y)→c≠x:=fun c y r z=>by subst z;rw [r] at mu;exact mu
  have ntup:∀ c xs,H c=some (.tup xs)→c≠x:=fun c xs r z=>by subst z;rw [r] at mu;exact mu
  by_cases hb:b=x
  · subst hb;rw [upd_same] at q;cases q;exact new
  · rw [upd_ne hb] at q
    by_cases hbe:b=e
    · have q':H b=some (.own x):=by
        rcases he with z | z
        · exact absurd (hbe.trans z) hb
        · rw [hbe];exact z
      rw [q] at q';cases q'
      obtain ⟨v,hv⟩:=heo
      exact ⟨v,by rw [hbe];exact hv⟩
    · refine (ok b u q).stay (fun c v hc r=>k c v ?_ r) (fun c r=>by rw [upd_ne (nown c b r)];exact r) fun c xs r=>by rw [upd_ne (ntup c xs r)];exact r
      rcases hc with rfl | hc
      · exact hbe
      · rintro rfl
        rcases he with z | z
        · exact nown c b hc z
        · rw [hc] at z;cases z;exact hb rfl
end
structure Un (fs ex:List Addr) (H H':Hp) (h h':Heap):Prop where
  keep:∀ b o,h.get? b=some o→H b=none→b ∉ fs→b ∉ ex→h'.get? b=some o
  slot:∀ b o,h.get? b=some o→H b=none→b∈fs→b ∉ ex→∃ sl,h'.get? b=some { o with slots:=sl }
  free:∀ b o,h.get? b=some o→H b=none→b ∉ ex→H' b=none
  there:∀ b o,h.get? b=some o→b ∉ ex→∃ o',h'.get? b=some o'
  tups:∀ b xs,H b=some (.tup xs)→H' b=some (.tup xs)
  frzs:∀ b o u,H b=some (.frz o u)→H' b=some (.frz o u)
  tbls:∀ b ps,H b=some (.tbl ps)→∃ more,H' b=some (.tbl (ps ++ more))
section
variable {fs fs' ex ex':List Addr} {H H1 H2:Hp} {h h1 h2 h':Heap} {a x e:Addr} {o:HO}
theorem Un.any (u:Un fs ex H H1 h h1) {b:Addr} {ob:Obj} (q:h.get? b=some ob) (n:H b=none) (hx:b ∉ ex):∃ sl,h1.get? b=some { ob with slots:=sl }:=by
  by_cases hb:b∈fs
  · exact u.slot b ob q n hb hx
  · exact ⟨ob.slots,u.keep b ob q n hb hx⟩
theorem Un.kept (k:∀ b u,h.get? b=some u→h'.get? b=some u):Un fs ex H H h h' :=
  ⟨fun b ob q _ _ _=>k b ob q,fun b ob q _ _ _=>⟨ob.slots,k b ob q⟩,fun _ _ _ n _=>n,fun b ob q _=>⟨ob,k b ob q⟩,fun _ _ q=>q,fun _ _ _ q=>q,fun _ ps q=>⟨#[],by rw [q];simp⟩⟩
theorem Un.refl:Un fs ex H H h h:=Un.kept fun _ _ q=>q
theorem Un.laid (k:∀ b u,h.get? b=some u→h'.get? b=some u) (hp:h.objs.size≤a) (hn:H a=none):Un fs ex H (upd H a o) h h' where
  keep:=fun b u q _ _ _=>k b u q
  slot:=fun b u q _ _ _=>⟨u.slots,k b u q⟩
  free:=fun b u q n _=>by rw [upd_ne (Nat.ne_of_lt (Nat.lt_of_lt_of_le (Heap.lt_size q) hp))];exact n
  there:=fun b u q _=>⟨u,k b u q⟩
  tups:=fun b xs q=>by rw [upd_ne (ne_of_none q hn)];exact q
  frzs:=fun b u xs q=>by rw [upd_ne (ne_of_none q hn)];exact q
  tbls:=fun b ps q=>⟨#[],by rw [upd_ne (ne_of_none q hn),q];simp⟩
theorem Un.write (mu:Mut (H x)) (he:e=x∨H e=some (.own x)) (k:∀ b u,b≠e→h.get? b=some u→h'.get? b=some u) (heo:∃ u,h'.get? e=some u):Un fs ex H (upd H x o) h h':=by
  have hx:∀ b,H b=none→b≠x:=fun b n z=>by subst z;rw [n] at mu;exact mu
  have hb:∀ b,H b=none→b≠e:=fun b n z=>by
    subst z
    rcases he with r | r
    · exact hx b n r
    · rw [n] at r;cases r
  have hm:∀ b u,H b=some u→¬ Mut (some u)→b≠x:=fun b u q nm z=>by subst z;rw [q] at mu;exact nm mu
  refine ⟨fun b u q n _ _=>k b u (hb b n) q,fun b u q n _ _=>⟨u.slots,k b u (hb b n) q⟩,fun b u q n _=>by rw [upd_ne (hx b n)];exact n,fun b u q _=>?_,
    fun b xs q=>by rw [upd_ne (hm b _ q fun z=>z)];exact q,fun b u xs q=>by rw [upd_ne (hm b _ q fun z=>z)];exact q,fun b ps q=>⟨#[],by rw [upd_ne (hm b _ q fun z=>z),q];simp⟩⟩
  by_cases hbe:b=e
  · subst hbe;exact heo
  · exact ⟨u,k b u hbe q⟩
end
def trk (h:Heap) (H:Hp):List Addr:=(List.range h.objs.size).filter fun a=>(H a).isSome
def hidT (h:Heap) (H:Hp):Heap:=PySem.W.hideAll h (trk h H)
theorem hidT_size (h:Heap) (H:Hp):(hidT h H).objs.size=h.objs.size:=PySem.W.hideAll_size _ _
theorem hidT_get {h:Heap} {H:Hp} {b:Addr} {o:Obj} (e:h.get? b=some o) (n:H b=none):(hidT h H).get? b=some o :=
  PySem.W.hideAll_get _ e fun hm=>by
    have q:(H b).isSome=true:=(List.mem_filter.mp hm).2
    rw [n] at q;simp at q
theorem of_hidT {h:Heap} {H:Hp} {b:Addr} {o:Obj} (e:(hidT h H).get? b=some o):h.get? b=some o∧H b=none:=by
  have e':h.get? b=some o:=PySem.W.of_hideAll (trk h H) e
  refine ⟨e',?_⟩
  cases q:H b with
  | none=>rfl
  | some x =>
    have hm:b∈trk h H:=List.mem_filter.mpr ⟨List.mem_range.mpr (Heap.lt_size e'),by simp [q]⟩
    have z:(hidT h H).get? b=none:=PySem.W.hideAll_none (trk h H) hm
    rw [z] at e;cases e
def allNews (g h:Heap) (L:Addr):List (Addr × Obj):=(List.range h.objs.size).filterMap fun a=>if a=L∨(g.get? a).isSome=true then none else (h.get? a).map fun o=>(a,o)
def rest (g h:Heap) (L d:Addr):List (Addr × Obj):=(allNews g h L).filter fun p=>decide (p.1≠d)
end L2
namespace L2
open PySem PySem.Spec PyProof.Rows
structure Mod (K:PySem.W.Frag) (mg:Str→Option Value) (base:Heap):Prop where
  kin:K.In base
  glob:base.Ns mainGlobals mg
  blt:∃ mb,base.Ns builtinsNs mb∧∀ x:Str,x≠"__name__"→mb x=bootBuiltins x
  nolimit:base.NoLimit
set_option genSizeOf false in
set_option genInjectivity false in
structure Cx where
  prog:Program
  w:World
  K:PySem.W.Frag
  mg:Str→Option Value
  base:Heap
  A:Around
  N:List Str
  s₀:Shared
  H₀:Hp
  env:Env
  outer:List Env
  stack:List Env
  ex:List Addr
  fn:Str→Bool
  calm:Bool
  pn:List (Addr × Obj)
  xe:Value→Shared→Prop
def frs (l:List Env):List Addr:=l.filterMap (·.frame)
abbrev Cx.fs (X:Cx):List Addr:=frs X.outer
def Vis (sc:Scope) (x:Str):Prop:=sc.names.lookup x=some .local∨sc.names.lookup x=some .cell∨sc.names.lookup x=some .free
def Loc (sc:Scope) (x:Str):Prop:=sc.names.lookup x=some .local∨sc.names.lookup x=some .cell
def Look (env:Env) (h:Heap) (m:Str→Option Value) (x:Str) (u:Value):Prop :=
  (env.kindOf x=some .local∧m x=some u)∨((env.kindOf x=some .cell∨env.kindOf x=some .free)∧∃ c,env.cells.lookup x=some c∧h.IsCell c (some u))
structure Cx.Ok (X:Cx):Prop where
  mod:Mod X.K X.mg X.base
  kind:X.env.scope.kind=.function
  glob:X.env.globals=mainGlobals
  blt:X.env.builtins=builtinsNs
  above:X.s₀.heap.objs.size≤X.env.locals
  inj:∀ x y c,X.env.cells.lookup x=some c→X.env.cells.lookup y=some c→x=y
  has:∀ x,(X.env.kindOf x=some .cell∨X.env.kindOf x=some .free)→∃ c,X.env.cells.lookup x=some c
  cab:∀ x c,X.fn x=true→X.env.cells.lookup x=some c→X.s₀.heap.objs.size≤c
  hd:X.calm=true→X.A.handled=none
  frames:X.A.frames=some X.stack
  stk:X.stack=X.outer∨(X.stack=X.env :: X.outer∧X.env.frame=some X.env.locals)
  exf:∀ b∈X.ex,b≠X.env.locals∧∀ x c,X.env.cells.lookup x=some c→c≠b
  bs:∀ b o,X.base.get? b=some o→X.s₀.heap.get? b=some o∧X.H₀ b=none
  bsz:X.base.objs.size≤X.s₀.heap.objs.size
  noex:∀ b o,X.base.get? b=some o→b ∉ X.ex
  exfs:∀ b∈X.ex,b ∉ X.fs
  funs:X.s₀.heap.FunFrames X.base X.outer
  frf:∀ b∈X.fs,X.H₀ b=none
structure Inv (X:Cx) (pins:List (Addr × Obj)) (σ:List (Option V)) (H:Hp) (s:Shared):Prop where
  ok:X.Ok
  os:s.os=X.s₀.os
  bare:AllBare s.gens
  base:Un X.fs X.ex X.H₀ H X.s₀.heap s.heap
  loc:∃ m,s.heap.Ns X.env.locals m∧∀ (i:Nat) (x:Str) (v:V),X.N[i]?=some x→σ[i]?=some (some v)→Vis X.env.scope x→∃ u,RelV v u∧Look X.env s.heap m x u
  cell:∀ x c,X.env.cells.lookup x=some c→∃ v,s.heap.IsCell c v
  free:H X.env.locals=none
  freeC:∀ x c,X.env.cells.lookup x=some c→H c=none
  pin:∀ p∈X.pn ++ pins,s.heap.get? p.1=some p.2∧H p.1=none∧p.1≠X.env.locals∧p.1 ∉ X.fs∧∀ v,p.2.data≠.cell v
  hok:HOk X.prog X.w H s.heap
  len:σ.length=X.N.length
section
variable {X:Cx} {pins:List (Addr × Obj)} {σ:List (Option V)} {H H':Hp} {s:Shared} {h':Heap}
theorem Cx.Ok.nofr (ok:X.Ok) {b:Addr} {o:Obj} (e:X.base.get? b=some o):b ∉ X.fs:=fun hb=>by
  have:=(ok.funs.mem hb).1
  rw [e] at this;cases this
theorem Inv.bs (I:Inv X pins σ H s):∀ b o,X.base.get? b=some o→s.heap.get? b=some o∧H b=none:=fun b o e =>
  ⟨I.base.keep b o (I.ok.bs b o e).1 (I.ok.bs b o e).2 (I.ok.nofr e) (I.ok.noex b o e),I.base.free b o (I.ok.bs b o e).1 (I.ok.bs b o e).2 (I.ok.noex b o e)⟩
theorem Inv.bk (I:Inv X pins σ H s):∀ b o,X.base.get? b=some o→s.heap.get? b=some o:=fun b o e=>(I.bs b o e).1
theorem Inv.mod (I:Inv X pins σ H s):Mod X.K X.mg X.base:=I.ok.mod
theorem Inv.kIn (I:Inv X pins σ H s):X.K.In s.heap:=I.ok.mod.kin.keeps I.bk
theorem Inv.lt (I:Inv X pins σ H s):X.env.locals < s.heap.objs.size:=let ⟨_,hn,_⟩:=I.loc;hn.lt
theorem Inv.sz (I:Inv X pins σ H s):X.s₀.heap.objs.size≤s.heap.objs.size:=Nat.le_trans I.ok.above (Nat.le_of_lt I.lt)
theorem Inv.nofs (I:Inv X pins σ H s) {a:Addr} (h:s.heap.objs.size≤a):a ∉ X.fs:=fun hb=>by
  obtain ⟨_,o,ho,_⟩:=I.ok.funs.mem hb
  exact absurd (Nat.lt_of_lt_of_le (Heap.lt_size ho) (Nat.le_trans I.sz h)) (Nat.lt_irrefl _)
theorem Inv.cne (I:Inv X pins σ H s):∀ x c,X.env.cells.lookup x=some c→c≠X.env.locals:=fun x c e z=>by
  obtain ⟨v,o,ho,hd⟩:=I.cell x c e
  obtain ⟨m,⟨o',es,ep,ho',hd',_⟩,_⟩:=I.loc
  rw [z,ho'] at ho;cases ho;rw [hd'] at hd;cases hd
theorem Inv.funs (I:Inv X pins σ H s):s.heap.FunFrames X.base X.outer:=by
  have all:∀ (l:List Env),(∀ b∈frs l,b∈X.fs)→X.s₀.heap.FunFrames X.base l→s.heap.FunFrames X.base l:=by
    intro l
    induction l with
    | nil=>intro _ _;trivial
    | cons env r ih =>
      intro hs hl
      obtain ⟨hk,⟨L,o,hf,hn,ho,hd⟩,hr⟩:=hl
      have hL:L∈X.fs:=hs L (by unfold frs;rw [List.filterMap_cons,hf];exact List.mem_cons_self)
      obtain ⟨sl,e⟩:=I.base.slot L o ho (I.ok.frf L hL) hL fun z=>I.ok.exfs L z hL
      exact ⟨hk,⟨L,_,hf,hn,e,hd⟩,ih (fun b hb=>hs b (by unfold frs;rw [List.filterMap_cons,hf];exact List.mem_cons_of_mem _ hb)) hr⟩
  exact all X.outer (fun _ hb=>hb) I.ok.funs
theorem Inv.stack (I:Inv X pins σ H s):s.heap.FunFrames X.base X.stack:=by
  rcases I.ok.stk with e | ⟨e,hf⟩
  · rw [e];exact I.funs
  · rw [e]
    obtain ⟨m,hn,_⟩:=I.loc
    refine .cons (by rw [I.ok.kind];decide) hf hn ?_ I.funs
    exact Heap.get?_none_of_le (Nat.le_trans I.ok.bsz I.ok.above)
theorem Inv.stkSub (I:Inv X pins σ H s):∀ b∈frs X.stack,b∈X.env.locals :: X.fs:=fun b hb=>by
  rcases I.ok.stk with e | ⟨e,hf⟩
  · rw [e] at hb;exact List.mem_cons_of_mem _ hb
  · rw [e] at hb
    unfold frs at hb
    rw [List.filterMap_cons,hf] at hb
    exact hb
theorem Inv.stkFree (I:Inv X pins σ H s):∀ b∈frs X.stack,H b=none:=fun b hb=>by
  rcases List.mem_cons.mp (I.stkSub b hb) with e | hb
  · rw [e];exact I.free
  · obtain ⟨_,o,ho,_⟩:=I.ok.funs.mem hb
    exact I.base.free b o ho (I.ok.frf b hb) fun z=>I.ok.exfs b z hb
theorem Inv.step {g':Array GenState} {t':Nat} {d':Drawn} {ch:List Addr} (I:Inv X pins σ H s)
    (hch:∀ b∈ch,(b∈X.ex∨X.s₀.heap.objs.size≤b)∧b≠X.env.locals∧(∀ x c,X.env.cells.lookup x=some c→c≠b)∧∀ p∈X.pn ++ pins,p.1≠b)
    (keep:∀ b o,b≠X.env.locals→b ∉ X.fs→b ∉ ch→s.heap.get? b=some o→H b=none→h'.get? b=some o)
    (slot:∀ b o,b≠X.env.locals→b∈X.fs→b ∉ ch→s.heap.get? b=some o→H b=none→∃ sl,h'.get? b=some { o with slots:=sl }) (free:∀ b o,b ∉ ch→s.heap.get? b=some o→H b=none→H' b=none)
    (there:∀ b o,b ∉ ch→s.heap.get? b=some o→∃ o',h'.get? b=some o')
    (tups:∀ b xs,H b=some (.tup xs)→H' b=some (.tup xs)) (frzs:∀ b o u,H b=some (.frz o u)→H' b=some (.frz o u)) (tbls:∀ b ps,H b=some (.tbl ps)→∃ more,H' b=some (.tbl (ps ++ more)))
    (ns:∀ m,s.heap.Ns X.env.locals m→h'.Ns X.env.locals m) (hok:HOk X.prog X.w H' h') (hg:AllBare g') :
    Inv X pins σ H' { s with heap:=h',gens:=g',drawn:=d',toks:=t' }:=by
  have neL:∀ b o,X.s₀.heap.get? b=some o→b≠X.env.locals:=fun b o e=>Nat.ne_of_lt (Nat.lt_of_lt_of_le (Heap.lt_size e) I.ok.above)
  have neC:∀ b o,X.s₀.heap.get? b=some o→b ∉ X.ex→b ∉ ch:=fun b o e hx hb=>by
    rcases (hch b hb).1 with z | z
    · exact hx z
    · exact absurd (Nat.lt_of_lt_of_le (Heap.lt_size e) z) (Nat.lt_irrefl _)
  have cellK:∀ x c,X.env.cells.lookup x=some c→∀ v,s.heap.IsCell c v→h'.IsCell c v:=fun x c e v ⟨o,ho,hd⟩=>by
    have nch:c ∉ ch:=fun z=>(hch c z).2.2.1 x c e rfl
    by_cases hc:c∈X.fs
    · obtain ⟨sl,q⟩:=slot c o (I.cne x c e) hc nch ho (I.freeC x c e)
      exact ⟨_,q,hd⟩
    · exact ⟨o,keep c o (I.cne x c e) hc nch ho (I.freeC x c e),hd⟩
  refine ⟨I.ok,I.os,hg,⟨fun b o e n hb hx=>?_,fun b o e n hb hx=>?_,fun b o e n hx=>?_,fun b o e hx=>?_,fun b xs e=>tups b xs (I.base.tups b xs e),fun b o xs e=>frzs b o xs (I.base.frzs b o xs e),fun b ps e=>?_⟩,?_,fun x c e=>?_,?_,fun x c e=>?_,fun p hp=>?_,hok,I.len⟩
  · exact keep b o (neL b o e) hb (neC b o e hx) (I.base.keep b o e n hb hx) (I.base.free b o e n hx)
  · obtain ⟨sl,e1⟩:=I.base.slot b o e n hb hx
    obtain ⟨sl',e2⟩:=slot b _ (neL b o e) hb (neC b o e hx) e1 (I.base.free b o e n hx)
    exact ⟨sl',e2⟩
  · obtain ⟨o',e1⟩:=I.base.there b o e hx
    exact free b o' (neC b o e hx) e1 (I.base.free b o e n hx)
  · obtain ⟨o',e1⟩:=I.base.there b o e hx
    exact there b o' (neC b o e hx) e1
  · obtain ⟨m1,e1⟩:=I.base.tbls b ps e
    obtain ⟨m2,e2⟩:=tbls b _ e1
    exact ⟨m1 ++ m2,by rw [e2,Array.append_assoc]⟩
  · obtain ⟨m,hn,hl⟩:=I.loc
    refine ⟨m,ns m hn,fun i x v e1 e2 e3=>?_⟩
    obtain ⟨u,r,l⟩:=hl i x v e1 e2 e3
    refine ⟨u,r,?_⟩
    rcases l with l | ⟨k,c,e,z⟩
    · exact .inl l
    · exact .inr ⟨k,c,e,cellK x c e _ z⟩
  · obtain ⟨v,z⟩:=I.cell x c e
    exact ⟨v,cellK x c e v z⟩
  · obtain ⟨m,⟨o,_,_,ho,_⟩,_⟩:=I.loc
    exact free _ o (fun z=>(hch _ z).2.1 rfl) ho I.free
  · obtain ⟨v,o,ho,hd⟩:=I.cell x c e
    exact free c o (fun z=>(hch c z).2.2.1 x c e rfl) ho (I.freeC x c e)
  · obtain ⟨e,n,ne,nf,d⟩:=I.pin p hp
    have nch:p.1 ∉ ch:=fun z=>(hch p.1 z).2.2.2 p hp rfl
    exact ⟨keep p.1 p.2 ne nf nch e n,free p.1 p.2 nch e n,ne,nf,d⟩
theorem Inv.un {t':Nat} (I:Inv X pins σ H s) (u:Un X.fs [] H H' s.heap h') (hok:HOk X.prog X.w H' h'):Inv X pins σ H' { s with heap:=h',toks:=t' }:=by
  obtain ⟨m,⟨o,es,ep,ho,r⟩,_⟩:=id I.loc
  obtain ⟨sl,hL⟩:=u.any ho I.free (by simp)
  exact I.step (g':=s.gens) (d':=s.drawn) (ch:=[]) (fun _ z=>nomatch z) (fun b o _ hb _ e n=>u.keep b o e n hb (by simp)) (fun b o _ hb _ e n=>u.slot b o e n hb (by simp)) (fun b o _ e n=>u.free b o e n (by simp)) (fun b o _ e=>u.there b o e (by simp)) u.tups u.frzs u.tbls (fun m' hm=>by
    obtain ⟨o',es',ep',ho',r'⟩:=hm
    rw [ho] at ho';cases ho'
    exact ⟨_,es',ep',hL,r'⟩) hok I.bare
theorem Inv.call {g':Array GenState} {t':Nat} {d':Drawn} {ch:List Addr} (I:Inv X pins σ H s) (u:Un (frs X.stack) ch H H' s.heap h') (hok:HOk X.prog X.w H' h') (hg:AllBare g')
    (hch:∀ b∈ch,(b∈X.ex∨X.s₀.heap.objs.size≤b)∧b≠X.env.locals∧(∀ x c,X.env.cells.lookup x=some c→c≠b)∧∀ p∈X.pn ++ pins,p.1≠b) :
    Inv X pins σ H' { s with heap:=h',gens:=g',drawn:=d',toks:=t' }:=by
  obtain ⟨m,⟨o,es,ep,ho,r⟩,_⟩:=id I.loc
  obtain ⟨sl,hL⟩:=u.any ho I.free fun z=>(hch _ z).2.1 rfl
  exact I.step (ch:=ch) hch (fun b o hL hb hc e n=>u.keep b o e n (fun z=>(List.mem_cons.mp (I.stkSub b z)).elim hL hb) hc) (fun b o _ _ hc e n=>u.any e n hc) (fun b o hc e n=>u.free b o e n hc) (fun b o hc e=>u.there b o e hc) u.tups u.frzs u.tbls (fun m' hm=>by
    obtain ⟨o',es',ep',ho',r'⟩:=hm
    rw [ho] at ho';cases ho'
    exact ⟨_,es',ep',hL,r'⟩) hok hg
theorem Inv.turned {t':Nat} {it:Addr} (I:Inv X pins σ H s) (k:∀ b o,b≠it→s.heap.get? b=some o→h'.get? b=some o) (hn:H it=none) (hL:it≠X.env.locals)
    (h1:it∈X.ex∨X.s₀.heap.objs.size≤it) (h2:∀ x c,X.env.cells.lookup x=some c→c≠it) (h3:∀ p∈X.pn ++ pins,p.1≠it):Inv X pins σ H { s with heap:=h',toks:=t' }:=by
  have nit:∀ b u,H b=some u→b≠it:=fun b u e z=>by rw [z,hn] at e;cases e
  refine I.step (g':=s.gens) (d':=s.drawn) (ch:=[it]) (fun b hb=>?_) (fun b o _ _ hc e _=>k b o (fun z=>hc (by simp [z])) e) (fun b o _ _ hc e _=>⟨o.slots,k b o (fun z=>hc (by simp [z])) e⟩) (fun _ _ _ _ n=>n)
    (fun b o hc e=>⟨o,k b o (fun z=>hc (by simp [z])) e⟩) (fun _ _ e=>e) (fun _ _ _ e=>e) (fun b ps e=>⟨#[],by rw [e];simp⟩) (fun m hm=>?_) (fun b u e=>?_) I.bare
  · have e:b=it:=by simpa using hb
    subst e
    exact ⟨h1,hL,h2,h3⟩
  · obtain ⟨o,es,ep,ho,r⟩:=hm
    exact ⟨o,es,ep,k _ o (Ne.symm hL) ho,r⟩
  · refine (I.hok b u e).stay (fun c v hc q=>k c v ?_ q) (fun _ q=>q) fun _ _ q=>q
    rcases hc with z | z
    · rw [z];exact nit b u e
    · exact nit c _ z
theorem Inv.tok (I:Inv X pins σ H s) (t:Nat):Inv X pins σ H { s with toks:=t }:=I.un (h':=s.heap) (t':=t) Un.refl I.hok
theorem Inv.kept {t':Nat} (I:Inv X pins σ H s) (k:∀ b u,s.heap.get? b=some u→h'.get? b=some u):Inv X pins σ H { s with heap:=h',toks:=t' }:=I.un (Un.kept k) (I.hok.kept k)
theorem Inv.laid {a:Addr} {o:HO} {t':Nat} (I:Inv X pins σ H s) (k:∀ b u,s.heap.get? b=some u→h'.get? b=some u) (hp:s.heap.objs.size≤a) (new:ObjOk X.prog X.w (upd H a o) h' a o) :
    Inv X pins σ (upd H a o) { s with heap:=h',toks:=t' }:=I.un (Un.laid k hp (I.hok.fresh hp)) (I.hok.laid k hp new)
theorem Inv.write {x e:Addr} {o:HO} {t':Nat} (I:Inv X pins σ H s) (mu:Mut (H x)) (he:e=x∨H e=some (.own x)) (k:∀ b u,b≠e→s.heap.get? b=some u→h'.get? b=some u) (heo:∃ u,h'.get? e=some u)
    (new:ObjOk X.prog X.w (upd H x o) h' x o):Inv X pins σ (upd H x o) { s with heap:=h',toks:=t' }:=I.un (Un.write mu he k heo) (I.hok.write mu he k heo new)
theorem Inv.pins_of {pins':List (Addr × Obj)} (I:Inv X pins σ H s) (h:∀ p∈pins',s.heap.get? p.1=some p.2∧H p.1=none∧p.1≠X.env.locals∧p.1 ∉ X.fs∧∀ v,p.2.data≠.cell v):Inv X pins' σ H s :=
  ⟨I.ok,I.os,I.bare,I.base,I.loc,I.cell,I.free,I.freeC,fun p hp=>(List.mem_append.mp hp).elim (fun z=>I.pin p (List.mem_append_left _ z)) (h p),I.hok,I.len⟩
theorem nodup_ix {N:List Str} (hN:N.Nodup) {i j:Nat} {x:Str} (a:N[i]?=some x) (b:N[j]?=some x):i=j:=by
  obtain ⟨h1,e1⟩:=List.getElem?_eq_some_iff.mp a
  obtain ⟨h2,e2⟩:=List.getElem?_eq_some_iff.mp b
  exact (List.getElem_inj hN).mp (e1.trans e2.symm)
theorem store_ok2 {M:Model} {A:Around} {E:Value→Shared→Prop} {i:Nat} {x:Str} {v:V} {u:Value} {Q:Unit→Shared→Prop} (I:Inv X pins σ H s) (hN:X.N.Nodup) (hi:X.N[i]?=some x) (hx:Loc X.env.scope x) (r:RelV v u)
    (h:∀ s',Inv X pins (σ.set i (some v)) H s'→(∃ a,Heap.SameBut a s.heap s'.heap∧(a=X.env.locals∨X.env.cells.lookup x=some a))→Q () s') (hf:X.fn x=true∨X.env.scope.names.lookup x=some .local:=by first | exact .inl rfl | exact .inr rfl | assumption):wpAny M A (storeName X.env x u) Q E s:=by
  obtain ⟨m,hn,hl⟩:=id I.loc
  have hcls:(X.env.scope.kind == .class || (X.env.scope.kind == .module && X.env.locals != X.env.globals))=false:=by rw [I.ok.kind];rfl
  have hiσ:i < σ.length:=by rw [I.len];exact (List.getElem?_eq_some_iff.mp hi).1
  have cne:=I.cne
  have tracked:∀ {a:Addr} {h':Heap},(∃ o,s.heap.get? a=some o∧H a=none)→Heap.SameBut a s.heap h'→HOk X.prog X.w H h':=fun {a h'} ha hs b ob e=>by
    obtain ⟨_,_,hfree⟩:=ha
    refine (I.hok b ob e).stay (fun c w' hc q=>(hs.2 c ?_).trans q) (fun _ q=>q) fun _ _ q=>q
    rintro rfl
    rcases hc with rfl | hc
    · rw [hfree] at e;cases e
    · rw [hfree] at hc;cases hc
  rcases hx with hk | hk
  · refine wpAny_storeName_local hk hn (fun h' hn' hs=>?_) hcls
    obtain ⟨oL,_,_,hoL,_⟩:=id hn
    refine h _ ⟨I.ok,I.os,I.bare,⟨fun b o e n hb hx=>?_,fun b o e n hb hx=>?_,I.base.free,fun b o e hx=>?_,I.base.tups,I.base.frzs,I.base.tbls⟩,⟨_,hn',fun j y v' e1 e2 e3=>?_⟩,fun y c e=>?_,I.free,I.freeC,fun p hp=>?_,tracked ⟨oL,hoL,I.free⟩ hs,by simpa using I.len⟩ ⟨_,hs,.inl rfl⟩
    · exact (hs.2 b (Nat.ne_of_lt (Nat.lt_of_lt_of_le (Heap.lt_size e) I.ok.above))).trans (I.base.keep b o e n hb hx)
    · obtain ⟨sl,e1⟩:=I.base.slot b o e n hb hx
      exact ⟨sl,(hs.2 b (Nat.ne_of_lt (Nat.lt_of_lt_of_le (Heap.lt_size e) I.ok.above))).trans e1⟩
    · obtain ⟨o',e1⟩:=I.base.there b o e hx
      exact ⟨o',(hs.2 b (Nat.ne_of_lt (Nat.lt_of_lt_of_le (Heap.lt_size e) I.ok.above))).trans e1⟩
    · by_cases hj:j=i
      · subst hj
        rw [hi] at e1;cases e1
        rw [List.getElem?_set_self hiσ] at e2
        cases e2
        exact ⟨u,r,.inl ⟨hk,by simp⟩⟩
      · rw [List.getElem?_set_ne (Ne.symm hj)] at e2
        obtain ⟨u',r',q⟩:=hl j y v' e1 e2 e3
        refine ⟨u',r',?_⟩
        rcases q with ⟨k,e⟩ | ⟨k,c,e,z⟩
        · refine .inl ⟨k,?_⟩
          have:y≠x:=fun e=>hj (nodup_ix hN e1 (e ▸ hi))
          simp [this,e]
        · exact .inr ⟨k,c,e,z.sameBut hs (cne y c e)⟩
    · obtain ⟨w',z⟩:=I.cell y c e
      exact ⟨w',z.sameBut hs (cne y c e)⟩
    · obtain ⟨e,n,ne,nf,d⟩:=I.pin p hp
      exact ⟨(hs.2 p.1 ne).trans e,n,ne,nf,d⟩
  · have hfn:X.fn x=true:=by
      rcases hf with z | z
      · exact z
      · rw [z] at hk;cases hk
    obtain ⟨c,hc⟩:=I.ok.has x (.inl hk)
    obtain ⟨w',z⟩:=I.cell x c hc
    refine wpAny_storeName_cell I.ok.kind hk hc z (fun h' hc' hs=>?_)
    obtain ⟨oc,hoc,hocd⟩:=id z
    refine h { s with heap:=h' } ⟨I.ok,I.os,I.bare,⟨fun b o e n hb hx=>?_,fun b o e n hb hx=>?_,I.base.free,fun b o e hx=>?_,I.base.tups,I.base.frzs,I.base.tbls⟩,⟨m,hn.sameBut hs (Ne.symm (cne x c hc)),fun j y v' e1 e2 e3=>?_⟩,fun y c' e=>?_,I.free,I.freeC,fun p hp=>?_,tracked ⟨oc,hoc,I.freeC x c hc⟩ hs,by simpa using I.len⟩ ⟨c,hs,.inr hc⟩
    · exact (hs.2 b (Nat.ne_of_lt (Nat.lt_of_lt_of_le (Heap.lt_size e) (I.ok.cab x c hfn hc)))).trans (I.base.keep b o e n hb hx)
    · obtain ⟨sl,e1⟩:=I.base.slot b o e n hb hx
      exact ⟨sl,(hs.2 b (Nat.ne_of_lt (Nat.lt_of_lt_of_le (Heap.lt_size e) (I.ok.cab x c hfn hc)))).trans e1⟩
    · obtain ⟨o',e1⟩:=I.base.there b o e hx
      exact ⟨o',(hs.2 b (Nat.ne_of_lt (Nat.lt_of_lt_of_le (Heap.lt_size e) (I.ok.cab x c hfn hc)))).trans e1⟩
    · by_cases hj:j=i
      · subst hj
        rw [hi] at e1;cases e1
        rw [List.getElem?_set_self hiσ] at e2
        cases e2
        exact ⟨u,r,.inr ⟨.inl hk,c,hc,hc'⟩⟩
      · rw [List.getElem?_set_ne (Ne.symm hj)] at e2
        obtain ⟨u',r',q⟩:=hl j y v' e1 e2 e3
        refine ⟨u',r',?_⟩
        rcases q with q | ⟨k,c',e,z'⟩
        · exact .inl q
        · refine .inr ⟨k,c',e,z'.sameBut hs ?_⟩
          rintro rfl
          exact hj (nodup_ix hN e1 (I.ok.inj _ _ _ e hc ▸ hi))
    · by_cases hcc:c'=c
      · subst hcc;exact ⟨_,hc'⟩
      · obtain ⟨w2,z2⟩:=I.cell y c' e
        exact ⟨w2,z2.sameBut hs hcc⟩
    · obtain ⟨e,n,ne,nf,d⟩:=I.pin p hp
      refine ⟨(hs.2 p.1 ?_).trans e,n,ne,nf,d⟩
      intro q
      rw [q,hoc] at e
      have q':oc=p.2:=Option.some.inj e
      exact d w' (by rw [← q'];exact hocd)
theorem store_ok {M:Model} {A:Around} {E:Value→Shared→Prop} {i:Nat} {x:Str} {v:V} {u:Value} {Q:Unit→Shared→Prop} (I:Inv X pins σ H s) (hN:X.N.Nodup) (hi:X.N[i]?=some x) (hx:Loc X.env.scope x) (r:RelV v u)
    (h:∀ s',Inv X pins (σ.set i (some v)) H s'→Q () s') (hf:X.fn x=true∨X.env.scope.names.lookup x=some .local:=by first | exact .inl rfl | exact .inr rfl | assumption):wpAny M A (storeName X.env x u) Q E s :=
  store_ok2 I hN hi hx r (fun s' I' _=>h s' I') hf
theorem Inv.call' {s':Shared} {ch:List Addr} (I:Inv X pins σ H s) (ho:s'.os=s.os) (u:Un (frs X.stack) ch H H' s.heap s'.heap) (hok:HOk X.prog X.w H' s'.heap) (hg:AllBare s'.gens)
    (hch:∀ b∈ch,(b∈X.ex∨X.s₀.heap.objs.size≤b)∧b≠X.env.locals∧(∀ x c,X.env.cells.lookup x=some c→c≠b)∧∀ p∈X.pn ++ pins,p.1≠b):Inv X pins σ H' s':=by
  obtain ⟨h',g',d',t',o'⟩:=s'
  have e:o'=s.os:=ho
  subst e
  exact I.call (g':=g') (t':=t') (d':=d') u hok hg hch
end
abbrev XK:=Value→Option Addr→Hp→Prop
abbrev St:=List (Option V)
abbrev VK:=V→Hp→Prop
abbrev TE:=St→Hp→VK→Prop
abbrev TT:=St→Hp→(Bool→Hp→Prop)→Prop
abbrev TA:=St→Hp→(List V→Hp→Prop)→Prop
set_option genSizeOf false in
set_option genInjectivity false in
structure Ends where
  nx:St→Hp→Prop
  rt:VK
  bk:St→Hp→Prop:=fun _ _=>False
  ct:St→Hp→Prop:=fun _ _=>False
abbrev TS:=Ends→St→Hp→Prop
def EP (X:Cx) (pins:List (Addr × Obj)) (σ:St) (Q:VK) (u:Value) (s':Shared):Prop:=∃ v H',Inv X pins σ H' s'∧RelV v u∧Q v H'
def TP (X:Cx) (pins:List (Addr × Obj)) (σ:St) (Q:Bool→Hp→Prop) (b:Bool) (s':Shared):Prop:=∃ H',Inv X pins σ H' s'∧Q b H'
def AP (X:Cx) (pins:List (Addr × Obj)) (σ:St) (Q:List V→Hp→Prop) (us:List Value) (s':Shared):Prop:=∃ vs H',Inv X pins σ H' s'∧Vals vs us∧Q vs H'
def SP (X:Cx) (pins:List (Addr × Obj)) (D:Ends) (f:Flow) (s':Shared):Prop :=
  match f with
  | .next=>∃ σ' H',Inv X pins σ' H' s'∧D.nx σ' H'
  | .brk=>∃ σ' H',Inv X pins σ' H' s'∧D.bk σ' H'
  | .cont=>∃ σ' H',Inv X pins σ' H' s'∧D.ct σ' H'
  | .ret u=>∃ v σ' H',Inv X pins σ' H' s'∧RelV v u∧D.rt v H'
def PE (X:Cx) (e:Expr) (t:TE):Prop :=
  ∀ (pins:List (Addr × Obj)) (s:Shared) (σ:St) (H:Hp) (Q:VK),Inv X pins σ H s→t σ H Q→wpAny (model X.prog X.w) X.A (eval e X.env) (EP X pins σ Q) X.xe s
def PT (X:Cx) (e:Expr) (t:TT):Prop :=
  ∀ (pins:List (Addr × Obj)) (s:Shared) (σ:St) (H:Hp) (Q:Bool→Hp→Prop),Inv X pins σ H s→t σ H Q→wpAny (model X.prog X.w) X.A (isTrue e X.env (eval e X.env)) (TP X pins σ Q) X.xe s
def PW (X:Cx) (e:Expr) (t:TT):Prop :=
  ∀ (whole:Sem Value) (pins:List (Addr × Obj)) (s:Shared) (σ:St) (H:Hp) (Q:Bool→Hp→Prop),Inv X pins σ H s→t σ H Q→wpAny (model X.prog X.w) X.A (isTrue e X.env whole) (TP X pins σ Q) X.xe s
theorem PW.pt {X:Cx} {e:Expr} {t:TT} (h:PW X e t):PT X e t:=h _
def PA (X:Cx) (es:List Expr) (t:TA):Prop :=
  ∀ (pos:Pos) (pins:List (Addr × Obj)) (s:Shared) (σ:St) (H:Hp) (Q:List V→Hp→Prop),Inv X pins σ H s→t σ H Q→wpAny (model X.prog X.w) X.A (spliced (backTo pos (starEach es X.env))) (AP X pins σ Q) X.xe s
def PS (X:Cx) (st:Stmt) (t:TS):Prop :=
  ∀ (pins:List (Addr × Obj)) (s:Shared) (σ:St) (H:Hp) (D:Ends),Inv X pins σ H s→t D σ H→wpAny (model X.prog X.w) X.A (exec st X.env) (SP X pins D) X.xe s
def PSs (X:Cx) (st:List Stmt) (t:TS):Prop :=
  ∀ (pins:List (Addr × Obj)) (s:Shared) (σ:St) (H:Hp) (D:Ends),Inv X pins σ H s→t D σ H→wpAny (model X.prog X.w) X.A (execs st X.env) (SP X pins D) X.xe s
theorem thn {α:Type} {t:Sem α} {Q Q':α→Shared→Prop} {M:Model} {A:Around} {E:Value→Shared→Prop} {s:Shared} (h:wpAny M A t Q E s) (hQ:∀ a s,Q a s→Q' a s):wpAny M A t Q' E s:=wpAny_mono h hQ fun _ _ x=>x
end L2
namespace L2
open PySem PySem.Spec PyProof.Rows
section
variable {X:Cx}
def tVar (i:Nat):TE:=fun σ H Q=>∃ v,σ[i]?=some (some v)∧Q v H
def tC (v:V):TE:=fun _ H Q=>Q v H
theorem pe_var {i:Nat} {x:Str} {pos:Pos} (hN:X.N[i]?=some x) (hv:Vis X.env.scope x) (hd:(x == ("__debug__":Str))=false:=by decide) (hcd:(x == ("__classdict__":Str))=false:=by decide):PE X (.Name x pos) (tVar i):=by
  intro pins s σ H Q I h
  obtain ⟨v,e,h⟩:=h
  obtain ⟨m,hn,hl⟩:=I.loc
  obtain ⟨u,r,l⟩:=hl i x v hN e hv
  have fin:EP X pins σ Q u s:=⟨v,H,I,r,h⟩
  rcases l with ⟨hk,hm⟩ | ⟨hk,c,hc,hcell⟩
  · exact wpAny_Name (wpAny_loadName_local I.ok.kind hk hn hm fin) hd
  · rcases hk with hk | hk
    · exact wpAny_Name (wpAny_loadName_cell I.ok.kind hk hc hcell fin) hd
    · exact wpAny_Name (wpAny_loadName_free I.ok.kind hk hc hcell fin hcd) hd
theorem pe_int {i j pos}:PE X (.Constant (.int i) j pos) (tC (.int i)):=fun _ _ _ H _ I h=>wpAny_Constant_int ⟨.int i,H,I.tok _,⟨_,rfl⟩,h⟩
theorem pe_bl {b j pos}:PE X (.Constant (.bool b) j pos) (tC (.bl b)):=fun _ _ _ H _ I h=>Constant_bool ⟨.bl b,H,I,rfl,h⟩
theorem pe_non {j pos}:PE X (.Constant .none j pos) (tC .non):=fun _ _ _ H _ I h=>Constant_none ⟨.non,H,I,rfl,h⟩
theorem pe_str {x j pos}:PE X (.Constant (.str x) j pos) (tC (.str x)):=fun _ _ _ H _ I h=>Calls.Constant_str ⟨.str x,H,I.tok _,⟨_,rfl⟩,h⟩
def Gl (X:Cx) (x:Str):Prop:=X.env.kindOf x=some .globalImplicit
theorem ld_glob {E:Value→Shared→Prop} {pins:List (Addr × Obj)} {s:Shared} {σ:St} {H:Hp} {x:Str} {u:Value} {pos:Pos} {Q:Value→Shared→Prop} (I:Inv X pins σ H s) (hg:Gl X x) (hm:X.mg x=some u) (h:Q u s)
    (hd:(x == ("__debug__":Str))=false:=by decide):wpAny (model X.prog X.w) X.A (eval (.Name x pos) X.env) Q E s :=
  Calls.Name_function_global I.ok.kind hg (Calls.loadGlobal_global (by rw [I.ok.glob];exact I.mod.glob.keeps I.bk) hm h) hd
theorem ld_blt {E:Value→Shared→Prop} {pins:List (Addr × Obj)} {s:Shared} {σ:St} {H:Hp} {x:Str} {u:Value} {pos:Pos} {Q:Value→Shared→Prop} (I:Inv X pins σ H s) (hg:Gl X x) (hm:X.mg x=none) (hv:bootBuiltins x=some u) (h:Q u s)
    (hn:x≠"__name__":=by decide) (hd:(x == ("__debug__":Str))=false:=by decide):wpAny (model X.prog X.w) X.A (eval (.Name x pos) X.env) Q E s:=by
  obtain ⟨mb,h1,h2⟩:=I.mod.blt
  exact Calls.Name_function_global I.ok.kind hg (Calls.loadGlobal_builtin (by rw [I.ok.glob];exact I.mod.glob.keeps I.bk) hm (by rw [I.ok.blt];exact h1.keeps I.bk) ((h2 x hn).trans hv) h) hd
theorem pe_glob {x:Str} {v:V} {u:Value} {pos:Pos} (hg:Gl X x) (hm:X.mg x=some u) (r:RelV v u) (hd:(x == ("__debug__":Str))=false:=by decide):PE X (.Name x pos) (tC v) :=
  fun _ _ _ H _ I h=>ld_glob I hg hm ⟨v,H,I,r,h⟩ hd
theorem pe_bltn {x:Str} {v:V} {u:Value} {pos:Pos} (hg:Gl X x) (hm:X.mg x=none) (hv:bootBuiltins x=some u) (r:RelV v u) (hn:x≠"__name__":=by decide) (hd:(x == ("__debug__":Str))=false:=by decide):PE X (.Name x pos) (tC v) :=
  fun _ _ _ H _ I h=>ld_blt I hg hm hv ⟨v,H,I,r,h⟩ hn hd
variable {a b:Expr} {ta tb:TE} {pos:Pos}
def tB (t:TE):TT:=fun σ H Q=>t σ H fun x H1=>∃ c,x=.bl c∧Q c H1
theorem pt_val {e:Expr} {t:TE} (h:PE X e t) (he:∀ whole,isTrue e X.env whole=(do let v ← whole;standAt e.pos;holding [v] (truthy v)):=by intro _;rfl):PT X e (tB t):=by
  intro pins s σ H Q I hw
  refine isTrue_plain (thn (h pins s σ H _ I hw) fun v s1 ⟨x,H1,I1,r1,q1⟩=>?_) (he _)
  obtain ⟨d,rfl,q⟩:=q1
  cases r1
  exact wpAny_truthy_bool ⟨H1,I1,q⟩
variable {tA tB':TT} {rest:List Expr}
def tAnd (t u:TT):TT:=fun σ H Q=>t σ H fun c H1=>if c=true then u σ H1 Q else Q false H1
def tOr (t u:TT):TT:=fun σ H Q=>t σ H fun c H1=>if c=true then Q true H1 else u σ H1 Q
def tNot (t:TT):TT:=fun σ H Q=>t σ H fun c H1=>Q (!c) H1
theorem pw_and1 (ha:PT X a tA):PW X (.BoolOp .And [a] pos) tA:=by
  intro wh pins s σ H Q I h
  refine isTrue_and (thn (ha pins s σ H Q I h) fun c s1 e=>?_)
  cases c with
  | true=>exact isTrue_and_nil e
  | false=>exact e
theorem pw_or1 (ha:PT X a tA):PW X (.BoolOp .Or [a] pos) tA:=by
  intro wh pins s σ H Q I h
  refine isTrue_or (thn (ha pins s σ H Q I h) fun c s1 e=>?_)
  cases c with
  | false=>exact isTrue_or_nil e
  | true=>exact e
theorem pw_and (ha:PT X a tA) (hb:PW X (.BoolOp .And (b :: rest) pos) tB'):PW X (.BoolOp .And (a :: b :: rest) pos) (tAnd tA tB'):=by
  intro wh pins s σ H Q I h
  refine isTrue_and (thn (ha pins s σ H _ I h) fun c s1 ⟨H1,I1,q1⟩=>?_)
  cases c with
  | true=>exact hb wh pins s1 σ H1 Q I1 q1
  | false=>exact ⟨H1,I1,q1⟩
theorem pw_or (ha:PT X a tA) (hb:PW X (.BoolOp .Or (b :: rest) pos) tB'):PW X (.BoolOp .Or (a :: b :: rest) pos) (tOr tA tB'):=by
  intro wh pins s σ H Q I h
  refine isTrue_or (thn (ha pins s σ H _ I h) fun c s1 ⟨H1,I1,q1⟩=>?_)
  cases c with
  | true=>exact ⟨H1,I1,q1⟩
  | false=>exact hb wh pins s1 σ H1 Q I1 q1
theorem pt_not (ha:PT X a tA):PT X (.UnaryOp .Not a pos) (tNot tA):=by
  intro pins s σ H Q I h
  exact isTrue_not (ha pins s σ H (fun c H1=>Q (!c) H1) I h)
def tAndV (ta tb:TE):TE:=fun σ H Q=>ta σ H fun x H1=>∃ c,x=.bl c∧if c=true then tb σ H1 Q else Q (.bl false) H1
def tOrV (ta tb:TE):TE:=fun σ H Q=>ta σ H fun x H1=>∃ c,x=.bl c∧if c=true then Q (.bl true) H1 else tb σ H1 Q
def tNotV (ta:TE):TE:=fun σ H Q=>ta σ H fun x H1=>∃ c,x=.bl c∧Q (.bl (!c)) H1
theorem pe_one {op} {t:TE} (h:PE X a t):PE X (.BoolOp op [a] pos) t:=fun pins s σ H Q I hw=>BoolOp_one (h pins s σ H Q I hw)
theorem pe_and (ha:PE X a ta) (hb:PE X (.BoolOp .And (b :: rest) pos) tb):PE X (.BoolOp .And (a :: b :: rest) pos) (tAndV ta tb):=by
  intro pins s σ H Q I h
  refine BoolOp_and (thn (ha pins s σ H _ I h) fun v s1 ⟨x,H1,I1,r1,q1⟩=>?_)
  obtain ⟨c,rfl,q1⟩:=q1
  cases r1
  refine wpAny_truthy_bool ?_
  cases c with
  | true=>exact hb pins s1 σ H1 Q I1 q1
  | false=>exact ⟨.bl false,H1,I1,rfl,q1⟩
theorem pe_not (ha:PE X a ta):PE X (.UnaryOp .Not a pos) (tNotV ta):=by
  intro pins s σ H Q I h
  refine UnaryOp_ (thn (ha pins s σ H _ I h) fun v s1 ⟨x,H1,I1,r1,q1⟩=>?_)
  obtain ⟨c,rfl,q1⟩:=q1
  cases r1
  exact not_of (wpAny_truthy_bool ⟨.bl (!c),H1,I1,rfl,q1⟩)
def tIf (t:TT) (ta tb:TE):TE:=fun σ H Q=>t σ H fun c H1=>if c=true then ta σ H1 Q else tb σ H1 Q
theorem pe_ifExp {c:Expr} (hc:PT X c tA) (ha:PE X a ta) (hb:PE X b tb):PE X (.IfExp c a b pos) (tIf tA ta tb):=by
  intro pins s σ H Q I h
  refine wpAny_IfExp (thn (hc pins s σ H _ I h) fun d s1 ⟨H1,I1,q1⟩=>?_)
  cases d with
  | true=>exact ha pins s1 σ H1 Q I1 q1
  | false=>exact hb pins s1 σ H1 Q I1 q1
end
end L2
namespace L2
open PySem PySem.Spec PyProof.Rows
def SqL (K:PySem.W.Frag) (H:Hp) (a:Addr) (xs:List V):Prop :=
  Rd H a (.lst xs) ∨
    ∃ (o:Obj) (its:Array Value) (n:Nat),K.lookup a=some o∧o.cls=.type "list"∧o.dict=none∧o.data=.seq its n∧its.size≤sizeLine∧Vals xs its.toList
def SqT (K:PySem.W.Frag) (H:Hp) (a:Addr) (xs:List V):Prop :=
  Rd H a (.tup xs) ∨
    ∃ (o:Obj) (its:Array Value) (n:Nat),K.lookup a=some o∧o.cls=.type "tuple"∧o.data=.seq its n∧its.size≤sizeLine∧Vals xs its.toList
def absV:Value→Option V
  | .none=>some .non
  | .bool b=>some (.bl b)
  | .int i _=>some (.int i)
  | .str x _=>some (.str x)
  | .bytes b _=>some (.byt b)
  | .float b _=>some (.flt b)
  | .ref a=>some (.ref a)
  | .type n=>some (.ty n)
  | _=>none
theorem RelV.abs {x:V} {u:Value} (r:RelV x u):absV u=some x:=by
  cases x with
  | non=>cases r;rfl
  | bl _=>cases r;rfl
  | int _=>obtain ⟨t,rfl⟩:=r;rfl
  | str _=>obtain ⟨t,rfl⟩:=r;rfl
  | byt _=>obtain ⟨t,rfl⟩:=r;rfl
  | flt _=>obtain ⟨t,rfl⟩:=r;rfl
  | ref _=>cases r;rfl
  | ty _=>cases r;rfl
theorem RelV.inj {x y:V} {u:Value} (r:RelV x u) (q:RelV y u):x=y:=Option.some.inj (r.abs.symm.trans q.abs)
theorem Vals.inj:∀ {xs ys:List V} {us:List Value},Vals xs us→Vals ys us→xs=ys
  | _,_,_,.nil,.nil=>rfl
  | _,_,_,.cons r t,.cons r' t'=>by rw [r.inj r',Vals.inj t t']
section
variable {X:Cx} {pins:List (Addr × Obj)} {σ:St} {H:Hp} {s:Shared} {a:Addr} {xs ys:List V}
theorem SqL.of {K:PySem.W.Frag} (h:H a=some (.lst xs)):SqL K H a xs:=.inl (.inl h)
theorem SqT.of {K:PySem.W.Frag} (h:H a=some (.tup xs)):SqT K H a xs:=.inl (.inl h)
theorem Inv.list (I:Inv X pins σ H s) (h:SqL X.K H a xs):∃ its:List Value,Vals xs its∧PlainL s.heap a its.toArray∧xs.length≤sizeLine:=by
  rcases h with h | ⟨o,its,n,hk,hc,hd,hs,hz,r⟩
  · obtain ⟨z,its,n,r,e⟩:=h.ok I.hok
    exact ⟨its,r,⟨_,n,e,rfl,rfl,rfl⟩,z⟩
  · refine ⟨its.toList,r,⟨o,n,I.kIn a o hk,hc,hd,by simpa using hs⟩,?_⟩
    have e:=r.length
    simp only [Array.length_toList] at e
    omega
theorem Inv.tuple (I:Inv X pins σ H s) (h:SqT X.K H a xs):∃ its:List Value,Vals xs its∧IsTup s.heap a its.toArray∧xs.length≤sizeLine:=by
  rcases h with h | ⟨o,its,n,hk,hc,hs,hz,r⟩
  · obtain ⟨z,its,r,p⟩:=h.ok I.hok
    exact ⟨its,r,p,z⟩
  · refine ⟨its.toList,r,⟨o,I.kIn a o hk,hc,n,by simpa using hs⟩,?_⟩
    have e:=r.length
    simp only [Array.length_toList] at e
    omega
theorem Inv.list_inj (I:Inv X pins σ H s) (h:SqL X.K H a xs) (h':SqL X.K H a ys):xs=ys:=by
  obtain ⟨its,r,⟨o,n,e,_,_,d⟩,_⟩:=I.list h
  obtain ⟨its',r',⟨o',n',e',_,_,d'⟩,_⟩:=I.list h'
  rw [e] at e';cases e'
  rw [d] at d'
  injection d' with d1 _
  have:its=its':=by simpa using congrArg Array.toList d1
  subst this
  exact r.inj r'
theorem Inv.tuple_inj (I:Inv X pins σ H s) (h:SqT X.K H a xs) (h':SqT X.K H a ys):xs=ys:=by
  obtain ⟨its,r,⟨o,e,_,n,d⟩,_⟩:=I.tuple h
  obtain ⟨its',r',⟨o',e',_,n',d'⟩,_⟩:=I.tuple h'
  rw [e] at e';cases e'
  rw [d] at d'
  injection d' with d1 _
  have:its=its':=by simpa using congrArg Array.toList d1
  subst this
  exact r.inj r'
end
abbrev Cx.wish (X:Cx) (E:Value→Shared→Prop):Cx:={ X with xe:=E }
abbrev Cx.nox (X:Cx):Cx:=X.wish fun _ _=>False
theorem Cx.Ok.wish {X:Cx} (ok:X.Ok) (E:Value→Shared→Prop):(X.wish E).Ok :=
  ⟨ok.mod,ok.kind,ok.glob,ok.blt,ok.above,ok.inj,ok.has,ok.cab,ok.hd,ok.frames,ok.stk,ok.exf,ok.bs,ok.bsz,ok.noex,ok.exfs,ok.funs,ok.frf⟩
theorem Cx.Ok.unwish {X:Cx} {E:Value→Shared→Prop} (ok:(X.wish E).Ok):X.Ok :=
  ⟨ok.mod,ok.kind,ok.glob,ok.blt,ok.above,ok.inj,ok.has,ok.cab,ok.hd,ok.frames,ok.stk,ok.exf,ok.bs,ok.bsz,ok.noex,ok.exfs,ok.funs,ok.frf⟩
section
variable {X:Cx} {pins:List (Addr × Obj)} {σ:St} {H:Hp} {s:Shared} {E:Value→Shared→Prop}
theorem Inv.wish (I:Inv X pins σ H s) (E:Value→Shared→Prop):Inv (X.wish E) pins σ H s:=⟨I.ok.wish E,I.os,I.bare,I.base,I.loc,I.cell,I.free,I.freeC,I.pin,I.hok,I.len⟩
theorem Inv.unwish (I:Inv (X.wish E) pins σ H s):Inv X pins σ H s:=⟨I.ok.unwish,I.os,I.bare,I.base,I.loc,I.cell,I.free,I.freeC,I.pin,I.hok,I.len⟩
theorem SP.unwish {D:Ends} {f:Flow} {s':Shared} (h:SP (X.wish E) pins D f s'):SP X pins D f s':=by
  cases f with
  | next=>obtain ⟨σ',H',I,q⟩:=h;exact ⟨σ',H',I.unwish,q⟩
  | brk=>obtain ⟨σ',H',I,q⟩:=h;exact ⟨σ',H',I.unwish,q⟩
  | cont=>obtain ⟨σ',H',I,q⟩:=h;exact ⟨σ',H',I.unwish,q⟩
  | ret u=>obtain ⟨v,σ',H',I,r,q⟩:=h;exact ⟨v,σ',H',I.unwish,r,q⟩
theorem PSs.nox {st:List Stmt} {t:TS} (h:PSs X.nox st t):PSs X st t:=fun pins s σ H D I hw =>
  wpAny_mono (h pins s σ H D (I.wish _) hw) (fun _ _ q=>q.unwish) fun _ _ z=>False.elim z
end
section
variable {X:Cx} {st:Stmt} {rest:List Stmt} {t u:TS} {e:Expr} {te:TE} {pos:Pos}
def tNext:TS:=fun D σ H=>D.nx σ H
def tSeq (t u:TS):TS:=fun D σ H=>t { D with nx:=u D } σ H
theorem pss_nil:PSs X [] tNext:=fun _ _ σ H _ I h=>wpAny_execs_nil ⟨σ,H,I,h⟩
theorem pss_cons (h1:PS X st t) (h2:PSs X rest u):PSs X (st :: rest) (tSeq t u):=by
  intro pins s σ H D I h
  refine wpAny_execs_cons (thn (h1 pins s σ H { D with nx:=u D } I h) fun f s1 q=>?_)
  cases f with
  | next =>
    obtain ⟨σ',H',I',q⟩:=q
    exact h2 pins s1 σ' H' D I' q
  | ret v=>exact q
  | brk=>exact q
  | cont=>exact q
theorem pss_one (h1:PS X st t):PSs X [st] t:=by
  intro pins s σ H D I h
  refine wpAny_execs_cons (thn (h1 pins s σ H D I h) fun f s1 q=>?_)
  cases f with
  | next=>exact wpAny_execs_nil q
  | ret v=>exact q
  | brk=>exact q
  | cont=>exact q
theorem Inv.quiet {pins:List (Addr × Obj)} {σ:St} {H:Hp} {s:Shared} (I:Inv X pins σ H s):interactive X.env=false:=by simp [interactive,I.ok.kind]
def tDrop (te:TE):TS:=fun D σ H=>te σ H fun _ H1=>D.nx σ H1
theorem ps_expr (he:PE X e te) (hs:swapsWith e none pos.line X.env=pure false:=by rfl):PS X (.Expr e pos) (tDrop te):=by
  intro pins s σ H D I h
  exact wpAny_Expr_any (thn (he pins s σ H _ I h) fun v s1 ⟨x,H1,I1,r1,q1⟩=>⟨σ,H1,I1,q1⟩) I.quiet hs
def tRet (te:TE):TS:=fun D σ H=>te σ H D.rt
theorem ps_ret (he:PE X e te):PS X (.Return (some e) pos) (tRet te):=by
  intro pins s σ H D I h
  exact wpAny_Return_some (thn (he pins s σ H _ I h) fun v s1 ⟨x,H1,I1,r1,q1⟩=>⟨x,σ,H1,I1,r1,q1⟩)
def tRetN:TS:=fun D _ H=>D.rt .non H
def tIfS (c:TT) (t u:TS):TS:=fun D σ H=>c σ H fun b H1=>if b=true then t D σ H1 else u D σ H1
theorem ps_if {c:Expr} {a b:List Stmt} {tc:TT} (hc:PT X c tc) (ha:PSs X a t) (hb:PSs X b u):PS X (.If c a b pos) (tIfS tc t u):=by
  intro pins s σ H D I h
  refine wpAny_If (thn (hc pins s σ H _ I h) fun d s1 ⟨H1,I1,q1⟩=>?_)
  cases d with
  | true=>exact ha pins s1 σ H1 D I1 q1
  | false=>exact hb pins s1 σ H1 D I1 q1
def tNever:TS:=fun _ _ _=>False
end
abbrev TG:=V→St→Hp→(St→Hp→Prop)→Prop
abbrev TGs:=List V→St→Hp→(St→Hp→Prop)→Prop
def PG (X:Cx) (target:Expr) (t:TG):Prop :=
  ∀ (pins:List (Addr × Obj)) (s:Shared) (σ:St) (H:Hp) (v:V) (u:Value) (Q:St→Hp→Prop),Inv X pins σ H s→RelV v u→t v σ H Q →
    wpAny (model X.prog X.w) X.A (assign target X.env u) (fun _ s'=>∃ σ' H',Inv X pins σ' H' s'∧Q σ' H') X.xe s
def PGs (X:Cx) (ts:List Expr) (t:TGs):Prop :=
  ∀ (pins:List (Addr × Obj)) (s:Shared) (σ:St) (H:Hp) (vs:List V) (us:List Value) (Q:St→Hp→Prop),Inv X pins σ H s→Vals vs us→t vs σ H Q →
    wpAny (model X.prog X.w) X.A (assignInOrder ((assignEach ts X.env).map (·.2)) us) (fun _ s'=>∃ σ' H',Inv X pins σ' H' s'∧Q σ' H') X.xe s
abbrev TIp:=V→V→Hp→VK→Prop
section
variable {X:Cx} {pos:Pos}
def gName (i:Nat):TG:=fun v σ H Q=>Q (σ.set i (some v)) H
theorem pg_name {i:Nat} {x:Str} (hN:X.N.Nodup) (hi:X.N[i]?=some x) (hx:Loc X.env.scope x) (hf:X.fn x=true∨X.env.scope.names.lookup x=some .local:=by first | exact .inl rfl | exact .inr rfl | assumption):PG X (.Name x pos) (gName i):=by
  intro pins s σ H v u Q I r h
  exact wpAny_assign_Name (store_ok I hN hi hx r (fun s' I'=>⟨_,H,I',h⟩) hf)
def gNil:TGs:=fun vs σ H Q=>vs=[]∧Q σ H
def gCons (t:TG) (u:TGs):TGs:=fun vs σ H Q=>∃ v r,vs=v :: r∧t v σ H fun σ' H'=>u r σ' H' Q
theorem pgs_nil:PGs X [] gNil:=by
  intro pins s σ H vs us Q I r h
  obtain ⟨e,h⟩:=h
  subst e
  cases r
  exact assignInOrder_nil ⟨σ,H,I,h⟩
theorem pgs_cons {e:Expr} {es:List Expr} {t:TG} {u:TGs} (h1:PG X e t) (h2:PGs X es u)
    (hs:(assignEach (e :: es) X.env).map (·.2)=assign e X.env :: (assignEach es X.env).map (·.2):=by rfl):PGs X (e :: es) (gCons t u):=by
  intro pins s σ H vs us Q I r h
  obtain ⟨v,vr,e1,h⟩:=h
  subst e1
  cases r with
  | cons r rr =>
    rw [hs]
    refine assignInOrder_cons (thn (h1 pins s σ H _ _ _ I r h) fun _ s1 ⟨σ1,H1,I1,q1⟩=>?_)
    exact h2 pins s1 σ1 H1 _ _ Q I1 rr q1
def gTup (K:PySem.W.Frag) (n:Nat) (t:TGs):TG:=fun v σ H Q=>∃ a xs,v=.ref a∧SqT K H a xs∧xs.length=n∧t xs σ H Q
theorem pg_tup {es:List Expr} {k:Nat} {t:TGs} {n:Nat} (hc:X.calm=true) (h:PGs X es t)
    (hn:(assignEach es X.env).length=n:=by rfl) (hst:(assignEach es X.env).findIdx? (·.1)=none:=by rfl):PG X (.Tuple es k pos) (gTup X.K n t):=by
  intro pins s σ H v u Q I r hw
  obtain ⟨a,xs,e1,hq,hl,hw⟩:=hw
  subst e1
  cases r
  obtain ⟨its,rv,ht,hz⟩:=I.tuple hq
  refine assign_Tuple_tuple (I.ok.hd hc) ht (by simp [hn,← hl,rv.length]) hst fun h' hx=>?_
  have I1:Inv X pins σ H { s with heap:=h' }:=I.kept (t':=s.toks) fun b o e=>hx b o (Nat.ne_of_lt (Heap.lt_size e)) e
  exact h pins _ σ H xs _ Q I1 (by simpa using rv) hw
def tAsg (te:TE) (g:TG):TS:=fun D σ H=>te σ H fun x H1=>g x σ H1 D.nx
theorem ps_set {i:Nat} {x:Str} {e:Expr} {te:TE} {pos':Pos} (hN:X.N.Nodup) (hi:X.N[i]?=some x) (hx:Loc X.env.scope x) (he:PE X e te) (hs:swapsWith e (some (.Name x pos')) pos.line X.env=pure false:=by rfl) (hf:X.fn x=true∨X.env.scope.names.lookup x=some .local:=by first | exact .inl rfl | exact .inr rfl | assumption) :
    PS X (.Assign [.Name x pos'] e pos) (tAsg te (gName i)):=by
  intro pins s σ H D I h
  refine wpAny_Assign_Name (thn (he pins s σ H _ I h) fun v s1 ⟨y,H1,I1,r1,q1⟩=>?_) hs
  exact store_ok I1 hN hi hx r1 (fun s2 I2=>⟨_,H1,I2,q1⟩) hf
def tAug (i:Nat) (te:TE) (ti:TIp):TS:=fun D σ H=>∃ x,σ[i]?=some (some x)∧te σ H fun y H1=>ti x y H1 fun z H2=>D.nx (σ.set i (some z)) H2
def ipI (f:Int→Int→Int):TIp:=fun x y H Q=>∃ i j,x=.int i∧y=.int j∧Q (.int (f i j)) H
end
section
variable {X:Cx} {pos:Pos}
def tWhile (c:TT) (tb:TS):TS:=fun D σ H=>∃ W:Nat→St→Hp→Prop,(∃ m,W m σ H)∧∀ m σ H,W m σ H →
  c σ H fun b H1=>if b=true then ∃ N:St→Hp→Prop,(∀ σ' H',N σ' H'→∃ m',m' < m∧W m' σ' H')∧tb { D with nx:=N,ct:=N,bk:=D.nx } σ H1 else D.nx σ H1
theorem ps_while {c:Expr} {body:List Stmt} {tc:TT} {tb:TS} (hp:PassesOwn (model X.prog X.w) X.A X.env X.xe) (hc:PT X c tc) (hb:PSs X body tb):PS X (.While c body [] pos) (tWhile tc tb):=by
  intro pins s σ H D I h
  obtain ⟨W,⟨m0,w0⟩,turn⟩:=h
  refine wpAny_While (codeAny_whileLoop (fun n s'=>∃ σ' H',Inv X pins σ' H' s'∧W n σ' H') ?_ m0 ⟨σ,H,I,w0⟩)
  rintro n s1 ⟨σ1,H1,I1,w1⟩
  refine wpAny_passesOwn hp (thn (hc pins s1 σ1 H1 _ I1 (turn n σ1 H1 w1)) fun b s2 ⟨H2,I2,q2⟩=>?_)
  cases b with
  | true =>
    obtain ⟨N,hN,q2⟩:=q2
    rw [if_pos rfl]
    refine wpAny_passesOwn hp (thn (hb pins s2 σ1 H2 _ I2 q2) fun f s3 q3=>?_)
    cases f with
    | next =>
      obtain ⟨σ3,H3,I3,n3⟩:=q3
      obtain ⟨m',hm,w3⟩:=hN σ3 H3 n3
      exact ⟨m',hm,σ3,H3,I3,w3⟩
    | cont =>
      obtain ⟨σ3,H3,I3,n3⟩:=q3
      obtain ⟨m',hm,w3⟩:=hN σ3 H3 n3
      exact ⟨m',hm,σ3,H3,I3,w3⟩
    | brk=>exact q3
    | ret v=>exact q3
  | false =>
    rw [if_neg Bool.false_ne_true]
    exact wpAny_execs_nil ⟨σ1,H2,I2,q2⟩
end
set_option genSizeOf false in
set_option genInjectivity false in
structure It where
  go:Nat→Hp→Prop
  yld:Nat→Hp→V→Hp→Prop
  stop:Nat→Hp→Prop
def FpOk (X:Cx) (pins:List (Addr × Obj)) (H:Hp) (b:Addr):Prop :=
  H b=none∧b≠X.env.locals∧b ∉ X.fs∧(b∈X.ex∨X.s₀.heap.objs.size≤b)∧(∀ x c,X.env.cells.lookup x=some c→c≠b)∧∀ p∈X.pn ++ pins,p.1≠b
theorem Inv.fpOk {X:Cx} {pins:List (Addr × Obj)} {σ:St} {H H':Hp} {s:Shared} {b:Addr} (I:Inv X pins σ H s) (hb:s.heap.objs.size≤b) (hn:H' b=none):FpOk X pins H' b:=by
  refine ⟨hn,Nat.ne_of_gt (Nat.lt_of_lt_of_le I.lt hb),I.nofs hb,.inr (Nat.le_trans I.sz hb),fun x c e z=>?_,fun p hp z=>?_⟩
  · obtain ⟨v,q⟩:=I.cell x c e
    exact absurd (Nat.lt_of_lt_of_le q.lt (by rw [z];exact hb)) (Nat.lt_irrefl _)
  · exact absurd (Nat.lt_of_lt_of_le (Heap.lt_size (I.pin p hp).1) (by rw [z];exact hb)) (Nat.lt_irrefl _)
structure Turn (P:Program) (w:World) (K:PySem.W.Frag) (tg:Expr) (J:It) (fp:List Addr) (it:Addr) (tn:Nat→Heap→Prop):Prop where
  mem:it∈fp
  obj:∀ i h,tn i h→∀ b∈fp,∃ o,h.get? b=some o∧∀ v,o.data≠.cell v
  keep:∀ i h h',tn i h→(∀ b∈fp,∀ o,h.get? b=some o→h'.get? b=some o)→tn i h'
  item:∀ (X:Cx),X.prog=P→X.w=w→X.K=K→X.calm=true→∀ (i:Nat) (pins:List (Addr × Obj)) (s:Shared) (σ:St) (H:Hp) (E:Value→Shared→Prop),Inv X pins σ H s→(∀ b∈fp,FpOk X pins H b)→tn i s.heap→J.go i H →
    wpAny (model P w) X.A (pyNext (.ref it)) (fun r s1=>∃ u,r=some u ∧
      wpAny (model P w) X.A (letOwnedTupleGo tg (.ref it) u) (fun _ s2=>∃ x H',Inv X pins σ H' s2∧RelV x u∧J.yld i H x H'∧tn (i + 1) s2.heap∧∀ b∈fp,H' b=none) E s1) E s
  done:∀ (X:Cx),X.prog=P→X.w=w→X.K=K→X.calm=true→∀ (i:Nat) (pins:List (Addr × Obj)) (s:Shared) (σ:St) (H:Hp) (E:Value→Shared→Prop),Inv X pins σ H s→(∀ b∈fp,FpOk X pins H b)→tn i s.heap→J.stop i H →
    wpAny (model P w) X.A (pyNext (.ref it)) (fun r s1=>r=none∧Inv X pins σ H s1) E s
  self:∀ (A:Around) (i:Nat) (s:Shared) (Q:Value→Shared→Prop) (E:Value→Shared→Prop),tn i s.heap→Q (.ref it) s→wpAny (model P w) A (pyIter (.ref it)) Q E s
abbrev TI:=St→Hp→(It→Hp→Prop)→Prop
def PIE (X:Cx) (pins:List (Addr × Obj)) (σ:St) (tg:Expr) (R:It→Hp→Prop) (itv:Value) (s2:Shared):Prop :=
  ∃ (it:Addr) (fp:List Addr) (tn:Nat→Heap→Prop) (J:It) (H':Hp),itv=.ref it∧Inv X pins σ H' s2∧Turn X.prog X.w X.K tg J fp it tn∧tn 0 s2.heap∧(∀ b∈fp,FpOk X pins H' b)∧R J H'
def PI (X:Cx) (tg iter:Expr) (wi:TI):Prop :=
  ∀ (pins:List (Addr × Obj)) (s:Shared) (σ:St) (H:Hp) (R:It→Hp→Prop),Inv X pins σ H s→wi σ H R →
    wpAny (model X.prog X.w) X.A (eval iter X.env) (fun v s1=>wpAny (model X.prog X.w) X.A (pyIter v) (PIE X pins σ tg R) X.xe s1) X.xe s
theorem go_of {M:Model} {A:Around} {E:Value→Shared→Prop} {s:Shared} {tg:Expr} {it:Addr} {u:Value} {o:Obj} {n:String} {vs:Array Value} {Q:Unit→Shared→Prop} (ho:s.heap.get? it=some o) (hc:o.cls=.type n) (hd:o.data=.fields vs)
    (hn:["enumerate","zip","dict_itemiterator","dict_reverseitemiterator","odict_iterator","itertools.zip_longest","itertools.pairwise"].contains n=false) (hQ:Q () s):wpAny M A (letOwnedTupleGo tg (.ref it) u) Q E s:=by
  unfold letOwnedTupleGo
  cases tg <;> first
    | exact wpAny_pure hQ
    | (cases u <;> first
        | exact wpAny_pure hQ
        | (refine wpAny_bind (wpAny_load ho ?_)
           rw [hc,hd]
           show wpAny M A (if (["enumerate","zip","dict_itemiterator","dict_reverseitemiterator","odict_iterator","itertools.zip_longest","itertools.pairwise"].contains n && vs[0]? == some (rawInt _))=true then _ else _) Q E s
           rw [if_neg (by intro h;rw [hn,Bool.false_and] at h;cases h)]
           exact wpAny_pure hQ))
def Itl (K:PySem.W.Frag) (a:Addr):It :=
  ⟨fun i H=>∃ xs x,SqL K H a xs∧xs[i]?=some x,fun i H x H'=>H'=H∧∀ xs,SqL K H a xs→xs[i]?=some x,fun i H=>∃ xs,SqL K H a xs∧xs.length≤i⟩
def Itt (K:PySem.W.Frag) (a:Addr):It :=
  ⟨fun i H=>∃ xs x,SqT K H a xs∧xs[i]?=some x,fun i H x H'=>H'=H∧∀ xs,SqT K H a xs→xs[i]?=some x,fun i H=>∃ xs,SqT K H a xs∧xs.length≤i⟩
def Itr (lo:Int) (n:Nat):It:=⟨fun i _=>i < n,fun i H x H'=>H'=H∧x=.int (lo + i),fun i _=>n≤i⟩
theorem turn_list {P:Program} {w:World} {K:PySem.W.Frag} {tg:Expr} (a it:Addr):Turn P w K tg (Itl K a) [it] it (fun i h=>h.IsListIter it a i) where
  mem:=by simp
  obj:=fun i h st b hb=>by
    have e:b=it:=by simpa using hb
    subst e
    obtain ⟨o,e,c,d⟩:=st
    exact ⟨o,e,fun v z=>by rw [d] at z;cases z⟩
  keep:=fun i h h' st k=>st.at fun o e=>k it (by simp) o e
  item:=by
    intro X hP hw hK hc i pins s σ H E I hf st hg
    subst hP hw hK
    obtain ⟨xs,x,hq,hx⟩:=hg
    obtain ⟨its,rv,p,hz⟩:=I.list hq
    obtain ⟨u,hu,ru⟩:=rv.get hx
    obtain ⟨f0,f1,f2,f3,f4,f5⟩:=hf it (by simp)
    refine wpAny_pyNext_list_item st p.isList (x:=u) (by simpa using hu) fun h' st' sb=>?_
    have I1:Inv X pins σ H { s with heap:=h' }:=I.turned (t':=s.toks) (fun b o hb e=>(sb.2 b hb).trans e) f0 f1 f3 f4 f5
    obtain ⟨o,e,c,d⟩:=id st'
    exact ⟨u,rfl,go_of (s:={ s with heap:=h' }) e c d (by decide) ⟨x,H,I1,ru,⟨rfl,fun ys hy=>by rw [I.list_inj hy hq];exact hx⟩,st',fun b hb=>(hf b hb).1⟩⟩
  done:=by
    intro X hP hw hK hc i pins s σ H E I hf st hg
    subst hP hw hK
    obtain ⟨xs,hq,hx⟩:=hg
    obtain ⟨its,rv,p,hz⟩:=I.list hq
    obtain ⟨f0,f1,f2,f3,f4,f5⟩:=hf it (by simp)
    have hl:=rv.length
    exact wpAny_pyNext_list_end (I.ok.hd hc) st p.isList (by simp;omega) fun h' eb=>⟨rfl,I.turned (t':=s.toks) (fun b o hb e=>eb b o hb e) f0 f1 f3 f4 f5⟩
  self:=fun _ _ _ _ _ st h=>wpAny_pyIter_listiter st h
theorem turn_range {P:Program} {w:World} {K:PySem.W.Frag} {tg:Expr} (it:Addr) (lo:Int) (n:Nat):Turn P w K tg (Itr lo n) [it] it (fun i h=>IsRangeIter h it (lo + (i:Nat) * 1) ((n:Int) - (i:Nat)) 1) where
  mem:=by simp
  obj:=fun i h st b hb=>by
    have e:b=it:=by simpa using hb
    subst e
    exact ⟨_,st,fun v z=>by
      have z':Data.fields _=Data.cell v:=z
      cases z'⟩
  keep:=fun i h h' st k=>k it (by simp) _ st
  item:=by
    intro X hP hw hK hc i pins s σ H E I hf st hg
    subst hP hw hK
    obtain ⟨f0,f1,f2,f3,f4,f5⟩:=hf it (by simp)
    have W:=Walks.range (prog:=X.prog) (w:=X.w) (I.ok.hd hc) it lo 1 n
    refine W.item i s _ _ hg st fun v h' tk hv st' kk=>?_
    obtain ⟨t,rfl⟩:=hv
    have I1:Inv X pins σ H { s with heap:=h',toks:=tk }:=I.turned (fun b o hb e=>kk b o (by simpa using hb) e) f0 f1 f3 f4 f5
    refine ⟨_,rfl,go_of (s:={ s with heap:=h',toks:=tk }) (n:="range_iterator") st' rfl rfl (by decide) ⟨.int (lo + i),H,I1,⟨t,?_⟩,⟨rfl,rfl⟩,st',fun b hb=>(hf b hb).1⟩⟩
    rw [Int.mul_one]
  done:=by
    intro X hP hw hK hc i pins s σ H E I hf st hg
    subst hP hw hK
    obtain ⟨f0,f1,f2,f3,f4,f5⟩:=hf it (by simp)
    exact wpAny_pyNext_range_end (I.ok.hd hc) st (by have:n≤i:=hg;omega) fun h' eb=>⟨rfl,I.turned (t':=s.toks) (fun b o hb e=>eb b o hb e) f0 f1 f3 f4 f5⟩
  self:=fun _ _ _ _ _ st h=>wpAny_pyIter_rangeiter st h
end L2
namespace L2
open PySem PySem.Spec PyProof.Rows
section
variable {X:Cx} {tg:Expr}
def iList (K:PySem.W.Frag) (tl:TE):TI:=fun σ H R=>tl σ H fun x H1=>∃ a,x=.ref a∧(∃ xs,SqL K H1 a xs)∧R (Itl K a) H1
def iTup (K:PySem.W.Frag) (tl:TE):TI:=fun σ H R=>tl σ H fun x H1=>∃ a,x=.ref a∧(∃ xs,SqT K H1 a xs)∧R (Itt K a) H1
theorem pi_list {l:Expr} {tl:TE} (hl:PE X l tl):PI X tg l (iList X.K tl):=by
  intro pins s σ H R I h
  refine thn (hl pins s σ H _ I h) fun v s1 ⟨x,H1,I1,r1,q1⟩=>?_
  obtain ⟨a,e,⟨xs,hq⟩,q⟩:=q1
  subst e
  cases r1
  obtain ⟨its,rv,p,hz⟩:=I1.list hq
  refine wpAny_pyIter_list p.isList ?_
  refine ⟨s1.heap.objs.size,[s1.heap.objs.size],_,_,H1,rfl,I1.kept (t':=s1.toks) fun b o e=>Heap.get?_push_of_some _ e,turn_list a _,⟨_,Heap.get?_push_size _ rfl,rfl,rfl⟩,fun b hb=>?_,q⟩
  have e:b=s1.heap.objs.size:=by simpa using hb
  subst e
  exact I1.fpOk (Nat.le_refl _) (I1.hok.fresh (Nat.le_refl _))
theorem range_it {pins:List (Addr × Obj)} {σ:St} {H:Hp} {s:Shared} {R:It→Hp→Prop} {E:Value→Shared→Prop} {lo hi:Int} {t u v:Tok} {tk:Nat} (I:Inv X pins σ H s) (h1:-(2 ^ 62)≤lo) (h2:lo < 2 ^ 62) (h3:-(2 ^ 62)≤hi) (h4:hi < 2 ^ 62)
    (q:R (Itr lo (hi - lo).toNat) H):wpAny (model X.prog X.w) X.A (pyIter (.ref s.heap.objs.size)) (PIE X pins σ tg R) E { s with heap:=s.heap.push { cls:=.type "range",data:=.fields #[.int lo t,.int hi u,.int 1 v] },toks:=tk }:=by
  refine wpAny_pyIter_range (IsRange.new ..) (small_one h1 h2 h3 h4) ?_
  have I1:Inv X pins σ H { s with heap:=s.heap.push { cls:=.type "range",data:=.fields #[.int lo t,.int hi u,.int 1 v] },toks:=tk }:=I.kept fun b o e=>Heap.get?_push_of_some _ e
  refine ⟨(s.heap.push { cls:=.type "range",data:=.fields #[.int lo t,.int hi u,.int 1 v] }).objs.size,[(s.heap.push { cls:=.type "range",data:=.fields #[.int lo t,.int hi u,.int 1 v] }).objs.size],_,_,H,rfl,
    I1.kept (t':=tk) fun b o e=>Heap.get?_push_of_some _ e,turn_range _ lo (hi - lo).toNat,?_,fun b hb=>?_,q⟩
  · have e1:lo + ((0:Nat):Int) * 1=lo:=by simp
    have e2:(((hi - lo).toNat:Nat):Int) - ((0:Nat):Int)=Builtin.Range.rangeSize lo hi 1:=by rw [rangeSize_one];split <;> omega
    show IsRangeIter _ _ (lo + ((0:Nat):Int) * 1) ((((hi - lo).toNat:Nat):Int) - ((0:Nat):Int)) 1
    rw [e1,e2]
    exact Heap.get?_push_size _ rfl
  · have e:b=(s.heap.push { cls:=.type "range",data:=.fields #[.int lo t,.int hi u,.int 1 v] }).objs.size:=by simpa using hb
    subst e
    exact I1.fpOk (Nat.le_refl _) (I1.hok.fresh (Nat.le_refl _))
def iRng1 (ta:TA):TI:=fun σ H R=>ta σ H fun vs H1=>∃ j:Int,vs=[.int j]∧-(2 ^ 62)≤j∧j < 2 ^ 62∧R (Itr 0 j.toNat) H1
def iRng2 (ta:TA):TI:=fun σ H R=>ta σ H fun vs H1=>∃ i j:Int,vs=[.int i,.int j]∧(-(2 ^ 62)≤i∧i < 2 ^ 62∧-(2 ^ 62)≤j∧j < 2 ^ 62)∧R (Itr i (j - i).toNat) H1
theorem pi_range1 {a:Expr} {ta:TA} {p pos:Pos} (hg:Gl X "range") (hm:X.mg "range"=none) (ha:PA X [a] ta) (hs:starEach [a] X.env=[(false,eval a X.env)]:=by rfl):PI X tg (.Call (.Name "range" p) [a] [] pos) (iRng1 ta):=by
  intro pins s σ H R I h
  refine Call_ (ld_blt I hg hm boot_range (PyProof.Rows.callWith_type1 (thn (ha pos pins s σ H _ I h) fun us s1 ⟨vs,H1,I1,r1,q1⟩=>?_) hs rfl))
  obtain ⟨j,e,q1,q2,q⟩:=q1
  subst e
  cases r1 with
  | cons r rr =>
    cases rr
    obtain ⟨t,rfl⟩:=r
    exact call_range_1 (range_it I1 (by omega) (by omega) q1 q2 (by simpa using q))
def tFor (wi:TI) (g:TG) (tb:TS):TS:=fun D σ H=>wi σ H fun J H1=>∃ W:Nat→Nat→St→Hp→Prop,(∃ m,W 0 m σ H1)∧∀ i m σ H,W i m σ H →
  (J.stop i H∧D.nx σ H)∨(J.go i H∧∃ N:St→Hp→Prop,(∀ σ' H',N σ' H'→∃ m',m' < m∧W (i + 1) m' σ' H')∧∀ x H',J.yld i H x H'→g x σ H' fun σ2 H2=>tb { D with nx:=N,ct:=N,bk:=D.nx } σ2 H2)
def pinsAt (fp:List Addr) (h:Heap):List (Addr × Obj):=fp.filterMap fun b=>(h.get? b).map fun o=>(b,o)
theorem mem_pinsAt {fp:List Addr} {h:Heap} {b:Addr} {o:Obj} (hb:b∈fp) (e:h.get? b=some o):(b,o)∈pinsAt fp h:=List.mem_filterMap.mpr ⟨b,hb,by rw [e];rfl⟩
theorem of_pinsAt {fp:List Addr} {h:Heap} {p:Addr × Obj} (hp:p∈pinsAt fp h):p.1∈fp∧h.get? p.1=some p.2:=by
  obtain ⟨b,hb,e⟩:=List.mem_filterMap.mp hp
  cases q:h.get? b with
  | none=>rw [q] at e;cases e
  | some o =>
    rw [q] at e
    have e':(b,o)=p:=Option.some.inj e
    subst e'
    exact ⟨hb,q⟩
theorem Inv.pinned {pins:List (Addr × Obj)} {σ:St} {H:Hp} {s:Shared} {fp:List Addr} (I:Inv X pins σ H s) (hf:∀ b∈fp,FpOk X pins H b) (ho:∀ b∈fp,∃ o,s.heap.get? b=some o∧∀ v,o.data≠.cell v):Inv X (pins ++ pinsAt fp s.heap) σ H s :=
  I.pins_of fun p hp=>(List.mem_append.mp hp).elim (fun z=>I.pin p (List.mem_append_right _ z)) fun z=>by
    obtain ⟨hb,e⟩:=of_pinsAt z
    obtain ⟨f0,f1,f2,_⟩:=hf p.1 hb
    obtain ⟨o,e',d⟩:=ho p.1 hb
    rw [e] at e';cases e'
    exact ⟨e,f0,f1,f2,d⟩
theorem Inv.unpinned {pins pl:List (Addr × Obj)} {σ:St} {H:Hp} {s:Shared} (I:Inv X (pins ++ pl) σ H s):Inv X pins σ H s:=I.pins_of fun p hp=>I.pin p (List.mem_append_right _ (List.mem_append_left _ hp))
theorem ps_for {iter:Expr} {body:List Stmt} {wi:TI} {g:TG} {tb:TS} {pos:Pos} (hp:PassesOwn (model X.prog X.w) X.A X.env X.xe) (hc:X.calm=true) (hi:PI X tg iter wi) (hg:PG X tg g) (hb:PSs X body tb)
    (hs:∀ x,foldedSetIterable iter X.env x=pure x:=by intro _;rfl):PS X (.For tg iter body [] pos) (tFor wi g tb):=by
  intro pins s σ H D I h
  refine wpAny_For (thn (hi pins s σ H _ I h) fun v s1 h1=>thn h1 fun itv s2 h2=>?_) hs
  obtain ⟨it,fp,tn,J,H2,e,I2,T,st2,f2,W,⟨m0,w0⟩,turn⟩:=h2
  subst e
  -- what stays true of the iterator's objects through the loop
  have stat:∀ {H':Hp},(∀ b∈fp,H' b=none)→∀ b∈fp,FpOk X pins H' b:=fun hn b hb=>⟨hn b hb,(f2 b hb).2⟩
  refine codeAny_forLoop_any (fun n s'=>∃ i σ' H',Inv X pins σ' H' s'∧tn i s'.heap∧(∀ b∈fp,H' b=none)∧W i n σ' H') ?_ m0 ⟨0,σ,H2,I2,st2,fun b hb=>(f2 b hb).1,w0⟩
  rintro n s3 ⟨i,σ3,H3,I3,st3,fr3,w3⟩
  rcases turn i n σ3 H3 w3 with ⟨stop,qn⟩ | ⟨go,N,hN,step⟩
  · refine wpAny_passesOwn hp (thn (T.done X rfl rfl rfl hc i pins s3 σ3 H3 X.xe I3 (stat fr3) st3 stop) fun r s4 ⟨hr,I4⟩=>?_)
    subst hr
    exact wpAny_execs_nil ⟨σ3,H3,I4,qn⟩
  · refine wpAny_passesOwn hp (thn (T.item X rfl rfl rfl hc i pins s3 σ3 H3 X.xe I3 (stat fr3) st3 go) fun r s4 ⟨u,hr,h4⟩=>?_)
    subst hr
    refine wpAny_passesOwn hp (thn h4 fun _ s5 ⟨x,H5,I5,r5,y5,st5,fr5⟩=>?_)
    have I5':=I5.pinned (stat fr5) (T.obj _ _ st5)
    refine wpAny_passesOwn hp (thn (hg _ s5 σ3 H5 x u _ I5' r5 (step x H5 y5)) fun _ s6 ⟨σ6,H6,I6,q6⟩=>?_)
    refine wpAny_passesOwn hp (thn (hb _ s6 σ6 H6 _ I6 q6) fun f s7 q7=>?_)
    have again:∀ {σ7:St} {H7:Hp},Inv X (pins ++ pinsAt fp s5.heap) σ7 H7 s7→N σ7 H7→∃ m,m < n∧∃ i σ' H',Inv X pins σ' H' s7∧tn i s7.heap∧(∀ b∈fp,H' b=none)∧W i m σ' H':=fun {σ7 H7} I7 n7=>by
      obtain ⟨m',hm,w7⟩:=hN σ7 H7 n7
      refine ⟨m',hm,i + 1,σ7,H7,I7.unpinned,T.keep _ _ _ st5 fun b hb o e=>(I7.pin (b,o) (List.mem_append_right _ (List.mem_append_right _ (mem_pinsAt hb e)))).1,fun b hb=>?_,w7⟩
      obtain ⟨o,e,d⟩:=T.obj _ _ st5 b hb
      exact (I7.pin (b,o) (List.mem_append_right _ (List.mem_append_right _ (mem_pinsAt hb e)))).2.1
    cases f with
    | next=>obtain ⟨σ7,H7,I7,n7⟩:=q7;exact again I7 n7
    | cont=>obtain ⟨σ7,H7,I7,n7⟩:=q7;exact again I7 n7
    | brk=>obtain ⟨σ7,H7,I7,q7⟩:=q7;exact ⟨σ7,H7,I7.unpinned,q7⟩
    | ret v=>obtain ⟨x7,σ7,H7,I7,r7,q7⟩:=q7;exact ⟨x7,σ7,H7,I7.unpinned,r7,q7⟩
end
end L2
namespace L2
open PySem PySem.Spec PyProof.Rows
abbrev R2:=V→V→Hp→VK→Prop
def OpR (X:Cx) (f:Value→Value→Sem Value) (r:R2):Prop :=
  ∀ (pins:List (Addr × Obj)) (s:Shared) (σ:St) (H:Hp) (x y:V) (v u:Value) (Q:VK),Inv X pins σ H s→RelV x v→RelV y u→r x y H Q →
    wpAny (model X.prog X.w) X.A (f v u) (EP X pins σ Q) X.xe s
def UnR (X:Cx) (f:Value→Sem Value) (r:V→Hp→VK→Prop):Prop :=
  ∀ (pins:List (Addr × Obj)) (s:Shared) (σ:St) (H:Hp) (x:V) (v:Value) (Q:VK),Inv X pins σ H s→RelV x v→r x H Q →
    wpAny (model X.prog X.w) X.A (f v) (EP X pins σ Q) X.xe s
def CallR (X:Cx) (f:Value) (r:List V→Hp→VK→Prop):Prop :=
  ∀ (pins:List (Addr × Obj)) (s:Shared) (σ:St) (H:Hp) (xs:List V) (us:List Value) (Q:VK),Inv X pins σ H s→Vals xs us→r xs H Q →
    wpAny (model X.prog X.w) X.A (call f us) (EP X pins σ Q) X.xe s
def tOp (r:R2) (ta tb:TE):TE:=fun σ H Q=>ta σ H fun x H1=>tb σ H1 fun y H2=>r x y H2 Q
def tUn (r:V→Hp→VK→Prop) (ta:TE):TE:=fun σ H Q=>ta σ H fun x H1=>r x H1 Q
def rI (C:Int→Int→Prop) (g:Int→Int→V):R2:=fun x y H Q=>∃ i j,x=.int i∧y=.int j∧C i j∧Q (g i j) H
def rI0 (g:Int→Int→V):R2:=fun x y H Q=>∃ i j,x=.int i∧y=.int j∧Q (g i j) H
def rU (g:Int→V):V→Hp→VK→Prop:=fun x H Q=>∃ i,x=.int i∧Q (g i) H
section
variable {X:Cx} {a b c:Expr} {ta tb tc:TE} {pos:Pos}
theorem binT (ha:PE X a ta) (hb:PE X b tb) {pins:List (Addr × Obj)} {s:Shared} {σ:St} {H:Hp} {R:V→V→Hp→Prop} (I:Inv X pins σ H s)
    (h:ta σ H fun x H1=>tb σ H1 fun y H2=>R x y H2) {Q:Value→Shared→Prop} {f:Value→Value→Sem Value}
    (hf:∀ v u s2 x y H2,Inv X pins σ H2 s2→RelV x v→RelV y u→R x y H2→wpAny (model X.prog X.w) X.A (f v u) Q X.xe s2) :
    wpAny (model X.prog X.w) X.A (eval a X.env) (fun v s₁=>wpAny (model X.prog X.w) X.A (eval b X.env) (fun u s₂=>wpAny (model X.prog X.w) X.A (f v u) Q X.xe s₂) X.xe s₁) X.xe s:=by
  refine thn (ha pins s σ H _ I h) fun v s1 ⟨x,H1,I1,r1,q1⟩=>?_
  refine thn (hb pins s1 σ H1 _ I1 q1) fun u s2 ⟨y,H2,I2,r2,q2⟩=>?_
  exact hf v u s2 x y H2 I2 r1 r2 q2
theorem pe_op {op:Operator} {r:R2} (ho:OpR X (binaryOp op) r) (ha:PE X a ta) (hb:PE X b tb):PE X (.BinOp a op b pos) (tOp r ta tb):=by
  intro pins s σ H Q I h
  exact wpAny_BinOp (binT ha hb I h fun v u s2 x y H2 I2 rx ry q=>ho pins s2 σ H2 x y v u Q I2 rx ry q)
theorem pe_un {op:UnaryOp} {r:V→Hp→VK→Prop} (ho:UnR X (unaryOp op) r) (ha:PE X a ta):PE X (.UnaryOp op a pos) (tUn r ta):=by
  intro pins s σ H Q I h
  exact UnaryOp_ (thn (ha pins s σ H _ I h) fun v s1 ⟨x,H1,I1,r1,q1⟩=>ho pins s1 σ H1 x v Q I1 r1 q1)
theorem opI {f:Value→Value→Sem Value} {C:Int→Int→Prop} {g:Int→Int→Int}
    (rule:∀ (i j:Int) (t u:Tok) (s:Shared) (Q:Value→Shared→Prop) (E:Value→Shared→Prop),C i j→Q (.int (g i j) s.toks) { s with toks:=s.toks + 1 }→wpAny (model X.prog X.w) X.A (f (.int i t) (.int j u)) Q E s) :
    OpR X f (rI C fun i j=>.int (g i j)):=by
  intro pins s σ H x y v u Q I rx ry h
  obtain ⟨i,j,rfl,rfl,hc,q⟩:=h
  obtain ⟨t,rfl⟩:=rx
  obtain ⟨t',rfl⟩:=ry
  exact rule i j t t' s _ _ hc ⟨.int (g i j),H,I.tok _,⟨_,rfl⟩,q⟩
theorem opI0 {f:Value→Value→Sem Value} {g:Int→Int→Int}
    (rule:∀ (i j:Int) (t u:Tok) (s:Shared) (Q:Value→Shared→Prop) (E:Value→Shared→Prop),Q (.int (g i j) s.toks) { s with toks:=s.toks + 1 }→wpAny (model X.prog X.w) X.A (f (.int i t) (.int j u)) Q E s) :
    OpR X f (rI0 fun i j=>.int (g i j)):=by
  intro pins s σ H x y v u Q I rx ry h
  obtain ⟨i,j,rfl,rfl,q⟩:=h
  obtain ⟨t,rfl⟩:=rx
  obtain ⟨t',rfl⟩:=ry
  exact rule i j t t' s _ _ ⟨.int (g i j),H,I.tok _,⟨_,rfl⟩,q⟩
theorem opB0 {f:Value→Value→Sem Value} {g:Int→Int→Bool}
    (rule:∀ (i j:Int) (t u:Tok) (s:Shared) (Q:Value→Shared→Prop) (E:Value→Shared→Prop),Q (.bool (g i j)) s→wpAny (model X.prog X.w) X.A (f (.int i t) (.int j u)) Q E s) :
    OpR X f (rI0 fun i j=>.bl (g i j)):=by
  intro pins s σ H x y v u Q I rx ry h
  obtain ⟨i,j,rfl,rfl,q⟩:=h
  obtain ⟨t,rfl⟩:=rx
  obtain ⟨t',rfl⟩:=ry
  exact rule i j t t' s _ _ ⟨.bl (g i j),H,I,rfl,q⟩
def CPow (i j:Int):Prop:=0≤j∧j≤1000000∧i.natAbs < 2 ^ 64
theorem op_add:OpR X (binaryOp .Add) (rI0 fun i j=>.int (i + j)):=opI0 fun _ _ _ _ _ _ _ q=>add_int q
theorem op_sub:OpR X (binaryOp .Sub) (rI0 fun i j=>.int (i - j)):=opI0 fun _ _ _ _ _ _ _ q=>sub_int q
theorem op_mod:OpR X (binaryOp .Mod) (rI (fun _ j=>0 < j) fun i j=>.int (i % j)):=opI fun i j _ _ _ _ _ hc q=>by
  have h1:(0:Int) < j:=hc
  exact mod_int' (by omega) (by rw [Int.fmod_eq_emod_of_nonneg i (by omega)];exact q)
theorem op_pow:OpR X (binaryOp .Pow) (rI CPow fun i j=>.int (i ^ j.toNat)):=opI fun _ _ _ _ _ _ _ hc q=>pow_int_small hc.1 hc.2.1 hc.2.2 q
theorem unI {f:Value→Sem Value} {g:Int→Int}
    (rule:∀ (i:Int) (t:Tok) (s:Shared) (Q:Value→Shared→Prop) (E:Value→Shared→Prop),Q (.int (g i) s.toks) { s with toks:=s.toks + 1 }→wpAny (model X.prog X.w) X.A (f (.int i t)) Q E s) :
    UnR X f (rU fun i=>.int (g i)):=by
  intro pins s σ H x v Q I rx h
  obtain ⟨i,rfl,q⟩:=h
  obtain ⟨t,rfl⟩:=rx
  exact rule i t s _ _ ⟨.int (g i),H,I.tok _,⟨_,rfl⟩,q⟩
theorem un_neg:UnR X (unaryOp .USub) (rU fun i=>.int (-i)):=unI fun _ _ _ _ _ q=>neg_int q
end
def scal:V→V→Bool
  | .non,.non=>true | .non,.int _=>true | .int _,.non=>true | .non,.bl _=>true | .bl _,.non=>true | .non,.str _=>true | .str _,.non=>true
  | .int _,.int _=>true | .bl _,.bl _=>true | .str _,.str _=>true | .byt _,.byt _=>true
  | .int _,.str _=>true | .str _,.int _=>true | .bl _,.str _=>true | .str _,.bl _=>true
  | _,_=>false
def rEq:R2:=fun x y H Q=>scal x y=true∧Q (.bl (decide (x=y))) H
def rNe:R2:=fun x y H Q=>scal x y=true∧Q (.bl (!decide (x=y))) H
theorem dec_int {i j:Int}:decide (V.int i=V.int j)=(i == j):=by
  rw [Bool.eq_iff_iff]
  simp
theorem dec_bl {i j:Bool}:decide (V.bl i=V.bl j)=(i == j):=by
  rw [Bool.eq_iff_iff]
  simp
theorem dec_str {i j:Str}:decide (V.str i=V.str j)=(i == j):=by
  rw [Bool.eq_iff_iff]
  simp
theorem dec_byt {i j:Array UInt8}:decide (V.byt i=V.byt j)=(i.toList == j.toList):=by
  rw [Bool.eq_iff_iff]
  cases i
  cases j
  simp
section
variable {X:Cx} {a b c:Expr} {ta tb tc:TE} {pos:Pos}
theorem fin_bl {pins:List (Addr × Obj)} {σ:St} {H:Hp} {s:Shared} {Q:VK} {k k':Bool} (I:Inv X pins σ H s) (q:Q (.bl k) H) (e:k=k'):EP X pins σ Q (.bool k') s:=by
  subst e
  exact ⟨.bl k,H,I,rfl,q⟩
theorem op_eq:OpR X (compareOp .Eq) rEq:=by
  intro pins s σ H x y v u Q I rx ry h
  obtain ⟨hs,q⟩:=h
  cases x with
  | non =>
    cases rx
    cases y with
    | non=>cases ry;exact PySem.EqNone.eq_none_none (fin_bl I q (by simp))
    | bl j=>cases ry;exact PySem.EqNone.eq_none_bool (fin_bl I q (by simp))
    | int j=>obtain ⟨t',rfl⟩:=ry;exact PySem.EqNone.eq_none_int (fin_bl I q (by simp))
    | str j=>obtain ⟨t',rfl⟩:=ry;exact PySem.EqNone.eq_none_str (fin_bl I q (by simp))
    | _=>exact absurd (show false=true from hs) Bool.false_ne_true
  | bl i =>
    cases rx
    cases y with
    | non=>cases ry;exact PySem.EqNone.eq_bool_none (fin_bl I q (by simp))
    | bl j=>cases ry;exact eq_bool (fin_bl I q dec_bl)
    | str j=>obtain ⟨t',rfl⟩:=ry;exact PySem.EqMixed.eq_bool_str (fin_bl I q (by simp))
    | _=>exact absurd (show false=true from hs) Bool.false_ne_true
  | int i =>
    obtain ⟨t,rfl⟩:=rx
    cases y with
    | non=>cases ry;exact PySem.EqNone.eq_int_none (fin_bl I q (by simp))
    | int j=>obtain ⟨t',rfl⟩:=ry;exact eq_int (fin_bl I q dec_int)
    | str j=>obtain ⟨t',rfl⟩:=ry;exact PySem.EqMixed.eq_int_str (fin_bl I q (by simp))
    | _=>exact absurd (show false=true from hs) Bool.false_ne_true
  | str i =>
    obtain ⟨t,rfl⟩:=rx
    cases y with
    | non=>cases ry;exact PySem.EqNone.eq_str_none (fin_bl I q (by simp))
    | bl j=>cases ry;exact PySem.EqMixed.eq_str_bool (fin_bl I q (by simp))
    | int j=>obtain ⟨t',rfl⟩:=ry;exact PySem.EqMixed.eq_str_int (fin_bl I q (by simp))
    | str j=>obtain ⟨t',rfl⟩:=ry;exact eq_str (fin_bl I q dec_str)
    | _=>exact absurd (show false=true from hs) Bool.false_ne_true
  | byt i =>
    obtain ⟨t,rfl⟩:=rx
    cases y with
    | byt j=>obtain ⟨t',rfl⟩:=ry;exact PySem.W.eq_bytes (fin_bl I q dec_byt)
    | _=>exact absurd (show false=true from hs) Bool.false_ne_true
  | _=>cases y <;> exact absurd (show false=true from hs) Bool.false_ne_true
theorem op_ne:OpR X (compareOp .NotEq) rNe:=by
  intro pins s σ H x y v u Q I rx ry h
  obtain ⟨hs,q⟩:=h
  cases x with
  | non =>
    cases rx
    cases y with
    | non=>cases ry;exact PySem.EqNone.ne_none_none (fin_bl I q (by simp))
    | bl j=>cases ry;exact PySem.EqNone.ne_none_bool (fin_bl I q (by simp))
    | int j=>obtain ⟨t',rfl⟩:=ry;exact PySem.EqNone.ne_none_int (fin_bl I q (by simp))
    | str j=>obtain ⟨t',rfl⟩:=ry;exact PySem.EqNone.ne_none_str (fin_bl I q (by simp))
    | _=>exact absurd (show false=true from hs) Bool.false_ne_true
  | bl i =>
    cases rx
    cases y with
    | non=>cases ry;exact PySem.EqNone.ne_bool_none (fin_bl I q (by simp))
    | bl j=>cases ry;exact ne_bool (fin_bl I q (congrArg not dec_bl))
    | str j=>obtain ⟨t',rfl⟩:=ry;exact PySem.EqMixed.ne_bool_str (fin_bl I q (by simp))
    | _=>exact absurd (show false=true from hs) Bool.false_ne_true
  | int i =>
    obtain ⟨t,rfl⟩:=rx
    cases y with
    | non=>cases ry;exact PySem.EqNone.ne_int_none (fin_bl I q (by simp))
    | int j=>obtain ⟨t',rfl⟩:=ry;exact ne_int (fin_bl I q (congrArg not dec_int))
    | str j=>obtain ⟨t',rfl⟩:=ry;exact PySem.EqMixed.ne_int_str (fin_bl I q (by simp))
    | _=>exact absurd (show false=true from hs) Bool.false_ne_true
  | str i =>
    obtain ⟨t,rfl⟩:=rx
    cases y with
    | non=>cases ry;exact PySem.EqNone.ne_str_none (fin_bl I q (by simp))
    | bl j=>cases ry;exact PySem.EqMixed.ne_str_bool (fin_bl I q (by simp))
    | int j=>obtain ⟨t',rfl⟩:=ry;exact PySem.EqMixed.ne_str_int (fin_bl I q (by simp))
    | str j=>obtain ⟨t',rfl⟩:=ry;exact ne_str (fin_bl I q (congrArg not dec_str))
    | _=>exact absurd (show false=true from hs) Bool.false_ne_true
  | byt i =>
    obtain ⟨t,rfl⟩:=rx
    cases y with
    | byt j=>obtain ⟨t',rfl⟩:=ry;exact PySem.W.ne_bytes (fin_bl I q (congrArg not dec_byt))
    | _=>exact absurd (show false=true from hs) Bool.false_ne_true
  | _=>cases y <;> exact absurd (show false=true from hs) Bool.false_ne_true
theorem op_lt:OpR X (compareOp .Lt) (rI0 fun i j=>.bl (decide (i < j))):=opB0 fun _ _ _ _ _ _ _ q=>lt_int q
theorem op_gt:OpR X (compareOp .Gt) (rI0 fun i j=>.bl (decide (j < i))):=opB0 fun _ _ _ _ _ _ _ q=>gt_int q
theorem op_ge:OpR X (compareOp .GtE) (rI0 fun i j=>.bl (decide (j≤i))):=opB0 fun _ _ _ _ _ _ _ q=>ge_int q
theorem op_isN:OpR X (compareOp .Is) (fun x y H Q=>y=.non∧Q (.bl (decide (x=.non))) H):=by
  intro pins s σ H x y v u Q I rx ry h
  obtain ⟨rfl,q⟩:=h
  cases ry
  refine is_none_gen (fin_bl I q ?_)
  cases x <;> first
    | (cases rx;rfl)
    | (obtain ⟨t,rfl⟩:=rx;rfl)
theorem nomark (b:Expr) {op:CmpOp} (h:op≠.In:=by decide) (h2:op≠.NotIn:=by decide):behindInMarks op b=false:=by
  have e1:(op == CmpOp.In)=false:=by cases op <;> first | rfl | exact absurd rfl h
  have e2:(op == CmpOp.NotIn)=false:=by cases op <;> first | rfl | exact absurd rfl h2
  cases b <;> simp [behindInMarks,e1,e2]
theorem pe_cmpR {op:CmpOp} {r:R2} (ho:OpR X (compareOp op) r) (ha:PE X a ta) (hb:PE X b tb) (hm:behindInMarks op b=false):PE X (.Compare a [op] [b] pos) (tOp r ta tb):=by
  intro pins s σ H Q I h
  exact wpAny_Compare1 (binT ha hb I h fun v u s2 x y H2 I2 rx ry q=>ho pins s2 σ H2 x y v u Q I2 rx ry q) hm
def tTest (t:TE):TT:=fun σ H Q=>t σ H fun x H'=>∃ k,x=.bl k∧Q k H'
theorem pt_cmpR {op:CmpOp} {r:R2} (ho:OpR X (compareOp op) r) (ha:PE X a ta) (hb:PE X b tb) (hm:behindInMarks op b=false):PT X (.Compare a [op] [b] pos) (tTest (tOp r ta tb)):=by
  intro pins s σ H Q I h
  refine wpAny_isTrue_Compare1 (thn (ha pins s σ H _ I h) fun v s1 ⟨x,H1,I1,r1,q1⟩=>thn (hb pins s1 σ H1 _ I1 q1) fun u s2 ⟨y,H2,I2,r2,q2⟩ =>
    thn (ho pins s2 σ H2 x y v u _ I2 r1 r2 q2) fun c s3 ⟨z,H3,I3,r3,k,e,q3⟩=>?_) hm
  subst e
  cases r3
  exact wpAny_truthy_bool ⟨H3,I3,q3⟩
def tChain (r r':R2) (ta tb tc:TE):TE:=fun σ H Q=>ta σ H fun x H1=>tb σ H1 fun y H2=>r x y H2 fun z H3=>∃ k,z=.bl k ∧
  (if k=true then tc σ H3 fun w' H4=>r' y w' H4 Q else Q (.bl false) H3)
theorem line63:(sizeLine:Nat) < 2 ^ 63:=by rw [sizeLine_eq];decide
theorem op_add_str:OpR X (binaryOp .Add) (fun x y H Q=>∃ i j,x=.str i∧y=.str j∧i.length + j.length≤sizeLine∧Q (.str (i ++ j)) H):=by
  intro pins s σ H x y v u Q I rx ry h
  obtain ⟨i,j,rfl,rfl,hz,q⟩:=h
  obtain ⟨t,rfl⟩:=rx
  obtain ⟨t',rfl⟩:=ry
  exact add_str (fun t' tk=>⟨.str (i ++ j),H,I.tok _,⟨_,rfl⟩,q⟩) hz
theorem vals1 {x:V} {us:List Value} (r:Vals [x] us):∃ u,us=[u]∧RelV x u:=by
  cases r with
  | cons r1 r2=>cases r2;exact ⟨_,rfl,r1⟩
theorem vals2 {x y:V} {us:List Value} (r:Vals [x,y] us):∃ u w',us=[u,w']∧RelV x u∧RelV y w':=by
  cases r with
  | cons r1 r2 =>
    cases r2 with
    | cons r3 r4=>cases r4;exact ⟨_,_,rfl,r1,r3⟩
theorem call_max2 (hc:X.calm=true):CallR X (.builtin "max") (fun xs H Q=>∃ i j,xs=[.int i,.int j]∧Q (.int (if j > i then j else i)) H):=by
  intro pins s σ H xs us Q I r h
  obtain ⟨i,j,rfl,q⟩:=h
  obtain ⟨u,w',rfl,⟨t,rfl⟩,⟨t',rfl⟩⟩:=vals2 r
  refine max_two_ints (I.ok.hd hc) fun h' tk k=>⟨_,H,I.kept k,?_,q⟩
  by_cases hj:j > i
  · rw [if_pos hj,if_pos hj];exact ⟨_,rfl⟩
  · rw [if_neg hj,if_neg hj];exact ⟨_,rfl⟩
theorem call_min2 (hc:X.calm=true):CallR X (.builtin "min") (fun xs H Q=>∃ i j,xs=[.int i,.int j]∧Q (.int (if j < i then j else i)) H):=by
  intro pins s σ H xs us Q I r h
  obtain ⟨i,j,rfl,q⟩:=h
  obtain ⟨u,w',rfl,⟨t,rfl⟩,⟨t',rfl⟩⟩:=vals2 r
  refine min_two_ints (I.ok.hd hc) fun h' tk k=>⟨_,H,I.kept k,?_,q⟩
  by_cases hj:j < i
  · rw [if_pos hj,if_pos hj];exact ⟨_,rfl⟩
  · rw [if_neg hj,if_neg hj];exact ⟨_,rfl⟩
def LenV (K:PySem.W.Frag) (x:V) (H:Hp) (n:Nat):Prop :=
  match x with
  | .str y=>y.length≤sizeLine∧n=y.length
  | .byt y=>y.size≤sizeLine∧n=y.size
  | .ref p=>(∃ xs,SqL K H p xs∧n=xs.length)∨∃ xs,SqT K H p xs∧n=xs.length
  | _=>False
theorem call_len:CallR X (.builtin "len") (fun xs H Q=>∃ x n,xs=[x]∧LenV X.K x H n∧Q (.int n) H):=by
  intro pins s σ H xs us Q I r h
  obtain ⟨x,n,rfl,e,q⟩:=h
  obtain ⟨u,rfl,rx⟩:=vals1 r
  have hl:=line63
  have hs:sizeLine=16777216:=sizeLine_eq
  cases x with
  | str y =>
    obtain ⟨t,rfl⟩:=rx
    obtain ⟨hy,e'⟩:y.length≤sizeLine∧n=y.length:=e
    subst e'
    exact len_str (by omega) ⟨.int _,H,I.tok _,⟨_,rfl⟩,q⟩
  | byt y =>
    obtain ⟨t,rfl⟩:=rx
    obtain ⟨hy,e'⟩:y.size≤sizeLine∧n=y.size:=e
    subst e'
    exact PySem.W.len_bytes (by omega) ⟨.int _,H,I.tok _,⟨_,rfl⟩,q⟩
  | ref p =>
    cases rx
    have e':(∃ xs,SqL X.K H p xs∧n=xs.length)∨∃ xs,SqT X.K H p xs∧n=xs.length:=e
    rcases e' with ⟨xs,hx,e'⟩ | ⟨xs,hx,e'⟩
    · subst e'
      obtain ⟨its,r',pl,hz⟩:=I.list hx
      have hlen:=r'.length
      exact Calls.call_len_list pl.isList (by simp only [List.size_toArray];omega) ⟨.int xs.length,H,I.tok _,⟨_,by simp only [List.size_toArray];rw [hlen]⟩,q⟩
    · subst e'
      obtain ⟨its,r',pl,hz⟩:=I.tuple hx
      have hlen:=r'.length
      exact len_tuple pl (by simp only [List.size_toArray];omega) ⟨.int xs.length,H,I.tok _,⟨_,by simp only [List.size_toArray];rw [hlen]⟩,q⟩
  | _=>exact (show False from e).elim
end
end L2
namespace L2
open PySem PySem.Spec PyProof.Rows
structure ObjM (h:Heap) (x dx C:Addr) (mA:Str→Option Value):Prop where
  obj:h.get? x=some (PySem.W.instObj C dx)
  ns:h.Ns1 dx mA
  ne:dx≠x
theorem lookIn_ns {h:Heap} {dx:Addr} {mA:Str→Option Value} (n:h.Ns1 dx mA):∃ od,h.get? dx=some od∧∀ name,PySem.W.lookIn name od=some (mA name):=by
  obtain ⟨o,es,ep,ho,hd,hk,_,hm⟩:=n
  refine ⟨o,ho,fun name=>?_⟩
  have e:=hm name
  unfold nsFind findBy at e
  rw [← Array.find?_toList] at e
  unfold PySem.W.lookIn
  rw [hd]
  dsimp only
  split
  · rename_i y q
    rw [q] at e
    exact congrArg some e
  · rename_i q
    rw [q] at e
    have a:es.toList.any (·.refKey)=false:=by
      rw [List.any_eq_false]
      intro y hy
      obtain ⟨z,t,hkey⟩:=hk y (Array.mem_toList_iff.mp hy)
      simp [DictEntry.refKey,hkey]
    have a':¬ es.toList.any (·.refKey)=true:=by rw [a];exact Bool.false_ne_true
    rw [if_neg a']
    exact congrArg some e
theorem ObjM.look {h:Heap} {x dx C:Addr} {mA:Str→Option Value} (I:ObjM h x dx C mA):∃ od,PySem.W.InstAt h x (PySem.W.instObj C dx) C (some od)∧∀ name,PySem.W.lookIn name od=some (mA name) :=
  let ⟨od,ho,hl⟩:=lookIn_ns I.ns
  ⟨od,⟨I.obj,rfl,rfl,ho⟩,hl⟩
section
variable {prog:Program} {w:World} {A:Around} {E:Value→Shared→Prop} {s:Shared} {K:PySem.W.Frag} {x dx C f:Addr} {mA:Str→Option Value} {name:Str} {v:Value}
theorem get_map {expr:Bool} {Q:Value→Shared→Prop} (X:K.In s.heap) (I:ObjM s.heap x dx C mA) (hg:PySem.W.plainGet K C name=true) (hh:PySem.W.hasDictIn K C=true)
    (ha:PySem.W.findIn K (.ref C) name=some none) (hv:mA name=some v) (hv':PySem.W.handedIn v=true) (h:Q v { s with toks:=s.toks + 1 }) :
    wpAny (model prog w) A (getAttr (.ref x) name expr) Q E s:=by
  obtain ⟨od,J,hl⟩:=I.look
  exact PySem.W.get_value X J (PySem.W.plainGet_of hg).1 (PySem.W.findObj_own hh ha rfl (by rw [hl,hv])) hv' h
theorem get_meth {pl:Sem Bool} {Q:Value × List Value→Shared→Prop} (X:K.In s.heap) (I:ObjM s.heap x dx C mA) (hg:PySem.W.plainGet K C name=true)
    (hf:PySem.W.findIn K (.ref C) name=some (some (.ref f))) (ht:PySem.W.isFn K (.ref f)=true) (hv:mA name=none) (h:Q (.ref f,[.ref x]) s) :
    wpAny (model prog w) A (getMethod (.ref x) name pl) Q E s:=by
  obtain ⟨od,J,hl⟩:=I.look
  exact PySem.W.method_fn X J (PySem.W.plainGet_of hg).1 (PySem.W.plainGet_of hg).2 hf (beq_iff_eq.mp ht) (by show (PySem.W.lookIn name od).map (·.isSome)=some false;rw [hl,hv];rfl) h
theorem set_map {ns:List Str} {Q:Unit→Shared→Prop} (X:K.In s.heap) (I:ObjM s.heap x dx C mA)
    (hs:PySem.W.findIn K (.ref C) "__setattr__"=some (some (.builtin "object.__setattr__"))) (hp:PySem.W.plainOver K C=true) (ht:PySem.W.takerIn K C name=some none) (hh:PySem.W.hasDictIn K C=true)
    (hw:PySem.Within mA ns) (hsz:ns.length≤sizeLine)
    (h:∀ h',ObjM h' x dx C (fun y=>if y=name then some v else mA y)→Heap.SameBut dx s.heap h'→Q () { s with heap:=h',toks:=s.toks + 2 }) :
    wpAny (model prog w) A (setAttr (.ref x) name v) Q E s:=by
  obtain ⟨od,J,hl⟩:=I.look
  refine PySem.W.set_plain X J hs (PySem.W.osa_open (s:={ s with toks:=s.toks + 1 }) (r:=none) X J hp ht fun b=>?_)
  obtain ⟨cd,hc,hd'⟩:=PySem.W.any_some hh
  have hx:s.heap.get? x=some ⟨.ref C,some dx,.plain,#[]⟩:=I.obj
  refine wpAny_bind (wpAny_pure (wpAny_bind (wpAny_bind (wpAny_loadPart hx (wpAny_bind (PySem.W.Looks.here (s:={ s with toks:=s.toks + 1 }) (PySem.W.looks_clsIn X hc) ?_))))))
  rw [hd']
  refine wpAny_pure (a:=some dx) (wpAny_bind (wpAny_pure (wpAny_bind ?_)))
  refine wpAny_nsSet1 (s:={ s with toks:=s.toks + 1 }) I.ns fun h' hn2 hs2=>?_
  obtain ⟨oD,esD,epD,hoD,hdD,hcD⟩:=hn2.count (PySem.Within.cons name v hw)
  refine wpAny_bind (wpAny_lookBehind hoD (by rw [hdD];exact pastItsLine_dict (Nat.le_trans hcD (by rw [List.length_cons];omega))) ?_)
  exact wpAny_pure (h _ ⟨(hs2.2 _ (Ne.symm I.ne)).trans I.obj,hn2,I.ne⟩ hs2)
theorem make_map {R:Result→Shared→Prop} {vs:List Value} {kw:List (Str × Value)} (X:K.In s.heap) (hm:PySem.W.makesIn K C=true)
    (hi:PySem.W.findIn K (.ref C) "__init__"=some (some (.ref f))) (hf:PySem.W.typeIn K (.ref f)=some (.type "function"))
    (h:codeAny (model prog w) (A.under (.builtin "type.__call__" ⟨.ref C :: vs,kw⟩)) (.call (.ref f) ⟨.ref (s.heap.objs.size + 1) :: vs,kw⟩) (PySem.W.InitBack (s.heap.objs.size + 1) R)
      { s with heap:=(s.heap.push PySem.W.emptyDict).push (PySem.W.instObj C s.heap.objs.size) }) :
    codeAny (model prog w) A (.call (.ref C) ⟨vs,kw⟩) R s:=by
  obtain ⟨hh,g,d,t,os⟩:=s
  exact PySem.W.make_core (PySem.W.makes_of X hm) (PySem.W.looks_findIn X hi) (fun self=>PySem.W.bind_fn X self hf) (.inl rfl) h
end
def putF (f:Str) (v:V):List (Str × V)→List (Str × V)
  | []=>[(f,v)]
  | (g,x) :: r=>if g=f then (g,v) :: r else (g,x) :: putF f v r
theorem lookup_putF (f g:Str) (v:V):∀ fs:List (Str × V),(putF f v fs).lookup g=if g=f then some v else fs.lookup g
  | []=>by
    show List.lookup g [(f,v)]=_
    by_cases h:g=f
    · have hb:(g == f)=true:=beq_iff_eq.mpr h
      simp only [List.lookup,hb,if_pos h]
    · have hb:(g == f)=false:=beq_eq_false_iff_ne.mpr h
      simp only [List.lookup,hb,if_neg h]
  | (k,x) :: r=>by
    have ih:=lookup_putF f g v r
    rw [show putF f v ((k,x) :: r)=(if k=f then (k,v) :: r else (k,x) :: putF f v r) from rfl]
    by_cases hk:k=f
    · rw [if_pos hk]
      by_cases h:g=k
      · have hb:(g == k)=true:=beq_iff_eq.mpr h
        simp only [List.lookup,hb,if_pos (h.trans hk)]
      · have hb:(g == k)=false:=beq_eq_false_iff_ne.mpr h
        simp only [List.lookup,hb,if_neg (fun e:g=f=>h (e.trans hk.symm))]
    · rw [if_neg hk]
      by_cases h:g=k
      · have hb:(g == k)=true:=beq_iff_eq.mpr h
        simp only [List.lookup,hb,if_neg (fun e:g=f=>hk (h.symm.trans e))]
      · have hb:(g == k)=false:=beq_eq_false_iff_ne.mpr h
        simp only [List.lookup,hb]
        exact ih
theorem keys_putF (f:Str) (v:V):∀ fs:List (Str × V),f∈(putF f v fs).map (·.1)∧∀ g,g∈fs.map (·.1)→g∈(putF f v fs).map (·.1)
  | []=>⟨by simp [putF],fun g h=>by simp at h⟩
  | (k,x) :: r=>by
    obtain ⟨i1,i2⟩:=keys_putF f v r
    rw [show putF f v ((k,x) :: r)=(if k=f then (k,v) :: r else (k,x) :: putF f v r) from rfl]
    by_cases hk:k=f
    · rw [if_pos hk]
      subst hk
      exact ⟨by simp,fun g h=>by simpa using h⟩
    · rw [if_neg hk]
      refine ⟨?_,fun g h=>?_⟩
      · rw [List.map_cons]
        exact List.mem_cons_of_mem _ i1
      · rw [List.map_cons] at h ⊢
        rcases List.mem_cons.mp h with e | e
        · exact List.mem_cons.mpr (.inl e)
        · exact List.mem_cons_of_mem _ (i2 g e)
theorem length_putF (f:Str) (v:V):∀ fs:List (Str × V),(putF f v fs).length≤fs.length + 1
  | []=>by simp [putF]
  | (k,x) :: r=>by
    have ih:=length_putF f v r
    rw [show putF f v ((k,x) :: r)=(if k=f then (k,v) :: r else (k,x) :: putF f v r) from rfl]
    by_cases hk:k=f
    · rw [if_pos hk,List.length_cons,List.length_cons];omega
    · rw [if_neg hk,List.length_cons,List.length_cons];omega
theorem RelO.some_of {v:V} {o:Option Value} (r:RelO (some v) o):∃ u,o=some u∧RelV v u:=by
  cases o with
  | none=>exact (show False from r).elim
  | some u=>exact ⟨u,rfl,r⟩
theorem RelO.none_of {o:Option Value} (r:RelO none o):o=none:=by
  cases o with
  | none=>rfl
  | some u=>exact (show False from r).elim
theorem handed_of {v:V} {u:Value} (r:RelV v u):PySem.W.handedIn u=true:=by
  cases v with
  | non=>cases (show u=Value.none from r);rfl
  | bl b=>cases (show u=Value.bool b from r);rfl
  | int i=>obtain ⟨t,e⟩:=(show ∃ t,u=Value.int i t from r);cases e;rfl
  | str x=>obtain ⟨t,e⟩:=(show ∃ t,u=Value.str x t from r);cases e;rfl
  | byt b=>obtain ⟨t,e⟩:=(show ∃ t,u=Value.bytes b t from r);cases e;rfl
  | flt b=>obtain ⟨t,e⟩:=(show ∃ t,u=Value.float b t from r);cases e;rfl
  | ref a=>cases (show u=Value.ref a from r);rfl
  | ty n=>cases (show u=Value.type n from r);rfl
section
variable {P:Program} {w:World} {H H':Hp} {h h':Heap} {a C dx:Addr} {fs fs':List (Str × V)}
theorem ins_get (hok:HOk P w H h) (e:H a=some (.ins C dx fs)):∃ mA,ObjM h a dx C mA∧(∀ f,RelO (fs.lookup f) (mA f))∧PySem.Within mA (fs.map (·.1))∧fs.length≤1000∧H dx=some (.own a):=by
  obtain ⟨d,z,ne,ob,mA,n,r,q⟩:=(show ObjOk P w H h a (.ins C dx fs) from hok a _ e)
  exact ⟨mA,⟨ob,n,ne⟩,r,q,z,d⟩
end
structure Cls (K:PySem.W.Frag) (C:Addr):Prop where
  pg:PySem.W.plainGet K C Str.empty=true
  hd:PySem.W.hasDictIn K C=true
  po:PySem.W.plainOver K C=true
  sa:PySem.W.findIn K (.ref C) "__setattr__"=some (some (.builtin "object.__setattr__"))
theorem Cls.get {K:PySem.W.Frag} {C:Addr} (c:Cls K C) (f:Str):PySem.W.plainGet K C f=true:=c.pg
def NoAttr (K:PySem.W.Frag) (C:Addr) (f:Str):Prop:=PySem.W.findIn K (.ref C) f=some none
theorem NoAttr.taker {K:PySem.W.Frag} {C:Addr} {f:Str} (n:NoAttr K C f):PySem.W.takerIn K C f=some none:=by
  unfold PySem.W.takerIn
  rw [show PySem.W.findIn K (.ref C) f=some none from n]
  rfl
structure Meth (K:PySem.W.Frag) (C:Addr) (m:Str) (f:Addr):Prop where
  at_:PySem.W.findIn K (.ref C) m=some (some (.ref f))
  fn:PySem.W.isFn K (.ref f)=true
  kp:PySem.W.keepIn K (.ref f)=true
section
variable {X:Cx} {pins:List (Addr × Obj)} {σ:St} {H:Hp} {s:Shared} {a C dx:Addr} {fs:List (Str × V)} {f:Str} {v:V} {A:Around} {E:Value→Shared→Prop}
theorem getattr_ok {b:Bool} {Q:Value→Shared→Prop} (I:Inv X pins σ H s) (e:H a=some (.ins C dx fs)) (c:Cls X.K C) (n:NoAttr X.K C f) (l:fs.lookup f=some v)
    (h:∀ u s',Inv X pins σ H s'→RelV v u→Q u s'):wpAny (model X.prog X.w) A (getAttr (.ref a) f b) Q E s:=by
  obtain ⟨mA,O,r,_,_,_⟩:=ins_get I.hok e
  obtain ⟨u,hu,ru⟩:=RelO.some_of (v:=v) (o:=mA f) (by rw [← l];exact r f)
  exact get_map I.kIn O (c.get f) c.hd n hu (handed_of ru) (h u _ (I.tok _) ru)
theorem getmeth_ok {m:Str} {g:Addr} {pl:Sem Bool} {Q:Value × List Value→Shared→Prop} (I:Inv X pins σ H s) (e:H a=some (.ins C dx fs)) (c:Cls X.K C) (k:Meth X.K C m g) (l:fs.lookup m=none)
    (h:Q (.ref g,[.ref a]) s):wpAny (model X.prog X.w) A (getMethod (.ref a) m pl) Q E s:=by
  obtain ⟨mA,O,r,_,_,_⟩:=ins_get I.hok e
  have hn:mA m=none:=RelO.none_of (by rw [← l];exact r m)
  exact get_meth I.kIn O (c.get m) k.at_ k.fn hn h
theorem setattr_ok {y:V} {u:Value} {Q:Unit→Shared→Prop} (I:Inv X pins σ H s) (e:H a=some (.ins C dx fs)) (c:Cls X.K C) (n:NoAttr X.K C f) (hl:fs.length < 1000) (ry:RelV y u)
    (h:∀ s',Inv X pins σ (upd H a (.ins C dx (putF f y fs))) s'→Q () s'):wpAny (model X.prog X.w) A (setAttr (.ref a) f u) Q E s:=by
  obtain ⟨mA,O,r,wi,_,ho⟩:=ins_get I.hok e
  have hz:(fs.map (·.1)).length≤sizeLine:=by rw [List.length_map,sizeLine_eq];omega
  refine set_map I.kIn O c.sa c.po n.taker c.hd wi hz fun h' O' sb=>h _ ?_
  have hd:∃ o,h'.get? dx=some o:=let ⟨o,_,_,e',_⟩:=O'.ns;⟨o,e'⟩
  refine I.write (x:=a) (e:=dx) (by rw [e];exact True.intro) (.inr ho) (fun b q hb z=>(sb.2 b hb).trans z) hd ?_
  refine ⟨by rw [upd_ne O.ne];exact ho,?_,O.ne,O'.obj,_,O'.ns,fun g=>?_,fun g hg=>?_⟩
  · have:=length_putF f y fs;omega
  · show RelO ((putF f y fs).lookup g) (if g=f then some u else mA g)
    rw [lookup_putF]
    by_cases q:g=f
    · rw [if_pos q,if_pos q];exact ry
    · rw [if_neg q,if_neg q];exact r g
  · by_cases q:g=f
    · rw [q];exact (keys_putF f y fs).1
    · refine (keys_putF f y fs).2 g (wi g fun z=>hg ?_)
      show (if g=f then some u else mA g)=none
      rw [if_neg q];exact z
theorem Inv.made (I:Inv X pins σ H s):Inv X pins σ (upd (upd H s.heap.objs.size (.own (s.heap.objs.size + 1))) (s.heap.objs.size + 1) (.ins C s.heap.objs.size []))
    { s with heap:=(s.heap.push PySem.W.emptyDict).push (PySem.W.instObj C s.heap.objs.size) }:=by
  have e1:(s.heap.push PySem.W.emptyDict).get? s.heap.objs.size=some PySem.W.emptyDict:=Heap.get?_push_size s.heap rfl
  have e2:((s.heap.push PySem.W.emptyDict).push (PySem.W.instObj C s.heap.objs.size)).get? (s.heap.objs.size + 1)=some (PySem.W.instObj C s.heap.objs.size):=by
    have:=Heap.get?_push_size (s.heap.push PySem.W.emptyDict) (o:=PySem.W.instObj C s.heap.objs.size) rfl
    rwa [Heap.size_push] at this
  have e3:(s.heap.push PySem.W.emptyDict).Ns s.heap.objs.size (fun _=>none):=⟨PySem.W.emptyDict,#[],_,e1,rfl,(fun e he=>absurd he (by simp)),fun _=>rfl⟩
  have I1:=I.laid (a:=s.heap.objs.size) (o:=.own (s.heap.objs.size + 1)) (h':=s.heap.push PySem.W.emptyDict) (t':=s.toks) (fun b u q=>Heap.get?_push_of_some _ q) (Nat.le_refl _) ⟨_,e1⟩
  refine I1.laid (a:=s.heap.objs.size + 1) (o:=.ins C s.heap.objs.size []) (t':=s.toks) (fun b u q=>Heap.get?_push_of_some _ q) (Nat.le_of_eq (Heap.size_push _ _)) ?_
  have ne:s.heap.objs.size≠s.heap.objs.size + 1:=Nat.ne_of_lt (Nat.lt_succ_self _)
  refine ⟨by rw [upd_ne ne,upd_same],Nat.zero_le _,ne,e2,fun _=>none,(Heap.Ns1.of_empty e3).at fun o q=>Heap.get?_push_of_some _ q,fun _=>True.intro,fun y hy=>absurd rfl hy⟩
theorem attr_of {prog:Program} {w:World} {env:Env} {e:Expr} {f:Str} {pos:Pos} {s:Shared} {Q:Value→Shared→Prop} (hb:attributeBase e f env (eval e env)=eval e env)
    (h:wpAny (model prog w) A (eval e env) (fun o s₁=>wpAny (model prog w) A (getAttr o f true) Q E s₁) E s):wpAny (model prog w) A (eval (.Attribute e f pos) env) Q E s :=
  Attribute_any_ h (by rw [arm_eval_Attribute,hb])
end
def tFld (K:PySem.W.Frag) (ta:TE) (f:Str):TE:=fun σ H Q=>ta σ H fun x H1=>∃ a C dx fs v,x=.ref a∧H1 a=some (.ins C dx fs)∧Cls K C∧NoAttr K C f∧fs.lookup f=some v∧Q v H1
def sFld (K:PySem.W.Frag) (ta tv:TE) (f:Str):TS:=fun D σ H=>tv σ H fun y H1=>ta σ H1 fun x H2=>∃ a C dx fs,x=.ref a∧H2 a=some (.ins C dx fs)∧Cls K C∧NoAttr K C f∧fs.length < 1000 ∧
  D.nx σ (upd H2 a (.ins C dx (putF f y fs)))
section
variable {X:Cx} {o e value:Expr} {f:Str} {pos pos' tpos:Pos} {ta tv:TE}
theorem pe_fld (he:PE X e ta) (hb:attributeBase e f X.env (eval e X.env)=eval e X.env):PE X (.Attribute e f pos) (tFld X.K ta f):=by
  intro pins s σ H Q I h
  refine attr_of hb (thn (he pins s σ H _ I h) fun u s1 ⟨x,H1,I1,rx,a,C,dx,fs,v,ex,ea,c,n,l,q⟩=>?_)
  subst ex
  obtain rfl:u=Value.ref a:=rx
  exact getattr_ok I1 ea c n l fun u' s2 I2 ru=>⟨v,H1,I2,ru,q⟩
theorem ps_fld (ha:PE X o ta) (hv:PE X value tv) (hs:swapsWith value (some (.Attribute o f pos')) pos.line X.env=pure false):PS X (.Assign [.Attribute o f pos'] value pos) (sFld X.K ta tv f):=by
  intro pins s σ H D I h
  refine plainObj_wpAny_Assign_Attribute (thn (hv pins s σ H _ I h) fun u s1 ⟨y,H1,I1,ry,q⟩=>thn (ha pins s1 σ H1 _ I1 q) fun ov s2 ⟨x,H2,I2,rx,a,C,dx,fs,ex,ea,c,n,l,q2⟩=>?_) hs
  subst ex
  obtain rfl:ov=Value.ref a:=rx
  exact setattr_ok I2 ea c n l ry fun s3 I3=>⟨σ,_,I3,q2⟩
end
section
variable {X:Cx} {pins:List (Addr × Obj)} {σ:St} {H:Hp} {s:Shared} {A:Around} {E:Value→Shared→Prop} {Q:Value→Shared→Prop} {c:Value} {b:Bool}
inductive TyOf (K:PySem.W.Frag) (H:Hp):V→Value→Prop where
  | non:TyOf K H .non (.type "NoneType")
  | bl (x:Bool):TyOf K H (.bl x) (.type "bool")
  | int (i:Int):TyOf K H (.int i) (.type "int")
  | str (x:Str):TyOf K H (.str x) (.type "str")
  | flt (x:UInt64):TyOf K H (.flt x) (.type "float")
  | lst {a:Addr} {xs:List V} (e:H a=some (.lst xs)):TyOf K H (.ref a) (.type "list")
  | frz {a:Addr} {o:Obj} {xs:List V} (e:H a=some (.frz o (.lst xs))):TyOf K H (.ref a) (.type "list")
  | tup {a:Addr} {xs:List V} (e:H a=some (.tup xs)):TyOf K H (.ref a) (.type "tuple")
  | dK {a:Addr} {kvs:List (Key × V)} (e:H a=some (.dK kvs)):TyOf K H (.ref a) (.type "dict")
  | dT {a:Addr} {kvs:List (List Key × V)} (e:H a=some (.dT kvs)):TyOf K H (.ref a) (.type "dict")
  | ins {a C dx:Addr} {fs:List (Str × V)} (e:H a=some (.ins C dx fs)) (cl:Cls K C) (ha:PySem.W.findIn K (.ref C) "__class__"=some (some (.builtin "object.__class__")))
      (hn:PySem.W.specialIn K (.builtin "object.__class__") "__get__"=some (some (.builtin "getset_descriptor.__get__"))) (htk:PySem.W.takesIn K (.builtin "object.__class__")=some true)
      (hm:PySem.W.mroIn K C (.type "object")=some true):TyOf K H (.ref a) (.ref C)
theorem isinst_ok {x:V} {u t:Value} (I:Inv X pins σ H s) (rx:RelV x u) (ty:TyOf X.K H x t) (e:PySem.W.kitOne X.K t c=some b) (h:∀ tk,Q (.bool b) { s with toks:=tk }) :
    wpAny (model X.prog X.w) A (call (.builtin "isinstance") [u,c]) Q E s:=by
  cases ty with
  | non=>cases (show u=Value.none from rx);exact PySem.W.kia_one PySem.W.kitx_none I.kIn True.intro e (fun z=>nomatch z) h
  | bl y=>cases (show u=Value.bool y from rx);exact PySem.W.kia_one PySem.W.kitx_bool I.kIn True.intro e (fun z=>nomatch z) h
  | int i=>obtain ⟨t,q⟩:=(show ∃ t,u=Value.int i t from rx);cases q;exact PySem.W.kia_one PySem.W.kitx_int I.kIn True.intro e (fun z=>nomatch z) h
  | str y=>obtain ⟨t,q⟩:=(show ∃ t,u=Value.str y t from rx);cases q;exact PySem.W.kia_one PySem.W.kitx_str I.kIn True.intro e (fun z=>nomatch z) h
  | flt y=>obtain ⟨t,q⟩:=(show ∃ t,u=Value.float y t from rx);cases q;exact PySem.W.kia_one PySem.W.kitx_float I.kIn True.intro e (fun z=>nomatch z) h
  | @lst a xs ea =>
    cases (show u=Value.ref a from rx)
    obtain ⟨_,_,n,_,h1⟩:=(show ObjOk X.prog X.w H s.heap a (.lst xs) from I.hok a _ ea)
    exact PySem.W.kia_one PySem.W.kitx_list I.kIn ⟨_,h1,rfl⟩ e (fun z=>nomatch z) h
  | @frz a ob xs ea =>
    cases (show u=Value.ref a from rx)
    obtain ⟨_,_,_,n,_,h1⟩:=(show ObjOk X.prog X.w H s.heap a (.frz ob (.lst xs)) from I.hok a _ ea)
    exact PySem.W.kia_one PySem.W.kitx_list I.kIn ⟨_,h1,rfl⟩ e (fun z=>nomatch z) h
  | @tup a xs ea =>
    cases (show u=Value.ref a from rx)
    obtain ⟨_,_,_,p⟩:=(show ObjOk X.prog X.w H s.heap a (.tup xs) from I.hok a _ ea)
    obtain ⟨o,h1,h2,_⟩:=p
    exact PySem.W.kia_one PySem.W.kitx_tuple I.kIn ⟨o,h1,h2⟩ e (fun z=>nomatch z) h
  | @dK a kvs ea =>
    cases (show u=Value.ref a from rx)
    obtain ⟨_,_,vs,_,p⟩:=(show ObjOk X.prog X.w H s.heap a (.dK kvs) from I.hok a _ ea)
    obtain ⟨o,es,ep,h1,h2,_⟩:=p
    exact PySem.W.kia_one PySem.W.kitx_dict I.kIn ⟨o,h1,h2.1⟩ e (fun z=>nomatch z) h
  | @dT a kvs ea =>
    cases (show u=Value.ref a from rx)
    obtain ⟨_,_,xs,_,o,es,ep,h1,h2,_⟩:=(show ObjOk X.prog X.w H s.heap a (.dT kvs) from I.hok a _ ea)
    exact PySem.W.kia_one PySem.W.kitx_dict I.kIn ⟨o,h1,h2.1⟩ e (fun z=>nomatch z) h
  | @ins a C dx fs ea cl ha hn htk hm =>
    cases (show u=Value.ref a from rx)
    obtain ⟨mA,O,_⟩:=ins_get I.hok ea
    obtain ⟨od,J,_⟩:=O.look
    exact PySem.W.kia_one (PySem.W.kitx_own (cl.get _) cl.hd ha hn htk hm) I.kIn J e (fun z=>nomatch z) h
end
end L2
namespace L2
open PySem PySem.Spec PyProof.Rows
structure Room (k:Nat) (A:Around):Prop where
  hd:A.handled=none
  dp:A.depth + 3 * k + 5 < recursionLimit
  un:A.units + 16 * k + 200 < cLine
theorem Room.mono {j k:Nat} {A:Around} (r:Room k A) (h:j≤k):Room j A:=⟨r.hd,by have:=r.dp;omega,by have:=r.un;omega⟩
theorem Room.deeper {k:Nat} {A:Around} (r:Room (k + 1) A) (env:Env):Room k (A.deeper env) :=
  ⟨r.hd,by have:=r.dp;show A.depth + 1 + 3 * k + 5 < _;omega,by have:=r.un;show A.units + 3 + 16 * k + 200 < _;omega⟩
theorem make_depth {A:Around} {C:Addr} {us:List Value} {kw:List (Str × Value)}:(A.under (.builtin "type.__call__" ⟨.ref C :: us,kw⟩)).depth=A.depth + 1:=by
  first | rfl | simp [Around.under,Code.weight,Code.isCreation,Code.isGuard,Code.isCaller,Code.frames,Code.isFrame,guardIds]
theorem make_units {A:Around} {C:Addr} {us:List Value} {kw:List (Str × Value)}:(A.under (.builtin "type.__call__" ⟨.ref C :: us,kw⟩)).units=A.units + 1:=by
  first | rfl | simp [Around.under,Code.cUnits,Code.frames,Code.isFrame]
theorem Room.make {k:Nat} {A:Around} (r:Room (k + 1) A) (C:Addr) (us:List Value) (kw:List (Str × Value)):Room k (A.under (.builtin "type.__call__" ⟨.ref C :: us,kw⟩)) :=
  ⟨r.hd,by have:=r.dp;rw [make_depth];omega,by have:=r.un;rw [make_units];omega⟩
theorem Room.depth {k:Nat} {A:Around} (r:Room k A):A.depth < recursionLimit:=by have:=r.dp;omega
theorem Room.units {k:Nat} {A:Around} (r:Room k A):A.units + 64 < cLine:=by have:=r.un;omega
def tNil:TA:=fun _ H Q=>Q [] H
def tCons (ta:TE) (tr:TA):TA:=fun σ H Q=>ta σ H fun x H1=>tr σ H1 fun xs H2=>Q (x :: xs) H2
section
variable {X:Cx} {e:Expr} {es:List Expr} {te:TE} {t:TA} {pos:Pos}
theorem pa_nil:PA X [] tNil:=fun _ _ _ _ H Q I h=>Calls.spliced_nil ⟨[],H,I,.nil,h⟩
theorem pa_cons (ha:PE X e te) (hr:PA X es t) (hs:starEach (e :: es) X.env=(false,eval e X.env) :: starEach es X.env:=by rfl):PA X (e :: es) (tCons te t):=by
  intro pos pins s σ H Q I h
  rw [hs]
  show wpAny _ _ (spliced ((false,eval e X.env) :: backTo pos (starEach es X.env))) _ _ s
  refine Calls.spliced_cons (thn (ha pins s σ H _ I h) fun u s1 ⟨x,H1,I1,r1,q1⟩=>?_)
  exact thn (hr pos pins s1 σ H1 _ I1 q1) fun us s2 ⟨xs,H2,I2,r2,q2⟩=>⟨x :: xs,H2,I2,.cons r1 r2,q2⟩
def tTup (t:TA):TE:=fun σ H Q=>t σ H fun xs H1=>xs.length≤sizeLine∧∀ p,H1 p=none→Q (.ref p) (upd H1 p (.tup xs))
def tLst (t:TA):TE:=fun σ H Q=>t σ H fun xs H1=>xs.length≤sizeLine∧∀ p,H1 p=none→Q (.ref p) (upd H1 p (.lst xs))
theorem pe_tup {x1} (h:PA X es t):PE X (.Tuple es x1 pos) (tTup t):=by
  intro pins s σ H Q I hq
  refine wpAny_Tuple_spliced (thn (h pos pins s σ H _ I hq) fun us s1 ⟨xs,H1,I1,r,z,q⟩=>⟨by rw [← r.length];exact z,?_⟩)
  have hf:H1 s1.heap.objs.size=none:=I1.hok.fresh (Nat.le_refl _)
  refine ⟨.ref s1.heap.objs.size,upd H1 s1.heap.objs.size (.tup xs),I1.laid (t':=s1.toks) (fun b u e=>Heap.get?_push_of_some _ e) (Nat.le_refl _) ?_,rfl,q _ hf⟩
  exact ⟨z,us,r,⟨_,Heap.get?_push_size _ rfl,rfl,_,rfl⟩⟩
theorem pe_lst (h:PA X es t):PE X (.List es pos) (tLst t):=by
  intro pins s σ H Q I hq
  refine wpAny_List_spliced (thn (h pos pins s σ H _ I hq) fun us s1 ⟨xs,H1,I1,r,z,q⟩=>⟨by rw [← r.length];exact z,?_⟩)
  have hf:H1 s1.heap.objs.size=none:=I1.hok.fresh (Nat.le_refl _)
  refine ⟨.ref s1.heap.objs.size,upd H1 s1.heap.objs.size (.lst xs),I1.laid (t':=s1.toks) (fun b u e=>Heap.get?_push_of_some _ e) (Nat.le_refl _) ?_,rfl,q _ hf⟩
  exact ⟨z,us,0,r,Heap.get?_push_size _ rfl⟩
end
abbrev Sp:=List V→Hp→VK→XK→Prop
abbrev CXT:=List Env→Hp→Shared→XK→Value→Shared→Prop
structure Env0 (P:Program) (w:World) (K:PySem.W.Frag) (mg:Str→Option Value) (base:Heap) (A:Around) (outer:List Env) (s:Shared) (H:Hp):Prop where
  frames:A.frames=some outer
  mod:Mod K mg base
  bs:∀ b o,base.get? b=some o→s.heap.get? b=some o∧H b=none
  bsz:base.objs.size≤s.heap.objs.size
  funs:s.heap.FunFrames base outer
  frf:∀ b∈frs outer,H b=none
  hok:HOk P w H s.heap
  bare:AllBare s.gens
def CE (outer:List Env) (P:Program) (w:World) (H:Hp) (s:Shared) (Q:VK) (u:Value) (s':Shared):Prop :=
  ∃ v H',s'.os=s.os∧AllBare s'.gens∧Un (frs outer) [] H H' s.heap s'.heap∧HOk P w H' s'.heap∧RelV v u∧Q v H'
def CR (CX:CXT) (outer:List Env) (P:Program) (w:World) (H:Hp) (s:Shared) (Q:VK) (E:XK) (r:Result) (s':Shared):Prop :=
  match r with
  | .ok (.ret u)=>CE outer P w H s Q u s'
  | .ok _=>False
  | .error e=>CX outer H s E e s'
structure FnOk (P:Program) (w:World) (K:PySem.W.Frag) (mg:Str→Option Value) (base:Heap) (CX:CXT) (k:Nat) (f:Addr) (fd:FuncData) (ps:List Str) (sp:Sp):Prop where
  len:∀ vs H Q E,sp vs H Q E→vs.length=ps.length
  run:∀ (A:Around) (outer:List Env) (s:Shared) (H:Hp) (args:Args) (us:List Value) (vs:List V) (Q:VK) (E:XK),Room k A→Env0 P w K mg base A outer s H→BindsTo s fd args (ps.zip us)→Vals vs us→sp vs H Q E →
    codeAny (model P w) A (.call (.ref f) args) (CR CX outer P w H s Q E) s
theorem FnOk.mono {P:Program} {w:World} {K:PySem.W.Frag} {mg:Str→Option Value} {base:Heap} {CX:CXT} {j k:Nat} {f:Addr} {fd:FuncData} {ps:List Str} {sp:Sp} (F:FnOk P w K mg base CX j f fd ps sp) (h:j≤k) :
    FnOk P w K mg base CX k f fd ps sp:=⟨F.len,fun A outer s H args us vs Q E hr=>F.run A outer s H args us vs Q E (hr.mono h)⟩
theorem Env0.make {P:Program} {w:World} {K:PySem.W.Frag} {mg:Str→Option Value} {base:Heap} {A:Around} {outer:List Env} {s:Shared} {H:Hp} (e:Env0 P w K mg base A outer s H) (C:Addr) (us:List Value) (kw:List (Str × Value)) :
    Env0 P w K mg base (A.under (.builtin "type.__call__" ⟨.ref C :: us,kw⟩)) outer s H:=⟨by first | exact e.frames | (simpa [Around.under,Code.envs,Code.isFrame,pushEnvs] using e.frames),e.mod,e.bs,e.bsz,e.funs,e.frf,e.hok,e.bare⟩
section
variable {X:Cx} {pins:List (Addr × Obj)} {σ:St} {H:Hp} {s s':Shared}
theorem Inv.env0 (I:Inv X pins σ H s):Env0 X.prog X.w X.K X.mg X.base X.A X.stack s H :=
  ⟨I.ok.frames,I.ok.mod,I.bs,Nat.le_trans I.ok.bsz I.sz,I.stack,I.stkFree,I.hok,I.bare⟩
theorem Inv.after {Q:VK} {u:Value} (I:Inv X pins σ H s) (h:CE X.stack X.prog X.w H s Q u s'):EP X pins σ Q u s':=by
  obtain ⟨v,H',os,bare,un,hok,r,q⟩:=h
  obtain ⟨hh,g,d,t,os'⟩:=s'
  obtain rfl:os'=s.os:=os
  exact ⟨v,H',I.call (h':=hh) (g':=g) (d':=d) (t':=t) (ch:=[]) un hok bare (fun b z=>absurd z (by simp)),r,q⟩
end
def tCall (sp:Sp) (dvs:List V) (E:XK) (t:TA):TE:=fun σ H Q=>t σ H fun vs H1=>sp (vs ++ dvs) H1 Q E
def tMeth (C:Addr) (m:Str) (sp:Sp) (dvs:List V) (E:XK) (ta:TE) (t:TA):TE:=fun σ H Q=>ta σ H fun x H1=>∃ a dx fs,x=.ref a∧H1 a=some (.ins C dx fs)∧fs.lookup m=none ∧
  t σ H1 fun vs H2=>sp (x :: (vs ++ dvs)) H2 Q E
def tMake (C:Addr) (sp:Sp) (dvs:List V) (E:XK) (t:TA):TE:=fun σ H Q=>t σ H fun vs H1=>∀ x dx,H1 x=none→H1 dx=none→dx≠x →
  sp (.ref x :: (vs ++ dvs)) (upd (upd H1 dx (.own x)) x (.ins C dx [])) (fun v H2=>v=.non∧Q (.ref x) H2) E
def Binds (K:PySem.W.Frag) (fd:FuncData) (ps:List Str) (ds:List Value):Prop :=
  ∀ (s:Shared) (us:List Value),K.In s.heap→(us ++ ds).length=ps.length→BindsTo s fd ⟨us,[]⟩ (ps.zip (us ++ ds))
theorem Binds.all {K:PySem.W.Frag} {fd:FuncData} {ps:List Str} (h:∀ us:List Value,us.length=ps.length→bindArgs fd ⟨us,[]⟩=pure (ps.zip us)):Binds K fd ps []:=fun s us _ hl=>by
  rw [List.append_nil] at hl ⊢
  exact .of_eq (h us hl)
def Passes (CX:CXT) (X:Cx) (E:XK):Prop:=∀ (pins:List (Addr × Obj)) (σ:St) (H:Hp) (s:Shared) (e:Value) (s':Shared),Inv X pins σ H s→CX X.stack H s E e s'→X.xe e s'
section
variable {X:Cx} {CX:CXT} {k:Nat} {f C:Addr} {fd:FuncData} {ps:List Str} {sp:Sp} {dvs:List V} {ds:List Value} {E:XK} {x m:Str} {p pos apos:Pos} {e o:Expr} {es:List Expr} {ta:TE} {t:TA}
theorem run_fn {pins:List (Addr × Obj)} {σ:St} {H:Hp} {s:Shared} {Q:VK} {us:List Value} {vs:List V} (F:FnOk X.prog X.w X.K X.mg X.base CX k f fd ps sp) (hr:Room k X.A) (hb:Binds X.K fd ps ds) (hd:Vals dvs ds) (hx:Passes CX X E)
    (I:Inv X pins σ H s) (r:Vals vs us) (h:sp (vs ++ dvs) H Q E):wpAny (model X.prog X.w) X.A (call (.ref f) us) (EP X pins σ Q) X.xe s:=by
  have r2:Vals (vs ++ dvs) (us ++ ds):=r.append hd
  have hl:(us ++ ds).length=ps.length:=by rw [← r2.length];exact F.len _ _ _ _ h
  refine wpAny_call (codeAny_mono (F.run X.A X.stack s H ⟨us,[]⟩ (us ++ ds) (vs ++ dvs) Q E hr I.env0 (hb s us I.kIn hl) r2 h) fun r s' hq=>?_)
  cases r with
  | error e=>exact hx pins σ H s e s' I hq
  | ok fl =>
    cases fl with
    | ret u=>exact I.after hq
    | next=>exact False.elim hq
    | brk=>exact False.elim hq
    | cont=>exact False.elim hq
theorem pe_call (F:FnOk X.prog X.w X.K X.mg X.base CX k f fd ps sp) (hr:Room k X.A) (hg:Gl X x) (hm:X.mg x=some (.ref f)) (hk:PySem.W.keepIn X.K (.ref f)=true) (hb:Binds X.K fd ps ds) (hd:Vals dvs ds) (hx:Passes CX X E)
    (ha:PA X (e :: es) t) (hdb:(x == ("__debug__":Str))=false:=by decide) (he:starEach (e :: es) X.env=(false,eval e X.env) :: starEach es X.env:=by rfl) (hpl:(backTo pos (starEach es X.env)).any (·.1)=false:=by rfl) :
    PE X (.Call (.Name x p) (e :: es) [] pos) (tCall sp dvs E t):=by
  intro pins s σ H Q I h
  refine wpAny_Call_Name_kw (ld_glob I hg hm ?_ hdb)
  refine PySem.W.callWith_K (h₀:=X.base) I.ok.mod.kin hk (thn (ha pos pins s σ H _ I h) fun us s1 ⟨vs,H1,I1,r,q⟩=>⟨I1.kIn,?_⟩) he hpl
  exact run_fn F hr hb hd hx I1 r q
theorem pe_meth {pl:Sem Bool} (he:PE X o ta) (c:Cls X.K C) (hm:Meth X.K C m f) (F:FnOk X.prog X.w X.K X.mg X.base CX k f fd ps sp) (hr:Room k X.A) (hb:Binds X.K fd ps ds) (hd:Vals dvs ds) (hx:Passes CX X E) (ha:PA X (e :: es) t)
    (hst:starEach (e :: es) X.env=(false,eval e X.env) :: starEach es X.env:=by rfl) (hpl:(backTo pos (starEach es X.env)).any (·.1)=false:=by rfl)
    (ht:eval (.Call (.Attribute o m apos) (e :: es) [] pos) X.env=(do
      let ov ← eval o X.env
      standAt apos.atName
      let (f,first) ← holding [ov] (getMethod ov m pl)
      callWith pos f first (backTo pos (starEach (e :: es) X.env)) (backToKw pos (keywordEach [] X.env))):=by rfl) :
    PE X (.Call (.Attribute o m apos) (e :: es) [] pos) (tMeth C m sp dvs E ta t):=by
  intro pins s σ H Q I h
  refine PySem.W.methodCall_KW (pl:=pl) (thn (he pins s σ H _ I h) fun u s1 ⟨x,H1,I1,rx,a,dx,fs,ex,ea,l,q⟩=>?_) ht
  subst ex
  obtain rfl:u=Value.ref a:=rx
  refine getmeth_ok I1 ea c hm l ?_
  refine PySem.W.callWith_K (first:=[.ref a]) (h₀:=X.base) I.ok.mod.kin hm.kp (thn (ha pos pins s1 σ H1 _ I1 q) fun us s2 ⟨vs,H2,I2,r,q2⟩=>⟨I2.kIn,?_⟩) hst hpl
  exact run_fn (us:=.ref a :: us) (vs:=.ref a :: vs) F hr hb hd hx I2 (.cons rfl r) q2
theorem pe_meth0 {pl:Sem Bool} (he:PE X o ta) (c:Cls X.K C) (hm:Meth X.K C m f) (F:FnOk X.prog X.w X.K X.mg X.base CX k f fd ps sp) (hr:Room k X.A) (hb:Binds X.K fd ps ds) (hd:Vals dvs ds) (hx:Passes CX X E)
    (ht:eval (.Call (.Attribute o m apos) [] [] pos) X.env=(do
      let ov ← eval o X.env
      standAt apos.atName
      let (f,first) ← holding [ov] (getMethod ov m pl)
      callWith pos f first (backTo pos (starEach [] X.env)) (backToKw pos (keywordEach [] X.env))):=by rfl) :
    PE X (.Call (.Attribute o m apos) [] [] pos) (tMeth C m sp dvs E ta tNil):=by
  intro pins s σ H Q I h
  refine PySem.W.methodCall_KW (pl:=pl) (thn (he pins s σ H _ I h) fun u s1 ⟨x,H1,I1,rx,a,dx,fs,ex,ea,l,q⟩=>?_) ht
  subst ex
  obtain rfl:u=Value.ref a:=rx
  refine getmeth_ok I1 ea c hm l ?_
  exact PySem.W.callWith_K0 (first:=[.ref a]) I1.kIn hm.kp (run_fn (us:=[.ref a]) (vs:=[.ref a]) F hr hb hd hx I1 (.cons rfl .nil) q)
structure Mk (K:PySem.W.Frag) (C f:Addr):Prop where
  makes:PySem.W.makesIn K C=true
  init:PySem.W.findIn K (.ref C) "__init__"=some (some (.ref f))
  fn:PySem.W.isFn K (.ref f)=true
  kp:PySem.W.keepIn K (.ref C)=true
theorem run_make {pins:List (Addr × Obj)} {σ:St} {H:Hp} {s:Shared} {Q:VK} {us:List Value} {vs:List V} (M:Mk X.K C f) (F:FnOk X.prog X.w X.K X.mg X.base CX k f fd ps sp) (hr:Room (k + 1) X.A) (hb:Binds X.K fd ps ds) (hd:Vals dvs ds)
    (hx:Passes CX X E) (I:Inv X pins σ H s) (r:Vals vs us)
    (h:∀ x dx,H x=none→H dx=none→dx≠x→sp (.ref x :: (vs ++ dvs)) (upd (upd H dx (.own x)) x (.ins C dx [])) (fun v H2=>v=.non∧Q (.ref x) H2) E) :
    wpAny (model X.prog X.w) X.A (call (.ref C) us) (EP X pins σ Q) X.xe s:=by
  have hq:=h (s.heap.objs.size + 1) s.heap.objs.size (I.hok.fresh (Nat.le_succ _)) (I.hok.fresh (Nat.le_refl _)) (Nat.ne_of_lt (Nat.lt_succ_self _))
  have I2:=Inv.made (C:=C) I
  have r2:Vals (V.ref (s.heap.objs.size + 1) :: (vs ++ dvs)) (Value.ref (s.heap.objs.size + 1) :: (us ++ ds)):=.cons rfl (r.append hd)
  have hl:(Value.ref (s.heap.objs.size + 1) :: us ++ ds).length=ps.length:=by
    have e:=r2.length
    rw [F.len _ _ _ _ hq] at e
    exact e.symm
  refine wpAny_call (make_map (f:=f) I.kIn M.makes M.init (beq_iff_eq.mp M.fn) (codeAny_mono (F.run _ X.stack _ _ ⟨Value.ref (s.heap.objs.size + 1) :: us,[]⟩ (Value.ref (s.heap.objs.size + 1) :: (us ++ ds)) _ _ E (hr.make C us [])
    (I2.env0.make C us []) (hb _ (Value.ref (s.heap.objs.size + 1) :: us) I2.kIn hl) r2 hq) fun r s' hq'=>?_))
  cases r with
  | error e=>exact hx pins σ _ _ e s' I2 hq'
  | ok fl =>
    cases fl with
    | ret u =>
      obtain ⟨v,H',I3,rv,ev,q3⟩:=I2.after hq'
      subst ev
      exact ⟨rv,⟨V.ref (s.heap.objs.size + 1),H',I3,rfl,q3⟩⟩
    | next=>exact False.elim hq'
    | brk=>exact False.elim hq'
    | cont=>exact False.elim hq'
theorem pe_make (M:Mk X.K C f) (F:FnOk X.prog X.w X.K X.mg X.base CX k f fd ps sp) (hr:Room (k + 1) X.A) (hg:Gl X x) (hm:X.mg x=some (.ref C)) (hb:Binds X.K fd ps ds) (hd:Vals dvs ds) (hx:Passes CX X E)
    (ha:PA X (e :: es) t) (hdb:(x == ("__debug__":Str))=false:=by decide) (he:starEach (e :: es) X.env=(false,eval e X.env) :: starEach es X.env:=by rfl) (hpl:(backTo pos (starEach es X.env)).any (·.1)=false:=by rfl) :
    PE X (.Call (.Name x p) (e :: es) [] pos) (tMake C sp dvs E t):=by
  intro pins s σ H Q I h
  refine wpAny_Call_Name_kw (ld_glob I hg hm ?_ hdb)
  refine PySem.W.callWith_K (h₀:=X.base) I.ok.mod.kin M.kp (thn (ha pos pins s σ H _ I h) fun us s1 ⟨vs,H1,I1,r,q⟩=>⟨I1.kIn,?_⟩) he hpl
  exact run_make M F hr hb hd hx I1 r q
end
section
variable {X:Cx} {CX:CXT} {k:Nat} {f C:Addr} {fd:FuncData} {ps ks:List Str} {sp:Sp} {E:XK} {x m:Str} {p pos apos kpos:Pos} {e o:Expr} {es:List Expr} {kws:List Keyword} {te ta:TE} {t tk:TA} {nm:Option Str}
variable {g:List Value→List Value→List Value} {gV:List V→List V→List V}
end
structure FnScope (N P:List Str) (sc:Scope):Prop where
  kind:sc.kind=.function
  co:sc.isCoroutine=false
  gen:sc.isGenerator=false
  nd:N.Nodup
  pre:N.take P.length=P
  par:∀ x∈P,sc.names.lookup x=some .local∨sc.names.lookup x=some .cell
  nofree:∀ y∈sc.names,y.2≠.free
theorem bindL_out {kindOf:Str→Option NameKind} {x:Str}:∀ {binds:List (Str × Value)} {m:Str→Option Value},(∀ v,(x,v) ∉ binds)→bindL kindOf binds m x=m x
  | [],_,_=>rfl
  | (n,v) :: r,m,h=>by
    unfold bindL
    rw [bindL_out fun w hw=>h w (List.mem_cons_of_mem _ hw)]
    split
    · have:x≠n:=by rintro rfl;exact h v List.mem_cons_self
      simp [this]
    · rfl
theorem bindC_out {kindOf:Str→Option NameKind} {x:Str}:∀ {binds:List (Str × Value)} {m:Str→Option Value},(∀ v,(x,v) ∉ binds)→bindC kindOf binds m x=m x
  | [],_,_=>rfl
  | (n,v) :: r,m,h=>by
    unfold bindC
    rw [bindC_out fun w hw=>h w (List.mem_cons_of_mem _ hw)]
    split
    · rfl
    · have:x≠n:=by rintro rfl;exact h v List.mem_cons_self
      simp [this]
theorem bindL_get {kindOf:Str→Option NameKind} {x:Str} {v:Value}:∀ {P:List Str} {vs:List Value} {i:Nat} {m:Str→Option Value},P.Nodup→P[i]?=some x→vs[i]?=some v→kindOf x=some .local →
    bindL kindOf (P.zip vs) m x=some v
  | [],_,_,_,_,h,_,_=>by simp at h
  | _ :: _,[],_,_,_,_,h,_=>by simp at h
  | p :: P,w :: vs,0,m,nd,h1,h2,hk=>by
    simp at h1 h2;subst h1;subst h2
    show bindL kindOf ((p,w) :: P.zip vs) m p=_
    unfold bindL
    rw [bindL_out fun v hv=>(List.nodup_cons.mp nd).1 (List.of_mem_zip hv).1,if_pos hk]
    simp
  | p :: P,w :: vs,i + 1,m,nd,h1,h2,hk=>by
    show bindL kindOf ((p,w) :: P.zip vs) m x=_
    unfold bindL
    exact bindL_get (i:=i) (List.nodup_cons.mp nd).2 (by simpa using h1) (by simpa using h2) hk
theorem bindC_get {kindOf:Str→Option NameKind} {x:Str} {v:Value}:∀ {P:List Str} {vs:List Value} {i:Nat} {m:Str→Option Value},P.Nodup→P[i]?=some x→vs[i]?=some v→kindOf x≠some .local →
    bindC kindOf (P.zip vs) m x=some v
  | [],_,_,_,_,h,_,_=>by simp at h
  | _ :: _,[],_,_,_,_,h,_=>by simp at h
  | p :: P,w :: vs,0,m,nd,h1,h2,hk=>by
    simp at h1 h2;subst h1;subst h2
    show bindC kindOf ((p,w) :: P.zip vs) m p=_
    unfold bindC
    rw [bindC_out fun v hv=>(List.nodup_cons.mp nd).1 (List.of_mem_zip hv).1,if_neg hk]
    simp
  | p :: P,w :: vs,i + 1,m,nd,h1,h2,hk=>by
    show bindC kindOf ((p,w) :: P.zip vs) m x=_
    unfold bindC
    exact bindC_get (i:=i) (List.nodup_cons.mp nd).2 (by simpa using h1) (by simpa using h2) hk
def start (N:List Str) (vs:List V):St:=vs.map some ++ List.replicate (N.length - vs.length) none
def cxOf (CX:CXT) (P:Program) (w:World) (K:PySem.W.Frag) (mg:Str→Option Value) (base:Heap) (N:List Str) (qual:Str) (scope:Scope) (f:Addr) (cd:Value) (A:Around) (outer:List Env) (s:Shared) (H:Hp) (E:XK):Cx where
  prog:=P
  w:=w
  K:=K
  mg:=mg
  base:=base
  A:=A.deeper (envOfC qual scope s.heap.objs.size f cd)
  N:=N
  s₀:=s
  H₀:=H
  env:=envOfC qual scope s.heap.objs.size f cd
  outer:=outer
  stack:=envOfC qual scope s.heap.objs.size f cd :: outer
  ex:=[]
  calm:=true
  fn:=fun _=>true
  pn:=[]
  xe:=fun e s'=>wpAny (model P w) (A.deeper (envOfC qual scope s.heap.objs.size f cd)) (leaving (envOfC qual scope s.heap.objs.size f cd) e) (fun _ s''=>CX outer H s E e s'') (fun e' s''=>CX outer H s E e' s'') s'
theorem cell_has {sc:Scope} {n:Nat} {x:Str} (h:sc.names.lookup x=some .cell):∃ c,(cellsFrom n sc.names []).lookup x=some c:=by
  have q:=PySem.W.cellsFrom_some sc.names n [] (.inl h)
  exact Option.isSome_iff_exists.mp q
theorem inv_start {CX:CXT} {P:Program} {w:World} {K:PySem.W.Frag} {mg:Str→Option Value} {base:Heap} {N ps:List Str} {qual:Str} {scope:Scope} {f:Addr} {cd:Value} {A:Around} {outer:List Env} {s s1:Shared} {H:Hp} {E:XK} {us:List Value} {vs:List V}
    (S:FnScope N ps scope) (hd:A.handled=none) (e0:Env0 P w K mg base A outer s H) (hl:vs.length=ps.length) (r:Vals vs us)
    (x:InCallC s s.heap.objs.size (bindL (envOfC qual scope s.heap.objs.size f cd).kindOf (ps.zip us) fun _=>none) (cellsFrom (s.heap.objs.size + 1) scope.names []) (bindC (envOfC qual scope s.heap.objs.size f cd).kindOf (ps.zip us) fun _=>none) s1) :
    Inv (cxOf CX P w K mg base N qual scope f cd A outer s H E) [] (start N vs) H s1:=by
  have hpl:ps.length≤N.length:=by have:=congrArg List.length S.pre;rw [List.length_take] at this;omega
  obtain ⟨h1,tk,rfl,hk⟩:=x.done
  have noA:∀ b:Addr,b ∉ (cxOf CX P w K mg base N qual scope f cd A outer s H E).ex:=fun b z=>absurd (show b∈([]:List Addr) from z) (by simp)
  refine ⟨⟨e0.mod,S.kind,rfl,rfl,Nat.le_refl _,fun y z c h1 h2=>?_,fun y hy=>?_,fun y c _ h=>?_,fun _=>hd,Around.frames_deeper e0.frames,.inr ⟨rfl,rfl⟩,fun b z=>absurd z (noA b),e0.bs,e0.bsz,fun b _ _=>noA b,fun b z=>absurd z (noA b),e0.funs,e0.frf⟩,
    rfl,e0.bare,Un.kept hk,⟨_,x.toInCall.ns,fun i y v h1 h2 h3=>?_⟩,fun y c h=>⟨_,x.cell y c h⟩,e0.hok.fresh (Nat.le_refl _),fun y c h=>?_,fun p hp=>absurd (show p∈([]:List (Addr × Obj)) from hp) (by simp),e0.hok.kept hk,?_⟩
  · exact name_of_addr x.apart (PySem.mem_of_lookup h1) (PySem.mem_of_lookup h2)
  · have hy:scope.names.lookup y=some .cell∨scope.names.lookup y=some .free:=hy
    rcases hy with hy | hy
    · exact cell_has hy
    · exact absurd rfl (S.nofree _ (PySem.mem_of_lookup hy))
  · exact Nat.le_of_lt (x.above y c (PySem.mem_of_lookup h))
  · have hi:i < vs.length:=by
      unfold start at h2
      by_cases hi:i < vs.length
      · exact hi
      · rw [List.getElem?_append_right (by simpa using hi)] at h2
        rw [List.getElem?_replicate] at h2
        split at h2 <;> cases h2
    have ha:vs[i]?=some v:=by
      unfold start at h2
      rw [List.getElem?_append_left (by simpa using hi),List.getElem?_map] at h2
      cases e:vs[i]? with
      | none=>rw [e] at h2;cases h2
      | some a=>rw [e] at h2;cases h2;rfl
    obtain ⟨u,hu,rv⟩:=r.get ha
    have hp:ps[i]?=some y:=by
      rw [← S.pre,List.getElem?_take_of_lt (by omega)];exact h1
    have ndP:ps.Nodup:=by rw [← S.pre];exact S.nd.sublist (List.take_sublist _ _)
    refine ⟨u,rv,?_⟩
    rcases S.par y (List.mem_of_getElem? hp) with k | k
    · exact .inl ⟨k,bindL_get ndP hp hu k⟩
    · obtain ⟨c,e⟩:=cell_has (n:=s.heap.objs.size + 1) k
      refine .inr ⟨.inl k,c,e,?_⟩
      have q:=x.cell y c e
      rw [bindC_get ndP hp hu (by show scope.names.lookup y≠_;rw [k];decide)] at q
      exact q
  · exact e0.hok.fresh (Nat.le_of_lt (x.above y c (PySem.mem_of_lookup h)))
  · unfold start
    show _=N.length
    rw [List.length_append,List.length_map,List.length_replicate]
    omega
theorem fn_of {CX:CXT} {P:Program} {w:World} {K:PySem.W.Frag} {mg:Str→Option Value} {base:Heap} {k:Nat} {f:Addr} {name qual:Str} {params:Arguments} {body:List Stmt} {scope:Scope} {dV kV doc pm cdv ct oc:Value} {an od:Option Addr}
    {osl:Array (Option Value)} {N ps:List Str} {sp:Sp} (lk:K.lookup f=some ⟨oc,od,.func (PySem.W.fnOf name qual params body scope dV kV doc pm an cdv ct),osl⟩) (hcd:PySem.W.codeIn K cdv qual=true) (S:FnScope N ps scope)
    (len:∀ vs H Q E,sp vs H Q E→vs.length=ps.length)
    (hbody:∀ (A:Around) (outer:List Env) (s:Shared) (H:Hp) (vs:List V) (Q:VK) (E:XK),Room k (A.deeper (envOfC qual scope s.heap.objs.size f cdv))→sp vs H Q E →
      ∃ t,PSs (cxOf CX P w K mg base N qual scope f cdv A outer s H E) body t∧t { nx:=fun _ H'=>Q .non H',rt:=Q } (start N vs) H) :
    FnOk P w K mg base CX (k + 1) f (PySem.W.fnOf name qual params body scope dV kV doc pm an cdv ct) ps sp:=by
  refine ⟨len,fun A outer s H args us vs Q E hr e0 hb r hsp=>?_⟩
  have hl:=len _ _ _ _ hsp
  have KX:K.In s.heap:=e0.mod.kin.keeps fun b o e=>(e0.bs b o e).1
  have lim:s.heap.NoLimit:=e0.mod.nolimit.keeps fun b o e=>(e0.bs b o e).1
  have hkind:∀ y∈ps.zip us,scope.names.lookup y.1=some .local∨(scope.names.lookup y.1=some .cell∧((cellsFrom (s.heap.objs.size + 1) scope.names []).lookup y.1).isSome=true):=fun ⟨n,v⟩ hy=>by
    rcases S.par n (List.of_mem_zip hy).1 with q | q
    · exact .inl q
    · exact .inr ⟨q,PySem.W.cellsFrom_some _ _ _ (.inl q)⟩
  refine codeAny_call_function hr.depth (KX _ _ lk) rfl S.co S.gen rfl (PySem.W.codeRec_of KX hcd) (hb _ _ _ _ ?_)
  refine wpAny_newFunctionEnv_cells S.kind hkind fun env he s1 x=>?_
  subst he
  refine ⟨lim.keeps x.toInCall.keep,codeAny_func ?_⟩
  obtain ⟨t,ht,hq⟩:=hbody A outer s H vs Q E (hr.deeper _) hsp
  have I:Inv (cxOf CX P w K mg base N qual scope f cdv A outer s H E) [] (start N vs) H s1:=inv_start S hr.hd e0 hl r x
  refine wpAny_mono (ht [] s1 (start N vs) H _ I hq) (fun fl s' hs=>?_) fun e s' hs=>hs
  have fin:∀ {σ':St} {H':Hp} {v:V} {u:Value},Inv (cxOf CX P w K mg base N qual scope f cdv A outer s H E) [] σ' H' s'→RelV v u→Q v H'→CE outer P w H s Q u s' :=
    fun {σ' H' v u} J rv q=>⟨v,H',J.os,J.bare,J.base,J.hok,rv,q⟩
  cases fl with
  | ret u =>
    obtain ⟨v,σ',H',J,rv,q⟩:=hs
    exact fin J rv q
  | next =>
    obtain ⟨σ',H',J,q⟩:=hs
    exact fin (v:=V.non) (u:=Value.none) J rfl q
  | brk =>
    obtain ⟨_,_,_,q⟩:=hs
    exact False.elim q
  | cont =>
    obtain ⟨_,_,_,q⟩:=hs
    exact False.elim q
end L2
namespace L2
open PySem PySem.Spec PyProof.Rows
section
variable {X:Cx} {x:Str} {p pos:Pos} {e:Expr} {es:List Expr} {t:TA} {id T:String} {r:List V→Hp→VK→Prop}
def tCB (r:List V→Hp→VK→Prop) (t:TA):TE:=fun σ H Q=>t σ H fun vs H1=>r vs H1 Q
theorem pe_callB (hc:CallR X (.builtin id) r) (hg:Gl X x) (hm:X.mg x=none) (hv:bootBuiltins x=some (.builtin id)) (ha:PA X (e :: es) t) (hn:x≠"__name__":=by decide) (hdb:(x == ("__debug__":Str))=false:=by decide)
    (he:starEach (e :: es) X.env=(false,eval e X.env) :: starEach es X.env:=by rfl) (hpl:(backTo pos (starEach es X.env)).any (·.1)=false:=by rfl):PE X (.Call (.Name x p) (e :: es) [] pos) (tCB r t):=by
  intro pins s σ H Q I h
  refine wpAny_Call_Name_kw (ld_blt I hg hm hv ?_ hn hdb)
  exact PyProof.Rows.callWith_builtin1 (thn (ha pos pins s σ H _ I h) fun us s1 ⟨vs,H1,I1,r1,q1⟩=>hc pins s1 σ H1 vs us Q I1 r1 q1) he hpl
theorem pe_callTy (hc:CallR X (.type T) r) (hg:Gl X x) (hm:X.mg x=none) (hv:bootBuiltins x=some (.type T)) (ha:PA X (e :: es) t) (hn:x≠"__name__":=by decide) (hdb:(x == ("__debug__":Str))=false:=by decide)
    (he:starEach (e :: es) X.env=(false,eval e X.env) :: starEach es X.env:=by rfl) (hpl:(backTo pos (starEach es X.env)).any (·.1)=false:=by rfl):PE X (.Call (.Name x p) (e :: es) [] pos) (tCB r t):=by
  intro pins s σ H Q I h
  refine wpAny_Call_Name_kw (ld_blt I hg hm hv ?_ hn hdb)
  exact PyProof.Rows.callWith_type1 (thn (ha pos pins s σ H _ I h) fun us s1 ⟨vs,H1,I1,r1,q1⟩=>hc pins s1 σ H1 vs us Q I1 r1 q1) he hpl
end
end L2
namespace HT
open PySem PyProof.Rows
def lexLt:List Int→List Int→Bool
  | [],[]=>false
  | [],_ :: _=>true
  | _ :: _,[]=>false
  | x :: xs,y :: ys=>if x=y then lexLt xs ys else decide (x < y)
section
open PySem.SeqAt
open PySem.AutoSeq1 (wpAny_loadPart')
open PySem.MeetsSeq PySem.MeetsSeq2 PySem.MeetsSeq3
end
section
variable {prog:Program} {w:World} {A:Around} {E:Value→Shared→Prop} {s:Shared}
def sIx (n d:Nat):Option Int→Nat
  | none=>d
  | some v=>if v < 0 then (v + (n:Int)).toNat else min v.toNat n
theorem sIx_none (n d:Nat):sIx n d none=d:=rfl
theorem sIx_nat (n d k:Nat):sIx n d (some (k:Int))=min k n:=by
  show (if (k:Int) < 0 then ((k:Int) + (n:Int)).toNat else min (k:Int).toNat n)=min k n
  rw [if_neg (by omega),Int.toNat_natCast]
theorem sIx_le (n d:Nat) (hd:d≤n) (o:Option Int):sIx n d o≤n:=by
  cases o with
  | none=>exact hd
  | some v =>
    show (if v < 0 then (v + (n:Int)).toNat else min v.toNat n)≤n
    by_cases hv:v < 0
    · rw [if_pos hv];omega
    · rw [if_neg hv];exact Nat.min_le_right _ _
end
end HT
namespace L2
open PySem PySem.Spec PyProof.Rows
abbrev TO:=St→Hp→(Option Int→Hp→Prop)→Prop
def PO (X:Cx) (e:Option Expr) (t:TO):Prop :=
  ∀ (pins:List (Addr × Obj)) (s:Shared) (σ:St) (H:Hp) (Q:Option Int→Hp→Prop),Inv X pins σ H s→t σ H Q →
    wpAny (model X.prog X.w) X.A (evalPart e X.env) (fun u s'=>∃ o H',Inv X pins σ H' s'∧IsPart u o∧Q o H') X.xe s
def tNoPart:TO:=fun _ H Q=>Q none H
def tPart (t:TE):TO:=fun σ H Q=>t σ H fun x H1=>∃ i,x=.int i∧Q (some i) H1
theorem intsAre_of {ns:List Int}:∀ {us:List Value},Vals (ns.map V.int) us→IntsAre us ns:=by
  induction ns with
  | nil=>intro us r;rw [List.map_nil] at r;cases r;exact .nil
  | cons n ns ih =>
    intro us r
    rw [List.map_cons] at r
    cases r with
    | cons r1 r2 =>
      obtain ⟨t,e⟩:=r1
      subst e
      exact .cons n t (ih r2)
section
variable {X:Cx} {e:Expr} {te:TE} {lo hi:Option Expr} {tl th:TO} {pos p2:Pos}
theorem po_none:PO X none tNoPart:=by
  intro pins s σ H Q I h
  rw [evalPart_none]
  exact wpAny_pure ⟨none,H,I,.none,h⟩
theorem po_some (h:PE X e te):PO X (some e) (tPart te):=by
  intro pins s σ H Q I hw
  rw [evalPart_some]
  refine thn (h pins s σ H _ I hw) fun u s1 ⟨x,H1,I1,r1,q1⟩=>?_
  obtain ⟨i,rfl,q⟩:=q1
  obtain ⟨t,rfl⟩:=r1
  exact ⟨some i,H1,I1,.int i t,q⟩
def SlR (X:Cx) (r:V→Option Int→Option Int→Hp→VK→Prop):Prop :=
  ∀ (pins:List (Addr × Obj)) (s:Shared) (σ:St) (H:Hp) (x:V) (v vl vu:Value) (lo hi:Option Int) (sl:Addr) (Q:VK),Inv X pins σ H s→RelV x v→s.heap.IsSliceOf sl vl vu .none→IsPart vl lo→IsPart vu hi→r x lo hi H Q →
    ∃ T id,typeLookup (.type T) "__getitem__"=pure (some (.builtin id))∧s.TypeIs v T∧wpAny (model X.prog X.w) X.A (getItem v (.ref sl)) (EP X pins σ Q) X.xe s
def tSl (r:V→Option Int→Option Int→Hp→VK→Prop) (te:TE) (tl th:TO):TE:=fun σ H Q=>te σ H fun x H1=>tl σ H1 fun l H2=>th σ H2 fun u H3=>r x l u H3 Q
theorem pe_slice {r:V→Option Int→Option Int→Hp→VK→Prop} (hr:SlR X r) (he:PE X e te) (hl:PO X lo tl) (hu:PO X hi th):PE X (.Subscript e (.Slice lo hi none p2) pos) (tSl r te tl th):=by
  intro pins s σ H Q I h
  refine Subscript_ (thn (he pins s σ H _ I h) fun v s1 ⟨x,H1,I1,r1,q1⟩=>?_)
  refine wpAny_Slice (thn (hl pins s1 σ H1 _ I1 q1) fun vl s2 ⟨l,H2,I2,pl,q2⟩=>thn (hu pins s2 σ H2 _ I2 q2) fun vu s3 ⟨u,H3,I3,pu,q3⟩=>?_)
  rw [evalPart_none]
  refine wpAny_pure ?_
  have I4:Inv X pins σ H3 { s3 with heap:=s3.heap.push { cls:=.type "slice",data:=.fields #[vl,vu,.none] } }:=I3.kept (t':=s3.toks) fun b ob q=>Heap.get?_push_of_some _ q
  obtain ⟨T,id,hT,ht,hg⟩:=hr pins { s3 with heap:=s3.heap.push { cls:=.type "slice",data:=.fields #[vl,vu,.none] } } σ H3 x v vl vu l u s3.heap.objs.size Q I4 r1 (Heap.IsSliceOf.new ..) pl pu q3
  show wpAny (model X.prog X.w) X.A (subscriptTail e (.Slice lo hi none p2) v (.ref s3.heap.objs.size)) (EP X pins σ Q) X.xe { s3 with heap:=s3.heap.push { cls:=.type "slice",data:=.fields #[vl,vu,.none] } }
  exact tail_any (ops:=[.ref s3.heap.objs.size,v]) ht hT hg (by with_unfolding_all rfl)
def cutV (xs:List V) (lo hi:Option Int):List V:=(xs.drop (HT.sIx xs.length 0 lo)).take (HT.sIx xs.length xs.length hi - HT.sIx xs.length 0 lo)
theorem cutV_length (xs:List V) (lo hi:Option Int):(cutV xs lo hi).length≤xs.length:=by
  unfold cutV
  rw [List.length_take,List.length_drop]
  omega
def rCatT (K:PySem.W.Frag):R2:=fun x y H Q=>∃ a b xs ys,x=.ref a∧y=.ref b∧SqT K H a xs∧SqT K H b ys∧xs≠[]∧xs.length + ys.length≤sizeLine ∧
  (ys=[]→Q (.ref a) H)∧(ys≠[]→∀ p,H p=none→Q (.ref p) (upd H p (.tup (xs ++ ys))))
end
end L2
namespace L2
open PySem PySem.Spec PyProof.Rows
def ixN (n:Nat) (i:Int):Option Nat:=if 0≤i then (if i < n then some i.toNat else none) else if -(n:Int)≤i then some (i + n).toNat else none
def atI {α:Type} (xs:List α) (i:Int):Option α:=(ixN xs.length i).bind fun j=>xs[j]?
theorem ixN_seq {n:Nat} {i:Int} {j:Nat} (h:ixN n i=some j):seqIndex? i n=some j∧j < n∧-(n:Int)≤i∧i < n:=by
  unfold ixN at h
  by_cases h0:0≤i
  · rw [if_pos h0] at h
    by_cases h1:i < n
    · rw [if_pos h1] at h
      have e:i.toNat=j:=Option.some.inj h
      exact ⟨by rw [seqIndex_of h0 h1,e],by omega,by omega,h1⟩
    · rw [if_neg h1] at h;cases h
  · rw [if_neg h0] at h
    by_cases h1:-(n:Int)≤i
    · rw [if_pos h1] at h
      have e:(i + n).toNat=j:=Option.some.inj h
      exact ⟨by rw [seqIndex_neg (by omega) h1,e],by omega,h1,by omega⟩
    · rw [if_neg h1] at h;cases h
theorem atI_get {α:Type} {xs:List α} {i:Int} {v:α} (h:atI xs i=some v):∃ j,seqIndex? i xs.length=some j∧xs[j]?=some v∧j < xs.length∧-(xs.length:Int)≤i∧i < xs.length:=by
  unfold atI at h
  cases e:ixN xs.length i with
  | none=>rw [e] at h;cases h
  | some j =>
    rw [e] at h
    obtain ⟨h1,h2,h3,h4⟩:=ixN_seq e
    exact ⟨j,h1,h,h2,h3,h4⟩
theorem atI_nat {α:Type} {xs:List α} {j:Nat} {v:α} (h:xs[j]?=some v):atI xs (j:Int)=some v:=by
  have hj:j < xs.length:=(List.getElem?_eq_some_iff.mp h).1
  have e:ixN xs.length (j:Int)=some j:=by
    unfold ixN
    rw [if_pos (by omega),if_pos (by omega)];simp
  unfold atI;rw [e];exact h
def PlainIx (b:Expr):Prop:=∀ o i,subscripted b false o i=operate [o,i] (getItem o i)
def IxR (X:Cx) (r:R2):Prop :=
  ∀ (value slice:Expr) (pins:List (Addr × Obj)) (s:Shared) (σ:St) (H:Hp) (x y:V) (v u:Value) (Q:VK),Inv X pins σ H s→RelV x v→RelV y u→r x y H Q →
    subscripted slice false v u=operate [v,u] (getItem v u)→wpAny (model X.prog X.w) X.A (subscriptTail value slice v u) (EP X pins σ Q) X.xe s
def MtR (X:Cx) (id:String) (r:V→List V→Hp→VK→Prop):Prop :=
  ∀ (pins:List (Addr × Obj)) (s:Shared) (σ:St) (H:Hp) (x:V) (xs:List V) (v:Value) (us:List Value) (Q:VK),Inv X pins σ H s→RelV x v→Vals xs us→r x xs H Q →
    wpAny (model X.prog X.w) X.A (call (.builtin id) (v :: us)) (EP X pins σ Q) X.xe s
section
variable {X:Cx} {a b:Expr} {ta tb:TE} {pos:Pos}
theorem pe_ix {r:R2} (hr:IxR X r) (ha:PE X a ta) (hb:PE X b tb) (hs:PlainIx b):PE X (.Subscript a b pos) (tOp r ta tb):=by
  intro pins s σ H Q I h
  exact Subscript_ (binT ha hb I h fun v u s2 x y H2 I2 rx ry q=>hr a b pins s2 σ H2 x y v u Q I2 rx ry q (hs _ _))
def rIxL (K:PySem.W.Frag):R2:=fun x y H Q=>∃ p xs i v,x=.ref p∧y=.int i∧SqL K H p xs∧atI xs i=some v∧Q v H
def rIxT (K:PySem.W.Frag):R2:=fun x y H Q=>∃ p xs i v,x=.ref p∧y=.int i∧SqT K H p xs∧atI xs i=some v∧Q v H
def rIxS:R2:=fun x y H Q=>∃ z i c,x=.str z∧y=.int i∧z.length≤sizeLine∧atI z.cps.toList i=some c∧Q (.str ⟨#[c]⟩) H
theorem ix_list:IxR X (rIxL X.K):=by
  intro value slice pins s σ H x y v u Q I rx ry h hs
  obtain ⟨p,xs,i,z,rfl,rfl,hq,he,q⟩:=h
  cases rx
  obtain ⟨t,rfl⟩:=ry
  obtain ⟨its,r,pl,hz⟩:=I.list hq
  obtain ⟨j,h1,h2,h3,h4,h5⟩:=atI_get he
  obtain ⟨w,ew,rw'⟩:=r.get h2
  have hl:=r.length
  have hn:=line63
  have fin:EP X pins σ Q w s:=⟨z,H,I,rw',q⟩
  by_cases h0:0≤i
  · have hj:i.toNat=j:=by
      rw [seqIndex_of h0 h5] at h1
      exact Option.some.inj h1
    exact item_listR pl.isList h0 (by omega) (by rw [hj];simpa using ew) fin hs
  · have hj:(i + (its.toArray.size:Int)).toNat=j:=by
      rw [seqIndex_neg (by omega) h4] at h1
      rw [List.size_toArray,← hl]
      exact Option.some.inj h1
    exact subscriptTail_builtinR (x:=w) pl.isList.typeIs slot_list_getitem.lookup
      (wpAny_getItem_list_neg (Q:=fun r s'=>r=w∧EP X pins σ Q r s') pl.isList (by omega) (by rw [List.size_toArray] <;> omega) (by omega) (by rw [hj];simpa using ew) ⟨rfl,fin⟩) hs
theorem ix_str:IxR X rIxS:=by
  intro value slice pins s σ H x y v u Q I rx ry h hs
  obtain ⟨z,i,c,rfl,rfl,hz,he,q⟩:=h
  obtain ⟨t,rfl⟩:=rx
  obtain ⟨t',rfl⟩:=ry
  obtain ⟨j,h1,h2,h3,h4,h5⟩:=atI_get he
  have hl:z.cps.toList.length=z.length:=by simp [Str.length]
  rw [hl] at h1 h4 h5
  have hn:=line63
  exact tail_any (typeIs_str s z t) slot_str_getitem.lookup (getItem_str (c:=c) (by
    have e1:decide (i < -(2 ^ 63:Int))=false:=decide_eq_false (by omega)
    have e2:decide (i ≥ 2 ^ 63)=false:=decide_eq_false (by omega)
    rw [e1,e2,Bool.or_false]) (by rw [h1];simpa using h2) ⟨.str ⟨#[c]⟩,H,I.tok _,⟨_,rfl⟩,q⟩) hs
theorem slice_bounds (lo hi:Option Int) (n:Nat):(sliceBounds lo hi none n).1=((HT.sIx n 0 lo:Nat):Int)∧(sliceBounds lo hi none n).2.1=((HT.sIx n n hi:Nat):Int)∧(sliceBounds lo hi none n).2.2=1:=by
  refine ⟨?_,?_,rfl⟩
  · cases lo with
    | none=>simp [sliceBounds,HT.sIx]
    | some i =>
      simp only [sliceBounds,HT.sIx,Option.getD_none,show (1:Int) > 0 by decide,if_true]
      by_cases h:i < 0
      · simp only [h,if_true] <;> omega
      · simp only [h,if_false] <;> omega
  · cases hi with
    | none=>simp [sliceBounds,HT.sIx]
    | some i =>
      simp only [sliceBounds,HT.sIx,Option.getD_none,show (1:Int) > 0 by decide,if_true]
      by_cases h:i < 0
      · simp only [h,if_true] <;> omega
      · simp only [h,if_false] <;> omega
theorem slicePick_cut (its:List Value) (lo hi:Option Int):slicePick its.toArray lo hi none=((its.drop (HT.sIx its.length 0 lo)).take (HT.sIx its.length its.length hi - HT.sIx its.length 0 lo)).toArray:=by
  obtain ⟨h1,h2,h3⟩:=slice_bounds lo hi its.toArray.size
  unfold slicePick
  rw [h1,h2,h3]
  simp only [sliceRange_one,pick_run,List.size_toArray] <;> rfl
def rSlL (K:PySem.W.Frag):V→Option Int→Option Int→Hp→VK→Prop:=fun x lo hi H Q=>∃ a xs,x=.ref a∧SqL K H a xs∧∀ p,H p=none→Q (.ref p) (upd H p (.lst (cutV xs lo hi)))
theorem sl_list:SlR X (rSlL X.K):=by
  intro pins s σ H x v vl vu lo hi sl Q I rx hs pl pu h
  obtain ⟨a,xs,rfl,hx,q⟩:=h
  cases rx
  obtain ⟨its,r,ht,hz⟩:=I.list hx
  have hlen:=r.length
  refine ⟨"list",_,slot_list_getitem.lookup,ht.isList.typeIs,?_⟩
  refine wpAny_getItem_list_slice ht.isList hs pl pu .none (by simp) ?_ (by rw [List.size_toArray] <;> omega)
  rw [slicePick_cut,← hlen]
  refine ⟨.ref s.heap.objs.size,_,I.laid (t':=s.toks) (o:=.lst (cutV xs lo hi)) (fun b ob q=>Heap.get?_push_of_some _ q) (Nat.le_refl _) ?_,rfl,q _ (I.hok.fresh (Nat.le_refl _))⟩
  exact ⟨Nat.le_trans (cutV_length xs lo hi) hz,_,0,(r.drop (HT.sIx xs.length 0 lo)).take (HT.sIx xs.length xs.length hi - HT.sIx xs.length 0 lo),Heap.get?_push_size _ rfl⟩
def flatV:V→Bool
  | .non=>true
  | .bl _=>true
  | .int _=>true
  | .str _=>true
  | _=>false
def eqV:V→V→Bool
  | .non,.non=>true
  | .bl a,.bl b=>a == b
  | .bl a,.int b=>(if a then 1 else 0) == b
  | .int a,.bl b=>a == (if b then 1 else 0)
  | .int a,.int b=>a == b
  | .str a,.str b=>a == b
  | _,_=>false
theorem eqAt_V {A:Around} {s:Shared} {y x:V} {u v:Value} (ry:RelV y u) (rx:RelV x v) (fy:flatV y=true) (fx:flatV x=true):SeqAt.EqAt A s u v (eqV y x):=by
  cases y with
  | non =>
    cases ry
    cases x with
    | non=>cases rx;exact SeqAt.EqAt.same _
    | bl b=>cases rx;exact SeqAt.EqAt.none_bool b
    | int b=>obtain ⟨t,rfl⟩:=rx;exact SeqAt.EqAt.none_int b t
    | str b=>obtain ⟨t,rfl⟩:=rx;exact SeqAt.EqAt.none_str b t
    | _=>exact absurd (show false=true from fx) Bool.false_ne_true
  | bl a =>
    cases ry
    cases x with
    | non=>cases rx;exact SeqAt.EqAt.bool_none a
    | bl b=>cases rx;exact SeqAt.EqAt.bool_bool a b
    | int b=>obtain ⟨t,rfl⟩:=rx;exact SeqAt.EqAt.bool_int a b t
    | str b=>obtain ⟨t,rfl⟩:=rx;exact SeqAt.EqAt.bool_str a b t
    | _=>exact absurd (show false=true from fx) Bool.false_ne_true
  | int a =>
    obtain ⟨t',rfl⟩:=ry
    cases x with
    | non=>cases rx;exact SeqAt.EqAt.int_none a t'
    | bl b=>cases rx;exact SeqAt.EqAt.int_bool a t' b
    | int b=>obtain ⟨t,rfl⟩:=rx;exact SeqAt.EqAt.int_int a t' b t
    | str b=>obtain ⟨t,rfl⟩:=rx;exact SeqAt.EqAt.int_str a t' b t
    | _=>exact absurd (show false=true from fx) Bool.false_ne_true
  | str a =>
    obtain ⟨t',rfl⟩:=ry
    cases x with
    | non=>cases rx;exact SeqAt.EqAt.str_none a t'
    | bl b=>cases rx;exact SeqAt.EqAt.str_bool a t' b
    | int b=>obtain ⟨t,rfl⟩:=rx;exact SeqAt.EqAt.str_int a t' b t
    | str b=>obtain ⟨t,rfl⟩:=rx;exact SeqAt.EqAt.str_str a t' b t
    | _=>exact absurd (show false=true from fx) Bool.false_ne_true
  | _=>exact absurd (show false=true from fy) Bool.false_ne_true
def eqU (x:V) (u:Value):Bool:=match u with
  | .none=>eqV .non x
  | .bool b=>eqV (.bl b) x
  | .int i _=>eqV (.int i) x
  | .str z _=>eqV (.str z) x
  | _=>false
theorem eqU_of {x y:V} {u:Value} (r:RelV y u) (f:flatV y=true):eqU x u=eqV y x:=by
  cases y with
  | non=>cases r;rfl
  | bl b=>cases r;rfl
  | int i=>obtain ⟨t,rfl⟩:=r;rfl
  | str z=>obtain ⟨t,rfl⟩:=r;rfl
  | _=>exact absurd (show false=true from f) Bool.false_ne_true
theorem any_eqU {x:V}:∀ {xs:List V} {us:List Value},Vals xs us→xs.all flatV=true→us.any (eqU x)=xs.any fun y=>eqV y x
  | _,_,.nil,_=>rfl
  | y :: xs,u :: us,.cons r t,f=>by
    rw [List.all_cons,Bool.and_eq_true] at f
    rw [List.any_cons,List.any_cons,eqU_of r f.1,any_eqU t f.2]
theorem mem_eqAt {A:Around} {s:Shared} {x:V} {v:Value} (rx:RelV x v) (fx:flatV x=true):∀ {xs:List V} {us:List Value},Vals xs us→xs.all flatV=true→∀ u∈us,SeqAt.EqAt A s u v (eqU x u)
  | _,_,.nil,_=>fun u hu=>by cases hu
  | y :: xs,u :: us,.cons r t,f=>fun u' hu=>by
    rw [List.all_cons,Bool.and_eq_true] at f
    rcases List.mem_cons.mp hu with rfl | hu
    · rw [eqU_of r f.1];exact eqAt_V r rx f.1 fx
    · exact mem_eqAt rx fx t f.2 u' hu
def inV (x:V) (xs:List V):Bool:=xs.any fun y=>eqV y x
def rIn (K:PySem.W.Frag) (neg:Bool):R2:=fun x y H Q=>∃ p xs,y=.ref p∧(SqL K H p xs∨SqT K H p xs)∧flatV x=true∧xs.all flatV=true∧Q (.bl (if neg then !inV x xs else inV x xs)) H
theorem op_in_seq:OpR X (compareOp .In) (rIn X.K false):=by
  intro pins s σ H x y v u Q I rx ry h
  obtain ⟨p,xs,rfl,hq,fx,fs,q⟩:=h
  cases ry
  rcases hq with hq | hq
  · obtain ⟨its,r,pl,hz⟩:=I.list hq
    refine SeqAt.in_listAt (eqU x) pl.isList (fun w hw=>mem_eqAt rx fx r fs w (by simpa using hw)) ⟨.bl _,H,I,rfl,?_⟩
    rw [show its.toArray.any (eqU x)=its.any (eqU x) by simp,any_eqU r fs]
    exact q
  · obtain ⟨its,r,pl,hz⟩:=I.tuple hq
    refine SeqAt.in_tupleAt (eqU x) pl (fun w hw=>mem_eqAt rx fx r fs w (by simpa using hw)) ⟨.bl _,H,I,rfl,?_⟩
    rw [show its.toArray.any (eqU x)=its.any (eqU x) by simp,any_eqU r fs]
    exact q
theorem call_list_of:CallR X (.type "list") (fun xs H Q=>∃ p ys,xs=[.ref p]∧(SqL X.K H p ys∨SqT X.K H p ys)∧∀ l,H l=none→Q (.ref l) (upd H l (.lst ys))):=by
  intro pins s σ H xs us Q I r h
  obtain ⟨p,ys,rfl,hq,q⟩:=h
  obtain ⟨u,rfl,rx⟩:=vals1 r
  cases rx
  have fin:∀ (its:List Value),Vals ys its→ys.length≤sizeLine→∀ (h':Heap) (c':Nat),(∀ b o',s.heap.get? b=some o'→h'.get? b=some o') →
      h'.get? s.heap.objs.size=some { cls:=.type "list",dict:=none,data:=.seq its.toArray c',slots:=#[] }→EP X pins σ Q (.ref s.heap.objs.size) { s with heap:=h' }:=fun its r' hz h' c' kp e =>
    ⟨.ref s.heap.objs.size,_,I.laid (t':=s.toks) kp (Nat.le_refl _) (show ObjOk X.prog X.w _ h' _ (.lst ys) from ⟨hz,its,c',r',e⟩),rfl,q _ (I.hok.fresh (Nat.le_refl _))⟩
  rcases hq with hq | hq
  · obtain ⟨its,r',pl,hz⟩:=I.list hq
    have hlen:=r'.length
    obtain ⟨o,ho,hc,n,hd⟩:=pl.isList
    exact call_list_seq p (.inl rfl) ho hc hd (fun h' c' kp e=>fin its r' hz h' c' kp e) (by simp only [List.size_toArray] <;> omega)
  · obtain ⟨its,r',pl,hz⟩:=I.tuple hq
    have hlen:=r'.length
    obtain ⟨o,ho,hc,n,hd⟩:=pl
    exact call_list_seq p (.inr rfl) ho hc hd (fun h' c' kp e=>fin its r' hz h' c' kp e) (by simp only [List.size_toArray] <;> omega)
def tyV (K:PySem.W.Frag) (T:String) (x:V) (H:Hp):Prop:=match x with
  | .str _=>T="str"
  | .int _=>T="int"
  | .ref p=>(T="list"∧∃ xs,SqL K H p xs)∨(T="tuple"∧∃ o,K.lookup p=some o∧o.cls=.type "tuple"∧o.dict=none) ∨
      (T="dict"∧((∃ kvs,H p=some (.dK kvs))∨∃ kvs,H p=some (.dT kvs)))∨(T="set"∧∃ S n,H p=some (.set S n))
  | _=>False
theorem tyV_is {pins:List (Addr × Obj)} {σ:St} {H:Hp} {s:Shared} {T:String} {x:V} {v:Value} (I:Inv X pins σ H s) (r:RelV x v) (ty:tyV X.K T x H) :
    s.TypeIs v T∧∀ a,v=.ref a→∃ ob,s.heap.get? a=some ob∧ob.dict=none:=by
  cases x with
  | str z =>
    obtain ⟨t,rfl⟩:=r
    cases (show T="str" from ty)
    exact ⟨typeIs_str s z t,fun _ e=>nomatch e⟩
  | int i =>
    obtain ⟨t,rfl⟩:=r
    cases (show T="int" from ty)
    exact ⟨typeIs_int s i t,fun _ e=>nomatch e⟩
  | ref p =>
    cases r
    rcases ty with ⟨rfl,xs,hq⟩ | ⟨rfl,o,hk,hc,hd⟩ | ⟨rfl,hk⟩ | ⟨rfl,S,n,hk⟩
    · obtain ⟨its,_,pl,_⟩:=I.list hq
      refine ⟨pl.isList.typeIs,fun a e=>?_⟩
      cases e
      obtain ⟨o,n,e,c,hd,_⟩:=pl
      exact ⟨o,e,hd⟩
    · refine ⟨⟨o,I.kIn p o hk,hc⟩,fun a e=>?_⟩
      cases e
      exact ⟨o,I.kIn _ o hk,hd⟩
    · have z:∃ o,s.heap.get? p=some o∧o.ExactDict:=by
        rcases hk with ⟨kvs,hk⟩ | ⟨kvs,hk⟩
        · obtain ⟨_,_,_,_,o,_,_,e,ex,_⟩:=I.hok p _ hk
          exact ⟨o,e,ex⟩
        · obtain ⟨_,_,_,_,o,_,_,e,ex,_⟩:=I.hok p _ hk
          exact ⟨o,e,ex⟩
      obtain ⟨o,e,ex⟩:=z
      refine ⟨⟨o,e,ex.1⟩,fun a e2=>?_⟩
      cases e2
      exact ⟨o,e,ex.2.1⟩
    · obtain ⟨o,_,_,_,e,ex,_⟩:=I.hok p _ hk
      refine ⟨⟨o,e,ex.1⟩,fun a e2=>?_⟩
      cases e2
      exact ⟨o,e,ex.2.1⟩
  | _=>exact False.elim ty
def tBM0 (K:PySem.W.Frag) (T:String) (r:V→List V→Hp→VK→Prop) (to:TE):TE:=fun σ H Q=>to σ H fun x H1=>tyV K T x H1∧r x [] H1 Q
def tBM (K:PySem.W.Frag) (T:String) (r:V→List V→Hp→VK→Prop) (to:TE) (t:TA):TE:=fun σ H Q=>to σ H fun x H1=>tyV K T x H1∧t σ H1 fun xs H2=>r x xs H2 Q
variable {o e:Expr} {es:List Expr} {to:TE} {t:TA} {name:Str} {apos cpos:Pos} {T id:String} {r:V→List V→Hp→VK→Prop}
theorem pe_bm0 (pa:PlainAttrs T) (slot:Slot T name id) (hty:typeOf (.builtin id)=pure (.type "method_descriptor")) (hm:MtR X id r) (ho:PE X o to)
    (hbase:attributeBase o name X.env (eval o X.env)=eval o X.env:=by rfl) (hline:(apos.endLine == cpos.line)=true:=by rfl):PE X (.Call (.Attribute o name apos) [] [] cpos) (tBM0 X.K T r to):=by
  intro pins s σ H Q I h
  refine wpAny_Call_method0_late hbase hline (thn (ho pins s σ H _ I h) fun v s1 ⟨x,H1,I1,r1,ty,q1⟩=>?_)
  obtain ⟨h1,h2⟩:=tyV_is I1 r1 ty
  exact ⟨T,id,pa,slot,hty,h1,h2,Calls.callWith_builtin rfl (PySem.evalArgs_none (hm pins s1 σ H1 x [] v [] Q I1 r1 .nil q1))⟩
theorem pe_bm (pa:PlainAttrs T) (slot:Slot T name id) (hty:typeOf (.builtin id)=pure (.type "method_descriptor")) (hm:MtR X id r) (ho:PE X o to) (ha:PA X (e :: es) t)
    (hbase:attributeBase o name X.env (eval o X.env)=eval o X.env:=by rfl)
    (hfew:((backTo cpos (starEach (e :: es) X.env)).all (fun x=>!x.1) && (backToKw cpos (keywordEach [] X.env)).all (fun x=>x.1.isSome)
      && decide ((e :: es).length + ([]:List Keyword).length + (if ([]:List Keyword).isEmpty then 0 else 1) < 30))=true:=by rfl)
    (hline:(apos.endLine == cpos.line)=true:=by rfl) (hs:starEach (e :: es) X.env=(false,eval e X.env) :: starEach es X.env:=by rfl) (hplain:(backTo cpos (starEach es X.env)).any (·.1)=false:=by rfl) :
    PE X (.Call (.Attribute o name apos) (e :: es) [] cpos) (tBM X.K T r to t):=by
  intro pins s σ H Q I h
  refine wpAny_Call_method_late hbase hfew hline rfl (thn (ho pins s σ H _ I h) fun v s1 ⟨x,H1,I1,r1,ty,q1⟩=>?_)
  obtain ⟨h1,h2⟩:=tyV_is I1 r1 ty
  refine ⟨T,id,pa,slot,hty,h1,h2,?_⟩
  have hA:=ha cpos pins s1 σ H1 _ I1 q1
  rw [hs] at hA ⊢
  refine Calls.callWith_builtin (by show (false || (backTo cpos (starEach es X.env)).any (·.1))=false;rw [hplain] <;> rfl) (Calls.evalArgs_plain ?_)
  exact thn hA fun us s2 ⟨vs,H2,I2,r2,q2⟩=>hm pins s2 σ H2 x vs v us Q I2 r1 r2 q2
end
end L2
namespace L2
open PySem PySem.Spec PyProof.Rows
def MtM (X:Cx) (id:String) (r:V→List V→Hp→VK→Prop):Prop :=
  ∀ (pins:List (Addr × Obj)) (s:Shared) (σ:St) (H:Hp) (x:V) (xs:List V) (v:Value) (us:List Value) (Q:VK),Inv X pins σ H s→RelV x v→Vals xs us→r x xs H Q →
    wpAny (model X.prog X.w) X.A (call (.builtin id) (v :: us)) (EP X pins σ Q) X.xe s
theorem Vals.one:∀ {x:V} {us:List Value},Vals [x] us→∃ u,us=[u]∧RelV x u
  | _,_,.cons r .nil=>⟨_,rfl,r⟩
theorem Vals.zero:∀ {us:List Value},Vals [] us→us=[]
  | _,.nil=>rfl
theorem Vals.eraseIdx:∀ {xs:List V} {us:List Value} (i:Nat),Vals xs us→Vals (xs.eraseIdx i) (us.eraseIdx i)
  | _,_,_,.nil=>.nil
  | _,_,0,.cons _ t=>t
  | _,_,i + 1,.cons r t=>.cons r (Vals.eraseIdx i t)
theorem len_erase {α:Type}:∀ (l:List α) (i:Nat),(l.eraseIdx i).length≤l.length
  | [],_=>Nat.le_refl _
  | _ :: _,0=>Nat.le_succ _
  | _ :: r,i + 1=>Nat.succ_le_succ (len_erase r i)
section
variable {X:Cx} {pins:List (Addr × Obj)} {σ:St} {H:Hp} {s:Shared} {l b:Addr} {xs ys zs:List V}
theorem Inv.lset {its its':List Value} {n:Nat} {f:Array Value→Array Value} {t':Nat} (I:Inv X pins σ H s) (hH:H l=some (.lst xs))
    (e:s.heap.get? l=some { cls:=.type "list",data:=.seq its.toArray n }) (hf:f its.toArray=its'.toArray) (hv:Vals ys its') (hz:ys.length≤sizeLine) :
    Inv X pins σ (upd H l (.lst ys)) { s with heap:=s.heap.update l (Obj.mapSeq f),toks:=t' }:=by
  have q:=PySem.IsL.update e f
  rw [hf] at q
  refine I.write (x:=l) (e:=l) (by rw [hH];exact trivial) (.inl rfl) (fun b' u hb hu=>(Heap.get?_update_other s.heap (Obj.mapSeq f) (Ne.symm hb)).trans hu) ⟨_,q⟩ ?_
  exact ⟨hz,its',_,hv,q⟩
theorem Inv.lnew {its:List Value} {t':Nat} (I:Inv X pins σ H s) (hv:Vals ys its) (hz:ys.length≤sizeLine) :
    Inv X pins σ (upd H s.heap.objs.size (.lst ys)) { s with heap:=s.heap.push { cls:=.type "list",data:=.seq its.toArray },toks:=t' } :=
  I.laid (fun _ _ q=>Heap.get?_push_of_some _ q) (Nat.le_refl _) ⟨hz,its,0,hv,Heap.get?_push_size _ rfl⟩
theorem Inv.fresh (I:Inv X pins σ H s):H s.heap.objs.size=none:=I.hok.fresh (Nat.le_refl _)
theorem Inv.lstM (I:Inv X pins σ H s) (hH:H l=some (.lst xs)):xs.length≤sizeLine∧∃ (its:List Value) (n:Nat),Vals xs its∧xs.length=its.length∧s.heap.get? l=some { cls:=.type "list",data:=.seq its.toArray n }:=by
  obtain ⟨z,its,n,r,e⟩:=I.hok l _ hH
  exact ⟨z,its,n,r,r.length,e⟩
end
section
variable {X:Cx}
def rAppend:V→List V→Hp→VK→Prop:=fun x vs H Q=>∃ l xs y,x=.ref l∧vs=[y]∧H l=some (.lst xs)∧xs.length < sizeLine∧Q .non (upd H l (.lst (xs ++ [y])))
theorem mt_append:MtM X "list.append" rAppend:=by
  intro pins s σ H x vs v us Q I rx rv h
  obtain ⟨l,xs,y,rfl,rfl,hH,hz,q⟩:=h
  cases rx
  obtain ⟨u,rfl,ru⟩:=rv.one
  obtain ⟨z,its,n,r,hl,e⟩:=I.lstM hH
  refine call_meets F.slot_list_append ⟨_,e,rfl⟩ F.entry_list_append (F.args_list_append_2 _ _) (PySem.list_append l its.toArray n u (by rw [List.size_toArray];omega)) ⟨e,?_⟩
  refine ⟨.non,_,I.lset (its':=its ++ [u]) hH e (by simp) (r.append (.cons ru .nil)) ?_,rfl,q⟩
  rw [List.length_append,List.length_singleton]
  omega
def rExtend:V→List V→Hp→VK→Prop:=fun x vs H Q=>∃ l b xs zs,x=.ref l∧vs=[.ref b]∧H l=some (.lst xs)∧H b=some (.lst zs)∧xs.length + zs.length≤sizeLine∧Q .non (upd H l (.lst (xs ++ zs)))
def rPop:V→List V→Hp→VK→Prop:=fun x vs H Q=>∃ l xs y,x=.ref l∧vs=[]∧H l=some (.lst xs)∧xs[xs.length - 1]?=some y∧Q y (upd H l (.lst xs.dropLast))
def rClear:V→List V→Hp→VK→Prop:=fun x vs H Q=>∃ l xs,x=.ref l∧vs=[]∧H l=some (.lst xs)∧Q .non (upd H l (.lst []))
theorem mt_clear:MtM X "list.clear" rClear:=by
  intro pins s σ H x vs v us Q I rx rv h
  obtain ⟨l,xs,rfl,rfl,hH,q⟩:=h
  cases rx
  have hus:=rv.zero
  subst hus
  obtain ⟨z,its,n,r,hl,e⟩:=I.lstM hH
  refine call_meets F.slot_list_clear ⟨_,e,rfl⟩ F.entry_list_clear (F.args_list_clear_1 _) (AutoSeq1.list_clear_list_0 l its.toArray n (by rw [List.size_toArray];omega)) ⟨e,?_⟩
  exact ⟨.non,_,I.lset (its':=[]) (ys:=[]) hH e rfl .nil (Nat.zero_le _),rfl,q⟩
def rCat:R2:=fun x y H Q=>∃ l b xs zs,x=.ref l∧y=.ref b∧H l=some (.lst xs)∧H b=some (.lst zs)∧xs.length + zs.length≤sizeLine∧∀ p,H p=none→Q (.ref p) (upd H p (.lst (xs ++ zs)))
theorem op_cat:OpR X (binaryOp .Add) rCat:=by
  intro pins s σ H x y v u Q I rx ry h
  obtain ⟨l,b,xs,zs,rfl,rfl,hH,hB,hz,q⟩:=h
  cases rx
  cases ry
  obtain ⟨z,its,n,r,hl,e⟩:=I.lstM hH
  obtain ⟨z2,its2,n2,r2,hl2,e2⟩:=I.lstM hB
  refine PySem.P.add_list e e2 ?_ (by rw [List.size_toArray,List.size_toArray];omega)
  have ea:its.toArray ++ its2.toArray=(its ++ its2).toArray:=by simp
  rw [ea]
  exact ⟨.ref _,_,I.lnew (t':=s.toks) (r.append r2) (by rw [List.length_append];omega),rfl,q _ I.fresh⟩
def rRep:R2:=fun x y H Q=>∃ l k xs,x=.ref l∧y=.int k∧H l=some (.lst xs)∧-(2 ^ 63)≤k∧k < 2 ^ 63∧xs.length * k.toNat≤sizeLine ∧
  ∀ p,H p=none→Q (.ref p) (upd H p (.lst (List.replicate k.toNat xs).flatten))
end
section
variable {prog:Program} {w:World} {A:Around} {E:Value→Shared→Prop} {s:Shared}
set_option maxRecDepth 100000 in
end
section
variable {X:Cx}
end
end L2
namespace L2
open PySem PySem.Spec PyProof.Rows
section
variable {κ:Type} [DecidableEq κ]
def valV (kvs:List (κ × V)) (k:κ):Option V:=(kvs.find? fun kv=>decide (kv.1=k)).map (·.2)
def putK (kvs:List (κ × V)) (k:κ) (v:V):List (κ × V) :=
  if (kvs.any fun kv=>decide (kv.1=k))=true then kvs.map (fun kv=>if kv.1=k then (kv.1,v) else kv) else kvs ++ [(k,v)]
def dropK (kvs:List (κ × V)) (k:κ):List (κ × V):=kvs.filter fun kv=>decide (kv.1≠k)
theorem valV_nil {k:κ}:valV ([]:List (κ × V)) k=none:=rfl
theorem valV_pos {p:κ × V} {r:List (κ × V)} {k:κ} (e:p.1=k):valV (p :: r) k=some p.2:=by simp [valV,List.find?_cons,e]
theorem valV_neg {p:κ × V} {r:List (κ × V)} {k:κ} (e:¬ p.1=k):valV (p :: r) k=valV r k:=by simp [valV,List.find?_cons,e]
theorem valV_any (k:κ):∀ kvs:List (κ × V),(kvs.any fun kv=>decide (kv.1=k))=(valV kvs k).isSome
  | []=>rfl
  | p :: r=>by
    rw [List.any_cons]
    by_cases e:p.1=k
    · simp only [valV_pos e,decide_eq_true e,Bool.true_or,Option.isSome_some]
    · rw [valV_neg e,decide_eq_false e,Bool.false_or];exact valV_any k r
theorem valV_map (k j:κ) (y:V):∀ kvs:List (κ × V),valV (kvs.map fun kv=>if kv.1=k then (kv.1,y) else kv) j=(valV kvs j).map fun x=>if j=k then y else x
  | []=>rfl
  | p :: r=>by
    have ih:=valV_map k j y r
    rw [List.map_cons]
    by_cases h:p.1=k
    · rw [if_pos h]
      by_cases e:p.1=j
      · rw [valV_pos (p:=(p.1,y)) e,valV_pos e,Option.map_some,if_pos (e.symm.trans h)]
      · rw [valV_neg (p:=(p.1,y)) e,valV_neg e,ih]
    · rw [if_neg h]
      by_cases e:p.1=j
      · rw [valV_pos (p:=p) e,valV_pos e,Option.map_some,if_neg (fun z=>h (e.trans z))]
      · rw [valV_neg (p:=p) e,valV_neg e,ih]
theorem valV_snoc (k j:κ) (y:V):∀ kvs:List (κ × V),valV kvs k=none→valV (kvs ++ [(k,y)]) j=if j=k then some y else valV kvs j
  | [],_=>by
    by_cases e:k=j
    · rw [if_pos e.symm];exact valV_pos (p:=(k,y)) e
    · rw [if_neg (fun z=>e z.symm)];exact valV_neg (p:=(k,y)) e
  | p :: r,hn=>by
    rw [List.cons_append]
    have hk:¬ p.1=k:=fun z=>by rw [valV_pos z] at hn;cases hn
    rw [valV_neg hk] at hn
    have ih:=valV_snoc k j y r hn
    by_cases e:p.1=j
    · rw [valV_pos e,valV_pos e,if_neg (fun z=>hk (e.trans z))]
    · rw [valV_neg e,valV_neg e,ih]
theorem valV_put (kvs:List (κ × V)) (k j:κ) (y:V):valV (putK kvs k y) j=if j=k then some y else valV kvs j:=by
  unfold putK
  by_cases a:(kvs.any fun kv=>decide (kv.1=k))=true
  · rw [if_pos a,valV_map]
    rw [valV_any] at a
    by_cases e:j=k
    · obtain ⟨x,hx⟩:=Option.isSome_iff_exists.mp a
      rw [if_pos e,e,hx,Option.map_some,if_pos rfl]
    · rw [if_neg e]
      cases valV kvs j with
      | none=>rfl
      | some x=>rw [Option.map_some,if_neg e]
  · rw [if_neg a]
    refine valV_snoc k j y kvs ?_
    rw [valV_any] at a
    cases q:valV kvs k with
    | none=>rfl
    | some x=>rw [q] at a;exact (a rfl).elim
theorem length_putK (kvs:List (κ × V)) (k:κ) (v:V):(putK kvs k v).length≤kvs.length + 1:=by
  unfold putK
  split
  · rw [List.length_map];omega
  · rw [List.length_append,List.length_cons,List.length_nil];omega
theorem putK_new {kvs:List (κ × V)} {k:κ} (v:V) (h:valV kvs k=none):putK kvs k v=kvs ++ [(k,v)]:=by
  unfold putK
  rw [valV_any,h]
  exact if_neg (by decide)
theorem RelO.isSome_eq {o:Option V} {u:Option Value} (r:RelO o u):o.isSome=u.isSome:=by
  cases o with
  | none=>cases u with
    | none=>rfl
    | some _=>exact (show False from r).elim
  | some _=>cases u with
    | none=>exact (show False from r).elim
    | some _=>rfl
theorem RelO.getD {o:Option V} {u:Option Value} {d:V} {d':Value} (r:RelO o u) (rd:RelV d d'):RelV (o.getD d) (u.getD d'):=by
  cases o with
  | none=>cases u with
    | none=>exact rd
    | some _=>exact (show False from r).elim
  | some _=>cases u with
    | none=>exact (show False from r).elim
    | some _=>exact r
theorem KV.val {kvs:List (κ × V)} {vs:List (κ × Value)} (r:KV kvs vs) (k:κ):RelO (valV kvs k) (valueAt vs k):=by
  unfold KV at r
  induction r with
  | nil=>exact True.intro
  | @cons p q ps qs h t ih =>
    obtain ⟨h1,h2⟩:=h
    by_cases e:p.1=k
    · have e':q.1=k:=h1.symm.trans e
      have b:valueAt (q :: qs) k=some q.2:=by simp [valueAt,List.find?_cons,e']
      rw [valV_pos e,b];exact h2
    · have e':¬ q.1=k:=fun z=>e (h1.trans z)
      have b:valueAt (q :: qs) k=valueAt qs k:=by simp [valueAt,List.find?_cons,e']
      rw [valV_neg e,b];exact ih
theorem KV.any {kvs:List (κ × V)} {vs:List (κ × Value)} (r:KV kvs vs) (k:κ):(kvs.any fun kv=>decide (kv.1=k))=vs.any fun kv=>decide (kv.1=k):=by
  unfold KV at r
  induction r with
  | nil=>rfl
  | cons h t ih=>rw [List.any_cons,List.any_cons,ih,h.1]
theorem KV.repl {kvs:List (κ × V)} {vs:List (κ × Value)} (r:KV kvs vs) (k:κ) {y:V} {u:Value} (ry:RelV y u) :
    KV (kvs.map fun kv=>if kv.1=k then (kv.1,y) else kv) (vs.map fun kv=>if kv.1=k then (kv.1,u) else kv):=by
  unfold KV at r ⊢
  induction r with
  | nil=>exact .nil
  | @cons p q ps qs h t ih =>
    rw [List.map_cons,List.map_cons]
    refine .cons ?_ ih
    obtain ⟨h1,h2⟩:=h
    by_cases e:p.1=k
    · rw [if_pos e,if_pos (h1.symm.trans e)];exact ⟨h1,ry⟩
    · rw [if_neg e,if_neg (fun z=>e (h1.trans z))];exact ⟨h1,h2⟩
theorem KV.put {kvs:List (κ × V)} {vs:List (κ × Value)} (r:KV kvs vs) (k:κ) {y:V} {u:Value} (ry:RelV y u):KV (putK kvs k y) (stored vs k u):=by
  unfold putK stored
  rw [r.any k]
  by_cases e:(vs.any fun kv=>decide (kv.1=k))=true
  · rw [if_pos e,if_pos e];exact r.repl k ry
  · rw [if_neg e,if_neg e];exact Paired.snoc r ⟨rfl,ry⟩
theorem KV.drop {kvs:List (κ × V)} {vs:List (κ × Value)} (r:KV kvs vs) (k:κ):KV (dropK kvs k) (without vs k):=by
  unfold KV at r ⊢
  unfold dropK without
  induction r with
  | nil=>exact .nil
  | @cons p q ps qs h t ih =>
    obtain ⟨h1,h2⟩:=h
    rw [List.filter_cons,List.filter_cons]
    by_cases e:p.1=k
    · have a:¬ decide (p.1≠k)=true:=by simp [e]
      have b:¬ decide (q.1≠k)=true:=by simp [h1.symm.trans e]
      rw [if_neg a,if_neg b];exact ih
    · have e':¬ q.1=k:=fun z=>e (h1.trans z)
      have a:decide (p.1≠k)=true:=by simp [e]
      have b:decide (q.1≠k)=true:=by simp [e']
      rw [if_pos a,if_pos b];exact .cons ⟨h1,h2⟩ ih
theorem KV.length {kvs:List (κ × V)} {vs:List (κ × Value)} (r:KV kvs vs):kvs.length=vs.length:=Paired.length r
theorem dropK_le (kvs:List (κ × V)) (k:κ):(dropK kvs k).length≤kvs.length:=List.length_filter_le _ _
end
theorem kV_is {P:Program} {w:World} {k:Key} {u:Value} (r:RelV (kV k) u):(mixKind P w).is k u=true:=by
  cases k with
  | inl i=>obtain ⟨t,e⟩:=(show ∃ t,u=Value.int i t from r);subst e;exact mixKind_int P w i t
  | inr x=>obtain ⟨t,e⟩:=(show ∃ t,u=Value.str x t from r);subst e;exact mixKind_str P w x t
theorem items_are {P:Program} {w:World}:∀ {ks:List Key} {us:List Value},Vals (ks.map kV) us→ItemsAre (mixKind P w) ks us
  | [],_,r=>by rw [List.map_nil] at r;cases r;exact .nil
  | k :: ks,_,r=>by
    rw [List.map_cons] at r
    cases r with
    | cons h t=>exact .cons (kV_is h) (items_are t)
abbrev KT (H:Hp):List (List Key × V)→List (List Key × Addr × Value)→Prop:=Paired fun p q=>p.1=q.1∧H q.2.1=some (.tup (p.1.map kV))∧RelV p.2 q.2.2
theorem KT.val {H:Hp} {kvs:List (List Key × V)} {xs:List (List Key × Addr × Value)} (r:KT H kvs xs) (k:List Key):RelO (valV kvs k) ((atKey xs k).map (·.2)):=by
  induction r with
  | nil=>exact True.intro
  | @cons p q ps qs h t ih =>
    obtain ⟨h1,_,h2⟩:=h
    by_cases e:p.1=k
    · have e':q.1=k:=h1.symm.trans e
      have b:atKey (q :: qs) k=some q.2:=by simp [atKey,List.find?_cons,e']
      rw [valV_pos e,b];exact h2
    · have e':¬ q.1=k:=fun z=>e (h1.trans z)
      have b:atKey (q :: qs) k=atKey qs k:=by simp [atKey,List.find?_cons,e']
      rw [valV_neg e,b];exact ih
theorem KT.repl {H:Hp} {kvs:List (List Key × V)} {xs:List (List Key × Addr × Value)} (r:KT H kvs xs) (k:List Key) {y:V} {u:Value} (ry:RelV y u) :
    KT H (kvs.map fun kv=>if kv.1=k then (kv.1,y) else kv) (xs.map (putAt k u)):=by
  induction r with
  | nil=>exact .nil
  | @cons p q ps qs h t ih =>
    rw [List.map_cons,List.map_cons]
    refine .cons ?_ ih
    obtain ⟨h1,h2,h3⟩:=h
    unfold putAt
    by_cases e:p.1=k
    · rw [if_pos e,if_pos (h1.symm.trans e)];exact ⟨h1,h2,ry⟩
    · rw [if_neg e,if_neg (fun z=>e (h1.trans z))];exact ⟨h1,h2,h3⟩
theorem KT.put {H:Hp} {kvs:List (List Key × V)} {xs:List (List Key × Addr × Value)} (r:KT H kvs xs) (k:List Key) {b:Addr} {y:V} {u:Value} (hb:H b=some (.tup (k.map kV))) (ry:RelV y u) :
    KT H (putK kvs k y) (storedH xs k b u):=by
  have e:(kvs.any fun kv=>decide (kv.1=k))=(atKey xs k).isSome:=by
    rw [valV_any,(r.val k).isSome_eq,Option.isSome_map]
  unfold putK storedH
  rw [e]
  by_cases q:(atKey xs k).isSome=true
  · rw [if_pos q,if_pos q];exact r.repl k ry
  · rw [if_neg q,if_neg q];exact Paired.snoc r ⟨rfl,hb,ry⟩
theorem KT.keeps {H H':Hp} {kvs:List (List Key × V)} {xs:List (List Key × Addr × Value)} (r:KT H kvs xs) (ht:∀ b ys,H b=some (.tup ys)→H' b=some (.tup ys)):KT H' kvs xs :=
  Paired.mapP r fun _ _ z=>⟨z.1,ht _ _ z.2.1,z.2.2⟩
section
variable {P:Program} {w:World} {H:Hp} {h:Heap} {a:Addr}
theorem rd_of {u:HO} (ok:HOk P w H h) (e:Rd H a u):ObjOk P w H h a u:=e.ok ok
theorem dk_rd {kvs:List (Key × V)} (ok:HOk P w H h) (e:Rd H a (.dK kvs)):kvs.length≤sizeLine∧(a == sysModules)=false∧∃ vs,KV kvs vs∧h.DictOf (mixKind P w) a vs :=
  show ObjOk P w H h a (.dK kvs) from rd_of ok e
theorem dk_of {kvs:List (Key × V)} (ok:HOk P w H h) (e:H a=some (.dK kvs)):kvs.length≤sizeLine∧(a == sysModules)=false∧∃ vs,KV kvs vs∧h.DictOf (mixKind P w) a vs:=dk_rd ok (.inl e)
theorem key_of {ks:List Key} (ok:HOk P w H h) (e:H a=some (.tup (ks.map kV))):(tupleKind (mixKind P w)).is h ks a:=by
  obtain ⟨_,its,r,o,h1,h2,n,h3⟩:=(show ObjOk P w H h a (.tup (ks.map kV)) from ok a _ e)
  exact ⟨o,its.toArray,n,h1,h2,h3,by simpa using items_are r⟩
theorem dt_rd {kvs:List (List Key × V)} (ok:HOk P w H h) (e:Rd H a (.dT kvs)):kvs.length≤sizeLine∧(a == sysModules)=false ∧
    ∃ xs,KT H kvs xs∧h.DictOfH (tupleKind (mixKind P w)) a xs:=by
  obtain ⟨z,y,xs,r,o,es,ep,h1,h2,h3,h4,h5⟩:=(show ObjOk P w H h a (.dT kvs) from rd_of ok e)
  refine ⟨z,y,xs,r,o,es,ep,h1,h2,h3,h4,fun x hx=>?_,h5⟩
  have all:∀ {l:List (List Key × V)} {m:List (List Key × Addr × Value)},KT H l m→∀ x∈m,(tupleKind (mixKind P w)).is h x.1 x.2.1:=by
    intro l m q
    induction q with
    | nil=>intro x hx;exact nomatch hx
    | @cons p q ps qs hq t ih =>
      intro x hx
      rcases List.mem_cons.mp hx with e | hx
      · subst e
        exact key_of ok (by rw [← hq.1];exact hq.2.1)
      · exact ih x hx
  exact all r x hx
theorem dt_of {kvs:List (List Key × V)} (ok:HOk P w H h) (e:H a=some (.dT kvs)):kvs.length≤sizeLine∧(a == sysModules)=false ∧
    ∃ xs,KT H kvs xs∧h.DictOfH (tupleKind (mixKind P w)) a xs:=dt_rd ok (.inl e)
end
def DGet (H:Hp) (a:Addr) (y:V) (r:Option V):Prop :=
  (∃ kvs k,Rd H a (.dK kvs)∧y=kV k∧r=valV kvs k)∨∃ kvs k b,Rd H a (.dT kvs)∧y=.ref b∧H b=some (.tup (k.map kV))∧r=valV kvs k
def DPut (H:Hp) (a:Addr) (y v:V) (H':Hp):Prop :=
  (∃ kvs k,H a=some (.dK kvs)∧y=kV k∧kvs.length < sizeLine∧H'=upd H a (.dK (putK kvs k v))) ∨
  ∃ kvs k b,H a=some (.dT kvs)∧y=.ref b∧H b=some (.tup (k.map kV))∧kvs.length < sizeLine∧H'=upd H a (.dT (putK kvs k v))
theorem DGet.k {H:Hp} {a:Addr} {kvs:List (Key × V)} {k:Key} (e:H a=some (.dK kvs)):DGet H a (kV k) (valV kvs k):=.inl ⟨kvs,k,.inl e,rfl,rfl⟩
theorem DGet.t {H:Hp} {a b:Addr} {kvs:List (List Key × V)} {k:List Key} (e:H a=some (.dT kvs)) (eb:H b=some (.tup (k.map kV))):DGet H a (.ref b) (valV kvs k):=.inr ⟨kvs,k,b,.inl e,rfl,eb,rfl⟩
theorem DPut.k {H:Hp} {a:Addr} {kvs:List (Key × V)} {k:Key} {v:V} (e:H a=some (.dK kvs)) (hl:kvs.length < sizeLine):DPut H a (kV k) v (upd H a (.dK (putK kvs k v))):=.inl ⟨kvs,k,e,rfl,hl,rfl⟩
section
variable {X:Cx} {pins:List (Addr × Obj)} {σ:St} {H:Hp} {s:Shared} {a:Addr} {y v:V} {u r:Value} {o:Option V} {A:Around} {E:Value→Shared→Prop}
theorem Inv.big (I:Inv X pins σ H s):sysModules < s.heap.objs.size:=by
  have h:mainGlobals < s.heap.objs.size:=(I.mod.glob.keeps I.bk).lt
  exact Nat.lt_trans (by decide) h
theorem d_getItem {Q:Value→Shared→Prop} (hu:A.units + 1 < cLine) (I:Inv X pins σ H s) (g:DGet H a y (some v)) (ry:RelV y u) (h:∀ w' s',Inv X pins σ H s'→RelV v w'→Q w' s') :
    wpAny (model X.prog X.w) A (getItem (.ref a) u) Q E s:=by
  rcases g with ⟨kvs,k,e,ey,l⟩ | ⟨kvs,k,b,e,ey,eb,l⟩
  · subst ey
    obtain ⟨z,hd,vs,rel,dd⟩:=dk_rd I.hok e
    obtain ⟨w',hw,rw'⟩:=RelO.some_of (v:=v) (o:=valueAt vs k) (by rw [l];exact rel.val k)
    exact wpAny_getItem_of (kV_is ry) dd.mapOf hw (h w' _ (I.tok _) rw')
  · subst ey
    cases (show u=Value.ref b from ry)
    obtain ⟨z,hd,xs,rel,dd⟩:=dt_rd I.hok e
    obtain ⟨w',hw,rw'⟩:=RelO.some_of (v:=v) (o:=(atKey xs k).map (·.2)) (by rw [l];exact rel.val k)
    obtain ⟨p,hp,hp2⟩:=Option.map_eq_some_iff.mp hw
    refine wpAny_getItem_heap (tupleKind_room_in1 hu) (key_of I.hok eb) dd hp ?_
    rw [hp2]
    exact h w' _ (I.tok _) rw'
theorem d_write {h':Heap} {t':Nat} {ob:HO} (I:Inv X pins σ H s) (mu:Mut (H a)) (hs:Heap.SameBut a s.heap h') (he:∃ q,h'.get? a=some q) (new:ObjOk X.prog X.w (upd H a ob) h' a ob) :
    Inv X pins σ (upd H a ob) { s with heap:=h',toks:=t' } :=
  I.write (x:=a) (e:=a) mu (.inl rfl) (fun b q hb z=>(hs.2 b hb).trans z) he new
theorem dk_new {P:Program} {w:World} {H':Hp} {h':Heap} {kvs:List (Key × V)} {vs:List (Key × Value)} (z:kvs.length≤sizeLine) (hd:(a == sysModules)=false) (rel:KV kvs vs) (dd:h'.DictOf (mixKind P w) a vs) :
    ObjOk P w H' h' a (.dK kvs):=⟨z,hd,vs,rel,dd⟩
theorem d_setItem {H':Hp} {Q:Unit→Shared→Prop} (hu:A.units + 1 < cLine) (I:Inv X pins σ H s) (g:DPut H a y v H') (ry:RelV y u) (rv:RelV v r) (h:∀ s',Inv X pins σ H' s'→Q () s') :
    wpAny (model X.prog X.w) A (setItem (.ref a) u r) Q E s:=by
  rcases g with ⟨kvs,k,e,ey,l,eH⟩ | ⟨kvs,k,b,e,ey,eb,l,eH⟩
  · subst ey eH
    obtain ⟨z,hd,vs,rel,dd⟩:=dk_of I.hok e
    have hz:vs.length≤sizeLine:=by rw [← rel.length];exact z
    have hl:(putK kvs k v).length≤sizeLine:=by have:=length_putK kvs k v;omega
    refine wpAny_setItem_pairs (hsz:=hz) (kV_is ry) dd fun h' dd' hs=>h _ ?_
    have he:∃ q,h'.get? a=some q:=let ⟨q,_,_,hq,_⟩:=dd';⟨q,hq⟩
    exact d_write I (by rw [e];exact True.intro) hs he (dk_new hl hd (rel.put k rv) dd')
  · subst ey eH
    cases (show u=Value.ref b from ry)
    obtain ⟨z,hd,xs,rel,dd⟩:=dt_of I.hok e
    have hz:xs.length≤sizeLine:=by rw [← Paired.length rel];exact z
    have hl:(putK kvs k v).length≤sizeLine:=by have:=length_putK kvs k v;omega
    refine wpAny_setItem_heap (hsz:=hz) (tupleKind_room_in1 hu) (key_of I.hok eb) dd fun h' dd' hs=>h _ ?_
    obtain ⟨q,es,ep,hq,h2,h3,h4,_,h5⟩:=dd'
    refine d_write I (by rw [e];exact True.intro) hs ⟨q,hq⟩ ⟨hl,hd,_,(rel.put k eb rv).keeps fun c ys ec=>?_,q,es,ep,hq,h2,h3,h4,h5⟩
    rw [upd_ne (ne_of ec e (fun z=>nomatch z))]
    exact ec
end
section
variable {X:Cx} {pins:List (Addr × Obj)} {σ:St} {H:Hp} {s:Shared} {a:Addr} {kvs:List (Key × V)} {k:Key} {u:Value} {A:Around} {E:Value→Shared→Prop}
theorem d_pop {v:V} {more:List Value} {Q:Value→Shared→Prop} (I:Inv X pins σ H s) (e:H a=some (.dK kvs)) (ry:RelV (kV k) u) (l:valV kvs k=some v) (hm:more=[]∨∃ x,more=[x])
    (h:∀ w' s',Inv X pins σ (upd H a (.dK (dropK kvs k))) s'→RelV v w'→Q w' s'):wpAny (model X.prog X.w) A (call (.builtin "dict.pop") (.ref a :: u :: more)) Q E s:=by
  obtain ⟨z,hd,vs,rel,dd⟩:=dk_of I.hok e
  obtain ⟨w',hw,rw'⟩:=RelO.some_of (v:=v) (o:=valueAt vs k) (by rw [← l];exact rel.val k)
  have hp:(keyPart u).isSome=true:=by
    cases k with
    | inl i=>obtain ⟨t,q⟩:=(show ∃ t,u=Value.int i t from ry);subst q;rfl
    | inr x=>obtain ⟨t,q⟩:=(show ∃ t,u=Value.str x t from ry);subst q;rfl
  have ha:argsOk "dict.pop" ⟨.ref a :: u :: more,[]⟩:=by
    rcases hm with q | ⟨x,q⟩
    · subst q;exact PySem.F.args_dict_pop_2 _ _
    · subst q;exact PySem.F.args_dict_pop_3 _ _ _
  refine call_meetsIn PySem.F.slot_dict_pop dd.typeIs PySem.F.entry_dict_pop ha (meets_dict_pop_there (mixKind X.prog X.w) a (kV_is ry) more hm hp)
    ⟨vs,w',dd,by rw [← rel.length];exact z,hw,fun h' dd' hs=>h w' _ ?_ rw'⟩
  have he:∃ q,h'.get? a=some q:=let ⟨q,_,_,hq,_⟩:=dd';⟨q,hq⟩
  exact d_write I (by rw [e];exact True.intro) hs he (dk_new (Nat.le_trans (dropK_le kvs k) z) hd (rel.drop k) dd')
theorem d_popD {r:Value} {Q:Value→Shared→Prop} (I:Inv X pins σ H s) (e:H a=some (.dK kvs)) (ry:RelV (kV k) u) (l:valV kvs k=none) (h:∀ s',Inv X pins σ H s'→Q r s') :
    wpAny (model X.prog X.w) A (call (.builtin "dict.pop") [.ref a,u,r]) Q E s:=by
  obtain ⟨z,hd,vs,rel,dd⟩:=dk_of I.hok e
  have hn:valueAt vs k=none:=RelO.none_of (by rw [← l];exact rel.val k)
  have hp:(keyPart u).isSome=true:=by
    cases k with
    | inl i=>obtain ⟨t,q⟩:=(show ∃ t,u=Value.int i t from ry);subst q;rfl
    | inr x=>obtain ⟨t,q⟩:=(show ∃ t,u=Value.str x t from ry);subst q;rfl
  exact call_meetsIn PySem.F.slot_dict_pop dd.typeIs PySem.F.entry_dict_pop (PySem.F.args_dict_pop_3 _ _ _) (meets_dict_pop_default (mixKind X.prog X.w) a (kV_is ry) hd hp r) ⟨vs,dd,hn,h _ (I.tok _)⟩
end
def NoSl (i:Expr):Prop:=∀ ov iv,subscripted i false ov iv=operate [ov,iv] (getItem ov iv)
theorem subD_of {prog:Program} {w:World} {A:Around} {E:Value→Shared→Prop} {s:Shared} {env:Env} {value slice:Expr} {pos:Pos} {T id:String} {Q:Value→Shared→Prop}
    (hl:typeLookup (.type T) "__getitem__"=pure (some (.builtin id))) (hs:NoSl slice)
    (h:wpAny (model prog w) A (eval value env) (fun o s₁=>wpAny (model prog w) A (eval slice env) (fun i s₂=>s₂.TypeIs o T∧wpAny (model prog w) A (getItem o i) Q E s₂) E s₁) E s) :
    wpAny (model prog w) A (eval (.Subscript value slice pos) env) Q E s:=by
  refine Subscript_ (wpAny_mono h (fun o s₁ h₁=>wpAny_mono h₁ (fun i s₂ h₂=>?_) fun _ _ x=>x) fun _ _ x=>x)
  obtain ⟨hT,h₂⟩:=h₂
  unfold subscriptTail
  refine wpAny_bind ?_
  rw [getitemInPython_of_ne hT.not_modules]
  refine wpAny_bind (wpAny_specialOf hT hl ?_)
  have fin:wpAny (model prog w) A (subscripted slice false o i) (fun r s₃=>wpAny (model prog w) A (letTemporaryGo value o r >>= fun _=>pure r) Q E s₃) E s₂:=by
    rw [hs o i]
    exact wpAny_operating (wpAny_mono h₂ (fun r s₃ h₃=>wpAny_bind (wpAny_letTemporaryGo (wpAny_pure h₃))) fun _ _ x=>x)
  first
    | exact wpAny_pure (wpAny_bind fin)
    | exact wpAny_bind (wpAny_pure (wpAny_bind fin))
    | exact wpAny_bind fin
theorem dict_typeIs {X:Cx} {pins:List (Addr × Obj)} {σ:St} {H:Hp} {s:Shared} {a:Addr} {y:V} {o:Option V} (I:Inv X pins σ H s) (g:DGet H a y o):s.TypeIs (.ref a) "dict":=by
  rcases g with ⟨kvs,k,e,_,_⟩ | ⟨kvs,k,b,e,_,_,_⟩
  · obtain ⟨_,_,vs,_,dd⟩:=dk_rd I.hok e
    exact dd.typeIs
  · obtain ⟨_,_,xs,_,dd⟩:=dt_rd I.hok e
    exact dd.typeIs
def tDGet (td ty:TE):TE:=fun σ H Q=>td σ H fun x H1=>ty σ H1 fun y H2=>∃ a v,x=.ref a∧DGet H2 a y (some v)∧Q v H2
def sDPut (td ty tv:TE):TS:=fun D σ H=>tv σ H fun v H1=>td σ H1 fun x H2=>ty σ H2 fun y H3=>∃ a H4,x=.ref a∧DPut H3 a y v H4∧D.nx σ H4
section
variable {X:Cx} {o i e value:Expr} {pos pos' tpos:Pos} {td ty tv:TE}
theorem pe_dget (hu:X.A.units + 1 < cLine) (ho:PE X o td) (hi:PE X i ty) (hs:NoSl i):PE X (.Subscript o i pos) (tDGet td ty):=by
  intro pins s σ H Q I h
  refine subD_of PySem.F.slot_dict_getitem.lookup hs (thn (ho pins s σ H _ I h) fun u s1 ⟨x,H1,I1,rx,q1⟩=>thn (hi pins s1 σ H1 _ I1 q1) fun iv s2 ⟨y,H2,I2,ry,a,v,ex,g,q2⟩=>?_)
  subst ex
  obtain rfl:u=Value.ref a:=rx
  exact ⟨dict_typeIs I2 g,d_getItem hu I2 g ry fun w' s3 I3 rw'=>⟨v,H2,I3,rw',q2⟩⟩
theorem ps_dput (hu:X.A.units + 1 < cLine) (ho:PE X o td) (hi:PE X i ty) (hv:PE X value tv) (hs:swapsWith value (some (.Subscript o i pos')) pos.line X.env=pure false) :
    PS X (.Assign [.Subscript o i pos'] value pos) (sDPut td ty tv):=by
  intro pins s σ H D I h
  refine wpAny_Assign_Subscript (thn (hv pins s σ H _ I h) fun r s1 ⟨v,H1,I1,rv,q1⟩=>thn (ho pins s1 σ H1 _ I1 q1) fun u s2 ⟨x,H2,I2,rx,q2⟩=>thn (hi pins s2 σ H2 _ I2 q2) fun iv s3 ⟨y,H3,I3,ry,a,H4,ex,g,q3⟩=>?_) hs
  subst ex
  obtain rfl:u=Value.ref a:=rx
  exact d_setItem hu I3 g ry rv fun s4 I4=>⟨σ,H4,I4,q3⟩
end
theorem dk_empty {P:Program} {w:World} {H:Hp} (h:Heap) (hb:sysModules < h.objs.size):ObjOk P w H (h.push { cls:=.type "dict",data:=.dict #[] }) h.objs.size (.dK []) :=
  ⟨Nat.zero_le _,beq_eq_false_iff_ne.mpr (Ne.symm (Nat.ne_of_lt hb)),[],.nil,Heap.DictOf.new h⟩
theorem dt_empty {P:Program} {w:World} {H:Hp} (h:Heap) (hb:sysModules < h.objs.size):ObjOk P w H (h.push { cls:=.type "dict",data:=.dict #[] }) h.objs.size (.dT []) :=
  ⟨Nat.zero_le _,beq_eq_false_iff_ne.mpr (Ne.symm (Nat.ne_of_lt hb)),[],.nil,_,#[],0,Heap.get?_push_size _ rfl,⟨rfl,rfl,rfl⟩,rfl,rfl,List.nodup_nil⟩
def tDNewK:TE:=fun _ H Q=>∀ p,H p=none→Q (.ref p) (upd H p (.dK []))
def tDNewT:TE:=fun _ H Q=>∀ p,H p=none→Q (.ref p) (upd H p (.dT []))
section
variable {X:Cx} {pos:Pos}
theorem pe_dnewK:PE X (.Dict [] [] pos) tDNewK:=fun pins s σ H Q I h =>
  wpAny_Dict_empty ⟨.ref s.heap.objs.size,_,I.laid (a:=s.heap.objs.size) (o:=.dK []) (t':=s.toks) (fun _ _ q=>Heap.get?_push_of_some _ q) (Nat.le_refl _) (dk_empty s.heap I.big),rfl,h _ (I.hok.fresh (Nat.le_refl _))⟩
theorem pe_dnewT:PE X (.Dict [] [] pos) tDNewT:=fun pins s σ H Q I h =>
  wpAny_Dict_empty ⟨.ref s.heap.objs.size,_,I.laid (a:=s.heap.objs.size) (o:=.dT []) (t':=s.toks) (fun _ _ q=>Heap.get?_push_of_some _ q) (Nat.le_refl _) (dt_empty s.heap I.big),rfl,h _ (I.hok.fresh (Nat.le_refl _))⟩
end
def tPairs:List (TE × TE)→St→Hp→(List (V × V)→Hp→Prop)→Prop
  | [],_,H,Q=>Q [] H
  | (tk,tv) :: r,σ,H,Q=>tk σ H fun x H1=>tv σ H1 fun y H2=>tPairs r σ H2 fun ps H3=>Q ((x,y) :: ps) H3
def mergeK (kvs more:List (Key × V)):List (Key × V):=more.foldl (fun acc kv=>putK acc kv.1 kv.2) kvs
def tDisp (trs:List (TE × TE)):TE:=fun σ H Q=>∀ p,H p=none→tPairs trs σ (upd H p (.dK [])) fun ps H2=>H2 p=some (.dK [])∧∃ kvs:List (Key × V),ps=kvs.map (fun kv=>(kV kv.1,kv.2))∧kvs.length≤15∧Q (.ref p) (upd H2 p (.dK (mergeK [] kvs)))
structure M1 (X:Cx) (o:Expr) (m:Str) (apos:Pos) (e:Expr) (cpos:Pos):Prop where
  base:attributeBase o m X.env (eval o X.env)=eval o X.env
  few:((backTo cpos (starEach [e] X.env)).all (fun x=>!x.1) && (backToKw cpos (keywordEach [] X.env)).all (fun x=>x.1.isSome)
    && decide (([e]:List Expr).length + ([]:List Keyword).length + (if ([]:List Keyword).isEmpty then 0 else 1) < 30))=true
  line:(apos.endLine == cpos.line)=true
  trees:backTo cpos (starEach [e] X.env)=[(false,eval e X.env)]
structure M2 (X:Cx) (o:Expr) (m:Str) (apos:Pos) (e f:Expr) (cpos:Pos):Prop where
  base:attributeBase o m X.env (eval o X.env)=eval o X.env
  few:((backTo cpos (starEach [e,f] X.env)).all (fun x=>!x.1) && (backToKw cpos (keywordEach [] X.env)).all (fun x=>x.1.isSome)
    && decide (([e,f]:List Expr).length + ([]:List Keyword).length + (if ([]:List Keyword).isEmpty then 0 else 1) < 30))=true
  line:(apos.endLine == cpos.line)=true
  trees:backTo cpos (starEach [e,f] X.env)=[(false,eval e X.env),(false,eval f X.env)]
def IsD (H:Hp) (a:Addr):Prop:=(∃ kvs,Rd H a (.dK kvs))∨∃ kvs,Rd H a (.dT kvs)
theorem isD_at {X:Cx} {pins:List (Addr × Obj)} {σ:St} {H:Hp} {s:Shared} {a:Addr} (I:Inv X pins σ H s) (d:IsD H a) :
    s.TypeIs (.ref a) "dict"∧(∀ b,Value.ref a=.ref b→∃ ob,s.heap.get? b=some ob∧ob.dict=none)∧(a == sysModules)=false:=by
  rcases d with ⟨kvs,e⟩ | ⟨kvs,e⟩
  · obtain ⟨_,hd,vs,_,dd⟩:=dk_rd I.hok e
    refine ⟨dd.typeIs,fun b q=>?_,hd⟩
    cases q
    obtain ⟨ob,_,_,h1,h2,_⟩:=dd
    exact ⟨ob,h1,h2.2.1⟩
  · obtain ⟨_,hd,xs,_,dd⟩:=dt_rd I.hok e
    refine ⟨dd.typeIs,fun b q=>?_,hd⟩
    cases q
    obtain ⟨ob,_,_,h1,h2,_⟩:=dd
    exact ⟨ob,h1,h2.2.1⟩
section
variable {X:Cx} {pins:List (Addr × Obj)} {σ:St} {H:Hp} {s:Shared} {a:Addr} {y d:V} {u r:Value} {o:Option V} {A:Around} {E:Value→Shared→Prop}
theorem d_get2 {Q:Value→Shared→Prop} (hu:A.units + 1 < cLine) (I:Inv X pins σ H s) (g:DGet H a y o) (ry:RelV y u) (rd:RelV d r) (h:∀ w' s',Inv X pins σ H s'→RelV (o.getD d) w'→Q w' s') :
    wpAny (model X.prog X.w) A (call (.builtin "dict.get") [.ref a,u,r]) Q E s:=by
  rcases g with ⟨kvs,k,e,ey,l⟩ | ⟨kvs,k,b,e,ey,eb,l⟩
  · subst ey
    obtain ⟨z,hd,vs,rel,dd⟩:=dk_rd I.hok e
    refine call_meetsIn PySem.F.slot_dict_get dd.typeIs PySem.F.entry_dict_get (PySem.F.args_dict_get_3 _ _ _) (meets_dict_get_default (mixKind X.prog X.w) a (kV_is ry) hd r) ⟨_,dd.mapOf,h _ _ (I.tok _) ?_⟩
    rw [l]
    exact (rel.val k).getD rd
  · subst ey
    cases (show u=Value.ref b from ry)
    obtain ⟨z,hd,xs,rel,dd⟩:=dt_rd I.hok e
    refine call_meetsIn PySem.F.slot_dict_get dd.typeIs PySem.F.entry_dict_get (PySem.F.args_dict_get_3 _ _ _) (meetsH_dict_get_default (tupleKind (mixKind X.prog X.w)) a b hd r) ⟨tupleKind_room_in1 hu,k,xs,key_of I.hok eb,dd,h _ _ (I.tok _) ?_⟩
    rw [l]
    exact (rel.val k).getD rd
end
def tDGet2 (td ty tx:TE):TE:=fun σ H Q=>td σ H fun x H1=>∃ a,x=.ref a∧IsD H1 a∧ty σ H1 fun y H2=>tx σ H2 fun z H3=>∃ o,DGet H3 a y o∧Q (o.getD z) H3
def tDPop2 (td ty tx:TE):TE:=fun σ H Q=>td σ H fun x H1=>∃ a,x=.ref a∧IsD H1 a∧ty σ H1 fun y H2=>tx σ H2 fun z H3=>∃ kvs k,H3 a=some (.dK kvs)∧y=kV k ∧
  (∀ v,valV kvs k=some v→Q v (upd H3 a (.dK (dropK kvs k))))∧(valV kvs k=none→Q z H3)
section
variable {X:Cx} {o e f:Expr} {apos cpos:Pos} {td ty tx:TE}
theorem pe_dget2 (hu:X.A.units + 1 < cLine) (ho:PE X o td) (he:PE X e ty) (hf:PE X f tx) (m:M2 X o "get" apos e f cpos):PE X (.Call (.Attribute o "get" apos) [e,f] [] cpos) (tDGet2 td ty tx):=by
  intro pins s σ H Q I h
  refine wpAny_Call_method m.base m.few m.line PySem.F.plainAttrs_dict PySem.F.slot_dict_get PySem.F.type_dict_get (thn (ho pins s σ H _ I h) fun u s1 ⟨x,H1,I1,rx,a,ex,d,q1⟩=>?_)
  subst ex
  obtain rfl:u=Value.ref a:=rx
  obtain ⟨t1,t2,_⟩:=isD_at I1 d
  refine ⟨t1,t2,?_⟩
  rw [m.trees]
  refine Calls.callWith_builtin rfl (Calls.evalArgs_plain (Calls.spliced_cons (thn (he pins s1 σ H1 _ I1 q1) fun iv s2 ⟨y,H2,I2,ry,q2⟩ =>
    Calls.spliced_cons (thn (hf pins s2 σ H2 _ I2 q2) fun fv s3 ⟨z,H3,I3,rz,ov,g,q3⟩=>Calls.spliced_nil ?_))))
  exact d_get2 hu I3 g ry rz fun w' s4 I4 rw'=>⟨_,H3,I4,rw',q3⟩
theorem pe_dpop2 (ho:PE X o td) (he:PE X e ty) (hf:PE X f tx) (m:M2 X o "pop" apos e f cpos):PE X (.Call (.Attribute o "pop" apos) [e,f] [] cpos) (tDPop2 td ty tx):=by
  intro pins s σ H Q I h
  refine wpAny_Call_method m.base m.few m.line PySem.F.plainAttrs_dict PySem.F.slot_dict_pop PySem.F.type_dict_pop (thn (ho pins s σ H _ I h) fun u s1 ⟨x,H1,I1,rx,a,ex,d,q1⟩=>?_)
  subst ex
  obtain rfl:u=Value.ref a:=rx
  obtain ⟨t1,t2,_⟩:=isD_at I1 d
  refine ⟨t1,t2,?_⟩
  rw [m.trees]
  refine Calls.callWith_builtin rfl (Calls.evalArgs_plain (Calls.spliced_cons (thn (he pins s1 σ H1 _ I1 q1) fun iv s2 ⟨y,H2,I2,ry,q2⟩ =>
    Calls.spliced_cons (thn (hf pins s2 σ H2 _ I2 q2) fun fv s3 ⟨z,H3,I3,rz,kvs,k,ea,ey,q3,q4⟩=>Calls.spliced_nil ?_))))
  subst ey
  cases l:valV kvs k with
  | some v=>exact d_pop I3 ea ry l (.inr ⟨fv,rfl⟩) fun w' s4 I4 rw'=>⟨v,_,I4,rw',q3 v l⟩
  | none=>exact d_popD I3 ea ry l fun s4 I4=>⟨z,H3,I4,rz,q4 l⟩
end
section
variable {X:Cx} {pins:List (Addr × Obj)} {σ:St} {H:Hp} {s:Shared} {a:Addr} {kvs:List (Key × V)} {A:Around} {E:Value→Shared→Prop}
end
section
variable {X:Cx} {pins:List (Addr × Obj)} {σ:St} {H:Hp} {s:Shared} {a:Addr} {y:V} {u:Value} {A:Around} {E:Value→Shared→Prop}
end
end L2
namespace Att
open PySem PySem.W PySem.Calls PyProof.Rows
theorem ints_of_wellAll {P:Params} {h:Heap}:∀ (ns:List Int) (vs:List Value),WellAll P h vs (ns.map WData.int)→IntsAre vs ns:=by
  intro ns
  induction ns with
  | nil =>
    intro vs w
    rw [List.map_nil] at w
    cases w
    exact .nil
  | cons n ns ih =>
    intro vs w
    rw [List.map_cons] at w
    cases w with
    | cons a b =>
      cases a
      exact .cons _ _ (ih _ b)
theorem script_of {l:OpenLaw} {n:Nat} (hn:l.most=some n) {P:Params} {h:Heap} {args:List WData} {vals:List Value}
    (hpre:l.row.toRowW.claim.pre args=true) (hwl:WellAll P h vals args) :
    ∃ a vs ns,vals=[Value.ref a]∧args=[WData.list (ns.map WData.int)]∧h.get? a=some { cls:=.type "list",data:=.seq vs.toArray }∧IntsAre vs ns∧ns.length≤n:=by
  have hsh:WShape.hasAll [] args [.list .int]=true:=(pre_splitW hpre).1
  have hc:l.pre.holds [] { args:=args }=true:=(pre_splitW hpre).2
  obtain ⟨d,r,rfl,h1,h2⟩:=hasAllW_cons hsh
  obtain rfl:=hasAllW_nil h2
  obtain ⟨xs,rfl,h3⟩:=hasW_list h1
  obtain ⟨ns,rfl⟩:=items_int h3
  have hlen:ns.length≤n:=by
    unfold OpenLaw.pre at hc
    have h4:(WTm.not (.lt (.lit (.int (n:Int))) (.len (.arg 0)))).holds [] { args:=[.list (ns.map .int)] }=true:=by
      have h4:=(holds_andW hc).1
      rw [hn] at h4
      exact h4
    have h5:=condW_of h4 (w_not (w_lt w_lit (w_len_list (w_arg rfl))))
    rw [List.length_map] at h5
    refine Nat.le_of_not_lt fun q=>?_
    have q':(n:Int) < ((ns.length:Nat):Int):=by omega
    first
      | (rw [decide_eq_true q'] at h5;exact absurd h5 (by decide))
      | (simp at h5;omega)
  cases hwl with
  | cons w1 w2 =>
    cases w2
    cases w1 with
    | list ho hall=>exact ⟨_,_,ns,rfl,rfl,ho,ints_of_wellAll ns _ hall,hlen⟩
theorem post_true (l:OpenLaw) (args:List WData):l.row.toRowW.claim.post args (.bool true) args=true :=
  postW_of (r:=l.row.toRowW) (X:=(true == true))
    (show WShape.has [] (.bool true) .bool=true by first | rfl | decide | simp [WShape.has,WShape.arms,WShape.armsAll])
    (show (WTm.eq .res (.lit (.bool true))).value [] { args:=args,res:=some (.bool true),after:=args }=some (.bool (true == true)) from w_eq_bool (w_res rfl) w_lit) rfl
theorem attach_call {l:OpenLaw} {n:Nat} {q:Program} {loose:List Str} {XP:(Str→Option Value)→Heap→Prop} {YP:World→Heap→Prop} {d:DefRec}
    (hn:l.most=some n) (hdf:d.params.defaults=[])
    (call:∀ (w:World) (s₀ s₁:Shared) (mg mb:Str→Option Value) (fa:Addr) (o:Obj) (pm cd doc:Value) (a:Addr) (vs:List Value) (ns:List Int),
      Ground q loose [] XP w s₀ mg mb s₁.heap→YP w s₁.heap →
      s₁.heap.get? fa=some o→o.data=.func (docDef d.name d.params d.body d.scope pm cd doc)→s₁.heap.CodeRec cd d.name→mg d.name=some (.ref fa) →
      s₁.heap.get? a=some { cls:=.type "list",data:=.seq vs.toArray }→IntsAre vs ns→ns.length≤n→s₁.gens=#[] →
      codeAny (model l.prog w) callerA (.call (.ref fa) ⟨[.ref a],[]⟩) (fun r s'=>r=.ok (.ret (.bool true))∧OldK s₁.heap s'.heap∧s'.os=s₁.os∧AllBare s'.gens) s₁) :
    WalkO q loose XP YP l.row.toRowW d [] (fun f vs=>PySem.call f vs):=by
  intro w s₀ s₁ mg mb G Y fa o pm cd doc dV kV ho hd hcd hD hmg hg args vals as hpre hlay hrd hwl hlo
  obtain rfl:dV=.none:=Dflts.none hD hdf
  obtain rfl:kV=.none:=Dflts.noKw hD
  obtain ⟨a,vs,ns,rfl,rfl,hobj,hints,hlen⟩:=script_of hn hpre hwl
  refine enter_call (codeAny_mono (call w s₀ s₁ mg mb fa o pm cd doc a vs ns G Y ho (fd_plain hd) hcd hmg hobj hints hlen hg) fun r s' hq=>?_)
  obtain ⟨rfl,h2,h3,h4⟩:=hq
  exact ⟨.inl ⟨.bool true,.bool true,[],rfl,fun _=>rfl,.bool true,post_true l _,fun _=>⟨List.Pairwise.nil,fun _ hm=>(nomatch hm)⟩⟩,h2,h3,h4⟩
section
variable {prog:Program} {w:World} {A:Around} {E:Value→Shared→Prop} {s:Shared} {K:Frag}
def ledger (h:Heap) (L d:Addr):List (Addr × Obj):=(List.range h.objs.size).filterMap fun a=>if a=L∨a=d then none else (h.get? a).map fun o=>(a,o)
end
end Att
namespace L2
open PySem PySem.Spec PyProof.Rows
theorem vals_ints:∀ {vs:List Value} {ns:List Int},IntsAre vs ns→Vals (ns.map V.int) vs
  | _,_,.nil=>.nil
  | _,_,.cons n t h=>.cons ⟨t,rfl⟩ (vals_ints h)
def Only (H:Hp):Prop:=∀ b,H b=none∨∃ o xs,H b=some (.frz o (.lst xs))
theorem law_call {P:Program} {w:World} {K:PySem.W.Frag} {mg mb:Str→Option Value} {CX:CXT} {k:Nat} {fa a:Addr} {fd:FuncData} {x:Str} {sp:Sp} {s₁:Shared} {vs:List Value} {ns:List Int}
    (KX:K.In s₁.heap) (hns:s₁.heap.Ns mainGlobals mg) (hb:s₁.heap.Ns builtinsNs mb) (hbb:∀ x:Str,x≠"__name__"→mb x=bootBuiltins x) (hlim:s₁.heap.NoLimit) (hg:s₁.gens=#[])
    (ha:s₁.heap.get? a=some { cls:=.type "list",data:=.seq vs.toArray }) (hi:IntsAre vs ns) (hl:ns.length≤sizeLine) (hr:Room k callerA)
    (F:∀ base:Heap,K.In base→base.Ns mainGlobals mg→FnOk P w K mg base CX k fa fd [x] sp) (hbind:∀ (s:Shared) (u:Value),BindsTo s fd ⟨[u],[]⟩ [(x,u)])
    (hsp:∀ H:Hp,Only H→SqL K H a (ns.map V.int)→sp [.ref a] H (fun v _=>v=.bl true) fun _ _ _=>False)
    (hCX:∀ H e s',CX [] H s₁ (fun _ _ _=>False) e s'→False) :
    codeAny (model P w) callerA (.call (.ref fa) ⟨[.ref a],[]⟩) (fun r s'=>r=.ok (.ret (.bool true))∧OldK s₁.heap s'.heap∧s'.os=s₁.os∧AllBare s'.gens) s₁:=by
  have rv:=vals_ints hi
  have lenV:=hi.length
  -- from an abstract heap in which nothing but the script may be tracked
  have core:∀ H:Hp,Only H→SqL K H a (ns.map V.int)→HOk P w H s₁.heap→(∀ b,H b≠none→b=a)→(H a≠none→K.lookup a=none) →
      codeAny (model P w) callerA (.call (.ref fa) ⟨[.ref a],[]⟩) (fun r s'=>r=.ok (.ret (.bool true))∧OldK s₁.heap s'.heap∧s'.os=s₁.os∧AllBare s'.gens) s₁:=by
    intro H hO hS hok hA hK
    have base_of:∀ {b:Addr} {o:Obj},s₁.heap.get? b=some o→H b=none→(hidT s₁.heap H).get? b=some o:=fun e n=>hidT_get e n
    have noA:∀ {b:Addr} {o:Obj} {es:Array DictEntry} {ep:Nat},s₁.heap.get? b=some o→o.data=.dict es ep→H b=none:=fun {b o es ep} e d=>by
      cases q:H b with
      | none=>rfl
      | some u =>
        have e':b=a:=hA b (by rw [q];simp)
        subst e'
        rw [ha] at e;cases e
        have d':Data.seq vs.toArray _=Data.dict es ep:=d
        cases d'
    have nsK:∀ {b:Addr} {m:Str→Option Value},s₁.heap.Ns b m→(hidT s₁.heap H).Ns b m:=fun {b m} ⟨o,es,ep,e,d,r⟩=>⟨o,es,ep,base_of e (noA e d),d,r⟩
    have hKb:K.In (hidT s₁.heap H):=fun b o e=>base_of (KX b o e) (by
      cases q:H b with
      | none=>rfl
      | some u =>
        have e':b=a:=hA b (by rw [q];simp)
        subst e'
        rw [hK (by rw [q];simp)] at e;cases e)
    have hM:Mod K mg (hidT s₁.heap H):=⟨hKb,nsK hns,⟨mb,nsK hb,hbb⟩,let ⟨mc,h1,h2⟩:=hlim;⟨mc,nsK h1,h2⟩⟩
    have e0:Env0 P w K mg (hidT s₁.heap H) callerA [] s₁ H:=⟨rfl,hM,fun b o e=>of_hidT e,Nat.le_of_eq (hidT_size _ _),trivial,fun b hb=>absurd (show b∈([]:List Addr) from hb) (by simp),hok,.of_eq hg⟩
    refine codeAny_mono ((F _ hKb (nsK hns)).run callerA [] s₁ H ⟨[.ref a],[]⟩ [.ref a] [.ref a] _ _ hr e0 (hbind s₁ (.ref a)) (.cons rfl .nil) (hsp H hO hS)) fun r s' h=>?_
    cases r with
    | error e=>exact (hCX H e s' h).elim
    | ok fl =>
      cases fl with
      | next=>exact False.elim h
      | brk=>exact False.elim h
      | cont=>exact False.elim h
      | ret u =>
        obtain ⟨v,H',os,bare,un,hok',r',q⟩:=h
        have q':v=.bl true:=q
        subst q'
        obtain rfl:u=Value.bool true:=r'
        refine ⟨rfl,OldK.of_keep fun b o e=>?_,os,bare⟩
        cases q:H b with
        | none=>exact un.keep b o e q (by intro z;exact absurd (show b∈([]:List Addr) from z) (by simp)) (by simp)
        | some u =>
          rcases hO b with z | ⟨ob,xs,z⟩
          · rw [q] at z;cases z
          · have z2:=un.frzs b ob _ z
            obtain ⟨e1,_⟩:=hok b _ z
            obtain ⟨e2,_⟩:=hok' b _ z2
            rw [e] at e1;cases e1
            exact e2
  cases hk:K.lookup a with
  | some o =>
    -- the script is one of the module's own objects
    have e:=KX a o hk
    rw [ha] at e
    cases e
    refine core (fun _=>none) (fun _=>.inl rfl) (.inr ⟨_,vs.toArray,_,hk,rfl,rfl,rfl,by rw [List.size_toArray,lenV];exact hl,by simpa using rv⟩) (fun b u z=>by have z':(none:Option HO)=some u:=z;cases z') (fun b z=>absurd rfl z) fun z=>absurd rfl z
  | none =>
    refine core (fun b=>if b=a then some (.frz { cls:=.type "list",data:=.seq vs.toArray } (.lst (ns.map V.int))) else none) (fun b=>?_) (.inl (.inr ⟨{ cls:=.type "list",data:=.seq vs.toArray },if_pos rfl⟩)) (fun b u z=>?_) (fun b z=>?_) fun _=>hk
    · by_cases hb:b=a
      · exact .inr ⟨_,_,if_pos hb⟩
      · exact .inl (if_neg hb)
    · by_cases hb:b=a
      · have z':=(if_pos hb).symm.trans z
        cases z'
        subst hb
        exact ⟨ha,by rw [List.length_map];exact hl,vs,_,rv,ha⟩
      · have z':=(if_neg hb).symm.trans z
        cases z'
    · by_cases hb:b=a
      · exact hb
      · exact absurd (if_neg hb) z
end L2
namespace L2
open PySem PySem.Spec PyProof.Rows
abbrev KOf {K:PySem.W.Frag} {h:Heap} (_:K.In h):PySem.W.Frag:=K
theorem walk_of {l:PySem.W.OpenLaw} {n k:Nat} {q:Program} {loose:List Str} {XP:(Str→Option Value)→Heap→Prop} {YP:World→Heap→Prop} {d:DefRec} {K:Params→PySem.W.Frag} {CX:World→CXT} {sp:World→Sp} {x:Str}
    (hn:l.most=some n) (hn2:n≤sizeLine) (hdf:d.params.defaults=[]) (hr:Room k callerA)
    (hY:∀ (w:World) (h:Heap),YP w h→(K w.params).In h)
    (F:∀ (w:World) (mg:Str→Option Value) (fa:Addr) (h:Heap),(K w.params).In h→h.Ns mainGlobals mg→mg d.name=some (.ref fa) →
      ∃ fd:FuncData,(∀ (s:Shared) (u:Value),BindsTo s fd ⟨[u],[]⟩ [(x,u)]) ∧
        ∀ base:Heap,(K w.params).In base→base.Ns mainGlobals mg→FnOk l.prog w (K w.params) mg base (CX w) k fa fd [x] (sp w))
    (hsp:∀ (w:World) (H:Hp) (a:Addr) (ns:List Int),ns.length≤n→Only H→SqL (K w.params) H a (ns.map V.int)→sp w [.ref a] H (fun v _=>v=.bl true) fun _ _ _=>False)
    (hCX:∀ (w:World) (H:Hp) (s:Shared) (e:Value) (s':Shared),CX w [] H s (fun _ _ _=>False) e s'→False) :
    PySem.W.WalkO q loose XP YP l.row.toRowW d [] (fun f vs=>PySem.call f vs):=by
  refine Att.attach_call hn hdf fun w s₀ s₁ mg mb fa o pm cd doc a vs ns G Y ho hd hcd hmg hobj hints hlen hg=>?_
  have KX:=hY w _ Y
  obtain ⟨fd,hb,hF⟩:=F w mg fa _ KX G.T.g hmg
  exact law_call KX G.T.g G.T.b G.T.builtins G.T.nolimit hg hobj hints (Nat.le_trans hlen hn2) hr hF hb (fun H hO hS=>hsp w H a ns hlen hO hS) fun H e s'=>hCX w H s₁ e s'
theorem walk_ofK {l:PySem.W.OpenLaw} {n k:Nat} {q:Program} {loose:List Str} {XP:(Str→Option Value)→Heap→Prop} {YP:World→Heap→Prop} {d:DefRec} {K:Params→PySem.W.Frag} {CX:CXT} {sp:PySem.W.Frag→Sp} {x:Str}
    (hn:l.most=some n) (hn2:n≤sizeLine) (hdf:d.params.defaults=[]) (hr:Room k callerA)
    (hY:∀ (w:World) (h:Heap),YP w h→(K w.params).In h)
    (F:∀ (w:World) (mg:Str→Option Value) (fa:Addr) (h:Heap),(K w.params).In h→h.Ns mainGlobals mg→mg d.name=some (.ref fa) →
      ∃ fd:FuncData,(∀ (s:Shared) (u:Value),BindsTo s fd ⟨[u],[]⟩ [(x,u)]) ∧
        ∀ base:Heap,(K w.params).In base→base.Ns mainGlobals mg→FnOk l.prog w (K w.params) mg base CX k fa fd [x] (sp (K w.params)))
    (hsp:∀ (K:PySem.W.Frag) (H:Hp) (a:Addr) (ns:List Int),ns.length≤n→Only H→SqL K H a (ns.map V.int)→sp K [.ref a] H (fun v _=>v=.bl true) fun _ _ _=>False)
    (hCX:∀ (H:Hp) (s:Shared) (e:Value) (s':Shared),CX [] H s (fun _ _ _=>False) e s'→False) :
    PySem.W.WalkO q loose XP YP l.row.toRowW d [] (fun f vs=>PySem.call f vs) :=
  walk_of (K:=K) (CX:=fun _=>CX) (sp:=fun w=>sp (K w.params)) hn hn2 hdf hr hY F (fun w H a ns h1 h2 h3=>hsp (K w.params) H a ns h1 h2 h3) fun _ H s e s'=>hCX H s e s'
end L2
namespace L2
open PySem PySem.Spec PyProof.Rows
def inClass (s:Stmt) (j:Nat):Stmt:=match s with
  | .ClassDef _ _ _ body _ _ _ _ _ _ _=>body.getD j (.Pass ⟨0,0,0,0⟩)
  | _=>.Pass ⟨0,0,0,0⟩
def defArgs (s:Stmt):Arguments:=match s with
  | .FunctionDef _ a _ _ _ _ _ _ _ _=>a
  | _=>{ posonlyargs:=[],args:=[],vararg:=none,kwonlyargs:=[],kw_defaults:=[],kwarg:=none,defaults:=[] }
def defBody (s:Stmt):List Stmt:=match s with
  | .FunctionDef _ _ b _ _ _ _ _ _ _=>b
  | _=>[]
def defScope (s:Stmt):Scope:=match s with
  | .FunctionDef _ _ _ _ _ _ sc _ _ _=>sc
  | _=>{ kind:=.function,names:=[],isGenerator:=false,isCoroutine:=false }
abbrev E0:XK:=fun _ _ _=>False
structure Fun (K:PySem.W.Frag) (x qual:Str) (st:Stmt) (f:Addr) (fd:FuncData):Prop where
  ex:∃ (oc:Value) (od:Option Addr) (kV doc pm:Value) (an:Option Addr) (cdv ct:Value) (osl:Array (Option Value)),
    fd=PySem.W.fnOf x qual (defArgs st) (defBody st) (defScope st) .none kV doc pm an cdv ct∧K.lookup f=some ⟨oc,od,.func fd,osl⟩∧PySem.W.codeIn K cdv qual=true
  kp:PySem.W.keepIn K (.ref f)=true
section
variable {P:Program} {w:World} {K:PySem.W.Frag} {mg:Str→Option Value} {base:Heap}
theorem Fun.binds {x qual:Str} {st:Stmt} {f:Addr} {fd:FuncData} {ps:List Str} (F:Fun K x qual st f fd)
    (h:∀ (kV doc pm:Value) (an:Option Addr) (cdv ct:Value) (us:List Value),us.length=ps.length→bindArgs (PySem.W.fnOf x qual (defArgs st) (defBody st) (defScope st) .none kV doc pm an cdv ct) ⟨us,[]⟩=pure (ps.zip us)):Binds K fd ps []:=by
  obtain ⟨oc,od,kV,doc,pm,an,cdv,ct,osl,rfl,lk,hcd⟩:=F.ex
  exact .all (h kV doc pm an cdv ct)
theorem fun_mk {x qual:Str} {st:Stmt} {f:Addr} {oc:Value} {od an:Option Addr} {osl:Array (Option Value)} {kV doc pm cdv ct:Value} (l:K.lookup f=some ⟨oc,od,.func (PySem.W.fnOf x qual (defArgs st) (defBody st) (defScope st) .none kV doc pm an cdv ct),osl⟩)
    (c:PySem.W.codeIn K cdv qual=true) (k:PySem.W.keepIn K (.ref f)=true):Fun K x qual st f (PySem.W.fnOf x qual (defArgs st) (defBody st) (defScope st) .none kV doc pm an cdv ct):=⟨⟨oc,od,kV,doc,pm,an,cdv,ct,osl,rfl,l,c⟩,k⟩
end
theorem hu_of {A:Around} {k:Nat} (hr:Room k A):A.units + 1 < cLine:=Nat.lt_of_le_of_lt (Nat.add_le_add_left (by decide:1≤64) _) hr.units
section
variable {X:Cx}
theorem pv (i:Nat) {x:Str} {pos:Pos} (hN:X.N[i]?=some x:=by rfl) (hv:Vis X.env.scope x:=by first | exact Or.inl rfl | exact Or.inr (Or.inl rfl) | exact Or.inr (Or.inr rfl)) (hd:(x == ("__debug__":Str))=false:=by decide)
    (hcd:(x == ("__classdict__":Str))=false:=by decide):PE X (.Name x pos) (tVar i):=pe_var hN hv hd hcd
end
theorem ite2 {c A B:Prop} [Decidable c] (h1:c→A) (h2:¬ c→B):if c then A else B:=by
  by_cases h:c
  · rw [if_pos h]
    exact h1 h
  · rw [if_neg h]
    exact h2 h
def Same (H H':Hp):Prop:=∀ b o,H b=some o→H' b=some o
theorem Same.refl (H:Hp):Same H H:=fun _ _ h=>h
theorem Same.trans {H H1 H2:Hp} (a:Same H H1) (b:Same H1 H2):Same H H2:=fun c o h=>b c o (a c o h)
end L2
namespace L2
open PySem PySem.Spec PyProof.Rows
section
variable {X:Cx}
end
section
variable {κ:Type} [DecidableEq κ]
theorem valV_not {kvs:List (κ × V)} {k:κ} (h:valV kvs k=none):¬ k∈kvs.map (·.1):=by
  intro m
  obtain ⟨p,hp,e⟩:=List.mem_map.mp m
  have q:(kvs.any fun kv=>decide (kv.1=k))=true:=List.any_eq_true.mpr ⟨p,hp,decide_eq_true e⟩
  rw [valV_any,h] at q
  exact absurd q (by simp)
theorem valV_in {kvs:List (κ × V)} {k:κ} {v:V} (h:valV kvs k=some v):k∈kvs.map (·.1):=by
  have q:(kvs.any fun kv=>decide (kv.1=k))=true:=by
    rw [valV_any,h]
    all_goals rfl
  obtain ⟨p,hp,e⟩:=List.any_eq_true.mp q
  exact List.mem_map.mpr ⟨p,hp,of_decide_eq_true e⟩
theorem nd_snoc:∀ {l:List κ} {k:κ},l.Nodup→¬ k∈l→(l ++ [k]).Nodup
  | [],k,_,_=>by simp
  | a :: r,k,h,hk=>by
    obtain ⟨h1,h2⟩:=List.nodup_cons.mp h
    show (a :: (r ++ [k])).Nodup
    refine List.nodup_cons.mpr ⟨fun m=>?_,nd_snoc h2 fun m=>hk (List.mem_cons.mpr (Or.inr m))⟩
    rcases List.mem_append.mp m with q | q
    · exact h1 q
    · exact hk (List.mem_cons.mpr (Or.inl (List.mem_singleton.mp q).symm))
theorem nd_putK {kvs:List (κ × V)} {k:κ} (v:V) (hn:(kvs.map (·.1)).Nodup) (h:valV kvs k=none):((putK kvs k v).map (·.1)).Nodup:=by
  rw [putK_new v h,List.map_append]
  exact nd_snoc hn (valV_not h)
theorem dropK_pos {p:κ × V} {r:List (κ × V)} {k:κ} (e:p.1=k):dropK (p :: r) k=dropK r k:=by
  unfold dropK
  rw [List.filter_cons,if_neg (by simp [e])]
theorem dropK_neg {p:κ × V} {r:List (κ × V)} {k:κ} (e:¬ p.1=k):dropK (p :: r) k=p :: dropK r k:=by
  unfold dropK
  rw [List.filter_cons,if_pos (by simp [e])]
theorem dropK_no:∀ {kvs:List (κ × V)} {k:κ},¬ k∈kvs.map (·.1)→dropK kvs k=kvs
  | [],_,_=>rfl
  | p :: r,k,h=>by
    have h':¬ k∈r.map (·.1):=fun m=>by
      obtain ⟨q,hq,e⟩:=List.mem_map.mp m
      exact h (List.mem_map.mpr ⟨q,List.mem_cons.mpr (Or.inr hq),e⟩)
    rw [dropK_neg fun e=>h (List.mem_map.mpr ⟨p,List.mem_cons.mpr (Or.inl rfl),e⟩),dropK_no h']
theorem dropK_mem {kvs:List (κ × V)} {k:κ} {p:κ × V} (h:p∈dropK kvs k):p∈kvs:=(List.mem_filter.mp h).1
end
end L2
set_option Elab.async false
set_option linter.all false
set_option maxRecDepth 100000
set_option maxHeartbeats 4000000
namespace L2
open PySem PySem.Spec PyProof.Rows
def Cx.comp (X:Cx) (scope:Scope) (cl:List (Str × Addr)) (C:Addr) (N:List Str) (fp:List Addr) (s:Shared) (H:Hp):Cx :=
  { X with env:=compEnvC scope cl C X.env,N:=N,s₀:=s,H₀:=H,outer:=X.stack,ex:=fp,fn:=fun _=>false,pn:=[],xe:=fun _ _=>False }
structure CompScope (X:Cx) (scope:Scope) (cl:List (Str × Addr)) (ix:List Nat):Prop where
  clos:closureFor scope X.env=pure cl
  nocell:∀ y∈scope.names,y.2≠.cell
  kind:scope.kind=.function
  names:∀ y∈scope.names,y.2=.local→scope.names.lookup y.1=some .local
  sub:∀ y c,cl.lookup y=some c→X.env.cells.lookup y=some c
  has:∀ y,((relabel scope X.env).names.lookup y=some .cell∨(relabel scope X.env).names.lookup y=some .free)→∃ c,cl.lookup y=some c
  cap:∀ i∈ix,∃ y,X.N[i]?=some y∧(X.env.kindOf y=some .cell∨X.env.kindOf y=some .free)∧((relabel scope X.env).names.lookup y=some .cell∨(relabel scope X.env).names.lookup y=some .free)
def closOf (scope:Scope) (env:Env):List (Str × Addr):=scope.names.foldl (fun cs y=>if y.2 == .free then (y.1,(env.cells.lookup y.1).getD 0) :: cs else cs) []
def compD (osc:Scope) (N:List Str) (sc:Scope) (ix:List Nat):Bool :=
  sc.kind == .function && sc.names.all (fun y=>y.2 != .cell && (y.2 != .local || sc.names.lookup y.1 == some .local) && (y.2 != .free || osc.names.lookup y.1 == some .cell || osc.names.lookup y.1 == some .free)) &&
    ix.all fun i=>match N[i]? with
      | some y=>sc.names.lookup y == some .free
      | none=>false
theorem mem_of_look {l:List (Str × NameKind)} {y:Str} {k:NameKind} (h:l.lookup y=some k):(y,k)∈l:=PySem.mem_of_lookup h
theorem relabel_look {env:Env}:∀ {names:List (Str × NameKind)} {x:Str} {k:NameKind},(names.map fun (n,k)=>if (k == NameKind.free && env.scope.kind == .function && env.kindOf n == some .cell) then (n,NameKind.cell) else (n,k)).lookup x=some k →
    ∃ k',names.lookup x=some k'∧(k'=.free∨k'=k)
  | [],_,_,h=>by simp at h
  | (n,k') :: r,x,k,h=>by
    have ih:=@relabel_look env r x k
    rw [List.map_cons] at h
    cases hx:x == n with
    | true =>
      by_cases hc:(k' == NameKind.free && env.scope.kind == .function && env.kindOf n == some .cell)=true
      · have e:k'=.free:=by
          have:=(Bool.and_eq_true _ _ ▸ (Bool.and_eq_true _ _ ▸ hc).1).1
          simpa using this
        exact ⟨k',by simp [List.lookup_cons,hx],.inl e⟩
      · simp only [if_neg hc,List.lookup_cons,hx] at h
        exact ⟨k',by simp [List.lookup_cons,hx],.inr (Option.some.inj h)⟩
    | false =>
      have h':(r.map fun (n,k)=>if (k == NameKind.free && env.scope.kind == .function && env.kindOf n == some .cell) then (n,NameKind.cell) else (n,k)).lookup x=some k:=by
        by_cases hc:(k' == NameKind.free && env.scope.kind == .function && env.kindOf n == some .cell)=true
        · simp only [if_pos hc,List.lookup_cons,hx] at h;exact h
        · simp only [if_neg hc,List.lookup_cons,hx] at h;exact h
      obtain ⟨q,e,r'⟩:=ih h'
      exact ⟨q,by simp only [List.lookup_cons,hx];exact e,r'⟩
theorem relabel_free {env:Env}:∀ {names:List (Str × NameKind)} {x:Str},names.lookup x=some .free →
    ((names.map fun (n,k)=>if (k == NameKind.free && env.scope.kind == .function && env.kindOf n == some .cell) then (n,NameKind.cell) else (n,k)).lookup x=some .cell ∨
      (names.map fun (n,k)=>if (k == NameKind.free && env.scope.kind == .function && env.kindOf n == some .cell) then (n,NameKind.cell) else (n,k)).lookup x=some .free)
  | [],_,h=>by simp at h
  | (n,k') :: r,x,h=>by
    have ih:=@relabel_free env r x
    rw [List.map_cons]
    cases hx:x == n with
    | true =>
      simp only [List.lookup_cons,hx] at h
      cases h
      by_cases hc:(NameKind.free == NameKind.free && env.scope.kind == .function && env.kindOf n == some .cell)=true
      · left;simp only [if_pos hc,List.lookup_cons,hx]
      · right;simp only [if_neg hc,List.lookup_cons,hx]
    | false =>
      simp only [List.lookup_cons,hx] at h
      by_cases hc:(k' == NameKind.free && env.scope.kind == .function && env.kindOf n == some .cell)=true
      · simp only [if_pos hc,List.lookup_cons,hx];exact ih h
      · simp only [if_neg hc,List.lookup_cons,hx];exact ih h
theorem clos_fold {env:Env}:∀ (l:List (Str × NameKind)) (cs:List (Str × Addr)),(∀ y∈l,y.2=.free→∃ c,env.cells.lookup y.1=some c) →
    (∀ y c,cs.lookup y=some c→env.cells.lookup y=some c)→∀ y c,(l.foldl (fun cs y=>if y.2 == .free then (y.1,(env.cells.lookup y.1).getD 0) :: cs else cs) cs).lookup y=some c→env.cells.lookup y=some c
  | [],_,_,h,y,c,e=>h y c e
  | z :: r,cs,hl,h,y,c,e=>by
    rw [List.foldl_cons] at e
    refine clos_fold r _ (fun y hy=>hl y (List.mem_cons_of_mem _ hy)) (fun y' c' e'=>?_) y c e
    by_cases hz:z.2=.free
    · obtain ⟨c0,h0⟩:=hl z List.mem_cons_self hz
      have hb:(z.2 == NameKind.free)=true:=by simpa using hz
      rw [if_pos hb,h0,List.lookup_cons] at e'
      cases hq:y' == z.1 with
      | true =>
        rw [hq] at e'
        have e2:y'=z.1:=by simpa using hq
        cases e'
        rw [e2];exact h0
      | false=>rw [hq] at e';exact h _ _ e'
    · have hb:(z.2 == NameKind.free)=false:=by simpa using hz
      rw [hb] at e'
      exact h _ _ e'
theorem clos_has {env:Env}:∀ (l:List (Str × NameKind)) (cs:List (Str × Addr)) (y:Str),((∃ c,cs.lookup y=some c)∨(y,NameKind.free)∈l) →
    ∃ c,(l.foldl (fun cs y=>if y.2 == .free then (y.1,(env.cells.lookup y.1).getD 0) :: cs else cs) cs).lookup y=some c
  | [],_,_,h=>h.elim id fun z=>nomatch z
  | z :: r,cs,y,h=>by
    rw [List.foldl_cons]
    refine clos_has r _ y ?_
    rcases h with ⟨c,h⟩ | h
    · left
      by_cases hz:(z.2 == NameKind.free)=true
      · rw [if_pos hz,List.lookup_cons]
        cases y == z.1 with
        | true=>exact ⟨_,rfl⟩
        | false=>exact ⟨c,h⟩
      · rw [if_neg hz];exact ⟨c,h⟩
    · rcases List.mem_cons.mp h with h | h
      · left
        subst h
        rw [if_pos (by rfl),List.lookup_cons]
        simp
      · exact .inr h
theorem clos_eq {env:Env}:∀ (l:List (Str × NameKind)) (cs:List (Str × Addr)),(∀ y∈l,y.2=.free→∃ c,env.cells.lookup y.1=some c) →
    forIn (m:=Sem) l cs (fun x r=>match x with | (name,kind)=>if (kind == NameKind.free)=true then do let c ← cellOf env name;pure (ForInStep.yield ((name,c) :: r)) else pure (ForInStep.yield r)) =
      pure (l.foldl (fun cs y=>if y.2 == .free then (y.1,(env.cells.lookup y.1).getD 0) :: cs else cs) cs)
  | [],_,_=>rfl
  | (n,k) :: r,cs,h=>by
    rw [List.forIn_cons,List.foldl_cons]
    by_cases hz:(k == NameKind.free)=true
    · obtain ⟨c,hc⟩:=h (n,k) List.mem_cons_self (by simpa using hz)
      have e:cellOf env n=pure c:=by unfold cellOf;rw [hc]
      simp only [hz,if_true,e,pure_bind]
      rw [clos_eq r _ fun y hy=>h y (List.mem_cons_of_mem _ hy)]
      simp only [hc,Option.getD_some]
    · simp only [hz,if_false,pure_bind]
      exact clos_eq r _ fun y hy=>h y (List.mem_cons_of_mem _ hy)
theorem compScope_of {X:Cx} {osc scope:Scope} {N:List Str} {ix:List Nat} (ok:X.Ok) (h:compD osc N scope ix=true) (hs:X.env.scope=osc) (hN:X.N=N):CompScope X scope (closOf scope X.env) ix:=by
  subst hs hN
  unfold compD at h
  rw [Bool.and_eq_true,Bool.and_eq_true,List.all_eq_true,List.all_eq_true] at h
  obtain ⟨⟨h1,h2⟩,h3⟩:=h
  have p:∀ y∈scope.names,y.2≠.cell∧(y.2=.local→scope.names.lookup y.1=some .local)∧(y.2=.free→X.env.kindOf y.1=some .cell∨X.env.kindOf y.1=some .free):=fun y hy=>by
    have q:=h2 y hy
    rw [Bool.and_eq_true,Bool.and_eq_true] at q
    obtain ⟨⟨q1,q2⟩,q3⟩:=q
    refine ⟨by simpa using q1,fun e=>?_,fun e=>?_⟩
    · rw [e] at q2;simpa using q2
    · rw [e] at q3
      have q3':X.env.scope.names.lookup y.1=some .cell∨X.env.scope.names.lookup y.1=some .free:=by simpa using q3
      exact q3'
  have f:∀ y∈scope.names,y.2=.free→∃ c,X.env.cells.lookup y.1=some c:=fun y hy e=>ok.has y.1 ((p y hy).2.2 e)
  refine ⟨?_,fun y hy=>(p y hy).1,by simpa using h1,fun y hy=>(p y hy).2.1,fun y c e=>clos_fold scope.names [] f (fun _ _ z=>by simp at z) y c e,fun y hy=>?_,fun i hi=>?_⟩
  · have e:=clos_eq scope.names [] f
    unfold closureFor closOf
    refine Eq.trans (congrArg (fun m=>m >>= fun s=>(pure s:Sem (List (Str × Addr)))) e) ?_
    rw [pure_bind]
  · refine clos_has scope.names [] y (.inr ?_)
    rcases hy with hy | hy
    · obtain ⟨k',e,z | z⟩:=relabel_look hy
      · subst z;exact mem_of_look e
      · subst z;exact absurd rfl (p _ (mem_of_look e)).1
    · obtain ⟨k',e,z | z⟩:=relabel_look hy
      · subst z;exact mem_of_look e
      · subst z;exact mem_of_look e
  · have q:=h3 i hi
    cases hy:X.N[i]? with
    | none=>rw [hy] at q;cases q
    | some y =>
      rw [hy] at q
      have q':scope.names.lookup y=some .free:=by simpa using q
      exact ⟨y,rfl,(p _ (mem_of_look q')).2.2 rfl,relabel_free q'⟩
def capV (ix:List Nat) (σ:St):St:=ix.map fun i=>(σ[i]?).getD none
def capN (ix:List Nat) (N:List Str):List Str:=ix.map fun i=>(N[i]?).getD ""
section
variable {X:Cx} {pins:List (Addr × Obj)} {σ:St} {H:Hp} {s:Shared} {scope:Scope} {cl:List (Str × Addr)} {ix:List Nat} {fp:List Addr} {C:Addr} {xs:List Str}
theorem Inv.compOk (I:Inv X pins σ H s) (S:CompScope X scope cl ix) (hC:C=s.heap.objs.size) (hf:∀ b∈fp,FpOk X pins H b) (hl:∀ b∈fp,b < s.heap.objs.size) (N':List Str) :
    (X.comp scope cl C N' fp s H).Ok where
  mod:=I.ok.mod
  kind:=S.kind
  glob:=I.ok.glob
  blt:=I.ok.blt
  above:=Nat.le_of_eq hC.symm
  inj:=fun x y c h1 h2=>I.ok.inj x y c (S.sub x c h1) (S.sub y c h2)
  has:=fun x hx=>S.has x hx
  cab:=fun x c h1 _=>nomatch h1
  hd:=I.ok.hd
  frames:=I.ok.frames
  stk:=.inl rfl
  exf:=fun b hb=>⟨fun z=>absurd (hl b hb) (by rw [z];show ¬ C < _;rw [hC];exact Nat.lt_irrefl _),fun x c h=>(hf b hb).2.2.2.2.1 x c (S.sub x c h)⟩
  bs:=I.bs
  bsz:=Nat.le_trans I.ok.bsz I.sz
  noex:=fun b o e hb=>by
    rcases (hf b hb).2.2.2.1 with z | z
    · exact I.ok.noex b o e z
    · exact absurd (Nat.lt_of_lt_of_le (Heap.lt_size e) (Nat.le_trans I.ok.bsz z)) (Nat.lt_irrefl _)
  exfs:=fun b hb z=>by
    rcases List.mem_cons.mp (I.stkSub b z) with e | e
    · exact (hf b hb).2.1 e
    · exact (hf b hb).2.2.1 e
  funs:=I.stack
  frf:=I.stkFree
theorem Inv.comp {h₁:Heap} {m₁:Str→Option Value} {t':Nat} (I:Inv X pins σ H s) (S:CompScope X scope cl ix) (hC:C=s.heap.objs.size) (hf:∀ b∈fp,FpOk X pins H b) (hl:∀ b∈fp,b < s.heap.objs.size)
    (hn:h₁.Ns C m₁) (hk:∀ b o,s.heap.get? b=some o→h₁.get? b=some o) :
    Inv (X.comp scope cl C (xs ++ capN ix X.N) fp s H) [] (List.replicate xs.length none ++ capV ix σ) H { s with heap:=h₁,toks:=t' } where
  ok:=I.compOk S hC hf hl _
  os:=rfl
  bare:=I.bare
  base:=Un.kept hk
  loc:=by
    refine ⟨m₁,hn,fun i y v e1 e2 e3=>?_⟩
    by_cases hi:i < xs.length
    · rw [List.getElem?_append_left (by simpa using hi),List.getElem?_replicate,if_pos hi] at e2
      cases e2
    · have e1':(xs ++ capN ix X.N)[i]?=some y:=e1
      rw [List.getElem?_append_right (by omega)] at e1'
      rw [List.getElem?_append_right (by rw [List.length_replicate];omega),List.length_replicate] at e2
      generalize i - xs.length=j at e1' e2
      unfold capN at e1'
      unfold capV at e2
      rw [List.getElem?_map] at e1' e2
      cases hj:ix[j]? with
      | none=>rw [hj] at e1';cases e1'
      | some k =>
        rw [hj] at e1' e2
        obtain ⟨y',c1,c2,c3⟩:=S.cap k (List.mem_of_getElem? hj)
        have ey:y'=y:=by
          have q:(X.N[k]?).getD ""=y:=Option.some.inj e1'
          rw [c1] at q
          exact q
        subst ey
        have ev:σ[k]?=some (some v):=by
          have q:(σ[k]?).getD none=some v:=Option.some.inj e2
          cases hs:σ[k]? with
          | none=>rw [hs] at q;cases q
          | some o=>rw [hs] at q;exact congrArg some q
        obtain ⟨m,hm,hv⟩:=I.loc
        obtain ⟨u,r,l⟩:=hv k y' v c1 ev (c2.elim (fun z=>.inr (.inl z)) fun z=>.inr (.inr z))
        refine ⟨u,r,.inr ⟨c3,?_⟩⟩
        rcases l with ⟨l1,_⟩ | ⟨_,c,lc,⟨o,ho,hd⟩⟩
        · rcases c2 with z | z <;> (rw [l1] at z;cases z)
        · obtain ⟨c',hc'⟩:=S.has y' c3
          have e:=S.sub _ _ hc'
          rw [lc] at e
          cases e
          exact ⟨c,hc',o,hk _ _ ho,hd⟩
  cell:=fun x c e=>by
    obtain ⟨v,o,ho,hd⟩:=I.cell x c (S.sub x c e)
    exact ⟨v,o,hk _ _ ho,hd⟩
  free:=I.hok.fresh (Nat.le_of_eq hC.symm)
  freeC:=fun x c e=>I.freeC x c (S.sub x c e)
  pin:=fun p hp=>absurd (show p∈([]:List (Addr × Obj)) from hp) (by simp)
  hok:=I.hok.kept hk
  len:=by
    show (List.replicate xs.length none ++ capV ix σ).length=(xs ++ capN ix X.N).length
    rw [List.length_append,List.length_append,List.length_replicate,capV,capN,List.length_map,List.length_map]
theorem Inv.uncomp {s':Shared} {σ':St} {H':Hp} {N':List Str} {h':Heap} (I:Inv X pins σ H s) (hC:C=s.heap.objs.size) (hf:∀ b∈fp,FpOk X pins H b)
    (J:Inv (X.comp scope cl C N' fp s H) [] σ' H' s') (hb:Heap.SameBut C s'.heap h'):Inv X pins σ H' { s' with heap:=h' }:=by
  have lt:∀ b o,s.heap.get? b=some o→b≠C:=fun b o e=>by
    rw [hC];exact Nat.ne_of_lt (Heap.lt_size e)
  have B:Un (frs X.stack) fp H H' s.heap s'.heap:=J.base
  refine I.call' (s':={ s' with heap:=h' }) (ch:=fp) J.os ?_ ?_ J.bare ?_
  · exact ⟨fun b o e n h1 h2=>(hb.2 b (lt b o e)).trans (B.keep b o e n h1 h2),fun b o e n h1 h2=>by
      obtain ⟨sl,q⟩:=B.slot b o e n h1 h2
      exact ⟨sl,(hb.2 b (lt b o e)).trans q⟩,B.free,fun b o e h1=>by
      obtain ⟨o',q⟩:=B.there b o e h1
      exact ⟨o',(hb.2 b (lt b o e)).trans q⟩,B.tups,B.frzs,B.tbls⟩
  · intro b o e
    refine (J.hok b o e).stay (fun c u hc q=>(hb.2 c ?_).trans q) (fun _ q=>q) fun _ _ q=>q
    have hC0:H' C=none:=J.free
    rintro rfl
    rcases hc with rfl | hc
    · rw [hC0] at e;cases e
    · rw [hC0] at hc;cases hc
  · intro b hb'
    obtain ⟨f0,f1,f2,f3,f4,f5⟩:=hf b hb'
    exact ⟨f3,f1,f4,f5⟩
end
def PTs (X:Cx) (ifs:List Expr) (t:TT):Prop :=
  ∀ (pins:List (Addr × Obj)) (s:Shared) (σ:St) (H:Hp) (Q:Bool→Hp→Prop),Inv X pins σ H s→t σ H Q →
    wpAny (model X.prog X.w) X.A (forIn ifs true fun c r=>if r=true then do let ok ← isTrue c X.env (eval c X.env);pure (ForInStep.yield ok) else pure (ForInStep.yield r)) (TP X pins σ Q) X.xe s
def tYes:TT:=fun _ H Q=>Q true H
theorem pts_nil {X:Cx}:PTs X [] tYes:=fun _ _ _ H _ I h=>wpAny_tests_nil ⟨H,I,h⟩
theorem pts_one {X:Cx} {c:Expr} {t:TT} (h:PT X c t):PTs X [c] t:=fun pins s σ H Q I q=>wpAny_tests_one (h pins s σ H Q I q)
section
variable {prog:Program} {w:World} {A:Around} {R:Result→Shared→Prop} {s:Shared}
theorem compLoop_any {elt target iter:Expr} {ifs:List Expr} {scope:Scope} {pos:Pos} {it acc:Value} {env:Env} (W:Nat→Shared→Prop) {EE:Value→Shared→Prop}
    (hE:∀ e s',EE e s'→notedBy (model prog w) A env (fun e s'=>R (.error e) s') e s')
    (turn:∀ n s,W n s→wpAny (model prog w) A (pyNext it) (fun r s₁=>match r with
      | none=>R (.ok .next) s₁
      | some v=>wpAny (model prog w) A (letOwnedTupleGo target it v) (fun _ t₁=>wpAny (model prog w) A (assign target env v) (fun _ s₂ =>
          wpAny (model prog w) A (forIn ifs true fun c r=>if r=true then do let ok ← isTrue c env (eval c env);pure (ForInStep.yield ok) else pure (ForInStep.yield r)) (fun ok s₃ =>
            if ok=true then wpAny (model prog w) A (eval elt env) (fun x s₄=>wpAny (model prog w) A (call (.builtin "list.append") [acc,x]) (fun _ s₅=>∃ m,m < n∧W m s₅) EE s₄) EE s₃
            else ∃ m,m < n∧W m s₃) EE s₂) EE t₁) EE s₁) EE s)
    (n:Nat) (h:W n s):codeAny (model prog w) A (.compLoop (.ListComp elt [⟨target,iter,ifs,0⟩] scope pos) 0 it acc env) R s:=by
  refine codeAny_loop rfl W (fun n s hW=>?_) n h
  show wpAny _ A ((compTurn (.ListComp elt [⟨target,iter,ifs,0⟩] scope pos) 0 it acc env).onRaise (fun x=>do noteFrame x env;theTreesLotGoes x)) _ _ s
  refine wpAny_noted (wpAny_mono ?_ (fun _ _ q=>q) hE)
  rw [compTurn_list]
  refine wpAny_bind (wpAny_standAt (wpAny_bind (thn (turn n s hW) fun r s₁ h₁=>?_)))
  cases r with
  | none=>exact wpAny_pure h₁
  | some v =>
    refine wpAny_bind (thn h₁ fun _ t₁ k₁=>?_)
    refine wpAny_bind (thn k₁ fun _ s₂ h₂=>wpAny_bind (thn h₂ fun ok s₃ h₃=>?_))
    cases ok with
    | false=>exact wpAny_pure ⟨rfl,h₃⟩
    | true=>exact wpAny_bind (wpAny_bind (thn h₃ fun x s₄ h₄=>wpAny_bind (thn h₄ fun _ s₅ h₅=>wpAny_pure (wpAny_pure ⟨rfl,h₅⟩))))
end
def tComp (wi:TI) (g:TG) (tt:TT) (te:TE) (k:Nat) (ix:List Nat):TE:=fun σ H Q=>wi σ H fun J H1=>∀ D,H1 D=none →
  ∃ W:Nat→Nat→List V→St→Hp→Prop,(∃ m,W 0 m [] (List.replicate k none ++ capV ix σ) (upd H1 D (.lst [])))∧∀ i m ys τ H,W i m ys τ H→H D=some (.lst ys) ∧
    ((J.stop i H∧Q (.ref D) H)∨(J.go i H∧ys.length < sizeLine∧∃ N:V→St→Hp→Prop,
      (∀ v τ' H',N v τ' H'→H' D=some (.lst ys)∧∃ m',m' < m∧W (i + 1) m' (ys ++ [v]) τ' (upd H' D (.lst (ys ++ [v]))))∧∃ Nf:St→Hp→Prop,(∀ τ' H',Nf τ' H'→∃ m',m' < m∧W (i + 1) m' ys τ' H') ∧
      ∀ x H',J.yld i H x H'→g x τ H' fun τ2 H2=>tt τ2 H2 fun b H3=>if b=true then te τ2 H3 fun v H4=>N v τ2 H4 else Nf τ2 H3))
section
variable {X:Cx} {elt iter tg:Expr} {ifs:List Expr} {scope:Scope} {pos:Pos} {cl:List (Str × Addr)} {ix:List Nat} {xs:List Str} {wi:TI} {g:TG} {tt:TT} {te:TE}
theorem comp_block (S:CompScope X scope cl ix) (hc:X.calm=true) (hi:PI X tg iter wi)
    (hg:∀ C fp s H,PG (X.comp scope cl C (xs ++ capN ix X.N) fp s H) tg g) (ht:∀ C fp s H,PTs (X.comp scope cl C (xs ++ capN ix X.N) fp s H) ifs tt)
    (he:∀ C fp s H,PE (X.comp scope cl C (xs ++ capN ix X.N) fp s H) elt te)
    {pins:List (Addr × Obj)} {s:Shared} {σ:St} {H:Hp} {Q:VK} (I:Inv X pins σ H s) (h:tComp wi g tt te xs.length ix σ H Q) {RR:Value→Addr→Result→Shared→Prop}
    (hR:∀ v u s' C,RelV v u→(∃ H',Q v H'∧(∃ m,s'.heap.Ns C m)∧(∀ h',Heap.SameBut C s'.heap h'→Inv X pins σ H' { s' with heap:=h' })∧FpOk X pins H' C)→RR u C (.ok .next) s') :
    wpAny (model X.prog X.w) X.A (eval iter X.env) (fun x s₁=>wpAny (model X.prog X.w) X.A (pyIter x) (fun it s₂=>wpAny (model X.prog X.w) X.A (newList []) (fun acc s₃ =>
      wpAny (model X.prog X.w) X.A (newFunctionEnv scope X.env.globals cl [] X.env.qual none .none (some X.env)) (fun cenv s₄ =>
        codeAny (model X.prog X.w) X.A (.compStart (.ListComp elt [⟨tg,iter,ifs,0⟩] scope pos) 0 it acc { cenv with scope:=relabel scope X.env }) (RR acc cenv.locals) s₄) X.xe s₃) X.xe s₂) X.xe s₁) X.xe s:=by
  refine thn (hi pins s σ H _ I h) fun v s1 h1=>thn h1 fun itv s2 h2=>?_
  obtain ⟨it,fp,tn,J,H2,e,I2,T,st2,f2,hW⟩:=h2
  subst e
  refine wpAny_newObj_type (wpAny_newFunctionEnv S.nocell (fun y hy=>nomatch hy) (fun h₁ hns₁ hsb₁=>?_) S.kind)
  dsimp only at hns₁ hsb₁ ⊢
  obtain ⟨W,⟨m0,w0⟩,turn⟩:=hW s2.heap.objs.size I2.fresh
  have I3:=I2.lnew (t':=s2.toks) (ys:=[]) (its:=[]) .nil (Nat.zero_le _)
  have hl3:∀ b∈fp,b < s2.heap.objs.size:=fun b hb=>by
    obtain ⟨o,e,_⟩:=T.obj _ _ st2 b hb
    exact Heap.lt_size e
  generalize hs3:({ s2 with heap:=s2.heap.push { cls:=.type "list",data:=.seq ([]:List Value).toArray },toks:=s2.toks }:Shared)=s3 at I3
  have hs3h:s3.heap=s2.heap.push { cls:=.type "list",data:=.seq ([]:List Value).toArray }:=by rw [← hs3]
  have hsz:s3.heap.objs.size=s2.heap.objs.size + 1:=by rw [hs3h,Heap.size_push]
  have f3:∀ b∈fp,FpOk X pins (upd H2 s2.heap.objs.size (.lst [])) b:=fun b hb=>by
    obtain ⟨q0,q⟩:=f2 b hb
    exact ⟨by rw [upd_ne (Nat.ne_of_lt (hl3 b hb))];exact q0,q⟩
  have hl3':∀ b∈fp,b < s3.heap.objs.size:=fun b hb=>by rw [hsz];exact Nat.lt_succ_of_lt (hl3 b hb)
  rw [← hs3h] at hns₁ hsb₁ ⊢
  have hk:∀ b o,s3.heap.get? b=some o→h₁.get? b=some o:=fun b o e=>(hsb₁.2 b (Nat.ne_of_lt (Heap.lt_size e))).trans (Heap.get?_push_of_some _ e)
  have hk2:∀ b o,s2.heap.get? b=some o→s3.heap.get? b=some o:=fun b o e=>by rw [hs3h];exact Heap.get?_push_of_some _ e
  have J0:=I3.comp (xs:=xs) (t':=s2.toks) (C:=s3.heap.objs.size) S rfl f3 hl3' hns₁ hk
  have st3:tn 0 h₁:=T.keep _ _ _ st2 fun b _ o e=>hk b o (hk2 b o e)
  have loop:∀ tk,codeAny (model X.prog X.w) X.A (.compLoop (.ListComp elt [⟨tg,iter,ifs,0⟩] scope pos) 0 (.ref it) (.ref s2.heap.objs.size) (compEnvC scope cl s3.heap.objs.size X.env))
      (RR (.ref s2.heap.objs.size) s3.heap.objs.size) { s3 with heap:=h₁,toks:=tk }:=by
    intro tk
    refine compLoop_any (EE:=fun _ _=>False) (fun n s'=>∃ i ys τ H',Inv (X.comp scope cl s3.heap.objs.size (xs ++ capN ix X.N) fp s3 (upd H2 s2.heap.objs.size (.lst []))) [] τ H' s'∧tn i s'.heap∧(∀ b∈fp,H' b=none)∧W i n ys τ H')
      (fun _ _ z=>z.elim) ?_ m0 ⟨0,[],_,_,J0.tok tk,st3,fun b hb=>(f3 b hb).1,w0⟩
    rintro n s' ⟨i,ys,τ,H',I',st',fr',w'⟩
    have stat:∀ {H':Hp},(∀ b∈fp,H' b=none)→∀ b∈fp,FpOk (X.comp scope cl s3.heap.objs.size (xs ++ capN ix X.N) fp s3 (upd H2 s2.heap.objs.size (.lst []))) [] H' b:=fun hn b hb =>
      ⟨hn b hb,(I'.ok.exf b hb).1,I'.ok.exfs b hb,.inl hb,(I'.ok.exf b hb).2,fun p hp=>absurd (show p∈([]:List (Addr × Obj)) from hp) (by simp)⟩
    obtain ⟨hD,⟨stop,q⟩ | ⟨go,hz,N,hN,Nf,hNf,step⟩⟩:=turn i n ys τ H' w'
    · refine thn (T.done (X.comp scope cl s3.heap.objs.size (xs ++ capN ix X.N) fp s3 (upd H2 s2.heap.objs.size (.lst []))) rfl rfl rfl hc i [] s' τ H' _ I' (stat fr') st' stop) fun r s4 ⟨hr,I4⟩=>?_
      subst hr
      refine hR (.ref s2.heap.objs.size) _ s4 _ rfl ⟨H',q,?_,fun h' hb=>I3.uncomp rfl f3 I4 hb,I3.fpOk (Nat.le_refl _) I4.free⟩
      obtain ⟨m,hn,_⟩:=I4.loc
      exact ⟨m,hn⟩
    · refine thn (T.item (X.comp scope cl s3.heap.objs.size (xs ++ capN ix X.N) fp s3 (upd H2 s2.heap.objs.size (.lst []))) rfl rfl rfl hc i [] s' τ H' _ I' (stat fr') st' go) fun r s4 ⟨u,hr,h4⟩=>?_
      subst hr
      refine thn h4 fun _ s5 ⟨x,H5,I5,r5,y5,st5,fr5⟩=>?_
      have I5':=I5.pinned (stat fr5) (T.obj _ _ st5)
      refine thn (hg _ _ _ _ _ s5 τ H5 x u _ I5' r5 (step x H5 y5)) fun _ s6 ⟨τ6,H6,I6,q6⟩=>?_
      refine thn (ht _ _ _ _ _ s6 τ6 H6 _ I6 q6) fun ok s7 ⟨H7,I7,q7⟩=>?_
      have back:∀ {s8:Shared} {H8:Hp} {m:Nat} {zs:List V},Inv (X.comp scope cl s3.heap.objs.size (xs ++ capN ix X.N) fp s3 (upd H2 s2.heap.objs.size (.lst []))) ([] ++ pinsAt fp s5.heap) τ6 H8 s8→W (i + 1) m zs τ6 H8 →
          ∃ i ys τ H',Inv (X.comp scope cl s3.heap.objs.size (xs ++ capN ix X.N) fp s3 (upd H2 s2.heap.objs.size (.lst []))) [] τ H' s8∧tn i s8.heap∧(∀ b∈fp,H' b=none)∧W i m ys τ H':=fun {s8 H8 m zs} I8 w8=>by
        refine ⟨i + 1,zs,τ6,H8,I8.unpinned,T.keep _ _ _ st5 fun b hb o e=>(I8.pin (b,o) (List.mem_append_right _ (List.mem_append_right _ (mem_pinsAt hb e)))).1,fun b hb=>?_,w8⟩
        obtain ⟨o,e,d⟩:=T.obj _ _ st5 b hb
        exact (I8.pin (b,o) (List.mem_append_right _ (List.mem_append_right _ (mem_pinsAt hb e)))).2.1
      cases ok with
      | false =>
        rw [if_neg Bool.false_ne_true] at q7 ⊢
        obtain ⟨m',hm,w7⟩:=hNf _ _ q7
        exact ⟨m',hm,back I7 w7⟩
      | true =>
        rw [if_pos rfl] at q7 ⊢
        refine thn (he _ _ _ _ _ s7 τ6 H7 _ I7 q7) fun y s8 ⟨v8,H8,I8,r8,n8⟩=>?_
        obtain ⟨hD8,m',hm,w8⟩:=hN _ _ _ n8
        refine thn (mt_append _ s8 τ6 H8 (.ref s2.heap.objs.size) [v8] (.ref s2.heap.objs.size) [y] (fun _ Hn=>∃ m,m < n∧W (i + 1) m (ys ++ [v8]) τ6 Hn) I8 rfl (.cons r8 .nil) ⟨_,ys,v8,rfl,rfl,hD8,hz,m',hm,w8⟩) fun _ s9 ⟨_,H9,I9,_,m9,hm9,w9⟩=>?_
        exact ⟨m9,hm9,back I9 w9⟩
  have e3:∀ tk,({ s3 with heap:=h₁,toks:=tk }:Shared)={ s2 with heap:=h₁,toks:=tk }:=fun tk=>by rw [← hs3]
  have loop':∀ tk,codeAny (model X.prog X.w) X.A (.compLoop (.ListComp elt [⟨tg,iter,ifs,0⟩] scope pos) 0 (.ref it) (.ref s2.heap.objs.size) (compEnvC scope cl s3.heap.objs.size X.env))
      (RR (.ref s2.heap.objs.size) s3.heap.objs.size) { s2 with heap:=h₁,toks:=tk }:=fun tk=>by rw [← e3];exact loop tk
  exact codeAny_compStart_list (loop' _) (T.self _ 0 _ _ _ st3 (loop' _))
theorem pe_comp {osc:Scope} {N:List Str} (hc:X.calm=true) (hD:compD osc N scope ix=true) (hi:PI X tg iter wi)
    (hg:∀ C fp s H,PG (X.comp scope (closOf scope X.env) C (xs ++ capN ix X.N) fp s H) tg g) (ht:∀ C fp s H,PTs (X.comp scope (closOf scope X.env) C (xs ++ capN ix X.N) fp s H) ifs tt)
    (he:∀ C fp s H,PE (X.comp scope (closOf scope X.env) C (xs ++ capN ix X.N) fp s H) elt te) (hsc:X.env.scope=osc:=by rfl) (hN:X.N=N:=by rfl) (hs:∀ x,foldedSetIterable iter X.env x=pure x:=by intro _;rfl) :
    PE X (.ListComp elt [⟨tg,iter,ifs,0⟩] scope pos) (tComp wi g tt te xs.length ix):=by
  intro pins s σ H Q I h
  have S:=compScope_of I.ok hD hsc hN
  rw [eval_ListComp]
  refine wpAny_comprehension_free (use:=none) rfl hs S.clos S.kind S.names (comp_block S hc hi hg ht he I h (RR:=fun acc C=>compPost (model X.prog X.w) X.A X.xe none (EP X pins σ Q) acc C) ?_)
  rintro v u s' C r ⟨H',q,⟨m,hn⟩,hI,_⟩
  exact ⟨m,hn,fun h' hb=>⟨v,H',hI h' hb,r,q⟩⟩
theorem ps_setComp {osc:Scope} {N:List Str} {y:Str} {py:Pos} {j:Nat} {spos:Pos} (hNd:X.N.Nodup) (hj:X.N[j]?=some y) (hc:X.calm=true) (hy:Loc X.env.scope y) (hD:compD osc N scope ix=true) (hi:PI X tg iter wi)
    (hg:∀ C fp s H,PG (X.comp scope (closOf scope X.env) C (xs ++ capN ix X.N) fp s H) tg g) (ht:∀ C fp s H,PTs (X.comp scope (closOf scope X.env) C (xs ++ capN ix X.N) fp s H) ifs tt)
    (he:∀ C fp s H,PE (X.comp scope (closOf scope X.env) C (xs ++ capN ix X.N) fp s H) elt te) (hsc:X.env.scope=osc:=by rfl) (hN:X.N=N:=by rfl)
    (hsw:swapsWith (.ListComp elt [⟨tg,iter,ifs,0⟩] scope pos) (some (.Name y py)) spos.line X.env=pure true:=by rfl)
    (hs:∀ x,foldedSetIterable iter X.env x=pure x:=by intro _;rfl) (hf:X.fn y=true∨X.env.scope.names.lookup y=some .local:=by first | exact .inl rfl | exact .inr rfl | assumption) :
    PS X (.Assign [.Name y py] (.ListComp elt [⟨tg,iter,ifs,0⟩] scope pos) spos) (tAsg (tComp wi g tt te xs.length ix) (gName j)):=by
  intro pins s σ H D I h
  have S:=compScope_of I.ok hD hsc hN
  rw [exec_Assign_Name_used _ _ _ _ hsw]
  refine wpAny_bind (wpAny_standAt (wpAny_bind ?_))
  show wpAny _ X.A (do let _ ← comprehension (.ListComp elt [⟨tg,iter,ifs,0⟩] scope pos) scope X.env _ (newList []) false (eval iter X.env) (some (assign (.Name y py) X.env))) _ _ s
  refine wpAny_bind (thn (wpAny_comprehension_free (use:=some (assign (.Name y py) X.env)) (Q:=fun _ s'=>SP X pins D .next s') rfl hs S.clos S.kind S.names
    (comp_block S hc hi hg ht he I h (RR:=fun acc C=>compPost (model X.prog X.w) X.A X.xe (some (assign (.Name y py) X.env)) (fun _ s'=>SP X pins D .next s') acc C) ?_)) fun _ s' hq=>wpAny_pure (wpAny_pure hq))
  rintro v u s' C r ⟨H',q,⟨m,hn⟩,hI,f0,f1,f2,f3,f4,f5⟩
  have I':Inv X pins σ H' s':=hI s'.heap (.refl ..)
  show wpAny _ X.A (assign (.Name y py) X.env u) _ _ _
  refine wpAny_assign_Name (store_ok2 I' hNd hj hy r (fun s2 I2 hx=>?_) hf)
  obtain ⟨a,hb,ha⟩:=hx
  have hCa:C≠a:=by
    rcases ha with rfl | ha
    · exact f1
    · exact Ne.symm (f4 _ _ ha)
  refine ⟨m,hn.sameBut hb hCa,fun h' hb'=>⟨_,H',?_,q⟩⟩
  exact I2.turned (t':=s2.toks) (fun b o hne e=>(hb'.2 b hne).trans e) f0 f1 f3 f4 f5
end
end L2
namespace L2
open PySem PySem.Spec PyProof.Rows
abbrev rAddS:R2:=fun x y H Q=>∃ i j,x=.str i∧y=.str j∧i.length + j.length≤sizeLine∧Q (.str (i ++ j)) H
abbrev rInS:R2:=fun x y H Q=>∃ i j,x=.str i∧y=.str j∧Q (.bl (!(Builtin.Str.occurrences j i 0 j.length 1).isEmpty)) H
abbrev rNotInS:R2:=fun x y H Q=>∃ i j,x=.str i∧y=.str j∧Q (.bl (!(!(Builtin.Str.occurrences j i 0 j.length 1).isEmpty))) H
abbrev rIsB:R2:=fun x y H Q=>∃ a b,x=.bl a∧y=.bl b∧Q (.bl (a == b)) H
abbrev rIsNotB:R2:=fun x y H Q=>∃ a b,x=.bl a∧y=.bl b∧Q (.bl (a != b)) H
abbrev rIsN:R2:=fun x y H Q=>y=.non∧Q (.bl (decide (x=.non))) H
abbrev rNotN:R2:=fun x y H Q=>y=.non∧Q (.bl (!decide (x=.non))) H
abbrev RC:=List V→Hp→VK→Prop
abbrev cLen (K:PySem.W.Frag):RC:=fun xs H Q=>∃ x n,xs=[x]∧LenV K x H n∧Q (.int n) H
abbrev cIsi (K:PySem.W.Frag):RC:=fun xs H Q=>∃ x c t b,xs=[x,c]∧TyOf K H x t∧(∃ T,c=.ty T∧PySem.W.kitOne K t (.type T)=some b)∧Q (.bl b) H
abbrev cAll (K:PySem.W.Frag):RC:=fun xs H Q=>∃ (a:Addr) (bs:List Bool),xs=[.ref a]∧SqL K H a (bs.map V.bl)∧Q (.bl (bs.all id)) H
abbrev cAbs:RC:=fun xs H Q=>∃ i,xs=[.int i]∧Q (.int (if i < 0 then -i else i)) H
abbrev cStr:RC:=fun xs H Q=>∃ i,xs=[.int i]∧i.natAbs.log2 < 1920∧Q (.str (toString i)) H
abbrev RM:=V→List V→Hp→VK→Prop
abbrev r_mt_startswith:RM:=fun x xs H Q=>∃ a b,x=.str a∧xs=[.str b]∧Q (.bl (0 + b.length≤a.length && Builtin.Str.subAt a b 0)) H
def spP (pre:List V→Hp→Prop) (post:List V→Hp→V→Hp→Prop):Sp:=fun vs H Q _=>pre vs H∧∀ r H',post vs H r H'→Same H H'→Q r H'
abbrev cInt:RC:=fun xs H Q=>∃ (x:Str) (n:Int),xs=[.str x]∧PySem.intText? x=some n∧x.length≤640∧Q (.int n) H
abbrev r_mt_upper:RM:=fun x xs H Q=>∃ a:Str,x=.str a∧xs=[]∧(∀ c∈a.cps.toList,c < 128)∧a.length≤sizeLine∧∀ y:Str,y.length=a.length→Q (.str y) H
theorem isV (p:Addr) {H:Hp} {o:HO} (h:H p=none):Same H (upd H p o):=fun b u e=>by rw [upd_ne (ne_of_none e h)];exact e
theorem small_size {n:Nat} (h:n≤100000):n≤sizeLine:=Nat.le_trans h (by decide)
theorem bt_len:bootBuiltins "len"=some (.builtin "len"):=by decide +kernel
theorem bt_isinstance:bootBuiltins "isinstance"=some (.builtin "isinstance"):=by decide +kernel
theorem bt_max:bootBuiltins "max"=some (.builtin "max"):=by decide +kernel
theorem bt_min:bootBuiltins "min"=some (.builtin "min"):=by decide +kernel
theorem bt_sorted:bootBuiltins "sorted"=some (.builtin "sorted"):=by decide +kernel
theorem bt_sum:bootBuiltins "sum"=some (.builtin "sum"):=by decide +kernel
theorem bt_int:bootBuiltins "int"=some (.type "int"):=by decide +kernel
theorem bt_bool:bootBuiltins "bool"=some (.type "bool"):=by decide +kernel
theorem bt_list:bootBuiltins "list"=some (.type "list"):=by decide +kernel
theorem bt_dict:bootBuiltins "dict"=some (.type "dict"):=by decide +kernel
theorem bt_ValueError:bootBuiltins "ValueError"=some (.type "ValueError"):=by decide +kernel
section
variable {X:Cx}
def big:Int:=10 ^ 200
def CDivB (_ j:Int):Prop:=0 < j∧j < big
def CMulB (i j:Int):Prop:=(-big < i∧i < big)∧(-big < j∧j < big)
theorem log2_big {j:Int} (h:j.natAbs < 10 ^ 200):j.natAbs.log2 < 700:=by
  by_cases h0:j.natAbs=0
  · rw [h0];decide
  · exact (Nat.log2_lt h0).mpr (Nat.lt_of_lt_of_le h (by decide +kernel))
theorem abs_big {j:Int} (h:-big < j∧j < big):j.natAbs < 10 ^ 200:=by
  have e:big=((10 ^ 200:Nat):Int):=by decide +kernel
  rw [e] at h
  omega
theorem CMulB.ok {i j:Int} (h:CMulB i j):IntMulOk i j:=by
  have b:∀ k:Int,(-big < k∧k < big)→Builtin.Int.intBits k≤2 ^ 20:=fun k hk=>by
    have q:=log2_big (abs_big hk)
    unfold Builtin.Int.intBits
    split <;> omega
  exact .of_bits (b i h.1) (b j h.2)
theorem op_mulB:OpR X (binaryOp .Mult) (rI CMulB fun i j=>.int (i * j)):=opI fun _ _ _ _ _ _ _ hc q=>mul_int q hc.ok
theorem op_fdivB:OpR X (binaryOp .FloorDiv) (rI CDivB fun i j=>.int (i / j)):=opI fun i j _ _ _ _ _ hc q=>by
  have h1:(0:Int) < j:=hc.1
  refine floordiv_int (by omega) ?_ (.inl (PyProof.noPylong_of_log2 (Nat.lt_trans (log2_big (abs_big ⟨by have:=hc.2;omega,hc.2⟩)) (by decide))))
  rw [Int.fdiv_eq_ediv_of_nonneg i (by omega)]
  exact q
theorem call_isi:CallR X (.builtin "isinstance") (cIsi X.K):=by
  intro pins s σ H xs us Q I r h
  obtain ⟨x,c,t,b,rfl,ty,⟨T,rfl,e⟩,q⟩:=h
  obtain ⟨u,w',rfl,r1,r2⟩:=vals2 r
  cases r2
  exact isinst_ok I r1 ty e fun tk=>⟨.bl b,H,I.tok tk,rfl,q⟩
def Its (x:Str):It:=⟨fun i _=>i < x.cps.size,fun i H v H'=>H'=H∧∃ c,x.cps[i]?=some c∧v=.str ⟨#[c]⟩,fun i _=>x.cps.size≤i⟩
def iStr (tl:TE):TI:=fun σ H R=>tl σ H fun x H1=>∃ z,x=.str z∧R (Its z) H1
def rSlS:V→Option Int→Option Int→Hp→VK→Prop:=fun x lo hi H Q=>∃ z,x=.str z∧z.length≤sizeLine∧Q (.str (Txt.slice z lo hi)) H
theorem sl_str:SlR X rSlS:=by
  intro pins s σ H x v vl vu lo hi sl Q I rx hs pl pu h
  obtain ⟨z,rfl,hz,q⟩:=h
  obtain ⟨t,rfl⟩:=rx
  obtain ⟨o,ho,hc,hd⟩:=hs
  refine ⟨"str",_,F.slot_str_getitem.lookup,typeIs_str _ _ _,?_⟩
  obtain ⟨l,e1,e2⟩:∃ l:Option (Int × Tok),vl=partValue l∧lo=l.map (·.1):=by
    cases pl with
    | none=>exact ⟨none,rfl,rfl⟩
    | int i t=>exact ⟨some (i,t),rfl,rfl⟩
  obtain ⟨u,e3,e4⟩:∃ l:Option (Int × Tok),vu=partValue l∧hi=l.map (·.1):=by
    cases pu with
    | none=>exact ⟨none,rfl,rfl⟩
    | int i t=>exact ⟨some (i,t),rfl,rfl⟩
  subst e1 e2 e3 e4
  exact wpAny_getItem_str_slice (l:=l) (u:=u) (st:=none) ⟨o,ho,hc,hd⟩ rfl
    (post_val_or_str ⟨Nat.le_trans (Txt.slice_le z _ _) hz,fun t' k=>⟨.str (Txt.slice z (l.map (·.1)) (u.map (·.1))),H,I.tok k,⟨t',rfl⟩,q⟩⟩)
end
end L2
namespace L2
open PySem PySem.Spec PyProof.Rows
theorem ObjOk.there {P:Program} {w:World} {H:Hp} {h:Heap} {a:Addr} {o:HO} (x:ObjOk P w H h a o):∃ u,h.get? a=some u:=by
  cases o with
  | lst xs=>obtain ⟨_,_,_,_,e⟩:=x;exact ⟨_,e⟩
  | tup xs=>obtain ⟨_,_,_,o,e,_⟩:=x;exact ⟨_,e⟩
  | dK kvs=>obtain ⟨_,_,_,_,o,_,_,e,_⟩:=x;exact ⟨_,e⟩
  | dT kvs=>obtain ⟨_,_,_,_,o,_,_,e,_⟩:=x;exact ⟨_,e⟩
  | set S n=>obtain ⟨o,_,_,_,e,_⟩:=x;exact ⟨_,e⟩
  | ins C dx fs=>obtain ⟨_,_,_,e,_⟩:=x;exact ⟨_,e⟩
  | own y=>exact x
  | xd fs=>obtain ⟨_,⟨o,_,_,e,_⟩,_⟩:=x;exact ⟨_,e⟩
  | rng lo hi=>obtain ⟨_,_,_,e⟩:=x;exact ⟨_,e⟩
  | frz ob u=>obtain ⟨e,_⟩:=x;exact ⟨_,e⟩
  | tbl ps=>exact ⟨_,(show h.get? a=some _ from x)⟩
  | met f y=>exact ⟨_,(show h.get? a=some _ from x)⟩
  | ext φ=>obtain ⟨_,e,_⟩:=x;exact e
def XF (g h:Heap) (H:Hp) (e:Addr) (cls:Value):Prop :=
  ∃ oe vs a0 T oT ts,h.get? e=some oe∧(oe.cls=cls∧vs[0]?=some a0)∧oe.data=.fields vs∧vs[1]?=some (.ref T)∧T≠e∧h.get? T=some oT∧oT.data=.fields ts∧ts[3]?=some .none ∧
    g.get? e=none∧g.get? T=none∧H e=none∧H T=none
def CX1 (P:Program) (w:World):CXT:=fun outer H s E ev s'=>∃ e cls H',ev=.ref e∧s'.os=s.os∧AllBare s'.gens∧Un (frs outer) [] H H' s.heap s'.heap∧HOk P w H' s'.heap∧XF s.heap s'.heap H' e cls∧E cls none H'
theorem none_back {g h:Heap} (k:∀ b o,g.get? b=some o→∃ o',h.get? b=some o') {b:Addr} (e:h.get? b=none):g.get? b=none:=by
  cases q:g.get? b with
  | none=>rfl
  | some o =>
    obtain ⟨o',z⟩:=k b o q
    rw [e] at z;cases z
theorem XF.older {g g' h:Heap} {H:Hp} {e:Addr} {cls:Value} (x:XF g h H e cls) (k:∀ b o,g'.get? b=some o→∃ o',g.get? b=some o'):XF g' h H e cls:=by
  obtain ⟨oe,vs,a0,T,oT,ts,h1,h2,h3,h4,h5,h6,h7,h8,h9,h10,h11,h12⟩:=x
  exact ⟨oe,vs,a0,T,oT,ts,h1,h2,h3,h4,h5,h6,h7,h8,none_back k h9,none_back k h10,h11,h12⟩
section
variable {X:Cx} {pins:List (Addr × Obj)} {σ:St} {H:Hp} {s:Shared}
theorem Inv.stackFields (J:Inv X pins σ H s) {b:Addr} (hb:b∈frs X.stack):∃ o,s.heap.get? b=some o∧∀ vs,o.data≠.fields vs:=(J.stack.mem hb).2
theorem Inv.there0 (hex:X.ex=[]) (J:Inv X pins σ H s):∀ b o,X.s₀.heap.get? b=some o→∃ o',s.heap.get? b=some o':=fun b o e=>J.base.there b o e (by rw [hex];simp)
theorem Inv.behind {h2:Heap} {cs:List Addr} (hex:X.ex=[]) (J:Inv X pins σ H s) (hcs:∀ b∈cs,H b=none∧X.s₀.heap.get? b=none)
    (hB:∀ b o,s.heap.get? b=some o→b ∉ frs X.stack→b ∉ cs→h2.get? b=some o) (hF:∀ b o,s.heap.get? b=some o→b∈frs X.stack→∃ sl,h2.get? b=some { o with slots:=sl }) :
    Un X.fs [] X.H₀ H X.s₀.heap h2∧HOk X.prog X.w H h2:=by
  have B:Un X.fs [] X.H₀ H X.s₀.heap s.heap:=by have:=J.base;rw [hex] at this;exact this
  have nL:∀ b o,X.s₀.heap.get? b=some o→b≠X.env.locals:=fun b o e=>Nat.ne_of_lt (Nat.lt_of_lt_of_le (Heap.lt_size e) J.ok.above)
  have nC:∀ b o,X.s₀.heap.get? b=some o→b ∉ cs:=fun b o e z=>by rw [(hcs b z).2] at e;cases e
  have any:∀ b o,s.heap.get? b=some o→b ∉ cs→∃ sl,h2.get? b=some { o with slots:=sl }:=fun b o e n=>by
    by_cases hb:b∈frs X.stack
    · exact hF b o e hb
    · exact ⟨o.slots,hB b o e hb n⟩
  refine ⟨⟨fun b o e n h1 _=>?_,fun b o e n h1 _=>?_,B.free,fun b o e h1=>?_,B.tups,B.frzs,B.tbls⟩,fun b u e=>?_⟩
  · refine hB b o (B.keep b o e n h1 (by simp)) (fun z=>?_) (nC b o e)
    rcases List.mem_cons.mp (J.stkSub b z) with q | q
    · exact nL b o e q
    · exact h1 q
  · obtain ⟨sl,q⟩:=B.slot b o e n h1 (by simp)
    obtain ⟨sl',q'⟩:=any b _ q (nC b o e)
    exact ⟨sl',q'⟩
  · obtain ⟨o',q⟩:=B.there b o e (by simp)
    obtain ⟨sl,q'⟩:=any b o' q (nC b o e)
    exact ⟨_,q'⟩
  · refine (J.hok b u e).stay (fun c v hc q=>?_) (fun _ q=>q) fun _ _ q=>q
    have hn:H c≠none:=by
      rcases hc with rfl | hc
      · rw [e];simp
      · rw [hc];simp
    exact hB c v q (fun z=>hn (J.stkFree c z)) fun z=>hn (hcs c z).1
theorem Inv.flown {B h2:Heap} {cs:List Addr} {e:Addr} {cls a0:Value} (hex:X.ex=[]) (J:Inv X pins σ H s) (hcs:∀ b∈cs,H b=none∧X.s₀.heap.get? b=none)
    (hB:∀ b o,s.heap.get? b=some o→b ∉ frs X.stack→b ∉ cs→B.get? b=some o) (hF:∀ b o,s.heap.get? b=some o→b∈frs X.stack→∃ sl,h2.get? b=some { o with slots:=sl })
    (he:H e=none) (he0:X.s₀.heap.get? e=none) (kb:B.StaysIn h2) (tr:h2.TracedW B e cls a0) :
    Un X.fs [] X.H₀ H X.s₀.heap h2∧HOk X.prog X.w H h2∧XF X.s₀.heap h2 H e cls:=by
  have hk:=J.behind (h2:=h2) hex hcs (fun b o q n1 n2=>kb b o (hB b o q n1 n2)) hF
  refine ⟨hk.1,hk.2,?_⟩
  obtain ⟨oe,vs,T,oT,ts,h1,h2',h3,h4,h5,h6,h7,h8,h9⟩:=tr
  have noT:∀ o,s.heap.get? T=some o→T∈cs:=fun o q=>by
    by_cases hb:T∈frs X.stack
    · obtain ⟨o',q',nf⟩:=J.stackFields hb
      obtain ⟨sl,z⟩:=hF T o' q' hb
      rw [h7] at z
      have z':oT={ o' with slots:=sl }:=Option.some.inj z
      exact absurd (by rw [← h8,z']) (nf ts)
    · by_cases hc:T∈cs
      · exact hc
      · rw [hB T o q hb hc] at h5;cases h5
  refine ⟨oe,vs,a0,T,oT,ts,h1,h2',h3,h4,h6,h7,h8,h9,he0,?_,he,?_⟩
  · cases q:X.s₀.heap.get? T with
    | none=>rfl
    | some o =>
      obtain ⟨o',q'⟩:=J.there0 hex T o q
      rw [(hcs T (noT o' q')).2] at q;cases q
  · cases q:H T with
    | none=>rfl
    | some u =>
      obtain ⟨o,z⟩:=(J.hok T u q).there
      rw [(hcs T (noT o z)).1] at q;cases q
theorem leave_new {h':Heap} {e:Addr} {cls:Value} {vs:List Value} {E:XK} {EE:Value→Shared→Prop} (hst:X.stack=X.env :: X.outer∧X.env.frame=some X.env.locals) (hex:X.ex=[]) (J:Inv X pins σ H s) (hx:Heap.MadeExcOf s.heap h' e cls vs) (hE:E cls none H) :
    wpAny (model X.prog X.w) X.A (leaving X.env (.ref e)) (fun _ s2=>CX1 X.prog X.w X.outer X.H₀ X.s₀ E (.ref e) s2) EE { s with heap:=h' }:=by
  have fr:s.heap.FunFrames (PySem.W.hideAll s.heap (frs X.stack)) (X.env :: X.outer):=by
    have q:=PySem.W.funFrames_hide (as:=frs X.stack) J.stack fun env he a ha=>List.mem_filterMap.mpr ⟨env,he,ha⟩
    rw [hst.1] at q ⊢
    exact q
  refine wpAny_leaves_madeW (s:={ s with heap:=h' }) (base:=PySem.W.hideAll s.heap (frs X.stack)) (h:=s.heap) (by rw [J.ok.frames,hst.1]) hst.2 (fun b o q=>PySem.W.of_hideAll _ q) fr hx fun h2 t hfl _ _ hup=>?_
  obtain ⟨f1,f2,f3,f4⟩:=hfl
  have hF:∀ b o,s.heap.get? b=some o→b∈frs X.stack→∃ sl,h2.get? b=some { o with slots:=sl }:=fun b o q hb=>by
    obtain ⟨o',q',nf⟩:=J.stackFields hb
    rw [q] at q';cases q'
    exact hup b o (hx.keeps b o q) nf
  obtain ⟨r1,r2,r3⟩:=J.flown (cs:=[]) hex (fun b z=>nomatch z) (fun b o q n _=>PySem.W.hideAll_get _ q n) hF
    (by
      cases q:H e with
      | none=>rfl
      | some u =>
        obtain ⟨o,z⟩:=(J.hok e u q).there
        rw [hx.new] at z;cases z)
    (none_back (J.there0 hex) hx.new) f1 f4
  exact ⟨e,cls,H,rfl,J.os,J.bare,r1,r2,r3,hE⟩
theorem leave_on {e:Addr} {cls:Value} {E:XK} {EE:Value→Shared→Prop} (hst:X.stack=X.env :: X.outer∧X.env.frame=some X.env.locals) (hex:X.ex=[]) (J:Inv X pins σ H s) (xf:XF X.s₀.heap s.heap H e cls) (hE:E cls none H) :
    wpAny (model X.prog X.w) X.A (leaving X.env (.ref e)) (fun _ s2=>CX1 X.prog X.w X.outer X.H₀ X.s₀ E (.ref e) s2) EE s:=by
  obtain ⟨oe,vs,a0,T,oT,ts,h1,h2,h3,h4,h5,h6,h7,h8,h9,h10,h11,h12⟩:=id xf
  have fr:s.heap.FunFrames (PySem.W.hideAll s.heap (frs X.stack ++ [e,T])) (X.env :: X.outer):=by
    have q:=PySem.W.funFrames_hide (as:=frs X.stack ++ [e,T]) J.stack fun env he a ha=>List.mem_append_left _ (List.mem_filterMap.mpr ⟨env,he,ha⟩)
    rw [hst.1] at q ⊢
    exact q
  refine wpAny_leaves_onW (base:=PySem.W.hideAll s.heap (frs X.stack ++ [e,T])) (a0:=a0) (by rw [J.ok.frames,hst.1]) hst.2
    ⟨fun b o q=>PySem.W.of_hideAll _ q,PySem.W.hideAll_none _ (List.mem_append_right _ (by simp)),fr,oe,vs,T,oT,ts,h1,h2,h3,h4,PySem.W.hideAll_none _ (List.mem_append_right _ (by simp)),h5,h6,h7,h8⟩ fun h2' hfl hup=>?_
  obtain ⟨f1,f2,f3,f4⟩:=hfl
  have hF:∀ b o,s.heap.get? b=some o→b∈frs X.stack→∃ sl,h2'.get? b=some { o with slots:=sl }:=fun b o q hb=>by
    obtain ⟨o',q',nf⟩:=J.stackFields hb
    rw [q] at q';cases q'
    exact hup b o q nf
  obtain ⟨r1,r2,r3⟩:=J.flown (cs:=[e,T]) hex (fun b z=>by
      have z':b=e∨b=T:=by simpa using z
      rcases z' with rfl | rfl
      · exact ⟨h11,h9⟩
      · exact ⟨h12,h10⟩) (fun b o q n n2=>PySem.W.hideAll_get _ q fun z=>(List.mem_append.mp z).elim n n2) hF h11 h9 f1 f4
  exact ⟨e,cls,H,rfl,J.os,J.bare,r1,r2,r3,hE⟩
end
def Raises (X:Cx) (E:XK):Prop:=∀ (pins:List (Addr × Obj)) (σ:St) (H:Hp) (s:Shared) (h':Heap) (e:Addr) (cls:Value) (vs:List Value),Inv X pins σ H s→Heap.MadeExcOf s.heap h' e cls vs→E cls none H→X.xe (.ref e) { s with heap:=h' }
section
variable {P:Program} {w:World} {K:PySem.W.Frag} {mg:Str→Option Value} {base:Heap} {N:List Str} {qual:Str} {scope:Scope} {f:Addr} {cd:Value} {A:Around} {outer:List Env} {s₀:Shared} {H₀:Hp} {E:XK}
theorem pass1:Passes (CX1 P w) (cxOf (CX1 P w) P w K mg base N qual scope f cd A outer s₀ H₀ E) E:=by
  intro pins σ H s ev s' I hcx
  obtain ⟨e,cls,H',rfl,os,bare,un,hok,xf,hE⟩:=hcx
  have J:=I.call' (ch:=[]) os un hok bare (fun b z=>nomatch z)
  exact leave_on (X:=cxOf (CX1 P w) P w K mg base N qual scope f cd A outer s₀ H₀ E) ⟨rfl,rfl⟩ rfl J (xf.older (I.there0 rfl)) hE
theorem raises1:Raises (cxOf (CX1 P w) P w K mg base N qual scope f cd A outer s₀ H₀ E) E:=by
  intro pins σ H s h' e cls vs I hx hE
  exact leave_new (X:=cxOf (CX1 P w) P w K mg base N qual scope f cd A outer s₀ H₀ E) ⟨rfl,rfl⟩ rfl I hx hE
theorem own1:PassesOwn (model P w) (cxOf (CX1 P w) P w K mg base N qual scope f cd A outer s₀ H₀ E).A (cxOf (CX1 P w) P w K mg base N qual scope f cd A outer s₀ H₀ E).env (cxOf (CX1 P w) P w K mg base N qual scope f cd A outer s₀ H₀ E).xe:=PassesOwn.leaving
end
abbrev bmVal:List Value:=[.type "ValueError",.type "Exception",.type "BaseException",.type "object"]
abbrev newVal:String:="ValueError.__new__"
def tRaise (C:Addr) (ta:TA) (E:XK):TS:=fun _ σ H=>ta σ H fun vs H1=>vs.length≤sizeLine∧E (.ref C) none H1
theorem own_cls {K:PySem.W.Frag} {h:Heap} {C:Addr} {bmB:List Value} {newId:String} (X:K.In h) (q:PySem.W.excIn K C bmB newId=true) :
    ∃ bm N nm qn bs hdct sn sub ab col dd k0 k1 k2 k3 k5 mN,h.get? C=some (excClassObj nm qn C N bs bm hdct sn sub ab col dd k0 k1 k2 k3 k5 newId)∧h.Ns N mN∧mN "__init__"=none∧OwnTail h bmB bm:=by
  unfold PySem.W.excIn at q
  split at q
  case h_2=>cases q
  rename_i dd cd sl ho
  split at q
  case h_2=>cases q
  rename_i C' bm k0 k1 k2 k3 n k5 hm hs
  rw [Bool.and_eq_true,Bool.and_eq_true,Bool.and_eq_true,Bool.and_eq_true,Bool.and_eq_true] at q
  obtain ⟨⟨⟨⟨⟨q1,q2⟩,q3⟩,q4⟩,q5⟩,q6⟩:=q
  obtain rfl:C'=C:=by simpa using q1
  obtain rfl:n=newId:=by simpa using q2
  obtain ⟨nm,bs,mro,ns,qn,hd,sn,sub,ab,col,del⟩:=cd
  have hdel:del=false:=by simpa using q3
  have hm':mro=.ref C' :: bm:=hm
  subst hdel hm'
  have hsl:sl=#[k0,k1,k2,k3,some (.builtin n),k5]:=by
    apply Array.ext'
    exact hs
  subst hsl
  exact ⟨bm,ns,nm,qn,bs,hd,sn,sub,ab,col,dd,k0,k1,k2,k3,k5,_,X _ _ ho,.of_isNs (PySem.W.isNs_of_in X q5),PySem.W.nsMap_none_of_in X q5 (by simpa using q6),PySem.W.tail_of_in X q4⟩
section
variable {X:Cx} {x:Str} {C:Addr} {np cpos pos:Pos} {e₀:Expr} {rest:List Expr} {ta:TA} {E:XK}
theorem ps_raise (hc:X.calm=true) (q:PySem.W.excIn X.K C bmVal newVal=true) (hr:Raises X E) (hg:Gl X x) (hm:X.mg x=some (.ref C)) (ha:PA X (e₀ :: rest) ta)
    (he:starEach (e₀ :: rest) X.env=(false,eval e₀ X.env) :: starEach rest X.env:=by rfl) (hp:(backTo cpos (starEach rest X.env)).any (·.1)=false:=by rfl) (hd:(x == ("__debug__":Str))=false:=by decide) :
    PS X (.Raise (some (.Call (.Name x np) (e₀ :: rest) [] cpos)) none pos) (tRaise C ta E):=by
  intro pins s σ H D I h
  obtain ⟨tl,N,nm,qn,bs,hdct,sn,sub,ab,col,dd,k0,k1,k2,k3,k5,mN,hC,hN,hni,T⟩:=own_cls I.ok.mod.kin q
  refine wpAny_Raise_call_subT (C:=C) (nm:=nm) (q:=qn) (N:=N) (bs:=bs) (bm:=tl) (hdct:=hdct) (sn:=sn) (sub:=sub) (ab:=ab) (col:=col) (dd:=dd) (k0:=k0) (k1:=k1) (k2:=k2) (k3:=k3) (k5:=k5) (newId:=newVal)
    PySem.F.excBase_ValueError (mN:=mN) (T.hasType PySem.F.excBase_ValueError.hasBase) (I.ok.hd hc) (by rw [he];exact hp) hni (ld_glob I hg hm ⟨rfl,?_⟩ hd)
  have hA:=ha cpos pins s σ H _ I h
  rw [he] at hA ⊢
  refine Calls.evalArgs_plain (thn hA fun us s2 ⟨vs,H2,I2,r2,z2,q2⟩=>?_)
  exact ⟨rfl,by rw [← r2.length];exact z2,I2.bk _ _ hC,hN.keeps I2.bk,T.keeps I2.bk,fun h' e hm=>hr pins σ H2 s2 h' e _ _ I2 hm q2⟩
end
def Asc (x:Str):Prop:=∀ c∈x.cps.toList,c < 128
section
variable {X:Cx} {e:Expr} {te:TE} {a:Str} {j:Nat} {p1 p2 p3:Pos}
def tMsgR (te:TE):TE:=fun σ H Q=>te σ H fun v H1=>∃ x:Str,v=.str x∧x.length≤100000∧Asc x∧∀ y:Str,Q (.str y) H1
def tMsgS (te:TE):TE:=fun σ H Q=>te σ H fun v H1=>∃ x:Str,v=.str x∧x.length≤100000∧∀ y:Str,Q (.str y) H1
end
end L2
namespace L2
open PySem PySem.Spec PyProof.Rows
structure ExC (K:PySem.W.Frag) (C:Addr):Prop where
  ga:PySem.W.findIn K (.ref C) "__getattribute__"=some (some (.builtin "BaseException.__getattribute__"))
  gx:PySem.W.findIn K (.ref C) "__getattr__"=some none
  cl:PySem.W.findIn K (.ref C) "__class__"=some (some (.builtin "object.__class__"))
  ob:PySem.W.mroIn K C (.type "object")=some true
  be:PySem.W.mroIn K C (.type "BaseException")=some true
  ge:PySem.W.specialIn K (.builtin "object.__class__") "__get__"=some (some (.builtin "getset_descriptor.__get__"))
  tk:PySem.W.takesIn K (.builtin "object.__class__")=some true
section
variable {prog:Program} {w:World} {A:Around} {E:Value→Shared→Prop} {K:PySem.W.Frag} {e C:Addr} {s:Shared}
theorem exc_find {M:Model} {h:Heap} (X:K.In h) (c:ExC K C):PySem.W.Looks M h (PySem.Builtin.ObjectAttr.find (.ref e) (.ref C) "__class__") (.bind (.builtin "getset_descriptor.__get__") (.builtin "object.__class__")):=by
  have l1:=PySem.W.looks_findIn (M:=M) X c.cl
  have l2:PySem.W.Looks M h (PySem.Builtin.ObjectAttr.getOf (some (.builtin "object.__class__"))) (some (.builtin "getset_descriptor.__get__")):=PySem.W.looks_specialIn X c.ge
  have l3:=PySem.W.looks_takesIn (M:=M) X c.tk
  refine l1.andThen (l2.andThen ?_)
  exact (show PySem.W.Looks M h (PySem.Builtin.ObjectAttr.dataDescriptor? (some (.builtin "object.__class__")) (some (.builtin "getset_descriptor.__get__"))) (some ((.builtin "getset_descriptor.__get__"),(.builtin "object.__class__"))) from l3.andThen .now).andThen (PySem.W.Looks.tag .now)
open PySem.Builtin PySem.Builtin.Getset_descriptor in
theorem exc_get {R:Result→Shared→Prop} {tp:Value} (X:K.In s.heap) (c:ExC K C) (t0:PySem.W.Looks (model prog w) s.heap (typeOf (.ref e)) (.ref C)) (hr:R (.ok (.ret (.ref C))) s) :
    codeAny (model prog w) A (.call (.builtin "getset_descriptor.__get__") ⟨[.builtin "object.__class__",.ref e,tp],[]⟩) R s:=by
  obtain ⟨hh,gs,dr,tt,os⟩:=s
  have t5:=PySem.W.looks_mroIn (M:=model prog w) X c.ob
  refine codeAny_call_builtin PySem.W.KF.slot_gs.plain PySem.W.KF.entry_gs (PySem.W.KF.slot_gs.check _ _ _ _ _ _ _ _ PySem.W.KF.type_class (PySem.W.KF.args_gs _ _ _) ?_)
  unfold Builtin.«getset_descriptor.__get__» descrGet
  rw [PySem.W.dga_obj]
  refine wpAny_bind (wpAny_pure ?_)
  unfold descrGetter descrCheckInstance descrNameAndClass isInstance
  simp only [PySem.W.KF.owner_class]
  repeat lk
  refine ⟨Code.quiet_builtin _ (by decide +kernel),codeAny_builtin PySem.W.KF.entry_class ?_⟩
  unfold Builtin.«object.__class__» shownTypeOf
  repeat lk
  exact hr
theorem exc_class {Q:Option Value→Shared→Prop} (X:K.In s.heap) (c:ExC K C) (LT:∀ M:Model,PySem.W.Looks M s.heap (typeOf (.ref e)) (.ref C)) (hq:Q (some (.ref C)) { s with toks:=s.toks + 1 }) :
    wpAny (model prog w) A (getAttr? (.ref e) "__class__") Q E s:=by
  obtain ⟨hh,gs,dr,tt,os⟩:=s
  have t0:=LT (model prog w)
  have t1:=PySem.W.looks_findIn (M:=model prog w) X c.ga
  have t2:=PySem.W.looks_findIn (M:=model prog w) X c.gx
  have t3:=PySem.W.looks_mroIn (M:=model prog w) X c.be
  have t4:=exc_find (M:=model prog w) (e:=e) X c
  have t5:=PySem.W.looks_mroIn (M:=model prog w) X c.ob
  have t6:bindSpecial (.builtin "BaseException.__getattribute__") (.ref e)=pure (.builtin "BaseException.__getattribute__",[.ref e]):=F.excAttr_ValueError.ga.bind (.ref e)
  have b2:(Value.builtin "BaseException.__getattribute__" == Value.builtin "object.__getattribute__")=false:=by decide +kernel
  unfold getAttr? getAttrBy? getAttrBy
  refine wpAny_bind (wpAny_mkText (wpAny_bind (wpAny_attempt (wpAny_holding (wpAny_bind (t0.at (wpAny_bind (t1.at ?_))))))))
  simp only [b2,Bool.and_false,Bool.false_eq_true,if_false]
  unfold getAttrByItsOwn hookBefore
  refine wpAny_bind (t2.at ?_)
  unfold callGetattribute boundAndCalled
  simp only [Bool.false_and,Bool.false_eq_true,if_false,Option.toList,t6]
  refine wpAny_bind (wpAny_attempt (wpAny_holding (wpAny_bind (wpAny_pure (wpAny_call ?_)))))
  refine codeAny_call_builtin F.excAttr_ValueError.ga.plain F.entry_bexc_ga ?_
  have k1:builtinKind "BaseException.__getattribute__"=some .slot:=by decide +kernel
  have k2:splitId "BaseException.__getattribute__"=some ("BaseException","__getattribute__"):=by decide +kernel
  have k3:=F.args_bexc_ga (.ref e) (.str "__class__" tt)
  simp only [checkBuiltinCall,k1,k2]
  refine wpAny_bind (?_:wpAny _ _ (isInstance (.ref e) (.type "BaseException")) _ _ _)
  have k4:PySem.W.Looks (model prog w) hh (isInstance (.ref e) (.type "BaseException")) true:=t0.andThen t3
  refine k4.at ?_
  simp only [Bool.not_true,Bool.false_eq_true,if_false,List.cons_append,List.nil_append]
  refine wpAny_of_eq (show _=pure () from k3) ?_
  refine wpAny_bind (wpAny_pure (wpAny_bind (wpAny_pure (wpAny_bind (t0.at (wpAny_bind (t4.at ?_)))))))
  show wpAny _ _ (holding [.builtin "object.__class__"] (call (.builtin "getset_descriptor.__get__") [.builtin "object.__class__",.ref e,.ref C]) >>= ret) _ _ _
  refine wpAny_bind (wpAny_holding (wpAny_call (exc_get X c t0 (wpAny_pure ?_))))
  exact PySem.W.handed_on rfl (wpAny_pure hq)
theorem kitx_exc {a:Addr} (c:ExC K C) (hc:(PySem.W.clsIn K C).isSome=true):PySem.W.KitX K (.ref a) (.ref C) (fun h=>∃ o,h.get? a=some o∧o.cls=.ref C) where
  ty:=fun M h _ p=>by
    obtain ⟨o,p1,p2⟩:=p
    exact p2 ▸ (PySem.W.Looks.ld p1).andThen .now
  it:=fun _ _ X _=>by
    obtain ⟨cd,z⟩:=Option.isSome_iff_exists.mp hc
    unfold PySem.W.clsIn at z
    split at z
    · rename_i y
      intro A' Q' E' s' k q
      unfold isType loadHead
      exact wpAny_bind (wpAny_loadPart (k _ _ (X _ _ y)) (wpAny_pure q))
    · cases z
  ne:=fun h tp dd its n sl X p=>by
    obtain ⟨cd,z⟩:=Option.isSome_iff_exists.mp hc
    refine Bool.eq_false_iff.mpr fun q=>?_
    obtain rfl:C=tp:=Value.ref.inj (beq_iff_eq.mp q)
    unfold PySem.W.clsIn at z
    split at z
    · rename_i y
      cases (X _ _ y).symm.trans p
    · cases z
  ca:=fun X p k=>by
    obtain ⟨o,p1,p2⟩:=p
    exact exc_class X c (fun M=>p2 ▸ (PySem.W.Looks.ld p1).andThen .now) k
end
end L2
namespace L2
open PySem PySem.Spec PyProof.Rows
section
variable {X:Cx} {pins:List (Addr × Obj)} {σ:St} {H:Hp} {s:Shared}
theorem Inv.land {h2:Heap} {cs:List Addr} (hex:X.ex=[]) (I:Inv X pins σ H s) (hcs:∀ b∈cs,H b=none∧X.s₀.heap.get? b=none) (hcp:∀ b∈cs,∀ p∈X.pn ++ pins,p.1≠b)
    (hB:∀ b o,s.heap.get? b=some o→b ∉ frs X.stack→b ∉ cs→h2.get? b=some o) (sm:s.heap.UpToSlots h2):Inv X pins σ H { s with heap:=h2 }:=by
  have hF:∀ b o,s.heap.get? b=some o→b∈frs X.stack→∃ sl,h2.get? b=some { o with slots:=sl }:=fun b o q hb=>by
    obtain ⟨o',q',nf⟩:=I.stackFields hb
    rw [q] at q';cases q'
    exact sm b o q nf
  obtain ⟨r1,r2⟩:=I.behind hex hcs hB hF
  have ce:∀ c v,s.heap.IsCell c v→h2.IsCell c v:=fun c v ⟨o,ho,hd⟩=>by
    obtain ⟨sl,q⟩:=sm c o ho fun vs z=>by rw [hd] at z;cases z
    exact ⟨_,q,hd⟩
  refine ⟨I.ok,I.os,I.bare,by rw [hex];exact r1,?_,fun x c e=>?_,I.free,I.freeC,fun p hp=>?_,r2,I.len⟩
  · obtain ⟨m,hn,hl⟩:=I.loc
    refine ⟨m,sm.ns hn,fun i x v e1 e2 e3=>?_⟩
    obtain ⟨u,r,l⟩:=hl i x v e1 e2 e3
    refine ⟨u,r,?_⟩
    rcases l with l | ⟨k,c,e,z⟩
    · exact .inl l
    · exact .inr ⟨k,c,e,ce c _ z⟩
  · obtain ⟨v,z⟩:=I.cell x c e
    exact ⟨v,ce c v z⟩
  · obtain ⟨e,n,ne,nf,d⟩:=I.pin p hp
    exact ⟨hB _ _ e (fun z=>(List.mem_cons.mp (I.stkSub _ z)).elim ne nf) fun z=>hcp _ z p hp rfl,n,ne,nf,d⟩
theorem Inv.track {e:Addr} {φ:Heap→Prop} (I:Inv X pins σ H s) (hn:H e=none) (h0:X.s₀.heap.get? e=none) (hex:X.ex=[]) (hL:e≠X.env.locals) (hc:∀ x c,X.env.cells.lookup x=some c→c≠e) (hp:∀ p∈X.pn ++ pins,p.1≠e)
    (ok:φ s.heap∧(∃ o,s.heap.get? e=some o)∧∀ h1 h2:Heap,φ h1→(∀ o,h1.get? e=some o→h2.get? e=some o)→φ h2):Inv X pins σ (upd H e (.ext φ)) s:=by
  have ne:∀ b u,H b=some u→b≠e:=fun b u q z=>by rw [z,hn] at q;cases q
  have B:=I.base
  refine ⟨I.ok,I.os,I.bare,⟨B.keep,B.slot,fun b o q n x=>?_,B.there,fun b xs q=>?_,fun b o u q=>?_,fun b ps q=>?_⟩,I.loc,I.cell,?_,fun x c q=>?_,fun p q=>?_,fun b u q=>?_,I.len⟩
  · rw [upd_ne fun z=>by rw [z,h0] at q;cases q];exact B.free b o q n x
  · have z:=B.tups b xs q
    rw [upd_ne (ne _ _ z)];exact z
  · have z:=B.frzs b o u q
    rw [upd_ne (ne _ _ z)];exact z
  · obtain ⟨m,z⟩:=B.tbls b ps q
    exact ⟨m,by rw [upd_ne (ne _ _ z)];exact z⟩
  · rw [upd_ne (Ne.symm hL)];exact I.free
  · rw [upd_ne (hc x c q)];exact I.freeC x c q
  · obtain ⟨z1,z2,z3,z4,z5⟩:=I.pin p q
    exact ⟨z1,by rw [upd_ne (hp p q)];exact z2,z3,z4,z5⟩
  · by_cases hb:b=e
    · subst hb
      rw [upd_same] at q;cases q
      exact ok
    · rw [upd_ne hb] at q
      exact (I.hok b u q).stay (fun c v _ z=>z) (fun c z=>by rw [upd_ne (ne _ _ z)];exact z) fun c xs z=>by rw [upd_ne (ne _ _ z)];exact z
theorem Inv.forget {h':Heap} {t':Nat} {i:Nat} {n:Str} {m:Str→Option Value} {v:Option Value} (I:Inv X pins σ H s) (hN:X.N.Nodup) (hi:X.N[i]?=some n)
    (hm:s.heap.Ns X.env.locals m) (hl:∀ (i:Nat) (x:Str) (v:V),X.N[i]?=some x→σ[i]?=some (some v)→Vis X.env.scope x→∃ u,RelV v u∧Look X.env s.heap m x u)
    (hn:h'.Ns X.env.locals (fun x=>if x=n then v else m x)) (hs:Heap.SameBut X.env.locals s.heap h'):Inv X pins (σ.set i none) H { s with heap:=h',toks:=t' }:=by
  have nL:∀ b o,X.s₀.heap.get? b=some o→b≠X.env.locals:=fun b o e=>Nat.ne_of_lt (Nat.lt_of_lt_of_le (Heap.lt_size e) I.ok.above)
  have hiσ:i < σ.length:=by rw [I.len];exact (List.getElem?_eq_some_iff.mp hi).1
  refine ⟨I.ok,I.os,I.bare,⟨fun b o e n hb hx=>(hs.2 b (nL b o e)).trans (I.base.keep b o e n hb hx),fun b o e n hb hx=>?_,I.base.free,fun b o e hx=>?_,I.base.tups,I.base.frzs,I.base.tbls⟩,⟨_,hn,fun j y w e1 e2 e3=>?_⟩,fun y c e=>?_,I.free,I.freeC,fun p hp=>?_,fun b u e=>?_,by simpa using I.len⟩
  · obtain ⟨sl,e1⟩:=I.base.slot b o e n hb hx
    exact ⟨sl,(hs.2 b (nL b o e)).trans e1⟩
  · obtain ⟨o',e1⟩:=I.base.there b o e hx
    exact ⟨o',(hs.2 b (nL b o e)).trans e1⟩
  · by_cases hj:j=i
    · subst hj
      rw [List.getElem?_set_self hiσ] at e2
      cases e2
    · rw [List.getElem?_set_ne (Ne.symm hj)] at e2
      obtain ⟨u,r,q⟩:=hl j y w e1 e2 e3
      refine ⟨u,r,?_⟩
      rcases q with ⟨k,e⟩ | ⟨k,c,e,z⟩
      · have:y≠n:=fun e=>hj (nodup_ix hN e1 (e ▸ hi))
        exact .inl ⟨k,by simp [this,e]⟩
      · exact .inr ⟨k,c,e,z.sameBut hs (I.cne y c e)⟩
  · obtain ⟨w',z⟩:=I.cell y c e
    exact ⟨w',z.sameBut hs (I.cne y c e)⟩
  · obtain ⟨e,n,ne,nf,d⟩:=I.pin p hp
    exact ⟨(hs.2 p.1 ne).trans e,n,ne,nf,d⟩
  · refine (I.hok b u e).stay (fun c w' hc q=>(hs.2 c ?_).trans q) (fun _ q=>q) fun _ _ q=>q
    rintro rfl
    rcases hc with rfl | hc
    · rw [I.free] at e;cases e
    · rw [I.free] at hc;cases hc
end
def exO (e C:Addr):HO:=.ext fun h=>∃ o,h.get? e=some o∧o.cls=.ref C
abbrev Cx.sub (X:Cx) (e:Addr):Cx:={ X with A:=X.A.mark (some (.ref e)),calm:=false,xe:=fun _ _=>False }
section
variable {X:Cx} {pins:List (Addr × Obj)} {σ:St} {H:Hp} {s:Shared} {e:Addr}
theorem Inv.toSub (I:Inv X pins σ H s):Inv (X.sub e) pins σ H s :=
  ⟨⟨I.ok.mod,I.ok.kind,I.ok.glob,I.ok.blt,I.ok.above,I.ok.inj,I.ok.has,I.ok.cab,(fun z=>nomatch z),I.ok.frames,I.ok.stk,I.ok.exf,I.ok.bs,I.ok.bsz,I.ok.noex,I.ok.exfs,I.ok.funs,I.ok.frf⟩,I.os,I.bare,I.base,I.loc,I.cell,I.free,I.freeC,I.pin,I.hok,I.len⟩
theorem Inv.ofSub {J:Inv X pins σ H s} {σ':St} {H':Hp} {s':Shared} (I:Inv (X.sub e) pins σ' H' s'):Inv X pins σ' H' s' :=
  ⟨J.ok,I.os,I.bare,I.base,I.loc,I.cell,I.free,I.freeC,I.pin,I.hok,I.len⟩
end
abbrev EXK:=Value→St→Hp→Prop
def PX (X:Cx) (pins:List (Addr × Obj)) (EX:EXK):Value→Shared→Prop:=fun ev s'=>∃ e cls σ s1 H1 H',ev=.ref e∧Inv X pins σ H1 s1∧Inv X pins σ H' s'∧XF s1.heap s'.heap H' e cls∧EX cls σ H'
def PEX (X:Cx) (ex:Expr) (t:EXK→TE):Prop :=
  ∀ (pins:List (Addr × Obj)) (s:Shared) (σ:St) (H:Hp) (Q:VK) (EX:EXK),Inv X pins σ H s→t EX σ H Q→wpAny (model X.prog X.w) X.A (eval ex X.env) (EP X pins σ Q) (PX X pins EX) s
def PSX (X:Cx) (st:Stmt) (t:EXK→TS):Prop :=
  ∀ (pins:List (Addr × Obj)) (s:Shared) (σ:St) (H:Hp) (D:Ends) (EX:EXK),Inv X pins σ H s→t EX D σ H→wpAny (model X.prog X.w) X.A (exec st X.env) (SP X pins D) (PX X pins EX) s
section
variable {X:Cx} {k:Nat} {f:Addr} {fd:FuncData} {ps:List Str} {sp:Sp} {x:Str} {p pos:Pos} {e:Expr} {es:List Expr} {t:TA}
def tCallX (sp:Sp) (ta:TA) (EX:EXK):TE:=fun σ H Q=>ta σ H fun vs H1=>sp (vs ++ []) H1 Q fun cls _ H2=>EX cls σ H2
end
section
variable {X:Cx} {ex:Expr} {tx:EXK→TE} {pos p1:Pos} {i:Nat} {y:Str}
def tDropX (tx:EXK→TE) (EX:EXK):TS:=fun D σ H=>tx EX σ H fun _ H1=>D.nx σ H1
theorem psx_expr (he:PEX X ex tx) (hs:swapsWith ex none pos.line X.env=pure false:=by rfl):PSX X (.Expr ex pos) (tDropX tx):=by
  intro pins s σ H D EX I h
  exact wpAny_Expr_any (thn (he pins s σ H _ EX I h) fun v s1 ⟨x,H1,I1,r1,q1⟩=>⟨σ,H1,I1,q1⟩) I.quiet hs
def tRetX (tx:EXK→TE) (EX:EXK):TS:=fun D σ H=>tx EX σ H D.rt
def tAsgX (tx:EXK→TE) (i:Nat) (EX:EXK):TS:=fun D σ H=>tx EX σ H fun v H1=>D.nx (σ.set i (some v)) H1
end
structure ExK (K:PySem.W.Frag) (C:Addr):Prop extends ExC K C where
  has:(PySem.W.clsIn K C).isSome=true
def endT (i:Nat) (D:Ends):Ends:={ nx:=fun σ H=>D.nx (σ.set i none) H,rt:=D.rt,bk:=fun σ H=>D.bk (σ.set i none) H,ct:=fun σ H=>D.ct (σ.set i none) H }
def tTry (K:PySem.W.Frag) (tb:EXK→TS) (C0:Addr) (i:Nat) (th:TS):TS:=fun D σ H=>tb (fun cls σ1 H1=>∃ C,cls=.ref C∧ExK K C∧PySem.W.exmOne K (.ref C) (.ref C0)=some true ∧
  ∀ e,H1 e=none→th (endT i D) (σ1.set i (some (.ref e))) (upd H1 e (exO e C))) D σ H
section
variable {X:Cx} {st b₀:Stmt} {suite:List Stmt} {tb:EXK→TS} {th:TS} {c n:Str} {C0:Addr} {i:Nat} {np hpos pos:Pos}
theorem ps_try (hst:X.stack=X.env :: X.outer∧X.env.frame=some X.env.locals) (hex:X.ex=[]) (hN:X.N.Nodup) (hb:PSX X st tb) (hg:Gl X c) (hm:X.mg c=some (.ref C0)) (hi:X.N[i]?=some n) (hl:X.env.scope.names.lookup n=some .local)
    (hs:∀ e,PSs (X.sub e) (b₀ :: suite) th) (hdb:(c == ("__debug__":Str))=false:=by decide) :
    PS X (.Try [st] [.ExceptHandler (some (.Name c np)) (some n) (b₀ :: suite) hpos] [] [] pos) (tTry X.K tb C0 i th):=by
  intro pins s σ H D I h
  refine wpAny_Try_except (wpAny_execs_cons (wpAny_mono (hb pins s σ H D _ I h) (fun f s1 q=>?_) fun ev s1 q=>?_))
  · cases f with
    | next=>exact wpAny_execs_nil (wpAny_execs_nil q)
    | ret v=>exact q
    | brk=>exact q
    | cont=>exact q
  obtain ⟨e,cls,σ1,s0,H0,H1,rfl,I0,I1,xf,C,rfl,ek,hx,hth⟩:=q
  obtain ⟨oe,vs,a0,T,oT,ts,h1,h2,h3,h4,h5,h6,h7,h8,h9,h10,h11,h12⟩:=xf
  have fr:s1.heap.FunFrames (PySem.W.hideAll s1.heap (frs X.stack ++ [e,T])) (X.env :: X.outer):=by
    have q:=PySem.W.funFrames_hide (as:=frs X.stack ++ [e,T]) I1.stack fun env he a ha=>List.mem_append_left _ (List.mem_filterMap.mpr ⟨env,he,ha⟩)
    rw [hst.1] at q ⊢
    exact q
  have two:∀ b∈[e,T],s0.heap.get? b=none∧H1 b=none:=fun b z=>by
    have z':b=e∨b=T:=by simpa using z
    rcases z' with rfl | rfl
    · exact ⟨h9,h11⟩
    · exact ⟨h10,h12⟩
  have hcs:∀ b∈[e,T],H1 b=none∧X.s₀.heap.get? b=none:=fun b z=>⟨(two b z).2,none_back (I0.there0 hex) (two b z).1⟩
  have hcp:∀ b∈[e,T],∀ p∈X.pn ++ pins,p.1≠b:=fun b z p hp q=>by
    have:=(I0.pin p hp).1
    rw [q,(two b z).1] at this;cases this
  refine wpAny_looks_onW (base:=PySem.W.hideAll s1.heap (frs X.stack ++ [e,T])) (a0:=a0) (cls:=.ref C) (by rw [I1.ok.frames,hst.1]) hst.2
    ⟨fun b o q=>PySem.W.of_hideAll _ q,PySem.W.hideAll_none _ (List.mem_append_right _ (by simp)),fr,oe,vs,T,oT,ts,h1,h2,h3,h4,PySem.W.hideAll_none _ (List.mem_append_right _ (by simp)),h5,h6,h7,h8⟩ fun g4 held4 sm4=>?_
  refine wpAny_landsW held4 fun g5 fly5 sm5=>?_
  have hB:∀ {g:Heap},(PySem.W.hideAll s1.heap (frs X.stack ++ [e,T])).StaysIn g→∀ b o,s1.heap.get? b=some o→b ∉ frs X.stack→b ∉ [e,T]→g.get? b=some o :=
    fun {g} k b o q n1 n2=>k b o (PySem.W.hideAll_get _ q fun z=>(List.mem_append.mp z).elim n1 n2)
  have I5:Inv X pins σ1 H1 { s1 with heap:=g5 }:=I1.land hex hcs hcp (hB fly5.1) (sm4.trans sm5)
  have K5:=I5.kIn
  refine wpAny_handleBy_cons (codeAny_handlers_test ?_) (by intro q;cases q)
  refine ld_glob (X:=X.sub e) (I5.toSub (e:=e)) hg hm ?_ hdb
  have ty5:PySem.W.Looks (model X.prog X.w) g5 (typeOf (.ref e)) (.ref C):=by
    obtain ⟨o,p1,p2⟩:=fly5.there
    exact p2 ▸ (PySem.W.Looks.ld p1).andThen .now
  refine (PySem.W.exm_one K5 ty5 hx).here ?_
  refine codeAny_handlers_suite_as ?_
  refine lands_againW fly5 fun g6 fly6 sm6=>?_
  have I6:Inv X pins σ1 H1 { s1 with heap:=g6 }:=I1.land hex hcs hcp (hB fly6.1) ((sm4.trans sm5).trans sm6)
  have neL:e≠X.env.locals:=fun z=>by
    obtain ⟨m,⟨o,_,_,ho,_⟩,_⟩:=I0.loc
    rw [← z,h9] at ho;cases ho
  have neC:∀ x c,X.env.cells.lookup x=some c→c≠e:=fun x c q z=>by
    obtain ⟨v,o,ho,_⟩:=I0.cell x c q
    rw [z,h9] at ho;cases ho
  obtain ⟨o6,p6,q6⟩:=fly6.there
  have I7:Inv X pins σ1 (upd H1 e (exO e C)) { s1 with heap:=g6 }:=I6.track h11 (hcs e (by simp)).2 hex neL neC (hcp e (by simp))
    ⟨⟨o6,p6,q6⟩,⟨o6,p6⟩,fun a b ⟨o,z1,z2⟩ k=>⟨o,k o z1,z2⟩⟩
  refine store_ok (X:=X) (v:=.ref e) I7 hN hi (.inl hl) rfl (fun s8 I8=>?_) (.inr hl)
  refine wpAny_mono (hs e pins s8 _ _ _ I8.toSub (hth e h11)) (fun f s9 q=>?_) fun _ _ z=>False.elim z
  have hcls:(X.env.scope.kind == .class || (X.env.scope.kind == .module && X.env.locals != X.env.globals))=false:=by rw [I.ok.kind];rfl
  have go:∀ {σ9:St} {H9:Hp} {R:Shared→Prop},Inv (X.sub e) pins σ9 H9 s9→(∀ s',Inv X pins (σ9.set i none) H9 s'→R s') →
      wpAny (model X.prog X.w) X.A (do bindName X.env n .none;unbindBehindTheSuite X.env n hpos) (fun _ s3=>R s3) X.xe s9:=fun {σ9 H9 R} J k=>by
    have J':Inv X pins σ9 H9 s9:=Inv.ofSub (J:=I) J
    obtain ⟨m,hm9,hl9⟩:=J'.loc
    exact wpAny_nameGoes_keeps (Q:=fun _ s3=>R s3) hl hm9 hcls fun h' v a b=>k _ (J'.forget hN hi hm9 hl9 a b)
  cases f with
  | next =>
    obtain ⟨σ9,H9,J,z⟩:=q
    exact go (R:=fun s3=>SP X pins D .next s3) J fun s' J'=>⟨_,_,J',z⟩
  | brk =>
    obtain ⟨σ9,H9,J,z⟩:=q
    exact go (R:=fun s3=>SP X pins D .brk s3) J fun s' J'=>⟨_,_,J',z⟩
  | cont =>
    obtain ⟨σ9,H9,J,z⟩:=q
    exact go (R:=fun s3=>SP X pins D .cont s3) J fun s' J'=>⟨_,_,J',z⟩
  | ret u =>
    obtain ⟨v,σ9,H9,J,r,z⟩:=q
    exact go (R:=fun s3=>SP X pins D (.ret u) s3) J fun s' J'=>⟨v,_,_,J',r,z⟩
end
end L2
namespace L2
open PySem PySem.Spec PyProof.Rows
def clsV:V→Option Value
  | .ty T=>some (.type T)
  | .ref D=>some (.ref D)
  | _=>none
abbrev cIsx (K:PySem.W.Frag):RC:=fun xs H Q=>∃ a C c cv b,xs=[.ref a,c]∧H a=some (exO a C)∧ExK K C∧clsV c=some cv∧PySem.W.kitOne K (.ref C) cv=some b∧Q (.bl b) H
abbrev cIsxT (K:PySem.W.Frag):RC:=fun xs H Q=>∃ a C p,∃ cs:List Addr,∃ b,xs=[.ref a,.ref p]∧H a=some (exO a C)∧ExK K C∧H p=some (.tup (cs.map V.ref))∧PySem.W.kitAny K (.ref C) (cs.map Value.ref)=some b∧Q (.bl b) H
theorem vals_refs:∀ {cs:List Addr} {us:List Value},Vals (cs.map V.ref) us→us=cs.map Value.ref
  | [],_,.nil=>rfl
  | c :: r,_,.cons h t=>by rw [vals_refs t];cases h;rfl
section
variable {X:Cx}
theorem exO_at {P:Program} {w:World} {H:Hp} {h:Heap} {a C:Addr} (k:HOk P w H h) (e:H a=some (exO a C)):∃ o,h.get? a=some o∧o.cls=.ref C:=(k a _ e).1
theorem call_isx:CallR X (.builtin "isinstance") (cIsx X.K):=by
  intro pins s σ H xs us Q I r h
  obtain ⟨a,C,c,cv,b,rfl,ha,ek,hc,hk,q⟩:=h
  obtain ⟨u,w',rfl,r1,r2⟩:=vals2 r
  cases r1
  have e2:w'=cv:=by
    cases c <;> simp only [clsV,Option.some.injEq,reduceCtorEq] at hc
    · subst hc;exact r2
    · subst hc;exact r2
  subst e2
  exact PySem.W.kia_one (kitx_exc ek.toExC ek.has) I.kIn (exO_at I.hok ha) hk (fun z=>nomatch z) fun tk=>⟨.bl b,H,I.tok _,rfl,q⟩
theorem call_isxT:CallR X (.builtin "isinstance") (cIsxT X.K):=by
  intro pins s σ H xs us Q I r h
  obtain ⟨a,C,p,cs,b,rfl,ha,ek,hp,hk,q⟩:=h
  obtain ⟨u,w',rfl,r1,r2⟩:=vals2 r
  cases r1
  cases r2
  obtain ⟨_,its,rv,o,o1,o2,n,o3⟩:=(show ObjOk X.prog X.w H s.heap p (.tup (cs.map V.ref)) from I.hok p _ hp)
  obtain rfl:=vals_refs rv
  obtain ⟨oc,od,oda,osl⟩:=o
  obtain rfl:oc=.type "tuple":=o2
  obtain rfl:oda=.seq (cs.map Value.ref).toArray n:=o3
  exact PySem.W.kia_tup (kitx_exc ek.toExC ek.has) I.kIn (exO_at I.hok ha) o1 hk (fun z=>nomatch z) fun tk=>⟨.bl b,H,I.tok _,rfl,q⟩
end
theorem pass10 {P:Program} {w:World} {X:Cx}:Passes (CX1 P w) X E0:=fun _ _ _ _ _ _ _ h=>by
  obtain ⟨_,_,_,_,_,_,_,_,_,z⟩:=h
  exact z.elim
section
variable {P:Program} {w:World} {K:PySem.W.Frag} {mg:Str→Option Value} {base:Heap}
theorem Fun.ok1 {x qual:Str} {st:Stmt} {f:Addr} {fd:FuncData} {N ps:List Str} {k:Nat} {sp:Sp} (F:Fun K x qual st f fd) (S:FnScope N ps (defScope st)) (len:∀ vs H Q E,sp vs H Q E→vs.length=ps.length)
    (hbody:∀ (cdv:Value) (A:Around) (outer:List Env) (s:Shared) (H:Hp) (vs:List V) (Q:VK) (E:XK),Room k (A.deeper (envOfC qual (defScope st) s.heap.objs.size f cdv))→sp vs H Q E →
      ∃ t,PSs (cxOf (CX1 P w) P w K mg base N qual (defScope st) f cdv A outer s H E) (defBody st) t∧t { nx:=fun _ H'=>Q .non H',rt:=Q } (start N vs) H):FnOk P w K mg base (CX1 P w) (k + 1) f fd ps sp:=by
  obtain ⟨oc,od,kV,doc,pm,an,cdv,ct,osl,rfl,lk,hcd⟩:=F.ex
  exact fn_of lk hcd S len fun A outer s H vs Q E hr hsp=>hbody cdv A outer s H vs Q E hr hsp
theorem Fun.ok0 {x qual:Str} {st:Stmt} {f:Addr} {fd:FuncData} {N ps:List Str} {k:Nat} {sp:Sp} (F:Fun K x qual st f fd) (S:FnScope N ps (defScope st)) (len:∀ vs H Q E,sp vs H Q E→vs.length=ps.length)
    (hbody:∀ (cdv:Value) (A:Around) (outer:List Env) (s:Shared) (H:Hp) (vs:List V) (Q:VK) (E:XK),Room k (A.deeper (envOfC qual (defScope st) s.heap.objs.size f cdv))→sp vs H Q E →
      ∃ t,PSs (cxOf (CX1 P w) P w K mg base N qual (defScope st) f cdv A outer s H E).nox (defBody st) t∧t { nx:=fun _ H'=>Q .non H',rt:=Q } (start N vs) H):FnOk P w K mg base (CX1 P w) (k + 1) f fd ps sp :=
  F.ok1 S len fun cdv A outer s H vs Q E hr h=>let ⟨t,a,b⟩:=hbody cdv A outer s H vs Q E hr h;⟨t,a.nox,b⟩
end
theorem walk_ofX {l:PySem.W.OpenLaw} {n k:Nat} {q:Program} {loose:List Str} {XP:(Str→Option Value)→Heap→Prop} {YP:World→Heap→Prop} {d:DefRec} {K:Params→PySem.W.Frag} {sp:PySem.W.Frag→Sp} {x:Str}
    (hn:l.most=some n) (hn2:n≤sizeLine) (hdf:d.params.defaults=[]) (hr:Room k callerA)
    (hY:∀ (w:World) (h:Heap),YP w h→(K w.params).In h)
    (F:∀ (w:World) (mg:Str→Option Value) (fa:Addr) (h:Heap),(K w.params).In h→h.Ns mainGlobals mg→mg d.name=some (.ref fa) →
      ∃ fd:FuncData,(∀ (s:Shared) (u:Value),BindsTo s fd ⟨[u],[]⟩ [(x,u)]) ∧
        ∀ base:Heap,(K w.params).In base→base.Ns mainGlobals mg→FnOk l.prog w (K w.params) mg base (CX1 l.prog w) k fa fd [x] (sp (K w.params)))
    (hsp:∀ (K:PySem.W.Frag) (H:Hp) (a:Addr) (ns:List Int),ns.length≤n→Only H→SqL K H a (ns.map V.int)→sp K [.ref a] H (fun v _=>v=.bl true) fun _ _ _=>False) :
    PySem.W.WalkO q loose XP YP l.row.toRowW d [] (fun f vs=>PySem.call f vs) :=
  walk_of (K:=K) (CX:=fun w=>CX1 l.prog w) (sp:=fun w=>sp (K w.params)) hn hn2 hdf hr hY F (fun w H a ns h1 h2 h3=>hsp (K w.params) H a ns h1 h2 h3) fun _ _ _ _ _ z=>by
    obtain ⟨_,_,_,_,_,_,_,_,_,y⟩:=z
    exact y
end L2
namespace L2
open PySem
section
variable {σ:St} {H:Hp} {nx:St→Hp→Prop} {B:V→St→Hp→(St→Hp→Prop)→Prop}
theorem loop_range {lo:Int} {n:Nat} (Pv:Nat→St→Hp→Prop) (h0:Pv 0 σ H) (hs:∀ i σ H,i < n→Pv i σ H→B (.int (lo + i)) σ H (Pv (i + 1))) (hd:∀ σ H,Pv n σ H→nx σ H) :
    ∃ W:Nat→Nat→St→Hp→Prop,(∃ m,W 0 m σ H)∧∀ i m σ H,W i m σ H→((Itr lo n).stop i H∧nx σ H)∨((Itr lo n).go i H∧∃ N:St→Hp→Prop,(∀ σ' H',N σ' H'→∃ m',m' < m∧W (i + 1) m' σ' H')∧∀ x H',(Itr lo n).yld i H x H'→B x σ H' N):=by
  refine ⟨fun i m σ H=>m=n - i∧i≤n∧Pv i σ H,⟨n,by simp,Nat.zero_le _,h0⟩,?_⟩
  rintro i m σ H ⟨rfl,hi,p⟩
  by_cases hlt:i < n
  · refine .inr ⟨hlt,Pv (i + 1),fun σ' H' p'=>⟨n - (i + 1),by omega,rfl,hlt,p'⟩,?_⟩
    rintro x H' ⟨rfl,rfl⟩
    exact hs i σ _ hlt p
  · obtain rfl:i=n:=by omega
    exact .inl ⟨Nat.le_refl _,hd σ H p⟩
theorem loop_list {K:PySem.W.Frag} {a:Addr} (xs:List V) (Pv:Nat→St→Hp→Prop) (h0:Pv 0 σ H) (hl:∀ i σ H,Pv i σ H→SqL K H a xs) (hs:∀ i x σ H,xs[i]?=some x→Pv i σ H→B x σ H (Pv (i + 1))) (hd:∀ σ H,Pv xs.length σ H→nx σ H) :
    ∃ W:Nat→Nat→St→Hp→Prop,(∃ m,W 0 m σ H)∧∀ i m σ H,W i m σ H→((Itl K a).stop i H∧nx σ H)∨((Itl K a).go i H∧∃ N:St→Hp→Prop,(∀ σ' H',N σ' H'→∃ m',m' < m∧W (i + 1) m' σ' H')∧∀ x H',(Itl K a).yld i H x H'→B x σ H' N):=by
  refine ⟨fun i m σ H=>m=xs.length - i∧i≤xs.length∧Pv i σ H,⟨xs.length,by simp,Nat.zero_le _,h0⟩,?_⟩
  rintro i m σ H ⟨rfl,hi,p⟩
  have q:=hl i σ H p
  by_cases hlt:i < xs.length
  · refine .inr ⟨⟨xs,xs[i],q,by simp [hlt]⟩,Pv (i + 1),fun σ' H' p'=>⟨xs.length - (i + 1),by omega,rfl,hlt,p'⟩,?_⟩
    rintro x H' ⟨rfl,y⟩
    exact hs i x σ _ (y xs q) p
  · obtain rfl:i=xs.length:=by omega
    exact .inl ⟨⟨xs,q,Nat.le_refl _⟩,hd σ H p⟩
end
theorem comp_gen {J:It} {D:Addr} {τ₀:St} {H1:Hp} {Q:Hp→Prop} {B:V→St→Hp→(V→St→Hp→Prop)→(St→Hp→Prop)→Prop} (n:Nat) (hn:n≤1000000) (C:St→Prop) (R:Nat→V→Prop) (hC:C τ₀)
    (go:∀ i H,Same H1 H→i < n→J.go i H) (stop:∀ H,Same H1 H→J.stop n H) (hD:H1 D=none)
    (hs:∀ i x τ H H',C τ→Same H1 H→i < n→J.yld i H x H'→B x τ H' (fun v τ' H4=>C τ'∧R i v∧Same H H4) (fun _ _=>False))
    (hd:∀ ys H,ys.length=n→(∀ i v,ys[i]?=some v→R i v)→Same H1 H→H D=some (.lst ys)→Q H) :
    ∃ W:Nat→Nat→List V→St→Hp→Prop,(∃ m,W 0 m [] τ₀ (upd H1 D (.lst [])))∧∀ i m ys τ H,W i m ys τ H→H D=some (.lst ys) ∧
    ((J.stop i H∧Q H)∨(J.go i H∧ys.length < sizeLine∧∃ N:V→St→Hp→Prop,
      (∀ v τ' H',N v τ' H'→H' D=some (.lst ys)∧∃ m',m' < m∧W (i + 1) m' (ys ++ [v]) τ' (upd H' D (.lst (ys ++ [v]))))∧∃ Nf:St→Hp→Prop,(∀ τ' H',Nf τ' H'→∃ m',m' < m∧W (i + 1) m' ys τ' H') ∧
      ∀ x H',J.yld i H x H'→B x τ H' N Nf)):=by
  have ext:∀ {H:Hp} {o:HO},Same H1 H→Same H1 (upd H D o):=fun {H o} h b u e=>by
    rw [upd_ne (ne_of_none e hD)];exact h b u e
  refine ⟨fun i m ys τ H=>m=n - i∧i≤n∧ys.length=i∧(∀ j v,ys[j]?=some v→R j v)∧Same H1 H∧H D=some (.lst ys)∧C τ,⟨n,by simp,Nat.zero_le _,rfl,by simp,ext (Same.refl _),upd_same,hC⟩,?_⟩
  rintro i m ys τ H ⟨rfl,hi,hl,hR,hS,hy,hc⟩
  refine ⟨hy,?_⟩
  by_cases hlt:i < n
  · refine .inr ⟨go i H hS hlt,Nat.lt_of_le_of_lt (by omega:ys.length≤1000000) (by decide),(fun v τ' H4=>C τ'∧R i v∧Same H H4),?_,(fun _ _=>False),fun _ _ z=>z.elim,fun x H' y=>hs i x τ H H' hc hS hlt y⟩
    rintro v τ' H4 ⟨c4,r4,s4⟩
    refine ⟨s4 _ _ hy,n - (i + 1),by omega,rfl,hlt,by simp [hl],fun j u hj=>?_,ext (hS.trans s4),upd_same,c4⟩
    rcases Nat.lt_trichotomy j ys.length with h | h | h
    · exact hR j u (by rwa [List.getElem?_append_left h] at hj)
    · subst h
      simp at hj
      subst hj
      rw [hl];exact r4
    · rw [List.getElem?_eq_none (by simp;omega)] at hj;cases hj
  · obtain rfl:i=n:=by omega
    exact .inl ⟨stop H hS,hd ys H hl hR hS hy⟩
theorem sIx_eq (n d:Nat) (v:Int):max (0:Int) (min (if v < 0 then v + n else v) n)=((HT.sIx n d (some v):Nat):Int):=by
  show _=(((if v < 0 then (v + (n:Int)).toNat else min v.toNat n):Nat):Int)
  by_cases hv:v < 0
  · simp only [if_pos hv];omega
  · simp only [if_neg hv];omega
theorem rng_one (a b:Nat):sliceRange (a:Int) (b:Int) 1=(List.range (b - a)).map fun k=>a + k:=by
  simp only [sliceRange,show ((1:Int) > 0)=True from by simp,if_true]
  by_cases hlt:(a:Int) < b
  · have e3:(((b:Int) - a + 1 - 1) / 1).toNat=b - a:=by rw [Int.ediv_one];omega
    simp only [hlt,if_true,e3]
    refine List.map_congr_left fun k _=>?_
    omega
  · have:b - a=0:=by omega
    simp [hlt,this]
theorem slice_ix (lo hi:Option Int) (n:Nat):Builtin.Str.strSliceIndices lo hi 1 n=(List.range (HT.sIx n n hi - HT.sIx n 0 lo)).map fun k=>HT.sIx n 0 lo + k:=by
  rw [← rng_one]
  unfold Builtin.Str.strSliceIndices
  simp only [show ((1:Int) > 0)=True from by simp,if_true]
  cases lo with
  | none =>
    cases hi with
    | none=>rfl
    | some v=>simp only [sIx_eq n n v];rfl
  | some u =>
    cases hi with
    | none=>simp only [sIx_eq n 0 u];rfl
    | some v=>simp only [sIx_eq n n v,sIx_eq n 0 u]
theorem slice_cps (x:Str) (lo hi:Option Int):(Txt.slice x lo hi).cps.toList=(x.cps.toList.drop (HT.sIx x.length 0 lo)).take (HT.sIx x.length x.length hi - HT.sIx x.length 0 lo):=by
  have hb:=HT.sIx_le x.length x.length (Nat.le_refl _) hi
  have hn:x.cps.toList.length=x.length:=by simp [Str.length]
  unfold Txt.slice
  rw [slice_ix]
  split
  · rename_i h
    have h':HT.sIx x.length x.length hi - HT.sIx x.length 0 lo=x.length:=by simpa using h
    have e0:HT.sIx x.length 0 lo=0∨x.length=0:=by omega
    rcases e0 with e0 | e0
    · rw [e0,List.drop_zero,List.take_of_length_le]
      omega
    · rw [List.eq_nil_of_length_eq_zero (by omega:x.cps.toList.length=0)];simp
  · by_cases hab:HT.sIx x.length 0 lo≤HT.sIx x.length x.length hi
    · have h:=StrLaws.picks x.cps.toList (HT.sIx x.length x.length hi - HT.sIx x.length 0 lo) (HT.sIx x.length 0 lo) (by omega)
      simpa using h
    · have:HT.sIx x.length x.length hi - HT.sIx x.length 0 lo=0:=by omega
      rw [this];simp
theorem slice_to (x:Str) (k:Nat):(Txt.slice x none (some (k:Int))).cps.toList=x.cps.toList.take k:=by
  rw [slice_cps,HT.sIx_none,HT.sIx_nat,List.drop_zero,Nat.sub_zero]
  have hn:x.cps.toList.length=x.length:=by simp [Str.length]
  by_cases h:k≤x.length
  · rw [Nat.min_eq_left h]
  · rw [Nat.min_eq_right (by omega),List.take_of_length_le (by omega),List.take_of_length_le (by omega)]
theorem str_ext {x y:Str} (h:x.cps.toList=y.cps.toList):x=y:=by
  obtain ⟨a⟩:=x
  obtain ⟨b⟩:=y
  have:a=b:=Array.toList_inj.mp h
  rw [this]
theorem cps_app (x y:Str):(x ++ y).cps.toList=x.cps.toList ++ y.cps.toList:=by
  show (x.cps ++ y.cps).toList=_
  simp
open PySem.NumText in
section
def numS (w:Int):Str:=Str.ofString (toString w)
theorem len_cps (x:Str):x.length=x.cps.toList.length:=by simp [Str.length]
def inF (c:Nat):Bool:=!(Builtin.Str.occurrences "0123456789" ⟨#[c]⟩ 0 (Str.length "0123456789") 1).isEmpty
def isFig (x:Str):Bool:=!decide (x="") && x.cps.toList.all inF
def inW (i:Int):Bool:=decide (-1000000000000000000000000000000≤i∧i≤1000000000000000000000000000000)
def fpart (x:Str):Str:=if (x.cps.toList.take 1 == [45])=true then Txt.slice x (some 1) none else x
def valOf (x:Str):Int:=(intText? x).getD 0
def isNum (x:Str):Bool:=!(decide (31 < (fpart x).length) || !isFig (fpart x)) && (inW (valOf x) && decide (numS (valOf x)=x))
end
end L2
namespace L2
open PySem PySem.Spec PyProof.Rows
def findS (x y:Str):Int:=match Builtin.Str.occurrences x y 0 x.length 1 with | i :: _=>(i:Int) | []=>-1
abbrev r_mt_find:RM:=fun x xs H Q=>∃ a b,x=.str a∧xs=[.str b]∧Q (.int (findS a b)) H
def joinS (sep:Str):List Str→Str
  | [p]=>p
  | l=>Builtin.Str.glued sep l
def sumL (sep:Str) (ls:List Str):Nat:=ls.foldl (fun n p=>n + p.length + sep.length) 0
abbrev r_mt_join (K:PySem.W.Frag):RM:=fun x xs H Q=>∃ sep a ls,x=.str sep∧xs=[.ref a]∧SqL K H a (ls.map V.str)∧sumL sep ls≤sizeLine∧Q (.str (joinS sep ls)) H
def repS (x:Str) (n:Int):Str:=if n < 1 then Str.empty else if (n == 1 || x.length == 0)=true then x else ⟨(List.replicate n.toNat x.cps).foldl (· ++ ·) #[]⟩
abbrev rMulS:R2:=fun x y H Q=>∃ a n,x=.str a∧y=.int n∧(n < 1000000∧-1000000 < n∧a.length * n.toNat≤1000000)∧Q (.str (repS a n)) H
section
variable {X:Cx}
end
theorem len_app (x y:Str):(x ++ y).length=x.length + y.length:=Str.length_append x y
end L2
namespace L2
open PySem PySem.Spec PyProof.Rows
section
open PySem.NumText
end
end L2
namespace L2
open PySem PySem.Spec PyProof.Rows
section
variable {X:Cx}
abbrev cIntB:RC:=fun xs H Q=>∃ b:Bool,xs=[.bl b]∧Q (.int (if b then 1 else 0)) H
theorem call_int_bl:CallR X (.type "int") cIntB:=by
  intro pins s σ H xs us Q I r h
  obtain ⟨b,rfl,q⟩:=h
  obtain ⟨u,rfl,r1⟩:=vals1 r
  cases r1
  exact call_int_bool ⟨.int _,H,I.tok _,⟨_,rfl⟩,q⟩
end
theorem hu64 {k:Nat} {A:Around} (r:Room k A):A.units + 64 < cLine:=by have:=r.un;omega
def datV:V→PyData
  | .non=>.none
  | .bl b=>.bool b
  | .int i=>.int i
  | .str x=>.str x
  | _=>.none
def isFlat:V→Bool
  | .non=>true
  | .bl _=>true
  | .int _=>true
  | .str x=>PyData.strOk x
  | _=>false
theorem Asc.flat {x:Str} (h:Asc x):isFlat (.str x)=true:=by
  unfold isFlat PyData.strOk
  rw [Array.all_eq_true]
  intro i hi
  have:=h x.cps[i] (by simp)
  exact decide_eq_true (by omega)
def mixV:V→V→Bool
  | .bl _,.int _=>false
  | .int _,.bl _=>false
  | _,_=>true
def mixAll:List V→List V→Bool
  | x :: xs,y :: ys=>mixV x y && mixAll xs ys
  | _,_=>true
theorem carried_of:∀ {xs:List V} {us:List Value},xs.all isFlat=true→Vals xs us→CarriedAll us (xs.map datV)
  | [],_,_,.nil=>.nil
  | x :: r,_,h,.cons rx t=>by
    rw [List.all_cons,Bool.and_eq_true] at h
    refine .cons ?_ (carried_of h.2 t)
    cases x with
    | non=>cases rx;exact .none
    | bl b=>cases rx;exact .bool b
    | int i=>obtain ⟨t,rfl⟩:=rx;exact .int i t
    | str x=>obtain ⟨t,rfl⟩:=rx;exact .str x t
    | byt b=>exact absurd h.1 (by simp [isFlat])
    | flt b=>exact absurd h.1 (by simp [isFlat])
    | ref a=>exact absurd h.1 (by simp [isFlat])
    | ty n=>exact absurd h.1 (by simp [isFlat])
theorem same_dat {x y:V} (hx:isFlat x=true) (hy:isFlat y=true):PySem.Spec.same (datV x) (datV y)=decide (x=y):=by
  cases x <;> cases y <;> simp_all [isFlat,datV,PySem.Spec.same] <;> (rename_i a b;by_cases e:a=b <;> simp [e])
theorem sameAll_dat:∀ {xs ys:List V},xs.all isFlat=true→ys.all isFlat=true→PySem.Spec.sameAll (xs.map datV) (ys.map datV)=decide (xs=ys)
  | [],[],_,_=>by simp [PySem.Spec.sameAll]
  | [],_ :: _,_,_=>by simp [PySem.Spec.sameAll]
  | _ :: _,[],_,_=>by simp [PySem.Spec.sameAll]
  | x :: r,y :: t,hx,hy=>by
    rw [List.all_cons,Bool.and_eq_true] at hx hy
    rw [List.map_cons,List.map_cons,PySem.Spec.sameAll,same_dat hx.1 hy.1,sameAll_dat hx.2 hy.2]
    by_cases a:x=y <;> by_cases b:r=t <;> simp [a,b]
theorem noMix_dat {x y:V} (hx:isFlat x=true) (hy:isFlat y=true) (h:mixV x y=true):SeqAt.noMix (datV x) (datV y)=true:=by
  cases x <;> cases y <;> simp_all [isFlat,datV,SeqAt.noMix,mixV]
theorem noMixAll_dat:∀ {xs ys:List V},xs.all isFlat=true→ys.all isFlat=true→mixAll xs ys=true→SeqAt.noMixAll (xs.map datV) (ys.map datV)=true
  | [],[],_,_,_=>by simp [SeqAt.noMixAll]
  | [],_ :: _,_,_,_=>by simp [SeqAt.noMixAll]
  | _ :: _,[],_,_,_=>by simp [SeqAt.noMixAll]
  | x :: r,y :: t,hx,hy,h=>by
    rw [List.all_cons,Bool.and_eq_true] at hx hy
    rw [mixAll,Bool.and_eq_true] at h
    rw [List.map_cons,List.map_cons,SeqAt.noMixAll,noMix_dat hx.1 hy.1 h.1,noMixAll_dat hx.2 hy.2 h.2]
    rfl
theorem shaped_dat {xs:List V} (h:xs.all isFlat=true):SeqAt.shaped (.list (xs.map datV))=true∧SeqAt.shaped (.tuple (xs.map datV))=true:=by
  have a:∀ x,isFlat x=true→(datV x).canLay0=true∧(datV x).depth=0:=fun x=>by cases x <;> simp [datV,PyData.canLay0,PyData.depth,isFlat]
  have l:∀ ys:List V,ys.all isFlat=true→PyData.canLayAll0 (ys.map datV)=true∧PyData.depthAll (ys.map datV)=0:=by
    intro ys
    induction ys with
    | nil=>exact fun _=>⟨rfl,rfl⟩
    | cons y r ih =>
      intro h
      rw [List.all_cons,Bool.and_eq_true] at h
      exact ⟨by rw [List.map_cons,PyData.canLayAll0,(a y h.1).1,(ih h.2).1];rfl,by rw [List.map_cons,PyData.depthAll,(a y h.1).2,(ih h.2).2];rfl⟩
  exact ⟨by simp [SeqAt.shaped,PyData.canLay0,PyData.depth,(l xs h).1,(l xs h).2],by simp [SeqAt.shaped,PyData.canLay0,PyData.depth,(l xs h).1,(l xs h).2]⟩
abbrev rEqL (K:PySem.W.Frag) (neg:Bool):R2:=fun x y H Q=>∃ a b xs ys,x=.ref a∧y=.ref b∧SqL K H a xs∧SqL K H b ys∧(xs.all isFlat=true∧ys.all isFlat=true∧mixAll xs ys=true)∧Q (.bl (if neg then !decide (xs=ys) else decide (xs=ys))) H
section
variable {X:Cx}
theorem op_eqL (hu:X.A.units + 64 < cLine):OpR X (compareOp .Eq) (rEqL X.K false):=by
  intro pins s σ H x y v u Q I rx ry h
  obtain ⟨a,b,xs,ys,rfl,rfl,ha,hb,⟨f1,f2,f3⟩,q⟩:=h
  cases rx
  cases ry
  obtain ⟨us,r1,p1,_⟩:=I.list ha
  obtain ⟨ws,r2,p2,_⟩:=I.list hb
  refine eq_dataH_same (reads_newData p1.isList (carried_of f1 r1)) (reads_newData p2.isList (carried_of f2 r2)) (shaped_dat f1).1 (shaped_dat f2).1 hu (by rw [SeqAt.noMix];exact noMixAll_dat f1 f2 f3) ?_
  rw [PySem.Spec.same,sameAll_dat f1 f2]
  exact ⟨.bl _,H,I,rfl,q⟩
abbrev rEqNil (K:PySem.W.Frag):R2:=fun x y H Q=>∃ a b xs,x=.ref a∧y=.ref b∧SqL K H a xs∧SqL K H b []∧Q (.bl (decide (xs=[]))) H
theorem op_eqNil (hu:X.A.units + 64 < cLine):OpR X (compareOp .Eq) (rEqNil X.K):=by
  intro pins s σ H x y v u Q I rx ry h
  obtain ⟨a,b,xs,rfl,rfl,ha,hb,q⟩:=h
  by_cases e:xs=[]
  · subst e
    exact op_eqL hu pins s σ H _ _ v u Q I rx ry ⟨a,b,[],[],rfl,rfl,ha,hb,⟨rfl,rfl,rfl⟩,q⟩
  · cases rx
    cases ry
    obtain ⟨us,r1,p1,_⟩:=I.list ha
    obtain ⟨ws,r2,p2,_⟩:=I.list hb
    cases r2
    have e1:=r1.length
    have e2:xs.length≠0:=fun z=>e (List.eq_nil_of_length_eq_zero z)
    refine PySem.SeqAt.eq_list_lengthsAt p1.isList p2.isList (by simp;intro z;rw [z] at e1;exact e2 e1) (by omega) ?_
    rw [decide_eq_false e] at q
    exact ⟨.bl false,H,I,rfl,q⟩
end
end L2
namespace L2
open PySem PySem.Spec PyProof.Rows
abbrev r_mt_append:RM:=rAppend
abbrev r_mt_pop:RM:=rPop
def jw:List V:=[.str "plus",.str "minus",.str "times",.str "over",.str "rest",.str "under",.str "same"]
def isJ (v:V):Bool:=inV v jw
inductive Er where
  | nought | great | stuck
  deriving DecidableEq
def comeV (w:Str) (a b:Int):Int :=
  if w="plus" then a + b else if w="minus" then a - b else if w="times" then a * b else if w="under" then (if a < b then 1 else 0) else if w="same" then (if a=b then 1 else 0) else if w="over" then a.fdiv b else a.fmod b
def isDiv (w:Str):Prop:=¬ w="plus"∧¬ w="minus"∧¬ w="times"∧¬ w="under"∧¬ w="same"
instance (w:Str):Decidable (isDiv w):=by unfold isDiv;infer_instance
def joinE (w:Str) (a b:Int):Except Er Int:=if isDiv w∧b=0 then .error .nought else if inW (comeV w a b)=true then .ok (comeV w a b) else .error .great
def wrth (kvs:List (Key × V)):V→Int
  | .int i=>i
  | .str x=>(match valV kvs (.inr x) with | some (.int i)=>i | _=>0)
  | _=>0
def stepE (kvs:List (Key × V)) (st:List Int) (v:V):Except Er (List Int) :=
  if isJ v=true then (match v,st.reverse with | .str w,b :: a :: r=>(match joinE w a b with | .ok c=>.ok (r.reverse ++ [c]) | .error e=>.error e) | _,_=>.error .stuck) else .ok (st ++ [wrth kvs v])
def runE (kvs:List (Key × V)):List V→List Int→Except Er (List Int)
  | [],st=>.ok st
  | v :: r,st=>match stepE kvs st v with | .ok st'=>runE kvs r st' | .error e=>.error e
section
variable {kvs:List (Key × V)}
def Good (kvs:List (Key × V)) (ps:List V) (r:Except Er Int):Prop:=(∀ st,runE kvs ps st=match r with | .ok i=>.ok (st ++ [i]) | .error e=>.error e)∧r≠.error .stuck
end
def okPart (v:V):Prop:=(∃ i,v=.int i∧inW i=true)∨∃ x:Str,v=.str x∧x.length≤1000
def SlotsOk (kvs:List (Key × V)):Prop:=∀ k v,valV kvs k=some v→∃ i,v=.int i∧inW i=true
theorem wrth_inW {kvs:List (Key × V)} (h:SlotsOk kvs) {v:V} (hv:okPart v):inW (wrth kvs v)=true:=by
  rcases hv with ⟨i,rfl,hi⟩ | ⟨x,rfl,_⟩
  · exact hi
  · show inW (match valV kvs (.inr x) with | some (.int i)=>i | _=>0)=true
    cases e:valV kvs (.inr x) with
    | none=>rfl
    | some u =>
      obtain ⟨i,rfl,hi⟩:=h _ _ e
      exact hi
theorem isJ_str (w:Str):isJ (.str w)=true↔(w="plus"∨w="minus"∨w="times"∨w="over"∨w="rest"∨w="under"∨w="same"):=by
  unfold isJ inV jw
  simp only [List.any_cons,List.any_nil,eqV,Bool.or_false,Bool.or_eq_true,beq_iff_eq]
  constructor
  · rintro (h | h | h | h | h | h | h) <;> simp [← h]
  · rintro (h | h | h | h | h | h | h) <;> simp [h]
end L2
namespace L2
open PySem PySem.Spec PyProof.Rows
def Itv (K:PySem.W.Frag) (a:Addr) (xs:List V):It:=⟨fun i H=>i < xs.length∧SqL K H a xs,fun i H x H'=>H'=H∧xs[xs.length - 1 - i]?=some x,fun i _=>xs.length≤i⟩
def iRev (K:PySem.W.Frag) (ta:TA):TI:=fun σ H R=>ta σ H fun vs H1=>∃ a xs,vs=[.ref a]∧SqL K H1 a xs∧R (Itv K a xs) H1
section
variable {X:Cx} {tg:Expr}
end
section
variable {σ:St} {H:Hp} {nx:St→Hp→Prop} {B:V→St→Hp→(St→Hp→Prop)→Prop}
end
end L2
namespace L2
open PySem PySem.Spec PyProof.Rows
abbrev cLst (K:PySem.W.Frag):RC:=fun xs H Q=>∃ p ys,xs=[.ref p]∧(SqL K H p ys∨SqT K H p ys)∧∀ l,H l=none→Q (.ref l) (upd H l (.lst ys))
abbrev cMin:RC:=fun xs H Q=>∃ i j,xs=[.int i,.int j]∧Q (.int (if j < i then j else i)) H
def inL (c:Nat):Bool:=!(Builtin.Str.occurrences "abcdefghijklmnopqrstuvwxyz" ⟨#[c]⟩ 0 (Str.length "abcdefghijklmnopqrstuvwxyz") 1).isEmpty
def wl:List V:=[.str "take",.str "give",.str "let",.str "say",.str "off",.str "if",.str "else",.str "end",.str "as"]
def isName (x:Str):Bool:=!(decide (x="") || decide (6 < x.length)) && !(inV (.str x) jw || inV (.str x) wl) && x.cps.toList.all inL
theorem inL_iff (c:Nat):inL c=true→97≤c∧c≤122:=by
  unfold inL
  rw [StrLaws.found_one]
  have e:(Str.ofString "abcdefghijklmnopqrstuvwxyz").cps.toList=[97,98,99,100,101,102,103,104,105,106,107,108,109,110,111,112,113,114,115,116,117,118,119,120,121,122]:=by decide +kernel
  rw [e]
  simp only [decide_eq_true_eq,List.mem_cons,List.not_mem_nil,or_false]
  omega
theorem isName_parts {x:Str} (h:isName x=true):x.cps.toList≠[]∧x.length≤6∧isJ (.str x)=false∧x.cps.toList.all inL=true:=by
  unfold isName at h
  rw [Bool.and_eq_true,Bool.and_eq_true,Bool.not_eq_true',Bool.not_eq_true',Bool.or_eq_false_iff,Bool.or_eq_false_iff,decide_eq_false_iff_not,decide_eq_false_iff_not] at h
  refine ⟨fun z=>h.1.1.1 (str_ext (by rw [z];decide +kernel)),by omega,h.1.2.1,h.2⟩
def partW (w:Str):Option V:=if isName w=true then some (.str w) else if isNum w=true then some (.int (valOf w)) else none
inductive Tw where
  | leaf (w:Str) | node (w:Str) (a b:Tw)
def pre:Tw→List Str
  | .leaf w=>[w]
  | .node w a b=>w :: (pre a ++ pre b)
def wfT:Tw→Prop
  | .leaf w=>isJ (.str w)=false
  | .node w a b=>isJ (.str w)=true∧wfT a∧wfT b
def okT:Tw→Bool
  | .leaf w=>(partW w).isSome
  | .node _ a b=>okT a && okT b
def pvw (w:Str):V:=(partW w).getD (.str w)
def pst:Tw→List V
  | .leaf w=>[pvw w]
  | .node w a b=>pst a ++ pst b ++ [.str w]
def scanE:List Str→Nat→Option Nat
  | _,0=>some 0
  | [],_ + 1=>none
  | w :: r,d + 1=>(scanE r (if isJ (.str w)=true then d + 2 else d)).map (· + 1)
def stepR (st:List (List V)) (w:Str):Except Bool (List (List V)) :=
  if isJ (.str w)=true then (match st.reverse with | a :: b :: r=>.ok (r.reverse ++ [a ++ b ++ [.str w]]) | _=>.error false) else (match partW w with | some v=>.ok (st ++ [[v]]) | none=>.error true)
def runR:List Str→List (List V)→Except Bool (List (List V))
  | [],st=>.ok st
  | w :: r,st=>match stepR st w with | .ok st'=>runR r st' | .error e=>.error e
theorem runR_app:∀ (p q:List Str) (st:List (List V)),runR (p ++ q) st=match runR p st with | .ok st'=>runR q st' | .error e=>.error e
  | [],q,st=>rfl
  | v :: r,q,st=>by
    show (match stepR st v with | .ok st'=>runR (r ++ q) st' | .error e=>.error e)=match (match stepR st v with | .ok st'=>runR r st' | .error e=>.error e) with | .ok st'=>runR q st' | .error e=>.error e
    cases stepR st v with
    | error e=>rfl
    | ok st'=>exact runR_app r q st'
theorem star_const {c:Const} {j:Nat} {p:Pos} {es:List Expr} {env:Env}:starEach (.Constant c j p :: es) env=(false,eval (.Constant c j p) env) :: starEach es env:=by
  first | rfl | simp only [starEach]
theorem pa_str {X:Cx} {es:List Expr} {t:TA} {x:Str} {j:Nat} {p:Pos} (hr:PA X es t):PA X (.Constant (.str x) j p :: es) (tCons (tC (.str x)) t):=pa_cons pe_str hr star_const
end L2
namespace L2
open PySem PySem.Spec PyProof.Rows
abbrev cDct:RC:=fun xs H Q=>∃ a kvs,xs=[.ref a]∧H a=some (.dK kvs)∧∀ p,H p=none→Q (.ref p) (upd H p (.dK kvs))
abbrev rNeD:R2:=fun x y H Q=>∃ a b kvs,x=.ref a∧y=.ref b∧H a=some (.dK kvs)∧H b=some (.dK kvs)∧(∀ p∈kvs,∃ i,p.2=V.int i)∧Q (.bl false) H
section
variable {X:Cx}
end
def LW (x:Str):Prop:=x.cps.toList.all inL=true∧1≤x.length∧x.length≤6
theorem wl_str (w:Str):inV (.str w) wl=true↔(w="take"∨w="give"∨w="let"∨w="say"∨w="off"∨w="if"∨w="else"∨w="end"∨w="as"):=by
  unfold inV wl
  simp only [List.any_cons,List.any_nil,eqV,Bool.or_false,Bool.or_eq_true,beq_iff_eq]
  constructor
  · rintro (h | h | h | h | h | h | h | h | h) <;> simp [← h]
  · rintro (h | h | h | h | h | h | h | h | h) <;> simp [h]
theorem name_asc {x:Str} (h:isName x=true):Asc x:=fun c hc=>by
  have:=inL_iff c (List.all_eq_true.mp (isName_parts h).2.2.2 c hc)
  omega
theorem all_take {l:List Nat} (h:l.all inL=true) (n:Nat):(l.take n).all inL=true:=by
  rw [List.all_eq_true] at h ⊢
  exact fun c hc=>h c (List.mem_of_mem_take hc)
theorem all_app {a b:List Nat} (h:a.all inL=true) (h':b.all inL=true):(a ++ b).all inL=true:=by
  rw [List.all_append,h,h'];rfl
end L2
namespace L2
open PySem PySem.Spec PyProof.Rows
section
variable {P:Program} {w:World} {A:Around} {E:Value→Shared→Prop} {s:Shared}
end
section
variable {P:Program} {w:World} {A:Around} {E:Value→Shared→Prop} {s:Shared}
end
section
variable {P:Program} {w:World} {A:Around} {E:Value→Shared→Prop} {s:Shared}
end
def Itz (K:PySem.W.Frag) (p q:Addr) (xs ys:List V):It:=⟨fun i H=>i < xs.length∧SqT K H p xs∧SqT K H q ys,fun i H x H'=>∃ T u v,x=.ref T∧H T=none∧H'=upd H T (.tup [u,v])∧xs[i]?=some u∧ys[i]?=some v,fun i H=>xs.length≤i∧SqT K H p xs∧SqT K H q ys⟩
def iZip (K:PySem.W.Frag) (ta:TA):TI:=fun σ H R=>ta σ H fun vs H1=>∃ p q xs ys,vs=[.ref p,.ref q]∧SqT K H1 p xs∧SqT K H1 q ys∧xs.length=ys.length∧R (Itz K p q xs ys) H1
section
variable {X:Cx}
end
section
variable {σ:St} {H:Hp} {nx:St→Hp→Prop} {B:V→St→Hp→(St→Hp→Prop)→Prop}
end
abbrev cTup (K:PySem.W.Frag):RC:=fun xs H Q=>∃ p ys,xs=[.ref p]∧((SqL K H p ys∧∀ l,H l=none→Q (.ref l) (upd H l (.tup ys)))∨(SqT K H p ys∧Q (.ref p) H))
def stepA (st:List (List V)) (v:V):Option (List (List V)):=if isJ v=true then (match st.reverse with | b :: a :: r=>some (r.reverse ++ [v :: (a ++ b)]) | _=>none) else some (st ++ [[v]])
def runA:List V→List (List V)→Option (List (List V))
  | [],st=>some st
  | v :: r,st=>(stepA st v).bind (runA r)
theorem runA_app:∀ (p q:List V) (st:List (List V)),runA (p ++ q) st=(runA p st).bind (runA q)
  | [],q,st=>rfl
  | v :: r,q,st=>by
    show (stepA st v).bind (runA (r ++ q))=((stepA st v).bind (runA r)).bind (runA q)
    cases stepA st v with
    | none=>rfl
    | some st'=>exact runA_app r q st'
end L2
namespace L2
open PySem PySem.W PyProof.Rows
section
variable {α β:Type} {lt:Nat→Nat→Bool} {n:Nat}
def kOk (lt:Nat→Nat→Bool) (n:Nat):KasT α→(α→Prop)→Prop
  | .ret a,R=>R a
  | .ask i j k,R=>i < n∧j < n∧i≠j∧kOk lt n (k (lt i j)) R
theorem kOk_bind:∀ {t:KasT α} {f:α→KasT β} {R:β→Prop},kOk lt n t (fun a=>kOk lt n (f a) R)→kOk lt n (t.bind f) R
  | .ret _,_,_,h=>h
  | .ask _ _ _,_,_,h=>⟨h.1,h.2.1,h.2.2.1,kOk_bind h.2.2.2⟩
theorem kOk_mono:∀ {t:KasT α} {R R':α→Prop},kOk lt n t R→(∀ a,R a→R' a)→kOk lt n t R'
  | .ret _,_,_,h,m=>m _ h
  | .ask _ _ _,_,_,h,m=>⟨h.1,h.2.1,h.2.2.1,kOk_mono h.2.2.2 m⟩
structure SO (lt:Nat→Nat→Bool) (n:Nat):Prop where
  irr:∀ i,i < n→lt i i=false
  trans:∀ i j k,i < n→j < n→k < n→lt i j=true→lt j k=true→lt i k=true
  tot:∀ i j,i < n→j < n→i≠j→lt i j=false→lt j i=true
def PP (n:Nat) (p:Array Nat):Prop:=p.Perm (List.range n).toArray
def gt (p:Array Nat) (k:Nat):Nat:=p.getD k 0
theorem gt_eq {p:Array Nat} {k:Nat} (h:k < p.size):p[k]?=some (gt p k):=by
  unfold gt
  rw [Array.getD_eq_getD_getElem?,Array.getElem?_eq_getElem h]
  rfl
theorem PP.size {p:Array Nat} (h:PP n p):p.size=n:=by
  have:=h.size_eq
  simpa using this
theorem PP.blt {p:Array Nat} (h:PP n p) {k:Nat} (hk:k < n):gt p k < n:=by
  have hs:=h.size
  have m:gt p k∈p:=Array.mem_of_getElem? (gt_eq (by omega))
  have m2:gt p k∈(List.range n).toArray:=(Array.Perm.mem_iff h).mp m
  simpa using m2
theorem PP.inj {p:Array Nat} (h:PP n p) {i j:Nat} (hi:i < n) (hj:j < n) (e:gt p i=gt p j):i=j:=by
  have hs:=h.size
  have nd:p.toList.Nodup:=by
    have:p.toList.Perm (List.range n):=by
      have:=Array.perm_iff_toList_perm.mp h
      simpa using this
    exact this.nodup_iff.mpr List.nodup_range
  have e1:=gt_eq (p:=p) (k:=i) (by omega)
  have e2:=gt_eq (p:=p) (k:=j) (by omega)
  rw [← e] at e2
  have e1':p.toList[i]?=some (gt p i):=by simpa using e1
  have e2':p.toList[j]?=some (gt p i):=by simpa using e2
  obtain ⟨a1,b1⟩:=List.getElem?_eq_some_iff.mp e1'
  obtain ⟨a2,b2⟩:=List.getElem?_eq_some_iff.mp e2'
  exact (List.getElem_inj nd).mp (b1.trans b2.symm)
def Rise (lt:Nat→Nat→Bool) (p:Array Nat) (m:Nat):Prop:=∀ i j,i < j→j < m→lt (gt p i) (gt p j)=true
def Fall (lt:Nat→Nat→Bool) (p:Array Nat) (m:Nat):Prop:=∀ i j,i < j→j < m→lt (gt p j) (gt p i)=true
theorem asc_ok (S:SO lt n) {p:Array Nat} (hp:PP n p):∀ (f a:Nat),1≤a→a + f≤n→Rise lt p a→kOk lt n (kas_asc p f a) fun m=>a≤m∧m≤a + f∧Rise lt p m∧(m < a + f→lt (gt p m) (gt p (m - 1))=true)
  | 0,a,h1,h2,hr=>⟨Nat.le_refl _,Nat.le_refl _,hr,fun z=>absurd z (Nat.lt_irrefl _)⟩
  | f + 1,a,h1,h2,hr=>by
    refine ⟨hp.blt (by omega),hp.blt (by omega),(fun z=>by have:=hp.inj (by omega) (by omega) z;omega),?_⟩
    show kOk lt n (if lt (gt p a) (gt p (a - 1))=true then .ret a else kas_asc p f (a + 1)) _
    by_cases c:lt (gt p a) (gt p (a - 1))=true
    · rw [if_pos c]
      exact ⟨Nat.le_refl _,by omega,hr,fun _=>c⟩
    · rw [if_neg c]
      have up:lt (gt p (a - 1)) (gt p a)=true:=S.tot _ _ (hp.blt (by omega)) (hp.blt (by omega)) (fun z=>by have:=hp.inj (by omega) (by omega) z;omega) (Bool.eq_false_iff.mpr c)
      refine kOk_mono (asc_ok S hp f (a + 1) (by omega) (by omega) fun i j hij hj=>?_) fun m ⟨x1,x2,x3,x4⟩=>⟨by omega,by omega,x3,fun z=>x4 (by omega)⟩
      by_cases hja:j < a
      · exact hr i j hij hja
      · obtain rfl:j=a:=by omega
        by_cases hi:i=j - 1
        · rw [hi];exact up
        · exact S.trans _ _ _ (hp.blt (by omega)) (hp.blt (by omega)) (hp.blt (by omega)) (hr i (j - 1) (by omega) (by omega)) up
theorem desc_ok (S:SO lt n) {p:Array Nat} (hp:PP n p):∀ (f a:Nat),1≤a→a + f≤n→Fall lt p a→kOk lt n (kas_desc f p a 0) fun r=>r.1=p∧r.2.2=0∧a≤r.2.1∧r.2.1≤a + f∧Fall lt p r.2.1
  | 0,a,h1,h2,hr=>⟨rfl,rfl,Nat.le_refl _,Nat.le_refl _,hr⟩
  | f + 1,a,h1,h2,hr=>by
    refine ⟨hp.blt (by omega),hp.blt (by omega),(fun z=>by have:=hp.inj (by omega) (by omega) z;omega),?_⟩
    show kOk lt n (if lt (gt p a) (gt p (a - 1))=true then (if 0 > 0 then _ else kas_desc f p (a + 1) 0) else .ask (gt p (a - 1)) (gt p a) fun d=>if d=true then .ret (p,a,0) else kas_desc f p (a + 1) (0 + 1)) _
    by_cases c:lt (gt p a) (gt p (a - 1))=true
    · rw [if_pos c,if_neg (by omega)]
      refine kOk_mono (desc_ok S hp f (a + 1) (by omega) (by omega) fun i j hij hj=>?_) fun m ⟨x1,x2,x3,x4,x5⟩=>⟨x1,x2,by omega,by omega,x5⟩
      by_cases hja:j < a
      · exact hr i j hij hja
      · obtain rfl:j=a:=by omega
        by_cases hi:i=j - 1
        · rw [hi];exact c
        · exact S.trans _ _ _ (hp.blt (by omega)) (hp.blt (by omega)) (hp.blt (by omega)) c (hr i (j - 1) (by omega) (by omega))
    · rw [if_neg c]
      have up:lt (gt p (a - 1)) (gt p a)=true:=S.tot _ _ (hp.blt (by omega)) (hp.blt (by omega)) (fun z=>by have:=hp.inj (by omega) (by omega) z;omega) (Bool.eq_false_iff.mpr c)
      refine ⟨hp.blt (by omega),hp.blt (by omega),(fun z=>by have:=hp.inj (by omega) (by omega) z;omega),?_⟩
      show kOk lt n (if lt (gt p (a - 1)) (gt p a)=true then .ret (p,a,0) else _) _
      rw [if_pos up]
      exact ⟨rfl,rfl,Nat.le_refl _,Nat.le_add_right _ _,hr⟩
theorem rev_gt {p:Array Nat} {m k:Nat} (hm:m≤p.size) (hk:k < m):gt (kas_rev p 0 m) k=gt p (m - 1 - k):=by
  have e:=getElem?_mirror_all (xs:=p) (i:=0) (j:=m) hm k
  rw [if_pos ⟨Nat.zero_le _,hk⟩] at e
  have e1:=gt_eq (p:=kas_rev p 0 m) (k:=k) (by unfold kas_rev;rw [mirror_size];omega)
  have e2:=gt_eq (p:=p) (k:=m - 1 - k) (by omega)
  unfold kas_rev at e1 ⊢
  rw [e,show 0 + m - 1 - k=m - 1 - k by omega,e2] at e1
  exact (Option.some.inj e1).symm
theorem PP.rev {p:Array Nat} (h:PP n p) (m:Nat):PP n (kas_rev p 0 m):=Array.Perm.trans (mirror_perm _ _ _ _) h
theorem tail_ok (S:SO lt n) {p:Array Nat} (hp:PP n p) {m:Nat} (h1:1≤m) (h2:m≤n) (hf:Fall lt p m):kOk lt n (kas_tail3 m n p) fun r=>PP n r.2∧Rise lt r.2 r.1∧1≤r.1∧r.1≤n:=by
  refine kOk_bind (kOk_mono (asc_ok S (hp.rev m) (n - m) m h1 (by omega) fun i j hij hj=>?_) fun a ⟨x1,x2,x3,_⟩=>⟨hp.rev m,x3,by omega,by omega⟩)
  have hs:=hp.size
  rw [rev_gt (by omega) (by omega),rev_gt (by omega) hj]
  exact hf _ _ (by omega) (by omega)
theorem count_ok (S:SO lt n) {p:Array Nat} (hp:PP n p) (hn:1≤n):kOk lt n (kas_count n p) fun r=>PP n r.2∧Rise lt r.2 r.1∧1≤r.1∧r.1≤n:=by
  refine kOk_bind (kOk_mono (asc_ok S hp (n - 1) 1 (Nat.le_refl _) (by omega) fun i j hij hj=>by omega) fun m ⟨x1,x2,x3,x4⟩=>?_)
  by_cases e:(m == n)=true
  · rw [if_pos e]
    exact ⟨hp,x3,x1,by omega⟩
  · rw [if_neg e]
    have ne:m≠n:=by simpa using e
    by_cases h:m > 1
    · rw [if_pos h]
      refine ⟨hp.blt (by omega),hp.blt (by omega),(fun z=>by have:=hp.inj (by omega) (by omega) z;omega),?_⟩
      show kOk lt n (if lt (gt p 0) (gt p (m - 1))=true then .ret (m,p) else _) _
      rw [if_pos (x3 0 (m - 1) (by omega) (by omega))]
      exact ⟨hp,x3,x1,by omega⟩
    · rw [if_neg h]
      obtain rfl:m=1:=by omega
      have c:=x4 (by omega)
      refine kOk_bind (kOk_mono (desc_ok S hp (n - 2) 2 (by omega) (by omega) fun i j hij hj=>?_) fun r ⟨y1,y2,y3,y4,y5⟩=>?_)
      · obtain rfl:j=1:=by omega
        obtain rfl:i=0:=by omega
        exact c
      · rw [if_neg (by omega),y1]
        exact tail_ok S hp (by omega) (by omega) y5
theorem place_ok (S:SO lt n) {p:Array Nat} (hp:PP n p) {k:Nat} (hk:k < n) (hr:Rise lt p k):∀ (f l r:Nat),l≤r→r≤k→r - l≤f→(∀ i,i < l→lt (gt p i) (gt p k)=true)→(∀ i,r≤i→i < k→lt (gt p k) (gt p i)=true) →
    kOk lt n (kas_place p k f l r) fun m=>m≤k∧(∀ i,i < m→lt (gt p i) (gt p k)=true)∧∀ i,m≤i→i < k→lt (gt p k) (gt p i)=true
  | 0,l,r,h1,h2,h3,h4,h5=>⟨by omega,h4,fun i hi hik=>h5 i (by omega) hik⟩
  | f + 1,l,r,h1,h2,h3,h4,h5=>by
    unfold kas_place
    by_cases c:l ≥ r
    · rw [if_pos c]
      exact ⟨by omega,h4,fun i hi hik=>h5 i (by omega) hik⟩
    · rw [if_neg c]
      refine ⟨hp.blt (by omega),hp.blt (by omega),(fun z=>by have:=hp.inj (by omega) (by omega) z;omega),?_⟩
      show kOk lt n (if lt (gt p k) (gt p ((l + r) / 2))=true then _ else _) _
      by_cases d:lt (gt p k) (gt p ((l + r) / 2))=true
      · rw [if_pos d]
        refine place_ok S hp hk hr f l ((l + r) / 2) (by omega) (by omega) (by omega) h4 fun i hi hik=>?_
        by_cases e:i=(l + r) / 2
        · rw [e];exact d
        · exact S.trans _ _ _ (hp.blt (by omega)) (hp.blt (by omega)) (hp.blt (by omega)) d (hr _ i (by omega) hik)
      · rw [if_neg d]
        have up:lt (gt p ((l + r) / 2)) (gt p k)=true:=S.tot _ _ (hp.blt (by omega)) (hp.blt (by omega)) (fun z=>by have:=hp.inj (by omega) (by omega) z;omega) (Bool.eq_false_iff.mpr d)
        refine place_ok S hp hk hr f ((l + r) / 2 + 1) r (by omega) (by omega) (by omega) (fun i hi=>?_) h5
        by_cases e:i=(l + r) / 2
        · rw [e];exact up
        · exact S.trans _ _ _ (hp.blt (by omega)) (hp.blt (by omega)) (hp.blt (by omega)) (hr i _ (by omega) (by omega)) up
theorem bub_gt {p:Array Nat} {k d j:Nat} (hk:k < p.size) (hd:d≤k) (hj:j < p.size):gt (bubble p k d) j=if j=k - d then gt p k else if k - d < j∧j≤k then gt p (j - 1) else gt p j:=by
  have e:=getElem?_bubble hk d hd j
  rw [gt_eq (p:=bubble p k d) (k:=j) (by rw [bubble_size];exact hj)] at e
  by_cases h1:j=k - d
  · rw [if_pos h1,gt_eq hk] at e
    rw [if_pos h1];exact Option.some.inj e
  · rw [if_neg h1] at e ⊢
    by_cases h2:k - d < j∧j≤k
    · rw [if_pos h2,gt_eq (by omega)] at e
      rw [if_pos h2];exact Option.some.inj e
    · rw [if_neg h2,gt_eq hj] at e
      rw [if_neg h2];exact Option.some.inj e
theorem bin_ok (S:SO lt n):∀ (f:Nat) {p:Array Nat} (k:Nat),PP n p→k + f=n→Rise lt p k→kOk lt n (kas_bin f p k) fun p'=>PP n p'∧Rise lt p' n
  | 0,p,k,hp,hk,hr=>⟨hp,by rw [← hk];exact hr⟩
  | f + 1,p,k,hp,hk,hr=>by
    have hs:=hp.size
    refine kOk_bind (kOk_mono (place_ok S hp (by omega) hr k 0 k (Nat.zero_le _) (Nat.le_refl _) (by omega) (fun i hi=>by omega) (fun i h1 h2=>by omega)) fun l ⟨x1,x2,x3⟩=>?_)
    refine bin_ok S f (k + 1) (Array.Perm.trans (bubble_perm _ _ _) hp) (by omega) fun i j hij hj=>?_
    rw [bub_gt (by omega) (by omega) (by omega),bub_gt (by omega) (by omega) (by omega)]
    have e:k - (k - l)=l:=by omega
    rw [e]
    by_cases hi:i=l
    · rw [if_pos hi,if_neg (by omega),if_pos (by omega)]
      exact x3 _ (by omega) (by omega)
    · rw [if_neg hi]
      by_cases hi2:l < i∧i≤k
      · rw [if_pos hi2,if_neg (by omega),if_pos (by omega)]
        exact hr _ _ (by omega) (by omega)
      · rw [if_neg hi2]
        by_cases hj1:j=l
        · rw [if_pos hj1]
          exact x2 _ (by omega)
        · rw [if_neg hj1]
          by_cases hj2:l < j∧j≤k
          · rw [if_pos hj2]
            by_cases hij2:i < j - 1
            · exact hr _ _ hij2 (by omega)
            · omega
          · rw [if_neg hj2]
            exact hr _ _ hij (by omega)
theorem sort_ok (S:SO lt n) (hn:1≤n):kOk lt n (kas_sort n) fun p=>PP n p∧Rise lt p n:=by
  refine kOk_bind (kOk_mono (count_ok S (p:=List.toArray (List.range n)) (Array.Perm.refl _) hn) fun r ⟨x1,x2,x3,x4⟩=>?_)
  by_cases h:r.1 < n
  · rw [if_pos h,Nat.max_eq_left x3]
    exact bin_ok S _ _ x1 (by omega) x2
  · rw [if_neg h]
    obtain e:r.1=n:=by omega
    exact ⟨x1,by rw [← e];rw [e] at x2 ⊢;exact x2⟩
end
end L2
namespace L2
open PySem PySem.W PyProof.Rows
theorem kOk_at {α:Type} {lt:Nat→Nat→Bool} {n:Nat} {s:Shared} {cmp:Nat→Nat→(Bool→Shared→Prop)→Shared→Prop} (hc:∀ i j C,i < n→j < n→i≠j→C (lt i j) s→cmp i j C s):∀ {t:KasT α} {R:α→Prop} {Q:α→Shared→Prop},kOk lt n t R→(∀ a,R a→Q a s)→t.kasWp cmp Q s
  | .ret _,_,_,h,m=>m _ h
  | .ask _ _ _,_,_,h,m=>hc _ _ _ h.1 h.2.1 h.2.2.1 (kOk_at hc h.2.2.2 m)
def Kp (a:Addr) (h h':Heap):Prop:=∀ b o,b≠a→h.get? b=some o→h'.get? b=some o
def outOf (vs:List Value) (p:Array Nat):List Value:=p.toList.map fun i=>vs.getD i Value.none
theorem outOf_range (vs:List Value):outOf vs (List.toArray (List.range vs.length))=vs:=by
  unfold outOf
  apply List.ext_getElem?
  intro i
  simp only [List.getElem?_map]
  by_cases h:i < vs.length
  · rw [List.getElem?_eq_getElem (l:=vs) h]
    simp [List.getElem?_range h,h]
  · rw [List.getElem?_eq_none (by omega:vs.length≤i)]
    simp
    omega
section
variable {P:Program} {w:World} {A:Around} {E:Value→Shared→Prop} {s:Shared}
theorem lsort_pure {a:Addr} {vs:List Value} {n:Nat} {κ:SortKind} {lt:Nat→Nat→Bool} {R:PySem.Fin→Shared→Prop} (ho:s.heap.get? a=some (seqObj "list" vs.toArray n)) (h64:vs.length < 64)
    (hk:2≤vs.length→∀ (h:Heap) (Q:SortKind→Shared→Prop),Kp a s.heap h→Q κ { s with heap:=h }→wpAny (model P w) A (keyKind' vs.toArray) Q (fun _ _=>False) { s with heap:=h })
    (hc:∀ (h:Heap) i j C,Kp a s.heap h→i < vs.length→j < vs.length→i≠j→C (lt i j) { s with heap:=h }→kas_ask P w A κ vs i j C { s with heap:=h }) (S:SO lt vs.length)
    (fin:∀ h p c,Kp a s.heap h→h.get? a=some (seqObj "list" (outOf vs p).toArray c)→PP vs.length p→Rise lt p vs.length→R (.done (.ret .none)) { s with heap:=h }) :
    wpAny (model P w) A (Builtin.«list.sort» ⟨[.ref a],[]⟩) R E s:=by
  have ha:a < s.heap.objs.size:=Heap.lt_size ho
  obtain ⟨e1,o1⟩:∃ e1,(s.heap.update a (Obj.mapSeq fun _=>(#[]:Array Value))).get? a=some (seqObj "list" #[] e1):=⟨_,get?_update_seq ho fun _=>#[]⟩
  have k1:Kp a s.heap (((s.heap.update a (Obj.mapSeq fun _=>(#[]:Array Value))).push (seqObj "tuple" vs.toArray 0)).push (seqObj "list" #[] 0)):=fun b o hb e =>
    Heap.get?_push_of_some _ (Heap.get?_push_of_some _ ((Heap.get?_update_other _ _ (Ne.symm hb)).trans e))
  have o3:(((s.heap.update a (Obj.mapSeq fun _=>(#[]:Array Value))).push (seqObj "tuple" vs.toArray 0)).push (seqObj "list" #[] 0)).get? a=some (seqObj "list" #[] e1):=Heap.get?_push_of_some _ (Heap.get?_push_of_some _ o1)
  have last:∀ out:List Value,out.length=vs.length→∃ c,((((s.heap.update a (Obj.mapSeq fun _=>(#[]:Array Value))).push (seqObj "tuple" vs.toArray 0)).push (seqObj "list" #[] 0)).update a (Obj.mapSeq fun _=>out.toArray)).get? a=some (seqObj "list" out.toArray c):=fun out _=>⟨_,get?_update_seq o3 fun _=>out.toArray⟩
  have keep2:∀ out:List Value,Kp a s.heap ((((s.heap.update a (Obj.mapSeq fun _=>(#[]:Array Value))).push (seqObj "tuple" vs.toArray 0)).push (seqObj "list" #[] 0)).update a (Obj.mapSeq fun _=>out.toArray)):=fun out b o hb e =>
    (Heap.get?_update_other _ _ (Ne.symm hb)).trans (k1 b o hb e)
  rw [list_sort_plain];refine wpAny_bind (listItems_at ho rfl ?_)
  refine wpAny_bind (listUpdate_at ho rfl ?_ (by rw [List.size_toArray,sizeLine_eq];omega) (Nat.zero_le _));refine wpAny_bind (seqEpoch_at o1 rfl ?_)
  refine wpAny_bind (wpAny_newTuple ?_ (by show vs.length≤_;rw [sizeLine_eq];omega));refine wpAny_bind (wpAny_newList ?_ (Nat.zero_le _));refine wpAny_holding ?_
  show wpAny (model P w) A _ R E { s with heap:=((s.heap.update a (Obj.mapSeq fun _=>(#[]:Array Value))).push (seqObj "tuple" vs.toArray 0)).push (seqObj "list" #[] 0) }
  generalize hH:((s.heap.update a (Obj.mapSeq fun _=>(#[]:Array Value))).push (seqObj "tuple" vs.toArray 0)).push (seqObj "list" #[] 0)=g at *
  dsimp only
  have up:∀ out:List Value,out.length=vs.length→∀ p,out=outOf vs p→PP vs.length p→Rise lt p vs.length→R (.done (.ret .none)) { s with heap:=g.update a (Obj.mapSeq fun _=>out.toArray) }:=fun out hl p e hp hr=>by
    obtain ⟨c,hcc⟩:=last out hl
    refine fin _ p c (keep2 out) ?_ hp hr
    rw [← e];exact hcc
  by_cases h2:vs.toArray.size < 2
  · have hl2:vs.length < 2:=by simpa using h2
    rw [if_pos h2,if_pos h2];refine wpAny_bind (wpAny_pure ?_);rw [StateT.run_pure];refine wpAny_bind (wpAny_pure ?_)
    dsimp only
    have ez:((vs.toArray.zip vs.toArray).map (·.2))=vs.toArray:=by
      apply Array.toList_inj.mp
      rw [Array.toList_map,Array.toList_zip]
      simp [List.map_snd_zip]
    refine wpAny_bind (seqEpoch_at o3 rfl ?_)
    rw [show (arrOf (SortSt.mk' general' (vs.toArray.zip vs.toArray) #[] 7 none))=vs.toArray.zip vs.toArray from rfl,ez]
    refine wpAny_bind (listUpdate_at o3 rfl ?_ (Nat.zero_le _) (by rw [List.size_toArray,sizeLine_eq];omega))
    simp only [bne_self_eq_false,Bool.false_eq_true,if_false]
    exact wpAny_pure (up vs rfl _ (outOf_range vs).symm (Array.Perm.refl _) fun i j hij hj=>by omega)
  · have hl2:2≤vs.length:=by simpa using h2
    rw [if_neg h2,if_neg h2];refine wpAny_bind (wpAny_mono (hk hl2 g (fun κ' s'=>κ'=κ∧s'={ s with heap:=g }) k1 ⟨rfl,rfl⟩) (fun κ' s' hs=>?_) fun _ _ x=>x.elim)
    obtain ⟨rfl,rfl⟩:=hs
    have run:=kOk_at (s:={ s with heap:=g }) (cmp:=kas_ask P w A κ' vs) (fun i j C hi hj hij hC=>hc g i j C k1 hi hj hij hC) (sort_ok S (by omega)) (Q:=fun p s'=>s'={ s with heap:=g }∧PP vs.length p∧Rise lt p vs.length) fun p hp=>⟨rfl,hp⟩
    refine wpAny_bind (wpAny_mono (kat_run (ks:=vs) (Q:=fun st s'=>∃ p:Array Nat,arrOf st=p.map (kas_item (vs.toArray.zip vs.toArray))∧failedOf st=none∧s'={ s with heap:=g }∧PP vs.length p∧Rise lt p vs.length) rfl hl2 h64 (fun p st s' _ a2 a3 a4=>⟨p,a2,a3,a4⟩) run) ?_ fun _ _ e=>e)
    rintro ⟨⟨⟩,st⟩ s' ⟨p,har,hf,rfl,hp,hr⟩
    dsimp only
    have out:=kat_snds (ks:=vs) rfl har
    have ol:(outOf vs p).length=vs.length:=by unfold outOf;rw [List.length_map,Array.length_toList,hp.size]
    rw [out];refine wpAny_bind (seqEpoch_at o3 rfl ?_)
    refine wpAny_bind (listUpdate_at o3 rfl ?_ (Nat.zero_le _) (by show (List.toArray (outOf vs p)).size≤_;rw [List.size_toArray,ol,sizeLine_eq];omega));rw [hf]
    simp only [bne_self_eq_false,Bool.false_eq_true,if_false]
    exact wpAny_pure (up (outOf vs p) ol p rfl hp hr)
theorem sorted_pure {l:Addr} {vs:List Value} {κ:SortKind} {lt:Nat→Nat→Bool} {Q:Value→Shared→Prop} (h64:vs.length < 64) (S:SO lt vs.length)
    (coll:∀ R:List Value→Shared→Prop,(∀ (h:Heap) (tk:Nat),(∀ b o,s.heap.get? b=some o→h.get? b=some o)→R vs { s with heap:=h,toks:=tk })→wpAny (model P w) A.in1 (collect (.ref l)) R E s)
    (hk:2≤vs.length→∀ (h:Heap) (tk:Nat) (Q:SortKind→Shared→Prop),(∀ b o,s.heap.get? b=some o→h.get? b=some o)→Q κ { s with heap:=h,toks:=tk }→wpAny (model P w) A.in1.in1 (keyKind' vs.toArray) Q (fun _ _=>False) { s with heap:=h,toks:=tk })
    (hc:∀ (h:Heap) (tk:Nat) i j C,(∀ b o,s.heap.get? b=some o→h.get? b=some o)→i < vs.length→j < vs.length→i≠j→C (lt i j) { s with heap:=h,toks:=tk }→kas_ask P w A.in1.in1 κ vs i j C { s with heap:=h,toks:=tk })
    (fin:∀ (h:Heap) (tk:Nat) (h':Heap) (p:Array Nat) (c:Nat),(∀ b o,s.heap.get? b=some o→h.get? b=some o)→(∀ b o,h.get? b=some o→h'.get? b=some o)→h'.get? h.objs.size=some (seqObj "list" (outOf vs p).toArray c)→PP vs.length p→Rise lt p vs.length→Q (.ref h.objs.size) { s with heap:=h',toks:=tk }) :
    wpAny (model P w) A (call (.builtin "sorted") [.ref l]) Q E s:=by
  refine Calls.call_function_entry kind_sorted plain_sorted entry_sorted (args_sorted1 _) ?_;unfold Builtin.«sorted»
  refine wpAny_bind (m:=checkCount "sorted" 1 1 _) (wpAny_pure ?_);refine wpAny_bind (coll _ fun h tk hk1=>?_)
  refine wpAny_bind (wpAny_newList ?_ (by rw [sizeLine_eq];omega))
  have hoL:(h.push (seqObj "list" vs.toArray 0)).get? h.objs.size=some (seqObj "list" vs.toArray 0):=Heap.get?_push_size _ rfl
  have kept:∀ h',Kp h.objs.size (h.push (seqObj "list" vs.toArray 0)) h'→∀ b o,h.get? b=some o→h'.get? b=some o:=fun h' k b o e=>k b o (Nat.ne_of_lt (Heap.lt_size e)) (Heap.get?_push_of_some _ e)
  refine wpAny_bind (wpAny_holding (wpAny_call_entry slot_list_sort ⟨_,hoL,rfl⟩ entry_list_sort (lsort_pure (s:={ s with heap:=h.push (seqObj "list" vs.toArray 0),toks:=tk }) hoL h64 (κ:=κ) (lt:=lt) (fun h2 h' Q' k q=>?_) (fun h' i j C k hi hj hij q=>?_) S fun h' p c k ho hp hr=>?_) (args_list_sort _)))
  · exact hk h2 h' tk Q' (fun b o e=>kept h' k b o (hk1 b o e)) q
  · exact hc h' tk i j C (fun b o e=>kept h' k b o (hk1 b o e)) hi hj hij q
  · exact ⟨_,rfl,wpAny_pure ⟨_,rfl,fin h tk h' p c hk1 (kept h' k) ho hp hr⟩⟩
end
end L2
namespace L2
open PySem PySem.W PyProof.Rows
def placeLt (a b:Str × Int):Bool:=if a.1=b.1 then decide (a.2 < b.2) else decide (a.1.cps.toList < b.1.cps.toList)
def PlAt (h:Heap) (v:Value) (q:Str × Int):Prop:=∃ a o t u n,v=.ref a∧h.get? a=some o∧o.cls=.type "tuple"∧o.data=.seq #[.str q.1 t,.int q.2 u] n
section
variable {P:Program} {w:World} {A:Around} {E:Value→Shared→Prop} {s:Shared}
theorem lt1_str {a c:Str} {t u:Tok} {Q:Bool→Shared→Prop} (h:Q (decide (a.cps.toList < c.cps.toList)) s):wpAny (model P w) A (oneLt' true (.str a t) (.str c u)) Q E s:=by
  rw [← keyLt'_oneType]
  exact kas_lt_str h
theorem lt0_int {a c:Int} {t u:Tok} {Q:Bool→Shared→Prop} (h:Q (decide (a < c)) s):wpAny (model P w) A (oneLt' false (.int a t) (.int c u)) Q E s :=
  kat_one _ _ (PyProof.Rows.lt_int (show PySem.W.BoolBack Q (.bool (decide (a < c))) s from h))
theorem ask_place {x y:Value} {a b:Str × Int} {Q:Bool→Shared→Prop} (hx:PlAt s.heap x a) (hy:PlAt s.heap y b) (h:Q (placeLt a b) s) (hn:a≠b):wpAny (model P w) A (keyLt' (tuples' true) x y) Q E s:=by
  obtain ⟨p,o,t,u,n,rfl,ho,hc,hd⟩:=hx
  obtain ⟨p2,o2,t2,u2,n2,rfl,ho2,hc2,hd2⟩:=hy
  refine kat_lt ho hd ho2 hd2 (kat_cons (wpAny_eqBool_str (kat_go (fun e=>kat_yes (kat_cons (wpAny_eqBool_int (kat_go (fun e2=>?_) fun e2=>kat_no ?_)))) fun e=>kat_no ?_)))
  · exact absurd (Prod.ext (of_decide_eq_true e) (by simpa using e2)) hn
  · have e:=of_decide_eq_true e
    unfold placeLt at h
    rw [if_pos e] at h
    exact lt0_int h
  · have e:=of_decide_eq_false e
    unfold placeLt at h
    rw [if_neg e] at h
    exact lt1_str h
theorem kind_place {vs:List Value} {qs:List (Str × Int)} {Q:SortKind→Shared→Prop} (hl:vs.length=qs.length) (hv:∀ (i:Nat) (v:Value) (q:Str × Int),vs[i]?=some v→qs[i]?=some q→PlAt s.heap v q) (h2:0 < vs.length) (h:Q (tuples' true) s) :
    wpAny (model P w) A (keyKind' vs.toArray) Q E s:=by
  have T:∀ (vs:List Value) (qs:List (Str × Int)),vs.length=qs.length→(∀ (i:Nat) (v:Value) (q:Str × Int),vs[i]?=some v→qs[i]?=some q→PlAt s.heap v q)→∃ fs,KatTups s.heap vs fs∧fs.length=vs.length∧∀ v∈fs,∃ x t,v=Value.str x t:=by
    intro vs
    induction vs with
    | nil=>exact fun qs _ _=>⟨[],trivial,rfl,fun _ z=>nomatch z⟩
    | cons v r ih =>
      intro qs hl hv
      match qs,hl with
      | q :: qr,hl =>
        obtain ⟨fs,k,kl,kf⟩:=ih qr (by simpa using hl) fun i v' q' e1 e2=>hv (i + 1) v' q' (by simpa using e1) (by simpa using e2)
        obtain ⟨a,o,t,u,n,rfl,ho,hc,hd⟩:=hv 0 v q rfl rfl
        refine ⟨.str q.1 t :: fs,KatTups.cons ho hc hd rfl k,by simp [kl],fun z hz=>?_⟩
        rcases List.mem_cons.mp hz with rfl | hz
        · exact ⟨_,_,rfl⟩
        · exact kf z hz
  obtain ⟨fs,k,kl,kf⟩:=T vs qs hl hv
  refine kat_kind (T:=.type "str") k (by omega) (fun v hv=>?_) (by decide) h
  obtain ⟨x,t,rfl⟩:=kf v hv
  exact Looks.of_pure rfl
end
theorem str_cps_inj {x y:Str} (h:x.cps.toList=y.cps.toList):x=y:=by
  obtain ⟨a⟩:=x
  obtain ⟨b⟩:=y
  have:a=b:=Array.toList_inj.mp h
  rw [this]
theorem placeLt_so {qs:List (Str × Int)} (hn:qs.Nodup):SO (fun i j=>placeLt (qs.getD i ("",0)) (qs.getD j ("",0))) qs.length where
  irr:=fun i _=>by
    unfold placeLt
    rw [if_pos rfl]
    exact decide_eq_false (by omega)
  trans:=fun i j k _ _ _ h1 h2=>by
    generalize qs.getD i ("",0)=a at *
    generalize qs.getD j ("",0)=b at *
    generalize qs.getD k ("",0)=c at *
    unfold placeLt at *
    by_cases e1:a.1=b.1
    · rw [if_pos e1] at h1
      by_cases e2:b.1=c.1
      · rw [if_pos e2] at h2
        rw [if_pos (e1.trans e2)]
        have h1:=of_decide_eq_true h1
        have h2:=of_decide_eq_true h2
        exact decide_eq_true (by omega)
      · rw [if_neg e2] at h2
        rw [if_neg (by rw [e1];exact e2),e1]
        exact h2
    · rw [if_neg e1] at h1
      have h1:=of_decide_eq_true h1
      by_cases e2:b.1=c.1
      · rw [if_neg (by rw [← e2];exact e1),← e2]
        exact decide_eq_true h1
      · rw [if_neg e2] at h2
        have h2:=of_decide_eq_true h2
        have h3:=List.lt_trans h1 h2
        rw [if_neg (fun z=>by rw [z] at h3;exact List.lt_irrefl _ h3)]
        exact decide_eq_true h3
  tot:=fun i j hi hj hij h=>by
    have ne:qs.getD i ("",0)≠qs.getD j ("",0):=fun z=>hij (by
      rw [List.getD_eq_getElem?_getD,List.getD_eq_getElem?_getD,List.getElem?_eq_getElem hi,List.getElem?_eq_getElem hj] at z
      exact (List.getElem_inj hn).mp z)
    generalize qs.getD i ("",0)=a at *
    generalize qs.getD j ("",0)=b at *
    unfold placeLt at *
    by_cases e:a.1=b.1
    · rw [if_pos e] at h
      rw [if_pos e.symm]
      have h:=of_decide_eq_false h
      have:a.2≠b.2:=fun z=>ne (Prod.ext e z)
      exact decide_eq_true (by omega)
    · rw [if_neg e] at h
      rw [if_neg (fun z=>e z.symm)]
      have h:=of_decide_eq_false h
      refine decide_eq_true ?_
      rcases List.le_iff_lt_or_eq.mp (List.not_lt.mp h) with z | z
      · exact z
      · exact absurd (str_cps_inj z.symm) e
end L2
namespace L2
open PySem
def RawD (h:Heap) (d:Addr) (es:Array DictEntry) (ep:Nat):Prop:=∃ o,h.get? d=some o∧o.ExactDict∧o.data=.dict es ep
section
variable {P:Program} {w:World} {A:Around} {E:Value→Shared→Prop} {s:Shared}
theorem RawD.type {d:Addr} {es:Array DictEntry} {ep:Nat} (x:RawD s.heap d es ep):s.TypeIs (.ref d) "dict":=let ⟨o,ho,hc,_⟩:=x;⟨o,ho,hc.1⟩
theorem RawD.at {h h':Heap} {d:Addr} {es:Array DictEntry} {ep:Nat} (x:RawD h d es ep) (e:∀ o,h.get? d=some o→h'.get? d=some o):RawD h' d es ep:=let ⟨o,ho,r⟩:=x;⟨o,e _ ho,r⟩
theorem raw_iter {d:Addr} {es:Array DictEntry} {ep:Nat} {Q:Value→Shared→Prop} (lo:(d == sysModules)=false) (hm:RawD s.heap d es ep)
    (q:Q (.ref s.heap.objs.size) { s with heap:=s.heap.push { cls:=.type "dict_keyiterator",data:=.fields #[.ref d,.int 0 0,.int es.size 0,.int ep 0] } }):wpAny (model P w) A (pyIter (.ref d)) Q E s:=by
  have T:=hm.type
  obtain ⟨o,ho,hc,hd⟩:=id hm
  refine wpAny_pyIter_slot T F.slot_dict_iter (wpAny_call_entry F.slot_dict_iter T F.entry_dict_iter ?_ (F.args_dict_iter_1 _));unfold Builtin.«dict.__iter__»
  refine wpAny_bind ?_;unfold Builtin.Dict.dictSlotNone;refine wpAny_bind (wpAny_notOrdered_dict T ?_)
  show wpAny _ _ (pure (Value.ref d)) _ _ s;refine wpAny_pure ?_
  show wpAny _ _ (Builtin.Dict.showsAll d >>= _) _ _ s;unfold Builtin.Dict.showsAll
  rw [if_neg (by rw [lo];exact Bool.false_ne_true)];refine wpAny_bind (wpAny_pure ?_)
  refine wpAny_bind (wpAny_dictEntries ho hd ?_);refine wpAny_bind (wpAny_dictEpoch ho hd ?_)
  refine wpAny_bind (wpAny_newObj_type (wpAny_pure ⟨_,rfl,"dict_keyiterator",_,⟨_,Heap.get?_push_size _ rfl,rfl⟩,F.slot_dict_keyiterator_next.lookup,?_⟩));simpa [rawInt] using q
theorem raw_item {it d:Addr} {i ep:Nat} {es:Array DictEntry} {e:DictEntry} {Q:Option Value→Shared→Prop} (hit:s.heap.IsKeyIter it d i es.size ep) (hm:RawD s.heap d es ep) (hx:es[i]?=some e)
    (q:∀ h,h.IsKeyIter it d (i + 1) es.size ep→Heap.SameBut it s.heap h→Q (some e.key) { s with heap:=h }):wpAny (model P w) A (pyNext (.ref it)) Q E s:=by
  obtain ⟨o,ho,hc,hd⟩:=id hit
  obtain ⟨od,hod,hcd,hdd⟩:=id hm
  have lt:i < es.size:=by
    rcases Nat.lt_or_ge i es.size with h | h
    · exact h
    · rw [Array.getElem?_eq_none h] at hx;cases hx
  unfold pyNext
  refine wpAny_bind (wpAny_attempt (wpAny_callSpecial?_slot (name:=Str.ofString "__next__") hit.typeIs F.slot_dict_keyiterator_next (wpAny_call_entry F.slot_dict_keyiterator_next hit.typeIs F.entry_dict_keyiterator_next ?_ (F.args_dict_keyiterator_next_1 _))))
  refine wpAny_bind (wpAny_pure ?_);refine wpAny_bind ?_;refine wpAny_bind ?_
  first | (refine wpAny_bind (wpAny_typeNameOfWhole_keyiter hit.typeIs (wpAny_pure ?_))) | (refine wpAny_bind (wpAny_typeNameOf_keyiter hit.typeIs (wpAny_pure ?_)))
  refine wpAny_bind (wpAny_fieldsOf ho hd ?_);have own:Builtin.Dict_items.ownsTuple "dict_keyiterator"=false:=by decide
  simp only [own,Bool.false_eq_true,if_false];show wpAny _ _ (if (Value.ref d == Value.none)=true then _ else _) _ _ s
  rw [if_neg (show ¬ ((Value.ref d == Value.none)=true) from Bool.false_ne_true)];refine wpAny_bind (wpAny_pure ?_);refine wpAny_bind (wpAny_dictEntries hod hdd ?_)
  rw [if_neg (by simp)];refine wpAny_bind (wpAny_pure ?_);refine wpAny_bind (wpAny_dictEpoch hod hdd ?_);rw [if_neg (by simp)];refine wpAny_pure ?_
  simp only [show ¬ ((i:Int) < 0) from by omega,if_false,Int.toNat_natCast,hx]
  refine wpAny_bind ?_
  first | (refine wpAny_bind (wpAny_typeNameOfWhole_keyiter hit.typeIs (wpAny_pure ?_))) | (refine wpAny_bind (wpAny_typeNameOf_keyiter hit.typeIs (wpAny_pure ?_)))
  refine wpAny_bind (wpAny_isOneOf_keyiter hit.typeIs ?_);show wpAny _ _ (setField (.ref it) 1 (rawInt ((i:Int) + 1)) >>= _) _ _ s
  refine wpAny_bind (wpAny_setField ho hd (by simp) ?_)
  have next:(s.heap.update it (Obj.mapFields (·.setIfInBounds 1 (rawInt ((i:Int) + 1))))).IsKeyIter it d (i + 1) es.size ep:=by
    refine ⟨_,Heap.get?_update_self _ ho (Obj.isFreed_of_fields (Obj.data_mapFields hd _)),(Obj.cls_mapFields ..).trans hc,?_⟩;rw [Obj.data_mapFields hd];simp [rawInt]
  refine wpAny_bind (wpAny_holding ?_)
  refine wpAny_bind (wpAny_isOneOf_keyiter (s:={ s with heap:=s.heap.update it (Obj.mapFields (·.setIfInBounds 1 (rawInt ((i:Int) + 1)))) }) next.typeIs ?_);show wpAny _ _ (pure e.key) _ _ _
  exact wpAny_pure (wpAny_pure ⟨_,rfl,wpAny_pure (q _ next (Heap.SameBut.update ..))⟩)
theorem raw_end {it d:Addr} {i ep:Nat} {es:Array DictEntry} {Q:Option Value→Shared→Prop} (hh:A.handled=none) (hit:s.heap.IsKeyIter it d i es.size ep) (hm:RawD s.heap d es ep) (hx:es.size≤i)
    (q:∀ h,Heap.ExtBut it s.heap h→Q none { s with heap:=h }):wpAny (model P w) A (pyNext (.ref it)) Q E s:=by
  obtain ⟨o,ho,hc,hd⟩:=id hit
  obtain ⟨od,hod,hcd,hdd⟩:=id hm
  unfold pyNext
  refine wpAny_bind (wpAny_attempt (wpAny_callSpecial?_slot (name:=Str.ofString "__next__") hit.typeIs F.slot_dict_keyiterator_next (wpAny_call_entry F.slot_dict_keyiterator_next hit.typeIs F.entry_dict_keyiterator_next ?_ (F.args_dict_keyiterator_next_1 _))))
  refine wpAny_bind (wpAny_pure ?_);refine wpAny_bind ?_;refine wpAny_bind ?_
  first | (refine wpAny_bind (wpAny_typeNameOfWhole_keyiter hit.typeIs (wpAny_pure ?_))) | (refine wpAny_bind (wpAny_typeNameOf_keyiter hit.typeIs (wpAny_pure ?_)))
  refine wpAny_bind (wpAny_fieldsOf ho hd ?_);have own:Builtin.Dict_items.ownsTuple "dict_keyiterator"=false:=by decide
  simp only [own,Bool.false_eq_true,if_false];show wpAny _ _ (if (Value.ref d == Value.none)=true then _ else _) _ _ s
  rw [if_neg (show ¬ ((Value.ref d == Value.none)=true) from Bool.false_ne_true)];refine wpAny_bind (wpAny_pure ?_);refine wpAny_bind (wpAny_dictEntries hod hdd ?_)
  rw [if_neg (by simp)];refine wpAny_bind (wpAny_pure ?_);refine wpAny_bind (wpAny_dictEpoch hod hdd ?_);rw [if_neg (by simp)];refine wpAny_pure ?_
  simp only [show ¬ ((i:Int) < 0) from by omega,if_false,Int.toNat_natCast,Array.getElem?_eq_none hx]
  refine wpAny_bind ?_
  first | (refine wpAny_bind (wpAny_typeNameOfWhole_keyiter hit.typeIs (wpAny_pure ?_))) | (refine wpAny_bind (wpAny_typeNameOf_keyiter hit.typeIs (wpAny_pure ?_)))
  show wpAny _ _ (setField (.ref it) 0 .none >>= _) _ _ s;refine wpAny_bind (wpAny_setField ho hd (by simp) ?_)
  show wpAny _ _ (newExc (.type "StopIteration") [] >>= _) _ _ _;refine wpAny_bind ?_;simp only [newExc,newTuple]
  refine wpAny_bind (wpAny_newObj_type ?_ (by size_fits));refine wpAny_bind (m:=firstArgMember _ _) (wpAny_of_eq (a:=Value.none) (by first | rfl | (simp only [firstArgMember];rfl)) ?_)
  refine wpAny_newObj_type ?_ (by size_fits);simp only [raiseNew]
  refine wpAny_bind (wpAny_handled ?_);rw [show A.in1.handled=none from hh];refine wpAny_bind (wpAny_pure (wpAny_throw ?_))
  exact wpAny_bind (wpAny_isInstance (T:="StopIteration") (b:=true) ⟨_,Heap.get?_push_size _ rfl,rfl⟩ isSubtype_stop (wpAny_pure (q _ (((Heap.SameBut.update ..).extBut.push _).push _))))
theorem raw_walks (hh:A.handled=none) (I d:Addr) (hne:d≠I) (es:Array DictEntry) (ep:Nat) :
    Walks P w A I [I,d] [I] es.size (fun i v=>∃ e,es[i]?=some e∧v=e.key) (fun i h=>h.IsKeyIter I d i es.size ep∧RawD h d es ep) where
  sub:=fun b hb=>by simp at hb;simp [hb]
  frame:=fun _ _ _ st hk=>⟨st.1.at fun o e=>hk I (by simp) o e,st.2.at fun o e=>hk d (by simp) o e⟩
  item:=fun i s Q E hi st hQ=>by
    refine raw_item st.1 st.2 (Array.getElem?_eq_getElem hi) fun h' hit' hs'=>?_
    exact hQ _ h' s.toks ⟨_,Array.getElem?_eq_getElem hi,rfl⟩ ⟨hit',st.2.at fun o e=>hs'.extBut d o hne e⟩ fun b o hb e=>hs'.extBut b o (fun h=>hb (by simp [h])) e
  done:=fun s Q E st hQ=>raw_end hh st.1 st.2 (Nat.le_refl _) fun h' he'=>hQ h' s.toks fun b o hb e=>he' b o (fun h=>hb (by simp [h])) e
  self:=fun _ _ _ _ st hQ=>wpAny_pyIter_keyiter st.1 hQ
end
end L2
namespace L2
open PySem PySem.Spec PyProof.Rows
section
open PySem.SeqAt
open PySem.AutoSeq1 (wpAny_loadPart')
open PySem.MeetsSeq PySem.MeetsSeq2 PySem.MeetsSeq3
end
end L2
namespace L2
open PySem PySem.Spec PyProof.Rows
section
variable {P:Program} {w:World} {A:Around} {E:Value→Shared→Prop} {s:Shared}
theorem RawD.lt {h:Heap} {d:Addr} {es:Array DictEntry} {ep:Nat} (x:RawD h d es ep):d < h.objs.size:=let ⟨_,ho,_⟩:=x;Heap.lt_size ho
theorem raw_src {d:Addr} {es:Array DictEntry} {ep:Nat} (lo:(d == sysModules)=false):PySem.W.KdlSrc P w "dict" d d es.size (fun i v=>∃ e,es[i]?=some e∧v=e.key) (fun h=>RawD h d es ep) where
  type:=fun _ hm=>hm.type
  there:=fun _ hm=>⟨hm.lt,hm.lt⟩
  keep:=fun _ _ hm hk=>hm.at fun o e=>hk d (.inl rfl) o e
  notList:=by decide
  notTuple:=by decide
  hint:=fun _ _ _ _ hm hq=>PySem.W.kdl_hint_dict hm.type hq
  iter:=fun _ _ hh hm=>⟨_,_,(fun _ _ hq=>raw_iter lo hm hq),raw_walks hh _ d (Nat.ne_of_lt hm.lt) es ep,⟨⟨_,Heap.get?_push_size _ rfl,rfl,rfl⟩,hm.at fun o e=>Heap.get?_push_of_some _ e⟩⟩
theorem collect_src {T:String} {r d:Addr} {n:Nat} {G:Nat→Value→Prop} {OK:Heap→Prop} {R:List Value→Shared→Prop} (K:PySem.W.KdlSrc P w T r d n G OK) (hh:A.handled=none) (hok:OK s.heap) (hn:n≤sizeLine)
    (h:∀ (h':Heap) (tk:Nat) (vs:List Value),(∀ b o,s.heap.get? b=some o→h'.get? b=some o)→vs.length=n→(∀ j v,vs[j]?=some v→G j v)→R vs { s with heap:=h',toks:=tk }) :
    wpAny (model P w) A (collect (.ref r)) R E s:=by
  obtain ⟨lr,ld⟩:=K.there _ hok
  unfold collect
  refine wpAny_bind (wpAny_runValue (codeAny_builtin entry_proto_collect' ?_));rw [Around.under_plainId PySem.F.plain_proto_collect _]
  show wpAny _ A.in1 (newList [] >>= fun l=>again (.builtin "list.__iadd__" ⟨[l,.ref r],[]⟩)) _ _ s;refine wpAny_bind (wpAny_newObj_type ?_)
  refine wpAny_pure ⟨plainId_quiet PySem.F.plain_list_iadd _,codeAny_builtin entry_list_iadd' ?_⟩;rw [Around.under_plainId PySem.F.plain_list_iadd _]
  have hS:(s.heap.push { cls:=.type "list",data:=.seq ([]:List Value).toArray }).get? s.heap.objs.size=some { cls:=.type "list",data:=.seq #[] }:=Heap.get?_push_size _ rfl
  show wpAny _ A.in1 (Builtin.List.listExtendWith (.ref s.heap.objs.size) (.ref r) (.ref s.heap.objs.size)) _ _ _
  have key:=PySem.W.kdl_extend (A:=A) (s:={ s with heap:=s.heap.push { cls:=.type "list",data:=.seq ([]:List Value).toArray } }) (R:=fun (q:Result) (s':Shared)=>∃ (h':Heap) (tk:Nat) (acc:Array Value) (c:Nat),q=.ok (.ret (.ref s.heap.objs.size))∧s'={ s with heap:=h',toks:=tk } ∧
      (∀ b o,s.heap.get? b=some o→h'.get? b=some o)∧h'.get? s.heap.objs.size=some { cls:=.type "list",dict:=none,data:=.seq acc c,slots:=#[] }∧ItemsOf G acc n) K hh (K.keep _ _ hok fun b _ o e=>Heap.get?_push_of_some _ e) s.heap.objs.size (Nat.ne_of_gt lr) (Nat.ne_of_gt ld) (.ref s.heap.objs.size) 0 hS
    (fun h' tk acc c hk hS' hacc=>⟨h',tk,acc,c,rfl,rfl,fun b o e=>hk b o (Nat.ne_of_lt (Heap.lt_size e)) (Heap.get?_push_of_some _ e),hS',hacc⟩) hn
  refine wpAny_mono key (fun fin s' x=>?_) fun e s' x=>?_
  · cases fin with
    | done f =>
      obtain ⟨h',tk,acc,c,e,rfl,hk,hS',hacc⟩:=x
      cases e
      show wpAny _ A (load s.heap.objs.size >>= _) _ _ _;refine wpAny_bind (wpAny_load hS' ?_)
      exact wpAny_pure (h h' tk acc.toList hk (by rw [Array.length_toList];exact hacc.1) fun j v e=>hacc.2 j v (by rw [← Array.getElem?_toList];exact e))
    | again c =>
      refine ⟨x.1,codeAny_mono x.2 fun q s' x=>?_⟩
      obtain ⟨h',tk,acc,c,rfl,rfl,hk,hS',hacc⟩:=x
      show wpAny _ A (load s.heap.objs.size >>= _) _ _ _;refine wpAny_bind (wpAny_load hS' ?_)
      exact wpAny_pure (h h' tk acc.toList hk (by rw [Array.length_toList];exact hacc.1) fun j v e=>hacc.2 j v (by rw [← Array.getElem?_toList];exact e))
  · obtain ⟨h',tk,acc,c,e',_⟩:=x
    cases e'
end
end L2
namespace L2
open PySem PySem.Spec PyProof.Rows
def plKey (q:Str × Int):List Key:=[.inr q.1,.inl q.2]
abbrev cSrtD:RC:=fun xs H Q=>∃ (a:Addr) (kvs:List (List Key × V)) (qs:List (Str × Int)),xs=[.ref a]∧H a=some (.dT kvs)∧kvs.map (·.1)=qs.map plKey∧kvs.length < 64 ∧
  ∀ (l:Addr) (ps:List (Addr × (Str × Int))),H l=none→(ps.map (·.2)).Perm qs→(ps.map (·.2)).Pairwise (fun a b=>placeLt a b=true)→(∀ n∈ps,H n.1=some (.tup [.str n.2.1,.int n.2.2]))→Q (.ref l) (upd H l (.lst (ps.map fun n=>V.ref n.1)))
theorem paired_get {α β:Type} {F:α→β→Prop}:∀ {l₁:List α} {l₂:List β},Paired F l₁ l₂→∀ {i:Nat} {a:α} {b:β},l₁[i]?=some a→l₂[i]?=some b→F a b
  | _,_,.nil,i,a,b,h,_=>by simp at h
  | _,_,.cons x r,0,a,b,h1,h2=>by
    simp only [List.getElem?_cons_zero,Option.some.injEq] at h1 h2
    subst h1 h2
    exact x
  | _,_,.cons x r,i + 1,a,b,h1,h2=>paired_get r (by simpa using h1) (by simpa using h2)
theorem PlAt.keep {h h':Heap} {v:Value} {q:Str × Int} (x:PlAt h v q) (k:∀ b o,h.get? b=some o→h'.get? b=some o):PlAt h' v q:=by
  obtain ⟨a,o,t,u,n,e,ho,r⟩:=x
  exact ⟨a,o,t,u,n,e,k _ _ ho,r⟩
section
variable {X:Cx}
theorem place_at {pins:List (Addr × Obj)} {σ:St} {H:Hp} {s:Shared} {a:Addr} {q:Str × Int} (I:Inv X pins σ H s) (h:H a=some (.tup [.str q.1,.int q.2])):PlAt s.heap (.ref a) q:=by
  obtain ⟨its,rv,⟨o,ho,hc,n,hd⟩,_⟩:=I.tuple (SqT.of h)
  cases rv with
  | cons r1 rr =>
    cases rr with
    | cons r2 rn =>
      cases rn
      obtain ⟨t,rfl⟩:=r1
      obtain ⟨u,rfl⟩:=r2
      exact ⟨a,o,t,u,n,rfl,ho,hc,hd⟩
theorem nodup_map_inj {α β:Type} {f:α→β}:∀ {l:List α},(l.map f).Nodup→l.Nodup
  | [],_=>List.nodup_nil
  | a :: r,h=>by
    rw [List.map_cons,List.nodup_cons] at h
    exact List.nodup_cons.mpr ⟨fun z=>h.1 (List.mem_map_of_mem z),nodup_map_inj h.2⟩
theorem call_sortedD (hc:X.calm=true):CallR X (.builtin "sorted") cSrtD:=by
  intro pins s σ H xs us Q I r h
  obtain ⟨a,kvs,qs,rfl,ha,hk,h64,q⟩:=h
  obtain ⟨u,rfl,ru⟩:=vals1 r
  cases ru
  obtain ⟨hz,lo,xs,rel,o,es,ep,ho,hx,hd,he,hn⟩:=(show ObjOk X.prog X.w H s.heap a (.dT kvs) from I.hok a _ ha)
  have hh:X.A.handled=none:=I.ok.hd hc
  have lk:kvs.length=qs.length:=by have:=congrArg List.length hk;simpa using this
  have lx:kvs.length=xs.length:=Paired.length rel
  have les:es.size=xs.length:=by rw [← Array.length_toList,he,List.length_map]
  -- the keys in their order
  have key:∀ (i:Nat) (x:List Key × Addr × Value),xs[i]?=some x→∃ q,qs[i]?=some q∧x.1=plKey q∧H x.2.1=some (.tup [.str q.1,.int q.2]):=fun i x hx=>by
    have hi:=(List.getElem?_eq_some_iff.mp hx).1
    obtain ⟨kv,hkv⟩:∃ kv,kvs[i]?=some kv:=⟨_,List.getElem?_eq_getElem (by omega)⟩
    obtain ⟨q,hq⟩:∃ q,qs[i]?=some q:=⟨_,List.getElem?_eq_getElem (by omega)⟩
    have rl:=paired_get rel hkv hx
    have e1:kv.1=plKey q:=by
      have e1:(kvs.map (·.1))[i]?=some kv.1:=by rw [List.getElem?_map,hkv];rfl
      have e2:(qs.map plKey)[i]?=some (plKey q):=by rw [List.getElem?_map,hq];rfl
      rw [hk,e2] at e1
      exact (Option.some.inj e1).symm
    refine ⟨q,hq,by rw [← rl.1,e1],?_⟩
    have:=rl.2.1
    rw [e1] at this
    exact this
  have nq:qs.Nodup:=by
    refine nodup_map_inj (f:=plKey) ?_
    have e:xs.map (·.1)=qs.map plKey:=by
      rw [← hk]
      apply List.ext_getElem?
      intro i
      rw [List.getElem?_map,List.getElem?_map]
      cases hx:xs[i]? with
      | none =>
        have:xs.length≤i:=by simpa using hx
        rw [List.getElem?_eq_none (by omega:kvs.length≤i)]
        rfl
      | some x =>
        have hi:=(List.getElem?_eq_some_iff.mp hx).1
        have hkv:kvs[i]?=some kvs[i]:=List.getElem?_eq_getElem (by omega)
        rw [hkv]
        have:=(paired_get rel hkv hx).1
        simp [this]
    rw [← e];exact hn
  have vv:∀ (i:Nat) (v:Value) (q:Str × Int),(xs.map fun x=>Value.ref x.2.1)[i]?=some v→qs[i]?=some q→PlAt s.heap v q:=fun i v q hv hq=>by
    rw [List.getElem?_map] at hv
    obtain ⟨x,hx,rfl⟩:=Option.map_eq_some_iff.mp hv
    obtain ⟨q',hq',_,hH⟩:=key i x hx
    rw [hq] at hq'
    cases hq'
    exact place_at I hH
  have lv:(xs.map fun x=>Value.ref x.2.1).length=qs.length:=by rw [List.length_map];omega
  have vat:∀ i,i < qs.length→PlAt s.heap ((xs.map fun x=>Value.ref x.2.1).getD i Value.none) (qs.getD i ("",0)):=fun i hi=>by
    refine vv i _ _ ?_ ?_
    · rw [List.getD_eq_getElem?_getD,List.getElem?_eq_getElem (by rw [lv];exact hi)];rfl
    · rw [List.getD_eq_getElem?_getD,List.getElem?_eq_getElem hi];rfl
  have S:=placeLt_so nq
  rw [← lv] at S
  refine sorted_pure (vs:=xs.map fun x=>Value.ref x.2.1) (κ:=tuples' true) (by rw [List.length_map];omega) S (fun R hR=>?_) (fun h2 h tk Q' kp q'=>?_) (fun h tk i j C kp hi hj hij q'=>?_) fun h tk h' p c k1 k2 hD hp hr=>?_
  · refine collect_src (raw_src (ep:=ep) (es:=es) lo) hh ⟨o,ho,hx,hd⟩ (by rw [les];omega) fun h' tk vs kp hl hG=>?_
    have ev:vs=xs.map fun x=>Value.ref x.2.1:=by
      apply List.ext_getElem?
      intro i
      by_cases hi:i < vs.length
      · obtain ⟨e,hes,ek⟩:=hG i vs[i] (List.getElem?_eq_getElem hi)
        have e2:es.toList[i]?=some e:=by rw [Array.getElem?_toList];exact hes
        rw [he,List.getElem?_map] at e2
        obtain ⟨x,hxx,ex⟩:=Option.map_eq_some_iff.mp e2
        rw [List.getElem?_eq_getElem hi,ek,List.getElem?_map,hxx,← ex]
        rfl
      · rw [List.getElem?_eq_none (by omega),List.getElem?_eq_none (by rw [List.length_map];omega)]
    rw [ev]
    exact hR h' tk kp
  · exact kind_place (s:={ s with heap:=h,toks:=tk }) lv (fun i v q hv hq=>(vv i v q hv hq).keep kp) (by omega) q'
  · rw [lv] at hi hj
    refine ask_place (s:={ s with heap:=h,toks:=tk }) ((vat i hi).keep kp) ((vat j hj).keep kp) q' fun z=>hij ?_
    rw [List.getD_eq_getElem?_getD,List.getD_eq_getElem?_getD,List.getElem?_eq_getElem hi,List.getElem?_eq_getElem hj] at z
    exact (List.getElem_inj nq).mp z
  · have I1:Inv X pins σ H { s with heap:=h,toks:=tk }:=I.kept k1
    have ps:∃ ps:List (Addr × (Str × Int)),ps.map (fun n=>Value.ref n.1)=outOf (xs.map fun x=>Value.ref x.2.1) p∧ps.map (·.2)=p.toList.map (fun i=>qs.getD i ("",0))∧∀ n∈ps,H n.1=some (.tup [.str n.2.1,.int n.2.2]):=by
      have pl:∀ i∈p.toList,i < xs.length:=fun i hi=>by
        have:i∈p:=by simpa using hi
        have:=(Array.Perm.mem_iff hp).mp this
        rw [List.length_map] at this
        simpa using this
      refine ⟨p.toList.map fun i=>((xs.getD i ([],0,.none)).2.1,qs.getD i ("",0)),?_,by rw [List.map_map];rfl,fun n hn=>?_⟩
      · unfold outOf
        rw [List.map_map]
        refine List.map_congr_left fun i hi=>?_
        have:=pl i hi
        simp [List.getD_eq_getElem?_getD,List.getElem?_map,List.getElem?_eq_getElem this]
      · obtain ⟨i,hi,rfl⟩:=List.mem_map.mp hn
        have hl:=pl i hi
        obtain ⟨q,hq,_,hH⟩:=key i xs[i] (List.getElem?_eq_getElem hl)
        have e1:xs.getD i ([],0,.none)=xs[i]:=by rw [List.getD_eq_getElem?_getD,List.getElem?_eq_getElem hl];rfl
        have e2:qs.getD i ("",0)=q:=by rw [List.getD_eq_getElem?_getD,hq];rfl
        show H (xs.getD i ([],0,.none)).2.1=some (.tup [.str (qs.getD i ("",0)).1,.int (qs.getD i ("",0)).2])
        rw [e1,e2]
        exact hH
    obtain ⟨ps,e1,e2,hps⟩:=ps
    have vr:Vals (ps.map fun n=>V.ref n.1) (ps.map fun n=>Value.ref n.1):=by
      clear e1 e2 hps
      induction ps with
      | nil=>exact .nil
      | cons n r ih=>exact .cons rfl ih
    have psz:p.size=xs.length:=by have:=hp.size;rw [List.length_map] at this;exact this
    have pln:ps.length=xs.length:=by have:=congrArg List.length e1;unfold outOf at this;simpa [psz] using this
    have I2:Inv X pins σ (upd H h.objs.size (.lst (ps.map fun n=>V.ref n.1))) { s with heap:=h',toks:=tk }:=I1.laid (s:={ s with heap:=h,toks:=tk }) (a:=h.objs.size) (o:=.lst (ps.map fun n=>V.ref n.1)) (t':=tk) k2 (Nat.le_refl _)
      ⟨by rw [List.length_map];omega,ps.map fun n=>Value.ref n.1,c,vr,by rw [e1];exact hD⟩
    refine ⟨.ref h.objs.size,_,I2,rfl,q _ ps (I1.hok.fresh (Nat.le_refl _)) ?_ ?_ hps⟩
    · rw [e2]
      have pr:p.toList.Perm (List.range qs.length):=by
        have:=Array.perm_iff_toList_perm.mp hp
        rw [lv] at this
        simpa using this
      refine (pr.map _).trans ?_
      have:(List.range qs.length).map (fun i=>qs.getD i ("",0))=qs:=by
        apply List.ext_getElem?
        intro i
        rw [List.getElem?_map]
        by_cases hi:i < qs.length
        · rw [List.getElem?_range hi,List.getElem?_eq_getElem hi]
          simp [List.getD_eq_getElem?_getD,List.getElem?_eq_getElem hi]
        · rw [List.getElem?_eq_none (by simpa using hi),List.getElem?_eq_none (by omega)]
          rfl
      rw [this]
    · rw [e2,List.pairwise_map,List.pairwise_iff_getElem]
      intro i j hi hj hij
      rw [Array.length_toList] at hi hj
      have g1:=gt_eq hi
      have g2:=gt_eq hj
      have r:=hr i j hij (by rw [List.length_map];omega)
      have x1:p.toList[i]=gt p i:=by
        rw [Array.getElem?_eq_getElem hi] at g1
        simpa using g1
      have x2:p.toList[j]=gt p j:=by
        rw [Array.getElem?_eq_getElem hj] at g2
        simpa using g2
      rw [x1,x2]
      exact r
end
end L2
namespace L2
open PySem PySem.Spec PyProof.Rows
def Itd (a:Addr) (o:Obj) (kvs:List (List Key × V)):It :=
  ⟨fun i H=>H a=some (.frz o (.dT kvs))∧i < kvs.length,fun i H x H'=>H'=H∧∃ k v p,kvs[i]?=some (k,v)∧x=.ref p∧H p=some (.tup (k.map kV)),fun i H=>H a=some (.frz o (.dT kvs))∧kvs.length≤i⟩
section
variable {X:Cx}
theorem frz_raw {pins:List (Addr × Obj)} {σ:St} {H:Hp} {s:Shared} {a:Addr} {o:Obj} {kvs:List (List Key × V)} (I:Inv X pins σ H s) (ha:H a=some (.frz o (.dT kvs))) :
    (a == sysModules)=false∧∃ (es:Array DictEntry) (ep:Nat),o.data=.dict es ep∧RawD s.heap a es ep∧es.size=kvs.length∧∀ (i:Nat) (e:DictEntry),es[i]?=some e→∃ (k:List Key) (v:V) (p:Addr),kvs[i]?=some (k,v)∧e.key=Value.ref p∧H p=some (.tup (k.map kV)):=by
  obtain ⟨hg,hz,lo,xs,rel,o',es,ep,ho,hx,hd,he,hn⟩:=(show ObjOk X.prog X.w H s.heap a (.frz o (.dT kvs)) from I.hok a _ ha)
  rw [hg] at ho
  cases ho
  have lx:kvs.length=xs.length:=Paired.length rel
  have les:es.size=xs.length:=by rw [← Array.length_toList,he,List.length_map]
  refine ⟨lo,es,ep,hd,⟨o,hg,hx,hd⟩,by omega,fun i e hi=>?_⟩
  have e2:es.toList[i]?=some e:=by rw [Array.getElem?_toList];exact hi
  rw [he,List.getElem?_map] at e2
  obtain ⟨x,hxx,ex⟩:=Option.map_eq_some_iff.mp e2
  have hl:=(List.getElem?_eq_some_iff.mp hxx).1
  have hk:kvs[i]?=some kvs[i]:=List.getElem?_eq_getElem (by omega)
  have rl:=paired_get rel hk hxx
  refine ⟨kvs[i].1,kvs[i].2,x.2.1,hk,by rw [← ex];rfl,rl.2.1⟩
theorem turn_dictT {P:Program} {w:World} {K:PySem.W.Frag} {tg:Expr} {a it:Addr} {o:Obj} {kvs:List (List Key × V)} {es:Array DictEntry} {ep:Nat} (hd:o.data=.dict es ep) :
    Turn P w K tg (Itd a o kvs) [it] it (fun i h=>h.IsKeyIter it a i es.size ep) where
  mem:=by simp
  obj:=fun i h st b hb=>by
    have e:b=it:=by simpa using hb
    subst e
    obtain ⟨o,e,c,d⟩:=st
    exact ⟨o,e,fun v z=>by rw [d] at z;cases z⟩
  keep:=fun i h h' st k=>st.at fun o e=>k it (by simp) o e
  item:=by
    intro X hP hw hK hc i pins s σ H E I hf st hg
    subst hP hw hK
    obtain ⟨ha,hi⟩:=hg
    obtain ⟨lo,es',ep',hd',raw,hs,key⟩:=frz_raw I ha
    rw [hd] at hd'
    cases hd'
    obtain ⟨f0,f1,f2,f3,f4,f5⟩:=hf it (by simp)
    have hx:es[i]?=some es[i]:=Array.getElem?_eq_getElem (by omega)
    obtain ⟨k,v,p,hk,ek,hp⟩:=key i _ hx
    refine raw_item st raw hx fun h' st' sb=>?_
    have I1:Inv X pins σ H { s with heap:=h' }:=I.turned (t':=s.toks) (fun b o hb e=>(sb.2 b hb).trans e) f0 f1 f3 f4 f5
    obtain ⟨o',e,c,d⟩:=id st'
    exact ⟨_,rfl,go_of (s:={ s with heap:=h' }) e c d (by decide) ⟨.ref p,H,I1,by rw [ek];rfl,⟨rfl,k,v,p,hk,rfl,hp⟩,st',fun b hb=>(hf b hb).1⟩⟩
  done:=by
    intro X hP hw hK hc i pins s σ H E I hf st hg
    subst hP hw hK
    obtain ⟨ha,hi⟩:=hg
    obtain ⟨lo,es',ep',hd',raw,hs,key⟩:=frz_raw I ha
    rw [hd] at hd'
    cases hd'
    obtain ⟨f0,f1,f2,f3,f4,f5⟩:=hf it (by simp)
    exact raw_end (I.ok.hd hc) st raw (by omega) fun h' eb=>⟨rfl,I.turned (t':=s.toks) (fun b o hb e=>eb b o hb e) f0 f1 f3 f4 f5⟩
  self:=fun _ _ _ _ _ st h=>wpAny_pyIter_keyiter st h
def iDT (tl:TE):TI:=fun σ H R=>tl σ H fun x H1=>∃ a o kvs,x=.ref a∧H1 a=some (.frz o (.dT kvs))∧R (Itd a o kvs) H1
theorem pi_dictT {tg l:Expr} {tl:TE} (hl:PE X l tl):PI X tg l (iDT tl):=by
  intro pins s σ H R I h
  refine thn (hl pins s σ H _ I h) fun v s1 ⟨x,H1,I1,r1,q1⟩=>?_
  obtain ⟨a,o,kvs,e,ha,q⟩:=q1
  subst e
  cases r1
  obtain ⟨lo,es,ep,hd,raw,hs,key⟩:=frz_raw I1 ha
  refine raw_iter lo raw ?_
  refine ⟨s1.heap.objs.size,[s1.heap.objs.size],_,_,H1,rfl,I1.kept (t':=s1.toks) fun b o e=>Heap.get?_push_of_some _ e,turn_dictT hd,⟨_,Heap.get?_push_size _ rfl,rfl,rfl⟩,fun b hb=>?_,q⟩
  have e:b=s1.heap.objs.size:=by simpa using hb
  subst e
  exact I1.fpOk (Nat.le_refl _) (I1.hok.fresh (Nat.le_refl _))
def Plain:HO→Prop
  | .tup _=>False
  | .own _=>False
  | .tbl _=>False
  | _=>True
theorem Inv.relab {pins:List (Addr × Obj)} {σ:St} {H:Hp} {s:Shared} {a:Addr} {u u':HO} (I:Inv X pins σ H s) (ha:H a=some u) (hp:Plain u) (hf:∀ o z,X.H₀ a≠some (.frz o z)) (ho:ObjOk X.prog X.w (upd H a u') s.heap a u'):Inv X pins σ (upd H a u') s:=by
  have nn:∀ b,H b=none→b≠a:=fun b n z=>by subst z;rw [n] at ha;cases ha
  have ntup:∀ b xs,H b=some (.tup xs)→b≠a:=fun b xs q z=>by subst z;rw [ha] at q;cases q;exact hp
  have nown:∀ b y,H b=some (.own y)→b≠a:=fun b y q z=>by subst z;rw [ha] at q;cases q;exact hp
  have ntbl:∀ b y,H b=some (.tbl y)→b≠a:=fun b y q z=>by subst z;rw [ha] at q;cases q;exact hp
  refine ⟨I.ok,I.os,I.bare,⟨I.base.keep,I.base.slot,fun b o q n hb=>?_,I.base.there,fun b xs q=>?_,fun b o z q=>?_,fun b ps q=>?_⟩,I.loc,I.cell,?_,fun x c e=>?_,fun p hp=>?_,fun b v q=>?_,I.len⟩
  · have:=I.base.free b o q n hb
    rw [upd_ne (nn b this)];exact this
  · have:=I.base.tups b xs q
    rw [upd_ne (ntup b xs this)];exact this
  · have:=I.base.frzs b o z q
    rw [upd_ne (fun e=>hf o z (by rw [← e];exact q))];exact this
  · obtain ⟨m,e⟩:=I.base.tbls b ps q
    exact ⟨m,by rw [upd_ne (ntbl b _ e)];exact e⟩
  · rw [upd_ne (nn _ I.free)];exact I.free
  · have:=I.freeC x c e
    rw [upd_ne (nn _ this)];exact this
  · obtain ⟨h1,h2,h3⟩:=I.pin p hp
    exact ⟨h1,by rw [upd_ne (nn _ h2)];exact h2,h3⟩
  · by_cases hb:b=a
    · subst hb
      rw [upd_same] at q;cases q;exact ho
    · rw [upd_ne hb] at q
      exact (I.hok b v q).stay (fun _ _ _ r=>r) (fun c r=>by rw [upd_ne (nown c b r)];exact r) fun c xs r=>by rw [upd_ne (ntup c xs r)];exact r
def tFrz (t:TS):TS:=fun D σ H=>∃ a u0 kvs,H a=some u0∧(u0=.dT kvs∨∃ o,u0=.frz o (.dT kvs))∧∀ o,t
  ⟨fun σ' H'=>H' a=some (.frz o (.dT kvs))∧D.nx σ' (upd H' a u0),fun v H'=>H' a=some (.frz o (.dT kvs))∧D.rt v (upd H' a u0),fun σ' H'=>H' a=some (.frz o (.dT kvs))∧D.bk σ' (upd H' a u0),fun σ' H'=>H' a=some (.frz o (.dT kvs))∧D.ct σ' (upd H' a u0)⟩ σ (upd H a (.frz o (.dT kvs)))
theorem ObjOk.upd_dT {P:Program} {w:World} {H:Hp} {h:Heap} {a:Addr} {kvs:List (List Key × V)} {u u':HO} (ha:H a=some u) (hp:Plain u) (x:ObjOk P w H h a (.dT kvs)):ObjOk P w (upd H a u') h a (.dT kvs):=by
  refine x.stay (fun _ _ _ r=>r) (fun c r=>?_) fun c xs r=>?_
  · rw [upd_ne fun z=>by subst z;rw [ha] at r;cases r;exact hp];exact r
  · rw [upd_ne fun z=>by subst z;rw [ha] at r;cases r;exact hp];exact r
theorem ps_frz {st:Stmt} {t:TS} (hst:PS X st t):PS X st (tFrz t):=by
  rintro pins s σ H D I ⟨a,u0,kvs,ha,hu,h⟩
  have pl:Plain u0:=by rcases hu with rfl | ⟨o,rfl⟩ <;> trivial
  -- the object as it stands
  have ob:∃ o,s.heap.get? a=some o∧(u0=.dT kvs∨u0=.frz o (.dT kvs)):=by
    rcases hu with rfl | ⟨o,rfl⟩
    · obtain ⟨hz,lo,xs,rel,o,es,ep,ho,_⟩:=(show ObjOk X.prog X.w H s.heap a (.dT kvs) from I.hok a _ ha)
      exact ⟨o,ho,.inl rfl⟩
    · exact ⟨o,(show ObjOk X.prog X.w H s.heap a (.frz o (.dT kvs)) from I.hok a _ ha).1,.inr rfl⟩
  obtain ⟨o,ho,hu⟩:=ob
  have I1:Inv X pins σ (upd H a (.frz o (.dT kvs))) s:=by
    rcases hu with rfl | rfl
    · refine I.relab ha trivial (fun o' z q=>?_) ⟨ho,ObjOk.upd_dT ha trivial (I.hok a _ ha)⟩
      have:=I.base.frzs a o' z q
      rw [ha] at this;cases this
    · have e:upd H a (.frz o (.dT kvs))=H:=by
        funext b;unfold upd;split
        · next z=>rw [z];exact ha.symm
        · rfl
      rw [e];exact I
  have back:∀ {σ':St} {H':Hp} {s':Shared},Inv X pins σ' H' s'→H' a=some (.frz o (.dT kvs))→Inv X pins σ' (upd H' a u0) s':=fun {σ' H' s'} I' ha'=>by
    rcases hu with rfl | rfl
    · refine I'.relab ha' trivial (fun o' z q=>?_) (ObjOk.upd_dT ha' trivial (show ObjOk X.prog X.w H' s'.heap a (.frz o (.dT kvs)) from I'.hok a _ ha').2)
      have:=I.base.frzs a o' z q
      rw [ha] at this;cases this
    · have e:upd H' a (.frz o (.dT kvs))=H':=by
        funext b;unfold upd;split
        · next z=>rw [z];exact ha'.symm
        · rfl
      rw [e];exact I'
  refine thn (hst pins s σ _ _ I1 (h o)) fun f s' q=>?_
  cases f with
  | next=>obtain ⟨σ',H',I',ha',q⟩:=q;exact ⟨σ',_,back I' ha',q⟩
  | brk=>obtain ⟨σ',H',I',ha',q⟩:=q;exact ⟨σ',_,back I' ha',q⟩
  | cont=>obtain ⟨σ',H',I',ha',q⟩:=q;exact ⟨σ',_,back I' ha',q⟩
  | ret v=>obtain ⟨x,σ',H',I',r,ha',q⟩:=q;exact ⟨x,σ',_,back I' ha',r,q⟩
end
section
variable {σ:St} {H:Hp} {nx:St→Hp→Prop} {B:V→St→Hp→(St→Hp→Prop)→Prop}
theorem loop_dictT {a:Addr} {o:Obj} {kvs:List (List Key × V)} (Pv:Nat→St→Hp→Prop) (h0:Pv 0 σ H) (hl:∀ i σ H,Pv i σ H→H a=some (.frz o (.dT kvs)))
    (hs:∀ i k v p σ H,kvs[i]?=some (k,v)→H p=some (.tup (k.map kV))→Pv i σ H→B (.ref p) σ H (Pv (i + 1))) (hd:∀ σ H,Pv kvs.length σ H→nx σ H) :
    ∃ W:Nat→Nat→St→Hp→Prop,(∃ m,W 0 m σ H)∧∀ i m σ H,W i m σ H→((Itd a o kvs).stop i H∧nx σ H)∨((Itd a o kvs).go i H∧∃ N:St→Hp→Prop,(∀ σ' H',N σ' H'→∃ m',m' < m∧W (i + 1) m' σ' H')∧∀ x H',(Itd a o kvs).yld i H x H'→B x σ H' N):=by
  refine ⟨fun i m σ H=>m=kvs.length - i∧i≤kvs.length∧Pv i σ H,⟨kvs.length,by simp,Nat.zero_le _,h0⟩,?_⟩
  rintro i m σ H ⟨rfl,hi,pv⟩
  by_cases hlt:i < kvs.length
  · refine .inr ⟨⟨hl i σ H pv,hlt⟩,Pv (i + 1),fun σ' H' p'=>⟨kvs.length - (i + 1),by omega,rfl,hlt,p'⟩,?_⟩
    rintro x H' ⟨rfl,k,v,p,hk,rfl,hp⟩
    exact hs i k v p σ _ hk hp pv
  · obtain rfl:i=kvs.length:=by omega
    exact .inl ⟨⟨hl _ σ H pv,Nat.le_refl _⟩,hd σ H pv⟩
end
end L2
namespace L2
open PySem PySem.Spec PyProof.Rows
mutual
inductive Dat (K:PySem.W.Frag) (H:Hp):V→PyData→Prop
  | non:Dat K H .non .none
  | bl (b:Bool):Dat K H (.bl b) (.bool b)
  | int (i:Int):Dat K H (.int i) (.int i)
  | str (x:Str):Dat K H (.str x) (.str x)
  | lst {a:Addr} {xs:List V} {ds:List PyData}:SqL K H a xs→DatAll K H xs ds→Dat K H (.ref a) (.list ds)
  | tup {a:Addr} {xs:List V} {ds:List PyData}:SqT K H a xs→DatAll K H xs ds→Dat K H (.ref a) (.tuple ds)
inductive DatAll (K:PySem.W.Frag) (H:Hp):List V→List PyData→Prop
  | nil:DatAll K H [] []
  | cons {x:V} {d:PyData} {xs:List V} {ds:List PyData}:Dat K H x d→DatAll K H xs ds→DatAll K H (x :: xs) (d :: ds)
end
section
variable {X:Cx} {pins:List (Addr × Obj)} {σ:St} {H:Hp} {s:Shared}
mutual
theorem Dat.reads (I:Inv X pins σ H s):∀ {x:V} {d:PyData} {u:Value},Dat X.K H x d→RelV x u→∃ as,Reads s.heap u d as
  | _,_,_,.non,r=>by cases r;exact ⟨_,.none⟩
  | _,_,_,.bl b,r=>by cases r;exact ⟨_,.bool b⟩
  | _,_,_,.int i,r=>by obtain ⟨t,rfl⟩:=r;exact ⟨_,.int i t⟩
  | _,_,_,.str x,r=>by obtain ⟨t,rfl⟩:=r;exact ⟨_,.str x t⟩
  | _,_,_,.lst hq ha,r=>by
    cases r
    obtain ⟨its,rv,⟨o,n,e,c,_,d⟩,_⟩:=I.list hq
    obtain ⟨as,ra⟩:=DatAll.reads I ha rv
    exact ⟨_,.list e c d (by simpa using ra)⟩
  | _,_,_,.tup hq ha,r=>by
    cases r
    obtain ⟨its,rv,⟨o,e,c,n,d⟩,_⟩:=I.tuple hq
    obtain ⟨as,ra⟩:=DatAll.reads I ha rv
    exact ⟨_,.tuple e c d (by simpa using ra)⟩
theorem DatAll.reads (I:Inv X pins σ H s):∀ {xs:List V} {ds:List PyData} {us:List Value},DatAll X.K H xs ds→Vals xs us→∃ as,ReadsAll s.heap us ds as
  | _,_,_,.nil,r=>by cases r;exact ⟨_,.nil⟩
  | _,_,_,.cons hx ht,r=>by
    cases r with
    | cons r1 rr =>
      obtain ⟨as,ra⟩:=Dat.reads I hx r1
      obtain ⟨bs,rb⟩:=DatAll.reads I ht rr
      exact ⟨_,.cons ra rb⟩
end
end
section
variable {K:PySem.W.Frag} {H H':Hp}
theorem SqL.mono {a:Addr} {xs:List V} (k:Same H H') (h:SqL K H a xs):SqL K H' a xs:=by
  rcases h with (h | ⟨o,h⟩) | h
  · exact .inl (.inl (k _ _ h))
  · exact .inl (.inr ⟨o,k _ _ h⟩)
  · exact .inr h
end
section
variable {X:Cx} {pins:List (Addr × Obj)} {σ:St} {H:Hp} {s:Shared}
mutual
theorem Dat.inj (I:Inv X pins σ H s):∀ {x:V} {d e:PyData},Dat X.K H x d→Dat X.K H x e→d=e
  | _,_,_,.non,h=>by cases h;rfl
  | _,_,_,.bl b,h=>by cases h;rfl
  | _,_,_,.int i,h=>by cases h;rfl
  | _,_,_,.str x,h=>by cases h;rfl
  | _,_,_,.lst hq ha,h=>by
    cases h with
    | lst hq' ha' =>
      have e:=I.list_inj hq hq'
      subst e
      rw [DatAll.inj I ha ha']
    | tup hq' ha' =>
      obtain ⟨_,_,⟨o,n,e,c,_⟩,_⟩:=I.list hq
      obtain ⟨_,_,⟨o',e',c',_⟩,_⟩:=I.tuple hq'
      rw [e] at e';cases e'
      rw [c] at c';exact absurd c' (by simp)
  | _,_,_,.tup hq ha,h=>by
    cases h with
    | tup hq' ha' =>
      have e:=I.tuple_inj hq hq'
      subst e
      rw [DatAll.inj I ha ha']
    | lst hq' ha' =>
      obtain ⟨_,_,⟨o,e,c,_⟩,_⟩:=I.tuple hq
      obtain ⟨_,_,⟨o',n,e',c',_⟩,_⟩:=I.list hq'
      rw [e] at e';cases e'
      rw [c] at c';exact absurd c' (by simp)
theorem DatAll.inj (I:Inv X pins σ H s):∀ {xs:List V} {ds es:List PyData},DatAll X.K H xs ds→DatAll X.K H xs es→ds=es
  | _,_,_,.nil,h=>by cases h;rfl
  | _,_,_,.cons hx ht,h=>by
    cases h with
    | cons hx' ht'=>rw [Dat.inj I hx hx',DatAll.inj I ht ht']
end
end
mutual
def plainD:PyData→Bool
  | .none=>true
  | .int _=>true
  | .str x=>PyData.strOk x
  | .list xs=>plainDs xs
  | .tuple xs=>plainDs xs
  | .bool _=>false
  | .dict _=>false
def plainDs:List PyData→Bool
  | []=>true
  | x :: xs=>plainD x && plainDs xs
end
mutual
theorem plain_lay:∀ {d:PyData},plainD d=true→d.canLay0=true
  | .none,_=>by simp [PyData.canLay0]
  | .int _,_=>by simp [PyData.canLay0]
  | .str x,h=>by simpa [PyData.canLay0,plainD] using h
  | .list xs,h=>by rw [PyData.canLay0];exact plains_lay (by simpa [plainD] using h)
  | .tuple xs,h=>by rw [PyData.canLay0];exact plains_lay (by simpa [plainD] using h)
  | .bool _,h=>by simp [plainD] at h
  | .dict _,h=>by simp [plainD] at h
theorem plains_lay:∀ {ds:List PyData},plainDs ds=true→PyData.canLayAll0 ds=true
  | [],_=>by simp [PyData.canLayAll0]
  | x :: xs,h=>by
    rw [plainDs,Bool.and_eq_true] at h
    rw [PyData.canLayAll0,plain_lay h.1,plains_lay h.2];rfl
end
mutual
theorem plain_eqv:∀ {d e:PyData},plainD d=true→plainD e=true→(PyData.eqv d e=true↔d=e)
  | .list xs,.list ys,h,h'=>by
    rw [PyData.eqv,plains_eqv (by simpa [plainD] using h) (by simpa [plainD] using h'),PyData.list.injEq]
  | .tuple xs,.tuple ys,h,h'=>by
    rw [PyData.eqv,plains_eqv (by simpa [plainD] using h) (by simpa [plainD] using h'),PyData.tuple.injEq]
  | .bool _,_,h,_=>by simp [plainD] at h
  | .dict _,_,h,_=>by simp [plainD] at h
  | .none,.bool _,_,h=>by simp [plainD] at h
  | .int _,.bool _,_,h=>by simp [plainD] at h
  | .str _,.bool _,_,h=>by simp [plainD] at h
  | .list _,.bool _,_,h=>by simp [plainD] at h
  | .tuple _,.bool _,_,h=>by simp [plainD] at h
  | .none,.dict _,_,h=>by simp [plainD] at h
  | .int _,.dict _,_,h=>by simp [plainD] at h
  | .str _,.dict _,_,h=>by simp [plainD] at h
  | .list _,.dict _,_,h=>by simp [plainD] at h
  | .tuple _,.dict _,_,h=>by simp [plainD] at h
  | .none,.none,_,_ | .none,.int _,_,_ | .none,.str _,_,_ | .none,.list _,_,_ | .none,.tuple _,_,_=>by simp [PyData.eqv]
  | .int _,.none,_,_ | .int _,.int _,_,_ | .int _,.str _,_,_ | .int _,.list _,_,_ | .int _,.tuple _,_,_=>by simp [PyData.eqv]
  | .str _,.none,_,_ | .str _,.int _,_,_ | .str _,.str _,_,_ | .str _,.list _,_,_ | .str _,.tuple _,_,_=>by simp [PyData.eqv]
  | .list _,.none,_,_ | .list _,.int _,_,_ | .list _,.str _,_,_ | .list _,.tuple _,_,_=>by simp [PyData.eqv]
  | .tuple _,.none,_,_ | .tuple _,.int _,_,_ | .tuple _,.str _,_,_ | .tuple _,.list _,_,_=>by simp [PyData.eqv]
theorem plains_eqv:∀ {xs ys:List PyData},plainDs xs=true→plainDs ys=true→(PyData.eqvAll xs ys=true↔xs=ys)
  | [],[],_,_=>by simp [PyData.eqvAll]
  | [],_ :: _,_,_=>by simp [PyData.eqvAll]
  | _ :: _,[],_,_=>by simp [PyData.eqvAll]
  | x :: xs,y :: ys,h,h'=>by
    rw [plainDs,Bool.and_eq_true] at h h'
    rw [PyData.eqvAll,Bool.and_eq_true,plain_eqv h.1 h'.1,plains_eqv h.2 h'.2,List.cons.injEq]
end
abbrev rEqD (K:PySem.W.Frag) (neg:Bool):R2:=fun x y H Q=>∃ d e,Dat K H x d∧Dat K H y e∧(plainD d=true∧plainD e=true∧d.depth≤64∧e.depth≤64)∧∀ b:Bool,(b=true↔d=e)→Q (.bl (if neg then !b else b)) H
section
variable {X:Cx}
theorem shaped_plain {d:PyData} (h:plainD d=true) (h':d.depth≤64):SeqAt.shaped d=true:=by
  unfold SeqAt.shaped
  rw [plain_lay h,decide_eq_true h'];rfl
theorem op_eqAll (hu:X.A.units + 64 < cLine):OpR X (compareOp .Eq) (rEqD X.K false):=by
  intro pins s σ H x y v u Q I rx ry h
  obtain ⟨d,e,hd,he,⟨p1,p2,l1,l2⟩,q⟩:=h
  obtain ⟨as,ra⟩:=hd.reads I rx
  obtain ⟨bs,rb⟩:=he.reads I ry
  exact eq_dataH ra rb (shaped_plain p1 l1) (shaped_plain p2 l2) hu ⟨.bl _,H,I,rfl,q _ (plain_eqv p1 p2)⟩
end
end L2
namespace L2
open PySem PySem.Spec PyProof.Rows
abbrev rGtS:R2:=fun x y H Q=>∃ i j,x=.str i∧y=.str j∧Q (.bl (decide (j.cps.toList < i.cps.toList))) H
abbrev rInD (neg:Bool):R2:=fun x y H Q=>∃ a o,y=.ref a∧DGet H a x o∧Q (.bl (if neg then !o.isSome else o.isSome)) H
section
variable {X:Cx}
end
end L2
namespace L2
open PySem
abbrev Pl:=Str × Int
abbrev Row:=Pl × Int
def lastW:List Row→Pl→Option Int
  | [],_=>none
  | r :: t,p=>(lastW t p).or (if r.1=p then some r.2 else none)
def dStep (kvs:List (List Key × V)) (q:Row):List (List Key × V):=putK kvs (plKey q.1) (.int q.2)
def dOf (rows:List Row):List (List Key × V):=rows.foldl dStep []
theorem plKey_inj {p q:Pl} (h:plKey p=plKey q):p=q:=by
  unfold plKey at h
  simp only [List.cons.injEq,Sum.inr.injEq,Sum.inl.injEq,and_true] at h
  exact Prod.ext h.1 h.2
theorem val_fold:∀ (rows:List Row) (kvs:List (List Key × V)) (p:Pl),valV (rows.foldl dStep kvs) (plKey p)=((lastW rows p).map V.int).or (valV kvs (plKey p))
  | [],_,_=>rfl
  | r :: t,kvs,p=>by
    rw [List.foldl_cons,val_fold t,lastW]
    show _=_
    rw [dStep,valV_put]
    cases lastW t p with
    | some w=>rfl
    | none =>
      by_cases e:r.1=p
      · subst e;simp
      · rw [if_neg (fun z=>e (plKey_inj z).symm)];simp [e]
theorem val_dOf (rows:List Row) (p:Pl):valV (dOf rows) (plKey p)=(lastW rows p).map V.int:=by
  unfold dOf
  rw [val_fold,valV_nil]
  cases lastW rows p <;> rfl
theorem dOf_snoc (rows:List Row) (q:Row):dOf (rows ++ [q])=putK (dOf rows) (plKey q.1) (.int q.2):=by
  unfold dOf
  rw [List.foldl_append];rfl
def OkKv (kvs:List (List Key × V)):Prop:=(kvs.map (·.1)).Nodup∧∀ kv∈kvs,∃ (p:Pl) (w:Int),kv=(plKey p,.int w)
theorem OkKv.put {kvs:List (List Key × V)} (h:OkKv kvs) (p:Pl) (w:Int):OkKv (putK kvs (plKey p) (.int w)):=by
  cases e:valV kvs (plKey p) with
  | none =>
    refine ⟨nd_putK _ h.1 e,fun kv hk=>?_⟩
    rw [putK_new _ e] at hk
    rcases List.mem_append.mp hk with hk | hk
    · exact h.2 kv hk
    · exact ⟨p,w,List.mem_singleton.mp hk⟩
  | some v =>
    have q:(kvs.any fun kv=>decide (kv.1=plKey p))=true:=by rw [valV_any,e];rfl
    unfold putK
    rw [if_pos q]
    constructor
    · rw [List.map_map]
      have:((fun x:List Key × V=>x.1) ∘ fun kv:List Key × V=>if kv.1=plKey p then (kv.1,V.int w) else kv)=fun x=>x.1:=by
        funext kv
        show (if kv.1=plKey p then (kv.1,V.int w) else kv).1=kv.1
        split <;> rfl
      rw [this];exact h.1
    · intro kv hk
      obtain ⟨z,hz,rfl⟩:=List.mem_map.mp hk
      by_cases e:z.1=plKey p
      · exact ⟨p,w,by rw [if_pos e,e]⟩
      · rw [if_neg e];exact h.2 z hz
theorem okKv_fold:∀ (rows:List Row) (kvs:List (List Key × V)),OkKv kvs→OkKv (rows.foldl dStep kvs)
  | [],_,h=>h
  | r :: t,kvs,h=>okKv_fold t _ (h.put r.1 r.2)
theorem okKv_dOf (rows:List Row):OkKv (dOf rows):=okKv_fold rows [] ⟨List.nodup_nil,fun _ h=>nomatch h⟩
theorem len_put (kvs:List (List Key × V)) (k:List Key) (v:V):(putK kvs k v).length≤kvs.length + 1:=by
  unfold putK
  split
  · rw [List.length_map];omega
  · rw [List.length_append];simp
theorem len_fold:∀ (rows:List Row) (kvs:List (List Key × V)),(rows.foldl dStep kvs).length≤kvs.length + rows.length
  | [],_=>by simp
  | r :: t,kvs=>by
    have:=len_fold t (dStep kvs r)
    have:=len_put kvs (plKey r.1) (.int r.2)
    rw [List.foldl_cons,List.length_cons]
    unfold dStep at *
    omega
theorem len_dOf (rows:List Row):(dOf rows).length≤rows.length:=by have:=len_fold rows [];simpa [dOf] using this
theorem valV_nd {kvs:List (List Key × V)}:(kvs.map (·.1)).Nodup→∀ kv∈kvs,valV kvs kv.1=some kv.2:=by
  induction kvs with
  | nil=>exact fun _ kv h=>nomatch h
  | cons a r ih =>
    intro hn kv hk
    rw [List.map_cons,List.nodup_cons] at hn
    rcases List.mem_cons.mp hk with rfl | hk
    · exact valV_pos rfl
    · rw [valV_neg fun z=>hn.1 (by rw [z];exact List.mem_map_of_mem hk)]
      exact ih hn.2 kv hk
theorem mem_dOf {rows:List Row} {kv:List Key × V}:kv∈dOf rows↔∃ p w,kv=(plKey p,.int w)∧lastW rows p=some w:=by
  constructor
  · intro h
    obtain ⟨p,w,rfl⟩:=(okKv_dOf rows).2 kv h
    have:=valV_nd (okKv_dOf rows).1 _ h
    rw [val_dOf] at this
    obtain ⟨w',e1,e2⟩:=Option.map_eq_some_iff.mp this
    cases e2
    exact ⟨p,w,rfl,e1⟩
  · rintro ⟨p,w,rfl,h⟩
    have e:valV (dOf rows) (plKey p)=some (.int w):=by rw [val_dOf,h];rfl
    obtain ⟨kv,hk,e1⟩:=List.mem_map.mp (valV_in e)
    have:=valV_nd (okKv_dOf rows).1 _ hk
    rw [e1,e] at this
    have e2:kv=(plKey p,V.int w):=Prod.ext e1 (Option.some.inj this).symm
    rw [← e2];exact hk
theorem placeLt_irr (a:Pl):placeLt a a=false:=by
  unfold placeLt
  rw [if_pos rfl]
  exact decide_eq_false (by omega)
theorem placeLt_trans {a b c:Pl} (h1:placeLt a b=true) (h2:placeLt b c=true):placeLt a c=true:=by
  unfold placeLt at *
  by_cases e1:a.1=b.1
  · rw [if_pos e1] at h1
    by_cases e2:b.1=c.1
    · rw [if_pos e2] at h2
      rw [if_pos (e1.trans e2)]
      have h1:=of_decide_eq_true h1
      have h2:=of_decide_eq_true h2
      exact decide_eq_true (by omega)
    · rw [if_neg e2] at h2
      rw [if_neg (by rw [e1];exact e2),e1]
      exact h2
  · rw [if_neg e1] at h1
    have h1:=of_decide_eq_true h1
    by_cases e2:b.1=c.1
    · rw [if_neg (by rw [← e2];exact e1),← e2]
      exact decide_eq_true h1
    · rw [if_neg e2] at h2
      have h2:=of_decide_eq_true h2
      have h3:=List.lt_trans h1 h2
      rw [if_neg (fun z=>by rw [z] at h3;exact List.lt_irrefl _ h3)]
      exact decide_eq_true h3
def Rising (l:List Row):Prop:=l.Pairwise fun a b=>placeLt a.1 b.1=true
def IsTab (rows out:List Row):Prop:=Rising out∧∀ p w,(p,w)∈out↔lastW rows p=some w∧w≠0
theorem Rising.nd {l:List Row} (h:Rising l):(l.map (·.1)).Nodup:=by
  unfold List.Nodup
  rw [List.pairwise_map]
  exact List.Pairwise.imp (fun {a b} h z=>by rw [z,placeLt_irr] at h;cases h) h
theorem last_none {p:Pl}:∀ {l:List Row},(∀ r∈l,r.1≠p)→lastW l p=none
  | [],_=>rfl
  | r :: t,h=>by
    rw [lastW,last_none fun r hr=>h r (List.mem_cons_of_mem _ hr),if_neg (h r List.mem_cons_self)];rfl
theorem last_nd {p:Pl} {w:Int}:∀ {l:List Row},(l.map (·.1)).Nodup→(lastW l p=some w↔(p,w)∈l)
  | [],_=>by simp [lastW]
  | r :: t,hn=>by
    rw [List.map_cons,List.nodup_cons] at hn
    have ih:=last_nd (p:=p) (w:=w) hn.2
    by_cases e:r.1=p
    · have z:lastW t p=none:=last_none fun q hq zz=>hn.1 (by rw [e,← zz];exact List.mem_map_of_mem hq)
      rw [lastW,z,if_pos e]
      constructor
      · intro h
        have:r.2=w:=by simpa using h
        rw [← e,← this];exact List.mem_cons_self
      · intro h
        rcases List.mem_cons.mp h with h | h
        · rw [← h];rfl
        · exact absurd (List.mem_map_of_mem (f:=(·.1)) h) (by rw [← e];exact hn.1)
    · rw [lastW,if_neg e,Option.or_none,ih,List.mem_cons]
      constructor
      · exact .inr
      · rintro (h | h)
        · exact absurd (by rw [← h]) e
        · exact h
theorem rising_ext:∀ {a b:List Row},Rising a→Rising b→(∀ x,x∈a↔x∈b)→a=b
  | [],[],_,_,_=>rfl
  | [],y :: _,_,_,h=>absurd ((h y).mpr List.mem_cons_self) (by simp)
  | x :: _,[],_,_,h=>absurd ((h x).mp List.mem_cons_self) (by simp)
  | x :: a,y :: b,ha,hb,h=>by
    unfold Rising at ha hb
    rw [List.pairwise_cons] at ha hb
    have e:x=y:=by
      rcases List.mem_cons.mp ((h x).mp List.mem_cons_self) with e | e
      · exact e
      · rcases List.mem_cons.mp ((h y).mpr List.mem_cons_self) with e' | e'
        · exact e'.symm
        · have:=placeLt_trans (ha.1 y e') (hb.1 x e)
          rw [placeLt_irr] at this;cases this
    subst e
    have nx:x ∉ a:=fun z=>by have:=ha.1 x z;rw [placeLt_irr] at this;cases this
    have ny:x ∉ b:=fun z=>by have:=hb.1 x z;rw [placeLt_irr] at this;cases this
    rw [rising_ext ha.2 hb.2 fun z=>?_]
    constructor
    · intro hz
      rcases List.mem_cons.mp ((h z).mp (List.mem_cons_of_mem _ hz)) with e | e
      · subst e;exact absurd hz nx
      · exact e
    · intro hz
      rcases List.mem_cons.mp ((h z).mpr (List.mem_cons_of_mem _ hz)) with e | e
      · subst e;exact absurd hz ny
      · exact e
theorem nd_len_le {α:Type} [DecidableEq α]:∀ {a b:List α},a.Nodup→(∀ x∈a,x∈b)→a.length≤b.length
  | [],_,_,_=>Nat.zero_le _
  | x :: a,b,hn,h=>by
    rw [List.nodup_cons] at hn
    have hx:=h x List.mem_cons_self
    have:=nd_len_le (a:=a) (b:=b.erase x) hn.2 fun y hy=>(List.mem_erase_of_ne fun z=>hn.1 (by rw [← z];exact hy)).mpr (h y (List.mem_cons_of_mem _ hy))
    rw [List.length_erase_of_mem hx] at this
    have:0 < b.length:=List.length_pos_of_mem hx
    rw [List.length_cons];omega
end L2
namespace L2
open PySem PySem.Spec PyProof.Rows
def Itzl (K:PySem.W.Frag) (p q:Addr) (xs ys:List V):It:=⟨fun i H=>i < xs.length∧SqL K H p xs∧SqL K H q ys,fun i H x H'=>∃ T u v,x=.ref T∧H T=none∧H'=upd H T (.tup [u,v])∧xs[i]?=some u∧ys[i]?=some v,fun i H=>xs.length≤i∧SqL K H p xs∧SqL K H q ys⟩
def iZipL (K:PySem.W.Frag) (ta:TA):TI:=fun σ H R=>ta σ H fun vs H1=>∃ p q xs ys,vs=[.ref p,.ref q]∧SqL K H1 p xs∧SqL K H1 q ys∧xs.length=ys.length∧R (Itzl K p q xs ys) H1
section
variable {X:Cx}
end
section
variable {σ:St} {H:Hp} {nx:St→Hp→Prop} {B:V→St→Hp→(St→Hp→Prop)→Prop}
end
end L2
namespace L2
open PySem PySem.Spec PyProof.Rows
theorem plain_dul:plainId "dict.update.loop"=true:=by decide +kernel
theorem entry_dul:entryFor table "dict.update.loop"=some Builtin.«dict.update.loop»:=entryFor_of_fast (by kernel_rfl)
section
variable {X:Cx} {A:Around} {R:Result→Shared→Prop}
def PrAt (H:Hp) (v:V) (q:Row):Prop:=∃ r p,v=.ref r∧H r=some (.tup [.ref p,.int q.2])∧H p=some (.tup [.str q.1.1,.int q.1.2])
theorem dul_store {pins:List (Addr × Obj)} {σ:St} {H:Hp} {s:Shared} {d b:Addr} {kvs:List (List Key × V)} {k:List Key} {v:V} {u:Value} {E:Value→Shared→Prop} {Q:Unit→Shared→Prop} (hu:A.units + 1 < cLine) (I:Inv X pins σ H s) (e:H d=some (.dT kvs)) (eb:H b=some (.tup (k.map kV))) (l:kvs.length < sizeLine) (rv:RelV v u)
    (h:∀ h' tk,Inv X pins σ (upd H d (.dT (putK kvs k v))) { s with heap:=h',toks:=tk }→Heap.SameBut d s.heap h'→Q () { s with heap:=h',toks:=tk }):wpAny (model X.prog X.w) A.in1 (dictSet d (.ref b) u) Q E s:=by
  obtain ⟨z,hd,xs,rel,dd⟩:=dt_of I.hok e
  have hz:xs.length≤sizeLine:=by rw [← Paired.length rel];exact z
  have hl:(putK kvs k v).length≤sizeLine:=by have:=length_putK kvs k v;omega
  refine wpAny_dictSet_heap (hsz:=hz) (tupleKind_room_in1 hu) (key_of I.hok eb) dd fun h' dd' hs=>h _ _ ?_ hs
  obtain ⟨q,es,ep,hq,h2,h3,h4,_,h5⟩:=dd'
  refine d_write I (by rw [e];exact True.intro) hs ⟨q,hq⟩ ⟨hl,hd,_,(rel.put k eb rv).keeps fun c ys ec=>?_,q,es,ep,hq,h2,h3,h4,h5⟩
  rw [upd_ne (ne_of ec e (fun z=>nomatch z))]
  exact ec
theorem dul_loop {pins:List (Addr × Obj)} {σ:St} {H:Hp} {d it l:Addr} {xs:List V} {rows:List Row} {res:Value} (hu:A.units + 1 < cLine) (hh:A.handled=none) (hd:H d=none) (hl:H l=some (.lst xs)) (hr:Paired (PrAt H) xs rows) (h63:rows.length≤1000) (dit:it≠d) (lit:l≠it) :
    ∀ (k i:Nat) (s:Shared),rows.length - i=k→i≤rows.length→Inv X pins σ (upd H d (.dT (dOf (rows.take i)))) s→s.heap.IsListIter it l i→(∀ u,FpOk X pins (upd H d u) it) →
    (∀ s',Inv X pins σ (upd H d (.dT (dOf rows))) s'→R (.ok (.ret res)) s') →
    codeAny (model X.prog X.w) A (.builtin "dict.update.loop" ⟨[.ref d,.ref it,rawInt i,res],[]⟩) R s:=by
  have lx:xs.length=rows.length:=Paired.length hr
  have S:∀ u:HO,Same H (upd H d u):=fun u=>isV (o:=u) d hd
  intro k
  induction k with
  | zero =>
    intro i s hk hi I st hf fin
    have e:i=rows.length:=by omega
    subst e
    refine codeAny_builtin entry_dul ?_
    rw [Around.under_plainId plain_dul _]
    show wpAny _ A.in1 (pyNext (.ref it) >>= _) _ _ s
    obtain ⟨its,rv,p,hz⟩:=I.list (SqL.of (S _ _ _ hl))
    obtain ⟨f0,f1,f2,f3,f4,f5⟩:=hf (.dT (dOf (rows.take rows.length)))
    have hl2:=rv.length
    refine wpAny_bind (wpAny_pyNext_list_end hh st p.isList (by simp;omega) fun h' eb=>?_)
    have I1:=I.turned (t':=s.toks) (fun b o hb e=>eb b o hb e) f0 f1 f3 f4 f5
    rw [List.take_length] at I1
    show wpAny _ A.in1 (Builtin.Dict.addKeywords d [] >>= _) _ _ _
    exact wpAny_bind (wpAny_pure (wpAny_pure (fin _ I1)))
  | succ k ih =>
    intro i s hk hi I st hf fin
    have hlt:i < rows.length:=by omega
    refine codeAny_builtin entry_dul ?_
    rw [Around.under_plainId plain_dul _]
    show wpAny _ A.in1 (pyNext (.ref it) >>= _) _ _ s
    obtain ⟨its,rv,p,hz⟩:=I.list (SqL.of (S _ _ _ hl))
    obtain ⟨f0,f1,f2,f3,f4,f5⟩:=hf (.dT (dOf (rows.take i)))
    have hx:xs[i]?=some xs[i]:=List.getElem?_eq_getElem (by omega)
    have hq:rows[i]?=some rows[i]:=List.getElem?_eq_getElem hlt
    obtain ⟨r,pl,e1,t1,u1⟩:=paired_get hr hx hq
    obtain ⟨u,hu',ru⟩:=rv.get hx
    rw [e1] at ru
    cases ru
    refine wpAny_bind (wpAny_pyNext_list_item st p.isList (x:=.ref r) (by simpa using hu') fun h' st' sb=>?_)
    have I1:=I.turned (t':=s.toks) (fun b o hb e=>(sb.2 b hb).trans e) f0 f1 f3 f4 f5
    obtain ⟨tis,tv,⟨o,ho,hc,n,hdt⟩,_⟩:=I1.tuple (SqT.of (S _ _ _ t1))
    cases tv with
    | cons r1 rr =>
      cases rr with
      | cons r2 rn =>
        cases rn
        cases r1
        obtain ⟨tk,rfl⟩:=r2
        refine wpAny_bind (wpAny_holding ?_)
        have T:({ s with heap:=h' }:Shared).TypeIs (.ref r) "tuple":=⟨o,ho,hc⟩
        refine wpAny_bind (wpAny_tryCatch ?_)
        unfold Builtin.Dict.pairItems
        refine wpAny_bind (wpAny_typeOf T ?_)
        rw [if_pos (by decide)]
        refine wpAny_bind ?_
        unfold seqItems?
        refine wpAny_bind (wpAny_load ho ?_)
        rw [hdt]
        refine wpAny_pure (wpAny_pure ?_)
        show wpAny _ _ (holding [.ref pl,.int rows[i].2 tk] (dictSet d (.ref pl) (.int rows[i].2 tk))) _ _ _
        refine wpAny_holding ?_
        have tk2:dOf (rows.take (i + 1))=putK (dOf (rows.take i)) (plKey rows[i].1) (.int rows[i].2):=by rw [List.take_add_one,hq,← dOf_snoc];rfl
        have l2:(dOf (rows.take i)).length < sizeLine:=by
          have h1:=len_dOf (rows.take i)
          have h2:=List.length_take_le' i rows
          exact Nat.lt_of_le_of_lt (by omega:_≤1000) (by decide)
        refine dul_store (k:=plKey rows[i].1) (v:=.int rows[i].2) hu I1 upd_same (S _ _ _ u1) l2 ⟨tk,rfl⟩ fun h2 tk3 I2 sb2=>?_
        rw [upd_upd,← tk2] at I2
        refine wpAny_pure ⟨plainId_quiet plain_dul _,ih (i + 1) _ (by omega) hlt I2 (st'.at fun o e=>(sb2.2 it dit).trans e) hf fin⟩
end
end L2
namespace L2
open PySem PySem.Spec PyProof.Rows
theorem lk_list_keys:typeLookup (.type "list") "keys"=pure none:=by rw [typeLookup_type,builtinLookup_eq_fast];kernel_rfl
section
variable {prog:Program} {w:World} {A:Around} {E:Value→Shared→Prop} {s:Shared} {a:Addr} {o:Obj} {xs:Array Value} {k:Nat}
theorem keys_none_list {Q:Option Value→Shared→Prop} (hx:s.heap.get? a=some o) (hc:o.cls=.type "list") (hdat:o.data=.seq xs k) (hd:o.dict=none) (hA:A.handled=none)
    (h:∀ h' tk,(∀ b ob,s.heap.get? b=some ob→h'.get? b=some ob)→Q none { s with heap:=h',toks:=tk }):wpAny (model prog w) A (getAttr? (.ref a) "keys") Q E s:=by
  obtain ⟨c,dct,dat,sl⟩:=o;simp only at hc hdat hd;subst hc hdat hd
  obtain ⟨hp,g,d,tk,os⟩:=s;have hT:∀ tk',(⟨hp,g,d,tk',os⟩:Shared).TypeIs (.ref a) "list":=fun _=>⟨_,hx,rfl⟩
  have f1:=sub_AttributeError;have f3:=F.slot_list_getattribute.lookup;have f4:=F.slot_list_getattribute.bind (.ref a);have f5:=am_list_getattr_none
  unfold getAttr? getAttrBy? getAttrBy
  repeat (any_goals (first | assumption | exact hT _ | ((with_reducible show wpAny _ _ (call (Value.builtin "list.__getattribute__") _ _) _ _ _);refine call_meets F.slot_list_getattribute (hT _) am_entry_list_getattribute (F.args_list_getattribute_2 _ _) (meets_getattribute_miss_list a xs k sl "keys" _ lk_list_keys (by decide +kernel) (by decide +kernel)) ⟨hx,hA,fun h' tk' e hx'=>?_⟩) | wp_step))
  obtain ⟨t',u',he⟩:=hx'.there;have kp:=hx'.keeps
  show wpAny _ _ (getattributeRaised _ _ _ _ _ _ _) _ _ _;unfold getattributeRaised
  repeat (any_goals (first | assumption | wp_step))
  all_goals exact h _ _ fun b ob e=>kp b ob e
end
theorem hu3 {k:Nat} {A:Around} (r:Room k A):A.units + 3 < cLine:=by have:=hu64 r;omega
abbrev cDctP:RC:=fun vs H Q=>∃ (a:Addr) (xs:List V) (rows:List Row),vs=[.ref a]∧H a=some (.lst xs)∧Paired (PrAt H) xs rows∧rows.length≤1000∧∀ p,H p=none→Q (.ref p) (upd H p (.dT (dOf rows)))
section
variable {X:Cx}
theorem call_dict_pairs (hc:X.calm=true) (hu:X.A.units + 3 < cLine):CallR X (.type "dict") cDctP:=by
  intro pins s σ H vs us Q I r h
  obtain ⟨a,xs,rows,rfl,ha,hr,hl,q⟩:=h
  obtain ⟨u,rfl,ru⟩:=vals1 r
  cases ru
  have hh:X.A.handled=none:=I.ok.hd hc
  refine callType_codes (Q₁:=fun obj s₁=>obj=.ref s.heap.objs.size∧s₁={ s with heap:=s.heap.push { cls:=.type "dict",data:=.dict #[] } }) F.kt_called_dict (F.kt_typeCall_dict_1 _) F.entry_dict_init (kt_code_dict_new _ ⟨rfl,rfl⟩) ?_;rintro obj s₁ ⟨rfl,rfl⟩
  have T0:({ s with heap:=s.heap.push { cls:=.type "dict",data:=.dict #[] } }:Shared).TypeIs (.ref s.heap.objs.size) "dict":=⟨_,Heap.get?_push_size _ rfl,rfl⟩
  refine ⟨T0,F.args_dict_init_2 _ _,?_⟩;unfold Builtin.«dict.__init__»;refine wpAny_bind ?_;unfold Builtin.Dict.selfAndRest
  refine wpAny_bind (wpAny_notOrdered_dict T0 ?_);show wpAny _ _ (pure (s.heap.objs.size,[Value.ref a])) _ _ _;refine wpAny_pure ?_
  show wpAny _ _ (Builtin.Dict.updateFrom "dict.__init__" s.heap.objs.size (.ref a) [] .none) _ _ _;unfold Builtin.Dict.updateFrom
  have hn:H s.heap.objs.size=none:=I.hok.fresh (Nat.le_refl _)
  have S:∀ u:HO,Same H (upd H s.heap.objs.size u):=fun u=>isV (o:=u) _ hn
  have I1:Inv X pins σ (upd H s.heap.objs.size (.dT [])) { s with heap:=s.heap.push { cls:=.type "dict",data:=.dict #[] } } :=
    I.laid (a:=s.heap.objs.size) (o:=.dT []) (t':=s.toks) (fun b o z=>Heap.get?_push_of_some _ z) (Nat.le_refl _) (dt_empty s.heap I.big)
  obtain ⟨its,rv,pl,_⟩:=I1.list (SqL.of (S _ _ _ ha))
  obtain ⟨o,n,ho,oc,od,odat⟩:=id pl
  have T1:({ s with heap:=s.heap.push { cls:=.type "dict",data:=.dict #[] } }:Shared).TypeIs (.ref a) "list":=⟨o,ho,oc⟩
  refine wpAny_bind (wpAny_typeOf T1 ?_);rw [if_pos (by decide)]
  refine wpAny_bind (keys_none_list ho oc odat od (by exact hh) fun h2 tk2 k2=>?_);rw [if_pos (show (none:Option Value).isNone=true from rfl)]
  refine wpAny_bind (wpAny_rule ?_)
  have I2:Inv X pins σ (upd H s.heap.objs.size (.dT [])) { s with heap:=h2,toks:=tk2 }:=I1.kept k2
  obtain ⟨its2,rv2,pl2,_⟩:=I2.list (SqL.of (S _ _ _ ha))
  refine wpAny_bind (wpAny_pyIter_list pl2.isList ?_)
  have I3:Inv X pins σ (upd H s.heap.objs.size (.dT (dOf (rows.take 0)))) { s with heap:=h2.push { cls:=.type "list_iterator",data:=.fields #[.ref a,.int 0 0] },toks:=tk2 }:=I2.kept (t':=tk2) fun b o e=>Heap.get?_push_of_some _ e
  refine wpAny_pure ⟨plainId_quiet plain_dul _,?_⟩
  have lt:s.heap.objs.size < h2.objs.size:=Heap.lt_size (k2 s.heap.objs.size _ (Heap.get?_push_size _ rfl))
  have la:a < h2.objs.size:=by obtain ⟨_,_,z,_⟩:=pl2;exact Heap.lt_size z
  refine dul_loop (A:=X.A.in1) (H:=H) (d:=s.heap.objs.size) (it:=h2.objs.size) (l:=a) (xs:=xs) (rows:=rows) (res:=.none) ?_ hh hn ha hr hl (Nat.ne_of_gt lt) (Nat.ne_of_lt la) rows.length 0 _ (by omega) (Nat.zero_le _) I3 ⟨_,Heap.get?_push_size _ rfl,rfl,rfl⟩ (fun u=>?_) fun s' I'=>⟨rfl,.ref s.heap.objs.size,_,I',rfl,q _ hn⟩
  · have e:X.A.in1.units=X.A.units + 1:=rfl
    omega
  · refine I2.fpOk (Nat.le_refl _) ?_
    rw [upd_ne (Nat.ne_of_gt lt)]
    have:=I2.hok.fresh (Nat.le_refl h2.objs.size)
    rw [upd_ne (Nat.ne_of_gt lt)] at this
    exact this
end
end L2
namespace L2
open PySem PySem.Spec PyProof.Rows
section
variable {X:Cx} {k:Nat} {f C:Addr} {fd:FuncData} {ps:List Str} {sp:Sp} {m:Str} {pos apos:Pos} {e o:Expr} {es:List Expr} {ta:TE} {t:TA}
def tMethX (C:Addr) (m:Str) (sp:Sp) (ta:TE) (t:TA) (EX:EXK):TE:=fun σ H Q=>ta σ H fun x H1=>∃ a dx fs,x=.ref a∧H1 a=some (.ins C dx fs)∧fs.lookup m=none ∧
  t σ H1 fun vs H2=>sp (x :: (vs ++ [])) H2 Q fun cls _ H3=>EX cls σ H3
theorem pex_meth {pl:Sem Bool} (he:PE X.nox o ta) (c:Cls X.K C) (hm:Meth X.K C m f) (F:FnOk X.prog X.w X.K X.mg X.base (CX1 X.prog X.w) k f fd ps sp) (hr:Room k X.A) (hb:Binds X.K fd ps []) (ha:PA X.nox (e :: es) t)
    (hst:starEach (e :: es) X.env=(false,eval e X.env) :: starEach es X.env:=by rfl) (hpl:(backTo pos (starEach es X.env)).any (·.1)=false:=by rfl)
    (ht:eval (.Call (.Attribute o m apos) (e :: es) [] pos) X.env=(do
      let ov ← eval o X.env
      standAt apos.atName
      let (f,first) ← holding [ov] (getMethod ov m pl)
      callWith pos f first (backTo pos (starEach (e :: es) X.env)) (backToKw pos (keywordEach [] X.env))):=by rfl) :
    PEX X (.Call (.Attribute o m apos) (e :: es) [] pos) (tMethX C m sp ta t):=by
  intro pins s σ H Q EX I h
  refine PySem.W.methodCall_KW (pl:=pl) (wpAny_mono (he pins s σ H _ (I.wish _) h) (fun u s1 ⟨x,H1,I1',rx,a,dx,fs,ex,ea,l,q⟩=>?_) fun _ _ z=>False.elim z) ht
  subst ex
  obtain rfl:u=Value.ref a:=rx
  have I1:=I1'.unwish
  refine getmeth_ok I1 ea c hm l ?_
  refine PySem.W.callWith_K (first:=[.ref a]) (h₀:=X.base) I.ok.mod.kin hm.kp (wpAny_mono (ha pos pins s1 σ H1 _ (I1.wish _) q) (fun us s2 ⟨vs,H2,I2',r,q2⟩=>⟨I2'.kIn,?_⟩) fun _ _ z=>False.elim z) hst hpl
  have I2:=I2'.unwish
  have r2:Vals (V.ref a :: (vs ++ [])) (Value.ref a :: (us ++ [])):=.cons rfl (r.append .nil)
  have hl:((Value.ref a :: us) ++ []).length=ps.length:=by
    have e:=r2.length
    rw [F.len _ _ _ _ q2] at e
    exact e.symm
  refine wpAny_call (codeAny_mono (F.run X.A X.stack s2 H2 ⟨.ref a :: us,[]⟩ ((.ref a :: us) ++ []) (.ref a :: (vs ++ [])) _ _ hr I2.env0 (hb s2 (.ref a :: us) I2.kIn hl) r2 q2) fun r s' hq=>?_)
  cases r with
  | error ev =>
    obtain ⟨e,cls,H',rfl,os,bare,un,hok,xf,hE⟩:=hq
    exact ⟨e,cls,σ,s2,H2,H',rfl,I2,I2.call' (ch:=[]) os un hok bare (fun b z=>nomatch z),xf,hE⟩
  | ok fl =>
    cases fl with
    | ret u=>exact I2.after hq
    | next=>exact False.elim hq
    | brk=>exact False.elim hq
    | cont=>exact False.elim hq
end
def tTryN (K:PySem.W.Frag) (tb:EXK→TS) (C1:Addr) (th1:TS):TS:=fun D σ H=>tb (fun cls σ1 H1=>∃ C,cls=.ref C∧PySem.W.exmOne K (.ref C) (.ref C1)=some true∧th1 D σ1 H1) D σ H
def tTryNN (K:PySem.W.Frag) (tb:EXK→TS) (C1:Addr) (th1:TS) (C2:Addr) (th2:TS):TS:=fun D σ H=>tb (fun cls σ1 H1=>∃ C,cls=.ref C ∧
  ((PySem.W.exmOne K (.ref C) (.ref C1)=some true∧th1 D σ1 H1)∨(PySem.W.exmOne K (.ref C) (.ref C1)=some false∧PySem.W.exmOne K (.ref C) (.ref C2)=some true∧th2 D σ1 H1))) D σ H
section
variable {X:Cx} {st b₀ b₁:Stmt} {suite suite1:List Stmt} {tb:EXK→TS} {th1 th2:TS} {c1 c2:Str} {C1 C2:Addr} {np hpos np2 hpos2 pos:Pos}
end
section
variable {X:Cx} {k:Nat} {f:Addr} {fd:FuncData} {ps:List Str} {sp:Sp} {x:Str} {p pos:Pos} {e:Expr} {es:List Expr} {t:TA}
end
end L2
namespace L2
open PySem
def rk (kvs:List (Key × V)) (ps:List V):Except Er Int:=match runE kvs ps [] with
  | .ok [i]=>.ok i
  | .ok _=>.error .stuck
  | .error e=>.error e
theorem step_inW {kvs:List (Key × V)} (hs:SlotsOk kvs) {v:V} (hv:okPart v) {st st':List Int} (h:∀ x∈st,inW x=true) (e:stepE kvs st v=.ok st'):∀ x∈st',inW x=true:=by
  unfold stepE at e
  split at e
  · split at e
    · rename_i w b a r hr hj
      unfold joinE at e
      by_cases c1:isDiv w∧b=0
      · rw [if_pos c1] at e;cases e
      · rw [if_neg c1] at e
        by_cases c2:inW (comeV w a b)=true
        · rw [if_pos c2] at e
          cases e
          intro x hx
          rcases List.mem_append.mp hx with hx | hx
          · refine h x (List.mem_reverse.mp ?_)
            rw [hr]
            exact List.mem_cons_of_mem _ (List.mem_cons_of_mem _ (List.mem_reverse.mp hx))
          · rw [List.mem_singleton.mp hx];exact c2
        · rw [if_neg c2] at e;cases e
    · cases e
  · cases e
    intro x hx
    rcases List.mem_append.mp hx with hx | hx
    · exact h x hx
    · rw [List.mem_singleton.mp hx];exact wrth_inW hs hv
theorem run_inW {kvs:List (Key × V)} (hs:SlotsOk kvs):∀ {ps:List V} {st st':List Int},(∀ v∈ps,okPart v)→(∀ x∈st,inW x=true)→runE kvs ps st=.ok st'→∀ x∈st',inW x=true
  | [],st,st',_,h,e=>by cases e;exact h
  | v :: r,st,st',hp,h,e=>by
    unfold runE at e
    split at e
    · rename_i st1 e1
      exact run_inW hs (fun v hv=>hp v (List.mem_cons_of_mem _ hv)) (step_inW hs (hp v List.mem_cons_self) h e1) e
    · cases e
def TermOk (e:List V):Prop:=(∀ kvs,∃ r,Good kvs e r)∧(∀ v∈e,okPart v)∧e.length≤1000
mutual
inductive Rw where
  | take (sh:Str) (e:List V) (sl:Str)
  | give (sh:Str) (e f:List V)
  | lt (sl:Str) (e:List V)
  | say (e:List V)
  | off (e:List V)
  | iff (e:List V) (a b:Rws)
inductive Rws where
  | nil
  | cons (r:Rw) (rs:Rws)
end
set_option genSizeOf false in
set_option genInjectivity false in
structure Sta where
  sl:List (Key × V)
  wo:List Row
  sa:List Int
inductive Res where
  | go (s:Sta)
  | off
  | er (e:Er)
mutual
def goR:Rw→Sta→Res
  | .take sh e sl,s=>match rk s.sl e with
    | .ok n=>.go { s with sl:=putK s.sl (.inr sl) (.int ((lastW s.wo (sh,n)).getD 0)) }
    | .error x=>.er x
  | .give sh e f,s=>match rk s.sl e with
    | .ok n=>(match rk s.sl f with
      | .ok w=>.go { s with wo:=s.wo ++ [((sh,n),w)] }
      | .error x=>.er x)
    | .error x=>.er x
  | .lt sl e,s=>match rk s.sl e with
    | .ok n=>.go { s with sl:=putK s.sl (.inr sl) (.int n) }
    | .error x=>.er x
  | .say e,s=>match rk s.sl e with
    | .ok n=>.go { s with sa:=s.sa ++ [n] }
    | .error x=>.er x
  | .off e,s=>match rk s.sl e with
    | .ok n=>if n=0 then .go s else .off
    | .error x=>.er x
  | .iff e a b,s=>match rk s.sl e with
    | .ok n=>if n=0 then goRs b s else goRs a s
    | .error x=>.er x
def goRs:Rws→Sta→Res
  | .nil,s=>.go s
  | .cons r rs,s=>match goR r s with
    | .go s'=>goRs rs s'
    | x=>x
end
mutual
def RwAt (F:Addr→Prop) (H:Hp) (v:V):Rw→Prop
  | .take sh e sl=>∃ r te,v=.ref r∧F r∧F te∧H r=some (.tup [.str "take",.str sh,.ref te,.str sl])∧H te=some (.tup e)
  | .give sh e f=>∃ r te tf,v=.ref r∧F r∧F te∧F tf∧H r=some (.tup [.str "give",.str sh,.ref te,.ref tf])∧H te=some (.tup e)∧H tf=some (.tup f)
  | .lt sl e=>∃ r te,v=.ref r∧F r∧F te∧H r=some (.tup [.str "let",.str sl,.ref te])∧H te=some (.tup e)
  | .say e=>∃ r te,v=.ref r∧F r∧F te∧H r=some (.tup [.str "say",.ref te])∧H te=some (.tup e)
  | .off e=>∃ r te,v=.ref r∧F r∧F te∧H r=some (.tup [.str "off",.ref te])∧H te=some (.tup e)
  | .iff e a b=>∃ r te la lb xs ys,v=.ref r∧F r∧F te∧F la∧F lb∧H r=some (.tup [.str "if",.ref te,.ref la,.ref lb])∧H te=some (.tup e)∧H la=some (.lst xs)∧RwsAt F H xs a∧H lb=some (.lst ys)∧RwsAt F H ys b
def RwsAt (F:Addr→Prop) (H:Hp) (vs:List V):Rws→Prop
  | .nil=>vs=[]
  | .cons r rs=>∃ v ws,vs=v :: ws∧RwAt F H v r∧RwsAt F H ws rs
end
mutual
def RwOk:Rw→Prop
  | .take _ e _=>TermOk e
  | .give _ e f=>TermOk e∧TermOk f
  | .lt _ e=>TermOk e
  | .say e=>TermOk e
  | .off e=>TermOk e
  | .iff e a b=>TermOk e∧RwsOk a∧RwsOk b
def RwsOk:Rws→Prop
  | .nil=>True
  | .cons r rs=>RwOk r∧RwsOk rs
end
mutual
def Rw.deep:Rw→Nat
  | .iff _ a b=>max a.deep b.deep + 1
  | _=>0
def Rws.deep:Rws→Nat
  | .nil=>0
  | .cons r rs=>max r.deep rs.deep
end
mutual
def Rw.cnt:Rw→Nat
  | .iff _ a b=>max a.cnt b.cnt + 1
  | _=>1
def Rws.cnt:Rws→Nat
  | .nil=>0
  | .cons r rs=>r.cnt + rs.cnt
end
end L2
namespace L2
open PySem
section
variable {P:Program} {w:World} {A:Around} {E:Value→Shared→Prop} {s:Shared}
end
end L2
namespace L2
open PySem PySem.Spec PyProof.Rows
def viewO (r d:Addr):HO:=.ext fun h=>h.IsItemsView r d
def tItems (td:TE):TE:=fun σ H Q=>td σ H fun x H1=>∃ d kvs,x=.ref d∧H1 d=some (.dT kvs)∧∀ r,H1 r=none→Q (.ref r) (upd H1 r (viewO r d))
section
variable {X:Cx} {o:Expr} {apos cpos:Pos} {td:TE}
end
def KvAt (H:Hp) (v:V) (kv:List Key × V):Prop:=∃ r p,v=.ref r∧H r=some (.tup [.ref p,kv.2])∧H p=some (.tup (kv.1.map kV))
section
variable {X:Cx} {A:Around} {R:Result→Shared→Prop}
end
end L2
namespace L2
open PySem PySem.Spec PyProof.Rows
abbrev cLstI:RC:=fun vs H Q=>∃ r d kvs,vs=[.ref r]∧H r=some (viewO r d)∧H d=some (.dT kvs)∧kvs.length≤1000∧∀ l ys H',Same H H'→H l=none→H' l=some (.lst ys)→Paired (KvAt H') ys kvs→Q (.ref l) H'
theorem rel_get {H:Hp}:∀ {kvs:List (List Key × V)} {xs:List (List Key × Addr × Value)},Paired (fun (p:List Key × V) (q:List Key × Addr × Value)=>p.1=q.1∧H q.2.1=some (.tup (p.1.map kV))∧RelV p.2 q.2.2) kvs xs→∀ {i:Nat} {kv:List Key × V} {x:List Key × Addr × Value},kvs[i]?=some kv→xs[i]?=some x→H x.2.1=some (.tup (kv.1.map kV))∧RelV kv.2 x.2.2 :=
  fun {_ _} h {_ _ _} e1 e2=>(paired_get h e1 e2).2
section
variable {X:Cx}
theorem raw_of {pins:List (Addr × Obj)} {σ:St} {H:Hp} {s:Shared} {d:Addr} {kvs:List (List Key × V)} (I:Inv X pins σ H s) (e:H d=some (.dT kvs)):∃ es ep,RawD s.heap d es ep∧es.size=kvs.length ∧
    ∀ (i:Nat) (en:DictEntry) (kv:List Key × V),es[i]?=some en→kvs[i]?=some kv→∃ p,en.key=.ref p∧H p=some (.tup (kv.1.map kV))∧RelV kv.2 en.val:=by
  obtain ⟨z,hd,xs,rel,o,es,ep,h1,h2,h3,h4,_⟩:=(show ObjOk X.prog X.w H s.heap d (.dT kvs) from I.hok d _ e)
  have l1:es.size=xs.length:=by rw [← Array.length_toList,h4,List.length_map]
  refine ⟨es,ep,⟨o,h1,h2,h3⟩,by rw [l1,← Paired.length rel],fun i en kv e1 e2=>?_⟩
  have e3:es.toList[i]?=some en:=by rw [Array.getElem?_toList];exact e1
  rw [h4,List.getElem?_map] at e3
  obtain ⟨x,hx,rfl⟩:=Option.map_eq_some_iff.mp e3
  obtain ⟨g1,g2⟩:=rel_get rel e2 hx
  exact ⟨x.2.1,rfl,g1,g2⟩
end
end L2
namespace L2
open PySem PySem.Spec PyProof.Rows PySem.W
section
variable {X:Cx}
end
section
variable {P:Program} {w:World} {A:Around} {E:Value→Shared→Prop} {s:Shared}
end
end L2
namespace L2
open PySem PySem.Spec PyProof.Rows PySem.W
def d0:Row:=(("",0),0)
theorem range_getD {α:Type} (l:List α) (d:α):(List.range l.length).map (fun i=>l.getD i d)=l:=by
  apply List.ext_getElem?
  intro i
  rw [List.getElem?_map]
  by_cases hi:i < l.length
  · rw [List.getElem?_range hi,List.getElem?_eq_getElem hi]
    simp [List.getD_eq_getElem?_getD,List.getElem?_eq_getElem hi]
  · rw [List.getElem?_eq_none (by simpa using hi),List.getElem?_eq_none (by omega)]
    rfl
theorem PP.list {n:Nat} {p:Array Nat} (h:PP n p):p.toList.Perm (List.range n):=by
  have:=Array.perm_iff_toList_perm.mp h
  simpa using this
theorem PP.lt {n:Nat} {p:Array Nat} (h:PP n p):∀ i∈p.toList,i < n:=fun i hi=>by
  have:=h.list.mem_iff.mp hi
  simpa using this
theorem rise_pairs {α:Type} {F:α→α→Bool} {l:List α} {d:α} {n:Nat} {p:Array Nat} (hp:PP n p) (hr:Rise (fun i j=>F (l.getD i d) (l.getD j d)) p n):(p.toList.map fun i=>l.getD i d).Pairwise fun a b=>F a b=true:=by
  rw [List.pairwise_map,List.pairwise_iff_getElem]
  intro i j hi hj hij
  rw [Array.length_toList] at hi hj
  have g1:=gt_eq hi
  have g2:=gt_eq hj
  have sz:=hp.size
  have r:=hr i j hij (by omega)
  have x1:p.toList[i]=gt p i:=by
    rw [Array.getElem?_eq_getElem hi] at g1
    simpa using g1
  have x2:p.toList[j]=gt p j:=by
    rw [Array.getElem?_eq_getElem hj] at g2
    simpa using g2
  rw [x1,x2];exact r
theorem paired_pick {α β:Type} {F:α→β→Prop} {l₁:List α} {l₂:List β} (h:Paired F l₁ l₂) (a:α) (b:β):∀ {is:List Nat},(∀ i∈is,i < l₁.length)→Paired F (is.map fun i=>l₁.getD i a) (is.map fun i=>l₂.getD i b)
  | [],_=>.nil
  | i :: r,hi=>by
    have l:=Paired.length h
    have h1:=hi i List.mem_cons_self
    refine .cons ?_ (paired_pick h a b fun j hj=>hi j (List.mem_cons_of_mem _ hj))
    show F (l₁.getD i a) (l₂.getD i b)
    have e1:=List.getElem?_eq_getElem h1
    have e2:l₂[i]?=some l₂[i]:=List.getElem?_eq_getElem (by omega)
    rw [List.getD_eq_getElem?_getD,List.getD_eq_getElem?_getD,e1,e2]
    exact paired_get h e1 e2
abbrev cSrtI:RC:=fun vs H Q=>∃ r d rows,vs=[.ref r]∧H r=some (viewO r d)∧H d=some (.dT (dOf rows))∧(dOf rows).length < 64 ∧
  ∀ l ys srt H',Same H H'→H l=none→H' l=some (.lst ys)→Paired (PrAt H') ys srt→Rising srt→(∀ p w,(p,w)∈srt↔lastW rows p=some w)→Q (.ref l) H'
section
variable {X:Cx}
end
end L2
namespace L2
open PySem PySem.Spec PyProof.Rows
def Itr3 (lo c:Int) (n:Nat):It:=⟨fun i _=>i < n,fun i H x H'=>H'=H∧x=.int (lo + i * c),fun i _=>n≤i⟩
def cntR (i j c:Int):Nat:=if i < j then ((j - i - 1) / c + 1).toNat else 0
def iRng3 (ta:TA):TI:=fun σ H R=>ta σ H fun vs H1=>∃ i j c:Int,vs=[.int i,.int j,.int c]∧(0≤i∧i < 1073741824∧0≤j∧j < 1073741824∧0 < c∧c < 1073741824)∧R (Itr3 i c (cntR i j c)) H1
section
variable {X:Cx} {tg:Expr}
end
end L2
namespace L2
open PySem
structure StOk (n:Nat) (s:Sta):Prop where
  so:SlotsOk s.sl
  wo:∀ r∈s.wo,inW r.2=true
  l1:s.sl.length≤n
  l2:s.wo.length≤n
  l3:s.sa.length≤n
theorem StOk.mono {n m:Nat} {s:Sta} (h:StOk n s) (l:n≤m):StOk m s:=⟨h.so,h.wo,Nat.le_trans h.l1 l,Nat.le_trans h.l2 l,Nat.le_trans h.l3 l⟩
theorem last_in {P:Row→Prop} {p:Pl} {w:Int}:∀ {l:List Row},(∀ r∈l,P r)→lastW l p=some w→P (p,w)
  | [],_,h=>by cases h
  | r :: t,hp,h=>by
    rw [lastW] at h
    cases e:lastW t p with
    | some w' =>
      rw [e] at h
      have:w'=w:=by simpa using h
      subst this
      exact last_in (fun r hr=>hp r (List.mem_cons_of_mem _ hr)) e
    | none =>
      rw [e] at h
      by_cases c:r.1=p
      · rw [if_pos c] at h
        have:r.2=w:=by simpa using h
        rw [← c,← this];exact hp r List.mem_cons_self
      · rw [if_neg c] at h;cases h
mutual
def RwIn (P:Pl→Prop):Rw→Prop
  | .give sh e _=>∀ kvs n,rk kvs e=.ok n→P (sh,n)
  | .iff _ a b=>RwsIn P a∧RwsIn P b
  | _=>True
def RwsIn (P:Pl→Prop):Rws→Prop
  | .nil=>True
  | .cons r rs=>RwIn P r∧RwsIn P rs
end
inductive Oc where
  | done (sa:List Int)
  | off (why:Str)
def whyOf:Er→Str
  | .great=>"great"
  | _=>"nought"
def AloneR (rws:Rws) (tab:List Row) (oc:Oc) (out:List Row):Prop:=match goRs rws ⟨[],tab,[]⟩ with
  | .go s=>oc=.done s.sa∧IsTab s.wo out
  | .off=>oc=.off "told"∧out=tab
  | .er e=>oc=.off (whyOf e)∧out=tab
inductive SeqR:List Rws→List Row→List Oc→List Row→Prop
  | nil {tab:List Row}:SeqR [] tab [] tab
  | cons {d:Rws} {ds:List Rws} {tab mid out:List Row} {oc:Oc} {ocs:List Oc}:AloneR d tab oc mid→SeqR ds mid ocs out→SeqR (d :: ds) tab (oc :: ocs) out
def partD:V→PyData
  | .int i=>.int i
  | .str x=>.str x
  | _=>.none
def plV (v:V):Prop:=(∃ i,v=.int i)∨∃ x,v=.str x∧PyData.strOk x=true
def termD (e:List V):PyData:=.tuple (e.map partD)
mutual
def rwD:Rw→PyData
  | .take sh e sl=>.tuple [.str "take",.str sh,termD e,.str sl]
  | .give sh e f=>.tuple [.str "give",.str sh,termD e,termD f]
  | .lt sl e=>.tuple [.str "let",.str sl,termD e]
  | .say e=>.tuple [.str "say",termD e]
  | .off e=>.tuple [.str "off",termD e]
  | .iff e a b=>.tuple [.str "if",termD e,.list (rwsD a),.list (rwsD b)]
def rwsD:Rws→List PyData
  | .nil=>[]
  | .cons r rs=>rwD r :: rwsD rs
end
def tmP (e:List V):Prop:=∀ v∈e,plV v
mutual
def RwPl:Rw→Prop
  | .take sh e sl=>PyData.strOk sh=true∧tmP e∧PyData.strOk sl=true
  | .give sh e f=>PyData.strOk sh=true∧tmP e∧tmP f
  | .lt sl e=>PyData.strOk sl=true∧tmP e
  | .say e=>tmP e
  | .off e=>tmP e
  | .iff e a b=>tmP e∧RwsPl a∧RwsPl b
def RwsPl:Rws→Prop
  | .nil=>True
  | .cons r rs=>RwPl r∧RwsPl rs
end
section
variable {K:PySem.W.Frag} {H:Hp} {F:Addr→Prop}
theorem part_dat {v:V} (h:plV v):Dat K H v (partD v):=by
  rcases h with ⟨i,rfl⟩ | ⟨x,rfl,_⟩
  · exact .int i
  · exact .str x
theorem parts_dat:∀ {e:List V},tmP e→DatAll K H e (e.map partD)
  | [],_=>.nil
  | v :: r,h=>.cons (part_dat (h v List.mem_cons_self)) (parts_dat fun u hu=>h u (List.mem_cons_of_mem _ hu))
end
theorem parts_plain:∀ {e:List V},tmP e→plainDs (e.map partD)=true
  | [],_=>by simp [plainDs]
  | v :: r,h=>by
    rw [List.map_cons,plainDs,parts_plain fun u hu=>h u (List.mem_cons_of_mem _ hu),Bool.and_true]
    rcases h v List.mem_cons_self with ⟨i,rfl⟩ | ⟨x,rfl,hx⟩
    · rw [partD,plainD]
    · rw [partD,plainD];exact hx
theorem parts_deep:∀ (e:List V),PyData.depthAll (e.map partD)=0
  | []=>by simp [PyData.depthAll]
  | v :: r=>by
    rw [List.map_cons,PyData.depthAll,parts_deep r]
    cases v <;> simp [partD,PyData.depth]
def Rws.snoc:Rws→Rw→Rws
  | .nil,x=>.cons x .nil
  | .cons r rs,x=>.cons r (rs.snoc x)
def Rws.app:Rws→Rws→Rws
  | .nil,x=>x
  | .cons r rs,x=>.cons r (rs.app x)
theorem Paired.snocP {α β:Type} {F:α→β→Prop} {x:α} {y:β}:∀ {a:List α} {b:List β},Paired F a b→F x y→Paired F (a ++ [x]) (b ++ [y])
  | _,_,.nil,h=>.cons h .nil
  | _,_,.cons a r,h=>.cons a (Paired.snocP r h)
theorem Paired.getP {α β:Type} {F:α→β→Prop} {a:List α} {b:List β} {i:Nat} {x:α} (h:Paired F a b) (e:a[i]?=some x):∃ y,b[i]?=some y∧F x y:=by
  have hi:=(List.getElem?_eq_some_iff.mp e).1
  have l:=Paired.length h
  exact ⟨b[i],List.getElem?_eq_getElem (by omega),paired_get h e (List.getElem?_eq_getElem (by omega))⟩
end L2
namespace L2
open PySem PySem.Spec PyProof.Rows
abbrev r_mt_split:RM:=fun x xs H Q=>∃ a b,x=.str a∧xs=[.str b]∧(b.length == 0)=false∧a.length≤100000∧(Txt.split a b).length≤100000∧∀ l,H l=none→Q (.ref l) (upd H l (.lst ((Txt.split a b).map V.str)))
section
variable {X:Cx}
end
def Itel (K:PySem.W.Frag) (p:Addr) (xs:List V):It:=⟨fun i H=>i < xs.length∧SqL K H p xs,fun i H x H'=>∃ T u,x=.ref T∧H T=none∧H'=upd H T (.tup [.int i,u])∧xs[i]?=some u,fun i H=>xs.length≤i∧SqL K H p xs⟩
def iEnm (K:PySem.W.Frag) (ta:TA):TI:=fun σ H R=>ta σ H fun vs H1=>∃ p xs,vs=[.ref p]∧SqL K H1 p xs∧R (Itel K p xs) H1
section
variable {X:Cx}
end
section
variable {σ:St} {H:Hp} {nx:St→Hp→Prop} {B:V→St→Hp→(St→Hp→Prop)→Prop}
end
end L2
namespace L2
open PySem PySem.Spec PyProof.Rows
theorem cut_eq {c:Nat}:∀ {a b r s:List Nat},c ∉ a→c ∉ b→a ++ c :: r=b ++ c :: s→a=b∧r=s
  | [],[],r,s,_,_,h=>by simpa using h
  | [],y :: b,r,s,_,hb,h=>by
    simp only [List.nil_append,List.cons_append,List.cons.injEq] at h
    exact absurd h.1 (fun z=>hb (by rw [z];exact List.mem_cons_self))
  | x :: a,[],r,s,ha,_,h=>by
    simp only [List.nil_append,List.cons_append,List.cons.injEq] at h
    exact absurd h.1.symm (fun z=>ha (by rw [z];exact List.mem_cons_self))
  | x :: a,y :: b,r,s,ha,hb,h=>by
    simp only [List.cons_append,List.cons.injEq] at h
    obtain ⟨e1,e2⟩:=cut_eq (fun z=>ha (List.mem_cons_of_mem _ z)) (fun z=>hb (List.mem_cons_of_mem _ z)) h.2
    exact ⟨by rw [h.1,e1],e2⟩
end L2
namespace L2
open PySem PySem.Spec PyProof.Rows
abbrev cIsiT (K:PySem.W.Frag):RC:=fun xs H Q=>∃ (x:V) (p:Addr) (t:Value) (Ts:List String) (b:Bool),xs=[x,.ref p]∧TyOf K H x t∧H p=some (.tup (Ts.map V.ty))∧PySem.W.kitAny K t (Ts.map Value.type)=some b∧Q (.bl b) H
section
variable {X:Cx}
end
section
variable {prog:Program} {w:World} {A:Around} {E:Value→Shared→Prop} {s:Shared}
end
def sLPut (td ty tv:TE):TS:=fun D σ H=>tv σ H fun v H1=>td σ H1 fun x H2=>ty σ H2 fun y H3=>∃ a xs i j,x=.ref a∧y=.int i∧H3 a=some (.lst xs)∧ixN xs.length i=some j∧(-1000≤i∧i≤1000)∧D.nx σ (upd H3 a (.lst (xs.set j v)))
section
variable {X:Cx} {o i value:Expr} {pos pos':Pos} {td ty tv:TE}
end
section
variable {X:Cx} {st:Stmt} {hs:List ExceptHandler} {pos:Pos} {tb:TS}
end
end L2
namespace L2
open PySem PySem.Spec PyProof.Rows
def iZipB (K:PySem.W.Frag) (ta:TA):TI:=fun σ H R=>ta σ H fun vs H1=>∃ p q xs ys,vs=[.ref p,.ref q]∧xs.length=ys.length∧((SqL K H1 p xs∧SqL K H1 q ys∧R (Itzl K p q xs ys) H1)∨(SqT K H1 p xs∧SqT K H1 q ys∧R (Itz K p q xs ys) H1))
section
variable {X:Cx}
abbrev rNeNil (K:PySem.W.Frag):R2:=fun x y H Q=>∃ a b xs,x=.ref a∧y=.ref b∧SqL K H a xs∧SqL K H b []∧Q (.bl (!decide (xs=[]))) H
end
mutual
inductive DatS (H:Hp):V→PyData→Prop
  | int (i:Int):DatS H (.int i) (.int i)
  | str (x:Str):DatS H (.str x) (.str x)
  | lst {a:Addr} {xs:List V} {ds:List PyData}:H a=some (.lst xs)→DatSs H xs ds→DatS H (.ref a) (.list ds)
  | tup {a:Addr} {xs:List V} {ds:List PyData}:H a=some (.tup xs)→DatSs H xs ds→DatS H (.ref a) (.tuple ds)
inductive DatSs (H:Hp):List V→List PyData→Prop
  | nil:DatSs H [] []
  | cons {x:V} {d:PyData} {xs:List V} {ds:List PyData}:DatS H x d→DatSs H xs ds→DatSs H (x :: xs) (d :: ds)
end
end L2
namespace L2
open PySem
end L2
namespace L2
open PySem
abbrev r_mt_extend:RM:=rExtend
end L2
namespace L2
open PySem PySem.Spec PyProof.Rows
abbrev r_mt_clear:RM:=rClear
abbrev cSumL (K:PySem.W.Frag):RC:=fun xs H Q=>∃ a,∃ ns:List Int,xs=[.ref a]∧SqL K H a (ns.map V.int)∧Q (.int ns.sum) H
abbrev cMaxL (K:PySem.W.Frag):RC:=fun xs H Q=>∃ a,∃ ns:List Int,xs=[.ref a]∧SqL K H a (ns.map V.int)∧0 < ns.length∧∀ M,M∈ns→(∀ x∈ns,x≤M)→Q (.int M) H
section
variable {X:Cx}
theorem call_sumL (hc:X.calm=true):CallR X (.builtin "sum") (cSumL X.K):=by
  intro pins s σ H xs us Q I r h
  obtain ⟨a,ns,rfl,hq,q⟩:=h
  obtain ⟨u,rfl,r1⟩:=vals1 r
  cases r1
  obtain ⟨its,rv,p,hz⟩:=I.list hq
  have hi:IntsAre its ns:=intsAre_of rv
  obtain ⟨ys,hx⟩:=hi.allInts.items
  have hl':s.heap.IsList a (intItems ys):=hx ▸ p.isList
  refine sum_intListG (I.ok.hd hc) hl' fun h' tk t' hk=>?_
  have e1:ns=ys.toList.map (·.1):=by
    rw [← nums_intItems,← hx]
    exact (show numsOf its.toArray.toList=ns from hi.numsOf).symm
  have e2:preSum (numAt ys) ys.size=ns.sum:=by
    rw [preSum_eq,List.take_of_length_le (by simp),e1]
  rw [e2]
  exact ⟨.int ns.sum,H,I.kept hk,⟨_,rfl⟩,q⟩
end
end L2
namespace L2
open PySem PySem.Spec PyProof.Rows
abbrev cMax2:RC:=fun xs H Q=>∃ i j,xs=[.int i,.int j]∧Q (.int (if j > i then j else i)) H
abbrev rInA (K:PySem.W.Frag) (neg:Bool):R2:=fun x y H Q=>∃ (p:Addr) (xs:List V) (d:PyData) (ds:List PyData),y=.ref p∧(SqL K H p xs∨SqT K H p xs)∧Dat K H x d∧DatAll K H xs ds∧(plainD d=true∧d.depth≤50∧∀ e∈ds,plainD e=true) ∧
  ∀ b:Bool,(b=true↔d∈ds)→Q (.bl (if neg then !b else b)) H
section
variable {X:Cx}
open Classical in
noncomputable def hitD (K:PySem.W.Frag) (H:Hp) (d:PyData) (u:Value):Bool:=decide (∃ x,RelV x u∧Dat K H x d)
open Classical in
theorem hitD_iff {K:PySem.W.Frag} {H:Hp} {d:PyData} {u:Value}:hitD K H d u=true↔∃ x,RelV x u∧Dat K H x d:=by
  unfold hitD
  exact decide_eq_true_iff
theorem DatAll.find {K:PySem.W.Frag} {H:Hp}:∀ {xs:List V} {ds:List PyData} {us:List Value} {u:Value},DatAll K H xs ds→Vals xs us→u∈us→∃ x d,RelV x u∧Dat K H x d∧d∈ds
  | _,_,_,_,.nil,.nil,h=>by cases h
  | _,_,_,u,.cons hx ht,.cons r t,h=>by
    rcases List.mem_cons.mp h with rfl | h
    · exact ⟨_,_,r,hx,List.mem_cons_self⟩
    · obtain ⟨x,d,a,b,c⟩:=DatAll.find ht t h
      exact ⟨x,d,a,b,List.mem_cons_of_mem _ c⟩
theorem DatAll.back {K:PySem.W.Frag} {H:Hp}:∀ {xs:List V} {ds:List PyData} {us:List Value} {d:PyData},DatAll K H xs ds→Vals xs us→d∈ds→∃ x u,RelV x u∧Dat K H x d∧u∈us
  | _,_,_,_,.nil,.nil,h=>by cases h
  | _,_,_,u,.cons hx ht,.cons r t,h=>by
    rcases List.mem_cons.mp h with rfl | h
    · exact ⟨_,_,r,hx,List.mem_cons_self⟩
    · obtain ⟨x,d,a,b,c⟩:=DatAll.back ht t h
      exact ⟨x,d,a,b,List.mem_cons_of_mem _ c⟩
theorem hit_at {pins:List (Addr × Obj)} {σ:St} {H:Hp} {s:Shared} {A:Around} {x:V} {v:Value} {xs:List V} {us:List Value} {d:PyData} {ds:List PyData} (I:Inv X pins σ H s) (rx:RelV x v) (hd:Dat X.K H x d) (r:Vals xs us) (hds:DatAll X.K H xs ds)
    (pd:plainD d=true) (ld:d.depth≤50) (ps:∀ e∈ds,plainD e=true) (hu:A.units + 50 < cLine):∀ u∈us,SeqAt.EqAt A s u v (hitD X.K H d u):=fun u hm=>by
  obtain ⟨y,e,ry,hy,me⟩:=hds.find r hm
  obtain ⟨as,ra⟩:=hy.reads I ry
  obtain ⟨bs,rb⟩:=hd.reads I rx
  have key:=SeqAt.eqAt_reads e d A s u v as bs ra rb (plain_lay (ps e me)) (plain_lay pd) (by omega)
  have:PyData.eqv e d=hitD X.K H d u:=by
    rw [Bool.eq_iff_iff,plain_eqv (ps e me) pd]
    rw [hitD_iff]
    constructor
    · rintro rfl;exact ⟨y,ry,hy⟩
    · rintro ⟨z,rz,hz⟩
      cases ry.inj rz
      exact Dat.inj I hy hz
  rw [← this];exact key
theorem any_hit {pins:List (Addr × Obj)} {σ:St} {H:Hp} {s:Shared} {xs:List V} {us:List Value} {d:PyData} {ds:List PyData} (I:Inv X pins σ H s) (r:Vals xs us) (hds:DatAll X.K H xs ds):us.toArray.any (hitD X.K H d)=true↔d∈ds:=by
  rw [show us.toArray.any (hitD X.K H d)=us.any (hitD X.K H d) by simp,List.any_eq_true]
  constructor
  · rintro ⟨u,hm,h⟩
    rw [hitD_iff] at h
    obtain ⟨z,rz,hz⟩:=h
    obtain ⟨y,e,ry,hy,me⟩:=hds.find r hm
    cases ry.inj rz
    rw [Dat.inj I hz hy];exact me
  · intro hm
    obtain ⟨y,u,ry,hy,me⟩:=hds.back r hm
    refine ⟨u,me,?_⟩
    rw [hitD_iff]
    exact ⟨y,ry,hy⟩
theorem op_notInAll (hu:X.A.units + 64 < cLine):OpR X (compareOp .NotIn) (rInA X.K true):=by
  intro pins s σ H x y v u Q I rx ry h
  obtain ⟨p,xs,d,ds,rfl,hq,hd,hds,⟨pd,ld,ps⟩,q⟩:=h
  cases ry
  have un:X.A.in1.units + 50 < cLine:=by have e:X.A.in1.units=X.A.units + 1:=rfl;omega
  rcases hq with hq | hq
  · obtain ⟨its,r,pl,hz⟩:=I.list hq
    exact SeqAt.notIn_listAt (hitD X.K H d) pl.isList (fun w hw=>hit_at I rx hd r hds pd ld ps un w (by simpa using hw)) ⟨.bl _,H,I,rfl,q _ (any_hit I r hds)⟩
  · obtain ⟨its,r,pl,hz⟩:=I.tuple hq
    exact SeqAt.notIn_tupleAt (hitD X.K H d) pl (fun w hw=>hit_at I rx hd r hds pd ld ps un w (by simpa using hw)) ⟨.bl _,H,I,rfl,q _ (any_hit I r hds)⟩
end
abbrev cSrtL (K:PySem.W.Frag):RC:=fun vs H Q=>∃ r xs its,vs=[.ref r]∧SqL K H r xs∧Paired (PrAt H) xs its∧(its.map (·.1)).Nodup∧its.length < 64 ∧
  ∀ l ys srt H',Same H H'→H l=none→H' l=some (.lst ys)→Paired (PrAt H') ys srt→Rising srt→srt.Perm its→Q (.ref l) H'
section
variable {X:Cx}
end
def Cb (i:Int):Prop:=Builtin.Int.intBits i≤1048576
theorem Cb.of {i:Int} (h:i.natAbs < 2 ^ 64):Cb i:=Nat.le_trans (intBits_le_iff.mpr h) (by decide)
theorem Cb.div {i k:Int} (h:Cb i) (hk:0 < k):Cb (i / k):=by
  unfold Cb at h ⊢
  rw [intBits_le_iff] at h ⊢
  refine Nat.lt_of_le_of_lt ?_ h
  have:(i / k).natAbs≤i.natAbs:=Int.natAbs_ediv_le_natAbs i k
  exact this
def Cw (i:Int):Prop:=Builtin.Int.intBits i≤4000000
theorem Cb.w {i:Int} (h:Cb i):Cw i:=Nat.le_trans h (by decide)
theorem Cw.div {i k:Int} (h:Cw i):Cw (i / k):=intBits_le_of_natAbs (Int.natAbs_ediv_le_natAbs i k) h
def CMulC (i j:Int):Prop:=Cw i∧Cw j
theorem CMulC.ok {i j:Int} (h:CMulC i j):IntMulOk i j:=by
  unfold IntMulOk
  have h1:Builtin.Int.intBits i≤4000000:=h.1
  have h2:Builtin.Int.intBits j≤4000000:=h.2
  have e:Builtin.Int.intTooBig ((Builtin.Int.intBits i:Int) + (Builtin.Int.intBits j:Int))=false:=by
    unfold Builtin.Int.intTooBig
    rw [decide_eq_false_iff_not]
    have:(bitsLine:Int)=134217728:=by decide
    omega
  rw [e];simp
section
variable {X:Cx}
theorem op_mulC:OpR X (binaryOp .Mult) (rI CMulC fun i j=>.int (i * j)):=opI fun _ _ _ _ _ _ _ hc q=>mul_int q hc.ok
end
open Att PySem.W PySem.Calls in
theorem walk_ofB {l:PySem.W.OpenLaw} {n k:Nat} {q:Program} {loose:List Str} {XP:(Str→Option Value)→Heap→Prop} {YP:World→Heap→Prop} {d:DefRec} {K:Params→PySem.W.Frag} {CX:World→CXT} {sp:World→Sp} {x:Str}
    (hn:l.most=some n) (hn2:n≤sizeLine) (hdf:d.params.defaults=[]) (hr:Room k callerA) (hY:∀ (w:World) (h:Heap),YP w h→(K w.params).In h)
    (F:∀ (w:World) (mg:Str→Option Value) (fa:Addr) (h:Heap),(K w.params).In h→h.Ns mainGlobals mg→mg d.name=some (.ref fa) →
      ∃ fd:FuncData,(∀ (s:Shared) (u:Value),BindsTo s fd ⟨[u],[]⟩ [(x,u)]) ∧
        ∀ base:Heap,(K w.params).In base→base.Ns mainGlobals mg→FnOk l.prog w (K w.params) mg base (CX w) k fa fd [x] (sp w))
    (hsp:∀ (w:World) (H:Hp) (a:Addr) (ns:List Int),ns.length≤n→(∀ i∈ns,Cb i)→Only H→SqL (K w.params) H a (ns.map V.int)→sp w [.ref a] H (fun v _=>v=.bl true) fun _ _ _=>False)
    (hCX:∀ (w:World) (H:Hp) (s:Shared) (e:Value) (s':Shared),CX w [] H s (fun _ _ _=>False) e s'→False) :
    PySem.W.WalkO q loose XP YP l.row.toRowW d [] (fun f vs=>PySem.call f vs):=by
  intro w s₀ s₁ mg mb G Y fa o pm cd doc dV kV ho hd hcd hD hmg hg args vals as hpre hlay hrd hwl hlo
  obtain rfl:dV=.none:=Dflts.none hD hdf
  obtain rfl:kV=.none:=Dflts.noKw hD
  obtain ⟨a,vs,ns,rfl,rfl,hobj,hints,hlen⟩:=script_of hn hpre hwl
  have hb:∀ i∈ns,Cb i:=fun i hi=>intBits_le_of_layable (layable_of_mem (lay0_int (layableW_item (layableW_arg hlay _ List.mem_cons_self) _ (List.mem_map.mpr ⟨i,hi,rfl⟩))) List.mem_cons_self)
  have KX:=hY w _ Y
  obtain ⟨fd,hbd,hF⟩:=F w mg fa _ KX G.T.g hmg
  refine enter_call (codeAny_mono (law_call KX G.T.g G.T.b G.T.builtins G.T.nolimit hg hobj hints (Nat.le_trans hlen hn2) hr hF hbd (fun H hO hS=>hsp w H a ns hlen hb hO hS) fun H e s'=>hCX w H s₁ e s') fun r s' hq=>?_)
  obtain ⟨rfl,h2,h3,h4⟩:=hq
  exact ⟨.inl ⟨.bool true,.bool true,[],rfl,fun _=>rfl,.bool true,post_true l _,fun _=>⟨List.Pairwise.nil,fun _ hm=>(nomatch hm)⟩⟩,h2,h3,h4⟩
theorem walk_ofXB {l:PySem.W.OpenLaw} {n k:Nat} {q:Program} {loose:List Str} {XP:(Str→Option Value)→Heap→Prop} {YP:World→Heap→Prop} {d:DefRec} {K:Params→PySem.W.Frag} {sp:PySem.W.Frag→Sp} {x:Str}
    (hn:l.most=some n) (hn2:n≤sizeLine) (hdf:d.params.defaults=[]) (hr:Room k callerA) (hY:∀ (w:World) (h:Heap),YP w h→(K w.params).In h)
    (F:∀ (w:World) (mg:Str→Option Value) (fa:Addr) (h:Heap),(K w.params).In h→h.Ns mainGlobals mg→mg d.name=some (.ref fa) →
      ∃ fd:FuncData,(∀ (s:Shared) (u:Value),BindsTo s fd ⟨[u],[]⟩ [(x,u)]) ∧
        ∀ base:Heap,(K w.params).In base→base.Ns mainGlobals mg→FnOk l.prog w (K w.params) mg base (CX1 l.prog w) k fa fd [x] (sp (K w.params)))
    (hsp:∀ (K:PySem.W.Frag) (H:Hp) (a:Addr) (ns:List Int),ns.length≤n→(∀ i∈ns,Cb i)→Only H→SqL K H a (ns.map V.int)→sp K [.ref a] H (fun v _=>v=.bl true) fun _ _ _=>False) :
    PySem.W.WalkO q loose XP YP l.row.toRowW d [] (fun f vs=>PySem.call f vs) :=
  walk_ofB (K:=K) (CX:=fun w=>CX1 l.prog w) (sp:=fun w=>sp (K w.params)) hn hn2 hdf hr hY F (fun w H a ns h1 hb h2 h3=>hsp (K w.params) H a ns h1 hb h2 h3) fun _ _ _ _ _ z=>by
    obtain ⟨_,_,_,_,_,_,_,_,_,y⟩:=z
    exact y
end L2
namespace L2
open PySem PySem.Spec PyProof.Rows
def Itk (a:Addr) (o:Obj) (kvs:List (Key × V)):It :=
  ⟨fun i H=>H a=some (.frz o (.dK kvs))∧i < kvs.length,fun i H x H'=>H'=H∧∃ k v,kvs[i]?=some (k,v)∧x=kV k,fun i H=>H a=some (.frz o (.dK kvs))∧kvs.length≤i⟩
theorem keyIs_rel {k:Key} {u:Value} (h:keyIs k u):RelV (kV k) u:=by
  rcases keyIs_shape h with ⟨i,t,rfl,rfl⟩ | ⟨x,t,rfl,rfl⟩
  · exact ⟨t,rfl⟩
  · exact ⟨t,rfl⟩
section
variable {X:Cx}
theorem pairs_get {P:Program} {w:World}:∀ {es:List DictEntry} {vs:List (Key × Value)} {i:Nat} {e:DictEntry},Pairs (mixKind P w) es vs→es[i]?=some e→∃ k u,vs[i]?=some (k,u)∧keyIs k e.key=true
  | _,_,i,_,.nil,h=>by simp at h
  | _,_,0,_,.cons h1 _ _,h=>by
    simp only [List.getElem?_cons_zero,Option.some.injEq] at h
    subst h
    exact ⟨_,_,rfl,h1⟩
  | _,_,i + 1,_,.cons _ _ t,h=>by
    obtain ⟨k,u,a,b⟩:=pairs_get (i:=i) t (by simpa using h)
    exact ⟨k,u,by simpa using a,b⟩
theorem frz_rawK {pins:List (Addr × Obj)} {σ:St} {H:Hp} {s:Shared} {a:Addr} {o:Obj} {kvs:List (Key × V)} (I:Inv X pins σ H s) (ha:H a=some (.frz o (.dK kvs))) :
    (a == sysModules)=false∧∃ (es:Array DictEntry) (ep:Nat),o.data=.dict es ep∧RawD s.heap a es ep∧es.size=kvs.length∧∀ (i:Nat) (e:DictEntry),es[i]?=some e→∃ (k:Key) (v:V),kvs[i]?=some (k,v)∧RelV (kV k) e.key:=by
  obtain ⟨hg,hz,lo,vs,kv,o',es,ep,ho,hx,hd,hk,pr,hn⟩:=(show ObjOk X.prog X.w H s.heap a (.frz o (.dK kvs)) from I.hok a _ ha)
  rw [hg] at ho
  cases ho
  have lx:kvs.length=vs.length:=Paired.length kv
  have ls:=pr.length
  rw [Array.length_toList] at ls
  refine ⟨lo,es,ep,hd,⟨o,hg,hx,hd⟩,by omega,fun i e hi=>?_⟩
  obtain ⟨k,u,h1,h2⟩:=pairs_get pr (by rw [Array.getElem?_toList];exact hi)
  have hl:=(List.getElem?_eq_some_iff.mp h1).1
  have hk':kvs[i]?=some kvs[i]:=List.getElem?_eq_getElem (by omega)
  have rl:=paired_get kv hk' h1
  refine ⟨kvs[i].1,kvs[i].2,hk',?_⟩
  rw [rl.1]
  exact keyIs_rel h2
theorem turn_dictK {P:Program} {w:World} {K:PySem.W.Frag} {tg:Expr} {a it:Addr} {o:Obj} {kvs:List (Key × V)} {es:Array DictEntry} {ep:Nat} (hd:o.data=.dict es ep) :
    Turn P w K tg (Itk a o kvs) [it] it (fun i h=>h.IsKeyIter it a i es.size ep) where
  mem:=by simp
  obj:=fun i h st b hb=>by
    have e:b=it:=by simpa using hb
    subst e
    obtain ⟨o,e,c,d⟩:=st
    exact ⟨o,e,fun v z=>by rw [d] at z;cases z⟩
  keep:=fun i h h' st k=>st.at fun o e=>k it (by simp) o e
  item:=by
    intro X hP hw hK hc i pins s σ H E I hf st hg
    subst hP hw hK
    obtain ⟨ha,hi⟩:=hg
    obtain ⟨lo,es',ep',hd',raw,hs,key⟩:=frz_rawK I ha
    rw [hd] at hd'
    cases hd'
    obtain ⟨f0,f1,f2,f3,f4,f5⟩:=hf it (by simp)
    have hx:es[i]?=some es[i]:=Array.getElem?_eq_getElem (by omega)
    obtain ⟨k,v,hk,rk⟩:=key i _ hx
    refine raw_item st raw hx fun h' st' sb=>?_
    have I1:Inv X pins σ H { s with heap:=h' }:=I.turned (t':=s.toks) (fun b o hb e=>(sb.2 b hb).trans e) f0 f1 f3 f4 f5
    obtain ⟨o',e,c,d⟩:=id st'
    exact ⟨_,rfl,go_of (s:={ s with heap:=h' }) e c d (by decide) ⟨kV k,H,I1,rk,⟨rfl,k,v,hk,rfl⟩,st',fun b hb=>(hf b hb).1⟩⟩
  done:=by
    intro X hP hw hK hc i pins s σ H E I hf st hg
    subst hP hw hK
    obtain ⟨ha,hi⟩:=hg
    obtain ⟨lo,es',ep',hd',raw,hs,key⟩:=frz_rawK I ha
    rw [hd] at hd'
    cases hd'
    obtain ⟨f0,f1,f2,f3,f4,f5⟩:=hf it (by simp)
    exact raw_end (I.ok.hd hc) st raw (by omega) fun h' eb=>⟨rfl,I.turned (t':=s.toks) (fun b o hb e=>eb b o hb e) f0 f1 f3 f4 f5⟩
  self:=fun _ _ _ _ _ st h=>wpAny_pyIter_keyiter st h
def iDK (tl:TE):TI:=fun σ H R=>tl σ H fun x H1=>∃ a o kvs,x=.ref a∧H1 a=some (.frz o (.dK kvs))∧R (Itk a o kvs) H1
theorem pi_dictK {tg l:Expr} {tl:TE} (hl:PE X l tl):PI X tg l (iDK tl):=by
  intro pins s σ H R I h
  refine thn (hl pins s σ H _ I h) fun v s1 ⟨x,H1,I1,r1,q1⟩=>?_
  obtain ⟨a,o,kvs,e,ha,q⟩:=q1
  subst e
  cases r1
  obtain ⟨lo,es,ep,hd,raw,hs,key⟩:=frz_rawK I1 ha
  refine raw_iter lo raw ?_
  refine ⟨s1.heap.objs.size,[s1.heap.objs.size],_,_,H1,rfl,I1.kept (t':=s1.toks) fun b o e=>Heap.get?_push_of_some _ e,turn_dictK hd,⟨_,Heap.get?_push_size _ rfl,rfl,rfl⟩,fun b hb=>?_,q⟩
  have e:b=s1.heap.objs.size:=by simpa using hb
  subst e
  exact I1.fpOk (Nat.le_refl _) (I1.hok.fresh (Nat.le_refl _))
def tFrzK (t:TS):TS:=fun D σ H=>∃ a u0 kvs,H a=some u0∧(u0=.dK kvs∨∃ o,u0=.frz o (.dK kvs))∧∀ o,t
  ⟨fun σ' H'=>H' a=some (.frz o (.dK kvs))∧D.nx σ' (upd H' a u0),fun v H'=>H' a=some (.frz o (.dK kvs))∧D.rt v (upd H' a u0),fun σ' H'=>H' a=some (.frz o (.dK kvs))∧D.bk σ' (upd H' a u0),fun σ' H'=>H' a=some (.frz o (.dK kvs))∧D.ct σ' (upd H' a u0)⟩ σ (upd H a (.frz o (.dK kvs)))
theorem ObjOk.upd_dK {P:Program} {w:World} {H:Hp} {h:Heap} {a:Addr} {kvs:List (Key × V)} {u u':HO} (ha:H a=some u) (hp:Plain u) (x:ObjOk P w H h a (.dK kvs)):ObjOk P w (upd H a u') h a (.dK kvs):=by
  refine x.stay (fun _ _ _ r=>r) (fun c r=>?_) fun c xs r=>?_
  · rw [upd_ne fun z=>by subst z;rw [ha] at r;cases r;exact hp];exact r
  · rw [upd_ne fun z=>by subst z;rw [ha] at r;cases r;exact hp];exact r
theorem ps_frzK {st:Stmt} {t:TS} (hst:PS X st t):PS X st (tFrzK t):=by
  rintro pins s σ H D I ⟨a,u0,kvs,ha,hu,h⟩
  have pl:Plain u0:=by rcases hu with rfl | ⟨o,rfl⟩ <;> trivial
  -- the object as it stands
  have ob:∃ o,s.heap.get? a=some o∧(u0=.dK kvs∨u0=.frz o (.dK kvs)):=by
    rcases hu with rfl | ⟨o,rfl⟩
    · obtain ⟨hz,lo,xs,rel,o,es,ep,ho,_⟩:=(show ObjOk X.prog X.w H s.heap a (.dK kvs) from I.hok a _ ha)
      exact ⟨o,ho,.inl rfl⟩
    · exact ⟨o,(show ObjOk X.prog X.w H s.heap a (.frz o (.dK kvs)) from I.hok a _ ha).1,.inr rfl⟩
  obtain ⟨o,ho,hu⟩:=ob
  have I1:Inv X pins σ (upd H a (.frz o (.dK kvs))) s:=by
    rcases hu with rfl | rfl
    · refine I.relab ha trivial (fun o' z q=>?_) ⟨ho,ObjOk.upd_dK ha trivial (I.hok a _ ha)⟩
      have:=I.base.frzs a o' z q
      rw [ha] at this;cases this
    · have e:upd H a (.frz o (.dK kvs))=H:=by
        funext b;unfold upd;split
        · next z=>rw [z];exact ha.symm
        · rfl
      rw [e];exact I
  have back:∀ {σ':St} {H':Hp} {s':Shared},Inv X pins σ' H' s'→H' a=some (.frz o (.dK kvs))→Inv X pins σ' (upd H' a u0) s':=fun {σ' H' s'} I' ha'=>by
    rcases hu with rfl | rfl
    · refine I'.relab ha' trivial (fun o' z q=>?_) (ObjOk.upd_dK ha' trivial (show ObjOk X.prog X.w H' s'.heap a (.frz o (.dK kvs)) from I'.hok a _ ha').2)
      have:=I.base.frzs a o' z q
      rw [ha] at this;cases this
    · have e:upd H' a (.frz o (.dK kvs))=H':=by
        funext b;unfold upd;split
        · next z=>rw [z];exact ha'.symm
        · rfl
      rw [e];exact I'
  refine thn (hst pins s σ _ _ I1 (h o)) fun f s' q=>?_
  cases f with
  | next=>obtain ⟨σ',H',I',ha',q⟩:=q;exact ⟨σ',_,back I' ha',q⟩
  | brk=>obtain ⟨σ',H',I',ha',q⟩:=q;exact ⟨σ',_,back I' ha',q⟩
  | cont=>obtain ⟨σ',H',I',ha',q⟩:=q;exact ⟨σ',_,back I' ha',q⟩
  | ret v=>obtain ⟨x,σ',H',I',r,ha',q⟩:=q;exact ⟨x,σ',_,back I' ha',r,q⟩
end
section
variable {σ:St} {H:Hp} {nx:St→Hp→Prop} {B:V→St→Hp→(St→Hp→Prop)→Prop}
theorem loop_dictK {a:Addr} {o:Obj} {kvs:List (Key × V)} (Pv:Nat→St→Hp→Prop) (h0:Pv 0 σ H) (hl:∀ i σ H,Pv i σ H→H a=some (.frz o (.dK kvs)))
    (hs:∀ i k v σ H,kvs[i]?=some (k,v)→Pv i σ H→B (kV k) σ H (Pv (i + 1))) (hd:∀ σ H,Pv kvs.length σ H→nx σ H) :
    ∃ W:Nat→Nat→St→Hp→Prop,(∃ m,W 0 m σ H)∧∀ i m σ H,W i m σ H→((Itk a o kvs).stop i H∧nx σ H)∨((Itk a o kvs).go i H∧∃ N:St→Hp→Prop,(∀ σ' H',N σ' H'→∃ m',m' < m∧W (i + 1) m' σ' H')∧∀ x H',(Itk a o kvs).yld i H x H'→B x σ H' N):=by
  refine ⟨fun i m σ H=>m=kvs.length - i∧i≤kvs.length∧Pv i σ H,⟨kvs.length,by simp,Nat.zero_le _,h0⟩,?_⟩
  rintro i m σ H ⟨rfl,hi,pv⟩
  by_cases hlt:i < kvs.length
  · refine .inr ⟨⟨hl i σ H pv,hlt⟩,Pv (i + 1),fun σ' H' p'=>⟨kvs.length - (i + 1),by omega,rfl,hlt,p'⟩,?_⟩
    rintro x H' ⟨rfl,k,v,hk,rfl⟩
    exact hs i k v σ _ hk pv
  · obtain rfl:i=kvs.length:=by omega
    exact .inl ⟨⟨hl _ σ H pv,Nat.le_refl _⟩,hd σ H pv⟩
end
end L2
namespace L2
open PySem PySem.Spec PyProof.Rows
def PcAt (H:Hp) (v:V) (q:Pl):Prop:=∃ p,v=.ref p∧H p=some (.tup [.str q.1,.int q.2])
abbrev cSrtP (K:PySem.W.Frag):RC:=fun vs H Q=>∃ r xs its,vs=[.ref r]∧SqL K H r xs∧Paired (PcAt H) xs its∧its.Nodup∧its.length < 64 ∧
  ∀ l ys srt H',Same H H'→H l=none→H' l=some (.lst ys)→Paired (PcAt H') ys srt→srt.Pairwise (fun a b=>placeLt a b=true)→srt.Perm its→Q (.ref l) H'
section
variable {X:Cx}
theorem call_sortedP (hc:X.calm=true) (hu:X.A.units + 3 < cLine):CallR X (.builtin "sorted") (cSrtP X.K):=by
  intro pins s σ H vs us Q I r0 h
  obtain ⟨r,xs,its,rfl,hq,pr,nd,h64,q⟩:=h
  obtain ⟨u,rfl,ru⟩:=vals1 r0
  cases ru
  obtain ⟨vs,rv,⟨o,n,ho,oc,_,od⟩,hz⟩:=I.list hq
  have so:=placeLt_so nd
  have l1:=Paired.length pr
  have l2:=rv.length
  have vat:∀ {h:Heap},(∀ b o,s.heap.get? b=some o→h.get? b=some o)→∀ (i:Nat) (q:Pl),its[i]?=some q→∃ v,vs[i]?=some v∧PlAt h v q:=fun {h} k i q hq=>by
    have hi:=(List.getElem?_eq_some_iff.mp hq).1
    obtain ⟨y,hy⟩:∃ y,xs[i]?=some y:=⟨_,List.getElem?_eq_getElem (by omega)⟩
    obtain ⟨u,hu',ru⟩:=rv.get hy
    exact ⟨u,hu',(by obtain ⟨p,e,hp⟩:=paired_get pr hy hq;subst e;cases ru;exact (place_at I hp).keep k)⟩
  refine sorted_pure (vs:=vs) (κ:=tuples' true) (lt:=fun i j=>placeLt (its.getD i (("",0):Pl)) (its.getD j (("",0):Pl))) (by omega) (by rw [show vs.length=its.length by omega];exact so) (fun R hR=>?_) (fun h2 h tk Q' k q'=>?_) (fun h tk i j C k hi hj hij q'=>?_) fun h tk h' p c k1 k2 hD hp hr=>?_
  · refine wpAny_collect_seq r (.inl rfl) ho oc od (fun h' k=>?_) (by rw [List.size_toArray];exact Nat.le_trans (by omega:_≤64) (by decide))
    have e:({ s with heap:=h' }:Shared)={ s with heap:=h',toks:=s.toks }:=rfl
    rw [e]
    exact hR h' s.toks k
  · refine kind_place (s:={ s with heap:=h,toks:=tk }) (qs:=its) (by omega) (fun i v q hv hq=>?_) (by omega) q'
    obtain ⟨v',hv',rr⟩:=vat k i q hq
    rw [hv] at hv'
    cases hv'
    exact rr
  · have e1:its[i]?=some its[i]:=List.getElem?_eq_getElem (by omega)
    have e2:its[j]?=some its[j]:=List.getElem?_eq_getElem (by omega)
    obtain ⟨v1,g1,r1⟩:=vat k i _ e1
    obtain ⟨v2,g2,r2⟩:=vat k j _ e2
    have n1:its.getD i (("",0):Pl)=its[i]:=by rw [List.getD_eq_getElem?_getD,e1];rfl
    have n2:its.getD j (("",0):Pl)=its[j]:=by rw [List.getD_eq_getElem?_getD,e2];rfl
    have m1:vs.getD i Value.none=v1:=by rw [List.getD_eq_getElem?_getD,g1];rfl
    have m2:vs.getD j Value.none=v2:=by rw [List.getD_eq_getElem?_getD,g2];rfl
    simp only [n1,n2] at q'
    have key:=ask_place (P:=X.prog) (w:=X.w) (A:=X.A.in1.in1) (E:=fun _ _=>False) (s:={ s with heap:=h,toks:=tk }) (Q:=C) r1 r2 q' fun z=>hij ((List.getElem_inj nd).mp z)
    rw [← m1,← m2] at key
    exact key
  · have I1:Inv X pins σ H { s with heap:=h,toks:=tk }:=I.kept k1
    have hp':PP its.length p:=by rw [show its.length=vs.length by omega];exact hp
    have fr:H h.objs.size=none:=I1.hok.fresh (Nat.le_refl _)
    have sz:=hp'.size
    have pk:=paired_pick pr V.non (("",0):Pl) (is:=p.toList) fun i hi=>by have:=hp'.lt i hi;omega
    have vk:Vals (p.toList.map fun i=>xs.getD i V.non) (outOf vs p):=paired_pick rv V.non Value.none (is:=p.toList) fun i hi=>by have:=hp'.lt i hi;omega
    have I2:Inv X pins σ (upd H h.objs.size (.lst (p.toList.map fun i=>xs.getD i V.non))) { s with heap:=h',toks:=tk }:=I1.laid (s:={ s with heap:=h,toks:=tk }) (a:=h.objs.size) (o:=.lst (p.toList.map fun i=>xs.getD i V.non)) (t':=tk) k2 (Nat.le_refl _)
      ⟨by rw [List.length_map,Array.length_toList];exact Nat.le_trans (by omega:_≤64) (by decide),outOf vs p,c,vk,hD⟩
    have S2:Same H (upd H h.objs.size (.lst (p.toList.map fun i=>xs.getD i V.non))):=isV _ fr
    have mono:∀ {us:List V} {ws:List Pl},Paired (PcAt H) us ws→Paired (PcAt (upd H h.objs.size (.lst (p.toList.map fun i=>xs.getD i V.non)))) us ws:=fun {us ws} h=>by
      induction h with
      | nil=>exact .nil
      | cons a _ ih =>
        obtain ⟨r,e,h1⟩:=a
        exact .cons ⟨r,e,S2 _ _ h1⟩ ih
    refine ⟨.ref h.objs.size,_,I2,rfl,q _ _ (p.toList.map fun i=>its.getD i (("",0):Pl)) _ S2 fr upd_same (mono pk) ?_ ?_⟩
    · have hr':Rise (fun i j=>placeLt (its.getD i (("",0):Pl)) (its.getD j (("",0):Pl))) p its.length:=by rw [show its.length=vs.length by omega];exact hr
      exact rise_pairs (F:=placeLt) hp' hr'
    · refine (hp'.list.map _).trans ?_
      rw [range_getD]
end
end L2
namespace L2
open PySem PySem.Spec PyProof.Rows
section
variable {K:Type} [DecidableEq K]
def dropH (xs:List (K × Addr × Value)) (k:K):List (K × Addr × Value):=xs.filter fun x=>decide (x.1≠k)
theorem dropH_none:∀ {xs:List (K × Addr × Value)} {k:K},k ∉ xs.map (·.1)→dropH xs k=xs:=fun {xs k} h=>List.filter_eq_self.mpr fun x hx=>decide_eq_true fun e=>h (List.mem_map.mpr ⟨x,hx,e⟩)
theorem eraseH:∀ {xs:List (K × Addr × Value)} {j:Nat} {k:K} {p:Addr × Value},(xs.map (·.1)).Nodup→xs[j]?=some (k,p)→xs.eraseIdx j=dropH xs k
  | [],j,k,p,_,h=>by simp at h
  | x :: r,0,k,p,n,h=>by
    rw [List.map_cons,List.nodup_cons] at n
    simp only [List.getElem?_cons_zero,Option.some.injEq] at h
    subst h
    show r=List.filter _ ((k,p) :: r)
    rw [List.filter_cons_of_neg (by simp)]
    exact (dropH_none n.1).symm
  | x :: r,j + 1,k,p,n,h=>by
    rw [List.map_cons,List.nodup_cons] at n
    simp only [List.getElem?_cons_succ] at h
    have m:k∈r.map (·.1):=List.mem_map.mpr ⟨(k,p),List.mem_of_getElem? h,rfl⟩
    have ne:x.1≠k:=fun e=>n.1 (e ▸ m)
    show x :: r.eraseIdx j=List.filter _ (x :: r)
    rw [List.filter_cons_of_pos (by simp [ne]),eraseH n.2 h]
    rfl
end
theorem erase_map {α β:Type} (f:α→β):∀ (l:List α) (j:Nat),(l.map f).eraseIdx j=(l.eraseIdx j).map f
  | [],_=>rfl
  | _ :: _,0=>rfl
  | a :: l,j + 1=>by rw [List.map_cons,List.eraseIdx_cons_succ,List.eraseIdx_cons_succ,List.map_cons,erase_map f l j]
theorem KT.dropT {H:Hp} {kvs:List (List Key × V)} {xs:List (List Key × Addr × Value)} (r:KT H kvs xs) (k:List Key):KT H (dropK kvs k) (dropH xs k):=by
  induction r with
  | nil=>exact .nil
  | @cons p q ps qs h t ih =>
    unfold dropK dropH
    by_cases e:p.1=k
    · rw [List.filter_cons_of_neg (by simp [e]),List.filter_cons_of_neg (by simp [← h.1,e])]
      exact ih
    · rw [List.filter_cons_of_pos (by simp [e]),List.filter_cons_of_pos (by simp [← h.1,e])]
      exact .cons h ih
section
variable {prog:Program} {w:World} {K:Type} [DecidableEq K] {knd:HeapKind prog w K} {A:Around} {E:Value→Shared→Prop} {s:Shared} {d a:Addr} {xs:List (K × Addr × Value)} {k:K}
theorem takeOut_heap {p:Addr × Value} {Q:Option DictEntry→Shared→Prop} (hu:knd.room A) (hkey:knd.is s.heap k a) (hm:s.heap.DictOfH knd d xs) (hp:atKey xs k=some p)
    (hsome:∀ e:DictEntry,e.val=p.2→∀ h',h'.DictOfH knd d (dropH xs k)→Heap.SameBut d s.heap h'→Q (some e) { s with heap:=h',toks:=s.toks + knd.draws k }) (hsz:xs.length≤sizeLine) :
    wpAny (model prog w) A (Builtin.Dict.takeOut d (.ref a)) Q E s:=by
  obtain ⟨o,es,ep,ho,hc,hd,he,his,hn⟩:=hm
  have hes:es.size=xs.length:=size_of_entries he
  unfold Builtin.Dict.takeOut
  try with_reducible refine wpAny_holding ?_
  refine wpAny_bind (knd.pyHash hu hkey ?_)
  refine wpAny_bind (wpAny_dictFind_heap (s:={ s with toks:=s.toks + knd.draws k }) hu hkey ho hd he his hn ?_ ?_)
  · intro hno
    rw [atKey_none_of_get hno] at hp
    cases hp
  · intro j q hj
    have e1:=atKey_of_get hn hj
    rw [hp] at e1
    cases e1
    refine wpAny_bind (wpAny_dictEntries (s:={ s with toks:=s.toks + knd.draws k }) ho hd ?_)
    rw [entry_at he j,hj]
    refine wpAny_bind (wpAny_updateDictKeys (hz:=by omega) (s:={ s with toks:=s.toks + knd.draws k }) ho hd (wpAny_pure (hsome (entryOfKey knd (k,p)) rfl _ ⟨_,_,ep + 1,Heap.get?_update_self _ ho (Obj.isFreed_of_dict (Obj.data_mapDictKeys hd _)),hc.mapDictKeys _,Obj.data_mapDictKeys hd _,?_,?_,?_⟩ (Heap.SameBut.update ..))))
    · rw [← eraseH hn hj,← erase_map,← he]
      obtain ⟨l⟩:=es
      simp
    · intro x hx
      exact knd.keeps (his x (List.mem_filter.mp hx).1) ho hd (Heap.SameBut.update ..)
    · exact List.Nodup.sublist (List.Sublist.map _ List.filter_sublist) hn
theorem meetsH_pop {d a:Addr}:MeetsIn prog w (Builtin.«dict.pop» ⟨[.ref d,.ref a],[]⟩) (fun A R s=>knd.room A.in1∧∃ k xs p,knd.is s.heap k a∧s.heap.DictOfH knd d xs∧xs.length≤sizeLine∧atKey xs k=some p ∧
      ∀ h',h'.DictOfH knd d (dropH xs k)→Heap.SameBut d s.heap h'→R (.ok (.ret p.2)) { s with heap:=h',toks:=s.toks + knd.draws k }) :=
  .of_wp fun A R s ⟨hu,k,xs,p,hkey,hm,hz,hp,h⟩=>by
    unfold Builtin.«dict.pop»
    refine wpAny_bind ?_
    unfold Builtin.Dict.keyAndDefault
    refine wpAny_bind (wpAny_notOrdered_dict hm.typeIs ?_)
    show wpAny _ _ (pure (d,Value.ref a,none)) _ _ s
    refine wpAny_pure ?_
    have kp:(keyPart (Value.ref a)).isSome=false:=rfl
    simp only [kp,Bool.false_eq_true,if_false]
    obtain ⟨o,es,ep,ho,hc,hd,he,his,hn⟩:=id hm
    refine wpAny_bind (wpAny_dictEntries ho hd ?_)
    refine wpAny_bind (wpAny_pure ?_)
    have ne:es.isEmpty=false:=by
      have l1:=size_of_entries he
      cases xs with
      | nil=>simp [atKey] at hp
      | cons x r =>
        rw [Array.isEmpty_eq_false_iff]
        intro z
        rw [z] at l1
        simp at l1
    simp only [ne,Bool.false_eq_true,if_false]
    refine wpAny_bind (takeOut_heap hu hkey hm hp (fun e ev h' hm' hs'=>?_) hz)
    simp only [Option.isNone_some,Bool.false_eq_true,if_false]
    exact wpAny_bind (wpAny_letGo (wpAny_pure ⟨e.val,rfl,by rw [ev];exact h h' hm' hs'⟩))
theorem setDefault_heap {dflt:Value} {Q:Value→Shared→Prop} (hu:knd.room A) (hkey:knd.is s.heap k a) (hm:s.heap.DictOfH knd d xs)
    (h1:∀ p,atKey xs k=some p→Q p.2 { s with toks:=s.toks + knd.draws k })
    (h2:atKey xs k=none→∀ h',h'.DictOfH knd d (storedH xs k a dflt)→Heap.SameBut d s.heap h'→Q dflt { s with heap:=h',toks:=s.toks + knd.draws k }) (hsz:xs.length≤sizeLine) :
    wpAny (model prog w) A (dictSetDefault d (.ref a) dflt) Q E s:=by
  obtain ⟨o,es,ep,ho,hc,hd,he,his,hn⟩:=hm
  have hes:es.size=xs.length:=size_of_entries he
  unfold dictSetDefault
  try with_reducible refine wpAny_holding ?_
  refine wpAny_bind (knd.pyHash hu hkey ?_)
  refine wpAny_bind (wpAny_dictFind_heap (s:={ s with toks:=s.toks + knd.draws k }) hu hkey ho hd he his hn ?_ ?_)
  · intro hno
    have hnot:k ∉ xs.map (·.1):=not_mem_keys_of_get hno
    have e0:=atKey_none_of_get hno
    refine wpAny_bind (wpAny_rule (wpAny_bind (wpAny_updateDictKeys (hz:=by omega) (s:={ s with toks:=s.toks + knd.draws k }) ho hd (wpAny_pure (h2 e0 _ ⟨_,_,ep + 1,Heap.get?_update_self _ ho (Obj.isFreed_of_dict (Obj.data_mapDictKeys hd _)),
      hc.mapDictKeys _,Obj.data_mapDictKeys hd _,?_,?_,?_⟩ (Heap.SameBut.update ..))))))
    · rw [storedH_new e0]
      simp [he,entryOfKey]
    · rw [storedH_new e0]
      intro x hx
      rcases List.mem_append.mp hx with hx | hx
      · exact knd.keeps (his x hx) ho hd (Heap.SameBut.update ..)
      · simp only [List.mem_singleton] at hx
        subst hx
        exact knd.keeps hkey ho hd (Heap.SameBut.update ..)
    · rw [storedH_new e0]
      rw [List.map_append,List.nodup_append]
      refine ⟨hn,by simp,?_⟩
      intro x hx y hy
      simp only [List.map_cons,List.map_nil,List.mem_singleton] at hy
      subst hy
      exact fun e=>hnot (e ▸ hx)
  · intro j p hj
    refine wpAny_bind (wpAny_dictEntries (s:={ s with toks:=s.toks + knd.draws k }) ho hd ?_)
    rw [entry_at he j,hj]
    exact wpAny_bind (wpAny_rule (wpAny_pure (h1 p (atKey_of_get hn hj))))
theorem meetsH_setdef {d a:Addr} (hd:(d == sysModules)=false) (dflt:Value):MeetsIn prog w (Builtin.«dict.setdefault» ⟨[.ref d,.ref a,dflt],[]⟩) (fun A R s=>knd.room A.in1∧∃ k xs,knd.is s.heap k a∧s.heap.DictOfH knd d xs∧xs.length≤sizeLine ∧
      (∀ p,atKey xs k=some p→R (.ok (.ret p.2)) { s with toks:=s.toks + knd.draws k }) ∧
      (atKey xs k=none→∀ h',h'.DictOfH knd d (storedH xs k a dflt)→Heap.SameBut d s.heap h'→R (.ok (.ret dflt)) { s with heap:=h',toks:=s.toks + knd.draws k })) :=
  .of_wp fun A R s ⟨hu,k,xs,hkey,hm,hz,h1,h2⟩=>by
    unfold Builtin.«dict.setdefault»
    refine wpAny_bind ?_
    unfold Builtin.Dict.keyAndDefault
    refine wpAny_bind (wpAny_notOrdered_dict hm.typeIs ?_)
    show wpAny _ _ (pure (d,Value.ref a,some dflt)) _ _ s
    refine wpAny_pure ?_
    show wpAny _ _ (if (d == sysModules)=true then _ else (dictSetDefault d (.ref a) dflt >>= _)) _ _ s
    rw [if_neg (by rw [hd];exact Bool.false_ne_true)]
    exact wpAny_bind (setDefault_heap hu hkey hm (fun p hp=>wpAny_pure ⟨_,rfl,h1 p hp⟩) (fun hn h' hm' hs'=>wpAny_pure ⟨dflt,rfl,h2 hn h' hm' hs'⟩) hz)
end
section
variable {X:Cx} {pins:List (Addr × Obj)} {σ:St} {H:Hp} {s:Shared} {a b:Addr} {kvs:List (List Key × V)} {k:List Key} {A:Around} {E:Value→Shared→Prop}
theorem d_popT {v:V} {Q:Value→Shared→Prop} (hu:A.units + 1 < cLine) (I:Inv X pins σ H s) (e:H a=some (.dT kvs)) (eb:H b=some (.tup (k.map kV))) (l:valV kvs k=some v)
    (h:∀ w' s',Inv X pins σ (upd H a (.dT (dropK kvs k))) s'→RelV v w'→Q w' s'):wpAny (model X.prog X.w) A (call (.builtin "dict.pop") [.ref a,.ref b]) Q E s:=by
  obtain ⟨z,hd,xs,rel,dd⟩:=dt_of I.hok e
  have hz:xs.length≤sizeLine:=by rw [← Paired.length rel];exact z
  have rv:=rel.val k
  rw [l] at rv
  obtain ⟨w',hw,rw'⟩:=RelO.some_of rv
  obtain ⟨p,hp,rfl⟩:=Option.map_eq_some_iff.mp hw
  refine call_meetsIn PySem.F.slot_dict_pop dd.typeIs PySem.F.entry_dict_pop (PySem.F.args_dict_pop_2 _ _) (meetsH_pop (knd:=tupleKind (mixKind X.prog X.w))) ⟨tupleKind_room_in1 hu,k,xs,p,key_of I.hok eb,dd,hz,hp,fun h' dd' hs=>h _ _ ?_ rw'⟩
  obtain ⟨q,es,ep,hq,h2,h3,h4,_,h5⟩:=dd'
  refine d_write I (by rw [e];exact True.intro) hs ⟨q,hq⟩ ⟨Nat.le_trans (dropK_le kvs k) z,hd,_,(rel.dropT k).keeps fun c ys ec=>?_,q,es,ep,hq,h2,h3,h4,h5⟩
  rw [upd_ne (ne_of ec e (fun z=>nomatch z))]
  exact ec
theorem d_setdefT {d:V} {r:Value} {Q:Value→Shared→Prop} (hu:A.units + 1 < cLine) (I:Inv X pins σ H s) (e:H a=some (.dT kvs)) (eb:H b=some (.tup (k.map kV))) (rd:RelV d r) (hl:kvs.length < sizeLine)
    (h1:∀ v w' s',valV kvs k=some v→Inv X pins σ H s'→RelV v w'→Q w' s') (h2:∀ s',valV kvs k=none→Inv X pins σ (upd H a (.dT (putK kvs k d))) s'→Q r s'):wpAny (model X.prog X.w) A (call (.builtin "dict.setdefault") [.ref a,.ref b,r]) Q E s:=by
  obtain ⟨z,hd,xs,rel,dd⟩:=dt_of I.hok e
  have hz:xs.length≤sizeLine:=by rw [← Paired.length rel];exact z
  have rv:=rel.val k
  refine call_meetsIn PySem.F.slot_dict_setdefault dd.typeIs PySem.F.entry_dict_setdefault (PySem.F.args_dict_setdefault_3 _ _ _) (meetsH_setdef (knd:=tupleKind (mixKind X.prog X.w)) hd r) ⟨tupleKind_room_in1 hu,k,xs,key_of I.hok eb,dd,hz,fun p hp=>?_,fun hn h' dd' hs=>?_⟩
  · rw [hp] at rv
    cases hv:valV kvs k with
    | none=>rw [hv] at rv;exact rv.elim
    | some v=>rw [hv] at rv;exact h1 v _ _ hv (I.tok _) rv
  · rw [hn] at rv
    have hv:valV kvs k=none:=by
      cases hv:valV kvs k with
      | none=>rfl
      | some v=>rw [hv] at rv;exact rv.elim
    refine h2 _ hv ?_
    obtain ⟨q,es,ep,hq,g2,g3,g4,_,g5⟩:=dd'
    have hl2:(putK kvs k d).length≤sizeLine:=by have:=length_putK kvs k d;omega
    refine d_write I (by rw [e];exact True.intro) hs ⟨q,hq⟩ ⟨hl2,hd,_,(rel.put k eb rd).keeps fun c ys ec=>?_,q,es,ep,hq,g2,g3,g4,g5⟩
    rw [upd_ne (ne_of ec e (fun z=>nomatch z))]
    exact ec
end
def tDPopT (td ty:TE):TE:=fun σ H Q=>td σ H fun x H1=>∃ a,x=.ref a∧IsD H1 a∧ty σ H1 fun y H2=>∃ kvs k b v,H2 a=some (.dT kvs)∧y=.ref b∧H2 b=some (.tup (k.map kV))∧valV kvs k=some v∧Q v (upd H2 a (.dT (dropK kvs k)))
def tDSetD (td ty tx:TE):TE:=fun σ H Q=>td σ H fun x H1=>∃ a,x=.ref a∧IsD H1 a∧ty σ H1 fun y H2=>tx σ H2 fun z H3=>∃ kvs k b,H3 a=some (.dT kvs)∧y=.ref b∧H3 b=some (.tup (k.map kV))∧kvs.length < sizeLine ∧
  (∀ v,valV kvs k=some v→Q v H3)∧(valV kvs k=none→Q z (upd H3 a (.dT (putK kvs k z))))
section
variable {X:Cx} {o e f:Expr} {apos cpos:Pos} {td ty tx:TE}
theorem pe_dpopT (hu:X.A.units + 1 < cLine) (ho:PE X o td) (he:PE X e ty) (m:M1 X o "pop" apos e cpos):PE X (.Call (.Attribute o "pop" apos) [e] [] cpos) (tDPopT td ty):=by
  intro pins s σ H Q I h
  refine wpAny_Call_method m.base m.few m.line PySem.F.plainAttrs_dict PySem.F.slot_dict_pop PySem.F.type_dict_pop (thn (ho pins s σ H _ I h) fun u s1 ⟨x,H1,I1,rx,a,ex,d,q1⟩=>?_)
  subst ex;obtain rfl:u=Value.ref a:=rx
  obtain ⟨t1,t2,_⟩:=isD_at I1 d
  refine ⟨t1,t2,?_⟩;rw [m.trees]
  refine Calls.callWith_builtin rfl (Calls.evalArgs_plain (Calls.spliced_cons (thn (he pins s1 σ H1 _ I1 q1) fun iv s2 ⟨y,H2,I2,ry,kvs,k,b,v,ea,ey,eb,l,q2⟩=>Calls.spliced_nil ?_)))
  subst ey
  cases (show iv=Value.ref b from ry)
  exact d_popT hu I2 ea eb l fun w' s3 I3 rw'=>⟨v,_,I3,rw',q2⟩
theorem pe_dsetd (hu:X.A.units + 1 < cLine) (ho:PE X o td) (he:PE X e ty) (hf:PE X f tx) (m:M2 X o "setdefault" apos e f cpos):PE X (.Call (.Attribute o "setdefault" apos) [e,f] [] cpos) (tDSetD td ty tx):=by
  intro pins s σ H Q I h
  refine wpAny_Call_method m.base m.few m.line PySem.F.plainAttrs_dict PySem.F.slot_dict_setdefault PySem.F.type_dict_setdefault (thn (ho pins s σ H _ I h) fun u s1 ⟨x,H1,I1,rx,a,ex,d,q1⟩=>?_)
  subst ex;obtain rfl:u=Value.ref a:=rx
  obtain ⟨t1,t2,_⟩:=isD_at I1 d
  refine ⟨t1,t2,?_⟩;rw [m.trees]
  refine Calls.callWith_builtin rfl (Calls.evalArgs_plain (Calls.spliced_cons (thn (he pins s1 σ H1 _ I1 q1) fun iv s2 ⟨y,H2,I2,ry,q2⟩ =>
    Calls.spliced_cons (thn (hf pins s2 σ H2 _ I2 q2) fun fv s3 ⟨z,H3,I3,rz,kvs,k,b,ea,ey,eb,hl,q3,q4⟩=>Calls.spliced_nil ?_))))
  subst ey
  cases (show iv=Value.ref b from ry)
  exact d_setdefT hu I3 ea eb rz hl (fun v w' s4 hv I4 rw'=>⟨v,_,I4,rw',q3 v hv⟩) fun s4 hn I4=>⟨z,_,I4,rz,q4 hn⟩
end
abbrev r_mt_insert:RM:=fun x vs H Q=>∃ (l:Addr) (xs:List V) (k:Nat) (y:V),x=.ref l∧vs=[.int k,y]∧H l=some (.lst xs)∧k≤xs.length∧xs.length < 1000000∧Q .non (upd H l (.lst (xs.take k ++ y :: xs.drop k)))
abbrev r_mt_remove:RM:=fun x vs H Q=>∃ (l:Addr) (ns:List Int) (i:Int),x=.ref l∧vs=[.int i]∧H l=some (.lst (ns.map V.int))∧i∈ns∧Q .non (upd H l (.lst ((ns.erase i).map V.int)))
theorem Vals.takeV:∀ (k:Nat) {xs:List V} {us:List Value},Vals xs us→Vals (xs.take k) (us.take k)
  | 0,_,_,_=>by rw [List.take_zero,List.take_zero];exact .nil
  | _ + 1,_,_,.nil=>.nil
  | k + 1,_,_,.cons h r=>.cons h (Vals.takeV k r)
theorem Vals.dropV:∀ (k:Nat) {xs:List V} {us:List Value},Vals xs us→Vals (xs.drop k) (us.drop k)
  | 0,_,_,h=>h
  | _ + 1,_,_,.nil=>.nil
  | k + 1,_,_,.cons _ r=>Vals.dropV k r
section
variable {X:Cx}
theorem mt_insert:MtM X "list.insert" r_mt_insert:=by
  intro pins s σ H x vs v us Q I rx rv h
  obtain ⟨l,xs,k,y,rfl,rfl,hH,hk,hz,q⟩:=h
  cases rx
  cases rv with
  | cons r1 rr =>
    obtain ⟨u,rfl,ru⟩:=(show Vals [y] _ from rr).one
    obtain ⟨t,rfl⟩:=r1
    obtain ⟨z,its,n,r,hl,e⟩:=I.lstM hH
    have h1:(1000000:Nat) < sizeLine:=by rw [sizeLine_eq];decide
    obtain ⟨i,hi⟩:∃ i:Int,i=k:=⟨_,rfl⟩
    rw [← hi]
    have hc:¬ (!Builtin.List.listFitsIndex i)=true:=by rw [fitsIndex_both (by omega) (by omega)];exact Bool.false_ne_true
    have hs:its.toArray.size≤sizeLine:=by rw [List.size_toArray];omega
    have M:=AutoSeq1.list_insert_list_int_val_1 l its.toArray n i t u hc hs
    refine call_meets F.slot_list_insert ⟨_,e,rfl⟩ F.entry_list_insert (F.args_list_insert_3 _ _ _) M ⟨e,?_⟩
    refine ⟨.non,_,I.lset (its':=its.take k ++ u :: its.drop k) hH e ?_ ((r.takeV k).append (.cons ru (r.dropV k))) ?_,rfl,q⟩
    · have hk2:k≤its.length:=by omega
      subst hi
      have hn:¬ ((k:Int) < 0):=by omega
      simp [Nat.min_eq_left hk2,hn]
      rw [List.take_of_length_le (by rw [List.length_drop];omega)]
    · rw [List.length_append,List.length_cons,List.length_take,List.length_drop];omega
theorem ints_at:∀ {ns:List Int} {its:List Value},Vals (ns.map V.int) its→∀ (m:Nat) (v:Value),its[m]?=some v→∃ i t,ns[m]?=some i∧v=.int i t
  | [],_,.nil,m,v,h=>by simp at h
  | i :: ns,_,.cons h r,0,v,e=>by
    simp only [List.getElem?_cons_zero,Option.some.injEq] at e
    subst e
    obtain ⟨t,rfl⟩:=h
    exact ⟨i,t,rfl,rfl⟩
  | i :: ns,_,.cons h r,m + 1,v,e=>by simpa using ints_at r m v (by simpa using e)
def isI (k:Int):Value→Bool
  | .int a _=>a == k
  | _=>false
theorem mt_remove:MtM X "list.remove" r_mt_remove:=by
  intro pins s σ H x vs v us Q I rx rv h
  obtain ⟨l,ns,i,rfl,rfl,hH,hi,q⟩:=h
  cases rx
  obtain ⟨u,rfl,ru⟩:=rv.one
  obtain ⟨t,rfl⟩:=ru
  obtain ⟨z,its,n,r,hl,e⟩:=I.lstM hH
  rw [List.length_map] at hl z
  have hj:ns.idxOf i < ns.length:=List.idxOf_lt_length_iff.mpr hi
  have gt:∀ m (hm:m < its.toArray.size),∃ (h2:m < ns.length) (t':Tok),its.toArray[m]=.int ns[m] t':=fun m hm=>by
    rw [List.size_toArray] at hm
    obtain ⟨i',t',h1,h2⟩:=ints_at r m its[m] (List.getElem?_eq_getElem hm)
    have h3:m < ns.length:=by omega
    rw [List.getElem?_eq_getElem h3] at h1
    refine ⟨h3,t',?_⟩
    rw [Option.some.inj h1,← h2]
    simp
  refine call_meets F.slot_list_remove ⟨_,e,rfl⟩ F.entry_list_remove (F.args_list_remove_2 _ _)
    (MeetsSeq.list_remove l its.toArray n (.int i t) (isI i) (fun y hy=>?_) (ns.idxOf i) (by rw [List.size_toArray];omega) ?_ (fun m hm hlt=>?_) (by rw [List.size_toArray];omega)) ⟨e,?_⟩
  · obtain ⟨m,hm,rfl⟩:=Array.mem_iff_getElem.mp hy
    obtain ⟨h2,t',e2⟩:=gt m hm
    rw [e2]
    exact MeetsSeq.EqGives.int _ _ _ _
  · obtain ⟨h2,t',e2⟩:=gt (ns.idxOf i) (by rw [List.size_toArray];omega)
    rw [e2]
    show (ns[ns.idxOf i] == i)=true
    rw [List.getElem_idxOf hj]
    exact beq_self_eq_true i
  · obtain ⟨h2,t',e2⟩:=gt m hm
    rw [e2]
    show (ns[m] == i)=false
    exact List.not_of_lt_findIdx (p:=fun y=>y == i) (xs:=ns) (i:=m) hlt
  · have ee:ns.erase i=ns.eraseIdx (ns.idxOf i):=List.erase_eq_eraseIdx_of_idxOf rfl
    rw [ee] at q
    refine ⟨.non,_,I.lset (its':=its.eraseIdx (ns.idxOf i)) hH e ?_ (by rw [← erase_map];exact r.eraseIdx _) ?_,rfl,q⟩
    · show its.toArray.eraseIdxIfInBounds _=_
      rw [List.eraseIdxIfInBounds_toArray]
    · rw [List.length_map]
      have:=len_erase ns (ns.idxOf i)
      omega
end
def KyAt (H:Hp) (y:V) (kv:List Key × V):Prop:=∃ p,y=.ref p∧H p=some (.tup (kv.1.map kV))
abbrev cLstD:RC:=fun vs H Q=>∃ a kvs,vs=[.ref a]∧H a=some (.dT kvs)∧∀ l ys,H l=none→Paired (KyAt H) ys kvs→Q (.ref l) (upd H l (.lst ys))
abbrev cLenT:RC:=fun vs H Q=>∃ a kvs,vs=[.ref a]∧H a=some (.dT kvs)∧Q (.int (kvs.length:Nat)) H
section
variable {X:Cx}
theorem keys_paired {H:Hp} {es:Array DictEntry}:∀ (kvs:List (List Key × V)) (vs:List Value) (j:Nat),vs.length=kvs.length→(∀ i v,vs[i]?=some v→∃ e,es[j + i]?=some e∧v=e.key) →
    (∀ (i:Nat) (en:DictEntry) (kv:List Key × V),es[j + i]?=some en→kvs[i]?=some kv→∃ p,en.key=.ref p∧H p=some (.tup (kv.1.map kV)))→∃ ys,Vals ys vs∧Paired (KyAt H) ys kvs
  | [],[],_,_,_,_=>⟨[],.nil,.nil⟩
  | [],v :: vs,_,hl,_,_=>by simp at hl
  | kv :: kvs,[],_,hl,_,_=>by simp at hl
  | kv :: kvs,v :: vs,j,hl,h1,h2=>by
    obtain ⟨e,he,rfl⟩:=h1 0 v rfl
    obtain ⟨p,hp,hH⟩:=h2 0 e kv he rfl
    obtain ⟨ys,r1,r2⟩:=keys_paired (es:=es) kvs vs (j + 1) (by simpa using hl) (fun i u hu=>by rw [Nat.add_assoc,Nat.add_comm 1 i];exact h1 (i + 1) u (by simpa using hu)) (fun i en kv' he' hk=>h2 (i + 1) en kv' (by rw [← Nat.add_assoc,Nat.add_right_comm];exact he') (by simpa using hk))
    exact ⟨.ref p :: ys,.cons hp r1,.cons ⟨p,rfl,hH⟩ r2⟩
theorem call_list_dict (hc:X.calm=true):CallR X (.type "list") cLstD:=by
  intro pins s σ H vs us Q I r0 h
  obtain ⟨a,kvs,rfl,ha,q⟩:=h
  obtain ⟨u,rfl,ru⟩:=vals1 r0
  cases ru
  have hh:X.A.handled=none:=I.ok.hd hc
  obtain ⟨z,lo,_⟩:=dt_of I.hok ha
  obtain ⟨es,ep,rd,hes,hen⟩:=raw_of I ha
  refine PySem.W.kdl_call (raw_src (ep:=ep) (es:=es) lo) hh rd (by rw [hes];exact z) fun h' tk acc c hk hD hi=>?_
  obtain ⟨ys,r1,r2⟩:=keys_paired (H:=H) (es:=es) kvs acc.toList 0 (by rw [Array.length_toList,hi.1,hes]) (fun i v hv=>by
      rw [Nat.zero_add]
      obtain ⟨e,h1,h2⟩:=hi.2 i v (by rw [← Array.getElem?_toList];exact hv)
      exact ⟨e,h1,h2⟩) (fun i en kv he hk=>by
      rw [Nat.zero_add] at he
      obtain ⟨p,g1,g2,_⟩:=hen i en kv he hk
      exact ⟨p,g1,g2⟩)
  have I2:Inv X pins σ (upd H s.heap.objs.size (.lst ys)) { s with heap:=h',toks:=tk }:=I.laid (a:=s.heap.objs.size) (o:=.lst ys) (t':=tk) hk (Nat.le_refl _)
    ⟨by have:=Paired.length r2;omega,acc.toList,c,r1,by rw [Array.toArray_toList];exact hD⟩
  exact ⟨.ref s.heap.objs.size,_,I2,rfl,q _ ys (I.hok.fresh (Nat.le_refl _)) r2⟩
theorem meets_lenR {prog:Program} {w:World} {d:Addr} (hd:(d == sysModules)=false) :
    MeetsIn prog w (Builtin.«dict.__len__» ⟨[.ref d],[]⟩) (fun _ R s=>∃ es ep,RawD s.heap d es ep∧R (.ok (.ret (.int (es.size:Nat) s.toks))) { s with toks:=s.toks + 1 }) :=
  .of_wp fun A R s ⟨es,ep,hm,h⟩=>by
    obtain ⟨o,ho,hc,hdat⟩:=hm
    show wpAny _ _ (dictSize d >>= _) _ _ s
    unfold dictSize
    refine wpAny_bind (wpAny_bind (wpAny_dictEntries ho hdat (wpAny_pure ?_)))
    show wpAny _ _ (Builtin.Dict.pendingCount d >>= _) _ _ s
    refine wpAny_bind (wpAny_pendingCount_other hd ?_)
    refine wpAny_ret_mkInt ?_
    rw [Nat.add_zero];exact h
theorem len_bodyR {prog:Program} {w:World} {A:Around} {E:Value→Shared→Prop} {s:Shared} {d:Addr} {es:Array DictEntry} {ep:Nat} {Q:Value→Shared→Prop} (hd:(d == sysModules)=false) (hm:RawD s.heap d es ep) (hfit:(es.size:Int) < 2 ^ 63)
    (h:Q (.int (es.size:Nat) (s.toks + 1)) { s with toks:=s.toks + 1 + 1 }):wpAny (model prog w) A (Builtin.«len» ⟨[.ref d],[]⟩) (fun fin s'=>∃ r,fin=.done (.ret r)∧Q r s') E s:=by
  unfold Builtin.«len»
  refine wpAny_bind (m:=oneArg "len" _) (wpAny_pure ?_)
  refine wpAny_bind (m:=callSpecial? (.ref d) (Str.ofString "__len__")) (wpAny_callSpecial?_slot (name:=Str.ofString "__len__") hm.type F.slot_dict_len
    (call_meetsIn F.slot_dict_len hm.type F.entry_dict_len (F.args_dict_len_1 _) (meets_lenR hd) ⟨es,ep,hm,?_⟩))
  show wpAny _ _ _ _ _ { s with toks:=s.toks + 1 }
  refine wpAny_bind (wpAny_holding (wpAny_pure ?_));refine wpAny_bind (wpAny_letGo ?_)
  show wpAny _ _ (if ((es.size:Nat):Int) < 0 then _ else _) _ _ _;rw [if_neg (by omega)]
  show wpAny _ _ (if ((es.size:Nat):Int) ≥ 2 ^ 63 then _ else _) _ _ _;rw [if_neg (by omega)]
  exact wpAny_bind (wpAny_mkInt (wpAny_pure ⟨_,rfl,h⟩))
theorem call_lenT:CallR X (.builtin "len") cLenT:=by
  intro pins s σ H vs us Q I r0 h
  obtain ⟨a,kvs,rfl,ha,q⟩:=h
  obtain ⟨u,rfl,ru⟩:=vals1 r0
  cases ru
  obtain ⟨z,lo,_⟩:=dt_of I.hok ha
  obtain ⟨es,ep,rd,hes,_⟩:=raw_of I ha
  rw [← hes] at q
  exact Calls.call_function_entry kind_len plain_len entry_len (args_len1 _) (len_bodyR lo rd (by rw [hes];rw [sizeLine_eq] at z;omega) ⟨.int (es.size:Nat),H,I.tok _,⟨_,rfl⟩,q⟩)
end
end L2
namespace L2
open PySem PySem.Spec PyProof.Rows
section
variable {X:Cx} {c:Expr} {s₁ s₂:Stmt} {tc:TT} {t1 t2:EXK→TS} {pos:Pos}
def tIfX (tc:TT) (t1 t2:EXK→TS) (EX:EXK):TS:=tIfS tc (t1 EX) (t2 EX)
theorem psx_one (h1:PSX X s₁ t1):∀ (pins:List (Addr × Obj)) (s:Shared) (σ:St) (H:Hp) (D:Ends) (EX:EXK),Inv X pins σ H s→t1 EX D σ H→wpAny (model X.prog X.w) X.A (execs [s₁] X.env) (SP X pins D) (PX X pins EX) s:=by
  intro pins s σ H D EX I h
  refine wpAny_execs_cons (thn (h1 pins s σ H D EX I h) fun f s1 q=>?_)
  cases f with
  | next=>exact wpAny_execs_nil q
  | ret v=>exact q
  | brk=>exact q
  | cont=>exact q
theorem psx_if (hc:PT X.nox c tc) (h1:PSX X s₁ t1) (h2:PSX X s₂ t2):PSX X (.If c [s₁] [s₂] pos) (tIfX tc t1 t2):=by
  intro pins s σ H D EX I h
  refine wpAny_If (wpAny_mono (hc pins s σ H _ (I.wish _) h) (fun d s1 ⟨H1,I1,q1⟩=>?_) fun _ _ z=>False.elim z)
  cases d with
  | true=>exact psx_one h1 pins s1 σ H1 D EX I1.unwish q1
  | false=>exact psx_one h2 pins s1 σ H1 D EX I1.unwish q1
end
section
variable {X:Cx} {e:Expr} {te:TE} {a b:Str} {j k:Nat} {p1 p2 p3 p4:Pos}
def tMsgI (te:TE):TE:=fun σ H Q=>te σ H fun v H1=>∃ i:Int,v=.int i∧i.natAbs.log2 < 1920∧∀ y:Str,Q (.str y) H1
theorem pe_msgI (he:PE X e te) (hl:a.length≤1000:=by decide +kernel) (hl2:b.length≤1000:=by decide +kernel):PE X (.JoinedStr [.Constant (.str a) j p1,.FormattedValue e (-1) none p2,.Constant (.str b) k p4] p3) (tMsgI te):=by
  intro pins s σ H Q I h
  have hs:sizeLine=16777216:=sizeLine_eq
  refine wpAny_JoinedStr ?_
  show wpAny _ _ (eval (.Constant (.str a) j p1) X.env) _ _ s
  have e0:(Str.empty ++ a).length=a.length:=by rw [Str.length_append];simp [Str.empty,Str.length]
  refine Calls.Constant_str ⟨a,_,rfl,by rw [e0];exact small_size (by omega),?_⟩
  show wpAny _ _ (eval (.FormattedValue e (-1) none p2) X.env) _ _ _
  refine wpAny_FormattedValue_plain (thn (he pins _ σ H _ (I.tok _) h) fun v s1 ⟨x,H1,I1,r1,i,ex,hz,q⟩=>?_)
  subst ex
  obtain ⟨t,rfl⟩:=r1
  have le:(Str.ofString (toString i)).length≤2000:=by
    have e:=int_text_length_le (k:=1920) (by decide) hz
    rw [PySem.ofString_length];omega
  refine wpAny_formatField_int hz ⟨Str.ofString (toString i),_,rfl,by rw [Str.length_append,e0];omega,?_⟩
  show wpAny _ _ (eval (.Constant (.str b) k p4) X.env) _ _ _
  have hz2:(Str.empty ++ a ++ Str.ofString (toString i) ++ b).length≤sizeLine:=by rw [Str.length_append,Str.length_append,e0];omega
  exact Calls.Constant_str ⟨b,_,rfl,hz2,hz2,.str _,H1,I1.tok _,⟨_,rfl⟩,q _⟩
end
end L2
namespace K35
open PySem L2
def top (i:Nat):Stmt:=PySem.Challenge.pw_forerun_k35_below_the_fold.main.body.getD i (.Pass ⟨0,0,0,0⟩)
abbrev s__law_drawn:Stmt:=top 23
abbrev s__law_names:Stmt:=top 26
abbrev s__law_worth:Stmt:=top 24
abbrev s__law_places:Stmt:=top 27
abbrev s_Makes_init:Stmt:=inClass (top 19) 0
abbrev s__law_cell_at:Stmt:=top 21
abbrev s_Makes_heed_fold:Stmt:=inClass (top 19) 8
abbrev s_table_of:Stmt:=top 14
abbrev s_many_below:Stmt:=top 16
abbrev s_Makes_seen:Stmt:=inClass (top 19) 1
abbrev s_Makes_table_for:Stmt:=inClass (top 19) 3
abbrev s__law_gifts:Stmt:=top 28
abbrev s__law_rank_near:Stmt:=top 25
abbrev s_Makes_kept:Stmt:=inClass (top 19) 5
abbrev s__law_whole:Stmt:=top 22
abbrev s__law_seen:Stmt:=top 29
abbrev s__law_stays:Stmt:=top 33
abbrev s__law_due:Stmt:=top 30
abbrev s_Makes_places_of:Stmt:=inClass (top 19) 6
abbrev s_drop_rank:Stmt:=top 18
abbrev s_Makes_take_away:Stmt:=inClass (top 19) 9
abbrev s_Makes_fold:Stmt:=inClass (top 19) 4
abbrev s_put_rank:Stmt:=top 17
abbrev s_Makes_lay:Stmt:=inClass (top 19) 2
abbrev s__law_refused:Stmt:=top 31
abbrev s__law_asked:Stmt:=top 32
abbrev s_law:Stmt:=top 34
theorem sc__law_drawn:FnScope ["cell","many","low","high","found","k"] ["cell","many"] (defScope s__law_drawn):=⟨rfl,rfl,rfl,by decide +kernel,rfl,by decide +kernel,by decide +kernel⟩
theorem sc__law_names:FnScope ["cell","letters","words","size","at","xs","names","k","name","j","step"] ["cell"] (defScope s__law_names):=⟨rfl,rfl,rfl,by decide +kernel,rfl,by decide +kernel,by decide +kernel⟩
theorem sc__law_worth:FnScope ["cell","rest"] ["cell"] (defScope s__law_worth):=⟨rfl,rfl,rfl,by decide +kernel,rfl,by decide +kernel,by decide +kernel⟩
theorem sc__law_places:FnScope ["cell","names","base","near","places","k","place"] ["cell"] (defScope s__law_places):=⟨rfl,rfl,rfl,by decide +kernel,rfl,by decide +kernel,by decide +kernel⟩
theorem sc_Makes_init:FnScope ["self","table"] ["self","table"] (defScope s_Makes_init):=⟨rfl,rfl,rfl,by decide +kernel,rfl,by decide +kernel,by decide +kernel⟩
theorem sc__law_cell_at:FnScope ["script","k"] ["script","k"] (defScope s__law_cell_at):=⟨rfl,rfl,rfl,by decide +kernel,rfl,by decide +kernel,by decide +kernel⟩
theorem sc_Makes_heed_fold:FnScope ["self","rank"] ["self","rank"] (defScope s_Makes_heed_fold):=⟨rfl,rfl,rfl,by decide +kernel,rfl,by decide +kernel,by decide +kernel⟩
theorem sc_table_of:FnScope ["rows","worths"] ["rows"] (defScope s_table_of):=⟨rfl,rfl,rfl,by decide +kernel,rfl,by decide +kernel,by decide +kernel⟩
theorem sc_many_below:FnScope ["ranks","rank","low","high","amid"] ["ranks","rank"] (defScope s_many_below):=⟨rfl,rfl,rfl,by decide +kernel,rfl,by decide +kernel,by decide +kernel⟩
theorem sc_Makes_seen:FnScope ["self","place","rank","ranks","below"] ["self","place","rank"] (defScope s_Makes_seen):=⟨rfl,rfl,rfl,by decide +kernel,rfl,by decide +kernel,by decide +kernel⟩
theorem sc_Makes_table_for:FnScope ["self","rank","places"] ["self","rank"] (defScope s_Makes_table_for):=⟨rfl,rfl,rfl,by decide +kernel,rfl,by decide +kernel,by decide +kernel⟩
theorem sc__law_gifts:FnScope ["cell","places","xs","gifts","taken","k","place"] ["cell","places"] (defScope s__law_gifts):=⟨rfl,rfl,rfl,by decide +kernel,rfl,by decide +kernel,by decide +kernel⟩
theorem sc__law_rank_near:FnScope ["low","cell","rest"] ["low","cell"] (defScope s__law_rank_near):=⟨rfl,rfl,rfl,by decide +kernel,rfl,by decide +kernel,by decide +kernel⟩
theorem sc_Makes_kept:FnScope ["self"] ["self"] (defScope s_Makes_kept):=⟨rfl,rfl,rfl,by decide +kernel,rfl,by decide +kernel,by decide +kernel⟩
theorem sc__law_whole:FnScope ["found"] ["found"] (defScope s__law_whole):=⟨rfl,rfl,rfl,by decide +kernel,rfl,by decide +kernel,by decide +kernel⟩
theorem sc__law_seen:FnScope ["layings","place","rank","worth","best","made","at","what"] ["layings","place","rank"] (defScope s__law_seen):=⟨rfl,rfl,rfl,by decide +kernel,rfl,by decide +kernel,by decide +kernel⟩
theorem sc__law_stays:FnScope ["makes","layings","low","place","found","due"] ["makes","layings","low","place"] (defScope s__law_stays):=⟨rfl,rfl,rfl,by decide +kernel,rfl,by decide +kernel,by decide +kernel⟩
theorem sc__law_due:FnScope ["layings","places","rank","due","place","worth"] ["layings","places","rank"] (defScope s__law_due):=⟨rfl,rfl,rfl,by decide +kernel,rfl,by decide +kernel,by decide +kernel⟩
theorem sc_Makes_places_of:FnScope ["self","rank"] ["self","rank"] (defScope s_Makes_places_of):=⟨rfl,rfl,rfl,by decide +kernel,rfl,by decide +kernel,by decide +kernel⟩
theorem sc_drop_rank:FnScope ["ranks_at","place","rank","ranks"] ["ranks_at","place","rank"] (defScope s_drop_rank):=⟨rfl,rfl,rfl,by decide +kernel,rfl,by decide +kernel,by decide +kernel⟩
theorem sc_Makes_take_away:FnScope ["self","rank","places","place"] ["self","rank"] (defScope s_Makes_take_away):=⟨rfl,rfl,rfl,by decide +kernel,rfl,by decide +kernel,by decide +kernel⟩
theorem sc_Makes_fold:FnScope ["self","rank","lower","laid"] ["self","rank"] (defScope s_Makes_fold):=⟨rfl,rfl,rfl,by decide +kernel,rfl,by decide +kernel,by decide +kernel⟩
theorem sc_put_rank:FnScope ["ranks_at","place","rank","ranks"] ["ranks_at","place","rank"] (defScope s_put_rank):=⟨rfl,rfl,rfl,by decide +kernel,rfl,by decide +kernel,by decide +kernel⟩
theorem sc_Makes_lay:FnScope ["self","rank","gifts","worths","place"] ["self","rank","gifts"] (defScope s_Makes_lay):=⟨rfl,rfl,rfl,by decide +kernel,rfl,by decide +kernel,by decide +kernel⟩
theorem sc__law_refused:FnScope ["makes","kind","rank","place","gifts","right","other","another","e"] ["makes","kind","rank","place","gifts"] (defScope s__law_refused):=⟨rfl,rfl,rfl,by decide +kernel,rfl,by decide +kernel,by decide +kernel⟩
theorem sc__law_asked:FnScope ["makes","layings","kind","rank","place","places","found","right"] ["makes","layings","kind","rank","place","places"] (defScope s__law_asked):=⟨rfl,rfl,rfl,by decide +kernel,rfl,by decide +kernel,by decide +kernel⟩
theorem sc_law:FnScope ["script","places","makes","layings","low","first","fold","deeds","cell","rank","kind","xs","place","gifts","found"] ["script"] (defScope s_law):=⟨rfl,rfl,rfl,by decide +kernel,rfl,by decide +kernel,by decide +kernel⟩
set_option genSizeOf false in
set_option genInjectivity false in
structure Adr where
  a__law_drawn:Addr
  d__law_drawn:FuncData
  a__law_names:Addr
  d__law_names:FuncData
  a__law_worth:Addr
  d__law_worth:FuncData
  a__law_places:Addr
  d__law_places:FuncData
  a_Makes_init:Addr
  d_Makes_init:FuncData
  a__law_cell_at:Addr
  d__law_cell_at:FuncData
  a_Makes_heed_fold:Addr
  d_Makes_heed_fold:FuncData
  a_table_of:Addr
  d_table_of:FuncData
  a_many_below:Addr
  d_many_below:FuncData
  a_Makes_seen:Addr
  d_Makes_seen:FuncData
  a_Makes_table_for:Addr
  d_Makes_table_for:FuncData
  a__law_gifts:Addr
  d__law_gifts:FuncData
  a__law_rank_near:Addr
  d__law_rank_near:FuncData
  a_Makes_kept:Addr
  d_Makes_kept:FuncData
  a__law_whole:Addr
  d__law_whole:FuncData
  a__law_seen:Addr
  d__law_seen:FuncData
  a__law_stays:Addr
  d__law_stays:FuncData
  a__law_due:Addr
  d__law_due:FuncData
  a_Makes_places_of:Addr
  d_Makes_places_of:FuncData
  a_drop_rank:Addr
  d_drop_rank:FuncData
  a_Makes_take_away:Addr
  d_Makes_take_away:FuncData
  a_Makes_fold:Addr
  d_Makes_fold:FuncData
  a_put_rank:Addr
  d_put_rank:FuncData
  a_Makes_lay:Addr
  d_Makes_lay:FuncData
  a__law_refused:Addr
  d__law_refused:FuncData
  a__law_asked:Addr
  d__law_asked:FuncData
  a_law:Addr
  d_law:FuncData
  c_Folded:Addr
  c_ForerunError:Addr
  c_Great:Addr
  c_Makes:Addr
  c_NoDealing:Addr
  c_NoHand:Addr
  c_NoLine:Addr
  c_NoLog:Addr
  c_NoNumber:Addr
  c_NoOrder:Addr
  c_NoTerm:Addr
  c_Nought:Addr
structure Txt (K:PySem.W.Frag) (mg:Str→Option Value) (t:Adr):Prop where
  f__law_drawn:Fun K "_law_drawn" "_law_drawn" s__law_drawn t.a__law_drawn t.d__law_drawn
  b__law_drawn:Binds K t.d__law_drawn ["cell","many"] []
  m__law_drawn:mg "_law_drawn"=some (.ref t.a__law_drawn)
  f__law_names:Fun K "_law_names" "_law_names" s__law_names t.a__law_names t.d__law_names
  b__law_names:Binds K t.d__law_names ["cell"] []
  m__law_names:mg "_law_names"=some (.ref t.a__law_names)
  f__law_worth:Fun K "_law_worth" "_law_worth" s__law_worth t.a__law_worth t.d__law_worth
  b__law_worth:Binds K t.d__law_worth ["cell"] []
  m__law_worth:mg "_law_worth"=some (.ref t.a__law_worth)
  f__law_places:Fun K "_law_places" "_law_places" s__law_places t.a__law_places t.d__law_places
  b__law_places:Binds K t.d__law_places ["cell"] []
  m__law_places:mg "_law_places"=some (.ref t.a__law_places)
  f_Makes_init:Fun K "__init__" "Makes.__init__" s_Makes_init t.a_Makes_init t.d_Makes_init
  b_Makes_init:Binds K t.d_Makes_init ["self","table"] []
  f__law_cell_at:Fun K "_law_cell_at" "_law_cell_at" s__law_cell_at t.a__law_cell_at t.d__law_cell_at
  b__law_cell_at:Binds K t.d__law_cell_at ["script","k"] []
  m__law_cell_at:mg "_law_cell_at"=some (.ref t.a__law_cell_at)
  f_Makes_heed_fold:Fun K "heed_fold" "Makes.heed_fold" s_Makes_heed_fold t.a_Makes_heed_fold t.d_Makes_heed_fold
  b_Makes_heed_fold:Binds K t.d_Makes_heed_fold ["self","rank"] []
  me_Makes_heed_fold:Meth K t.c_Makes "heed_fold" t.a_Makes_heed_fold
  f_table_of:Fun K "table_of" "table_of" s_table_of t.a_table_of t.d_table_of
  b_table_of:Binds K t.d_table_of ["rows"] []
  m_table_of:mg "table_of"=some (.ref t.a_table_of)
  f_many_below:Fun K "many_below" "many_below" s_many_below t.a_many_below t.d_many_below
  b_many_below:Binds K t.d_many_below ["ranks","rank"] []
  m_many_below:mg "many_below"=some (.ref t.a_many_below)
  f_Makes_seen:Fun K "seen" "Makes.seen" s_Makes_seen t.a_Makes_seen t.d_Makes_seen
  b_Makes_seen:Binds K t.d_Makes_seen ["self","place","rank"] []
  me_Makes_seen:Meth K t.c_Makes "seen" t.a_Makes_seen
  f_Makes_table_for:Fun K "table_for" "Makes.table_for" s_Makes_table_for t.a_Makes_table_for t.d_Makes_table_for
  b_Makes_table_for:Binds K t.d_Makes_table_for ["self","rank"] []
  me_Makes_table_for:Meth K t.c_Makes "table_for" t.a_Makes_table_for
  f__law_gifts:Fun K "_law_gifts" "_law_gifts" s__law_gifts t.a__law_gifts t.d__law_gifts
  b__law_gifts:Binds K t.d__law_gifts ["cell","places"] []
  m__law_gifts:mg "_law_gifts"=some (.ref t.a__law_gifts)
  f__law_rank_near:Fun K "_law_rank_near" "_law_rank_near" s__law_rank_near t.a__law_rank_near t.d__law_rank_near
  b__law_rank_near:Binds K t.d__law_rank_near ["low","cell"] []
  m__law_rank_near:mg "_law_rank_near"=some (.ref t.a__law_rank_near)
  f_Makes_kept:Fun K "kept" "Makes.kept" s_Makes_kept t.a_Makes_kept t.d_Makes_kept
  b_Makes_kept:Binds K t.d_Makes_kept ["self"] []
  me_Makes_kept:Meth K t.c_Makes "kept" t.a_Makes_kept
  f__law_whole:Fun K "_law_whole" "_law_whole" s__law_whole t.a__law_whole t.d__law_whole
  b__law_whole:Binds K t.d__law_whole ["found"] []
  m__law_whole:mg "_law_whole"=some (.ref t.a__law_whole)
  f__law_seen:Fun K "_law_seen" "_law_seen" s__law_seen t.a__law_seen t.d__law_seen
  b__law_seen:Binds K t.d__law_seen ["layings","place","rank"] []
  m__law_seen:mg "_law_seen"=some (.ref t.a__law_seen)
  f__law_stays:Fun K "_law_stays" "_law_stays" s__law_stays t.a__law_stays t.d__law_stays
  b__law_stays:Binds K t.d__law_stays ["makes","layings","low","place"] []
  m__law_stays:mg "_law_stays"=some (.ref t.a__law_stays)
  f__law_due:Fun K "_law_due" "_law_due" s__law_due t.a__law_due t.d__law_due
  b__law_due:Binds K t.d__law_due ["layings","places","rank"] []
  m__law_due:mg "_law_due"=some (.ref t.a__law_due)
  f_Makes_places_of:Fun K "places_of" "Makes.places_of" s_Makes_places_of t.a_Makes_places_of t.d_Makes_places_of
  b_Makes_places_of:Binds K t.d_Makes_places_of ["self","rank"] []
  me_Makes_places_of:Meth K t.c_Makes "places_of" t.a_Makes_places_of
  f_drop_rank:Fun K "drop_rank" "drop_rank" s_drop_rank t.a_drop_rank t.d_drop_rank
  b_drop_rank:Binds K t.d_drop_rank ["ranks_at","place","rank"] []
  m_drop_rank:mg "drop_rank"=some (.ref t.a_drop_rank)
  f_Makes_take_away:Fun K "take_away" "Makes.take_away" s_Makes_take_away t.a_Makes_take_away t.d_Makes_take_away
  b_Makes_take_away:Binds K t.d_Makes_take_away ["self","rank"] []
  me_Makes_take_away:Meth K t.c_Makes "take_away" t.a_Makes_take_away
  f_Makes_fold:Fun K "fold" "Makes.fold" s_Makes_fold t.a_Makes_fold t.d_Makes_fold
  b_Makes_fold:Binds K t.d_Makes_fold ["self","rank"] []
  me_Makes_fold:Meth K t.c_Makes "fold" t.a_Makes_fold
  f_put_rank:Fun K "put_rank" "put_rank" s_put_rank t.a_put_rank t.d_put_rank
  b_put_rank:Binds K t.d_put_rank ["ranks_at","place","rank"] []
  m_put_rank:mg "put_rank"=some (.ref t.a_put_rank)
  f_Makes_lay:Fun K "lay" "Makes.lay" s_Makes_lay t.a_Makes_lay t.d_Makes_lay
  b_Makes_lay:Binds K t.d_Makes_lay ["self","rank","gifts"] []
  me_Makes_lay:Meth K t.c_Makes "lay" t.a_Makes_lay
  f__law_refused:Fun K "_law_refused" "_law_refused" s__law_refused t.a__law_refused t.d__law_refused
  b__law_refused:Binds K t.d__law_refused ["makes","kind","rank","place","gifts"] []
  m__law_refused:mg "_law_refused"=some (.ref t.a__law_refused)
  f__law_asked:Fun K "_law_asked" "_law_asked" s__law_asked t.a__law_asked t.d__law_asked
  b__law_asked:Binds K t.d__law_asked ["makes","layings","kind","rank","place","places"] []
  m__law_asked:mg "_law_asked"=some (.ref t.a__law_asked)
  f_law:Fun K "law" "law" s_law t.a_law t.d_law
  b_law:Binds K t.d_law ["script"] []
  m_law:mg "law"=some (.ref t.a_law)
  w_law:∀ (s:Shared) (v:Value),BindsTo s t.d_law ⟨[v],[]⟩ [("script",v)]
  b_ValueError:mg "ValueError"=none
  b_bool:mg "bool"=none
  b_dict:mg "dict"=none
  b_int:mg "int"=none
  b_isinstance:mg "isinstance"=none
  b_len:mg "len"=none
  b_list:mg "list"=none
  b_max:mg "max"=none
  b_min:mg "min"=none
  b_range:mg "range"=none
  b_sorted:mg "sorted"=none
  b_sum:mg "sum"=none
  g_Folded:mg "Folded"=some (.ref t.c_Folded)
  g_ForerunError:mg "ForerunError"=some (.ref t.c_ForerunError)
  g_Great:mg "Great"=some (.ref t.c_Great)
  g_Makes:mg "Makes"=some (.ref t.c_Makes)
  g_NoDealing:mg "NoDealing"=some (.ref t.c_NoDealing)
  g_NoHand:mg "NoHand"=some (.ref t.c_NoHand)
  g_NoLine:mg "NoLine"=some (.ref t.c_NoLine)
  g_NoLog:mg "NoLog"=some (.ref t.c_NoLog)
  g_NoNumber:mg "NoNumber"=some (.ref t.c_NoNumber)
  g_NoOrder:mg "NoOrder"=some (.ref t.c_NoOrder)
  g_NoTerm:mg "NoTerm"=some (.ref t.c_NoTerm)
  g_Nought:mg "Nought"=some (.ref t.c_Nought)
  cl_Makes:Cls K t.c_Makes
  mk_Makes:Mk K t.c_Makes t.a_Makes_init
  na_Makes_folded:NoAttr K t.c_Makes "folded"
  na_Makes_ground:NoAttr K t.c_Makes "ground"
  na_Makes_ranks:NoAttr K t.c_Makes "ranks"
  na_Makes_worths:NoAttr K t.c_Makes "worths"
  x_Folded:PySem.W.excIn K t.c_Folded bmVal newVal=true
  y_Folded:ExK K t.c_Folded
  e_Folded_ForerunError:PySem.W.exmOne K (.ref t.c_Folded) (.ref t.c_ForerunError)=some true
  i_Folded_ValueError:PySem.W.kitOne K (.ref t.c_Folded) (.type "ValueError")=some true
  i_Folded_Folded:PySem.W.kitOne K (.ref t.c_Folded) (.ref t.c_Folded)=some true
  j_Folded_0:PySem.W.kitAny K (.ref t.c_Folded) [.ref t.c_NoNumber,.ref t.c_NoTerm,.ref t.c_NoDealing,.ref t.c_Nought,.ref t.c_Great]=some false
  j_Folded_1:PySem.W.kitAny K (.ref t.c_Folded) [.ref t.c_NoHand,.ref t.c_NoOrder,.ref t.c_NoLine,.ref t.c_NoLog]=some false
theorem txt_mk {K:PySem.W.Frag} {h:Heap} {mg:Str→Option Value} (X:K.In h) (G:h.Ns mainGlobals mg)
    {f0:Addr} {od0 an0:Option Addr} {sl0:Array (Option Value)} {oc0 kV0 dc0 pm0 cd0 ct0:Value}
    {f1:Addr} {od1 an1:Option Addr} {sl1:Array (Option Value)} {oc1 kV1 dc1 pm1 cd1 ct1:Value}
    {f2:Addr} {od2 an2:Option Addr} {sl2:Array (Option Value)} {oc2 kV2 dc2 pm2 cd2 ct2:Value}
    {f3:Addr} {od3 an3:Option Addr} {sl3:Array (Option Value)} {oc3 kV3 dc3 pm3 cd3 ct3:Value}
    {f4:Addr} {od4 an4:Option Addr} {sl4:Array (Option Value)} {oc4 kV4 dc4 pm4 cd4 ct4:Value}
    {f5:Addr} {od5 an5:Option Addr} {sl5:Array (Option Value)} {oc5 kV5 dc5 pm5 cd5 ct5:Value}
    {f6:Addr} {od6 an6:Option Addr} {sl6:Array (Option Value)} {oc6 kV6 dc6 pm6 cd6 ct6:Value}
    {f7:Addr} {od7 an7:Option Addr} {sl7:Array (Option Value)} {oc7 kV7 dc7 pm7 cd7 ct7:Value}
    {f8:Addr} {od8 an8:Option Addr} {sl8:Array (Option Value)} {oc8 kV8 dc8 pm8 cd8 ct8:Value}
    {f9:Addr} {od9 an9:Option Addr} {sl9:Array (Option Value)} {oc9 kV9 dc9 pm9 cd9 ct9:Value}
    {f10:Addr} {od10 an10:Option Addr} {sl10:Array (Option Value)} {oc10 kV10 dc10 pm10 cd10 ct10:Value}
    {f11:Addr} {od11 an11:Option Addr} {sl11:Array (Option Value)} {oc11 kV11 dc11 pm11 cd11 ct11:Value}
    {f12:Addr} {od12 an12:Option Addr} {sl12:Array (Option Value)} {oc12 kV12 dc12 pm12 cd12 ct12:Value}
    {f13:Addr} {od13 an13:Option Addr} {sl13:Array (Option Value)} {oc13 kV13 dc13 pm13 cd13 ct13:Value}
    {f14:Addr} {od14 an14:Option Addr} {sl14:Array (Option Value)} {oc14 kV14 dc14 pm14 cd14 ct14:Value}
    {f15:Addr} {od15 an15:Option Addr} {sl15:Array (Option Value)} {oc15 kV15 dc15 pm15 cd15 ct15:Value}
    {f16:Addr} {od16 an16:Option Addr} {sl16:Array (Option Value)} {oc16 kV16 dc16 pm16 cd16 ct16:Value}
    {f17:Addr} {od17 an17:Option Addr} {sl17:Array (Option Value)} {oc17 kV17 dc17 pm17 cd17 ct17:Value}
    {f18:Addr} {od18 an18:Option Addr} {sl18:Array (Option Value)} {oc18 kV18 dc18 pm18 cd18 ct18:Value}
    {f19:Addr} {od19 an19:Option Addr} {sl19:Array (Option Value)} {oc19 kV19 dc19 pm19 cd19 ct19:Value}
    {f20:Addr} {od20 an20:Option Addr} {sl20:Array (Option Value)} {oc20 kV20 dc20 pm20 cd20 ct20:Value}
    {f21:Addr} {od21 an21:Option Addr} {sl21:Array (Option Value)} {oc21 kV21 dc21 pm21 cd21 ct21:Value}
    {f22:Addr} {od22 an22:Option Addr} {sl22:Array (Option Value)} {oc22 kV22 dc22 pm22 cd22 ct22:Value}
    {f23:Addr} {od23 an23:Option Addr} {sl23:Array (Option Value)} {oc23 kV23 dc23 pm23 cd23 ct23:Value}
    {f24:Addr} {od24 an24:Option Addr} {sl24:Array (Option Value)} {oc24 kV24 dc24 pm24 cd24 ct24:Value}
    {f25:Addr} {od25 an25:Option Addr} {sl25:Array (Option Value)} {oc25 kV25 dc25 pm25 cd25 ct25:Value}
    {f26:Addr} {od26 an26:Option Addr} {sl26:Array (Option Value)} {oc26 kV26 dc26 pm26 cd26 ct26:Value}
    {ca0:Addr}
    {ca1:Addr}
    {ca2:Addr}
    {ca3:Addr}
    {ca4:Addr}
    {ca5:Addr}
    {ca6:Addr}
    {ca7:Addr}
    {ca8:Addr}
    {ca9:Addr}
    {ca10:Addr}
    {ca11:Addr}
    {cl0:ClassData}
    (qa0:PySem.W.nsIn K mainGlobals "_law_drawn"=some (some (.ref f0))) (ql0:K.lookup f0=some ⟨oc0,od0,.func (PySem.W.fnOf "_law_drawn" "_law_drawn" (defArgs s__law_drawn) (defBody s__law_drawn) (defScope s__law_drawn) .none kV0 dc0 pm0 an0 cd0 ct0),sl0⟩) (qc0:PySem.W.codeIn K cd0 "_law_drawn"=true) (qk0:PySem.W.keepIn K (.ref f0)=true)
    (qa1:PySem.W.nsIn K mainGlobals "_law_names"=some (some (.ref f1))) (ql1:K.lookup f1=some ⟨oc1,od1,.func (PySem.W.fnOf "_law_names" "_law_names" (defArgs s__law_names) (defBody s__law_names) (defScope s__law_names) .none kV1 dc1 pm1 an1 cd1 ct1),sl1⟩) (qc1:PySem.W.codeIn K cd1 "_law_names"=true) (qk1:PySem.W.keepIn K (.ref f1)=true)
    (qa2:PySem.W.nsIn K mainGlobals "_law_worth"=some (some (.ref f2))) (ql2:K.lookup f2=some ⟨oc2,od2,.func (PySem.W.fnOf "_law_worth" "_law_worth" (defArgs s__law_worth) (defBody s__law_worth) (defScope s__law_worth) .none kV2 dc2 pm2 an2 cd2 ct2),sl2⟩) (qc2:PySem.W.codeIn K cd2 "_law_worth"=true) (qk2:PySem.W.keepIn K (.ref f2)=true)
    (qa3:PySem.W.nsIn K mainGlobals "_law_places"=some (some (.ref f3))) (ql3:K.lookup f3=some ⟨oc3,od3,.func (PySem.W.fnOf "_law_places" "_law_places" (defArgs s__law_places) (defBody s__law_places) (defScope s__law_places) .none kV3 dc3 pm3 an3 cd3 ct3),sl3⟩) (qc3:PySem.W.codeIn K cd3 "_law_places"=true) (qk3:PySem.W.keepIn K (.ref f3)=true)
    (qa4:PySem.W.findIn K (.ref ca3) "__init__"=some (some (.ref f4))) (qi4:PySem.W.isFn K (.ref f4)=true) (ql4:K.lookup f4=some ⟨oc4,od4,.func (PySem.W.fnOf "__init__" "Makes.__init__" (defArgs s_Makes_init) (defBody s_Makes_init) (defScope s_Makes_init) .none kV4 dc4 pm4 an4 cd4 ct4),sl4⟩) (qc4:PySem.W.codeIn K cd4 "Makes.__init__"=true) (qk4:PySem.W.keepIn K (.ref f4)=true)
    (qa5:PySem.W.nsIn K mainGlobals "_law_cell_at"=some (some (.ref f5))) (ql5:K.lookup f5=some ⟨oc5,od5,.func (PySem.W.fnOf "_law_cell_at" "_law_cell_at" (defArgs s__law_cell_at) (defBody s__law_cell_at) (defScope s__law_cell_at) .none kV5 dc5 pm5 an5 cd5 ct5),sl5⟩) (qc5:PySem.W.codeIn K cd5 "_law_cell_at"=true) (qk5:PySem.W.keepIn K (.ref f5)=true)
    (qa6:PySem.W.findIn K (.ref ca3) "heed_fold"=some (some (.ref f6))) (qi6:PySem.W.isFn K (.ref f6)=true) (ql6:K.lookup f6=some ⟨oc6,od6,.func (PySem.W.fnOf "heed_fold" "Makes.heed_fold" (defArgs s_Makes_heed_fold) (defBody s_Makes_heed_fold) (defScope s_Makes_heed_fold) .none kV6 dc6 pm6 an6 cd6 ct6),sl6⟩) (qc6:PySem.W.codeIn K cd6 "Makes.heed_fold"=true) (qk6:PySem.W.keepIn K (.ref f6)=true)
    (qa7:PySem.W.nsIn K mainGlobals "table_of"=some (some (.ref f7))) (ql7:K.lookup f7=some ⟨oc7,od7,.func (PySem.W.fnOf "table_of" "table_of" (defArgs s_table_of) (defBody s_table_of) (defScope s_table_of) .none kV7 dc7 pm7 an7 cd7 ct7),sl7⟩) (qc7:PySem.W.codeIn K cd7 "table_of"=true) (qk7:PySem.W.keepIn K (.ref f7)=true)
    (qa8:PySem.W.nsIn K mainGlobals "many_below"=some (some (.ref f8))) (ql8:K.lookup f8=some ⟨oc8,od8,.func (PySem.W.fnOf "many_below" "many_below" (defArgs s_many_below) (defBody s_many_below) (defScope s_many_below) .none kV8 dc8 pm8 an8 cd8 ct8),sl8⟩) (qc8:PySem.W.codeIn K cd8 "many_below"=true) (qk8:PySem.W.keepIn K (.ref f8)=true)
    (qa9:PySem.W.findIn K (.ref ca3) "seen"=some (some (.ref f9))) (qi9:PySem.W.isFn K (.ref f9)=true) (ql9:K.lookup f9=some ⟨oc9,od9,.func (PySem.W.fnOf "seen" "Makes.seen" (defArgs s_Makes_seen) (defBody s_Makes_seen) (defScope s_Makes_seen) .none kV9 dc9 pm9 an9 cd9 ct9),sl9⟩) (qc9:PySem.W.codeIn K cd9 "Makes.seen"=true) (qk9:PySem.W.keepIn K (.ref f9)=true)
    (qa10:PySem.W.findIn K (.ref ca3) "table_for"=some (some (.ref f10))) (qi10:PySem.W.isFn K (.ref f10)=true) (ql10:K.lookup f10=some ⟨oc10,od10,.func (PySem.W.fnOf "table_for" "Makes.table_for" (defArgs s_Makes_table_for) (defBody s_Makes_table_for) (defScope s_Makes_table_for) .none kV10 dc10 pm10 an10 cd10 ct10),sl10⟩) (qc10:PySem.W.codeIn K cd10 "Makes.table_for"=true) (qk10:PySem.W.keepIn K (.ref f10)=true)
    (qa11:PySem.W.nsIn K mainGlobals "_law_gifts"=some (some (.ref f11))) (ql11:K.lookup f11=some ⟨oc11,od11,.func (PySem.W.fnOf "_law_gifts" "_law_gifts" (defArgs s__law_gifts) (defBody s__law_gifts) (defScope s__law_gifts) .none kV11 dc11 pm11 an11 cd11 ct11),sl11⟩) (qc11:PySem.W.codeIn K cd11 "_law_gifts"=true) (qk11:PySem.W.keepIn K (.ref f11)=true)
    (qa12:PySem.W.nsIn K mainGlobals "_law_rank_near"=some (some (.ref f12))) (ql12:K.lookup f12=some ⟨oc12,od12,.func (PySem.W.fnOf "_law_rank_near" "_law_rank_near" (defArgs s__law_rank_near) (defBody s__law_rank_near) (defScope s__law_rank_near) .none kV12 dc12 pm12 an12 cd12 ct12),sl12⟩) (qc12:PySem.W.codeIn K cd12 "_law_rank_near"=true) (qk12:PySem.W.keepIn K (.ref f12)=true)
    (qa13:PySem.W.findIn K (.ref ca3) "kept"=some (some (.ref f13))) (qi13:PySem.W.isFn K (.ref f13)=true) (ql13:K.lookup f13=some ⟨oc13,od13,.func (PySem.W.fnOf "kept" "Makes.kept" (defArgs s_Makes_kept) (defBody s_Makes_kept) (defScope s_Makes_kept) .none kV13 dc13 pm13 an13 cd13 ct13),sl13⟩) (qc13:PySem.W.codeIn K cd13 "Makes.kept"=true) (qk13:PySem.W.keepIn K (.ref f13)=true)
    (qa14:PySem.W.nsIn K mainGlobals "_law_whole"=some (some (.ref f14))) (ql14:K.lookup f14=some ⟨oc14,od14,.func (PySem.W.fnOf "_law_whole" "_law_whole" (defArgs s__law_whole) (defBody s__law_whole) (defScope s__law_whole) .none kV14 dc14 pm14 an14 cd14 ct14),sl14⟩) (qc14:PySem.W.codeIn K cd14 "_law_whole"=true) (qk14:PySem.W.keepIn K (.ref f14)=true)
    (qa15:PySem.W.nsIn K mainGlobals "_law_seen"=some (some (.ref f15))) (ql15:K.lookup f15=some ⟨oc15,od15,.func (PySem.W.fnOf "_law_seen" "_law_seen" (defArgs s__law_seen) (defBody s__law_seen) (defScope s__law_seen) .none kV15 dc15 pm15 an15 cd15 ct15),sl15⟩) (qc15:PySem.W.codeIn K cd15 "_law_seen"=true) (qk15:PySem.W.keepIn K (.ref f15)=true)
    (qa16:PySem.W.nsIn K mainGlobals "_law_stays"=some (some (.ref f16))) (ql16:K.lookup f16=some ⟨oc16,od16,.func (PySem.W.fnOf "_law_stays" "_law_stays" (defArgs s__law_stays) (defBody s__law_stays) (defScope s__law_stays) .none kV16 dc16 pm16 an16 cd16 ct16),sl16⟩) (qc16:PySem.W.codeIn K cd16 "_law_stays"=true) (qk16:PySem.W.keepIn K (.ref f16)=true)
    (qa17:PySem.W.nsIn K mainGlobals "_law_due"=some (some (.ref f17))) (ql17:K.lookup f17=some ⟨oc17,od17,.func (PySem.W.fnOf "_law_due" "_law_due" (defArgs s__law_due) (defBody s__law_due) (defScope s__law_due) .none kV17 dc17 pm17 an17 cd17 ct17),sl17⟩) (qc17:PySem.W.codeIn K cd17 "_law_due"=true) (qk17:PySem.W.keepIn K (.ref f17)=true)
    (qa18:PySem.W.findIn K (.ref ca3) "places_of"=some (some (.ref f18))) (qi18:PySem.W.isFn K (.ref f18)=true) (ql18:K.lookup f18=some ⟨oc18,od18,.func (PySem.W.fnOf "places_of" "Makes.places_of" (defArgs s_Makes_places_of) (defBody s_Makes_places_of) (defScope s_Makes_places_of) .none kV18 dc18 pm18 an18 cd18 ct18),sl18⟩) (qc18:PySem.W.codeIn K cd18 "Makes.places_of"=true) (qk18:PySem.W.keepIn K (.ref f18)=true)
    (qa19:PySem.W.nsIn K mainGlobals "drop_rank"=some (some (.ref f19))) (ql19:K.lookup f19=some ⟨oc19,od19,.func (PySem.W.fnOf "drop_rank" "drop_rank" (defArgs s_drop_rank) (defBody s_drop_rank) (defScope s_drop_rank) .none kV19 dc19 pm19 an19 cd19 ct19),sl19⟩) (qc19:PySem.W.codeIn K cd19 "drop_rank"=true) (qk19:PySem.W.keepIn K (.ref f19)=true)
    (qa20:PySem.W.findIn K (.ref ca3) "take_away"=some (some (.ref f20))) (qi20:PySem.W.isFn K (.ref f20)=true) (ql20:K.lookup f20=some ⟨oc20,od20,.func (PySem.W.fnOf "take_away" "Makes.take_away" (defArgs s_Makes_take_away) (defBody s_Makes_take_away) (defScope s_Makes_take_away) .none kV20 dc20 pm20 an20 cd20 ct20),sl20⟩) (qc20:PySem.W.codeIn K cd20 "Makes.take_away"=true) (qk20:PySem.W.keepIn K (.ref f20)=true)
    (qa21:PySem.W.findIn K (.ref ca3) "fold"=some (some (.ref f21))) (qi21:PySem.W.isFn K (.ref f21)=true) (ql21:K.lookup f21=some ⟨oc21,od21,.func (PySem.W.fnOf "fold" "Makes.fold" (defArgs s_Makes_fold) (defBody s_Makes_fold) (defScope s_Makes_fold) .none kV21 dc21 pm21 an21 cd21 ct21),sl21⟩) (qc21:PySem.W.codeIn K cd21 "Makes.fold"=true) (qk21:PySem.W.keepIn K (.ref f21)=true)
    (qa22:PySem.W.nsIn K mainGlobals "put_rank"=some (some (.ref f22))) (ql22:K.lookup f22=some ⟨oc22,od22,.func (PySem.W.fnOf "put_rank" "put_rank" (defArgs s_put_rank) (defBody s_put_rank) (defScope s_put_rank) .none kV22 dc22 pm22 an22 cd22 ct22),sl22⟩) (qc22:PySem.W.codeIn K cd22 "put_rank"=true) (qk22:PySem.W.keepIn K (.ref f22)=true)
    (qa23:PySem.W.findIn K (.ref ca3) "lay"=some (some (.ref f23))) (qi23:PySem.W.isFn K (.ref f23)=true) (ql23:K.lookup f23=some ⟨oc23,od23,.func (PySem.W.fnOf "lay" "Makes.lay" (defArgs s_Makes_lay) (defBody s_Makes_lay) (defScope s_Makes_lay) .none kV23 dc23 pm23 an23 cd23 ct23),sl23⟩) (qc23:PySem.W.codeIn K cd23 "Makes.lay"=true) (qk23:PySem.W.keepIn K (.ref f23)=true)
    (qa24:PySem.W.nsIn K mainGlobals "_law_refused"=some (some (.ref f24))) (ql24:K.lookup f24=some ⟨oc24,od24,.func (PySem.W.fnOf "_law_refused" "_law_refused" (defArgs s__law_refused) (defBody s__law_refused) (defScope s__law_refused) .none kV24 dc24 pm24 an24 cd24 ct24),sl24⟩) (qc24:PySem.W.codeIn K cd24 "_law_refused"=true) (qk24:PySem.W.keepIn K (.ref f24)=true)
    (qa25:PySem.W.nsIn K mainGlobals "_law_asked"=some (some (.ref f25))) (ql25:K.lookup f25=some ⟨oc25,od25,.func (PySem.W.fnOf "_law_asked" "_law_asked" (defArgs s__law_asked) (defBody s__law_asked) (defScope s__law_asked) .none kV25 dc25 pm25 an25 cd25 ct25),sl25⟩) (qc25:PySem.W.codeIn K cd25 "_law_asked"=true) (qk25:PySem.W.keepIn K (.ref f25)=true)
    (qa26:PySem.W.nsIn K mainGlobals "law"=some (some (.ref f26))) (ql26:K.lookup f26=some ⟨oc26,od26,.func (PySem.W.fnOf "law" "law" (defArgs s_law) (defBody s_law) (defScope s_law) .none kV26 dc26 pm26 an26 cd26 ct26),sl26⟩) (qc26:PySem.W.codeIn K cd26 "law"=true) (qk26:PySem.W.keepIn K (.ref f26)=true)
    (qz0:PySem.W.nsIn K mainGlobals "ValueError"=some none)
    (qz1:PySem.W.nsIn K mainGlobals "bool"=some none)
    (qz2:PySem.W.nsIn K mainGlobals "dict"=some none)
    (qz3:PySem.W.nsIn K mainGlobals "int"=some none)
    (qz4:PySem.W.nsIn K mainGlobals "isinstance"=some none)
    (qz5:PySem.W.nsIn K mainGlobals "len"=some none)
    (qz6:PySem.W.nsIn K mainGlobals "list"=some none)
    (qz7:PySem.W.nsIn K mainGlobals "max"=some none)
    (qz8:PySem.W.nsIn K mainGlobals "min"=some none)
    (qz9:PySem.W.nsIn K mainGlobals "range"=some none)
    (qz10:PySem.W.nsIn K mainGlobals "sorted"=some none)
    (qz11:PySem.W.nsIn K mainGlobals "sum"=some none)
    (qv0:PySem.W.nsIn K mainGlobals "Folded"=some (some (.ref ca0)))
    (qv1:PySem.W.nsIn K mainGlobals "ForerunError"=some (some (.ref ca1)))
    (qv2:PySem.W.nsIn K mainGlobals "Great"=some (some (.ref ca2)))
    (qv3:PySem.W.nsIn K mainGlobals "Makes"=some (some (.ref ca3)))
    (qv4:PySem.W.nsIn K mainGlobals "NoDealing"=some (some (.ref ca4)))
    (qv5:PySem.W.nsIn K mainGlobals "NoHand"=some (some (.ref ca5)))
    (qv6:PySem.W.nsIn K mainGlobals "NoLine"=some (some (.ref ca6)))
    (qv7:PySem.W.nsIn K mainGlobals "NoLog"=some (some (.ref ca7)))
    (qv8:PySem.W.nsIn K mainGlobals "NoNumber"=some (some (.ref ca8)))
    (qv9:PySem.W.nsIn K mainGlobals "NoOrder"=some (some (.ref ca9)))
    (qv10:PySem.W.nsIn K mainGlobals "NoTerm"=some (some (.ref ca10)))
    (qv11:PySem.W.nsIn K mainGlobals "Nought"=some (some (.ref ca11)))
    (pg3:PySem.W.plainGet K ca3 Str.empty=true) (pd3:PySem.W.hasDictIn K ca3=true) (po3:PySem.W.plainOver K ca3=true) (pe3:PySem.W.findIn K (.ref ca3) "__setattr__"=some (some (.builtin "object.__setattr__"))) (pm3_:PySem.W.makesIn K ca3=true) (pk3:PySem.W.keepIn K (.ref ca3)=true)
    (pn3_0:PySem.W.findIn K (.ref ca3) "folded"=some none)
    (pn3_1:PySem.W.findIn K (.ref ca3) "ground"=some none)
    (pn3_2:PySem.W.findIn K (.ref ca3) "ranks"=some none)
    (pn3_3:PySem.W.findIn K (.ref ca3) "worths"=some none)
    (rx0:PySem.W.excIn K ca0 bmVal newVal=true)
    (ry0_0:PySem.W.findIn K (.ref ca0) "__getattribute__"=some (some (.builtin "BaseException.__getattribute__")))
    (ry0_1:PySem.W.findIn K (.ref ca0) "__getattr__"=some none)
    (ry0_2:PySem.W.findIn K (.ref ca0) "__class__"=some (some (.builtin "object.__class__")))
    (ry0_3:PySem.W.mroIn K ca0 (.type "object")=some true)
    (ry0_4:PySem.W.mroIn K ca0 (.type "BaseException")=some true)
    (ry0_5:PySem.W.specialIn K (.builtin "object.__class__") "__get__"=some (some (.builtin "getset_descriptor.__get__")))
    (ry0_6:PySem.W.takesIn K (.builtin "object.__class__")=some true)
    (ry0_7:PySem.W.clsIn K ca0=some cl0)
    (re0_0:PySem.W.exmOne K (.ref ca0) (.ref ca1)=some true)
    (ri0_0:PySem.W.kitOne K (.ref ca0) (.type "ValueError")=some true)
    (ri0_1:PySem.W.kitOne K (.ref ca0) (.ref ca0)=some true)
    (rj0_0:PySem.W.kitAny K (.ref ca0) [(.ref ca8),(.ref ca10),(.ref ca4),(.ref ca11),(.ref ca2)]=some false)
    (rj0_1:PySem.W.kitAny K (.ref ca0) [(.ref ca5),(.ref ca9),(.ref ca6),(.ref ca7)]=some false):∃ t,Txt K mg t:=by
  have F0:=fun_mk (st:=s__law_drawn) ql0 qc0 qk0
  have F1:=fun_mk (st:=s__law_names) ql1 qc1 qk1
  have F2:=fun_mk (st:=s__law_worth) ql2 qc2 qk2
  have F3:=fun_mk (st:=s__law_places) ql3 qc3 qk3
  have F4:=fun_mk (st:=s_Makes_init) ql4 qc4 qk4
  have F5:=fun_mk (st:=s__law_cell_at) ql5 qc5 qk5
  have F6:=fun_mk (st:=s_Makes_heed_fold) ql6 qc6 qk6
  have F7:=fun_mk (st:=s_table_of) ql7 qc7 qk7
  have F8:=fun_mk (st:=s_many_below) ql8 qc8 qk8
  have F9:=fun_mk (st:=s_Makes_seen) ql9 qc9 qk9
  have F10:=fun_mk (st:=s_Makes_table_for) ql10 qc10 qk10
  have F11:=fun_mk (st:=s__law_gifts) ql11 qc11 qk11
  have F12:=fun_mk (st:=s__law_rank_near) ql12 qc12 qk12
  have F13:=fun_mk (st:=s_Makes_kept) ql13 qc13 qk13
  have F14:=fun_mk (st:=s__law_whole) ql14 qc14 qk14
  have F15:=fun_mk (st:=s__law_seen) ql15 qc15 qk15
  have F16:=fun_mk (st:=s__law_stays) ql16 qc16 qk16
  have F17:=fun_mk (st:=s__law_due) ql17 qc17 qk17
  have F18:=fun_mk (st:=s_Makes_places_of) ql18 qc18 qk18
  have F19:=fun_mk (st:=s_drop_rank) ql19 qc19 qk19
  have F20:=fun_mk (st:=s_Makes_take_away) ql20 qc20 qk20
  have F21:=fun_mk (st:=s_Makes_fold) ql21 qc21 qk21
  have F22:=fun_mk (st:=s_put_rank) ql22 qc22 qk22
  have F23:=fun_mk (st:=s_Makes_lay) ql23 qc23 qk23
  have F24:=fun_mk (st:=s__law_refused) ql24 qc24 qk24
  have F25:=fun_mk (st:=s__law_asked) ql25 qc25 qk25
  have F26:=fun_mk (st:=s_law) ql26 qc26 qk26
  exact ⟨⟨f0,_,f1,_,f2,_,f3,_,f4,_,f5,_,f6,_,f7,_,f8,_,f9,_,f10,_,f11,_,f12,_,f13,_,f14,_,f15,_,f16,_,f17,_,f18,_,f19,_,f20,_,f21,_,f22,_,f23,_,f24,_,f25,_,f26,_,ca0,ca1,ca2,ca3,ca4,ca5,ca6,ca7,ca8,ca9,ca10,ca11⟩,⟨F0,F0.binds (ps:=["cell","many"]) (fun _ _ _ _ _ _ us hl=>match us,hl with | [_,_],_=>rfl),PySem.W.mg_of X G qa0,
    F1,F1.binds (ps:=["cell"]) (fun _ _ _ _ _ _ us hl=>match us,hl with | [_],_=>rfl),PySem.W.mg_of X G qa1,
    F2,F2.binds (ps:=["cell"]) (fun _ _ _ _ _ _ us hl=>match us,hl with | [_],_=>rfl),PySem.W.mg_of X G qa2,
    F3,F3.binds (ps:=["cell"]) (fun _ _ _ _ _ _ us hl=>match us,hl with | [_],_=>rfl),PySem.W.mg_of X G qa3,
    F4,F4.binds (ps:=["self","table"]) (fun _ _ _ _ _ _ us hl=>match us,hl with | [_,_],_=>rfl),
    F5,F5.binds (ps:=["script","k"]) (fun _ _ _ _ _ _ us hl=>match us,hl with | [_,_],_=>rfl),PySem.W.mg_of X G qa5,
    F6,F6.binds (ps:=["self","rank"]) (fun _ _ _ _ _ _ us hl=>match us,hl with | [_,_],_=>rfl),⟨qa6,qi6,qk6⟩,
    F7,F7.binds (ps:=["rows"]) (fun _ _ _ _ _ _ us hl=>match us,hl with | [_],_=>rfl),PySem.W.mg_of X G qa7,
    F8,F8.binds (ps:=["ranks","rank"]) (fun _ _ _ _ _ _ us hl=>match us,hl with | [_,_],_=>rfl),PySem.W.mg_of X G qa8,
    F9,F9.binds (ps:=["self","place","rank"]) (fun _ _ _ _ _ _ us hl=>match us,hl with | [_,_,_],_=>rfl),⟨qa9,qi9,qk9⟩,
    F10,F10.binds (ps:=["self","rank"]) (fun _ _ _ _ _ _ us hl=>match us,hl with | [_,_],_=>rfl),⟨qa10,qi10,qk10⟩,
    F11,F11.binds (ps:=["cell","places"]) (fun _ _ _ _ _ _ us hl=>match us,hl with | [_,_],_=>rfl),PySem.W.mg_of X G qa11,
    F12,F12.binds (ps:=["low","cell"]) (fun _ _ _ _ _ _ us hl=>match us,hl with | [_,_],_=>rfl),PySem.W.mg_of X G qa12,
    F13,F13.binds (ps:=["self"]) (fun _ _ _ _ _ _ us hl=>match us,hl with | [_],_=>rfl),⟨qa13,qi13,qk13⟩,
    F14,F14.binds (ps:=["found"]) (fun _ _ _ _ _ _ us hl=>match us,hl with | [_],_=>rfl),PySem.W.mg_of X G qa14,
    F15,F15.binds (ps:=["layings","place","rank"]) (fun _ _ _ _ _ _ us hl=>match us,hl with | [_,_,_],_=>rfl),PySem.W.mg_of X G qa15,
    F16,F16.binds (ps:=["makes","layings","low","place"]) (fun _ _ _ _ _ _ us hl=>match us,hl with | [_,_,_,_],_=>rfl),PySem.W.mg_of X G qa16,
    F17,F17.binds (ps:=["layings","places","rank"]) (fun _ _ _ _ _ _ us hl=>match us,hl with | [_,_,_],_=>rfl),PySem.W.mg_of X G qa17,
    F18,F18.binds (ps:=["self","rank"]) (fun _ _ _ _ _ _ us hl=>match us,hl with | [_,_],_=>rfl),⟨qa18,qi18,qk18⟩,
    F19,F19.binds (ps:=["ranks_at","place","rank"]) (fun _ _ _ _ _ _ us hl=>match us,hl with | [_,_,_],_=>rfl),PySem.W.mg_of X G qa19,
    F20,F20.binds (ps:=["self","rank"]) (fun _ _ _ _ _ _ us hl=>match us,hl with | [_,_],_=>rfl),⟨qa20,qi20,qk20⟩,
    F21,F21.binds (ps:=["self","rank"]) (fun _ _ _ _ _ _ us hl=>match us,hl with | [_,_],_=>rfl),⟨qa21,qi21,qk21⟩,
    F22,F22.binds (ps:=["ranks_at","place","rank"]) (fun _ _ _ _ _ _ us hl=>match us,hl with | [_,_,_],_=>rfl),PySem.W.mg_of X G qa22,
    F23,F23.binds (ps:=["self","rank","gifts"]) (fun _ _ _ _ _ _ us hl=>match us,hl with | [_,_,_],_=>rfl),⟨qa23,qi23,qk23⟩,
    F24,F24.binds (ps:=["makes","kind","rank","place","gifts"]) (fun _ _ _ _ _ _ us hl=>match us,hl with | [_,_,_,_,_],_=>rfl),PySem.W.mg_of X G qa24,
    F25,F25.binds (ps:=["makes","layings","kind","rank","place","places"]) (fun _ _ _ _ _ _ us hl=>match us,hl with | [_,_,_,_,_,_],_=>rfl),PySem.W.mg_of X G qa25,
    F26,F26.binds (ps:=["script"]) (fun _ _ _ _ _ _ us hl=>match us,hl with | [_],_=>rfl),PySem.W.mg_of X G qa26,
    fun s v=>.of_eq rfl,
    PySem.W.mg_none_of X G qz0,
    PySem.W.mg_none_of X G qz1,
    PySem.W.mg_none_of X G qz2,
    PySem.W.mg_none_of X G qz3,
    PySem.W.mg_none_of X G qz4,
    PySem.W.mg_none_of X G qz5,
    PySem.W.mg_none_of X G qz6,
    PySem.W.mg_none_of X G qz7,
    PySem.W.mg_none_of X G qz8,
    PySem.W.mg_none_of X G qz9,
    PySem.W.mg_none_of X G qz10,
    PySem.W.mg_none_of X G qz11,
    PySem.W.mg_of X G qv0,
    PySem.W.mg_of X G qv1,
    PySem.W.mg_of X G qv2,
    PySem.W.mg_of X G qv3,
    PySem.W.mg_of X G qv4,
    PySem.W.mg_of X G qv5,
    PySem.W.mg_of X G qv6,
    PySem.W.mg_of X G qv7,
    PySem.W.mg_of X G qv8,
    PySem.W.mg_of X G qv9,
    PySem.W.mg_of X G qv10,
    PySem.W.mg_of X G qv11,
    ⟨pg3,pd3,po3,pe3⟩,
    ⟨pm3_,qa4,qi4,pk3⟩,
    pn3_0,
    pn3_1,
    pn3_2,
    pn3_3,
    rx0,
    ⟨⟨ry0_0,ry0_1,ry0_2,ry0_3,ry0_4,ry0_5,ry0_6⟩,by rw [ry0_7];rfl⟩,
    re0_0,
    ri0_0,
    ri0_1,
    rj0_0,
    rj0_1⟩⟩
structure KF (K:PySem.W.Frag):Prop where
  i_b:PySem.W.kitOne K (.type "int") (.type "bool")=some false
def NamesAt (H:Hp) (nm:Addr):Prop:=∃ ws:List Str,H nm=some (.lst (ws.map V.str))∧ws.length=3∧∀ w∈ws,isName w=true
theorem NamesAt.same {H H':Hp} {nm:Addr} (h:NamesAt H nm) (s:Same H H'):NamesAt H' nm:=by
  obtain ⟨ws,h1,h2⟩:=h
  exact ⟨ws,s _ _ h1,h2⟩
def wB (i:Int):Prop:=-1000000000000000000000000000000≤i∧i≤1000000000000000000000000000000
def rB (i:Int):Prop:=0≤i∧i≤100000000000000000000000000000
def drI (x:Int):Prop:=0≤x∧x < 3000000000
def okPl (q:Pl):Prop:=isName q.1=true∧wB q.2
def PlV (H:Hp) (v:V) (q:Pl):Prop:=∃ p,v=.ref p∧H p=some (.tup [.str q.1,.int q.2])
structure PlsAt (H:Hp) (p:Addr) (ps:List Pl):Prop where
  at_:∃ xs,H p=some (.lst xs)∧Paired (PlV H) xs ps
  nd:ps.Nodup
  pos:0 < ps.length
  le:ps.length≤9
  ok:∀ q∈ps,okPl q
def RwsAt (H:Hp) (a:Addr) (rows:List Row):Prop:=∃ xs,H a=some (.lst xs)∧Paired (PrAt H) xs rows
def seenG (p:Pl) (made:Int):List Row→Int × Int→Int × Int
  | [],s=>s
  | r :: rs,s=>seenG p made rs (if r.1=p then (made,r.2) else s)
def seenL (p:Pl) (rank:Int):List (Int × List Row)→Int × Int→Int × Int
  | [],s=>s
  | l :: ls,s=>seenL p rank ls (if s.1 < l.1∧l.1 < rank then seenG p l.1 l.2 s else s)
def seenW (rows:List Row) (lays:List (Int × List Row)) (p:Pl) (rank:Int):Int:=(seenL p rank lays (-1,(lastW rows p).getD 0)).2
def sp__law_cell_at (K:PySem.W.Frag):Sp:=fun vs H Q _=>∃ (a:Addr) (ns:List Int) (k:Nat),vs=[.ref a,.int k]∧SqL K H a (ns.map V.int)∧ns.length≤63∧(∀ i∈ns,Cb i)∧∀ c H',Same H H'→Cb c→Q (.int c) H'
def sp__law_whole:Sp:=fun vs H Q _=>∃ i,vs=[.int i]∧∀ H',Same H H'→Q (.bl true) H'
def sp__law_drawn:Sp:=fun vs H Q _=>∃ c m,vs=[.int c,.int m]∧0≤m∧m≤64∧∀ l xs H',Same H H'→H l=none→H' l=some (.lst (List.map V.int xs))→(xs.length:Int)=m→(∀ x∈xs,drI x)→Q (.ref l) H'
def sp__law_worth:Sp:=fun vs H Q _=>∃ c,vs=[.int c]∧Cw c∧∀ w H',Same H H'→wB w→Q (.int w) H'
def sp__law_names:Sp:=fun vs H Q _=>∃ c,vs=[.int c]∧∀ nm H',Same H H'→NamesAt H' nm→Q (.ref nm) H'
def sp__law_places:Sp:=fun vs H Q _=>∃ c,vs=[.int c]∧Cb c∧∀ p ps H',Same H H'→PlsAt H' p ps→Q (.ref p) H'
open Classical in
noncomputable def Hid (F:Addr→Prop) (H:Hp):Hp:=fun b=>if F b then none else H b
def sp__law_gifts:Sp:=fun vs H Q _=>∃ c p ps F,vs=[.int c,.ref p]∧Cw c∧(∀ b,F b→∃ o,H b=some o)∧PlsAt (Hid F H) p ps∧∀ l gs H',Same H H'→H l=none→RwsAt (Hid F H') l gs→(gs.map (·.1)).Nodup→(∀ r∈gs,r.1∈ps∧wB r.2)→gs.length≤3→Q (.ref l) H'
def sp__law_seen:Sp:=fun vs H Q _=>∃ d p lays q rank kvs,vs=[.ref d,.ref p,.int rank]∧H d=some (.dK kvs)∧Paired (fun (kv:Key × V) (y:Int × List Row)=>kv.1=.inl y.1∧∃ g,kv.2=.ref g∧RwsAt H g y.2) kvs lays∧(lays.map (·.1)).Nodup∧H p=some (.tup [.str q.1,.int q.2])∧isName q.1=true∧(∀ y∈lays,∀ r∈y.2,isName r.1.1=true)∧∀ H',Same H H'→Q (.int (seenW [] lays q rank)) H'
def SameX (x:Addr) (H H':Hp):Prop:=∀ b o,b≠x→H b=some o→H' b=some o
structure TbOk (rows:List Row):Prop where
  up:Rising rows
  le:rows.length≤63
  nm:∀ r∈rows,okPl r.1∧wB r.2∧r.2≠0
structure GfOk (gs:List Row):Prop where
  nd:(gs.map (·.1)).Nodup
  le:gs.length≤63
  nm:∀ r∈gs,okPl r.1∧wB r.2
def hasR (lays:List (Int × List Row)) (p:Pl) (r:Int):Prop:=∃ gs,(r,gs)∈lays∧p∈gs.map (·.1)
structure RkAt (H:Hp) (rk:Addr) (F:Addr→Prop) (P:Pl→Int→Prop) (kvs:List (List Key × V)):Prop where
  at_:H rk=some (.dT kvs)
  nk:(kvs.map (·.1)).Nodup
  nv:(kvs.map (·.2)).Nodup
  ls:∀ kv∈kvs,∃ (p:Pl) (a:Addr) (rs:List Int),kv=(plKey p,.ref a)∧F a∧H a=some (.lst (rs.map V.int))∧rs.Pairwise (· < ·)∧rs≠[]∧∀ r,r∈rs↔P p r
  al:∀ p r,P p r→plKey p∈kvs.map (·.1)
def WkAt (H:Hp) (rk:Addr) (F:Addr→Prop) (kv:Key × V) (y:Int × List Row):Prop:=kv.1=.inl y.1∧∃ d,kv.2=.ref d∧F d∧d≠rk∧H d=some (.dT (dOf y.2))
def mkFs (gr:Addr) (low:Int) (wo rk:Addr):List (Str × V):=[(Str.ofString "ground",.ref gr),(Str.ofString "folded",.int low),(Str.ofString "worths",.ref wo),(Str.ofString "ranks",.ref rk)]
structure MrIn (t:Adr) (H:Hp) (m:Addr) (F:Addr→Prop) (g:List Row) (l:List (Int × List Row)) (low:Int) (dx gr wo rk:Addr) (wk:List (Key × V)) (kk:List (List Key × V)):Prop where
  im:H m=some (.ins t.c_Makes dx (mkFs gr low wo rk))
  fg:F gr
  fw:F wo
  fk:F rk
  nr:gr≠rk
  hg:H gr=some (.dT (dOf g))
  hw:H wo=some (.dK wk)
  wp:Paired (WkAt H rk F) wk l
  rr:RkAt H rk F (hasR l) kk
theorem RkAt.keep {H H':Hp} {rk:Addr} {F F':Addr→Prop} {P:Pl→Int→Prop} {kvs:List (List Key × V)} (h:RkAt H rk F P kvs) (fk:F rk) (k:∀ b o,F b→H b=some o→H' b=some o) (ff:∀ b,F b→F' b):RkAt H' rk F' P kvs :=
  ⟨k _ _ fk h.at_,h.nk,h.nv,fun kv hk=>let ⟨p,a,rs,e,fa,ha,z⟩:=h.ls kv hk;⟨p,a,rs,e,ff a fa,k _ _ fa ha,z⟩,h.al⟩
theorem MrIn.keep {t:Adr} {H H':Hp} {m:Addr} {F:Addr→Prop} {g:List Row} {l:List (Int × List Row)} {low:Int} {dx gr wo rk:Addr} {wk:List (Key × V)} {kk:List (List Key × V)} (h:MrIn t H m F g l low dx gr wo rk wk kk) (me:F m) (k:∀ b o,F b→H b=some o→H' b=some o):MrIn t H' m F g l low dx gr wo rk wk kk :=
  ⟨k _ _ me h.im,h.fg,h.fw,h.fk,h.nr,k _ _ h.fg h.hg,k _ _ h.fw h.hw,Paired.mapP h.wp fun _ _ ⟨e,d,e2,fd,nd,hd⟩=>⟨e,d,e2,fd,nd,k _ _ fd hd⟩,h.rr.keep h.fk k fun _ z=>z⟩
def OwnO (H:Hp) (b:Addr):Prop:=∃ o,H b=some o∧∀ zs,o≠.tup zs
structure MrAt (t:Adr) (H:Hp) (m:Addr) (F:Addr→Prop) (g:List Row) (l:List (Int × List Row)) (low:Int):Prop where
  own:∀ b,F b→OwnO H b
  me:F m
  nd:(l.map (·.1)).Nodup
  ok:∀ y∈l,0≤y.1∧GfOk y.2
  ex:∃ dx gr wo rk wk kk,MrIn t H m F g l low dx gr wo rk wk kk
theorem mk_no {f:Str} {gr wo rk:Addr} {low:Int} (h:f≠Str.ofString "ground"∧f≠Str.ofString "folded"∧f≠Str.ofString "worths"∧f≠Str.ofString "ranks"):List.lookup f (mkFs gr low wo rk)=none:=by
  obtain ⟨h1,h2,h3,h4⟩:=h
  simp only [mkFs,List.lookup_cons,beq_eq_false_iff_ne.mpr h1,beq_eq_false_iff_ne.mpr h2,beq_eq_false_iff_ne.mpr h3,beq_eq_false_iff_ne.mpr h4,List.lookup_nil]
theorem MrAt.ins {t:Adr} {H:Hp} {m:Addr} {F:Addr→Prop} {g:List Row} {l:List (Int × List Row)} {low:Int} (h:MrAt t H m F g l low):∃ dx fs,H m=some (.ins t.c_Makes dx fs)∧List.lookup (Str.ofString "lay") fs=none∧List.lookup (Str.ofString "seen") fs=none∧List.lookup (Str.ofString "kept") fs=none∧List.lookup (Str.ofString "fold") fs=none∧List.lookup (Str.ofString "table_for") fs=none:=by
  obtain ⟨dx,gr,wo,rk,wk,kk,z⟩:=h.ex
  exact ⟨dx,_,z.im,mk_no (by decide +kernel),mk_no (by decide +kernel),mk_no (by decide +kernel),mk_no (by decide +kernel),mk_no (by decide +kernel)⟩
theorem MrAt.keep {t:Adr} {H H':Hp} {m:Addr} {F:Addr→Prop} {g:List Row} {l:List (Int × List Row)} {low:Int} (h:MrAt t H m F g l low) (k:∀ b o,F b→H b=some o→H' b=some o):MrAt t H' m F g l low :=
  ⟨fun b hb=>let ⟨o,e,n⟩:=h.own b hb;⟨o,k b o hb e,n⟩,h.me,h.nd,h.ok,let ⟨dx,gr,wo,rk,wk,kk,z⟩:=h.ex;⟨dx,gr,wo,rk,wk,kk,z.keep h.me k⟩⟩
structure MfAt (t:Adr) (H:Hp) (m:Addr) (F:Addr→Prop) (g:List Row) (l:List (Int × List Row)) (low:Int):Prop where
  nd:(l.map (·.1)).Nodup
  ok:∀ y∈l,0≤y.1∧GfOk y.2
  ex:∃ g',MrAt t H m F g' (l.filter fun y=>decide (low≤y.1)) low∧(g'.map (·.1)).Nodup∧(∀ r∈g',r.2≠0)∧∀ p,(lastW g' p).getD 0=seenW g l p low
theorem MfAt.own {t:Adr} {H:Hp} {m:Addr} {F:Addr→Prop} {g:List Row} {l:List (Int × List Row)} {low:Int} (h:MfAt t H m F g l low):∀ b,F b→∃ o,H b=some o:=fun b hb=>let ⟨_,M,_⟩:=h.ex;let ⟨o,e,_⟩:=M.own b hb;⟨o,e⟩
theorem MfAt.ins {t:Adr} {H:Hp} {m:Addr} {F:Addr→Prop} {g:List Row} {l:List (Int × List Row)} {low:Int} (h:MfAt t H m F g l low):∃ dx fs,H m=some (.ins t.c_Makes dx fs)∧List.lookup (Str.ofString "lay") fs=none∧List.lookup (Str.ofString "seen") fs=none∧List.lookup (Str.ofString "kept") fs=none∧List.lookup (Str.ofString "fold") fs=none∧List.lookup (Str.ofString "table_for") fs=none:=let ⟨_,M,_⟩:=h.ex;M.ins
theorem MfAt.keep {t:Adr} {H H':Hp} {m:Addr} {F:Addr→Prop} {g:List Row} {l:List (Int × List Row)} {low:Int} (h:MfAt t H m F g l low) (k:∀ b o,F b→H b=some o→H' b=some o) (ts:∀ b zs,H b=some (.tup zs)→H' b=some (.tup zs)):MfAt t H' m F g l low:=⟨h.nd,h.ok,let ⟨g',M,z⟩:=h.ex;⟨g',M.keep k,z⟩⟩
theorem MfAt.same {t:Adr} {H H':Hp} {m:Addr} {F:Addr→Prop} {g:List Row} {l:List (Int × List Row)} {low:Int} (h:MfAt t H m F g l low) (s:Same H H'):MfAt t H' m F g l low:=h.keep (fun b o _ e=>s b o e) fun b zs e=>s b _ e
theorem MfAt.upd {t:Adr} {H:Hp} {m A:Addr} {F:Addr→Prop} {g:List Row} {l:List (Int × List Row)} {low:Int} {xs ys:List V} (h:MfAt t H m F g l low) (hA:H A=some (.lst xs)) (n:¬ F A):MfAt t (L2.upd H A (.lst ys)) m F g l low :=
  h.keep (fun b o z e=>by rw [upd_ne (fun y=>n (by rw [← y];exact z))];exact e) fun b zs e=>by rw [upd_ne (fun y=>by subst y;rw [hA] at e;cases e)];exact e
def layW (lays:List (Int × List Row)) (rank:Int) (gs:List Row):List (Int × List Row):=(lays.filter fun y=>decide (y.1≠rank)) ++ [(rank,gs)]
def keptF (lays:List (Int × List Row)) (low:Int):Int:=((lays.filter fun y=>decide (low≤y.1)).map fun y=>(y.2.length:Int)).sum
def TabFor (g:List Row) (lays:List (Int × List Row)) (rank:Int) (rows:List Row):Prop:=Rising rows∧∀ p w,(p,w)∈rows↔seenW g lays p rank=w∧w≠0
def sp_table_of:Sp:=fun vs H Q _=>∃ a rows,vs=[.ref a]∧RwsAt H a rows∧(dOf rows).length≤63∧rows.length≤1000∧∀ l out H',Same H H'→H l=none→RwsAt H' l out→IsTab rows out→Q (.ref l) H'
def sp_many_below:Sp:=fun vs H Q _=>∃ (a:Addr) (rs:List Int) (rank:Int),vs=[.ref a,.int rank]∧H a=some (.lst (rs.map V.int))∧rs.Pairwise (· < ·)∧∀ (k:Nat) H',Same H H'→k≤rs.length→(∀ r∈rs.take k,r < rank)→(∀ r∈rs.drop k,rank≤r)→Q (.int k) H'
def sp_Makes_heed_fold (t:Adr):Sp:=fun vs H Q E=>∃ (m dx:Addr) (fs:List (Str × V)) (low rank:Int),vs=[.ref m,.int rank]∧H m=some (.ins t.c_Makes dx fs)∧fs.lookup (Str.ofString "folded")=some (.int low)∧rB rank∧(low≤rank→∀ H',Same H H'→Q .non H')∧(rank < low→∀ H',Same H H'→E (.ref t.c_Folded) none H')
def outW (lays:List (Int × List Row)) (rank:Int):List (Int × List Row):=lays.filter fun y=>decide (y.1≠rank)
def KeepR (G:Addr→Prop) (rk:Addr) (H H':Hp):Prop:=∀ b o,H b=some o→b≠rk→((∀ xs,o≠.lst xs)∨¬ G b)→H' b=some o
def Dm (H H':Hp):Prop:=∀ b o,H b=some o→∃ o',H' b=some o'∧∀ zs,o'=.tup zs→o=.tup zs
def sp_put_rank:Sp:=fun vs H Q _=>∃ (rk pl:Addr) (rank:Int) (G:Addr→Prop) (P:Pl→Int→Prop) (kk:List (List Key × V)) (q0:Pl),vs=[.ref rk,.ref pl,.int rank]∧RkAt H rk G P kk∧G rk∧(∀ b,H b=none→G b)∧H pl=some (.tup ((plKey q0).map kV))∧¬ P q0 rank∧kk.length≤18900∧(∀ rs:List Int,rs.Pairwise (· < ·)→(∀ r∈rs,P q0 r)→rs.length≤300)∧∀ H' kk',KeepR G rk H H'→Dm H H'→RkAt H' rk G (fun p r=>P p r∨(r=rank∧p=q0)) kk'→Q .non H'
def sp_drop_rank:Sp:=fun vs H Q _=>∃ (rk pl:Addr) (rank:Int) (G:Addr→Prop) (P:Pl→Int→Prop) (kk:List (List Key × V)) (q0:Pl),vs=[.ref rk,.ref pl,.int rank]∧RkAt H rk G P kk∧G rk∧H pl=some (.tup ((plKey q0).map kV))∧P q0 rank∧∀ H' kk',KeepR G rk H H'→Dm H H'→RkAt H' rk G (fun p r=>P p r∧¬ (r=rank∧p=q0)) kk'→Q .non H'
def sp_Makes_places_of (t:Adr):Sp:=fun vs H Q _=>∃ m rank F g lays low,vs=[.ref m,.int rank]∧MrAt t H m F g lays low∧∀ l ys gs H',Same H H'→H l=none→H' l=some (.lst ys)→Paired (KyAt H') ys (dOf gs)→((rank,gs)∈lays∨(rank ∉ lays.map (·.1)∧gs=[]))→Q (.ref l) H'
def sp_Makes_take_away (t:Adr):Sp:=fun vs H Q _=>∃ m rank F g lays low,vs=[.ref m,.int rank]∧MrAt t H m F g lays low∧∀ H' F',(∀ b o,¬ F b→H b=some o→H' b=some o)→(∀ b zs,H b=some (.tup zs)→H' b=some (.tup zs))→MrAt t H' m F' g (outW lays rank) low→(∀ b,F' b→F b∨H b=none)→(∀ b,F b→F' b)→Q .non H'
structure PsOk (ps:List Pl) (g:List Row) (l:List (Int × List Row)):Prop where
  le:ps.length≤31
  nm:∀ p∈ps,isName p.1=true
  gr:∀ r∈g,r.1∈ps
  ly:∀ y∈l,∀ r∈y.2,r.1∈ps
def sp_Makes_init (t:Adr):Sp:=fun vs H Q _=>∃ x h dx rows,vs=[.ref x,.ref h]∧H x=some (.ins t.c_Makes dx [])∧RwsAt H h rows∧TbOk rows∧∀ H' F,SameX x H H'→MfAt t H' x F rows [] 0→(∀ b,F b→b=x∨H b=none)→Q .non H'
def sp_Makes_lay (t:Adr):Sp:=fun vs H Q E=>∃ m rank gv F g lays low gs,vs=[.ref m,.int rank,.ref gv]∧MfAt t H m F g lays low∧rB rank∧RwsAt H gv gs∧¬ F gv∧GfOk gs∧lays.length≤200∧(low≤rank→∀ H' F',(∀ b o,¬ F b→H b=some o→H' b=some o)→(∀ b zs,H b=some (.tup zs)→H' b=some (.tup zs))→MfAt t H' m F' g (layW lays rank gs) low→(∀ b,F' b→F b∨H b=none)→Q .non H')∧(rank < low→∀ H',Same H H'→E (.ref t.c_Folded) none H')
def sp_Makes_seen (t:Adr):Sp:=fun vs H Q E=>∃ m p rank F g lays low q,vs=[.ref m,.ref p,.int rank]∧MfAt t H m F g lays low∧rB rank∧H p=some (.tup [.str q.1,.int q.2])∧isName q.1=true∧(low≤rank→∀ H',Same H H'→Q (.int (seenW g lays q rank)) H')∧(rank < low→∀ H',Same H H'→E (.ref t.c_Folded) none H')
def sp_Makes_kept (t:Adr):Sp:=fun vs H Q _=>∃ m F g lays low,vs=[.ref m]∧MfAt t H m F g lays low∧lays.length≤200∧∀ H',Same H H'→Q (.int (keptF lays low)) H'
def sp_Makes_fold (t:Adr):Sp:=fun vs H Q E=>∃ m rank F g lays low ps,vs=[.ref m,.int rank]∧MfAt t H m F g lays low∧rB rank∧PsOk ps g lays∧lays.length≤200∧(low≤rank→∀ H' F',(∀ b o,¬ F b→H b=some o→H' b=some o)→(∀ b zs,H b=some (.tup zs)→H' b=some (.tup zs))→MfAt t H' m F' g lays rank→(∀ b,F' b→F b∨H b=none)→Q .non H')∧(rank < low→∀ H',Same H H'→E (.ref t.c_Folded) none H')
def sp_Makes_table_for (t:Adr):Sp:=fun vs H Q E=>∃ m rank F g lays low ps,vs=[.ref m,.int rank]∧MfAt t H m F g lays low∧rB rank∧PsOk ps g lays∧lays.length≤200∧(low≤rank→∀ l rows H',Same H H'→H l=none→RwsAt (Hid F H') l rows→TabFor g lays rank rows→Q (.ref l) H')∧(rank < low→∀ H',Same H H'→E (.ref t.c_Folded) none H')
def LdAt (H:Hp) (d:Addr) (lays:List (Int × List Row)):Prop:=∃ kvs:List (Key × V),H d=some (.dK kvs)∧Paired (fun (kv:Key × V) (y:Int × List Row)=>kv.1=.inl y.1∧∃ g,kv.2=.ref g∧RwsAt H g y.2) kvs lays
structure LdOk (lays:List (Int × List Row)):Prop where
  nd:(lays.map (·.1)).Nodup
  le:lays.length≤200
  gf:∀ y∈lays,rB y.1∧GfOk y.2
def sp__law_rank_near:Sp:=fun vs H Q _=>∃ low c,vs=[.int low,.int c]∧rB low∧drI c∧∀ r H',Same H H'→rB r→Q (.int r) H'
def sp__law_due:Sp:=fun vs H Q _=>∃ (d p:Addr) (rank:Int) (lays:List (Int × List Row)) (ps:List Pl),vs=[.ref d,.ref p,.int rank]∧LdAt H d lays∧LdOk lays∧PlsAt H p ps∧(∀ y∈lays,∀ r∈y.2,r.1∈ps)∧∀ l out H',Same H H'→H l=none→RwsAt H' l out→TabFor [] lays rank out→Q (.ref l) H'
structure KnAt (t:Adr) (H:Hp) (m d:Addr) (F:Addr→Prop) (lays ld:List (Int × List Row)) (low:Int) (ps:List Pl):Prop where
  mk0:MfAt t H m F [] lays low
  ld_:LdAt H d ld
  ok:LdOk ld
  pm:ld.Perm lays
  lo:rB low
  p9:ps.length≤9
  pn:∀ q∈ps,okPl q
  in2:∀ y∈ld,∀ r∈y.2,r.1∈ps
def sp__law_refused (t:Adr):Sp:=fun vs H Q _=>∃ (m p g:Addr) (kind rank low:Int) (F:Addr→Prop) (lays ld:List (Int × List Row)) (d:Addr) (ps:List Pl) (q:Pl) (gs:List Row),vs=[.ref m,.int kind,.int rank,.ref p,.ref g]∧KnAt t H m d F lays ld low ps∧rB rank∧rank < low∧H p=some (.tup [.str q.1,.int q.2])∧isName q.1=true∧RwsAt H g gs∧GfOk gs∧∀ H',Same H H'→Q (.bl true) H'
def sp__law_asked (t:Adr):Sp:=fun vs H Q _=>∃ (m d p pp:Addr) (kind rank low:Int) (F:Addr→Prop) (lays ld:List (Int × List Row)) (ps:List Pl) (q:Pl),vs=[.ref m,.ref d,.int kind,.int rank,.ref p,.ref pp]∧KnAt t H m d F lays ld low ps∧PlsAt H pp ps∧rB rank∧low≤rank∧H p=some (.tup [.str q.1,.int q.2])∧isName q.1=true∧∀ H',Same H H'→Q (.bl true) H'
def sp__law_stays (t:Adr):Sp:=fun vs H Q _=>∃ (m d p:Addr) (low:Int) (F:Addr→Prop) (lays ld:List (Int × List Row)) (ps:List Pl) (q:Pl),vs=[.ref m,.ref d,.int low,.ref p]∧KnAt t H m d F lays ld low ps∧H p=some (.tup [.str q.1,.int q.2])∧isName q.1=true∧∀ H',Same H H'→Q (.bl true) H'
def sp_law (K:PySem.W.Frag):Sp:=fun vs H Q _=>∃ (a:Addr) (ns:List Int),vs=[.ref a]∧SqL K H a (ns.map V.int)∧ns.length≤63∧(∀ i∈ns,Cb i)∧∀ H',Q (.bl true) H'
def rd__law_drawn (K:PySem.W.Frag) (t:Adr):TS:=(tSeq (tAsg (tOp (rI0 fun i j=>.int (i + j)) (tOp (rI (fun _ j=>0 < j) fun i j=>.int (i % j)) (tVar 0) (tC (.int 999999937))) (tC (.int 1))) (gName 2))
    (tSeq (tAsg (tOp (rI0 fun i j=>.int (i + j)) (tOp (rI (fun _ j=>0 < j) fun i j=>.int (i % j)) (tOp (rI CDivB fun i j=>.int (i / j)) (tVar 0) (tC (.int 999999937))) (tC (.int 999999929))) (tC (.int 2))) (gName 3))
    (tSeq (tAsg (tLst tNil) (gName 4))
    (tSeq (tFor (iRng1 (tCons (tVar 1) tNil)) (gName 5)
      (tSeq (tAsg (tOp (rI (fun _ j=>0 < j) fun i j=>.int (i % j)) (tOp (rI0 fun i j=>.int (i + j)) (tOp (rI0 fun i j=>.int (i + j)) (tOp (rI CMulB fun i j=>.int (i * j)) (tVar 2) (tC (.int 40009))) (tVar 3)) (tVar 5)) (tC (.int 999999937))) (gName 2))
    (tSeq (tAsg (tOp (rI (fun _ j=>0 < j) fun i j=>.int (i % j)) (tOp (rI0 fun i j=>.int (i + j)) (tOp (rI CMulB fun i j=>.int (i * j)) (tVar 3) (tC (.int 31))) (tOp (rI CMulB fun i j=>.int (i * j)) (tVar 2) (tVar 2))) (tC (.int 999999929))) (gName 3))
    (tDrop (tBM K "list" r_mt_append (tVar 4) (tCons (tOp (rI0 fun i j=>.int (i + j)) (tVar 2) (tVar 3)) tNil))))))
    (tRet (tVar 4))))))
def rd__law_names_B (K:PySem.W.Frag) (t:Adr):TS:=(tSeq (tIfS (tTest (tOp (rIn K false) (tVar 8) (tVar 2)))
      (tAsg (tOp rAddS (tSl rSlS (tVar 8) tNoPart (tPart (tUn (rU fun i=>.int (-i)) (tC (.int 1))))) (tC (.str "q"))) (gName 8))
      tNext)
    (tDrop (tBM K "list" r_mt_append (tVar 6) (tCons (tVar 8) tNil))))
def rd__law_names_5 (K:PySem.W.Frag) (t:Adr):TS:=(tSeq (tAsg (tCall sp__law_drawn [] E0 (tCons (tOp (rI CDivB fun i j=>.int (i / j)) (tVar 0) (tC (.int 36))) (tCons (tOp (rI0 fun i j=>.int (i + j)) (tVar 3) (tC (.int 1))) tNil))) (gName 5))
    (tSeq (tAsg (tLst tNil) (gName 6))
    (tSeq (tFor (iRng1 (tCons (tC (.int 3)) tNil)) (gName 7)
      (tSeq (tAsg (tC (.str "")) (gName 8))
    (tSeq (tFor (iRng1 (tCons (tVar 3) tNil)) (gName 9)
      (tSeq (tAsg (tOp (rI CMulB fun i j=>.int (i * j)) (tOp (rI CMulB fun i j=>.int (i * j)) (tVar 7) (tCB cIntB (tCons (tOp rEq (tVar 9) (tVar 4)) tNil))) (tOp (rI (fun _ j=>0 < j) fun i j=>.int (i % j)) (tOp (rIxL K) (tVar 5) (tVar 3)) (tC (.int 2)))) (gName 10))
    (tAsg (tOp rAddS (tVar 8) (tOp rIxS (tVar 1) (tOp (rI (fun _ j=>0 < j) fun i j=>.int (i % j)) (tOp (rI0 fun i j=>.int (i + j)) (tOp (rIxL K) (tVar 5) (tVar 9)) (tVar 10)) (tC (.int 26))))) (gName 8))))
    (tSeq (tIfS (tTest (tOp rEq (tOp (rI (fun _ j=>0 < j) fun i j=>.int (i % j)) (tOp (rIxL K) (tVar 5) (tVar 3)) (tC (.int 2))) (tC (.int 0))))
      (tAsg (tSl rSlS (tVar 8) tNoPart (tPart (tCB cMax2 (tCons (tC (.int 1)) (tCons (tOp (rI0 fun i j=>.int (i - j)) (tVar 3) (tVar 7)) tNil))))) (gName 8))
      tNext)
    (rd__law_names_B K t)))))
    (tRet (tVar 6)))))
def rd__law_names (K:PySem.W.Frag) (t:Adr):TS:=(tSeq (tAsg (tC (.str "abcdefghijklmnopqrstuvwxyz")) (gName 1))
    (tSeq (tAsg (tLst (tCons (tC (.str "take")) (tCons (tC (.str "give")) (tCons (tC (.str "let")) (tCons (tC (.str "say")) (tCons (tC (.str "off")) (tCons (tC (.str "if")) (tCons (tC (.str "else")) (tCons (tC (.str "end")) (tCons (tC (.str "as")) tNil)))))))))) (gName 2))
    (tSeq (tAsg (tOp rCat (tVar 2) (tLst (tCons (tC (.str "plus")) (tCons (tC (.str "minus")) (tCons (tC (.str "times")) (tCons (tC (.str "over")) (tCons (tC (.str "rest")) (tCons (tC (.str "under")) (tCons (tC (.str "same")) tNil))))))))) (gName 2))
    (tSeq (tAsg (tOp (rI0 fun i j=>.int (i + j)) (tC (.int 1)) (tOp (rI (fun _ j=>0 < j) fun i j=>.int (i % j)) (tVar 0) (tC (.int 6)))) (gName 3))
    (tSeq (tAsg (tOp (rI (fun _ j=>0 < j) fun i j=>.int (i % j)) (tOp (rI CDivB fun i j=>.int (i / j)) (tVar 0) (tC (.int 6))) (tVar 3)) (gName 4))
    (rd__law_names_5 K t))))))
def rd__law_worth (K:PySem.W.Frag) (t:Adr):TS:=(tSeq (tAsg (tOp (rI CDivB fun i j=>.int (i / j)) (tVar 0) (tC (.int 4))) (gName 1))
    (tSeq (tIfS (tTest (tOp rEq (tOp (rI (fun _ j=>0 < j) fun i j=>.int (i % j)) (tVar 0) (tC (.int 4))) (tC (.int 0))))
      (tRet (tOp (rI0 fun i j=>.int (i - j)) (tOp (rI (fun _ j=>0 < j) fun i j=>.int (i % j)) (tOp (rI CMulC fun i j=>.int (i * j)) (tVar 1) (tC (.int 618033988749894848204586834365))) (tOp (rI0 fun i j=>.int (i + j)) (tOp (rI CMulC fun i j=>.int (i * j)) (tC (.int 2)) (tOp (rI CPow fun i j=>.int (i ^ j.toNat)) (tC (.int 10)) (tC (.int 30)))) (tC (.int 1)))) (tOp (rI CPow fun i j=>.int (i ^ j.toNat)) (tC (.int 10)) (tC (.int 30)))))
      tNext)
    (tSeq (tIfS (tTest (tOp rEq (tOp (rI (fun _ j=>0 < j) fun i j=>.int (i % j)) (tVar 0) (tC (.int 4))) (tC (.int 1))))
      (tRet (tOp (rIxL K) (tLst (tCons (tOp (rI CPow fun i j=>.int (i ^ j.toNat)) (tC (.int 10)) (tC (.int 30))) (tCons (tUn (rU fun i=>.int (-i)) (tOp (rI CPow fun i j=>.int (i ^ j.toNat)) (tC (.int 10)) (tC (.int 30)))) (tCons (tOp (rI0 fun i j=>.int (i - j)) (tOp (rI CPow fun i j=>.int (i ^ j.toNat)) (tC (.int 10)) (tC (.int 30))) (tC (.int 1))) (tCons (tC (.int 0)) (tCons (tC (.int 64)) (tCons (tUn (rU fun i=>.int (-i)) (tC (.int 64))) (tCons (tC (.int 1)) (tCons (tUn (rU fun i=>.int (-i)) (tC (.int 1))) tNil))))))))) (tOp (rI (fun _ j=>0 < j) fun i j=>.int (i % j)) (tVar 1) (tC (.int 8)))))
      tNext)
    (tRet (tOp (rI0 fun i j=>.int (i - j)) (tOp (rI (fun _ j=>0 < j) fun i j=>.int (i % j)) (tVar 1) (tC (.int 7))) (tC (.int 3)))))))
def rd__law_places_3 (K:PySem.W.Frag) (t:Adr):TS:=(tSeq (tAsg (tLst tNil) (gName 4))
    (tSeq (tFor (iRng1 (tCons (tOp (rI0 fun i j=>.int (i + j)) (tC (.int 1)) (tOp (rI (fun _ j=>0 < j) fun i j=>.int (i % j)) (tVar 0) (tC (.int 9)))) tNil)) (gName 5)
      (tSeq (tAsg (tTup (tCons (tOp (rIxL K) (tVar 1) (tOp (rI (fun _ j=>0 < j) fun i j=>.int (i % j)) (tVar 5) (tC (.int 3)))) (tCons (tOp (rIxL K) (tLst (tCons (tVar 2) (tCons (tVar 3) (tCons (tOp (rI0 fun i j=>.int (i - j)) (tC (.int 0)) (tVar 2)) tNil)))) (tOp (rI CDivB fun i j=>.int (i / j)) (tVar 5) (tC (.int 3)))) tNil))) (gName 6))
    (tIfS (tTest (tOp (rInA K true) (tVar 6) (tVar 4)))
      (tDrop (tBM K "list" r_mt_append (tVar 4) (tCons (tVar 6) tNil)))
      tNext)))
    (tRet (tVar 4))))
def rd__law_places (K:PySem.W.Frag) (t:Adr):TS:=(tSeq (tAsg (tCall sp__law_names [] E0 (tCons (tOp (rI CDivB fun i j=>.int (i / j)) (tVar 0) (tC (.int 9))) tNil)) (gName 1))
    (tSeq (tAsg (tCall sp__law_worth [] E0 (tCons (tOp (rI CDivB fun i j=>.int (i / j)) (tVar 0) (tC (.int 13))) tNil)) (gName 2))
    (tSeq (tAsg (tIf (tTest (tOp (rI0 fun i j=>.bl (decide (j < i))) (tVar 2) (tC (.int 0)))) (tOp (rI0 fun i j=>.int (i - j)) (tVar 2) (tC (.int 1))) (tOp (rI0 fun i j=>.int (i + j)) (tVar 2) (tC (.int 1)))) (gName 3))
    (rd__law_places_3 K t))))
def rd_Makes_init (K:PySem.W.Frag) (t:Adr):TS:=(tSeq (sFld K (tVar 0) (tCB cDctP (tCons (tVar 1) tNil)) "ground")
    (tSeq (sFld K (tVar 0) (tC (.int 0)) "folded")
    (tSeq (sFld K (tVar 0) tDNewK "worths")
    (sFld K (tVar 0) tDNewT "ranks"))))
def rd__law_cell_at (K:PySem.W.Frag) (t:Adr):TS:=(tSeq (tIfS (tTest (tOp (rI0 fun i j=>.bl (decide (i < j))) (tVar 1) (tCB (cLen K) (tCons (tVar 0) tNil))))
      (tRet (tOp (rIxL K) (tVar 0) (tVar 1)))
      tNext)
    (tRet (tC (.int 0))))
def rd_Makes_heed_fold (K:PySem.W.Frag) (t:Adr) (E:XK):TS:=(tIfS (tTest (tOp (rI0 fun i j=>.bl (decide (i < j))) (tVar 1) (tFld K (tVar 0) "folded")))
      (tRaise t.c_Folded (tCons (tC (.str "a rank below the one to which the makes are folded")) tNil) E)
      tNext)
def rd_table_of (K:PySem.W.Frag) (t:Adr):TS:=(tSeq (tAsg (tCB cDctP (tCons (tVar 0) tNil)) (gName 1))
    (tRet (tComp (iList K (tCB cSrtD (tCons (tVar 1) tNil))) (gName 0) (tTest (tOp rNe (tDGet (tVar 1) (tVar 0)) (tC (.int 0)))) (tTup (tCons (tVar 0) (tCons (tDGet (tVar 1) (tVar 0)) tNil))) 1 [1])))
def rd_many_below (K:PySem.W.Frag) (t:Adr):TS:=(tSeq (tAsg (tC (.int 0)) (gName 2))
    (tSeq (tAsg (tCB (cLen K) (tCons (tVar 0) tNil)) (gName 3))
    (tSeq (tWhile (tTest (tOp (rI0 fun i j=>.bl (decide (i < j))) (tVar 2) (tVar 3))) (tSeq (tAsg (tOp (rI CDivB fun i j=>.int (i / j)) (tOp (rI0 fun i j=>.int (i + j)) (tVar 2) (tVar 3)) (tC (.int 2))) (gName 4))
    (tIfS (tTest (tOp (rI0 fun i j=>.bl (decide (i < j))) (tOp (rIxL K) (tVar 0) (tVar 4)) (tVar 1)))
      (tAsg (tOp (rI0 fun i j=>.int (i + j)) (tVar 4) (tC (.int 1))) (gName 2))
      (tAsg (tVar 4) (gName 3)))))
    (tRet (tVar 2)))))
def rd_Makes_seen (K:PySem.W.Frag) (t:Adr) (E:XK):TS:=(tSeq (tDrop (tMeth t.c_Makes "heed_fold" (sp_Makes_heed_fold t) [] E (tVar 0) (tCons (tVar 2) tNil)))
    (tSeq (tAsg (tDGet2 (tFld K (tVar 0) "ranks") (tVar 1) (tLst tNil)) (gName 3))
    (tSeq (tAsg (tCall sp_many_below [] E (tCons (tVar 3) (tCons (tVar 2) tNil))) (gName 4))
    (tSeq (tIfS (tTest (tOp rEq (tVar 4) (tC (.int 0))))
      (tRet (tDGet2 (tFld K (tVar 0) "ground") (tVar 1) (tC (.int 0))))
      tNext)
    (tRet (tDGet (tDGet (tFld K (tVar 0) "worths") (tOp (rIxL K) (tVar 3) (tOp (rI0 fun i j=>.int (i - j)) (tVar 4) (tC (.int 1))))) (tVar 1)))))))
def rd_Makes_table_for_2 (K:PySem.W.Frag) (t:Adr) (E:XK):TS:=(tRet (tCall sp_table_of [] E (tCons (tComp (iList K (tVar 2)) (gName 0) tYes (tTup (tCons (tVar 0) (tCons (tMeth t.c_Makes "seen" (sp_Makes_seen t) [] E0 (tVar 1) (tCons (tVar 0) (tCons (tVar 2) tNil))) tNil))) 1 [0,1]) tNil)))
def rd_Makes_table_for (K:PySem.W.Frag) (t:Adr) (E:XK):TS:=(tSeq (tDrop (tMeth t.c_Makes "heed_fold" (sp_Makes_heed_fold t) [] E (tVar 0) (tCons (tVar 1) tNil)))
    (tSeq (tAsg (tOp rCat (tCB cLstD (tCons (tFld K (tVar 0) "ground") tNil)) (tCB cLstD (tCons (tFld K (tVar 0) "ranks") tNil))) (gName 2))
    (rd_Makes_table_for_2 K t E)))
def rd__law_gifts_B (K:PySem.W.Frag) (t:Adr):TS:=(tSeq (tDrop (tBM K "list" r_mt_append (tVar 4) (tCons (tVar 6) tNil)))
    (tDrop (tBM K "list" r_mt_append (tVar 3) (tCons (tTup (tCons (tVar 6) (tCons (tCall sp__law_worth [] E0 (tCons (tOp (rIxL K) (tLst (tCons (tOp (rI CDivB fun i j=>.int (i / j)) (tVar 0) (tC (.int 4))) (tCons (tOp (rIxL K) (tVar 2) (tC (.int 3))) (tCons (tOp (rIxL K) (tVar 2) (tC (.int 4))) tNil)))) (tVar 5)) tNil)) tNil))) tNil))))
def rd__law_gifts (K:PySem.W.Frag) (t:Adr):TS:=(tSeq (tAsg (tCall sp__law_drawn [] E0 (tCons (tOp (rI CDivB fun i j=>.int (i / j)) (tVar 0) (tC (.int 4))) (tCons (tC (.int 6)) tNil))) (gName 2))
    (tSeq (tAsg (tLst tNil) (gName 3))
    (tSeq (tAsg (tLst tNil) (gName 4))
    (tSeq (tFor (iRng1 (tCons (tOp (rI (fun _ j=>0 < j) fun i j=>.int (i % j)) (tVar 0) (tC (.int 4))) tNil)) (gName 5)
      (tSeq (tAsg (tOp (rIxL K) (tVar 1) (tOp (rI (fun _ j=>0 < j) fun i j=>.int (i % j)) (tOp (rIxL K) (tVar 2) (tVar 5)) (tCB (cLen K) (tCons (tVar 1) tNil)))) (gName 6))
    (tIfS (tTest (tOp (rInA K true) (tVar 6) (tVar 4)))
      (rd__law_gifts_B K t)
      tNext)))
    (tRet (tVar 3))))))
def rd__law_rank_near (K:PySem.W.Frag) (t:Adr):TS:=(tSeq (tAsg (tOp (rI CDivB fun i j=>.int (i / j)) (tVar 1) (tC (.int 8))) (gName 2))
    (tSeq (tIfS (tTest (tOp (rI0 fun i j=>.bl (decide (i < j))) (tOp (rI (fun _ j=>0 < j) fun i j=>.int (i % j)) (tVar 1) (tC (.int 8))) (tC (.int 3))))
      (tRet (tCB cMax2 (tCons (tC (.int 0)) (tCons (tOp (rI0 fun i j=>.int (i - j)) (tOp (rI0 fun i j=>.int (i - j)) (tVar 0) (tC (.int 1))) (tOp (rI (fun _ j=>0 < j) fun i j=>.int (i % j)) (tVar 2) (tC (.int 2)))) tNil))))
      tNext)
    (tSeq (tIfS (tTest (tOp rEq (tOp (rI (fun _ j=>0 < j) fun i j=>.int (i % j)) (tVar 1) (tC (.int 8))) (tC (.int 3))))
      (tRet (tOp (rI (fun _ j=>0 < j) fun i j=>.int (i % j)) (tOp (rI CMulC fun i j=>.int (i * j)) (tVar 2) (tC (.int 618033988749894848204586834365))) (tOp (rI0 fun i j=>.int (i + j)) (tVar 0) (tC (.int 1)))))
      tNext)
    (tSeq (tIfS (tTest (tOp rEq (tOp (rI (fun _ j=>0 < j) fun i j=>.int (i % j)) (tVar 1) (tC (.int 8))) (tC (.int 4))))
      (tRet (tC (.int 0)))
      tNext)
    (tRet (tCB cMin (tCons (tOp (rI CPow fun i j=>.int (i ^ j.toNat)) (tC (.int 10)) (tC (.int 29))) (tCons (tOp (rI0 fun i j=>.int (i + j)) (tVar 0) (tOp (rI (fun _ j=>0 < j) fun i j=>.int (i % j)) (tVar 2) (tC (.int 3)))) tNil))))))))
def rd_Makes_kept (K:PySem.W.Frag) (t:Adr):TS:=(tFrzK (tRet (tCB (cSumL K) (tCons (tComp (iDK (tFld K (tVar 0) "worths")) (gName 0) tYes (tCB cLenT (tCons (tDGet (tFld K (tVar 1) "worths") (tVar 0)) tNil)) 1 [0]) tNil))))
def rd__law_whole (K:PySem.W.Frag) (t:Adr):TS:=(tRet (tAndV (tCB (cIsi K) (tCons (tVar 0) (tCons (tC (.ty "int")) tNil))) (tNotV (tCB (cIsi K) (tCons (tVar 0) (tCons (tC (.ty "bool")) tNil))))))
def rd__law_seen_B (K:PySem.W.Frag) (t:Adr):TS:=(tFor (iList K (tDGet (tVar 0) (tVar 5))) (gTup K 2 (gCons (gName 6) (gCons (gName 7) gNil)))
      (tIfS (tTest (tOp (rEqD K false) (tVar 6) (tVar 1)))
      (tSeq (tAsg (tVar 5) (gName 4))
    (tAsg (tVar 7) (gName 3)))
      tNext))
def rd__law_seen_2 (K:PySem.W.Frag) (t:Adr):TS:=(tSeq (tFrzK (tFor (iDK (tVar 0)) (gName 5)
      (tIfS (tAnd (tTest (tOp (rI0 fun i j=>.bl (decide (i < j))) (tVar 4) (tVar 5))) (tTest (tOp (rI0 fun i j=>.bl (decide (i < j))) (tVar 5) (tVar 2))))
      (rd__law_seen_B K t)
      tNext)))
    (tRet (tVar 3)))
def rd__law_seen (K:PySem.W.Frag) (t:Adr):TS:=(tSeq (tAsg (tC (.int 0)) (gName 3))
    (tSeq (tAsg (tUn (rU fun i=>.int (-i)) (tC (.int 1))) (gName 4))
    (rd__law_seen_2 K t)))
def rd__law_stays_3 (K:PySem.W.Frag) (t:Adr):TS:=(tSeq (tFrzK (tAsg (tCB (cSumL K) (tCons (tComp (iDK (tVar 1)) (gName 0) (tTest (tOp (rI0 fun i j=>.bl (decide (j≤i))) (tVar 0) (tVar 2))) (tCB (cLen K) (tCons (tDGet (tVar 1) (tVar 0)) tNil)) 1 [1,2]) tNil)) (gName 5)))
    (tRet (tAndV (tCall sp__law_whole [] E0 (tCons (tVar 4) tNil)) (tOp rEq (tVar 4) (tVar 5)))))
def rd__law_stays_2 (K:PySem.W.Frag) (t:Adr):TS:=(tSeq (tAsg (tMeth t.c_Makes "kept" (sp_Makes_kept t) [] E0 (tVar 0) tNil) (gName 4))
    (rd__law_stays_3 K t))
def rd__law_stays (K:PySem.W.Frag) (t:Adr):TS:=(tSeq (tAsg (tMeth t.c_Makes "seen" (sp_Makes_seen t) [] E0 (tVar 0) (tCons (tVar 3) (tCons (tVar 2) tNil))) (gName 4))
    (tSeq (tIfS (tOr (tNot (tB (tCall sp__law_whole [] E0 (tCons (tVar 4) tNil)))) (tTest (tOp rNe (tVar 4) (tCall sp__law_seen [] E0 (tCons (tVar 1) (tCons (tVar 3) (tCons (tVar 2) tNil)))))))
      (tRet (tC (.bl false)))
      tNext)
    (rd__law_stays_2 K t)))
def rd__law_due (K:PySem.W.Frag) (t:Adr):TS:=(tSeq (tAsg (tLst tNil) (gName 3))
    (tSeq (tFor (iList K (tCB (cSrtP K) (tCons (tVar 1) tNil))) (gName 4)
      (tSeq (tAsg (tCall sp__law_seen [] E0 (tCons (tVar 0) (tCons (tVar 4) (tCons (tVar 2) tNil)))) (gName 5))
    (tIfS (tTest (tOp rNe (tVar 5) (tC (.int 0))))
      (tDrop (tBM K "list" r_mt_append (tVar 3) (tCons (tTup (tCons (tVar 4) (tCons (tVar 5) tNil))) tNil)))
      tNext)))
    (tRet (tVar 3))))
def rd_Makes_places_of (K:PySem.W.Frag) (t:Adr):TS:=(tRet (tCB cLstD (tCons (tDGet2 (tFld K (tVar 0) "worths") (tVar 1) tDNewT) tNil)))
def rd_drop_rank (K:PySem.W.Frag) (t:Adr):TS:=(tSeq (tAsg (tDGet (tVar 0) (tVar 1)) (gName 3))
    (tSeq (tDrop (tBM K "list" r_mt_remove (tVar 3) (tCons (tVar 2) tNil)))
    (tIfS (tTest (tOp (rEqNil K) (tVar 3) (tLst tNil)))
      (tDrop (tDPopT (tVar 0) (tVar 1)))
      tNext)))
def rd_Makes_take_away_2 (K:PySem.W.Frag) (t:Adr):TS:=(tFor (iList K (tVar 2)) (gName 3)
      (tDrop (tCall sp_drop_rank [] E0 (tCons (tFld K (tVar 0) "ranks") (tCons (tVar 3) (tCons (tVar 1) tNil))))))
def rd_Makes_take_away (K:PySem.W.Frag) (t:Adr):TS:=(tSeq (tAsg (tMeth t.c_Makes "places_of" (sp_Makes_places_of t) [] E0 (tVar 0) (tCons (tVar 1) tNil)) (gName 2))
    (tSeq (tDrop (tDPop2 (tFld K (tVar 0) "worths") (tVar 1) (tC .non)))
    (rd_Makes_take_away_2 K t)))
def rd_Makes_fold_2 (K:PySem.W.Frag) (t:Adr) (E:XK):TS:=(tSeq (tFor (iList K (tVar 2)) (gName 3)
      (tDrop (tMeth t.c_Makes "take_away" (sp_Makes_take_away t) [] E (tVar 0) (tCons (tVar 3) tNil))))
    (sFld K (tVar 0) (tVar 1) "folded"))
def rd_Makes_fold_1 (K:PySem.W.Frag) (t:Adr) (E:XK):TS:=(tSeq (tFrzK (tAsg (tComp (iDK (tFld K (tVar 0) "worths")) (gName 0) (tTest (tOp (rI0 fun i j=>.bl (decide (i < j))) (tVar 0) (tVar 1))) (tVar 0) 1 [1]) (gName 2)))
    (rd_Makes_fold_2 K t E))
def rd_Makes_fold (K:PySem.W.Frag) (t:Adr) (E:XK):TS:=(tSeq (sFld K (tVar 0) (tCB cDctP (tCons (tMeth t.c_Makes "table_for" (sp_Makes_table_for t) [] E (tVar 0) (tCons (tVar 1) tNil)) tNil)) "ground")
    (rd_Makes_fold_1 K t E))
def rd_put_rank (K:PySem.W.Frag) (t:Adr):TS:=(tSeq (tAsg (tDSetD (tVar 0) (tVar 1) (tLst tNil)) (gName 3))
    (tDrop (tBM K "list" r_mt_insert (tVar 3) (tCons (tCall sp_many_below [] E0 (tCons (tVar 3) (tCons (tVar 2) tNil))) (tCons (tVar 2) tNil)))))
def rd_Makes_lay_4 (K:PySem.W.Frag) (t:Adr) (E:XK):TS:=(sDPut (tFld K (tVar 0) "worths") (tVar 1) (tVar 3))
def rd_Makes_lay_3 (K:PySem.W.Frag) (t:Adr) (E:XK):TS:=(tSeq (tFrz (tFor (iDT (tVar 3)) (gName 4)
      (tDrop (tCall sp_put_rank [] E (tCons (tFld K (tVar 0) "ranks") (tCons (tVar 4) (tCons (tVar 1) tNil)))))))
    (rd_Makes_lay_4 K t E))
def rd_Makes_lay (K:PySem.W.Frag) (t:Adr) (E:XK):TS:=(tSeq (tDrop (tMeth t.c_Makes "heed_fold" (sp_Makes_heed_fold t) [] E (tVar 0) (tCons (tVar 1) tNil)))
    (tSeq (tDrop (tMeth t.c_Makes "take_away" (sp_Makes_take_away t) [] E (tVar 0) (tCons (tVar 1) tNil)))
    (tSeq (tAsg (tCB cDctP (tCons (tVar 2) tNil)) (gName 3))
    (rd_Makes_lay_3 K t E))))
def rd__law_refused_H (K:PySem.W.Frag) (t:Adr):TS:=(tSeq (tAsg (tAndV (tCB (cIsx K) (tCons (tVar 8) (tCons (tC (.ref t.c_Folded)) tNil))) (tCB (cIsx K) (tCons (tVar 8) (tCons (tC (.ty "ValueError")) tNil)))) (gName 5))
    (tSeq (tAsg (tCB (cIsxT K) (tCons (tVar 8) (tCons (tTup (tCons (tC (.ref t.c_NoNumber)) (tCons (tC (.ref t.c_NoTerm)) (tCons (tC (.ref t.c_NoDealing)) (tCons (tC (.ref t.c_Nought)) (tCons (tC (.ref t.c_Great)) tNil)))))) tNil))) (gName 6))
    (tAsg (tCB (cIsxT K) (tCons (tVar 8) (tCons (tTup (tCons (tC (.ref t.c_NoHand)) (tCons (tC (.ref t.c_NoOrder)) (tCons (tC (.ref t.c_NoLine)) (tCons (tC (.ref t.c_NoLog)) tNil))))) tNil))) (gName 7))))
def rd__law_refused_X (K:PySem.W.Frag) (t:Adr):EXK→TS:=(tIfX (tTest (tOp rEq (tVar 1) (tC (.int 0)))) (tDropX (tMethX t.c_Makes "fold" (sp_Makes_fold t) (tVar 0) (tCons (tVar 2) tNil))) (tIfX (tTest (tOp rEq (tVar 1) (tC (.int 1)))) (tDropX (tMethX t.c_Makes "lay" (sp_Makes_lay t) (tVar 0) (tCons (tVar 2) (tCons (tCB (cLst K) (tCons (tVar 4) tNil)) tNil)))) (tIfX (tTest (tOp rEq (tVar 1) (tC (.int 2)))) (tDropX (tMethX t.c_Makes "seen" (sp_Makes_seen t) (tVar 0) (tCons (tVar 3) (tCons (tVar 2) tNil)))) (tDropX (tMethX t.c_Makes "table_for" (sp_Makes_table_for t) (tVar 0) (tCons (tVar 2) tNil))))))
def rd__law_refused_4 (K:PySem.W.Frag) (t:Adr):TS:=(tRet (tAndV (tVar 5) (tAndV (tNotV (tVar 6)) (tNotV (tVar 7)))))
def rd__law_refused (K:PySem.W.Frag) (t:Adr):TS:=(tSeq (tAsg (tC (.bl false)) (gName 5))
    (tSeq (tAsg (tC (.bl false)) (gName 6))
    (tSeq (tAsg (tC (.bl false)) (gName 7))
    (tSeq (tTry K (rd__law_refused_X K t) t.c_ForerunError 8 (rd__law_refused_H K t))
    (rd__law_refused_4 K t)))))
def rd__law_asked_1 (K:PySem.W.Frag) (t:Adr):TS:=(tSeq (tAsg (tMeth t.c_Makes "table_for" (sp_Makes_table_for t) [] E0 (tVar 0) (tCons (tVar 3) tNil)) (gName 6))
    (tSeq (tAsg (tAndV (tCB (cIsi K) (tCons (tVar 6) (tCons (tC (.ty "list")) tNil))) (tOp (rEqD K false) (tVar 6) (tCall sp__law_due [] E0 (tCons (tVar 1) (tCons (tVar 5) (tCons (tVar 3) tNil)))))) (gName 7))
    (tSeq (tIfS (tB (tVar 7))
      (tDrop (tBM0 K "list" r_mt_clear (tVar 6)))
      tNext)
    (tRet (tVar 7)))))
def rd__law_asked (K:PySem.W.Frag) (t:Adr):TS:=(tSeq (tIfS (tTest (tOp rEq (tVar 2) (tC (.int 2))))
      (tSeq (tAsg (tMeth t.c_Makes "seen" (sp_Makes_seen t) [] E0 (tVar 0) (tCons (tVar 4) (tCons (tVar 3) tNil))) (gName 6))
    (tRet (tAndV (tCall sp__law_whole [] E0 (tCons (tVar 6) tNil)) (tOp rEq (tVar 6) (tCall sp__law_seen [] E0 (tCons (tVar 1) (tCons (tVar 4) (tCons (tVar 3) tNil))))))))
      tNext)
    (rd__law_asked_1 K t))
def rd_law_S (K:PySem.W.Frag) (t:Adr):TS:=(tIfS (tNot (tB (tCall (sp__law_stays t) [] E0 (tCons (tVar 2) (tCons (tVar 3) (tCons (tVar 4) (tCons (tVar 12) tNil)))))))
      (tRet (tC (.bl false)))
      tNext)
def rd_law_R (K:PySem.W.Frag) (t:Adr):TS:=(tSeq (tIfS (tTest (tOp (rI0 fun i j=>.bl (decide (i < j))) (tVar 9) (tVar 4)))
      (tIfS (tNot (tB (tCall (sp__law_refused t) [] E0 (tCons (tVar 2) (tCons (tVar 10) (tCons (tVar 9) (tCons (tVar 12) (tCons (tVar 13) tNil))))))))
      (tRet (tC (.bl false)))
      tNext)
      (tIfS (tTest (tOp rEq (tVar 10) (tC (.int 0))))
      (tSeq (tDrop (tMeth t.c_Makes "fold" (sp_Makes_fold t) [] E0 (tVar 2) (tCons (tVar 9) tNil)))
    (tAsg (tVar 9) (gName 4)))
      (tIfS (tTest (tOp rEq (tVar 10) (tC (.int 1))))
      (tSeq (tDrop (tMeth t.c_Makes "lay" (sp_Makes_lay t) [] E0 (tVar 2) (tCons (tVar 9) (tCons (tCB (cLst K) (tCons (tVar 13) tNil)) tNil))))
    (sDPut (tVar 3) (tVar 9) (tVar 13)))
      (tIfS (tNot (tB (tCall (sp__law_asked t) [] E0 (tCons (tVar 2) (tCons (tVar 3) (tCons (tVar 10) (tCons (tVar 9) (tCons (tVar 12) (tCons (tVar 1) tNil)))))))))
      (tRet (tC (.bl false)))
      tNext))))
    (rd_law_S K t))
def rd_law_10 (K:PySem.W.Frag) (t:Adr):TS:=(tSeq (tAsg (tMeth t.c_Makes "table_for" (sp_Makes_table_for t) [] E0 (tVar 2) (tCons (tVar 4) tNil)) (gName 14))
    (tRet (tAndV (tCB (cIsi K) (tCons (tVar 14) (tCons (tC (.ty "list")) tNil))) (tOp (rEqD K false) (tVar 14) (tCall sp__law_due [] E0 (tCons (tVar 3) (tCons (tVar 1) (tCons (tVar 4) tNil))))))))
def rd_law_9 (K:PySem.W.Frag) (t:Adr):TS:=(tSeq (tFor (iList K (tVar 7)) (gTup K 3 (gCons (gName 9) (gCons (gName 10) (gCons (gName 8) gNil))))
      (tSeq (tAsg (tCall sp__law_drawn [] E0 (tCons (tOp (rI CDivB fun i j=>.int (i / j)) (tVar 8) (tC (.int 4))) (tCons (tC (.int 9)) tNil))) (gName 11))
    (tSeq (tAsg (tOp (rIxL K) (tVar 1) (tOp (rI (fun _ j=>0 < j) fun i j=>.int (i % j)) (tOp (rIxL K) (tVar 11) (tC (.int 6))) (tCB (cLen K) (tCons (tVar 1) tNil)))) (gName 12))
    (tSeq (tAsg (tCall sp__law_gifts [] E0 (tCons (tVar 8) (tCons (tVar 1) tNil))) (gName 13))
    (tSeq (tIfS (tTest (tOp rIsN (tVar 9) (tC .non)))
      (tAsg (tCall sp__law_rank_near [] E0 (tCons (tVar 4) (tCons (tOp (rIxL K) (tVar 11) (tC (.int 7))) tNil))) (gName 9))
      tNext)
    (rd_law_R K t))))))
    (rd_law_10 K t))
def rd_law_8 (K:PySem.W.Frag) (t:Adr):TS:=(tSeq (tFor (iList K (tSl (rSlL K) (tVar 0) (tPart (tC (.int 3))) (tPart (tC (.int 123))))) (gName 8)
      (tDrop (tBM K "list" r_mt_append (tVar 7) (tCons (tTup (tCons (tC .non) (tCons (tOp (rI (fun _ j=>0 < j) fun i j=>.int (i % j)) (tVar 8) (tC (.int 4))) (tCons (tOp (rI CDivB fun i j=>.int (i / j)) (tVar 8) (tC (.int 4))) tNil)))) tNil))))
    (rd_law_9 K t))
def rd_law_7 (K:PySem.W.Frag) (t:Adr):TS:=(tSeq (tAsg (tLst (tCons (tTup (tCons (tC (.int 0)) (tCons (tC (.int 1)) (tCons (tVar 5) tNil)))) (tCons (tTup (tCons (tC (.int 0)) (tCons (tC (.int 2)) (tCons (tC (.int 1)) tNil)))) (tCons (tTup (tCons (tC (.int 0)) (tCons (tC (.int 3)) (tCons (tC (.int 1)) tNil)))) (tCons (tTup (tCons (tC (.int 0)) (tCons (tC (.int 0)) (tCons (tC (.int 1)) tNil)))) (tCons (tTup (tCons (tVar 6) (tCons (tC (.int 0)) (tCons (tC (.int 1)) tNil)))) tNil)))))) (gName 7))
    (rd_law_8 K t))
def rd_law_4 (K:PySem.W.Frag) (t:Adr):TS:=(tSeq (tAsg (tOp (rI0 fun i j=>.int (i + j)) (tOp (rI0 fun i j=>.int (i + j)) (tOp (rI CMulC fun i j=>.int (i * j)) (tC (.int 4)) (tOp (rI CDivB fun i j=>.int (i / j)) (tCall (sp__law_cell_at K) [] E0 (tCons (tVar 0) (tCons (tC (.int 1)) tNil))) (tC (.int 3)))) (tC (.int 1))) (tOp (rI (fun _ j=>0 < j) fun i j=>.int (i % j)) (tCall (sp__law_cell_at K) [] E0 (tCons (tVar 0) (tCons (tC (.int 1)) tNil))) (tC (.int 3)))) (gName 5))
    (tSeq (tAsg (tCall (sp__law_cell_at K) [] E0 (tCons (tVar 0) (tCons (tC (.int 2)) tNil))) (gName 6))
    (tSeq (tAsg (tOp (rIxL K) (tLst (tCons (tOp (rI (fun _ j=>0 < j) fun i j=>.int (i % j)) (tOp (rI CDivB fun i j=>.int (i / j)) (tVar 6) (tC (.int 3))) (tC (.int 6))) (tCons (tOp (rI (fun _ j=>0 < j) fun i j=>.int (i % j)) (tOp (rI CDivB fun i j=>.int (i / j)) (tVar 6) (tC (.int 3))) (tOp (rI0 fun i j=>.int (i + j)) (tOp (rI CPow fun i j=>.int (i ^ j.toNat)) (tC (.int 10)) (tC (.int 29))) (tC (.int 1)))) (tCons (tOp (rI0 fun i j=>.int (i - j)) (tOp (rI CPow fun i j=>.int (i ^ j.toNat)) (tC (.int 10)) (tC (.int 29))) (tOp (rI (fun _ j=>0 < j) fun i j=>.int (i % j)) (tOp (rI CDivB fun i j=>.int (i / j)) (tVar 6) (tC (.int 3))) (tC (.int 2)))) tNil)))) (tOp (rI (fun _ j=>0 < j) fun i j=>.int (i % j)) (tVar 6) (tC (.int 3)))) (gName 6))
    (rd_law_7 K t))))
def rd_law (K:PySem.W.Frag) (t:Adr):TS:=(tSeq (tAsg (tCall sp__law_places [] E0 (tCons (tCall (sp__law_cell_at K) [] E0 (tCons (tVar 0) (tCons (tC (.int 0)) tNil))) tNil)) (gName 1))
    (tSeq (tAsg (tMake t.c_Makes (sp_Makes_init t) [] E0 (tCons (tLst tNil) tNil)) (gName 2))
    (tSeq (tAsg tDNewK (gName 3))
    (tSeq (tAsg (tC (.int 0)) (gName 4))
    (rd_law_4 K t)))))
section
variable {K:PySem.W.Frag} {t:Adr} {H:Hp} {Q:VK}
theorem pow10 {j:Int} (h0:0≤j) (h1:j≤100):CPow 10 j:=⟨h0,by omega,by decide⟩
theorem small_size {n:Nat} (h:n≤100000):n≤sizeLine:=Nat.le_trans h (by decide)
theorem kit_same (T:String):PySem.W.kitOne K (.type T) (.type T)=some true:=by
  unfold PySem.W.kitOne
  rw [if_pos (by simp)]
theorem kf (K:PySem.W.Frag):KF K:=⟨by with_unfolding_all rfl⟩
theorem dB {i j:Int} (h0:0 < j:=by decide) (h1:j < 10000000000000000000000000000000000000000000000:=by decide):CDivB i j:=by
  have hb:(10000000000000000000000000000000000000000000000:Int) < big:=by decide +kernel
  exact ⟨h0,by omega⟩
theorem at_lt {α:Type} {xs:List α} {i:Int} (h0:0≤i) (h1:i < xs.length):∃ x,atI xs i=some x∧x∈xs:=by
  obtain ⟨n,rfl⟩:∃ n:Nat,i=(n:Int):=⟨i.toNat,by omega⟩
  have hn:n < xs.length:=by omega
  refine ⟨xs[n],?_,List.getElem_mem hn⟩
  unfold atI ixN
  rw [if_pos h0,if_pos h1]
  simp [hn]
theorem at_mod {α:Type} {xs:List α} (e:Int) (n:Nat) (hl:xs.length=n) (hn:0 < (n:Int)):∃ x,atI xs (e % n)=some x∧x∈xs :=
  at_lt (Int.emod_nonneg _ (by omega)) (by rw [hl];exact Int.emod_lt_of_pos _ hn)
theorem abc_len:(Str.ofString "abcdefghijklmnopqrstuvwxyz").cps.toList.length=26:=by decide +kernel
theorem one_len (c:Nat):({ cps:=#[c] }:Str).length=1:=rfl
theorem fresh_of {H H':Hp} {D:Addr} (s:Same H H') (h:H' D=none):H D=none:=by
  cases e:H D with
  | none=>rfl
  | some o=>rw [s _ _ e] at h;cases h
theorem abc_in:∀ c∈(Str.ofString "abcdefghijklmnopqrstuvwxyz").cps.toList,inL c=true:=by decide +kernel
theorem all_one {c:Nat} (h:inL c=true):(⟨#[c]⟩:Str).cps.toList.all inL=true:=by
  show [c].all inL=true
  rw [List.all_cons,h];rfl
theorem LW_take {x:Str} {k:Nat} (h:LW x) (hk:1≤k):LW (Txt.slice x none (some (k:Int))):=by
  obtain ⟨h1,h2,h3⟩:=h
  have e:=slice_to x k
  rw [len_cps] at h2 h3
  refine ⟨by rw [e];exact all_take h1 _,?_,?_⟩ <;> rw [len_cps,e,List.length_take] <;> omega
def TSame (H H':Hp):Prop:=∀ b ys,H b=some (.tup ys)→H' b=some (.tup ys)
theorem Same.ts {H H':Hp} (s:Same H H'):TSame H H':=fun b ys e=>s _ _ e
theorem comp_inv {J:It} {D:Addr} {τ₀:St} {H1:Hp} {Q:Hp→Prop} {B:V→St→Hp→(V→St→Hp→Prop)→(St→Hp→Prop)→Prop} (n:Nat) (hn:n≤1000000) (C:St→Prop) (R:Nat→List V→Hp→Prop) (hm:∀ i ys H H',TSame H H'→R i ys H→R i ys H') (hC:C τ₀) (h0:R 0 [] H1)
    (go:∀ i H,Same H1 H→i < n→J.go i H) (stop:∀ H,Same H1 H→J.stop n H) (hD:H1 D=none)
    (hs:∀ i x τ ys H H',C τ→Same H1 H→i < n→R i ys H→J.yld i H x H'→B x τ H' (fun v τ' H4=>C τ'∧R (i + 1) (ys ++ [v]) H4∧Same H H4) (fun τ' H4=>C τ'∧R (i + 1) ys H4∧Same H H4))
    (hd:∀ ys H,ys.length≤n→R n ys H→Same H1 H→H D=some (.lst ys)→Q H) :
    ∃ W:Nat→Nat→List V→St→Hp→Prop,(∃ m,W 0 m [] τ₀ (upd H1 D (.lst [])))∧∀ i m ys τ H,W i m ys τ H→H D=some (.lst ys) ∧
    ((J.stop i H∧Q H)∨(J.go i H∧ys.length < sizeLine∧∃ N:V→St→Hp→Prop,
      (∀ v τ' H',N v τ' H'→H' D=some (.lst ys)∧∃ m',m' < m∧W (i + 1) m' (ys ++ [v]) τ' (upd H' D (.lst (ys ++ [v]))))∧∃ Nf:St→Hp→Prop,(∀ τ' H',Nf τ' H'→∃ m',m' < m∧W (i + 1) m' ys τ' H') ∧
      ∀ x H',J.yld i H x H'→B x τ H' N Nf)):=by
  have ext:∀ {H:Hp} {o:HO},Same H1 H→Same H1 (upd H D o):=fun {H o} h b u e=>by
    rw [upd_ne (ne_of_none e hD)];exact h b u e
  refine ⟨fun i m ys τ H=>m=n - i∧i≤n∧ys.length≤i∧R i ys H∧Same H1 H∧H D=some (.lst ys)∧C τ,⟨n,by simp,Nat.zero_le _,Nat.le_refl _,hm _ _ _ _ (Same.ts (ext (Same.refl _))) h0,ext (Same.refl _),upd_same,hC⟩,?_⟩
  rintro i m ys τ H ⟨rfl,hi,hl,hR,hS,hy,hc⟩
  refine ⟨hy,?_⟩
  by_cases hlt:i < n
  · refine .inr ⟨go i H hS hlt,Nat.lt_of_le_of_lt (by omega:ys.length≤1000000) (by decide),_,?_,_,?_,fun x H' y=>hs i x τ ys H H' hc hS hlt hR y⟩
    · rintro v τ' H4 ⟨c4,r4,s4⟩
      have y4:=s4 _ _ hy
      exact ⟨y4,n - (i + 1),by omega,rfl,hlt,by simp;omega,hm _ _ _ _ (fun b zs e=>by rw [upd_ne (ne_of e y4 (by simp))];exact e) r4,ext (hS.trans s4),upd_same,c4⟩
    · rintro τ' H4 ⟨c4,r4,s4⟩
      exact ⟨n - (i + 1),by omega,rfl,hlt,by omega,r4,hS.trans s4,s4 _ _ hy,c4⟩
  · obtain rfl:i=n:=by omega
    exact .inl ⟨stop H hS,hd ys H hl hR hS hy⟩
def drwI (c m:Int) (A:Addr) (H:Hp) (i:Nat) (σ:St) (H':Hp):Prop:=∃ lo hi o,∃ xs:List Int,σ=[some (.int c),some (.int m),some (.int lo),some (.int hi),some (.ref A),o]∧(0≤lo∧lo < 1500000000)∧(0≤hi∧hi < 1500000000)∧H' A=some (.lst (xs.map V.int))∧xs.length=i∧(∀ x∈xs,drI x)∧Same H H'
theorem drw_put {c m lo hi:Int} {A:Addr} {H H':Hp} {i:Nat} {o:Option V} {xs:List Int} (hA:H A=none) (hx:H' A=some (.lst (xs.map V.int))) (hl:xs.length=i) (hs:∀ x∈xs,drI x) (S:Same H H') (l1:0≤lo∧lo < 1500000000) (l2:0≤hi∧hi < 1500000000) :
    drwI c m A H (i + 1) [some (.int c),some (.int m),some (.int lo),some (.int hi),some (.ref A),o] (upd H' A (.lst (xs.map V.int ++ [V.int (lo + hi)]))):=by
  refine ⟨_,_,_,xs ++ [lo + hi],rfl,l1,l2,?_,?_,?_,?_⟩
  · rw [upd_same,List.map_append];rfl
  · rw [List.length_append,hl];rfl
  · intro x hx
    rcases List.mem_append.mp hx with h | h
    · exact hs x h
    · rw [List.mem_singleton.mp h];exact ⟨by omega,by omega⟩
  · exact fun b o e=>by rw [upd_ne (fun z=>by subst z;rw [hA] at e;cases e)];exact S _ _ e
theorem rdp__law_drawn {c m:Int} (h0:0≤m) (h1:m≤64) (q:∀ l xs H',Same H H'→H l=none→H' l=some (.lst (List.map V.int xs))→(xs.length:Int)=m→(∀ x∈xs,drI x)→Q (.ref l) H') :
    rd__law_drawn K t { nx:=fun _ H'=>Q .non H',rt:=Q } (L2.start ["cell","many","low","high","found","k"] [.int c,.int m]) H:=by
  simp only [rd__law_drawn,L2.start,r_mt_append,rAppend,tSeq,tAsg,gName,tRet,tDrop,tOp,tVar,tC,tLst,tCons,tNil,tFor,tBM,tyV,iRng1,rI,rI0,List.map,List.replicate,List.length,List.append,List.cons_append,List.nil_append,List.append_nil,List.getElem?_cons_zero,List.getElem?_cons_succ,Option.some.injEq,exists_eq_left',exists_eq_left,V.int.injEq,V.ref.injEq,V.str.injEq,V.bl.injEq,V.ty.injEq,List.cons.injEq,and_true,true_and,and_assoc,exists_and_left,List.set_cons_zero,List.set_cons_succ,Nat.reduceSub,Nat.reduceAdd,decide_eq_true_eq,Bool.not_eq_true',decide_eq_false_iff_not,Int.reduceToNat,Int.reducePow,Int.reduceNeg,Int.reduceMul,Int.reduceAdd,if_true,ite_true,Bool.false_eq_true,ite_false,if_false]
  have hb:(10000000000000000000000000000000000000000000000:Int) < big:=by decide +kernel
  have g1:=Int.emod_nonneg c (b:=999999937) (by decide)
  have g2:=Int.emod_lt_of_pos c (b:=999999937) (by decide)
  have g3:=Int.emod_nonneg (c / 999999937) (b:=999999929) (by decide)
  have g4:=Int.emod_lt_of_pos (c / 999999937) (b:=999999929) (by decide)
  refine ⟨by decide,dB,by decide,Nat.zero_le _,fun A hA=>⟨by omega,by omega,loop_range (drwI c m A H) ⟨_,_,_,[],rfl,⟨by omega,by omega⟩,⟨by omega,by omega⟩,upd_same,rfl,(fun _ z=>nomatch z),isV A hA⟩ ?_ ?_⟩⟩
  · rintro i σ H' hi ⟨lo,hi,o,xs,rfl,l1,l2,hx,hl,hs,S⟩
    simp only [L2.start,r_mt_append,rAppend,tSeq,tAsg,gName,tRet,tDrop,tOp,tVar,tC,tLst,tCons,tNil,tFor,tBM,tyV,iRng1,rI,rI0,List.map,List.replicate,List.length,List.append,List.cons_append,List.nil_append,List.append_nil,List.getElem?_cons_zero,List.getElem?_cons_succ,Option.some.injEq,exists_eq_left',exists_eq_left,V.int.injEq,V.ref.injEq,V.str.injEq,V.bl.injEq,V.ty.injEq,List.cons.injEq,and_true,true_and,and_assoc,exists_and_left,List.set_cons_zero,List.set_cons_succ,Nat.reduceSub,Nat.reduceAdd,decide_eq_true_eq,Bool.not_eq_true',decide_eq_false_iff_not,Int.reduceToNat,Int.reducePow,Int.reduceNeg,Int.reduceMul,Int.reduceAdd,if_true,ite_true,Bool.false_eq_true,ite_false,if_false]
    have a1:=Int.emod_nonneg (lo * 40009 + hi + (0 + (i:Int))) (b:=999999937) (by decide)
    have a2:=Int.emod_lt_of_pos (lo * 40009 + hi + (0 + (i:Int))) (b:=999999937) (by decide)
    generalize (lo * 40009 + hi + (0 + (i:Int))) % 999999937=lo' at *
    have b1:=Int.emod_nonneg (hi * 31 + lo' * lo') (b:=999999929) (by decide)
    have b2:=Int.emod_lt_of_pos (hi * 31 + lo' * lo') (b:=999999929) (by decide)
    refine ⟨⟨⟨by omega,by omega⟩,by omega,by omega⟩,by decide,⟨⟨by omega,by omega⟩,by omega,by omega⟩,⟨⟨by omega,by omega⟩,by omega,by omega⟩,by decide,.inl ⟨_,SqL.of hx⟩,_,hx,Nat.lt_of_lt_of_le (m:=100000) (by rw [List.length_map];omega) (by decide),?_⟩
    exact drw_put hA hx hl hs S ⟨by omega,by omega⟩ ⟨by omega,by omega⟩
  · rintro σ H' ⟨lo,hi,o,xs,rfl,l1,l2,hx,hl,hs,S⟩
    exact ⟨_,rfl,q _ _ _ S hA hx (by omega) hs⟩
theorem at_dr {xs:List Int} {k:Nat} (h:k < xs.length) (hs:∀ x∈xs,drI x):∃ x,atI (xs.map V.int) (k:Int)=some (V.int x)∧drI x:=by
  obtain ⟨v,h1,h2⟩:=at_lt (xs:=xs.map V.int) (i:=(k:Int)) (by omega) (by rw [List.length_map];omega)
  obtain ⟨x,hx,rfl⟩:=List.mem_map.mp h2
  exact ⟨x,h1,hs x hx⟩
theorem drI.cb {x:Int} (h:drI x):Cb x:=Cb.of (by obtain ⟨a,b⟩:=h;omega)
theorem free31 {x:Str} (h:LW x):isName (if inV (.str x) (wl ++ jw)=true then Txt.slice x none (some (-1)) ++ "q" else x)=true:=by
  obtain ⟨h1,h2,h3⟩:=h
  have e:inV (.str x) (wl ++ jw)=(inV (.str x) wl || inV (.str x) jw):=by unfold inV;rw [List.any_append]
  rw [e]
  by_cases a:inV (.str x) wl=true
  · rw [a,Bool.true_or,if_pos rfl]
    rcases (wl_str x).mp a with rfl | rfl | rfl | rfl | rfl | rfl | rfl | rfl | rfl <;> decide +kernel
  · by_cases b:inV (.str x) jw=true
    · rw [b,Bool.or_true,if_pos rfl]
      rcases (isJ_str x).mp b with rfl | rfl | rfl | rfl | rfl | rfl | rfl <;> decide +kernel
    · rw [Bool.eq_false_iff.mpr a,Bool.eq_false_iff.mpr b,if_neg (by decide)]
      have e0:¬ x="":=fun z=>by
        rw [z] at h2
        exact absurd h2 (by decide +kernel)
      unfold isName
      rw [decide_eq_false e0,decide_eq_false (by omega:¬ 6 < x.length),Bool.eq_false_iff.mpr a,Bool.eq_false_iff.mpr b,h1]
      rfl
theorem rdp__law_cell_at {a:Addr} {ns:List Int} {k:Nat} (hS:SqL K H a (ns.map V.int)) (hl:ns.length≤63) (hb:∀ i∈ns,Cb i) (q:∀ c H',Same H H'→Cb c→Q (.int c) H') :
    rd__law_cell_at K t { nx:=fun _ H'=>Q .non H',rt:=Q } (L2.start ["script","k"] [.ref a,.int k]) H:=by
  simp only [rd__law_cell_at,L2.start,tSeq,tRet,tNext,tOp,tVar,tC,tCons,tNil,tIfS,tTest,tCB,LenV,rIxL,rI0,cLen,List.map,List.replicate,List.length,List.append,List.cons_append,List.nil_append,List.append_nil,List.getElem?_cons_zero,List.getElem?_cons_succ,Option.some.injEq,exists_eq_left',exists_eq_left,V.int.injEq,V.ref.injEq,V.str.injEq,V.bl.injEq,V.ty.injEq,List.cons.injEq,and_true,true_and,and_assoc,exists_and_left,List.set_cons_zero,List.set_cons_succ,Nat.reduceSub,Nat.reduceAdd,decide_eq_true_eq,Bool.not_eq_true',decide_eq_false_iff_not,Int.reduceToNat,Int.reducePow,Int.reduceNeg,Int.reduceMul,Int.reduceAdd,if_true,ite_true,Bool.false_eq_true,ite_false,if_false]
  refine ⟨_,.inl ⟨_,hS,rfl⟩,ite2 (fun e=>?_) fun e=>?_⟩
  · rw [List.length_map] at e
    obtain ⟨v,h1,h2⟩:=at_lt (xs:=ns.map V.int) (i:=(k:Int)) (by omega) (by rw [List.length_map];omega)
    obtain ⟨x,hx,rfl⟩:=List.mem_map.mp h2
    exact ⟨_,hS,_,h1,q _ _ (Same.refl _) (hb x hx)⟩
  · exact q _ _ (Same.refl _) (Cb.of (by decide))
theorem rdp__law_whole {i:Int} (kf:KF K) (q:∀ H',Same H H'→Q (.bl true) H') :
    rd__law_whole K t { nx:=fun _ H'=>Q .non H',rt:=Q } (L2.start ["found"] [.int i]) H:=by
  simp only [rd__law_whole,L2.start,tRet,tVar,tC,tCons,tNil,tAndV,tNotV,tCB,cIsi,List.map,List.replicate,List.length,List.append,List.cons_append,List.nil_append,List.append_nil,List.getElem?_cons_zero,List.getElem?_cons_succ,Option.some.injEq,exists_eq_left',exists_eq_left,V.int.injEq,V.ref.injEq,V.str.injEq,V.bl.injEq,V.ty.injEq,List.cons.injEq,and_true,true_and,and_assoc,exists_and_left,List.set_cons_zero,List.set_cons_succ,Nat.reduceSub,Nat.reduceAdd,decide_eq_true_eq,Bool.not_eq_true',decide_eq_false_iff_not,Int.reduceToNat,Int.reducePow,Int.reduceNeg,Int.reduceMul,Int.reduceAdd,if_true,ite_true,Bool.false_eq_true,ite_false,if_false]
  refine ⟨_,.int _,true,kit_same _,?_⟩
  rw [if_pos rfl]
  exact ⟨_,.int _,false,kf.i_b,q _ (Same.refl _)⟩
theorem wB_mod (e:Int):wB (e % 2000000000000000000000000000001 - 1000000000000000000000000000000):=by
  have g1:=Int.emod_nonneg e (b:=2000000000000000000000000000001) (by decide)
  have g2:=Int.emod_lt_of_pos e (b:=2000000000000000000000000000001) (by decide)
  exact ⟨by omega,by omega⟩
theorem cb_gold:Cw 618033988749894848204586834365:=by unfold Cw;decide +kernel
theorem cb_two:CMulC 2 1000000000000000000000000000000:=⟨by unfold Cw;decide +kernel,by unfold Cw;decide +kernel⟩
theorem rdp__law_worth {c:Int} (h:Cw c) (q:∀ w H',Same H H'→wB w→Q (.int w) H') :
    rd__law_worth K t { nx:=fun _ H'=>Q .non H',rt:=Q } (L2.start ["cell","rest"] [.int c]) H:=by
  simp only [rd__law_worth,L2.start,tSeq,tAsg,gName,tRet,tNext,tOp,tUn,tVar,tC,tLst,tCons,tNil,tIfS,tTest,rIxL,rEq,rI,rI0,rU,scal,List.map,List.replicate,List.length,List.append,List.cons_append,List.nil_append,List.append_nil,List.getElem?_cons_zero,List.getElem?_cons_succ,Option.some.injEq,exists_eq_left',exists_eq_left,V.int.injEq,V.ref.injEq,V.str.injEq,V.bl.injEq,V.ty.injEq,List.cons.injEq,and_true,true_and,and_assoc,exists_and_left,List.set_cons_zero,List.set_cons_succ,Nat.reduceSub,Nat.reduceAdd,decide_eq_true_eq,Bool.not_eq_true',decide_eq_false_iff_not,Int.reduceToNat,Int.reducePow,Int.reduceNeg,Int.reduceMul,Int.reduceAdd,if_true,ite_true,Bool.false_eq_true,ite_false,if_false]
  refine ⟨dB,by decide,ite2 (fun e=>⟨⟨h.div,cb_gold⟩,pow10 (by decide) (by decide),cb_two,by decide,pow10 (by decide) (by decide),q _ _ (Same.refl _) (wB_mod _)⟩) fun e=>⟨by decide,ite2 (fun e=>⟨pow10 (by decide) (by decide),pow10 (by decide) (by decide),pow10 (by decide) (by decide),by decide,fun p hp=>⟨by decide,?_⟩⟩) fun e=>⟨by decide,q _ _ (Same.refl _) ?_⟩⟩⟩
  · obtain ⟨x,e1,e2⟩:=at_mod (xs:=[V.int 1000000000000000000000000000000,V.int (-1000000000000000000000000000000),V.int (1000000000000000000000000000000 - 1),V.int 0,V.int 64,V.int (-64),V.int 1,V.int (-1)]) (c / 4) 8 rfl (by decide)
    refine ⟨_,SqL.of upd_same,_,e1,?_⟩
    have S:=isV (o:=HO.lst [V.int 1000000000000000000000000000000,V.int (-1000000000000000000000000000000),V.int (1000000000000000000000000000000 - 1),V.int 0,V.int 64,V.int (-64),V.int 1,V.int (-1)]) p hp
    simp only [List.mem_cons,List.not_mem_nil,or_false] at e2
    rcases e2 with rfl | rfl | rfl | rfl | rfl | rfl | rfl | rfl <;> exact q _ _ S ⟨by decide,by decide⟩
  · have g1:=Int.emod_nonneg (c / 4) (b:=7) (by decide)
    have g2:=Int.emod_lt_of_pos (c / 4) (b:=7) (by decide)
    exact ⟨by omega,by omega⟩
def nmI (sz:Int) (xl:Addr) (k at_:Int) (wd:Addr) (c:Int) (A:Addr) (H:Hp) (i:Nat) (σ:St) (H':Hp):Prop:=(∃ (x:Str) (o o2:Option V),σ=[some (.int c),some (.str (Str.ofString "abcdefghijklmnopqrstuvwxyz")),some (.ref wd),some (.int sz),some (.int at_),some (.ref xl),some (.ref A),some (.int k),some (.str x),o,o2]∧x.length=i∧x.cps.toList.all inL=true)∧H'=H
def nmsI (c sz at_:Int) (xl wd A:Addr) (H:Hp) (i:Nat) (σ:St) (H':Hp):Prop:=∃ (ws:List Str) (o1 o2 o3 o4:Option V),σ=[some (.int c),some (.str (Str.ofString "abcdefghijklmnopqrstuvwxyz")),some (.ref wd),some (.int sz),some (.int at_),some (.ref xl),some (.ref A),o1,o2,o3,o4]∧H' A=some (.lst (ws.map V.str))∧ws.length=i∧(∀ w∈ws,isName w=true)∧Same H H'
theorem rdp_nmB {D:Ends} {c sz at_ kk:Int} {l wd A:Addr} {x:Str} {o o2:Option V} {ws:List Str} (lw:LW x) (hA:H A=some (.lst (ws.map V.str))) (hl:ws.length≤10) (hw:H wd=some (.lst (wl ++ jw)))
    (q:∀ y,isName y=true→D.nx [some (.int c),some (.str (Str.ofString "abcdefghijklmnopqrstuvwxyz")),some (.ref wd),some (.int sz),some (.int at_),some (.ref l),some (.ref A),some (.int kk),some (.str y),o,o2] (upd H A (.lst (ws.map V.str ++ [V.str y])))) :
    rd__law_names_B K t D [some (.int c),some (.str (Str.ofString "abcdefghijklmnopqrstuvwxyz")),some (.ref wd),some (.int sz),some (.int at_),some (.ref l),some (.ref A),some (.int kk),some (.str x),o,o2] H:=by
  have hn:=free31 lw
  have l3:=lw.2.2
  have l4:=Txt.slice_le x none (some (-1))
  have l5:(ws.map V.str).length < sizeLine:=Nat.lt_of_lt_of_le (m:=100000) (by rw [List.length_map];omega) (by decide)
  simp only [rd__law_names_B,L2.start,r_mt_append,rAppend,tSeq,tAsg,gName,tDrop,tNext,tOp,tUn,tVar,tC,tCons,tNil,tIfS,tTest,tBM,tyV,tSl,tPart,tNoPart,rU,rIn,rSlS,rAddS,List.map,List.replicate,List.length,List.append,List.cons_append,List.nil_append,List.append_nil,List.getElem?_cons_zero,List.getElem?_cons_succ,Option.some.injEq,exists_eq_left',exists_eq_left,V.int.injEq,V.ref.injEq,V.str.injEq,V.bl.injEq,V.ty.injEq,List.cons.injEq,and_true,true_and,and_assoc,exists_and_left,List.set_cons_zero,List.set_cons_succ,Nat.reduceSub,Nat.reduceAdd,decide_eq_true_eq,Bool.not_eq_true',decide_eq_false_iff_not,Int.reduceToNat,Int.reducePow,Int.reduceNeg,Int.reduceMul,Int.reduceAdd,if_true,ite_true,Bool.false_eq_true,ite_false,if_false]
  refine ⟨_,.inl (SqL.of hw),rfl,by decide,ite2 (fun e=>?_) fun e=>?_⟩
  · rw [if_pos e] at hn
    exact ⟨small_size (by omega),small_size (by have:(Str.ofString "q").length=1:=rfl;omega),.inl ⟨_,SqL.of hA⟩,_,hA,l5,q _ hn⟩
  · rw [if_neg e] at hn
    exact ⟨.inl ⟨_,SqL.of hA⟩,_,hA,l5,q _ hn⟩
theorem nms_put {c sz at_:Int} {l wd A:Addr} {H H':Hp} {k:Nat} {y:Str} {o1 o3 o4:Option V} {ws:List Str} (hA:H A=none) (hx:H' A=some (.lst (ws.map V.str))) (hl:ws.length=k) (ok:∀ w∈ws,isName w=true) (S:Same H H') (hy:isName y=true) :
    nmsI c sz at_ l wd A H (k + 1) [some (.int c),some (.str (Str.ofString "abcdefghijklmnopqrstuvwxyz")),some (.ref wd),some (.int sz),some (.int at_),some (.ref l),some (.ref A),o1,some (.str y),o3,o4] (upd H' A (.lst (ws.map V.str ++ [V.str y]))):=by
  refine ⟨ws ++ [y],_,_,_,_,rfl,?_,?_,?_,?_⟩
  · rw [upd_same,List.map_append];rfl
  · rw [List.length_append,hl];rfl
  · intro x hx
    rcases List.mem_append.mp hx with h | h
    · exact ok x h
    · rw [List.mem_singleton.mp h];exact hy
  · exact fun b o e=>by rw [upd_ne (fun z=>by subst z;rw [hA] at e;cases e)];exact S _ _ e
theorem rdp_names5 {c sz at_:Int} {wd:Addr} (h1:1≤sz) (h2:sz≤6) (hw:H wd=some (.lst (wl ++ jw))) (q:∀ nm H',Same H H'→NamesAt H' nm→Q (.ref nm) H') :
    rd__law_names_5 K t { nx:=fun _ H'=>Q .non H',rt:=Q } [some (.int c),some (.str (Str.ofString "abcdefghijklmnopqrstuvwxyz")),some (.ref wd),some (.int sz),some (.int at_),none,none,none,none,none,none] H:=by
  have hb:(10000000000000000000000000000000000000000000000:Int) < big:=by decide +kernel
  simp only [rd__law_names_5,sp__law_drawn,cMax2,L2.start,cIntB,r_mt_append,rAppend,tSeq,tAsg,gName,tRet,tDrop,tNext,tOp,tUn,tVar,tC,tLst,tCons,tNil,tFor,tIfS,tTest,tCB,tBM,tyV,tSl,tPart,tNoPart,tCall,iRng1,rIxL,rIxS,rEq,rI,rI0,rU,rIn,rSlS,rAddS,scal,List.map,List.replicate,List.length,List.append,List.cons_append,List.nil_append,List.append_nil,List.getElem?_cons_zero,List.getElem?_cons_succ,Option.some.injEq,exists_eq_left',exists_eq_left,V.int.injEq,V.ref.injEq,V.str.injEq,V.bl.injEq,V.ty.injEq,List.cons.injEq,and_true,true_and,and_assoc,exists_and_left,List.set_cons_zero,List.set_cons_succ,Nat.reduceSub,Nat.reduceAdd,decide_eq_true_eq,Bool.not_eq_true',decide_eq_false_iff_not,Int.reduceToNat,Int.reducePow,Int.reduceNeg,Int.reduceMul,Int.reduceAdd,if_true,ite_true,Bool.false_eq_true,ite_false,if_false]
  refine ⟨dB,by omega,by omega,fun l xs H1 s1 _ hx hl hs=>⟨Nat.zero_le _,fun A hA=>⟨by decide,by decide,loop_range (nmsI c sz at_ l wd A H1) ⟨[],none,none,none,none,rfl,upd_same,rfl,(fun _ z=>nomatch z),isV A hA⟩ ?_ ?_⟩⟩⟩
  · rintro k σ H' hk ⟨ws,o1,o2,o3,o4,rfl,hA',hl',ok,S⟩
    simp only [cMax2,L2.start,cIntB,r_mt_append,rAppend,tSeq,tAsg,gName,tRet,tDrop,tNext,tOp,tUn,tVar,tC,tLst,tCons,tNil,tFor,tIfS,tTest,tCB,tBM,tyV,tSl,tPart,tNoPart,tCall,iRng1,rIxL,rIxS,rEq,rI,rI0,rU,rIn,rSlS,rAddS,scal,List.map,List.replicate,List.length,List.append,List.cons_append,List.nil_append,List.append_nil,List.getElem?_cons_zero,List.getElem?_cons_succ,Option.some.injEq,exists_eq_left',exists_eq_left,V.int.injEq,V.ref.injEq,V.str.injEq,V.bl.injEq,V.ty.injEq,List.cons.injEq,and_true,true_and,and_assoc,exists_and_left,List.set_cons_zero,List.set_cons_succ,Nat.reduceSub,Nat.reduceAdd,decide_eq_true_eq,Bool.not_eq_true',decide_eq_false_iff_not,Int.reduceToNat,Int.reducePow,Int.reduceNeg,Int.reduceMul,Int.reduceAdd,if_true,ite_true,Bool.false_eq_true,ite_false,if_false]
    obtain ⟨n,rfl⟩:∃ n:Nat,sz=n:=⟨sz.toNat,by omega⟩
    obtain ⟨x0,e0,d0'⟩:=at_dr (k:=n) (by omega) hs
    refine ⟨by omega,by omega,loop_range (nmI n l (0 + (k:Int)) at_ wd c A H') ⟨⟨_,_,_,rfl,rfl,rfl⟩,rfl⟩ ?_ ?_⟩
    · rintro i σ H2 hi ⟨⟨x,o,o2,rfl,hx1,hx2⟩,rfl⟩
      simp only [cMax2,L2.start,cIntB,r_mt_append,rAppend,tSeq,tAsg,gName,tRet,tDrop,tNext,tOp,tUn,tVar,tC,tLst,tCons,tNil,tFor,tIfS,tTest,tCB,tBM,tyV,tSl,tPart,tNoPart,tCall,iRng1,rIxL,rIxS,rEq,rI,rI0,rU,rIn,rSlS,rAddS,scal,List.map,List.replicate,List.length,List.append,List.cons_append,List.nil_append,List.append_nil,List.getElem?_cons_zero,List.getElem?_cons_succ,Option.some.injEq,exists_eq_left',exists_eq_left,V.int.injEq,V.ref.injEq,V.str.injEq,V.bl.injEq,V.ty.injEq,List.cons.injEq,and_true,true_and,and_assoc,exists_and_left,List.set_cons_zero,List.set_cons_succ,Nat.reduceSub,Nat.reduceAdd,decide_eq_true_eq,Bool.not_eq_true',decide_eq_false_iff_not,Int.reduceToNat,Int.reducePow,Int.reduceNeg,Int.reduceMul,Int.reduceAdd,if_true,ite_true,Bool.false_eq_true,ite_false,if_false]
      obtain ⟨xi,e1,d1⟩:=at_dr (k:=i) (by omega) hs
      have i0:(0 + (i:Int))=(i:Int):=by omega
      have b1:0≤(if 0 + (i:Int)=at_ then (1:Int) else 0)∧(if 0 + (i:Int)=at_ then (1:Int) else 0)≤1:=by split <;> exact ⟨by decide,by decide⟩
      generalize (if 0 + (i:Int)=at_ then (1:Int) else 0)=z at *
      have b2:-100 < (0 + (k:Int)) * z∧(0 + (k:Int)) * z < 100:=by
        have:z=0∨z=1:=by omega
        rcases this with rfl | rfl <;> exact ⟨by omega,by omega⟩
      generalize (0 + (k:Int)) * z=y at *
      rw [i0]
      obtain ⟨c2,hc2,hm2⟩:=at_mod (xi + y * (x0 % 2)) 26 abc_len (by decide)
      refine ⟨⟨⟨by omega,by omega⟩,by omega,by omega⟩,_,SqL.of (S _ _ hx),_,e0,_,rfl,by decide,⟨⟨by omega,by omega⟩,by omega,by omega⟩,_,SqL.of (S _ _ hx),_,e1,_,rfl,by decide,by decide +kernel,c2,hc2,small_size (by rw [one_len];omega),⟨⟨_,_,_,rfl,?_,?_⟩,rfl⟩⟩
      · rw [len_app,one_len];omega
      · rw [cps_app];exact all_app hx2 (all_one (abc_in c2 hm2))
    · rintro σ H2 ⟨⟨x,o,o2,rfl,hx1,hx2⟩,rfl⟩
      simp only [cMax2,L2.start,cIntB,r_mt_append,rAppend,tSeq,tAsg,gName,tRet,tDrop,tNext,tOp,tUn,tVar,tC,tLst,tCons,tNil,tFor,tIfS,tTest,tCB,tBM,tyV,tSl,tPart,tNoPart,tCall,iRng1,rIxL,rIxS,rEq,rI,rI0,rU,rIn,rSlS,rAddS,scal,List.map,List.replicate,List.length,List.append,List.cons_append,List.nil_append,List.append_nil,List.getElem?_cons_zero,List.getElem?_cons_succ,Option.some.injEq,exists_eq_left',exists_eq_left,V.int.injEq,V.ref.injEq,V.str.injEq,V.bl.injEq,V.ty.injEq,List.cons.injEq,and_true,true_and,and_assoc,exists_and_left,List.set_cons_zero,List.set_cons_succ,Nat.reduceSub,Nat.reduceAdd,decide_eq_true_eq,Bool.not_eq_true',decide_eq_false_iff_not,Int.reduceToNat,Int.reducePow,Int.reduceNeg,Int.reduceMul,Int.reduceAdd,if_true,ite_true,Bool.false_eq_true,ite_false,if_false]
      have lw:LW x:=⟨hx2,by omega,by omega⟩
      have wd':=S _ _ (s1 _ _ hw)
      refine ⟨_,SqL.of (S _ _ hx),_,e0,_,rfl,by decide,ite2 (fun e=>⟨small_size (by omega),?_⟩) fun e=>?_⟩
      · obtain ⟨m,hm,hm1⟩:∃ m:Nat,(if (n:Int) - (0 + (k:Int)) > 1 then (n:Int) - (0 + (k:Int)) else 1)=(m:Int)∧1≤m:=by
          by_cases z:(n:Int) - (0 + (k:Int)) > 1
          · rw [if_pos z];exact ⟨((n:Int) - (0 + (k:Int))).toNat,by omega,by omega⟩
          · rw [if_neg z];exact ⟨1,rfl,Nat.le_refl _⟩
        rw [hm]
        exact rdp_nmB (LW_take lw hm1) hA' (by omega) wd' fun y hy=>nms_put hA hA' hl' ok S hy
      · exact rdp_nmB lw hA' (by omega) wd' fun y hy=>nms_put hA hA' hl' ok S hy
  · rintro σ H' ⟨ws,o1,o2,o3,o4,rfl,hA',hl',ok,S⟩
    exact ⟨_,rfl,q _ _ (s1.trans S) ⟨ws,hA',by omega,ok⟩⟩
theorem rdp__law_names {c:Int} (q:∀ nm H',Same H H'→NamesAt H' nm→Q (.ref nm) H') :
    rd__law_names K t { nx:=fun _ H'=>Q .non H',rt:=Q } (L2.start ["cell","letters","words","size","at","xs","names","k","name","j","step"] [.int c]) H:=by
  have g1:=Int.emod_nonneg c (b:=6) (by decide)
  have g2:=Int.emod_lt_of_pos c (b:=6) (by decide)
  simp only [rd__law_names,rCat,cMax2,L2.start,cIntB,r_mt_append,rAppend,tSeq,tAsg,gName,tRet,tDrop,tNext,tOp,tUn,tVar,tC,tLst,tCons,tNil,tFor,tIfS,tTest,tCB,tBM,tyV,tSl,tPart,tNoPart,tCall,iRng1,rCat,rIxL,rIxS,rEq,rI,rI0,rU,rIn,rSlS,rAddS,scal,List.map,List.replicate,List.length,List.append,List.cons_append,List.nil_append,List.append_nil,List.getElem?_cons_zero,List.getElem?_cons_succ,Option.some.injEq,exists_eq_left',exists_eq_left,V.int.injEq,V.ref.injEq,V.str.injEq,V.bl.injEq,V.ty.injEq,List.cons.injEq,and_true,true_and,and_assoc,exists_and_left,List.set_cons_zero,List.set_cons_succ,Nat.reduceSub,Nat.reduceAdd,decide_eq_true_eq,Bool.not_eq_true',decide_eq_false_iff_not,Int.reduceToNat,Int.reducePow,Int.reduceNeg,Int.reduceMul,Int.reduceAdd,if_true,ite_true,Bool.false_eq_true,ite_false,if_false]
  refine ⟨by decide,fun p hp=>?_⟩
  have S1:=isV (o:=HO.lst wl) p hp
  have a1:upd H p (.lst wl) p=some (.lst wl):=upd_same
  generalize hH1:upd H p (.lst wl)=H1 at *
  rw [show upd H p (.lst [V.str (Str.ofString "take"),V.str (Str.ofString "give"),V.str (Str.ofString "let"),V.str (Str.ofString "say"),V.str (Str.ofString "off"),V.str (Str.ofString "if"),V.str (Str.ofString "else"),V.str (Str.ofString "end"),V.str (Str.ofString "as")])=H1 from hH1]
  refine ⟨by decide,fun p1 hp1=>?_⟩
  have S2:=isV (o:=HO.lst jw) p1 hp1
  have a2:upd H1 p1 (.lst jw) p1=some (.lst jw):=upd_same
  generalize hH2:upd H1 p1 (.lst jw)=H2 at *
  rw [show upd H1 p1 (.lst [V.str (Str.ofString "plus"),V.str (Str.ofString "minus"),V.str (Str.ofString "times"),V.str (Str.ofString "over"),V.str (Str.ofString "rest"),V.str (Str.ofString "under"),V.str (Str.ofString "same")])=H2 from hH2]
  refine ⟨wl,S2 _ _ a1,jw,a2,by decide,fun p2 hp2=>⟨by decide,dB,by omega,?_⟩⟩
  exact rdp_names5 (by omega) (by omega) upd_same fun nm H' s' hn=>q nm H' (S1.trans (S2.trans ((isV p2 hp2).trans s'))) hn
theorem PlV.same {H H':Hp} {v:V} {q:Pl} (s:Same H H') (h:PlV H v q):PlV H' v q:=by
  obtain ⟨p,e,h1⟩:=h
  exact ⟨p,e,s _ _ h1⟩
theorem pr_same {H H':Hp} {v:V} {q:Row} (s:Same H H') (h:PrAt H v q):PrAt H' v q:=by
  obtain ⟨r,p,e,h1,h2⟩:=h
  exact ⟨r,p,e,s _ _ h1,s _ _ h2⟩
theorem tup_upd {H:Hp} {A p:Addr} {xs ys zs:List V} (hA:H A=some (.lst xs)) (h:H p=some (.tup zs)):upd H A (.lst ys) p=some (.tup zs):=by
  rw [upd_ne (fun z=>by subst z;rw [hA] at h;cases h)];exact h
theorem PlV.upd {H:Hp} {A:Addr} {xs ys:List V} {v:V} {q:Pl} (hA:H A=some (.lst xs)) (h:PlV H v q):PlV (L2.upd H A (.lst ys)) v q:=by
  obtain ⟨p,e,h1⟩:=h
  exact ⟨p,e,tup_upd hA h1⟩
theorem pr_upd {H:Hp} {A:Addr} {xs ys:List V} {v:V} {q:Row} (hA:H A=some (.lst xs)) (h:PrAt H v q):PrAt (upd H A (.lst ys)) v q:=by
  obtain ⟨r,p,e,h1,h2⟩:=h
  exact ⟨r,p,e,tup_upd hA h1,tup_upd hA h2⟩
def plD (q:Pl):PyData:=.tuple [.str q.1,.int q.2]
theorem plD_inj {p q:Pl} (h:plD p=plD q):p=q:=by
  unfold plD at h
  simp only [PyData.tuple.injEq,List.cons.injEq,PyData.str.injEq,PyData.int.injEq,and_true] at h
  exact Prod.ext h.1 h.2
theorem plD_mem {q:Pl} {ps:List Pl}:plD q∈ps.map plD↔q∈ps:=by
  constructor
  · intro h
    obtain ⟨p,hp,e⟩:=List.mem_map.mp h
    rw [← plD_inj e];exact hp
  · exact fun h=>List.mem_map.mpr ⟨_,h,rfl⟩
theorem plD_dat {H:Hp} {v:V} {q:Pl} (h:PlV H v q):Dat K H v (plD q):=by
  obtain ⟨p,rfl,h1⟩:=h
  exact .tup (SqT.of h1) (.cons (.str _) (.cons (.int _) .nil))
theorem pls_dat {H:Hp}:∀ {xs:List V} {ps:List Pl},Paired (PlV H) xs ps→DatAll K H xs (ps.map plD)
  | _,_,.nil=>.nil
  | _,_,.cons h t=>.cons (plD_dat h) (pls_dat t)
theorem plD_ok {q:Pl} (h:isName q.1=true):plainD (plD q)=true:=by
  have e:PyData.strOk q.1=true:=(name_asc h).flat
  unfold plD
  rw [plainD,plainDs,plainDs,plainDs,plainD,plainD,e];rfl
theorem plD_deep (q:Pl):(plD q).depth≤50:=by
  unfold plD
  simp [PyData.depth,PyData.depthAll]
theorem pls_ok {ps:List Pl} (h:∀ q∈ps,okPl q):∀ e∈ps.map plD,plainD e=true:=fun e he=>by
  obtain ⟨q,hq,rfl⟩:=List.mem_map.mp he
  exact plD_ok (h q hq).1
theorem hid_sub {F:Addr→Prop} {H:Hp}:Same (Hid F H) H:=fun b o e=>by
  unfold Hid at e
  split at e
  · cases e
  · exact e
theorem hid_of {F:Addr→Prop} {H:Hp} {b:Addr} {o:HO} (n:¬ F b) (e:H b=some o):Hid F H b=some o:=by
  unfold Hid
  rw [if_neg n];exact e
theorem hid_not {F:Addr→Prop} {H:Hp} {b:Addr} {o:HO} (e:Hid F H b=some o):¬ F b:=fun z=>by
  unfold Hid at e
  rw [if_pos z] at e;cases e
theorem hid_step {F F':Addr→Prop} {H H':Hp} (k:∀ b o,¬ F b→H b=some o→H' b=some o) (f:∀ b,F' b→F b∨H b=none):Same (Hid F H) (Hid F' H'):=fun b o e=>by
  have n:=hid_not e
  have e1:=hid_sub _ _ e
  exact hid_of (fun z=>(f b z).elim n fun y=>by rw [y] at e1;cases e1) (k b o n e1)
theorem hid_same {F:Addr→Prop} {H H':Hp} (s:Same H H'):Same (Hid F H) (Hid F H'):=hid_step (fun b o _ e=>s b o e) fun b z=>.inl z
theorem hid_upd {F:Addr→Prop} {H:Hp} {A:Addr} {o:HO} (n:¬ F A):Hid F (upd H A o)=upd (Hid F H) A o:=by
  funext b
  by_cases e:b=A
  · subst e
    rw [upd_same];exact hid_of n upd_same
  · rw [upd_ne e]
    unfold Hid
    rw [upd_ne e]
theorem take_snoc {α:Type} {l:List α} {i:Nat} {x:α} (h:l[i]?=some x):l.take (i + 1)=l.take i ++ [x]:=by
  rw [List.take_add_one,h];rfl
def plI (c w nr:Int) (nm A:Addr) (H:Hp) (i:Nat) (σ:St) (H':Hp):Prop:=∃ (xs:List V) (ps:List Pl) (o1 o2:Option V),σ=[some (.int c),some (.ref nm),some (.int w),some (.int nr),some (.ref A),o1,o2]∧H' A=some (.lst xs)∧Paired (PlV H') xs ps∧ps.Nodup∧ps.length≤i∧(0 < i→0 < ps.length)∧(∀ q∈ps,okPl q)∧Same H H'
theorem rdp_places3 {c w nr:Int} {nm:Addr} (hn:NamesAt H nm) (hw:wB w) (hr:wB nr) (q:∀ p ps H',Same H H'→PlsAt H' p ps→Q (.ref p) H') :
    rd__law_places_3 K t { nx:=fun _ H'=>Q .non H',rt:=Q } [some (.int c),some (.ref nm),some (.int w),some (.int nr),none,none,none] H:=by
  have g1:=Int.emod_nonneg c (b:=9) (by decide)
  have g2:=Int.emod_lt_of_pos c (b:=9) (by decide)
  simp only [rd__law_places_3,rInA,L2.start,r_mt_append,rAppend,tSeq,tAsg,gName,tRet,tDrop,tNext,tOp,tVar,tC,tLst,tTup,tCons,tNil,tFor,tIfS,tTest,tBM,tyV,iRng1,rIxL,rI,rI0,List.map,List.replicate,List.length,List.append,List.cons_append,List.nil_append,List.append_nil,List.getElem?_cons_zero,List.getElem?_cons_succ,Option.some.injEq,exists_eq_left',exists_eq_left,V.int.injEq,V.ref.injEq,V.str.injEq,V.bl.injEq,V.ty.injEq,List.cons.injEq,and_true,true_and,and_assoc,exists_and_left,List.set_cons_zero,List.set_cons_succ,Nat.reduceSub,Nat.reduceAdd,decide_eq_true_eq,Bool.not_eq_true',decide_eq_false_iff_not,Int.reduceToNat,Int.reducePow,Int.reduceNeg,Int.reduceMul,Int.reduceAdd,if_true,ite_true,Bool.false_eq_true,ite_false,if_false]
  refine ⟨Nat.zero_le _,fun A hA=>⟨by decide,by omega,by omega,loop_range (plI c w nr nm A H) ⟨[],[],none,none,rfl,upd_same,.nil,List.nodup_nil,Nat.le_refl _,fun z=>absurd z (Nat.lt_irrefl _),(fun _ z=>nomatch z),isV A hA⟩ ?_ ?_⟩⟩
  · rintro i σ H' hi ⟨xs,ps,o1,o2,rfl,hx,hp,nd,le,po,ok,S⟩
    simp only [rInA,L2.start,r_mt_append,rAppend,tSeq,tAsg,gName,tRet,tDrop,tNext,tOp,tVar,tC,tLst,tTup,tCons,tNil,tFor,tIfS,tTest,tBM,tyV,iRng1,rIxL,rI,rI0,List.map,List.replicate,List.length,List.append,List.cons_append,List.nil_append,List.append_nil,List.getElem?_cons_zero,List.getElem?_cons_succ,Option.some.injEq,exists_eq_left',exists_eq_left,V.int.injEq,V.ref.injEq,V.str.injEq,V.bl.injEq,V.ty.injEq,List.cons.injEq,and_true,true_and,and_assoc,exists_and_left,List.set_cons_zero,List.set_cons_succ,Nat.reduceSub,Nat.reduceAdd,decide_eq_true_eq,Bool.not_eq_true',decide_eq_false_iff_not,Int.reduceToNat,Int.reducePow,Int.reduceNeg,Int.reduceMul,Int.reduceAdd,if_true,ite_true,Bool.false_eq_true,ite_false,if_false]
    obtain ⟨ws,n1,n2,n3⟩:=hn
    obtain ⟨v,e1,m1⟩:=at_mod (xs:=ws.map V.str) (0 + (i:Int)) 3 (by rw [List.length_map];exact n2) (by decide)
    obtain ⟨nx,hnx,rfl⟩:=List.mem_map.mp m1
    obtain ⟨v2,e2,m2⟩:=at_lt (xs:=[V.int w,V.int nr,V.int (0 - w)]) (i:=(0 + (i:Int)) / 3) (by omega) (by show (0 + (i:Int)) / 3 < 3;omega)
    obtain ⟨n,rfl,hnb⟩:∃ n,v2=V.int n∧wB n:=by
      simp only [List.mem_cons,List.not_mem_nil,or_false] at m2
      rcases m2 with rfl | rfl | rfl
      · exact ⟨_,rfl,hw⟩
      · exact ⟨_,rfl,hr⟩
      · exact ⟨_,rfl,by obtain ⟨a,b⟩:=hw;exact ⟨by omega,by omega⟩⟩
    refine ⟨by decide,_,SqL.of (S _ _ n1),_,e1,by decide,fun p0 hp0=>⟨dB,_,SqL.of upd_same,_,e2,by decide,fun p1 hp1=>?_⟩⟩
    have S1:=(isV (o:=HO.lst [V.int w,V.int nr,V.int (0 - w)]) p0 hp0).trans (isV (o:=HO.tup [V.str nx,V.int n]) p1 hp1)
    have pv:PlV (upd (upd H' p0 (.lst [V.int w,V.int nr,V.int (0 - w)])) p1 (.tup [V.str nx,V.int n])) (.ref p1) (nx,n):=⟨p1,rfl,upd_same⟩
    generalize upd (upd H' p0 (.lst [V.int w,V.int nr,V.int (0 - w)])) p1 (.tup [V.str nx,V.int n])=H3 at *
    have hx3:=S1 _ _ hx
    have hp3:Paired (PlV H3) xs ps:=Paired.mapP hp fun _ _ h=>h.same S1
    refine ⟨xs,.inl (SqL.of hx3),plD (nx,n),plD_dat pv,ps.map plD,pls_dat hp3,plD_ok (n3 nx hnx),plD_deep _,pls_ok ok,fun b hb=>ite2 (fun e=>⟨.inl ⟨_,SqL.of hx3⟩,_,hx3,Nat.lt_of_lt_of_le (m:=100000) (by have:=Paired.length hp3;omega) (by decide),?_⟩) fun e=>?_⟩
    · have ni:(nx,n) ∉ ps:=fun z=>by rw [hb.mpr (plD_mem.mpr z)] at e;cases e
      refine ⟨xs ++ [.ref p1],ps ++ [(nx,n)],_,_,rfl,upd_same,Paired.snocP (Paired.mapP hp3 fun _ _ h=>h.upd hx3) (pv.upd hx3),?_,?_,?_,?_,?_⟩
      · rw [List.nodup_append]
        exact ⟨nd,by simp,fun a ha b hb' z=>ni (by rw [← List.mem_singleton.mp hb',← z];exact ha)⟩
      · rw [List.length_append];show _ + 1≤_;omega
      · intro _;rw [List.length_append];show 0 < _ + 1;omega
      · intro x hx'
        rcases List.mem_append.mp hx' with h | h
        · exact ok x h
        · rw [List.mem_singleton.mp h];exact ⟨n3 nx hnx,hnb⟩
      · exact fun b o e=>by rw [upd_ne (fun z=>by subst z;rw [hA] at e;cases e)];exact S1 _ _ (S _ _ e)
    · have hin:(nx,n)∈ps:=by
        cases b with
        | false=>exact absurd rfl e
        | true=>exact plD_mem.mp (hb.mp rfl)
      exact ⟨xs,ps,_,_,rfl,hx3,hp3,nd,by omega,fun _=>List.length_pos_of_mem hin,ok,S.trans S1⟩
  · rintro σ H' ⟨xs,ps,o1,o2,rfl,hx,hp,nd,le,po,ok,S⟩
    exact ⟨_,rfl,q _ ps _ S ⟨⟨xs,hx,hp⟩,nd,po (by omega),by omega,ok⟩⟩
theorem rdp__law_places {c:Int} (h:Cb c) (q:∀ p ps H',Same H H'→PlsAt H' p ps→Q (.ref p) H') :
    rd__law_places K t { nx:=fun _ H'=>Q .non H',rt:=Q } (L2.start ["cell","names","base","near","places","k","place"] [.int c]) H:=by
  simp only [rd__law_places,sp__law_names,sp__law_worth,rInA,L2.start,r_mt_append,rAppend,tSeq,tAsg,gName,tRet,tDrop,tNext,tOp,tVar,tC,tLst,tTup,tCons,tNil,tFor,tIfS,tTest,tIf,tBM,tyV,tCall,iRng1,rIxL,rI,rI0,List.map,List.replicate,List.length,List.append,List.cons_append,List.nil_append,List.append_nil,List.getElem?_cons_zero,List.getElem?_cons_succ,Option.some.injEq,exists_eq_left',exists_eq_left,V.int.injEq,V.ref.injEq,V.str.injEq,V.bl.injEq,V.ty.injEq,List.cons.injEq,and_true,true_and,and_assoc,exists_and_left,List.set_cons_zero,List.set_cons_succ,Nat.reduceSub,Nat.reduceAdd,decide_eq_true_eq,Bool.not_eq_true',decide_eq_false_iff_not,Int.reduceToNat,Int.reducePow,Int.reduceNeg,Int.reduceMul,Int.reduceAdd,if_true,ite_true,Bool.false_eq_true,ite_false,if_false]
  refine ⟨dB,fun nm H1 s1 hn=>⟨dB,(h.div (by decide)).w,fun w H2 s2 hw=>ite2 (fun e=>?_) fun e=>?_⟩⟩
  · exact rdp_places3 (hn.same s2) hw (by obtain ⟨a,b⟩:=hw;exact ⟨by omega,by omega⟩) fun p ps H' s' hp=>q p ps H' (s1.trans (s2.trans s')) hp
  · exact rdp_places3 (hn.same s2) hw (by obtain ⟨a,b⟩:=hw;exact ⟨by omega,by omega⟩) fun p ps H' s' hp=>q p ps H' (s1.trans (s2.trans s')) hp
def gfI (F:Addr→Prop) (c:Int) (p l B T:Addr) (ps:List Pl) (H:Hp) (i:Nat) (σ:St) (H':Hp):Prop:=∃ (rs ts:List V) (gs:List Row) (o4 o5:Option V),σ=[some (.int c),some (.ref p),some (.ref l),some (.ref B),some (.ref T),o4,o5]∧H' B=some (.lst rs)∧Paired (PrAt (Hid F H')) rs gs∧H' T=some (.lst ts)∧Paired (PlV H') ts (gs.map (·.1))∧(gs.map (·.1)).Nodup∧(∀ r∈gs,r.1∈ps∧wB r.2)∧gs.length≤i∧Same H H'
theorem rdp_gfB {D:Ends} {F:Addr→Prop} {c:Int} {p l B T pl:Addr} {i:Nat} {rs ts:List V} {ds:List Int} {gs:List Row} {q0:Pl} {ps:List Pl} {H1:Hp} (own:∀ b,F b→∃ o,H1 b=some o) (npl:¬ F pl) (hc:Cw c) (hB:H1 B=none) (hT:H1 T=none) (hTB:T≠B) (hl:H1 l=some (.lst (ds.map V.int))) (ll:ds.length=6) (ld:∀ x∈ds,drI x) (hi:i < 3) (hpl:H1 pl=some (.tup [.str q0.1,.int q0.2])) (hq:q0∈ps)
    (hr:H B=some (.lst rs)) (pr:Paired (PrAt (Hid F H)) rs gs) (ht:H T=some (.lst ts)) (pt:Paired (PlV H) ts (gs.map (·.1))) (rn:(gs.map (·.1)).Nodup) (ri:∀ r∈gs,r.1∈ps∧wB r.2) (rl:gs.length≤i) (S:Same H1 H) (ni:q0 ∉ gs.map (·.1))
    (k:∀ σ H',gfI F c p l B T ps H1 (i + 1) σ H'→D.nx σ H') :
    rd__law_gifts_B K t D [some (.int c),some (.ref p),some (.ref l),some (.ref B),some (.ref T),some (.int (0 + (i:Int))),some (.ref pl)] H:=by
  have i0:(0 + (i:Int))=(i:Int):=by omega
  have fr:∀ {b:Addr} {H':Hp},Same H1 H'→H' b=none→¬ F b:=fun {b H'} s e z=>by
    obtain ⟨o,h⟩:=own b z
    rw [s _ _ h] at e;cases e
  have nT:=fr (Same.refl _) hT
  have nB:=fr (Same.refl _) hB
  have l1:=Paired.length pr
  have l2:=Paired.length pt
  rw [List.length_map] at l2
  rw [i0]
  simp only [rd__law_gifts_B,sp__law_worth,L2.start,r_mt_append,rAppend,tSeq,tDrop,tOp,tVar,tC,tLst,tTup,tCons,tNil,tBM,tyV,tCall,rIxL,rI,List.map,List.replicate,List.length,List.append,List.cons_append,List.nil_append,List.append_nil,List.getElem?_cons_zero,List.getElem?_cons_succ,Option.some.injEq,exists_eq_left',exists_eq_left,V.int.injEq,V.ref.injEq,V.str.injEq,V.bl.injEq,V.ty.injEq,List.cons.injEq,and_true,true_and,and_assoc,exists_and_left,List.set_cons_zero,List.set_cons_succ,Nat.reduceSub,Nat.reduceAdd,decide_eq_true_eq,Bool.not_eq_true',decide_eq_false_iff_not,Int.reduceToNat,Int.reducePow,Int.reduceNeg,Int.reduceMul,Int.reduceAdd,if_true,ite_true,Bool.false_eq_true,ite_false,if_false]
  obtain ⟨d3,e3,c3⟩:=at_dr (k:=3) (by omega) ld
  obtain ⟨d4,e4,c4⟩:=at_dr (k:=4) (by omega) ld
  have S2:Same H1 (upd H T (.lst (ts ++ [.ref pl]))):=fun b o e=>by rw [upd_ne (fun z=>by subst z;rw [hT] at e;cases e)];exact S _ _ e
  have hr2:upd H T (.lst (ts ++ [.ref pl])) B=some (.lst rs):=by rw [upd_ne (fun z=>hTB z.symm)];exact hr
  have ht2:upd H T (.lst (ts ++ [.ref pl])) T=some (.lst (ts ++ [.ref pl])):=upd_same
  have pr2:Paired (PrAt (Hid F (upd H T (.lst (ts ++ [.ref pl]))))) rs gs:=by
    rw [hid_upd nT]
    exact Paired.mapP pr fun _ _ h=>pr_upd (hid_of nT ht) h
  have pt2:Paired (PlV (upd H T (.lst (ts ++ [.ref pl])))) (ts ++ [.ref pl]) (gs.map (·.1) ++ [q0]):=Paired.snocP (Paired.mapP pt fun _ _ h=>h.upd ht) ⟨pl,rfl,S2 _ _ hpl⟩
  refine ⟨.inl ⟨_,SqL.of ht⟩,_,ht,Nat.lt_of_lt_of_le (m:=100000) (by omega) (by decide),?_⟩
  generalize upd H T (.lst (ts ++ [.ref pl]))=H2 at *
  refine ⟨.inl ⟨_,SqL.of hr2⟩,dB,_,SqL.of (S2 _ _ hl),_,e3,_,SqL.of (S2 _ _ hl),_,e4,by decide,fun p0 hp0=>?_⟩
  obtain ⟨v,e5,m5⟩:=at_lt (xs:=[V.int (c / 4),V.int d3,V.int d4]) (i:=(i:Int)) (by omega) (by show (i:Int) < 3;omega)
  obtain ⟨n,rfl,hn⟩:∃ n,v=V.int n∧Cw n:=by
    simp only [List.mem_cons,List.not_mem_nil,or_false] at m5
    rcases m5 with rfl | rfl | rfl
    · exact ⟨_,rfl,hc.div⟩
    · exact ⟨_,rfl,c3.cb.w⟩
    · exact ⟨_,rfl,c4.cb.w⟩
  refine ⟨_,SqL.of upd_same,_,e5,_,rfl,hn,fun w H3 s3 hw=>⟨by decide,fun p1 hp1=>?_⟩⟩
  have S23:=(isV (o:=HO.lst [V.int (c / 4),V.int d3,V.int d4]) p0 hp0).trans s3
  have np1:=fr (S2.trans S23) hp1
  have S3:=S23.trans (isV (o:=HO.tup [V.ref pl,V.int w]) p1 hp1)
  have pn:PrAt (Hid F (upd H3 p1 (.tup [V.ref pl,V.int w]))) (.ref p1) (q0,w):=⟨p1,pl,rfl,hid_of np1 upd_same,hid_of npl (S3 _ _ (S2 _ _ hpl))⟩
  generalize upd H3 p1 (.tup [V.ref pl,V.int w])=H4 at *
  have hr4:=S3 _ _ hr2
  have ht4:=S3 _ _ ht2
  have pr4:Paired (PrAt (Hid F H4)) rs gs:=Paired.mapP pr2 fun _ _ h=>pr_same (hid_same S3) h
  have pt4:Paired (PlV H4) (ts ++ [.ref pl]) (gs.map (·.1) ++ [q0]):=Paired.mapP pt2 fun _ _ h=>h.same S3
  refine ⟨_,hr4,Nat.lt_of_lt_of_le (m:=100000) (by omega) (by decide),k _ _ ⟨rs ++ [.ref p1],ts ++ [.ref pl],gs ++ [(q0,w)],_,_,rfl,upd_same,?_,?_,?_,?_,?_,?_,?_⟩⟩
  · rw [hid_upd nB]
    exact Paired.snocP (Paired.mapP pr4 fun _ _ h=>pr_upd (hid_of nB hr4) h) (pr_upd (hid_of nB hr4) pn)
  · rw [upd_ne hTB];exact ht4
  · rw [List.map_append];exact Paired.mapP pt4 fun _ _ h=>h.upd hr4
  · rw [List.map_append,List.nodup_append]
    exact ⟨rn,by simp,fun a ha b hb z=>ni (by have e:b=q0:=List.mem_singleton.mp hb;rw [← e,← z];exact ha)⟩
  · intro r hm
    rcases List.mem_append.mp hm with h | h
    · exact ri r h
    · rw [List.mem_singleton.mp h];exact ⟨hq,hw⟩
  · rw [List.length_append];show _ + 1≤_;omega
  · exact fun b o e=>by rw [upd_ne (fun z=>by subst z;rw [hB] at e;cases e)];exact S3 _ _ (S2 _ _ e)
theorem rdp__law_gifts {c:Int} {p:Addr} {ps:List Pl} {F:Addr→Prop} (hc:Cw c) (own:∀ b,F b→∃ o,H b=some o) (h:PlsAt (Hid F H) p ps) (q:∀ l gs H',Same H H'→H l=none→RwsAt (Hid F H') l gs→(gs.map (·.1)).Nodup→(∀ r∈gs,r.1∈ps∧wB r.2)→gs.length≤3→Q (.ref l) H') :
    rd__law_gifts K t { nx:=fun _ H'=>Q .non H',rt:=Q } (L2.start ["cell","places","xs","gifts","taken","k","place"] [.int c,.ref p]) H:=by
  obtain ⟨⟨xs,hx0,hp0⟩,nd,pos,le,ok⟩:=h
  have hx:=hid_sub _ _ hx0
  have lx:=Paired.length hp0
  have g1:=Int.emod_nonneg c (b:=4) (by decide)
  have g2:=Int.emod_lt_of_pos c (b:=4) (by decide)
  simp only [rd__law_gifts,sp__law_drawn,sp__law_worth,rInA,L2.start,r_mt_append,rAppend,tSeq,tAsg,gName,tRet,tDrop,tNext,tOp,tVar,tC,tLst,tTup,tCons,tNil,tFor,tIfS,tTest,tCB,tBM,tyV,tCall,LenV,iRng1,rIxL,rI,cLen,List.map,List.replicate,List.length,List.append,List.cons_append,List.nil_append,List.append_nil,List.getElem?_cons_zero,List.getElem?_cons_succ,Option.some.injEq,exists_eq_left',exists_eq_left,V.int.injEq,V.ref.injEq,V.str.injEq,V.bl.injEq,V.ty.injEq,List.cons.injEq,and_true,true_and,and_assoc,exists_and_left,List.set_cons_zero,List.set_cons_succ,Nat.reduceSub,Nat.reduceAdd,decide_eq_true_eq,Bool.not_eq_true',decide_eq_false_iff_not,Int.reduceToNat,Int.reducePow,Int.reduceNeg,Int.reduceMul,Int.reduceAdd,if_true,ite_true,Bool.false_eq_true,ite_false,if_false]
  refine ⟨dB,by decide,by decide,fun l ds H1 s1 _ hl ll ld=>⟨by decide,fun B hB=>⟨by decide,fun T hT=>⟨by decide,by omega,by omega,?_⟩⟩⟩⟩
  have own1:∀ b,F b→∃ o,H1 b=some o:=fun b z=>let ⟨o,e⟩:=own b z;⟨o,s1 _ _ e⟩
  have nB:¬ F B:=fun z=>by obtain ⟨o,e⟩:=own1 B z;rw [hB] at e;cases e
  have hTB:T≠B:=fun z=>by subst z;rw [upd_same] at hT;cases hT
  have hT1:H1 T=none:=by rw [upd_ne hTB] at hT;exact hT
  refine loop_range (gfI F c p l B T ps H1) ⟨[],[],[],none,none,rfl,isV T hT _ _ upd_same,.nil,upd_same,.nil,List.nodup_nil,(fun _ z=>nomatch z),Nat.le_refl _,(isV B hB).trans (isV T hT)⟩ ?_ ?_
  · rintro i σ H' hi ⟨rs,ts,gs,o4,o5,rfl,hr,pr,ht,pt,rn,ri,rl,S⟩
    simp only [rInA,L2.start,r_mt_append,rAppend,tSeq,tAsg,gName,tRet,tDrop,tNext,tOp,tVar,tC,tLst,tTup,tCons,tNil,tFor,tIfS,tTest,tCB,tBM,tyV,tCall,LenV,iRng1,rIxL,rI,cLen,List.map,List.replicate,List.length,List.append,List.cons_append,List.nil_append,List.append_nil,List.getElem?_cons_zero,List.getElem?_cons_succ,Option.some.injEq,exists_eq_left',exists_eq_left,V.int.injEq,V.ref.injEq,V.str.injEq,V.bl.injEq,V.ty.injEq,List.cons.injEq,and_true,true_and,and_assoc,exists_and_left,List.set_cons_zero,List.set_cons_succ,Nat.reduceSub,Nat.reduceAdd,decide_eq_true_eq,Bool.not_eq_true',decide_eq_false_iff_not,Int.reduceToNat,Int.reducePow,Int.reduceNeg,Int.reduceMul,Int.reduceAdd,if_true,ite_true,Bool.false_eq_true,ite_false,if_false]
    obtain ⟨d,e1,dd⟩:=at_dr (k:=i) (by omega) ld
    have i0:(0 + (i:Int))=(i:Int):=by omega
    obtain ⟨v,e2,m2⟩:=at_mod (xs:=xs) d xs.length rfl (by omega)
    obtain ⟨j,hj⟩:=List.getElem?_of_mem m2
    obtain ⟨q0,hq0,pl,rfl,hpl0⟩:=Paired.getP hp0 hj
    have hpl:=hid_sub _ _ hpl0
    have hq:=List.mem_of_getElem? hq0
    refine ⟨_,SqL.of (S _ _ hl),_,by rw [i0];exact e1,_,.inl ⟨_,SqL.of (S _ _ (s1 _ _ hx)),rfl⟩,_,rfl,by omega,_,SqL.of (S _ _ (s1 _ _ hx)),_,e2,ts,.inl (SqL.of ht),plD q0,plD_dat ⟨pl,rfl,S _ _ (s1 _ _ hpl)⟩,(gs.map (·.1)).map plD,pls_dat pt,plD_ok (ok q0 hq).1,plD_deep _,pls_ok (fun r hr=>?_),fun b hb=>ite2 (fun e=>?_) fun e=>?_⟩
    · obtain ⟨r',h1,rfl⟩:=List.mem_map.mp hr
      exact ok _ (ri r' h1).1
    · exact rdp_gfB own1 (hid_not hpl0) hc hB hT1 hTB hl (by omega) ld (by omega) (s1 _ _ hpl) hq hr pr ht pt rn ri rl S (fun z=>by rw [hb.mpr (plD_mem.mpr z)] at e;cases e) fun _ _ z=>z
    · exact ⟨rs,ts,gs,_,_,rfl,hr,pr,ht,pt,rn,ri,by omega,S⟩
  · rintro σ H' ⟨rs,ts,gs,o4,o5,rfl,hr,pr,ht,pt,rn,ri,rl,S⟩
    refine ⟨_,rfl,q B gs H' (s1.trans S) ?_ ⟨rs,hid_of nB hr,pr⟩ rn ri (by omega)⟩
    cases e:H B with
    | none=>rfl
    | some o=>rw [s1 _ _ e] at hB;cases hB
theorem seenG_snoc (p:Pl) (made:Int) (r:Row):∀ (l:List Row) (s:Int × Int),seenG p made (l ++ [r]) s=if r.1=p then (made,r.2) else seenG p made l s
  | [],s=>rfl
  | a :: t,s=>by rw [List.cons_append,seenG,seenG_snoc p made r t,seenG]
theorem seenL_snoc (p:Pl) (rank:Int) (y:Int × List Row):∀ (l:List (Int × List Row)) (s:Int × Int),seenL p rank (l ++ [y]) s=(if (seenL p rank l s).1 < y.1∧y.1 < rank then seenG p y.1 y.2 (seenL p rank l s) else seenL p rank l s)
  | [],s=>rfl
  | a :: t,s=>by rw [List.cons_append,seenL,seenL_snoc p rank y t,seenL]
theorem plD_deep64 (q:Pl):(plD q).depth≤64:=Nat.le_trans (plD_deep q) (by decide)
theorem eq_pl {q r:Pl} {b:Bool} (h:b=true↔plD r=plD q):b=true↔r=q:=h.trans ⟨plD_inj,fun z=>by rw [z]⟩
theorem PlsAt.same {H H':Hp} {p:Addr} {ps:List Pl} (h:PlsAt H p ps) (s:Same H H'):PlsAt H' p ps:=by
  obtain ⟨⟨xs,h1,h2⟩,a,b,c,d⟩:=h
  exact ⟨⟨xs,s _ _ h1,Paired.mapP h2 fun _ _ z=>z.same s⟩,a,b,c,d⟩
theorem rws_same {H H':Hp} {a:Addr} {rows:List Row} (h:RwsAt H a rows) (s:Same H H'):RwsAt H' a rows:=by
  obtain ⟨xs,h1,h2⟩:=h
  exact ⟨xs,s _ _ h1,Paired.mapP h2 fun _ _ z=>pr_same s z⟩
def rwD (r:Row):PyData:=.tuple [plD r.1,.int r.2]
theorem rw_dat {H:Hp} {v:V} {r:Row} (h:PrAt H v r):Dat K H v (rwD r):=by
  obtain ⟨a,p,rfl,h1,h2⟩:=h
  exact .tup (SqT.of h1) (.cons (plD_dat ⟨p,rfl,h2⟩) (.cons (.int _) .nil))
theorem rws_dat {H:Hp}:∀ {xs:List V} {rows:List Row},Paired (PrAt H) xs rows→DatAll K H xs (rows.map rwD)
  | _,_,.nil=>.nil
  | _,_,.cons h t=>.cons (rw_dat h) (rws_dat t)
theorem rwD_ok:∀ {rows:List Row},(∀ r∈rows,isName r.1.1=true)→plainDs (rows.map rwD)=true
  | [],_=>by rw [List.map_nil,plainDs]
  | r :: t,h=>by
    rw [List.map_cons,plainDs,rwD_ok fun x hx=>h x (List.mem_cons_of_mem _ hx),Bool.and_true]
    unfold rwD
    rw [plainD,plainDs,plainDs,plainDs,plD_ok (h r List.mem_cons_self),plainD];rfl
theorem rwD_deep:∀ (rows:List Row),(PyData.list (rows.map rwD)).depth≤64:=fun rows=>by
  have h:∀ l:List Row,PyData.depthAll (l.map rwD)≤10:=fun l=>by
    induction l with
    | nil=>simp [PyData.depthAll]
    | cons r t ih =>
      rw [List.map_cons,PyData.depthAll]
      have:(rwD r).depth≤10:=by simp [rwD,plD,PyData.depth,PyData.depthAll]
      omega
  have:=h rows
  rw [PyData.depth]
  omega
theorem valK_nd {kvs:List (Key × V)}:(kvs.map (·.1)).Nodup→∀ kv∈kvs,valV kvs kv.1=some kv.2:=by
  induction kvs with
  | nil=>exact fun _ kv h=>nomatch h
  | cons a r ih =>
    intro hn kv hk
    rw [List.map_cons,List.nodup_cons] at hn
    rcases List.mem_cons.mp hk with rfl | hk
    · exact valV_pos rfl
    · rw [valV_neg fun z=>hn.1 (by rw [z];exact List.mem_map_of_mem hk)]
      exact ih hn.2 kv hk
theorem keys_of {H:Hp}:∀ {kvs:List (Key × V)} {lays:List (Int × List Row)},Paired (fun (kv:Key × V) (y:Int × List Row)=>kv.1=.inl y.1∧∃ g,kv.2=.ref g∧RwsAt H g y.2) kvs lays→kvs.map (·.1)=lays.map fun y=>(.inl y.1:Key)
  | _,_,.nil=>rfl
  | _,_,.cons h t=>by rw [List.map_cons,List.map_cons,h.1,keys_of t]
theorem nodup_inl:∀ {lays:List (Int × List Row)},(lays.map (·.1)).Nodup→(lays.map fun y=>(.inl y.1:Key)).Nodup
  | [],_=>List.nodup_nil
  | y :: r,h=>by
    rw [List.map_cons,List.nodup_cons] at h ⊢
    refine ⟨fun z=>h.1 ?_,nodup_inl h.2⟩
    obtain ⟨x,hx,e⟩:=List.mem_map.mp z
    exact List.mem_map.mpr ⟨x,hx,Sum.inl.inj e⟩
theorem rdp__law_rank_near {low c:Int} (hl:rB low) (hc:drI c) (q:∀ r H',Same H H'→rB r→Q (.int r) H') :
    rd__law_rank_near K t { nx:=fun _ H'=>Q .non H',rt:=Q } (L2.start ["low","cell","rest"] [.int low,.int c]) H:=by
  obtain ⟨a,b⟩:=hl
  simp only [rd__law_rank_near,cMax2,L2.start,cMin,tSeq,tAsg,gName,tRet,tNext,tOp,tVar,tC,tCons,tNil,tIfS,tTest,tCB,rEq,rI,rI0,scal,List.map,List.replicate,List.length,List.append,List.cons_append,List.nil_append,List.append_nil,List.getElem?_cons_zero,List.getElem?_cons_succ,Option.some.injEq,exists_eq_left',exists_eq_left,V.int.injEq,V.ref.injEq,V.str.injEq,V.bl.injEq,V.ty.injEq,List.cons.injEq,and_true,true_and,and_assoc,exists_and_left,List.set_cons_zero,List.set_cons_succ,Nat.reduceSub,Nat.reduceAdd,decide_eq_true_eq,Bool.not_eq_true',decide_eq_false_iff_not,Int.reduceToNat,Int.reducePow,Int.reduceNeg,Int.reduceMul,Int.reduceAdd,if_true,ite_true,Bool.false_eq_true,ite_false,if_false]
  refine ⟨dB,by decide,ite2 (fun e=>⟨by decide,q _ _ (Same.refl _) ?_⟩) fun e=>⟨by decide,ite2 (fun e=>⟨⟨hc.cb.w.div,cb_gold⟩,by omega,q _ _ (Same.refl _) ?_⟩) fun e=>⟨by decide,ite2 (fun e=>q _ _ (Same.refl _) ⟨by decide,by decide⟩) fun e=>⟨pow10 (by decide) (by decide),by decide,q _ _ (Same.refl _) ?_⟩⟩⟩⟩
  · have g1:=Int.emod_nonneg (c / 8) (b:=2) (by decide)
    split
    · exact ⟨by omega,by omega⟩
    · exact ⟨by decide,by decide⟩
  · have g1:=Int.emod_nonneg (c / 8 * 618033988749894848204586834365) (b:=low + 1) (by omega)
    have g2:=Int.emod_lt_of_pos (c / 8 * 618033988749894848204586834365) (b:=low + 1) (by omega)
    exact ⟨by omega,by omega⟩
  · have g1:=Int.emod_nonneg (c / 8) (b:=3) (by decide)
    generalize c / 8 % 3=z at *
    split
    · exact ⟨by omega,by omega⟩
    · exact ⟨by decide,by decide⟩
def siI (l p:Addr) (rank b0 w0:Int) (q:Pl) (made:Int) (gs:List Row) (H:Hp) (i:Nat) (σ:St) (H':Hp):Prop:=H'=H∧∃ (o6 o7:Option V),σ=[some (.ref l),some (.ref p),some (.int rank),some (.int (seenG q made (gs.take i) (b0,w0)).2),some (.int (seenG q made (gs.take i) (b0,w0)).1),some (.int made),o6,o7]
theorem rdp_seB {D:Ends} {l p gr:Addr} {rank b0 w0 made:Int} {q:Pl} {gs:List Row} {o6 o7:Option V} {o:Obj} {kvs:List (Key × V)} (hd:H l=some (.frz o (.dK kvs))) (hv:valV kvs (.inl made)=some (.ref gr)) (h1:RwsAt H gr gs) (h4:H p=some (.tup [.str q.1,.int q.2])) (h5:isName q.1=true) (h6:∀ r∈gs,isName r.1.1=true)
    (k:∀ o6 o7,D.nx [some (.ref l),some (.ref p),some (.int rank),some (.int (seenG q made gs (b0,w0)).2),some (.int (seenG q made gs (b0,w0)).1),some (.int made),o6,o7] H) :
    rd__law_seen_B K t D [some (.ref l),some (.ref p),some (.int rank),some (.int w0),some (.int b0),some (.int made),o6,o7] H:=by
  obtain ⟨ys,e1,e2⟩:=h1
  have ly:=Paired.length e2
  simp only [rd__law_seen_B,rEqD,tDGet,L2.start,tSeq,tAsg,gName,gTup,gCons,gNil,tNext,tOp,tVar,tFor,tIfS,tTest,iList,List.map,List.replicate,List.length,List.append,List.cons_append,List.nil_append,List.append_nil,List.getElem?_cons_zero,List.getElem?_cons_succ,Option.some.injEq,exists_eq_left',exists_eq_left,V.int.injEq,V.ref.injEq,V.str.injEq,V.bl.injEq,V.ty.injEq,List.cons.injEq,and_true,true_and,and_assoc,exists_and_left,List.set_cons_zero,List.set_cons_succ,Nat.reduceSub,Nat.reduceAdd,decide_eq_true_eq,Bool.not_eq_true',decide_eq_false_iff_not,Int.reduceToNat,Int.reducePow,Int.reduceNeg,Int.reduceMul,Int.reduceAdd,if_true,ite_true,Bool.false_eq_true,ite_false,if_false]
  refine ⟨.ref gr,.inl ⟨kvs,.inl made,.inr ⟨o,hd⟩,rfl,hv.symm⟩,gr,rfl,⟨_,SqL.of e1⟩,loop_list (K:=K) ys (siI l p rank b0 w0 q made gs H) ⟨rfl,o6,o7,rfl⟩ (fun i σ H' ⟨z,_⟩=>by rw [z];exact SqL.of e1) ?_ ?_⟩
  · rintro i v σ H' hi ⟨rfl,o5,o6,rfl⟩
    obtain ⟨r,hr,a,pl,rfl,ha,hp⟩:=Paired.getP e2 hi
    have tk:=take_snoc hr
    have hn:=h6 r (List.mem_of_getElem? hr)
    simp only [rEqD,tDGet,L2.start,tSeq,tAsg,gName,gTup,gCons,gNil,tNext,tOp,tVar,tFor,tIfS,tTest,iList,List.map,List.replicate,List.length,List.append,List.cons_append,List.nil_append,List.append_nil,List.getElem?_cons_zero,List.getElem?_cons_succ,Option.some.injEq,exists_eq_left',exists_eq_left,V.int.injEq,V.ref.injEq,V.str.injEq,V.bl.injEq,V.ty.injEq,List.cons.injEq,and_true,true_and,and_assoc,exists_and_left,List.set_cons_zero,List.set_cons_succ,Nat.reduceSub,Nat.reduceAdd,decide_eq_true_eq,Bool.not_eq_true',decide_eq_false_iff_not,Int.reduceToNat,Int.reducePow,Int.reduceNeg,Int.reduceMul,Int.reduceAdd,if_true,ite_true,Bool.false_eq_true,ite_false,if_false]
    refine ⟨_,SqT.of ha,rfl,_,_,rfl,_,_,rfl,rfl,plD r.1,plD_dat ⟨pl,rfl,hp⟩,plD q,plD_dat ⟨p,rfl,h4⟩,plD_ok hn,plD_ok h5,plD_deep64 _,plD_deep64 _,fun b hb=>ite2 (fun e=>?_) fun e=>?_⟩
    · have z:=(eq_pl hb).mp e
      exact ⟨rfl,_,_,by rw [tk,seenG_snoc,if_pos z]⟩
    · have z:¬ r.1=q:=fun y=>e ((eq_pl hb).mpr y)
      exact ⟨rfl,_,_,by rw [tk,seenG_snoc,if_neg z]⟩
  · rintro σ H' ⟨rfl,o5,o6,rfl⟩
    rw [List.take_of_length_le (by omega)]
    exact k o5 o6
def slI (l p:Addr) (rank:Int) (q:Pl) (lays:List (Int × List Row)) (H:Hp) (i:Nat) (σ:St) (H':Hp):Prop:=H'=H∧∃ (o5 o6 o7:Option V),σ=[some (.ref l),some (.ref p),some (.int rank),some (.int (seenL q rank (lays.take i) (-1,0)).2),some (.int (seenL q rank (lays.take i) (-1,0)).1),o5,o6,o7]
theorem rdp__law_seen {l p:Addr} {lays:List (Int × List Row)} {q:Pl} {rank:Int} {kvs:List (Key × V)} (h2:H l=some (.dK kvs)) (h3:Paired (fun (kv:Key × V) (y:Int × List Row)=>kv.1=.inl y.1∧∃ g,kv.2=.ref g∧RwsAt H g y.2) kvs lays) (hnd:(lays.map (·.1)).Nodup) (h4:H p=some (.tup [.str q.1,.int q.2])) (h5:isName q.1=true) (h7:∀ y∈lays,∀ r∈y.2,isName r.1.1=true) (k:∀ H',Same H H'→Q (.int (seenW [] lays q rank)) H') :
    rd__law_seen K t { nx:=fun _ H'=>Q .non H',rt:=Q } (L2.start ["layings","place","rank","worth","best","made","at","what"] [.ref l,.ref p,.int rank]) H:=by
  have lx:=Paired.length h3
  simp only [rd__law_seen,rd__law_seen_2,tFrzK,rEqD,tDGet,iDK,L2.start,tSeq,tAsg,gName,gTup,gCons,gNil,tRet,tNext,tOp,tUn,tVar,tC,tFor,tIfS,tAnd,tTest,iList,rI0,rU,List.map,List.replicate,List.length,List.append,List.cons_append,List.nil_append,List.append_nil,List.getElem?_cons_zero,List.getElem?_cons_succ,Option.some.injEq,exists_eq_left',exists_eq_left,V.int.injEq,V.ref.injEq,V.str.injEq,V.bl.injEq,V.ty.injEq,List.cons.injEq,and_true,true_and,and_assoc,exists_and_left,List.set_cons_zero,List.set_cons_succ,Nat.reduceSub,Nat.reduceAdd,decide_eq_true_eq,Bool.not_eq_true',decide_eq_false_iff_not,Int.reduceToNat,Int.reducePow,Int.reduceNeg,Int.reduceMul,Int.reduceAdd,if_true,ite_true,Bool.false_eq_true,ite_false,if_false]
  refine ⟨l,_,h2,kvs,.inl rfl,fun o=>?_⟩
  have nl:∀ b u,H b=some u→(∀ z,u≠.dK z)→upd H l (.frz o (.dK kvs)) b=some u:=fun b u e n=>by
    rw [upd_ne (fun z=>by subst z;rw [h2] at e;cases e;exact n _ rfl)];exact e
  have ff:upd H l (.frz o (.dK kvs)) l=some (.frz o (.dK kvs)):=upd_same
  have rws:∀ {x:Addr} {rs:List Row},RwsAt H x rs→RwsAt (upd H l (.frz o (.dK kvs))) x rs:=fun {x rs} ⟨zs,a,b⟩=>⟨zs,nl _ _ a (fun _ z=>nomatch z),Paired.mapP b fun _ _ ⟨r,p,e,c,d⟩=>⟨r,p,e,nl _ _ c (fun _ z=>nomatch z),nl _ _ d (fun _ z=>nomatch z)⟩⟩
  have hp':=nl _ _ h4 (fun _ z=>nomatch z)
  have bk:upd (upd H l (.frz o (.dK kvs))) l (.dK kvs)=H:=by
    funext b
    by_cases e:b=l
    · rw [e,upd_same,h2]
    · rw [upd_ne e,upd_ne e]
  refine ⟨o,kvs,ff,loop_dictK (o:=o) (kvs:=kvs) (slI l p rank q lays (upd H l (.frz o (.dK kvs)))) ⟨rfl,none,none,none,rfl⟩ (fun i σ H' ⟨z,_⟩=>by rw [z];exact ff) ?_ ?_⟩
  · rintro i k v σ H2 hi ⟨rfl,o5,o6,o7,rfl⟩
    obtain ⟨y,hy,e1,gr,e2,e3⟩:=Paired.getP h3 hi
    simp only at e1 e2
    subst e1 e2
    have tk:=take_snoc hy
    have hn:=h7 y (List.mem_of_getElem? hy)
    have vv:valV kvs (.inl y.1)=some (.ref gr):=by
      have nk:(kvs.map (·.1)).Nodup:=by
        rw [keys_of h3]
        exact nodup_inl hnd
      exact valK_nd nk _ (List.mem_of_getElem? hi)
    simp only [kV,rEqD,tDGet,iDK,L2.start,tSeq,tAsg,gName,gTup,gCons,gNil,tRet,tNext,tOp,tUn,tVar,tC,tFor,tIfS,tAnd,tTest,iList,rI0,rU,List.map,List.replicate,List.length,List.append,List.cons_append,List.nil_append,List.append_nil,List.getElem?_cons_zero,List.getElem?_cons_succ,Option.some.injEq,exists_eq_left',exists_eq_left,V.int.injEq,V.ref.injEq,V.str.injEq,V.bl.injEq,V.ty.injEq,List.cons.injEq,and_true,true_and,and_assoc,exists_and_left,List.set_cons_zero,List.set_cons_succ,Nat.reduceSub,Nat.reduceAdd,decide_eq_true_eq,Bool.not_eq_true',decide_eq_false_iff_not,Int.reduceToNat,Int.reducePow,Int.reduceNeg,Int.reduceMul,Int.reduceAdd,if_true,ite_true,Bool.false_eq_true,ite_false,if_false]
    have same:¬ ((seenL q rank (lays.take i) (-1,0)).1 < y.1∧y.1 < rank)→slI l p rank q lays (upd H l (.frz o (.dK kvs))) (i + 1) [some (.ref l),some (.ref p),some (.int rank),some (.int (seenL q rank (lays.take i) (-1,0)).2),some (.int (seenL q rank (lays.take i) (-1,0)).1),some (.int y.1),o6,o7] (upd H l (.frz o (.dK kvs))):=fun z=>⟨rfl,_,_,_,by rw [tk,seenL_snoc,if_neg z]⟩
    refine ite2 (fun c1=>ite2 (fun c2=>?_) fun c2=>same fun z=>c2 z.2) fun c1=>same fun z=>c1 z.1
    refine rdp_seB ff vv (rws e3) hp' h5 hn fun o6 o7=>⟨rfl,some (.int y.1),o6,o7,?_⟩
    rw [tk,seenL_snoc,if_pos ⟨c1,c2⟩]
  · rintro σ H2 ⟨rfl,o5,o6,o7,rfl⟩
    rw [List.take_of_length_le (by omega),bk]
    exact ⟨ff,_,rfl,k _ (Same.refl _)⟩
theorem seenG_eq (p:Pl) (made:Int):∀ (l:List Row) (s:Int × Int),seenG p made l s=(match lastW l p with | some w=>(made,w) | none=>s)
  | [],s=>rfl
  | r :: t,s=>by
    rw [seenG,seenG_eq p made t]
    show _=(match (lastW t p).or (if r.1=p then some r.2 else none) with | some w=>(made,w) | none=>s)
    cases lastW t p with
    | some w=>rfl
    | none =>
      by_cases h:r.1=p
      · rw [if_pos h,if_pos h];rfl
      · rw [if_neg h,if_neg h];rfl
def stepL (p:Pl) (rank:Int) (y:Int × List Row) (s:Int × Int):Int × Int:=if s.1 < y.1∧y.1 < rank then seenG p y.1 y.2 s else s
theorem stepL_eq (p:Pl) (rank:Int) (y:Int × List Row) (s:Int × Int):stepL p rank y s=(match lastW y.2 p with | some w=>if s.1 < y.1∧y.1 < rank then (y.1,w) else s | none=>s):=by
  unfold stepL
  rw [seenG_eq]
  cases lastW y.2 p with
  | some w=>rfl
  | none=>exact ite_self _
theorem step_comm (p:Pl) (rank:Int) {a b:Int × List Row} (h:a.1≠b.1) (s:Int × Int):stepL p rank a (stepL p rank b s)=stepL p rank b (stepL p rank a s):=by
  simp only [stepL_eq]
  cases ha:lastW a.2 p with
  | none=>rfl
  | some w =>
    cases hb:lastW b.2 p with
    | none=>rfl
    | some v =>
      simp only
      by_cases c1:s.1 < a.1∧a.1 < rank
      · by_cases c2:s.1 < b.1∧b.1 < rank
        · rw [if_pos c1,if_pos c2]
          simp only
          by_cases c3:a.1 < b.1
          · rw [if_neg (fun z=>by have:=z.1;(try simp only at this);omega),if_pos ⟨c3,c2.2⟩]
          · rw [if_pos ⟨by (try simp only);omega,c1.2⟩,if_neg (fun z=>by have:=z.1;(try simp only at this);omega)]
        · rw [if_pos c1,if_neg c2,if_pos c1,if_neg (fun z=>c2 ⟨by have:=z.1;(try simp only at this);omega,z.2⟩)]
      · by_cases c2:s.1 < b.1∧b.1 < rank
        · rw [if_neg c1,if_pos c2,if_neg (fun z=>c1 ⟨by have:=z.1;(try simp only at this);omega,z.2⟩)]
        · rw [if_neg c1,if_neg c2,if_neg c1]
theorem seenL_perm (p:Pl) (rank:Int) {l l':List (Int × List Row)} (h:l.Perm l'):(l.map (·.1)).Nodup→∀ s,seenL p rank l s=seenL p rank l' s:=by
  induction h with
  | nil=>exact fun _ _=>rfl
  | cons y _ ih =>
    intro hn s
    rw [List.map_cons,List.nodup_cons] at hn
    exact ih hn.2 _
  | swap a b l =>
    intro hn s
    rw [List.map_cons,List.map_cons,List.nodup_cons] at hn
    have ne:a.1≠b.1:=fun z=>hn.1 (by rw [List.mem_cons];exact .inl z.symm)
    show seenL p rank l (stepL p rank a (stepL p rank b s))=seenL p rank l (stepL p rank b (stepL p rank a s))
    rw [step_comm p rank ne]
  | trans h1 _ ih1 ih2=>exact fun hn s=>(ih1 hn s).trans (ih2 ((h1.map _).nodup_iff.mp hn) s)
theorem seenW_perm {rows:List Row} {l l':List (Int × List Row)} (h:l.Perm l') (hn:(l.map (·.1)).Nodup) (p:Pl) (rank:Int):seenW rows l p rank=seenW rows l' p rank:=by
  unfold seenW
  rw [seenL_perm p rank h hn]
theorem seenL_none (p:Pl) (rank:Int):∀ {l:List (Int × List Row)} (s:Int × Int),(∀ y∈l,lastW y.2 p=none)→seenL p rank l s=s
  | [],s,_=>rfl
  | y :: r,s,h=>by
    show seenL p rank r (stepL p rank y s)=s
    rw [stepL_eq,h y List.mem_cons_self]
    exact seenL_none p rank s fun z hz=>h z (List.mem_cons_of_mem _ hz)
theorem seenW_none {rows:List Row} {lays:List (Int × List Row)} {p:Pl} {rank:Int} (h1:∀ r∈rows,r.1≠p) (h2:∀ y∈lays,∀ r∈y.2,r.1≠p):seenW rows lays p rank=0:=by
  unfold seenW
  rw [seenL_none p rank _ fun y hy=>last_none (h2 y hy),last_none h1];rfl
def dueP (rows:List Row) (lays:List (Int × List Row)) (rank:Int) (ps:List Pl):List Row:=ps.filterMap fun p=>if seenW rows lays p rank=0 then none else some (p,seenW rows lays p rank)
theorem due_mem {rows:List Row} {lays:List (Int × List Row)} {rank:Int} {ps:List Pl} {p:Pl} {w:Int}:(p,w)∈dueP rows lays rank ps↔p∈ps∧seenW rows lays p rank=w∧w≠0:=by
  unfold dueP
  rw [List.mem_filterMap]
  constructor
  · rintro ⟨q,hq,e⟩
    by_cases h:seenW rows lays q rank=0
    · rw [if_pos h] at e;cases e
    · rw [if_neg h] at e
      cases e
      exact ⟨hq,rfl,h⟩
  · rintro ⟨hp,rfl,h⟩
    exact ⟨p,hp,by rw [if_neg h]⟩
theorem due_rise {rows:List Row} {lays:List (Int × List Row)} {rank:Int} {ps:List Pl} (h:ps.Pairwise fun a b=>placeLt a b=true):Rising (dueP rows lays rank ps):=by
  unfold dueP Rising
  rw [List.pairwise_filterMap]
  refine h.imp fun {a b} hab x hx y hy=>?_
  split at hx
  · cases hx
  · split at hy
    · cases hy
    · cases hx;cases hy;exact hab
theorem due_tab {rows:List Row} {lays:List (Int × List Row)} {rank:Int} {ps srt:List Pl} (h:srt.Pairwise fun a b=>placeLt a b=true) (pm:srt.Perm ps) (h1:∀ r∈rows,r.1∈ps) (h2:∀ y∈lays,∀ r∈y.2,r.1∈ps):TabFor rows lays rank (dueP rows lays rank srt):=by
  refine ⟨due_rise h,fun p w=>?_⟩
  rw [due_mem]
  constructor
  · exact fun z=>z.2
  · rintro ⟨e,n⟩
    refine ⟨pm.mem_iff.mpr (Decidable.byContradiction fun z=>n ?_),e,n⟩
    rw [← e]
    exact seenW_none (fun r hr y=>z (by rw [← y];exact h1 r hr)) fun x hx r hr y=>z (by rw [← y];exact h2 x hx r hr)
theorem due_snoc {rows:List Row} {lays:List (Int × List Row)} {rank:Int} {ps:List Pl} {p:Pl}:dueP rows lays rank (ps ++ [p])=dueP rows lays rank ps ++ (if seenW rows lays p rank=0 then [] else [(p,seenW rows lays p rank)]):=by
  unfold dueP
  rw [List.filterMap_append]
  by_cases h:seenW rows lays p rank=0
  · rw [if_pos h];simp [h]
  · rw [if_neg h];simp [h]
theorem ld_same {H H':Hp} {d:Addr} {lays:List (Int × List Row)} (h:LdAt H d lays) (s:Same H H'):LdAt H' d lays:=by
  obtain ⟨kvs,h1,h2⟩:=h
  exact ⟨kvs,s _ _ h1,Paired.mapP h2 fun _ _ ⟨e,g,e2,e3⟩=>⟨e,g,e2,rws_same e3 s⟩⟩
def duI (d p:Addr) (rank:Int) (B SL:Addr) (rows:List Row) (lays:List (Int × List Row)) (srt:List Pl) (sl:List V) (H H2:Hp) (i:Nat) (σ:St) (H':Hp):Prop:=∃ (rs:List V) (o5 o6:Option V),(∀ a zs,H2 a=some (.tup zs)→H' a=some (.tup zs))∧σ=[some (.ref d),some (.ref p),some (.int rank),some (.ref B),o5,o6]∧H' B=some (.lst rs)∧Paired (PrAt H') rs (dueP rows lays rank (srt.take i))∧H' SL=some (.lst sl)∧Same H H'
theorem rdp__law_due {d p:Addr} {rank:Int} {lays:List (Int × List Row)} {ps:List Pl} (hd:LdAt H d lays) (lo:LdOk lays) (hp:PlsAt H p ps) (hi2:∀ y∈lays,∀ r∈y.2,r.1∈ps) (k:∀ l out H',Same H H'→H l=none→RwsAt H' l out→TabFor [] lays rank out→Q (.ref l) H') :
    rd__law_due K t { nx:=fun _ H'=>Q .non H',rt:=Q } (L2.start ["layings","places","rank","due","place","worth"] [.ref d,.ref p,.int rank]) H:=by
  obtain ⟨⟨xs,hx,hxp⟩,nd,pos,le,ok⟩:=hp
  simp only [rd__law_due,sp__law_seen,cSrtP,L2.start,r_mt_append,rAppend,tSeq,tAsg,gName,tRet,tDrop,tNext,tOp,tVar,tC,tLst,tTup,tCons,tNil,tFor,tIfS,tTest,tCB,tBM,tyV,tCall,iList,rNe,scal,List.map,List.replicate,List.length,List.append,List.cons_append,List.nil_append,List.append_nil,List.getElem?_cons_zero,List.getElem?_cons_succ,Option.some.injEq,exists_eq_left',exists_eq_left,V.int.injEq,V.ref.injEq,V.str.injEq,V.bl.injEq,V.ty.injEq,List.cons.injEq,and_true,true_and,and_assoc,exists_and_left,List.set_cons_zero,List.set_cons_succ,Nat.reduceSub,Nat.reduceAdd,decide_eq_true_eq,Bool.not_eq_true',decide_eq_false_iff_not,Int.reduceToNat,Int.reducePow,Int.reduceNeg,Int.reduceMul,Int.reduceAdd,if_true,ite_true,Bool.false_eq_true,ite_false,if_false]
  refine ⟨by decide,fun B hB=>?_⟩
  obtain ⟨H1,eH,s1,q1⟩:∃ H',H'=upd H B (.lst [])∧Same H H'∧H' B=some (.lst []):=⟨_,rfl,isV B hB,upd_same⟩
  rw [← eH];clear eH
  refine ⟨xs,SqL.of (s1 _ _ hx),ps,Paired.mapP hxp fun _ _ ⟨a,e,z⟩=>⟨a,e,s1 _ _ z⟩,nd,by omega,fun SL ys srt H2 s2 hn2 hy py pw pm=>?_⟩
  have ly:=Paired.length py
  have lm:=pm.length_eq
  have nBS:SL≠B:=fun z=>by rw [z,q1] at hn2;cases hn2
  refine ⟨⟨_,SqL.of hy⟩,loop_list (K:=K) ys (duI d p rank B SL [] lays srt ys H H2) ⟨[],none,none,(fun _ _ e=>e),rfl,s2 _ _ q1,.nil,hy,s1.trans s2⟩ (fun i σ H' ⟨_,_,_,_,_,_,_,z,_⟩=>SqL.of z) ?_ ?_⟩
  · rintro i v σ H3 hv ⟨rs,o5,o6,S23,rfl,hB3,pr,hS3,S⟩
    obtain ⟨q0,hq0,pl,rfl,hpl⟩:=Paired.getP py hv
    have tk:=take_snoc hq0
    have okq:=ok q0 (pm.mem_iff.mp (List.mem_of_getElem? hq0))
    obtain ⟨kvs,hk,hkp⟩:=ld_same hd S
    simp only [cSrtP,L2.start,r_mt_append,rAppend,tSeq,tAsg,gName,tRet,tDrop,tNext,tOp,tVar,tC,tLst,tTup,tCons,tNil,tFor,tIfS,tTest,tCB,tBM,tyV,tCall,iList,rNe,scal,List.map,List.replicate,List.length,List.append,List.cons_append,List.nil_append,List.append_nil,List.getElem?_cons_zero,List.getElem?_cons_succ,Option.some.injEq,exists_eq_left',exists_eq_left,V.int.injEq,V.ref.injEq,V.str.injEq,V.bl.injEq,V.ty.injEq,List.cons.injEq,and_true,true_and,and_assoc,exists_and_left,List.set_cons_zero,List.set_cons_succ,Nat.reduceSub,Nat.reduceAdd,decide_eq_true_eq,Bool.not_eq_true',decide_eq_false_iff_not,Int.reduceToNat,Int.reducePow,Int.reduceNeg,Int.reduceMul,Int.reduceAdd,if_true,ite_true,Bool.false_eq_true,ite_false,if_false]
    refine ⟨lays,q0,kvs,hk,hkp,lo.nd,S23 _ _ hpl,okq.1,fun y hy r hr=>((lo.gf y hy).2.nm r hr).1.1,fun H4 s4=>?_⟩
    have S4:=S.trans s4
    have pr4:Paired (PrAt H4) rs (dueP [] lays rank (srt.take i)):=Paired.mapP pr fun _ _ h=>pr_same s4 h
    refine ite2 (fun c=>⟨.inl ⟨_,SqL.of (s4 _ _ hB3)⟩,by decide,fun p1 hp1=>?_⟩) fun c=>?_
    · have S5:=isV (o:=HO.tup [V.ref pl,V.int (seenW [] lays q0 rank)]) p1 hp1
      have pn:PrAt (upd H4 p1 (.tup [V.ref pl,V.int (seenW [] lays q0 rank)])) (.ref p1) (q0,seenW [] lays q0 rank):=⟨p1,pl,rfl,upd_same,S5 _ _ (s4 _ _ (S23 _ _ hpl))⟩
      generalize upd H4 p1 (.tup [V.ref pl,V.int (seenW [] lays q0 rank)])=H5 at *
      have hB5:=S5 _ _ (s4 _ _ hB3)
      have l5:=Paired.length pr
      have l6:(dueP [] lays rank (srt.take i)).length≤(srt.take i).length:=List.length_filterMap_le _ _
      rw [List.length_take] at l6
      refine ⟨_,hB5,Nat.lt_of_lt_of_le (m:=100000) (by omega) (by decide),rs ++ [.ref p1],_,_,(fun a zs e=>tup_upd hB5 (S5 _ _ (s4 _ _ (S23 a zs e)))),rfl,upd_same,?_,?_,?_⟩
      · rw [tk,due_snoc,if_neg c]
        exact Paired.snocP (Paired.mapP pr4 fun _ _ h=>pr_upd hB5 (pr_same S5 h)) (pr_upd hB5 pn)
      · rw [upd_ne nBS];exact S5 _ _ (s4 _ _ hS3)
      · exact fun b o e=>by rw [upd_ne (fun z=>by subst z;rw [hB] at e;cases e)];exact S5 _ _ (S4 _ _ e)
    · refine ⟨rs,_,_,(fun a zs e=>s4 _ _ (S23 a zs e)),rfl,s4 _ _ hB3,?_,s4 _ _ hS3,S4⟩
      have z:seenW [] lays q0 rank=0:=Decidable.byContradiction c
      rw [tk,due_snoc,if_pos z,List.append_nil]
      exact pr4
  · rintro σ H3 ⟨rs,o5,o6,S23,rfl,hB3,pr,hS3,S⟩
    rw [List.take_of_length_le (by omega)] at pr
    exact ⟨_,rfl,k B _ H3 S hB ⟨rs,hB3,pr⟩ (due_tab pw pm (fun _ z=>(nomatch z)) hi2)⟩
theorem sum_perm {l l':List Int} (h:l.Perm l'):l.sum=l'.sum:=by
  induction h with
  | nil=>rfl
  | cons a _ ih=>rw [List.sum_cons,List.sum_cons,ih]
  | swap a b l=>simp only [List.sum_cons];omega
  | trans _ _ ih1 ih2=>exact ih1.trans ih2
theorem kept_perm {l l':List (Int × List Row)} (h:l.Perm l') (low:Int):keptF l low=keptF l' low:=by
  unfold keptF
  exact sum_perm ((h.filter _).map _)
theorem tab_eq {rows:List Row} {ld lays:List (Int × List Row)} {rank:Int} {a b:List Row} (h1:TabFor rows ld rank a) (h2:TabFor rows lays rank b) (pm:ld.Perm lays) (nd:(ld.map (·.1)).Nodup):a=b :=
  rising_ext h1.1 h2.1 fun x=>by
    obtain ⟨p,w⟩:=x
    rw [h1.2,h2.2,seenW_perm pm nd]
theorem KnAt.same {H':Hp} {m d:Addr} {F:Addr→Prop} {lays ld:List (Int × List Row)} {low:Int} {ps:List Pl} (h:KnAt t H m d F lays ld low ps) (s:Same H H'):KnAt t H' m d F lays ld low ps:=⟨h.mk0.same s,ld_same h.ld_ s,h.ok,h.pm,h.lo,h.p9,h.pn,h.in2⟩
theorem KnAt.len {m d:Addr} {F:Addr→Prop} {lays ld:List (Int × List Row)} {low:Int} {ps:List Pl} (h:KnAt t H m d F lays ld low ps):lays.length≤200:=by
  have:=h.pm.length_eq
  have:=h.ok.le
  omega
theorem KnAt.ps {m d:Addr} {F:Addr→Prop} {lays ld:List (Int × List Row)} {low:Int} {ps:List Pl} (h:KnAt t H m d F lays ld low ps):PsOk ps [] lays:=⟨by have:=h.p9;omega,fun p hp=>(h.pn p hp).1,fun _ z=>(nomatch z),fun y hy r hr=>h.in2 y (h.pm.mem_iff.mpr hy) r hr⟩
theorem KnAt.nms {m d:Addr} {F:Addr→Prop} {lays ld:List (Int × List Row)} {low:Int} {ps:List Pl} (h:KnAt t H m d F lays ld low ps):∀ y∈ld,∀ r∈y.2,isName r.1.1=true:=fun y hy r hr=>(h.pn _ (h.in2 y hy r hr)).1
def csR (lays:List (Int × List Row)) (low:Int) (i:Nat) (ys:List V) (_:Hp):Prop:=ys=(((lays.take i).filter fun y=>decide (low≤y.1)).map fun y=>(y.2.length:Int)).map V.int
theorem rdp__law_stays {m d p:Addr} {low:Int} {F:Addr→Prop} {lays ld:List (Int × List Row)} {ps:List Pl} {q0:Pl} (h:KnAt t H m d F lays ld low ps) (hp:H p=some (.tup [.str q0.1,.int q0.2])) (hn:isName q0.1=true) (k:∀ H',Same H H'→Q (.bl true) H') :
    rd__law_stays K t { nx:=fun _ H'=>Q .non H',rt:=Q } (L2.start ["makes","layings","low","place","found","due"] [.ref m,.ref d,.int low,.ref p]) H:=by
  obtain ⟨dx,fs,i1,i2,i3,i4,i5,i6⟩:=h.mk0.ins
  simp only [rd__law_stays,sp_Makes_seen,sp__law_whole,sp__law_seen,tDGet,tMeth,cSumL,iDK,L2.start,tSeq,tAsg,gName,tRet,tNext,tOp,tVar,tC,tCons,tNil,tIfS,tOr,tNot,tTest,tB,tAndV,tCB,tCall,tComp,capV,LenV,rEq,rNe,rI0,cLen,scal,List.map,List.replicate,List.length,List.append,List.cons_append,List.nil_append,List.append_nil,List.getElem?_cons_zero,List.getElem?_cons_succ,Option.some.injEq,exists_eq_left',exists_eq_left,V.int.injEq,V.ref.injEq,V.str.injEq,V.bl.injEq,V.ty.injEq,List.cons.injEq,and_true,true_and,and_assoc,exists_and_left,List.set_cons_zero,List.set_cons_succ,Nat.reduceSub,Nat.reduceAdd,decide_eq_true_eq,Bool.not_eq_true',decide_eq_false_iff_not,Int.reduceToNat,Int.reducePow,Int.reduceNeg,Int.reduceMul,Int.reduceAdd,if_true,ite_true,Bool.false_eq_true,ite_false,if_false]
  refine ⟨_,_,i1,i3,F,[],lays,low,h.mk0,h.lo,q0,hp,hn,fun _ H1 s1 H2 s2=>?_,fun z=>absurd z (by omega)⟩
  have S2:=s1.trans s2
  have h2:=h.same S2
  obtain ⟨kvs,hk,hkp⟩:=h2.ld_
  rw [if_neg (by decide)]
  refine ⟨ld,q0,kvs,hk,hkp,h.ok.nd,S2 _ _ hp,hn,h.nms,fun H3 s3=>?_⟩
  rw [seenW_perm h.pm h.ok.nd q0 low,if_neg (fun z=>z rfl)]
  have S3:=S2.trans s3
  have h3:=h.same S3
  obtain ⟨dx,fs,i1,i2,i3,i4,i5,i6⟩:=h3.mk0.ins
  simp only [rd__law_stays_2,rd__law_stays_3,sp_Makes_kept,sp__law_whole,tFrzK,tDGet,tMeth,cSumL,iDK,L2.start,tSeq,tAsg,gName,tRet,tNext,tOp,tVar,tC,tCons,tNil,tIfS,tOr,tNot,tTest,tB,tAndV,tCB,tCall,tComp,capV,LenV,rEq,rNe,rI0,cLen,scal,List.map,List.replicate,List.length,List.append,List.cons_append,List.nil_append,List.append_nil,List.getElem?_cons_zero,List.getElem?_cons_succ,Option.some.injEq,exists_eq_left',exists_eq_left,V.int.injEq,V.ref.injEq,V.str.injEq,V.bl.injEq,V.ty.injEq,List.cons.injEq,and_true,true_and,and_assoc,exists_and_left,List.set_cons_zero,List.set_cons_succ,Nat.reduceSub,Nat.reduceAdd,decide_eq_true_eq,Bool.not_eq_true',decide_eq_false_iff_not,Int.reduceToNat,Int.reducePow,Int.reduceNeg,Int.reduceMul,Int.reduceAdd,if_true,ite_true,Bool.false_eq_true,ite_false,if_false]
  refine ⟨_,_,i1,i4,F,[],lays,low,h3.mk0,h.len,fun H4 s4=>?_⟩
  have S4:=S3.trans s4
  obtain ⟨kvs,hk,hkp⟩:=ld_same h3.ld_ s4
  have lk:=Paired.length hkp
  have le:=h.ok.le
  refine ⟨d,_,hk,kvs,.inl rfl,fun o=>?_⟩
  have ff:upd H4 d (.frz o (.dK kvs)) d=some (.frz o (.dK kvs)):=upd_same
  have nl:∀ b u,H4 b=some u→(∀ z,u≠.dK z)→upd H4 d (.frz o (.dK kvs)) b=some u:=fun b u e n=>by
    rw [upd_ne (fun z=>by subst z;rw [hk] at e;cases e;exact n _ rfl)];exact e
  refine ⟨o,kvs,ff,fun D hD=>?_⟩
  refine comp_inv (J:=Itk d o kvs) ld.length (by omega) (fun τ=>∃ o1,τ=[o1,some (.ref d),some (.int low)]) (csR ld low) (fun _ _ _ _ _ h=>h) ⟨_,rfl⟩ rfl (fun i H s h=>⟨s _ _ ff,by omega⟩) (fun H s=>⟨s _ _ ff,by omega⟩) hD ?_ ?_
  · rintro j v τ us H5 H6 ⟨o1,rfl⟩ s5 hj hR ⟨rfl,k0,v0,hk0,rfl⟩
    obtain ⟨y,hy,e1,gr,e2,zs,e3,e4⟩:=Paired.getP hkp hk0
    simp only at e1 e2
    subst e1 e2
    have tk:=take_snoc hy
    have lz:=Paired.length e4
    have vv:valV kvs (.inl y.1)=some (.ref gr):=by
      have nk:(kvs.map (·.1)).Nodup:=by rw [keys_of hkp];exact nodup_inl h.ok.nd
      exact valK_nd nk _ (List.mem_of_getElem? hk0)
    simp only [kV,tDGet,tMeth,cSumL,iDK,L2.start,tSeq,tAsg,gName,tRet,tNext,tOp,tVar,tC,tCons,tNil,tIfS,tOr,tNot,tTest,tB,tAndV,tCB,tCall,tComp,capV,LenV,rEq,rNe,rI0,cLen,scal,List.map,List.replicate,List.length,List.append,List.cons_append,List.nil_append,List.append_nil,List.getElem?_cons_zero,List.getElem?_cons_succ,Option.some.injEq,exists_eq_left',exists_eq_left,V.int.injEq,V.ref.injEq,V.str.injEq,V.bl.injEq,V.ty.injEq,List.cons.injEq,and_true,true_and,and_assoc,exists_and_left,List.set_cons_zero,List.set_cons_succ,Nat.reduceSub,Nat.reduceAdd,decide_eq_true_eq,Bool.not_eq_true',decide_eq_false_iff_not,Int.reduceToNat,Int.reducePow,Int.reduceNeg,Int.reduceMul,Int.reduceAdd,if_true,ite_true,Bool.false_eq_true,ite_false,if_false]
    refine ite2 (fun c=>⟨_,.inl ⟨kvs,.inl y.1,.inr ⟨o,s5 _ _ ff⟩,rfl,vv.symm⟩,zs.length,.inl ⟨_,SqL.of (s5 _ _ (nl _ _ e3 (fun _ z=>nomatch z))),rfl⟩,⟨_,rfl⟩,?_,Same.refl _⟩) fun c=>⟨⟨_,rfl⟩,?_,Same.refl _⟩
    · unfold csR at hR ⊢
      have e1:(List.filter (fun y:Int × List Row=>decide (low≤y.1)) [y])=[y]:=by simp [c]
      rw [tk,List.filter_append,e1,List.map_append,List.map_append,hR,lz];rfl
    · unfold csR at hR ⊢
      have e1:(List.filter (fun y:Int × List Row=>decide (low≤y.1)) [y])=[]:=by simp [c]
      rw [tk,List.filter_append,e1,List.append_nil];exact hR
  · intro us H5 hlz hR s5 hq
    unfold csR at hR
    rw [List.take_of_length_le (Nat.le_refl _)] at hR
    subst hR
    have bk:Same H4 (upd H5 d (.dK kvs)):=fun b u e=>by
      by_cases z:b=d
      · rw [z] at e ⊢
        rw [upd_same,← hk,e]
      · rw [upd_ne z]
        exact s5 _ _ (by rw [upd_ne z];exact e)
    refine ⟨_,SqL.of hq,s5 _ _ ff,fun H6 s6=>?_⟩
    rw [kept_perm h.pm.symm low,show ((ld.filter fun y=>decide (low≤y.1)).map fun y=>(y.2.length:Int)).sum=keptF ld low from rfl]
    rw [decide_eq_true rfl]
    exact k _ (S4.trans (bk.trans s6))
theorem rdp__law_asked {m d p pp:Addr} {kind rank low:Int} {F:Addr→Prop} {lays ld:List (Int × List Row)} {ps:List Pl} {q0:Pl} (h:KnAt t H m d F lays ld low ps) (hpp:PlsAt H pp ps) (hr:rB rank) (lr:low≤rank) (hp:H p=some (.tup [.str q0.1,.int q0.2])) (hn:isName q0.1=true) (k:∀ H',Same H H'→Q (.bl true) H') :
    rd__law_asked K t { nx:=fun _ H'=>Q .non H',rt:=Q } (L2.start ["makes","layings","kind","rank","place","places","found","right"] [.ref m,.ref d,.int kind,.int rank,.ref p,.ref pp]) H:=by
  obtain ⟨dx,fs,i1,i2,i3,i4,i5,i6⟩:=h.mk0.ins
  simp only [rd__law_asked,sp_Makes_seen,sp__law_whole,sp__law_seen,rEqD,tMeth,r_mt_clear,rClear,L2.start,tSeq,tAsg,gName,tRet,tDrop,tNext,tOp,tVar,tC,tCons,tNil,tIfS,tTest,tB,tAndV,tCB,tBM0,tyV,tCall,rEq,cIsi,scal,List.map,List.replicate,List.length,List.append,List.cons_append,List.nil_append,List.append_nil,List.getElem?_cons_zero,List.getElem?_cons_succ,Option.some.injEq,exists_eq_left',exists_eq_left,V.int.injEq,V.ref.injEq,V.str.injEq,V.bl.injEq,V.ty.injEq,List.cons.injEq,and_true,true_and,and_assoc,exists_and_left,List.set_cons_zero,List.set_cons_succ,Nat.reduceSub,Nat.reduceAdd,decide_eq_true_eq,Bool.not_eq_true',decide_eq_false_iff_not,Int.reduceToNat,Int.reducePow,Int.reduceNeg,Int.reduceMul,Int.reduceAdd,if_true,ite_true,Bool.false_eq_true,ite_false,if_false]
  refine ite2 (fun c=>?_) fun c=>?_
  · refine ⟨_,_,i1,i3,F,[],lays,low,h.mk0,hr,q0,hp,hn,fun _ H1 s1 H2 s2=>?_,fun z=>absurd z (by omega)⟩
    have S2:=s1.trans s2
    have h2:=h.same S2
    obtain ⟨kvs,hk,hkp⟩:=h2.ld_
    refine ⟨ld,q0,kvs,hk,hkp,h.ok.nd,S2 _ _ hp,hn,h.nms,fun H3 s3=>?_⟩
    rw [seenW_perm h.pm h.ok.nd q0 rank,decide_eq_true rfl]
    exact k _ (S2.trans s3)
  · simp only [rd__law_asked_1,sp_Makes_table_for,sp__law_due,rEqD,tMeth,r_mt_clear,rClear,L2.start,tSeq,tAsg,gName,tRet,tDrop,tNext,tOp,tVar,tC,tCons,tNil,tIfS,tTest,tB,tAndV,tCB,tBM0,tyV,tCall,rEq,cIsi,scal,List.map,List.replicate,List.length,List.append,List.cons_append,List.nil_append,List.append_nil,List.getElem?_cons_zero,List.getElem?_cons_succ,Option.some.injEq,exists_eq_left',exists_eq_left,V.int.injEq,V.ref.injEq,V.str.injEq,V.bl.injEq,V.ty.injEq,List.cons.injEq,and_true,true_and,and_assoc,exists_and_left,List.set_cons_zero,List.set_cons_succ,Nat.reduceSub,Nat.reduceAdd,decide_eq_true_eq,Bool.not_eq_true',decide_eq_false_iff_not,Int.reduceToNat,Int.reducePow,Int.reduceNeg,Int.reduceMul,Int.reduceAdd,if_true,ite_true,Bool.false_eq_true,ite_false,if_false]
    refine ⟨_,_,i1,i6,F,[],lays,low,h.mk0,hr,ps,h.ps,h.len,fun _ l rows2 H2 s2 hn2 hr2 tab2=>?_,fun z=>absurd z (by omega)⟩
    have h2:=h.same s2
    obtain ⟨zs,hz0,pz0⟩:=hr2
    have hz:=hid_sub _ _ hz0
    refine ⟨_,.lst hz,true,kit_same "list",?_⟩
    rw [if_pos rfl]
    refine ⟨ld,h2.ld_,h.ok,ps,hpp.same s2,h.in2,fun l2 out H3 s3 hn3 hr3 tab3=>?_⟩
    obtain ⟨us,hu,pu⟩:=hr3
    have eq:=tab_eq tab3 tab2 h.pm h.ok.nd
    subst eq
    have pz3:Paired (PrAt H3) zs out:=Paired.mapP pz0 fun _ _ z=>pr_same (hid_sub.trans s3) z
    have okn:∀ r∈out,isName r.1.1=true:=fun r hr=>by
      have z:=(tab3.2 r.1 r.2).mp hr
      by_cases c:r.1∈ps
      · exact (h.pn _ c).1
      · exfalso
        refine z.2 ?_
        rw [← z.1]
        exact seenW_none (fun _ z=>(nomatch z)) fun y hy x hx e=>c (by rw [← e];exact h.in2 y hy x hx)
    have pp':plainD (.list (out.map rwD))=true:=by rw [plainD];exact rwD_ok okn
    refine ⟨.list (out.map rwD),.lst (SqL.of (s3 _ _ hz)) (rws_dat pz3),.list (out.map rwD),.lst (SqL.of hu) (rws_dat pu),pp',pp',rwD_deep _,rwD_deep _,fun b hb=>?_⟩
    have eb:=hb.mpr rfl
    subst eb
    rw [if_pos rfl]
    refine ⟨.inl ⟨_,SqL.of (s3 _ _ hz)⟩,_,s3 _ _ hz,k _ fun b o e=>?_⟩
    rw [upd_ne (fun z=>by subst z;rw [hn2] at e;cases e)]
    exact (s2.trans s3) _ _ e
theorem rdp_rfH {mg:Str→Option Value} (T:Txt K mg t) {D:Ends} {e:Addr} {v0 v1 v2 v3 v4 o5 o6 o7:Option V} (he:H e=some (exO e t.c_Folded)) (k:∀ H',Same H H'→D.nx [v0,v1,v2,v3,v4,some (.bl true),some (.bl false),some (.bl false),some (.ref e)] H') :
    rd__law_refused_H K t D [v0,v1,v2,v3,v4,o5,o6,o7,some (.ref e)] H:=by
  simp only [rd__law_refused_H,L2.start,cIsx,cIsxT,clsV,tSeq,tAsg,gName,tVar,tC,tTup,tCons,tNil,tAndV,tCB,List.map,List.replicate,List.length,List.append,List.cons_append,List.nil_append,List.append_nil,List.getElem?_cons_zero,List.getElem?_cons_succ,Option.some.injEq,exists_eq_left',exists_eq_left,V.int.injEq,V.ref.injEq,V.str.injEq,V.bl.injEq,V.ty.injEq,List.cons.injEq,and_true,true_and,and_assoc,exists_and_left,List.set_cons_zero,List.set_cons_succ,Nat.reduceSub,Nat.reduceAdd,decide_eq_true_eq,Bool.not_eq_true',decide_eq_false_iff_not,Int.reduceToNat,Int.reducePow,Int.reduceNeg,Int.reduceMul,Int.reduceAdd,if_true,ite_true,Bool.false_eq_true,ite_false,if_false]
  refine ⟨_,he,T.y_Folded,true,T.i_Folded_Folded,?_⟩
  rw [if_pos rfl]
  refine ⟨_,he,T.y_Folded,true,T.i_Folded_ValueError,by decide,fun p1 hp1=>?_⟩
  obtain ⟨H1,eH,s1,q1⟩:∃ H1,H1=upd H p1 (HO.tup [V.ref t.c_NoNumber,V.ref t.c_NoTerm,V.ref t.c_NoDealing,V.ref t.c_Nought,V.ref t.c_Great])∧Same H H1∧H1 p1=some (HO.tup [V.ref t.c_NoNumber,V.ref t.c_NoTerm,V.ref t.c_NoDealing,V.ref t.c_Nought,V.ref t.c_Great]):=⟨_,rfl,isV p1 hp1,upd_same⟩
  rw [← eH];clear eH
  refine ⟨_,s1 _ _ he,T.y_Folded,[t.c_NoNumber,t.c_NoTerm,t.c_NoDealing,t.c_Nought,t.c_Great],q1,false,T.j_Folded_0,by decide,fun p2 hp2=>?_⟩
  obtain ⟨H2,eH,s2,q2⟩:∃ H2,H2=upd H1 p2 (HO.tup [V.ref t.c_NoHand,V.ref t.c_NoOrder,V.ref t.c_NoLine,V.ref t.c_NoLog])∧Same H1 H2∧H2 p2=some (HO.tup [V.ref t.c_NoHand,V.ref t.c_NoOrder,V.ref t.c_NoLine,V.ref t.c_NoLog]):=⟨_,rfl,isV p2 hp2,upd_same⟩
  rw [← eH];clear eH
  exact ⟨_,s2 _ _ (s1 _ _ he),T.y_Folded,[t.c_NoHand,t.c_NoOrder,t.c_NoLine,t.c_NoLog],q2,false,T.j_Folded_1,k _ (s1.trans s2)⟩
theorem rdp_rfX {EX:EXK} {D:Ends} {m p g d:Addr} {kind rank low:Int} {F:Addr→Prop} {lays ld:List (Int × List Row)} {ps:List Pl} {q0:Pl} {gs:List Row} {o5 o6 o7 o8:Option V} (h:KnAt t H m d F lays ld low ps) (hr:rB rank) (lr:rank < low) (hp:H p=some (.tup [.str q0.1,.int q0.2])) (hn:isName q0.1=true) (hg:RwsAt H g gs) (gf:GfOk gs)
    (k:∀ H',Same H H'→EX (.ref t.c_Folded) [some (.ref m),some (.int kind),some (.int rank),some (.ref p),some (.ref g),o5,o6,o7,o8] H') :
    rd__law_refused_X K t EX D [some (.ref m),some (.int kind),some (.int rank),some (.ref p),some (.ref g),o5,o6,o7,o8] H:=by
  obtain ⟨dx,fs,i1,i2,i3,i4,i5,i6⟩:=h.mk0.ins
  obtain ⟨xs,hx,pr⟩:=hg
  simp only [rd__law_refused_X,tIfX,tDropX,tMethX,sp_Makes_fold,sp_Makes_lay,sp_Makes_seen,sp_Makes_table_for,tMethX,L2.start,cLst,tDropX,tOp,tVar,tC,tCons,tNil,tIfS,tTest,tCB,rEq,scal,List.map,List.replicate,List.length,List.append,List.cons_append,List.nil_append,List.append_nil,List.getElem?_cons_zero,List.getElem?_cons_succ,Option.some.injEq,exists_eq_left',exists_eq_left,V.int.injEq,V.ref.injEq,V.str.injEq,V.bl.injEq,V.ty.injEq,List.cons.injEq,and_true,true_and,and_assoc,exists_and_left,List.set_cons_zero,List.set_cons_succ,Nat.reduceSub,Nat.reduceAdd,decide_eq_true_eq,Bool.not_eq_true',decide_eq_false_iff_not,Int.reduceToNat,Int.reducePow,Int.reduceNeg,Int.reduceMul,Int.reduceAdd,if_true,ite_true,Bool.false_eq_true,ite_false,if_false]
  have ab:¬ low≤rank:=by omega
  refine ite2 (fun c=>⟨_,_,i1,i5,F,[],lays,low,h.mk0,hr,ps,h.ps,h.len,fun z=>absurd z ab,fun _=>k⟩) fun c=>ite2 (fun c=>⟨_,_,i1,i2,xs,.inl (SqL.of hx),fun l hl=>?_⟩) fun c=>ite2 (fun c=>⟨_,_,i1,i3,F,[],lays,low,h.mk0,hr,q0,hp,hn,fun z=>absurd z ab,fun _=>k⟩) fun c=>⟨_,_,i1,i6,F,[],lays,low,h.mk0,hr,ps,h.ps,h.len,fun z=>absurd z ab,fun _=>k⟩
  have s1:=isV (o:=HO.lst xs) l hl
  have nl:¬ F l:=fun z=>by obtain ⟨o,e⟩:=h.mk0.own l z;rw [hl] at e;cases e
  exact ⟨F,[],lays,low,h.mk0.same s1,hr,gs,⟨xs,upd_same,Paired.mapP pr fun _ _ z=>pr_same s1 z⟩,nl,gf,h.len,fun z=>absurd z ab,fun _ H' s=>k H' (s1.trans s)⟩
theorem rdp__law_refused {mg:Str→Option Value} {m p g d:Addr} {kind rank low:Int} {F:Addr→Prop} {lays ld:List (Int × List Row)} {ps:List Pl} {q0:Pl} {gs:List Row} (T:Txt K mg t) (h:KnAt t H m d F lays ld low ps) (hr:rB rank) (lr:rank < low) (hp:H p=some (.tup [.str q0.1,.int q0.2])) (hn:isName q0.1=true) (hg:RwsAt H g gs) (gf:GfOk gs) (k:∀ H',Same H H'→Q (.bl true) H') :
    rd__law_refused K t { nx:=fun _ H'=>Q .non H',rt:=Q } (L2.start ["makes","kind","rank","place","gifts","right","other","another","e"] [.ref m,.int kind,.int rank,.ref p,.ref g]) H:=by
  simp only [rd__law_refused,tTry,tMethX,L2.start,cLst,tTry,endT,tDropX,cIsx,cIsxT,clsV,tSeq,tAsg,gName,tRet,tOp,tVar,tC,tTup,tCons,tNil,tIfS,tTest,tAndV,tNotV,tCB,rEq,scal,List.map,List.replicate,List.length,List.append,List.cons_append,List.nil_append,List.append_nil,List.getElem?_cons_zero,List.getElem?_cons_succ,Option.some.injEq,exists_eq_left',exists_eq_left,V.int.injEq,V.ref.injEq,V.str.injEq,V.bl.injEq,V.ty.injEq,List.cons.injEq,and_true,true_and,and_assoc,exists_and_left,List.set_cons_zero,List.set_cons_succ,Nat.reduceSub,Nat.reduceAdd,decide_eq_true_eq,Bool.not_eq_true',decide_eq_false_iff_not,Int.reduceToNat,Int.reducePow,Int.reduceNeg,Int.reduceMul,Int.reduceAdd,if_true,ite_true,Bool.false_eq_true,ite_false,if_false]
  refine rdp_rfX h hr lr hp hn hg gf fun H1 s1=>⟨_,rfl,T.y_Folded,T.e_Folded_ForerunError,fun e he=>?_⟩
  have s2:=isV (o:=exO e t.c_Folded) e he
  simp only [tMethX,L2.start,cLst,tTry,endT,tDropX,cIsx,cIsxT,clsV,tSeq,tAsg,gName,tRet,tOp,tVar,tC,tTup,tCons,tNil,tIfS,tTest,tAndV,tNotV,tCB,rEq,scal,List.map,List.replicate,List.length,List.append,List.cons_append,List.nil_append,List.append_nil,List.getElem?_cons_zero,List.getElem?_cons_succ,Option.some.injEq,exists_eq_left',exists_eq_left,V.int.injEq,V.ref.injEq,V.str.injEq,V.bl.injEq,V.ty.injEq,List.cons.injEq,and_true,true_and,and_assoc,exists_and_left,List.set_cons_zero,List.set_cons_succ,Nat.reduceSub,Nat.reduceAdd,decide_eq_true_eq,Bool.not_eq_true',decide_eq_false_iff_not,Int.reduceToNat,Int.reducePow,Int.reduceNeg,Int.reduceMul,Int.reduceAdd,if_true,ite_true,Bool.false_eq_true,ite_false,if_false]
  refine rdp_rfH T upd_same fun H2 s3=>?_
  simp only [endT,rd__law_refused_4,tMethX,L2.start,cLst,tTry,endT,tDropX,cIsx,cIsxT,clsV,tSeq,tAsg,gName,tRet,tOp,tVar,tC,tTup,tCons,tNil,tIfS,tTest,tAndV,tNotV,tCB,rEq,scal,List.map,List.replicate,List.length,List.append,List.cons_append,List.nil_append,List.append_nil,List.getElem?_cons_zero,List.getElem?_cons_succ,Option.some.injEq,exists_eq_left',exists_eq_left,V.int.injEq,V.ref.injEq,V.str.injEq,V.bl.injEq,V.ty.injEq,List.cons.injEq,and_true,true_and,and_assoc,exists_and_left,List.set_cons_zero,List.set_cons_succ,Nat.reduceSub,Nat.reduceAdd,decide_eq_true_eq,Bool.not_eq_true',decide_eq_false_iff_not,Int.reduceToNat,Int.reducePow,Int.reduceNeg,Int.reduceMul,Int.reduceAdd,if_true,ite_true,Bool.false_eq_true,ite_false,if_false]
  exact k _ (s1.trans (s2.trans s3))
def putD:List (Int × List Row)→Int→List Row→List (Int × List Row)
  | [],r,gs=>[(r,gs)]
  | y :: l,r,gs=>if y.1=r then (r,gs) :: l else y :: putD l r gs
theorem putD_keys {r:Int} {gs:List Row}:∀ {l:List (Int × List Row)} {x:Int},x∈(putD l r gs).map (·.1)→x=r∨x∈l.map (·.1)
  | [],x,h=>by
    rw [putD] at h
    exact .inl (List.mem_singleton.mp h)
  | y :: l,x,h=>by
    rw [putD] at h
    by_cases c:y.1=r
    · rw [if_pos c,List.map_cons,List.mem_cons] at h
      exact h.elim .inl fun z=>.inr (by rw [List.map_cons,List.mem_cons];exact .inr z)
    · rw [if_neg c,List.map_cons,List.mem_cons] at h
      rcases h with h | h
      · exact .inr (by rw [List.map_cons,List.mem_cons];exact .inl h)
      · exact (putD_keys h).elim .inl fun z=>.inr (by rw [List.map_cons,List.mem_cons];exact .inr z)
theorem putD_nd {r:Int} {gs:List Row}:∀ {l:List (Int × List Row)},(l.map (·.1)).Nodup→((putD l r gs).map (·.1)).Nodup
  | [],_=>by rw [putD];simp
  | y :: l,h=>by
    rw [List.map_cons,List.nodup_cons] at h
    rw [putD]
    by_cases c:y.1=r
    · rw [if_pos c,List.map_cons,List.nodup_cons]
      exact ⟨by rw [← c];exact h.1,h.2⟩
    · rw [if_neg c,List.map_cons,List.nodup_cons]
      exact ⟨fun z=>(putD_keys z).elim c h.1,putD_nd h.2⟩
theorem putD_mem {r:Int} {gs:List Row}:∀ {l:List (Int × List Row)} {y:Int × List Row},y∈putD l r gs→y=(r,gs)∨y∈l
  | [],y,h=>by rw [putD] at h;exact .inl (List.mem_singleton.mp h)
  | x :: l,y,h=>by
    rw [putD] at h
    by_cases c:x.1=r
    · rw [if_pos c,List.mem_cons] at h
      exact h.elim .inl fun z=>.inr (List.mem_cons_of_mem _ z)
    · rw [if_neg c,List.mem_cons] at h
      rcases h with h | h
      · exact .inr (by rw [h];exact List.mem_cons_self)
      · exact (putD_mem h).elim .inl fun z=>.inr (List.mem_cons_of_mem _ z)
theorem putD_len {r:Int} {gs:List Row}:∀ (l:List (Int × List Row)),(putD l r gs).length≤l.length + 1
  | []=>Nat.le_refl _
  | x :: l=>by
    rw [putD]
    by_cases c:x.1=r
    · rw [if_pos c,List.length_cons,List.length_cons];omega
    · rw [if_neg c,List.length_cons,List.length_cons]
      have:=putD_len (r:=r) (gs:=gs) l
      omega
theorem putD_perm {r:Int} {gs:List Row}:∀ {l:List (Int × List Row)},(l.map (·.1)).Nodup→(putD l r gs).Perm (layW l r gs)
  | [],_=>List.Perm.refl _
  | y :: l,h=>by
    rw [List.map_cons,List.nodup_cons] at h
    rw [putD]
    unfold layW
    by_cases c:y.1=r
    · have e:(List.filter (fun x:Int × List Row=>decide (x.1≠r)) (y :: l))=l:=by
        rw [List.filter_cons,if_neg (by simp [c])]
        exact List.filter_eq_self.mpr fun x hx=>decide_eq_true fun z=>h.1 (List.mem_map.mpr ⟨x,hx,z.trans c.symm⟩)
      rw [if_pos c,e]
      exact (List.perm_append_singleton (r,gs) l).symm
    · have e:(List.filter (fun x:Int × List Row=>decide (x.1≠r)) (y :: l))=y :: l.filter (fun x=>decide (x.1≠r)):=by
        rw [List.filter_cons,if_pos (decide_eq_true c)]
      rw [if_neg c,e]
      exact List.Perm.cons _ (putD_perm h.2)
theorem lay_perm {l l':List (Int × List Row)} (h:l.Perm l') (r:Int) (gs:List Row):(layW l r gs).Perm (layW l' r gs):=(h.filter _).append_right _
theorem putK_hit {a:Key × V} {r:List (Key × V)} {k:Key} {v:V} (h:a.1=k) (n:k ∉ r.map (·.1)):putK (a :: r) k v=(k,v) :: r:=by
  unfold putK
  rw [if_pos (by rw [List.any_cons,decide_eq_true h,Bool.true_or]),List.map_cons,if_pos h,h]
  congr 1
  refine (List.map_congr_left fun x hx=>?_).trans (List.map_id r)
  rw [if_neg (fun z=>n (List.mem_map.mpr ⟨x,hx,z⟩))];rfl
theorem putK_miss {a:Key × V} {r:List (Key × V)} {k:Key} {v:V} (h:a.1≠k):putK (a :: r) k v=a :: putK r k v:=by
  unfold putK
  rw [List.any_cons,decide_eq_false h,Bool.false_or]
  by_cases c:(r.any fun kv=>decide (kv.1=k))=true
  · rw [if_pos c,if_pos c,List.map_cons,if_neg h]
  · rw [if_neg c,if_neg c];rfl
theorem put_pair {H:Hp} {r:Int} {gv:Addr} {gs:List Row} (hg:RwsAt H gv gs):∀ {kvs:List (Key × V)} {l:List (Int × List Row)},(l.map (·.1)).Nodup→Paired (fun (kv:Key × V) (y:Int × List Row)=>kv.1=.inl y.1∧∃ g,kv.2=.ref g∧RwsAt H g y.2) kvs l→Paired (fun (kv:Key × V) (y:Int × List Row)=>kv.1=.inl y.1∧∃ g,kv.2=.ref g∧RwsAt H g y.2) (putK kvs (.inl r) (.ref gv)) (putD l r gs)
  | _,_,_,.nil=>.cons ⟨rfl,gv,rfl,hg⟩ .nil
  | a :: kr,y :: l,hn,.cons h t=>by
    rw [List.map_cons,List.nodup_cons] at hn
    rw [putD]
    by_cases c:y.1=r
    · rw [if_pos c,putK_hit (by rw [h.1,c]) (by
        rw [keys_of t]
        intro z
        obtain ⟨x,hx,e⟩:=List.mem_map.mp z
        exact hn.1 (List.mem_map.mpr ⟨x,hx,(Sum.inl.inj e).trans c.symm⟩))]
      exact .cons ⟨rfl,gv,rfl,hg⟩ t
    · rw [if_neg c,putK_miss (fun z=>c (by rw [h.1] at z;exact Sum.inl.inj z))]
      exact .cons h (put_pair hg hn.2 t)
theorem cutn (ns:List Int) (lo hi:Option Int):∃ cs:List Int,cutV (ns.map V.int) lo hi=cs.map V.int∧(∀ c∈cs,c∈ns)∧cs.length≤ns.length:=by
  refine ⟨(ns.drop (HT.sIx (ns.map V.int).length 0 lo)).take (HT.sIx (ns.map V.int).length (ns.map V.int).length hi - HT.sIx (ns.map V.int).length 0 lo),?_,fun y hy=>List.mem_of_mem_drop (List.mem_of_mem_take hy),?_⟩
  · unfold cutV;rw [List.map_take,List.map_drop]
  · rw [List.length_take,List.length_drop];omega
abbrev De:=Option Int × Int × Int
def deV:Option Int→V
  | none=>.non
  | some r=>.int r
def DeAt (H:Hp) (v:V) (y:De):Prop:=∃ a,v=.ref a∧H a=some (.tup [deV y.1,.int y.2.1,.int y.2.2])
structure DeOk (y:De):Prop where
  rk:∀ r,y.1=some r→rB r
  cw:Cw y.2.2
structure LvAt (t:Adr) (H:Hp) (p m d S:Addr) (F:Addr→Prop) (ps:List Pl) (lays ld:List (Int × List Row)) (low:Int) (ys:List V) (ds:List De):Prop where
  mf:MfAt t H m F [] lays low
  pl:PlsAt (Hid F H) p ps
  ld_:LdAt (Hid F H) d ld
  ok:LdOk ld
  pm:ld.Perm lays
  lo:rB low
  in2:∀ y∈ld,∀ r∈y.2,r.1∈ps
  sc:Hid F H S=some (.lst ys)
  de:Paired (DeAt (Hid F H)) ys ds
section
variable {p m d S:Addr} {F:Addr→Prop} {ps:List Pl} {lays ld:List (Int × List Row)} {low:Int} {ys:List V} {ds:List De} {H':Hp}
theorem LvAt.kn (h:LvAt t H p m d S F ps lays ld low ys ds):KnAt t H m d F lays ld low ps:=⟨h.mf,ld_same h.ld_ hid_sub,h.ok,h.pm,h.lo,h.pl.le,h.pl.ok,h.in2⟩
theorem de_same {H H':Hp} (s:Same H H') (h:Paired (DeAt H) ys ds):Paired (DeAt H') ys ds:=Paired.mapP h fun _ _ ⟨a,e,z⟩=>⟨a,e,s _ _ z⟩
theorem LvAt.same (h:LvAt t H p m d S F ps lays ld low ys ds) (s:Same H H'):LvAt t H' p m d S F ps lays ld low ys ds :=
  have u:=hid_same (F:=F) s
  ⟨h.mf.same s,h.pl.same u,ld_same h.ld_ u,h.ok,h.pm,h.lo,h.in2,u _ _ h.sc,de_same u h.de⟩
end
theorem rdp_lawS {D:Ends} {p m d S pl a:Addr} {F:Addr→Prop} {ps:List Pl} {lays ld:List (Int × List Row)} {low:Int} {ys:List V} {ds:List De} {q0:Pl} {o5 o6 o8 o9 o10 o11 o13:Option V} (h:LvAt t H p m d S F ps lays ld low ys ds) (hp:Hid F H pl=some (.tup [.str q0.1,.int q0.2])) (hn:isName q0.1=true)
    (k:∀ H',Same H H'→D.nx [some (.ref a),some (.ref p),some (.ref m),some (.ref d),some (.int low),o5,o6,some (.ref S),o8,o9,o10,o11,some (.ref pl),o13,none] H') :
    rd_law_S K t D [some (.ref a),some (.ref p),some (.ref m),some (.ref d),some (.int low),o5,o6,some (.ref S),o8,o9,o10,o11,some (.ref pl),o13,none] H:=by
  simp only [rd_law_S,sp__law_stays,L2.start,tRet,tNext,tVar,tC,tCons,tNil,tIfS,tNot,tB,tCall,List.map,List.replicate,List.length,List.append,List.cons_append,List.nil_append,List.append_nil,List.getElem?_cons_zero,List.getElem?_cons_succ,Option.some.injEq,exists_eq_left',exists_eq_left,V.int.injEq,V.ref.injEq,V.str.injEq,V.bl.injEq,V.ty.injEq,List.cons.injEq,and_true,true_and,and_assoc,exists_and_left,List.set_cons_zero,List.set_cons_succ,Nat.reduceSub,Nat.reduceAdd,decide_eq_true_eq,Bool.not_eq_true',decide_eq_false_iff_not,Int.reduceToNat,Int.reducePow,Int.reduceNeg,Int.reduceMul,Int.reduceAdd,if_true,ite_true,Bool.false_eq_true,ite_false,if_false]
  refine ⟨F,lays,ld,ps,h.kn,q0,hid_sub _ _ hp,hn,fun H1 s1=>?_⟩
  rw [if_neg (by decide)]
  exact k _ s1
theorem rdp_lawR {D:Ends} {p m d S pl gv a:Addr} {F:Addr→Prop} {ps:List Pl} {lays ld:List (Int × List Row)} {low rank kind:Int} {ys:List V} {ds:List De} {q0:Pl} {gs:List Row} {o5 o6 o8 o11:Option V} (h:LvAt t H p m d S F ps lays ld low ys ds) (hr:rB rank) (hp:Hid F H pl=some (.tup [.str q0.1,.int q0.2])) (hn:isName q0.1=true) (hg:RwsAt (Hid F H) gv gs) (gf:GfOk gs) (gi:∀ r∈gs,r.1∈ps) (ll:ld.length≤150)
    (k:∀ F' lays' ld' low' o9 o13 H',LvAt t H' p m d S F' ps lays' ld' low' ys ds→ld'.length≤ld.length + 1→D.nx [some (.ref a),some (.ref p),some (.ref m),some (.ref d),some (.int low'),o5,o6,some (.ref S),o8,o9,some (.int kind),o11,some (.ref pl),o13,none] H') :
    rd_law_R K t D [some (.ref a),some (.ref p),some (.ref m),some (.ref d),some (.int low),o5,o6,some (.ref S),o8,some (.int rank),some (.int kind),o11,some (.ref pl),some (.ref gv),none] H:=by
  simp only [rd_law_R,sp__law_refused,sp_Makes_fold,sp_Makes_lay,sp__law_asked,sDPut,tMeth,L2.start,cLst,tSeq,tAsg,gName,tRet,tDrop,tNext,tOp,tVar,tC,tCons,tNil,tIfS,tNot,tTest,tB,tCB,tCall,rEq,rI0,scal,List.map,List.replicate,List.length,List.append,List.cons_append,List.nil_append,List.append_nil,List.getElem?_cons_zero,List.getElem?_cons_succ,Option.some.injEq,exists_eq_left',exists_eq_left,V.int.injEq,V.ref.injEq,V.str.injEq,V.bl.injEq,V.ty.injEq,List.cons.injEq,and_true,true_and,and_assoc,exists_and_left,List.set_cons_zero,List.set_cons_succ,Nat.reduceSub,Nat.reduceAdd,decide_eq_true_eq,Bool.not_eq_true',decide_eq_false_iff_not,Int.reduceToNat,Int.reducePow,Int.reduceNeg,Int.reduceMul,Int.reduceAdd,if_true,ite_true,Bool.false_eq_true,ite_false,if_false]
  obtain ⟨dx,fs,i1,i2,i3,i4,i5,i6⟩:=h.mf.ins
  refine ite2 (fun c=>?_) fun c=>ite2 (fun c0=>?_) fun c0=>ite2 (fun c1=>?_) fun c1=>?_
  · refine ⟨low,F,lays,ld,d,ps,h.kn,hr,c,q0,hid_sub _ _ hp,hn,gs,rws_same hg hid_sub,gf,fun H1 s1=>?_⟩
    rw [if_neg (by decide)]
    have h1:=h.same s1
    exact rdp_lawS h1 (hid_same s1 _ _ hp) hn fun H2 s2=>k F lays ld low _ _ H2 (h1.same s2) (by omega)
  · refine ⟨_,_,i1,i5,F,[],lays,low,h.mf,hr,ps,h.kn.ps,h.kn.len,fun _ H1 F' fr ts mf ff=>?_,fun z=>absurd z c⟩
    have u:=hid_step fr ff
    have h1:LvAt t H1 p m d S F' ps lays ld rank ys ds:=⟨mf,h.pl.same u,ld_same h.ld_ u,h.ok,h.pm,hr,h.in2,u _ _ h.sc,de_same u h.de⟩
    exact rdp_lawS h1 (u _ _ hp) hn fun H2 s2=>k F' lays ld rank _ _ H2 (h1.same s2) (by omega)
  · obtain ⟨zs,hz0,pz0⟩:=hg
    refine ⟨_,_,i1,i2,zs,.inl (SqL.of (hid_sub _ _ hz0)),fun W hW=>?_⟩
    have nW:¬ F W:=fun z=>by obtain ⟨o,e⟩:=h.mf.own W z;rw [hW] at e;cases e
    have s1:=isV (o:=HO.lst zs) W hW
    have q1:upd H W (.lst zs) W=some (.lst zs):=upd_same
    generalize upd H W (.lst zs)=H1 at *
    have h1:=h.same s1
    refine ⟨F,[],lays,low,h1.mf,hr,gs,⟨zs,q1,Paired.mapP pz0 fun _ _ z=>pr_same (hid_sub.trans s1) z⟩,nW,gf,h.kn.len,fun _ H2 F' fr ts mf ff=>?_,fun z=>absurd z c⟩
    have u:=(hid_same (F:=F) s1).trans (hid_step fr ff)
    have hg2:RwsAt (Hid F' H2) gv gs:=rws_same ⟨zs,hz0,pz0⟩ u
    obtain ⟨kvs,hk0,hkp⟩:=ld_same h.ld_ u
    have hk:=hid_sub _ _ hk0
    have nd_:=hid_not hk0
    have lk:=Paired.length hkp
    have keepL:∀ b w,H2 b=some w→(∀ z,w≠.dK z)→upd H2 d (.dK (putK kvs (.inl rank) (.ref gv))) b=some w:=fun b w e n=>by
      rw [upd_ne (fun z=>by subst z;rw [hk] at e;cases e;exact n _ rfl)];exact e
    have TL:∀ b w,Hid F' H2 b=some w→(∀ z,w≠.dK z)→Hid F' (upd H2 d (.dK (putK kvs (.inl rank) (.ref gv)))) b=some w:=fun b w e n=>hid_of (hid_not e) (keepL b w (hid_sub _ _ e) n)
    have rtl:∀ {x:Addr} {rs:List Row},RwsAt (Hid F' H2) x rs→RwsAt (Hid F' (upd H2 d (.dK (putK kvs (.inl rank) (.ref gv))))) x rs:=fun {x rs} ⟨zs,a,b⟩=>⟨zs,TL _ _ a (fun _ z=>nomatch z),Paired.mapP b fun _ _ ⟨r,p,e,c,d⟩=>⟨r,p,e,TL _ _ c (fun _ z=>nomatch z),TL _ _ d (fun _ z=>nomatch z)⟩⟩
    have h3:LvAt t (upd H2 d (.dK (putK kvs (.inl rank) (.ref gv)))) p m d S F' ps (layW lays rank gs) (putD ld rank gs) low ys ds:=by
      obtain ⟨⟨xs,x1,x2⟩,y1,y2,y3,y4⟩:=h.pl.same u
      refine ⟨mf.keep (fun b o z e=>by rw [upd_ne (fun y=>nd_ (by rw [← y];exact z))];exact e) (fun b zs e=>keepL b _ e (fun _ z=>nomatch z)),⟨⟨xs,TL _ _ x1 (fun _ z=>nomatch z),Paired.mapP x2 fun _ _ ⟨a,e,z⟩=>⟨a,e,TL _ _ z (fun _ z=>nomatch z)⟩⟩,y1,y2,y3,y4⟩,⟨_,hid_of nd_ upd_same,Paired.mapP (put_pair hg2 h.ok.nd hkp) fun _ _ ⟨e,g,e2,e3⟩=>⟨e,g,e2,rtl e3⟩⟩,⟨putD_nd h.ok.nd,by have:=putD_len (r:=rank) (gs:=gs) ld;omega,fun y hy=>?_⟩,(putD_perm h.ok.nd).trans (lay_perm h.pm rank gs),h.lo,fun y hy r hr=>?_,TL _ _ (u _ _ h.sc) (fun _ z=>nomatch z),Paired.mapP (de_same u h.de) fun _ _ ⟨a,e,z⟩=>⟨a,e,TL _ _ z (fun _ z=>nomatch z)⟩⟩
      · rcases putD_mem hy with rfl | hy
        · exact ⟨hr,gf⟩
        · exact h.ok.gf y hy
      · rcases putD_mem hy with rfl | hy
        · exact gi r hr
        · exact h.in2 y hy r hr
    have hp3:=TL _ _ (u _ _ hp) (fun _ z=>nomatch z)
    refine ⟨_,.inl ⟨kvs,.inl rank,hk,rfl,Nat.lt_of_lt_of_le (m:=100000) (by omega) (by decide),rfl⟩,?_⟩
    have ln:=putD_len (r:=rank) (gs:=gs) ld
    exact rdp_lawS h3 hp3 hn fun H4 s4=>k F' _ _ low _ _ H4 (h3.same s4) ln
  · refine ⟨low,F,lays,ld,ps,h.kn,h.pl.same hid_sub,hr,by omega,q0,hid_sub _ _ hp,hn,fun H1 s1=>?_⟩
    rw [if_neg (by decide)]
    have h1:=h.same s1
    exact rdp_lawS h1 (hid_same s1 _ _ hp) hn fun H2 s2=>k F lays ld low _ _ H2 (h1.same s2) (by omega)
structure MkF (K:PySem.W.Frag) (t:Adr):Prop where
  cl:Cls K t.c_Makes
  g:NoAttr K t.c_Makes "ground"
  f:NoAttr K t.c_Makes "folded"
  w:NoAttr K t.c_Makes "worths"
  r:NoAttr K t.c_Makes "ranks"
theorem mkF {P:Str→Option Value} (T:Txt K P t):MkF K t:=⟨T.cl_Makes,T.na_Makes_ground,T.na_Makes_folded,T.na_Makes_worths,T.na_Makes_ranks⟩
section
variable {gr wo rk:Addr} {low:Int}
theorem fs_g:List.lookup (Str.ofString "ground") (mkFs gr low wo rk)=some (.ref gr):=by simp only [mkFs,List.lookup_cons,beq_self_eq_true]
theorem fs_f:List.lookup (Str.ofString "folded") (mkFs gr low wo rk)=some (.int low):=by
  have h1:(Str.ofString "folded" == Str.ofString "ground")=false:=by decide +kernel
  simp only [mkFs,List.lookup_cons,h1,beq_self_eq_true]
theorem fs_w:List.lookup (Str.ofString "worths") (mkFs gr low wo rk)=some (.ref wo):=by
  have h1:(Str.ofString "worths" == Str.ofString "ground")=false:=by decide +kernel
  have h2:(Str.ofString "worths" == Str.ofString "folded")=false:=by decide +kernel
  simp only [mkFs,List.lookup_cons,h1,h2,beq_self_eq_true]
theorem fs_r:List.lookup (Str.ofString "ranks") (mkFs gr low wo rk)=some (.ref rk):=by
  have h1:(Str.ofString "ranks" == Str.ofString "ground")=false:=by decide +kernel
  have h2:(Str.ofString "ranks" == Str.ofString "folded")=false:=by decide +kernel
  have h3:(Str.ofString "ranks" == Str.ofString "worths")=false:=by decide +kernel
  simp only [mkFs,List.lookup_cons,h1,h2,h3,beq_self_eq_true]
end
theorem take_le {rs:List Int} {k:Nat} {x:Int} (h:rs.Pairwise (· < ·)) (e:rs[k]?=some x):∀ r∈rs.take (k + 1),r≤x:=fun r hr=>by
  obtain ⟨j,hj⟩:=List.getElem?_of_mem hr
  rw [List.getElem?_take] at hj
  split at hj
  · obtain ⟨h1,h2⟩:=List.getElem?_eq_some_iff.mp hj
    obtain ⟨h3,h4⟩:=List.getElem?_eq_some_iff.mp e
    rcases Nat.lt_or_ge j k with hl | hg
    · have:=List.pairwise_iff_getElem.mp h j k h1 h3 hl
      omega
    · have:j=k:=by omega
      subst this
      omega
  · cases hj
theorem drop_ge {rs:List Int} {k:Nat} {x:Int} (h:rs.Pairwise (· < ·)) (e:rs[k]?=some x):∀ r∈rs.drop k,x≤r:=fun r hr=>by
  obtain ⟨j,hj⟩:=List.getElem?_of_mem hr
  rw [List.getElem?_drop] at hj
  obtain ⟨h1,h2⟩:=List.getElem?_eq_some_iff.mp hj
  obtain ⟨h3,h4⟩:=List.getElem?_eq_some_iff.mp e
  rcases Nat.eq_zero_or_pos j with rfl | hp
  · simp only [Nat.add_zero] at h2
    omega
  · have:=List.pairwise_iff_getElem.mp h k (k + j) h3 h1 (by omega)
    omega
def mbW (a:Addr) (rank:Int) (rs:List Int) (H:Hp) (m:Nat) (σ:St) (H':Hp):Prop:=∃ (lo hi:Nat) (o:Option V),σ=[some (.ref a),some (.int rank),some (.int lo),some (.int hi),o]∧Same H H'∧lo≤hi∧hi≤rs.length∧m=hi - lo∧(∀ r∈rs.take lo,r < rank)∧(∀ r∈rs.drop hi,rank≤r)
theorem rdp_many_below {a:Addr} {rs:List Int} {rank:Int} (h1:H a=some (.lst (rs.map V.int))) (h2:rs.Pairwise (· < ·)) (q:∀ (k:Nat) H',Same H H'→k≤rs.length→(∀ r∈rs.take k,r < rank)→(∀ r∈rs.drop k,rank≤r)→Q (.int k) H') :
    rd_many_below K t { nx:=fun _ H'=>Q .non H',rt:=Q } (L2.start ["ranks","rank","low","high","amid"] [.ref a,.int rank]) H:=by
  simp only [rd_many_below,tWhile,L2.start,tSeq,tAsg,gName,tRet,tOp,tVar,tC,tCons,tNil,tIfS,tTest,tCB,LenV,rIxL,rI,rI0,cLen,List.map,List.replicate,List.length,List.append,List.cons_append,List.nil_append,List.append_nil,List.getElem?_cons_zero,List.getElem?_cons_succ,Option.some.injEq,exists_eq_left',exists_eq_left,V.int.injEq,V.ref.injEq,V.str.injEq,V.bl.injEq,V.ty.injEq,List.cons.injEq,and_true,true_and,and_assoc,exists_and_left,List.set_cons_zero,List.set_cons_succ,Nat.reduceSub,Nat.reduceAdd,decide_eq_true_eq,Bool.not_eq_true',decide_eq_false_iff_not,Int.reduceToNat,Int.reducePow,Int.reduceNeg,Int.reduceMul,Int.reduceAdd,if_true,ite_true,Bool.false_eq_true,ite_false,if_false]
  refine ⟨rs.length,.inl ⟨_,SqL.of h1,by rw [List.length_map]⟩,mbW a rank rs H,⟨_,0,rs.length,none,rfl,Same.refl H,Nat.zero_le _,Nat.le_refl _,rfl,by simp,by simp⟩,?_⟩
  rintro m σ H' ⟨lo,hi,o,rfl,s,h4,h5,rfl,h6,h7⟩
  simp only [L2.start,tSeq,tAsg,gName,tRet,tOp,tVar,tC,tCons,tNil,tIfS,tTest,tCB,LenV,rIxL,rI,rI0,cLen,List.map,List.replicate,List.length,List.append,List.cons_append,List.nil_append,List.append_nil,List.getElem?_cons_zero,List.getElem?_cons_succ,Option.some.injEq,exists_eq_left',exists_eq_left,V.int.injEq,V.ref.injEq,V.str.injEq,V.bl.injEq,V.ty.injEq,List.cons.injEq,and_true,true_and,and_assoc,exists_and_left,List.set_cons_zero,List.set_cons_succ,Nat.reduceSub,Nat.reduceAdd,decide_eq_true_eq,Bool.not_eq_true',decide_eq_false_iff_not,Int.reduceToNat,Int.reducePow,Int.reduceNeg,Int.reduceMul,Int.reduceAdd,if_true,ite_true,Bool.false_eq_true,ite_false,if_false]
  by_cases hl:lo < hi
  · rw [if_pos (by omega)]
    obtain ⟨md,emd⟩:∃ md:Nat,((lo:Int) + hi) / 2=md:=⟨(lo + hi) / 2,by omega⟩
    rw [emd]
    have l1:lo≤md:=by omega
    have l2:md < hi:=by omega
    obtain ⟨x,hx⟩:∃ x,rs[md]?=some x:=⟨_,List.getElem?_eq_getElem (by omega)⟩
    refine ⟨fun σ' H'=>∃ m',m' < hi - lo∧mbW a rank rs H m' σ' H',fun _ _ z=>z,⟨by decide,by decide⟩,_,SqL.of (s _ _ h1),_,atI_nat (j:=md) (by rw [List.getElem?_map,hx];rfl),x,rfl,?_⟩
    by_cases hr:x < rank
    · rw [if_pos hr]
      exact ⟨_,(by omega:hi - (md + 1) < hi - lo),md + 1,hi,_,rfl,s,by omega,h5,rfl,fun r hr2=>Int.lt_of_le_of_lt (take_le h2 hx r hr2) hr,h7⟩
    · rw [if_neg hr]
      exact ⟨_,(by omega:md - lo < hi - lo),lo,md,_,rfl,s,by omega,by omega,rfl,h6,fun r hr2=>Int.le_trans (by omega) (drop_ge h2 hx r hr2)⟩
  · rw [if_neg (by omega)]
    obtain rfl:lo=hi:=by omega
    exact q lo H' s h5 h6 h7
theorem rB_log {r:Int} (h:rB r):r.natAbs.log2 < 1920:=by
  have e:r.natAbs < 2 ^ 1920:=by
    have h1:r.natAbs≤100000000000000000000000000000:=by obtain ⟨a,b⟩:=h;omega
    exact Nat.lt_of_le_of_lt h1 (by decide +kernel)
  rcases Nat.eq_zero_or_pos r.natAbs with z | z
  · rw [z];decide
  · exact (Nat.log2_lt (Nat.pos_iff_ne_zero.mp z)).mpr e
theorem rdp_Makes_heed_fold {m dx:Addr} {fs:List (Str × V)} {low rank:Int} {E:XK} (MF:MkF K t) (h1:H m=some (.ins t.c_Makes dx fs)) (h2:fs.lookup (Str.ofString "folded")=some (.int low)) (h3:rB rank) (q:low≤rank→∀ H',Same H H'→Q .non H') (q2:rank < low→∀ H',Same H H'→E (.ref t.c_Folded) none H') :
    rd_Makes_heed_fold K t E { nx:=fun _ H'=>Q .non H',rt:=Q } (L2.start ["self","rank"] [.ref m,.int rank]) H:=by
  simp only [rd_Makes_heed_fold,tRaise,tC,tFld,L2.start,tRaise,tNext,tOp,tVar,tCons,tNil,tIfS,tTest,rI0,List.map,List.replicate,List.length,List.append,List.cons_append,List.nil_append,List.append_nil,List.getElem?_cons_zero,List.getElem?_cons_succ,Option.some.injEq,exists_eq_left',exists_eq_left,V.int.injEq,V.ref.injEq,V.str.injEq,V.bl.injEq,V.ty.injEq,List.cons.injEq,and_true,true_and,and_assoc,exists_and_left,List.set_cons_zero,List.set_cons_succ,Nat.reduceSub,Nat.reduceAdd,decide_eq_true_eq,Bool.not_eq_true',decide_eq_false_iff_not,Int.reduceToNat,Int.reducePow,Int.reduceNeg,Int.reduceMul,Int.reduceAdd,if_true,ite_true,Bool.false_eq_true,ite_false,if_false]
  refine ⟨_,_,_,h1,MF.cl,MF.f,_,h2,low,rfl,?_⟩
  by_cases c:rank < low
  · rw [if_pos c]
    exact ⟨by decide,q2 c H (Same.refl H)⟩
  · rw [if_neg c]
    exact q (by omega) H (Same.refl H)
theorem new_ob {H:Hp} {o:HO} {p:Addr} (h:H p=none):∃ H',H'=upd H p o∧Same H H'∧H' p=some o:=⟨_,rfl,isV p h,upd_same⟩
theorem seenG_last (p:Pl) (made:Int):∀ (gs:List Row) (s:Int × Int),seenG p made gs s=match lastW gs p with | none=>s | some w=>(made,w)
  | [],s=>rfl
  | r :: gs,s=>by
    rw [seenG,seenG_last p made gs,lastW]
    cases lastW gs p with
    | some w=>rfl
    | none =>
      by_cases e:r.1=p
      · rw [if_pos e,if_pos e];rfl
      · rw [if_neg e,if_neg e];rfl
theorem seenL_max (p:Pl) (rank:Int):∀ (lays:List (Int × List Row)) (s:Int × Int),(seenL p rank lays s=s∧∀ y∈lays,s.1 < y.1→y.1 < rank→lastW y.2 p=none) ∨
    ∃ y∈lays,∃ w,lastW y.2 p=some w∧y.1 < rank∧s.1 < y.1∧seenL p rank lays s=(y.1,w)∧∀ z∈lays,z.1 < rank→lastW z.2 p≠none→z.1≤y.1
  | [],s=>.inl ⟨rfl,fun _ h=>nomatch h⟩
  | l :: ls,s=>by
    rw [seenL]
    by_cases c:s.1 < l.1∧l.1 < rank
    · rw [if_pos c,seenG_last]
      cases e:lastW l.2 p with
      | some w =>
        rcases seenL_max p rank ls (l.1,w) with ⟨h1,h2⟩ | ⟨y,hy,w',e1,e2,e3,e4,e5⟩
        · refine .inr ⟨l,List.mem_cons_self,w,e,c.2,c.1,h1,fun z hz zr zn=>?_⟩
          rcases List.mem_cons.mp hz with rfl | hz
          · exact Int.le_refl _
          · rcases Int.lt_or_le l.1 z.1 with hl | hl
            · exact absurd (h2 z hz hl zr) zn
            · exact hl
        · have e3':l.1 < y.1:=e3
          refine .inr ⟨y,List.mem_cons_of_mem _ hy,w',e1,e2,by omega,e4,fun z hz zr zn=>?_⟩
          rcases List.mem_cons.mp hz with rfl | hz
          · omega
          · exact e5 z hz zr zn
      | none =>
        rcases seenL_max p rank ls s with ⟨h1,h2⟩ | ⟨y,hy,w',e1,e2,e3,e4,e5⟩
        · refine .inl ⟨h1,fun y hy a b=>?_⟩
          rcases List.mem_cons.mp hy with rfl | hy
          · exact e
          · exact h2 y hy a b
        · refine .inr ⟨y,List.mem_cons_of_mem _ hy,w',e1,e2,e3,e4,fun z hz zr zn=>?_⟩
          rcases List.mem_cons.mp hz with rfl | hz
          · exact absurd e zn
          · exact e5 z hz zr zn
    · rw [if_neg c]
      rcases seenL_max p rank ls s with ⟨h1,h2⟩ | ⟨y,hy,w',e1,e2,e3,e4,e5⟩
      · refine .inl ⟨h1,fun y hy a b=>?_⟩
        rcases List.mem_cons.mp hy with rfl | hy
        · exact absurd ⟨a,b⟩ c
        · exact h2 y hy a b
      · refine .inr ⟨y,List.mem_cons_of_mem _ hy,w',e1,e2,e3,e4,fun z hz zr zn=>?_⟩
        rcases List.mem_cons.mp hz with rfl | hz
        · rcases Int.lt_or_le s.1 z.1 with hl | hl
          · exact absurd ⟨hl,zr⟩ c
          · omega
        · exact e5 z hz zr zn
theorem last_in {gs:List Row} {p:Pl} (nd:(gs.map (·.1)).Nodup):p∈gs.map (·.1)↔lastW gs p≠none:=by
  constructor
  · intro h e
    obtain ⟨r,hr,rfl⟩:=List.mem_map.mp h
    have:=(last_nd (p:=r.1) (w:=r.2) nd).mpr hr
    rw [e] at this
    cases this
  · intro h
    cases e:lastW gs p with
    | none=>exact absurd e h
    | some w=>exact List.mem_map.mpr ⟨_,(last_nd nd).mp e,rfl⟩
theorem val_no {κ:Type} [DecidableEq κ] {kvs:List (κ × V)} {k:κ} (h:k ∉ kvs.map (·.1)):valV kvs k=none:=by
  cases e:valV kvs k with
  | none=>rfl
  | some v=>exact absurd (valV_in e) h
theorem fold_nd:∀ (gs:List Row) (kvs:List (List Key × V)),(∀ r∈gs,plKey r.1 ∉ kvs.map (·.1))→(gs.map (·.1)).Nodup→gs.foldl dStep kvs=kvs ++ gs.map fun r=>(plKey r.1,V.int r.2)
  | [],kvs,_,_=>by simp
  | r :: gs,kvs,h,nd=>by
    rw [List.map_cons,List.nodup_cons] at nd
    rw [List.foldl_cons,dStep,putK_new _ (val_no (h r List.mem_cons_self)),fold_nd gs _ (fun q hq=>?_) nd.2,List.map_cons,List.append_assoc,List.singleton_append]
    rw [List.map_append,List.mem_append,not_or]
    refine ⟨h q (List.mem_cons_of_mem _ hq),fun z=>nd.1 ?_⟩
    have z2:plKey q.1=plKey r.1:=by simpa using z
    rw [← plKey_inj z2]
    exact List.mem_map_of_mem hq
theorem dOf_nd {gs:List Row} (nd:(gs.map (·.1)).Nodup):dOf gs=gs.map fun r=>(plKey r.1,V.int r.2):=by
  unfold dOf
  rw [fold_nd gs [] (fun _ _ h=>nomatch h) nd,List.nil_append]
theorem wk_get {rk:Addr} {F:Addr→Prop} {r:Int} {gs:List Row}:∀ {wk:List (Key × V)} {l:List (Int × List Row)},Paired (WkAt H rk F) wk l→(l.map (·.1)).Nodup→(r,gs)∈l→∃ d,valV wk (.inl r)=some (.ref d)∧F d∧d≠rk∧H d=some (.dT (dOf gs))
  | _,_,.nil,_,h=>nomatch h
  | _,_,@Paired.cons _ _ _ kv y wk l ⟨e,d,e2,fd,nd,hd⟩ rest,n,h=>by
    rw [List.map_cons,List.nodup_cons] at n
    rcases List.mem_cons.mp h with rfl | h
    · exact ⟨d,by rw [valV_pos e,e2],fd,nd,hd⟩
    · have ne:¬ kv.1=.inl r:=fun z=>n.1 (by rw [e] at z;cases z;exact List.mem_map_of_mem (f:=(·.1)) h)
      rw [valV_neg ne]
      exact wk_get rest n.2 h
theorem wk_keys {rk:Addr} {F:Addr→Prop}:∀ {wk:List (Key × V)} {l:List (Int × List Row)},Paired (WkAt H rk F) wk l→wk.map (·.1)=l.map fun y=>(Sum.inl y.1:Key)
  | _,_,.nil=>rfl
  | _,_,.cons h rest=>by rw [List.map_cons,List.map_cons,h.1,wk_keys rest]
theorem wk_none {rk:Addr} {F:Addr→Prop} {r:Int} {wk:List (Key × V)} {l:List (Int × List Row)} (h:Paired (WkAt H rk F) wk l) (n:r ∉ l.map (·.1)):valV wk (.inl r)=none:=by
  refine val_no fun z=>n ?_
  rw [wk_keys h] at z
  obtain ⟨y,hy,e⟩:=List.mem_map.mp z
  cases e
  exact List.mem_map_of_mem hy
theorem wk_drop {rk:Addr} {F:Addr→Prop} {r:Int}:∀ {wk:List (Key × V)} {l:List (Int × List Row)},Paired (WkAt H rk F) wk l→Paired (WkAt H rk F) (dropK wk (.inl r)) (outW l r)
  | _,_,.nil=>.nil
  | _,_,@Paired.cons _ _ _ kv y wk l h rest=>by
    unfold outW
    by_cases e:y.1=r
    · rw [dropK_pos (by rw [h.1,e]),List.filter_cons_of_neg (by simp [e])]
      exact wk_drop rest
    · rw [dropK_neg (fun z=>e (by rw [h.1] at z;cases z;rfl)),List.filter_cons_of_pos (by simp [e])]
      exact .cons h (wk_drop rest)
theorem outW_no {l:List (Int × List Row)} {r:Int} (h:r ∉ l.map (·.1)):outW l r=l:=List.filter_eq_self.mpr fun y hy=>decide_eq_true fun e=>h (by rw [← e];exact List.mem_map_of_mem hy)
theorem outW_not {l:List (Int × List Row)} {r:Int}:r ∉ (outW l r).map (·.1):=fun h=>by
  obtain ⟨y,hy,e⟩:=List.mem_map.mp h
  exact of_decide_eq_true (List.mem_filter.mp hy).2 e
theorem RkAt.get {rk:Addr} {F:Addr→Prop} {P:Pl→Int→Prop} {kk:List (List Key × V)} (h:RkAt H rk F P kk) (p:Pl):(∃ a rs,(plKey p,V.ref a)∈kk∧valV kk (plKey p)=some (.ref a)∧F a∧H a=some (.lst (rs.map V.int))∧rs.Pairwise (· < ·)∧rs≠[]∧∀ r,r∈rs↔P p r)∨(valV kk (plKey p)=none∧plKey p ∉ kk.map (·.1)∧∀ r,¬ P p r):=by
  by_cases hm:plKey p∈kk.map (·.1)
  · obtain ⟨kv,hk,e⟩:=List.mem_map.mp hm
    obtain ⟨p',a,rs,rfl,z⟩:=h.ls kv hk
    have:p'=p:=plKey_inj e
    subst this
    exact .inl ⟨a,rs,hk,valV_nd h.nk _ hk,z⟩
  · exact .inr ⟨val_no hm,hm,fun r hr=>hm (h.al p r hr)⟩
theorem rs_len {rs:List Int} {l:List (Int × List Row)} {p:Pl} (h:rs.Pairwise (· < ·)) (hr:∀ r,r∈rs→hasR l p r):rs.length≤l.length:=by
  have nd:rs.Nodup:=List.Pairwise.imp (fun h=>Int.ne_of_lt h) h
  have:=nd_len_le (b:=l.map (·.1)) nd fun x hx=>let ⟨gs,h1,_⟩:=hr x hx;List.mem_map.mpr ⟨_,h1,rfl⟩
  simpa using this
theorem rdp_seen0 {m p:Addr} {rank low:Int} {F:Addr→Prop} {g:List Row} {lays:List (Int × List Row)} {q0:Pl} {E:XK} (MF:MkF K t) (h1:MrAt t H m F g lays low) (h20:rB rank) (h2:low≤rank) (h3:H p=some (.tup [.str q0.1,.int q0.2])) (q:∀ H',Same H H'→Q (.int (seenW g lays q0 rank)) H') :
    rd_Makes_seen K t E { nx:=fun _ H'=>Q .non H',rt:=Q } (L2.start ["self","place","rank","ranks","below"] [.ref m,.ref p,.int rank]) H:=by
  simp only [rd_Makes_seen,sp_Makes_heed_fold,sp_many_below,tDGet,tDGet2,tFld,tMeth,L2.start,tDGet2,tSeq,tAsg,gName,tRet,tDrop,tNext,tOp,tVar,tC,tLst,tCons,tNil,tIfS,tTest,tCall,rIxL,rEq,rI0,scal,List.map,List.replicate,List.length,List.append,List.cons_append,List.nil_append,List.append_nil,List.getElem?_cons_zero,List.getElem?_cons_succ,Option.some.injEq,exists_eq_left',exists_eq_left,V.int.injEq,V.ref.injEq,V.str.injEq,V.bl.injEq,V.ty.injEq,List.cons.injEq,and_true,true_and,and_assoc,exists_and_left,List.set_cons_zero,List.set_cons_succ,Nat.reduceSub,Nat.reduceAdd,decide_eq_true_eq,Bool.not_eq_true',decide_eq_false_iff_not,Int.reduceToNat,Int.reducePow,Int.reduceNeg,Int.reduceMul,Int.reduceAdd,if_true,ite_true,Bool.false_eq_true,ite_false,if_false]
  obtain ⟨dx,gr,wo,rk,wk,kk,M⟩:=h1.ex
  refine ⟨_,_,M.im,mk_no (by decide +kernel),_,_,M.im,_,fs_f,h20,fun _ H1 s1=>?_,fun z=>absurd z (by omega)⟩
  have M1:=M.keep h1.me fun b o _ e=>s1 _ _ e
  refine ⟨_,_,_,M1.im,MF.cl,MF.r,_,fs_r,rk,rfl,.inr ⟨_,.inl M1.rr.at_⟩,by decide,fun l hl=>?_⟩
  obtain ⟨H2,eH,s2,q2⟩:=new_ob (o:=HO.lst []) hl
  rw [← eH];clear eH
  have S2:=s1.trans s2
  have M2:=M1.keep h1.me fun b o _ e=>s2 _ _ e
  have hp2:H2 p=some (.tup ((plKey q0).map kV)):=S2 _ _ h3
  refine ⟨_,.t M2.rr.at_ hp2,?_⟩
  have gd:∀ {H3:Hp},MrIn t H3 m F g lays low dx gr wo rk wk kk→H3 p=some (.tup ((plKey q0).map kV))→Same H H3→(∀ r,hasR lays q0 r→¬ r < rank)→∃ C dx fs,H3 m=some (HO.ins C dx fs)∧Cls K C∧NoAttr K C (Str.ofString "ground")∧∃ x,List.lookup (Str.ofString "ground") fs=some x∧∃ a,x=V.ref a∧IsD H3 a∧∃ o,DGet H3 a (V.ref p) o∧Q (o.getD (V.int 0)) H3:=fun {H3} M3 hp3 S3 hno=>by
    refine ⟨_,_,_,M3.im,MF.cl,MF.g,_,fs_g,gr,rfl,.inr ⟨_,.inl M3.hg⟩,_,.t M3.hg hp3,?_⟩
    have ev:seenW g lays q0 rank=(lastW g q0).getD 0:=by
      unfold seenW
      rcases seenL_max q0 rank lays (-1,(lastW g q0).getD 0) with ⟨e1,_⟩ | ⟨y,hy,w,e1,e2,_⟩
      · rw [e1]
      · exact absurd e2 (hno y.1 ⟨y.2,hy,(last_in (h1.ok y hy).2.nd).mpr (by rw [e1];exact fun z=>nomatch z)⟩)
    have e2:(valV (dOf g) (plKey q0)).getD (V.int 0)=V.int ((lastW g q0).getD 0):=by
      rw [val_dOf]
      cases lastW g q0 <;> rfl
    rw [e2,← ev]
    exact q H3 S3
  rcases M2.rr.get q0 with ⟨a,rs,hk,hv,fa,ha,hs,hne,hi⟩ | ⟨hv,hk,hno⟩
  · rw [hv]
    refine ⟨a,rfl,rs,ha,hs,fun k H3 s3 hk3 hlt hge=>?_⟩
    have S3:=S2.trans s3
    have M3:=M2.keep h1.me fun b o _ e=>s3 _ _ e
    by_cases h0:k=0
    · rw [if_pos (by omega)]
      subst h0
      exact gd M3 (s3 _ _ hp2) S3 fun r hr hlr=>by
        have:=hge r (by rw [List.drop_zero];exact (hi r).mpr hr)
        omega
    · rw [if_neg (by omega)]
      refine ⟨_,_,_,M3.im,MF.cl,MF.w,_,fs_w,a,rfl,_,SqL.of (s3 _ _ ha),?_⟩
      obtain ⟨x,hx⟩:∃ x,rs[k - 1]?=some x:=⟨_,List.getElem?_eq_getElem (by omega)⟩
      have ek:(k:Int) - 1=((k - 1:Nat):Int):=by omega
      rw [ek]
      refine ⟨_,atI_nat (j:=k - 1) (by rw [List.getElem?_map,hx];rfl),?_⟩
      obtain ⟨gs,hgs,hpg⟩:=(hi x).mp (List.mem_of_getElem? hx)
      obtain ⟨d,v1,fd,nd,hd⟩:=wk_get M3.wp h1.nd hgs
      refine ⟨wo,rfl,.ref d,(show DGet H3 wo (kV (.inl x)) (some (.ref d)) by rw [← v1];exact .k M3.hw),?_⟩
      have okg:=(h1.ok _ hgs).2
      obtain ⟨w,hw⟩:∃ w,lastW gs q0=some w:=by
        cases e:lastW gs q0 with
        | none=>exact absurd e ((last_in okg.nd).mp hpg)
        | some w=>exact ⟨w,rfl⟩
      have vd:valV (dOf gs) (plKey q0)=some (.int w):=by rw [val_dOf,hw];rfl
      refine ⟨d,rfl,V.int w,by rw [← vd];exact .t hd (s3 _ _ hp2),?_⟩
      have xr:x < rank:=hlt x (List.mem_iff_getElem?.mpr ⟨k - 1,by rw [List.getElem?_take,if_pos (by omega)];exact hx⟩)
      have x0:0≤x:=(h1.ok _ hgs).1
      have ev:seenW g lays q0 rank=w:=by
        unfold seenW
        rcases seenL_max q0 rank lays (-1,(lastW g q0).getD 0) with ⟨e1,e2⟩ | ⟨y,hy,w',e1,e2,e3,e4,e5⟩
        · have:=e2 _ hgs (by show (-1:Int) < x;omega) xr
          rw [this] at hw
          cases hw
        · rw [e4]
          have yx:x≤y.1:=e5 _ hgs xr (by rw [hw];exact fun z=>nomatch z)
          have yr:y.1∈rs:=(hi y.1).mpr ⟨y.2,hy,(last_in (h1.ok y hy).2.nd).mpr (by rw [e1];exact fun z=>nomatch z)⟩
          have xy:y.1≤x:=by
            have:y.1∈rs.take k∨y.1∈rs.drop k:=List.mem_append.mp (by rw [List.take_append_drop];exact yr)
            rcases this with z | z
            · have ek2:k=k - 1 + 1:=by omega
              rw [ek2] at z
              exact take_le hs hx _ z
            · have:=hge _ z
              omega
          have ey:y.1=x:=by omega
          have e6:y=(x,gs):=by
            have n1:=h1.nd
            obtain ⟨i,hi1⟩:=List.getElem?_of_mem hy
            obtain ⟨j,hj1⟩:=List.getElem?_of_mem hgs
            have a1:(lays.map (·.1))[i]?=some x:=by rw [List.getElem?_map,hi1,← ey];rfl
            have a2:(lays.map (·.1))[j]?=some x:=by rw [List.getElem?_map,hj1];rfl
            have ij:=(List.getElem?_inj (List.getElem?_eq_some_iff.mp a1).1 n1).mp (a1.trans a2.symm)
            rw [ij,hj1] at hi1
            exact (Option.some.inj hi1).symm
          rw [e6] at e1
          rw [hw] at e1
          exact (Option.some.inj e1).symm
      rw [← ev]
      exact q H3 S3
  · rw [hv]
    refine ⟨l,rfl,[],q2,List.Pairwise.nil,fun k H3 s3 hk3 hlt hge=>?_⟩
    have k0:k=0:=by simpa using hk3
    rw [if_pos (by omega)]
    subst k0
    exact gd (M2.keep h1.me fun b o _ e=>s3 _ _ e) (s3 _ _ hp2) (S2.trans s3) fun r hr=>absurd hr (hno r)
section
variable {G:Addr→Prop} {rk a:Addr} {H' H'':Hp}
theorem KeepR.refl:KeepR G rk H H:=fun _ _ e _ _=>e
theorem KeepR.same (k:KeepR G rk H H') (s:Same H' H''):KeepR G rk H H'':=fun b o e n z=>s _ _ (k b o e n z)
theorem KeepR.dct (k:KeepR G rk H H') (o:HO):KeepR G rk H (upd H' rk o):=fun b u e n z=>by rw [upd_ne n];exact k b u e n z
theorem KeepR.lst {xs ys:List V} (k:KeepR G rk H H') (ha:H' a=some (.lst xs)) (ga:G a):KeepR G rk H (upd H' a (.lst ys)):=fun b u e n z=>by
  have e2:=k b u e n z
  by_cases hb:b=a
  · subst hb
    rcases z with z | z
    · rw [ha] at e2;exact absurd (Option.some.inj e2).symm (z xs)
    · exact absurd ga z
  · rw [upd_ne hb];exact e2
theorem own_upd {b:Addr} {o:HO} (h:OwnO H b) (n:∀ zs,o≠.tup zs):OwnO (upd H a o) b:=by
  by_cases e:b=a
  · subst e;exact ⟨_,upd_same,n⟩
  · obtain ⟨o',h1,h2⟩:=h;exact ⟨o',by rw [upd_ne e];exact h1,h2⟩
theorem own_same {b:Addr} (h:OwnO H b) (s:Same H H'):OwnO H' b:=let ⟨o,e,n⟩:=h;⟨o,s _ _ e,n⟩
end
theorem nd_inj {α β:Type} {f:α→β}:∀ {l:List α},(l.map f).Nodup→∀ {x y:α},x∈l→y∈l→f x=f y→x=y
  | [],_,_,_,h,_,_=>nomatch h
  | c :: l,n,x,y,hx,hy,e=>by
    rw [List.map_cons,List.nodup_cons] at n
    rcases List.mem_cons.mp hx with h1 | h1
    · rcases List.mem_cons.mp hy with h2 | h2
      · rw [h1,h2]
      · exact absurd (by rw [← h1,e];exact List.mem_map_of_mem h2) n.1
    · rcases List.mem_cons.mp hy with h2 | h2
      · exact absurd (by rw [← h2,← e];exact List.mem_map_of_mem h1) n.1
      · exact nd_inj n.2 h1 h2 e
section
variable {G:Addr→Prop} {rk a:Addr} {P P':Pl→Int→Prop} {kk:List (List Key × V)} {q0:Pl} {rank:Int} {rs:List Int}
theorem RkAt.one (h:RkAt H rk G P kk) (hk:(plKey q0,V.ref a)∈kk) {p':Pl} {a':Addr} (hk2:(plKey p',V.ref a')∈kk):a'=a↔p'=q0:=by
  constructor
  · intro e
    have:=nd_inj h.nv hk2 hk (by rw [e])
    exact plKey_inj (congrArg Prod.fst this)
  · intro e
    have:=nd_inj h.nk hk2 hk (by rw [e])
    exact V.ref.inj (congrArg Prod.snd this)
theorem rk_ne (h:RkAt H rk G P kk) (ha:H a=some (.lst (rs.map V.int))):rk≠a:=ne_of h.at_ ha (fun z=>nomatch z)
theorem erase_mem {r:Int} (hs:rs.Pairwise (· < ·)):r∈rs.erase rank↔r∈rs∧r≠rank:=by
  have nd:rs.Nodup:=List.Pairwise.imp (fun h=>Int.ne_of_lt h) hs
  rw [nd.mem_erase_iff,and_comm]
theorem RkAt.out1 (h:RkAt H rk G P kk) (hk:(plKey q0,V.ref a)∈kk) (ha:H a=some (.lst (rs.map V.int))) (hs:rs.Pairwise (· < ·)) (hi:∀ r,r∈rs↔P q0 r) (hne:rs.erase rank≠[]) (hP:∀ p r,P' p r↔P p r∧¬ (r=rank∧p=q0)):RkAt (upd H a (.lst ((rs.erase rank).map V.int))) rk G P' kk where
  at_:=by rw [upd_ne (rk_ne h ha)];exact h.at_
  nk:=h.nk
  nv:=h.nv
  ls:=fun kv hkv=>by
    obtain ⟨p',a',rs',rfl,ga,ha',hs',hn',hi'⟩:=h.ls kv hkv
    by_cases e:a'=a
    · have ep:=(h.one hk hkv).mp e
      subst e ep
      refine ⟨p',a',rs.erase rank,rfl,ga,upd_same,hs.sublist List.erase_sublist,hne,fun r=>?_⟩
      rw [erase_mem hs,hP,hi]
      exact ⟨fun z=>⟨z.1,fun y=>z.2 y.1⟩,fun z=>⟨z.1,fun y=>z.2 ⟨y,rfl⟩⟩⟩
    · have ep:¬ p'=q0:=fun z=>e ((h.one hk hkv).mpr z)
      refine ⟨p',a',rs',rfl,ga,by rw [upd_ne e];exact ha',hs',hn',fun r=>?_⟩
      rw [hi',hP]
      exact ⟨fun z=>⟨z,fun y=>ep y.2⟩,fun z=>z.1⟩
  al:=fun p r z=>h.al p r ((hP p r).mp z).1
theorem RkAt.out2 (h:RkAt H rk G P kk) (hk:(plKey q0,V.ref a)∈kk) (ha:H a=some (.lst (rs.map V.int))) (hs:rs.Pairwise (· < ·)) (hi:∀ r,r∈rs↔P q0 r) (hne:rs.erase rank=[]) (hP:∀ p r,P' p r↔P p r∧¬ (r=rank∧p=q0)) {us:List V}:RkAt (upd (upd H a (.lst us)) rk (.dT (dropK kk (plKey q0)))) rk G P' (dropK kk (plKey q0)) where
  at_:=upd_same
  nk:=List.Nodup.sublist (List.Sublist.map _ List.filter_sublist) h.nk
  nv:=List.Nodup.sublist (List.Sublist.map _ List.filter_sublist) h.nv
  ls:=fun kv hkv=>by
    have hkv2:=dropK_mem hkv
    have ne:kv.1≠plKey q0:=of_decide_eq_true (List.mem_filter.mp hkv).2
    obtain ⟨p',a',rs',rfl,ga,ha',hs',hn',hi'⟩:=h.ls kv hkv2
    have ep:¬ p'=q0:=fun z=>ne (by rw [z])
    have e:¬ a'=a:=fun z=>ep ((h.one hk hkv2).mp z)
    refine ⟨p',a',rs',rfl,ga,by rw [upd_ne (rk_ne h ha').symm,upd_ne e];exact ha',hs',hn',fun r=>?_⟩
    rw [hi',hP]
    exact ⟨fun z=>⟨z,fun y=>ep y.2⟩,fun z=>z.1⟩
  al:=fun p r z=>by
    obtain ⟨z1,z2⟩:=(hP p r).mp z
    obtain ⟨kv,hkv,e⟩:=List.mem_map.mp (h.al p r z1)
    refine List.mem_map.mpr ⟨kv,List.mem_filter.mpr ⟨hkv,decide_eq_true fun y=>?_⟩,e⟩
    have:p=q0:=plKey_inj (e.symm.trans y)
    subst this
    have hr:r∈rs:=(hi r).mpr z1
    by_cases er:r=rank
    · exact z2 ⟨er,rfl⟩
    · have:=(erase_mem (rank:=rank) hs).mpr ⟨hr,er⟩
      rw [hne] at this
      cases this
theorem ins_sorted {k:Nat} (hs:rs.Pairwise (· < ·)) (hlt:∀ r∈rs.take k,r < rank) (hge:∀ r∈rs.drop k,rank≤r) (hno:rank ∉ rs):(rs.take k ++ rank :: rs.drop k).Pairwise (· < ·):=by
  have gt:∀ r∈rs.drop k,rank < r:=fun r hr=>by
    have h1:=hge r hr
    have h2:r≠rank:=fun z=>hno (by rw [← z];exact List.mem_of_mem_drop hr)
    omega
  rw [List.pairwise_append,List.pairwise_cons]
  refine ⟨hs.sublist (List.take_sublist ..),⟨gt,hs.sublist (List.drop_sublist ..)⟩,fun x hx y hy=>?_⟩
  have:=hlt x hx
  rcases List.mem_cons.mp hy with rfl | hy
  · exact this
  · have:=gt y hy;omega
theorem ins_mem {k:Nat} {r:Int}:r∈rs.take k ++ rank :: rs.drop k↔r∈rs∨r=rank:=by
  rw [List.mem_append,List.mem_cons]
  constructor
  · rintro (h | h | h)
    · exact .inl (List.mem_of_mem_take h)
    · exact .inr h
    · exact .inl (List.mem_of_mem_drop h)
  · rintro (h | h)
    · have:r∈rs.take k ++ rs.drop k:=by rw [List.take_append_drop];exact h
      rcases List.mem_append.mp this with z | z
      · exact .inl z
      · exact .inr (.inr z)
    · exact .inr (.inl h)
theorem RkAt.in1 {k:Nat} (h:RkAt H rk G P kk) (hk:(plKey q0,V.ref a)∈kk) (ha:H a=some (.lst (rs.map V.int))) (hs:rs.Pairwise (· < ·)) (hi:∀ r,r∈rs↔P q0 r) (hlt:∀ r∈rs.take k,r < rank) (hge:∀ r∈rs.drop k,rank≤r) (hno:¬ P q0 rank) (hP:∀ p r,P' p r↔P p r∨(r=rank∧p=q0)):RkAt (upd H a (.lst ((rs.take k ++ rank :: rs.drop k).map V.int))) rk G P' kk where
  at_:=by rw [upd_ne (rk_ne h ha)];exact h.at_
  nk:=h.nk
  nv:=h.nv
  ls:=fun kv hkv=>by
    obtain ⟨p',a',rs',rfl,ga,ha',hs',hn',hi'⟩:=h.ls kv hkv
    by_cases e:a'=a
    · have ep:=(h.one hk hkv).mp e
      subst e ep
      refine ⟨p',a',_,rfl,ga,upd_same,ins_sorted hs hlt hge (fun z=>hno ((hi _).mp z)),by simp,fun r=>?_⟩
      rw [ins_mem,hP,hi]
      exact ⟨fun z=>z.imp_right fun y=>⟨y,rfl⟩,fun z=>z.imp_right fun y=>y.1⟩
    · have ep:¬ p'=q0:=fun z=>e ((h.one hk hkv).mpr z)
      refine ⟨p',a',rs',rfl,ga,by rw [upd_ne e];exact ha',hs',hn',fun r=>?_⟩
      rw [hi',hP]
      exact ⟨fun z=>.inl z,fun z=>z.elim id fun y=>absurd y.2 ep⟩
  al:=fun p r z=>by
    rcases (hP p r).mp z with z | ⟨_,rfl⟩
    · exact h.al p r z
    · exact List.mem_map.mpr ⟨_,hk,rfl⟩
theorem RkAt.in2 (h:RkAt H rk G P kk) (hk:plKey q0 ∉ kk.map (·.1)) (hno:∀ r,¬ P q0 r) (ga:G a) (hf:∀ kv∈kk,kv.2≠.ref a) (ha:a≠rk) (hP:∀ p r,P' p r↔P p r∨(r=rank∧p=q0)):RkAt (upd (upd H rk (.dT (kk ++ [(plKey q0,V.ref a)]))) a (.lst [V.int rank])) rk G P' (kk ++ [(plKey q0,V.ref a)]) where
  at_:=by rw [upd_ne ha.symm];exact upd_same
  nk:=by
    rw [List.map_append,List.nodup_append]
    refine ⟨h.nk,by simp,fun x hx y hy=>?_⟩
    have:y=plKey q0:=by simpa using hy
    rw [this]
    exact fun z=>hk (by rw [← z];exact hx)
  nv:=by
    rw [List.map_append,List.nodup_append]
    refine ⟨h.nv,by simp,fun x hx y hy=>?_⟩
    have:y=V.ref a:=by simpa using hy
    rw [this]
    obtain ⟨kv,hkv,rfl⟩:=List.mem_map.mp hx
    exact hf kv hkv
  ls:=fun kv hkv=>by
    rcases List.mem_append.mp hkv with hkv | hkv
    · obtain ⟨p',a',rs',rfl,ga',ha',hs',hn',hi'⟩:=h.ls kv hkv
      have e:a'≠a:=fun z=>hf _ hkv (by rw [z])
      have ep:p'≠q0:=fun z=>hk (List.mem_map.mpr ⟨_,hkv,by rw [z]⟩)
      refine ⟨p',a',rs',rfl,ga',by rw [upd_ne e,upd_ne (rk_ne h ha').symm];exact ha',hs',hn',fun r=>?_⟩
      rw [hi',hP]
      exact ⟨fun z=>.inl z,fun z=>z.elim id fun y=>absurd y.2 ep⟩
    · have:=List.mem_singleton.mp hkv
      subst this
      refine ⟨q0,a,[rank],rfl,ga,upd_same,by simp,by simp,fun r=>?_⟩
      rw [hP,List.mem_singleton]
      exact ⟨fun z=>.inr ⟨z,rfl⟩,fun z=>z.elim (fun y=>absurd y (hno r)) fun y=>y.1⟩
  al:=fun p r z=>by
    rw [List.map_append,List.mem_append]
    rcases (hP p r).mp z with z | ⟨_,rfl⟩
    · exact .inl (h.al p r z)
    · exact .inr (by simp)
theorem RkAt.eqv (h:RkAt H rk G P kk) (e:∀ p r,P p r↔P' p r):RkAt H rk G P' kk:=⟨h.at_,h.nk,h.nv,fun kv hk=>let ⟨p,a,rs,e1,fa,ha,hs,hn,hi⟩:=h.ls kv hk;⟨p,a,rs,e1,fa,ha,hs,hn,fun r=>(hi r).trans (e p r)⟩,fun p r z=>h.al p r ((e p r).mpr z)⟩
end
def taI (m L rk:Addr) (rank:Int) (ys:List V) (F:Addr→Prop) (P:Pl→Int→Prop) (gs:List Row) (H:Hp) (i:Nat) (σ:St) (H':Hp):Prop:=(∃ o3,σ=[some (.ref m),some (.int rank),some (.ref L),o3])∧KeepR F rk H H'∧Dm H H'∧∃ kk,RkAt H' rk F (fun p r=>P p r∧¬ (r=rank∧p∈(gs.take i).map (·.1))) kk
theorem RkAt.keep2 {H':Hp} {rk:Addr} {F F':Addr→Prop} {P:Pl→Int→Prop} {kvs:List (List Key × V)} (h:RkAt H rk F P kvs) (hr:H' rk=H rk) (k:∀ b xs,F b→H b=some (.lst xs)→H' b=some (.lst xs)) (ff:∀ b xs,F b→H' b=some (.lst xs)→F' b):RkAt H' rk F' P kvs :=
  ⟨hr.trans h.at_,h.nk,h.nv,fun kv hk=>let ⟨p,a,rs,e,fa,ha,z⟩:=h.ls kv hk;⟨p,a,rs,e,ff a _ fa (k _ _ fa ha),k _ _ fa ha,z⟩,h.al⟩
theorem Dm.refl:Dm H H:=fun b o e=>⟨o,e,fun _ z=>z⟩
theorem Dm.trans {H1 H2:Hp} (h:Dm H H1) (k:Dm H1 H2):Dm H H2:=fun b o e=>by
  obtain ⟨o1,e1,z1⟩:=h b o e
  obtain ⟨o2,e2,z2⟩:=k b o1 e1
  exact ⟨o2,e2,fun zs z=>z1 zs (z2 zs z)⟩
theorem Dm.of_same {H1:Hp} (s:Same H H1):Dm H H1:=fun b o e=>⟨o,s _ _ e,fun _ z=>z⟩
theorem Dm.upd {a:Addr} {o':HO} (n:∀ zs,o'≠.tup zs):Dm H (upd H a o'):=fun b o e=>by
  by_cases c:b=a
  · subst c;exact ⟨_,upd_same,fun zs z=>absurd z (n zs)⟩
  · exact ⟨o,by rw [upd_ne c];exact e,fun _ z=>z⟩
theorem rdp_drop_rank {rk pl:Addr} {rank:Int} {G:Addr→Prop} {P:Pl→Int→Prop} {kk:List (List Key × V)} {q0:Pl} (hr:RkAt H rk G P kk) (fk:G rk) (hp:H pl=some (.tup ((plKey q0).map kV))) (hP:P q0 rank) (q:∀ H' kk',KeepR G rk H H'→Dm H H'→RkAt H' rk G (fun p r=>P p r∧¬ (r=rank∧p=q0)) kk'→Q .non H') :
    rd_drop_rank K t { nx:=fun _ H'=>Q .non H',rt:=Q } (L2.start ["ranks_at","place","rank","ranks"] [.ref rk,.ref pl,.int rank]) H:=by
  rcases hr.get q0 with ⟨a,rs,hk,hv,fa,ha,hs,hne,hi⟩ | ⟨_,_,hn⟩
  · have hir:rank∈rs:=(hi rank).mpr hP
    have ar:=rk_ne hr ha
    simp only [rd_drop_rank,tDGet,tDPopT,r_mt_remove,L2.start,rEqNil,tSeq,tAsg,gName,tDrop,tNext,tOp,tVar,tLst,tCons,tNil,tIfS,tTest,tBM,tyV,List.map,List.replicate,List.length,List.append,List.cons_append,List.nil_append,List.append_nil,List.getElem?_cons_zero,List.getElem?_cons_succ,Option.some.injEq,exists_eq_left',exists_eq_left,V.int.injEq,V.ref.injEq,V.str.injEq,V.bl.injEq,V.ty.injEq,List.cons.injEq,and_true,true_and,and_assoc,exists_and_left,List.set_cons_zero,List.set_cons_succ,Nat.reduceSub,Nat.reduceAdd,decide_eq_true_eq,Bool.not_eq_true',decide_eq_false_iff_not,Int.reduceToNat,Int.reducePow,Int.reduceNeg,Int.reduceMul,Int.reduceAdd,if_true,ite_true,Bool.false_eq_true,ite_false,if_false]
    refine ⟨.ref a,(by rw [← hv];exact .t hr.at_ hp),.inl ⟨_,SqL.of ha⟩,a,rfl,rs,ha,hir,by decide,fun z hz=>?_⟩
    have k2:=(KeepR.refl (G:=G) (rk:=rk) (H:=H)).lst (ys:=(rs.erase rank).map V.int) ha fa
    have d2:Dm H (upd H a (.lst ((rs.erase rank).map V.int))):=Dm.upd fun _ z=>nomatch z
    have pa:pl≠a:=ne_of hp ha (fun z=>nomatch z)
    have hp2:upd H a (.lst ((rs.erase rank).map V.int)) pl=some (.tup ((plKey q0).map kV)):=by rw [upd_ne pa];exact hp
    have hk2:upd H a (.lst ((rs.erase rank).map V.int)) rk=some (.dT kk):=by rw [upd_ne ar];exact hr.at_
    obtain ⟨H3,eH,s3,q3⟩:=new_ob (o:=HO.lst []) hz
    rw [← eH];clear eH
    refine ⟨a,rfl,_,SqL.of (s3 _ _ upd_same),SqL.of q3,?_⟩
    by_cases e:rs.erase rank=[]
    · rw [if_pos (by rw [e];rfl)]
      refine ⟨.inr ⟨_,.inl (s3 _ _ hk2)⟩,kk,s3 _ _ hk2,plKey q0,s3 _ _ hp2,_,hv,q _ (dropK kk (plKey q0)) ((k2.same s3).dct _) (d2.trans ((Dm.of_same s3).trans (Dm.upd fun _ z=>nomatch z))) ?_⟩
      refine (hr.out2 (us:=(rs.erase rank).map V.int) hk ha hs hi e fun p r=>Iff.rfl).keep fk (fun b o fb eb=>?_) (fun _ z=>z)
      by_cases hb:b=rk
      · subst hb;rw [upd_same] at eb ⊢;exact eb
      · rw [upd_ne hb] at eb ⊢;exact s3 _ _ eb
    · rw [if_neg (fun z=>e (List.map_eq_nil_iff.mp z))]
      exact q _ kk (k2.same s3) (d2.trans (Dm.of_same s3)) ((hr.out1 hk ha hs hi e fun p r=>Iff.rfl).keep fk (fun b o _ eb=>s3 _ _ eb) (fun _ z=>z))
  · exact absurd hP (hn rank)
theorem KeepR.trans {G:Addr→Prop} {rk:Addr} {H1 H2:Hp} (h:KeepR G rk H H1) (k:KeepR G rk H1 H2):KeepR G rk H H2:=fun b o e n z=>k b o (h b o e n z) n z
theorem rdp_ta1 {m L dx gr wo rk:Addr} {rank low:Int} {ys:List V} {F:Addr→Prop} {P:Pl→Int→Prop} {gs:List Row} {kk:List (List Key × V)} {o3:Option V} (MF:MkF K t) (hm:H m=some (.ins t.c_Makes dx (mkFs gr low wo rk))) (hL:H L=some (.lst ys)) (nL:¬ F L) (hy:Paired (KyAt H) ys (dOf gs)) (nd:(gs.map (·.1)).Nodup) (hP:∀ r∈gs,P r.1 rank) (hr:RkAt H rk F P kk) (fk:F rk)
    (q:∀ H' kk',KeepR F rk H H'→Dm H H'→RkAt H' rk F (fun p r=>P p r∧¬ (r=rank∧p∈gs.map (·.1))) kk'→Q .non H') :
    rd_Makes_take_away_2 K t { nx:=fun _ H'=>Q .non H',rt:=Q } [some (.ref m),some (.int rank),some (.ref L),o3] H:=by
  have mr:m≠rk:=ne_of hm hr.at_ (fun z=>nomatch z)
  have ly:ys.length=gs.length:=by rw [Paired.length hy,dOf_nd nd,List.length_map]
  simp only [rd_Makes_take_away_2,sp_drop_rank,tFld,L2.start,gName,tDrop,tVar,tCons,tNil,tFor,tCall,iList,List.map,List.replicate,List.length,List.append,List.cons_append,List.nil_append,List.append_nil,List.getElem?_cons_zero,List.getElem?_cons_succ,Option.some.injEq,exists_eq_left',exists_eq_left,V.int.injEq,V.ref.injEq,V.str.injEq,V.bl.injEq,V.ty.injEq,List.cons.injEq,and_true,true_and,and_assoc,exists_and_left,List.set_cons_zero,List.set_cons_succ,Nat.reduceSub,Nat.reduceAdd,decide_eq_true_eq,Bool.not_eq_true',decide_eq_false_iff_not,Int.reduceToNat,Int.reducePow,Int.reduceNeg,Int.reduceMul,Int.reduceAdd,if_true,ite_true,Bool.false_eq_true,ite_false,if_false]
  refine ⟨⟨_,SqL.of hL⟩,loop_list ys (taI m L rk rank ys F P gs H) ⟨⟨_,rfl⟩,KeepR.refl,Dm.refl,kk,hr.eqv fun p r=>by simp⟩ (fun i σ H' ⟨_,k,_⟩=>SqL.of (k _ _ hL (fun z=>nL (by rw [z];exact fk)) (.inr nL))) ?_ ?_⟩
  · rintro i u σ H' hu ⟨⟨o3,rfl⟩,k,dm,kk',hr'⟩
    obtain ⟨kv,hkv,p,rfl,hp⟩:=Paired.getP hy hu
    rw [dOf_nd nd,List.getElem?_map] at hkv
    obtain ⟨r0,hr0,rfl⟩:=Option.map_eq_some_iff.mp hkv
    have hp:H p=some (.tup ((plKey r0.1).map kV)):=hp
    have hp':H' p=some (.tup ((plKey r0.1).map kV)):=k _ _ hp (ne_of hp hr.at_ (fun z=>nomatch z)) (.inl fun _ z=>nomatch z)
    have hm':=k _ _ hm mr (.inl fun _ z=>nomatch z)
    have hno:r0.1 ∉ (gs.take i).map (·.1):=fun z=>by
      obtain ⟨j,hj⟩:=List.getElem?_of_mem z
      rw [List.getElem?_map,List.getElem?_take] at hj
      split at hj
      · rename_i hji
        have a1:(gs.map (·.1))[j]?=some r0.1:=by rw [List.getElem?_map];exact hj
        have a2:(gs.map (·.1))[i]?=some r0.1:=by rw [List.getElem?_map,hr0];rfl
        have:=(List.getElem?_inj (List.getElem?_eq_some_iff.mp a1).1 nd).mp (a1.trans a2.symm)
        omega
      · cases hj
    have hPi:∀ p r,((P p r∧¬ (r=rank∧p∈(gs.take i).map (·.1)))∧¬ (r=rank∧p=r0.1))↔(P p r∧¬ (r=rank∧p∈(gs.take (i + 1)).map (·.1))):=fun p r=>by
      rw [List.take_add_one,hr0,List.map_append,List.mem_append]
      have:p∈List.map (·.1) (some r0).toList↔p=r0.1:=by simp
      rw [this]
      exact ⟨fun ⟨⟨a,b⟩,c⟩=>⟨a,fun d=>d.2.elim (fun e=>b ⟨d.1,e⟩) fun e=>c ⟨d.1,e⟩⟩,fun ⟨a,b⟩=>⟨⟨a,fun c=>b ⟨c.1,.inl c.2⟩⟩,fun c=>b ⟨c.1,.inr c.2⟩⟩⟩
    simp only [tFld,L2.start,gName,tDrop,tVar,tCons,tNil,tFor,tCall,iList,List.map,List.replicate,List.length,List.append,List.cons_append,List.nil_append,List.append_nil,List.getElem?_cons_zero,List.getElem?_cons_succ,Option.some.injEq,exists_eq_left',exists_eq_left,V.int.injEq,V.ref.injEq,V.str.injEq,V.bl.injEq,V.ty.injEq,List.cons.injEq,and_true,true_and,and_assoc,exists_and_left,List.set_cons_zero,List.set_cons_succ,Nat.reduceSub,Nat.reduceAdd,decide_eq_true_eq,Bool.not_eq_true',decide_eq_false_iff_not,Int.reduceToNat,Int.reducePow,Int.reduceNeg,Int.reduceMul,Int.reduceAdd,if_true,ite_true,Bool.false_eq_true,ite_false,if_false]
    refine ⟨_,_,_,hm',MF.cl,MF.r,_,fs_r,rk,rfl,F,_,kk',hr',fk,r0.1,hp',⟨hP r0 (List.mem_of_getElem? hr0),fun z=>hno z.2⟩,fun H2 kk2 k2 d2 r2=>⟨⟨_,rfl⟩,k.trans k2,dm.trans d2,kk2,r2.eqv hPi⟩⟩
  · rintro σ H' ⟨⟨o3,rfl⟩,k,dm,kk',hr'⟩
    rw [ly,List.take_length] at hr'
    exact q H' kk' k dm hr'
theorem rdp_Makes_places_of {m:Addr} {rank low:Int} {F:Addr→Prop} {g:List Row} {lays:List (Int × List Row)} (MF:MkF K t) (h1:MrAt t H m F g lays low) (q:∀ l ys gs H',Same H H'→H l=none→H' l=some (.lst ys)→Paired (KyAt H') ys (dOf gs)→((rank,gs)∈lays∨(rank ∉ lays.map (·.1)∧gs=[]))→Q (.ref l) H') :
    rd_Makes_places_of K t { nx:=fun _ H'=>Q .non H',rt:=Q } (L2.start ["self","rank"] [.ref m,.int rank]) H:=by
  simp only [rd_Makes_places_of,tDNewT,tDGet2,tFld,cLstD,L2.start,tDGet2,tRet,tVar,tCons,tNil,tCB,List.map,List.replicate,List.length,List.append,List.cons_append,List.nil_append,List.append_nil,List.getElem?_cons_zero,List.getElem?_cons_succ,Option.some.injEq,exists_eq_left',exists_eq_left,V.int.injEq,V.ref.injEq,V.str.injEq,V.bl.injEq,V.ty.injEq,List.cons.injEq,and_true,true_and,and_assoc,exists_and_left,List.set_cons_zero,List.set_cons_succ,Nat.reduceSub,Nat.reduceAdd,decide_eq_true_eq,Bool.not_eq_true',decide_eq_false_iff_not,Int.reduceToNat,Int.reducePow,Int.reduceNeg,Int.reduceMul,Int.reduceAdd,if_true,ite_true,Bool.false_eq_true,ite_false,if_false]
  obtain ⟨dx,gr,wo,rk,wk,kk,M⟩:=h1.ex
  refine ⟨_,_,_,M.im,MF.cl,MF.w,_,fs_w,wo,rfl,.inl ⟨_,.inl M.hw⟩,fun p hp=>?_⟩
  obtain ⟨H1,eH,s1,q1⟩:=new_ob (o:=HO.dT []) hp
  rw [← eH];clear eH
  have M1:=M.keep h1.me fun b o _ e=>s1 _ _ e
  by_cases hin:rank∈lays.map (·.1)
  · obtain ⟨y,hy,ey⟩:=List.mem_map.mp hin
    obtain ⟨r',gs⟩:=y
    have ey:r'=rank:=ey
    subst ey
    obtain ⟨d,v1,fd,nd,hd⟩:=wk_get M1.wp h1.nd hy
    have hg:=DGet.k (k:=.inl r') M1.hw
    rw [v1] at hg
    refine ⟨_,hg,d,rfl,dOf gs,hd,fun l ys hl pr=>?_⟩
    have s3:=isV (o:=HO.lst ys) l hl
    exact q l ys gs _ (s1.trans s3) (fresh_of s1 hl) upd_same (Paired.mapP pr fun _ _ ⟨p,e,h⟩=>⟨p,e,s3 _ _ h⟩) (.inl hy)
  · have hg:=DGet.k (k:=.inl rank) M1.hw
    rw [wk_none M1.wp hin] at hg
    refine ⟨_,hg,p,rfl,[],q1,fun l ys hl pr=>?_⟩
    have s3:=isV (o:=HO.lst ys) l hl
    exact q l ys [] _ (s1.trans s3) (fresh_of s1 hl) upd_same (Paired.mapP pr fun _ _ ⟨p,e,h⟩=>⟨p,e,s3 _ _ h⟩) (.inr ⟨hin,rfl⟩)
theorem mr_out {m dx gr wo rk:Addr} {low:Int} {F:Addr→Prop} {g:List Row} {l':List (Int × List Row)} {wk':List (Key × V)} {kk':List (List Key × V)} {H3 H':Hp} (me:F m) (fg:F gr) (fw:F wo) (fk:F rk) (nr:gr≠rk) (im:H3 m=some (.ins t.c_Makes dx (mkFs gr low wo rk))) (hg:H3 gr=some (.dT (dOf g))) (hw:H3 wo=some (.dK wk')) (hk3:∃ kk,H3 rk=some (.dT kk)) (wp:Paired (WkAt H3 rk F) wk' l') (k:KeepR F rk H3 H') (own:∀ b,F b→OwnO H' b) (rr:RkAt H' rk F (hasR l') kk') (nd:(l'.map (·.1)).Nodup) (ok:∀ y∈l',0≤y.1∧GfOk y.2):MrAt t H' m F g l' low:=by
  obtain ⟨kk,hk3⟩:=hk3
  exact ⟨own,me,nd,ok,dx,gr,wo,rk,wk',kk',k _ _ im (ne_of im hk3 (fun z=>nomatch z)) (.inl fun _ z=>nomatch z),fg,fw,fk,nr,k _ _ hg nr (.inl fun _ z=>nomatch z),k _ _ hw (ne_of hw hk3 (fun z=>nomatch z)) (.inl fun _ z=>nomatch z),Paired.mapP wp fun _ _ ⟨e,d,e2,fd,nd,hd⟩=>⟨e,d,e2,fd,nd,k _ _ hd nd (.inl fun _ z=>nomatch z)⟩,rr⟩
theorem keepR_out {F:Addr→Prop} {rk:Addr} {H H':Hp} (fk:F rk) (k:KeepR F rk H H'):∀ b o,¬ F b→H b=some o→H' b=some o:=fun b o n e=>k b o e (fun z=>n (by rw [z];exact fk)) (.inr n)
theorem outW_has {l:List (Int × List Row)} {rank:Int} {gs:List Row} (nd:(l.map (·.1)).Nodup) (h:(rank,gs)∈l) (p:Pl) (r:Int):(hasR l p r∧¬ (r=rank∧p∈gs.map (·.1)))↔hasR (outW l rank) p r:=by
  constructor
  · rintro ⟨⟨g2,h1,h2⟩,n⟩
    refine ⟨g2,List.mem_filter.mpr ⟨h1,decide_eq_true fun z=>?_⟩,h2⟩
    have z:r=rank:=z
    subst z
    have:=nd_inj nd h1 h rfl
    cases this
    exact n ⟨rfl,h2⟩
  · rintro ⟨g2,h1,h2⟩
    obtain ⟨h3,h4⟩:=List.mem_filter.mp h1
    exact ⟨⟨g2,h3,h2⟩,fun z=>of_decide_eq_true h4 z.1⟩
theorem rdp_Makes_take_away {m:Addr} {rank low:Int} {F:Addr→Prop} {g:List Row} {lays:List (Int × List Row)} (MF:MkF K t) (h1:MrAt t H m F g lays low) (q:∀ H' F',(∀ b o,¬ F b→H b=some o→H' b=some o)→(∀ b zs,H b=some (.tup zs)→H' b=some (.tup zs))→MrAt t H' m F' g (outW lays rank) low→(∀ b,F' b→F b∨H b=none)→(∀ b,F b→F' b)→Q .non H') :
    rd_Makes_take_away K t { nx:=fun _ H'=>Q .non H',rt:=Q } (L2.start ["self","rank","places","place"] [.ref m,.int rank]) H:=by
  simp only [rd_Makes_take_away,sp_Makes_places_of,tFld,tMeth,tDPop2,L2.start,tSeq,tAsg,gName,tDrop,tVar,tC,tCons,tNil,tFor,tCall,iList,List.map,List.replicate,List.length,List.append,List.cons_append,List.nil_append,List.append_nil,List.getElem?_cons_zero,List.getElem?_cons_succ,Option.some.injEq,exists_eq_left',exists_eq_left,V.int.injEq,V.ref.injEq,V.str.injEq,V.bl.injEq,V.ty.injEq,List.cons.injEq,and_true,true_and,and_assoc,exists_and_left,List.set_cons_zero,List.set_cons_succ,Nat.reduceSub,Nat.reduceAdd,decide_eq_true_eq,Bool.not_eq_true',decide_eq_false_iff_not,Int.reduceToNat,Int.reducePow,Int.reduceNeg,Int.reduceMul,Int.reduceAdd,if_true,ite_true,Bool.false_eq_true,ite_false,if_false]
  obtain ⟨dx,gr,wo,rk,wk,kk,M⟩:=h1.ex
  refine ⟨_,_,M.im,mk_no (by decide +kernel),F,g,lays,low,h1,fun L ys gs H1 s1 fL hL hy ho=>?_⟩
  have M1:=M.keep h1.me fun b o _ e=>s1 _ _ e
  have okf:∀ y∈outW lays rank,0≤y.1∧GfOk y.2:=fun y hy=>h1.ok y (List.mem_filter.mp hy).1
  have ndf:((outW lays rank).map (·.1)).Nodup:=List.Nodup.sublist (List.Sublist.map _ List.filter_sublist) h1.nd
  have nL:¬ F L:=fun z=>by obtain ⟨o,e,_⟩:=h1.own L z;rw [fL] at e;cases e
  have ownD:∀ {H2:Hp},Dm H1 H2→∀ b,F b→OwnO H2 b:=fun dm b hb=>by
    obtain ⟨o,e,n⟩:=h1.own b hb
    obtain ⟨o',e',z⟩:=dm b o (s1 _ _ e)
    exact ⟨o',e',fun zs y=>n zs (z zs y)⟩
  refine ⟨_,_,_,M1.im,MF.cl,MF.w,_,fs_w,wo,rfl,.inl ⟨_,.inl M1.hw⟩,wk,M1.hw,.inl rank,rfl,fun v hv=>?_,fun hv=>?_⟩
  · have hin:rank∈lays.map (·.1):=Classical.byContradiction fun z=>by rw [wk_none M1.wp z] at hv;cases hv
    have hy0:(rank,gs)∈lays:=ho.resolve_right fun z=>z.1 hin
    have okg:=(h1.ok _ hy0).2
    have wm:m≠wo:=ne_of M1.im M1.hw (fun z=>nomatch z)
    have wg:gr≠wo:=ne_of M1.hg M1.hw (fun z=>nomatch z)
    have wr:rk≠wo:=ne_of M1.rr.at_ M1.hw (fun z=>nomatch z)
    have n2:∀ b o,b≠wo→H1 b=some o→upd H1 wo (HO.dK (dropK wk (.inl rank))) b=some o:=fun b o n e=>by rw [upd_ne n];exact e
    have w2:upd H1 wo (HO.dK (dropK wk (.inl rank))) wo=some (HO.dK (dropK wk (.inl rank))):=upd_same
    have d2:Dm H1 (upd H1 wo (HO.dK (dropK wk (.inl rank)))):=Dm.upd fun _ z=>nomatch z
    generalize upd H1 wo (HO.dK (dropK wk (.inl rank)))=H2 at *
    have rr2:RkAt H2 rk F (hasR lays) kk:=M1.rr.keep2 (by rw [n2 _ _ wr M1.rr.at_,M1.rr.at_]) (fun b xs _ e=>n2 _ _ (ne_of e M1.hw (fun z=>nomatch z)) e) (fun _ _ z _=>z)
    refine rdp_ta1 MF (n2 _ _ wm M1.im) (n2 _ _ (ne_of hL M1.hw (fun z=>nomatch z)) hL) nL (Paired.mapP hy fun _ _ ⟨p,e,h⟩=>⟨p,e,n2 _ _ (ne_of h M1.hw (fun z=>nomatch z)) h⟩) okg.nd (fun r hr=>⟨gs,hy0,List.mem_map_of_mem hr⟩) rr2 M.fk fun H' kk' k dm rr'=>?_
    have wp3:Paired (WkAt H2 rk F) (dropK wk (.inl rank)) (outW lays rank):=Paired.mapP (wk_drop M1.wp) fun _ _ ⟨e,d,e2,fd,nd,hd⟩=>⟨e,d,e2,fd,nd,n2 _ _ (ne_of hd M1.hw (fun z=>nomatch z)) hd⟩
    refine q H' F (fun b o nf e=>keepR_out M.fk k b o nf (n2 _ _ (fun z=>nf (by rw [z];exact M.fw)) (s1 _ _ e))) (fun b zs e=>k _ _ (n2 _ _ (ne_of (s1 _ _ e) M1.hw (fun z=>nomatch z)) (s1 _ _ e)) (ne_of (s1 _ _ e) M1.rr.at_ (fun z=>nomatch z)) (.inl fun _ z=>nomatch z)) ?_ (fun _ z=>.inl z) fun _ z=>z
    exact mr_out h1.me M.fg M.fw M.fk M.nr (n2 _ _ wm M1.im) (n2 _ _ wg M1.hg) w2 ⟨_,rr2.at_⟩ wp3 k (ownD (d2.trans dm)) (rr'.eqv (outW_has h1.nd hy0)) ndf okf
  · have hin:rank ∉ lays.map (·.1):=fun z=>by
      obtain ⟨y,hy,ey⟩:=List.mem_map.mp z
      obtain ⟨r',gs⟩:=y
      have ey:r'=rank:=ey
      subst ey
      obtain ⟨d,v1,_⟩:=wk_get M1.wp h1.nd hy
      rw [v1] at hv
      cases hv
    have eg:gs=[]:=(ho.resolve_left fun z=>hin (List.mem_map.mpr ⟨_,z,rfl⟩)).2
    subst eg
    rw [outW_no hin] at okf ndf q
    refine rdp_ta1 (gs:=[]) MF M1.im hL nL hy List.nodup_nil (fun r hr=>nomatch hr) M1.rr M.fk fun H' kk' k dm rr'=>?_
    refine q H' F (fun b o nf e=>keepR_out M.fk k b o nf (s1 _ _ e)) (fun b zs e=>k _ _ (s1 _ _ e) (ne_of (s1 _ _ e) M1.rr.at_ (fun z=>nomatch z)) (.inl fun _ z=>nomatch z)) ?_ (fun _ z=>.inl z) fun _ z=>z
    exact mr_out h1.me M.fg M.fw M.fk M.nr M1.im M1.hg M1.hw ⟨_,M1.rr.at_⟩ M1.wp k (ownD dm) (rr'.eqv fun p r=>by simp) ndf okf
theorem kk_len {rk:Addr} {F:Addr→Prop} {l:List (Int × List Row)} {kk:List (List Key × V)} {P:Pl→Int→Prop} (h:RkAt H rk F P kk) (hp:∀ p r,P p r→hasR l p r) (ok:∀ y∈l,GfOk y.2) (hl:l.length≤300):kk.length≤18900:=by
  have h1:=nd_len_le (b:=(l.flatMap fun y=>y.2.map (·.1)).map plKey) h.nk fun x hx=>by
    obtain ⟨kv,hkv,rfl⟩:=List.mem_map.mp hx
    obtain ⟨p,a,rs,rfl,_,_,_,hn,hi⟩:=h.ls kv hkv
    obtain ⟨r,hr⟩:∃ r,r∈rs:=by
      cases rs with
      | nil=>exact absurd rfl hn
      | cons r _=>exact ⟨r,List.mem_cons_self⟩
    obtain ⟨gs,h2,h3⟩:=hp p r ((hi r).mp hr)
    exact List.mem_map_of_mem (List.mem_flatMap.mpr ⟨_,h2,h3⟩)
  rw [List.length_map,List.length_map] at h1
  have h2:∀ l:List (Int × List Row),(∀ y∈l,GfOk y.2)→(l.flatMap fun y=>y.2.map (·.1)).length≤63 * l.length:=by
    intro l
    induction l with
    | nil=>intro _;simp
    | cons y l ih =>
      intro ok
      rw [List.flatMap_cons,List.length_append,List.length_map,List.length_cons]
      have:=(ok y List.mem_cons_self).le
      have:=ih fun z hz=>ok z (List.mem_cons_of_mem _ hz)
      omega
  have:=h2 l ok
  omega
def lyI (m gv d rk:Addr) (rank:Int) (G:Addr→Prop) (P:Pl→Int→Prop) (gs:List Row) (H:Hp) (i:Nat) (σ:St) (H':Hp):Prop:=(∃ o4,σ=[some (.ref m),some (.int rank),some (.ref gv),some (.ref d),o4])∧KeepR G rk H H'∧Dm H H'∧∃ kk,RkAt H' rk G (fun p r=>P p r∨(r=rank∧p∈(gs.take i).map (·.1))) kk
theorem rdp_put_rank {rk pl:Addr} {rank:Int} {G:Addr→Prop} {P:Pl→Int→Prop} {kk:List (List Key × V)} {q0:Pl} (hr:RkAt H rk G P kk) (gk:G rk) (gn:∀ b,H b=none→G b) (hp:H pl=some (.tup ((plKey q0).map kV))) (hnP:¬ P q0 rank) (kl:kk.length≤18900) (hrl:∀ rs:List Int,rs.Pairwise (· < ·)→(∀ r∈rs,P q0 r)→rs.length≤300) (q:∀ H' kk',KeepR G rk H H'→Dm H H'→RkAt H' rk G (fun p r=>P p r∨(r=rank∧p=q0)) kk'→Q .non H') :
    rd_put_rank K t { nx:=fun _ H'=>Q .non H',rt:=Q } (L2.start ["ranks_at","place","rank","ranks"] [.ref rk,.ref pl,.int rank]) H:=by
  simp only [rd_put_rank,sp_many_below,tDSetD,r_mt_insert,L2.start,tSeq,tAsg,gName,tDrop,tVar,tLst,tCons,tNil,tBM,tyV,tCall,List.map,List.replicate,List.length,List.append,List.cons_append,List.nil_append,List.append_nil,List.getElem?_cons_zero,List.getElem?_cons_succ,Option.some.injEq,exists_eq_left',exists_eq_left,V.int.injEq,V.ref.injEq,V.str.injEq,V.bl.injEq,V.ty.injEq,List.cons.injEq,and_true,true_and,and_assoc,exists_and_left,List.set_cons_zero,List.set_cons_succ,Nat.reduceSub,Nat.reduceAdd,decide_eq_true_eq,Bool.not_eq_true',decide_eq_false_iff_not,Int.reduceToNat,Int.reducePow,Int.reduceNeg,Int.reduceMul,Int.reduceAdd,if_true,ite_true,Bool.false_eq_true,ite_false,if_false]
  refine ⟨.inr ⟨_,.inl hr.at_⟩,by decide,fun z hz=>?_⟩
  obtain ⟨H2,eH,s2,q2⟩:=new_ob (o:=HO.lst []) hz
  rw [← eH];clear eH
  have hr2:=hr.keep (F':=G) gk (fun b o _ e=>s2 _ _ e) (fun _ z=>z)
  have ke2:KeepR G rk H H2:=KeepR.refl.same s2
  have dm2:Dm H H2:=Dm.of_same s2
  have gz:G z:=gn z hz
  refine ⟨kk,hr2.at_,plKey q0,s2 _ _ hp,by rw [sizeLine_eq];omega,fun v hv=>?_,fun hv=>?_⟩
  · rcases hr2.get q0 with ⟨a,rs,hk,hv2,fa,ha,hs,hne,hi⟩ | ⟨hv2,_,_⟩
    · rw [hv2] at hv;cases hv
      have rl:=hrl rs hs fun r hr=>(hi r).mp hr
      refine ⟨.inl ⟨_,SqL.of ha⟩,a,rfl,rs,ha,hs,fun k H3 s3 hk3 hlt hge=>⟨a,rfl,_,k,rfl,s3 _ _ ha,by rw [List.length_map];exact hk3,by rw [List.length_map];omega,?_⟩⟩
      rw [← List.map_take,← List.map_drop,← List.map_cons (f:=V.int),← List.map_append]
      have hr3:=hr2.keep (F':=G) gk (fun b o _ e=>s3 _ _ e) (fun _ z=>z)
      exact q _ kk ((ke2.same s3).lst (s3 _ _ ha) fa) ((dm2.trans (Dm.of_same s3)).trans (Dm.upd fun _ z=>nomatch z)) (hr3.in1 hk (s3 _ _ ha) hs hi hlt hge hnP fun p r=>Iff.rfl)
    · rw [hv2] at hv;cases hv
  · have zr:z≠rk:=ne_of q2 hr2.at_ (fun z=>nomatch z)
    rw [putK_new _ hv]
    have qz:upd H2 rk (HO.dT (kk ++ [(plKey q0,V.ref z)])) z=some (.lst (([]:List Int).map V.int)):=by rw [upd_ne zr];exact q2
    have hf:∀ kv∈kk,kv.2≠.ref z:=fun kv hk e=>by
      obtain ⟨p',a',rs',rfl,_,ha',_⟩:=hr.ls kv hk
      cases e
      rw [hz] at ha'
      cases ha'
    rcases hr2.get q0 with ⟨a,rs,hk,hv2,_⟩ | ⟨_,hkn,hn⟩
    · rw [hv2] at hv;cases hv
    refine ⟨.inl ⟨_,SqL.of qz⟩,[],qz,List.Pairwise.nil,fun k H3 s3 hk3 hlt hge=>?_⟩
    have k0:k=0:=Nat.le_zero.mp hk3
    subst k0
    have d3:Dm H (upd H2 rk (HO.dT (kk ++ [(plKey q0,V.ref z)]))):=dm2.trans (Dm.upd fun _ z=>nomatch z)
    refine ⟨[],0,rfl,s3 _ _ qz,Nat.le_refl _,by decide,q _ (kk ++ [(plKey q0,V.ref z)]) (((ke2.dct _).same s3).lst (s3 _ _ qz) gz) ((d3.trans (Dm.of_same s3)).trans (Dm.upd fun _ z=>nomatch z)) ?_⟩
    refine (hr2.in2 (a:=z) (rank:=rank) hkn hn gz hf zr fun p r=>Iff.rfl).keep gk (fun b o fb eb=>?_) (fun _ z=>z)
    show upd H3 z (HO.lst [V.int rank]) b=some o
    by_cases hb:b=z
    · subst hb;rw [upd_same] at eb ⊢;exact eb
    · rw [upd_ne hb] at eb ⊢;exact s3 _ _ eb
theorem rdp_lay3 {D:Ends} {E:XK} {gv d m dx gr wo rk:Addr} {rank low:Int} {G:Addr→Prop} {gs:List Row} {l:List (Int × List Row)} {kk:List (List Key × V)} (MF:MkF K t) (hm:H m=some (.ins t.c_Makes dx (mkFs gr low wo rk))) (hd:H d=some (.dT (dOf gs))) (dr:d≠rk) (gf:GfOk gs) (hr:RkAt H rk G (hasR l) kk) (hno:rank ∉ l.map (·.1)) (ok:∀ y∈l,GfOk y.2) (hl:l.length≤200) (gk:G rk) (gn:∀ b,H b=none→G b)
    (q:∀ H' o4 kk',KeepR G rk H H'→(∀ b o,H b=some o→∃ o',H' b=some o')→(∀ b,OwnO H b→OwnO H' b)→RkAt H' rk G (fun p r=>hasR l p r∨(r=rank∧p∈gs.map (·.1))) kk'→rd_Makes_lay_4 K t E D [some (.ref m),some (.int rank),some (.ref gv),some (.ref d),o4] H') :
    rd_Makes_lay_3 K t E D [some (.ref m),some (.int rank),some (.ref gv),some (.ref d),none] H:=by
  have mr:m≠rk:=ne_of hm hr.at_ (fun z=>nomatch z)
  have md:m≠d:=ne_of hm hd (fun z=>nomatch z)
  simp only [rd_Makes_lay_3,tFrz,sp_put_rank,sDPut,iDT,tFld,L2.start,tSeq,gName,tDrop,tVar,tCons,tNil,tFor,tCall,List.map,List.replicate,List.length,List.append,List.cons_append,List.nil_append,List.append_nil,List.getElem?_cons_zero,List.getElem?_cons_succ,Option.some.injEq,exists_eq_left',exists_eq_left,V.int.injEq,V.ref.injEq,V.str.injEq,V.bl.injEq,V.ty.injEq,List.cons.injEq,and_true,true_and,and_assoc,exists_and_left,List.set_cons_zero,List.set_cons_succ,Nat.reduceSub,Nat.reduceAdd,decide_eq_true_eq,Bool.not_eq_true',decide_eq_false_iff_not,Int.reduceToNat,Int.reducePow,Int.reduceNeg,Int.reduceMul,Int.reduceAdd,if_true,ite_true,Bool.false_eq_true,ite_false,if_false]
  refine ⟨d,_,hd,dOf gs,.inl rfl,fun ob=>?_⟩
  have f0:upd H d (.frz ob (.dT (dOf gs))) d=some (.frz ob (.dT (dOf gs))):=upd_same
  have rr0:RkAt (upd H d (.frz ob (.dT (dOf gs)))) rk G (hasR l) kk:=hr.keep2 (by rw [upd_ne dr.symm]) (fun b xs _ e=>by rw [upd_ne (ne_of e hd (fun z=>nomatch z))];exact e) (fun _ _ z _=>z)
  have hm0:upd H d (.frz ob (.dT (dOf gs))) m=some (.ins t.c_Makes dx (mkFs gr low wo rk)):=by rw [upd_ne md];exact hm
  have d0:Dm H (upd H d (.frz ob (.dT (dOf gs)))):=Dm.upd fun _ z=>nomatch z
  have back:∀ {H'},KeepR G rk (upd H d (.frz ob (.dT (dOf gs)))) H'→KeepR G rk H (upd H' d (.dT (dOf gs))):=fun {H'} k b o e n z=>by
    by_cases eb:b=d
    · subst eb;rw [upd_same,← hd];exact e
    · rw [upd_ne eb];exact k b o (by rw [upd_ne eb];exact e) n z
  have gn0:∀ b,upd H d (.frz ob (.dT (dOf gs))) b=none→G b:=fun b e=>gn b (by
    by_cases eb:b=d
    · subst eb;rw [upd_same] at e;cases e
    · rw [upd_ne eb] at e;exact e)
  generalize upd H d (.frz ob (.dT (dOf gs)))=H0 at *
  have kd:∀ {H'},KeepR G rk H0 H'→H' d=some (.frz ob (.dT (dOf gs))):=fun {H'} k=>k _ _ f0 dr (.inl fun _ z=>nomatch z)
  refine ⟨ob,dOf gs,f0,loop_dictT (lyI m gv d rk rank G (hasR l) gs H0) ⟨⟨_,rfl⟩,KeepR.refl,Dm.refl,kk,rr0.eqv fun p r=>by simp⟩ (fun i σ H' ⟨_,k,_⟩=>kd k) ?_ ?_⟩
  · rintro i k v p σ H' hkv hp ⟨⟨o4,rfl⟩,ke,dm,kk',hr'⟩
    rw [dOf_nd gf.nd,List.getElem?_map] at hkv
    obtain ⟨r0,hr0,er⟩:=Option.map_eq_some_iff.mp hkv
    cases er
    have hm':=ke _ _ hm0 mr (.inl fun _ z=>nomatch z)
    have hnr:r0.1 ∉ (gs.take i).map (·.1):=fun z=>by
      obtain ⟨j,hj⟩:=List.getElem?_of_mem z
      rw [List.getElem?_map,List.getElem?_take] at hj
      split at hj
      · rename_i hji
        have a1:(gs.map (·.1))[j]?=some r0.1:=by rw [List.getElem?_map];exact hj
        have a2:(gs.map (·.1))[i]?=some r0.1:=by rw [List.getElem?_map,hr0];rfl
        have:=(List.getElem?_inj (List.getElem?_eq_some_iff.mp a1).1 gf.nd).mp (a1.trans a2.symm)
        omega
      · cases hj
    have hPi:∀ p r,((hasR l p r∨(r=rank∧p∈(gs.take i).map (·.1)))∨(r=rank∧p=r0.1))↔(hasR l p r∨(r=rank∧p∈(gs.take (i + 1)).map (·.1))):=fun p r=>by
      rw [List.take_add_one,hr0,List.map_append,List.mem_append]
      have:p∈List.map (·.1) (some r0).toList↔p=r0.1:=by simp
      rw [this,and_or_left,or_assoc]
    have hnP:¬ (hasR l r0.1 rank∨(rank=rank∧r0.1∈(gs.take i).map (·.1))):=fun z=>z.elim (fun ⟨g2,h2,_⟩=>hno (List.mem_map.mpr ⟨_,h2,rfl⟩)) fun y=>hnr y.2
    have kl:kk'.length≤18900:=kk_len (l:=(rank,gs) :: l) hr' (fun p r z=>z.elim (fun ⟨g2,h2,h3⟩=>⟨g2,List.mem_cons_of_mem _ h2,h3⟩) fun ⟨e,h3⟩=>⟨gs,by rw [e];exact List.mem_cons_self,(by
      obtain ⟨x,hx,rfl⟩:=List.mem_map.mp h3
      exact List.mem_map_of_mem (List.mem_of_mem_take hx))⟩) (fun y hy=>by
      rcases List.mem_cons.mp hy with rfl | hy
      · exact gf
      · exact ok y hy) (by rw [List.length_cons];omega)
    have gn1:∀ b,H' b=none→G b:=fun b e=>gn0 b (by
      cases e0:H0 b with
      | none=>rfl
      | some o=>obtain ⟨o',e',_⟩:=dm b o e0;rw [e] at e';cases e')
    have hrl:∀ rs:List Int,rs.Pairwise (· < ·)→(∀ r∈rs,hasR l r0.1 r∨(r=rank∧r0.1∈(gs.take i).map (·.1)))→rs.length≤300:=fun rs hs hall=>by
      have rl:rs.length≤((rank,gs) :: l).length:=rs_len (p:=r0.1) hs fun r hr=>(hall r hr).elim (fun ⟨g2,h2,h3⟩=>⟨g2,List.mem_cons_of_mem _ h2,h3⟩) fun y=>absurd y.2 hnr
      rw [List.length_cons] at rl
      omega
    simp only [sDPut,iDT,tFld,L2.start,tSeq,gName,tDrop,tVar,tCons,tNil,tFor,tCall,List.map,List.replicate,List.length,List.append,List.cons_append,List.nil_append,List.append_nil,List.getElem?_cons_zero,List.getElem?_cons_succ,Option.some.injEq,exists_eq_left',exists_eq_left,V.int.injEq,V.ref.injEq,V.str.injEq,V.bl.injEq,V.ty.injEq,List.cons.injEq,and_true,true_and,and_assoc,exists_and_left,List.set_cons_zero,List.set_cons_succ,Nat.reduceSub,Nat.reduceAdd,decide_eq_true_eq,Bool.not_eq_true',decide_eq_false_iff_not,Int.reduceToNat,Int.reducePow,Int.reduceNeg,Int.reduceMul,Int.reduceAdd,if_true,ite_true,Bool.false_eq_true,ite_false,if_false]
    exact ⟨_,_,_,hm',MF.cl,MF.r,_,fs_r,rk,rfl,G,_,kk',hr',gk,gn1,r0.1,hp,hnP,kl,hrl,fun H2 kk2 k2 d2 r2=>⟨⟨_,rfl⟩,ke.trans k2,dm.trans d2,kk2,r2.eqv hPi⟩⟩
  · rintro σ H' ⟨⟨o4,rfl⟩,ke,dm,kk',hr'⟩
    rw [dOf_nd gf.nd,List.length_map,List.take_length] at hr'
    have D2:Dm H (upd H' d (.dT (dOf gs))):=(d0.trans dm).trans (Dm.upd fun _ z=>nomatch z)
    refine ⟨kd ke,q _ o4 kk' (back ke) (fun b o e=>let ⟨o',e',_⟩:=D2 b o e;⟨o',e'⟩) (fun b ⟨o,e,n⟩=>let ⟨o',e',z⟩:=D2 b o e;⟨o',e',fun zs y=>n zs (z zs y)⟩) (hr'.keep2 (by rw [upd_ne dr.symm]) (fun b xs _ e=>by rw [upd_ne (ne_of e (kd ke) (fun z=>nomatch z))];exact e) (fun _ _ z _=>z))⟩
theorem rdp_lay0 {m gv:Addr} {rank low:Int} {F:Addr→Prop} {g:List Row} {lays:List (Int × List Row)} {gs:List Row} {E:XK} (MF:MkF K t) (h1:MrAt t H m F g lays low) (h2r:rB rank) (h2:low≤rank) (h20:0≤rank) (h3:RwsAt H gv gs) (hgv:¬ F gv) (h4:GfOk gs) (h5:lays.length≤200) (q:∀ H' F',(∀ b o,¬ F b→H b=some o→H' b=some o)→(∀ b zs,H b=some (.tup zs)→H' b=some (.tup zs))→MrAt t H' m F' g (layW lays rank gs) low→(∀ b,F' b→F b∨H b=none)→Q .non H') :
    rd_Makes_lay K t E { nx:=fun _ H'=>Q .non H',rt:=Q } (L2.start ["self","rank","gifts","worths","place"] [.ref m,.int rank,.ref gv]) H:=by
  simp only [rd_Makes_lay,sp_Makes_heed_fold,sp_Makes_take_away,sDPut,iDT,cDctP,tFld,tMeth,L2.start,tSeq,tAsg,gName,tDrop,tVar,tCons,tNil,tFor,tCB,tCall,List.map,List.replicate,List.length,List.append,List.cons_append,List.nil_append,List.append_nil,List.getElem?_cons_zero,List.getElem?_cons_succ,Option.some.injEq,exists_eq_left',exists_eq_left,V.int.injEq,V.ref.injEq,V.str.injEq,V.bl.injEq,V.ty.injEq,List.cons.injEq,and_true,true_and,and_assoc,exists_and_left,List.set_cons_zero,List.set_cons_succ,Nat.reduceSub,Nat.reduceAdd,decide_eq_true_eq,Bool.not_eq_true',decide_eq_false_iff_not,Int.reduceToNat,Int.reducePow,Int.reduceNeg,Int.reduceMul,Int.reduceAdd,if_true,ite_true,Bool.false_eq_true,ite_false,if_false]
  obtain ⟨dx,gr,wo,rk,wk,kk,M⟩:=h1.ex
  refine ⟨_,_,M.im,mk_no (by decide +kernel),_,_,M.im,_,fs_f,h2r,fun _ H1 s1=>?_,fun z=>absurd z (by omega)⟩
  have M1:=h1.keep (H':=H1) fun b o _ e=>s1 _ _ e
  refine ⟨_,_,s1 _ _ M.im,mk_no (by decide +kernel),F,g,lays,low,M1,fun H2 F2 fr2 ts2 m2 ff2 fs2=>?_⟩
  clear M wk kk gr wo rk dx
  obtain ⟨xs,hx,hp⟩:=h3
  have hx2:=fr2 _ _ hgv (s1 _ _ hx)
  have hp2:Paired (PrAt H2) xs gs:=Paired.mapP hp fun _ _ ⟨r,p,e,e1,e2⟩=>⟨r,p,e,ts2 _ _ (s1 _ _ e1),ts2 _ _ (s1 _ _ e2)⟩
  refine ⟨xs,hx2,gs,hp2,by have:=h4.le;omega,fun d hd=>?_⟩
  obtain ⟨H3,eH,s3,q3⟩:=new_ob (o:=HO.dT (dOf gs)) hd
  rw [← eH];clear eH
  obtain ⟨dx,gr,wo,rk,wk,kk,M2⟩:=m2.ex
  have M3:=M2.keep m2.me fun b o _ e=>s3 _ _ e
  have ndF:¬ F2 d:=fun z=>by obtain ⟨o,e,_⟩:=m2.own d z;rw [hd] at e;cases e
  have dr:d≠rk:=fun z=>ndF (by rw [z];exact M2.fk)
  have hl:(outW lays rank).length≤200:=Nat.le_trans (List.length_filter_le _ _) h5
  have fresh:∀ b,H2 b=none→H b=none:=fun b e=>by
    cases e2:H b with
    | none=>rfl
    | some o =>
      exfalso
      by_cases fb:F b
      · obtain ⟨o',e',_⟩:=m2.own b (fs2 b fb);rw [e] at e';cases e'
      · have:=fr2 _ _ fb (s1 _ _ e2);rw [e] at this;cases this
  refine rdp_lay3 (G:=fun b=>F2 b∨H2 b=none) MF M3.im q3 dr h4 (M3.rr.keep (F':=fun b=>F2 b∨H2 b=none) M3.fk (fun b o _ e=>e) (fun _ z=>.inl z)) outW_not (fun y hy=>(m2.ok y hy).2) hl (.inl M2.fk) (fun b e=>.inr (fresh_of s3 e)) fun H4 o4 kk' ke dm dn rr4=>?_
  have im4:=ke _ _ M3.im (ne_of M3.im M3.rr.at_ (fun z=>nomatch z)) (.inl fun _ z=>nomatch z)
  have hw4:=ke _ _ M3.hw (ne_of M3.hw M3.rr.at_ (fun z=>nomatch z)) (.inl fun _ z=>nomatch z)
  have hg4:=ke _ _ M3.hg M3.nr (.inl fun _ z=>nomatch z)
  have hd4:=ke _ _ q3 dr (.inl fun _ z=>nomatch z)
  have wl:wk.length≤200:=by rw [Paired.length M2.wp];exact hl
  simp only [rd_Makes_lay_4,sDPut,iDT,cDctP,tFld,tMeth,L2.start,tSeq,tAsg,gName,tDrop,tVar,tCons,tNil,tFor,tCB,tCall,List.map,List.replicate,List.length,List.append,List.cons_append,List.nil_append,List.append_nil,List.getElem?_cons_zero,List.getElem?_cons_succ,Option.some.injEq,exists_eq_left',exists_eq_left,V.int.injEq,V.ref.injEq,V.str.injEq,V.bl.injEq,V.ty.injEq,List.cons.injEq,and_true,true_and,and_assoc,exists_and_left,List.set_cons_zero,List.set_cons_succ,Nat.reduceSub,Nat.reduceAdd,decide_eq_true_eq,Bool.not_eq_true',decide_eq_false_iff_not,Int.reduceToNat,Int.reducePow,Int.reduceNeg,Int.reduceMul,Int.reduceAdd,if_true,ite_true,Bool.false_eq_true,ite_false,if_false]
  refine ⟨_,_,_,im4,MF.cl,MF.w,_,fs_w,wo,rfl,_,(.k (k:=.inl rank) hw4 (by rw [sizeLine_eq];omega)),?_⟩
  rw [putK_new _ (wk_none M3.wp outW_not)]
  have mw:m≠wo:=ne_of im4 hw4 (fun z=>nomatch z)
  have gw:gr≠wo:=ne_of hg4 hw4 (fun z=>nomatch z)
  have rw_:rk≠wo:=ne_of rr4.at_ hw4 (fun z=>nomatch z)
  have dw:d≠wo:=ne_of hd4 hw4 (fun z=>nomatch z)
  have n5:∀ b o,b≠wo→H4 b=some o→upd H4 wo (HO.dK (wk ++ [(.inl rank,V.ref d)])) b=some o:=fun b o n e=>by rw [upd_ne n];exact e
  have w5:upd H4 wo (HO.dK (wk ++ [(.inl rank,V.ref d)])) wo=some (HO.dK (wk ++ [(.inl rank,V.ref d)])):=upd_same
  have dm5:∀ b o,H3 b=some o→∃ o',upd H4 wo (HO.dK (wk ++ [(.inl rank,V.ref d)])) b=some o':=fun b o e=>by
    by_cases eb:b=wo
    · subst eb;exact ⟨_,w5⟩
    · obtain ⟨o',e'⟩:=dm b o e;exact ⟨o',n5 _ _ eb e'⟩
  have dn5:∀ b,OwnO H3 b→OwnO (upd H4 wo (HO.dK (wk ++ [(.inl rank,V.ref d)]))) b:=fun b z=>own_upd (dn b z) (fun _ y=>nomatch y)
  generalize upd H4 wo (HO.dK (wk ++ [(.inl rank,V.ref d)]))=H5 at *
  refine q H5 (fun b=>F2 b∨(H2 b=none∧OwnO H5 b)) (fun b o nf e=>?_) (fun b zs e=>?_) ?_ fun b z=>?_
  · have e2:=fr2 _ _ nf (s1 _ _ e)
    have nf2:¬ F2 b:=fun z=>(ff2 b z).elim nf fun y=>by rw [s1 _ _ e] at y;cases y
    have nr:b≠rk:=fun z=>nf2 (by rw [z];exact M2.fk)
    have nw:b≠wo:=fun z=>nf2 (by rw [z];exact M2.fw)
    exact n5 _ _ nw (ke _ _ (s3 _ _ e2) nr (.inr fun z=>z.elim nf2 fun y=>by rw [e2] at y;cases y))
  · have e2:=s3 _ _ (ts2 _ _ (s1 _ _ e))
    have e4:=ke _ _ e2 (ne_of e2 M3.rr.at_ (fun z=>nomatch z)) (.inl fun _ z=>nomatch z)
    exact n5 _ _ (ne_of e4 hw4 (fun z=>nomatch z)) e4
  · refine ⟨fun b z=>z.elim (fun f=>dn5 b (own_same (m2.own b f) s3)) fun y=>y.2,.inl m2.me,?_,?_,dx,gr,wo,rk,_,kk',n5 _ _ mw im4,.inl M2.fg,.inl M2.fw,.inl M2.fk,M2.nr,n5 _ _ gw hg4,w5,?_,?_⟩
    · unfold layW
      rw [List.map_append,List.nodup_append]
      refine ⟨m2.nd,by simp,fun x hx y hy=>?_⟩
      have:y=rank:=by simpa using hy
      rw [this]
      exact fun z=>outW_not (l:=lays) (r:=rank) (by have h:=hx;rw [z] at h;exact h)
    · intro y hy
      rcases List.mem_append.mp hy with hy | hy
      · exact m2.ok y hy
      · rw [List.mem_singleton.mp hy];exact ⟨h20,h4⟩
    · refine Paired.snocP (Paired.mapP M3.wp fun _ _ ⟨e,d',e2,fd,nd',hd'⟩=>?_) ⟨rfl,d,rfl,.inr ⟨hd,_,n5 _ _ dw hd4,fun _ y=>nomatch y⟩,dr,n5 _ _ dw hd4⟩
      have e4:=ke _ _ hd' nd' (.inl fun _ z=>nomatch z)
      exact ⟨e,d',e2,.inl fd,nd',n5 _ _ (ne_of e4 hw4 (fun z=>nomatch z)) e4⟩
    · refine (rr4.keep2 (F':=fun b=>F2 b∨(H2 b=none∧OwnO H5 b)) ((n5 _ _ rw_ rr4.at_).trans rr4.at_.symm) (fun b xs _ e=>n5 _ _ (ne_of e hw4 (fun z=>nomatch z)) e) (fun b xs z ex=>z.imp id fun y=>⟨y,_,ex,fun _ y=>nomatch y⟩)).eqv fun p r=>?_
      unfold layW
      constructor
      · rintro (⟨g2,h6,h7⟩ | ⟨rfl,h7⟩)
        · exact ⟨g2,List.mem_append_left _ h6,h7⟩
        · exact ⟨gs,List.mem_append_right _ (List.mem_singleton.mpr rfl),h7⟩
      · rintro ⟨g2,h6,h7⟩
        rcases List.mem_append.mp h6 with h6 | h6
        · exact .inl ⟨g2,h6,h7⟩
        · cases List.mem_singleton.mp h6
          exact .inr ⟨rfl,h7⟩
  · rcases z with z | z
    · exact (ff2 b z).imp id fun y=>fresh_of s1 y
    · exact .inr (fresh b z.1)
theorem set_x {H:Hp} {x p:Addr} {o o2:HO} (hp:H p=none) (hx:∃ u,H x=some u):∃ H',H'=upd (upd H p o) x o2∧H' x=some o2∧H' p=some o∧(∀ b u,b≠x→H b=some u→H' b=some u)∧(∀ b,H' b=none→H b=none):=by
  have px:p≠x:=fun z=>by obtain ⟨u,e⟩:=hx;rw [← z,hp] at e;cases e
  refine ⟨_,rfl,upd_same,by rw [upd_ne px];exact upd_same,fun b u n e=>by rw [upd_ne n];exact isV p hp _ _ e,fun b e=>?_⟩
  by_cases eb:b=x
  · subst eb;rw [upd_same] at e;cases e
  · rw [upd_ne eb] at e
    exact fresh_of (isV p hp) e
theorem pf2 {v:V}:putF (Str.ofString "folded") (V.int 0) [(Str.ofString "ground",v)]=[(Str.ofString "ground",v),(Str.ofString "folded",V.int 0)]:=by
  have h:Str.ofString "ground"≠Str.ofString "folded":=by decide +kernel
  simp only [putF,if_neg h]
theorem pf3 {v w:V}:putF (Str.ofString "worths") w [(Str.ofString "ground",v),(Str.ofString "folded",V.int 0)]=[(Str.ofString "ground",v),(Str.ofString "folded",V.int 0),(Str.ofString "worths",w)]:=by
  have h:Str.ofString "ground"≠Str.ofString "worths":=by decide +kernel
  have h2:Str.ofString "folded"≠Str.ofString "worths":=by decide +kernel
  simp only [putF,if_neg h,if_neg h2]
theorem pf4 {v w r:V}:putF (Str.ofString "ranks") r [(Str.ofString "ground",v),(Str.ofString "folded",V.int 0),(Str.ofString "worths",w)]=[(Str.ofString "ground",v),(Str.ofString "folded",V.int 0),(Str.ofString "worths",w),(Str.ofString "ranks",r)]:=by
  have h:Str.ofString "ground"≠Str.ofString "ranks":=by decide +kernel
  have h2:Str.ofString "folded"≠Str.ofString "ranks":=by decide +kernel
  have h3:Str.ofString "worths"≠Str.ofString "ranks":=by decide +kernel
  simp only [putF,if_neg h,if_neg h2,if_neg h3]
theorem rdp_init0 {x h dx:Addr} {rows:List Row} (MF:MkF K t) (h1:H x=some (.ins t.c_Makes dx [])) (h2:RwsAt H h rows) (h3:TbOk rows) (q:∀ H' F,SameX x H H'→MrAt t H' x F rows [] 0→(∀ b,F b→b=x∨H b=none)→Q .non H') :
    rd_Makes_init K t { nx:=fun _ H'=>Q .non H',rt:=Q } (L2.start ["self","table"] [.ref x,.ref h]) H:=by
  obtain ⟨xs,hx,hp⟩:=h2
  simp only [rd_Makes_init,tDNewT,cDctP,sFld,putF,L2.start,tSeq,tVar,tC,tCons,tNil,tCB,tDNewK,List.map,List.replicate,List.length,List.append,List.cons_append,List.nil_append,List.append_nil,List.getElem?_cons_zero,List.getElem?_cons_succ,Option.some.injEq,exists_eq_left',exists_eq_left,V.int.injEq,V.ref.injEq,V.str.injEq,V.bl.injEq,V.ty.injEq,List.cons.injEq,and_true,true_and,and_assoc,exists_and_left,List.set_cons_zero,List.set_cons_succ,Nat.reduceSub,Nat.reduceAdd,decide_eq_true_eq,Bool.not_eq_true',decide_eq_false_iff_not,Int.reduceToNat,Int.reducePow,Int.reduceNeg,Int.reduceMul,Int.reduceAdd,if_true,ite_true,Bool.false_eq_true,ite_false,if_false]
  refine ⟨xs,hx,rows,hp,by have:=h3.le;omega,fun gr hgr=>?_⟩
  have s1:=isV (o:=HO.dT (dOf rows)) gr hgr
  refine ⟨_,_,_,s1 _ _ h1,MF.cl,MF.g,by decide,?_⟩
  rw [show putF (Str.ofString "ground") (V.ref gr) []=[(Str.ofString "ground",V.ref gr)] from rfl]
  refine ⟨_,_,_,upd_same,MF.cl,MF.f,(by show 1 < 1000;decide),?_⟩
  rw [pf2,upd_upd]
  obtain ⟨H2,eH,x2,g2,n2,f2⟩:=set_x (o:=HO.dT (dOf rows)) (o2:=HO.ins t.c_Makes dx [(Str.ofString "ground",V.ref gr),(Str.ofString "folded",V.int 0)]) hgr ⟨_,h1⟩
  rw [← eH];clear eH
  intro wo hwo
  have s3:=isV (o:=HO.dK []) wo hwo
  refine ⟨_,_,_,s3 _ _ x2,MF.cl,MF.w,(by show 2 < 1000;decide),?_⟩
  rw [pf3]
  obtain ⟨H4,eH,x4,w4,n4,f4⟩:=set_x (o:=HO.dK []) (o2:=HO.ins t.c_Makes dx [(Str.ofString "ground",V.ref gr),(Str.ofString "folded",V.int 0),(Str.ofString "worths",V.ref wo)]) hwo ⟨_,x2⟩
  rw [← eH];clear eH
  intro rk hrk
  have s5:=isV (o:=HO.dT []) rk hrk
  refine ⟨_,_,_,s5 _ _ x4,MF.cl,MF.r,(by show 3 < 1000;decide),?_⟩
  rw [pf4]
  obtain ⟨H6,eH,x6,r6,n6,f6⟩:=set_x (o:=HO.dT []) (o2:=HO.ins t.c_Makes dx [(Str.ofString "ground",V.ref gr),(Str.ofString "folded",V.int 0),(Str.ofString "worths",V.ref wo),(Str.ofString "ranks",V.ref rk)]) hrk ⟨_,x4⟩
  rw [← eH];clear eH
  have gx:gr≠x:=ne_of g2 x2 (fun z=>nomatch z)
  have wx:wo≠x:=ne_of w4 x4 (fun z=>nomatch z)
  have g4:=n4 _ _ gx g2
  have g6:=n6 _ _ gx g4
  have w6:=n6 _ _ wx w4
  have gk:gr≠rk:=fun z=>by rw [z,hrk] at g4;cases g4
  refine q H6 (fun b=>b=x∨b=gr∨b=wo∨b=rk) (fun b o n e=>n6 _ _ n (n4 _ _ n (n2 _ _ n e))) ?_ fun b z=>?_
  · refine ⟨fun b z=>?_,.inl rfl,List.nodup_nil,fun _ h=>(nomatch h),dx,gr,wo,rk,[],[],x6,.inr (.inl rfl),.inr (.inr (.inl rfl)),.inr (.inr (.inr rfl)),gk,g6,w6,.nil,r6,List.nodup_nil,List.nodup_nil,fun _ h=>(nomatch h),fun p r ⟨_,h,_⟩=>(nomatch h)⟩
    rcases z with rfl | rfl | rfl | rfl
    · exact ⟨_,x6,fun _ y=>nomatch y⟩
    · exact ⟨_,g6,fun _ y=>nomatch y⟩
    · exact ⟨_,w6,fun _ y=>nomatch y⟩
    · exact ⟨_,r6,fun _ y=>nomatch y⟩
  · rcases z with rfl | rfl | rfl | rfl
    · exact .inl rfl
    · exact .inr hgr
    · exact .inr (f2 _ hwo)
    · exact .inr (f2 _ (f4 _ hrk))
def kpR (lays:List (Int × List Row)) (i:Nat) (v:V):Prop:=∃ y,lays[i]?=some y∧v=.int (y.2.length:Nat)
theorem kpR_all {lays:List (Int × List Row)} {ys:List V} (hl:ys.length=lays.length) (h:∀ i v,ys[i]?=some v→kpR lays i v):ys=(lays.map fun y=>(y.2.length:Int)).map V.int:=by
  apply List.ext_getElem?
  intro i
  rw [List.getElem?_map,List.getElem?_map]
  by_cases hi:i < ys.length
  · obtain ⟨y,h1,h2⟩:=h i _ (List.getElem?_eq_getElem hi)
    rw [List.getElem?_eq_getElem hi,h1,h2];rfl
  · rw [List.getElem?_eq_none (by omega),List.getElem?_eq_none (by omega)];rfl
theorem rdp_kept0 {m:Addr} {low:Int} {F:Addr→Prop} {g:List Row} {lays:List (Int × List Row)} (MF:MkF K t) (h1:MrAt t H m F g lays low) (hl:lays.length≤200) (q:∀ H',Same H H'→Q (.int ((lays.map fun y=>(y.2.length:Int)).sum)) H') :
    rd_Makes_kept K t { nx:=fun _ H'=>Q .non H',rt:=Q } (L2.start ["self"] [.ref m]) H:=by
  simp only [rd_Makes_kept,tFrzK,tDGet,tFld,cSumL,iDK,cLenT,L2.start,gName,tRet,tVar,tCons,tNil,tCB,tComp,tYes,capV,List.map,List.replicate,List.length,List.append,List.cons_append,List.nil_append,List.append_nil,List.getElem?_cons_zero,List.getElem?_cons_succ,Option.some.injEq,exists_eq_left',exists_eq_left,V.int.injEq,V.ref.injEq,V.str.injEq,V.bl.injEq,V.ty.injEq,List.cons.injEq,and_true,true_and,and_assoc,exists_and_left,List.set_cons_zero,List.set_cons_succ,Nat.reduceSub,Nat.reduceAdd,decide_eq_true_eq,Bool.not_eq_true',decide_eq_false_iff_not,Int.reduceToNat,Int.reducePow,Int.reduceNeg,Int.reduceMul,Int.reduceAdd,if_true,ite_true,Bool.false_eq_true,ite_false,if_false]
  obtain ⟨dx,gr,wo,rk,wk,kk,M⟩:=h1.ex
  have lk:=Paired.length M.wp
  refine ⟨wo,_,M.hw,wk,.inl rfl,fun o=>?_⟩
  have mw:m≠wo:=ne_of M.im M.hw (fun z=>nomatch z)
  have ff:upd H wo (.frz o (.dK wk)) wo=some (.frz o (.dK wk)):=upd_same
  have im:upd H wo (.frz o (.dK wk)) m=some (.ins t.c_Makes dx (mkFs gr low wo rk)):=by rw [upd_ne mw];exact M.im
  have nl:∀ d kvs,H d=some (.dT kvs)→upd H wo (.frz o (.dK wk)) d=some (.dT kvs):=fun d kvs e=>by rw [upd_ne (ne_of e M.hw (fun z=>nomatch z))];exact e
  have bk:∀ H4,Same (upd H wo (.frz o (.dK wk))) H4→Same H (upd H4 wo (.dK wk)):=fun H4 s b u e=>by
    by_cases z:b=wo
    · subst z;rw [upd_same,← M.hw,e]
    · rw [upd_ne z];exact s _ _ (by rw [upd_ne z];exact e)
  generalize upd H wo (.frz o (.dK wk))=H0 at *
  refine ⟨_,_,_,im,MF.cl,MF.w,_,fs_w,wo,rfl,o,wk,ff,fun D hD=>?_⟩
  refine comp_gen (J:=Itk wo o wk) lays.length (by omega) (fun τ=>∃ o1,τ=[o1,some (.ref m)]) (kpR lays) ⟨_,rfl⟩ (fun i H s h=>⟨s _ _ ff,by omega⟩) (fun H s=>⟨s _ _ ff,by omega⟩) hD ?_ ?_
  · rintro j v τ H4 H5 ⟨o1,rfl⟩ s4 hj ⟨rfl,k0,v0,hk0,rfl⟩
    obtain ⟨y,hy,e1,d,e2,fd,nd,hd⟩:=Paired.getP M.wp hk0
    simp only at e1 e2
    subst e1 e2
    obtain ⟨d',v1,_,_,hd'⟩:=wk_get M.wp h1.nd (List.mem_of_getElem? hy)
    have ln:(dOf y.2).length=y.2.length:=by rw [dOf_nd (h1.ok y (List.mem_of_getElem? hy)).2.nd,List.length_map]
    simp only [kV,tDGet,tFld,cSumL,iDK,cLenT,L2.start,gName,tRet,tVar,tCons,tNil,tCB,tComp,tYes,capV,List.map,List.replicate,List.length,List.append,List.cons_append,List.nil_append,List.append_nil,List.getElem?_cons_zero,List.getElem?_cons_succ,Option.some.injEq,exists_eq_left',exists_eq_left,V.int.injEq,V.ref.injEq,V.str.injEq,V.bl.injEq,V.ty.injEq,List.cons.injEq,and_true,true_and,and_assoc,exists_and_left,List.set_cons_zero,List.set_cons_succ,Nat.reduceSub,Nat.reduceAdd,decide_eq_true_eq,Bool.not_eq_true',decide_eq_false_iff_not,Int.reduceToNat,Int.reducePow,Int.reduceNeg,Int.reduceMul,Int.reduceAdd,if_true,ite_true,Bool.false_eq_true,ite_false,if_false]
    exact ⟨_,_,_,s4 _ _ im,MF.cl,MF.w,_,fs_w,wo,rfl,.ref d',.inl ⟨wk,.inl y.1,.inr ⟨o,s4 _ _ ff⟩,rfl,v1.symm⟩,d',rfl,_,s4 _ _ (nl _ _ hd'),⟨_,rfl⟩,⟨y,hy,by rw [ln]⟩,Same.refl _⟩
  · intro ys H4 hlz hR s4 hq
    have ey:=kpR_all hlz hR
    subst ey
    exact ⟨_,SqL.of hq,s4 _ _ ff,q _ (bk H4 s4)⟩
section
variable {g g':List Row} {l l2:List (Int × List Row)} {p:Pl} {rank low w w':Int} {y y':Int × List Row}
def Top (l:List (Int × List Row)) (p:Pl) (rank:Int) (y:Int × List Row) (w:Int):Prop:=y∈l∧lastW y.2 p=some w∧y.1 < rank∧∀ z∈l,z.1 < rank→lastW z.2 p≠none→z.1≤y.1
theorem seenW_cases (g:List Row) (ok:∀ y∈l,0≤y.1) (p:Pl) (rank:Int):(∃ y w,Top l p rank y w∧seenW g l p rank=w)∨((∀ y∈l,y.1 < rank→lastW y.2 p=none)∧seenW g l p rank=(lastW g p).getD 0):=by
  unfold seenW
  rcases seenL_max p rank l (-1,(lastW g p).getD 0) with ⟨e1,e2⟩ | ⟨y,hy,w,e1,e2,e3,e4,e5⟩
  · exact .inr ⟨fun y hy hr=>e2 y hy (by have:=ok y hy;show (-1:Int) < y.1;omega) hr,by rw [e1]⟩
  · exact .inl ⟨y,w,⟨hy,e1,e2,e5⟩,by rw [e4]⟩
theorem Top.uniq (nd:(l.map (·.1)).Nodup) (h1:Top l p rank y w) (h2:Top l p rank y' w'):w=w':=by
  have a:=h1.2.2.2 y' h2.1 h2.2.2.1 (by rw [h2.2.1];exact fun z=>nomatch z)
  have b:=h2.2.2.2 y h1.1 h1.2.2.1 (by rw [h1.2.1];exact fun z=>nomatch z)
  have e:y=y':=nd_inj nd h1.1 h2.1 (by omega)
  subst e
  exact Option.some.inj (h1.2.1.symm.trans h2.2.1)
theorem seenW_top (g:List Row) (ok:∀ y∈l,0≤y.1) (nd:(l.map (·.1)).Nodup) (h:Top l p rank y w):seenW g l p rank=w:=by
  rcases seenW_cases g ok p rank with ⟨y',w',h',e⟩ | ⟨h',e⟩
  · rw [e];exact h'.uniq nd h
  · have:=h' y h.1 h.2.2.1;rw [h.2.1] at this;cases this
theorem seenW_no (g:List Row) (ok:∀ y∈l,0≤y.1) (h:∀ y∈l,y.1 < rank→lastW y.2 p=none):seenW g l p rank=(lastW g p).getD 0:=by
  rcases seenW_cases g ok p rank with ⟨y',w',h',e⟩ | ⟨h',e⟩
  · have:=h y' h'.1 h'.2.2.1;rw [h'.2.1] at this;cases this
  · exact e
theorem seen_ext (ok:∀ y∈l,0≤y.1) (nd:(l.map (·.1)).Nodup) (ok2:∀ y∈l2,0≤y.1) (nd2:(l2.map (·.1)).Nodup) (h:∀ y,y.1 < rank→(y∈l↔y∈l2)):seenW g l p rank=seenW g l2 p rank:=by
  rcases seenW_cases g ok p rank with ⟨y,w,t,e⟩ | ⟨t,e⟩
  · rw [e]
    exact (seenW_top g ok2 nd2 ⟨(h y t.2.2.1).mp t.1,t.2.1,t.2.2.1,fun z hz zr zn=>t.2.2.2 z ((h z zr).mpr hz) zr zn⟩).symm
  · rw [e]
    exact (seenW_no g ok2 fun y hy hr=>t y ((h y hr).mpr hy) hr).symm
theorem seen_fold (ok:∀ y∈l,0≤y.1) (nd:(l.map (·.1)).Nodup) (i1:(lastW g' p).getD 0=seenW g l p low) (h:low≤rank):seenW g' (l.filter fun y=>decide (low≤y.1)) p rank=seenW g l p rank:=by
  have okf:∀ y∈l.filter fun y=>decide (low≤y.1),0≤y.1:=fun y hy=>ok y (List.mem_filter.mp hy).1
  have fi:∀ z∈l,low≤z.1→z∈l.filter fun y=>decide (low≤y.1):=fun z hz hl=>List.mem_filter.mpr ⟨hz,decide_eq_true hl⟩
  rcases seenW_cases g' okf p rank with ⟨y,w,t,e⟩ | ⟨t,e⟩
  · rw [e]
    have ly:low≤y.1:=of_decide_eq_true (List.mem_filter.mp t.1).2
    refine (seenW_top g ok nd ⟨(List.mem_filter.mp t.1).1,t.2.1,t.2.2.1,fun z hz zr zn=>?_⟩).symm
    rcases Int.lt_or_le z.1 low with hl | hl
    · omega
    · exact t.2.2.2 z (fi z hz hl) zr zn
  · rw [e,i1]
    rcases seenW_cases g ok p rank with ⟨y,w,t2,e2⟩ | ⟨t2,e2⟩
    · rw [e2]
      have ly:y.1 < low:=by
        rcases Int.lt_or_le y.1 low with hl | hl
        · exact hl
        · have:=t y (fi y t2.1 hl) t2.2.2.1
          rw [t2.2.1] at this;cases this
      exact seenW_top g ok nd ⟨t2.1,t2.2.1,ly,fun z hz zr zn=>t2.2.2.2 z hz (by omega) zn⟩
    · rw [e2]
      exact seenW_no g ok fun y hy hr=>t2 y hy (by omega)
theorem layW_low {gs:List Row} (h:low≤rank):((layW l rank gs).filter fun y=>decide (low≤y.1))=layW (l.filter fun y=>decide (low≤y.1)) rank gs:=by
  unfold layW
  rw [List.filter_append,List.filter_filter,List.filter_filter]
  have e:List.filter (fun y:Int × List Row=>decide (low≤y.1)) [(rank,gs)]=[(rank,gs)]:=by simp [h]
  rw [e]
  congr 1
  exact List.filter_congr fun y _=>Bool.and_comm _ _
end
theorem rdp_Makes_init {x h dx:Addr} {rows:List Row} (MF:MkF K t) (h1:H x=some (.ins t.c_Makes dx [])) (h2:RwsAt H h rows) (h3:TbOk rows) (q:∀ H' F,SameX x H H'→MfAt t H' x F rows [] 0→(∀ b,F b→b=x∨H b=none)→Q .non H') :
    rd_Makes_init K t { nx:=fun _ H'=>Q .non H',rt:=Q } (L2.start ["self","table"] [.ref x,.ref h]) H :=
  rdp_init0 MF h1 h2 h3 fun H' F s m f=>q H' F s ⟨List.nodup_nil,fun _ h=>(nomatch h),rows,m,h3.up.nd,fun r hr=>(h3.nm r hr).2.2,fun p=>rfl⟩ f
theorem rdp_seen1 {E:XK} {m p:Addr} {rank low:Int} {F:Addr→Prop} {g:List Row} {lays:List (Int × List Row)} {q0:Pl} (MF:MkF K t) (h1:MfAt t H m F g lays low) (h2:rB rank) (h3:low≤rank) (h4:H p=some (.tup [.str q0.1,.int q0.2])) (h5:isName q0.1=true) (q:∀ H',Same H H'→Q (.int (seenW g lays q0 rank)) H') :
    rd_Makes_seen K t E { nx:=fun _ H'=>Q .non H',rt:=Q } (L2.start ["self","place","rank","ranks","below"] [.ref m,.ref p,.int rank]) H:=by
  obtain ⟨g',M,_,_,i1⟩:=h1.ex
  refine rdp_seen0 MF M h2 h3 h4 fun H' s=>?_
  rw [seen_fold (fun y hy=>(h1.ok y hy).1) h1.nd (i1 q0) h3]
  exact q H' s
theorem rdp_lay1 {E:XK} {m gv:Addr} {rank low:Int} {F:Addr→Prop} {g:List Row} {lays:List (Int × List Row)} {gs:List Row} (MF:MkF K t) (h1:MfAt t H m F g lays low) (h2:rB rank) (h3:low≤rank) (h4:RwsAt H gv gs) (hgv:¬ F gv) (h5:GfOk gs) (h6:lays.length≤200) (q:∀ H' F',(∀ b o,¬ F b→H b=some o→H' b=some o)→(∀ b zs,H b=some (.tup zs)→H' b=some (.tup zs))→MfAt t H' m F' g (layW lays rank gs) low→(∀ b,F' b→F b∨H b=none)→Q .non H') :
    rd_Makes_lay K t E { nx:=fun _ H'=>Q .non H',rt:=Q } (L2.start ["self","rank","gifts","worths","place"] [.ref m,.int rank,.ref gv]) H:=by
  obtain ⟨g',M,gn,gz,i1⟩:=h1.ex
  refine rdp_lay0 MF M h2 h3 h2.1 h4 hgv h5 (Nat.le_trans (List.length_filter_le _ _) h6) fun H' F' fr ts m' ff=>q H' F' fr ts ?_ ff
  have ok2:∀ y∈layW lays rank gs,0≤y.1∧GfOk y.2:=fun y hy=>by
    rcases List.mem_append.mp hy with hy | hy
    · exact h1.ok y (List.mem_filter.mp hy).1
    · rw [List.mem_singleton.mp hy];exact ⟨h2.1,h5⟩
  have nd2:((layW lays rank gs).map (·.1)).Nodup:=by
    unfold layW
    rw [List.map_append,List.nodup_append]
    refine ⟨List.Nodup.sublist (List.Sublist.map _ List.filter_sublist) h1.nd,by simp,fun x hx y hy=>?_⟩
    have:y=rank:=by simpa using hy
    rw [this]
    exact fun z=>outW_not (l:=lays) (r:=rank) (by have h:=hx;rw [z] at h;exact h)
  refine ⟨nd2,ok2,g',by rw [layW_low h3];exact m',gn,gz,fun p=>?_⟩
  rw [i1 p]
  refine seen_ext (fun y hy=>(h1.ok y hy).1) h1.nd (fun y hy=>(ok2 y hy).1) nd2 fun y hy=>?_
  constructor
  · intro h
    exact List.mem_append_left _ (List.mem_filter.mpr ⟨h,decide_eq_true fun z=>by omega⟩)
  · intro h
    rcases List.mem_append.mp h with h | h
    · exact (List.mem_filter.mp h).1
    · rw [List.mem_singleton.mp h] at hy
      have hy:rank < low:=hy
      omega
theorem rdp_Makes_kept {m:Addr} {F:Addr→Prop} {g:List Row} {lays:List (Int × List Row)} {low:Int} (MF:MkF K t) (h1:MfAt t H m F g lays low) (hl:lays.length≤200) (q:∀ H',Same H H'→Q (.int (keptF lays low)) H') :
    rd_Makes_kept K t { nx:=fun _ H'=>Q .non H',rt:=Q } (L2.start ["self"] [.ref m]) H:=by
  obtain ⟨g',M,_⟩:=h1.ex
  exact rdp_kept0 MF M (Nat.le_trans (List.length_filter_le _ _) hl) q
theorem papp {α β:Type} {F:α→β→Prop}:∀ {a:List α} {b:List β} {c:List α} {d:List β},Paired F a b→Paired F c d→Paired F (a ++ c) (b ++ d)
  | _,_,_,_,.nil,h=>h
  | _,_,_,_,.cons h r,h2=>.cons h (papp r h2)
def tfR (rows:List Row) (i:Nat) (ys:List V) (H:Hp):Prop:=Paired (PrAt H) ys (rows.take i)
theorem pr_ts {H H':Hp} {v:V} {q:Row} (s:TSame H H') (h:PrAt H v q):PrAt H' v q:=let ⟨r,p,e,e1,e2⟩:=h;⟨r,p,e,s _ _ e1,s _ _ e2⟩
theorem rdp_tf2 {m l3:Addr} {rank low:Int} {F:Addr→Prop} {g:List Row} {lays:List (Int × List Row)} {ys:List V} {qs:List Pl} {E:XK} (h1:MfAt t H m F g lays low) (h2:rB rank) (h3:low≤rank) (hl:H l3=some (.lst ys)) (hy:Paired (PlV H) ys qs) (nm:∀ q∈qs,isName q.1=true) (le:qs.length≤62)
    (q:∀ l out H',Same H H'→H l=none→RwsAt H' l out→IsTab (qs.map fun q=>(q,seenW g lays q rank)) out→Q (.ref l) H') :
    rd_Makes_table_for_2 K t E { nx:=fun _ H'=>Q .non H',rt:=Q } [some (.ref m),some (.int rank),some (.ref l3)] H:=by
  have ly:=Paired.length hy
  obtain ⟨rows,er⟩:∃ rows,rows=qs.map fun q=>(q,seenW g lays q rank):=⟨_,rfl⟩
  have lr:rows.length=qs.length:=by rw [er,List.length_map]
  rw [← er] at q
  simp only [rd_Makes_table_for_2,sp_Makes_seen,sp_table_of,tMeth,L2.start,gName,tRet,tVar,tTup,tCons,tNil,tCall,tComp,tYes,capV,iList,List.map,List.replicate,List.length,List.append,List.cons_append,List.nil_append,List.append_nil,List.getElem?_cons_zero,List.getElem?_cons_succ,Option.some.injEq,exists_eq_left',exists_eq_left,V.int.injEq,V.ref.injEq,V.str.injEq,V.bl.injEq,V.ty.injEq,List.cons.injEq,and_true,true_and,and_assoc,exists_and_left,List.set_cons_zero,List.set_cons_succ,Nat.reduceSub,Nat.reduceAdd,decide_eq_true_eq,Bool.not_eq_true',decide_eq_false_iff_not,Int.reduceToNat,Int.reducePow,Int.reduceNeg,Int.reduceMul,Int.reduceAdd,if_true,ite_true,Bool.false_eq_true,ite_false,if_false]
  refine ⟨⟨_,SqL.of hl⟩,fun D hD=>?_⟩
  refine comp_inv (J:=Itl K l3) ys.length (by omega) (fun τ=>∃ o,τ=[o,some (.ref m),some (.int rank)]) (tfR rows) (fun i ys H H' s h=>Paired.mapP h fun _ _ z=>pr_ts s z) ⟨_,rfl⟩ .nil (fun i H s h=>⟨_,_,SqL.of (s _ _ hl),List.getElem?_eq_getElem h⟩) (fun H s=>⟨_,SqL.of (s _ _ hl),Nat.le_refl _⟩) hD ?_ ?_
  · rintro i v τ us H4 H5 ⟨o,rfl⟩ s4 hi hR ⟨rfl,hv⟩
    have hv:=hv _ (SqL.of (s4 _ _ hl))
    obtain ⟨q0,hq0,p,rfl,hp⟩:=Paired.getP hy hv
    have hm5:=h1.same s4
    obtain ⟨dx,fs,i1,i2,i3,i4,i5,i6⟩:=hm5.ins
    simp only [tMeth,L2.start,gName,tRet,tVar,tTup,tCons,tNil,tCall,tComp,tYes,capV,iList,List.map,List.replicate,List.length,List.append,List.cons_append,List.nil_append,List.append_nil,List.getElem?_cons_zero,List.getElem?_cons_succ,Option.some.injEq,exists_eq_left',exists_eq_left,V.int.injEq,V.ref.injEq,V.str.injEq,V.bl.injEq,V.ty.injEq,List.cons.injEq,and_true,true_and,and_assoc,exists_and_left,List.set_cons_zero,List.set_cons_succ,Nat.reduceSub,Nat.reduceAdd,decide_eq_true_eq,Bool.not_eq_true',decide_eq_false_iff_not,Int.reduceToNat,Int.reducePow,Int.reduceNeg,Int.reduceMul,Int.reduceAdd,if_true,ite_true,Bool.false_eq_true,ite_false,if_false]
    refine ⟨_,_,i1,i3,F,g,lays,low,hm5,h2,q0,s4 _ _ hp,nm q0 (List.mem_of_getElem? hq0),fun _ H6 s6=>⟨by decide,fun r hr=>⟨⟨_,rfl⟩,?_,s6.trans (isV r hr)⟩⟩,fun z=>absurd z (by omega)⟩
    have tk:rows.take (i + 1)=rows.take i ++ [(q0,seenW g lays q0 rank)]:=by rw [List.take_add_one,er,List.getElem?_map,hq0];rfl
    unfold tfR
    rw [tk]
    exact Paired.snocP (Paired.mapP hR fun _ _ z=>pr_same (s6.trans (isV r hr)) z) ⟨r,p,rfl,upd_same,(s4.trans (s6.trans (isV r hr))) _ _ hp⟩
  · intro us H4 hlu hR s4 hq
    unfold tfR at hR
    rw [List.take_of_length_le (by omega)] at hR
    have ld:=len_dOf rows
    refine ⟨rows,⟨us,hq,hR⟩,by omega,by omega,fun l out H' s hl2 ho ht=>q l out H' (s4.trans s) (fresh_of s4 hl2) ho ht⟩
theorem last_map {f:Pl→Int} {p:Pl}:∀ {qs:List Pl},lastW (qs.map fun q=>(q,f q)) p=if p∈qs then some (f p) else none
  | []=>rfl
  | q :: qs=>by
    rw [List.map_cons,lastW,last_map (qs:=qs)]
    by_cases h:p∈qs
    · rw [if_pos h,if_pos (List.mem_cons_of_mem _ h)];rfl
    · rw [if_neg h]
      by_cases e:q=p
      · subst e;rw [if_pos rfl,if_pos List.mem_cons_self];rfl
      · rw [if_neg e,if_neg (fun z=>(List.mem_cons.mp z).elim (fun y=>e y.symm) h)];rfl
theorem ps_zero {ps:List Pl} {g:List Row} {l:List (Int × List Row)} {p:Pl} {rank:Int} (h:PsOk ps g l) (ok:∀ y∈l,0≤y.1) (n:p ∉ ps):seenW g l p rank=0:=by
  rw [seenW_no g ok fun y hy _=>last_none fun r hr e=>n (by rw [← e];exact h.ly y hy r hr),last_none fun r hr e=>n (by rw [← e];exact h.gr r hr)]
  rfl
theorem keys_pl {H:Hp}:∀ {ys:List V} {kvs:List (List Key × V)} {qs:List Pl},Paired (KyAt H) ys kvs→kvs.map (·.1)=qs.map plKey→Paired (PlV H) ys qs
  | _,_,[],.nil,_=>.nil
  | _,_,_ :: _,.nil,e=>by simp at e
  | _,_,[],.cons _ _,e=>by simp at e
  | _,_,q :: qs,.cons ⟨p,e1,e2⟩ r,e=>by
    rw [List.map_cons,List.map_cons] at e
    obtain ⟨h1,h2⟩:=List.cons.inj e
    exact .cons ⟨p,e1,by rw [h1] at e2;exact e2⟩ (keys_pl r h2)
theorem rdp_tf0 {E:XK} {m:Addr} {rank low:Int} {F:Addr→Prop} {g:List Row} {lays:List (Int × List Row)} {ps:List Pl} (MF:MkF K t) (h1:MfAt t H m F g lays low) (h2:rB rank) (h3:low≤rank) (h4:PsOk ps g lays) (h5:lays.length≤200) (q:∀ l rows H',Same H H'→H l=none→RwsAt (Hid F H') l rows→TabFor g lays rank rows→Q (.ref l) H') :
    rd_Makes_table_for K t E { nx:=fun _ H'=>Q .non H',rt:=Q } (L2.start ["self","rank","places"] [.ref m,.int rank]) H:=by
  obtain ⟨g',M,gn,gz,i1⟩:=h1.ex
  have okl:∀ y∈lays,0≤y.1:=fun y hy=>(h1.ok y hy).1
  obtain ⟨dx,gr,wo,rk,wk,kk,MI⟩:=M.ex
  -- the places
  have e1:(dOf g').map (·.1)=(g'.map (·.1)).map plKey:=by rw [dOf_nd gn,List.map_map,List.map_map];rfl
  obtain ⟨ks,e2⟩:∃ ks:List Pl,kk.map (·.1)=ks.map plKey:=by
    have:=MI.rr.ls
    clear MI M
    induction kk with
    | nil=>exact ⟨[],rfl⟩
    | cons kv kk ih =>
      obtain ⟨ks,e⟩:=ih fun x hx=>this x (List.mem_cons_of_mem _ hx)
      obtain ⟨p,a,rs,rfl,_⟩:=this kv List.mem_cons_self
      exact ⟨p :: ks,by rw [List.map_cons,List.map_cons,e]⟩
  have kn:ks.Nodup:=nodup_map_inj (f:=plKey) (by rw [← e2];exact MI.rr.nk)
  have gp:∀ p∈g'.map (·.1),p∈ps:=fun p hp=>Classical.byContradiction fun n=>by
    obtain ⟨r,hr,rfl⟩:=List.mem_map.mp hp
    have z:=i1 r.1
    rw [(last_nd (w:=r.2) gn).mpr hr,ps_zero h4 okl n] at z
    exact gz r hr z
  have kp:∀ p∈ks,p∈ps:=fun p hp=>by
    have:plKey p∈kk.map (·.1):=by rw [e2];exact List.mem_map_of_mem hp
    obtain ⟨kv,hkv,e⟩:=List.mem_map.mp this
    obtain ⟨p',a,rs,rfl,_,_,_,hn,hi⟩:=MI.rr.ls kv hkv
    have ep:p'=p:=plKey_inj e
    subst ep
    obtain ⟨r,hr⟩:∃ r,r∈rs:=by
      cases rs with
      | nil=>exact absurd rfl hn
      | cons r _=>exact ⟨r,List.mem_cons_self⟩
    obtain ⟨gs,hg,hp2⟩:=(hi r).mp hr
    obtain ⟨x,hx,rfl⟩:=List.mem_map.mp hp2
    exact h4.ly _ (List.mem_filter.mp hg).1 x hx
  have l1:=nd_len_le gn gp
  have l2:=nd_len_le kn kp
  have l4:=h4.le
  simp only [rd_Makes_table_for,sp_Makes_heed_fold,rCat,tFld,tMeth,cLstD,L2.start,tSeq,tAsg,gName,tRet,tDrop,tOp,tVar,tTup,tCons,tNil,tCB,tCall,tComp,tYes,capV,iList,rCat,List.map,List.replicate,List.length,List.append,List.cons_append,List.nil_append,List.append_nil,List.getElem?_cons_zero,List.getElem?_cons_succ,Option.some.injEq,exists_eq_left',exists_eq_left,V.int.injEq,V.ref.injEq,V.str.injEq,V.bl.injEq,V.ty.injEq,List.cons.injEq,and_true,true_and,and_assoc,exists_and_left,List.set_cons_zero,List.set_cons_succ,Nat.reduceSub,Nat.reduceAdd,decide_eq_true_eq,Bool.not_eq_true',decide_eq_false_iff_not,Int.reduceToNat,Int.reducePow,Int.reduceNeg,Int.reduceMul,Int.reduceAdd,if_true,ite_true,Bool.false_eq_true,ite_false,if_false]
  refine ⟨_,_,MI.im,mk_no (by decide +kernel),_,_,MI.im,_,fs_f,h2,fun _ H1 s1=>?_,fun z=>absurd z (by omega)⟩
  have MI1:=MI.keep M.me fun b o _ e=>s1 _ _ e
  refine ⟨_,_,_,MI1.im,MF.cl,MF.g,_,fs_g,gr,rfl,_,MI1.hg,fun a1 ys1 ha1 hy1=>?_⟩
  obtain ⟨H2,eH,s2,q2⟩:=new_ob (o:=HO.lst ys1) ha1
  rw [← eH];clear eH
  have MI2:=MI1.keep M.me fun b o _ e=>s2 _ _ e
  refine ⟨_,_,_,MI2.im,MF.cl,MF.r,_,fs_r,rk,rfl,_,MI2.rr.at_,fun a2 ys2 ha2 hy2=>?_⟩
  obtain ⟨H3,eH,s3,q3⟩:=new_ob (o:=HO.lst ys2) ha2
  rw [← eH];clear eH
  have p1:Paired (PlV H3) ys1 (g'.map (·.1)):=keys_pl (Paired.mapP hy1 fun _ _ ⟨p,e,h⟩=>⟨p,e,(s2.trans s3) _ _ h⟩) e1
  have p2:Paired (PlV H3) ys2 ks:=keys_pl (Paired.mapP hy2 fun _ _ ⟨p,e,h⟩=>⟨p,e,s3 _ _ h⟩) e2
  have n1:=Paired.length p1
  have n2:=Paired.length p2
  refine ⟨_,s3 _ _ q2,_,q3,Nat.le_trans (by omega:_≤1000) (by decide),fun a3 ha3=>?_⟩
  obtain ⟨H4,eH,s4,q4⟩:=new_ob (o:=HO.lst (ys1 ++ ys2)) ha3
  rw [← eH];clear eH
  have S4:=s1.trans (s2.trans (s3.trans s4))
  have qin:∀ p∈g'.map (·.1) ++ ks,p∈ps:=fun p hp=>(List.mem_append.mp hp).elim (gp p) (kp p)
  refine rdp_tf2 (qs:=g'.map (·.1) ++ ks) (h1.same S4) h2 h3 q4 (papp (Paired.mapP p1 fun _ _ ⟨p,e,h⟩=>⟨p,e,s4 _ _ h⟩) (Paired.mapP p2 fun _ _ ⟨p,e,h⟩=>⟨p,e,s4 _ _ h⟩)) (fun p hp=>h4.nm p (qin p hp)) (by rw [List.length_append];omega) fun l out H' s hl ho ht=>?_
  have own4:=h1.own
  have nF:∀ b o,H' b=some o→(∀ zs,o≠.tup zs→¬ F b)→True:=fun _ _ _ _=>trivial
  have nt:∀ b zs,H' b=some (.tup zs)→¬ F b:=fun b zs e f=>by
    obtain ⟨o,e1,n⟩:=M.own b f
    have:=(S4.trans s) _ _ e1
    rw [e] at this
    exact n zs (Option.some.inj this).symm
  have nl:¬ F l:=fun f=>by obtain ⟨o,e⟩:=own4 l f;rw [S4 _ _ e] at hl;cases hl
  refine q l out H' (S4.trans s) (fresh_of S4 hl) ?_ ⟨ht.1,fun p w=>?_⟩
  · obtain ⟨xs,hx,hp⟩:=ho
    exact ⟨xs,hid_of nl hx,Paired.mapP hp fun _ _ ⟨r,p,e,f1,f2⟩=>⟨r,p,e,hid_of (nt _ _ f1) f1,hid_of (nt _ _ f2) f2⟩⟩
  · rw [ht.2 p w,last_map]
    by_cases hp:p∈g'.map (·.1) ++ ks
    · rw [if_pos hp]
      exact ⟨fun z=>⟨Option.some.inj z.1,z.2⟩,fun z=>⟨by rw [z.1],z.2⟩⟩
    · rw [if_neg hp]
      refine ⟨fun z=>(nomatch z.1),fun z=>absurd ?_ z.2⟩
      rw [List.mem_append,not_or] at hp
      rw [← z.1,← seen_fold okl h1.nd (i1 p) h3,seenW_no g' (fun y hy=>okl y (List.mem_filter.mp hy).1) fun y hy hr=>?_,last_none fun r hr e=>hp.1 (by rw [← e];exact List.mem_map_of_mem hr)]
      · rfl
      · refine last_none fun r hr2 e=>hp.2 ?_
        have hh:hasR (lays.filter fun y=>decide (low≤y.1)) p y.1:=⟨y.2,hy,by rw [← e];exact List.mem_map_of_mem hr2⟩
        have:=MI.rr.al p y.1 hh
        rw [e2] at this
        obtain ⟨p',hp',e3⟩:=List.mem_map.mp this
        rw [← plKey_inj e3];exact hp'
theorem pf_f {gr wo rk:Addr} {low rank:Int}:putF (Str.ofString "folded") (V.int rank) (mkFs gr low wo rk)=mkFs gr rank wo rk:=by
  have h:Str.ofString "ground"≠Str.ofString "folded":=by decide +kernel
  simp only [mkFs,putF,if_neg h,if_true]
theorem pf_g {gr gr2 wo rk:Addr} {low:Int}:putF (Str.ofString "ground") (V.ref gr2) (mkFs gr low wo rk)=mkFs gr2 low wo rk:=by
  simp only [mkFs,putF,if_true]
theorem MrIn.setm {m:Addr} {F F2:Addr→Prop} {g g2:List Row} {l:List (Int × List Row)} {low low2:Int} {dx gr gr2 wo rk:Addr} {wk:List (Key × V)} {kk:List (List Key × V)} (h:MrIn t H m F g l low dx gr wo rk wk kk) (ff:∀ b,F b→F2 b) (hp:H gr2=some (.dT (dOf g2))) (f2:F2 gr2) (n2:gr2≠rk):MrIn t (upd H m (.ins t.c_Makes dx (mkFs gr2 low2 wo rk))) m F2 g2 l low2 dx gr2 wo rk wk kk:=by
  have n:∀ b o,H b=some o→(∀ C d fs,o≠.ins C d fs)→upd H m (.ins t.c_Makes dx (mkFs gr2 low2 wo rk)) b=some o:=fun b o e ne=>by
    rw [upd_ne (fun z=>by subst z;rw [h.im] at e;exact ne _ _ _ (Option.some.inj e).symm)];exact e
  exact ⟨upd_same,f2,ff _ h.fw,ff _ h.fk,n2,n _ _ hp (fun _ _ _ z=>nomatch z),n _ _ h.hw (fun _ _ _ z=>nomatch z),Paired.mapP h.wp fun _ _ ⟨e,d,e2,fd,nd,hd⟩=>⟨e,d,e2,ff _ fd,nd,n _ _ hd (fun _ _ _ z=>nomatch z)⟩,
    h.rr.keep2 (by rw [n _ _ h.rr.at_ (fun _ _ _ z=>nomatch z),h.rr.at_]) (fun b xs _ e=>n _ _ e (fun _ _ _ z=>nomatch z)) (fun b _ z _=>ff b z)⟩
def foI (t:Adr) (m L:Addr) (rank:Int) (g':List Row) (l':List (Int × List Row)) (low:Int) (lo:List Int) (F:Addr→Prop) (H:Hp) (i:Nat) (σ:St) (H':Hp):Prop:=(∃ o3,σ=[some (.ref m),some (.int rank),some (.ref L),o3])∧∃ F',MrAt t H' m F' g' (l'.filter fun y=>decide (y.1 ∉ lo.take i)) low∧(∀ b o,¬ F b→H b=some o→H' b=some o)∧(∀ b zs,H b=some (.tup zs)→H' b=some (.tup zs))∧(∀ b,F' b→F b∨H b=none)
theorem rdp_fold2 {E:XK} {m L:Addr} {rank low:Int} {F:Addr→Prop} {g':List Row} {l':List (Int × List Row)} {lo:List Int} {o3:Option V} (MF:MkF K t) (h1:MrAt t H m F g' l' low) (hL:H L=some (.lst (lo.map V.int))) (nL:¬ F L)
    (q:∀ H' F',(∀ b o,¬ F b→H b=some o→H' b=some o)→(∀ b zs,H b=some (.tup zs)→H' b=some (.tup zs))→MrAt t H' m F' g' (l'.filter fun y=>decide (y.1 ∉ lo)) rank→(∀ b,F' b→F b∨H b=none)→Q .non H') :
    rd_Makes_fold_2 K t E { nx:=fun _ H'=>Q .non H',rt:=Q } [some (.ref m),some (.int rank),some (.ref L),o3] H:=by
  simp only [rd_Makes_fold_2,sp_Makes_take_away,sFld,tMeth,putF,L2.start,tSeq,gName,tDrop,tVar,tCons,tNil,tFor,iList,List.map,List.replicate,List.length,List.append,List.cons_append,List.nil_append,List.append_nil,List.getElem?_cons_zero,List.getElem?_cons_succ,Option.some.injEq,exists_eq_left',exists_eq_left,V.int.injEq,V.ref.injEq,V.str.injEq,V.bl.injEq,V.ty.injEq,List.cons.injEq,and_true,true_and,and_assoc,exists_and_left,List.set_cons_zero,List.set_cons_succ,Nat.reduceSub,Nat.reduceAdd,decide_eq_true_eq,Bool.not_eq_true',decide_eq_false_iff_not,Int.reduceToNat,Int.reducePow,Int.reduceNeg,Int.reduceMul,Int.reduceAdd,if_true,ite_true,Bool.false_eq_true,ite_false,if_false]
  refine ⟨⟨_,SqL.of hL⟩,loop_list (lo.map V.int) (foI t m L rank g' l' low lo F H) ⟨⟨_,rfl⟩,F,by rw [show (l'.filter fun y=>decide (y.1 ∉ lo.take 0))=l' from List.filter_eq_self.mpr fun y _=>by simp];exact h1,fun _ _ _ e=>e,fun _ _ e=>e,fun _ z=>.inl z⟩ (fun i σ H' ⟨_,_,_,fr,_⟩=>SqL.of (fr _ _ nL hL)) ?_ ?_⟩
  · rintro i u σ H' hu ⟨⟨o3,rfl⟩,F',M,fr,ts,ff⟩
    rw [List.getElem?_map] at hu
    obtain ⟨r,hr,rfl⟩:=Option.map_eq_some_iff.mp hu
    obtain ⟨dx,gr,wo,rk,wk,kk,MI⟩:=M.ex
    simp only [sFld,tMeth,putF,L2.start,tSeq,gName,tDrop,tVar,tCons,tNil,tFor,iList,List.map,List.replicate,List.length,List.append,List.cons_append,List.nil_append,List.append_nil,List.getElem?_cons_zero,List.getElem?_cons_succ,Option.some.injEq,exists_eq_left',exists_eq_left,V.int.injEq,V.ref.injEq,V.str.injEq,V.bl.injEq,V.ty.injEq,List.cons.injEq,and_true,true_and,and_assoc,exists_and_left,List.set_cons_zero,List.set_cons_succ,Nat.reduceSub,Nat.reduceAdd,decide_eq_true_eq,Bool.not_eq_true',decide_eq_false_iff_not,Int.reduceToNat,Int.reducePow,Int.reduceNeg,Int.reduceMul,Int.reduceAdd,if_true,ite_true,Bool.false_eq_true,ite_false,if_false]
    refine ⟨_,_,MI.im,mk_no (by decide +kernel),F',g',_,low,M,fun H2 F2 fr2 ts2 m2 ff2 fs2=>⟨⟨_,rfl⟩,F2,?_,fun b o n e=>?_,fun b zs e=>ts2 _ _ (ts _ _ e),fun b z=>?_⟩⟩
    · have e:outW (l'.filter fun y=>decide (y.1 ∉ lo.take i)) r=l'.filter fun y=>decide (y.1 ∉ lo.take (i + 1)):=by
        unfold outW
        rw [List.filter_filter,List.take_add_one,hr]
        refine List.filter_congr fun y _=>?_
        rw [Bool.eq_iff_iff]
        simp only [Bool.and_eq_true,decide_eq_true_eq,List.mem_append,not_or,Option.toList_some,List.mem_singleton]
        exact ⟨fun z=>⟨z.2,z.1⟩,fun z=>⟨z.2,z.1⟩⟩
      rw [← e];exact m2
    · exact fr2 _ _ (fun z=>(ff b z).elim n fun y=>by rw [e] at y;cases y) (fr _ _ n e)
    · rcases ff2 b z with z | z
      · exact ff b z
      · by_cases fb:F b
        · exact .inl fb
        · refine .inr ?_
          cases e:H b with
          | none=>rfl
          | some o=>rw [fr _ _ fb e] at z;cases z
  · rintro σ H' ⟨⟨o3,rfl⟩,F',M,fr,ts,ff⟩
    rw [List.length_map,List.take_length] at M
    obtain ⟨dx,gr,wo,rk,wk,kk,MI⟩:=M.ex
    simp only [sFld,tMeth,putF,L2.start,tSeq,gName,tDrop,tVar,tCons,tNil,tFor,iList,List.map,List.replicate,List.length,List.append,List.cons_append,List.nil_append,List.append_nil,List.getElem?_cons_zero,List.getElem?_cons_succ,Option.some.injEq,exists_eq_left',exists_eq_left,V.int.injEq,V.ref.injEq,V.str.injEq,V.bl.injEq,V.ty.injEq,List.cons.injEq,and_true,true_and,and_assoc,exists_and_left,List.set_cons_zero,List.set_cons_succ,Nat.reduceSub,Nat.reduceAdd,decide_eq_true_eq,Bool.not_eq_true',decide_eq_false_iff_not,Int.reduceToNat,Int.reducePow,Int.reduceNeg,Int.reduceMul,Int.reduceAdd,if_true,ite_true,Bool.false_eq_true,ite_false,if_false]
    refine ⟨_,_,_,MI.im,MF.cl,MF.f,(by show 4 < 1000;decide),?_⟩
    rw [pf_f]
    have nm:∀ b o,b≠m→H' b=some o→upd H' m (.ins t.c_Makes dx (mkFs gr rank wo rk)) b=some o:=fun b o n e=>by rw [upd_ne n];exact e
    refine q _ F' (fun b o n e=>nm _ _ (fun z=>by subst z;exact (ff b M.me).elim n fun y=>by rw [e] at y;cases y) (fr _ _ n e)) (fun b zs e=>nm _ _ (ne_of (ts _ _ e) MI.im (fun z=>nomatch z)) (ts _ _ e)) ?_ ff
    exact ⟨fun b z=>own_upd (M.own b z) (fun _ y=>nomatch y),M.me,M.nd,M.ok,dx,gr,wo,rk,wk,kk,MI.setm (fun _ z=>z) MI.hg MI.fg MI.nr⟩
def loR (l':List (Int × List Row)) (rank:Int) (i:Nat) (ys:List V) (_:Hp):Prop:=ys=(((l'.take i).map (·.1)).filter fun r=>decide (r < rank)).map V.int
theorem rdp_fold1 {E:XK} {m:Addr} {rank low:Int} {F:Addr→Prop} {g':List Row} {l':List (Int × List Row)} (MF:MkF K t) (h1:MrAt t H m F g' l' low) (hl:l'.length≤200)
    (q:∀ H' F',(∀ b o,¬ F b→H b=some o→H' b=some o)→(∀ b zs,H b=some (.tup zs)→H' b=some (.tup zs))→MrAt t H' m F' g' (l'.filter fun y=>decide (y.1 ∉ (l'.map (·.1)).filter fun r=>decide (r < rank))) rank→(∀ b,F' b→F b∨H b=none)→Q .non H') :
    rd_Makes_fold_1 K t E { nx:=fun _ H'=>Q .non H',rt:=Q } [some (.ref m),some (.int rank),none,none] H:=by
  simp only [rd_Makes_fold_1,tFrzK,tFld,sFld,tMeth,putF,iDK,L2.start,tSeq,tAsg,gName,tDrop,tOp,tVar,tCons,tNil,tFor,tTest,tComp,capV,iList,rI0,List.map,List.replicate,List.length,List.append,List.cons_append,List.nil_append,List.append_nil,List.getElem?_cons_zero,List.getElem?_cons_succ,Option.some.injEq,exists_eq_left',exists_eq_left,V.int.injEq,V.ref.injEq,V.str.injEq,V.bl.injEq,V.ty.injEq,List.cons.injEq,and_true,true_and,and_assoc,exists_and_left,List.set_cons_zero,List.set_cons_succ,Nat.reduceSub,Nat.reduceAdd,decide_eq_true_eq,Bool.not_eq_true',decide_eq_false_iff_not,Int.reduceToNat,Int.reducePow,Int.reduceNeg,Int.reduceMul,Int.reduceAdd,if_true,ite_true,Bool.false_eq_true,ite_false,if_false]
  obtain ⟨dx,gr,wo,rk,wk,kk,M⟩:=h1.ex
  have lk:=Paired.length M.wp
  refine ⟨wo,_,M.hw,wk,.inl rfl,fun o=>?_⟩
  have mw:m≠wo:=ne_of M.im M.hw (fun z=>nomatch z)
  have ff:upd H wo (.frz o (.dK wk)) wo=some (.frz o (.dK wk)):=upd_same
  have im:upd H wo (.frz o (.dK wk)) m=some (.ins t.c_Makes dx (mkFs gr low wo rk)):=by rw [upd_ne mw];exact M.im
  have fr0:∀ b,upd H wo (.frz o (.dK wk)) b=none→H b=none:=fun b e=>by
    by_cases z:b=wo
    · subst z;rw [upd_same] at e;cases e
    · rw [upd_ne z] at e;exact e
  have bk:∀ H4,Same (upd H wo (.frz o (.dK wk))) H4→Same H (upd H4 wo (.dK wk)):=fun H4 s b u e=>by
    by_cases z:b=wo
    · subst z;rw [upd_same,← M.hw,e]
    · rw [upd_ne z];exact s _ _ (by rw [upd_ne z];exact e)
  generalize upd H wo (.frz o (.dK wk))=H0 at *
  refine ⟨_,_,_,im,MF.cl,MF.w,_,fs_w,wo,rfl,o,wk,ff,fun D hD=>?_⟩
  have Dw:D≠wo:=fun z=>by rw [z,ff] at hD;cases hD
  refine comp_inv (J:=Itk wo o wk) l'.length (by omega) (fun τ=>∃ o1,τ=[o1,some (.int rank)]) (loR l' rank) (fun _ _ _ _ _ h=>h) ⟨_,rfl⟩ rfl (fun i H s h=>⟨s _ _ ff,by omega⟩) (fun H s=>⟨s _ _ ff,by omega⟩) hD ?_ ?_
  · rintro j v τ us H4 H5 ⟨o1,rfl⟩ s4 hj hR ⟨rfl,k0,v0,hk0,rfl⟩
    obtain ⟨y,hy,e1,d,e2,_⟩:=Paired.getP M.wp hk0
    simp only at e1 e2
    subst e1 e2
    simp only [kV,tFld,sFld,tMeth,putF,iDK,L2.start,tSeq,tAsg,gName,tDrop,tOp,tVar,tCons,tNil,tFor,tTest,tComp,capV,iList,rI0,List.map,List.replicate,List.length,List.append,List.cons_append,List.nil_append,List.append_nil,List.getElem?_cons_zero,List.getElem?_cons_succ,Option.some.injEq,exists_eq_left',exists_eq_left,V.int.injEq,V.ref.injEq,V.str.injEq,V.bl.injEq,V.ty.injEq,List.cons.injEq,and_true,true_and,and_assoc,exists_and_left,List.set_cons_zero,List.set_cons_succ,Nat.reduceSub,Nat.reduceAdd,decide_eq_true_eq,Bool.not_eq_true',decide_eq_false_iff_not,Int.reduceToNat,Int.reducePow,Int.reduceNeg,Int.reduceMul,Int.reduceAdd,if_true,ite_true,Bool.false_eq_true,ite_false,if_false]
    have tk:l'.take (j + 1)=l'.take j ++ [y]:=by rw [List.take_add_one,hy];rfl
    refine ite2 (fun c=>⟨⟨_,rfl⟩,?_,Same.refl _⟩) fun c=>⟨⟨_,rfl⟩,?_,Same.refl _⟩
    · unfold loR at hR ⊢
      have e1:(List.filter (fun r:Int=>decide (r < rank)) [y.1])=[y.1]:=by simp [c]
      rw [tk,List.map_append,List.map_singleton,List.filter_append,e1,List.map_append,hR];rfl
    · unfold loR at hR ⊢
      have e1:(List.filter (fun r:Int=>decide (r < rank)) [y.1])=[]:=by simp [c]
      rw [tk,List.map_append,List.map_singleton,List.filter_append,e1,List.append_nil];exact hR
  · intro us H4 hlz hR s4 hq
    unfold loR at hR
    rw [List.take_of_length_le (Nat.le_refl _)] at hR
    subst hR
    have S:=bk H4 s4
    have nD:¬ F D:=fun z=>by obtain ⟨o',e,_⟩:=h1.own D z;rw [fr0 D hD] at e;cases e
    refine ⟨s4 _ _ ff,rdp_fold2 MF (h1.keep fun b o _ e=>S _ _ e) (by rw [upd_ne Dw];exact hq) nD fun H' F' fr ts m' ff'=>q H' F' (fun b o n e=>fr _ _ n (S _ _ e)) (fun b zs e=>ts _ _ (S _ _ e)) m' fun b z=>(ff' b z).imp id fun y=>fresh_of S y⟩
theorem tab_last {g rows:List Row} {l:List (Int × List Row)} {rank:Int} (h:TabFor g l rank rows) (p:Pl):(lastW rows p).getD 0=seenW g l p rank:=by
  have nd:=h.1.nd
  cases e:lastW rows p with
  | some w=>exact ((h.2 p w).mp ((last_nd nd).mp e)).1.symm
  | none =>
    by_cases z:seenW g l p rank=0
    · exact z.symm
    · have:=(last_nd nd).mpr ((h.2 p _).mpr ⟨rfl,z⟩)
      rw [e] at this;cases this
theorem rdp_fold0 {E:XK} {m:Addr} {rank low:Int} {F:Addr→Prop} {g:List Row} {lays:List (Int × List Row)} {ps:List Pl} (MF:MkF K t) (h1:MfAt t H m F g lays low) (h2:rB rank) (h3:low≤rank) (h4:PsOk ps g lays) (h5:lays.length≤200) (q:∀ H' F',(∀ b o,¬ F b→H b=some o→H' b=some o)→(∀ b zs,H b=some (.tup zs)→H' b=some (.tup zs))→MfAt t H' m F' g lays rank→(∀ b,F' b→F b∨H b=none)→Q .non H') :
    rd_Makes_fold K t E { nx:=fun _ H'=>Q .non H',rt:=Q } (L2.start ["self","rank","lower","laid"] [.ref m,.int rank]) H:=by
  obtain ⟨dx0,fs0,i1,i2,i3,i4,i5,i6⟩:=h1.ins
  simp only [rd_Makes_fold,sp_Makes_table_for,cDctP,tFld,sFld,tMeth,putF,iDK,L2.start,tSeq,tAsg,gName,tDrop,tOp,tVar,tCons,tNil,tFor,tTest,tCB,tComp,capV,iList,rI0,List.map,List.replicate,List.length,List.append,List.cons_append,List.nil_append,List.append_nil,List.getElem?_cons_zero,List.getElem?_cons_succ,Option.some.injEq,exists_eq_left',exists_eq_left,V.int.injEq,V.ref.injEq,V.str.injEq,V.bl.injEq,V.ty.injEq,List.cons.injEq,and_true,true_and,and_assoc,exists_and_left,List.set_cons_zero,List.set_cons_succ,Nat.reduceSub,Nat.reduceAdd,decide_eq_true_eq,Bool.not_eq_true',decide_eq_false_iff_not,Int.reduceToNat,Int.reducePow,Int.reduceNeg,Int.reduceMul,Int.reduceAdd,if_true,ite_true,Bool.false_eq_true,ite_false,if_false]
  refine ⟨_,_,i1,i6,F,g,lays,low,h1,h2,ps,h4,h5,fun _ tl rows H1 s1 hl hr ht=>?_,fun z=>absurd z (by omega)⟩
  obtain ⟨xs,hx,hp⟩:=hr
  have rl:rows.length≤31:=by
    have:=nd_len_le ht.1.nd (b:=ps) fun p hp=>Classical.byContradiction fun n=>by
      obtain ⟨r,hr,rfl⟩:=List.mem_map.mp hp
      obtain ⟨a,b⟩:=(ht.2 r.1 r.2).mp hr
      exact b (by rw [← a];exact ps_zero h4 (fun y hy=>(h1.ok y hy).1) n)
    rw [List.length_map] at this
    exact Nat.le_trans this h4.le
  refine ⟨xs,hid_sub _ _ hx,rows,Paired.mapP hp fun _ _ z=>pr_same hid_sub z,by omega,fun p hp1=>?_⟩
  obtain ⟨g',M0,gn,gz,i0⟩:=h1.ex
  obtain ⟨H2,eH,s2,q2⟩:=new_ob (o:=HO.dT (dOf rows)) hp1
  rw [← eH];clear eH
  have S2:=s1.trans s2
  have M:=M0.keep (H':=H2) fun b o _ e=>S2 _ _ e
  obtain ⟨dx,gr,wo,rk,wk,kk,MI⟩:=M.ex
  refine ⟨_,_,_,MI.im,MF.cl,MF.g,(by show 4 < 1000;decide),?_⟩
  rw [pf_g]
  have pF:¬ F p:=fun z=>by obtain ⟨o,e,_⟩:=M0.own p z;rw [s1 _ _ e] at hp1;cases hp1
  have pk:p≠rk:=fun z=>pF (by rw [z];exact MI.fk)
  have M3:MrAt t (upd H2 m (.ins t.c_Makes dx (mkFs p low wo rk))) m (fun b=>F b∨b=p) rows (lays.filter fun y=>decide (low≤y.1)) low :=
    ⟨fun b z=>own_upd (z.elim (fun f=>M.own b f) fun e=>by subst e;exact ⟨_,q2,fun _ y=>nomatch y⟩) (fun _ y=>nomatch y),.inl M.me,M.nd,M.ok,dx,p,wo,rk,wk,kk,MI.setm (fun _ z=>.inl z) q2 (.inr rfl) pk⟩
  refine rdp_fold1 MF M3 (Nat.le_trans (List.length_filter_le _ _) h5) fun H' F' fr ts m' ff=>?_
  have pn:H p=none:=fresh_of s1 hp1
  refine q H' F' (fun b o n e=>?_) (fun b zs e=>?_) ?_ fun b z=>?_
  · have nb:¬ (F b∨b=p):=fun z=>z.elim n fun y=>by rw [y,pn] at e;cases e
    exact fr _ _ nb (by rw [upd_ne (fun z=>n (by rw [z];exact M0.me))];exact S2 _ _ e)
  · refine ts _ _ ?_
    rw [upd_ne (ne_of (S2 _ _ e) MI.im (fun z=>nomatch z))]
    exact S2 _ _ e
  · refine ⟨h1.nd,h1.ok,rows,?_,ht.1.nd,fun r hr=>((ht.2 r.1 r.2).mp hr).2,tab_last ht⟩
    have e:((lays.filter fun y=>decide (low≤y.1)).filter fun y=>decide (y.1 ∉ ((lays.filter fun y=>decide (low≤y.1)).map (·.1)).filter fun r=>decide (r < rank)))=lays.filter fun y=>decide (rank≤y.1):=by
      rw [List.filter_filter]
      refine List.filter_congr fun y hy=>?_
      rw [Bool.eq_iff_iff]
      simp only [Bool.and_eq_true,decide_eq_true_eq,List.mem_filter,not_and]
      constructor
      · rintro ⟨a,b⟩
        rcases Int.lt_or_le y.1 rank with hl | hl
        · exact absurd hl (a (List.mem_map.mpr ⟨y,List.mem_filter.mpr ⟨hy,decide_eq_true b⟩,rfl⟩))
        · exact hl
      · intro a
        exact ⟨fun _=>by omega,by omega⟩
    rw [← e]
    exact m'
  · rcases ff b z with z | z
    · rcases z with z | rfl
      · exact .inl z
      · exact .inr pn
    · refine .inr (fresh_of S2 ?_)
      by_cases e:b=m
      · subst e;rw [upd_same] at z;cases z
      · rw [upd_ne e] at z;exact z
def RowsAt (H:Hp) (vs:List V) (rows:List Row):Prop:=Paired (PrAt H) vs rows
theorem rows_mono {H H':Hp} {vs:List V} {rows:List Row} (s:Same H H') (h:RowsAt H vs rows):RowsAt H' vs rows:=Paired.mapP h fun _ _ z=>pr_same s z
theorem rows_tmono {H H':Hp} {vs:List V} {rows:List Row} (s:TSame H H') (h:RowsAt H vs rows):RowsAt H' vs rows:=Paired.mapP h fun _ _ ⟨r,p,e,e1,e2⟩=>⟨r,p,e,s _ _ e1,s _ _ e2⟩
theorem rows_snoc {H:Hp} {vs:List V} {v:V} {rows:List Row} {q:Row} (h:RowsAt H vs rows) (x:PrAt H v q):RowsAt H (vs ++ [v]) (rows ++ [q]):=Paired.snocP h x
theorem keys_dOf (rows:List Row):∃ qs:List Pl,(dOf rows).map (·.1)=qs.map plKey∧qs.Nodup∧∀ p,p∈qs↔(lastW rows p).isSome=true:=by
  have h:=okKv_dOf rows
  have:∀ (kvs:List (List Key × V)),(∀ kv∈kvs,∃ (p:Pl) (w:Int),kv=(plKey p,.int w))→∃ qs:List Pl,kvs.map (·.1)=qs.map plKey:=fun kvs=>by
    induction kvs with
    | nil=>exact fun _=>⟨[],rfl⟩
    | cons kv r ih =>
      intro hk
      obtain ⟨qs,e⟩:=ih fun z hz=>hk z (List.mem_cons_of_mem _ hz)
      obtain ⟨p,w,e2⟩:=hk kv List.mem_cons_self
      exact ⟨p :: qs,by rw [List.map_cons,List.map_cons,e,e2]⟩
  obtain ⟨qs,e⟩:=this _ h.2
  refine ⟨qs,e,nodup_map_inj (f:=plKey) (by rw [← e];exact h.1),fun p=>?_⟩
  constructor
  · intro hp
    have:plKey p∈(dOf rows).map (·.1):=by rw [e];exact List.mem_map_of_mem hp
    obtain ⟨kv,hk,e1⟩:=List.mem_map.mp this
    obtain ⟨p',w,rfl,hw⟩:=mem_dOf.mp hk
    have:=plKey_inj e1
    subst this
    rw [hw];rfl
  · intro hp
    obtain ⟨w,hw⟩:=Option.isSome_iff_exists.mp hp
    have:plKey p∈qs.map plKey:=by rw [← e];exact List.mem_map_of_mem (f:=(·.1)) (mem_dOf.mpr ⟨p,w,rfl,hw⟩)
    obtain ⟨p',hp',e1⟩:=List.mem_map.mp this
    rw [← plKey_inj e1];exact hp'
def toRow (rows:List Row) (p:Pl):Option Row:=match lastW rows p with
  | some w=>if w=0 then none else some (p,w)
  | none=>none
def cTab (rows:List Row) (qs:List Pl) (i:Nat) (ys:List V) (H:Hp):Prop:=∃ out:List Row,RowsAt H ys out∧out=(qs.take i).filterMap (toRow rows)
theorem cTab_ts {rows:List Row} {qs:List Pl} {i:Nat} {ys:List V} {H H':Hp} (s:TSame H H') (h:cTab rows qs i ys H):cTab rows qs i ys H':=by
  obtain ⟨out,h1,h2⟩:=h
  exact ⟨out,rows_tmono s h1,h2⟩
theorem toRow_iff {rows:List Row} {p:Pl} {b:Row}:toRow rows p=some b↔b.1=p∧lastW rows p=some b.2∧b.2≠0:=by
  unfold toRow
  obtain ⟨p',w'⟩:=b
  cases e:lastW rows p with
  | none=>simp
  | some w =>
    by_cases h:w=0
    · subst h
      simp only [if_true]
      constructor
      · intro z;cases z
      · rintro ⟨_,z,h2⟩
        exact absurd (Option.some.inj z).symm h2
    · simp only [if_neg h,Option.some.injEq,Prod.mk.injEq]
      constructor
      · rintro ⟨rfl,rfl⟩;exact ⟨rfl,rfl,h⟩
      · rintro ⟨rfl,rfl,_⟩;exact ⟨rfl,rfl⟩
theorem tab_of {rows:List Row} {ps:List Pl} (hw:ps.Pairwise fun a b=>placeLt a b=true) (hm:∀ p,p∈ps↔(lastW rows p).isSome=true):IsTab rows (ps.filterMap (toRow rows)):=by
  constructor
  · unfold Rising
    rw [List.pairwise_filterMap]
    refine hw.imp fun {a a'} h b hb b' hb'=>?_
    rw [(toRow_iff.mp hb).1,(toRow_iff.mp hb').1];exact h
  · intro p w
    rw [List.mem_filterMap]
    constructor
    · rintro ⟨a,_,h⟩
      obtain ⟨h1,h2,h3⟩:=toRow_iff.mp h
      cases h1
      exact ⟨h2,h3⟩
    · rintro ⟨h1,h2⟩
      exact ⟨p,(hm p).mpr (by rw [h1];rfl),toRow_iff.mpr ⟨rfl,h1,h2⟩⟩
theorem rdp_table_gen {a:Addr} {xs:List V} {rows:List Row} (h1:H a=some (.lst xs)) (h2:RowsAt H xs rows) (h4:(dOf rows).length≤63) (h5:rows.length≤1000) (q:∀ l ys out H',Same H H'→H l=none→H' l=some (.lst ys)→RowsAt H' ys out→IsTab rows out→Q (.ref l) H') :
    rd_table_of K t { nx:=fun _ H'=>Q .non H',rt:=Q } (L2.start ["rows","worths"] [.ref a]) H:=by
  simp only [rd_table_of,tDGet,cSrtD,cDctP,L2.start,tSeq,tAsg,gName,tRet,tOp,tVar,tC,tTup,tCons,tNil,tTest,tCB,tComp,capV,iList,rNe,scal,List.map,List.replicate,List.length,List.append,List.cons_append,List.nil_append,List.append_nil,List.getElem?_cons_zero,List.getElem?_cons_succ,Option.some.injEq,exists_eq_left',exists_eq_left,V.int.injEq,V.ref.injEq,V.str.injEq,V.bl.injEq,V.ty.injEq,List.cons.injEq,and_true,true_and,and_assoc,exists_and_left,List.set_cons_zero,List.set_cons_succ,Nat.reduceSub,Nat.reduceAdd,decide_eq_true_eq,Bool.not_eq_true',decide_eq_false_iff_not,Int.reduceToNat,Int.reducePow,Int.reduceNeg,Int.reduceMul,Int.reduceAdd,if_true,ite_true,Bool.false_eq_true,ite_false,if_false]
  refine ⟨xs,h1,rows,h2,h5,fun d hd=>?_⟩
  have S:∀ u:HO,Same H (upd H d u):=fun u=>isV (o:=u) d hd
  obtain ⟨qs,hqs,nqs,mqs⟩:=keys_dOf rows
  have ld:=len_dOf rows
  generalize hH0:upd H d (.dT (dOf rows))=H0
  have S0:Same H H0:=by rw [← hH0];exact S _
  have d0:H0 d=some (.dT (dOf rows)):=by rw [← hH0];exact upd_same
  refine ⟨dOf rows,d0,qs,hqs,by omega,fun l ps hl0 hperm hpw hps=>?_⟩
  obtain ⟨H1,eH,s1,q1⟩:=new_ob (o:=HO.lst (ps.map fun n=>V.ref n.1)) hl0
  rw [← eH]
  clear eH
  refine ⟨⟨_,SqL.of q1⟩,fun D hD=>?_⟩
  refine comp_inv (J:=Itl K l) ps.length (by have:=hperm.length_eq;have:=congrArg List.length hqs;simp at *;omega) (fun τ=>∃ o,τ=[o,some (.ref d)]) (cTab rows (ps.map (·.2))) (fun i ys H H' s h=>cTab_ts s h) ⟨_,rfl⟩ ⟨[],.nil,rfl⟩ (fun i H s h=>⟨_,_,SqL.of (s _ _ q1),List.getElem?_eq_getElem (by rw [List.length_map];exact h)⟩) (fun H s=>⟨_,SqL.of (s _ _ q1),by rw [List.length_map];exact Nat.le_refl _⟩) hD ?_ ?_
  · rintro i v τ ys H4 H5 ⟨o,rfl⟩ s4 hi hR ⟨rfl,hv⟩
    have hv:=hv _ (SqL.of (s4 _ _ q1))
    rw [List.getElem?_map] at hv
    obtain ⟨n,hn,rfl⟩:=Option.map_eq_some_iff.mp hv
    have hp:=s4 _ _ (s1 _ _ (hps n (List.mem_of_getElem? hn)))
    simp only [tDGet,cSrtD,cDctP,L2.start,tSeq,tAsg,gName,tRet,tOp,tVar,tC,tTup,tCons,tNil,tTest,tCB,tComp,capV,iList,rNe,scal,List.map,List.replicate,List.length,List.append,List.cons_append,List.nil_append,List.append_nil,List.getElem?_cons_zero,List.getElem?_cons_succ,Option.some.injEq,exists_eq_left',exists_eq_left,V.int.injEq,V.ref.injEq,V.str.injEq,V.bl.injEq,V.ty.injEq,List.cons.injEq,and_true,true_and,and_assoc,exists_and_left,List.set_cons_zero,List.set_cons_succ,Nat.reduceSub,Nat.reduceAdd,decide_eq_true_eq,Bool.not_eq_true',decide_eq_false_iff_not,Int.reduceToNat,Int.reducePow,Int.reduceNeg,Int.reduceMul,Int.reduceAdd,if_true,ite_true,Bool.false_eq_true,ite_false,if_false]
    have hm:n.2∈qs:=hperm.mem_iff.mp (List.mem_map_of_mem (List.mem_of_getElem? hn))
    obtain ⟨w,hw⟩:=Option.isSome_iff_exists.mp ((mqs n.2).mp hm)
    have g:DGet H5 d (.ref n.1) ((lastW rows n.2).map V.int):=.inr ⟨dOf rows,plKey n.2,n.1,.inl (s4 _ _ (s1 _ _ d0)),rfl,hp,(val_dOf rows n.2).symm⟩
    rw [hw] at g
    have tk:(ps.map (·.2)).take (i + 1)=(ps.map (·.2)).take i ++ [n.2]:=by rw [List.take_add_one,List.getElem?_map,hn];rfl
    obtain ⟨out,hr,ho⟩:=hR
    refine ⟨_,g,rfl,ite2 (fun c=>⟨_,g,by decide,fun p hp2=>⟨⟨_,rfl⟩,?_,isV p hp2⟩⟩) fun c=>⟨⟨_,rfl⟩,?_,Same.refl _⟩⟩
    · refine ⟨out ++ [(n.2,w)],rows_snoc (rows_mono (isV p hp2) hr) ⟨p,n.1,rfl,upd_same,isV p hp2 _ _ hp⟩,?_⟩
      have hw0:w≠0:=fun z=>c (by rw [z])
      rw [tk,List.filterMap_append,← ho]
      simp [toRow,hw,hw0]
    · refine ⟨out,hr,?_⟩
      have hw0:w=0:=by simpa using c
      rw [tk,List.filterMap_append,← ho]
      simp [toRow,hw,hw0]
  · rintro ys H4 hly ⟨out,hr,ho⟩ s4 hq
    refine q D ys out H4 (S0.trans (s1.trans s4)) (fresh_of (S0.trans s1) hD) hq hr ?_
    rw [List.take_of_length_le (by rw [List.length_map];exact Nat.le_refl _)] at ho
    subst ho
    exact tab_of hpw fun p=>(hperm.mem_iff.trans (mqs p))
theorem rdp_table_of {a:Addr} {rows:List Row} (h1:RwsAt H a rows) (h2:(dOf rows).length≤63) (h3:rows.length≤1000) (q:∀ l out H',Same H H'→H l=none→RwsAt H' l out→IsTab rows out→Q (.ref l) H') :
    rd_table_of K t { nx:=fun _ H'=>Q .non H',rt:=Q } (L2.start ["rows","worths"] [.ref a]) H:=by
  obtain ⟨xs,hx,rx⟩:=h1
  exact rdp_table_gen hx rx h2 h3 fun l ys out H' s fr hy ry ti=>q l out H' s fr ⟨ys,hy,ry⟩ ti
section
variable {m:Addr} {rank low:Int} {F:Addr→Prop} {g:List Row} {lays:List (Int × List Row)} {E:XK}
theorem rdp_Makes_seen {p:Addr} {q0:Pl} (MF:MkF K t) (h1:MfAt t H m F g lays low) (h2:rB rank) (h4:H p=some (.tup [.str q0.1,.int q0.2])) (h5:isName q0.1=true) (q:low≤rank→∀ H',Same H H'→Q (.int (seenW g lays q0 rank)) H') (qe:rank < low→∀ H',Same H H'→E (.ref t.c_Folded) none H') :
    rd_Makes_seen K t E { nx:=fun _ H'=>Q .non H',rt:=Q } (L2.start ["self","place","rank","ranks","below"] [.ref m,.ref p,.int rank]) H:=by
  by_cases c:rank < low
  · obtain ⟨g',M,_⟩:=h1.ex
    obtain ⟨dx,gr,wo,rk,wk,kk,MI⟩:=M.ex
    simp only [rd_Makes_seen,sp_Makes_heed_fold,sp_many_below,tDGet,tDGet2,tFld,tMeth,L2.start,tDGet2,tSeq,tAsg,gName,tRet,tDrop,tNext,tOp,tVar,tC,tLst,tCons,tNil,tIfS,tTest,tCall,rIxL,rEq,rI0,scal,List.map,List.replicate,List.length,List.append,List.cons_append,List.nil_append,List.append_nil,List.getElem?_cons_zero,List.getElem?_cons_succ,Option.some.injEq,exists_eq_left',exists_eq_left,V.int.injEq,V.ref.injEq,V.str.injEq,V.bl.injEq,V.ty.injEq,List.cons.injEq,and_true,true_and,and_assoc,exists_and_left,List.set_cons_zero,List.set_cons_succ,Nat.reduceSub,Nat.reduceAdd,decide_eq_true_eq,Bool.not_eq_true',decide_eq_false_iff_not,Int.reduceToNat,Int.reducePow,Int.reduceNeg,Int.reduceMul,Int.reduceAdd,if_true,ite_true,Bool.false_eq_true,ite_false,if_false]
    exact ⟨_,_,MI.im,mk_no (by decide +kernel),_,_,MI.im,_,fs_f,h2,fun z=>absurd c (by omega),fun _ H1 s1=>qe c H1 s1⟩
  · exact rdp_seen1 MF h1 h2 (by omega) h4 h5 (q (by omega))
theorem rdp_Makes_lay {gv:Addr} {gs:List Row} (MF:MkF K t) (h1:MfAt t H m F g lays low) (h2:rB rank) (h4:RwsAt H gv gs) (hgv:¬ F gv) (h5:GfOk gs) (h6:lays.length≤200) (q:low≤rank→∀ H' F',(∀ b o,¬ F b→H b=some o→H' b=some o)→(∀ b zs,H b=some (.tup zs)→H' b=some (.tup zs))→MfAt t H' m F' g (layW lays rank gs) low→(∀ b,F' b→F b∨H b=none)→Q .non H') (qe:rank < low→∀ H',Same H H'→E (.ref t.c_Folded) none H') :
    rd_Makes_lay K t E { nx:=fun _ H'=>Q .non H',rt:=Q } (L2.start ["self","rank","gifts","worths","place"] [.ref m,.int rank,.ref gv]) H:=by
  by_cases c:rank < low
  · obtain ⟨g',M,_⟩:=h1.ex
    obtain ⟨dx,gr,wo,rk,wk,kk,MI⟩:=M.ex
    simp only [rd_Makes_lay,sp_Makes_heed_fold,sp_Makes_take_away,sDPut,iDT,cDctP,tFld,tMeth,L2.start,tSeq,tAsg,gName,tDrop,tVar,tCons,tNil,tFor,tCB,tCall,List.map,List.replicate,List.length,List.append,List.cons_append,List.nil_append,List.append_nil,List.getElem?_cons_zero,List.getElem?_cons_succ,Option.some.injEq,exists_eq_left',exists_eq_left,V.int.injEq,V.ref.injEq,V.str.injEq,V.bl.injEq,V.ty.injEq,List.cons.injEq,and_true,true_and,and_assoc,exists_and_left,List.set_cons_zero,List.set_cons_succ,Nat.reduceSub,Nat.reduceAdd,decide_eq_true_eq,Bool.not_eq_true',decide_eq_false_iff_not,Int.reduceToNat,Int.reducePow,Int.reduceNeg,Int.reduceMul,Int.reduceAdd,if_true,ite_true,Bool.false_eq_true,ite_false,if_false]
    exact ⟨_,_,MI.im,mk_no (by decide +kernel),_,_,MI.im,_,fs_f,h2,fun z=>absurd c (by omega),fun _ H1 s1=>qe c H1 s1⟩
  · exact rdp_lay1 MF h1 h2 (by omega) h4 hgv h5 h6 (q (by omega))
theorem rdp_Makes_table_for {ps:List Pl} (MF:MkF K t) (h1:MfAt t H m F g lays low) (h2:rB rank) (h4:PsOk ps g lays) (h5:lays.length≤200) (q:low≤rank→∀ l rows H',Same H H'→H l=none→RwsAt (Hid F H') l rows→TabFor g lays rank rows→Q (.ref l) H') (qe:rank < low→∀ H',Same H H'→E (.ref t.c_Folded) none H') :
    rd_Makes_table_for K t E { nx:=fun _ H'=>Q .non H',rt:=Q } (L2.start ["self","rank","places"] [.ref m,.int rank]) H:=by
  by_cases c:rank < low
  · obtain ⟨g',M,_⟩:=h1.ex
    obtain ⟨dx,gr,wo,rk,wk,kk,MI⟩:=M.ex
    simp only [rd_Makes_table_for,sp_Makes_heed_fold,rCat,tFld,tMeth,cLstD,L2.start,tSeq,tAsg,gName,tRet,tDrop,tOp,tVar,tTup,tCons,tNil,tCB,tCall,tComp,tYes,capV,iList,rCat,List.map,List.replicate,List.length,List.append,List.cons_append,List.nil_append,List.append_nil,List.getElem?_cons_zero,List.getElem?_cons_succ,Option.some.injEq,exists_eq_left',exists_eq_left,V.int.injEq,V.ref.injEq,V.str.injEq,V.bl.injEq,V.ty.injEq,List.cons.injEq,and_true,true_and,and_assoc,exists_and_left,List.set_cons_zero,List.set_cons_succ,Nat.reduceSub,Nat.reduceAdd,decide_eq_true_eq,Bool.not_eq_true',decide_eq_false_iff_not,Int.reduceToNat,Int.reducePow,Int.reduceNeg,Int.reduceMul,Int.reduceAdd,if_true,ite_true,Bool.false_eq_true,ite_false,if_false]
    exact ⟨_,_,MI.im,mk_no (by decide +kernel),_,_,MI.im,_,fs_f,h2,fun z=>absurd c (by omega),fun _ H1 s1=>qe c H1 s1⟩
  · exact rdp_tf0 MF h1 h2 (by omega) h4 h5 (q (by omega))
theorem rdp_Makes_fold {ps:List Pl} (MF:MkF K t) (h1:MfAt t H m F g lays low) (h2:rB rank) (h4:PsOk ps g lays) (h5:lays.length≤200) (q:low≤rank→∀ H' F',(∀ b o,¬ F b→H b=some o→H' b=some o)→(∀ b zs,H b=some (.tup zs)→H' b=some (.tup zs))→MfAt t H' m F' g lays rank→(∀ b,F' b→F b∨H b=none)→Q .non H') (qe:rank < low→∀ H',Same H H'→E (.ref t.c_Folded) none H') :
    rd_Makes_fold K t E { nx:=fun _ H'=>Q .non H',rt:=Q } (L2.start ["self","rank","lower","laid"] [.ref m,.int rank]) H:=by
  by_cases c:rank < low
  · obtain ⟨dx0,fs0,i1,i2,i3,i4,i5,i6⟩:=h1.ins
    simp only [rd_Makes_fold,sp_Makes_table_for,cDctP,tFld,sFld,tMeth,putF,iDK,L2.start,tSeq,tAsg,gName,tDrop,tOp,tVar,tCons,tNil,tFor,tTest,tCB,tComp,capV,iList,rI0,List.map,List.replicate,List.length,List.append,List.cons_append,List.nil_append,List.append_nil,List.getElem?_cons_zero,List.getElem?_cons_succ,Option.some.injEq,exists_eq_left',exists_eq_left,V.int.injEq,V.ref.injEq,V.str.injEq,V.bl.injEq,V.ty.injEq,List.cons.injEq,and_true,true_and,and_assoc,exists_and_left,List.set_cons_zero,List.set_cons_succ,Nat.reduceSub,Nat.reduceAdd,decide_eq_true_eq,Bool.not_eq_true',decide_eq_false_iff_not,Int.reduceToNat,Int.reducePow,Int.reduceNeg,Int.reduceMul,Int.reduceAdd,if_true,ite_true,Bool.false_eq_true,ite_false,if_false]
    exact ⟨_,_,i1,i6,F,g,lays,low,h1,h2,ps,h4,h5,fun z=>absurd c (by omega),fun _ H1 s1=>qe c H1 s1⟩
  · exact rdp_fold0 MF h1 h2 (by omega) h4 h5 (q (by omega))
end
theorem rdp_law10 {p m d S a:Addr} {F:Addr→Prop} {ps:List Pl} {lays ld:List (Int × List Row)} {low:Int} {ys:List V} {ds:List De} {o5 o6 o8 o9 o10 o11 o12 o13:Option V} (h:LvAt t H p m d S F ps lays ld low ys ds) (q:∀ H',Q (.bl true) H') :
    rd_law_10 K t { nx:=fun _ H'=>Q .non H',rt:=Q } [some (.ref a),some (.ref p),some (.ref m),some (.ref d),some (.int low),o5,o6,some (.ref S),o8,o9,o10,o11,o12,o13,none] H:=by
  obtain ⟨dx,fs,i1,i2,i3,i4,i5,i6⟩:=h.mf.ins
  have hk:=h.kn
  simp only [rd_law_10,sp_Makes_table_for,sp__law_due,rEqD,tMeth,L2.start,tSeq,tAsg,gName,tRet,tOp,tVar,tC,tCons,tNil,tAndV,tCB,tCall,cIsi,List.map,List.replicate,List.length,List.append,List.cons_append,List.nil_append,List.append_nil,List.getElem?_cons_zero,List.getElem?_cons_succ,Option.some.injEq,exists_eq_left',exists_eq_left,V.int.injEq,V.ref.injEq,V.str.injEq,V.bl.injEq,V.ty.injEq,List.cons.injEq,and_true,true_and,and_assoc,exists_and_left,List.set_cons_zero,List.set_cons_succ,Nat.reduceSub,Nat.reduceAdd,decide_eq_true_eq,Bool.not_eq_true',decide_eq_false_iff_not,Int.reduceToNat,Int.reducePow,Int.reduceNeg,Int.reduceMul,Int.reduceAdd,if_true,ite_true,Bool.false_eq_true,ite_false,if_false]
  refine ⟨_,_,i1,i6,F,[],lays,low,h.mf,h.lo,ps,hk.ps,hk.len,fun _ l rows2 H2 s2 hn2 hr2 tab2=>?_,fun z=>absurd z (by omega)⟩
  have h2:=hk.same s2
  obtain ⟨zs,hz0,pz0⟩:=hr2
  have hz:=hid_sub _ _ hz0
  refine ⟨_,.lst hz,true,kit_same "list",?_⟩
  rw [if_pos rfl]
  refine ⟨ld,h2.ld_,h.ok,ps,(h.pl.same hid_sub).same s2,h.in2,fun l2 out H3 s3 hn3 hr3 tab3=>?_⟩
  obtain ⟨us,hu,pu⟩:=hr3
  have eq:=tab_eq tab3 tab2 h.pm h.ok.nd
  subst eq
  have pz3:Paired (PrAt H3) zs out:=Paired.mapP pz0 fun _ _ z=>pr_same (hid_sub.trans s3) z
  have okn:∀ r∈out,isName r.1.1=true:=fun r hr=>by
    have z:=(tab3.2 r.1 r.2).mp hr
    by_cases c:r.1∈ps
    · exact (hk.pn _ c).1
    · exfalso
      refine z.2 ?_
      rw [← z.1]
      exact seenW_none (fun _ z=>(nomatch z)) fun y hy x hx e=>c (by rw [← e];exact h.in2 y hy x hx)
  have pp':plainD (.list (out.map rwD))=true:=by rw [plainD];exact rwD_ok okn
  refine ⟨.list (out.map rwD),.lst (SqL.of (s3 _ _ hz)) (rws_dat pz3),.list (out.map rwD),.lst (SqL.of hu) (rws_dat pu),pp',pp',rwD_deep _,rwD_deep _,fun b hb=>?_⟩
  rw [hb.mpr rfl]
  exact q _
def lvJ (t:Adr) (a p m d S:Addr) (ps:List Pl) (ys:List V) (ds:List De) (o5 o6:Option V) (i:Nat) (σ:St) (H':Hp):Prop:=∃ (F:Addr→Prop) (lays ld:List (Int × List Row)) (low:Int) (o8 o9 o10 o11 o12 o13:Option V),σ=[some (.ref a),some (.ref p),some (.ref m),some (.ref d),some (.int low),o5,o6,some (.ref S),o8,o9,o10,o11,o12,o13,none]∧LvAt t H' p m d S F ps lays ld low ys ds∧ld.length≤i
theorem rdp_law9 {p m d S a:Addr} {F:Addr→Prop} {ps:List Pl} {low:Int} {ys:List V} {ds:List De} {o5 o6 o8:Option V} (h:LvAt t H p m d S F ps [] [] low ys ds) (dk:∀ y∈ds,DeOk y) (dl:ds.length≤140) (q:∀ H',Q (.bl true) H') :
    rd_law_9 K t { nx:=fun _ H'=>Q .non H',rt:=Q } [some (.ref a),some (.ref p),some (.ref m),some (.ref d),some (.int low),o5,o6,some (.ref S),o8,none,none,none,none,none,none] H:=by
  have ly:=Paired.length h.de
  simp only [rd_law_9,sp__law_drawn,sp__law_gifts,sp__law_rank_near,sDPut,rEqD,tMeth,L2.start,cLst,tSeq,tAsg,gName,gTup,gCons,gNil,tRet,tDrop,tNext,tOp,tVar,tC,tCons,tNil,tFor,tIfS,tNot,tTest,tB,tAndV,tCB,tCall,LenV,iList,rIxL,rEq,rI,rI0,rIsN,cLen,cIsi,scal,List.map,List.replicate,List.length,List.append,List.cons_append,List.nil_append,List.append_nil,List.getElem?_cons_zero,List.getElem?_cons_succ,Option.some.injEq,exists_eq_left',exists_eq_left,V.int.injEq,V.ref.injEq,V.str.injEq,V.bl.injEq,V.ty.injEq,List.cons.injEq,and_true,true_and,and_assoc,exists_and_left,List.set_cons_zero,List.set_cons_succ,Nat.reduceSub,Nat.reduceAdd,decide_eq_true_eq,Bool.not_eq_true',decide_eq_false_iff_not,Int.reduceToNat,Int.reducePow,Int.reduceNeg,Int.reduceMul,Int.reduceAdd,if_true,ite_true,Bool.false_eq_true,ite_false,if_false]
  refine ⟨⟨_,SqL.of (hid_sub _ _ h.sc)⟩,loop_list (K:=K) ys (lvJ t a p m d S ps ys ds o5 o6) ⟨F,[],[],low,_,_,_,_,_,_,rfl,h,Nat.le_refl _⟩ (fun i σ H' ⟨_,_,_,_,_,_,_,_,_,_,_,z,_⟩=>SqL.of (hid_sub _ _ z.sc)) ?_ ?_⟩
  · rintro i v σ H2 hv ⟨F,lays,ld,low,o8,o9,o10,o11,o12,o13,rfl,tw,n0⟩
    obtain ⟨y,hy,ad,rfl,hd⟩:=Paired.getP tw.de hv
    obtain ⟨r0,kd,c⟩:=y
    have dko:=dk _ (List.mem_of_getElem? hy)
    have hi:=(List.getElem?_eq_some_iff.mp hy).1
    simp only [sDPut,rEqD,tMeth,L2.start,cLst,tSeq,tAsg,gName,gTup,gCons,gNil,tRet,tDrop,tNext,tOp,tVar,tC,tCons,tNil,tFor,tIfS,tNot,tTest,tB,tAndV,tCB,tCall,LenV,iList,rIxL,rEq,rI,rI0,rIsN,cLen,cIsi,scal,List.map,List.replicate,List.length,List.append,List.cons_append,List.nil_append,List.append_nil,List.getElem?_cons_zero,List.getElem?_cons_succ,Option.some.injEq,exists_eq_left',exists_eq_left,V.int.injEq,V.ref.injEq,V.str.injEq,V.bl.injEq,V.ty.injEq,List.cons.injEq,and_true,true_and,and_assoc,exists_and_left,List.set_cons_zero,List.set_cons_succ,Nat.reduceSub,Nat.reduceAdd,decide_eq_true_eq,Bool.not_eq_true',decide_eq_false_iff_not,Int.reduceToNat,Int.reducePow,Int.reduceNeg,Int.reduceMul,Int.reduceAdd,if_true,ite_true,Bool.false_eq_true,ite_false,if_false]
    refine ⟨_,SqT.of (hid_sub _ _ hd),rfl,_,_,rfl,_,_,rfl,_,_,rfl,rfl,_,rfl,dB,by decide,by decide,fun xl xs H3 s3 xn hx l9 dd=>?_⟩
    have tw3:=tw.same s3
    obtain ⟨d6,e6,c6⟩:=at_dr (k:=6) (by omega) dd
    obtain ⟨d7,e7,c7⟩:=at_dr (k:=7) (by omega) dd
    obtain ⟨⟨zs,hzs,hzp⟩,nd,pos,le9,ok⟩:=id tw3.pl
    have lx:=Paired.length hzp
    obtain ⟨v,ev,mv⟩:=at_mod (xs:=zs) d6 zs.length rfl (by omega)
    obtain ⟨j,hj⟩:=List.getElem?_of_mem mv
    obtain ⟨q0,hq0,pl,rfl,hpl⟩:=Paired.getP hzp hj
    have okq:=(ok q0 (List.mem_of_getElem? hq0)).1
    refine ⟨_,SqL.of hx,_,e6,_,.inl ⟨_,SqL.of (hid_sub _ _ hzs),rfl⟩,_,rfl,by omega,_,SqL.of (hid_sub _ _ hzs),_,ev,_,rfl,dko.cw,ps,F,tw3.mf.own,tw3.pl,fun gv gs H4 s4 gn hg gnd gok gle=>?_⟩
    have tw4:=tw3.same s4
    have gf:GfOk gs:=⟨gnd,by omega,fun r hr=>⟨ok _ (gok r hr).1,(gok r hr).2⟩⟩
    have hpl4:=hid_same (F:=F) s4 _ _ hpl
    cases r0 with
    | none =>
      rw [if_pos (show deV (none,kd,c).1=V.non from rfl)]
      refine ⟨_,SqL.of (s4 _ _ hx),_,e7,_,rfl,tw.lo,c7,fun r H5 s5 hr=>?_⟩
      exact rdp_lawR (tw4.same s5) hr (hid_same s5 _ _ hpl4) okq (rws_same hg (hid_same s5)) gf (fun r hr=>(gok r hr).1) (by omega) fun F' lays' ld' low' o9 o13 H6 tw6 ln=>⟨F',lays',ld',low',_,_,_,_,_,_,rfl,tw6,by omega⟩
    | some r =>
      rw [if_neg (show ¬ deV (some r,kd,c).1=V.non from fun z=>nomatch z)]
      exact rdp_lawR tw4 (dko.rk r rfl) hpl4 okq hg gf (fun r hr=>(gok r hr).1) (by omega) fun F' lays' ld' low' o9 o13 H6 tw6 ln=>⟨F',lays',ld',low',_,_,_,_,_,_,rfl,tw6,by omega⟩
  · rintro σ H2 ⟨F,lays,ld,low,o8,o9,o10,o11,o12,o13,rfl,tw,n0⟩
    exact rdp_law10 tw q
theorem LvAt.setS {p m d S:Addr} {F:Addr→Prop} {ps:List Pl} {low:Int} {ys ys':List V} {ds ds':List De} (h:LvAt t H p m d S F ps [] [] low ys ds) (hpS:p≠S) (hd:Paired (DeAt (Hid F H)) ys' ds'):LvAt t (upd H S (.lst ys')) p m d S F ps [] [] low ys' ds':=by
  have nS:=hid_not h.sc
  have hS:=hid_sub _ _ h.sc
  have TL:∀ b w,Hid F H b=some w→b≠S→Hid F (upd H S (.lst ys')) b=some w:=fun b w e n=>hid_of (hid_not e) (by rw [upd_ne n];exact hid_sub _ _ e)
  have TT:∀ b zs,Hid F H b=some (.tup zs)→Hid F (upd H S (.lst ys')) b=some (.tup zs):=fun b zs e=>TL b _ e (ne_of (hid_sub _ _ e) hS (fun z=>nomatch z))
  obtain ⟨⟨xs,x1,x2⟩,y1,y2,y3,y4⟩:=h.pl
  obtain ⟨kvs,hk,hkp⟩:=h.ld_
  refine ⟨h.mf.upd hS nS,⟨⟨xs,TL _ _ x1 hpS,Paired.mapP x2 fun _ _ ⟨a,e,z⟩=>⟨a,e,TT _ _ z⟩⟩,y1,y2,y3,y4⟩,⟨kvs,TL _ _ hk (ne_of (hid_sub _ _ hk) hS (fun z=>nomatch z)),?_⟩,h.ok,h.pm,h.lo,h.in2,hid_of nS upd_same,Paired.mapP hd fun _ _ ⟨a,e,z⟩=>⟨a,e,TT _ _ z⟩⟩
  cases hkp
  exact .nil
def apJ (t:Adr) (a p m d S C:Addr) (ps:List Pl) (cs:List Int) (F:Addr→Prop) (o5 o6:Option V) (i:Nat) (σ:St) (H':Hp):Prop:=∃ (ys:List V) (ds:List De) (o8:Option V),σ=[some (.ref a),some (.ref p),some (.ref m),some (.ref d),some (.int 0),o5,o6,some (.ref S),o8,none,none,none,none,none,none]∧LvAt t H' p m d S F ps [] [] 0 ys ds∧H' C=some (.lst (cs.map V.int))∧(∀ y∈ds,DeOk y)∧ds.length≤i + 5
theorem rdp_law8 {p m d S a:Addr} {F:Addr→Prop} {ps:List Pl} {ys:List V} {ds:List De} {ns:List Int} {o5 o6:Option V} (hS:SqL K H a (ns.map V.int)) (hn:ns.length≤63) (hb:∀ i∈ns,Cb i) (h:LvAt t H p m d S F ps [] [] 0 ys ds) (hpS:p≠S) (dk:∀ y∈ds,DeOk y) (dl:ds.length≤5) (q:∀ H',Q (.bl true) H') :
    rd_law_8 K t { nx:=fun _ H'=>Q .non H',rt:=Q } [some (.ref a),some (.ref p),some (.ref m),some (.ref d),some (.int 0),o5,o6,some (.ref S),none,none,none,none,none,none,none] H:=by
  obtain ⟨cs,hcs,hcm,hcl⟩:=cutn ns (some 3) (some 123)
  simp only [rd_law_8,sDPut,rEqD,tMeth,L2.start,cLst,r_mt_append,rAppend,tSeq,tAsg,gName,gTup,gCons,gNil,tRet,tDrop,tNext,tOp,tVar,tC,tTup,tCons,tNil,tFor,tIfS,tNot,tTest,tB,tAndV,tCB,tBM,tyV,tSl,tPart,tCall,LenV,iList,rIxL,rEq,rI,rI0,rSlL,rIsN,cLen,cIsi,scal,List.map,List.replicate,List.length,List.append,List.cons_append,List.nil_append,List.append_nil,List.getElem?_cons_zero,List.getElem?_cons_succ,Option.some.injEq,exists_eq_left',exists_eq_left,V.int.injEq,V.ref.injEq,V.str.injEq,V.bl.injEq,V.ty.injEq,List.cons.injEq,and_true,true_and,and_assoc,exists_and_left,List.set_cons_zero,List.set_cons_succ,Nat.reduceSub,Nat.reduceAdd,decide_eq_true_eq,Bool.not_eq_true',decide_eq_false_iff_not,Int.reduceToNat,Int.reducePow,Int.reduceNeg,Int.reduceMul,Int.reduceAdd,if_true,ite_true,Bool.false_eq_true,ite_false,if_false]
  refine ⟨_,hS,fun C hC=>?_⟩
  rw [hcs]
  have s1:=isV (o:=HO.lst (cs.map V.int)) C hC
  have q1:upd H C (.lst (cs.map V.int)) C=some (.lst (cs.map V.int)):=upd_same
  have CS:C≠S:=fun z=>by rw [z,hid_sub _ _ h.sc] at hC;cases hC
  generalize upd H C (.lst (cs.map V.int))=H1 at *
  refine ⟨⟨_,SqL.of q1⟩,loop_list (K:=K) (cs.map V.int) (apJ t a p m d S C ps cs F o5 o6) ⟨ys,ds,none,rfl,h.same s1,q1,dk,by omega⟩ (fun i σ H' ⟨_,_,_,_,_,z,_⟩=>SqL.of z) ?_ ?_⟩
  · rintro i v σ H2 hv ⟨ys,ds,o8,rfl,tw,hC2,dk,dl⟩
    rw [List.getElem?_map] at hv
    obtain ⟨c,hc,rfl⟩:=Option.map_eq_some_iff.mp hv
    have hi:=(List.getElem?_eq_some_iff.mp hc).1
    have cb:=hb c (hcm c (List.mem_of_getElem? hc))
    have hS2:=hid_sub _ _ tw.sc
    have ly:=Paired.length tw.de
    simp only [sDPut,rEqD,tMeth,L2.start,cLst,r_mt_append,rAppend,tSeq,tAsg,gName,gTup,gCons,gNil,tRet,tDrop,tNext,tOp,tVar,tC,tTup,tCons,tNil,tFor,tIfS,tNot,tTest,tB,tAndV,tCB,tBM,tyV,tSl,tPart,tCall,LenV,iList,rIxL,rEq,rI,rI0,rSlL,rIsN,cLen,cIsi,scal,List.map,List.replicate,List.length,List.append,List.cons_append,List.nil_append,List.append_nil,List.getElem?_cons_zero,List.getElem?_cons_succ,Option.some.injEq,exists_eq_left',exists_eq_left,V.int.injEq,V.ref.injEq,V.str.injEq,V.bl.injEq,V.ty.injEq,List.cons.injEq,and_true,true_and,and_assoc,exists_and_left,List.set_cons_zero,List.set_cons_succ,Nat.reduceSub,Nat.reduceAdd,decide_eq_true_eq,Bool.not_eq_true',decide_eq_false_iff_not,Int.reduceToNat,Int.reducePow,Int.reduceNeg,Int.reduceMul,Int.reduceAdd,if_true,ite_true,Bool.false_eq_true,ite_false,if_false]
    refine ⟨.inl ⟨_,SqL.of hS2⟩,by decide,dB,by decide,fun b1 hb1=>?_⟩
    have s3:=isV (o:=HO.tup [V.non,V.int (c % 4),V.int (c / 4)]) b1 hb1
    have q3:upd H2 b1 (.tup [V.non,V.int (c % 4),V.int (c / 4)]) b1=some (.tup [V.non,V.int (c % 4),V.int (c / 4)]):=upd_same
    have nb:¬ F b1:=fun z=>by obtain ⟨o,e⟩:=tw.mf.own b1 z;rw [hb1] at e;cases e
    generalize upd H2 b1 (.tup [V.non,V.int (c % 4),V.int (c / 4)])=H3 at *
    have tw3:=tw.same s3
    refine ⟨_,s3 _ _ hS2,Nat.lt_of_lt_of_le (m:=100000) (by omega) (by decide),ys ++ [.ref b1],ds ++ [(none,c % 4,c / 4)],_,rfl,tw3.setS hpS (Paired.snocP tw3.de ⟨b1,rfl,(show Hid F H3 b1=some (.tup [deV none,.int (c % 4),.int (c / 4)]) from hid_of nb q3)⟩),by rw [upd_ne CS];exact s3 _ _ hC2,fun y hy=>?_,by rw [List.length_append,List.length_singleton];omega⟩
    rcases List.mem_append.mp hy with hy | hy
    · exact dk y hy
    · rw [List.mem_singleton.mp hy]
      exact ⟨fun _ z=>(nomatch z),(cb.div (by decide)).w⟩
  · rintro σ H2 ⟨ys,ds,o8,rfl,tw,hC2,dk,dl⟩
    rw [List.length_map] at dl
    exact rdp_law9 tw dk (by omega) q
theorem rdp_law7 {p m d a:Addr} {F:Addr→Prop} {ps:List Pl} {ns:List Int} {first fold:Int} (hS:SqL K H a (ns.map V.int)) (hn:ns.length≤63) (hb:∀ i∈ns,Cb i) (cf:Cw first) (rf:rB fold) (mf:MfAt t H m F [] [] 0) (pl:PlsAt (Hid F H) p ps) (hd:Hid F H d=some (.dK [])) (q:∀ H',Q (.bl true) H') :
    rd_law_7 K t { nx:=fun _ H'=>Q .non H',rt:=Q } [some (.ref a),some (.ref p),some (.ref m),some (.ref d),some (.int 0),some (.int first),some (.int fold),none,none,none,none,none,none,none,none] H:=by
  simp only [rd_law_7,sDPut,rEqD,tMeth,L2.start,cLst,r_mt_append,rAppend,tSeq,tAsg,gName,gTup,gCons,gNil,tRet,tDrop,tNext,tOp,tVar,tC,tLst,tTup,tCons,tNil,tFor,tIfS,tNot,tTest,tB,tAndV,tCB,tBM,tyV,tSl,tPart,tCall,LenV,iList,rIxL,rEq,rI,rI0,rSlL,rIsN,cLen,cIsi,scal,List.map,List.replicate,List.length,List.append,List.cons_append,List.nil_append,List.append_nil,List.getElem?_cons_zero,List.getElem?_cons_succ,Option.some.injEq,exists_eq_left',exists_eq_left,V.int.injEq,V.ref.injEq,V.str.injEq,V.bl.injEq,V.ty.injEq,List.cons.injEq,and_true,true_and,and_assoc,exists_and_left,List.set_cons_zero,List.set_cons_succ,Nat.reduceSub,Nat.reduceAdd,decide_eq_true_eq,Bool.not_eq_true',decide_eq_false_iff_not,Int.reduceToNat,Int.reducePow,Int.reduceNeg,Int.reduceMul,Int.reduceAdd,if_true,ite_true,Bool.false_eq_true,ite_false,if_false]
  have nwo:∀ {H:Hp} {o:HO} {p:Addr},H p=none→∃ H',H'=upd H p o∧Same H H'∧H' p=some o:=fun {H o p} h=>⟨_,rfl,isV p h,upd_same⟩
  refine ⟨by decide,fun b1 hb1=>?_⟩
  obtain ⟨H1,eH,s1,q1⟩:=nwo (o:=HO.tup [V.int 0,V.int 1,V.int first]) hb1
  rw [← eH];clear eH
  refine ⟨by decide,fun b2 hb2=>?_⟩
  obtain ⟨H2,eH,s2,q2⟩:=nwo (o:=HO.tup [V.int 0,V.int 2,V.int 1]) hb2
  rw [← eH];clear eH
  refine ⟨by decide,fun b3 hb3=>?_⟩
  obtain ⟨H3,eH,s3,q3⟩:=nwo (o:=HO.tup [V.int 0,V.int 3,V.int 1]) hb3
  rw [← eH];clear eH
  refine ⟨by decide,fun b4 hb4=>?_⟩
  obtain ⟨H4,eH,s4,q4⟩:=nwo (o:=HO.tup [V.int 0,V.int 0,V.int 1]) hb4
  rw [← eH];clear eH
  refine ⟨by decide,fun b5 hb5=>?_⟩
  obtain ⟨H5,eH,s5,q5⟩:=nwo (o:=HO.tup [V.int fold,V.int 0,V.int 1]) hb5
  rw [← eH];clear eH
  refine ⟨by decide,fun S hSn=>?_⟩
  obtain ⟨H6,eH,s6,q6⟩:=nwo (o:=HO.lst [V.ref b1,V.ref b2,V.ref b3,V.ref b4,V.ref b5]) hSn
  rw [← eH];clear eH
  have S5:=s1.trans (s2.trans (s3.trans (s4.trans s5)))
  have S6:=S5.trans s6
  have nF:∀ b,H b=none→¬ F b:=fun b e z=>by obtain ⟨o,e2⟩:=mf.own b z;rw [e] at e2;cases e2
  have n1:=nF b1 hb1
  have n2:=nF b2 (fresh_of s1 hb2)
  have n3:=nF b3 (fresh_of (s1.trans s2) hb3)
  have n4:=nF b4 (fresh_of (s1.trans (s2.trans s3)) hb4)
  have n5:=nF b5 (fresh_of (s1.trans (s2.trans (s3.trans s4))) hb5)
  have n6:=nF S (fresh_of S5 hSn)
  have u:=hid_same (F:=F) S6
  have pS:p≠S:=fun z=>by
    obtain ⟨⟨xs,hx,_⟩,_⟩:=pl
    have:=S5 _ _ (hid_sub _ _ hx)
    rw [z,hSn] at this
    cases this
  refine rdp_law8 (ds:=[(some 0,1,first),(some 0,2,1),(some 0,3,1),(some 0,0,1),(some fold,0,1)]) (hS.mono S6) hn hb ⟨mf.same S6,pl.same u,⟨[],u _ _ hd,.nil⟩,⟨List.nodup_nil,by decide,fun _ z=>(nomatch z)⟩,List.Perm.refl _,⟨by decide,by decide⟩,fun _ z=>(nomatch z),hid_of n6 q6,?_⟩ pS ?_ (Nat.le_refl 5) q
  · exact .cons ⟨b1,rfl,hid_of n1 ((s2.trans (s3.trans (s4.trans (s5.trans s6)))) _ _ q1)⟩ (.cons ⟨b2,rfl,hid_of n2 ((s3.trans (s4.trans (s5.trans s6))) _ _ q2)⟩ (.cons ⟨b3,rfl,hid_of n3 ((s4.trans (s5.trans s6)) _ _ q3)⟩ (.cons ⟨b4,rfl,hid_of n4 ((s5.trans s6) _ _ q4)⟩ (.cons ⟨b5,rfl,hid_of n5 (s6 _ _ q5)⟩ .nil))))
  · intro y hy
    have r0:rB 0:=⟨by decide,by decide⟩
    have c1:Cw 1:=by unfold Cw;decide +kernel
    simp only [List.mem_cons,List.not_mem_nil,or_false] at hy
    rcases hy with rfl | rfl | rfl | rfl | rfl
    · exact ⟨fun r e=>by cases e;exact r0,cf⟩
    · exact ⟨fun r e=>by cases e;exact r0,c1⟩
    · exact ⟨fun r e=>by cases e;exact r0,c1⟩
    · exact ⟨fun r e=>by cases e;exact r0,c1⟩
    · exact ⟨fun r e=>by cases e;exact rf,c1⟩
theorem bits4 {x n m:Nat} (h:x < 2 ^ n) (hm:n + 4≤m):4 * x + 8 < 2 ^ m:=by
  have h1:2 ^ (n + 4)≤2 ^ m:=Nat.pow_le_pow_right (by decide) hm
  have h2:2 ^ (n + 4)=2 ^ n * 16:=by rw [Nat.pow_add]
  omega
theorem first_le (c e:Int):(4 * (c / 3) + 1 + e % 3).natAbs≤4 * c.natAbs + 7:=by omega
theorem first_cw {c e:Int} (h:Cb c):Cw (4 * (c / 3) + 1 + e % 3):=by
  have l:=first_le c e
  generalize 4 * (c / 3) + 1 + e % 3=x at *
  unfold Cb at h
  unfold Cw
  rw [intBits_le_iff] at h ⊢
  exact Nat.lt_of_le_of_lt (Nat.le_succ_of_le l) (bits4 h (by decide))
theorem rdp_law4 {p m d a:Addr} {F:Addr→Prop} {ps:List Pl} {ns:List Int} (hS:SqL K H a (ns.map V.int)) (hn:ns.length≤63) (hb:∀ i∈ns,Cb i) (mf:MfAt t H m F [] [] 0) (pl:PlsAt (Hid F H) p ps) (hd:Hid F H d=some (.dK [])) (q:∀ H',Q (.bl true) H') :
    rd_law_4 K t { nx:=fun _ H'=>Q .non H',rt:=Q } [some (.ref a),some (.ref p),some (.ref m),some (.ref d),some (.int 0),none,none,none,none,none,none,none,none,none,none] H:=by
  simp only [rd_law_4,sp__law_cell_at,sDPut,rEqD,tMeth,L2.start,cLst,r_mt_append,rAppend,tSeq,tAsg,gName,gTup,gCons,gNil,tRet,tDrop,tNext,tOp,tVar,tC,tLst,tTup,tCons,tNil,tFor,tIfS,tNot,tTest,tB,tAndV,tCB,tBM,tyV,tSl,tPart,tCall,LenV,iList,rIxL,rEq,rI,rI0,rSlL,rIsN,cLen,cIsi,scal,List.map,List.replicate,List.length,List.append,List.cons_append,List.nil_append,List.append_nil,List.getElem?_cons_zero,List.getElem?_cons_succ,Option.some.injEq,exists_eq_left',exists_eq_left,V.int.injEq,V.ref.injEq,V.str.injEq,V.bl.injEq,V.ty.injEq,List.cons.injEq,and_true,true_and,and_assoc,exists_and_left,List.set_cons_zero,List.set_cons_succ,Nat.reduceSub,Nat.reduceAdd,decide_eq_true_eq,Bool.not_eq_true',decide_eq_false_iff_not,Int.reduceToNat,Int.reducePow,Int.reduceNeg,Int.reduceMul,Int.reduceAdd,if_true,ite_true,Bool.false_eq_true,ite_false,if_false]
  refine ⟨ns,1,rfl,hS,hn,hb,fun c H1 s1 cb=>⟨dB,⟨by unfold Cw;decide +kernel,(cb.div (by decide)).w⟩,ns,1,rfl,hS.mono s1,hn,hb,fun e H2 s2 eb=>⟨by decide,ns,2,rfl,hS.mono (s1.trans s2),hn,hb,fun f H3 s3 fb=>⟨dB,by decide,dB,pow10 (by decide) (by decide),by decide,pow10 (by decide) (by decide),dB,by decide,by decide,fun P hP=>⟨by decide,?_⟩⟩⟩⟩⟩
  obtain ⟨v,e5,m5⟩:=at_lt (xs:=[V.int (f / 3 % 6),V.int (f / 3 % 100000000000000000000000000001),V.int (100000000000000000000000000000 - f / 3 % 2)]) (i:=f % 3) (by omega) (by show f % 3 < 3;omega)
  obtain ⟨w,rfl,hw⟩:∃ w,v=V.int w∧rB w:=by
    simp only [List.mem_cons,List.not_mem_nil,or_false] at m5
    rcases m5 with rfl | rfl | rfl
    · exact ⟨_,rfl,by omega,by omega⟩
    · exact ⟨_,rfl,by omega,by omega⟩
    · exact ⟨_,rfl,by omega,by omega⟩
  have s4:=isV (o:=HO.lst [V.int (f / 3 % 6),V.int (f / 3 % 100000000000000000000000000001),V.int (100000000000000000000000000000 - f / 3 % 2)]) P hP
  have S:=s1.trans (s2.trans (s3.trans s4))
  have u:=hid_same (F:=F) S
  exact ⟨_,SqL.of upd_same,_,e5,rdp_law7 (hS.mono S) hn hb (first_cw cb) hw (mf.same S) (pl.same u) (u _ _ hd) q⟩
theorem rdp_law {a:Addr} {ns:List Int} (hS:SqL K H a (ns.map V.int)) (hn:ns.length≤63) (hb:∀ i∈ns,Cb i) (q:∀ H',Q (.bl true) H') :
    rd_law K t { nx:=fun _ H'=>Q .non H',rt:=Q } (L2.start ["script","places","makes","layings","low","first","fold","deeds","cell","rank","kind","xs","place","gifts","found"] [.ref a]) H:=by
  simp only [rd_law,sp__law_cell_at,sp__law_places,sp_Makes_init,sDPut,rEqD,tMeth,tMake,L2.start,cLst,r_mt_append,rAppend,tSeq,tAsg,gName,gTup,gCons,gNil,tRet,tDrop,tNext,tOp,tVar,tC,tLst,tTup,tCons,tNil,tFor,tIfS,tNot,tTest,tB,tAndV,tCB,tBM,tyV,tSl,tPart,tCall,LenV,tDNewK,iList,rIxL,rEq,rI,rI0,rSlL,rIsN,cLen,cIsi,scal,List.map,List.replicate,List.length,List.append,List.cons_append,List.nil_append,List.append_nil,List.getElem?_cons_zero,List.getElem?_cons_succ,Option.some.injEq,exists_eq_left',exists_eq_left,V.int.injEq,V.ref.injEq,V.str.injEq,V.bl.injEq,V.ty.injEq,List.cons.injEq,and_true,true_and,and_assoc,exists_and_left,List.set_cons_zero,List.set_cons_succ,Nat.reduceSub,Nat.reduceAdd,decide_eq_true_eq,Bool.not_eq_true',decide_eq_false_iff_not,Int.reduceToNat,Int.reducePow,Int.reduceNeg,Int.reduceMul,Int.reduceAdd,if_true,ite_true,Bool.false_eq_true,ite_false,if_false]
  refine ⟨ns,0,rfl,hS,hn,hb,fun c H1 s1 cb=>⟨cb,fun p ps H2 s2 hp=>⟨by decide,fun W hW m dx hm hdx hne=>?_⟩⟩⟩
  have nwo:∀ {H:Hp} {o:HO} {p:Addr},H p=none→∃ H',H'=upd H p o∧Same H H'∧H' p=some o:=fun {H o p} h=>⟨_,rfl,isV p h,upd_same⟩
  obtain ⟨H5,eH,s5,q5⟩:=nwo (o:=HO.lst []) hW
  rw [← eH] at hm hdx ⊢;clear eH
  obtain ⟨H6,eH,s6,q6⟩:=nwo (o:=HO.own m) hdx
  have hm6:H6 m=none:=by rw [eH,upd_ne (Ne.symm hne)];exact hm
  rw [← eH];clear eH
  obtain ⟨H7,eH,s7,q7⟩:=nwo (o:=HO.ins t.c_Makes dx []) hm6
  rw [← eH];clear eH
  have S7:=s5.trans (s6.trans s7)
  refine ⟨_,q7,[],⟨[],(s6.trans s7) _ _ q5,.nil⟩,⟨List.Pairwise.nil,by decide,fun _ z=>(nomatch z)⟩,fun H8 F sx hmk hF d hd=>?_⟩
  have nm:∀ b o,H5 b=some o→b≠m:=fun b o e z=>by subst z;rw [hm] at e;cases e
  have nF:∀ b o,H2 b=some o→¬ F b:=fun b o e z=>(hF b z).elim (nm b o (s5 _ _ e)) fun y=>by rw [S7 _ _ e] at y;cases y
  have S8:Same H2 H8:=fun b o e=>sx b o (nm b o (s5 _ _ e)) (S7 _ _ e)
  have nd:¬ F d:=fun z=>by obtain ⟨o,e⟩:=hmk.own d z;rw [hd] at e;cases e
  obtain ⟨H9,eH,s9,q9⟩:=nwo (o:=HO.dK []) hd
  rw [← eH];clear eH
  have S9:=S8.trans s9
  have SB:Same H2 (Hid F H9):=fun x o e=>hid_of (nF x o e) (S9 _ _ e)
  exact rdp_law4 (hS.mono (s1.trans (s2.trans S9))) hn hb (hmk.same s9) (hp.same SB) (hid_of nd q9) q
end
section
variable {P:Program} {w:World} {K:PySem.W.Frag} {mg:Str→Option Value} {base:Heap} {t:Adr}
theorem ok__law_drawn (T:Txt K mg t):FnOk P w K mg base (CX1 P w) 1 t.a__law_drawn t.d__law_drawn ["cell","many"] (sp__law_drawn):=by
  refine T.f__law_drawn.ok0 sc__law_drawn (fun vs H Q E h=>?_) (fun cdv A outer s H vs Q E hr h=>?_)
  · obtain ⟨c,m,rfl,_⟩:=h;rfl
  obtain ⟨c,m,rfl,h1,h2,q⟩:=h
  exact ⟨rd__law_drawn K t,(pss_cons (ps_set (i:=2) sc__law_drawn.nd rfl (Or.inl rfl) (pe_op op_add (pe_op op_mod (pv 0) (pe_int (i:=999999937))) (pe_int (i:=1))))
    (pss_cons (ps_set (i:=3) sc__law_drawn.nd rfl (Or.inl rfl) (pe_op op_add (pe_op op_mod (pe_op op_fdivB (pv 0) (pe_int (i:=999999937))) (pe_int (i:=999999929))) (pe_int (i:=2))))
    (pss_cons (ps_set (i:=4) sc__law_drawn.nd rfl (Or.inl rfl) (pe_lst pa_nil))
    (pss_cons (ps_for PassesOwn.never rfl (pi_range1 rfl T.b_range (pa_cons (pv 1) pa_nil)) (pg_name (i:=5) sc__law_drawn.nd rfl (Or.inl rfl)) (pss_cons (ps_set (i:=2) sc__law_drawn.nd rfl (Or.inl rfl) (pe_op op_mod (pe_op op_add (pe_op op_add (pe_op op_mulB (pv 2) (pe_int (i:=40009))) (pv 3)) (pv 5)) (pe_int (i:=999999937))))
    (pss_cons (ps_set (i:=3) sc__law_drawn.nd rfl (Or.inl rfl) (pe_op op_mod (pe_op op_add (pe_op op_mulB (pv 3) (pe_int (i:=31))) (pe_op op_mulB (pv 2) (pv 2))) (pe_int (i:=999999929))))
    (pss_one (ps_expr (pe_bm PySem.F.plainAttrs_list PySem.F.slot_list_append PySem.F.type_list_append mt_append (pv 4) (pa_cons (pe_op op_add (pv 2) (pv 3)) pa_nil)))))))
    (pss_one (ps_ret (pv 4))))))),rdp__law_drawn h1 h2 q⟩
theorem ok__law_names (T:Txt K mg t):FnOk P w K mg base (CX1 P w) 2 t.a__law_names t.d__law_names ["cell"] (sp__law_names):=by
  refine T.f__law_names.ok0 sc__law_names (fun vs H Q E h=>?_) (fun cdv A outer s H vs Q E hr h=>?_)
  · obtain ⟨c,rfl,_⟩:=h;rfl
  obtain ⟨c,rfl,q⟩:=h
  exact ⟨rd__law_names K t,(pss_cons (ps_set (i:=1) sc__law_names.nd rfl (Or.inl rfl) (pe_str (x:="abcdefghijklmnopqrstuvwxyz")))
    (pss_cons (ps_set (i:=2) sc__law_names.nd rfl (Or.inl rfl) (pe_lst (pa_str (x:="take") (pa_str (x:="give") (pa_str (x:="let") (pa_str (x:="say") (pa_str (x:="off") (pa_str (x:="if") (pa_str (x:="else") (pa_str (x:="end") (pa_str (x:="as") pa_nil)))))))))))
    (pss_cons (ps_set (i:=2) sc__law_names.nd rfl (Or.inl rfl) (pe_op op_cat (pv 2) (pe_lst (pa_cons (pe_str (x:="plus")) (pa_cons (pe_str (x:="minus")) (pa_cons (pe_str (x:="times")) (pa_cons (pe_str (x:="over")) (pa_cons (pe_str (x:="rest")) (pa_cons (pe_str (x:="under")) (pa_cons (pe_str (x:="same")) pa_nil))))))))))
    (pss_cons (ps_set (i:=3) sc__law_names.nd rfl (Or.inl rfl) (pe_op op_add (pe_int (i:=1)) (pe_op op_mod (pv 0) (pe_int (i:=6)))))
    (pss_cons (ps_set (i:=4) sc__law_names.nd rfl (Or.inl rfl) (pe_op op_mod (pe_op op_fdivB (pv 0) (pe_int (i:=6))) (pv 3)))
    (pss_cons (ps_set (i:=5) sc__law_names.nd rfl (Or.inl rfl) (pe_call (FnOk.mono (ok__law_drawn T) (by decide)) hr rfl T.m__law_drawn T.f__law_drawn.kp T.b__law_drawn .nil pass10 (pa_cons (pe_op op_fdivB (pv 0) (pe_int (i:=36))) (pa_cons (pe_op op_add (pv 3) (pe_int (i:=1))) pa_nil))))
    (pss_cons (ps_set (i:=6) sc__law_names.nd rfl (Or.inl rfl) (pe_lst pa_nil))
    (pss_cons (ps_for PassesOwn.never rfl (pi_range1 rfl T.b_range (pa_cons (pe_int (i:=3)) pa_nil)) (pg_name (i:=7) sc__law_names.nd rfl (Or.inl rfl)) (pss_cons (ps_set (i:=8) sc__law_names.nd rfl (Or.inl rfl) (pe_str (x:="")))
    (pss_cons (ps_for PassesOwn.never rfl (pi_range1 rfl T.b_range (pa_cons (pv 3) pa_nil)) (pg_name (i:=9) sc__law_names.nd rfl (Or.inl rfl)) (pss_cons (ps_set (i:=10) sc__law_names.nd rfl (Or.inl rfl) (pe_op op_mulB (pe_op op_mulB (pv 7) (pe_callTy call_int_bl rfl T.b_int bt_int (pa_cons (pe_cmpR op_eq (pv 9) (pv 4) (nomark _)) pa_nil))) (pe_op op_mod (pe_ix ix_list (pv 5) (pv 3) (fun _ _=>rfl)) (pe_int (i:=2)))))
    (pss_one (ps_set (i:=8) sc__law_names.nd rfl (Or.inl rfl) (pe_op op_add_str (pv 8) (pe_ix ix_str (pv 1) (pe_op op_mod (pe_op op_add (pe_ix ix_list (pv 5) (pv 9) (fun _ _=>rfl)) (pv 10)) (pe_int (i:=26))) (fun _ _=>rfl)))))))
    (pss_cons (ps_if (pt_cmpR op_eq (pe_op op_mod (pe_ix ix_list (pv 5) (pv 3) (fun _ _=>rfl)) (pe_int (i:=2))) (pe_int (i:=0)) (nomark _)) (pss_one (ps_set (i:=8) sc__law_names.nd rfl (Or.inl rfl) (pe_slice sl_str (pv 8) po_none (po_some (pe_callB (call_max2 rfl) rfl T.b_max bt_max (pa_cons (pe_int (i:=1)) (pa_cons (pe_op op_sub (pv 3) (pv 7)) pa_nil)))))))
      pss_nil)
    (pss_cons (ps_if (pt_cmpR op_in_seq (pv 8) (pv 2) (by with_unfolding_all rfl)) (pss_one (ps_set (i:=8) sc__law_names.nd rfl (Or.inl rfl) (pe_op op_add_str (pe_slice sl_str (pv 8) po_none (po_some (pe_un un_neg (pe_int (i:=1))))) (pe_str (x:="q")))))
      pss_nil)
    (pss_one (ps_expr (pe_bm PySem.F.plainAttrs_list PySem.F.slot_list_append PySem.F.type_list_append mt_append (pv 6) (pa_cons (pv 8) pa_nil)))))))))
    (pss_one (ps_ret (pv 6))))))))))),rdp__law_names q⟩
theorem ok__law_worth (T:Txt K mg t):FnOk P w K mg base (CX1 P w) 1 t.a__law_worth t.d__law_worth ["cell"] (sp__law_worth):=by
  refine T.f__law_worth.ok0 sc__law_worth (fun vs H Q E h=>?_) (fun cdv A outer s H vs Q E hr h=>?_)
  · obtain ⟨c,rfl,_⟩:=h;rfl
  obtain ⟨c,rfl,h,q⟩:=h
  exact ⟨rd__law_worth K t,(pss_cons (ps_set (i:=1) sc__law_worth.nd rfl (Or.inl rfl) (pe_op op_fdivB (pv 0) (pe_int (i:=4))))
    (pss_cons (ps_if (pt_cmpR op_eq (pe_op op_mod (pv 0) (pe_int (i:=4))) (pe_int (i:=0)) (nomark _)) (pss_one (ps_ret (pe_op op_sub (pe_op op_mod (pe_op op_mulC (pv 1) (pe_int (i:=618033988749894848204586834365))) (pe_op op_add (pe_op op_mulC (pe_int (i:=2)) (pe_op op_pow (pe_int (i:=10)) (pe_int (i:=30)))) (pe_int (i:=1)))) (pe_op op_pow (pe_int (i:=10)) (pe_int (i:=30))))))
      pss_nil)
    (pss_cons (ps_if (pt_cmpR op_eq (pe_op op_mod (pv 0) (pe_int (i:=4))) (pe_int (i:=1)) (nomark _)) (pss_one (ps_ret (pe_ix ix_list (pe_lst (pa_cons (pe_op op_pow (pe_int (i:=10)) (pe_int (i:=30))) (pa_cons (pe_un un_neg (pe_op op_pow (pe_int (i:=10)) (pe_int (i:=30)))) (pa_cons (pe_op op_sub (pe_op op_pow (pe_int (i:=10)) (pe_int (i:=30))) (pe_int (i:=1))) (pa_cons (pe_int (i:=0)) (pa_cons (pe_int (i:=64)) (pa_cons (pe_un un_neg (pe_int (i:=64))) (pa_cons (pe_int (i:=1)) (pa_cons (pe_un un_neg (pe_int (i:=1))) pa_nil))))))))) (pe_op op_mod (pv 1) (pe_int (i:=8))) (fun _ _=>rfl))))
      pss_nil)
    (pss_one (ps_ret (pe_op op_sub (pe_op op_mod (pv 1) (pe_int (i:=7))) (pe_int (i:=3)))))))),rdp__law_worth h q⟩
theorem ok__law_places (T:Txt K mg t):FnOk P w K mg base (CX1 P w) 3 t.a__law_places t.d__law_places ["cell"] (sp__law_places):=by
  refine T.f__law_places.ok0 sc__law_places (fun vs H Q E h=>?_) (fun cdv A outer s H vs Q E hr h=>?_)
  · obtain ⟨c,rfl,_⟩:=h;rfl
  obtain ⟨c,rfl,h,q⟩:=h
  exact ⟨rd__law_places K t,(pss_cons (ps_set (i:=1) sc__law_places.nd rfl (Or.inl rfl) (pe_call (FnOk.mono (ok__law_names T) (by decide)) hr rfl T.m__law_names T.f__law_names.kp T.b__law_names .nil pass10 (pa_cons (pe_op op_fdivB (pv 0) (pe_int (i:=9))) pa_nil)))
    (pss_cons (ps_set (i:=2) sc__law_places.nd rfl (Or.inl rfl) (pe_call (FnOk.mono (ok__law_worth T) (by decide)) hr rfl T.m__law_worth T.f__law_worth.kp T.b__law_worth .nil pass10 (pa_cons (pe_op op_fdivB (pv 0) (pe_int (i:=13))) pa_nil)))
    (pss_cons (ps_set (i:=3) sc__law_places.nd rfl (Or.inl rfl) (pe_ifExp (pt_cmpR op_gt (pv 2) (pe_int (i:=0)) (nomark _)) (pe_op op_sub (pv 2) (pe_int (i:=1))) (pe_op op_add (pv 2) (pe_int (i:=1)))))
    (pss_cons (ps_set (i:=4) sc__law_places.nd rfl (Or.inl rfl) (pe_lst pa_nil))
    (pss_cons (ps_for PassesOwn.never rfl (pi_range1 rfl T.b_range (pa_cons (pe_op op_add (pe_int (i:=1)) (pe_op op_mod (pv 0) (pe_int (i:=9)))) pa_nil)) (pg_name (i:=5) sc__law_places.nd rfl (Or.inl rfl)) (pss_cons (ps_set (i:=6) sc__law_places.nd rfl (Or.inl rfl) (pe_tup (pa_cons (pe_ix ix_list (pv 1) (pe_op op_mod (pv 5) (pe_int (i:=3))) (fun _ _=>rfl)) (pa_cons (pe_ix ix_list (pe_lst (pa_cons (pv 2) (pa_cons (pv 3) (pa_cons (pe_op op_sub (pe_int (i:=0)) (pv 2)) pa_nil)))) (pe_op op_fdivB (pv 5) (pe_int (i:=3))) (fun _ _=>rfl)) pa_nil))))
    (pss_one (ps_if (pt_cmpR (op_notInAll (hu64 hr)) (pv 6) (pv 4) (by with_unfolding_all rfl)) (pss_one (ps_expr (pe_bm PySem.F.plainAttrs_list PySem.F.slot_list_append PySem.F.type_list_append mt_append (pv 4) (pa_cons (pv 6) pa_nil))))
      pss_nil))))
    (pss_one (ps_ret (pv 4)))))))),rdp__law_places h q⟩
theorem ok_Makes_init (T:Txt K mg t):FnOk P w K mg base (CX1 P w) 1 t.a_Makes_init t.d_Makes_init ["self","table"] (sp_Makes_init t):=by
  refine T.f_Makes_init.ok0 sc_Makes_init (fun vs H Q E h=>?_) (fun cdv A outer s H vs Q E hr h=>?_)
  · obtain ⟨x,h,dx,rows,rfl,_⟩:=h;rfl
  obtain ⟨x,h,dx,rows,rfl,h1,h2,h3,q⟩:=h
  exact ⟨rd_Makes_init K t,(pss_cons (ps_fld (f:="ground") (pv 0) (pe_callTy (call_dict_pairs rfl (hu3 hr)) rfl T.b_dict bt_dict (pa_cons (pv 1) pa_nil)) rfl)
    (pss_cons (ps_fld (f:="folded") (pv 0) (pe_int (i:=0)) rfl)
    (pss_cons (ps_fld (f:="worths") (pv 0) pe_dnewK rfl)
    (pss_one (ps_fld (f:="ranks") (pv 0) pe_dnewT rfl))))),rdp_Makes_init (mkF T) h1 h2 h3 q⟩
theorem ok__law_cell_at (T:Txt K mg t):FnOk P w K mg base (CX1 P w) 1 t.a__law_cell_at t.d__law_cell_at ["script","k"] (sp__law_cell_at K):=by
  refine T.f__law_cell_at.ok0 sc__law_cell_at (fun vs H Q E h=>?_) (fun cdv A outer s H vs Q E hr h=>?_)
  · obtain ⟨a,ns,k,rfl,_⟩:=h;rfl
  obtain ⟨a,ns,k,rfl,hS,hl,hb,q⟩:=h
  exact ⟨rd__law_cell_at K t,(pss_cons (ps_if (pt_cmpR op_lt (pv 1) (pe_callB call_len rfl T.b_len bt_len (pa_cons (pv 0) pa_nil)) (nomark _)) (pss_one (ps_ret (pe_ix ix_list (pv 0) (pv 1) (fun _ _=>rfl))))
      pss_nil)
    (pss_one (ps_ret (pe_int (i:=0))))),rdp__law_cell_at hS hl hb q⟩
theorem ok_Makes_heed_fold (T:Txt K mg t):FnOk P w K mg base (CX1 P w) 1 t.a_Makes_heed_fold t.d_Makes_heed_fold ["self","rank"] (sp_Makes_heed_fold t):=by
  refine T.f_Makes_heed_fold.ok1 sc_Makes_heed_fold (fun vs H Q E h=>?_) (fun cdv A outer s H vs Q E hr h=>?_)
  · obtain ⟨m,dx,fs,low,rank,rfl,_⟩:=h;rfl
  obtain ⟨m,dx,fs,low,rank,rfl,h1,h2,h3,q,q2⟩:=h
  exact ⟨rd_Makes_heed_fold K t E,(pss_one (ps_if (pt_cmpR op_lt (pv 1) (pe_fld (f:="folded") (pv 0) rfl) (nomark _)) (pss_one (ps_raise rfl T.x_Folded raises1 rfl T.g_Folded (pa_cons (pe_str (x:="a rank below the one to which the makes are folded")) pa_nil)))
      pss_nil)),rdp_Makes_heed_fold (mkF T) h1 h2 h3 q q2⟩
theorem ok_table_of (T:Txt K mg t):FnOk P w K mg base (CX1 P w) 1 t.a_table_of t.d_table_of ["rows"] (sp_table_of):=by
  refine T.f_table_of.ok0 sc_table_of (fun vs H Q E h=>?_) (fun cdv A outer s H vs Q E hr h=>?_)
  · obtain ⟨a,rows,rfl,_⟩:=h;rfl
  obtain ⟨a,rows,rfl,h1,h2,h3,q⟩:=h
  exact ⟨rd_table_of K t,(pss_cons (ps_set (i:=1) sc_table_of.nd rfl (Or.inr rfl) (pe_callTy (call_dict_pairs rfl (hu3 hr)) rfl T.b_dict bt_dict (pa_cons (pv 0) pa_nil)))
    (pss_one (ps_ret (pe_comp rfl (osc:=defScope s_table_of) (N:=["rows","worths"]) (xs:=["place"]) (ix:=[1]) (by decide +kernel) (pi_list (pe_callB (call_sortedD rfl) rfl T.b_sorted bt_sorted (pa_cons (pv 1) pa_nil))) (fun _ _ _ _=>(pg_name (i:=0) (show List.Nodup (["place","worths"]:List Str) from (by decide +kernel)) rfl (Or.inl rfl) (.inr rfl))) (fun _ _ _ _=>(pts_one (pt_cmpR op_ne (pe_dget (hu_of hr) (pv 1) (pv 0) (fun _ _=>rfl)) (pe_int (i:=0)) (nomark _)))) (fun _ _ _ _=>(pe_tup (pa_cons (pv 0) (pa_cons (pe_dget (hu_of hr) (pv 1) (pv 0) (fun _ _=>rfl)) pa_nil)))))))),rdp_table_of h1 h2 h3 q⟩
theorem ok_many_below (T:Txt K mg t):FnOk P w K mg base (CX1 P w) 1 t.a_many_below t.d_many_below ["ranks","rank"] (sp_many_below):=by
  refine T.f_many_below.ok0 sc_many_below (fun vs H Q E h=>?_) (fun cdv A outer s H vs Q E hr h=>?_)
  · obtain ⟨a,rs,rank,rfl,_⟩:=h;rfl
  obtain ⟨a,rs,rank,rfl,h1,h2,q⟩:=h
  exact ⟨rd_many_below K t,(pss_cons (ps_set (i:=2) sc_many_below.nd rfl (Or.inl rfl) (pe_int (i:=0)))
    (pss_cons (ps_set (i:=3) sc_many_below.nd rfl (Or.inl rfl) (pe_callB call_len rfl T.b_len bt_len (pa_cons (pv 0) pa_nil)))
    (pss_cons (ps_while PassesOwn.never (pt_cmpR op_lt (pv 2) (pv 3) (nomark _)) (pss_cons (ps_set (i:=4) sc_many_below.nd rfl (Or.inl rfl) (pe_op op_fdivB (pe_op op_add (pv 2) (pv 3)) (pe_int (i:=2))))
    (pss_one (ps_if (pt_cmpR op_lt (pe_ix ix_list (pv 0) (pv 4) (fun _ _=>rfl)) (pv 1) (nomark _)) (pss_one (ps_set (i:=2) sc_many_below.nd rfl (Or.inl rfl) (pe_op op_add (pv 4) (pe_int (i:=1)))))
      (pss_one (ps_set (i:=3) sc_many_below.nd rfl (Or.inl rfl) (pv 4)))))))
    (pss_one (ps_ret (pv 2)))))),rdp_many_below h1 h2 q⟩
theorem ok_Makes_seen (T:Txt K mg t):FnOk P w K mg base (CX1 P w) 2 t.a_Makes_seen t.d_Makes_seen ["self","place","rank"] (sp_Makes_seen t):=by
  refine T.f_Makes_seen.ok1 sc_Makes_seen (fun vs H Q E h=>?_) (fun cdv A outer s H vs Q E hr h=>?_)
  · obtain ⟨m,p,rank,F,g,lays,low,q0,rfl,_⟩:=h;rfl
  obtain ⟨m,p,rank,F,g,lays,low,q0,rfl,h1,h2,h3,h4,q,q2⟩:=h
  exact ⟨rd_Makes_seen K t E,(pss_cons (ps_expr (pe_meth (pv 0) T.cl_Makes T.me_Makes_heed_fold (FnOk.mono (ok_Makes_heed_fold T) (by decide)) hr T.b_Makes_heed_fold .nil pass1 (pa_cons (pv 2) pa_nil)))
    (pss_cons (ps_set (i:=3) sc_Makes_seen.nd rfl (Or.inl rfl) (pe_dget2 (hu_of hr) (pe_fld (f:="ranks") (pv 0) rfl) (pv 1) (pe_lst pa_nil) ⟨rfl,rfl,rfl,rfl⟩))
    (pss_cons (ps_set (i:=4) sc_Makes_seen.nd rfl (Or.inl rfl) (pe_call (FnOk.mono (ok_many_below T) (by decide)) hr rfl T.m_many_below T.f_many_below.kp T.b_many_below .nil pass1 (pa_cons (pv 3) (pa_cons (pv 2) pa_nil))))
    (pss_cons (ps_if (pt_cmpR op_eq (pv 4) (pe_int (i:=0)) (nomark _)) (pss_one (ps_ret (pe_dget2 (hu_of hr) (pe_fld (f:="ground") (pv 0) rfl) (pv 1) (pe_int (i:=0)) ⟨rfl,rfl,rfl,rfl⟩)))
      pss_nil)
    (pss_one (ps_ret (pe_dget (hu_of hr) (pe_dget (hu_of hr) (pe_fld (f:="worths") (pv 0) rfl) (pe_ix ix_list (pv 3) (pe_op op_sub (pv 4) (pe_int (i:=1))) (fun _ _=>rfl)) (fun _ _=>rfl)) (pv 1) (fun _ _=>rfl)))))))),rdp_Makes_seen (mkF T) h1 h2 h3 h4 q q2⟩
theorem ok_Makes_table_for (T:Txt K mg t):FnOk P w K mg base (CX1 P w) 3 t.a_Makes_table_for t.d_Makes_table_for ["self","rank"] (sp_Makes_table_for t):=by
  refine T.f_Makes_table_for.ok1 sc_Makes_table_for (fun vs H Q E h=>?_) (fun cdv A outer s H vs Q E hr h=>?_)
  · obtain ⟨m,rank,F,g,lays,low,ps,rfl,_⟩:=h;rfl
  obtain ⟨m,rank,F,g,lays,low,ps,rfl,h1,h2,h3,h4,q,q2⟩:=h
  exact ⟨rd_Makes_table_for K t E,(pss_cons (ps_expr (pe_meth (pv 0) T.cl_Makes T.me_Makes_heed_fold (FnOk.mono (ok_Makes_heed_fold T) (by decide)) hr T.b_Makes_heed_fold .nil pass1 (pa_cons (pv 1) pa_nil)))
    (pss_cons (ps_set (i:=2) sc_Makes_table_for.nd rfl (Or.inl rfl) (pe_op op_cat (pe_callTy (call_list_dict rfl) rfl T.b_list bt_list (pa_cons (pe_fld (f:="ground") (pv 0) rfl) pa_nil)) (pe_callTy (call_list_dict rfl) rfl T.b_list bt_list (pa_cons (pe_fld (f:="ranks") (pv 0) rfl) pa_nil))))
    (pss_one (ps_ret (pe_call (FnOk.mono (ok_table_of T) (by decide)) hr rfl T.m_table_of T.f_table_of.kp T.b_table_of .nil pass1 (pa_cons (pe_comp rfl (osc:=defScope s_Makes_table_for) (N:=["self","rank","places"]) (xs:=["place"]) (ix:=[0,1]) (by decide +kernel) (pi_list (pv 2)) (fun _ _ _ _=>(pg_name (i:=0) (show List.Nodup (["place","self","rank"]:List Str) from (by decide +kernel)) rfl (Or.inl rfl) (.inr rfl))) (fun _ _ _ _=>pts_nil) (fun _ _ _ _=>(pe_tup (pa_cons (pv 0) (pa_cons (pe_meth (pv 1) T.cl_Makes T.me_Makes_seen (FnOk.mono (ok_Makes_seen T) (by decide)) hr T.b_Makes_seen .nil pass10 (pa_cons (pv 0) (pa_cons (pv 2) pa_nil))) pa_nil))))) pa_nil)))))),rdp_Makes_table_for (mkF T) h1 h2 h3 h4 q q2⟩
theorem ok__law_gifts (T:Txt K mg t):FnOk P w K mg base (CX1 P w) 2 t.a__law_gifts t.d__law_gifts ["cell","places"] (sp__law_gifts):=by
  refine T.f__law_gifts.ok0 sc__law_gifts (fun vs H Q E h=>?_) (fun cdv A outer s H vs Q E hr h=>?_)
  · obtain ⟨c,p,ps,F,rfl,_⟩:=h;rfl
  obtain ⟨c,p,ps,F,rfl,h,own,h2,q⟩:=h
  exact ⟨rd__law_gifts K t,(pss_cons (ps_set (i:=2) sc__law_gifts.nd rfl (Or.inl rfl) (pe_call (FnOk.mono (ok__law_drawn T) (by decide)) hr rfl T.m__law_drawn T.f__law_drawn.kp T.b__law_drawn .nil pass10 (pa_cons (pe_op op_fdivB (pv 0) (pe_int (i:=4))) (pa_cons (pe_int (i:=6)) pa_nil))))
    (pss_cons (ps_set (i:=3) sc__law_gifts.nd rfl (Or.inl rfl) (pe_lst pa_nil))
    (pss_cons (ps_set (i:=4) sc__law_gifts.nd rfl (Or.inl rfl) (pe_lst pa_nil))
    (pss_cons (ps_for PassesOwn.never rfl (pi_range1 rfl T.b_range (pa_cons (pe_op op_mod (pv 0) (pe_int (i:=4))) pa_nil)) (pg_name (i:=5) sc__law_gifts.nd rfl (Or.inl rfl)) (pss_cons (ps_set (i:=6) sc__law_gifts.nd rfl (Or.inl rfl) (pe_ix ix_list (pv 1) (pe_op op_mod (pe_ix ix_list (pv 2) (pv 5) (fun _ _=>rfl)) (pe_callB call_len rfl T.b_len bt_len (pa_cons (pv 1) pa_nil))) (fun _ _=>rfl)))
    (pss_one (ps_if (pt_cmpR (op_notInAll (hu64 hr)) (pv 6) (pv 4) (by with_unfolding_all rfl)) (pss_cons (ps_expr (pe_bm PySem.F.plainAttrs_list PySem.F.slot_list_append PySem.F.type_list_append mt_append (pv 4) (pa_cons (pv 6) pa_nil)))
    (pss_one (ps_expr (pe_bm PySem.F.plainAttrs_list PySem.F.slot_list_append PySem.F.type_list_append mt_append (pv 3) (pa_cons (pe_tup (pa_cons (pv 6) (pa_cons (pe_call (FnOk.mono (ok__law_worth T) (by decide)) hr rfl T.m__law_worth T.f__law_worth.kp T.b__law_worth .nil pass10 (pa_cons (pe_ix ix_list (pe_lst (pa_cons (pe_op op_fdivB (pv 0) (pe_int (i:=4))) (pa_cons (pe_ix ix_list (pv 2) (pe_int (i:=3)) (fun _ _=>rfl)) (pa_cons (pe_ix ix_list (pv 2) (pe_int (i:=4)) (fun _ _=>rfl)) pa_nil)))) (pv 5) (fun _ _=>rfl)) pa_nil)) pa_nil))) pa_nil)))))
      pss_nil))))
    (pss_one (ps_ret (pv 3))))))),rdp__law_gifts h own h2 q⟩
theorem ok__law_rank_near (T:Txt K mg t):FnOk P w K mg base (CX1 P w) 1 t.a__law_rank_near t.d__law_rank_near ["low","cell"] (sp__law_rank_near):=by
  refine T.f__law_rank_near.ok0 sc__law_rank_near (fun vs H Q E h=>?_) (fun cdv A outer s H vs Q E hr h=>?_)
  · obtain ⟨low,c,rfl,_⟩:=h;rfl
  obtain ⟨low,c,rfl,h1,h2,q⟩:=h
  exact ⟨rd__law_rank_near K t,(pss_cons (ps_set (i:=2) sc__law_rank_near.nd rfl (Or.inl rfl) (pe_op op_fdivB (pv 1) (pe_int (i:=8))))
    (pss_cons (ps_if (pt_cmpR op_lt (pe_op op_mod (pv 1) (pe_int (i:=8))) (pe_int (i:=3)) (nomark _)) (pss_one (ps_ret (pe_callB (call_max2 rfl) rfl T.b_max bt_max (pa_cons (pe_int (i:=0)) (pa_cons (pe_op op_sub (pe_op op_sub (pv 0) (pe_int (i:=1))) (pe_op op_mod (pv 2) (pe_int (i:=2)))) pa_nil)))))
      pss_nil)
    (pss_cons (ps_if (pt_cmpR op_eq (pe_op op_mod (pv 1) (pe_int (i:=8))) (pe_int (i:=3)) (nomark _)) (pss_one (ps_ret (pe_op op_mod (pe_op op_mulC (pv 2) (pe_int (i:=618033988749894848204586834365))) (pe_op op_add (pv 0) (pe_int (i:=1))))))
      pss_nil)
    (pss_cons (ps_if (pt_cmpR op_eq (pe_op op_mod (pv 1) (pe_int (i:=8))) (pe_int (i:=4)) (nomark _)) (pss_one (ps_ret (pe_int (i:=0))))
      pss_nil)
    (pss_one (ps_ret (pe_callB (call_min2 rfl) rfl T.b_min bt_min (pa_cons (pe_op op_pow (pe_int (i:=10)) (pe_int (i:=29))) (pa_cons (pe_op op_add (pv 0) (pe_op op_mod (pv 2) (pe_int (i:=3)))) pa_nil))))))))),rdp__law_rank_near h1 h2 q⟩
theorem ok_Makes_kept (T:Txt K mg t):FnOk P w K mg base (CX1 P w) 1 t.a_Makes_kept t.d_Makes_kept ["self"] (sp_Makes_kept t):=by
  refine T.f_Makes_kept.ok0 sc_Makes_kept (fun vs H Q E h=>?_) (fun cdv A outer s H vs Q E hr h=>?_)
  · obtain ⟨m,F,g,lays,low,rfl,_⟩:=h;rfl
  obtain ⟨m,F,g,lays,low,rfl,h1,h2,q⟩:=h
  exact ⟨rd_Makes_kept K t,(pss_one (ps_frzK (ps_ret (pe_callB (call_sumL rfl) rfl T.b_sum bt_sum (pa_cons (pe_comp rfl (osc:=defScope s_Makes_kept) (N:=["self"]) (xs:=["rank"]) (ix:=[0]) (by decide +kernel) (pi_dictK (pe_fld (f:="worths") (pv 0) rfl)) (fun _ _ _ _=>(pg_name (i:=0) (show List.Nodup (["rank","self"]:List Str) from (by decide +kernel)) rfl (Or.inl rfl) (.inr rfl))) (fun _ _ _ _=>pts_nil) (fun _ _ _ _=>(pe_callB call_lenT rfl T.b_len bt_len (pa_cons (pe_dget (hu_of hr) (pe_fld (f:="worths") (pv 1) rfl) (pv 0) (fun _ _=>rfl)) pa_nil)))) pa_nil))))),rdp_Makes_kept (mkF T) h1 h2 q⟩
theorem ok__law_whole (T:Txt K mg t):FnOk P w K mg base (CX1 P w) 1 t.a__law_whole t.d__law_whole ["found"] (sp__law_whole):=by
  refine T.f__law_whole.ok0 sc__law_whole (fun vs H Q E h=>?_) (fun cdv A outer s H vs Q E hr h=>?_)
  · obtain ⟨i,rfl,_⟩:=h;rfl
  obtain ⟨i,rfl,q⟩:=h
  exact ⟨rd__law_whole K t,(pss_one (ps_ret (pe_and (pe_callB call_isi rfl T.b_isinstance bt_isinstance (pa_cons (pv 0) (pa_cons (pe_bltn rfl T.b_int bt_int rfl) pa_nil))) (pe_one (pe_not (pe_callB call_isi rfl T.b_isinstance bt_isinstance (pa_cons (pv 0) (pa_cons (pe_bltn rfl T.b_bool bt_bool rfl) pa_nil)))))))),rdp__law_whole (kf K) q⟩
theorem ok__law_seen (T:Txt K mg t):FnOk P w K mg base (CX1 P w) 1 t.a__law_seen t.d__law_seen ["layings","place","rank"] (sp__law_seen):=by
  refine T.f__law_seen.ok0 sc__law_seen (fun vs H Q E h=>?_) (fun cdv A outer s H vs Q E hr h=>?_)
  · obtain ⟨d,p,lays,q0,rank,kvs,rfl,_⟩:=h;rfl
  obtain ⟨d,p,lays,q0,rank,kvs,rfl,h1,h2,h3,h4,h5,h6,q⟩:=h
  exact ⟨rd__law_seen K t,(pss_cons (ps_set (i:=3) sc__law_seen.nd rfl (Or.inl rfl) (pe_int (i:=0)))
    (pss_cons (ps_set (i:=4) sc__law_seen.nd rfl (Or.inl rfl) (pe_un un_neg (pe_int (i:=1))))
    (pss_cons (ps_frzK (ps_for PassesOwn.never rfl (pi_dictK (pv 0)) (pg_name (i:=5) sc__law_seen.nd rfl (Or.inl rfl)) (pss_one (ps_if (PW.pt (pw_and (pt_cmpR op_lt (pv 4) (pv 5) (nomark _)) (pw_and1 (pt_cmpR op_lt (pv 5) (pv 2) (nomark _))))) (pss_one (ps_for PassesOwn.never rfl (pi_list (pe_dget (hu_of hr) (pv 0) (pv 5) (fun _ _=>rfl))) (pg_tup rfl (pgs_cons (pg_name (i:=6) sc__law_seen.nd rfl (Or.inl rfl)) (pgs_cons (pg_name (i:=7) sc__law_seen.nd rfl (Or.inl rfl)) pgs_nil))) (pss_one (ps_if (pt_cmpR (op_eqAll (hu64 hr)) (pv 6) (pv 1) (nomark _)) (pss_cons (ps_set (i:=4) sc__law_seen.nd rfl (Or.inl rfl) (pv 5))
    (pss_one (ps_set (i:=3) sc__law_seen.nd rfl (Or.inl rfl) (pv 7))))
      pss_nil))))
      pss_nil))))
    (pss_one (ps_ret (pv 3)))))),rdp__law_seen h1 h2 h3 h4 h5 h6 q⟩
theorem ok__law_stays (T:Txt K mg t):FnOk P w K mg base (CX1 P w) 3 t.a__law_stays t.d__law_stays ["makes","layings","low","place"] (sp__law_stays t):=by
  refine T.f__law_stays.ok0 sc__law_stays (fun vs H Q E h=>?_) (fun cdv A outer s H vs Q E hr h=>?_)
  · obtain ⟨m,d,p,low,F,lays,ld,ps,q0,rfl,_⟩:=h;rfl
  obtain ⟨m,d,p,low,F,lays,ld,ps,q0,rfl,h1,h2,h3,q⟩:=h
  exact ⟨rd__law_stays K t,(pss_cons (ps_set (i:=4) sc__law_stays.nd rfl (Or.inl rfl) (pe_meth (pv 0) T.cl_Makes T.me_Makes_seen (FnOk.mono (ok_Makes_seen T) (by decide)) hr T.b_Makes_seen .nil pass10 (pa_cons (pv 3) (pa_cons (pv 2) pa_nil))))
    (pss_cons (ps_if (PW.pt (pw_or (pt_not (pt_val (pe_call (FnOk.mono (ok__law_whole T) (by decide)) hr rfl T.m__law_whole T.f__law_whole.kp T.b__law_whole .nil pass10 (pa_cons (pv 4) pa_nil)))) (pw_or1 (pt_cmpR op_ne (pv 4) (pe_call (FnOk.mono (ok__law_seen T) (by decide)) hr rfl T.m__law_seen T.f__law_seen.kp T.b__law_seen .nil pass10 (pa_cons (pv 1) (pa_cons (pv 3) (pa_cons (pv 2) pa_nil)))) (nomark _))))) (pss_one (ps_ret (pe_bl (b:=false))))
      pss_nil)
    (pss_cons (ps_set (i:=4) sc__law_stays.nd rfl (Or.inl rfl) (pe_meth0 (pv 0) T.cl_Makes T.me_Makes_kept (FnOk.mono (ok_Makes_kept T) (by decide)) hr T.b_Makes_kept .nil pass10))
    (pss_cons (ps_frzK (ps_set (i:=5) sc__law_stays.nd rfl (Or.inl rfl) (pe_callB (call_sumL rfl) rfl T.b_sum bt_sum (pa_cons (pe_comp rfl (osc:=defScope s__law_stays) (N:=["makes","layings","low","place","found","due"]) (xs:=["made"]) (ix:=[1,2]) (by decide +kernel) (pi_dictK (pv 1)) (fun _ _ _ _=>(pg_name (i:=0) (show List.Nodup (["made","layings","low"]:List Str) from (by decide +kernel)) rfl (Or.inl rfl) (.inr rfl))) (fun _ _ _ _=>(pts_one (pt_cmpR op_ge (pv 0) (pv 2) (nomark _)))) (fun _ _ _ _=>(pe_callB call_len rfl T.b_len bt_len (pa_cons (pe_dget (hu_of hr) (pv 1) (pv 0) (fun _ _=>rfl)) pa_nil)))) pa_nil))))
    (pss_one (ps_ret (pe_and (pe_call (FnOk.mono (ok__law_whole T) (by decide)) hr rfl T.m__law_whole T.f__law_whole.kp T.b__law_whole .nil pass10 (pa_cons (pv 4) pa_nil)) (pe_one (pe_cmpR op_eq (pv 4) (pv 5) (nomark _)))))))))),rdp__law_stays h1 h2 h3 q⟩
theorem ok__law_due (T:Txt K mg t):FnOk P w K mg base (CX1 P w) 2 t.a__law_due t.d__law_due ["layings","places","rank"] (sp__law_due):=by
  refine T.f__law_due.ok0 sc__law_due (fun vs H Q E h=>?_) (fun cdv A outer s H vs Q E hr h=>?_)
  · obtain ⟨d,p,rank,lays,ps,rfl,_⟩:=h;rfl
  obtain ⟨d,p,rank,lays,ps,rfl,h1,h2,h3,h4,q⟩:=h
  exact ⟨rd__law_due K t,(pss_cons (ps_set (i:=3) sc__law_due.nd rfl (Or.inl rfl) (pe_lst pa_nil))
    (pss_cons (ps_for PassesOwn.never rfl (pi_list (pe_callB (call_sortedP rfl (hu3 hr)) rfl T.b_sorted bt_sorted (pa_cons (pv 1) pa_nil))) (pg_name (i:=4) sc__law_due.nd rfl (Or.inl rfl)) (pss_cons (ps_set (i:=5) sc__law_due.nd rfl (Or.inl rfl) (pe_call (FnOk.mono (ok__law_seen T) (by decide)) hr rfl T.m__law_seen T.f__law_seen.kp T.b__law_seen .nil pass10 (pa_cons (pv 0) (pa_cons (pv 4) (pa_cons (pv 2) pa_nil)))))
    (pss_one (ps_if (pt_cmpR op_ne (pv 5) (pe_int (i:=0)) (nomark _)) (pss_one (ps_expr (pe_bm PySem.F.plainAttrs_list PySem.F.slot_list_append PySem.F.type_list_append mt_append (pv 3) (pa_cons (pe_tup (pa_cons (pv 4) (pa_cons (pv 5) pa_nil))) pa_nil))))
      pss_nil))))
    (pss_one (ps_ret (pv 3))))),rdp__law_due h1 h2 h3 h4 q⟩
theorem ok_Makes_places_of (T:Txt K mg t):FnOk P w K mg base (CX1 P w) 1 t.a_Makes_places_of t.d_Makes_places_of ["self","rank"] (sp_Makes_places_of t):=by
  refine T.f_Makes_places_of.ok0 sc_Makes_places_of (fun vs H Q E h=>?_) (fun cdv A outer s H vs Q E hr h=>?_)
  · obtain ⟨m,rank,F,g,lays,low,rfl,_⟩:=h;rfl
  obtain ⟨m,rank,F,g,lays,low,rfl,h1,q⟩:=h
  exact ⟨rd_Makes_places_of K t,(pss_one (ps_ret (pe_callTy (call_list_dict rfl) rfl T.b_list bt_list (pa_cons (pe_dget2 (hu_of hr) (pe_fld (f:="worths") (pv 0) rfl) (pv 1) pe_dnewT ⟨rfl,rfl,rfl,rfl⟩) pa_nil)))),rdp_Makes_places_of (mkF T) h1 q⟩
theorem ok_drop_rank (T:Txt K mg t):FnOk P w K mg base (CX1 P w) 1 t.a_drop_rank t.d_drop_rank ["ranks_at","place","rank"] (sp_drop_rank):=by
  refine T.f_drop_rank.ok0 sc_drop_rank (fun vs H Q E h=>?_) (fun cdv A outer s H vs Q E hr h=>?_)
  · obtain ⟨rk,pl,rank,G,P,kk,q0,rfl,_⟩:=h;rfl
  obtain ⟨rk,pl,rank,G,P,kk,q0,rfl,h1,h2,h3,h4,q⟩:=h
  exact ⟨rd_drop_rank K t,(pss_cons (ps_set (i:=3) sc_drop_rank.nd rfl (Or.inl rfl) (pe_dget (hu_of hr) (pv 0) (pv 1) (fun _ _=>rfl)))
    (pss_cons (ps_expr (pe_bm PySem.F.plainAttrs_list PySem.F.slot_list_remove PySem.F.type_list_remove mt_remove (pv 3) (pa_cons (pv 2) pa_nil)))
    (pss_one (ps_if (pt_cmpR (op_eqNil (hu64 hr)) (pv 3) (pe_lst pa_nil) (nomark _)) (pss_one (ps_expr (pe_dpopT (hu_of hr) (pv 0) (pv 1) ⟨rfl,rfl,rfl,rfl⟩)))
      pss_nil)))),rdp_drop_rank h1 h2 h3 h4 q⟩
theorem ok_Makes_take_away (T:Txt K mg t):FnOk P w K mg base (CX1 P w) 2 t.a_Makes_take_away t.d_Makes_take_away ["self","rank"] (sp_Makes_take_away t):=by
  refine T.f_Makes_take_away.ok0 sc_Makes_take_away (fun vs H Q E h=>?_) (fun cdv A outer s H vs Q E hr h=>?_)
  · obtain ⟨m,rank,F,g,lays,low,rfl,_⟩:=h;rfl
  obtain ⟨m,rank,F,g,lays,low,rfl,h1,q⟩:=h
  exact ⟨rd_Makes_take_away K t,(pss_cons (ps_set (i:=2) sc_Makes_take_away.nd rfl (Or.inl rfl) (pe_meth (pv 0) T.cl_Makes T.me_Makes_places_of (FnOk.mono (ok_Makes_places_of T) (by decide)) hr T.b_Makes_places_of .nil pass10 (pa_cons (pv 1) pa_nil)))
    (pss_cons (ps_expr (pe_dpop2 (pe_fld (f:="worths") (pv 0) rfl) (pv 1) pe_non ⟨rfl,rfl,rfl,rfl⟩))
    (pss_one (ps_for PassesOwn.never rfl (pi_list (pv 2)) (pg_name (i:=3) sc_Makes_take_away.nd rfl (Or.inl rfl)) (pss_one (ps_expr (pe_call (FnOk.mono (ok_drop_rank T) (by decide)) hr rfl T.m_drop_rank T.f_drop_rank.kp T.b_drop_rank .nil pass10 (pa_cons (pe_fld (f:="ranks") (pv 0) rfl) (pa_cons (pv 3) (pa_cons (pv 1) pa_nil)))))))))),rdp_Makes_take_away (mkF T) h1 q⟩
theorem ok_Makes_fold (T:Txt K mg t):FnOk P w K mg base (CX1 P w) 4 t.a_Makes_fold t.d_Makes_fold ["self","rank"] (sp_Makes_fold t):=by
  refine T.f_Makes_fold.ok1 sc_Makes_fold (fun vs H Q E h=>?_) (fun cdv A outer s H vs Q E hr h=>?_)
  · obtain ⟨m,rank,F,g,lays,low,ps,rfl,_⟩:=h;rfl
  obtain ⟨m,rank,F,g,lays,low,ps,rfl,h1,h2,h3,h4,q,q2⟩:=h
  exact ⟨rd_Makes_fold K t E,(pss_cons (ps_fld (f:="ground") (pv 0) (pe_callTy (call_dict_pairs rfl (hu3 hr)) rfl T.b_dict bt_dict (pa_cons (pe_meth (pv 0) T.cl_Makes T.me_Makes_table_for (FnOk.mono (ok_Makes_table_for T) (by decide)) hr T.b_Makes_table_for .nil pass1 (pa_cons (pv 1) pa_nil)) pa_nil)) rfl)
    (pss_cons (ps_frzK (ps_setComp (j:=2) sc_Makes_fold.nd rfl rfl (Or.inl rfl) (osc:=defScope s_Makes_fold) (N:=["self","rank","lower","laid"]) (xs:=["laid"]) (ix:=[1]) (by decide +kernel) (pi_dictK (pe_fld (f:="worths") (pv 0) rfl)) (fun _ _ _ _=>(pg_name (i:=0) (show List.Nodup (["laid","rank"]:List Str) from (by decide +kernel)) rfl (Or.inl rfl) (.inr rfl))) (fun _ _ _ _=>(pts_one (pt_cmpR op_lt (pv 0) (pv 1) (nomark _)))) (fun _ _ _ _=>(pv 0))))
    (pss_cons (ps_for own1 rfl (pi_list (pv 2)) (pg_name (i:=3) sc_Makes_fold.nd rfl (Or.inl rfl)) (pss_one (ps_expr (pe_meth (pv 0) T.cl_Makes T.me_Makes_take_away (FnOk.mono (ok_Makes_take_away T) (by decide)) hr T.b_Makes_take_away .nil pass1 (pa_cons (pv 3) pa_nil)))))
    (pss_one (ps_fld (f:="folded") (pv 0) (pv 1) rfl))))),rdp_Makes_fold (mkF T) h1 h2 h3 h4 q q2⟩
theorem ok_put_rank (T:Txt K mg t):FnOk P w K mg base (CX1 P w) 2 t.a_put_rank t.d_put_rank ["ranks_at","place","rank"] (sp_put_rank):=by
  refine T.f_put_rank.ok0 sc_put_rank (fun vs H Q E h=>?_) (fun cdv A outer s H vs Q E hr h=>?_)
  · obtain ⟨rk,pl,rank,G,P,kk,q0,rfl,_⟩:=h;rfl
  obtain ⟨rk,pl,rank,G,P,kk,q0,rfl,h1,h2,h3,h4,h5,h6,h7,q⟩:=h
  exact ⟨rd_put_rank K t,(pss_cons (ps_set (i:=3) sc_put_rank.nd rfl (Or.inl rfl) (pe_dsetd (hu_of hr) (pv 0) (pv 1) (pe_lst pa_nil) ⟨rfl,rfl,rfl,rfl⟩))
    (pss_one (ps_expr (pe_bm PySem.F.plainAttrs_list PySem.F.slot_list_insert PySem.F.type_list_insert mt_insert (pv 3) (pa_cons (pe_call (FnOk.mono (ok_many_below T) (by decide)) hr rfl T.m_many_below T.f_many_below.kp T.b_many_below .nil pass10 (pa_cons (pv 3) (pa_cons (pv 2) pa_nil))) (pa_cons (pv 2) pa_nil)))))),rdp_put_rank h1 h2 h3 h4 h5 h6 h7 q⟩
theorem ok_Makes_lay (T:Txt K mg t):FnOk P w K mg base (CX1 P w) 3 t.a_Makes_lay t.d_Makes_lay ["self","rank","gifts"] (sp_Makes_lay t):=by
  refine T.f_Makes_lay.ok1 sc_Makes_lay (fun vs H Q E h=>?_) (fun cdv A outer s H vs Q E hr h=>?_)
  · obtain ⟨m,rank,gv,F,g,lays,low,gs,rfl,_⟩:=h;rfl
  obtain ⟨m,rank,gv,F,g,lays,low,gs,rfl,h1,h2,h3,h4,h5,h6,q,q2⟩:=h
  exact ⟨rd_Makes_lay K t E,(pss_cons (ps_expr (pe_meth (pv 0) T.cl_Makes T.me_Makes_heed_fold (FnOk.mono (ok_Makes_heed_fold T) (by decide)) hr T.b_Makes_heed_fold .nil pass1 (pa_cons (pv 1) pa_nil)))
    (pss_cons (ps_expr (pe_meth (pv 0) T.cl_Makes T.me_Makes_take_away (FnOk.mono (ok_Makes_take_away T) (by decide)) hr T.b_Makes_take_away .nil pass1 (pa_cons (pv 1) pa_nil)))
    (pss_cons (ps_set (i:=3) sc_Makes_lay.nd rfl (Or.inl rfl) (pe_callTy (call_dict_pairs rfl (hu3 hr)) rfl T.b_dict bt_dict (pa_cons (pv 2) pa_nil)))
    (pss_cons (ps_frz (ps_for own1 rfl (pi_dictT (pv 3)) (pg_name (i:=4) sc_Makes_lay.nd rfl (Or.inl rfl)) (pss_one (ps_expr (pe_call (FnOk.mono (ok_put_rank T) (by decide)) hr rfl T.m_put_rank T.f_put_rank.kp T.b_put_rank .nil pass1 (pa_cons (pe_fld (f:="ranks") (pv 0) rfl) (pa_cons (pv 4) (pa_cons (pv 1) pa_nil))))))))
    (pss_one (ps_dput (hu_of hr) (pe_fld (f:="worths") (pv 0) rfl) (pv 1) (pv 3) rfl)))))),rdp_Makes_lay (mkF T) h1 h2 h3 h4 h5 h6 q q2⟩
theorem ok__law_refused (T:Txt K mg t):FnOk P w K mg base (CX1 P w) 5 t.a__law_refused t.d__law_refused ["makes","kind","rank","place","gifts"] (sp__law_refused t):=by
  refine T.f__law_refused.ok0 sc__law_refused (fun vs H Q E h=>?_) (fun cdv A outer s H vs Q E hr h=>?_)
  · obtain ⟨m,p,g,kind,rank,low,F,lays,ld,d,ps,q0,gs,rfl,_⟩:=h;rfl
  obtain ⟨m,p,g,kind,rank,low,F,lays,ld,d,ps,q0,gs,rfl,h1,h2,h3,h4,h5,h6,h7,q⟩:=h
  exact ⟨rd__law_refused K t,(pss_cons (ps_set (i:=5) sc__law_refused.nd rfl (Or.inl rfl) (pe_bl (b:=false)))
    (pss_cons (ps_set (i:=6) sc__law_refused.nd rfl (Or.inl rfl) (pe_bl (b:=false)))
    (pss_cons (ps_set (i:=7) sc__law_refused.nd rfl (Or.inl rfl) (pe_bl (b:=false)))
    (pss_cons (ps_try (i:=8) (And.intro rfl rfl) rfl sc__law_refused.nd (psx_if (pt_cmpR op_eq (pv 1) (pe_int (i:=0)) (nomark _)) (psx_expr (pex_meth (pv 0) T.cl_Makes T.me_Makes_fold (FnOk.mono (ok_Makes_fold T) (by decide)) hr T.b_Makes_fold (pa_cons (pv 2) pa_nil))) (psx_if (pt_cmpR op_eq (pv 1) (pe_int (i:=1)) (nomark _)) (psx_expr (pex_meth (pv 0) T.cl_Makes T.me_Makes_lay (FnOk.mono (ok_Makes_lay T) (by decide)) hr T.b_Makes_lay (pa_cons (pv 2) (pa_cons (pe_callTy call_list_of rfl T.b_list bt_list (pa_cons (pv 4) pa_nil)) pa_nil)))) (psx_if (pt_cmpR op_eq (pv 1) (pe_int (i:=2)) (nomark _)) (psx_expr (pex_meth (pv 0) T.cl_Makes T.me_Makes_seen (FnOk.mono (ok_Makes_seen T) (by decide)) hr T.b_Makes_seen (pa_cons (pv 3) (pa_cons (pv 2) pa_nil)))) (psx_expr (pex_meth (pv 0) T.cl_Makes T.me_Makes_table_for (FnOk.mono (ok_Makes_table_for T) (by decide)) hr T.b_Makes_table_for (pa_cons (pv 2) pa_nil)))))) rfl T.g_ForerunError rfl rfl (fun _=>(pss_cons (ps_set (i:=5) sc__law_refused.nd rfl (Or.inl rfl) (pe_and (pe_callB call_isx rfl T.b_isinstance bt_isinstance (pa_cons (pv 8) (pa_cons (pe_glob rfl T.g_Folded rfl) pa_nil))) (pe_one (pe_callB call_isx rfl T.b_isinstance bt_isinstance (pa_cons (pv 8) (pa_cons (pe_bltn rfl T.b_ValueError bt_ValueError rfl) pa_nil))))))
    (pss_cons (ps_set (i:=6) sc__law_refused.nd rfl (Or.inl rfl) (pe_callB call_isxT rfl T.b_isinstance bt_isinstance (pa_cons (pv 8) (pa_cons (pe_tup (pa_cons (pe_glob rfl T.g_NoNumber rfl) (pa_cons (pe_glob rfl T.g_NoTerm rfl) (pa_cons (pe_glob rfl T.g_NoDealing rfl) (pa_cons (pe_glob rfl T.g_Nought rfl) (pa_cons (pe_glob rfl T.g_Great rfl) pa_nil)))))) pa_nil))))
    (pss_one (ps_set (i:=7) sc__law_refused.nd rfl (Or.inl rfl) (pe_callB call_isxT rfl T.b_isinstance bt_isinstance (pa_cons (pv 8) (pa_cons (pe_tup (pa_cons (pe_glob rfl T.g_NoHand rfl) (pa_cons (pe_glob rfl T.g_NoOrder rfl) (pa_cons (pe_glob rfl T.g_NoLine rfl) (pa_cons (pe_glob rfl T.g_NoLog rfl) pa_nil))))) pa_nil)))))))))
    (pss_one (ps_ret (pe_and (pv 5) (pe_and (pe_not (pv 6)) (pe_one (pe_not (pv 7))))))))))),rdp__law_refused T h1 h2 h3 h4 h5 h6 h7 q⟩
theorem ok__law_asked (T:Txt K mg t):FnOk P w K mg base (CX1 P w) 4 t.a__law_asked t.d__law_asked ["makes","layings","kind","rank","place","places"] (sp__law_asked t):=by
  refine T.f__law_asked.ok0 sc__law_asked (fun vs H Q E h=>?_) (fun cdv A outer s H vs Q E hr h=>?_)
  · obtain ⟨m,d,p,pp,kind,rank,low,F,lays,ld,ps,q0,rfl,_⟩:=h;rfl
  obtain ⟨m,d,p,pp,kind,rank,low,F,lays,ld,ps,q0,rfl,h1,h2,h3,h4,h5,h6,q⟩:=h
  exact ⟨rd__law_asked K t,(pss_cons (ps_if (pt_cmpR op_eq (pv 2) (pe_int (i:=2)) (nomark _)) (pss_cons (ps_set (i:=6) sc__law_asked.nd rfl (Or.inl rfl) (pe_meth (pv 0) T.cl_Makes T.me_Makes_seen (FnOk.mono (ok_Makes_seen T) (by decide)) hr T.b_Makes_seen .nil pass10 (pa_cons (pv 4) (pa_cons (pv 3) pa_nil))))
    (pss_one (ps_ret (pe_and (pe_call (FnOk.mono (ok__law_whole T) (by decide)) hr rfl T.m__law_whole T.f__law_whole.kp T.b__law_whole .nil pass10 (pa_cons (pv 6) pa_nil)) (pe_one (pe_cmpR op_eq (pv 6) (pe_call (FnOk.mono (ok__law_seen T) (by decide)) hr rfl T.m__law_seen T.f__law_seen.kp T.b__law_seen .nil pass10 (pa_cons (pv 1) (pa_cons (pv 4) (pa_cons (pv 3) pa_nil)))) (nomark _)))))))
      pss_nil)
    (pss_cons (ps_set (i:=6) sc__law_asked.nd rfl (Or.inl rfl) (pe_meth (pv 0) T.cl_Makes T.me_Makes_table_for (FnOk.mono (ok_Makes_table_for T) (by decide)) hr T.b_Makes_table_for .nil pass10 (pa_cons (pv 3) pa_nil)))
    (pss_cons (ps_set (i:=7) sc__law_asked.nd rfl (Or.inl rfl) (pe_and (pe_callB call_isi rfl T.b_isinstance bt_isinstance (pa_cons (pv 6) (pa_cons (pe_bltn rfl T.b_list bt_list rfl) pa_nil))) (pe_one (pe_cmpR (op_eqAll (hu64 hr)) (pv 6) (pe_call (FnOk.mono (ok__law_due T) (by decide)) hr rfl T.m__law_due T.f__law_due.kp T.b__law_due .nil pass10 (pa_cons (pv 1) (pa_cons (pv 5) (pa_cons (pv 3) pa_nil)))) (nomark _)))))
    (pss_cons (ps_if (pt_val (pv 7)) (pss_one (ps_expr (pe_bm0 PySem.F.plainAttrs_list PySem.F.slot_list_clear PySem.F.type_list_clear mt_clear (pv 6))))
      pss_nil)
    (pss_one (ps_ret (pv 7))))))),rdp__law_asked h1 h2 h3 h4 h5 h6 q⟩
theorem ok_law (T:Txt K mg t):FnOk P w K mg base (CX1 P w) 6 t.a_law t.d_law ["script"] (sp_law K):=by
  refine T.f_law.ok0 sc_law (fun vs H Q E h=>?_) (fun cdv A outer s H vs Q E hr h=>?_)
  · obtain ⟨a,ns,rfl,_⟩:=h;rfl
  obtain ⟨a,ns,rfl,hS,hn,hb,q⟩:=h
  exact ⟨rd_law K t,(pss_cons (ps_set (i:=1) sc_law.nd rfl (Or.inl rfl) (pe_call (FnOk.mono (ok__law_places T) (by decide)) hr rfl T.m__law_places T.f__law_places.kp T.b__law_places .nil pass10 (pa_cons (pe_call (FnOk.mono (ok__law_cell_at T) (by decide)) hr rfl T.m__law_cell_at T.f__law_cell_at.kp T.b__law_cell_at .nil pass10 (pa_cons (pv 0) (pa_cons (pe_int (i:=0)) pa_nil))) pa_nil)))
    (pss_cons (ps_set (i:=2) sc_law.nd rfl (Or.inl rfl) (pe_make T.mk_Makes (FnOk.mono (ok_Makes_init T) (by decide)) hr rfl T.g_Makes T.b_Makes_init .nil pass10 (pa_cons (pe_lst pa_nil) pa_nil)))
    (pss_cons (ps_set (i:=3) sc_law.nd rfl (Or.inl rfl) pe_dnewK)
    (pss_cons (ps_set (i:=4) sc_law.nd rfl (Or.inl rfl) (pe_int (i:=0)))
    (pss_cons (ps_set (i:=5) sc_law.nd rfl (Or.inl rfl) (pe_op op_add (pe_op op_add (pe_op op_mulC (pe_int (i:=4)) (pe_op op_fdivB (pe_call (FnOk.mono (ok__law_cell_at T) (by decide)) hr rfl T.m__law_cell_at T.f__law_cell_at.kp T.b__law_cell_at .nil pass10 (pa_cons (pv 0) (pa_cons (pe_int (i:=1)) pa_nil))) (pe_int (i:=3)))) (pe_int (i:=1))) (pe_op op_mod (pe_call (FnOk.mono (ok__law_cell_at T) (by decide)) hr rfl T.m__law_cell_at T.f__law_cell_at.kp T.b__law_cell_at .nil pass10 (pa_cons (pv 0) (pa_cons (pe_int (i:=1)) pa_nil))) (pe_int (i:=3)))))
    (pss_cons (ps_set (i:=6) sc_law.nd rfl (Or.inl rfl) (pe_call (FnOk.mono (ok__law_cell_at T) (by decide)) hr rfl T.m__law_cell_at T.f__law_cell_at.kp T.b__law_cell_at .nil pass10 (pa_cons (pv 0) (pa_cons (pe_int (i:=2)) pa_nil))))
    (pss_cons (ps_set (i:=6) sc_law.nd rfl (Or.inl rfl) (pe_ix ix_list (pe_lst (pa_cons (pe_op op_mod (pe_op op_fdivB (pv 6) (pe_int (i:=3))) (pe_int (i:=6))) (pa_cons (pe_op op_mod (pe_op op_fdivB (pv 6) (pe_int (i:=3))) (pe_op op_add (pe_op op_pow (pe_int (i:=10)) (pe_int (i:=29))) (pe_int (i:=1)))) (pa_cons (pe_op op_sub (pe_op op_pow (pe_int (i:=10)) (pe_int (i:=29))) (pe_op op_mod (pe_op op_fdivB (pv 6) (pe_int (i:=3))) (pe_int (i:=2)))) pa_nil)))) (pe_op op_mod (pv 6) (pe_int (i:=3))) (fun _ _=>rfl)))
    (pss_cons (ps_set (i:=7) sc_law.nd rfl (Or.inl rfl) (pe_lst (pa_cons (pe_tup (pa_cons (pe_int (i:=0)) (pa_cons (pe_int (i:=1)) (pa_cons (pv 5) pa_nil)))) (pa_cons (pe_tup (pa_cons (pe_int (i:=0)) (pa_cons (pe_int (i:=2)) (pa_cons (pe_int (i:=1)) pa_nil)))) (pa_cons (pe_tup (pa_cons (pe_int (i:=0)) (pa_cons (pe_int (i:=3)) (pa_cons (pe_int (i:=1)) pa_nil)))) (pa_cons (pe_tup (pa_cons (pe_int (i:=0)) (pa_cons (pe_int (i:=0)) (pa_cons (pe_int (i:=1)) pa_nil)))) (pa_cons (pe_tup (pa_cons (pv 6) (pa_cons (pe_int (i:=0)) (pa_cons (pe_int (i:=1)) pa_nil)))) pa_nil)))))))
    (pss_cons (ps_for PassesOwn.never rfl (pi_list (pe_slice sl_list (pv 0) (po_some (pe_int (i:=3))) (po_some (pe_int (i:=123))))) (pg_name (i:=8) sc_law.nd rfl (Or.inl rfl)) (pss_one (ps_expr (pe_bm PySem.F.plainAttrs_list PySem.F.slot_list_append PySem.F.type_list_append mt_append (pv 7) (pa_cons (pe_tup (pa_cons pe_non (pa_cons (pe_op op_mod (pv 8) (pe_int (i:=4))) (pa_cons (pe_op op_fdivB (pv 8) (pe_int (i:=4))) pa_nil)))) pa_nil)))))
    (pss_cons (ps_for PassesOwn.never rfl (pi_list (pv 7)) (pg_tup rfl (pgs_cons (pg_name (i:=9) sc_law.nd rfl (Or.inl rfl)) (pgs_cons (pg_name (i:=10) sc_law.nd rfl (Or.inl rfl)) (pgs_cons (pg_name (i:=8) sc_law.nd rfl (Or.inl rfl)) pgs_nil)))) (pss_cons (ps_set (i:=11) sc_law.nd rfl (Or.inl rfl) (pe_call (FnOk.mono (ok__law_drawn T) (by decide)) hr rfl T.m__law_drawn T.f__law_drawn.kp T.b__law_drawn .nil pass10 (pa_cons (pe_op op_fdivB (pv 8) (pe_int (i:=4))) (pa_cons (pe_int (i:=9)) pa_nil))))
    (pss_cons (ps_set (i:=12) sc_law.nd rfl (Or.inl rfl) (pe_ix ix_list (pv 1) (pe_op op_mod (pe_ix ix_list (pv 11) (pe_int (i:=6)) (fun _ _=>rfl)) (pe_callB call_len rfl T.b_len bt_len (pa_cons (pv 1) pa_nil))) (fun _ _=>rfl)))
    (pss_cons (ps_set (i:=13) sc_law.nd rfl (Or.inl rfl) (pe_call (FnOk.mono (ok__law_gifts T) (by decide)) hr rfl T.m__law_gifts T.f__law_gifts.kp T.b__law_gifts .nil pass10 (pa_cons (pv 8) (pa_cons (pv 1) pa_nil))))
    (pss_cons (ps_if (pt_cmpR op_isN (pv 9) pe_non (nomark _)) (pss_one (ps_set (i:=9) sc_law.nd rfl (Or.inl rfl) (pe_call (FnOk.mono (ok__law_rank_near T) (by decide)) hr rfl T.m__law_rank_near T.f__law_rank_near.kp T.b__law_rank_near .nil pass10 (pa_cons (pv 4) (pa_cons (pe_ix ix_list (pv 11) (pe_int (i:=7)) (fun _ _=>rfl)) pa_nil)))))
      pss_nil)
    (pss_cons (ps_if (pt_cmpR op_lt (pv 9) (pv 4) (nomark _)) (pss_one (ps_if (pt_not (pt_val (pe_call (FnOk.mono (ok__law_refused T) (by decide)) hr rfl T.m__law_refused T.f__law_refused.kp T.b__law_refused .nil pass10 (pa_cons (pv 2) (pa_cons (pv 10) (pa_cons (pv 9) (pa_cons (pv 12) (pa_cons (pv 13) pa_nil)))))))) (pss_one (ps_ret (pe_bl (b:=false))))
      pss_nil))
      (pss_one (ps_if (pt_cmpR op_eq (pv 10) (pe_int (i:=0)) (nomark _)) (pss_cons (ps_expr (pe_meth (pv 2) T.cl_Makes T.me_Makes_fold (FnOk.mono (ok_Makes_fold T) (by decide)) hr T.b_Makes_fold .nil pass10 (pa_cons (pv 9) pa_nil)))
    (pss_one (ps_set (i:=4) sc_law.nd rfl (Or.inl rfl) (pv 9))))
      (pss_one (ps_if (pt_cmpR op_eq (pv 10) (pe_int (i:=1)) (nomark _)) (pss_cons (ps_expr (pe_meth (pv 2) T.cl_Makes T.me_Makes_lay (FnOk.mono (ok_Makes_lay T) (by decide)) hr T.b_Makes_lay .nil pass10 (pa_cons (pv 9) (pa_cons (pe_callTy call_list_of rfl T.b_list bt_list (pa_cons (pv 13) pa_nil)) pa_nil))))
    (pss_one (ps_dput (hu_of hr) (pv 3) (pv 9) (pv 13) rfl)))
      (pss_one (ps_if (pt_not (pt_val (pe_call (FnOk.mono (ok__law_asked T) (by decide)) hr rfl T.m__law_asked T.f__law_asked.kp T.b__law_asked .nil pass10 (pa_cons (pv 2) (pa_cons (pv 3) (pa_cons (pv 10) (pa_cons (pv 9) (pa_cons (pv 12) (pa_cons (pv 1) pa_nil))))))))) (pss_one (ps_ret (pe_bl (b:=false))))
      pss_nil)))))))
    (pss_one (ps_if (pt_not (pt_val (pe_call (FnOk.mono (ok__law_stays T) (by decide)) hr rfl T.m__law_stays T.f__law_stays.kp T.b__law_stays .nil pass10 (pa_cons (pv 2) (pa_cons (pv 3) (pa_cons (pv 4) (pa_cons (pv 12) pa_nil))))))) (pss_one (ps_ret (pe_bl (b:=false))))
      pss_nil))))))))
    (pss_cons (ps_set (i:=14) sc_law.nd rfl (Or.inl rfl) (pe_meth (pv 2) T.cl_Makes T.me_Makes_table_for (FnOk.mono (ok_Makes_table_for T) (by decide)) hr T.b_Makes_table_for .nil pass10 (pa_cons (pv 4) pa_nil)))
    (pss_one (ps_ret (pe_and (pe_callB call_isi rfl T.b_isinstance bt_isinstance (pa_cons (pv 14) (pa_cons (pe_bltn rfl T.b_list bt_list rfl) pa_nil))) (pe_one (pe_cmpR (op_eqAll (hu64 hr)) (pv 14) (pe_call (FnOk.mono (ok__law_due T) (by decide)) hr rfl T.m__law_due T.f__law_due.kp T.b__law_due .nil pass10 (pa_cons (pv 3) (pa_cons (pv 1) (pa_cons (pv 4) pa_nil)))) (nomark _))))))))))))))))),rdp_law hS hn hb q⟩
end
end K35
open PySem PySem.W PyProof.Rows
def PySem.W.Fast.tw841863426094579389:Unit:=()
def PySem.W.Fast.tw18294274495593352498:Unit:=()
def PySem.W.Fast.tw11497427720587993904:Unit:=()
def PySem.W.Fast.tw13635651819099390116:Unit:=()
def PySem.W.Fast.tw10851010950933244535:Unit:=()
def PySem.W.Fast.tw13379257556252923983:Unit:=()
def PySem.W.Fast.tw14876038687043446845:Unit:=()
def PySem.W.Fast.tw8843586105790748208:Unit:=()
def PySem.W.Fast.tw11250696724869180554:Unit:=()
def PySem.W.Fast.tw5168429989920665724:Unit:=()
def PySem.W.Fast.tw12302644573336199430:Unit:=()
def PySem.W.Fast.tw9577145597432794311:Unit:=()
def PySem.W.Fast.tw7623187661672499682:Unit:=()
def PySem.W.Fast.tw15996533212033505204:Unit:=()
def PySem.W.Fast.tw7032947870815138752:Unit:=()
def PySem.W.Fast.tw16353846282239390975:Unit:=()
def PySem.W.Fast.tw17938674020569648928:Unit:=()
def PySem.W.Fast.tw14172185454988924442:Unit:=()
def PySem.W.Fast.tw7495366869558558994:Unit:=()
def PySem.W.Fast.tw5920562062069170405:Unit:=()
def PySem.W.Fast.tw16918647534218544984:Unit:=()
def PySem.W.Fast.tw14590159541703641165:Unit:=()
def PySem.W.Fast.tw18113653773462923136:Unit:=()
def PySem.W.Fast.tw9036600310304180184:Unit:=()
def PySem.W.Fast.tw14272101258235060415:Unit:=()
def PySem.W.Fast.tw11696141322791242844:Unit:=()
def PySem.W.Fast.tw11766615663209964967:Unit:=()
def PySem.W.Fast.tw2877241724237220423:Unit:=()
def PySem.W.Fast.tw2014632447496254442:Unit:=()
def PySem.W.Fast.tw15194043430476435480:Unit:=()
def PySem.W.Fast.tw17985951123679393956:Unit:=()
def PySem.W.Fast.tw4050924106257537365:Unit:=()
def PySem.W.Fast.tw17044849054172164798:Unit:=()
def PySem.W.Fast.tw1488716017178303575:Unit:=()
def PySem.W.Fast.tw13080078717381164986:Unit:=()
def PySem.W.Fast.tw18241560209304839388:Unit:=()
def PySem.W.Fast.tw4964560101718300154:Unit:=()
def PySem.W.Fast.tw9510340596675799705:Unit:=()
def PySem.W.Fast.tw8380225311540957062:Unit:=()
def PySem.W.Fast.tw2406232412561202521:Unit:=()
def PySem.W.Fast.tw13275191446157344203:Unit:=()
def PySem.W.Fast.tw2599567148918431966:Unit:=()
def PySem.W.Fast.tw9068398325075482133:Unit:=()
def PySem.W.Fast.tw13081706021290016195:Unit:=()
def PySem.W.Fast.tw15401146891865953781:Unit:=()
def PySem.W.Fast.tw3368928357176110299:Unit:=()
def PySem.W.Fast.tw16441040137756317187:Unit:=()
def PySem.W.Fast.tw16224474797722644319:Unit:=()
def PySem.W.Fast.tw9722165062891682163:Unit:=()
def PySem.W.Fast.tw13377961165559184503:Unit:=()
def PySem.W.Fast.tw18256232001536341057:Unit:=()
def PySem.W.Fast.tw13879862148758148485:Unit:=()
def PySem.W.Fast.tw7554274283685209009:Unit:=()
def PySem.W.Fast.tw15741226562382492304:Unit:=()
def PySem.W.Fast.tw4256065501813286914:Unit:=()
def PySem.W.Fast.tw3409477896285922805:Unit:=()
def PySem.W.Fast.tw17101479104101984017:Unit:=()
def PySem.W.Fast.tw16391472324524708137:Unit:=()
def PySem.W.Fast.tw14675195830541451983:Unit:=()
def PySem.W.Fast.tw9002235732118202870:Unit:=()
def PySem.W.Fast.tw6070062585612439973:Unit:=()
def PySem.W.Fast.tw8358780113350739321:Unit:=()
def PySem.W.Fast.tw16351598181686178932:Unit:=()
def PySem.W.Fast.tw2390564684708406471:Unit:=()
def PySem.W.Fast.tw9453390693420091111:Unit:=()
def PySem.W.Fast.tw16103459597370432966:Unit:=()
def PySem.W.Fast.tw4412702534071406273:Unit:=()
def PySem.W.Fast.tw9666785582403009366:Unit:=()
def PySem.W.Fast.tw11003682690316263676:Unit:=()
def PySem.W.Fast.tw13790537741100305863:Unit:=()
def PySem.W.Fast.tw14380264811752013512:Unit:=()
def PySem.W.Fast.tw6489892708928859278:Unit:=()
def PySem.W.Fast.tw4000660969799099262:Unit:=()
def PySem.W.Fast.tw153599282016959342:Unit:=()
def PySem.W.Fast.tw18443590588875212907:Unit:=()
def PySem.W.Fast.tw1736920550362780002:Unit:=()
def PySem.W.Fast.tw15166782635298163030:Unit:=()
def PySem.W.Fast.tw7637921061963316262:Unit:=()
def PySem.W.Fast.tw3928171351235404921:Unit:=()
def PySem.W.Fast.tw2326323389196092060:Unit:=()
def PySem.W.Fast.tw9526319390027390950:Unit:=()
def PySem.W.Fast.tw10600249016949555125:Unit:=()
def PySem.W.Fast.tw17267237836113567090:Unit:=()
def PySem.W.Fast.tw13599466694361230950:Unit:=()
def PySem.W.Fast.tw15495876186569980005:Unit:=()
def PySem.W.Fast.tw7921054104739952398:Unit:=()
def PySem.W.Fast.tw8685423893057195244:Unit:=()
def PySem.W.Fast.tw7819170644075300118:Unit:=()
def PySem.W.Fast.tw12686248221148413931:Unit:=()
def PySem.W.Fast.tw258764043155036123:Unit:=()
def PySem.W.Fast.tw15764197608530404581:Unit:=()
def PySem.W.Fast.tw6188048682623383385:Unit:=()
def PySem.W.Fast.tw5407132705868153151:Unit:=()
def PySem.W.Fast.tw10990690325009186395:Unit:=()
def PySem.W.Fast.tw12810350848057405639:Unit:=()
def PySem.W.Fast.tw2909778532231132244:Unit:=()
def PySem.W.Fast.tw11072636492579771138:Unit:=()
def PySem.W.Fast.tw11512303812642565399:Unit:=()
def PySem.W.Fast.tw16695892841539542063:Unit:=()
def PySem.W.Fast.tw4850188298138968015:Unit:=()
def PySem.W.Fast.tw1803923123453611035:Unit:=()
def PySem.W.Fast.tw4973050837788344815:Unit:=()
def PySem.W.Fast.tw8627888799609208855:Unit:=()
def PySem.W.Fast.tw14863453119345086897:Unit:=()
def PySem.W.Fast.tw16924979208636010790:Unit:=()
def PySem.W.Fast.tw9071544337289137280:Unit:=()
def PySem.W.Fast.tw11654129333172242047:Unit:=()
def PySem.W.Fast.tw11236375009689202238:Unit:=()
def PySem.W.Fast.tw9115362072734035127:Unit:=()
def PySem.W.Fast.tw1560697872590281369:Unit:=()
def PySem.W.Fast.tw14768740750987356861:Unit:=()
def PySem.W.Fast.tw12624707748749468958:Unit:=()
def PySem.W.Fast.tw13630265382734558059:Unit:=()
def PySem.W.Fast.tw6120044234736578604:Unit:=()
def PySem.W.Fast.tw12347722418481812109:Unit:=()
def PySem.W.Fast.tw2463898545607447856:Unit:=()
def PySem.W.Fast.tw4729165640612892091:Unit:=()
def PySem.W.Fast.tw7862552231009246094:Unit:=()
def PySem.W.Fast.tw15310973103888518672:Unit:=()
def PySem.W.Fast.tw617694080751616081:Unit:=()
def PySem.W.Fast.tw16160694825382479958:Unit:=()
def PySem.W.Fast.tw12748421998558016402:Unit:=()
def PySem.W.Fast.tw16477690081939145775:Unit:=()
def PySem.W.Fast.tw17402368127890832031:Unit:=()
def PySem.W.Fast.tw17756698323342257958:Unit:=()
def PySem.W.Fast.tw10695696033141221755:Unit:=()
def PySem.W.Fast.tw14311038214777150131:Unit:=()
def PySem.W.Fast.tw8644939180654429466:Unit:=()
def PySem.W.Fast.tw10705124098437654748:Unit:=()
def PySem.W.Fast.tw15455789338751546722:Unit:=()
def PySem.W.Fast.tw9818467980103024035:Unit:=()
def PySem.W.Fast.tw17418846827617580479:Unit:=()
def PySem.W.Fast.tw6083955605125535651:Unit:=()
def PySem.W.Fast.tw9945029823203362746:Unit:=()
def PySem.W.Fast.tw13280200285937949849:Unit:=()
def PySem.W.Fast.tw7251011643105493639:Unit:=()
def PySem.W.Fast.tw3177714821271749406:Unit:=()
def PySem.W.Fast.tw12072770976562522912:Unit:=()
def PySem.W.Fast.tw6863026598985091148:Unit:=()
def PySem.W.Fast.tw1237115241694415910:Unit:=()
def PySem.W.Fast.tw13481708617259043533:Unit:=()
def PySem.W.Fast.tw16555868021565058640:Unit:=()
def PySem.W.Fast.tw11876619832289228351:Unit:=()
def PySem.W.Fast.tw13724432675542071462:Unit:=()
def PySem.W.Fast.tw11883519811857854178:Unit:=()
def PySem.W.Fast.tw16032837904189137392:Unit:=()
def PySem.W.Fast.tw17530834706669431480:Unit:=()
def PySem.W.Fast.tw13056800434025574631:Unit:=()
def PySem.W.Fast.tw11292770696081817832:Unit:=()
def PySem.W.Fast.tw8745725069862815380:Unit:=()
def PySem.W.Fast.tw18374703752521997231:Unit:=()
def PySem.W.Fast.tw17101552078389955757:Unit:=()
def PySem.W.Fast.tw1815811831314595516:Unit:=()
def PySem.W.Fast.tw4837492631726912229:Unit:=()
def PySem.W.Fast.tw18439815238670454881:Unit:=()
def PySem.W.Fast.tw1121494635945786004:Unit:=()
def PySem.W.Fast.tw6704282677765805083:Unit:=()
def PySem.W.Fast.tw3591939324507283160:Unit:=()
def PySem.W.Fast.tw507330800280669053:Unit:=()
def PySem.W.Fast.tw12083435794384644040:Unit:=()
def PySem.W.Fast.tw9628454704328604557:Unit:=()
def PySem.W.Fast.tw5567466103878589465:Unit:=()
def PySem.W.Fast.tw16204019443471245502:Unit:=()
def PySem.W.Fast.tw6342568647761785435:Unit:=()
def PySem.W.Fast.tw9702614849428238928:Unit:=()
def PySem.W.Fast.tw15545799478898178524:Unit:=()
def PySem.W.Fast.tw14663556066199033359:Unit:=()
def PySem.W.Fast.tw2213614386790793287:Unit:=()
def PySem.W.Fast.tw2320108294019139274:Unit:=()
def PySem.W.Fast.tw12574240258647113601:Unit:=()
def PySem.W.Fast.tw6810865264282689403:Unit:=()
def PySem.W.Fast.tw403009388058365215:Unit:=()
def PySem.W.Fast.tw17080892064315152729:Unit:=()
def PySem.W.Fast.tw17819115294301395205:Unit:=()
def PySem.W.Fast.tw11318049148437399498:Unit:=()
def PySem.W.Fast.tw13691279310491449998:Unit:=()
def PySem.W.Fast.tw16005271065972299012:Unit:=()
def PySem.W.Fast.tw242803110233333008:Unit:=()
def PySem.W.Fast.tw12297696941558886977:Unit:=()
def PySem.W.Fast.tw14294793267875193838:Unit:=()
def PySem.W.Fast.tw13857725257411152111:Unit:=()
def PySem.W.Fast.tw14876552586000454524:Unit:=()
def PySem.W.Fast.tw14554186238870337680:Unit:=()
def PySem.W.Fast.tw10427044894597618821:Unit:=()
def PySem.W.Fast.tw8929093420851060984:Unit:=()
def PySem.W.Fast.tw10702833233481307544:Unit:=()
def PySem.W.Fast.tw3461812468611429157:Unit:=()
def PySem.W.Fast.tw2400261460695006533:Unit:=()
def PySem.W.Fast.tw14401415511404078592:Unit:=()
def PySem.W.Fast.tw12358809979899968513:Unit:=()
def PySem.W.Fast.tw2891433125727402524:Unit:=()
def PySem.W.Fast.tw5572192418190814209:Unit:=()
def PySem.W.Fast.tw15225935444129855269:Unit:=()
def PySem.W.Fast.tw1923880852887466228:Unit:=()
def PySem.W.Fast.tw16525808874431303327:Unit:=()
def PySem.W.Fast.tw4808809981635283499:Unit:=()
def PySem.W.Fast.tw16069126396925356053:Unit:=()
def PySem.W.Fast.tw376746195054396958:Unit:=()
def PySem.W.Fast.tw14705994953090281895:Unit:=()
def PySem.W.Fast.tw9383986213961483064:Unit:=()
def PySem.W.Fast.tw394387869459263978:Unit:=()
def PySem.W.Fast.tw4446418471925073284:Unit:=()
def PySem.W.Fast.tw6656281754422296138:Unit:=()
def PySem.W.Fast.tw11709735452652203487:Unit:=()
def PySem.W.Fast.tw16318824328457463281:Unit:=()
def PySem.W.Fast.tw16787485344628109741:Unit:=()
def PySem.W.Fast.tw7413305783160341138:Unit:=()
def PySem.W.Fast.tw10800391463760874870:Unit:=()
def PySem.W.Fast.tw9378835419065696933:Unit:=()
def PySem.W.Fast.tw6982581843913051802:Unit:=()
def PySem.W.Fast.tw14798981865025186243:Unit:=()
def PySem.W.Fast.tw6485335959331834169:Unit:=()
def PySem.W.Fast.tw4411801688494332783:Unit:=()
def PySem.W.Fast.tw5176671713533220622:Unit:=()
def PySem.W.Fast.tw4034028528508476898:Unit:=()
def PySem.W.Fast.tw1962642168786619458:Unit:=()
def PySem.W.Fast.tw8824135578116770340:Unit:=()
def PySem.W.Fast.tw12556564774977243405:Unit:=()
def PySem.W.Fast.tw15259649365360430531:Unit:=()
def PySem.W.Fast.tw11228944635720799303:Unit:=()
def PySem.W.Fast.tw10415792407255055668:Unit:=()
def PySem.W.Fast.tw16264578875814302939:Unit:=()
def PySem.W.Fast.tw16467673122105003398:Unit:=()
def PySem.W.Fast.tw1731470553905365234:Unit:=()
def PySem.W.Fast.tw1080006692582710353:Unit:=()
def PySem.W.Fast.tw14267211296910850078:Unit:=()
def PySem.W.Fast.tw734463109900761756:Unit:=()
def PySem.W.Fast.tw5901771410729588578:Unit:=()
def PySem.W.Fast.tw14242468684001875950:Unit:=()
def PySem.W.Fast.tw5554575923123770177:Unit:=()
def PySem.W.Fast.tw14388822618228164799:Unit:=()
def PySem.W.Fast.tw10020644927488101948:Unit:=()
def PySem.W.Fast.tw14314086238836780930:Unit:=()
def PySem.W.Fast.tw11687483789688530561:Unit:=()
def PySem.W.Fast.tw15427356358257689274:Unit:=()
def PySem.W.Fast.tw8716680822823516356:Unit:=()
def PySem.W.Fast.tw16448108410169493298:Unit:=()
def PySem.W.Fast.tw15791737545259127720:Unit:=()
def PySem.W.Fast.tw7318366229810350046:Unit:=()
def PySem.W.Fast.tw1607853331573861450:Unit:=()
def PySem.W.Fast.tw18026639470671937030:Unit:=()
def PySem.W.Fast.tw8422915788332630410:Unit:=()
def PySem.W.Fast.tw4312858574413304027:Unit:=()
def PySem.W.Fast.tw545633310733778526:Unit:=()
def PySem.W.Fast.tw13410324725478851443:Unit:=()
def PySem.W.Fast.tw1079746447937174395:Unit:=()
def PySem.W.Fast.tw1476581681438362811:Unit:=()
def PySem.W.Fast.tw17561130349783237889:Unit:=()
def PySem.W.Fast.tw14850020757995053748:Unit:=()
def PySem.W.Fast.tw2441399055623521247:Unit:=()
def PySem.W.Fast.tw8850379582136307137:Unit:=()
def PySem.W.Fast.tw7240698232922955615:Unit:=()
def PySem.W.Fast.tw15776619049917872969:Unit:=()
def PySem.W.Fast.tw11264604495146844692:Unit:=()
def PySem.W.Fast.tw14154692209757894189:Unit:=()
def PySem.W.Fast.tw15560827443272847467:Unit:=()
def PySem.W.Fast.tw14934944260656371977:Unit:=()
def PySem.W.Fast.tw5790504255273378627:Unit:=()
def PySem.W.Fast.tw17646539281842831534:Unit:=()
def PySem.W.Fast.tw4100739799707083632:Unit:=()
def PySem.W.Fast.tw12215189717459648038:Unit:=()
def PySem.W.Fast.tw7305157713970269980:Unit:=()
def PySem.W.Fast.tw681578959871713295:Unit:=()
def PySem.W.Fast.tw16407771428961179418:Unit:=()
def PySem.W.Fast.tw11149293722709039035:Unit:=()
def PySem.W.Fast.tw18026241846080227930:Unit:=()
def PySem.W.Fast.tw16803053360732039602:Unit:=()
def PySem.W.Fast.tw359723908499371887:Unit:=()
def PySem.W.Fast.tw11156894975599223880:Unit:=()
def PySem.W.Fast.tw1305906611909858632:Unit:=()
def PySem.W.Fast.tw16437139774459809423:Unit:=()
def PySem.W.Fast.tw18383376902805127440:Unit:=()
def PySem.W.Fast.tw4800655508649144833:Unit:=()
def PySem.W.Fast.tw15355425889494735341:Unit:=()
def PySem.W.Fast.tw2560283686569243841:Unit:=()
def PySem.W.Fast.tw7576264729370347727:Unit:=()
def PySem.W.Fast.tw7888815405125845873:Unit:=()
def PySem.W.Fast.tw334327503357981090:Unit:=()
def PySem.W.Fast.tw339096862396766759:Unit:=()
def PySem.W.Fast.tw17542884227622458807:Unit:=()
def PySem.W.Fast.tw8974960923647932050:Unit:=()
def PySem.W.Fast.tw14670729573145129930:Unit:=()
def PySem.W.Fast.tw15623223475027083601:Unit:=()
def PySem.W.Fast.tw11839602278531395191:Unit:=()
def PySem.W.Fast.tw1798748206755783028:Unit:=()
def PySem.W.Fast.tw13720830072936771268:Unit:=()
def PySem.W.Fast.tw5239324264596872411:Unit:=()
def PySem.W.Fast.tw10923518658087213557:Unit:=()
def PySem.W.Fast.tw1446269074751825895:Unit:=()
def PySem.W.Fast.tw15853883476941284295:Unit:=()
def PySem.W.Fast.tw8946351176086376185:Unit:=()
def PySem.W.Fast.tw15360287234498939682:Unit:=()
def PySem.W.Fast.tw15217486888389964148:Unit:=()
def PySem.W.Fast.tw12358481910306293398:Unit:=()
def PySem.W.Fast.tw9280554401147645532:Unit:=()
def PySem.W.Fast.tw5987385444622509318:Unit:=()
def PySem.W.Fast.tw6221283193772394256:Unit:=()
def PySem.W.Fast.tw3267457680469542606:Unit:=()
def PySem.W.Fast.tw667533047800673893:Unit:=()
def PySem.W.Fast.tw16579370266566583410:Unit:=()
def PySem.W.Fast.tw15730991435704558316:Unit:=()
def PySem.W.Fast.tw16764221605215781022:Unit:=()
def PySem.W.Fast.tw17006886976644341031:Unit:=()
def PySem.W.Fast.tw3164431389527144604:Unit:=()
def PySem.W.Fast.tw16083311746496675057:Unit:=()
def PySem.W.Fast.tw16921931597150643326:Unit:=()
def PySem.W.Fast.tw13226503604677535319:Unit:=()
def PySem.W.Fast.tw890598186407939410:Unit:=()
def PySem.W.Fast.tw2703246438753480044:Unit:=()
def PySem.W.Fast.tw1532067849378334905:Unit:=()
def PySem.W.Fast.tw12604451208262124646:Unit:=()
def PySem.W.Fast.tw14848948194536980795:Unit:=()
def PySem.W.Fast.tw2670986082762452571:Unit:=()
def PySem.W.Fast.tw12066384891680191125:Unit:=()
def PySem.W.Fast.tw17249818118617898748:Unit:=()
def PySem.W.Fast.tw17967184699980508205:Unit:=()
def PySem.W.Fast.tw17825082781398462981:Unit:=()
def PySem.W.Fast.tw17387873237433882485:Unit:=()
def PySem.W.Fast.tw1589269540597006855:Unit:=()
def PySem.W.Fast.tw2209845947351199235:Unit:=()
def PySem.W.Fast.tw2969026115385683463:Unit:=()
def PySem.W.Fast.tw5363023367777842281:Unit:=()
def PySem.W.Fast.tw8501818529443808694:Unit:=()
def PySem.W.Fast.tw9706498719780524399:Unit:=()
def PySem.W.Fast.tw502805061776277480:Unit:=()
def PySem.W.Fast.tw2785756125058405354:Unit:=()
def PySem.W.Fast.tw12196662165894611814:Unit:=()
def PySem.W.Fast.tw12661031850122048000:Unit:=()
def PySem.W.Fast.tw11554190452336789854:Unit:=()
def PySem.W.Fast.tw7621123844589042185:Unit:=()
def PySem.W.Fast.tw9897213872975534617:Unit:=()
def PySem.W.Fast.tw15527715410636896205:Unit:=()
def PySem.W.Fast.tw504969686873778646:Unit:=()
def PySem.W.Fast.tw4972617989564425270:Unit:=()
def PySem.W.Fast.tw11552502736806681932:Unit:=()
def PySem.W.Fast.tw8833381936626523492:Unit:=()
def PySem.W.Fast.tw1732392280929532017:Unit:=()
def PySem.W.Fast.tw7501854074742932061:Unit:=()
def PySem.W.Fast.tw9202057819302643982:Unit:=()
def PySem.W.Fast.tw4429428406148554678:Unit:=()
def PySem.W.Fast.tw826995692678301876:Unit:=()
def PySem.W.Fast.tw9493512349504426930:Unit:=()
def PySem.W.Fast.tw13073284070790330599:Unit:=()
def PySem.W.Fast.tw9814260252021113408:Unit:=()
def PySem.W.Fast.tw13129191752652036214:Unit:=()
def PySem.W.Fast.tw14138101669526800247:Unit:=()
def PySem.W.Fast.tw13829870560240717139:Unit:=()
def PySem.W.Fast.tw14938589263055429761:Unit:=()
def PySem.W.Fast.tw5731610665512915833:Unit:=()
def PySem.W.Fast.tw641511685140767036:Unit:=()
def PySem.W.Fast.tw7146581614722667606:Unit:=()
def PySem.W.Fast.tw4583196090950507233:Unit:=()
def PySem.W.Fast.tw7535870573622086550:Unit:=()
def PySem.W.Fast.tw13133879280584236890:Unit:=()
def PySem.W.Fast.tw5976580205908067715:Unit:=()
def PySem.W.Fast.tw15858070330011180754:Unit:=()
def PySem.W.Fast.tw3850102403174411344:Unit:=()
def PySem.W.Fast.tw8147211125454989811:Unit:=()
def PySem.W.Fast.tw11465138720041492778:Unit:=()
def PySem.W.Fast.tw15302452653327409361:Unit:=()
def PySem.W.Fast.tw5631428637201071149:Unit:=()
def PySem.W.Fast.tw15121335016323528238:Unit:=()
def PySem.W.Fast.tw11330139621588919640:Unit:=()
def PySem.W.Fast.tw14221589201237262069:Unit:=()
def PySem.W.Fast.tw2405291340885152568:Unit:=()
def PySem.W.Fast.tw15827415526739816114:Unit:=()
def PySem.W.Fast.tw3904815678785657833:Unit:=()
def PySem.W.Fast.tw5756853256302485519:Unit:=()
set_option maxRecDepth 100000 in
set_option maxHeartbeats 0 in
theorem PySem.Challenge.cw_forerun_k35_below_the_fold_holds : PySem.Challenge.rw_forerun_k35_below_the_fold.Holds := by
  w_on; o_law; k_head; (case hw => w_witness2)
  k_fill
  refine L2.walk_ofXB (l := PySem.Challenge.rw_forerun_k35_below_the_fold) (n := 63) (k := 6) (x := "script") (sp := K35.sp_law) rfl (by decide) rfl ⟨rfl, by decide, by decide⟩ (fun w h Y => PySem.W.kIn_of Y) ?F ?S
  case F =>
    intro w mg fa h KX G hmg
    have T : ∃ t, K35.Txt (L2.KOf KX) mg t := by
      dsimp only [L2.KOf]
      refine' K35.txt_mk KX G ?qa0 ?ql0 ?qc0 ?qk0 ?qa1 ?ql1 ?qc1 ?qk1 ?qa2 ?ql2 ?qc2 ?qk2 ?qa3 ?ql3 ?qc3 ?qk3 ?qa4 ?qi4 ?ql4 ?qc4 ?qk4 ?qa5 ?ql5 ?qc5 ?qk5 ?qa6 ?qi6 ?ql6 ?qc6 ?qk6 ?qa7 ?ql7 ?qc7 ?qk7 ?qa8 ?ql8 ?qc8 ?qk8 ?qa9 ?qi9 ?ql9 ?qc9 ?qk9 ?qa10 ?qi10 ?ql10 ?qc10 ?qk10 ?qa11 ?ql11 ?qc11 ?qk11 ?qa12 ?ql12 ?qc12 ?qk12 ?qa13 ?qi13 ?ql13 ?qc13 ?qk13 ?qa14 ?ql14 ?qc14 ?qk14 ?qa15 ?ql15 ?qc15 ?qk15 ?qa16 ?ql16 ?qc16 ?qk16 ?qa17 ?ql17 ?qc17 ?qk17 ?qa18 ?qi18 ?ql18 ?qc18 ?qk18 ?qa19 ?ql19 ?qc19 ?qk19 ?qa20 ?qi20 ?ql20 ?qc20 ?qk20 ?qa21 ?qi21 ?ql21 ?qc21 ?qk21 ?qa22 ?ql22 ?qc22 ?qk22 ?qa23 ?qi23 ?ql23 ?qc23 ?qk23 ?qa24 ?ql24 ?qc24 ?qk24 ?qa25 ?ql25 ?qc25 ?qk25 ?qa26 ?ql26 ?qc26 ?qk26 ?qz0 ?qz1 ?qz2 ?qz3 ?qz4 ?qz5 ?qz6 ?qz7 ?qz8 ?qz9 ?qz10 ?qz11 ?qv0 ?qv1 ?qv2 ?qv3 ?qv4 ?qv5 ?qv6 ?qv7 ?qv8 ?qv9 ?qv10 ?qv11 ?pg3 ?pd3 ?po3 ?pe3 ?pm3_ ?pk3 ?pn3_0 ?pn3_1 ?pn3_2 ?pn3_3 ?rx0 ?ry0_0 ?ry0_1 ?ry0_2 ?ry0_3 ?ry0_4 ?ry0_5 ?ry0_6 ?ry0_7 ?re0_0 ?ri0_0 ?ri0_1 ?rj0_0 ?rj0_1
      (case qv0 => k_is)
      (case qv1 => k_is)
      (case qv2 => k_is)
      (case qv3 => k_is)
      (case qv4 => k_is)
      (case qv5 => k_is)
      (case qv6 => k_is)
      (case qv7 => k_is)
      (case qv8 => k_is)
      (case qv9 => k_is)
      (case qv10 => k_is)
      (case qv11 => k_is)
      (case qa0 => k_is)
      (case ql0 => k_is)
      (case qc0 => k_is)
      (case qk0 => k_is)
      (case qa1 => k_is)
      (case ql1 => k_is)
      (case qc1 => k_is)
      (case qk1 => k_is)
      (case qa2 => k_is)
      (case ql2 => k_is)
      (case qc2 => k_is)
      (case qk2 => k_is)
      (case qa3 => k_is)
      (case ql3 => k_is)
      (case qc3 => k_is)
      (case qk3 => k_is)
      (case qa4 => k_is)
      (case qi4 => k_is)
      (case ql4 => k_is)
      (case qc4 => k_is)
      (case qk4 => k_is)
      (case qa5 => k_is)
      (case ql5 => k_is)
      (case qc5 => k_is)
      (case qk5 => k_is)
      (case qa6 => k_is)
      (case qi6 => k_is)
      (case ql6 => k_is)
      (case qc6 => k_is)
      (case qk6 => k_is)
      (case qa7 => k_is)
      (case ql7 => k_is)
      (case qc7 => k_is)
      (case qk7 => k_is)
      (case qa8 => k_is)
      (case ql8 => k_is)
      (case qc8 => k_is)
      (case qk8 => k_is)
      (case qa9 => k_is)
      (case qi9 => k_is)
      (case ql9 => k_is)
      (case qc9 => k_is)
      (case qk9 => k_is)
      (case qa10 => k_is)
      (case qi10 => k_is)
      (case ql10 => k_is)
      (case qc10 => k_is)
      (case qk10 => k_is)
      (case qa11 => k_is)
      (case ql11 => k_is)
      (case qc11 => k_is)
      (case qk11 => k_is)
      (case qa12 => k_is)
      (case ql12 => k_is)
      (case qc12 => k_is)
      (case qk12 => k_is)
      (case qa13 => k_is)
      (case qi13 => k_is)
      (case ql13 => k_is)
      (case qc13 => k_is)
      (case qk13 => k_is)
      (case qa14 => k_is)
      (case ql14 => k_is)
      (case qc14 => k_is)
      (case qk14 => k_is)
      (case qa15 => k_is)
      (case ql15 => k_is)
      (case qc15 => k_is)
      (case qk15 => k_is)
      (case qa16 => k_is)
      (case ql16 => k_is)
      (case qc16 => k_is)
      (case qk16 => k_is)
      (case qa17 => k_is)
      (case ql17 => k_is)
      (case qc17 => k_is)
      (case qk17 => k_is)
      (case qa18 => k_is)
      (case qi18 => k_is)
      (case ql18 => k_is)
      (case qc18 => k_is)
      (case qk18 => k_is)
      (case qa19 => k_is)
      (case ql19 => k_is)
      (case qc19 => k_is)
      (case qk19 => k_is)
      (case qa20 => k_is)
      (case qi20 => k_is)
      (case ql20 => k_is)
      (case qc20 => k_is)
      (case qk20 => k_is)
      (case qa21 => k_is)
      (case qi21 => k_is)
      (case ql21 => k_is)
      (case qc21 => k_is)
      (case qk21 => k_is)
      (case qa22 => k_is)
      (case ql22 => k_is)
      (case qc22 => k_is)
      (case qk22 => k_is)
      (case qa23 => k_is)
      (case qi23 => k_is)
      (case ql23 => k_is)
      (case qc23 => k_is)
      (case qk23 => k_is)
      (case qa24 => k_is)
      (case ql24 => k_is)
      (case qc24 => k_is)
      (case qk24 => k_is)
      (case qa25 => k_is)
      (case ql25 => k_is)
      (case qc25 => k_is)
      (case qk25 => k_is)
      (case qa26 => k_is)
      (case ql26 => k_is)
      (case qc26 => k_is)
      (case qk26 => k_is)
      (case qz0 => k_is)
      (case qz1 => k_is)
      (case qz2 => k_is)
      (case qz3 => k_is)
      (case qz4 => k_is)
      (case qz5 => k_is)
      (case qz6 => k_is)
      (case qz7 => k_is)
      (case qz8 => k_is)
      (case qz9 => k_is)
      (case qz10 => k_is)
      (case qz11 => k_is)
      (case pg3 => k_is)
      (case pd3 => k_is)
      (case po3 => k_is)
      (case pe3 => k_is)
      (case pm3_ => k_is)
      (case pk3 => k_is)
      (case pn3_0 => k_is)
      (case pn3_1 => k_is)
      (case pn3_2 => k_is)
      (case pn3_3 => k_is)
      (case rx0 => k_exc)
      (case ry0_0 => k_is)
      (case ry0_1 => k_is)
      (case ry0_2 => k_is)
      (case ry0_3 => k_is)
      (case ry0_4 => k_is)
      (case ry0_5 => k_is)
      (case ry0_6 => k_is)
      (case ry0_7 => k_is)
      (case re0_0 => kernel_rfl)
      (case ri0_0 => kit_is)
      (case ri0_1 => kit_is)
      (case rj0_0 => kit_is)
      (case rj0_1 => kit_is)
    obtain ⟨t, T⟩ := T
    have e0 := hmg.symm.trans T.m_law
    cases e0
    exact ⟨_, T.w_law, fun base _ _ => K35.ok_law T⟩
  case S => exact fun K H a ns hl hb _ hS => ⟨a, ns, rfl, hS, hl, hb, fun _ => rfl⟩
