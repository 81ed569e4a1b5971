import PyProof.Rows.All
import Wide.All
import OpenK.AllK
import Wide.FinOn
import Lean
import PyProof.EqAt
import PyProof.EqKinds
import PyProof.TupleCall
import PyProof.NeKinds
import PyProof.AttrMissHeap
import KE.KDictOf
import KE.KDictLaws
import KE.KSortTup
import PyProof.Rows.SortWalk
import PyProof.Rows.SortShellK
import PySem.Challenge.RW_recastle_k08_rules_read_again
set_option Elab.async false
set_option linter.all false
set_option maxRecDepth 100000
namespace L2
open PySem PySem.Spec PyProof.Rows
abbrev Key:=Sum Int Str
def keyIs : Key → Value → Bool
  | .inl k,v=>Value.isInt k v
  | .inr x,v=>Value.isStrOf x v
def keyH (w:World) : Key → Int
  | .inl k=>hashInt k
  | .inr x=>hashStr w x
theorem keyIs_shape : ∀ {k:Key} {v:Value},keyIs k v = true → (∃ i t,k = Sum.inl i ∧ v = Value.int i t) ∨ (∃ x t,k = Sum.inr x ∧ v = Value.str x t)
  | .inl i,v,h=>by
    obtain ⟨t,e⟩:=Value.isInt_shape (k:=i) (v:=v) h
    exact .inl ⟨i,t,rfl,e⟩
  | .inr x,v,h=>by
    obtain ⟨t,e⟩:=Value.isStrOf_shape (x:=x) (v:=v) h
    exact .inr ⟨x,t,rfl,e⟩
theorem keyIs_int (i:Int) (t:Tok) : keyIs (.inl i) (.int i t) = true:=by simp [keyIs,Value.isInt]
theorem keyIs_str (x:Str) (t:Tok) : keyIs (.inr x) (.str x t) = true:=by simp [keyIs,Value.isStrOf]
theorem key_ll (a b:Int) : decide ((Sum.inl a : Key) = Sum.inl b) = (a == b):=by
  by_cases e : a = b
  · subst e; simp
  · have h : ¬ (Sum.inl a : Key) = Sum.inl b:=fun q=>e (Sum.inl.inj q)
    rw [decide_eq_false h]
    exact (beq_eq_false_iff_ne.mpr e).symm
theorem key_rr (a b:Str) : decide ((Sum.inr a : Key) = Sum.inr b) = decide (a = b):=by
  by_cases e : a = b
  · subst e; simp
  · have h : ¬ (Sum.inr a : Key) = Sum.inr b:=fun q=>e (Sum.inr.inj q)
    rw [decide_eq_false h,decide_eq_false e]
theorem key_lr (a:Int) (b:Str) : decide ((Sum.inl a : Key) = Sum.inr b) = false:=decide_eq_false (fun q=>nomatch q)
theorem key_rl (a:Str) (b:Int) : decide ((Sum.inr a : Key) = Sum.inl b) = false:=decide_eq_false (fun q=>nomatch q)
def mixKind (prog:Program) (w:World) : PySem.KeyKind prog w Key where
  is:=keyIs
  hash:=keyH w
  inj:=fun v a b ha hb=>by
    rcases keyIs_shape ha with ⟨i,t,rfl,rfl⟩ | ⟨x,t,rfl,rfl⟩
    · rcases keyIs_shape hb with ⟨j,u,rfl,e⟩ | ⟨y,u,rfl,e⟩
      · injection e with e1 _; rw [e1]
      · exact nomatch e
    · rcases keyIs_shape hb with ⟨j,u,rfl,e⟩ | ⟨y,u,rfl,e⟩
      · exact nomatch e
      · injection e with e1 _; rw [e1]
  byValue:=fun k v h=>by
    rcases keyIs_shape h with ⟨i,t,rfl,rfl⟩ | ⟨x,t,rfl,rfl⟩ <;> rfl
  pyHash:=fun hv h=>by
    rcases keyIs_shape hv with ⟨i,t,rfl,rfl⟩ | ⟨x,t,rfl,rfl⟩
    · exact wpAny_pyHash_int h
    · exact wpAny_pyHash_str h
  eqBool:=fun hu hv h=>by
    rcases keyIs_shape hu with ⟨i,t,rfl,rfl⟩ | ⟨x,t,rfl,rfl⟩
    · rcases keyIs_shape hv with ⟨j,u,rfl,rfl⟩ | ⟨y,u,rfl,rfl⟩
      · rw [key_ll] at h; exact wpAny_eqBool_int h
      · rw [key_lr] at h; exact SeqAt.EqAt.int_str i t y u _ _ _ _ h
    · rcases keyIs_shape hv with ⟨j,u,rfl,rfl⟩ | ⟨y,u,rfl,rfl⟩
      · rw [key_rl] at h; exact SeqAt.EqAt.str_int x t j u _ _ _ _ h
      · rw [key_rr] at h; exact wpAny_eqBool_str h
  «strs»:=fun k x t v h=>by
    rcases keyIs_shape h with ⟨i,u,rfl,e⟩ | ⟨y,u,rfl,e⟩
    · exact nomatch e
    · injection e with e1 _
      subst e1
      cases v <;> rfl
theorem mixKind_int (prog:Program) (w:World) (i:Int) (t:Tok) : (mixKind prog w).is (.inl i) (.int i t) = true:=keyIs_int i t
theorem mixKind_str (prog:Program) (w:World) (x:Str) (t:Tok) : (mixKind prog w).is (.inr x) (.str x t) = true:=keyIs_str x t
end L2
namespace L2
open PySem PySem.Spec PyProof.Rows
inductive V where
  | non | bl (b:Bool) | int (i:Int) | str (x:Str) | byt (b:Array UInt8) | flt (b:UInt64) | ref (a:Addr) | ty (n:String)
  deriving DecidableEq
def RelV : V → Value → Prop
  | .non,u=>u = Value.none
  | .bl b,u=>u = Value.bool b
  | .int i,u=>∃ t,u = Value.int i t
  | .str x,u=>∃ t,u = Value.str x t
  | .byt b,u=>∃ t,u = Value.bytes b t
  | .flt b,u=>∃ t,u = Value.float b t
  | .ref a,u=>u = Value.ref a
  | .ty n,u=>u = Value.type n
abbrev Vals : List V → List Value → Prop:=Paired RelV
theorem Vals.length {xs:List V} {us:List Value} (r:Vals xs us) : xs.length = us.length:=Paired.length r
theorem Vals.get : ∀ {xs:List V} {us:List Value} {i:Nat} {x:V},Vals xs us → xs[i]? = some x → ∃ u,us[i]? = some u ∧ RelV x u
  | _,_,_,_,.nil,e=>by simp at e
  | _,_,0,_,.cons r _,e=>by simp at e; subst e; exact ⟨_,rfl,r⟩
  | _,_,i + 1,x,.cons _ t,e=>by
    obtain ⟨u,h1,h2⟩:=Vals.get (i:=i) (x:=x) t (by simpa using e)
    exact ⟨u,by simpa using h1,h2⟩
theorem Vals.append : ∀ {xs ys:List V} {us ws:List Value},Vals xs us → Vals ys ws → Vals (xs ++ ys) (us ++ ws)
  | _,_,_,_,.nil,s=>s
  | _,_,_,_,.cons r t,s=>.cons r (Vals.append t s)
theorem Vals.take : ∀ {xs:List V} {us:List Value} (n:Nat),Vals xs us → Vals (xs.take n) (us.take n)
  | _,_,0,_=>.nil
  | _,_,_ + 1,.nil=>.nil
  | _,_,n + 1,.cons r t=>.cons r (Vals.take n t)
theorem Vals.drop : ∀ {xs:List V} {us:List Value} (n:Nat),Vals xs us → Vals (xs.drop n) (us.drop n)
  | _,_,0,r=>r
  | _,_,_ + 1,.nil=>.nil
  | _,_,n + 1,.cons _ t=>Vals.drop n t
def RelO : Option V → Option Value → Prop
  | some v,some u=>RelV v u
  | none,none=>True
  | _,_=>False
def KV {κ:Type} : List (κ × V) → List (κ × Value) → Prop:=Paired fun (p:κ × V) (q:κ × Value)=>p.1 = q.1 ∧ RelV p.2 q.2
def kV : Key → V
  | .inl i=>.int i
  | .inr x=>.str x
inductive HO where
  | lst (xs:List V)
  | tup (xs:List V)
  | dK (kvs:List (Key × V)) | dT (kvs:List (List Key × V))
  | set (S:Int → Bool) (n:Nat)
  | ins (C dx:Addr) (fs:List (Str × V))
  | own (x:Addr)
  | xd (fs:List (Str × V))
  | met (f x:Addr)
  | rng (lo hi:Int)
  | frz (o:Obj) (u:HO)
  | tbl (ps:Array Value)
  | ext (φ:Heap → Prop)
abbrev Hp:=Addr → Option HO
def upd (H:Hp) (a:Addr) (o:HO) : Hp:=fun b=>if b = a then some o else H b
theorem upd_same {H:Hp} {a:Addr} {o:HO} : upd H a o a = some o:=by unfold upd; rw [if_pos rfl]
theorem upd_ne {H:Hp} {a b:Addr} {o:HO} (h:b ≠ a) : upd H a o b = H b:=by unfold upd; rw [if_neg h]
theorem ne_of {H:Hp} {a b:Addr} {o u:HO} (h:H a = some o) (h':H b = some u) (d:o ≠ u) : a ≠ b:=by
  intro e; subst e; rw [h] at h'; exact d (Option.some.inj h')
theorem ne_of_none {H:Hp} {a b:Addr} {o:HO} (h:H a = some o) (h':H b = none) : a ≠ b:=by
  intro e; subst e; rw [h] at h'; cases h'
section
variable (P:Program) (w:World)
def ObjOk (H:Hp) (h:Heap) (a:Addr) : HO → Prop
  | .lst xs=>xs.length ≤ sizeLine ∧ ∃ (its:List Value) (n:Nat),Vals xs its ∧ h.get? a = some { cls:=.type "list", data:=.seq its.toArray n }
  | .tup xs=>xs.length ≤ sizeLine ∧ ∃ its : List Value,Vals xs its ∧ IsTup h a its.toArray
  | .dK kvs=>kvs.length ≤ sizeLine ∧ (a == sysModules) = false ∧ ∃ vs,KV kvs vs ∧ h.DictOf (mixKind P w) a vs
  | .dT kvs=>kvs.length ≤ sizeLine ∧ (a == sysModules) = false ∧ ∃ xs : List (List Key × Addr × Value),
      Paired (fun (p:List Key × V) (q:List Key × Addr × Value)=>p.1 = q.1 ∧ H q.2.1 = some (.tup (p.1.map kV)) ∧ RelV p.2 q.2.2) kvs xs ∧
      ∃ o es ep,h.get? a = some o ∧ o.ExactDict ∧ o.data = .dict es ep ∧ es.toList = xs.map (entryOfKey (tupleKind (mixKind P w))) ∧ (xs.map (·.1)).Nodup
  | .set S n=>h.SetOf (intKind P w) a S n
  | .ins C dx fs=>H dx = some (.own a) ∧ fs.length ≤ 1000 ∧ dx ≠ a ∧ h.get? a = some (PySem.W.instObj C dx) ∧
      ∃ mA,h.Ns1 dx mA ∧ (∀ f,RelO (fs.lookup f) (mA f)) ∧ PySem.Within mA (fs.map (·.1))
  | .own _=>∃ o,h.get? a = some o
  | .xd fs=>∃ mA,h.Ns1 a mA ∧ ∀ f,RelO (fs.lookup f) (mA f)
  | .rng lo hi=>∃ t u v,h.get? a = some { cls:=.type "range", data:=.fields #[.int lo t,.int hi u,.int 1 v] }
  | .frz o u=>h.get? a = some o ∧ ObjOk H h a u
  | .tbl ps=>h.get? a = some { cls:=.none,data:=.fields ps }
  | .met f x=>h.get? a = some (PySem.W.methodObj (.ref f) (.ref x))
  | .ext φ=>φ h ∧ (∃ o,h.get? a = some o) ∧ ∀ h1 h2 : Heap,φ h1 → (∀ o,h1.get? a = some o → h2.get? a = some o) → φ h2
def HOk (H:Hp) (h:Heap) : Prop:=∀ a o,H a = some o → ObjOk P w H h a o
end
section
variable {P:Program} {w:World} {H H':Hp} {h h':Heap} {a:Addr} {o:HO}
theorem ObjOk.lt (x:ObjOk P w H h a o) : a < h.objs.size:=by
  cases o with
  | lst xs=>obtain ⟨_,_,_,_,e⟩:=x; exact Heap.lt_size e
  | tup xs=>obtain ⟨_,_,_,p⟩:=x; exact p.lt
  | dK kvs=>obtain ⟨_,_,_,_,o,_,_,e,_⟩:=x; exact Heap.lt_size e
  | dT kvs=>obtain ⟨_,_,_,_,o,_,_,e,_⟩:=x; exact Heap.lt_size e
  | set S n=>obtain ⟨o,_,_,_,e,_⟩:=x; exact Heap.lt_size e
  | ins C dx fs=>obtain ⟨_,_,_,e,_⟩:=x; exact Heap.lt_size e
  | own y=>obtain ⟨_,e⟩:=x; exact Heap.lt_size e
  | xd fs=>obtain ⟨_,⟨_,_,_,e,_⟩,_⟩:=x; exact Heap.lt_size e
  | rng lo hi=>obtain ⟨_,_,_,e⟩:=x; exact Heap.lt_size e
  | frz ob u=>obtain ⟨e,_⟩:=x; exact Heap.lt_size e
  | tbl ps=>exact Heap.lt_size (show h.get? a = some _ from x)
  | met f y=>exact Heap.lt_size (show h.get? a = some _ from x)
  | ext φ=>obtain ⟨_,⟨_,e⟩,_⟩:=x; exact Heap.lt_size e
theorem Paired.mapP {α β:Type} {F G:α → β → Prop} : ∀ {l₁:List α} {l₂:List β},Paired F l₁ l₂ → (∀ a b,F a b → G a b) → Paired G l₁ l₂
  | _,_,.nil,_=>.nil
  | _,_,.cons r t,f=>.cons (f _ _ r) (Paired.mapP t f)
theorem ObjOk.stay (x:ObjOk P w H h a o) (k:∀ b u,(b = a ∨ H b = some (.own a)) → h.get? b = some u → h'.get? b = some u)
    (ho:∀ b,H b = some (.own a) → H' b = some (.own a)) (ht:∀ b xs,H b = some (.tup xs) → H' b = some (.tup xs)) : ObjOk P w H' h' a o:=by
  induction o with
  | lst xs=>obtain ⟨z,its,n,r,e⟩:=x; exact ⟨z,its,n,r,k _ _ (.inl rfl) e⟩
  | tup xs=>obtain ⟨z,its,r,ob,e,c⟩:=x; exact ⟨z,its,r,ob,k _ _ (.inl rfl) e,c⟩
  | dK kvs=>obtain ⟨z,y,vs,r,ob,es,ep,e,c⟩:=x; exact ⟨z,y,vs,r,ob,es,ep,k _ _ (.inl rfl) e,c⟩
  | dT kvs =>
    obtain ⟨z,y,xs,r,ob,es,ep,e,c⟩:=x
    exact ⟨z,y,xs,Paired.mapP r fun p q z=>⟨z.1,ht _ _ z.2.1,z.2.2⟩,ob,es,ep,k _ _ (.inl rfl) e,c⟩
  | set S n=>obtain ⟨ob,es,ep,t,e,c⟩:=x; exact ⟨ob,es,ep,t,k _ _ (.inl rfl) e,c⟩
  | ins C dx fs =>
    obtain ⟨d,z,ne,e,mA,⟨od,es,ep,e2,c⟩,r⟩:=x
    exact ⟨ho _ d,z,ne,k _ _ (.inl rfl) e,mA,⟨od,es,ep,k _ _ (.inr d) e2,c⟩,r⟩
  | own y=>obtain ⟨ob,e⟩:=x; exact ⟨ob,k _ _ (.inl rfl) e⟩
  | xd fs=>obtain ⟨mA,⟨od,es,ep,e,c⟩,r⟩:=x; exact ⟨mA,⟨od,es,ep,k _ _ (.inl rfl) e,c⟩,r⟩
  | rng lo hi=>obtain ⟨t,u,v,e⟩:=x; exact ⟨t,u,v,k _ _ (.inl rfl) e⟩
  | frz ob u ih=>obtain ⟨e,q⟩:=x; exact ⟨k _ _ (.inl rfl) e,ih q⟩
  | tbl ps =>
    have e : h.get? a = some { cls:=.none,data:=.fields ps }:=x
    show h'.get? a = some { cls:=.none,data:=.fields ps }
    exact k a _ (.inl rfl) e
  | met f y =>
    have e : h.get? a = some (PySem.W.methodObj (.ref f) (.ref y)):=x
    show h'.get? a = some (PySem.W.methodObj (.ref f) (.ref y))
    exact k a _ (.inl rfl) e
  | ext φ=>obtain ⟨p,⟨o,e⟩,st⟩:=x; exact ⟨st _ _ p fun o q=>k _ _ (.inl rfl) q,⟨o,k _ _ (.inl rfl) e⟩,st⟩
theorem HOk.lt (x:HOk P w H h) (e:H a = some o) : a < h.objs.size:=(x a o e).lt
theorem HOk.fresh (x:HOk P w H h) (e:h.objs.size ≤ a) : H a = none:=by
  cases q : H a with
  | none=>rfl
  | some u=>exact absurd (Nat.lt_of_lt_of_le (x.lt q) e) (Nat.lt_irrefl _)
theorem HOk.kept (x:HOk P w H h) (k:∀ b u,h.get? b = some u → h'.get? b = some u) : HOk P w H h':=fun a o e =>
  (x a o e).stay (fun b u _ q=>k b u q) (fun _ q=>q) fun _ _ q=>q
theorem HOk.laid (x:HOk P w H h) (k:∀ b u,h.get? b = some u → h'.get? b = some u) (hp:h.objs.size ≤ a) (new:ObjOk P w (upd H a o) h' a o) : HOk P w (upd H a o) h':=fun b u e=>by
  have hn:=x.fresh hp
  by_cases hb : b = a
  · subst hb; rw [upd_same] at e; cases e; exact new
  · rw [upd_ne hb] at e
    exact (x b u e).stay (fun c v _ q=>k c v q) (fun c q=>by rw [upd_ne (ne_of_none q hn)]; exact q) fun c xs q=>by rw [upd_ne (ne_of_none q hn)]; exact q
end
def Rd (H:Hp) (a:Addr) (u:HO) : Prop:=H a = some u ∨ ∃ o,H a = some (.frz o u)
theorem Rd.ok {P:Program} {w:World} {H:Hp} {h:Heap} {a:Addr} {u:HO} (r:Rd H a u) (x:HOk P w H h) : ObjOk P w H h a u:=by
  rcases r with r | ⟨o,r⟩
  · exact x a u r
  · obtain ⟨_,q⟩:=x a _ r
    exact q
def Mut : Option HO → Prop
  | some (.lst _)=>True
  | some (.dK _)=>True
  | some (.dT _)=>True
  | some (.set _ _)=>True
  | some (.ins _ _ _)=>True
  | some (.ext _)=>True
  | _=>False
section
variable {P:Program} {w:World} {H:Hp} {h h':Heap} {x e:Addr} {o':HO}
theorem HOk.write (ok:HOk P w H h) (mu:Mut (H x)) (he:e = x ∨ H e = some (.own x)) (k:∀ b u,b ≠ e → h.get? b = some u → h'.get? b = some u) (heo:∃ u,h'.get? e = some u)
    (new:ObjOk P w (upd H x o') h' x o') : HOk P w (upd H x o') h':=fun b u q=>by
  have nown : ∀ c y,H c = some (.own y) → c ≠ x:=fun c y r z=>by subst z; rw [r] at mu; exact mu
  have ntup : ∀ c xs,H c = some (.tup xs) → c ≠ x:=fun c xs r z=>by subst z; rw [r] at mu; exact mu
  by_cases hb : b = x
  · subst hb; rw [upd_same] at q; cases q; exact new
  · rw [upd_ne hb] at q
    by_cases hbe : b = e
    · have q' : H b = some (.own x):=by
        rcases he with z | z
        · exact absurd (hbe.trans z) hb
        · rw [hbe]; exact z
      rw [q] at q'; cases q'
      obtain ⟨v,hv⟩:=heo
      exact ⟨v,by rw [hbe]; exact hv⟩
    · refine (ok b u q).stay (fun c v hc r=>k c v ?_ r) (fun c r=>by rw [upd_ne (nown c b r)]; exact r) fun c xs r=>by rw [upd_ne (ntup c xs r)]; exact r
      rcases hc with rfl | hc
      · exact hbe
      · rintro rfl
        rcases he with z | z
        · exact nown c b hc z
        · rw [hc] at z; cases z; exact hb rfl
end
structure Un (fs ex:List Addr) (H H':Hp) (h h':Heap) : Prop where
  keep : ∀ b o,h.get? b = some o → H b = none → b ∉ fs → b ∉ ex → h'.get? b = some o
  slot : ∀ b o,h.get? b = some o → H b = none → b ∈ fs → b ∉ ex → ∃ sl,h'.get? b = some { o with slots:=sl }
  free : ∀ b o,h.get? b = some o → H b = none → b ∉ ex → H' b = none
  there : ∀ b o,h.get? b = some o → b ∉ ex → ∃ o',h'.get? b = some o'
  tups : ∀ b xs,H b = some (.tup xs) → H' b = some (.tup xs)
  frzs : ∀ b o u,H b = some (.frz o u) → H' b = some (.frz o u)
  tbls : ∀ b ps,H b = some (.tbl ps) → ∃ more,H' b = some (.tbl (ps ++ more))
section
variable {fs fs' ex ex':List Addr} {H H1 H2:Hp} {h h1 h2 h':Heap} {a x e:Addr} {o:HO}
theorem Un.any (u:Un fs ex H H1 h h1) {b:Addr} {ob:Obj} (q:h.get? b = some ob) (n:H b = none) (hx:b ∉ ex) : ∃ sl,h1.get? b = some { ob with slots:=sl }:=by
  by_cases hb : b ∈ fs
  · exact u.slot b ob q n hb hx
  · exact ⟨ob.slots,u.keep b ob q n hb hx⟩
theorem Un.kept (k:∀ b u,h.get? b = some u → h'.get? b = some u) : Un fs ex H H h h' :=
  ⟨fun b ob q _ _ _=>k b ob q,fun b ob q _ _ _=>⟨ob.slots,k b ob q⟩,fun _ _ _ n _=>n,fun b ob q _=>⟨ob,k b ob q⟩,fun _ _ q=>q,fun _ _ _ q=>q,fun _ ps q=>⟨#[],by rw [q]; simp⟩⟩
theorem Un.refl : Un fs ex H H h h:=Un.kept fun _ _ q=>q
theorem Un.laid (k:∀ b u,h.get? b = some u → h'.get? b = some u) (hp:h.objs.size ≤ a) (hn:H a = none) : Un fs ex H (upd H a o) h h' where
  keep:=fun b u q _ _ _=>k b u q
  slot:=fun b u q _ _ _=>⟨u.slots,k b u q⟩
  free:=fun b u q n _=>by rw [upd_ne (Nat.ne_of_lt (Nat.lt_of_lt_of_le (Heap.lt_size q) hp))]; exact n
  there:=fun b u q _=>⟨u,k b u q⟩
  tups:=fun b xs q=>by rw [upd_ne (ne_of_none q hn)]; exact q
  frzs:=fun b u xs q=>by rw [upd_ne (ne_of_none q hn)]; exact q
  tbls:=fun b ps q=>⟨#[],by rw [upd_ne (ne_of_none q hn),q]; simp⟩
theorem Un.write (mu:Mut (H x)) (he:e = x ∨ H e = some (.own x)) (k:∀ b u,b ≠ e → h.get? b = some u → h'.get? b = some u) (heo:∃ u,h'.get? e = some u) : Un fs ex H (upd H x o) h h':=by
  have hx : ∀ b,H b = none → b ≠ x:=fun b n z=>by subst z; rw [n] at mu; exact mu
  have hb : ∀ b,H b = none → b ≠ e:=fun b n z=>by
    subst z
    rcases he with r | r
    · exact hx b n r
    · rw [n] at r; cases r
  have hm : ∀ b u,H b = some u → ¬ Mut (some u) → b ≠ x:=fun b u q nm z=>by subst z; rw [q] at mu; exact nm mu
  refine ⟨fun b u q n _ _=>k b u (hb b n) q,fun b u q n _ _=>⟨u.slots,k b u (hb b n) q⟩,fun b u q n _=>by rw [upd_ne (hx b n)]; exact n,fun b u q _=>?_,
    fun b xs q=>by rw [upd_ne (hm b _ q fun z=>z)]; exact q,fun b u xs q=>by rw [upd_ne (hm b _ q fun z=>z)]; exact q,fun b ps q=>⟨#[],by rw [upd_ne (hm b _ q fun z=>z),q]; simp⟩⟩
  by_cases hbe : b = e
  · subst hbe; exact heo
  · exact ⟨u,k b u hbe q⟩
end
def trk (h:Heap) (H:Hp) : List Addr:=(List.range h.objs.size).filter fun a=>(H a).isSome
def hidT (h:Heap) (H:Hp) : Heap:=PySem.W.hideAll h (trk h H)
theorem hidT_size (h:Heap) (H:Hp) : (hidT h H).objs.size = h.objs.size:=PySem.W.hideAll_size _ _
theorem hidT_get {h:Heap} {H:Hp} {b:Addr} {o:Obj} (e:h.get? b = some o) (n:H b = none) : (hidT h H).get? b = some o :=
  PySem.W.hideAll_get _ e fun hm=>by
    have q : (H b).isSome = true:=(List.mem_filter.mp hm).2
    rw [n] at q; simp at q
theorem of_hidT {h:Heap} {H:Hp} {b:Addr} {o:Obj} (e:(hidT h H).get? b = some o) : h.get? b = some o ∧ H b = none:=by
  have e' : h.get? b = some o:=PySem.W.of_hideAll (trk h H) e
  refine ⟨e',?_⟩
  cases q : H b with
  | none=>rfl
  | some x =>
    have hm : b ∈ trk h H:=List.mem_filter.mpr ⟨List.mem_range.mpr (Heap.lt_size e'),by simp [q]⟩
    have z : (hidT h H).get? b = none:=PySem.W.hideAll_none (trk h H) hm
    rw [z] at e; cases e
def allNews (g h:Heap) (L:Addr) : List (Addr × Obj):=(List.range h.objs.size).filterMap fun a=>if a = L ∨ (g.get? a).isSome = true then none else (h.get? a).map fun o=>(a,o)
def rest (g h:Heap) (L d:Addr) : List (Addr × Obj):=(allNews g h L).filter fun p=>decide (p.1 ≠ d)
end L2
namespace L2
open PySem PySem.Spec PyProof.Rows
structure Mod (K:PySem.W.Frag) (mg:Str → Option Value) (base:Heap) : Prop where
  kin : K.In base
  glob : base.Ns mainGlobals mg
  blt : ∃ mb,base.Ns builtinsNs mb ∧ ∀ x : Str,x ≠ "__name__" → mb x = bootBuiltins x
  nolimit : base.NoLimit
structure Cx where
  prog : Program
  w : World
  K : PySem.W.Frag
  mg : Str → Option Value
  base : Heap
  A : Around
  N : List Str
  s₀ : Shared
  H₀ : Hp
  env : Env
  outer : List Env
  stack : List Env
  ex : List Addr
  fn : Str → Bool
  calm : Bool
  pn : List (Addr × Obj)
  xe : Value → Shared → Prop
def frs (l:List Env) : List Addr:=l.filterMap (·.frame)
abbrev Cx.fs (X:Cx) : List Addr:=frs X.outer
def Vis (sc:Scope) (x:Str) : Prop:=sc.names.lookup x = some .local ∨ sc.names.lookup x = some .cell ∨ sc.names.lookup x = some .free
def Loc (sc:Scope) (x:Str) : Prop:=sc.names.lookup x = some .local ∨ sc.names.lookup x = some .cell
def Look (env:Env) (h:Heap) (m:Str → Option Value) (x:Str) (u:Value) : Prop :=
  (env.kindOf x = some .local ∧ m x = some u) ∨ ((env.kindOf x = some .cell ∨ env.kindOf x = some .free) ∧ ∃ c,env.cells.lookup x = some c ∧ h.IsCell c (some u))
structure Cx.Ok (X:Cx) : Prop where
  mod : Mod X.K X.mg X.base
  kind : X.env.scope.kind = .function
  glob : X.env.globals = mainGlobals
  blt : X.env.builtins = builtinsNs
  above : X.s₀.heap.objs.size ≤ X.env.locals
  inj : ∀ x y c,X.env.cells.lookup x = some c → X.env.cells.lookup y = some c → x = y
  has : ∀ x,(X.env.kindOf x = some .cell ∨ X.env.kindOf x = some .free) → ∃ c,X.env.cells.lookup x = some c
  cab : ∀ x c,X.fn x = true → X.env.cells.lookup x = some c → X.s₀.heap.objs.size ≤ c
  hd : X.calm = true → X.A.handled = none
  frames : X.A.frames = some X.stack
  stk : X.stack = X.outer ∨ (X.stack = X.env :: X.outer ∧ X.env.frame = some X.env.locals)
  exf : ∀ b ∈ X.ex,b ≠ X.env.locals ∧ ∀ x c,X.env.cells.lookup x = some c → c ≠ b
  bs : ∀ b o,X.base.get? b = some o → X.s₀.heap.get? b = some o ∧ X.H₀ b = none
  bsz : X.base.objs.size ≤ X.s₀.heap.objs.size
  noex : ∀ b o,X.base.get? b = some o → b ∉ X.ex
  exfs : ∀ b ∈ X.ex,b ∉ X.fs
  funs : X.s₀.heap.FunFrames X.base X.outer
  frf : ∀ b ∈ X.fs,X.H₀ b = none
structure Inv (X:Cx) (pins:List (Addr × Obj)) (σ:List (Option V)) (H:Hp) (s:Shared) : Prop where
  ok : X.Ok
  os : s.os = X.s₀.os
  bare : AllBare s.gens
  base : Un X.fs X.ex X.H₀ H X.s₀.heap s.heap
  loc : ∃ m,s.heap.Ns X.env.locals m ∧ ∀ (i:Nat) (x:Str) (v:V),X.N[i]? = some x → σ[i]? = some (some v) → Vis X.env.scope x → ∃ u,RelV v u ∧ Look X.env s.heap m x u
  cell : ∀ x c,X.env.cells.lookup x = some c → ∃ v,s.heap.IsCell c v
  free : H X.env.locals = none
  freeC : ∀ x c,X.env.cells.lookup x = some c → H c = none
  pin : ∀ p ∈ X.pn ++ pins,s.heap.get? p.1 = some p.2 ∧ H p.1 = none ∧ p.1 ≠ X.env.locals ∧ p.1 ∉ X.fs ∧ ∀ v,p.2.data ≠ .cell v
  hok : HOk X.prog X.w H s.heap
  len : σ.length = X.N.length
section
variable {X:Cx} {pins:List (Addr × Obj)} {σ:List (Option V)} {H H':Hp} {s:Shared} {h':Heap}
theorem Cx.Ok.nofr (ok:X.Ok) {b:Addr} {o:Obj} (e:X.base.get? b = some o) : b ∉ X.fs:=fun hb=>by
  have:=(ok.funs.mem hb).1
  rw [e] at this; cases this
theorem Inv.bs (I:Inv X pins σ H s) : ∀ b o,X.base.get? b = some o → s.heap.get? b = some o ∧ H b = none:=fun b o e =>
  ⟨I.base.keep b o (I.ok.bs b o e).1 (I.ok.bs b o e).2 (I.ok.nofr e) (I.ok.noex b o e),I.base.free b o (I.ok.bs b o e).1 (I.ok.bs b o e).2 (I.ok.noex b o e)⟩
theorem Inv.bk (I:Inv X pins σ H s) : ∀ b o,X.base.get? b = some o → s.heap.get? b = some o:=fun b o e=>(I.bs b o e).1
theorem Inv.mod (I:Inv X pins σ H s) : Mod X.K X.mg X.base:=I.ok.mod
theorem Inv.kIn (I:Inv X pins σ H s) : X.K.In s.heap:=I.ok.mod.kin.keeps I.bk
theorem Inv.lt (I:Inv X pins σ H s) : X.env.locals < s.heap.objs.size:=let ⟨_,hn,_⟩:=I.loc; hn.lt
theorem Inv.sz (I:Inv X pins σ H s) : X.s₀.heap.objs.size ≤ s.heap.objs.size:=Nat.le_trans I.ok.above (Nat.le_of_lt I.lt)
theorem Inv.nofs (I:Inv X pins σ H s) {a:Addr} (h:s.heap.objs.size ≤ a) : a ∉ X.fs:=fun hb=>by
  obtain ⟨_,o,ho,_⟩:=I.ok.funs.mem hb
  exact absurd (Nat.lt_of_lt_of_le (Heap.lt_size ho) (Nat.le_trans I.sz h)) (Nat.lt_irrefl _)
theorem Inv.cne (I:Inv X pins σ H s) : ∀ x c,X.env.cells.lookup x = some c → c ≠ X.env.locals:=fun x c e z=>by
  obtain ⟨v,o,ho,hd⟩:=I.cell x c e
  obtain ⟨m,⟨o',es,ep,ho',hd',_⟩,_⟩:=I.loc
  rw [z,ho'] at ho; cases ho; rw [hd'] at hd; cases hd
theorem Inv.funs (I:Inv X pins σ H s) : s.heap.FunFrames X.base X.outer:=by
  have all : ∀ (l:List Env),(∀ b ∈ frs l,b ∈ X.fs) → X.s₀.heap.FunFrames X.base l → s.heap.FunFrames X.base l:=by
    intro l
    induction l with
    | nil=>intro _ _; trivial
    | cons env r ih =>
      intro hs hl
      obtain ⟨hk,⟨L,o,hf,hn,ho,hd⟩,hr⟩:=hl
      have hL : L ∈ X.fs:=hs L (by unfold frs; rw [List.filterMap_cons,hf]; exact List.mem_cons_self)
      obtain ⟨sl,e⟩:=I.base.slot L o ho (I.ok.frf L hL) hL fun z=>I.ok.exfs L z hL
      exact ⟨hk,⟨L,_,hf,hn,e,hd⟩,ih (fun b hb=>hs b (by unfold frs; rw [List.filterMap_cons,hf]; exact List.mem_cons_of_mem _ hb)) hr⟩
  exact all X.outer (fun _ hb=>hb) I.ok.funs
theorem Inv.stack (I:Inv X pins σ H s) : s.heap.FunFrames X.base X.stack:=by
  rcases I.ok.stk with e | ⟨e,hf⟩
  · rw [e]; exact I.funs
  · rw [e]
    obtain ⟨m,hn,_⟩:=I.loc
    refine .cons (by rw [I.ok.kind]; decide) hf hn ?_ I.funs
    exact Heap.get?_none_of_le (Nat.le_trans I.ok.bsz I.ok.above)
theorem Inv.stkSub (I:Inv X pins σ H s) : ∀ b ∈ frs X.stack,b ∈ X.env.locals :: X.fs:=fun b hb=>by
  rcases I.ok.stk with e | ⟨e,hf⟩
  · rw [e] at hb; exact List.mem_cons_of_mem _ hb
  · rw [e] at hb
    unfold frs at hb
    rw [List.filterMap_cons,hf] at hb
    exact hb
theorem Inv.stkFree (I:Inv X pins σ H s) : ∀ b ∈ frs X.stack,H b = none:=fun b hb=>by
  rcases List.mem_cons.mp (I.stkSub b hb) with e | hb
  · rw [e]; exact I.free
  · obtain ⟨_,o,ho,_⟩:=I.ok.funs.mem hb
    exact I.base.free b o ho (I.ok.frf b hb) fun z=>I.ok.exfs b z hb
theorem Inv.step {g':Array GenState} {t':Nat} {d':Drawn} {ch:List Addr} (I:Inv X pins σ H s)
    (hch:∀ b ∈ ch,(b ∈ X.ex ∨ X.s₀.heap.objs.size ≤ b) ∧ b ≠ X.env.locals ∧ (∀ x c,X.env.cells.lookup x = some c → c ≠ b) ∧ ∀ p ∈ X.pn ++ pins,p.1 ≠ b)
    (keep:∀ b o,b ≠ X.env.locals → b ∉ X.fs → b ∉ ch → s.heap.get? b = some o → H b = none → h'.get? b = some o)
    (slot:∀ b o,b ≠ X.env.locals → b ∈ X.fs → b ∉ ch → s.heap.get? b = some o → H b = none → ∃ sl,h'.get? b = some { o with slots:=sl }) (free:∀ b o,b ∉ ch → s.heap.get? b = some o → H b = none → H' b = none)
    (there:∀ b o,b ∉ ch → s.heap.get? b = some o → ∃ o',h'.get? b = some o')
    (tups:∀ b xs,H b = some (.tup xs) → H' b = some (.tup xs)) (frzs:∀ b o u,H b = some (.frz o u) → H' b = some (.frz o u)) (tbls:∀ b ps,H b = some (.tbl ps) → ∃ more,H' b = some (.tbl (ps ++ more)))
    (ns:∀ m,s.heap.Ns X.env.locals m → h'.Ns X.env.locals m) (hok:HOk X.prog X.w H' h') (hg:AllBare g') :
    Inv X pins σ H' { s with heap:=h',gens:=g',drawn:=d',toks:=t' }:=by
  have neL : ∀ b o,X.s₀.heap.get? b = some o → b ≠ X.env.locals:=fun b o e=>Nat.ne_of_lt (Nat.lt_of_lt_of_le (Heap.lt_size e) I.ok.above)
  have neC : ∀ b o,X.s₀.heap.get? b = some o → b ∉ X.ex → b ∉ ch:=fun b o e hx hb=>by
    rcases (hch b hb).1 with z | z
    · exact hx z
    · exact absurd (Nat.lt_of_lt_of_le (Heap.lt_size e) z) (Nat.lt_irrefl _)
  have cellK : ∀ x c,X.env.cells.lookup x = some c → ∀ v,s.heap.IsCell c v → h'.IsCell c v:=fun x c e v ⟨o,ho,hd⟩=>by
    have nch : c ∉ ch:=fun z=>(hch c z).2.2.1 x c e rfl
    by_cases hc : c ∈ X.fs
    · obtain ⟨sl,q⟩:=slot c o (I.cne x c e) hc nch ho (I.freeC x c e)
      exact ⟨_,q,hd⟩
    · exact ⟨o,keep c o (I.cne x c e) hc nch ho (I.freeC x c e),hd⟩
  refine ⟨I.ok,I.os,hg,⟨fun b o e n hb hx=>?_,fun b o e n hb hx=>?_,fun b o e n hx=>?_,fun b o e hx=>?_,fun b xs e=>tups b xs (I.base.tups b xs e),fun b o xs e=>frzs b o xs (I.base.frzs b o xs e),fun b ps e=>?_⟩,?_,fun x c e=>?_,?_,fun x c e=>?_,fun p hp=>?_,hok,I.len⟩
  · exact keep b o (neL b o e) hb (neC b o e hx) (I.base.keep b o e n hb hx) (I.base.free b o e n hx)
  · obtain ⟨sl,e1⟩:=I.base.slot b o e n hb hx
    obtain ⟨sl',e2⟩:=slot b _ (neL b o e) hb (neC b o e hx) e1 (I.base.free b o e n hx)
    exact ⟨sl',e2⟩
  · obtain ⟨o',e1⟩:=I.base.there b o e hx
    exact free b o' (neC b o e hx) e1 (I.base.free b o e n hx)
  · obtain ⟨o',e1⟩:=I.base.there b o e hx
    exact there b o' (neC b o e hx) e1
  · obtain ⟨m1,e1⟩:=I.base.tbls b ps e
    obtain ⟨m2,e2⟩:=tbls b _ e1
    exact ⟨m1 ++ m2,by rw [e2,Array.append_assoc]⟩
  · obtain ⟨m,hn,hl⟩:=I.loc
    refine ⟨m,ns m hn,fun i x v e1 e2 e3=>?_⟩
    obtain ⟨u,r,l⟩:=hl i x v e1 e2 e3
    refine ⟨u,r,?_⟩
    rcases l with l | ⟨k,c,e,z⟩
    · exact .inl l
    · exact .inr ⟨k,c,e,cellK x c e _ z⟩
  · obtain ⟨v,z⟩:=I.cell x c e
    exact ⟨v,cellK x c e v z⟩
  · obtain ⟨m,⟨o,_,_,ho,_⟩,_⟩:=I.loc
    exact free _ o (fun z=>(hch _ z).2.1 rfl) ho I.free
  · obtain ⟨v,o,ho,hd⟩:=I.cell x c e
    exact free c o (fun z=>(hch c z).2.2.1 x c e rfl) ho (I.freeC x c e)
  · obtain ⟨e,n,ne,nf,d⟩:=I.pin p hp
    have nch : p.1 ∉ ch:=fun z=>(hch p.1 z).2.2.2 p hp rfl
    exact ⟨keep p.1 p.2 ne nf nch e n,free p.1 p.2 nch e n,ne,nf,d⟩
theorem Inv.un {t':Nat} (I:Inv X pins σ H s) (u:Un X.fs [] H H' s.heap h') (hok:HOk X.prog X.w H' h') : Inv X pins σ H' { s with heap:=h',toks:=t' }:=by
  obtain ⟨m,⟨o,es,ep,ho,r⟩,_⟩:=id I.loc
  obtain ⟨sl,hL⟩:=u.any ho I.free (by simp)
  exact I.step (g':=s.gens) (d':=s.drawn) (ch:=[]) (fun _ z=>nomatch z) (fun b o _ hb _ e n=>u.keep b o e n hb (by simp)) (fun b o _ hb _ e n=>u.slot b o e n hb (by simp)) (fun b o _ e n=>u.free b o e n (by simp)) (fun b o _ e=>u.there b o e (by simp)) u.tups u.frzs u.tbls (fun m' hm=>by
    obtain ⟨o',es',ep',ho',r'⟩:=hm
    rw [ho] at ho'; cases ho'
    exact ⟨_,es',ep',hL,r'⟩) hok I.bare
theorem Inv.call {g':Array GenState} {t':Nat} {d':Drawn} {ch:List Addr} (I:Inv X pins σ H s) (u:Un (frs X.stack) ch H H' s.heap h') (hok:HOk X.prog X.w H' h') (hg:AllBare g')
    (hch:∀ b ∈ ch,(b ∈ X.ex ∨ X.s₀.heap.objs.size ≤ b) ∧ b ≠ X.env.locals ∧ (∀ x c,X.env.cells.lookup x = some c → c ≠ b) ∧ ∀ p ∈ X.pn ++ pins,p.1 ≠ b) :
    Inv X pins σ H' { s with heap:=h',gens:=g',drawn:=d',toks:=t' }:=by
  obtain ⟨m,⟨o,es,ep,ho,r⟩,_⟩:=id I.loc
  obtain ⟨sl,hL⟩:=u.any ho I.free fun z=>(hch _ z).2.1 rfl
  exact I.step (ch:=ch) hch (fun b o hL hb hc e n=>u.keep b o e n (fun z=>(List.mem_cons.mp (I.stkSub b z)).elim hL hb) hc) (fun b o _ _ hc e n=>u.any e n hc) (fun b o hc e n=>u.free b o e n hc) (fun b o hc e=>u.there b o e hc) u.tups u.frzs u.tbls (fun m' hm=>by
    obtain ⟨o',es',ep',ho',r'⟩:=hm
    rw [ho] at ho'; cases ho'
    exact ⟨_,es',ep',hL,r'⟩) hok hg
theorem Inv.turned {t':Nat} {it:Addr} (I:Inv X pins σ H s) (k:∀ b o,b ≠ it → s.heap.get? b = some o → h'.get? b = some o) (hn:H it = none) (hL:it ≠ X.env.locals)
    (h1:it ∈ X.ex ∨ X.s₀.heap.objs.size ≤ it) (h2:∀ x c,X.env.cells.lookup x = some c → c ≠ it) (h3:∀ p ∈ X.pn ++ pins,p.1 ≠ it) : Inv X pins σ H { s with heap:=h',toks:=t' }:=by
  have nit : ∀ b u,H b = some u → b ≠ it:=fun b u e z=>by rw [z,hn] at e; cases e
  refine I.step (g':=s.gens) (d':=s.drawn) (ch:=[it]) (fun b hb=>?_) (fun b o _ _ hc e _=>k b o (fun z=>hc (by simp [z])) e) (fun b o _ _ hc e _=>⟨o.slots,k b o (fun z=>hc (by simp [z])) e⟩) (fun _ _ _ _ n=>n)
    (fun b o hc e=>⟨o,k b o (fun z=>hc (by simp [z])) e⟩) (fun _ _ e=>e) (fun _ _ _ e=>e) (fun b ps e=>⟨#[],by rw [e]; simp⟩) (fun m hm=>?_) (fun b u e=>?_) I.bare
  · have e : b = it:=by simpa using hb
    subst e
    exact ⟨h1,hL,h2,h3⟩
  · obtain ⟨o,es,ep,ho,r⟩:=hm
    exact ⟨o,es,ep,k _ o (Ne.symm hL) ho,r⟩
  · refine (I.hok b u e).stay (fun c v hc q=>k c v ?_ q) (fun _ q=>q) fun _ _ q=>q
    rcases hc with z | z
    · rw [z]; exact nit b u e
    · exact nit c _ z
theorem Inv.tok (I:Inv X pins σ H s) (t:Nat) : Inv X pins σ H { s with toks:=t }:=I.un (h':=s.heap) (t':=t) Un.refl I.hok
theorem Inv.kept {t':Nat} (I:Inv X pins σ H s) (k:∀ b u,s.heap.get? b = some u → h'.get? b = some u) : Inv X pins σ H { s with heap:=h',toks:=t' }:=I.un (Un.kept k) (I.hok.kept k)
theorem Inv.laid {a:Addr} {o:HO} {t':Nat} (I:Inv X pins σ H s) (k:∀ b u,s.heap.get? b = some u → h'.get? b = some u) (hp:s.heap.objs.size ≤ a) (new:ObjOk X.prog X.w (upd H a o) h' a o) :
    Inv X pins σ (upd H a o) { s with heap:=h',toks:=t' }:=I.un (Un.laid k hp (I.hok.fresh hp)) (I.hok.laid k hp new)
theorem Inv.write {x e:Addr} {o:HO} {t':Nat} (I:Inv X pins σ H s) (mu:Mut (H x)) (he:e = x ∨ H e = some (.own x)) (k:∀ b u,b ≠ e → s.heap.get? b = some u → h'.get? b = some u) (heo:∃ u,h'.get? e = some u)
    (new:ObjOk X.prog X.w (upd H x o) h' x o) : Inv X pins σ (upd H x o) { s with heap:=h',toks:=t' }:=I.un (Un.write mu he k heo) (I.hok.write mu he k heo new)
theorem Inv.weak {σ':List (Option V)} (I:Inv X pins σ H s) (hl:σ'.length = σ.length) (w:∀ (i:Nat) v,σ'[i]? = some (some v) → σ[i]? = some (some v)) : Inv X pins σ' H s :=
  ⟨I.ok,I.os,I.bare,I.base,let ⟨m,hn,hl'⟩:=I.loc; ⟨m,hn,fun i x v e1 e2 e3=>hl' i x v e1 (w i v e2) e3⟩,I.cell,I.free,I.freeC,I.pin,I.hok,hl.trans I.len⟩
theorem Inv.pins_of {pins':List (Addr × Obj)} (I:Inv X pins σ H s) (h:∀ p ∈ pins',s.heap.get? p.1 = some p.2 ∧ H p.1 = none ∧ p.1 ≠ X.env.locals ∧ p.1 ∉ X.fs ∧ ∀ v,p.2.data ≠ .cell v) : Inv X pins' σ H s :=
  ⟨I.ok,I.os,I.bare,I.base,I.loc,I.cell,I.free,I.freeC,fun p hp=>(List.mem_append.mp hp).elim (fun z=>I.pin p (List.mem_append_left _ z)) (h p),I.hok,I.len⟩
theorem nodup_ix {N:List Str} (hN:N.Nodup) {i j:Nat} {x:Str} (a:N[i]? = some x) (b:N[j]? = some x) : i = j:=by
  obtain ⟨h1,e1⟩:=List.getElem?_eq_some_iff.mp a
  obtain ⟨h2,e2⟩:=List.getElem?_eq_some_iff.mp b
  exact (List.getElem_inj hN).mp (e1.trans e2.symm)
theorem store_ok2 {M:Model} {A:Around} {E:Value → Shared → Prop} {i:Nat} {x:Str} {v:V} {u:Value} {Q:Unit → Shared → Prop} (I:Inv X pins σ H s) (hN:X.N.Nodup) (hi:X.N[i]? = some x) (hx:Loc X.env.scope x) (r:RelV v u)
    (h:∀ s',Inv X pins (σ.set i (some v)) H s' → (∃ a,Heap.SameBut a s.heap s'.heap ∧ (a = X.env.locals ∨ X.env.cells.lookup x = some a)) → Q () s') (hf:X.fn x = true ∨ X.env.scope.names.lookup x = some .local:=by first | exact .inl rfl | exact .inr rfl | assumption) : wpAny M A (storeName X.env x u) Q E s:=by
  obtain ⟨m,hn,hl⟩:=id I.loc
  have hcls : (X.env.scope.kind == .class || (X.env.scope.kind == .module && X.env.locals != X.env.globals)) = false:=by rw [I.ok.kind]; rfl
  have hiσ : i < σ.length:=by rw [I.len]; exact (List.getElem?_eq_some_iff.mp hi).1
  have cne:=I.cne
  have tracked : ∀ {a:Addr} {h':Heap},(∃ o,s.heap.get? a = some o ∧ H a = none) → Heap.SameBut a s.heap h' → HOk X.prog X.w H h':=fun {a h'} ha hs b ob e=>by
    obtain ⟨_,_,hfree⟩:=ha
    refine (I.hok b ob e).stay (fun c w' hc q=>(hs.2 c ?_).trans q) (fun _ q=>q) fun _ _ q=>q
    rintro rfl
    rcases hc with rfl | hc
    · rw [hfree] at e; cases e
    · rw [hfree] at hc; cases hc
  rcases hx with hk | hk
  · refine wpAny_storeName_local hk hn (fun h' hn' hs=>?_) hcls
    obtain ⟨oL,_,_,hoL,_⟩:=id hn
    refine h _ ⟨I.ok,I.os,I.bare,⟨fun b o e n hb hx=>?_,fun b o e n hb hx=>?_,I.base.free,fun b o e hx=>?_,I.base.tups,I.base.frzs,I.base.tbls⟩,⟨_,hn',fun j y v' e1 e2 e3=>?_⟩,fun y c e=>?_,I.free,I.freeC,fun p hp=>?_,tracked ⟨oL,hoL,I.free⟩ hs,by simpa using I.len⟩ ⟨_,hs,.inl rfl⟩
    · exact (hs.2 b (Nat.ne_of_lt (Nat.lt_of_lt_of_le (Heap.lt_size e) I.ok.above))).trans (I.base.keep b o e n hb hx)
    · obtain ⟨sl,e1⟩:=I.base.slot b o e n hb hx
      exact ⟨sl,(hs.2 b (Nat.ne_of_lt (Nat.lt_of_lt_of_le (Heap.lt_size e) I.ok.above))).trans e1⟩
    · obtain ⟨o',e1⟩:=I.base.there b o e hx
      exact ⟨o',(hs.2 b (Nat.ne_of_lt (Nat.lt_of_lt_of_le (Heap.lt_size e) I.ok.above))).trans e1⟩
    · by_cases hj : j = i
      · subst hj
        rw [hi] at e1; cases e1
        rw [List.getElem?_set_self hiσ] at e2
        cases e2
        exact ⟨u,r,.inl ⟨hk,by simp⟩⟩
      · rw [List.getElem?_set_ne (Ne.symm hj)] at e2
        obtain ⟨u',r',q⟩:=hl j y v' e1 e2 e3
        refine ⟨u',r',?_⟩
        rcases q with ⟨k,e⟩ | ⟨k,c,e,z⟩
        · refine .inl ⟨k,?_⟩
          have : y ≠ x:=fun e=>hj (nodup_ix hN e1 (e ▸ hi))
          simp [this,e]
        · exact .inr ⟨k,c,e,z.sameBut hs (cne y c e)⟩
    · obtain ⟨w',z⟩:=I.cell y c e
      exact ⟨w',z.sameBut hs (cne y c e)⟩
    · obtain ⟨e,n,ne,nf,d⟩:=I.pin p hp
      exact ⟨(hs.2 p.1 ne).trans e,n,ne,nf,d⟩
  · have hfn : X.fn x = true:=by
      rcases hf with z | z
      · exact z
      · rw [z] at hk; cases hk
    obtain ⟨c,hc⟩:=I.ok.has x (.inl hk)
    obtain ⟨w',z⟩:=I.cell x c hc
    refine wpAny_storeName_cell I.ok.kind hk hc z (fun h' hc' hs=>?_)
    obtain ⟨oc,hoc,hocd⟩:=id z
    refine h { s with heap:=h' } ⟨I.ok,I.os,I.bare,⟨fun b o e n hb hx=>?_,fun b o e n hb hx=>?_,I.base.free,fun b o e hx=>?_,I.base.tups,I.base.frzs,I.base.tbls⟩,⟨m,hn.sameBut hs (Ne.symm (cne x c hc)),fun j y v' e1 e2 e3=>?_⟩,fun y c' e=>?_,I.free,I.freeC,fun p hp=>?_,tracked ⟨oc,hoc,I.freeC x c hc⟩ hs,by simpa using I.len⟩ ⟨c,hs,.inr hc⟩
    · exact (hs.2 b (Nat.ne_of_lt (Nat.lt_of_lt_of_le (Heap.lt_size e) (I.ok.cab x c hfn hc)))).trans (I.base.keep b o e n hb hx)
    · obtain ⟨sl,e1⟩:=I.base.slot b o e n hb hx
      exact ⟨sl,(hs.2 b (Nat.ne_of_lt (Nat.lt_of_lt_of_le (Heap.lt_size e) (I.ok.cab x c hfn hc)))).trans e1⟩
    · obtain ⟨o',e1⟩:=I.base.there b o e hx
      exact ⟨o',(hs.2 b (Nat.ne_of_lt (Nat.lt_of_lt_of_le (Heap.lt_size e) (I.ok.cab x c hfn hc)))).trans e1⟩
    · by_cases hj : j = i
      · subst hj
        rw [hi] at e1; cases e1
        rw [List.getElem?_set_self hiσ] at e2
        cases e2
        exact ⟨u,r,.inr ⟨.inl hk,c,hc,hc'⟩⟩
      · rw [List.getElem?_set_ne (Ne.symm hj)] at e2
        obtain ⟨u',r',q⟩:=hl j y v' e1 e2 e3
        refine ⟨u',r',?_⟩
        rcases q with q | ⟨k,c',e,z'⟩
        · exact .inl q
        · refine .inr ⟨k,c',e,z'.sameBut hs ?_⟩
          rintro rfl
          exact hj (nodup_ix hN e1 (I.ok.inj _ _ _ e hc ▸ hi))
    · by_cases hcc : c' = c
      · subst hcc; exact ⟨_,hc'⟩
      · obtain ⟨w2,z2⟩:=I.cell y c' e
        exact ⟨w2,z2.sameBut hs hcc⟩
    · obtain ⟨e,n,ne,nf,d⟩:=I.pin p hp
      refine ⟨(hs.2 p.1 ?_).trans e,n,ne,nf,d⟩
      intro q
      rw [q,hoc] at e
      have q' : oc = p.2:=Option.some.inj e
      exact d w' (by rw [← q']; exact hocd)
theorem store_ok {M:Model} {A:Around} {E:Value → Shared → Prop} {i:Nat} {x:Str} {v:V} {u:Value} {Q:Unit → Shared → Prop} (I:Inv X pins σ H s) (hN:X.N.Nodup) (hi:X.N[i]? = some x) (hx:Loc X.env.scope x) (r:RelV v u)
    (h:∀ s',Inv X pins (σ.set i (some v)) H s' → Q () s') (hf:X.fn x = true ∨ X.env.scope.names.lookup x = some .local:=by first | exact .inl rfl | exact .inr rfl | assumption) : wpAny M A (storeName X.env x u) Q E s :=
  store_ok2 I hN hi hx r (fun s' I' _=>h s' I') hf
theorem Inv.call' {s':Shared} {ch:List Addr} (I:Inv X pins σ H s) (ho:s'.os = s.os) (u:Un (frs X.stack) ch H H' s.heap s'.heap) (hok:HOk X.prog X.w H' s'.heap) (hg:AllBare s'.gens)
    (hch:∀ b ∈ ch,(b ∈ X.ex ∨ X.s₀.heap.objs.size ≤ b) ∧ b ≠ X.env.locals ∧ (∀ x c,X.env.cells.lookup x = some c → c ≠ b) ∧ ∀ p ∈ X.pn ++ pins,p.1 ≠ b) : Inv X pins σ H' s':=by
  obtain ⟨h',g',d',t',o'⟩:=s'
  have e : o' = s.os:=ho
  subst e
  exact I.call (g':=g') (t':=t') (d':=d') u hok hg hch
end
abbrev XK:=Value → Option Addr → Hp → Prop
abbrev St:=List (Option V)
abbrev VK:=V → Hp → Prop
abbrev TE:=St → Hp → VK → Prop
abbrev TT:=St → Hp → (Bool → Hp → Prop) → Prop
abbrev TA:=St → Hp → (List V → Hp → Prop) → Prop
structure Ends where
  nx : St → Hp → Prop
  rt : VK
  bk : St → Hp → Prop:=fun _ _=>False
  ct : St → Hp → Prop:=fun _ _=>False
abbrev TS:=Ends → St → Hp → Prop
def EP (X:Cx) (pins:List (Addr × Obj)) (σ:St) (Q:VK) (u:Value) (s':Shared) : Prop:=∃ v H',Inv X pins σ H' s' ∧ RelV v u ∧ Q v H'
def TP (X:Cx) (pins:List (Addr × Obj)) (σ:St) (Q:Bool → Hp → Prop) (b:Bool) (s':Shared) : Prop:=∃ H',Inv X pins σ H' s' ∧ Q b H'
def AP (X:Cx) (pins:List (Addr × Obj)) (σ:St) (Q:List V → Hp → Prop) (us:List Value) (s':Shared) : Prop:=∃ vs H',Inv X pins σ H' s' ∧ Vals vs us ∧ Q vs H'
def SP (X:Cx) (pins:List (Addr × Obj)) (D:Ends) (f:Flow) (s':Shared) : Prop :=
  match f with
  | .next=>∃ σ' H',Inv X pins σ' H' s' ∧ D.nx σ' H'
  | .brk=>∃ σ' H',Inv X pins σ' H' s' ∧ D.bk σ' H'
  | .cont=>∃ σ' H',Inv X pins σ' H' s' ∧ D.ct σ' H'
  | .ret u=>∃ v σ' H',Inv X pins σ' H' s' ∧ RelV v u ∧ D.rt v H'
def PE (X:Cx) (e:Expr) (t:TE) : Prop :=
  ∀ (pins:List (Addr × Obj)) (s:Shared) (σ:St) (H:Hp) (Q:VK),Inv X pins σ H s → t σ H Q → wpAny (model X.prog X.w) X.A (eval e X.env) (EP X pins σ Q) X.xe s
def PT (X:Cx) (e:Expr) (t:TT) : Prop :=
  ∀ (pins:List (Addr × Obj)) (s:Shared) (σ:St) (H:Hp) (Q:Bool → Hp → Prop),Inv X pins σ H s → t σ H Q → wpAny (model X.prog X.w) X.A (isTrue e X.env (eval e X.env)) (TP X pins σ Q) X.xe s
def PW (X:Cx) (e:Expr) (t:TT) : Prop :=
  ∀ (whole:Sem Value) (pins:List (Addr × Obj)) (s:Shared) (σ:St) (H:Hp) (Q:Bool → Hp → Prop),Inv X pins σ H s → t σ H Q → wpAny (model X.prog X.w) X.A (isTrue e X.env whole) (TP X pins σ Q) X.xe s
theorem PW.pt {X:Cx} {e:Expr} {t:TT} (h:PW X e t) : PT X e t:=h _
def PA (X:Cx) (es:List Expr) (t:TA) : Prop :=
  ∀ (pos:Pos) (pins:List (Addr × Obj)) (s:Shared) (σ:St) (H:Hp) (Q:List V → Hp → Prop),Inv X pins σ H s → t σ H Q → wpAny (model X.prog X.w) X.A (spliced (backTo pos (starEach es X.env))) (AP X pins σ Q) X.xe s
def PS (X:Cx) (st:Stmt) (t:TS) : Prop :=
  ∀ (pins:List (Addr × Obj)) (s:Shared) (σ:St) (H:Hp) (D:Ends),Inv X pins σ H s → t D σ H → wpAny (model X.prog X.w) X.A (exec st X.env) (SP X pins D) X.xe s
def PSs (X:Cx) (st:List Stmt) (t:TS) : Prop :=
  ∀ (pins:List (Addr × Obj)) (s:Shared) (σ:St) (H:Hp) (D:Ends),Inv X pins σ H s → t D σ H → wpAny (model X.prog X.w) X.A (execs st X.env) (SP X pins D) X.xe s
theorem thn {α:Type} {t:Sem α} {Q Q':α → Shared → Prop} {M:Model} {A:Around} {E:Value → Shared → Prop} {s:Shared} (h:wpAny M A t Q E s) (hQ:∀ a s,Q a s → Q' a s) : wpAny M A t Q' E s:=wpAny_mono h hQ fun _ _ x=>x
end L2
namespace L2
open PySem PySem.Spec PyProof.Rows
section
variable {X:Cx}
def tVar (i:Nat) : TE:=fun σ H Q=>∃ v,σ[i]? = some (some v) ∧ Q v H
def tC (v:V) : TE:=fun _ H Q=>Q v H
theorem pe_var {i:Nat} {x:Str} {pos:Pos} (hN:X.N[i]? = some x) (hv:Vis X.env.scope x) (hd:(x == ("__debug__" : Str)) = false:=by decide) (hcd:(x == ("__classdict__" : Str)) = false:=by decide) : PE X (.Name x pos) (tVar i):=by
  intro pins s σ H Q I h
  obtain ⟨v,e,h⟩:=h
  obtain ⟨m,hn,hl⟩:=I.loc
  obtain ⟨u,r,l⟩:=hl i x v hN e hv
  have fin : EP X pins σ Q u s:=⟨v,H,I,r,h⟩
  rcases l with ⟨hk,hm⟩ | ⟨hk,c,hc,hcell⟩
  · exact wpAny_Name (wpAny_loadName_local I.ok.kind hk hn hm fin) hd
  · rcases hk with hk | hk
    · exact wpAny_Name (wpAny_loadName_cell I.ok.kind hk hc hcell fin) hd
    · exact wpAny_Name (wpAny_loadName_free I.ok.kind hk hc hcell fin hcd) hd
theorem pe_int {i j pos} : PE X (.Constant (.int i) j pos) (tC (.int i)):=fun _ _ _ H _ I h=>wpAny_Constant_int ⟨.int i,H,I.tok _,⟨_,rfl⟩,h⟩
theorem pe_bl {b j pos} : PE X (.Constant (.bool b) j pos) (tC (.bl b)):=fun _ _ _ H _ I h=>Constant_bool ⟨.bl b,H,I,rfl,h⟩
theorem pe_non {j pos} : PE X (.Constant .none j pos) (tC .non):=fun _ _ _ H _ I h=>Constant_none ⟨.non,H,I,rfl,h⟩
theorem pe_str {x j pos} : PE X (.Constant (.str x) j pos) (tC (.str x)):=fun _ _ _ H _ I h=>Calls.Constant_str ⟨.str x,H,I.tok _,⟨_,rfl⟩,h⟩
def Gl (X:Cx) (x:Str) : Prop:=X.env.kindOf x = some .globalImplicit
theorem ld_glob {E:Value → Shared → Prop} {pins:List (Addr × Obj)} {s:Shared} {σ:St} {H:Hp} {x:Str} {u:Value} {pos:Pos} {Q:Value → Shared → Prop} (I:Inv X pins σ H s) (hg:Gl X x) (hm:X.mg x = some u) (h:Q u s)
    (hd:(x == ("__debug__" : Str)) = false:=by decide) : wpAny (model X.prog X.w) X.A (eval (.Name x pos) X.env) Q E s :=
  Calls.Name_function_global I.ok.kind hg (Calls.loadGlobal_global (by rw [I.ok.glob]; exact I.mod.glob.keeps I.bk) hm h) hd
theorem ld_blt {E:Value → Shared → Prop} {pins:List (Addr × Obj)} {s:Shared} {σ:St} {H:Hp} {x:Str} {u:Value} {pos:Pos} {Q:Value → Shared → Prop} (I:Inv X pins σ H s) (hg:Gl X x) (hm:X.mg x = none) (hv:bootBuiltins x = some u) (h:Q u s)
    (hn:x ≠ "__name__" := by decide) (hd:(x == ("__debug__" : Str)) = false:=by decide) : wpAny (model X.prog X.w) X.A (eval (.Name x pos) X.env) Q E s:=by
  obtain ⟨mb,h1,h2⟩:=I.mod.blt
  exact Calls.Name_function_global I.ok.kind hg (Calls.loadGlobal_builtin (by rw [I.ok.glob]; exact I.mod.glob.keeps I.bk) hm (by rw [I.ok.blt]; exact h1.keeps I.bk) ((h2 x hn).trans hv) h) hd
theorem pe_glob {x:Str} {v:V} {u:Value} {pos:Pos} (hg:Gl X x) (hm:X.mg x = some u) (r:RelV v u) (hd:(x == ("__debug__" : Str)) = false:=by decide) : PE X (.Name x pos) (tC v) :=
  fun _ _ _ H _ I h=>ld_glob I hg hm ⟨v,H,I,r,h⟩ hd
theorem pe_bltn {x:Str} {v:V} {u:Value} {pos:Pos} (hg:Gl X x) (hm:X.mg x = none) (hv:bootBuiltins x = some u) (r:RelV v u) (hn:x ≠ "__name__" := by decide) (hd:(x == ("__debug__" : Str)) = false:=by decide) : PE X (.Name x pos) (tC v) :=
  fun _ _ _ H _ I h=>ld_blt I hg hm hv ⟨v,H,I,r,h⟩ hn hd
variable {a b:Expr} {ta tb:TE} {pos:Pos}
def tB (t:TE) : TT:=fun σ H Q=>t σ H fun x H1=>∃ c,x = .bl c ∧ Q c H1
theorem pt_val {e:Expr} {t:TE} (h:PE X e t) (he:∀ whole,isTrue e X.env whole = (do let v ← whole; standAt e.pos; holding [v] (truthy v)):=by intro _; rfl) : PT X e (tB t):=by
  intro pins s σ H Q I hw
  refine isTrue_plain (thn (h pins s σ H _ I hw) fun v s1 ⟨x,H1,I1,r1,q1⟩=>?_) (he _)
  obtain ⟨d,rfl,q⟩:=q1
  cases r1
  exact wpAny_truthy_bool ⟨H1,I1,q⟩
variable {tA tB':TT} {rest:List Expr}
def tAnd (t u:TT) : TT:=fun σ H Q=>t σ H fun c H1=>if c = true then u σ H1 Q else Q false H1
def tOr (t u:TT) : TT:=fun σ H Q=>t σ H fun c H1=>if c = true then Q true H1 else u σ H1 Q
def tNot (t:TT) : TT:=fun σ H Q=>t σ H fun c H1=>Q (!c) H1
theorem pw_and1 (ha:PT X a tA) : PW X (.BoolOp .And [a] pos) tA:=by
  intro wh pins s σ H Q I h
  refine isTrue_and (thn (ha pins s σ H Q I h) fun c s1 e=>?_)
  cases c with
  | true=>exact isTrue_and_nil e
  | false=>exact e
theorem pw_or1 (ha:PT X a tA) : PW X (.BoolOp .Or [a] pos) tA:=by
  intro wh pins s σ H Q I h
  refine isTrue_or (thn (ha pins s σ H Q I h) fun c s1 e=>?_)
  cases c with
  | false=>exact isTrue_or_nil e
  | true=>exact e
theorem pw_and (ha:PT X a tA) (hb:PW X (.BoolOp .And (b :: rest) pos) tB') : PW X (.BoolOp .And (a :: b :: rest) pos) (tAnd tA tB'):=by
  intro wh pins s σ H Q I h
  refine isTrue_and (thn (ha pins s σ H _ I h) fun c s1 ⟨H1,I1,q1⟩=>?_)
  cases c with
  | true=>exact hb wh pins s1 σ H1 Q I1 q1
  | false=>exact ⟨H1,I1,q1⟩
theorem pw_or (ha:PT X a tA) (hb:PW X (.BoolOp .Or (b :: rest) pos) tB') : PW X (.BoolOp .Or (a :: b :: rest) pos) (tOr tA tB'):=by
  intro wh pins s σ H Q I h
  refine isTrue_or (thn (ha pins s σ H _ I h) fun c s1 ⟨H1,I1,q1⟩=>?_)
  cases c with
  | true=>exact ⟨H1,I1,q1⟩
  | false=>exact hb wh pins s1 σ H1 Q I1 q1
theorem pt_not (ha:PT X a tA) : PT X (.UnaryOp .Not a pos) (tNot tA):=by
  intro pins s σ H Q I h
  exact isTrue_not (ha pins s σ H (fun c H1=>Q (!c) H1) I h)
def tAndV (ta tb:TE) : TE:=fun σ H Q=>ta σ H fun x H1=>∃ c,x = .bl c ∧ if c = true then tb σ H1 Q else Q (.bl false) H1
def tNotV (ta:TE) : TE:=fun σ H Q=>ta σ H fun x H1=>∃ c,x = .bl c ∧ Q (.bl (!c)) H1
theorem pe_one {op} {t:TE} (h:PE X a t) : PE X (.BoolOp op [a] pos) t:=fun pins s σ H Q I hw=>BoolOp_one (h pins s σ H Q I hw)
theorem pe_and (ha:PE X a ta) (hb:PE X (.BoolOp .And (b :: rest) pos) tb) : PE X (.BoolOp .And (a :: b :: rest) pos) (tAndV ta tb):=by
  intro pins s σ H Q I h
  refine BoolOp_and (thn (ha pins s σ H _ I h) fun v s1 ⟨x,H1,I1,r1,q1⟩=>?_)
  obtain ⟨c,rfl,q1⟩:=q1
  cases r1
  refine wpAny_truthy_bool ?_
  cases c with
  | true=>exact hb pins s1 σ H1 Q I1 q1
  | false=>exact ⟨.bl false,H1,I1,rfl,q1⟩
theorem pe_not (ha:PE X a ta) : PE X (.UnaryOp .Not a pos) (tNotV ta):=by
  intro pins s σ H Q I h
  refine UnaryOp_ (thn (ha pins s σ H _ I h) fun v s1 ⟨x,H1,I1,r1,q1⟩=>?_)
  obtain ⟨c,rfl,q1⟩:=q1
  cases r1
  exact not_of (wpAny_truthy_bool ⟨.bl (!c),H1,I1,rfl,q1⟩)
end
end L2
namespace L2
open PySem PySem.Spec PyProof.Rows
def SqL (K:PySem.W.Frag) (H:Hp) (a:Addr) (xs:List V) : Prop :=
  Rd H a (.lst xs) ∨
    ∃ (o:Obj) (its:Array Value) (n:Nat),K.lookup a = some o ∧ o.cls = .type "list" ∧ o.dict = none ∧ o.data = .seq its n ∧ its.size ≤ sizeLine ∧ Vals xs its.toList
def SqT (K:PySem.W.Frag) (H:Hp) (a:Addr) (xs:List V) : Prop :=
  Rd H a (.tup xs) ∨
    ∃ (o:Obj) (its:Array Value) (n:Nat),K.lookup a = some o ∧ o.cls = .type "tuple" ∧ o.data = .seq its n ∧ its.size ≤ sizeLine ∧ Vals xs its.toList
def absV : Value → Option V
  | .none=>some .non
  | .bool b=>some (.bl b)
  | .int i _=>some (.int i)
  | .str x _=>some (.str x)
  | .bytes b _=>some (.byt b)
  | .float b _=>some (.flt b)
  | .ref a=>some (.ref a)
  | .type n=>some (.ty n)
  | _=>none
theorem RelV.abs {x:V} {u:Value} (r:RelV x u) : absV u = some x:=by
  cases x with
  | non=>cases r; rfl
  | bl _=>cases r; rfl
  | int _=>obtain ⟨t,rfl⟩:=r; rfl
  | str _=>obtain ⟨t,rfl⟩:=r; rfl
  | byt _=>obtain ⟨t,rfl⟩:=r; rfl
  | flt _=>obtain ⟨t,rfl⟩:=r; rfl
  | ref _=>cases r; rfl
  | ty _=>cases r; rfl
theorem RelV.inj {x y:V} {u:Value} (r:RelV x u) (q:RelV y u) : x = y:=Option.some.inj (r.abs.symm.trans q.abs)
theorem Vals.inj : ∀ {xs ys:List V} {us:List Value},Vals xs us → Vals ys us → xs = ys
  | _,_,_,.nil,.nil=>rfl
  | _,_,_,.cons r t,.cons r' t'=>by rw [r.inj r',Vals.inj t t']
section
variable {X:Cx} {pins:List (Addr × Obj)} {σ:St} {H:Hp} {s:Shared} {a:Addr} {xs ys:List V}
theorem SqL.of {K:PySem.W.Frag} (h:H a = some (.lst xs)) : SqL K H a xs:=.inl (.inl h)
theorem SqT.of {K:PySem.W.Frag} (h:H a = some (.tup xs)) : SqT K H a xs:=.inl (.inl h)
theorem Inv.list (I:Inv X pins σ H s) (h:SqL X.K H a xs) : ∃ its : List Value,Vals xs its ∧ PlainL s.heap a its.toArray ∧ xs.length ≤ sizeLine:=by
  rcases h with h | ⟨o,its,n,hk,hc,hd,hs,hz,r⟩
  · obtain ⟨z,its,n,r,e⟩:=h.ok I.hok
    exact ⟨its,r,⟨_,n,e,rfl,rfl,rfl⟩,z⟩
  · refine ⟨its.toList,r,⟨o,n,I.kIn a o hk,hc,hd,by simpa using hs⟩,?_⟩
    have e:=r.length
    simp only [Array.length_toList] at e
    omega
theorem Inv.tuple (I:Inv X pins σ H s) (h:SqT X.K H a xs) : ∃ its : List Value,Vals xs its ∧ IsTup s.heap a its.toArray ∧ xs.length ≤ sizeLine:=by
  rcases h with h | ⟨o,its,n,hk,hc,hs,hz,r⟩
  · obtain ⟨z,its,r,p⟩:=h.ok I.hok
    exact ⟨its,r,p,z⟩
  · refine ⟨its.toList,r,⟨o,I.kIn a o hk,hc,n,by simpa using hs⟩,?_⟩
    have e:=r.length
    simp only [Array.length_toList] at e
    omega
theorem Inv.list_inj (I:Inv X pins σ H s) (h:SqL X.K H a xs) (h':SqL X.K H a ys) : xs = ys:=by
  obtain ⟨its,r,⟨o,n,e,_,_,d⟩,_⟩:=I.list h
  obtain ⟨its',r',⟨o',n',e',_,_,d'⟩,_⟩:=I.list h'
  rw [e] at e'; cases e'
  rw [d] at d'
  injection d' with d1 _
  have : its = its':=by simpa using congrArg Array.toList d1
  subst this
  exact r.inj r'
theorem Inv.tuple_inj (I:Inv X pins σ H s) (h:SqT X.K H a xs) (h':SqT X.K H a ys) : xs = ys:=by
  obtain ⟨its,r,⟨o,e,_,n,d⟩,_⟩:=I.tuple h
  obtain ⟨its',r',⟨o',e',_,n',d'⟩,_⟩:=I.tuple h'
  rw [e] at e'; cases e'
  rw [d] at d'
  injection d' with d1 _
  have : its = its':=by simpa using congrArg Array.toList d1
  subst this
  exact r.inj r'
end
abbrev Cx.wish (X:Cx) (E:Value → Shared → Prop) : Cx:={ X with xe:=E }
abbrev Cx.nox (X:Cx) : Cx:=X.wish fun _ _=>False
theorem Cx.Ok.wish {X:Cx} (ok:X.Ok) (E:Value → Shared → Prop) : (X.wish E).Ok :=
  ⟨ok.mod,ok.kind,ok.glob,ok.blt,ok.above,ok.inj,ok.has,ok.cab,ok.hd,ok.frames,ok.stk,ok.exf,ok.bs,ok.bsz,ok.noex,ok.exfs,ok.funs,ok.frf⟩
theorem Cx.Ok.unwish {X:Cx} {E:Value → Shared → Prop} (ok:(X.wish E).Ok) : X.Ok :=
  ⟨ok.mod,ok.kind,ok.glob,ok.blt,ok.above,ok.inj,ok.has,ok.cab,ok.hd,ok.frames,ok.stk,ok.exf,ok.bs,ok.bsz,ok.noex,ok.exfs,ok.funs,ok.frf⟩
section
variable {X:Cx} {pins:List (Addr × Obj)} {σ:St} {H:Hp} {s:Shared} {E:Value → Shared → Prop}
theorem Inv.wish (I:Inv X pins σ H s) (E:Value → Shared → Prop) : Inv (X.wish E) pins σ H s:=⟨I.ok.wish E,I.os,I.bare,I.base,I.loc,I.cell,I.free,I.freeC,I.pin,I.hok,I.len⟩
theorem Inv.unwish (I:Inv (X.wish E) pins σ H s) : Inv X pins σ H s:=⟨I.ok.unwish,I.os,I.bare,I.base,I.loc,I.cell,I.free,I.freeC,I.pin,I.hok,I.len⟩
theorem SP.unwish {D:Ends} {f:Flow} {s':Shared} (h:SP (X.wish E) pins D f s') : SP X pins D f s':=by
  cases f with
  | next=>obtain ⟨σ',H',I,q⟩:=h; exact ⟨σ',H',I.unwish,q⟩
  | brk=>obtain ⟨σ',H',I,q⟩:=h; exact ⟨σ',H',I.unwish,q⟩
  | cont=>obtain ⟨σ',H',I,q⟩:=h; exact ⟨σ',H',I.unwish,q⟩
  | ret u=>obtain ⟨v,σ',H',I,r,q⟩:=h; exact ⟨v,σ',H',I.unwish,r,q⟩
theorem PSs.nox {st:List Stmt} {t:TS} (h:PSs X.nox st t) : PSs X st t:=fun pins s σ H D I hw =>
  wpAny_mono (h pins s σ H D (I.wish _) hw) (fun _ _ q=>q.unwish) fun _ _ z=>False.elim z
end
section
variable {X:Cx} {st:Stmt} {rest:List Stmt} {t u:TS} {e:Expr} {te:TE} {pos:Pos}
def tNext : TS:=fun D σ H=>D.nx σ H
def tSeq (t u:TS) : TS:=fun D σ H=>t { D with nx:=u D } σ H
theorem pss_nil : PSs X [] tNext:=fun _ _ σ H _ I h=>wpAny_execs_nil ⟨σ,H,I,h⟩
theorem pss_cons (h1:PS X st t) (h2:PSs X rest u) : PSs X (st :: rest) (tSeq t u):=by
  intro pins s σ H D I h
  refine wpAny_execs_cons (thn (h1 pins s σ H { D with nx:=u D } I h) fun f s1 q=>?_)
  cases f with
  | next =>
    obtain ⟨σ',H',I',q⟩:=q
    exact h2 pins s1 σ' H' D I' q
  | ret v=>exact q
  | brk=>exact q
  | cont=>exact q
theorem pss_one (h1:PS X st t) : PSs X [st] t:=by
  intro pins s σ H D I h
  refine wpAny_execs_cons (thn (h1 pins s σ H D I h) fun f s1 q=>?_)
  cases f with
  | next=>exact wpAny_execs_nil q
  | ret v=>exact q
  | brk=>exact q
  | cont=>exact q
theorem Inv.quiet {pins:List (Addr × Obj)} {σ:St} {H:Hp} {s:Shared} (I:Inv X pins σ H s) : interactive X.env = false:=by simp [interactive,I.ok.kind]
def tDrop (te:TE) : TS:=fun D σ H=>te σ H fun _ H1=>D.nx σ H1
theorem ps_expr (he:PE X e te) (hs:swapsWith e none pos.line X.env = pure false:=by rfl) : PS X (.Expr e pos) (tDrop te):=by
  intro pins s σ H D I h
  exact wpAny_Expr_any (thn (he pins s σ H _ I h) fun v s1 ⟨x,H1,I1,r1,q1⟩=>⟨σ,H1,I1,q1⟩) I.quiet hs
def tRet (te:TE) : TS:=fun D σ H=>te σ H D.rt
theorem ps_ret (he:PE X e te) : PS X (.Return (some e) pos) (tRet te):=by
  intro pins s σ H D I h
  exact wpAny_Return_some (thn (he pins s σ H _ I h) fun v s1 ⟨x,H1,I1,r1,q1⟩=>⟨x,σ,H1,I1,r1,q1⟩)
def tIfS (c:TT) (t u:TS) : TS:=fun D σ H=>c σ H fun b H1=>if b = true then t D σ H1 else u D σ H1
theorem ps_if {c:Expr} {a b:List Stmt} {tc:TT} (hc:PT X c tc) (ha:PSs X a t) (hb:PSs X b u) : PS X (.If c a b pos) (tIfS tc t u):=by
  intro pins s σ H D I h
  refine wpAny_If (thn (hc pins s σ H _ I h) fun d s1 ⟨H1,I1,q1⟩=>?_)
  cases d with
  | true=>exact ha pins s1 σ H1 D I1 q1
  | false=>exact hb pins s1 σ H1 D I1 q1
end
abbrev TG:=V → St → Hp → (St → Hp → Prop) → Prop
abbrev TGs:=List V → St → Hp → (St → Hp → Prop) → Prop
def PG (X:Cx) (target:Expr) (t:TG) : Prop :=
  ∀ (pins:List (Addr × Obj)) (s:Shared) (σ:St) (H:Hp) (v:V) (u:Value) (Q:St → Hp → Prop),Inv X pins σ H s → RelV v u → t v σ H Q →
    wpAny (model X.prog X.w) X.A (assign target X.env u) (fun _ s'=>∃ σ' H',Inv X pins σ' H' s' ∧ Q σ' H') X.xe s
def PGs (X:Cx) (ts:List Expr) (t:TGs) : Prop :=
  ∀ (pins:List (Addr × Obj)) (s:Shared) (σ:St) (H:Hp) (vs:List V) (us:List Value) (Q:St → Hp → Prop),Inv X pins σ H s → Vals vs us → t vs σ H Q →
    wpAny (model X.prog X.w) X.A (assignInOrder ((assignEach ts X.env).map (·.2)) us) (fun _ s'=>∃ σ' H',Inv X pins σ' H' s' ∧ Q σ' H') X.xe s
abbrev TIp:=V → V → Hp → VK → Prop
def PIp (X:Cx) (op:Operator) (t:TIp) : Prop :=
  ∀ (pins:List (Addr × Obj)) (s:Shared) (σ:St) (H:Hp) (x y:V) (v u:Value) (Q:VK),Inv X pins σ H s → RelV x v → RelV y u → t x y H Q →
    wpAny (model X.prog X.w) X.A (inplaceOp op v u) (EP X pins σ Q) X.xe s
section
variable {X:Cx} {pos:Pos}
def gName (i:Nat) : TG:=fun v σ H Q=>Q (σ.set i (some v)) H
theorem pg_name {i:Nat} {x:Str} (hN:X.N.Nodup) (hi:X.N[i]? = some x) (hx:Loc X.env.scope x) (hf:X.fn x = true ∨ X.env.scope.names.lookup x = some .local:=by first | exact .inl rfl | exact .inr rfl | assumption) : PG X (.Name x pos) (gName i):=by
  intro pins s σ H v u Q I r h
  exact wpAny_assign_Name (store_ok I hN hi hx r (fun s' I'=>⟨_,H,I',h⟩) hf)
def gNil : TGs:=fun vs σ H Q=>vs = [] ∧ Q σ H
def gCons (t:TG) (u:TGs) : TGs:=fun vs σ H Q=>∃ v r,vs = v :: r ∧ t v σ H fun σ' H'=>u r σ' H' Q
theorem pgs_nil : PGs X [] gNil:=by
  intro pins s σ H vs us Q I r h
  obtain ⟨e,h⟩:=h
  subst e
  cases r
  exact assignInOrder_nil ⟨σ,H,I,h⟩
theorem pgs_cons {e:Expr} {es:List Expr} {t:TG} {u:TGs} (h1:PG X e t) (h2:PGs X es u)
    (hs:(assignEach (e :: es) X.env).map (·.2) = assign e X.env :: (assignEach es X.env).map (·.2):=by rfl) : PGs X (e :: es) (gCons t u):=by
  intro pins s σ H vs us Q I r h
  obtain ⟨v,vr,e1,h⟩:=h
  subst e1
  cases r with
  | cons r rr =>
    rw [hs]
    refine assignInOrder_cons (thn (h1 pins s σ H _ _ _ I r h) fun _ s1 ⟨σ1,H1,I1,q1⟩=>?_)
    exact h2 pins s1 σ1 H1 _ _ Q I1 rr q1
def gTup (K:PySem.W.Frag) (n:Nat) (t:TGs) : TG:=fun v σ H Q=>∃ a xs,v = .ref a ∧ SqT K H a xs ∧ xs.length = n ∧ t xs σ H Q
theorem pg_tup {es:List Expr} {k:Nat} {t:TGs} {n:Nat} (hc:X.calm = true) (h:PGs X es t)
    (hn:(assignEach es X.env).length = n:=by rfl) (hst:(assignEach es X.env).findIdx? (·.1) = none:=by rfl) : PG X (.Tuple es k pos) (gTup X.K n t):=by
  intro pins s σ H v u Q I r hw
  obtain ⟨a,xs,e1,hq,hl,hw⟩:=hw
  subst e1
  cases r
  obtain ⟨its,rv,ht,hz⟩:=I.tuple hq
  refine assign_Tuple_tuple (I.ok.hd hc) ht (by simp [hn,← hl,rv.length]) hst fun h' hx=>?_
  have I1 : Inv X pins σ H { s with heap:=h' }:=I.kept (t':=s.toks) fun b o e=>hx b o (Nat.ne_of_lt (Heap.lt_size e)) e
  exact h pins _ σ H xs _ Q I1 (by simpa using rv) hw
def tAsg (te:TE) (g:TG) : TS:=fun D σ H=>te σ H fun x H1=>g x σ H1 D.nx
theorem ps_set {i:Nat} {x:Str} {e:Expr} {te:TE} {pos':Pos} (hN:X.N.Nodup) (hi:X.N[i]? = some x) (hx:Loc X.env.scope x) (he:PE X e te) (hs:swapsWith e (some (.Name x pos')) pos.line X.env = pure false:=by rfl) (hf:X.fn x = true ∨ X.env.scope.names.lookup x = some .local:=by first | exact .inl rfl | exact .inr rfl | assumption) :
    PS X (.Assign [.Name x pos'] e pos) (tAsg te (gName i)):=by
  intro pins s σ H D I h
  refine wpAny_Assign_Name (thn (he pins s σ H _ I h) fun v s1 ⟨y,H1,I1,r1,q1⟩=>?_) hs
  exact store_ok I1 hN hi hx r1 (fun s2 I2=>⟨_,H1,I2,q1⟩) hf
def tAug (i:Nat) (te:TE) (ti:TIp) : TS:=fun D σ H=>∃ x,σ[i]? = some (some x) ∧ te σ H fun y H1=>ti x y H1 fun z H2=>D.nx (σ.set i (some z)) H2
theorem ps_aug {i:Nat} {x:Str} {e:Expr} {te:TE} {op:Operator} {ti:TIp} {pos':Pos} (hN:X.N.Nodup) (hi:X.N[i]? = some x) (hx:Loc X.env.scope x) (he:PE X e te) (ho:PIp X op ti) (hf:X.fn x = true ∨ X.env.scope.names.lookup x = some .local:=by first | exact .inl rfl | exact .inr rfl | assumption) :
    PS X (.AugAssign (.Name x pos') op e pos) (tAug i te ti):=by
  intro pins s σ H D I h
  obtain ⟨v,e1,h⟩:=h
  obtain ⟨m,hn,hl⟩:=I.loc
  have vis : Vis X.env.scope x:=by rcases hx with k | k; exact .inl k; exact .inr (.inl k)
  obtain ⟨u,r,l⟩:=hl i x v hi e1 vis
  refine wpAny_AugAssign_Name ?_
  have go : wpAny (model X.prog X.w) X.A (eval e X.env) (fun w s₂=>wpAny (model X.prog X.w) X.A (inplaceOp op u w) (fun r s₃=>wpAny (model X.prog X.w) X.A (storeName X.env x r) (fun _=>SP X pins D .next) X.xe s₃) X.xe s₂) X.xe s:=by
    refine thn (he pins s σ H _ I h) fun w s1 ⟨y,H1,I1,r1,q1⟩=>?_
    refine thn (ho pins s1 σ H1 v y u w _ I1 r r1 q1) fun z s2 ⟨zv,H2,I2,r2,q2⟩=>?_
    exact store_ok I2 hN hi hx r2 (fun s3 I3=>⟨_,H2,I3,q2⟩) hf
  rcases l with ⟨hk,hm⟩ | ⟨hk,c,hc,hcell⟩
  · exact wpAny_loadName_local I.ok.kind hk hn hm go
  · rcases hk with hk | hk
    · exact wpAny_loadName_cell I.ok.kind hk hc hcell go
    · rcases hx with k | k
      · have : X.env.scope.names.lookup x = some .free:=hk
        rw [k] at this; cases this
      · have : X.env.scope.names.lookup x = some .free:=hk
        rw [k] at this; cases this
def ipI (f:Int → Int → Int) : TIp:=fun x y H Q=>∃ i j,x = .int i ∧ y = .int j ∧ Q (.int (f i j)) H
theorem ip_add : PIp X .Add (ipI fun i j=>i + j):=by
  intro pins s σ H x y v u Q I r1 r2 h
  obtain ⟨i,j,e1,e2,q⟩:=h
  subst e1; subst e2
  obtain ⟨t,rfl⟩:=r1
  obtain ⟨t',rfl⟩:=r2
  exact iadd_int ⟨.int _,H,I.tok _,⟨_,rfl⟩,q⟩
end
section
variable {X:Cx} {pos:Pos}
def tWhile (c:TT) (tb:TS) : TS:=fun D σ H=>∃ W : Nat → St → Hp → Prop,(∃ m,W m σ H) ∧ ∀ m σ H,W m σ H →
  c σ H fun b H1=>if b = true then ∃ N : St → Hp → Prop,(∀ σ' H',N σ' H' → ∃ m',m' < m ∧ W m' σ' H') ∧ tb { D with nx:=N,ct:=N,bk:=D.nx } σ H1 else D.nx σ H1
theorem ps_while {c:Expr} {body:List Stmt} {tc:TT} {tb:TS} (hp:PassesOwn (model X.prog X.w) X.A X.env X.xe) (hc:PT X c tc) (hb:PSs X body tb) : PS X (.While c body [] pos) (tWhile tc tb):=by
  intro pins s σ H D I h
  obtain ⟨W,⟨m0,w0⟩,turn⟩:=h
  refine wpAny_While (codeAny_whileLoop (fun n s'=>∃ σ' H',Inv X pins σ' H' s' ∧ W n σ' H') ?_ m0 ⟨σ,H,I,w0⟩)
  rintro n s1 ⟨σ1,H1,I1,w1⟩
  refine wpAny_passesOwn hp (thn (hc pins s1 σ1 H1 _ I1 (turn n σ1 H1 w1)) fun b s2 ⟨H2,I2,q2⟩=>?_)
  cases b with
  | true =>
    obtain ⟨N,hN,q2⟩:=q2
    rw [if_pos rfl]
    refine wpAny_passesOwn hp (thn (hb pins s2 σ1 H2 _ I2 q2) fun f s3 q3=>?_)
    cases f with
    | next =>
      obtain ⟨σ3,H3,I3,n3⟩:=q3
      obtain ⟨m',hm,w3⟩:=hN σ3 H3 n3
      exact ⟨m',hm,σ3,H3,I3,w3⟩
    | cont =>
      obtain ⟨σ3,H3,I3,n3⟩:=q3
      obtain ⟨m',hm,w3⟩:=hN σ3 H3 n3
      exact ⟨m',hm,σ3,H3,I3,w3⟩
    | brk=>exact q3
    | ret v=>exact q3
  | false =>
    rw [if_neg Bool.false_ne_true]
    exact wpAny_execs_nil ⟨σ1,H2,I2,q2⟩
end
structure It where
  go : Nat → Hp → Prop
  yld : Nat → Hp → V → Hp → Prop
  stop : Nat → Hp → Prop
def FpOk (X:Cx) (pins:List (Addr × Obj)) (H:Hp) (b:Addr) : Prop :=
  H b = none ∧ b ≠ X.env.locals ∧ b ∉ X.fs ∧ (b ∈ X.ex ∨ X.s₀.heap.objs.size ≤ b) ∧ (∀ x c,X.env.cells.lookup x = some c → c ≠ b) ∧ ∀ p ∈ X.pn ++ pins,p.1 ≠ b
theorem Inv.fpOk {X:Cx} {pins:List (Addr × Obj)} {σ:St} {H H':Hp} {s:Shared} {b:Addr} (I:Inv X pins σ H s) (hb:s.heap.objs.size ≤ b) (hn:H' b = none) : FpOk X pins H' b:=by
  refine ⟨hn,Nat.ne_of_gt (Nat.lt_of_lt_of_le I.lt hb),I.nofs hb,.inr (Nat.le_trans I.sz hb),fun x c e z=>?_,fun p hp z=>?_⟩
  · obtain ⟨v,q⟩:=I.cell x c e
    exact absurd (Nat.lt_of_lt_of_le q.lt (by rw [z]; exact hb)) (Nat.lt_irrefl _)
  · exact absurd (Nat.lt_of_lt_of_le (Heap.lt_size (I.pin p hp).1) (by rw [z]; exact hb)) (Nat.lt_irrefl _)
structure Turn (P:Program) (w:World) (K:PySem.W.Frag) (tg:Expr) (J:It) (fp:List Addr) (it:Addr) (tn:Nat → Heap → Prop) : Prop where
  mem : it ∈ fp
  obj : ∀ i h,tn i h → ∀ b ∈ fp,∃ o,h.get? b = some o ∧ ∀ v,o.data ≠ .cell v
  keep : ∀ i h h',tn i h → (∀ b ∈ fp,∀ o,h.get? b = some o → h'.get? b = some o) → tn i h'
  item : ∀ (X:Cx),X.prog = P → X.w = w → X.K = K → X.calm = true → ∀ (i:Nat) (pins:List (Addr × Obj)) (s:Shared) (σ:St) (H:Hp) (E:Value → Shared → Prop),Inv X pins σ H s → (∀ b ∈ fp,FpOk X pins H b) → tn i s.heap → J.go i H →
    wpAny (model P w) X.A (pyNext (.ref it)) (fun r s1=>∃ u,r = some u ∧
      wpAny (model P w) X.A (letOwnedTupleGo tg (.ref it) u) (fun _ s2=>∃ x H',Inv X pins σ H' s2 ∧ RelV x u ∧ J.yld i H x H' ∧ tn (i + 1) s2.heap ∧ ∀ b ∈ fp,H' b = none) E s1) E s
  done : ∀ (X:Cx),X.prog = P → X.w = w → X.K = K → X.calm = true → ∀ (i:Nat) (pins:List (Addr × Obj)) (s:Shared) (σ:St) (H:Hp) (E:Value → Shared → Prop),Inv X pins σ H s → (∀ b ∈ fp,FpOk X pins H b) → tn i s.heap → J.stop i H →
    wpAny (model P w) X.A (pyNext (.ref it)) (fun r s1=>r = none ∧ Inv X pins σ H s1) E s
  self : ∀ (A:Around) (i:Nat) (s:Shared) (Q:Value → Shared → Prop) (E:Value → Shared → Prop),tn i s.heap → Q (.ref it) s → wpAny (model P w) A (pyIter (.ref it)) Q E s
abbrev TI:=St → Hp → (It → Hp → Prop) → Prop
def PIE (X:Cx) (pins:List (Addr × Obj)) (σ:St) (tg:Expr) (R:It → Hp → Prop) (itv:Value) (s2:Shared) : Prop :=
  ∃ (it:Addr) (fp:List Addr) (tn:Nat → Heap → Prop) (J:It) (H':Hp),itv = .ref it ∧ Inv X pins σ H' s2 ∧ Turn X.prog X.w X.K tg J fp it tn ∧ tn 0 s2.heap ∧ (∀ b ∈ fp,FpOk X pins H' b) ∧ R J H'
def PI (X:Cx) (tg iter:Expr) (wi:TI) : Prop :=
  ∀ (pins:List (Addr × Obj)) (s:Shared) (σ:St) (H:Hp) (R:It → Hp → Prop),Inv X pins σ H s → wi σ H R →
    wpAny (model X.prog X.w) X.A (eval iter X.env) (fun v s1=>wpAny (model X.prog X.w) X.A (pyIter v) (PIE X pins σ tg R) X.xe s1) X.xe s
theorem go_of {M:Model} {A:Around} {E:Value → Shared → Prop} {s:Shared} {tg:Expr} {it:Addr} {u:Value} {o:Obj} {n:String} {vs:Array Value} {Q:Unit → Shared → Prop} (ho:s.heap.get? it = some o) (hc:o.cls = .type n) (hd:o.data = .fields vs)
    (hn:["enumerate", "zip", "dict_itemiterator", "dict_reverseitemiterator", "odict_iterator", "itertools.zip_longest", "itertools.pairwise"].contains n = false) (hQ:Q () s) : wpAny M A (letOwnedTupleGo tg (.ref it) u) Q E s:=by
  unfold letOwnedTupleGo
  cases tg <;> first
    | exact wpAny_pure hQ
    | (cases u <;> first
        | exact wpAny_pure hQ
        | (refine wpAny_bind (wpAny_load ho ?_)
           rw [hc,hd]
           show wpAny M A (if (["enumerate", "zip", "dict_itemiterator", "dict_reverseitemiterator", "odict_iterator", "itertools.zip_longest", "itertools.pairwise"].contains n && vs[0]? == some (rawInt _)) = true then _ else _) Q E s
           rw [if_neg (by intro h; rw [hn,Bool.false_and] at h; cases h)]
           exact wpAny_pure hQ))
def Itl (K:PySem.W.Frag) (a:Addr) : It :=
  ⟨fun i H=>∃ xs x,SqL K H a xs ∧ xs[i]? = some x,fun i H x H'=>H' = H ∧ ∀ xs,SqL K H a xs → xs[i]? = some x,fun i H=>∃ xs,SqL K H a xs ∧ xs.length ≤ i⟩
def Itt (K:PySem.W.Frag) (a:Addr) : It :=
  ⟨fun i H=>∃ xs x,SqT K H a xs ∧ xs[i]? = some x,fun i H x H'=>H' = H ∧ ∀ xs,SqT K H a xs → xs[i]? = some x,fun i H=>∃ xs,SqT K H a xs ∧ xs.length ≤ i⟩
def Itr (lo:Int) (n:Nat) : It:=⟨fun i _=>i < n,fun i H x H'=>H' = H ∧ x = .int (lo + i),fun i _=>n ≤ i⟩
theorem turn_list {P:Program} {w:World} {K:PySem.W.Frag} {tg:Expr} (a it:Addr) : Turn P w K tg (Itl K a) [it] it (fun i h=>h.IsListIter it a i) where
  mem:=by simp
  obj:=fun i h st b hb=>by
    have e : b = it:=by simpa using hb
    subst e
    obtain ⟨o,e,c,d⟩:=st
    exact ⟨o,e,fun v z=>by rw [d] at z; cases z⟩
  keep:=fun i h h' st k=>st.at fun o e=>k it (by simp) o e
  item:=by
    intro X hP hw hK hc i pins s σ H E I hf st hg
    subst hP hw hK
    obtain ⟨xs,x,hq,hx⟩:=hg
    obtain ⟨its,rv,p,hz⟩:=I.list hq
    obtain ⟨u,hu,ru⟩:=rv.get hx
    obtain ⟨f0,f1,f2,f3,f4,f5⟩:=hf it (by simp)
    refine wpAny_pyNext_list_item st p.isList (x:=u) (by simpa using hu) fun h' st' sb=>?_
    have I1 : Inv X pins σ H { s with heap:=h' }:=I.turned (t':=s.toks) (fun b o hb e=>(sb.2 b hb).trans e) f0 f1 f3 f4 f5
    obtain ⟨o,e,c,d⟩:=id st'
    exact ⟨u,rfl,go_of (s:={ s with heap:=h' }) e c d (by decide) ⟨x,H,I1,ru,⟨rfl,fun ys hy=>by rw [I.list_inj hy hq]; exact hx⟩,st',fun b hb=>(hf b hb).1⟩⟩
  done:=by
    intro X hP hw hK hc i pins s σ H E I hf st hg
    subst hP hw hK
    obtain ⟨xs,hq,hx⟩:=hg
    obtain ⟨its,rv,p,hz⟩:=I.list hq
    obtain ⟨f0,f1,f2,f3,f4,f5⟩:=hf it (by simp)
    have hl:=rv.length
    exact wpAny_pyNext_list_end (I.ok.hd hc) st p.isList (by simp; omega) fun h' eb=>⟨rfl,I.turned (t':=s.toks) (fun b o hb e=>eb b o hb e) f0 f1 f3 f4 f5⟩
  self:=fun _ _ _ _ _ st h=>wpAny_pyIter_listiter st h
theorem turn_tuple {P:Program} {w:World} {K:PySem.W.Frag} {tg:Expr} (a it:Addr) : Turn P w K tg (Itt K a) [it] it (fun i h=>h.IsTupleIter it a i) where
  mem:=by simp
  obj:=fun i h st b hb=>by
    have e : b = it:=by simpa using hb
    subst e
    obtain ⟨o,e,c,d⟩:=st
    exact ⟨o,e,fun v z=>by rw [d] at z; cases z⟩
  keep:=fun i h h' st k=>st.at fun o e=>k it (by simp) o e
  item:=by
    intro X hP hw hK hc i pins s σ H E I hf st hg
    subst hP hw hK
    obtain ⟨xs,x,hq,hx⟩:=hg
    obtain ⟨its,rv,p,hz⟩:=I.tuple hq
    obtain ⟨u,hu,ru⟩:=rv.get hx
    obtain ⟨f0,f1,f2,f3,f4,f5⟩:=hf it (by simp)
    refine wpAny_pyNext_tuple_item st (show s.heap.IsTuple a its.toArray from p) (x:=u) (by simpa using hu) fun h' st' sb=>?_
    have I1 : Inv X pins σ H { s with heap:=h' }:=I.turned (t':=s.toks) (fun b o hb e=>(sb.2 b hb).trans e) f0 f1 f3 f4 f5
    obtain ⟨o,e,c,d⟩:=id st'
    exact ⟨u,rfl,go_of (s:={ s with heap:=h' }) e c d (by decide) ⟨x,H,I1,ru,⟨rfl,fun ys hy=>by rw [I.tuple_inj hy hq]; exact hx⟩,st',fun b hb=>(hf b hb).1⟩⟩
  done:=by
    intro X hP hw hK hc i pins s σ H E I hf st hg
    subst hP hw hK
    obtain ⟨xs,hq,hx⟩:=hg
    obtain ⟨its,rv,p,hz⟩:=I.tuple hq
    obtain ⟨f0,f1,f2,f3,f4,f5⟩:=hf it (by simp)
    have hl:=rv.length
    exact wpAny_pyNext_tuple_end (I.ok.hd hc) st (show s.heap.IsTuple a its.toArray from p) (by simp; omega) fun h' eb=>⟨rfl,I.turned (t':=s.toks) (fun b o hb e=>eb b o hb e) f0 f1 f3 f4 f5⟩
  self:=fun _ _ _ _ _ st h=>wpAny_pyIter_tupleiter st h
theorem turn_range {P:Program} {w:World} {K:PySem.W.Frag} {tg:Expr} (it:Addr) (lo:Int) (n:Nat) : Turn P w K tg (Itr lo n) [it] it (fun i h=>IsRangeIter h it (lo + (i:Nat) * 1) ((n:Int) - (i:Nat)) 1) where
  mem:=by simp
  obj:=fun i h st b hb=>by
    have e : b = it:=by simpa using hb
    subst e
    exact ⟨_,st,fun v z=>by
      have z' : Data.fields _ = Data.cell v:=z
      cases z'⟩
  keep:=fun i h h' st k=>k it (by simp) _ st
  item:=by
    intro X hP hw hK hc i pins s σ H E I hf st hg
    subst hP hw hK
    obtain ⟨f0,f1,f2,f3,f4,f5⟩:=hf it (by simp)
    have W:=Walks.range (prog:=X.prog) (w:=X.w) (I.ok.hd hc) it lo 1 n
    refine W.item i s _ _ hg st fun v h' tk hv st' kk=>?_
    obtain ⟨t,rfl⟩:=hv
    have I1 : Inv X pins σ H { s with heap:=h',toks:=tk }:=I.turned (fun b o hb e=>kk b o (by simpa using hb) e) f0 f1 f3 f4 f5
    refine ⟨_,rfl,go_of (s:={ s with heap:=h',toks:=tk }) (n := "range_iterator") st' rfl rfl (by decide) ⟨.int (lo + i),H,I1,⟨t,?_⟩,⟨rfl,rfl⟩,st',fun b hb=>(hf b hb).1⟩⟩
    rw [Int.mul_one]
  done:=by
    intro X hP hw hK hc i pins s σ H E I hf st hg
    subst hP hw hK
    obtain ⟨f0,f1,f2,f3,f4,f5⟩:=hf it (by simp)
    exact wpAny_pyNext_range_end (I.ok.hd hc) st (by have:n ≤ i:=hg; omega) fun h' eb=>⟨rfl,I.turned (t':=s.toks) (fun b o hb e=>eb b o hb e) f0 f1 f3 f4 f5⟩
  self:=fun _ _ _ _ _ st h=>wpAny_pyIter_rangeiter st h
end L2
namespace L2
open PySem PySem.Spec PyProof.Rows
section
variable {X:Cx} {tg:Expr}
def iList (K:PySem.W.Frag) (tl:TE) : TI:=fun σ H R=>tl σ H fun x H1=>∃ a,x = .ref a ∧ (∃ xs,SqL K H1 a xs) ∧ R (Itl K a) H1
def iTup (K:PySem.W.Frag) (tl:TE) : TI:=fun σ H R=>tl σ H fun x H1=>∃ a,x = .ref a ∧ (∃ xs,SqT K H1 a xs) ∧ R (Itt K a) H1
theorem pi_list {l:Expr} {tl:TE} (hl:PE X l tl) : PI X tg l (iList X.K tl):=by
  intro pins s σ H R I h
  refine thn (hl pins s σ H _ I h) fun v s1 ⟨x,H1,I1,r1,q1⟩=>?_
  obtain ⟨a,e,⟨xs,hq⟩,q⟩:=q1
  subst e
  cases r1
  obtain ⟨its,rv,p,hz⟩:=I1.list hq
  refine wpAny_pyIter_list p.isList ?_
  refine ⟨s1.heap.objs.size,[s1.heap.objs.size],_,_,H1,rfl,I1.kept (t':=s1.toks) fun b o e=>Heap.get?_push_of_some _ e,turn_list a _,⟨_,Heap.get?_push_size _ rfl,rfl,rfl⟩,fun b hb=>?_,q⟩
  have e : b = s1.heap.objs.size:=by simpa using hb
  subst e
  exact I1.fpOk (Nat.le_refl _) (I1.hok.fresh (Nat.le_refl _))
theorem pi_tup {l:Expr} {tl:TE} (hl:PE X l tl) : PI X tg l (iTup X.K tl):=by
  intro pins s σ H R I h
  refine thn (hl pins s σ H _ I h) fun v s1 ⟨x,H1,I1,r1,q1⟩=>?_
  obtain ⟨a,e,⟨xs,hq⟩,q⟩:=q1
  subst e
  cases r1
  obtain ⟨its,rv,p,hz⟩:=I1.tuple hq
  refine wpAny_pyIter_tuple (show s1.heap.IsTuple a its.toArray from p) ?_
  refine ⟨s1.heap.objs.size,[s1.heap.objs.size],_,_,H1,rfl,I1.kept (t':=s1.toks) fun b o e=>Heap.get?_push_of_some _ e,turn_tuple a _,⟨_,Heap.get?_push_size _ rfl,rfl,rfl⟩,fun b hb=>?_,q⟩
  have e : b = s1.heap.objs.size:=by simpa using hb
  subst e
  exact I1.fpOk (Nat.le_refl _) (I1.hok.fresh (Nat.le_refl _))
theorem range_it {pins:List (Addr × Obj)} {σ:St} {H:Hp} {s:Shared} {R:It → Hp → Prop} {E:Value → Shared → Prop} {lo hi:Int} {t u v:Tok} {tk:Nat} (I:Inv X pins σ H s) (h1:-(2 ^ 62) ≤ lo) (h2:lo < 2 ^ 62) (h3:-(2 ^ 62) ≤ hi) (h4:hi < 2 ^ 62)
    (q:R (Itr lo (hi - lo).toNat) H) : wpAny (model X.prog X.w) X.A (pyIter (.ref s.heap.objs.size)) (PIE X pins σ tg R) E { s with heap:=s.heap.push { cls:=.type "range", data:=.fields #[.int lo t,.int hi u,.int 1 v] },toks:=tk }:=by
  refine wpAny_pyIter_range (IsRange.new ..) (small_one h1 h2 h3 h4) ?_
  have I1 : Inv X pins σ H { s with heap:=s.heap.push { cls:=.type "range", data:=.fields #[.int lo t,.int hi u,.int 1 v] },toks:=tk }:=I.kept fun b o e=>Heap.get?_push_of_some _ e
  refine ⟨(s.heap.push { cls:=.type "range", data:=.fields #[.int lo t,.int hi u,.int 1 v] }).objs.size,[(s.heap.push { cls:=.type "range", data:=.fields #[.int lo t,.int hi u,.int 1 v] }).objs.size],_,_,H,rfl,
    I1.kept (t':=tk) fun b o e=>Heap.get?_push_of_some _ e,turn_range _ lo (hi - lo).toNat,?_,fun b hb=>?_,q⟩
  · have e1 : lo + ((0:Nat) : Int) * 1 = lo:=by simp
    have e2 : (((hi - lo).toNat : Nat) : Int) - ((0:Nat) : Int) = Builtin.Range.rangeSize lo hi 1:=by rw [rangeSize_one]; split <;> omega
    show IsRangeIter _ _ (lo + ((0:Nat) : Int) * 1) ((((hi - lo).toNat : Nat) : Int) - ((0:Nat) : Int)) 1
    rw [e1,e2]
    exact Heap.get?_push_size _ rfl
  · have e : b = (s.heap.push { cls:=.type "range", data:=.fields #[.int lo t,.int hi u,.int 1 v] }).objs.size:=by simpa using hb
    subst e
    exact I1.fpOk (Nat.le_refl _) (I1.hok.fresh (Nat.le_refl _))
def iRng1 (ta:TA) : TI:=fun σ H R=>ta σ H fun vs H1=>∃ j : Int,vs = [.int j] ∧ -(2 ^ 62) ≤ j ∧ j < 2 ^ 62 ∧ R (Itr 0 j.toNat) H1
theorem pi_range1 {a:Expr} {ta:TA} {p pos:Pos} (hg:Gl X "range") (hm:X.mg "range" = none) (ha:PA X [a] ta) (hs:starEach [a] X.env = [(false,eval a X.env)]:=by rfl) : PI X tg (.Call (.Name "range" p) [a] [] pos) (iRng1 ta):=by
  intro pins s σ H R I h
  refine Call_ (ld_blt I hg hm boot_range (PyProof.Rows.callWith_type1 (thn (ha pos pins s σ H _ I h) fun us s1 ⟨vs,H1,I1,r1,q1⟩=>?_) hs rfl))
  obtain ⟨j,e,q1,q2,q⟩:=q1
  subst e
  cases r1 with
  | cons r rr =>
    cases rr
    obtain ⟨t,rfl⟩:=r
    exact call_range_1 (range_it I1 (by omega) (by omega) q1 q2 (by simpa using q))
def tFor (wi:TI) (g:TG) (tb:TS) : TS:=fun D σ H=>wi σ H fun J H1=>∃ W : Nat → Nat → St → Hp → Prop,(∃ m,W 0 m σ H1) ∧ ∀ i m σ H,W i m σ H →
  (J.stop i H ∧ D.nx σ H) ∨ (J.go i H ∧ ∃ N : St → Hp → Prop,(∀ σ' H',N σ' H' → ∃ m',m' < m ∧ W (i + 1) m' σ' H') ∧ ∀ x H',J.yld i H x H' → g x σ H' fun σ2 H2=>tb { D with nx:=N,ct:=N,bk:=D.nx } σ2 H2)
def pinsAt (fp:List Addr) (h:Heap) : List (Addr × Obj):=fp.filterMap fun b=>(h.get? b).map fun o=>(b,o)
theorem mem_pinsAt {fp:List Addr} {h:Heap} {b:Addr} {o:Obj} (hb:b ∈ fp) (e:h.get? b = some o) : (b,o) ∈ pinsAt fp h:=List.mem_filterMap.mpr ⟨b,hb,by rw [e]; rfl⟩
theorem of_pinsAt {fp:List Addr} {h:Heap} {p:Addr × Obj} (hp:p ∈ pinsAt fp h) : p.1 ∈ fp ∧ h.get? p.1 = some p.2:=by
  obtain ⟨b,hb,e⟩:=List.mem_filterMap.mp hp
  cases q : h.get? b with
  | none=>rw [q] at e; cases e
  | some o =>
    rw [q] at e
    have e' : (b,o) = p:=Option.some.inj e
    subst e'
    exact ⟨hb,q⟩
theorem Inv.pinned {pins:List (Addr × Obj)} {σ:St} {H:Hp} {s:Shared} {fp:List Addr} (I:Inv X pins σ H s) (hf:∀ b ∈ fp,FpOk X pins H b) (ho:∀ b ∈ fp,∃ o,s.heap.get? b = some o ∧ ∀ v,o.data ≠ .cell v) : Inv X (pins ++ pinsAt fp s.heap) σ H s :=
  I.pins_of fun p hp=>(List.mem_append.mp hp).elim (fun z=>I.pin p (List.mem_append_right _ z)) fun z=>by
    obtain ⟨hb,e⟩:=of_pinsAt z
    obtain ⟨f0,f1,f2,_⟩:=hf p.1 hb
    obtain ⟨o,e',d⟩:=ho p.1 hb
    rw [e] at e'; cases e'
    exact ⟨e,f0,f1,f2,d⟩
theorem Inv.unpinned {pins pl:List (Addr × Obj)} {σ:St} {H:Hp} {s:Shared} (I:Inv X (pins ++ pl) σ H s) : Inv X pins σ H s:=I.pins_of fun p hp=>I.pin p (List.mem_append_right _ (List.mem_append_left _ hp))
theorem ps_for {iter:Expr} {body:List Stmt} {wi:TI} {g:TG} {tb:TS} {pos:Pos} (hp:PassesOwn (model X.prog X.w) X.A X.env X.xe) (hc:X.calm = true) (hi:PI X tg iter wi) (hg:PG X tg g) (hb:PSs X body tb)
    (hs:∀ x,foldedSetIterable iter X.env x = pure x:=by intro _; rfl) : PS X (.For tg iter body [] pos) (tFor wi g tb):=by
  intro pins s σ H D I h
  refine wpAny_For (thn (hi pins s σ H _ I h) fun v s1 h1=>thn h1 fun itv s2 h2=>?_) hs
  obtain ⟨it,fp,tn,J,H2,e,I2,T,st2,f2,W,⟨m0,w0⟩,turn⟩:=h2
  subst e
  have stat : ∀ {H':Hp},(∀ b ∈ fp,H' b = none) → ∀ b ∈ fp,FpOk X pins H' b:=fun hn b hb=>⟨hn b hb,(f2 b hb).2⟩
  refine codeAny_forLoop_any (fun n s'=>∃ i σ' H',Inv X pins σ' H' s' ∧ tn i s'.heap ∧ (∀ b ∈ fp,H' b = none) ∧ W i n σ' H') ?_ m0 ⟨0,σ,H2,I2,st2,fun b hb=>(f2 b hb).1,w0⟩
  rintro n s3 ⟨i,σ3,H3,I3,st3,fr3,w3⟩
  rcases turn i n σ3 H3 w3 with ⟨stop,qn⟩ | ⟨go,N,hN,step⟩
  · refine wpAny_passesOwn hp (thn (T.done X rfl rfl rfl hc i pins s3 σ3 H3 X.xe I3 (stat fr3) st3 stop) fun r s4 ⟨hr,I4⟩=>?_)
    subst hr
    exact wpAny_execs_nil ⟨σ3,H3,I4,qn⟩
  · refine wpAny_passesOwn hp (thn (T.item X rfl rfl rfl hc i pins s3 σ3 H3 X.xe I3 (stat fr3) st3 go) fun r s4 ⟨u,hr,h4⟩=>?_)
    subst hr
    refine wpAny_passesOwn hp (thn h4 fun _ s5 ⟨x,H5,I5,r5,y5,st5,fr5⟩=>?_)
    have I5':=I5.pinned (stat fr5) (T.obj _ _ st5)
    refine wpAny_passesOwn hp (thn (hg _ s5 σ3 H5 x u _ I5' r5 (step x H5 y5)) fun _ s6 ⟨σ6,H6,I6,q6⟩=>?_)
    refine wpAny_passesOwn hp (thn (hb _ s6 σ6 H6 _ I6 q6) fun f s7 q7=>?_)
    have again : ∀ {σ7:St} {H7:Hp},Inv X (pins ++ pinsAt fp s5.heap) σ7 H7 s7 → N σ7 H7 → ∃ m,m < n ∧ ∃ i σ' H',Inv X pins σ' H' s7 ∧ tn i s7.heap ∧ (∀ b ∈ fp,H' b = none) ∧ W i m σ' H':=fun {σ7 H7} I7 n7=>by
      obtain ⟨m',hm,w7⟩:=hN σ7 H7 n7
      refine ⟨m',hm,i + 1,σ7,H7,I7.unpinned,T.keep _ _ _ st5 fun b hb o e=>(I7.pin (b,o) (List.mem_append_right _ (List.mem_append_right _ (mem_pinsAt hb e)))).1,fun b hb=>?_,w7⟩
      obtain ⟨o,e,d⟩:=T.obj _ _ st5 b hb
      exact (I7.pin (b,o) (List.mem_append_right _ (List.mem_append_right _ (mem_pinsAt hb e)))).2.1
    cases f with
    | next=>obtain ⟨σ7,H7,I7,n7⟩:=q7; exact again I7 n7
    | cont=>obtain ⟨σ7,H7,I7,n7⟩:=q7; exact again I7 n7
    | brk=>obtain ⟨σ7,H7,I7,q7⟩:=q7; exact ⟨σ7,H7,I7.unpinned,q7⟩
    | ret v=>obtain ⟨x7,σ7,H7,I7,r7,q7⟩:=q7; exact ⟨x7,σ7,H7,I7.unpinned,r7,q7⟩
end
theorem for_list {K:PySem.W.Frag} {a:Addr} {xs:List V} {g:TG} {tb:TS} {D:Ends} {σ:St} {H:Hp} (Pv:Nat → St → Hp → Prop) (h0:Pv 0 σ H) (hl:∀ i σ H,i ≤ xs.length → Pv i σ H → SqL K H a xs)
    (hs:∀ i x σ H,xs[i]? = some x → Pv i σ H → g x σ H fun σ2 H2=>tb { D with nx:=Pv (i + 1),ct:=Pv (i + 1),bk:=D.nx } σ2 H2) (hd:∀ σ H,Pv xs.length σ H → D.nx σ H) :
    ∃ W : Nat → Nat → St → Hp → Prop,(∃ m,W 0 m σ H) ∧ ∀ i m σ H,W i m σ H →
      ((Itl K a).stop i H ∧ D.nx σ H) ∨ ((Itl K a).go i H ∧ ∃ N : St → Hp → Prop,(∀ σ' H',N σ' H' → ∃ m',m' < m ∧ W (i + 1) m' σ' H') ∧ ∀ x H',(Itl K a).yld i H x H' → g x σ H' fun σ2 H2=>tb { D with nx:=N,ct:=N,bk:=D.nx } σ2 H2):=by
  refine ⟨fun i m σ H=>m = xs.length - i ∧ i ≤ xs.length ∧ Pv i σ H,⟨xs.length,by simp,Nat.zero_le _,h0⟩,?_⟩
  rintro i m σ H ⟨rfl,hi,p⟩
  have q:=hl i σ H hi p
  by_cases hlt : i < xs.length
  · refine .inr ⟨⟨xs,xs[i],q,by simp [hlt]⟩,Pv (i + 1),fun σ' H' p'=>⟨xs.length - (i + 1),by omega,rfl,hlt,p'⟩,fun x H' y=>?_⟩
    obtain ⟨e,y⟩:=y
    subst e
    exact hs i x σ _ (y xs q) p
  · have e : i = xs.length:=by omega
    subst e
    exact .inl ⟨⟨xs,q,Nat.le_refl _⟩,hd σ H p⟩
theorem for_tup {K:PySem.W.Frag} {a:Addr} {xs:List V} {g:TG} {tb:TS} {D:Ends} {σ:St} {H:Hp} (Pv:Nat → St → Hp → Prop) (h0:Pv 0 σ H) (hl:∀ i σ H,i ≤ xs.length → Pv i σ H → SqT K H a xs)
    (hs:∀ i x σ H,xs[i]? = some x → Pv i σ H → g x σ H fun σ2 H2=>tb { D with nx:=Pv (i + 1),ct:=Pv (i + 1),bk:=D.nx } σ2 H2) (hd:∀ σ H,Pv xs.length σ H → D.nx σ H) :
    ∃ W : Nat → Nat → St → Hp → Prop,(∃ m,W 0 m σ H) ∧ ∀ i m σ H,W i m σ H →
      ((Itt K a).stop i H ∧ D.nx σ H) ∨ ((Itt K a).go i H ∧ ∃ N : St → Hp → Prop,(∀ σ' H',N σ' H' → ∃ m',m' < m ∧ W (i + 1) m' σ' H') ∧ ∀ x H',(Itt K a).yld i H x H' → g x σ H' fun σ2 H2=>tb { D with nx:=N,ct:=N,bk:=D.nx } σ2 H2):=by
  refine ⟨fun i m σ H=>m = xs.length - i ∧ i ≤ xs.length ∧ Pv i σ H,⟨xs.length,by simp,Nat.zero_le _,h0⟩,?_⟩
  rintro i m σ H ⟨rfl,hi,p⟩
  have q:=hl i σ H hi p
  by_cases hlt : i < xs.length
  · refine .inr ⟨⟨xs,xs[i],q,by simp [hlt]⟩,Pv (i + 1),fun σ' H' p'=>⟨xs.length - (i + 1),by omega,rfl,hlt,p'⟩,fun x H' y=>?_⟩
    obtain ⟨e,y⟩:=y
    subst e
    exact hs i x σ _ (y xs q) p
  · have e : i = xs.length:=by omega
    subst e
    exact .inl ⟨⟨xs,q,Nat.le_refl _⟩,hd σ H p⟩
theorem for_range {lo:Int} {n:Nat} {g:TG} {tb:TS} {D:Ends} {σ:St} {H:Hp} (Pv:Nat → St → Hp → Prop) (h0:Pv 0 σ H)
    (hs:∀ i σ H,i < n → Pv i σ H → g (.int (lo + i)) σ H fun σ2 H2=>tb { D with nx:=Pv (i + 1),ct:=Pv (i + 1),bk:=D.nx } σ2 H2) (hd:∀ σ H,Pv n σ H → D.nx σ H) :
    ∃ W : Nat → Nat → St → Hp → Prop,(∃ m,W 0 m σ H) ∧ ∀ i m σ H,W i m σ H →
      ((Itr lo n).stop i H ∧ D.nx σ H) ∨ ((Itr lo n).go i H ∧ ∃ N : St → Hp → Prop,(∀ σ' H',N σ' H' → ∃ m',m' < m ∧ W (i + 1) m' σ' H') ∧ ∀ x H',(Itr lo n).yld i H x H' → g x σ H' fun σ2 H2=>tb { D with nx:=N,ct:=N,bk:=D.nx } σ2 H2):=by
  refine ⟨fun i m σ H=>m = n - i ∧ i ≤ n ∧ Pv i σ H,⟨n,by simp,Nat.zero_le _,h0⟩,?_⟩
  rintro i m σ H ⟨rfl,hi,p⟩
  by_cases hlt : i < n
  · refine .inr ⟨hlt,Pv (i + 1),fun σ' H' p'=>⟨n - (i + 1),by omega,rfl,hlt,p'⟩,fun x H' y=>?_⟩
    obtain ⟨e,y⟩:=y
    subst e y
    exact hs i σ _ hlt p
  · have e : i = n:=by omega
    subst e
    exact .inl ⟨Nat.le_refl _,hd σ H p⟩
end L2
namespace L2
open PySem PySem.Spec PyProof.Rows
abbrev R2:=V → V → Hp → VK → Prop
def OpR (X:Cx) (f:Value → Value → Sem Value) (r:R2) : Prop :=
  ∀ (pins:List (Addr × Obj)) (s:Shared) (σ:St) (H:Hp) (x y:V) (v u:Value) (Q:VK),Inv X pins σ H s → RelV x v → RelV y u → r x y H Q →
    wpAny (model X.prog X.w) X.A (f v u) (EP X pins σ Q) X.xe s
def UnR (X:Cx) (f:Value → Sem Value) (r:V → Hp → VK → Prop) : Prop :=
  ∀ (pins:List (Addr × Obj)) (s:Shared) (σ:St) (H:Hp) (x:V) (v:Value) (Q:VK),Inv X pins σ H s → RelV x v → r x H Q →
    wpAny (model X.prog X.w) X.A (f v) (EP X pins σ Q) X.xe s
def CallR (X:Cx) (f:Value) (r:List V → Hp → VK → Prop) : Prop :=
  ∀ (pins:List (Addr × Obj)) (s:Shared) (σ:St) (H:Hp) (xs:List V) (us:List Value) (Q:VK),Inv X pins σ H s → Vals xs us → r xs H Q →
    wpAny (model X.prog X.w) X.A (call f us) (EP X pins σ Q) X.xe s
def TruR (X:Cx) (r:V → Hp → (Bool → Hp → Prop) → Prop) : Prop :=
  ∀ (pins:List (Addr × Obj)) (s:Shared) (σ:St) (H:Hp) (x:V) (v:Value) (Q:Bool → Hp → Prop),Inv X pins σ H s → RelV x v → r x H Q →
    wpAny (model X.prog X.w) X.A (truthy v) (TP X pins σ Q) X.xe s
def tOp (r:R2) (ta tb:TE) : TE:=fun σ H Q=>ta σ H fun x H1=>tb σ H1 fun y H2=>r x y H2 Q
def tUn (r:V → Hp → VK → Prop) (ta:TE) : TE:=fun σ H Q=>ta σ H fun x H1=>r x H1 Q
def rI (C:Int → Int → Prop) (g:Int → Int → V) : R2:=fun x y H Q=>∃ i j,x = .int i ∧ y = .int j ∧ C i j ∧ Q (g i j) H
def rI0 (g:Int → Int → V) : R2:=fun x y H Q=>∃ i j,x = .int i ∧ y = .int j ∧ Q (g i j) H
def rU (g:Int → V) : V → Hp → VK → Prop:=fun x H Q=>∃ i,x = .int i ∧ Q (g i) H
section
variable {X:Cx} {a b c:Expr} {ta tb tc:TE} {pos:Pos}
theorem binT (ha:PE X a ta) (hb:PE X b tb) {pins:List (Addr × Obj)} {s:Shared} {σ:St} {H:Hp} {R:V → V → Hp → Prop} (I:Inv X pins σ H s)
    (h:ta σ H fun x H1=>tb σ H1 fun y H2=>R x y H2) {Q:Value → Shared → Prop} {f:Value → Value → Sem Value}
    (hf:∀ v u s2 x y H2,Inv X pins σ H2 s2 → RelV x v → RelV y u → R x y H2 → wpAny (model X.prog X.w) X.A (f v u) Q X.xe s2) :
    wpAny (model X.prog X.w) X.A (eval a X.env) (fun v s₁=>wpAny (model X.prog X.w) X.A (eval b X.env) (fun u s₂=>wpAny (model X.prog X.w) X.A (f v u) Q X.xe s₂) X.xe s₁) X.xe s:=by
  refine thn (ha pins s σ H _ I h) fun v s1 ⟨x,H1,I1,r1,q1⟩=>?_
  refine thn (hb pins s1 σ H1 _ I1 q1) fun u s2 ⟨y,H2,I2,r2,q2⟩=>?_
  exact hf v u s2 x y H2 I2 r1 r2 q2
theorem pe_op {op:Operator} {r:R2} (ho:OpR X (binaryOp op) r) (ha:PE X a ta) (hb:PE X b tb) : PE X (.BinOp a op b pos) (tOp r ta tb):=by
  intro pins s σ H Q I h
  exact wpAny_BinOp (binT ha hb I h fun v u s2 x y H2 I2 rx ry q=>ho pins s2 σ H2 x y v u Q I2 rx ry q)
theorem pe_un {op:UnaryOp} {r:V → Hp → VK → Prop} (ho:UnR X (unaryOp op) r) (ha:PE X a ta) : PE X (.UnaryOp op a pos) (tUn r ta):=by
  intro pins s σ H Q I h
  exact UnaryOp_ (thn (ha pins s σ H _ I h) fun v s1 ⟨x,H1,I1,r1,q1⟩=>ho pins s1 σ H1 x v Q I1 r1 q1)
theorem opI {f:Value → Value → Sem Value} {C:Int → Int → Prop} {g:Int → Int → Int}
    (rule:∀ (i j:Int) (t u:Tok) (s:Shared) (Q:Value → Shared → Prop) (E:Value → Shared → Prop),C i j → Q (.int (g i j) s.toks) { s with toks:=s.toks + 1 } → wpAny (model X.prog X.w) X.A (f (.int i t) (.int j u)) Q E s) :
    OpR X f (rI C fun i j=>.int (g i j)):=by
  intro pins s σ H x y v u Q I rx ry h
  obtain ⟨i,j,rfl,rfl,hc,q⟩:=h
  obtain ⟨t,rfl⟩:=rx
  obtain ⟨t',rfl⟩:=ry
  exact rule i j t t' s _ _ hc ⟨.int (g i j),H,I.tok _,⟨_,rfl⟩,q⟩
theorem opI0 {f:Value → Value → Sem Value} {g:Int → Int → Int}
    (rule:∀ (i j:Int) (t u:Tok) (s:Shared) (Q:Value → Shared → Prop) (E:Value → Shared → Prop),Q (.int (g i j) s.toks) { s with toks:=s.toks + 1 } → wpAny (model X.prog X.w) X.A (f (.int i t) (.int j u)) Q E s) :
    OpR X f (rI0 fun i j=>.int (g i j)):=by
  intro pins s σ H x y v u Q I rx ry h
  obtain ⟨i,j,rfl,rfl,q⟩:=h
  obtain ⟨t,rfl⟩:=rx
  obtain ⟨t',rfl⟩:=ry
  exact rule i j t t' s _ _ ⟨.int (g i j),H,I.tok _,⟨_,rfl⟩,q⟩
theorem opB0 {f:Value → Value → Sem Value} {g:Int → Int → Bool}
    (rule:∀ (i j:Int) (t u:Tok) (s:Shared) (Q:Value → Shared → Prop) (E:Value → Shared → Prop),Q (.bool (g i j)) s → wpAny (model X.prog X.w) X.A (f (.int i t) (.int j u)) Q E s) :
    OpR X f (rI0 fun i j=>.bl (g i j)):=by
  intro pins s σ H x y v u Q I rx ry h
  obtain ⟨i,j,rfl,rfl,q⟩:=h
  obtain ⟨t,rfl⟩:=rx
  obtain ⟨t',rfl⟩:=ry
  exact rule i j t t' s _ _ ⟨.bl (g i j),H,I,rfl,q⟩
def CDiv (i j:Int) : Prop:=0 < j ∧ j < 1073741824
def CPow (i j:Int) : Prop:=0 ≤ j ∧ j ≤ 1000000 ∧ i.natAbs < 2 ^ 64
def CMul (i j:Int) : Prop:=(-(2 ^ 64) < i ∧ i < 2 ^ 64) ∨ (-(2 ^ 64) < j ∧ j < 2 ^ 64)
theorem CMul.ok {i j:Int} (h:CMul i j) : IntMulOk i j:=by
  rcases h with ⟨h1,h2⟩ | ⟨h1,h2⟩
  · exact .of_left (intBits_le_64 h1 h2)
  · exact .of_right (intBits_le_64 h1 h2)
theorem op_add : OpR X (binaryOp .Add) (rI0 fun i j=>.int (i + j)):=opI0 fun _ _ _ _ _ _ _ q=>add_int q
theorem op_sub : OpR X (binaryOp .Sub) (rI0 fun i j=>.int (i - j)):=opI0 fun _ _ _ _ _ _ _ q=>sub_int q
theorem op_mul : OpR X (binaryOp .Mult) (rI CMul fun i j=>.int (i * j)):=opI fun _ _ _ _ _ _ _ hc q=>mul_int q hc.ok
theorem op_fdiv : OpR X (binaryOp .FloorDiv) (rI CDiv fun i j=>.int (i / j)):=opI fun i j _ _ _ _ _ hc q=>by
  have h1 : (0:Int) < j:=hc.1
  have h2 : j < 1073741824:=hc.2
  exact floordiv_int (by omega) (by rw [Int.fdiv_eq_ediv_of_nonneg i (by omega)]; exact q) (.inl (PyProof.noPylong_small (by omega)))
theorem op_mod : OpR X (binaryOp .Mod) (rI (fun _ j=>0 < j) fun i j=>.int (i % j)):=opI fun i j _ _ _ _ _ hc q=>by
  have h1 : (0:Int) < j:=hc
  exact mod_int' (by omega) (by rw [Int.fmod_eq_emod_of_nonneg i (by omega)]; exact q)
theorem op_pow : OpR X (binaryOp .Pow) (rI CPow fun i j=>.int (i ^ j.toNat)):=opI fun _ _ _ _ _ _ _ hc q=>pow_int_small hc.1 hc.2.1 hc.2.2 q
theorem unI {f:Value → Sem Value} {g:Int → Int}
    (rule:∀ (i:Int) (t:Tok) (s:Shared) (Q:Value → Shared → Prop) (E:Value → Shared → Prop),Q (.int (g i) s.toks) { s with toks:=s.toks + 1 } → wpAny (model X.prog X.w) X.A (f (.int i t)) Q E s) :
    UnR X f (rU fun i=>.int (g i)):=by
  intro pins s σ H x v Q I rx h
  obtain ⟨i,rfl,q⟩:=h
  obtain ⟨t,rfl⟩:=rx
  exact rule i t s _ _ ⟨.int (g i),H,I.tok _,⟨_,rfl⟩,q⟩
theorem un_neg : UnR X (unaryOp .USub) (rU fun i=>.int (-i)):=unI fun _ _ _ _ _ q=>neg_int q
end
def scal : V → V → Bool
  | .non,.non=>true | .non,.int _=>true | .int _,.non=>true | .non,.bl _=>true | .bl _,.non=>true | .non,.str _=>true | .str _,.non=>true
  | .int _,.int _=>true | .bl _,.bl _=>true | .str _,.str _=>true | .byt _,.byt _=>true
  | .int _,.str _=>true | .str _,.int _=>true | .bl _,.str _=>true | .str _,.bl _=>true
  | _,_=>false
def rEq : R2:=fun x y H Q=>scal x y = true ∧ Q (.bl (decide (x = y))) H
def rNe : R2:=fun x y H Q=>scal x y = true ∧ Q (.bl (!decide (x = y))) H
theorem dec_int {i j:Int} : decide (V.int i = V.int j) = (i == j):=by
  rw [Bool.eq_iff_iff]
  simp
theorem dec_bl {i j:Bool} : decide (V.bl i = V.bl j) = (i == j):=by
  rw [Bool.eq_iff_iff]
  simp
theorem dec_str {i j:Str} : decide (V.str i = V.str j) = (i == j):=by
  rw [Bool.eq_iff_iff]
  simp
theorem dec_byt {i j:Array UInt8} : decide (V.byt i = V.byt j) = (i.toList == j.toList):=by
  rw [Bool.eq_iff_iff]
  cases i
  cases j
  simp
section
variable {X:Cx} {a b c:Expr} {ta tb tc:TE} {pos:Pos}
theorem fin_bl {pins:List (Addr × Obj)} {σ:St} {H:Hp} {s:Shared} {Q:VK} {k k':Bool} (I:Inv X pins σ H s) (q:Q (.bl k) H) (e:k = k') : EP X pins σ Q (.bool k') s:=by
  subst e
  exact ⟨.bl k,H,I,rfl,q⟩
theorem op_eq : OpR X (compareOp .Eq) rEq:=by
  intro pins s σ H x y v u Q I rx ry h
  obtain ⟨hs,q⟩:=h
  cases x with
  | non =>
    cases rx
    cases y with
    | non=>cases ry; exact PySem.EqNone.eq_none_none (fin_bl I q (by simp))
    | bl j=>cases ry; exact PySem.EqNone.eq_none_bool (fin_bl I q (by simp))
    | int j=>obtain ⟨t',rfl⟩:=ry; exact PySem.EqNone.eq_none_int (fin_bl I q (by simp))
    | str j=>obtain ⟨t',rfl⟩:=ry; exact PySem.EqNone.eq_none_str (fin_bl I q (by simp))
    | _=>exact absurd (show false = true from hs) Bool.false_ne_true
  | bl i =>
    cases rx
    cases y with
    | non=>cases ry; exact PySem.EqNone.eq_bool_none (fin_bl I q (by simp))
    | bl j=>cases ry; exact eq_bool (fin_bl I q dec_bl)
    | str j=>obtain ⟨t',rfl⟩:=ry; exact PySem.EqMixed.eq_bool_str (fin_bl I q (by simp))
    | _=>exact absurd (show false = true from hs) Bool.false_ne_true
  | int i =>
    obtain ⟨t,rfl⟩:=rx
    cases y with
    | non=>cases ry; exact PySem.EqNone.eq_int_none (fin_bl I q (by simp))
    | int j=>obtain ⟨t',rfl⟩:=ry; exact eq_int (fin_bl I q dec_int)
    | str j=>obtain ⟨t',rfl⟩:=ry; exact PySem.EqMixed.eq_int_str (fin_bl I q (by simp))
    | _=>exact absurd (show false = true from hs) Bool.false_ne_true
  | str i =>
    obtain ⟨t,rfl⟩:=rx
    cases y with
    | non=>cases ry; exact PySem.EqNone.eq_str_none (fin_bl I q (by simp))
    | bl j=>cases ry; exact PySem.EqMixed.eq_str_bool (fin_bl I q (by simp))
    | int j=>obtain ⟨t',rfl⟩:=ry; exact PySem.EqMixed.eq_str_int (fin_bl I q (by simp))
    | str j=>obtain ⟨t',rfl⟩:=ry; exact eq_str (fin_bl I q dec_str)
    | _=>exact absurd (show false = true from hs) Bool.false_ne_true
  | byt i =>
    obtain ⟨t,rfl⟩:=rx
    cases y with
    | byt j=>obtain ⟨t',rfl⟩:=ry; exact PySem.W.eq_bytes (fin_bl I q dec_byt)
    | _=>exact absurd (show false = true from hs) Bool.false_ne_true
  | _=>cases y <;> exact absurd (show false = true from hs) Bool.false_ne_true
theorem op_ne : OpR X (compareOp .NotEq) rNe:=by
  intro pins s σ H x y v u Q I rx ry h
  obtain ⟨hs,q⟩:=h
  cases x with
  | non =>
    cases rx
    cases y with
    | non=>cases ry; exact PySem.EqNone.ne_none_none (fin_bl I q (by simp))
    | bl j=>cases ry; exact PySem.EqNone.ne_none_bool (fin_bl I q (by simp))
    | int j=>obtain ⟨t',rfl⟩:=ry; exact PySem.EqNone.ne_none_int (fin_bl I q (by simp))
    | str j=>obtain ⟨t',rfl⟩:=ry; exact PySem.EqNone.ne_none_str (fin_bl I q (by simp))
    | _=>exact absurd (show false = true from hs) Bool.false_ne_true
  | bl i =>
    cases rx
    cases y with
    | non=>cases ry; exact PySem.EqNone.ne_bool_none (fin_bl I q (by simp))
    | bl j=>cases ry; exact ne_bool (fin_bl I q (congrArg not dec_bl))
    | str j=>obtain ⟨t',rfl⟩:=ry; exact PySem.EqMixed.ne_bool_str (fin_bl I q (by simp))
    | _=>exact absurd (show false = true from hs) Bool.false_ne_true
  | int i =>
    obtain ⟨t,rfl⟩:=rx
    cases y with
    | non=>cases ry; exact PySem.EqNone.ne_int_none (fin_bl I q (by simp))
    | int j=>obtain ⟨t',rfl⟩:=ry; exact ne_int (fin_bl I q (congrArg not dec_int))
    | str j=>obtain ⟨t',rfl⟩:=ry; exact PySem.EqMixed.ne_int_str (fin_bl I q (by simp))
    | _=>exact absurd (show false = true from hs) Bool.false_ne_true
  | str i =>
    obtain ⟨t,rfl⟩:=rx
    cases y with
    | non=>cases ry; exact PySem.EqNone.ne_str_none (fin_bl I q (by simp))
    | bl j=>cases ry; exact PySem.EqMixed.ne_str_bool (fin_bl I q (by simp))
    | int j=>obtain ⟨t',rfl⟩:=ry; exact PySem.EqMixed.ne_str_int (fin_bl I q (by simp))
    | str j=>obtain ⟨t',rfl⟩:=ry; exact ne_str (fin_bl I q (congrArg not dec_str))
    | _=>exact absurd (show false = true from hs) Bool.false_ne_true
  | byt i =>
    obtain ⟨t,rfl⟩:=rx
    cases y with
    | byt j=>obtain ⟨t',rfl⟩:=ry; exact PySem.W.ne_bytes (fin_bl I q (congrArg not dec_byt))
    | _=>exact absurd (show false = true from hs) Bool.false_ne_true
  | _=>cases y <;> exact absurd (show false = true from hs) Bool.false_ne_true
theorem op_lt : OpR X (compareOp .Lt) (rI0 fun i j=>.bl (decide (i < j))):=opB0 fun _ _ _ _ _ _ _ q=>lt_int q
theorem op_le : OpR X (compareOp .LtE) (rI0 fun i j=>.bl (decide (i ≤ j))):=opB0 fun _ _ _ _ _ _ _ q=>le_int q
theorem op_gt : OpR X (compareOp .Gt) (rI0 fun i j=>.bl (decide (j < i))):=opB0 fun _ _ _ _ _ _ _ q=>gt_int q
theorem op_in_str : OpR X (compareOp .In) (fun x y H Q=>∃ i j,x = .str i ∧ y = .str j ∧ Q (.bl (!(Builtin.Str.occurrences j i 0 j.length 1).isEmpty)) H):=by
  intro pins s σ H x y v u Q I rx ry h
  obtain ⟨i,j,rfl,rfl,q⟩:=h
  obtain ⟨t,rfl⟩:=rx
  obtain ⟨t',rfl⟩:=ry
  exact in_str (fin_bl I q rfl)
theorem nomark (b:Expr) {op:CmpOp} (h:op ≠ .In:=by decide) (h2:op ≠ .NotIn:=by decide) : behindInMarks op b = false:=by
  have e1 : (op == CmpOp.In) = false:=by cases op <;> first | rfl | exact absurd rfl h
  have e2 : (op == CmpOp.NotIn) = false:=by cases op <;> first | rfl | exact absurd rfl h2
  cases b <;> simp [behindInMarks,e1,e2]
theorem pe_cmpR {op:CmpOp} {r:R2} (ho:OpR X (compareOp op) r) (ha:PE X a ta) (hb:PE X b tb) (hm:behindInMarks op b = false) : PE X (.Compare a [op] [b] pos) (tOp r ta tb):=by
  intro pins s σ H Q I h
  exact wpAny_Compare1 (binT ha hb I h fun v u s2 x y H2 I2 rx ry q=>ho pins s2 σ H2 x y v u Q I2 rx ry q) hm
def tTest (t:TE) : TT:=fun σ H Q=>t σ H fun x H'=>∃ k,x = .bl k ∧ Q k H'
theorem pt_cmpR {op:CmpOp} {r:R2} (ho:OpR X (compareOp op) r) (ha:PE X a ta) (hb:PE X b tb) (hm:behindInMarks op b = false) : PT X (.Compare a [op] [b] pos) (tTest (tOp r ta tb)):=by
  intro pins s σ H Q I h
  refine wpAny_isTrue_Compare1 (thn (ha pins s σ H _ I h) fun v s1 ⟨x,H1,I1,r1,q1⟩=>thn (hb pins s1 σ H1 _ I1 q1) fun u s2 ⟨y,H2,I2,r2,q2⟩ =>
    thn (ho pins s2 σ H2 x y v u _ I2 r1 r2 q2) fun c s3 ⟨z,H3,I3,r3,k,e,q3⟩=>?_) hm
  subst e
  cases r3
  exact wpAny_truthy_bool ⟨H3,I3,q3⟩
def tChain (r r':R2) (ta tb tc:TE) : TE:=fun σ H Q=>ta σ H fun x H1=>tb σ H1 fun y H2=>r x y H2 fun z H3=>∃ k,z = .bl k ∧
  (if k = true then tc σ H3 fun w' H4=>r' y w' H4 Q else Q (.bl false) H3)
theorem pt_chain {op op':CmpOp} {r r':R2} (ho:OpR X (compareOp op) r) (ho':OpR X (compareOp op') r') (ha:PE X a ta) (hb:PE X b tb) (hc:PE X c tc)
    (hm:lastMarks [op,op'] [b,c] = false:=by with_unfolding_all rfl) : PT X (.Compare a [op,op'] [b,c] pos) (tTest (tChain r r' ta tb tc)):=by
  intro pins s σ H Q I h
  refine isTrue_chain (thn (ha pins s σ H _ I h) fun v s1 ⟨x,H1,I1,r1,q1⟩=>test_link (thn (hb pins s1 σ H1 _ I1 q1) fun u s2 ⟨y,H2,I2,r2,q2⟩ =>
    thn (ho pins s2 σ H2 x y v u _ I2 r1 r2 q2) fun d s3 ⟨z,H3,I3,r3,k,e,q3⟩=>?_)) hm
  subst e
  cases r3
  refine wpAny_truthy_bool ?_
  cases k with
  | false =>
    obtain ⟨k',e',q'⟩:=q3
    cases e'
    exact ite_ff ⟨H3,I3,q'⟩
  | true =>
    refine ite_tt (test_last (thn (hc pins s3 σ H3 _ I3 q3) fun w' s4 ⟨z',H4,I4,r4,q4⟩=>thn (ho' pins s4 σ H4 y z' u w' _ I4 r2 r4 q4) fun d' s5 ⟨z2,H5,I5,r5,k2,e2,q5⟩=>?_))
    subst e2
    cases r5
    exact wpAny_truthy_bool ⟨H5,I5,q5⟩
def TruV (K:PySem.W.Frag) (x:V) (H:Hp) (k:Bool) : Prop :=
  match x with
  | .non=>k = false
  | .bl b=>k = b
  | .int i=>k = (i != 0)
  | .str y=>y.length ≤ sizeLine ∧ k = ((y.length : Int) != 0)
  | .byt y=>y.size ≤ sizeLine ∧ k = ((y.size : Int) != 0)
  | .ref p=>(∃ xs,SqL K H p xs ∧ k = !xs.isEmpty) ∨ (∃ xs,SqT K H p xs ∧ k = !xs.isEmpty) ∨ ∃ kvs,H p = some (.dK kvs) ∧ k = !kvs.isEmpty
  | _=>False
theorem isEmpty_kv {κ:Type} {kvs:List (κ × V)} {vs:List (κ × Value)} (r:KV kvs vs) : (!vs.isEmpty) = !kvs.isEmpty:=by
  cases r <;> rfl
theorem isEmpty_of {xs:List V} {its:List Value} (r:Vals xs its) : (!its.toArray.isEmpty) = !xs.isEmpty:=by
  cases r <;> simp
theorem line63 : (sizeLine:Nat) < 2 ^ 63:=by rw [sizeLine_eq]; decide
theorem tru_ok : TruR X (fun x H Q=>∃ k,TruV X.K x H k ∧ Q k H):=by
  intro pins s σ H x v Q I rx h
  obtain ⟨k,e,q⟩:=h
  have hl:=line63
  have hs : sizeLine = 16777216:=sizeLine_eq
  cases x with
  | non =>
    cases rx
    have e' : k = false:=e
    subst e'
    exact truthy_none ⟨H,I,q⟩
  | bl b =>
    cases rx
    have e' : k = b:=e
    subst e'
    exact wpAny_truthy_bool ⟨H,I,q⟩
  | int i =>
    obtain ⟨t,rfl⟩:=rx
    have e' : k = (i != 0):=e
    subst e'
    exact PySem.P.truthy_int ⟨H,I,q⟩
  | str y =>
    obtain ⟨t,rfl⟩:=rx
    obtain ⟨hy,e'⟩ : y.length ≤ sizeLine ∧ k = ((y.length : Int) != 0):=e
    subst e'
    exact PySem.P.truthy_str (by omega) ⟨H,I.tok _,q⟩
  | byt y =>
    obtain ⟨t,rfl⟩:=rx
    obtain ⟨hy,e'⟩ : y.size ≤ sizeLine ∧ k = ((y.size : Int) != 0):=e
    subst e'
    exact PySem.W.truthy_bytes (by omega) ⟨H,I.tok _,q⟩
  | ref p =>
    cases rx
    have e' : (∃ xs,SqL X.K H p xs ∧ k = !xs.isEmpty) ∨ (∃ xs,SqT X.K H p xs ∧ k = !xs.isEmpty) ∨ ∃ kvs,H p = some (.dK kvs) ∧ k = !kvs.isEmpty:=e
    rcases e' with ⟨xs,hx,e'⟩ | ⟨xs,hx,e'⟩ | ⟨kvs,hx,e'⟩
    · subst e'
      obtain ⟨its,r,pl,hz⟩:=I.list hx
      have hlen:=r.length
      exact wpAny_truthy_list pl.isList (by simp only [List.size_toArray]; omega) ⟨H,I.tok _,by rw [isEmpty_of r]; exact q⟩
    · subst e'
      obtain ⟨its,r,pl,hz⟩:=I.tuple hx
      have hlen:=r.length
      exact truthy_tuple pl (by simp only [List.size_toArray]; omega) ⟨H,I.tok _,by rw [isEmpty_of r]; exact q⟩
    · subst e'
      obtain ⟨hz,hS,vs,r,m⟩ : kvs.length ≤ sizeLine ∧ (p == sysModules) = false ∧ ∃ vs,KV kvs vs ∧ s.heap.DictOf (mixKind X.prog X.w) p vs:=I.hok p _ hx
      have hlen : kvs.length = vs.length:=Paired.length r
      exact wpAny_truthy_dict hS m (by omega) ⟨H,I.tok _,by rw [isEmpty_kv r]; exact q⟩
  | _=>exact (show False from e).elim
theorem pt_truth (ha:PE X a ta) (he:∀ whole,isTrue a X.env whole = (do let v ← whole; standAt a.pos; holding [v] (truthy v))) :
    PT X a (fun σ H Q=>ta σ H fun x H'=>∃ k,TruV X.K x H' k ∧ Q k H'):=by
  intro pins s σ H Q I h
  exact isTrue_plain (thn (ha pins s σ H _ I h) fun v s1 ⟨x,H1,I1,r1,q1⟩=>tru_ok pins s1 σ H1 x v Q I1 r1 q1) (he _)
theorem op_add_str : OpR X (binaryOp .Add) (fun x y H Q=>∃ i j,x = .str i ∧ y = .str j ∧ i.length + j.length ≤ sizeLine ∧ Q (.str (i ++ j)) H):=by
  intro pins s σ H x y v u Q I rx ry h
  obtain ⟨i,j,rfl,rfl,hz,q⟩:=h
  obtain ⟨t,rfl⟩:=rx
  obtain ⟨t',rfl⟩:=ry
  exact add_str (fun t' tk=>⟨.str (i ++ j),H,I.tok _,⟨_,rfl⟩,q⟩) hz
theorem iop_add_str : OpR X (inplaceOp .Add) (fun x y H Q=>∃ i j,x = .str i ∧ y = .str j ∧ i.length + j.length ≤ sizeLine ∧ Q (.str (i ++ j)) H):=by
  intro pins s σ H x y v u Q I rx ry h
  obtain ⟨i,j,rfl,rfl,hz,q⟩:=h
  obtain ⟨t,rfl⟩:=rx
  obtain ⟨t',rfl⟩:=ry
  exact iadd_str (fun t' tk=>⟨.str (i ++ j),H,I.tok _,⟨_,rfl⟩,q⟩) hz
theorem vals1 {x:V} {us:List Value} (r:Vals [x] us) : ∃ u,us = [u] ∧ RelV x u:=by
  cases r with
  | cons r1 r2=>cases r2; exact ⟨_,rfl,r1⟩
theorem vals2 {x y:V} {us:List Value} (r:Vals [x,y] us) : ∃ u w',us = [u,w'] ∧ RelV x u ∧ RelV y w':=by
  cases r with
  | cons r1 r2 =>
    cases r2 with
    | cons r3 r4=>cases r4; exact ⟨_,_,rfl,r1,r3⟩
theorem call_max2 (hc:X.calm = true) : CallR X (.builtin "max") (fun xs H Q=>∃ i j,xs = [.int i,.int j] ∧ Q (.int (if j > i then j else i)) H):=by
  intro pins s σ H xs us Q I r h
  obtain ⟨i,j,rfl,q⟩:=h
  obtain ⟨u,w',rfl,⟨t,rfl⟩,⟨t',rfl⟩⟩:=vals2 r
  refine max_two_ints (I.ok.hd hc) fun h' tk k=>⟨_,H,I.kept k,?_,q⟩
  by_cases hj : j > i
  · rw [if_pos hj,if_pos hj]; exact ⟨_,rfl⟩
  · rw [if_neg hj,if_neg hj]; exact ⟨_,rfl⟩
end
end L2
namespace L2
open PySem PySem.Spec PyProof.Rows
structure ObjM (h:Heap) (x dx C:Addr) (mA:Str → Option Value) : Prop where
  obj : h.get? x = some (PySem.W.instObj C dx)
  ns : h.Ns1 dx mA
  ne : dx ≠ x
theorem lookIn_ns {h:Heap} {dx:Addr} {mA:Str → Option Value} (n:h.Ns1 dx mA) : ∃ od,h.get? dx = some od ∧ ∀ name,PySem.W.lookIn name od = some (mA name):=by
  obtain ⟨o,es,ep,ho,hd,hk,_,hm⟩:=n
  refine ⟨o,ho,fun name=>?_⟩
  have e:=hm name
  unfold nsFind findBy at e
  rw [← Array.find?_toList] at e
  unfold PySem.W.lookIn
  rw [hd]
  dsimp only
  split
  · rename_i y q
    rw [q] at e
    exact congrArg some e
  · rename_i q
    rw [q] at e
    have a : es.toList.any (·.refKey) = false:=by
      rw [List.any_eq_false]
      intro y hy
      obtain ⟨z,t,hkey⟩:=hk y (Array.mem_toList_iff.mp hy)
      simp [DictEntry.refKey,hkey]
    have a' : ¬ es.toList.any (·.refKey) = true:=by rw [a]; exact Bool.false_ne_true
    rw [if_neg a']
    exact congrArg some e
theorem ObjM.look {h:Heap} {x dx C:Addr} {mA:Str → Option Value} (I:ObjM h x dx C mA) : ∃ od,PySem.W.InstAt h x (PySem.W.instObj C dx) C (some od) ∧ ∀ name,PySem.W.lookIn name od = some (mA name) :=
  let ⟨od,ho,hl⟩:=lookIn_ns I.ns
  ⟨od,⟨I.obj,rfl,rfl,ho⟩,hl⟩
section
variable {prog:Program} {w:World} {A:Around} {E:Value → Shared → Prop} {s:Shared} {K:PySem.W.Frag} {x dx C f:Addr} {mA:Str → Option Value} {name:Str} {v:Value}
theorem get_map {expr:Bool} {Q:Value → Shared → Prop} (X:K.In s.heap) (I:ObjM s.heap x dx C mA) (hg:PySem.W.plainGet K C name = true) (hh:PySem.W.hasDictIn K C = true)
    (ha:PySem.W.findIn K (.ref C) name = some none) (hv:mA name = some v) (hv':PySem.W.handedIn v = true) (h:Q v { s with toks:=s.toks + 1 }) :
    wpAny (model prog w) A (getAttr (.ref x) name expr) Q E s:=by
  obtain ⟨od,J,hl⟩:=I.look
  exact PySem.W.get_value X J (PySem.W.plainGet_of hg).1 (PySem.W.findObj_own hh ha rfl (by rw [hl,hv])) hv' h
theorem get_meth {pl:Sem Bool} {Q:Value × List Value → Shared → Prop} (X:K.In s.heap) (I:ObjM s.heap x dx C mA) (hg:PySem.W.plainGet K C name = true)
    (hf:PySem.W.findIn K (.ref C) name = some (some (.ref f))) (ht:PySem.W.isFn K (.ref f) = true) (hv:mA name = none) (h:Q (.ref f,[.ref x]) s) :
    wpAny (model prog w) A (getMethod (.ref x) name pl) Q E s:=by
  obtain ⟨od,J,hl⟩:=I.look
  exact PySem.W.method_fn X J (PySem.W.plainGet_of hg).1 (PySem.W.plainGet_of hg).2 hf (beq_iff_eq.mp ht) (by show (PySem.W.lookIn name od).map (·.isSome) = some false; rw [hl,hv]; rfl) h
theorem set_map {ns:List Str} {Q:Unit → Shared → Prop} (X:K.In s.heap) (I:ObjM s.heap x dx C mA)
    (hs:PySem.W.findIn K (.ref C) "__setattr__" = some (some (.builtin "object.__setattr__"))) (hp:PySem.W.plainOver K C = true) (ht:PySem.W.takerIn K C name = some none) (hh:PySem.W.hasDictIn K C = true)
    (hw:PySem.Within mA ns) (hsz:ns.length ≤ sizeLine)
    (h:∀ h',ObjM h' x dx C (fun y=>if y = name then some v else mA y) → Heap.SameBut dx s.heap h' → Q () { s with heap:=h',toks:=s.toks + 2 }) :
    wpAny (model prog w) A (setAttr (.ref x) name v) Q E s:=by
  obtain ⟨od,J,hl⟩:=I.look
  refine PySem.W.set_plain X J hs (PySem.W.osa_open (s:={ s with toks:=s.toks + 1 }) (r:=none) X J hp ht fun b=>?_)
  obtain ⟨cd,hc,hd'⟩:=PySem.W.any_some hh
  have hx : s.heap.get? x = some ⟨.ref C,some dx,.plain,#[]⟩:=I.obj
  refine wpAny_bind (wpAny_pure (wpAny_bind (wpAny_bind (wpAny_loadPart hx (wpAny_bind (PySem.W.Looks.here (s:={ s with toks:=s.toks + 1 }) (PySem.W.looks_clsIn X hc) ?_))))))
  rw [hd']
  refine wpAny_pure (a:=some dx) (wpAny_bind (wpAny_pure (wpAny_bind ?_)))
  refine wpAny_nsSet1 (s:={ s with toks:=s.toks + 1 }) I.ns fun h' hn2 hs2=>?_
  obtain ⟨oD,esD,epD,hoD,hdD,hcD⟩:=hn2.count (PySem.Within.cons name v hw)
  refine wpAny_bind (wpAny_lookBehind hoD (by rw [hdD]; exact pastItsLine_dict (Nat.le_trans hcD (by rw [List.length_cons]; omega))) ?_)
  exact wpAny_pure (h _ ⟨(hs2.2 _ (Ne.symm I.ne)).trans I.obj,hn2,I.ne⟩ hs2)
theorem make_map {R:Result → Shared → Prop} {vs:List Value} {kw:List (Str × Value)} (X:K.In s.heap) (hm:PySem.W.makesIn K C = true)
    (hi:PySem.W.findIn K (.ref C) "__init__" = some (some (.ref f))) (hf:PySem.W.typeIn K (.ref f) = some (.type "function"))
    (h:codeAny (model prog w) (A.under (.builtin "type.__call__" ⟨.ref C :: vs,kw⟩)) (.call (.ref f) ⟨.ref (s.heap.objs.size + 1) :: vs,kw⟩) (PySem.W.InitBack (s.heap.objs.size + 1) R)
      { s with heap:=(s.heap.push PySem.W.emptyDict).push (PySem.W.instObj C s.heap.objs.size) }) :
    codeAny (model prog w) A (.call (.ref C) ⟨vs,kw⟩) R s:=by
  obtain ⟨hh,g,d,t,os⟩:=s
  exact PySem.W.make_core (PySem.W.makes_of X hm) (PySem.W.looks_findIn X hi) (fun self=>PySem.W.bind_fn X self hf) (.inl rfl) h
end
def putF (f:Str) (v:V) : List (Str × V) → List (Str × V)
  | []=>[(f,v)]
  | (g,x) :: r=>if g = f then (g,v) :: r else (g,x) :: putF f v r
theorem lookup_putF (f g:Str) (v:V) : ∀ fs : List (Str × V),(putF f v fs).lookup g = if g = f then some v else fs.lookup g
  | []=>by
    show List.lookup g [(f,v)] = _
    by_cases h : g = f
    · have hb : (g == f) = true:=beq_iff_eq.mpr h
      simp only [List.lookup,hb,if_pos h]
    · have hb : (g == f) = false:=beq_eq_false_iff_ne.mpr h
      simp only [List.lookup,hb,if_neg h]
  | (k,x) :: r=>by
    have ih:=lookup_putF f g v r
    rw [show putF f v ((k,x) :: r) = (if k = f then (k,v) :: r else (k,x) :: putF f v r) from rfl]
    by_cases hk : k = f
    · rw [if_pos hk]
      by_cases h : g = k
      · have hb : (g == k) = true:=beq_iff_eq.mpr h
        simp only [List.lookup,hb,if_pos (h.trans hk)]
      · have hb : (g == k) = false:=beq_eq_false_iff_ne.mpr h
        simp only [List.lookup,hb,if_neg (fun e:g = f=>h (e.trans hk.symm))]
    · rw [if_neg hk]
      by_cases h : g = k
      · have hb : (g == k) = true:=beq_iff_eq.mpr h
        simp only [List.lookup,hb,if_neg (fun e:g = f=>hk (h.symm.trans e))]
      · have hb : (g == k) = false:=beq_eq_false_iff_ne.mpr h
        simp only [List.lookup,hb]
        exact ih
theorem keys_putF (f:Str) (v:V) : ∀ fs : List (Str × V),f ∈ (putF f v fs).map (·.1) ∧ ∀ g,g ∈ fs.map (·.1) → g ∈ (putF f v fs).map (·.1)
  | []=>⟨by simp [putF],fun g h=>by simp at h⟩
  | (k,x) :: r=>by
    obtain ⟨i1,i2⟩:=keys_putF f v r
    rw [show putF f v ((k,x) :: r) = (if k = f then (k,v) :: r else (k,x) :: putF f v r) from rfl]
    by_cases hk : k = f
    · rw [if_pos hk]
      subst hk
      exact ⟨by simp,fun g h=>by simpa using h⟩
    · rw [if_neg hk]
      refine ⟨?_,fun g h=>?_⟩
      · rw [List.map_cons]
        exact List.mem_cons_of_mem _ i1
      · rw [List.map_cons] at h ⊢
        rcases List.mem_cons.mp h with e | e
        · exact List.mem_cons.mpr (.inl e)
        · exact List.mem_cons_of_mem _ (i2 g e)
theorem length_putF (f:Str) (v:V) : ∀ fs : List (Str × V),(putF f v fs).length ≤ fs.length + 1
  | []=>by simp [putF]
  | (k,x) :: r=>by
    have ih:=length_putF f v r
    rw [show putF f v ((k,x) :: r) = (if k = f then (k,v) :: r else (k,x) :: putF f v r) from rfl]
    by_cases hk : k = f
    · rw [if_pos hk,List.length_cons,List.length_cons]; omega
    · rw [if_neg hk,List.length_cons,List.length_cons]; omega
theorem RelO.some_of {v:V} {o:Option Value} (r:RelO (some v) o) : ∃ u,o = some u ∧ RelV v u:=by
  cases o with
  | none=>exact (show False from r).elim
  | some u=>exact ⟨u,rfl,r⟩
theorem RelO.none_of {o:Option Value} (r:RelO none o) : o = none:=by
  cases o with
  | none=>rfl
  | some u=>exact (show False from r).elim
theorem handed_of {v:V} {u:Value} (r:RelV v u) : PySem.W.handedIn u = true:=by
  cases v with
  | non=>cases (show u = Value.none from r); rfl
  | bl b=>cases (show u = Value.bool b from r); rfl
  | int i=>obtain ⟨t,e⟩:=(show ∃ t,u = Value.int i t from r); cases e; rfl
  | str x=>obtain ⟨t,e⟩:=(show ∃ t,u = Value.str x t from r); cases e; rfl
  | byt b=>obtain ⟨t,e⟩:=(show ∃ t,u = Value.bytes b t from r); cases e; rfl
  | flt b=>obtain ⟨t,e⟩:=(show ∃ t,u = Value.float b t from r); cases e; rfl
  | ref a=>cases (show u = Value.ref a from r); rfl
  | ty n=>cases (show u = Value.type n from r); rfl
section
variable {P:Program} {w:World} {H H':Hp} {h h':Heap} {a C dx:Addr} {fs fs':List (Str × V)}
theorem ins_get (hok:HOk P w H h) (e:H a = some (.ins C dx fs)) : ∃ mA,ObjM h a dx C mA ∧ (∀ f,RelO (fs.lookup f) (mA f)) ∧ PySem.Within mA (fs.map (·.1)) ∧ fs.length ≤ 1000 ∧ H dx = some (.own a):=by
  obtain ⟨d,z,ne,ob,mA,n,r,q⟩:=(show ObjOk P w H h a (.ins C dx fs) from hok a _ e)
  exact ⟨mA,⟨ob,n,ne⟩,r,q,z,d⟩
end
structure Cls (K:PySem.W.Frag) (C:Addr) : Prop where
  pg : PySem.W.plainGet K C Str.empty = true
  hd : PySem.W.hasDictIn K C = true
  po : PySem.W.plainOver K C = true
  sa : PySem.W.findIn K (.ref C) "__setattr__" = some (some (.builtin "object.__setattr__"))
theorem Cls.get {K:PySem.W.Frag} {C:Addr} (c:Cls K C) (f:Str) : PySem.W.plainGet K C f = true:=c.pg
def NoAttr (K:PySem.W.Frag) (C:Addr) (f:Str) : Prop:=PySem.W.findIn K (.ref C) f = some none
theorem NoAttr.taker {K:PySem.W.Frag} {C:Addr} {f:Str} (n:NoAttr K C f) : PySem.W.takerIn K C f = some none:=by
  unfold PySem.W.takerIn
  rw [show PySem.W.findIn K (.ref C) f = some none from n]
  rfl
structure Meth (K:PySem.W.Frag) (C:Addr) (m:Str) (f:Addr) : Prop where
  at_ : PySem.W.findIn K (.ref C) m = some (some (.ref f))
  fn : PySem.W.isFn K (.ref f) = true
  kp : PySem.W.keepIn K (.ref f) = true
section
variable {X:Cx} {pins:List (Addr × Obj)} {σ:St} {H:Hp} {s:Shared} {a C dx:Addr} {fs:List (Str × V)} {f:Str} {v:V} {A:Around} {E:Value → Shared → Prop}
theorem getattr_ok {b:Bool} {Q:Value → Shared → Prop} (I:Inv X pins σ H s) (e:H a = some (.ins C dx fs)) (c:Cls X.K C) (n:NoAttr X.K C f) (l:fs.lookup f = some v)
    (h:∀ u s',Inv X pins σ H s' → RelV v u → Q u s') : wpAny (model X.prog X.w) A (getAttr (.ref a) f b) Q E s:=by
  obtain ⟨mA,O,r,_,_,_⟩:=ins_get I.hok e
  obtain ⟨u,hu,ru⟩:=RelO.some_of (v:=v) (o:=mA f) (by rw [← l]; exact r f)
  exact get_map I.kIn O (c.get f) c.hd n hu (handed_of ru) (h u _ (I.tok _) ru)
theorem getmeth_ok {m:Str} {g:Addr} {pl:Sem Bool} {Q:Value × List Value → Shared → Prop} (I:Inv X pins σ H s) (e:H a = some (.ins C dx fs)) (c:Cls X.K C) (k:Meth X.K C m g) (l:fs.lookup m = none)
    (h:Q (.ref g,[.ref a]) s) : wpAny (model X.prog X.w) A (getMethod (.ref a) m pl) Q E s:=by
  obtain ⟨mA,O,r,_,_,_⟩:=ins_get I.hok e
  have hn : mA m = none:=RelO.none_of (by rw [← l]; exact r m)
  exact get_meth I.kIn O (c.get m) k.at_ k.fn hn h
theorem setattr_ok {y:V} {u:Value} {Q:Unit → Shared → Prop} (I:Inv X pins σ H s) (e:H a = some (.ins C dx fs)) (c:Cls X.K C) (n:NoAttr X.K C f) (hl:fs.length < 1000) (ry:RelV y u)
    (h:∀ s',Inv X pins σ (upd H a (.ins C dx (putF f y fs))) s' → Q () s') : wpAny (model X.prog X.w) A (setAttr (.ref a) f u) Q E s:=by
  obtain ⟨mA,O,r,wi,_,ho⟩:=ins_get I.hok e
  have hz : (fs.map (·.1)).length ≤ sizeLine:=by rw [List.length_map,sizeLine_eq]; omega
  refine set_map I.kIn O c.sa c.po n.taker c.hd wi hz fun h' O' sb=>h _ ?_
  have hd : ∃ o,h'.get? dx = some o:=let ⟨o,_,_,e',_⟩:=O'.ns; ⟨o,e'⟩
  refine I.write (x:=a) (e:=dx) (by rw [e]; exact True.intro) (.inr ho) (fun b q hb z=>(sb.2 b hb).trans z) hd ?_
  refine ⟨by rw [upd_ne O.ne]; exact ho,?_,O.ne,O'.obj,_,O'.ns,fun g=>?_,fun g hg=>?_⟩
  · have:=length_putF f y fs; omega
  · show RelO ((putF f y fs).lookup g) (if g = f then some u else mA g)
    rw [lookup_putF]
    by_cases q : g = f
    · rw [if_pos q,if_pos q]; exact ry
    · rw [if_neg q,if_neg q]; exact r g
  · by_cases q : g = f
    · rw [q]; exact (keys_putF f y fs).1
    · refine (keys_putF f y fs).2 g (wi g fun z=>hg ?_)
      show (if g = f then some u else mA g) = none
      rw [if_neg q]; exact z
theorem Inv.made (I:Inv X pins σ H s) : Inv X pins σ (upd (upd H s.heap.objs.size (.own (s.heap.objs.size + 1))) (s.heap.objs.size + 1) (.ins C s.heap.objs.size []))
    { s with heap:=(s.heap.push PySem.W.emptyDict).push (PySem.W.instObj C s.heap.objs.size) }:=by
  have e1 : (s.heap.push PySem.W.emptyDict).get? s.heap.objs.size = some PySem.W.emptyDict:=Heap.get?_push_size s.heap rfl
  have e2 : ((s.heap.push PySem.W.emptyDict).push (PySem.W.instObj C s.heap.objs.size)).get? (s.heap.objs.size + 1) = some (PySem.W.instObj C s.heap.objs.size):=by
    have:=Heap.get?_push_size (s.heap.push PySem.W.emptyDict) (o:=PySem.W.instObj C s.heap.objs.size) rfl
    rwa [Heap.size_push] at this
  have e3 : (s.heap.push PySem.W.emptyDict).Ns s.heap.objs.size (fun _=>none):=⟨PySem.W.emptyDict,#[],_,e1,rfl,(fun e he=>absurd he (by simp)),fun _=>rfl⟩
  have I1:=I.laid (a:=s.heap.objs.size) (o:=.own (s.heap.objs.size + 1)) (h':=s.heap.push PySem.W.emptyDict) (t':=s.toks) (fun b u q=>Heap.get?_push_of_some _ q) (Nat.le_refl _) ⟨_,e1⟩
  refine I1.laid (a:=s.heap.objs.size + 1) (o:=.ins C s.heap.objs.size []) (t':=s.toks) (fun b u q=>Heap.get?_push_of_some _ q) (Nat.le_of_eq (Heap.size_push _ _)) ?_
  have ne : s.heap.objs.size ≠ s.heap.objs.size + 1:=Nat.ne_of_lt (Nat.lt_succ_self _)
  refine ⟨by rw [upd_ne ne,upd_same],Nat.zero_le _,ne,e2,fun _=>none,(Heap.Ns1.of_empty e3).at fun o q=>Heap.get?_push_of_some _ q,fun _=>True.intro,fun y hy=>absurd rfl hy⟩
theorem attr_of {prog:Program} {w:World} {env:Env} {e:Expr} {f:Str} {pos:Pos} {s:Shared} {Q:Value → Shared → Prop} (hb:attributeBase e f env (eval e env) = eval e env)
    (h:wpAny (model prog w) A (eval e env) (fun o s₁=>wpAny (model prog w) A (getAttr o f true) Q E s₁) E s) : wpAny (model prog w) A (eval (.Attribute e f pos) env) Q E s :=
  Attribute_any_ h (by rw [arm_eval_Attribute,hb])
end
def tFld (K:PySem.W.Frag) (ta:TE) (f:Str) : TE:=fun σ H Q=>ta σ H fun x H1=>∃ a C dx fs v,x = .ref a ∧ H1 a = some (.ins C dx fs) ∧ Cls K C ∧ NoAttr K C f ∧ fs.lookup f = some v ∧ Q v H1
def sFld (K:PySem.W.Frag) (ta tv:TE) (f:Str) : TS:=fun D σ H=>tv σ H fun y H1=>ta σ H1 fun x H2=>∃ a C dx fs,x = .ref a ∧ H2 a = some (.ins C dx fs) ∧ Cls K C ∧ NoAttr K C f ∧ fs.length < 1000 ∧
  D.nx σ (upd H2 a (.ins C dx (putF f y fs)))
def InOp (X:Cx) (op:Operator) (rd:V → V → Hp → VK → Prop) : Prop :=
  ∀ (pins:List (Addr × Obj)) (s:Shared) (σ:St) (H:Hp) (x y:V) (u v:Value) (Q:VK),Inv X pins σ H s → RelV x u → RelV y v → rd x y H Q → wpAny (model X.prog X.w) X.A (inplaceOp op u v) (EP X pins σ Q) X.xe s
def sFldAug (K:PySem.W.Frag) (ta tv:TE) (rd:V → V → Hp → VK → Prop) (f:Str) : TS:=fun D σ H=>ta σ H fun x H1=>∃ a C dx fs v,x = .ref a ∧ H1 a = some (.ins C dx fs) ∧ Cls K C ∧ NoAttr K C f ∧ fs.lookup f = some v ∧
  tv σ H1 fun y H2=>rd v y H2 fun z H3=>∃ dx' fs',H3 a = some (.ins C dx' fs') ∧ fs'.length < 1000 ∧ D.nx σ (upd H3 a (.ins C dx' (putF f z fs')))
section
variable {X:Cx} {o e value:Expr} {f:Str} {pos pos' tpos:Pos} {ta tv:TE}
theorem pe_fld (he:PE X e ta) (hb:attributeBase e f X.env (eval e X.env) = eval e X.env) : PE X (.Attribute e f pos) (tFld X.K ta f):=by
  intro pins s σ H Q I h
  refine attr_of hb (thn (he pins s σ H _ I h) fun u s1 ⟨x,H1,I1,rx,a,C,dx,fs,v,ex,ea,c,n,l,q⟩=>?_)
  subst ex
  obtain rfl : u = Value.ref a:=rx
  exact getattr_ok I1 ea c n l fun u' s2 I2 ru=>⟨v,H1,I2,ru,q⟩
theorem ps_fld (ha:PE X o ta) (hv:PE X value tv) (hs:swapsWith value (some (.Attribute o f pos')) pos.line X.env = pure false) : PS X (.Assign [.Attribute o f pos'] value pos) (sFld X.K ta tv f):=by
  intro pins s σ H D I h
  refine plainObj_wpAny_Assign_Attribute (thn (hv pins s σ H _ I h) fun u s1 ⟨y,H1,I1,ry,q⟩=>thn (ha pins s1 σ H1 _ I1 q) fun ov s2 ⟨x,H2,I2,rx,a,C,dx,fs,ex,ea,c,n,l,q2⟩=>?_) hs
  subst ex
  obtain rfl : ov = Value.ref a:=rx
  exact setattr_ok I2 ea c n l ry fun s3 I3=>⟨σ,_,I3,q2⟩
theorem ps_fldaug {op:Operator} {rd:V → V → Hp → VK → Prop} (ha:PE X o ta) (hv:PE X value tv) (hop:InOp X op rd) : PS X (.AugAssign (.Attribute o f tpos) op value pos) (sFldAug X.K ta tv rd f):=by
  intro pins s σ H D I h
  refine wpAny_AugAssign_AttributeAny (thn (ha pins s σ H _ I h) fun ov s1 ⟨x,H1,I1,rx,a,C,dx,fs,v,ex,ea,c,n,l,q⟩=>?_)
  subst ex
  obtain rfl : ov = Value.ref a:=rx
  refine getattr_ok I1 ea c n l fun u s2 I2 ru=>thn (hv pins s2 σ H1 _ I2 q) fun w3 s3 ⟨y,H2,I3,ry,q3⟩=>thn (hop pins s3 σ H2 v y u w3 _ I3 ru ry q3) fun w4 s4 ⟨z,H3,I4,rz,dx',fs',ea',l',q4⟩=>?_
  exact setattr_ok I4 ea' c n l' rz fun s5 I5=>⟨σ,_,I5,q4⟩
def rAdd : V → V → Hp → VK → Prop:=fun x y H Q=>∃ i j,x = .int i ∧ y = .int j ∧ Q (.int (i + j)) H
theorem in_add : InOp X .Add rAdd:=by
  rintro pins s σ H x y u v Q I rx ry ⟨i,j,rfl,rfl,q⟩
  obtain ⟨t,rfl⟩:=(show ∃ t,u = Value.int i t from rx)
  obtain ⟨t',rfl⟩:=(show ∃ t',v = Value.int j t' from ry)
  exact PyProof.Rows.iadd_int ⟨.int (i + j),H,I.tok _,⟨_,rfl⟩,q⟩
end
section
variable {X:Cx} {pins:List (Addr × Obj)} {σ:St} {H:Hp} {s:Shared} {A:Around} {E:Value → Shared → Prop} {Q:Value → Shared → Prop} {c:Value} {b:Bool}
inductive TyOf (K:PySem.W.Frag) (H:Hp) : V → Value → Prop where
  | non : TyOf K H .non (.type "NoneType")
  | bl (x:Bool) : TyOf K H (.bl x) (.type "bool")
  | int (i:Int) : TyOf K H (.int i) (.type "int")
  | str (x:Str) : TyOf K H (.str x) (.type "str")
  | flt (x:UInt64) : TyOf K H (.flt x) (.type "float")
  | lst {a:Addr} {xs:List V} (e:H a = some (.lst xs)) : TyOf K H (.ref a) (.type "list")
  | frz {a:Addr} {o:Obj} {xs:List V} (e:H a = some (.frz o (.lst xs))) : TyOf K H (.ref a) (.type "list")
  | tup {a:Addr} {xs:List V} (e:H a = some (.tup xs)) : TyOf K H (.ref a) (.type "tuple")
  | dK {a:Addr} {kvs:List (Key × V)} (e:H a = some (.dK kvs)) : TyOf K H (.ref a) (.type "dict")
  | dT {a:Addr} {kvs:List (List Key × V)} (e:H a = some (.dT kvs)) : TyOf K H (.ref a) (.type "dict")
  | ins {a C dx:Addr} {fs:List (Str × V)} (e:H a = some (.ins C dx fs)) (cl:Cls K C) (ha:PySem.W.findIn K (.ref C) "__class__" = some (some (.builtin "object.__class__")))
      (hn:PySem.W.specialIn K (.builtin "object.__class__") "__get__" = some (some (.builtin "getset_descriptor.__get__"))) (htk:PySem.W.takesIn K (.builtin "object.__class__") = some true)
      (hm:PySem.W.mroIn K C (.type "object") = some true) : TyOf K H (.ref a) (.ref C)
theorem isinst_ok {x:V} {u t:Value} (I:Inv X pins σ H s) (rx:RelV x u) (ty:TyOf X.K H x t) (e:PySem.W.kitOne X.K t c = some b) (h:∀ tk,Q (.bool b) { s with toks:=tk }) :
    wpAny (model X.prog X.w) A (call (.builtin "isinstance") [u,c]) Q E s:=by
  cases ty with
  | non=>cases (show u = Value.none from rx); exact PySem.W.kia_one PySem.W.kitx_none I.kIn True.intro e (fun z=>nomatch z) h
  | bl y=>cases (show u = Value.bool y from rx); exact PySem.W.kia_one PySem.W.kitx_bool I.kIn True.intro e (fun z=>nomatch z) h
  | int i=>obtain ⟨t,q⟩:=(show ∃ t,u = Value.int i t from rx); cases q; exact PySem.W.kia_one PySem.W.kitx_int I.kIn True.intro e (fun z=>nomatch z) h
  | str y=>obtain ⟨t,q⟩:=(show ∃ t,u = Value.str y t from rx); cases q; exact PySem.W.kia_one PySem.W.kitx_str I.kIn True.intro e (fun z=>nomatch z) h
  | flt y=>obtain ⟨t,q⟩:=(show ∃ t,u = Value.float y t from rx); cases q; exact PySem.W.kia_one PySem.W.kitx_float I.kIn True.intro e (fun z=>nomatch z) h
  | @lst a xs ea =>
    cases (show u = Value.ref a from rx)
    obtain ⟨_,_,n,_,h1⟩:=(show ObjOk X.prog X.w H s.heap a (.lst xs) from I.hok a _ ea)
    exact PySem.W.kia_one PySem.W.kitx_list I.kIn ⟨_,h1,rfl⟩ e (fun z=>nomatch z) h
  | @frz a ob xs ea =>
    cases (show u = Value.ref a from rx)
    obtain ⟨_,_,_,n,_,h1⟩:=(show ObjOk X.prog X.w H s.heap a (.frz ob (.lst xs)) from I.hok a _ ea)
    exact PySem.W.kia_one PySem.W.kitx_list I.kIn ⟨_,h1,rfl⟩ e (fun z=>nomatch z) h
  | @tup a xs ea =>
    cases (show u = Value.ref a from rx)
    obtain ⟨_,_,_,p⟩:=(show ObjOk X.prog X.w H s.heap a (.tup xs) from I.hok a _ ea)
    obtain ⟨o,h1,h2,_⟩:=p
    exact PySem.W.kia_one PySem.W.kitx_tuple I.kIn ⟨o,h1,h2⟩ e (fun z=>nomatch z) h
  | @dK a kvs ea =>
    cases (show u = Value.ref a from rx)
    obtain ⟨_,_,vs,_,p⟩:=(show ObjOk X.prog X.w H s.heap a (.dK kvs) from I.hok a _ ea)
    obtain ⟨o,es,ep,h1,h2,_⟩:=p
    exact PySem.W.kia_one PySem.W.kitx_dict I.kIn ⟨o,h1,h2.1⟩ e (fun z=>nomatch z) h
  | @dT a kvs ea =>
    cases (show u = Value.ref a from rx)
    obtain ⟨_,_,xs,_,o,es,ep,h1,h2,_⟩:=(show ObjOk X.prog X.w H s.heap a (.dT kvs) from I.hok a _ ea)
    exact PySem.W.kia_one PySem.W.kitx_dict I.kIn ⟨o,h1,h2.1⟩ e (fun z=>nomatch z) h
  | @ins a C dx fs ea cl ha hn htk hm =>
    cases (show u = Value.ref a from rx)
    obtain ⟨mA,O,_⟩:=ins_get I.hok ea
    obtain ⟨od,J,_⟩:=O.look
    exact PySem.W.kia_one (PySem.W.kitx_own (cl.get _) cl.hd ha hn htk hm) I.kIn J e (fun z=>nomatch z) h
end
end L2
namespace L2
open PySem PySem.Spec PyProof.Rows
structure Room (k:Nat) (A:Around) : Prop where
  hd : A.handled = none
  dp : A.depth + 3 * k + 5 < recursionLimit
  un : A.units + 16 * k + 200 < cLine
theorem Room.mono {j k:Nat} {A:Around} (r:Room k A) (h:j ≤ k) : Room j A:=⟨r.hd,by have:=r.dp; omega,by have:=r.un; omega⟩
theorem Room.deeper {k:Nat} {A:Around} (r:Room (k + 1) A) (env:Env) : Room k (A.deeper env) :=
  ⟨r.hd,by have:=r.dp; show A.depth + 1 + 3 * k + 5 < _; omega,by have:=r.un; show A.units + 3 + 16 * k + 200 < _; omega⟩
theorem make_depth {A:Around} {C:Addr} {us:List Value} {kw:List (Str × Value)} : (A.under (.builtin "type.__call__" ⟨.ref C :: us,kw⟩)).depth = A.depth + 1:=by
  first | rfl | simp [Around.under,Code.weight,Code.isCreation,Code.isGuard,Code.isCaller,Code.frames,Code.isFrame,guardIds]
theorem make_units {A:Around} {C:Addr} {us:List Value} {kw:List (Str × Value)} : (A.under (.builtin "type.__call__" ⟨.ref C :: us,kw⟩)).units = A.units + 1:=by
  first | rfl | simp [Around.under,Code.cUnits,Code.frames,Code.isFrame]
theorem Room.make {k:Nat} {A:Around} (r:Room (k + 1) A) (C:Addr) (us:List Value) (kw:List (Str × Value)) : Room k (A.under (.builtin "type.__call__" ⟨.ref C :: us,kw⟩)) :=
  ⟨r.hd,by have:=r.dp; rw [make_depth]; omega,by have:=r.un; rw [make_units]; omega⟩
theorem Room.depth {k:Nat} {A:Around} (r:Room k A) : A.depth < recursionLimit:=by have:=r.dp; omega
theorem Room.units {k:Nat} {A:Around} (r:Room k A) : A.units + 64 < cLine:=by have:=r.un; omega
def tNil : TA:=fun _ H Q=>Q [] H
def tCons (ta:TE) (tr:TA) : TA:=fun σ H Q=>ta σ H fun x H1=>tr σ H1 fun xs H2=>Q (x :: xs) H2
section
variable {X:Cx} {e:Expr} {es:List Expr} {te:TE} {t:TA} {pos:Pos}
theorem pa_nil : PA X [] tNil:=fun _ _ _ _ H Q I h=>Calls.spliced_nil ⟨[],H,I,.nil,h⟩
theorem pa_cons (ha:PE X e te) (hr:PA X es t) (hs:starEach (e :: es) X.env = (false,eval e X.env) :: starEach es X.env:=by rfl) : PA X (e :: es) (tCons te t):=by
  intro pos pins s σ H Q I h
  rw [hs]
  show wpAny _ _ (spliced ((false,eval e X.env) :: backTo pos (starEach es X.env))) _ _ s
  refine Calls.spliced_cons (thn (ha pins s σ H _ I h) fun u s1 ⟨x,H1,I1,r1,q1⟩=>?_)
  exact thn (hr pos pins s1 σ H1 _ I1 q1) fun us s2 ⟨xs,H2,I2,r2,q2⟩=>⟨x :: xs,H2,I2,.cons r1 r2,q2⟩
def tTup (t:TA) : TE:=fun σ H Q=>t σ H fun xs H1=>xs.length ≤ sizeLine ∧ ∀ p,H1 p = none → Q (.ref p) (upd H1 p (.tup xs))
def tLst (t:TA) : TE:=fun σ H Q=>t σ H fun xs H1=>xs.length ≤ sizeLine ∧ ∀ p,H1 p = none → Q (.ref p) (upd H1 p (.lst xs))
theorem pe_tup {x1} (h:PA X es t) : PE X (.Tuple es x1 pos) (tTup t):=by
  intro pins s σ H Q I hq
  refine wpAny_Tuple_spliced (thn (h pos pins s σ H _ I hq) fun us s1 ⟨xs,H1,I1,r,z,q⟩=>⟨by rw [← r.length]; exact z,?_⟩)
  have hf : H1 s1.heap.objs.size = none:=I1.hok.fresh (Nat.le_refl _)
  refine ⟨.ref s1.heap.objs.size,upd H1 s1.heap.objs.size (.tup xs),I1.laid (t':=s1.toks) (fun b u e=>Heap.get?_push_of_some _ e) (Nat.le_refl _) ?_,rfl,q _ hf⟩
  exact ⟨z,us,r,⟨_,Heap.get?_push_size _ rfl,rfl,_,rfl⟩⟩
theorem pe_lst (h:PA X es t) : PE X (.List es pos) (tLst t):=by
  intro pins s σ H Q I hq
  refine wpAny_List_spliced (thn (h pos pins s σ H _ I hq) fun us s1 ⟨xs,H1,I1,r,z,q⟩=>⟨by rw [← r.length]; exact z,?_⟩)
  have hf : H1 s1.heap.objs.size = none:=I1.hok.fresh (Nat.le_refl _)
  refine ⟨.ref s1.heap.objs.size,upd H1 s1.heap.objs.size (.lst xs),I1.laid (t':=s1.toks) (fun b u e=>Heap.get?_push_of_some _ e) (Nat.le_refl _) ?_,rfl,q _ hf⟩
  exact ⟨z,us,0,r,Heap.get?_push_size _ rfl⟩
end
abbrev Sp:=List V → Hp → VK → XK → Prop
abbrev CXT:=List Env → Hp → Shared → XK → Value → Shared → Prop
structure Env0 (P:Program) (w:World) (K:PySem.W.Frag) (mg:Str → Option Value) (base:Heap) (A:Around) (outer:List Env) (s:Shared) (H:Hp) : Prop where
  frames : A.frames = some outer
  mod : Mod K mg base
  bs : ∀ b o,base.get? b = some o → s.heap.get? b = some o ∧ H b = none
  bsz : base.objs.size ≤ s.heap.objs.size
  funs : s.heap.FunFrames base outer
  frf : ∀ b ∈ frs outer,H b = none
  hok : HOk P w H s.heap
  bare : AllBare s.gens
def CE (outer:List Env) (P:Program) (w:World) (H:Hp) (s:Shared) (Q:VK) (u:Value) (s':Shared) : Prop :=
  ∃ v H',s'.os = s.os ∧ AllBare s'.gens ∧ Un (frs outer) [] H H' s.heap s'.heap ∧ HOk P w H' s'.heap ∧ RelV v u ∧ Q v H'
def CR (CX:CXT) (outer:List Env) (P:Program) (w:World) (H:Hp) (s:Shared) (Q:VK) (E:XK) (r:Result) (s':Shared) : Prop :=
  match r with
  | .ok (.ret u)=>CE outer P w H s Q u s'
  | .ok _=>False
  | .error e=>CX outer H s E e s'
structure FnOk (P:Program) (w:World) (K:PySem.W.Frag) (mg:Str → Option Value) (base:Heap) (CX:CXT) (k:Nat) (f:Addr) (fd:FuncData) (ps:List Str) (sp:Sp) : Prop where
  len : ∀ vs H Q E,sp vs H Q E → vs.length = ps.length
  run : ∀ (A:Around) (outer:List Env) (s:Shared) (H:Hp) (args:Args) (us:List Value) (vs:List V) (Q:VK) (E:XK),Room k A → Env0 P w K mg base A outer s H → BindsTo s fd args (ps.zip us) → Vals vs us → sp vs H Q E →
    codeAny (model P w) A (.call (.ref f) args) (CR CX outer P w H s Q E) s
theorem FnOk.mono {P:Program} {w:World} {K:PySem.W.Frag} {mg:Str → Option Value} {base:Heap} {CX:CXT} {j k:Nat} {f:Addr} {fd:FuncData} {ps:List Str} {sp:Sp} (F:FnOk P w K mg base CX j f fd ps sp) (h:j ≤ k) :
    FnOk P w K mg base CX k f fd ps sp:=⟨F.len,fun A outer s H args us vs Q E hr=>F.run A outer s H args us vs Q E (hr.mono h)⟩
theorem Env0.make {P:Program} {w:World} {K:PySem.W.Frag} {mg:Str → Option Value} {base:Heap} {A:Around} {outer:List Env} {s:Shared} {H:Hp} (e:Env0 P w K mg base A outer s H) (C:Addr) (us:List Value) (kw:List (Str × Value)) :
    Env0 P w K mg base (A.under (.builtin "type.__call__" ⟨.ref C :: us,kw⟩)) outer s H:=⟨by first | exact e.frames | (simpa [Around.under,Code.envs,Code.isFrame,pushEnvs] using e.frames),e.mod,e.bs,e.bsz,e.funs,e.frf,e.hok,e.bare⟩
section
variable {X:Cx} {pins:List (Addr × Obj)} {σ:St} {H:Hp} {s s':Shared}
theorem Inv.env0 (I:Inv X pins σ H s) : Env0 X.prog X.w X.K X.mg X.base X.A X.stack s H :=
  ⟨I.ok.frames,I.ok.mod,I.bs,Nat.le_trans I.ok.bsz I.sz,I.stack,I.stkFree,I.hok,I.bare⟩
theorem Inv.after {Q:VK} {u:Value} (I:Inv X pins σ H s) (h:CE X.stack X.prog X.w H s Q u s') : EP X pins σ Q u s':=by
  obtain ⟨v,H',os,bare,un,hok,r,q⟩:=h
  obtain ⟨hh,g,d,t,os'⟩:=s'
  obtain rfl : os' = s.os:=os
  exact ⟨v,H',I.call (h':=hh) (g':=g) (d':=d) (t':=t) (ch:=[]) un hok bare (fun b z=>absurd z (by simp)),r,q⟩
end
def tCall (sp:Sp) (dvs:List V) (E:XK) (t:TA) : TE:=fun σ H Q=>t σ H fun vs H1=>sp (vs ++ dvs) H1 Q E
def tMeth (C:Addr) (m:Str) (sp:Sp) (dvs:List V) (E:XK) (ta:TE) (t:TA) : TE:=fun σ H Q=>ta σ H fun x H1=>∃ a dx fs,x = .ref a ∧ H1 a = some (.ins C dx fs) ∧ fs.lookup m = none ∧
  t σ H1 fun vs H2=>sp (x :: (vs ++ dvs)) H2 Q E
def tMake (C:Addr) (sp:Sp) (dvs:List V) (E:XK) (t:TA) : TE:=fun σ H Q=>t σ H fun vs H1=>∀ x dx,H1 x = none → H1 dx = none → dx ≠ x →
  sp (.ref x :: (vs ++ dvs)) (upd (upd H1 dx (.own x)) x (.ins C dx [])) (fun v H2=>v = .non ∧ Q (.ref x) H2) E
def Binds (K:PySem.W.Frag) (fd:FuncData) (ps:List Str) (ds:List Value) : Prop :=
  ∀ (s:Shared) (us:List Value),K.In s.heap → (us ++ ds).length = ps.length → BindsTo s fd ⟨us,[]⟩ (ps.zip (us ++ ds))
theorem Binds.all {K:PySem.W.Frag} {fd:FuncData} {ps:List Str} (h:∀ us : List Value,us.length = ps.length → bindArgs fd ⟨us,[]⟩ = pure (ps.zip us)) : Binds K fd ps []:=fun s us _ hl=>by
  rw [List.append_nil] at hl ⊢
  exact .of_eq (h us hl)
def Passes (CX:CXT) (X:Cx) (E:XK) : Prop:=∀ (pins:List (Addr × Obj)) (σ:St) (H:Hp) (s:Shared) (e:Value) (s':Shared),Inv X pins σ H s → CX X.stack H s E e s' → X.xe e s'
section
variable {X:Cx} {CX:CXT} {k:Nat} {f C:Addr} {fd:FuncData} {ps:List Str} {sp:Sp} {dvs:List V} {ds:List Value} {E:XK} {x m:Str} {p pos apos:Pos} {e o:Expr} {es:List Expr} {ta:TE} {t:TA}
theorem run_fn {pins:List (Addr × Obj)} {σ:St} {H:Hp} {s:Shared} {Q:VK} {us:List Value} {vs:List V} (F:FnOk X.prog X.w X.K X.mg X.base CX k f fd ps sp) (hr:Room k X.A) (hb:Binds X.K fd ps ds) (hd:Vals dvs ds) (hx:Passes CX X E)
    (I:Inv X pins σ H s) (r:Vals vs us) (h:sp (vs ++ dvs) H Q E) : wpAny (model X.prog X.w) X.A (call (.ref f) us) (EP X pins σ Q) X.xe s:=by
  have r2 : Vals (vs ++ dvs) (us ++ ds):=r.append hd
  have hl : (us ++ ds).length = ps.length:=by rw [← r2.length]; exact F.len _ _ _ _ h
  refine wpAny_call (codeAny_mono (F.run X.A X.stack s H ⟨us,[]⟩ (us ++ ds) (vs ++ dvs) Q E hr I.env0 (hb s us I.kIn hl) r2 h) fun r s' hq=>?_)
  cases r with
  | error e=>exact hx pins σ H s e s' I hq
  | ok fl =>
    cases fl with
    | ret u=>exact I.after hq
    | next=>exact False.elim hq
    | brk=>exact False.elim hq
    | cont=>exact False.elim hq
theorem pe_call (F:FnOk X.prog X.w X.K X.mg X.base CX k f fd ps sp) (hr:Room k X.A) (hg:Gl X x) (hm:X.mg x = some (.ref f)) (hk:PySem.W.keepIn X.K (.ref f) = true) (hb:Binds X.K fd ps ds) (hd:Vals dvs ds) (hx:Passes CX X E)
    (ha:PA X (e :: es) t) (hdb:(x == ("__debug__" : Str)) = false:=by decide) (he:starEach (e :: es) X.env = (false,eval e X.env) :: starEach es X.env:=by rfl) (hpl:(backTo pos (starEach es X.env)).any (·.1) = false:=by rfl) :
    PE X (.Call (.Name x p) (e :: es) [] pos) (tCall sp dvs E t):=by
  intro pins s σ H Q I h
  refine wpAny_Call_Name_kw (ld_glob I hg hm ?_ hdb)
  refine PySem.W.callWith_K (h₀:=X.base) I.ok.mod.kin hk (thn (ha pos pins s σ H _ I h) fun us s1 ⟨vs,H1,I1,r,q⟩=>⟨I1.kIn,?_⟩) he hpl
  exact run_fn F hr hb hd hx I1 r q
theorem pe_meth {pl:Sem Bool} (he:PE X o ta) (c:Cls X.K C) (hm:Meth X.K C m f) (F:FnOk X.prog X.w X.K X.mg X.base CX k f fd ps sp) (hr:Room k X.A) (hb:Binds X.K fd ps ds) (hd:Vals dvs ds) (hx:Passes CX X E) (ha:PA X (e :: es) t)
    (hst:starEach (e :: es) X.env = (false,eval e X.env) :: starEach es X.env:=by rfl) (hpl:(backTo pos (starEach es X.env)).any (·.1) = false:=by rfl)
    (ht:eval (.Call (.Attribute o m apos) (e :: es) [] pos) X.env = (do
      let ov ← eval o X.env
      standAt apos.atName
      let (f,first) ← holding [ov] (getMethod ov m pl)
      callWith pos f first (backTo pos (starEach (e :: es) X.env)) (backToKw pos (keywordEach [] X.env))):=by rfl) :
    PE X (.Call (.Attribute o m apos) (e :: es) [] pos) (tMeth C m sp dvs E ta t):=by
  intro pins s σ H Q I h
  refine PySem.W.methodCall_KW (pl:=pl) (thn (he pins s σ H _ I h) fun u s1 ⟨x,H1,I1,rx,a,dx,fs,ex,ea,l,q⟩=>?_) ht
  subst ex
  obtain rfl : u = Value.ref a:=rx
  refine getmeth_ok I1 ea c hm l ?_
  refine PySem.W.callWith_K (first:=[.ref a]) (h₀:=X.base) I.ok.mod.kin hm.kp (thn (ha pos pins s1 σ H1 _ I1 q) fun us s2 ⟨vs,H2,I2,r,q2⟩=>⟨I2.kIn,?_⟩) hst hpl
  exact run_fn (us:=.ref a :: us) (vs:=.ref a :: vs) F hr hb hd hx I2 (.cons rfl r) q2
theorem pe_meth0 {pl:Sem Bool} (he:PE X o ta) (c:Cls X.K C) (hm:Meth X.K C m f) (F:FnOk X.prog X.w X.K X.mg X.base CX k f fd ps sp) (hr:Room k X.A) (hb:Binds X.K fd ps ds) (hd:Vals dvs ds) (hx:Passes CX X E)
    (ht:eval (.Call (.Attribute o m apos) [] [] pos) X.env = (do
      let ov ← eval o X.env
      standAt apos.atName
      let (f,first) ← holding [ov] (getMethod ov m pl)
      callWith pos f first (backTo pos (starEach [] X.env)) (backToKw pos (keywordEach [] X.env))):=by rfl) :
    PE X (.Call (.Attribute o m apos) [] [] pos) (tMeth C m sp dvs E ta tNil):=by
  intro pins s σ H Q I h
  refine PySem.W.methodCall_KW (pl:=pl) (thn (he pins s σ H _ I h) fun u s1 ⟨x,H1,I1,rx,a,dx,fs,ex,ea,l,q⟩=>?_) ht
  subst ex
  obtain rfl : u = Value.ref a:=rx
  refine getmeth_ok I1 ea c hm l ?_
  exact PySem.W.callWith_K0 (first:=[.ref a]) I1.kIn hm.kp (run_fn (us:=[.ref a]) (vs:=[.ref a]) F hr hb hd hx I1 (.cons rfl .nil) q)
structure Mk (K:PySem.W.Frag) (C f:Addr) : Prop where
  makes : PySem.W.makesIn K C = true
  init : PySem.W.findIn K (.ref C) "__init__" = some (some (.ref f))
  fn : PySem.W.isFn K (.ref f) = true
  kp : PySem.W.keepIn K (.ref C) = true
theorem run_make {pins:List (Addr × Obj)} {σ:St} {H:Hp} {s:Shared} {Q:VK} {us:List Value} {vs:List V} (M:Mk X.K C f) (F:FnOk X.prog X.w X.K X.mg X.base CX k f fd ps sp) (hr:Room (k + 1) X.A) (hb:Binds X.K fd ps ds) (hd:Vals dvs ds)
    (hx:Passes CX X E) (I:Inv X pins σ H s) (r:Vals vs us)
    (h:∀ x dx,H x = none → H dx = none → dx ≠ x → sp (.ref x :: (vs ++ dvs)) (upd (upd H dx (.own x)) x (.ins C dx [])) (fun v H2=>v = .non ∧ Q (.ref x) H2) E) :
    wpAny (model X.prog X.w) X.A (call (.ref C) us) (EP X pins σ Q) X.xe s:=by
  have hq:=h (s.heap.objs.size + 1) s.heap.objs.size (I.hok.fresh (Nat.le_succ _)) (I.hok.fresh (Nat.le_refl _)) (Nat.ne_of_lt (Nat.lt_succ_self _))
  have I2:=Inv.made (C:=C) I
  have r2 : Vals (V.ref (s.heap.objs.size + 1) :: (vs ++ dvs)) (Value.ref (s.heap.objs.size + 1) :: (us ++ ds)):=.cons rfl (r.append hd)
  have hl : (Value.ref (s.heap.objs.size + 1) :: us ++ ds).length = ps.length:=by
    have e:=r2.length
    rw [F.len _ _ _ _ hq] at e
    exact e.symm
  refine wpAny_call (make_map (f:=f) I.kIn M.makes M.init (beq_iff_eq.mp M.fn) (codeAny_mono (F.run _ X.stack _ _ ⟨Value.ref (s.heap.objs.size + 1) :: us,[]⟩ (Value.ref (s.heap.objs.size + 1) :: (us ++ ds)) _ _ E (hr.make C us [])
    (I2.env0.make C us []) (hb _ (Value.ref (s.heap.objs.size + 1) :: us) I2.kIn hl) r2 hq) fun r s' hq'=>?_))
  cases r with
  | error e=>exact hx pins σ _ _ e s' I2 hq'
  | ok fl =>
    cases fl with
    | ret u =>
      obtain ⟨v,H',I3,rv,ev,q3⟩:=I2.after hq'
      subst ev
      exact ⟨rv,⟨V.ref (s.heap.objs.size + 1),H',I3,rfl,q3⟩⟩
    | next=>exact False.elim hq'
    | brk=>exact False.elim hq'
    | cont=>exact False.elim hq'
theorem pe_make (M:Mk X.K C f) (F:FnOk X.prog X.w X.K X.mg X.base CX k f fd ps sp) (hr:Room (k + 1) X.A) (hg:Gl X x) (hm:X.mg x = some (.ref C)) (hb:Binds X.K fd ps ds) (hd:Vals dvs ds) (hx:Passes CX X E)
    (ha:PA X (e :: es) t) (hdb:(x == ("__debug__" : Str)) = false:=by decide) (he:starEach (e :: es) X.env = (false,eval e X.env) :: starEach es X.env:=by rfl) (hpl:(backTo pos (starEach es X.env)).any (·.1) = false:=by rfl) :
    PE X (.Call (.Name x p) (e :: es) [] pos) (tMake C sp dvs E t):=by
  intro pins s σ H Q I h
  refine wpAny_Call_Name_kw (ld_glob I hg hm ?_ hdb)
  refine PySem.W.callWith_K (h₀:=X.base) I.ok.mod.kin M.kp (thn (ha pos pins s σ H _ I h) fun us s1 ⟨vs,H1,I1,r,q⟩=>⟨I1.kIn,?_⟩) he hpl
  exact run_make M F hr hb hd hx I1 r q
end
section
variable {X:Cx} {CX:CXT} {k:Nat} {f C:Addr} {fd:FuncData} {ps ks:List Str} {sp:Sp} {E:XK} {x m:Str} {p pos apos kpos:Pos} {e o:Expr} {es:List Expr} {kws:List Keyword} {te ta:TE} {t tk:TA} {nm:Option Str}
variable {g:List Value → List Value → List Value} {gV:List V → List V → List V}
end
structure FnScope (N P:List Str) (sc:Scope) : Prop where
  kind : sc.kind = .function
  co : sc.isCoroutine = false
  gen : sc.isGenerator = false
  nd : N.Nodup
  pre : N.take P.length = P
  par : ∀ x ∈ P,sc.names.lookup x = some .local ∨ sc.names.lookup x = some .cell
  nofree : ∀ y ∈ sc.names,y.2 ≠ .free
theorem bindL_out {kindOf:Str → Option NameKind} {x:Str} : ∀ {binds:List (Str × Value)} {m:Str → Option Value},(∀ v,(x,v) ∉ binds) → bindL kindOf binds m x = m x
  | [],_,_=>rfl
  | (n,v) :: r,m,h=>by
    unfold bindL
    rw [bindL_out fun w hw=>h w (List.mem_cons_of_mem _ hw)]
    split
    · have : x ≠ n:=by rintro rfl; exact h v List.mem_cons_self
      simp [this]
    · rfl
theorem bindC_out {kindOf:Str → Option NameKind} {x:Str} : ∀ {binds:List (Str × Value)} {m:Str → Option Value},(∀ v,(x,v) ∉ binds) → bindC kindOf binds m x = m x
  | [],_,_=>rfl
  | (n,v) :: r,m,h=>by
    unfold bindC
    rw [bindC_out fun w hw=>h w (List.mem_cons_of_mem _ hw)]
    split
    · rfl
    · have : x ≠ n:=by rintro rfl; exact h v List.mem_cons_self
      simp [this]
theorem bindL_get {kindOf:Str → Option NameKind} {x:Str} {v:Value} : ∀ {P:List Str} {vs:List Value} {i:Nat} {m:Str → Option Value},P.Nodup → P[i]? = some x → vs[i]? = some v → kindOf x = some .local →
    bindL kindOf (P.zip vs) m x = some v
  | [],_,_,_,_,h,_,_=>by simp at h
  | _ :: _,[],_,_,_,_,h,_=>by simp at h
  | p :: P,w :: vs,0,m,nd,h1,h2,hk=>by
    simp at h1 h2; subst h1; subst h2
    show bindL kindOf ((p,w) :: P.zip vs) m p = _
    unfold bindL
    rw [bindL_out fun v hv=>(List.nodup_cons.mp nd).1 (List.of_mem_zip hv).1,if_pos hk]
    simp
  | p :: P,w :: vs,i + 1,m,nd,h1,h2,hk=>by
    show bindL kindOf ((p,w) :: P.zip vs) m x = _
    unfold bindL
    exact bindL_get (i:=i) (List.nodup_cons.mp nd).2 (by simpa using h1) (by simpa using h2) hk
theorem bindC_get {kindOf:Str → Option NameKind} {x:Str} {v:Value} : ∀ {P:List Str} {vs:List Value} {i:Nat} {m:Str → Option Value},P.Nodup → P[i]? = some x → vs[i]? = some v → kindOf x ≠ some .local →
    bindC kindOf (P.zip vs) m x = some v
  | [],_,_,_,_,h,_,_=>by simp at h
  | _ :: _,[],_,_,_,_,h,_=>by simp at h
  | p :: P,w :: vs,0,m,nd,h1,h2,hk=>by
    simp at h1 h2; subst h1; subst h2
    show bindC kindOf ((p,w) :: P.zip vs) m p = _
    unfold bindC
    rw [bindC_out fun v hv=>(List.nodup_cons.mp nd).1 (List.of_mem_zip hv).1,if_neg hk]
    simp
  | p :: P,w :: vs,i + 1,m,nd,h1,h2,hk=>by
    show bindC kindOf ((p,w) :: P.zip vs) m x = _
    unfold bindC
    exact bindC_get (i:=i) (List.nodup_cons.mp nd).2 (by simpa using h1) (by simpa using h2) hk
def start (N:List Str) (vs:List V) : St:=vs.map some ++ List.replicate (N.length - vs.length) none
def cxOf (CX:CXT) (P:Program) (w:World) (K:PySem.W.Frag) (mg:Str → Option Value) (base:Heap) (N:List Str) (qual:Str) (scope:Scope) (f:Addr) (cd:Value) (A:Around) (outer:List Env) (s:Shared) (H:Hp) (E:XK) : Cx where
  prog:=P
  w:=w
  K:=K
  mg:=mg
  base:=base
  A:=A.deeper (envOfC qual scope s.heap.objs.size f cd)
  N:=N
  s₀:=s
  H₀:=H
  env:=envOfC qual scope s.heap.objs.size f cd
  outer:=outer
  stack:=envOfC qual scope s.heap.objs.size f cd :: outer
  ex:=[]
  calm:=true
  fn:=fun _=>true
  pn:=[]
  xe:=fun e s'=>wpAny (model P w) (A.deeper (envOfC qual scope s.heap.objs.size f cd)) (leaving (envOfC qual scope s.heap.objs.size f cd) e) (fun _ s''=>CX outer H s E e s'') (fun e' s''=>CX outer H s E e' s'') s'
theorem cell_has {sc:Scope} {n:Nat} {x:Str} (h:sc.names.lookup x = some .cell) : ∃ c,(cellsFrom n sc.names []).lookup x = some c:=by
  have q:=PySem.W.cellsFrom_some sc.names n [] (.inl h)
  exact Option.isSome_iff_exists.mp q
theorem inv_start {CX:CXT} {P:Program} {w:World} {K:PySem.W.Frag} {mg:Str → Option Value} {base:Heap} {N ps:List Str} {qual:Str} {scope:Scope} {f:Addr} {cd:Value} {A:Around} {outer:List Env} {s s1:Shared} {H:Hp} {E:XK} {us:List Value} {vs:List V}
    (S:FnScope N ps scope) (hd:A.handled = none) (e0:Env0 P w K mg base A outer s H) (hl:vs.length = ps.length) (r:Vals vs us)
    (x:InCallC s s.heap.objs.size (bindL (envOfC qual scope s.heap.objs.size f cd).kindOf (ps.zip us) fun _=>none) (cellsFrom (s.heap.objs.size + 1) scope.names []) (bindC (envOfC qual scope s.heap.objs.size f cd).kindOf (ps.zip us) fun _=>none) s1) :
    Inv (cxOf CX P w K mg base N qual scope f cd A outer s H E) [] (start N vs) H s1:=by
  have hpl : ps.length ≤ N.length:=by have:=congrArg List.length S.pre; rw [List.length_take] at this; omega
  obtain ⟨h1,tk,rfl,hk⟩:=x.done
  have noA : ∀ b : Addr,b ∉ (cxOf CX P w K mg base N qual scope f cd A outer s H E).ex:=fun b z=>absurd (show b ∈ ([] : List Addr) from z) (by simp)
  refine ⟨⟨e0.mod,S.kind,rfl,rfl,Nat.le_refl _,fun y z c h1 h2=>?_,fun y hy=>?_,fun y c _ h=>?_,fun _=>hd,Around.frames_deeper e0.frames,.inr ⟨rfl,rfl⟩,fun b z=>absurd z (noA b),e0.bs,e0.bsz,fun b _ _=>noA b,fun b z=>absurd z (noA b),e0.funs,e0.frf⟩,
    rfl,e0.bare,Un.kept hk,⟨_,x.toInCall.ns,fun i y v h1 h2 h3=>?_⟩,fun y c h=>⟨_,x.cell y c h⟩,e0.hok.fresh (Nat.le_refl _),fun y c h=>?_,fun p hp=>absurd (show p ∈ ([] : List (Addr × Obj)) from hp) (by simp),e0.hok.kept hk,?_⟩
  · exact name_of_addr x.apart (PySem.mem_of_lookup h1) (PySem.mem_of_lookup h2)
  · have hy : scope.names.lookup y = some .cell ∨ scope.names.lookup y = some .free:=hy
    rcases hy with hy | hy
    · exact cell_has hy
    · exact absurd rfl (S.nofree _ (PySem.mem_of_lookup hy))
  · exact Nat.le_of_lt (x.above y c (PySem.mem_of_lookup h))
  · have hi : i < vs.length:=by
      unfold start at h2
      by_cases hi : i < vs.length
      · exact hi
      · rw [List.getElem?_append_right (by simpa using hi)] at h2
        rw [List.getElem?_replicate] at h2
        split at h2 <;> cases h2
    have ha : vs[i]? = some v:=by
      unfold start at h2
      rw [List.getElem?_append_left (by simpa using hi),List.getElem?_map] at h2
      cases e : vs[i]? with
      | none=>rw [e] at h2; cases h2
      | some a=>rw [e] at h2; cases h2; rfl
    obtain ⟨u,hu,rv⟩:=r.get ha
    have hp : ps[i]? = some y:=by
      rw [← S.pre,List.getElem?_take_of_lt (by omega)]; exact h1
    have ndP : ps.Nodup:=by rw [← S.pre]; exact S.nd.sublist (List.take_sublist _ _)
    refine ⟨u,rv,?_⟩
    rcases S.par y (List.mem_of_getElem? hp) with k | k
    · exact .inl ⟨k,bindL_get ndP hp hu k⟩
    · obtain ⟨c,e⟩:=cell_has (n:=s.heap.objs.size + 1) k
      refine .inr ⟨.inl k,c,e,?_⟩
      have q:=x.cell y c e
      rw [bindC_get ndP hp hu (by show scope.names.lookup y ≠ _; rw [k]; decide)] at q
      exact q
  · exact e0.hok.fresh (Nat.le_of_lt (x.above y c (PySem.mem_of_lookup h)))
  · unfold start
    show _ = N.length
    rw [List.length_append,List.length_map,List.length_replicate]
    omega
theorem fn_of {CX:CXT} {P:Program} {w:World} {K:PySem.W.Frag} {mg:Str → Option Value} {base:Heap} {k:Nat} {f:Addr} {name qual:Str} {params:Arguments} {body:List Stmt} {scope:Scope} {dV kV doc pm cdv ct oc:Value} {an od:Option Addr}
    {osl:Array (Option Value)} {N ps:List Str} {sp:Sp} (lk:K.lookup f = some ⟨oc,od,.func (PySem.W.fnOf name qual params body scope dV kV doc pm an cdv ct),osl⟩) (hcd:PySem.W.codeIn K cdv qual = true) (S:FnScope N ps scope)
    (len:∀ vs H Q E,sp vs H Q E → vs.length = ps.length)
    (hbody:∀ (A:Around) (outer:List Env) (s:Shared) (H:Hp) (vs:List V) (Q:VK) (E:XK),Room k (A.deeper (envOfC qual scope s.heap.objs.size f cdv)) → sp vs H Q E →
      ∃ t,PSs (cxOf CX P w K mg base N qual scope f cdv A outer s H E) body t ∧ t { nx:=fun _ H'=>Q .non H',rt:=Q } (start N vs) H) :
    FnOk P w K mg base CX (k + 1) f (PySem.W.fnOf name qual params body scope dV kV doc pm an cdv ct) ps sp:=by
  refine ⟨len,fun A outer s H args us vs Q E hr e0 hb r hsp=>?_⟩
  have hl:=len _ _ _ _ hsp
  have KX : K.In s.heap:=e0.mod.kin.keeps fun b o e=>(e0.bs b o e).1
  have lim : s.heap.NoLimit:=e0.mod.nolimit.keeps fun b o e=>(e0.bs b o e).1
  have hkind : ∀ y ∈ ps.zip us,scope.names.lookup y.1 = some .local ∨ (scope.names.lookup y.1 = some .cell ∧ ((cellsFrom (s.heap.objs.size + 1) scope.names []).lookup y.1).isSome = true):=fun ⟨n,v⟩ hy=>by
    rcases S.par n (List.of_mem_zip hy).1 with q | q
    · exact .inl q
    · exact .inr ⟨q,PySem.W.cellsFrom_some _ _ _ (.inl q)⟩
  refine codeAny_call_function hr.depth (KX _ _ lk) rfl S.co S.gen rfl (PySem.W.codeRec_of KX hcd) (hb _ _ _ _ ?_)
  refine wpAny_newFunctionEnv_cells S.kind hkind fun env he s1 x=>?_
  subst he
  refine ⟨lim.keeps x.toInCall.keep,codeAny_func ?_⟩
  obtain ⟨t,ht,hq⟩:=hbody A outer s H vs Q E (hr.deeper _) hsp
  have I : Inv (cxOf CX P w K mg base N qual scope f cdv A outer s H E) [] (start N vs) H s1:=inv_start S hr.hd e0 hl r x
  refine wpAny_mono (ht [] s1 (start N vs) H _ I hq) (fun fl s' hs=>?_) fun e s' hs=>hs
  have fin : ∀ {σ':St} {H':Hp} {v:V} {u:Value},Inv (cxOf CX P w K mg base N qual scope f cdv A outer s H E) [] σ' H' s' → RelV v u → Q v H' → CE outer P w H s Q u s' :=
    fun {σ' H' v u} J rv q=>⟨v,H',J.os,J.bare,J.base,J.hok,rv,q⟩
  cases fl with
  | ret u =>
    obtain ⟨v,σ',H',J,rv,q⟩:=hs
    exact fin J rv q
  | next =>
    obtain ⟨σ',H',J,q⟩:=hs
    exact fin (v:=V.non) (u:=Value.none) J rfl q
  | brk =>
    obtain ⟨_,_,_,q⟩:=hs
    exact False.elim q
  | cont =>
    obtain ⟨_,_,_,q⟩:=hs
    exact False.elim q
end L2
namespace L2
open PySem PySem.Spec PyProof.Rows
section
variable {X:Cx} {x:Str} {p pos:Pos} {e:Expr} {es:List Expr} {t:TA} {id T:String} {r:List V → Hp → VK → Prop}
def tCB (r:List V → Hp → VK → Prop) (t:TA) : TE:=fun σ H Q=>t σ H fun vs H1=>r vs H1 Q
theorem pe_callB (hc:CallR X (.builtin id) r) (hg:Gl X x) (hm:X.mg x = none) (hv:bootBuiltins x = some (.builtin id)) (ha:PA X (e :: es) t) (hn:x ≠ "__name__" := by decide) (hdb:(x == ("__debug__" : Str)) = false:=by decide)
    (he:starEach (e :: es) X.env = (false,eval e X.env) :: starEach es X.env:=by rfl) (hpl:(backTo pos (starEach es X.env)).any (·.1) = false:=by rfl) : PE X (.Call (.Name x p) (e :: es) [] pos) (tCB r t):=by
  intro pins s σ H Q I h
  refine wpAny_Call_Name_kw (ld_blt I hg hm hv ?_ hn hdb)
  exact PyProof.Rows.callWith_builtin1 (thn (ha pos pins s σ H _ I h) fun us s1 ⟨vs,H1,I1,r1,q1⟩=>hc pins s1 σ H1 vs us Q I1 r1 q1) he hpl
theorem pe_callTy (hc:CallR X (.type T) r) (hg:Gl X x) (hm:X.mg x = none) (hv:bootBuiltins x = some (.type T)) (ha:PA X (e :: es) t) (hn:x ≠ "__name__" := by decide) (hdb:(x == ("__debug__" : Str)) = false:=by decide)
    (he:starEach (e :: es) X.env = (false,eval e X.env) :: starEach es X.env:=by rfl) (hpl:(backTo pos (starEach es X.env)).any (·.1) = false:=by rfl) : PE X (.Call (.Name x p) (e :: es) [] pos) (tCB r t):=by
  intro pins s σ H Q I h
  refine wpAny_Call_Name_kw (ld_blt I hg hm hv ?_ hn hdb)
  exact PyProof.Rows.callWith_type1 (thn (ha pos pins s σ H _ I h) fun us s1 ⟨vs,H1,I1,r1,q1⟩=>hc pins s1 σ H1 vs us Q I1 r1 q1) he hpl
end
end L2
namespace HT
open PySem PyProof.Rows
section
open PySem.SeqAt
open PySem.AutoSeq1 (wpAny_loadPart')
open PySem.MeetsSeq PySem.MeetsSeq2 PySem.MeetsSeq3
end
section
variable {prog:Program} {w:World} {A:Around} {E:Value → Shared → Prop} {s:Shared}
def sIx (n d:Nat) : Option Int → Nat
  | none=>d
  | some v=>if v < 0 then (v + (n:Int)).toNat else min v.toNat n
theorem sIx_none (n d:Nat) : sIx n d none = d:=rfl
theorem sIx_nat (n d k:Nat) : sIx n d (some (k:Int)) = min k n:=by
  show (if (k:Int) < 0 then ((k:Int) + (n:Int)).toNat else min (k:Int).toNat n) = min k n
  rw [if_neg (by omega),Int.toNat_natCast]
end
end HT
namespace L2
open PySem PySem.Spec PyProof.Rows
abbrev TO:=St → Hp → (Option Int → Hp → Prop) → Prop
def PO (X:Cx) (e:Option Expr) (t:TO) : Prop :=
  ∀ (pins:List (Addr × Obj)) (s:Shared) (σ:St) (H:Hp) (Q:Option Int → Hp → Prop),Inv X pins σ H s → t σ H Q →
    wpAny (model X.prog X.w) X.A (evalPart e X.env) (fun u s'=>∃ o H',Inv X pins σ H' s' ∧ IsPart u o ∧ Q o H') X.xe s
def tNoPart : TO:=fun _ H Q=>Q none H
def tPart (t:TE) : TO:=fun σ H Q=>t σ H fun x H1=>∃ i,x = .int i ∧ Q (some i) H1
section
variable {X:Cx} {e:Expr} {te:TE} {lo hi:Option Expr} {tl th:TO} {pos p2:Pos}
theorem po_none : PO X none tNoPart:=by
  intro pins s σ H Q I h
  rw [evalPart_none]
  exact wpAny_pure ⟨none,H,I,.none,h⟩
theorem po_some (h:PE X e te) : PO X (some e) (tPart te):=by
  intro pins s σ H Q I hw
  rw [evalPart_some]
  refine thn (h pins s σ H _ I hw) fun u s1 ⟨x,H1,I1,r1,q1⟩=>?_
  obtain ⟨i,rfl,q⟩:=q1
  obtain ⟨t,rfl⟩:=r1
  exact ⟨some i,H1,I1,.int i t,q⟩
def SlR (X:Cx) (r:V → Option Int → Option Int → Hp → VK → Prop) : Prop :=
  ∀ (pins:List (Addr × Obj)) (s:Shared) (σ:St) (H:Hp) (x:V) (v vl vu:Value) (lo hi:Option Int) (sl:Addr) (Q:VK),Inv X pins σ H s → RelV x v → s.heap.IsSliceOf sl vl vu .none → IsPart vl lo → IsPart vu hi → r x lo hi H Q →
    ∃ T id,typeLookup (.type T) "__getitem__" = pure (some (.builtin id)) ∧ s.TypeIs v T ∧ wpAny (model X.prog X.w) X.A (getItem v (.ref sl)) (EP X pins σ Q) X.xe s
def tSl (r:V → Option Int → Option Int → Hp → VK → Prop) (te:TE) (tl th:TO) : TE:=fun σ H Q=>te σ H fun x H1=>tl σ H1 fun l H2=>th σ H2 fun u H3=>r x l u H3 Q
theorem pe_slice {r:V → Option Int → Option Int → Hp → VK → Prop} (hr:SlR X r) (he:PE X e te) (hl:PO X lo tl) (hu:PO X hi th) : PE X (.Subscript e (.Slice lo hi none p2) pos) (tSl r te tl th):=by
  intro pins s σ H Q I h
  refine Subscript_ (thn (he pins s σ H _ I h) fun v s1 ⟨x,H1,I1,r1,q1⟩=>?_)
  refine wpAny_Slice (thn (hl pins s1 σ H1 _ I1 q1) fun vl s2 ⟨l,H2,I2,pl,q2⟩=>thn (hu pins s2 σ H2 _ I2 q2) fun vu s3 ⟨u,H3,I3,pu,q3⟩=>?_)
  rw [evalPart_none]
  refine wpAny_pure ?_
  have I4 : Inv X pins σ H3 { s3 with heap:=s3.heap.push { cls:=.type "slice", data:=.fields #[vl,vu,.none] } }:=I3.kept (t':=s3.toks) fun b ob q=>Heap.get?_push_of_some _ q
  obtain ⟨T,id,hT,ht,hg⟩:=hr pins { s3 with heap:=s3.heap.push { cls:=.type "slice", data:=.fields #[vl,vu,.none] } } σ H3 x v vl vu l u s3.heap.objs.size Q I4 r1 (Heap.IsSliceOf.new ..) pl pu q3
  show wpAny (model X.prog X.w) X.A (subscriptTail e (.Slice lo hi none p2) v (.ref s3.heap.objs.size)) (EP X pins σ Q) X.xe { s3 with heap:=s3.heap.push { cls:=.type "slice", data:=.fields #[vl,vu,.none] } }
  exact tail_any (ops:=[.ref s3.heap.objs.size,v]) ht hT hg (by with_unfolding_all rfl)
def cutV (xs:List V) (lo hi:Option Int) : List V:=(xs.drop (HT.sIx xs.length 0 lo)).take (HT.sIx xs.length xs.length hi - HT.sIx xs.length 0 lo)
theorem cutV_length (xs:List V) (lo hi:Option Int) : (cutV xs lo hi).length ≤ xs.length:=by
  unfold cutV
  rw [List.length_take,List.length_drop]
  omega
end
end L2
namespace L2
open PySem PySem.Spec PyProof.Rows
def ixN (n:Nat) (i:Int) : Option Nat:=if 0 ≤ i then (if i < n then some i.toNat else none) else if -(n:Int) ≤ i then some (i + n).toNat else none
def atI {α:Type} (xs:List α) (i:Int) : Option α:=(ixN xs.length i).bind fun j=>xs[j]?
theorem ixN_seq {n:Nat} {i:Int} {j:Nat} (h:ixN n i = some j) : seqIndex? i n = some j ∧ j < n ∧ -(n:Int) ≤ i ∧ i < n:=by
  unfold ixN at h
  by_cases h0 : 0 ≤ i
  · rw [if_pos h0] at h
    by_cases h1 : i < n
    · rw [if_pos h1] at h
      have e : i.toNat = j:=Option.some.inj h
      exact ⟨by rw [seqIndex_of h0 h1,e],by omega,by omega,h1⟩
    · rw [if_neg h1] at h; cases h
  · rw [if_neg h0] at h
    by_cases h1 : -(n:Int) ≤ i
    · rw [if_pos h1] at h
      have e : (i + n).toNat = j:=Option.some.inj h
      exact ⟨by rw [seqIndex_neg (by omega) h1,e],by omega,h1,by omega⟩
    · rw [if_neg h1] at h; cases h
theorem atI_get {α:Type} {xs:List α} {i:Int} {v:α} (h:atI xs i = some v) : ∃ j,seqIndex? i xs.length = some j ∧ xs[j]? = some v ∧ j < xs.length ∧ -(xs.length : Int) ≤ i ∧ i < xs.length:=by
  unfold atI at h
  cases e : ixN xs.length i with
  | none=>rw [e] at h; cases h
  | some j =>
    rw [e] at h
    obtain ⟨h1,h2,h3,h4⟩:=ixN_seq e
    exact ⟨j,h1,h,h2,h3,h4⟩
theorem atI_nat {α:Type} {xs:List α} {j:Nat} {v:α} (h:xs[j]? = some v) : atI xs (j:Int) = some v:=by
  have hj : j < xs.length:=(List.getElem?_eq_some_iff.mp h).1
  have e : ixN xs.length (j:Int) = some j:=by
    unfold ixN
    rw [if_pos (by omega),if_pos (by omega)]; simp
  unfold atI; rw [e]; exact h
def PlainIx (b:Expr) : Prop:=∀ o i,subscripted b false o i = operate [o,i] (getItem o i)
def IxR (X:Cx) (r:R2) : Prop :=
  ∀ (value slice:Expr) (pins:List (Addr × Obj)) (s:Shared) (σ:St) (H:Hp) (x y:V) (v u:Value) (Q:VK),Inv X pins σ H s → RelV x v → RelV y u → r x y H Q →
    subscripted slice false v u = operate [v,u] (getItem v u) → wpAny (model X.prog X.w) X.A (subscriptTail value slice v u) (EP X pins σ Q) X.xe s
def MtR (X:Cx) (id:String) (r:V → List V → Hp → VK → Prop) : Prop :=
  ∀ (pins:List (Addr × Obj)) (s:Shared) (σ:St) (H:Hp) (x:V) (xs:List V) (v:Value) (us:List Value) (Q:VK),Inv X pins σ H s → RelV x v → Vals xs us → r x xs H Q →
    wpAny (model X.prog X.w) X.A (call (.builtin id) (v :: us)) (EP X pins σ Q) X.xe s
section
variable {X:Cx} {a b:Expr} {ta tb:TE} {pos:Pos}
theorem pe_ix {r:R2} (hr:IxR X r) (ha:PE X a ta) (hb:PE X b tb) (hs:PlainIx b) : PE X (.Subscript a b pos) (tOp r ta tb):=by
  intro pins s σ H Q I h
  exact Subscript_ (binT ha hb I h fun v u s2 x y H2 I2 rx ry q=>hr a b pins s2 σ H2 x y v u Q I2 rx ry q (hs _ _))
def rIxL (K:PySem.W.Frag) : R2:=fun x y H Q=>∃ p xs i v,x = .ref p ∧ y = .int i ∧ SqL K H p xs ∧ atI xs i = some v ∧ Q v H
def rIxT (K:PySem.W.Frag) : R2:=fun x y H Q=>∃ p xs i v,x = .ref p ∧ y = .int i ∧ SqT K H p xs ∧ atI xs i = some v ∧ Q v H
def rIxS : R2:=fun x y H Q=>∃ z i c,x = .str z ∧ y = .int i ∧ z.length ≤ sizeLine ∧ atI z.cps.toList i = some c ∧ Q (.str ⟨#[c]⟩) H
theorem ix_list : IxR X (rIxL X.K):=by
  intro value slice pins s σ H x y v u Q I rx ry h hs
  obtain ⟨p,xs,i,z,rfl,rfl,hq,he,q⟩:=h
  cases rx
  obtain ⟨t,rfl⟩:=ry
  obtain ⟨its,r,pl,hz⟩:=I.list hq
  obtain ⟨j,h1,h2,h3,h4,h5⟩:=atI_get he
  obtain ⟨w,ew,rw'⟩:=r.get h2
  have hl:=r.length
  have hn:=line63
  have fin : EP X pins σ Q w s:=⟨z,H,I,rw',q⟩
  by_cases h0 : 0 ≤ i
  · have hj : i.toNat = j:=by
      rw [seqIndex_of h0 h5] at h1
      exact Option.some.inj h1
    exact item_listR pl.isList h0 (by omega) (by rw [hj]; simpa using ew) fin hs
  · have hj : (i + (its.toArray.size : Int)).toNat = j:=by
      rw [seqIndex_neg (by omega) h4] at h1
      rw [List.size_toArray,← hl]
      exact Option.some.inj h1
    exact subscriptTail_builtinR (x:=w) pl.isList.typeIs slot_list_getitem.lookup
      (wpAny_getItem_list_neg (Q:=fun r s'=>r = w ∧ EP X pins σ Q r s') pl.isList (by omega) (by rw [List.size_toArray] <;> omega) (by omega) (by rw [hj]; simpa using ew) ⟨rfl,fin⟩) hs
theorem ix_tup : IxR X (rIxT X.K):=by
  intro value slice pins s σ H x y v u Q I rx ry h hs
  obtain ⟨p,xs,i,z,rfl,rfl,hq,he,q⟩:=h
  cases rx
  obtain ⟨t,rfl⟩:=ry
  obtain ⟨its,r,pl,hz⟩:=I.tuple hq
  obtain ⟨j,h1,h2,h3,h4,h5⟩:=atI_get he
  obtain ⟨w,ew,rw'⟩:=r.get h2
  have hl:=r.length
  have hn:=line63
  have fin : EP X pins σ Q w s:=⟨z,H,I,rw',q⟩
  exact subscriptTail_builtinR (x:=w) pl.typeIs slot_tuple_getitem.lookup
    (getItem_tuple (j:=j) (Q:=fun r s'=>r = w ∧ EP X pins σ Q r s') pl (by omega) (by omega) (by rw [List.size_toArray,← hl]; exact h1) (by simpa using ew) ⟨rfl,fin⟩) hs
theorem ix_str : IxR X rIxS:=by
  intro value slice pins s σ H x y v u Q I rx ry h hs
  obtain ⟨z,i,c,rfl,rfl,hz,he,q⟩:=h
  obtain ⟨t,rfl⟩:=rx
  obtain ⟨t',rfl⟩:=ry
  obtain ⟨j,h1,h2,h3,h4,h5⟩:=atI_get he
  have hl : z.cps.toList.length = z.length:=by simp [Str.length]
  rw [hl] at h1 h4 h5
  have hn:=line63
  exact tail_any (typeIs_str s z t) slot_str_getitem.lookup (getItem_str (c:=c) (by
    have e1 : decide (i < -(2 ^ 63 : Int)) = false:=decide_eq_false (by omega)
    have e2 : decide (i ≥ 2 ^ 63) = false:=decide_eq_false (by omega)
    rw [e1,e2,Bool.or_false]) (by rw [h1]; simpa using h2) ⟨.str ⟨#[c]⟩,H,I.tok _,⟨_,rfl⟩,q⟩) hs
theorem slice_bounds (lo hi:Option Int) (n:Nat) : (sliceBounds lo hi none n).1 = ((HT.sIx n 0 lo : Nat) : Int) ∧ (sliceBounds lo hi none n).2.1 = ((HT.sIx n n hi : Nat) : Int) ∧ (sliceBounds lo hi none n).2.2 = 1:=by
  refine ⟨?_,?_,rfl⟩
  · cases lo with
    | none=>simp [sliceBounds,HT.sIx]
    | some i =>
      simp only [sliceBounds,HT.sIx,Option.getD_none,show (1:Int) > 0 by decide,if_true]
      by_cases h : i < 0
      · simp only [h,if_true] <;> omega
      · simp only [h,if_false] <;> omega
  · cases hi with
    | none=>simp [sliceBounds,HT.sIx]
    | some i =>
      simp only [sliceBounds,HT.sIx,Option.getD_none,show (1:Int) > 0 by decide,if_true]
      by_cases h : i < 0
      · simp only [h,if_true] <;> omega
      · simp only [h,if_false] <;> omega
theorem slicePick_cut (its:List Value) (lo hi:Option Int) : slicePick its.toArray lo hi none = ((its.drop (HT.sIx its.length 0 lo)).take (HT.sIx its.length its.length hi - HT.sIx its.length 0 lo)).toArray:=by
  obtain ⟨h1,h2,h3⟩:=slice_bounds lo hi its.toArray.size
  unfold slicePick
  rw [h1,h2,h3]
  simp only [sliceRange_one,pick_run,List.size_toArray] <;> rfl
def rSlL (K:PySem.W.Frag) : V → Option Int → Option Int → Hp → VK → Prop:=fun x lo hi H Q=>∃ a xs,x = .ref a ∧ SqL K H a xs ∧ ∀ p,H p = none → Q (.ref p) (upd H p (.lst (cutV xs lo hi)))
theorem sl_list : SlR X (rSlL X.K):=by
  intro pins s σ H x v vl vu lo hi sl Q I rx hs pl pu h
  obtain ⟨a,xs,rfl,hx,q⟩:=h
  cases rx
  obtain ⟨its,r,ht,hz⟩:=I.list hx
  have hlen:=r.length
  refine ⟨"list", _,slot_list_getitem.lookup,ht.isList.typeIs,?_⟩
  refine wpAny_getItem_list_slice ht.isList hs pl pu .none (by simp) ?_ (by rw [List.size_toArray] <;> omega)
  rw [slicePick_cut,← hlen]
  refine ⟨.ref s.heap.objs.size,_,I.laid (t':=s.toks) (o:=.lst (cutV xs lo hi)) (fun b ob q=>Heap.get?_push_of_some _ q) (Nat.le_refl _) ?_,rfl,q _ (I.hok.fresh (Nat.le_refl _))⟩
  exact ⟨Nat.le_trans (cutV_length xs lo hi) hz,_,0,(r.drop (HT.sIx xs.length 0 lo)).take (HT.sIx xs.length xs.length hi - HT.sIx xs.length 0 lo),Heap.get?_push_size _ rfl⟩
def flatV : V → Bool
  | .non=>true
  | .bl _=>true
  | .int _=>true
  | .str _=>true
  | _=>false
def eqV : V → V → Bool
  | .non,.non=>true
  | .bl a,.bl b=>a == b
  | .bl a,.int b=>(if a then 1 else 0) == b
  | .int a,.bl b=>a == (if b then 1 else 0)
  | .int a,.int b=>a == b
  | .str a,.str b=>a == b
  | _,_=>false
theorem eqAt_V {A:Around} {s:Shared} {y x:V} {u v:Value} (ry:RelV y u) (rx:RelV x v) (fy:flatV y = true) (fx:flatV x = true) : SeqAt.EqAt A s u v (eqV y x):=by
  cases y with
  | non =>
    cases ry
    cases x with
    | non=>cases rx; exact SeqAt.EqAt.same _
    | bl b=>cases rx; exact SeqAt.EqAt.none_bool b
    | int b=>obtain ⟨t,rfl⟩:=rx; exact SeqAt.EqAt.none_int b t
    | str b=>obtain ⟨t,rfl⟩:=rx; exact SeqAt.EqAt.none_str b t
    | _=>exact absurd (show false = true from fx) Bool.false_ne_true
  | bl a =>
    cases ry
    cases x with
    | non=>cases rx; exact SeqAt.EqAt.bool_none a
    | bl b=>cases rx; exact SeqAt.EqAt.bool_bool a b
    | int b=>obtain ⟨t,rfl⟩:=rx; exact SeqAt.EqAt.bool_int a b t
    | str b=>obtain ⟨t,rfl⟩:=rx; exact SeqAt.EqAt.bool_str a b t
    | _=>exact absurd (show false = true from fx) Bool.false_ne_true
  | int a =>
    obtain ⟨t',rfl⟩:=ry
    cases x with
    | non=>cases rx; exact SeqAt.EqAt.int_none a t'
    | bl b=>cases rx; exact SeqAt.EqAt.int_bool a t' b
    | int b=>obtain ⟨t,rfl⟩:=rx; exact SeqAt.EqAt.int_int a t' b t
    | str b=>obtain ⟨t,rfl⟩:=rx; exact SeqAt.EqAt.int_str a t' b t
    | _=>exact absurd (show false = true from fx) Bool.false_ne_true
  | str a =>
    obtain ⟨t',rfl⟩:=ry
    cases x with
    | non=>cases rx; exact SeqAt.EqAt.str_none a t'
    | bl b=>cases rx; exact SeqAt.EqAt.str_bool a t' b
    | int b=>obtain ⟨t,rfl⟩:=rx; exact SeqAt.EqAt.str_int a t' b t
    | str b=>obtain ⟨t,rfl⟩:=rx; exact SeqAt.EqAt.str_str a t' b t
    | _=>exact absurd (show false = true from fx) Bool.false_ne_true
  | _=>exact absurd (show false = true from fy) Bool.false_ne_true
def eqU (x:V) (u:Value) : Bool:=match u with
  | .none=>eqV .non x
  | .bool b=>eqV (.bl b) x
  | .int i _=>eqV (.int i) x
  | .str z _=>eqV (.str z) x
  | _=>false
theorem eqU_of {x y:V} {u:Value} (r:RelV y u) (f:flatV y = true) : eqU x u = eqV y x:=by
  cases y with
  | non=>cases r; rfl
  | bl b=>cases r; rfl
  | int i=>obtain ⟨t,rfl⟩:=r; rfl
  | str z=>obtain ⟨t,rfl⟩:=r; rfl
  | _=>exact absurd (show false = true from f) Bool.false_ne_true
theorem any_eqU {x:V} : ∀ {xs:List V} {us:List Value},Vals xs us → xs.all flatV = true → us.any (eqU x) = xs.any fun y=>eqV y x
  | _,_,.nil,_=>rfl
  | y :: xs,u :: us,.cons r t,f=>by
    rw [List.all_cons,Bool.and_eq_true] at f
    rw [List.any_cons,List.any_cons,eqU_of r f.1,any_eqU t f.2]
theorem mem_eqAt {A:Around} {s:Shared} {x:V} {v:Value} (rx:RelV x v) (fx:flatV x = true) : ∀ {xs:List V} {us:List Value},Vals xs us → xs.all flatV = true → ∀ u ∈ us,SeqAt.EqAt A s u v (eqU x u)
  | _,_,.nil,_=>fun u hu=>by cases hu
  | y :: xs,u :: us,.cons r t,f=>fun u' hu=>by
    rw [List.all_cons,Bool.and_eq_true] at f
    rcases List.mem_cons.mp hu with rfl | hu
    · rw [eqU_of r f.1]; exact eqAt_V r rx f.1 fx
    · exact mem_eqAt rx fx t f.2 u' hu
def inV (x:V) (xs:List V) : Bool:=xs.any fun y=>eqV y x
def rIn (K:PySem.W.Frag) (neg:Bool) : R2:=fun x y H Q=>∃ p xs,y = .ref p ∧ (SqL K H p xs ∨ SqT K H p xs) ∧ flatV x = true ∧ xs.all flatV = true ∧ Q (.bl (if neg then !inV x xs else inV x xs)) H
theorem op_in_seq : OpR X (compareOp .In) (rIn X.K false):=by
  intro pins s σ H x y v u Q I rx ry h
  obtain ⟨p,xs,rfl,hq,fx,fs,q⟩:=h
  cases ry
  rcases hq with hq | hq
  · obtain ⟨its,r,pl,hz⟩:=I.list hq
    refine SeqAt.in_listAt (eqU x) pl.isList (fun w hw=>mem_eqAt rx fx r fs w (by simpa using hw)) ⟨.bl _,H,I,rfl,?_⟩
    rw [show its.toArray.any (eqU x) = its.any (eqU x) by simp,any_eqU r fs]
    exact q
  · obtain ⟨its,r,pl,hz⟩:=I.tuple hq
    refine SeqAt.in_tupleAt (eqU x) pl (fun w hw=>mem_eqAt rx fx r fs w (by simpa using hw)) ⟨.bl _,H,I,rfl,?_⟩
    rw [show its.toArray.any (eqU x) = its.any (eqU x) by simp,any_eqU r fs]
    exact q
theorem call_len_seq : CallR X (.builtin "len") (fun xs H Q=>∃ p ys,xs = [.ref p] ∧ (SqL X.K H p ys ∨ SqT X.K H p ys) ∧ Q (.int ys.length) H):=by
  intro pins s σ H xs us Q I r h
  obtain ⟨p,ys,rfl,hq,q⟩:=h
  obtain ⟨u,rfl,rx⟩:=vals1 r
  cases rx
  have hn:=line63
  rcases hq with hq | hq
  · obtain ⟨its,r',pl,hz⟩:=I.list hq
    have hlen:=r'.length
    exact Calls.call_len_list pl.isList (by simp only [List.size_toArray] <;> omega) ⟨.int ys.length,H,I.tok _,⟨s.toks + 1,by rw [List.size_toArray,hlen]⟩,q⟩
  · obtain ⟨its,r',pl,hz⟩:=I.tuple hq
    have hlen:=r'.length
    exact len_tuple pl (by simp only [List.size_toArray] <;> omega) ⟨.int ys.length,H,I.tok _,⟨s.toks + 1,by rw [List.size_toArray,hlen]⟩,q⟩
theorem call_len_str : CallR X (.builtin "len") (fun xs H Q=>∃ z,xs = [.str z] ∧ z.length ≤ sizeLine ∧ Q (.int z.length) H):=by
  intro pins s σ H xs us Q I r h
  obtain ⟨z,rfl,hz,q⟩:=h
  obtain ⟨u,rfl,t,rfl⟩:=vals1 r
  have hn:=line63
  exact len_str (by omega) ⟨.int z.length,H,I.tok _,⟨_,rfl⟩,q⟩
theorem call_tuple_of : CallR X (.type "tuple") (fun xs H Q=>∃ p ys,xs = [.ref p] ∧ ((SqL X.K H p ys ∧ ∀ l,H l = none → Q (.ref l) (upd H l (.tup ys))) ∨ (SqT X.K H p ys ∧ Q (.ref p) H))):=by
  intro pins s σ H xs us Q I r h
  obtain ⟨p,ys,rfl,h⟩:=h
  obtain ⟨u,rfl,rx⟩:=vals1 r
  cases rx
  rcases h with ⟨hq,q⟩ | ⟨hq,q⟩
  · obtain ⟨its,r',pl,hz⟩:=I.list hq
    have hlen:=r'.length
    refine call_tuple_list pl.isList (fun h' kp=>?_) (by simp only [List.size_toArray] <;> omega)
    have I1 : Inv X pins σ H { s with heap:=h' }:=I.kept (t':=s.toks) kp
    have I2 : Inv X pins σ (upd H h'.objs.size (.tup ys)) { s with heap:=h'.push { cls:=.type "tuple", data:=.seq its.toArray } } :=
      I1.laid (t':=s.toks) (fun b o e=>Heap.get?_push_of_some _ e) (Nat.le_refl _) (show ObjOk X.prog X.w _ _ _ (.tup ys) from ⟨hz,its,r',IsTup.new _ _⟩)
    exact ⟨.ref h'.objs.size,_,I2,rfl,q _ (I1.hok.fresh (Nat.le_refl _))⟩
  · obtain ⟨its,r',pl,hz⟩:=I.tuple hq
    exact call_tuple_same pl ⟨.ref p,H,I,rfl,q⟩
def tyV (K:PySem.W.Frag) (T:String) (x:V) (H:Hp) : Prop:=match x with
  | .str _=>T = "str"
  | .int _=>T = "int"
  | .ref p=>(T = "list" ∧ ∃ xs,SqL K H p xs) ∨ (T = "tuple" ∧ ∃ o,K.lookup p = some o ∧ o.cls = .type "tuple" ∧ o.dict = none) ∨
      (T = "dict" ∧ ((∃ kvs,H p = some (.dK kvs)) ∨ ∃ kvs,H p = some (.dT kvs))) ∨ (T = "set" ∧ ∃ S n,H p = some (.set S n))
  | _=>False
theorem tyV_is {pins:List (Addr × Obj)} {σ:St} {H:Hp} {s:Shared} {T:String} {x:V} {v:Value} (I:Inv X pins σ H s) (r:RelV x v) (ty:tyV X.K T x H) :
    s.TypeIs v T ∧ ∀ a,v = .ref a → ∃ ob,s.heap.get? a = some ob ∧ ob.dict = none:=by
  cases x with
  | str z =>
    obtain ⟨t,rfl⟩:=r
    cases (show T = "str" from ty)
    exact ⟨typeIs_str s z t,fun _ e=>nomatch e⟩
  | int i =>
    obtain ⟨t,rfl⟩:=r
    cases (show T = "int" from ty)
    exact ⟨typeIs_int s i t,fun _ e=>nomatch e⟩
  | ref p =>
    cases r
    rcases ty with ⟨rfl,xs,hq⟩ | ⟨rfl,o,hk,hc,hd⟩ | ⟨rfl,hk⟩ | ⟨rfl,S,n,hk⟩
    · obtain ⟨its,_,pl,_⟩:=I.list hq
      refine ⟨pl.isList.typeIs,fun a e=>?_⟩
      cases e
      obtain ⟨o,n,e,c,hd,_⟩:=pl
      exact ⟨o,e,hd⟩
    · refine ⟨⟨o,I.kIn p o hk,hc⟩,fun a e=>?_⟩
      cases e
      exact ⟨o,I.kIn _ o hk,hd⟩
    · have z : ∃ o,s.heap.get? p = some o ∧ o.ExactDict:=by
        rcases hk with ⟨kvs,hk⟩ | ⟨kvs,hk⟩
        · obtain ⟨_,_,_,_,o,_,_,e,ex,_⟩:=I.hok p _ hk
          exact ⟨o,e,ex⟩
        · obtain ⟨_,_,_,_,o,_,_,e,ex,_⟩:=I.hok p _ hk
          exact ⟨o,e,ex⟩
      obtain ⟨o,e,ex⟩:=z
      refine ⟨⟨o,e,ex.1⟩,fun a e2=>?_⟩
      cases e2
      exact ⟨o,e,ex.2.1⟩
    · obtain ⟨o,_,_,_,e,ex,_⟩:=I.hok p _ hk
      refine ⟨⟨o,e,ex.1⟩,fun a e2=>?_⟩
      cases e2
      exact ⟨o,e,ex.2.1⟩
  | _=>exact False.elim ty
def tBM0 (K:PySem.W.Frag) (T:String) (r:V → List V → Hp → VK → Prop) (to:TE) : TE:=fun σ H Q=>to σ H fun x H1=>tyV K T x H1 ∧ r x [] H1 Q
def tBM (K:PySem.W.Frag) (T:String) (r:V → List V → Hp → VK → Prop) (to:TE) (t:TA) : TE:=fun σ H Q=>to σ H fun x H1=>tyV K T x H1 ∧ t σ H1 fun xs H2=>r x xs H2 Q
variable {o e:Expr} {es:List Expr} {to:TE} {t:TA} {name:Str} {apos cpos:Pos} {T id:String} {r:V → List V → Hp → VK → Prop}
theorem pe_bm0 (pa:PlainAttrs T) (slot:Slot T name id) (hty:typeOf (.builtin id) = pure (.type "method_descriptor")) (hm:MtR X id r) (ho:PE X o to)
    (hbase:attributeBase o name X.env (eval o X.env) = eval o X.env:=by rfl) (hline:(apos.endLine == cpos.line) = true:=by rfl) : PE X (.Call (.Attribute o name apos) [] [] cpos) (tBM0 X.K T r to):=by
  intro pins s σ H Q I h
  refine wpAny_Call_method0_late hbase hline (thn (ho pins s σ H _ I h) fun v s1 ⟨x,H1,I1,r1,ty,q1⟩=>?_)
  obtain ⟨h1,h2⟩:=tyV_is I1 r1 ty
  exact ⟨T,id,pa,slot,hty,h1,h2,Calls.callWith_builtin rfl (PySem.evalArgs_none (hm pins s1 σ H1 x [] v [] Q I1 r1 .nil q1))⟩
theorem pe_bm (pa:PlainAttrs T) (slot:Slot T name id) (hty:typeOf (.builtin id) = pure (.type "method_descriptor")) (hm:MtR X id r) (ho:PE X o to) (ha:PA X (e :: es) t)
    (hbase:attributeBase o name X.env (eval o X.env) = eval o X.env:=by rfl)
    (hfew:((backTo cpos (starEach (e :: es) X.env)).all (fun x=>!x.1) && (backToKw cpos (keywordEach [] X.env)).all (fun x=>x.1.isSome)
      && decide ((e :: es).length + ([] : List Keyword).length + (if ([] : List Keyword).isEmpty then 0 else 1) < 30)) = true:=by rfl)
    (hline:(apos.endLine == cpos.line) = true:=by rfl) (hs:starEach (e :: es) X.env = (false,eval e X.env) :: starEach es X.env:=by rfl) (hplain:(backTo cpos (starEach es X.env)).any (·.1) = false:=by rfl) :
    PE X (.Call (.Attribute o name apos) (e :: es) [] cpos) (tBM X.K T r to t):=by
  intro pins s σ H Q I h
  refine wpAny_Call_method_late hbase hfew hline rfl (thn (ho pins s σ H _ I h) fun v s1 ⟨x,H1,I1,r1,ty,q1⟩=>?_)
  obtain ⟨h1,h2⟩:=tyV_is I1 r1 ty
  refine ⟨T,id,pa,slot,hty,h1,h2,?_⟩
  have hA:=ha cpos pins s1 σ H1 _ I1 q1
  rw [hs] at hA ⊢
  refine Calls.callWith_builtin (by show (false || (backTo cpos (starEach es X.env)).any (·.1)) = false; rw [hplain] <;> rfl) (Calls.evalArgs_plain ?_)
  exact thn hA fun us s2 ⟨vs,H2,I2,r2,q2⟩=>hm pins s2 σ H2 x vs v us Q I2 r1 r2 q2
end
end L2
namespace L2
open PySem PySem.Spec PyProof.Rows
def MtM (X:Cx) (id:String) (r:V → List V → Hp → VK → Prop) : Prop :=
  ∀ (pins:List (Addr × Obj)) (s:Shared) (σ:St) (H:Hp) (x:V) (xs:List V) (v:Value) (us:List Value) (Q:VK),Inv X pins σ H s → RelV x v → Vals xs us → r x xs H Q →
    wpAny (model X.prog X.w) X.A (call (.builtin id) (v :: us)) (EP X pins σ Q) X.xe s
theorem Vals.one : ∀ {x:V} {us:List Value},Vals [x] us → ∃ u,us = [u] ∧ RelV x u
  | _,_,.cons r .nil=>⟨_,rfl,r⟩
theorem Vals.zero : ∀ {us:List Value},Vals [] us → us = []
  | _,.nil=>rfl
theorem Vals.dropLast {xs:List V} {us:List Value} (h:Vals xs us) : Vals xs.dropLast us.dropLast:=by
  induction h with
  | nil=>exact .nil
  | cons r t ih =>
    cases t with
    | nil=>exact .nil
    | cons q t'=>exact .cons r ih
theorem erase_last {α:Type} (l:List α) : l.eraseIdx (l.length - 1) = l.dropLast:=by
  induction l with
  | nil=>rfl
  | cons a r ih =>
    cases r with
    | nil=>rfl
    | cons b r =>
      have e : (a :: b :: r).length - 1 = ((b :: r).length - 1) + 1:=by
        have h1 : (a :: b :: r).length = r.length + 2:=rfl
        have h2 : (b :: r).length = r.length + 1:=rfl
        omega
      rw [e,List.eraseIdx_cons_succ,ih]
      all_goals rfl
section
variable {X:Cx} {pins:List (Addr × Obj)} {σ:St} {H:Hp} {s:Shared} {l b:Addr} {xs ys zs:List V}
theorem Inv.lset {its its':List Value} {n:Nat} {f:Array Value → Array Value} {t':Nat} (I:Inv X pins σ H s) (hH:H l = some (.lst xs))
    (e:s.heap.get? l = some { cls:=.type "list", data:=.seq its.toArray n }) (hf:f its.toArray = its'.toArray) (hv:Vals ys its') (hz:ys.length ≤ sizeLine) :
    Inv X pins σ (upd H l (.lst ys)) { s with heap:=s.heap.update l (Obj.mapSeq f),toks:=t' }:=by
  have q:=PySem.IsL.update e f
  rw [hf] at q
  refine I.write (x:=l) (e:=l) (by rw [hH]; exact trivial) (.inl rfl) (fun b' u hb hu=>(Heap.get?_update_other s.heap (Obj.mapSeq f) (Ne.symm hb)).trans hu) ⟨_,q⟩ ?_
  exact ⟨hz,its',_,hv,q⟩
theorem Inv.lnew {its:List Value} {t':Nat} (I:Inv X pins σ H s) (hv:Vals ys its) (hz:ys.length ≤ sizeLine) :
    Inv X pins σ (upd H s.heap.objs.size (.lst ys)) { s with heap:=s.heap.push { cls:=.type "list", data:=.seq its.toArray },toks:=t' } :=
  I.laid (fun _ _ q=>Heap.get?_push_of_some _ q) (Nat.le_refl _) ⟨hz,its,0,hv,Heap.get?_push_size _ rfl⟩
theorem Inv.fresh (I:Inv X pins σ H s) : H s.heap.objs.size = none:=I.hok.fresh (Nat.le_refl _)
theorem Inv.lstM (I:Inv X pins σ H s) (hH:H l = some (.lst xs)) : xs.length ≤ sizeLine ∧ ∃ (its:List Value) (n:Nat),Vals xs its ∧ xs.length = its.length ∧ s.heap.get? l = some { cls:=.type "list", data:=.seq its.toArray n }:=by
  obtain ⟨z,its,n,r,e⟩:=I.hok l _ hH
  exact ⟨z,its,n,r,r.length,e⟩
theorem notLongL {n:Nat} (h:n ≤ sizeLine) : Builtin.List.listTooLong n = false:=by
  unfold Builtin.List.listTooLong
  exact decide_eq_false (by omega)
end
section
variable {X:Cx}
def rAppend : V → List V → Hp → VK → Prop:=fun x vs H Q=>∃ l xs y,x = .ref l ∧ vs = [y] ∧ H l = some (.lst xs) ∧ xs.length < sizeLine ∧ Q .non (upd H l (.lst (xs ++ [y])))
theorem mt_append : MtM X "list.append" rAppend:=by
  intro pins s σ H x vs v us Q I rx rv h
  obtain ⟨l,xs,y,rfl,rfl,hH,hz,q⟩:=h
  cases rx
  obtain ⟨u,rfl,ru⟩:=rv.one
  obtain ⟨z,its,n,r,hl,e⟩:=I.lstM hH
  refine call_meets F.slot_list_append ⟨_,e,rfl⟩ F.entry_list_append (F.args_list_append_2 _ _) (PySem.list_append l its.toArray n u (by rw [List.size_toArray]; omega)) ⟨e,?_⟩
  refine ⟨.non,_,I.lset (its':=its ++ [u]) hH e (by simp) (r.append (.cons ru .nil)) ?_,rfl,q⟩
  rw [List.length_append,List.length_singleton]
  omega
def rExtend : V → List V → Hp → VK → Prop:=fun x vs H Q=>∃ l b xs zs,x = .ref l ∧ vs = [.ref b] ∧ H l = some (.lst xs) ∧ H b = some (.lst zs) ∧ xs.length + zs.length ≤ sizeLine ∧ Q .non (upd H l (.lst (xs ++ zs)))
theorem mt_extend : MtM X "list.extend" rExtend:=by
  intro pins s σ H x vs v us Q I rx rv h
  obtain ⟨l,b,xs,zs,rfl,rfl,hH,hB,hz,q⟩:=h
  cases rx
  obtain ⟨u,rfl,ru⟩:=rv.one
  cases ru
  obtain ⟨z,its,n,r,hl,e⟩:=I.lstM hH
  obtain ⟨z2,its2,n2,r2,hl2,e2⟩:=I.lstM hB
  have hsz : its.toArray.size + its2.toArray.size ≤ sizeLine:=by rw [List.size_toArray,List.size_toArray]; omega
  have hlong : ¬ (!its.toArray.isEmpty && Builtin.List.listTooLong (its.toArray.size + its2.toArray.size)) = true:=by
    rw [notLongL hsz,Bool.and_false]
    exact Bool.false_ne_true
  refine call_meets F.slot_list_extend ⟨_,e,rfl⟩ F.entry_list_extend (F.args_list_extend_2 _ _)
    (AutoSeq1.list_extend_list_list_0 l its.toArray n b its2.toArray n2 hlong (by rw [List.size_toArray]; omega) (by omega)) ⟨e,e2,?_⟩
  refine ⟨.non,_,I.lset (its':=its ++ its2) hH e (by simp) (r.append r2) ?_,rfl,q⟩
  rw [List.length_append]
  omega
def rPop : V → List V → Hp → VK → Prop:=fun x vs H Q=>∃ l xs y,x = .ref l ∧ vs = [] ∧ H l = some (.lst xs) ∧ xs[xs.length - 1]? = some y ∧ Q y (upd H l (.lst xs.dropLast))
theorem mt_pop : MtM X "list.pop" rPop:=by
  intro pins s σ H x vs v us Q I rx rv h
  obtain ⟨l,xs,y,rfl,rfl,hH,hy,q⟩:=h
  cases rx
  have hus:=rv.zero
  subst hus
  obtain ⟨z,its,n,r,hl,e⟩:=I.lstM hH
  obtain ⟨u,hu,ru⟩:=r.get hy
  have hy' : its.toArray[its.toArray.size - 1]? = some u:=by
    show its.toArray[its.length - 1]? = some u
    rw [← Array.getElem?_toList,← hl]
    exact hu
  refine call_meets F.slot_list_pop ⟨_,e,rfl⟩ F.entry_list_pop (F.args_list_pop_1 _) (MeetsSeq.list_pop_last l its.toArray n u hy' (by rw [List.size_toArray]; omega)) ⟨e,?_⟩
  refine ⟨y,_,I.lset (its':=its.dropLast) hH e ?_ r.dropLast ?_,ru,q⟩
  · show its.toArray.eraseIdxIfInBounds (its.toArray.size - 1) = its.dropLast.toArray
    rw [List.size_toArray,List.eraseIdxIfInBounds_toArray,erase_last]
  · rw [List.length_dropLast]
    omega
def rCat : R2:=fun x y H Q=>∃ l b xs zs,x = .ref l ∧ y = .ref b ∧ H l = some (.lst xs) ∧ H b = some (.lst zs) ∧ xs.length + zs.length ≤ sizeLine ∧ ∀ p,H p = none → Q (.ref p) (upd H p (.lst (xs ++ zs)))
theorem op_cat : OpR X (binaryOp .Add) rCat:=by
  intro pins s σ H x y v u Q I rx ry h
  obtain ⟨l,b,xs,zs,rfl,rfl,hH,hB,hz,q⟩:=h
  cases rx
  cases ry
  obtain ⟨z,its,n,r,hl,e⟩:=I.lstM hH
  obtain ⟨z2,its2,n2,r2,hl2,e2⟩:=I.lstM hB
  refine PySem.P.add_list e e2 ?_ (by rw [List.size_toArray,List.size_toArray]; omega)
  have ea : its.toArray ++ its2.toArray = (its ++ its2).toArray:=by simp
  rw [ea]
  exact ⟨.ref _,_,I.lnew (t':=s.toks) (r.append r2) (by rw [List.length_append]; omega),rfl,q _ I.fresh⟩
end
section
variable {prog:Program} {w:World} {A:Around} {E:Value → Shared → Prop} {s:Shared}
end
section
variable {X:Cx}
end
end L2
namespace L2
open PySem PySem.Spec PyProof.Rows
section
variable {κ:Type} [DecidableEq κ]
def valV (kvs:List (κ × V)) (k:κ) : Option V:=(kvs.find? fun kv=>decide (kv.1 = k)).map (·.2)
def putK (kvs:List (κ × V)) (k:κ) (v:V) : List (κ × V) :=
  if (kvs.any fun kv=>decide (kv.1 = k)) = true then kvs.map (fun kv=>if kv.1 = k then (kv.1,v) else kv) else kvs ++ [(k,v)]
theorem valV_pos {p:κ × V} {r:List (κ × V)} {k:κ} (e:p.1 = k) : valV (p :: r) k = some p.2:=by simp [valV,List.find?_cons,e]
theorem valV_neg {p:κ × V} {r:List (κ × V)} {k:κ} (e:¬ p.1 = k) : valV (p :: r) k = valV r k:=by simp [valV,List.find?_cons,e]
theorem valV_any (k:κ) : ∀ kvs : List (κ × V),(kvs.any fun kv=>decide (kv.1 = k)) = (valV kvs k).isSome
  | []=>rfl
  | p :: r=>by
    rw [List.any_cons]
    by_cases e : p.1 = k
    · simp only [valV_pos e,decide_eq_true e,Bool.true_or,Option.isSome_some]
    · rw [valV_neg e,decide_eq_false e,Bool.false_or]; exact valV_any k r
theorem length_putK (kvs:List (κ × V)) (k:κ) (v:V) : (putK kvs k v).length ≤ kvs.length + 1:=by
  unfold putK
  split
  · rw [List.length_map]; omega
  · rw [List.length_append,List.length_cons,List.length_nil]; omega
theorem RelO.isSome_eq {o:Option V} {u:Option Value} (r:RelO o u) : o.isSome = u.isSome:=by
  cases o with
  | none=>cases u with
    | none=>rfl
    | some _=>exact (show False from r).elim
  | some _=>cases u with
    | none=>exact (show False from r).elim
    | some _=>rfl
theorem KV.val {kvs:List (κ × V)} {vs:List (κ × Value)} (r:KV kvs vs) (k:κ) : RelO (valV kvs k) (valueAt vs k):=by
  unfold KV at r
  induction r with
  | nil=>exact True.intro
  | @cons p q ps qs h t ih =>
    obtain ⟨h1,h2⟩:=h
    by_cases e : p.1 = k
    · have e' : q.1 = k:=h1.symm.trans e
      have b : valueAt (q :: qs) k = some q.2:=by simp [valueAt,List.find?_cons,e']
      rw [valV_pos e,b]; exact h2
    · have e' : ¬ q.1 = k:=fun z=>e (h1.trans z)
      have b : valueAt (q :: qs) k = valueAt qs k:=by simp [valueAt,List.find?_cons,e']
      rw [valV_neg e,b]; exact ih
theorem KV.any {kvs:List (κ × V)} {vs:List (κ × Value)} (r:KV kvs vs) (k:κ) : (kvs.any fun kv=>decide (kv.1 = k)) = vs.any fun kv=>decide (kv.1 = k):=by
  unfold KV at r
  induction r with
  | nil=>rfl
  | cons h t ih=>rw [List.any_cons,List.any_cons,ih,h.1]
theorem KV.repl {kvs:List (κ × V)} {vs:List (κ × Value)} (r:KV kvs vs) (k:κ) {y:V} {u:Value} (ry:RelV y u) :
    KV (kvs.map fun kv=>if kv.1 = k then (kv.1,y) else kv) (vs.map fun kv=>if kv.1 = k then (kv.1,u) else kv):=by
  unfold KV at r ⊢
  induction r with
  | nil=>exact .nil
  | @cons p q ps qs h t ih =>
    rw [List.map_cons,List.map_cons]
    refine .cons ?_ ih
    obtain ⟨h1,h2⟩:=h
    by_cases e : p.1 = k
    · rw [if_pos e,if_pos (h1.symm.trans e)]; exact ⟨h1,ry⟩
    · rw [if_neg e,if_neg (fun z=>e (h1.trans z))]; exact ⟨h1,h2⟩
theorem KV.put {kvs:List (κ × V)} {vs:List (κ × Value)} (r:KV kvs vs) (k:κ) {y:V} {u:Value} (ry:RelV y u) : KV (putK kvs k y) (stored vs k u):=by
  unfold putK stored
  rw [r.any k]
  by_cases e : (vs.any fun kv=>decide (kv.1 = k)) = true
  · rw [if_pos e,if_pos e]; exact r.repl k ry
  · rw [if_neg e,if_neg e]; exact Paired.snoc r ⟨rfl,ry⟩
theorem KV.length {kvs:List (κ × V)} {vs:List (κ × Value)} (r:KV kvs vs) : kvs.length = vs.length:=Paired.length r
end
theorem kV_is {P:Program} {w:World} {k:Key} {u:Value} (r:RelV (kV k) u) : (mixKind P w).is k u = true:=by
  cases k with
  | inl i=>obtain ⟨t,e⟩:=(show ∃ t,u = Value.int i t from r); subst e; exact mixKind_int P w i t
  | inr x=>obtain ⟨t,e⟩:=(show ∃ t,u = Value.str x t from r); subst e; exact mixKind_str P w x t
theorem items_are {P:Program} {w:World} : ∀ {ks:List Key} {us:List Value},Vals (ks.map kV) us → ItemsAre (mixKind P w) ks us
  | [],_,r=>by rw [List.map_nil] at r; cases r; exact .nil
  | k :: ks,_,r=>by
    rw [List.map_cons] at r
    cases r with
    | cons h t=>exact .cons (kV_is h) (items_are t)
abbrev KT (H:Hp) : List (List Key × V) → List (List Key × Addr × Value) → Prop:=Paired fun p q=>p.1 = q.1 ∧ H q.2.1 = some (.tup (p.1.map kV)) ∧ RelV p.2 q.2.2
theorem KT.val {H:Hp} {kvs:List (List Key × V)} {xs:List (List Key × Addr × Value)} (r:KT H kvs xs) (k:List Key) : RelO (valV kvs k) ((atKey xs k).map (·.2)):=by
  induction r with
  | nil=>exact True.intro
  | @cons p q ps qs h t ih =>
    obtain ⟨h1,_,h2⟩:=h
    by_cases e : p.1 = k
    · have e' : q.1 = k:=h1.symm.trans e
      have b : atKey (q :: qs) k = some q.2:=by simp [atKey,List.find?_cons,e']
      rw [valV_pos e,b]; exact h2
    · have e' : ¬ q.1 = k:=fun z=>e (h1.trans z)
      have b : atKey (q :: qs) k = atKey qs k:=by simp [atKey,List.find?_cons,e']
      rw [valV_neg e,b]; exact ih
theorem KT.repl {H:Hp} {kvs:List (List Key × V)} {xs:List (List Key × Addr × Value)} (r:KT H kvs xs) (k:List Key) {y:V} {u:Value} (ry:RelV y u) :
    KT H (kvs.map fun kv=>if kv.1 = k then (kv.1,y) else kv) (xs.map (putAt k u)):=by
  induction r with
  | nil=>exact .nil
  | @cons p q ps qs h t ih =>
    rw [List.map_cons,List.map_cons]
    refine .cons ?_ ih
    obtain ⟨h1,h2,h3⟩:=h
    unfold putAt
    by_cases e : p.1 = k
    · rw [if_pos e,if_pos (h1.symm.trans e)]; exact ⟨h1,h2,ry⟩
    · rw [if_neg e,if_neg (fun z=>e (h1.trans z))]; exact ⟨h1,h2,h3⟩
theorem KT.put {H:Hp} {kvs:List (List Key × V)} {xs:List (List Key × Addr × Value)} (r:KT H kvs xs) (k:List Key) {b:Addr} {y:V} {u:Value} (hb:H b = some (.tup (k.map kV))) (ry:RelV y u) :
    KT H (putK kvs k y) (storedH xs k b u):=by
  have e : (kvs.any fun kv=>decide (kv.1 = k)) = (atKey xs k).isSome:=by
    rw [valV_any,(r.val k).isSome_eq,Option.isSome_map]
  unfold putK storedH
  rw [e]
  by_cases q : (atKey xs k).isSome = true
  · rw [if_pos q,if_pos q]; exact r.repl k ry
  · rw [if_neg q,if_neg q]; exact Paired.snoc r ⟨rfl,hb,ry⟩
theorem KT.keeps {H H':Hp} {kvs:List (List Key × V)} {xs:List (List Key × Addr × Value)} (r:KT H kvs xs) (ht:∀ b ys,H b = some (.tup ys) → H' b = some (.tup ys)) : KT H' kvs xs :=
  Paired.mapP r fun _ _ z=>⟨z.1,ht _ _ z.2.1,z.2.2⟩
section
variable {P:Program} {w:World} {H:Hp} {h:Heap} {a:Addr}
theorem rd_of {u:HO} (ok:HOk P w H h) (e:Rd H a u) : ObjOk P w H h a u:=e.ok ok
theorem dk_rd {kvs:List (Key × V)} (ok:HOk P w H h) (e:Rd H a (.dK kvs)) : kvs.length ≤ sizeLine ∧ (a == sysModules) = false ∧ ∃ vs,KV kvs vs ∧ h.DictOf (mixKind P w) a vs :=
  show ObjOk P w H h a (.dK kvs) from rd_of ok e
theorem dk_of {kvs:List (Key × V)} (ok:HOk P w H h) (e:H a = some (.dK kvs)) : kvs.length ≤ sizeLine ∧ (a == sysModules) = false ∧ ∃ vs,KV kvs vs ∧ h.DictOf (mixKind P w) a vs:=dk_rd ok (.inl e)
theorem key_of {ks:List Key} (ok:HOk P w H h) (e:H a = some (.tup (ks.map kV))) : (tupleKind (mixKind P w)).is h ks a:=by
  obtain ⟨_,its,r,o,h1,h2,n,h3⟩:=(show ObjOk P w H h a (.tup (ks.map kV)) from ok a _ e)
  exact ⟨o,its.toArray,n,h1,h2,h3,by simpa using items_are r⟩
theorem dt_rd {kvs:List (List Key × V)} (ok:HOk P w H h) (e:Rd H a (.dT kvs)) : kvs.length ≤ sizeLine ∧ (a == sysModules) = false ∧
    ∃ xs,KT H kvs xs ∧ h.DictOfH (tupleKind (mixKind P w)) a xs:=by
  obtain ⟨z,y,xs,r,o,es,ep,h1,h2,h3,h4,h5⟩:=(show ObjOk P w H h a (.dT kvs) from rd_of ok e)
  refine ⟨z,y,xs,r,o,es,ep,h1,h2,h3,h4,fun x hx=>?_,h5⟩
  have all : ∀ {l:List (List Key × V)} {m:List (List Key × Addr × Value)},KT H l m → ∀ x ∈ m,(tupleKind (mixKind P w)).is h x.1 x.2.1:=by
    intro l m q
    induction q with
    | nil=>intro x hx; exact nomatch hx
    | @cons p q ps qs hq t ih =>
      intro x hx
      rcases List.mem_cons.mp hx with e | hx
      · subst e
        exact key_of ok (by rw [← hq.1]; exact hq.2.1)
      · exact ih x hx
  exact all r x hx
theorem dt_of {kvs:List (List Key × V)} (ok:HOk P w H h) (e:H a = some (.dT kvs)) : kvs.length ≤ sizeLine ∧ (a == sysModules) = false ∧
    ∃ xs,KT H kvs xs ∧ h.DictOfH (tupleKind (mixKind P w)) a xs:=dt_rd ok (.inl e)
end
def DGet (H:Hp) (a:Addr) (y:V) (r:Option V) : Prop :=
  (∃ kvs k,Rd H a (.dK kvs) ∧ y = kV k ∧ r = valV kvs k) ∨ ∃ kvs k b,Rd H a (.dT kvs) ∧ y = .ref b ∧ H b = some (.tup (k.map kV)) ∧ r = valV kvs k
def DPut (H:Hp) (a:Addr) (y v:V) (H':Hp) : Prop :=
  (∃ kvs k,H a = some (.dK kvs) ∧ y = kV k ∧ kvs.length < sizeLine ∧ H' = upd H a (.dK (putK kvs k v))) ∨
  ∃ kvs k b,H a = some (.dT kvs) ∧ y = .ref b ∧ H b = some (.tup (k.map kV)) ∧ kvs.length < sizeLine ∧ H' = upd H a (.dT (putK kvs k v))
theorem DGet.k {H:Hp} {a:Addr} {kvs:List (Key × V)} {k:Key} (e:H a = some (.dK kvs)) : DGet H a (kV k) (valV kvs k):=.inl ⟨kvs,k,.inl e,rfl,rfl⟩
theorem DPut.k {H:Hp} {a:Addr} {kvs:List (Key × V)} {k:Key} {v:V} (e:H a = some (.dK kvs)) (hl:kvs.length < sizeLine) : DPut H a (kV k) v (upd H a (.dK (putK kvs k v))):=.inl ⟨kvs,k,e,rfl,hl,rfl⟩
section
variable {X:Cx} {pins:List (Addr × Obj)} {σ:St} {H:Hp} {s:Shared} {a:Addr} {y v:V} {u r:Value} {o:Option V} {A:Around} {E:Value → Shared → Prop}
theorem Inv.big (I:Inv X pins σ H s) : sysModules < s.heap.objs.size:=by
  have h : mainGlobals < s.heap.objs.size:=(I.mod.glob.keeps I.bk).lt
  exact Nat.lt_trans (by decide) h
theorem d_getItem {Q:Value → Shared → Prop} (hu:A.units + 1 < cLine) (I:Inv X pins σ H s) (g:DGet H a y (some v)) (ry:RelV y u) (h:∀ w' s',Inv X pins σ H s' → RelV v w' → Q w' s') :
    wpAny (model X.prog X.w) A (getItem (.ref a) u) Q E s:=by
  rcases g with ⟨kvs,k,e,ey,l⟩ | ⟨kvs,k,b,e,ey,eb,l⟩
  · subst ey
    obtain ⟨z,hd,vs,rel,dd⟩:=dk_rd I.hok e
    obtain ⟨w',hw,rw'⟩:=RelO.some_of (v:=v) (o:=valueAt vs k) (by rw [l]; exact rel.val k)
    exact wpAny_getItem_of (kV_is ry) dd.mapOf hw (h w' _ (I.tok _) rw')
  · subst ey
    cases (show u = Value.ref b from ry)
    obtain ⟨z,hd,xs,rel,dd⟩:=dt_rd I.hok e
    obtain ⟨w',hw,rw'⟩:=RelO.some_of (v:=v) (o:=(atKey xs k).map (·.2)) (by rw [l]; exact rel.val k)
    obtain ⟨p,hp,hp2⟩:=Option.map_eq_some_iff.mp hw
    refine wpAny_getItem_heap (tupleKind_room_in1 hu) (key_of I.hok eb) dd hp ?_
    rw [hp2]
    exact h w' _ (I.tok _) rw'
theorem d_write {h':Heap} {t':Nat} {ob:HO} (I:Inv X pins σ H s) (mu:Mut (H a)) (hs:Heap.SameBut a s.heap h') (he:∃ q,h'.get? a = some q) (new:ObjOk X.prog X.w (upd H a ob) h' a ob) :
    Inv X pins σ (upd H a ob) { s with heap:=h',toks:=t' } :=
  I.write (x:=a) (e:=a) mu (.inl rfl) (fun b q hb z=>(hs.2 b hb).trans z) he new
theorem dk_new {P:Program} {w:World} {H':Hp} {h':Heap} {kvs:List (Key × V)} {vs:List (Key × Value)} (z:kvs.length ≤ sizeLine) (hd:(a == sysModules) = false) (rel:KV kvs vs) (dd:h'.DictOf (mixKind P w) a vs) :
    ObjOk P w H' h' a (.dK kvs):=⟨z,hd,vs,rel,dd⟩
theorem d_setItem {H':Hp} {Q:Unit → Shared → Prop} (hu:A.units + 1 < cLine) (I:Inv X pins σ H s) (g:DPut H a y v H') (ry:RelV y u) (rv:RelV v r) (h:∀ s',Inv X pins σ H' s' → Q () s') :
    wpAny (model X.prog X.w) A (setItem (.ref a) u r) Q E s:=by
  rcases g with ⟨kvs,k,e,ey,l,eH⟩ | ⟨kvs,k,b,e,ey,eb,l,eH⟩
  · subst ey eH
    obtain ⟨z,hd,vs,rel,dd⟩:=dk_of I.hok e
    have hz : vs.length ≤ sizeLine:=by rw [← rel.length]; exact z
    have hl : (putK kvs k v).length ≤ sizeLine:=by have:=length_putK kvs k v; omega
    refine wpAny_setItem_pairs (hsz:=hz) (kV_is ry) dd fun h' dd' hs=>h _ ?_
    have he : ∃ q,h'.get? a = some q:=let ⟨q,_,_,hq,_⟩:=dd'; ⟨q,hq⟩
    exact d_write I (by rw [e]; exact True.intro) hs he (dk_new hl hd (rel.put k rv) dd')
  · subst ey eH
    cases (show u = Value.ref b from ry)
    obtain ⟨z,hd,xs,rel,dd⟩:=dt_of I.hok e
    have hz : xs.length ≤ sizeLine:=by rw [← Paired.length rel]; exact z
    have hl : (putK kvs k v).length ≤ sizeLine:=by have:=length_putK kvs k v; omega
    refine wpAny_setItem_heap (hsz:=hz) (tupleKind_room_in1 hu) (key_of I.hok eb) dd fun h' dd' hs=>h _ ?_
    obtain ⟨q,es,ep,hq,h2,h3,h4,_,h5⟩:=dd'
    refine d_write I (by rw [e]; exact True.intro) hs ⟨q,hq⟩ ⟨hl,hd,_,(rel.put k eb rv).keeps fun c ys ec=>?_,q,es,ep,hq,h2,h3,h4,h5⟩
    rw [upd_ne (ne_of ec e (fun z=>nomatch z))]
    exact ec
end
section
variable {X:Cx} {pins:List (Addr × Obj)} {σ:St} {H:Hp} {s:Shared} {a:Addr} {kvs:List (Key × V)} {k:Key} {u:Value} {A:Around} {E:Value → Shared → Prop}
end
def NoSl (i:Expr) : Prop:=∀ ov iv,subscripted i false ov iv = operate [ov,iv] (getItem ov iv)
theorem subD_of {prog:Program} {w:World} {A:Around} {E:Value → Shared → Prop} {s:Shared} {env:Env} {value slice:Expr} {pos:Pos} {T id:String} {Q:Value → Shared → Prop}
    (hl:typeLookup (.type T) "__getitem__" = pure (some (.builtin id))) (hs:NoSl slice)
    (h:wpAny (model prog w) A (eval value env) (fun o s₁=>wpAny (model prog w) A (eval slice env) (fun i s₂=>s₂.TypeIs o T ∧ wpAny (model prog w) A (getItem o i) Q E s₂) E s₁) E s) :
    wpAny (model prog w) A (eval (.Subscript value slice pos) env) Q E s:=by
  refine Subscript_ (wpAny_mono h (fun o s₁ h₁=>wpAny_mono h₁ (fun i s₂ h₂=>?_) fun _ _ x=>x) fun _ _ x=>x)
  obtain ⟨hT,h₂⟩:=h₂
  unfold subscriptTail
  refine wpAny_bind ?_
  rw [getitemInPython_of_ne hT.not_modules]
  refine wpAny_bind (wpAny_specialOf hT hl ?_)
  have fin : wpAny (model prog w) A (subscripted slice false o i) (fun r s₃=>wpAny (model prog w) A (letTemporaryGo value o r >>= fun _=>pure r) Q E s₃) E s₂:=by
    rw [hs o i]
    exact wpAny_operating (wpAny_mono h₂ (fun r s₃ h₃=>wpAny_bind (wpAny_letTemporaryGo (wpAny_pure h₃))) fun _ _ x=>x)
  first
    | exact wpAny_pure (wpAny_bind fin)
    | exact wpAny_bind (wpAny_pure (wpAny_bind fin))
    | exact wpAny_bind fin
theorem dict_typeIs {X:Cx} {pins:List (Addr × Obj)} {σ:St} {H:Hp} {s:Shared} {a:Addr} {y:V} {o:Option V} (I:Inv X pins σ H s) (g:DGet H a y o) : s.TypeIs (.ref a) "dict" := by
  rcases g with ⟨kvs,k,e,_,_⟩ | ⟨kvs,k,b,e,_,_,_⟩
  · obtain ⟨_,_,vs,_,dd⟩:=dk_rd I.hok e
    exact dd.typeIs
  · obtain ⟨_,_,xs,_,dd⟩:=dt_rd I.hok e
    exact dd.typeIs
def tDGet (td ty:TE) : TE:=fun σ H Q=>td σ H fun x H1=>ty σ H1 fun y H2=>∃ a v,x = .ref a ∧ DGet H2 a y (some v) ∧ Q v H2
def sDPut (td ty tv:TE) : TS:=fun D σ H=>tv σ H fun v H1=>td σ H1 fun x H2=>ty σ H2 fun y H3=>∃ a H4,x = .ref a ∧ DPut H3 a y v H4 ∧ D.nx σ H4
section
variable {X:Cx} {o i e value:Expr} {pos pos' tpos:Pos} {td ty tv:TE}
theorem pe_dget (hu:X.A.units + 1 < cLine) (ho:PE X o td) (hi:PE X i ty) (hs:NoSl i) : PE X (.Subscript o i pos) (tDGet td ty):=by
  intro pins s σ H Q I h
  refine subD_of PySem.F.slot_dict_getitem.lookup hs (thn (ho pins s σ H _ I h) fun u s1 ⟨x,H1,I1,rx,q1⟩=>thn (hi pins s1 σ H1 _ I1 q1) fun iv s2 ⟨y,H2,I2,ry,a,v,ex,g,q2⟩=>?_)
  subst ex
  obtain rfl : u = Value.ref a:=rx
  exact ⟨dict_typeIs I2 g,d_getItem hu I2 g ry fun w' s3 I3 rw'=>⟨v,H2,I3,rw',q2⟩⟩
theorem ps_dput (hu:X.A.units + 1 < cLine) (ho:PE X o td) (hi:PE X i ty) (hv:PE X value tv) (hs:swapsWith value (some (.Subscript o i pos')) pos.line X.env = pure false) :
    PS X (.Assign [.Subscript o i pos'] value pos) (sDPut td ty tv):=by
  intro pins s σ H D I h
  refine wpAny_Assign_Subscript (thn (hv pins s σ H _ I h) fun r s1 ⟨v,H1,I1,rv,q1⟩=>thn (ho pins s1 σ H1 _ I1 q1) fun u s2 ⟨x,H2,I2,rx,q2⟩=>thn (hi pins s2 σ H2 _ I2 q2) fun iv s3 ⟨y,H3,I3,ry,a,H4,ex,g,q3⟩=>?_) hs
  subst ex
  obtain rfl : u = Value.ref a:=rx
  exact d_setItem hu I3 g ry rv fun s4 I4=>⟨σ,H4,I4,q3⟩
end
theorem dk_empty {P:Program} {w:World} {H:Hp} (h:Heap) (hb:sysModules < h.objs.size) : ObjOk P w H (h.push { cls:=.type "dict", data:=.dict #[] }) h.objs.size (.dK []) :=
  ⟨Nat.zero_le _,beq_eq_false_iff_ne.mpr (Ne.symm (Nat.ne_of_lt hb)),[],.nil,Heap.DictOf.new h⟩
def tDNewK : TE:=fun _ H Q=>∀ p,H p = none → Q (.ref p) (upd H p (.dK []))
section
variable {X:Cx} {pos:Pos}
theorem pe_dnewK : PE X (.Dict [] [] pos) tDNewK:=fun pins s σ H Q I h =>
  wpAny_Dict_empty ⟨.ref s.heap.objs.size,_,I.laid (a:=s.heap.objs.size) (o:=.dK []) (t':=s.toks) (fun _ _ q=>Heap.get?_push_of_some _ q) (Nat.le_refl _) (dk_empty s.heap I.big),rfl,h _ (I.hok.fresh (Nat.le_refl _))⟩
end
section
variable {X:Cx} {pins:List (Addr × Obj)} {σ:St} {H:Hp} {s:Shared} {a:Addr} {y d:V} {u r:Value} {o:Option V} {A:Around} {E:Value → Shared → Prop}
end
section
variable {X:Cx} {o e f:Expr} {apos cpos:Pos} {td ty tx:TE}
end
section
variable {X:Cx} {pins:List (Addr × Obj)} {σ:St} {H:Hp} {s:Shared} {a:Addr} {kvs:List (Key × V)} {A:Around} {E:Value → Shared → Prop}
end
section
variable {X:Cx} {pins:List (Addr × Obj)} {σ:St} {H:Hp} {s:Shared} {a:Addr} {y:V} {u:Value} {A:Around} {E:Value → Shared → Prop}
end
end L2
namespace Att
open PySem PySem.W PySem.Calls PyProof.Rows
theorem ints_of_wellAll {P:Params} {h:Heap} : ∀ (ns:List Int) (vs:List Value),WellAll P h vs (ns.map WData.int) → IntsAre vs ns:=by
  intro ns
  induction ns with
  | nil =>
    intro vs w
    rw [List.map_nil] at w
    cases w
    exact .nil
  | cons n ns ih =>
    intro vs w
    rw [List.map_cons] at w
    cases w with
    | cons a b =>
      cases a
      exact .cons _ _ (ih _ b)
theorem script_of {l:OpenLaw} {n:Nat} (hn:l.most = some n) {P:Params} {h:Heap} {args:List WData} {vals:List Value}
    (hpre:l.row.toRowW.claim.pre args = true) (hwl:WellAll P h vals args) :
    ∃ a vs ns,vals = [Value.ref a] ∧ args = [WData.list (ns.map WData.int)] ∧ h.get? a = some { cls:=.type "list", data:=.seq vs.toArray } ∧ IntsAre vs ns ∧ ns.length ≤ n:=by
  have hsh : WShape.hasAll [] args [.list .int] = true:=(pre_splitW hpre).1
  have hc : l.pre.holds [] { args:=args } = true:=(pre_splitW hpre).2
  obtain ⟨d,r,rfl,h1,h2⟩:=hasAllW_cons hsh
  obtain rfl:=hasAllW_nil h2
  obtain ⟨xs,rfl,h3⟩:=hasW_list h1
  obtain ⟨ns,rfl⟩:=items_int h3
  have hlen : ns.length ≤ n:=by
    unfold OpenLaw.pre at hc
    have h4 : (WTm.not (.lt (.lit (.int (n:Int))) (.len (.arg 0)))).holds [] { args:=[.list (ns.map .int)] } = true:=by
      have h4:=(holds_andW hc).1
      rw [hn] at h4
      exact h4
    have h5:=condW_of h4 (w_not (w_lt w_lit (w_len_list (w_arg rfl))))
    rw [List.length_map] at h5
    refine Nat.le_of_not_lt fun q=>?_
    have q' : (n:Int) < ((ns.length : Nat) : Int):=by omega
    first
      | (rw [decide_eq_true q'] at h5; exact absurd h5 (by decide))
      | (simp at h5; omega)
  cases hwl with
  | cons w1 w2 =>
    cases w2
    cases w1 with
    | list ho hall=>exact ⟨_,_,ns,rfl,rfl,ho,ints_of_wellAll ns _ hall,hlen⟩
theorem post_true (l:OpenLaw) (args:List WData) : l.row.toRowW.claim.post args (.bool true) args = true :=
  postW_of (r:=l.row.toRowW) (X:=(true == true))
    (show WShape.has [] (.bool true) .bool = true by first | rfl | decide | simp [WShape.has,WShape.arms,WShape.armsAll])
    (show (WTm.eq .res (.lit (.bool true))).value [] { args:=args,res:=some (.bool true),after:=args } = some (.bool (true == true)) from w_eq_bool (w_res rfl) w_lit) rfl
theorem attach_call {l:OpenLaw} {n:Nat} {q:Program} {loose:List Str} {XP:(Str → Option Value) → Heap → Prop} {YP:World → Heap → Prop} {d:DefRec}
    (hn:l.most = some n) (hdf:d.params.defaults = [])
    (call:∀ (w:World) (s₀ s₁:Shared) (mg mb:Str → Option Value) (fa:Addr) (o:Obj) (pm cd doc:Value) (a:Addr) (vs:List Value) (ns:List Int),
      Ground q loose [] XP w s₀ mg mb s₁.heap → YP w s₁.heap →
      s₁.heap.get? fa = some o → o.data = .func (docDef d.name d.params d.body d.scope pm cd doc) → s₁.heap.CodeRec cd d.name → mg d.name = some (.ref fa) →
      s₁.heap.get? a = some { cls:=.type "list", data:=.seq vs.toArray } → IntsAre vs ns → ns.length ≤ n → s₁.gens = #[] →
      codeAny (model l.prog w) callerA (.call (.ref fa) ⟨[.ref a],[]⟩) (fun r s'=>r = .ok (.ret (.bool true)) ∧ OldK s₁.heap s'.heap ∧ s'.os = s₁.os ∧ AllBare s'.gens) s₁) :
    WalkO q loose XP YP l.row.toRowW d [] (fun f vs=>PySem.call f vs):=by
  intro w s₀ s₁ mg mb G Y fa o pm cd doc dV kV ho hd hcd hD hmg hg args vals as hpre hlay hrd hwl hlo
  obtain rfl : dV = .none:=Dflts.none hD hdf
  obtain rfl : kV = .none:=Dflts.noKw hD
  obtain ⟨a,vs,ns,rfl,rfl,hobj,hints,hlen⟩:=script_of hn hpre hwl
  refine enter_call (codeAny_mono (call w s₀ s₁ mg mb fa o pm cd doc a vs ns G Y ho (fd_plain hd) hcd hmg hobj hints hlen hg) fun r s' hq=>?_)
  obtain ⟨rfl,h2,h3,h4⟩:=hq
  exact ⟨.inl ⟨.bool true,.bool true,[],rfl,fun _=>rfl,.bool true,post_true l _,fun _=>⟨List.Pairwise.nil,fun _ hm=>(nomatch hm)⟩⟩,h2,h3,h4⟩
section
variable {prog:Program} {w:World} {A:Around} {E:Value → Shared → Prop} {s:Shared} {K:Frag}
end
end Att
namespace L2
open PySem PySem.Spec PyProof.Rows
theorem vals_ints : ∀ {vs:List Value} {ns:List Int},IntsAre vs ns → Vals (ns.map V.int) vs
  | _,_,.nil=>.nil
  | _,_,.cons n t h=>.cons ⟨t,rfl⟩ (vals_ints h)
def Only (H:Hp) : Prop:=∀ b,H b = none ∨ ∃ o xs,H b = some (.frz o (.lst xs))
theorem law_call {P:Program} {w:World} {K:PySem.W.Frag} {mg mb:Str → Option Value} {CX:CXT} {k:Nat} {fa a:Addr} {fd:FuncData} {x:Str} {sp:Sp} {s₁:Shared} {vs:List Value} {ns:List Int}
    (KX:K.In s₁.heap) (hns:s₁.heap.Ns mainGlobals mg) (hb:s₁.heap.Ns builtinsNs mb) (hbb:∀ x : Str,x ≠ "__name__" → mb x = bootBuiltins x) (hlim:s₁.heap.NoLimit) (hg:s₁.gens = #[])
    (ha:s₁.heap.get? a = some { cls:=.type "list", data:=.seq vs.toArray }) (hi:IntsAre vs ns) (hl:ns.length ≤ sizeLine) (hr:Room k callerA)
    (F:∀ base : Heap,K.In base → base.Ns mainGlobals mg → FnOk P w K mg base CX k fa fd [x] sp) (hbind:∀ (s:Shared) (u:Value),BindsTo s fd ⟨[u],[]⟩ [(x,u)])
    (hsp:∀ H : Hp,Only H → SqL K H a (ns.map V.int) → sp [.ref a] H (fun v _=>v = .bl true) fun _ _ _=>False)
    (hCX:∀ H e s',CX [] H s₁ (fun _ _ _=>False) e s' → False) :
    codeAny (model P w) callerA (.call (.ref fa) ⟨[.ref a],[]⟩) (fun r s'=>r = .ok (.ret (.bool true)) ∧ OldK s₁.heap s'.heap ∧ s'.os = s₁.os ∧ AllBare s'.gens) s₁:=by
  have rv:=vals_ints hi
  have lenV:=hi.length
  have core : ∀ H : Hp,Only H → SqL K H a (ns.map V.int) → HOk P w H s₁.heap → (∀ b,H b ≠ none → b = a) → (H a ≠ none → K.lookup a = none) →
      codeAny (model P w) callerA (.call (.ref fa) ⟨[.ref a],[]⟩) (fun r s'=>r = .ok (.ret (.bool true)) ∧ OldK s₁.heap s'.heap ∧ s'.os = s₁.os ∧ AllBare s'.gens) s₁:=by
    intro H hO hS hok hA hK
    have base_of : ∀ {b:Addr} {o:Obj},s₁.heap.get? b = some o → H b = none → (hidT s₁.heap H).get? b = some o:=fun e n=>hidT_get e n
    have noA : ∀ {b:Addr} {o:Obj} {es:Array DictEntry} {ep:Nat},s₁.heap.get? b = some o → o.data = .dict es ep → H b = none:=fun {b o es ep} e d=>by
      cases q : H b with
      | none=>rfl
      | some u =>
        have e' : b = a:=hA b (by rw [q]; simp)
        subst e'
        rw [ha] at e; cases e
        have d' : Data.seq vs.toArray _ = Data.dict es ep:=d
        cases d'
    have nsK : ∀ {b:Addr} {m:Str → Option Value},s₁.heap.Ns b m → (hidT s₁.heap H).Ns b m:=fun {b m} ⟨o,es,ep,e,d,r⟩=>⟨o,es,ep,base_of e (noA e d),d,r⟩
    have hKb : K.In (hidT s₁.heap H):=fun b o e=>base_of (KX b o e) (by
      cases q : H b with
      | none=>rfl
      | some u =>
        have e' : b = a:=hA b (by rw [q]; simp)
        subst e'
        rw [hK (by rw [q]; simp)] at e; cases e)
    have hM : Mod K mg (hidT s₁.heap H):=⟨hKb,nsK hns,⟨mb,nsK hb,hbb⟩,let ⟨mc,h1,h2⟩:=hlim; ⟨mc,nsK h1,h2⟩⟩
    have e0 : Env0 P w K mg (hidT s₁.heap H) callerA [] s₁ H:=⟨rfl,hM,fun b o e=>of_hidT e,Nat.le_of_eq (hidT_size _ _),trivial,fun b hb=>absurd (show b ∈ ([] : List Addr) from hb) (by simp),hok,.of_eq hg⟩
    refine codeAny_mono ((F _ hKb (nsK hns)).run callerA [] s₁ H ⟨[.ref a],[]⟩ [.ref a] [.ref a] _ _ hr e0 (hbind s₁ (.ref a)) (.cons rfl .nil) (hsp H hO hS)) fun r s' h=>?_
    cases r with
    | error e=>exact (hCX H e s' h).elim
    | ok fl =>
      cases fl with
      | next=>exact False.elim h
      | brk=>exact False.elim h
      | cont=>exact False.elim h
      | ret u =>
        obtain ⟨v,H',os,bare,un,hok',r',q⟩:=h
        have q' : v = .bl true:=q
        subst q'
        obtain rfl : u = Value.bool true:=r'
        refine ⟨rfl,OldK.of_keep fun b o e=>?_,os,bare⟩
        cases q : H b with
        | none=>exact un.keep b o e q (by intro z; exact absurd (show b ∈ ([] : List Addr) from z) (by simp)) (by simp)
        | some u =>
          rcases hO b with z | ⟨ob,xs,z⟩
          · rw [q] at z; cases z
          · have z2:=un.frzs b ob _ z
            obtain ⟨e1,_⟩:=hok b _ z
            obtain ⟨e2,_⟩:=hok' b _ z2
            rw [e] at e1; cases e1
            exact e2
  cases hk : K.lookup a with
  | some o =>
    have e:=KX a o hk
    rw [ha] at e
    cases e
    refine core (fun _=>none) (fun _=>.inl rfl) (.inr ⟨_,vs.toArray,_,hk,rfl,rfl,rfl,by rw [List.size_toArray,lenV]; exact hl,by simpa using rv⟩) (fun b u z=>by have z' : (none:Option HO) = some u:=z; cases z') (fun b z=>absurd rfl z) fun z=>absurd rfl z
  | none =>
    refine core (fun b=>if b = a then some (.frz { cls:=.type "list", data:=.seq vs.toArray } (.lst (ns.map V.int))) else none) (fun b=>?_) (.inl (.inr ⟨{ cls:=.type "list", data:=.seq vs.toArray },if_pos rfl⟩)) (fun b u z=>?_) (fun b z=>?_) fun _=>hk
    · by_cases hb : b = a
      · exact .inr ⟨_,_,if_pos hb⟩
      · exact .inl (if_neg hb)
    · by_cases hb : b = a
      · have z':=(if_pos hb).symm.trans z
        cases z'
        subst hb
        exact ⟨ha,by rw [List.length_map]; exact hl,vs,_,rv,ha⟩
      · have z':=(if_neg hb).symm.trans z
        cases z'
    · by_cases hb : b = a
      · exact hb
      · exact absurd (if_neg hb) z
end L2
namespace L2
open PySem PySem.Spec PyProof.Rows
theorem walk_of {l:PySem.W.OpenLaw} {n k:Nat} {q:Program} {loose:List Str} {XP:(Str → Option Value) → Heap → Prop} {YP:World → Heap → Prop} {d:DefRec} {K:Params → PySem.W.Frag} {CX:World → CXT} {sp:World → Sp} {x:Str}
    (hn:l.most = some n) (hn2:n ≤ sizeLine) (hdf:d.params.defaults = []) (hr:Room k callerA)
    (hY:∀ (w:World) (h:Heap),YP w h → (K w.params).In h)
    (F:∀ (w:World) (mg:Str → Option Value) (fa:Addr) (h:Heap),(K w.params).In h → h.Ns mainGlobals mg → mg d.name = some (.ref fa) →
      ∃ fd : FuncData,(∀ (s:Shared) (u:Value),BindsTo s fd ⟨[u],[]⟩ [(x,u)]) ∧
        ∀ base : Heap,(K w.params).In base → base.Ns mainGlobals mg → FnOk l.prog w (K w.params) mg base (CX w) k fa fd [x] (sp w))
    (hsp:∀ (w:World) (H:Hp) (a:Addr) (ns:List Int),ns.length ≤ n → Only H → SqL (K w.params) H a (ns.map V.int) → sp w [.ref a] H (fun v _=>v = .bl true) fun _ _ _=>False)
    (hCX:∀ (w:World) (H:Hp) (s:Shared) (e:Value) (s':Shared),CX w [] H s (fun _ _ _=>False) e s' → False) :
    PySem.W.WalkO q loose XP YP l.row.toRowW d [] (fun f vs=>PySem.call f vs):=by
  refine Att.attach_call hn hdf fun w s₀ s₁ mg mb fa o pm cd doc a vs ns G Y ho hd hcd hmg hobj hints hlen hg=>?_
  have KX:=hY w _ Y
  obtain ⟨fd,hb,hF⟩:=F w mg fa _ KX G.T.g hmg
  exact law_call KX G.T.g G.T.b G.T.builtins G.T.nolimit hg hobj hints (Nat.le_trans hlen hn2) hr hF hb (fun H hO hS=>hsp w H a ns hlen hO hS) fun H e s'=>hCX w H s₁ e s'
end L2
namespace L2
open PySem PySem.Spec PyProof.Rows
def inClass (s:Stmt) (j:Nat) : Stmt:=match s with
  | .ClassDef _ _ _ body _ _ _ _ _ _ _=>body.getD j (.Pass ⟨0,0,0,0⟩)
  | _=>.Pass ⟨0,0,0,0⟩
def defArgs (s:Stmt) : Arguments:=match s with
  | .FunctionDef _ a _ _ _ _ _ _ _ _=>a
  | _=>{ posonlyargs:=[],args:=[],vararg:=none,kwonlyargs:=[],kw_defaults:=[],kwarg:=none,defaults:=[] }
def defBody (s:Stmt) : List Stmt:=match s with
  | .FunctionDef _ _ b _ _ _ _ _ _ _=>b
  | _=>[]
def defScope (s:Stmt) : Scope:=match s with
  | .FunctionDef _ _ _ _ _ _ sc _ _ _=>sc
  | _=>{ kind:=.function,names:=[],isGenerator:=false,isCoroutine:=false }
abbrev CX0 : CXT:=fun _ _ _ _ _ _=>False
abbrev E0 : XK:=fun _ _ _=>False
theorem pass0 {X:Cx} : Passes CX0 X E0:=fun _ _ _ _ _ _ _ h=>h.elim
structure Fun (K:PySem.W.Frag) (x qual:Str) (st:Stmt) (f:Addr) (fd:FuncData) : Prop where
  ex : ∃ (oc:Value) (od:Option Addr) (kV doc pm:Value) (an:Option Addr) (cdv ct:Value) (osl:Array (Option Value)),
    fd = PySem.W.fnOf x qual (defArgs st) (defBody st) (defScope st) .none kV doc pm an cdv ct ∧ K.lookup f = some ⟨oc,od,.func fd,osl⟩ ∧ PySem.W.codeIn K cdv qual = true
  kp : PySem.W.keepIn K (.ref f) = true
section
variable {P:Program} {w:World} {K:PySem.W.Frag} {mg:Str → Option Value} {base:Heap}
theorem Fun.ok {x qual:Str} {st:Stmt} {f:Addr} {fd:FuncData} {N ps:List Str} {k:Nat} {sp:Sp} (F:Fun K x qual st f fd) (S:FnScope N ps (defScope st)) (len:∀ vs H Q E,sp vs H Q E → vs.length = ps.length)
    (hbody:∀ (cdv:Value) (A:Around) (outer:List Env) (s:Shared) (H:Hp) (vs:List V) (Q:VK) (E:XK),Room k (A.deeper (envOfC qual (defScope st) s.heap.objs.size f cdv)) → sp vs H Q E →
      ∃ t,PSs (cxOf CX0 P w K mg base N qual (defScope st) f cdv A outer s H E).nox (defBody st) t ∧ t { nx:=fun _ H'=>Q .non H',rt:=Q } (start N vs) H) : FnOk P w K mg base CX0 (k + 1) f fd ps sp:=by
  obtain ⟨oc,od,kV,doc,pm,an,cdv,ct,osl,rfl,lk,hcd⟩:=F.ex
  refine fn_of lk hcd S len fun A outer s H vs Q E hr hsp=>?_
  obtain ⟨t,h,q⟩:=hbody cdv A outer s H vs Q E hr hsp
  exact ⟨t,h.nox,q⟩
theorem Fun.binds {x qual:Str} {st:Stmt} {f:Addr} {fd:FuncData} {ps:List Str} (F:Fun K x qual st f fd)
    (h:∀ (kV doc pm:Value) (an:Option Addr) (cdv ct:Value) (us:List Value),us.length = ps.length → bindArgs (PySem.W.fnOf x qual (defArgs st) (defBody st) (defScope st) .none kV doc pm an cdv ct) ⟨us,[]⟩ = pure (ps.zip us)) : Binds K fd ps []:=by
  obtain ⟨oc,od,kV,doc,pm,an,cdv,ct,osl,rfl,lk,hcd⟩:=F.ex
  exact .all (h kV doc pm an cdv ct)
theorem fun_mk {x qual:Str} {st:Stmt} {f:Addr} {oc:Value} {od an:Option Addr} {osl:Array (Option Value)} {kV doc pm cdv ct:Value} (l:K.lookup f = some ⟨oc,od,.func (PySem.W.fnOf x qual (defArgs st) (defBody st) (defScope st) .none kV doc pm an cdv ct),osl⟩)
    (c:PySem.W.codeIn K cdv qual = true) (k:PySem.W.keepIn K (.ref f) = true) : Fun K x qual st f (PySem.W.fnOf x qual (defArgs st) (defBody st) (defScope st) .none kV doc pm an cdv ct):=⟨⟨oc,od,kV,doc,pm,an,cdv,ct,osl,rfl,l,c⟩,k⟩
end
theorem hu_of {A:Around} {k:Nat} (hr:Room k A) : A.units + 1 < cLine:=Nat.lt_of_le_of_lt (Nat.add_le_add_left (by decide:1 ≤ 64) _) hr.units
theorem small1000 {n:Nat} (h:n ≤ 1000) : n < sizeLine:=Nat.lt_of_le_of_lt h (by decide)
section
variable {X:Cx}
theorem pv (i:Nat) {x:Str} {pos:Pos} (hN:X.N[i]? = some x:=by rfl) (hv:Vis X.env.scope x:=by first | exact Or.inl rfl | exact Or.inr (Or.inl rfl) | exact Or.inr (Or.inr rfl)) (hd:(x == ("__debug__" : Str)) = false:=by decide)
    (hcd:(x == ("__classdict__" : Str)) = false:=by decide) : PE X (.Name x pos) (tVar i):=pe_var hN hv hd hcd
end
theorem iteF {A B:Prop} (h:B) : if false = true then A else B:=by
  rw [if_neg Bool.false_ne_true]
  exact h
theorem iteT {A B:Prop} (h:A) : if true = true then A else B:=by
  rw [if_pos rfl]
  exact h
theorem ite2 {c A B:Prop} [Decidable c] (h1:c → A) (h2:¬ c → B) : if c then A else B:=by
  by_cases h : c
  · rw [if_pos h]
    exact h1 h
  · rw [if_neg h]
    exact h2 h
def Same (H H':Hp) : Prop:=∀ b o,H b = some o → H' b = some o
theorem Same.refl (H:Hp) : Same H H:=fun _ _ h=>h
theorem Same.trans {H H1 H2:Hp} (a:Same H H1) (b:Same H1 H2) : Same H H2:=fun c o h=>b c o (a c o h)
theorem Same.free {H H':Hp} (e:Same H H') {l:Addr} (h:H' l = Option.none) : H l = Option.none:=by
  cases q : H l with
  | none=>rfl
  | some o =>
    rw [e l o q] at h
    cases h
theorem Same.seq {K:PySem.W.Frag} {H H':Hp} {a:Addr} {xs:List V} (e:Same H H') (h:SqL K H a xs) : SqL K H' a xs:=by
  rcases h with (h | ⟨o,h⟩) | h
  · exact .inl (.inl (e _ _ h))
  · exact .inl (.inr ⟨o,e _ _ h⟩)
  · exact .inr h
section
variable {κ:Type} [DecidableEq κ]
end
end L2
set_option maxHeartbeats 4000000
namespace L2
open PySem PySem.Spec PyProof.Rows
abbrev NoX : Value → Shared → Prop:=fun _ _=>False
theorem noX {al:Type} {t:Sem al} {Q:al → Shared → Prop} {M:Model} {A:Around} {E:Value → Shared → Prop} {s:Shared} (h:wpAny M A t Q NoX s) : wpAny M A t Q E s :=
  wpAny_mono h (fun _ _ q=>q) fun _ _ z=>z.elim
def capSt (cap:List (Option Nat)) (σ:St) : St:=cap.map fun o=>match o with
  | none=>none
  | some j=>(σ[j]?).join
inductive Ext : St → St → Prop
  | nil : Ext [] []
  | skip {a b:St} {x:Option V} : Ext a b → Ext (none :: a) (x :: b)
  | keep {a b:St} {x:Option V} : Ext a b → Ext (x :: a) (x :: b)
theorem Ext.len {a b:St} (h:Ext a b) : a.length = b.length:=by
  induction h with
  | nil=>rfl
  | skip _ ih=>simp [ih]
  | keep _ ih=>simp [ih]
theorem Ext.get {a b:St} (h:Ext a b) : ∀ (i:Nat) v,a[i]? = some (some v) → b[i]? = some (some v):=by
  induction h with
  | nil=>intro i v e; simp at e
  | skip _ ih =>
    intro i v e
    cases i with
    | zero=>simp at e
    | succ i=>simpa using ih i v (by simpa using e)
  | keep _ ih =>
    intro i v e
    cases i with
    | zero=>simpa using e
    | succ i=>simpa using ih i v (by simpa using e)
def Cx.block (X:Cx) (sc:Scope) (cl:List (Str × Addr)) (N:List Str) (s:Shared) (H:Hp) (C:Addr) (ex:List Addr) : Cx where
  prog:=X.prog
  w:=X.w
  K:=X.K
  mg:=X.mg
  base:=X.base
  A:=X.A
  N:=N
  s₀:=s
  H₀:=H
  env:=compEnvC sc cl C X.env
  outer:=X.stack
  stack:=X.stack
  ex:=ex
  fn:=fun _=>false
  calm:=X.calm
  pn:=[]
  xe:=NoX
theorem closure_ok {env:Env} : ∀ (names:List (Str × NameKind)) (cs:List (Str × Addr)),(∀ n,(n,NameKind.free) ∈ names → ∃ c,env.cells.lookup n = some c) →
    (∀ x c,cs.lookup x = some c → env.cells.lookup x = some c) →
    ∃ cl : List (Str × Addr),(forIn names cs fun (x:Str × NameKind) (r:List (Str × Addr))=>(if (x.2 == NameKind.free) = true then do let c ← cellOf env x.1; pure (ForInStep.yield ((x.1,c) :: r)) else pure (ForInStep.yield r)) : Sem (List (Str × Addr))) = pure cl ∧
      (∀ x c,cl.lookup x = some c → env.cells.lookup x = some c) ∧ (∀ n,(n,NameKind.free) ∈ names → ∃ c,cl.lookup n = some c) ∧ (∀ n c,cs.lookup n = some c → ∃ c,cl.lookup n = some c)
  | [],cs,_,hc=>⟨cs,rfl,hc,fun _ h=>(nomatch h),fun n c e=>⟨c,e⟩⟩
  | (n,k) :: r,cs,h,hc=>by
    by_cases hk : k = .free
    · subst hk
      obtain ⟨c,ec⟩:=h n List.mem_cons_self
      have hc' : ∀ x c',((n,c) :: cs).lookup x = some c' → env.cells.lookup x = some c':=fun x c' e=>by
        rw [List.lookup_cons] at e
        cases hx : x == n with
        | true=>rw [hx] at e; cases e; rw [eq_of_beq hx]; exact ec
        | false=>rw [hx] at e; exact hc x c' e
      obtain ⟨cl,e1,e2,e3,e4⟩:=closure_ok r ((n,c) :: cs) (fun m hm=>h m (List.mem_cons_of_mem _ hm)) hc'
      refine ⟨cl,?_,e2,fun m hm=>?_,fun m c' e=>?_⟩
      · rw [List.forIn_cons,← e1]
        simp only [beq_self_eq_true,if_true,cellOf,ec]
        rfl
      · rcases List.mem_cons.mp hm with z | z
        · cases z
          exact e4 n c (by simp)
        · exact e3 m z
      · by_cases hm : m = n
        · subst hm; exact e4 m c (by simp)
        · exact e4 m c' (by rw [List.lookup_cons,beq_eq_false_iff_ne.mpr hm]; exact e)
    · have hb : (k == NameKind.free) = false:=by simpa using hk
      obtain ⟨cl,e1,e2,e3,e4⟩:=closure_ok r cs (fun m hm=>h m (List.mem_cons_of_mem _ hm)) hc
      refine ⟨cl,?_,e2,fun m hm=>?_,e4⟩
      · rw [List.forIn_cons,← e1]
        simp only [hb,Bool.false_eq_true,if_false]
        rfl
      · rcases List.mem_cons.mp hm with z | z
        · cases z; exact absurd rfl hk
        · exact e3 m z
theorem closure_of {sc:Scope} {env:Env} (h:∀ n,(n,NameKind.free) ∈ sc.names → ∃ c,env.cells.lookup n = some c) :
    ∃ cl : List (Str × Addr),closureFor sc env = pure cl ∧ (∀ x c,cl.lookup x = some c → env.cells.lookup x = some c) ∧ (∀ n,(n,NameKind.free) ∈ sc.names → ∃ c,cl.lookup n = some c):=by
  obtain ⟨cl,e1,e2,e3,_⟩:=closure_ok (env:=env) sc.names [] h (fun x c e=>by simp at e)
  refine ⟨cl,?_,e2,e3⟩
  unfold closureFor
  rw [← bind_pure (pure cl),← e1]
theorem lookup_mem {names:List (Str × NameKind)} {x:Str} {k:NameKind} (h:names.lookup x = some k) : (x,k) ∈ names:=by
  induction names with
  | nil=>simp at h
  | cons p r ih =>
    obtain ⟨n,j⟩:=p
    rw [List.lookup_cons] at h
    cases hx : x == n with
    | true=>rw [hx] at h; cases h; rw [eq_of_beq hx]; exact List.mem_cons_self
    | false=>rw [hx] at h; exact List.mem_cons_of_mem _ (ih h)
theorem relabel_free {sc:Scope} {env:Env} {x:Str} {k:NameKind} (hk:k = .cell ∨ k = .free) (nc:∀ y ∈ sc.names,y.2 ≠ .cell) (h:(relabel sc env).names.lookup x = some k) : (x,NameKind.free) ∈ sc.names:=by
  have m:=lookup_mem h
  obtain ⟨⟨n,j⟩,hm,e⟩:=List.mem_map.mp m
  have q : (if (j == NameKind.free && env.scope.kind == .function && env.kindOf n == some .cell) = true then (n,NameKind.cell) else (n,j)) = (x,k):=e
  split at q
  · rename_i c
    rw [Bool.and_eq_true,Bool.and_eq_true] at c
    have j' : j = .free:=by simpa using c.1.1
    cases q
    rw [j'] at hm
    exact hm
  · cases q
    rcases hk with z | z
    · exact absurd z (nc _ hm)
    · rw [z] at hm; exact hm
theorem lookup_relabel_free {sc:Scope} {env:Env} {x:Str} : ∀ {names:List (Str × NameKind)},names.lookup x = some .free →
    (names.map fun (n,k)=>if (k == NameKind.free && env.scope.kind == .function && env.kindOf n == some .cell) then (n,NameKind.cell) else (n,k)).lookup x = some .cell ∨
    (names.map fun (n,k)=>if (k == NameKind.free && env.scope.kind == .function && env.kindOf n == some .cell) then (n,NameKind.cell) else (n,k)).lookup x = some .free
  | [],h=>by simp at h
  | (n,k) :: r,h=>by
    have ih:=@lookup_relabel_free sc env x r
    rw [List.lookup_cons] at h
    by_cases c : (k == NameKind.free && env.scope.kind == .function && env.kindOf n == some .cell) = true
    · rw [List.map_cons]
      simp only [c,if_true,List.lookup_cons]
      cases hx : x == n with
      | true=>exact .inl rfl
      | false=>rw [hx] at h; exact ih h
    · rw [List.map_cons]
      have c':=Bool.eq_false_iff.mpr c
      simp only [c',Bool.false_eq_true,if_false,List.lookup_cons]
      cases hx : x == n with
      | true=>rw [hx] at h; cases h; exact .inr rfl
      | false=>rw [hx] at h; exact ih h
theorem comp_loop {P:Program} {w:World} {A:Around} {R:Result → Shared → Prop} {s:Shared} {elt tg iter:Expr} {ifs:List Expr} {sc:Scope} {pos:Pos} {it acc:Value} {env:Env} (J:Nat → Shared → Prop)
    (turn:∀ n s,J n s → wpAny (model P w) A (pyNext it) (fun r s1=>match r with
      | none=>R (.ok .next) s1
      | some v=>wpAny (model P w) A (letOwnedTupleGo tg it v) (fun _ s2=>wpAny (model P w) A (assign tg env v) (fun _ s3 =>
          wpAny (model P w) A (forIn ifs true fun c r=>if r = true then do let ok ← isTrue c env (eval c env); pure (ForInStep.yield ok) else pure (ForInStep.yield r)) (fun ok s4 =>
            if ok = true then wpAny (model P w) A (eval elt env) (fun x s5=>wpAny (model P w) A (call (.builtin "list.append") [acc,x]) (fun _ s6=>∃ m,m < n ∧ J m s6) NoX s5) NoX s4
            else ∃ m,m < n ∧ J m s4) NoX s3) NoX s2) NoX s1) NoX s) (n:Nat) (h:J n s) :
    codeAny (model P w) A (.compLoop (.ListComp elt [⟨tg,iter,ifs,0⟩] sc pos) 0 it acc env) R s:=by
  refine codeAny_loop rfl J (fun n s hJ=>?_) n h
  refine wpAny_noted ?_
  rw [compTurn_list]
  refine wpAny_bind (wpAny_standAt (wpAny_bind (noX (thn (turn n s hJ) fun r s1 h1=>?_))))
  cases r with
  | none=>exact wpAny_pure h1
  | some v =>
    refine wpAny_bind (noX (thn h1 fun _ s2 h2=>?_))
    refine wpAny_bind (noX (thn h2 fun _ s3 h3=>?_))
    refine wpAny_bind (noX (thn h3 fun ok s4 h4=>?_))
    cases ok with
    | false=>exact wpAny_pure ⟨rfl,h4⟩
    | true=>exact wpAny_bind (wpAny_bind (noX (thn h4 fun x s5 h5=>wpAny_bind (noX (thn h5 fun _ s6 h6=>wpAny_pure (wpAny_pure ⟨rfl,h6⟩))))))
def PTs (X:Cx) (ifs:List Expr) (t:TT) : Prop :=
  ∀ (pins:List (Addr × Obj)) (s:Shared) (σ:St) (H:Hp) (Q:Bool → Hp → Prop),Inv X pins σ H s → t σ H Q →
    wpAny (model X.prog X.w) X.A (forIn ifs true fun c r=>if r = true then do let ok ← isTrue c X.env (eval c X.env); pure (ForInStep.yield ok) else pure (ForInStep.yield r)) (TP X pins σ Q) X.xe s
def tYes : TT:=fun _ H Q=>Q true H
theorem pts_nil {X:Cx} : PTs X [] tYes:=fun _ _ _ H _ I h=>wpAny_tests_nil ⟨H,I,h⟩
def tComp (cap:List (Option Nat)) (wi:TI) (g:TG) (tt:TT) (te:TE) : TE:=fun σ H Q=>wi σ H fun J H1=>∀ acc,H1 acc = none →
  ∃ W : Nat → Nat → Hp → Prop,(∃ m,W 0 m (upd H1 acc (.lst []))) ∧ ∀ i m H2,W i m H2 →
    (J.stop i H2 ∧ Q (.ref acc) H2) ∨ (J.go i H2 ∧ ∃ N : Hp → Prop,(∀ H',N H' → ∃ m',m' < m ∧ W (i + 1) m' H') ∧ ∀ x H3,J.yld i H2 x H3 → g x (capSt cap σ) H3 fun σ2 H4=>Ext (capSt cap σ) σ2 ∧ tt σ2 H4 fun b H5 =>
      if b = true then te σ2 H5 fun y H6=>∃ zs,H6 acc = some (.lst zs) ∧ zs.length < sizeLine ∧ N (upd H6 acc (.lst (zs ++ [y])))
      else N H5)
theorem HOk.but {P:Program} {w:World} {H:Hp} {h h':Heap} {C:Addr} (x:HOk P w H h) (n:H C = none) (sb:Heap.SameBut C h h') : HOk P w H h':=fun a o e =>
  (x a o e).stay (fun b u hb q=>(sb.2 b (fun z=>by
    subst z
    rcases hb with z | z
    · subst z; rw [n] at e; cases e
    · rw [n] at z; cases z)).trans q) (fun _ q=>q) fun _ _ q=>q
theorem Un.but {fs ex:List Addr} {H H':Hp} {h h1 h2:Heap} {C:Addr} (u:Un fs ex H H' h h1) (lt:h.objs.size ≤ C) (sb:Heap.SameBut C h1 h2) : Un fs ex H H' h h2:=by
  have ne : ∀ b o,h.get? b = some o → b ≠ C:=fun b o e=>Nat.ne_of_lt (Nat.lt_of_lt_of_le (Heap.lt_size e) lt)
  refine ⟨fun b o e n hb hx=>(sb.2 b (ne b o e)).trans (u.keep b o e n hb hx),fun b o e n hb hx=>?_,u.free,fun b o e hx=>?_,u.tups,u.frzs,u.tbls⟩
  · obtain ⟨sl,q⟩:=u.slot b o e n hb hx
    exact ⟨sl,(sb.2 b (ne b o e)).trans q⟩
  · obtain ⟨o',q⟩:=u.there b o e hx
    exact ⟨o',(sb.2 b (ne b o e)).trans q⟩
section
variable {X:Cx}
theorem block_ok {pins:List (Addr × Obj)} {σ:St} {H:Hp} {s:Shared} {sc:Scope} {cl:List (Str × Addr)} {N:List Str} {C:Addr} {fp:List Addr} (I:Inv X pins σ H s) (hk:sc.kind = .function) (nc:∀ y ∈ sc.names,y.2 ≠ .cell)
    (hC:s.heap.objs.size ≤ C) (hf:∀ b ∈ fp,FpOk X pins H b) (hfo:∀ b ∈ fp,∃ o,s.heap.get? b = some o) (c1:∀ x c,cl.lookup x = some c → X.env.cells.lookup x = some c) (c2:∀ n,(n,NameKind.free) ∈ sc.names → ∃ c,cl.lookup n = some c) :
    (X.block sc cl N s H C fp).Ok where
  mod:=I.ok.mod
  kind:=hk
  glob:=I.ok.glob
  blt:=I.ok.blt
  above:=hC
  inj:=fun x y c e e'=>I.ok.inj x y c (c1 x c e) (c1 y c e')
  has:=fun x h=>c2 x (h.elim (relabel_free (.inl rfl) nc) (relabel_free (.inr rfl) nc))
  cab:=fun x c e=>(nomatch e)
  hd:=I.ok.hd
  frames:=I.ok.frames
  stk:=.inl rfl
  exf:=fun b hb=>⟨fun z=>by
    obtain ⟨o,e⟩:=hfo b hb
    have lt:=Heap.lt_size e
    rw [z] at lt
    exact absurd (Nat.lt_of_lt_of_le lt hC) (Nat.lt_irrefl _),fun x c e=>(hf b hb).2.2.2.2.1 x c (c1 x c e)⟩
  bs:=I.bs
  bsz:=Nat.le_trans I.ok.bsz I.sz
  noex:=fun b o e hb=>by
    rcases (hf b hb).2.2.2.1 with z | z
    · exact I.ok.noex b o e z
    · exact absurd (Nat.lt_of_lt_of_le (Heap.lt_size (I.ok.bs b o e).1) z) (Nat.lt_irrefl _)
  exfs:=fun b hb hs=>by
    rcases List.mem_cons.mp (I.stkSub b hs) with z | z
    · exact (hf b hb).2.1 z
    · exact (hf b hb).2.2.1 z
  funs:=I.stack
  frf:=I.stkFree
theorem pe_comp {elt tg iter:Expr} {ifs:List Expr} {sc:Scope} {pos:Pos} {wi:TI} {g:TG} {tt:TT} {te:TE} (N:List Str) (cap:List (Option Nat)) (hc:X.calm = true) (hi:PI X tg iter wi)
    (hg:∀ cl s H C ex,PG (X.block sc cl N s H C ex) tg g) (ht:∀ cl s H C ex,PTs (X.block sc cl N s H C ex) ifs tt) (he:∀ cl s H C ex,PE (X.block sc cl N s H C ex) elt te)
    (hk:sc.kind = .function) (nc:∀ y ∈ sc.names,y.2 ≠ .cell) (hnames:∀ y ∈ sc.names,y.2 = .local → sc.names.lookup y.1 = some .local)
    (hfree:∀ n,(n,NameKind.free) ∈ sc.names → X.env.kindOf n = some .cell)
    (hcap:∀ (i j:Nat),cap[i]? = some (some j) → ∃ x,N[i]? = some x ∧ X.N[j]? = some x ∧ sc.names.lookup x = some .free) (hlen:cap.length = N.length)
    (hs:∀ x,foldedSetIterable iter X.env x = pure x:=by intro _; rfl) : PE X (.ListComp elt [⟨tg,iter,ifs,0⟩] sc pos) (tComp cap wi g tt te):=by
  intro pins s σ H Q I h
  obtain ⟨cl,hclos,c1,c2⟩:=closure_of (sc:=sc) (env:=X.env) fun n hn=>I.ok.has n (.inl (hfree n hn))
  rw [eval_ListComp]
  refine wpAny_comprehension_free (use:=none) rfl hs hclos hk hnames ?_
  refine thn (hi pins s σ H _ I h) fun v s1 h1=>thn h1 fun itv s2 h2=>?_
  obtain ⟨it,fp,tn,J,H2,e,I2,T,st2,f2,q2⟩:=h2
  subst e
  have hfr : H2 s2.heap.objs.size = none:=I2.fresh
  obtain ⟨W,⟨m0,w0⟩,turn⟩:=q2 s2.heap.objs.size hfr
  have I3:=I2.lnew (ys:=[]) (its:=[]) (t':=s2.toks) .nil (Nat.zero_le _)
  have hacc : H2 s2.heap.objs.size = none:=hfr
  refine wpAny_newObj_type (wpAny_newFunctionEnv nc (by intro y hy; simp at hy) (fun h4 hns hsb=>?_) hk)
  generalize hs3 : ({ s2 with heap:=s2.heap.push { cls:=.type "list", data:=.seq ([] : List Value).toArray } } : Shared) = s3 at hns hsb I3 ⊢
  have hheap : s3.heap = s2.heap.push { cls:=.type "list", data:=.seq ([] : List Value).toArray }:=by rw [← hs3]
  generalize hH3 : upd H2 s2.heap.objs.size (.lst []) = H3 at I3 w0
  have up2 : ∀ b o,s2.heap.get? b = some o → s3.heap.get? b = some o:=fun b o q=>by rw [hheap]; exact Heap.get?_push_of_some _ q
  have neA : ∀ b ∈ fp,b ≠ s2.heap.objs.size:=fun b hb=>by
    obtain ⟨o,q,_⟩:=T.obj _ _ st2 b hb
    exact Nat.ne_of_lt (Heap.lt_size q)
  have f3 : ∀ b ∈ fp,FpOk X pins H3 b:=fun b hb=>⟨by rw [← hH3,upd_ne (neA b hb)]; exact (f2 b hb).1,(f2 b hb).2⟩
  have o3 : ∀ b ∈ fp,∃ o,s3.heap.get? b = some o:=fun b hb=>by
    obtain ⟨o,q,_⟩:=T.obj _ _ st2 b hb
    exact ⟨o,up2 b o q⟩
  have ok':=block_ok (N:=N) (C:=s3.heap.objs.size) I3 hk nc (Nat.le_refl _) f3 o3 c1 c2
  generalize hC : s3.heap.objs.size = C at hns hsb ok' ⊢
  have ltC : ∀ b o,s3.heap.get? b = some o → b ≠ C:=fun b o q=>by rw [← hC]; exact Nat.ne_of_lt (Heap.lt_size q)
  have up4 : ∀ b o,s3.heap.get? b = some o → h4.get? b = some o:=fun b o q=>hsb.extBut b o (ltC b o q) (Heap.get?_push_of_some _ q)
  have st4 : tn 0 h4:=T.keep _ _ _ st2 fun b hb o q=>up4 b o (up2 b o q)
  have I4 : Inv (X.block sc cl N s3 H3 C fp) [] (capSt cap σ) H3 { s3 with heap:=h4,toks:=s3.toks + ([] : List (Str × Value)).length }:=by
    refine ⟨ok',rfl,I3.bare,Un.kept up4,⟨_,hns,fun i x v e1 e2 e3=>?_⟩,fun x c q=>?_,?_,fun x c q=>I3.freeC x c (c1 x c q),fun p hp=>(nomatch hp),I3.hok.kept up4,?_⟩
    · have ee : ∃ j,cap[i]? = some (some j) ∧ σ[j]? = some (some v):=by
        unfold capSt at e2
        rw [List.getElem?_map] at e2
        cases q : cap[i]? with
        | none=>rw [q] at e2; cases e2
        | some o =>
          rw [q] at e2
          cases o with
          | none=>cases e2
          | some j =>
            refine ⟨j,rfl,?_⟩
            have e2' : some ((σ[j]?).join) = some (some v):=e2
            cases z : σ[j]? with
            | none=>rw [z] at e2'; cases e2'
            | some o' =>
              rw [z] at e2'
              have e2'' : o' = some v:=Option.some.inj e2'
              rw [e2'']
      obtain ⟨j,ej,es⟩:=ee
      obtain ⟨x',n1,n2,n3⟩:=hcap i j ej
      have e1' : N[i]? = some x:=e1
      rw [n1] at e1'
      cases e1'
      have hfr' : (x,NameKind.free) ∈ sc.names:=lookup_mem n3
      have kc:=hfree x hfr'
      obtain ⟨m,_,hl⟩:=I3.loc
      obtain ⟨u,r,l⟩:=hl j x v n2 es (.inr (.inl kc))
      refine ⟨u,r,?_⟩
      rcases l with ⟨l,_⟩ | ⟨_,c,ec,z⟩
      · rw [kc] at l; cases l
      · obtain ⟨c',ec'⟩:=c2 x hfr'
        have:=c1 x c' ec'
        rw [ec] at this
        cases this
        obtain ⟨oc,q1,q2⟩:=z
        exact .inr ⟨lookup_relabel_free (sc:=sc) n3,c,ec',oc,up4 _ _ q1,q2⟩
    · obtain ⟨v,oc,q1,q2⟩:=I3.cell x c (c1 x c q)
      exact ⟨v,oc,up4 _ _ q1,q2⟩
    · exact I3.hok.fresh (by rw [hC]; exact Nat.le_refl _)
    · show (capSt cap σ).length = N.length
      unfold capSt
      rw [List.length_map,hlen]
  have loop : codeAny (model X.prog X.w) X.A (.compLoop (.ListComp elt [⟨tg,iter,ifs,0⟩] sc pos) 0 (.ref it) (.ref s2.heap.objs.size) (compEnvC sc cl C X.env)) (compPost (model X.prog X.w) X.A X.xe none (EP X pins σ Q) (.ref s2.heap.objs.size) C)
      { s3 with heap:=h4,toks:=s3.toks + ([] : List (Str × Value)).length }:=by
    have stat : ∀ {H':Hp},(∀ b ∈ fp,H' b = none) → ∀ b ∈ fp,FpOk (X.block sc cl N s3 H3 C fp) [] H' b:=fun hn b hb =>
      ⟨hn b hb,(ok'.exf b hb).1,ok'.exfs b hb,.inl hb,(ok'.exf b hb).2,fun p hp=>(nomatch hp)⟩
    refine comp_loop (fun n s'=>∃ i H',Inv (X.block sc cl N s3 H3 C fp) [] (capSt cap σ) H' s' ∧ tn i s'.heap ∧ (∀ b ∈ fp,H' b = none) ∧ W i n H') ?_ m0 ⟨0,H3,I4,st4,fun b hb=>(f3 b hb).1,w0⟩
    rintro n s5 ⟨i,H5,I5,st5,fr5,w5⟩
    rcases turn i n H5 w5 with ⟨stop,qn⟩ | ⟨go,N',hN',step⟩
    · refine thn (T.done (X.block sc cl N s3 H3 C fp) rfl rfl rfl hc i [] s5 _ H5 NoX I5 (stat fr5) st5 stop) fun r s6 ⟨hr,I6⟩=>?_
      subst hr
      obtain ⟨m,hm,_⟩:=I6.loc
      refine ⟨m,hm,fun h' sb=>⟨.ref s2.heap.objs.size,H5,?_,rfl,qn⟩⟩
      refine I3.call' (s':={ s6 with heap:=h' }) (ch:=fp) I6.os (I6.base.but (by rw [← hC]; exact Nat.le_refl _) sb) (I6.hok.but I6.free sb) I6.bare fun b hb=>?_
      obtain ⟨g0,g1,g2,g3,g4,g5⟩:=f3 b hb
      exact ⟨g3,g1,g4,g5⟩
    · refine thn (T.item (X.block sc cl N s3 H3 C fp) rfl rfl rfl hc i [] s5 _ H5 NoX I5 (stat fr5) st5 go) fun r s6 ⟨u,hr,h6⟩=>?_
      subst hr
      refine thn h6 fun _ s7 ⟨x,H7,I7,r7,y7,st7,fr7⟩=>?_
      have I7':=I7.pinned (stat fr7) (T.obj _ _ st7)
      have again : ∀ {σ8:St} {H8:Hp} {s8:Shared},Inv (X.block sc cl N s3 H3 C fp) ([] ++ pinsAt fp s7.heap) σ8 H8 s8 → Ext (capSt cap σ) σ8 → N' H8 →
          ∃ m,m < n ∧ ∃ i H',Inv (X.block sc cl N s3 H3 C fp) [] (capSt cap σ) H' s8 ∧ tn i s8.heap ∧ (∀ b ∈ fp,H' b = none) ∧ W i m H':=fun {σ8 H8 s8} I8 ex n8=>by
        obtain ⟨m',hm,w8⟩:=hN' H8 n8
        have I8':=I8.unpinned.weak ex.len ex.get
        refine ⟨m',hm,i + 1,H8,I8',T.keep _ _ _ st7 fun b hb o q=>(I8.pin (b,o) (List.mem_append_right _ (List.mem_append_right _ (mem_pinsAt hb q)))).1,fun b hb=>?_,w8⟩
        obtain ⟨o,q,d⟩:=T.obj _ _ st7 b hb
        exact (I8.pin (b,o) (List.mem_append_right _ (List.mem_append_right _ (mem_pinsAt hb q)))).2.1
      refine thn (hg cl s3 H3 C fp _ s7 _ H7 x u _ I7' r7 (step x H7 y7)) fun _ s8 ⟨σ8,H8,I8,ex8,q8⟩=>?_
      refine thn (ht cl s3 H3 C fp _ s8 σ8 H8 _ I8 q8) fun b s9 ⟨H9,I9,q9⟩=>?_
      cases b with
      | false=>exact again I9 ex8 q9
      | true =>
        rw [if_pos rfl] at q9 ⊢
        refine thn (he cl s3 H3 C fp _ s9 σ8 H9 _ I9 q9) fun yv s10 ⟨y,H10,I10,r10,zs,e10,l10,q10⟩=>?_
        refine thn (mt_append (X:=X.block sc cl N s3 H3 C fp) _ s10 σ8 H10 (.ref s2.heap.objs.size) [y] (.ref s2.heap.objs.size) [yv] (fun _ H'=>N' H') I10 rfl (.cons r10 .nil) ⟨_,zs,y,rfl,rfl,e10,l10,q10⟩) fun _ s11 ⟨_,H11,I11,_,q11⟩=>?_
        exact again I11 ex8 q11
  exact codeAny_compStart_list loop (T.self X.A 0 _ _ _ st4 loop)
end
theorem comp_range {lo:Int} {n:Nat} {acc:Addr} {g:TG} {tt:TT} {te:TE} {σ:St} {H:Hp} {Q:VK} (Pv:Nat → Hp → Prop) (h0:Pv 0 (upd H acc (.lst [])))
    (hs:∀ i H,i < n → Pv i H → g (.int (lo + i)) σ H fun σ2 H4=>Ext σ σ2 ∧ tt σ2 H4 fun b H5 =>
      if b = true then te σ2 H5 fun y H6=>∃ zs,H6 acc = some (.lst zs) ∧ zs.length < sizeLine ∧ Pv (i + 1) (upd H6 acc (.lst (zs ++ [y]))) else Pv (i + 1) H5) (hd:∀ H,Pv n H → Q (.ref acc) H) :
    ∃ W : Nat → Nat → Hp → Prop,(∃ m,W 0 m (upd H acc (.lst []))) ∧ ∀ i m H2,W i m H2 →
      ((Itr lo n).stop i H2 ∧ Q (.ref acc) H2) ∨ ((Itr lo n).go i H2 ∧ ∃ N : Hp → Prop,(∀ H',N H' → ∃ m',m' < m ∧ W (i + 1) m' H') ∧ ∀ x H3,(Itr lo n).yld i H2 x H3 → g x σ H3 fun σ2 H4=>Ext σ σ2 ∧ tt σ2 H4 fun b H5 =>
        if b = true then te σ2 H5 fun y H6=>∃ zs,H6 acc = some (.lst zs) ∧ zs.length < sizeLine ∧ N (upd H6 acc (.lst (zs ++ [y])))
        else N H5):=by
  refine ⟨fun i m H=>m = n - i ∧ i ≤ n ∧ Pv i H,⟨n,by simp,Nat.zero_le _,h0⟩,?_⟩
  rintro i m H2 ⟨rfl,hi,p⟩
  by_cases hlt : i < n
  · refine .inr ⟨hlt,Pv (i + 1),fun H' p'=>⟨n - (i + 1),by omega,rfl,hlt,p'⟩,fun x H' y=>?_⟩
    obtain ⟨e,y⟩:=y
    subst e y
    exact hs i _ hlt p
  · have e : i = n:=by omega
    subst e
    exact .inl ⟨Nat.le_refl _,hd H2 p⟩
def compCk (sc:Scope) (env:Env) (XN N:List Str) (cap:List (Option Nat)) : Bool :=
  (sc.kind == .function) && (sc.names.all fun y=>y.2 != .cell) && (sc.names.all fun y=>y.2 != .local || sc.names.lookup y.1 == some .local) &&
  (sc.names.all fun y=>y.2 != .free || env.kindOf y.1 == some .cell) &&
  ((List.range cap.length).all fun i=>match cap[i]? with
    | some (some j)=>(match N[i]? with | some x=>XN[j]? == some x && sc.names.lookup x == some .free | none=>false)
    | _=>true) && (cap.length == N.length)
theorem pe_compB {X:Cx} {elt tg iter:Expr} {ifs:List Expr} {sc:Scope} {pos:Pos} {wi:TI} {g:TG} {tt:TT} {te:TE} (N:List Str) (cap:List (Option Nat)) (hc:X.calm = true) (hi:PI X tg iter wi)
    (hg:∀ cl s H C ex,PG (X.block sc cl N s H C ex) tg g) (ht:∀ cl s H C ex,PTs (X.block sc cl N s H C ex) ifs tt) (he:∀ cl s H C ex,PE (X.block sc cl N s H C ex) elt te)
    (ck:compCk sc X.env X.N N cap = true) (hs:∀ x,foldedSetIterable iter X.env x = pure x:=by intro _; rfl) : PE X (.ListComp elt [⟨tg,iter,ifs,0⟩] sc pos) (tComp cap wi g tt te):=by
  unfold compCk at ck
  simp only [Bool.and_eq_true] at ck
  obtain ⟨⟨⟨⟨⟨k1,k2⟩,k3⟩,k4⟩,k5⟩,k6⟩:=ck
  refine pe_comp N cap hc hi hg ht he (by simpa using k1) (fun y hy=>?_) (fun y hy z=>?_) (fun n hn=>?_) (fun i j e=>?_) (by simpa using k6) hs
  · have:=List.all_eq_true.mp k2 y hy
    simpa using this
  · have:=List.all_eq_true.mp k3 y hy
    rw [z] at this
    simpa using this
  · have:=List.all_eq_true.mp k4 _ hn
    simpa using this
  · have hi : i < cap.length:=(List.getElem?_eq_some_iff.mp e).1
    have:=List.all_eq_true.mp k5 i (List.mem_range.mpr hi)
    rw [e] at this
    dsimp only at this
    cases q : N[i]? with
    | none=>rw [q] at this; cases this
    | some x =>
      rw [q] at this
      dsimp only at this
      rw [Bool.and_eq_true] at this
      exact ⟨x,rfl,by simpa using this.1,by simpa using this.2⟩
end L2
namespace L2
open PySem PySem.Spec PyProof.Rows
section
variable {prog:Program} {w:World} {A:Around} {E:Value → Shared → Prop} {s:Shared}
theorem next_tup_item {it t:Addr} {i:Nat} {items:Array Value} {x:Value} {Q:Value → Shared → Prop} (hit:s.heap.IsTupleIter it t i) (ht:s.heap.IsTuple t items) (hx:items[i]? = some x)
    (hQ:∀ h',h'.IsTupleIter it t (i + 1) → Heap.SameBut it s.heap h' → Q x { s with heap:=h' }) : wpAny (model prog w) A (Builtin.SmallTypes.nextOf (.ref it)) Q E s:=by
  obtain ⟨o,ho,hc,hd⟩:=id hit; obtain ⟨ol,hol,_,nl,hdl⟩:=ht; unfold Builtin.SmallTypes.nextOf
  refine wpAny_bind (wpAny_callSpecial?_slot (name:=Str.ofString "__next__") hit.typeIs F.slot_tuple_iterator_next (wpAny_call_entry F.slot_tuple_iterator_next hit.typeIs F.entry_tuple_iterator_next ?_ (F.args_tuple_iterator_next_1 _)))
  show wpAny _ _ (field (.ref it) 0 >>= _) _ _ s; refine wpAny_bind (wpAny_field ho hd (x:=.ref t) rfl ?_)
  show wpAny _ _ (if (Value.ref t == Value.none) = true then _ else _) _ _ s; rw [if_neg (show ¬ ((Value.ref t == Value.none) = true) from Bool.false_ne_true)]
  show wpAny _ _ (field (.ref it) 1 >>= _) _ _ s; refine wpAny_bind (wpAny_field ho hd (x:=.int i 0) rfl ?_)
  show wpAny _ _ (seqItems? (.ref t) >>= _) _ _ s; refine wpAny_bind (wpAny_seqItems hol hdl ?_); simp only [Int.toNat_natCast,hx]
  refine wpAny_bind (wpAny_setField ho hd (by simp) (wpAny_pure ⟨x,rfl,wpAny_pure (hQ _ ?_ (Heap.SameBut.update ..))⟩))
  exact ⟨_,Heap.get?_update_self _ ho (Obj.isFreed_of_fields (Obj.data_mapFields hd _)),(Obj.cls_mapFields ..).trans hc,by rw [Obj.data_mapFields hd]; simp [rawInt]⟩
theorem next_tup_end {it t:Addr} {i:Nat} {items:Array Value} {Q:Value → Shared → Prop} (hh:A.handled = none) (hit:s.heap.IsTupleIter it t i) (ht:s.heap.IsTuple t items) (hx:items[i]? = none)
    (hE:∀ h' e,Heap.ExtBut it s.heap h' → (∃ o,h'.get? e = some o ∧ o.cls = .type "StopIteration") → E (.ref e) { s with heap:=h' }) : wpAny (model prog w) A (Builtin.SmallTypes.nextOf (.ref it)) Q E s:=by
  obtain ⟨o,ho,hc,hd⟩:=id hit; obtain ⟨ol,hol,_,nl,hdl⟩:=ht; unfold Builtin.SmallTypes.nextOf
  refine wpAny_bind (wpAny_callSpecial?_slot (name:=Str.ofString "__next__") hit.typeIs F.slot_tuple_iterator_next (wpAny_call_entry F.slot_tuple_iterator_next hit.typeIs F.entry_tuple_iterator_next ?_ (F.args_tuple_iterator_next_1 _)))
  show wpAny _ _ (field (.ref it) 0 >>= _) _ _ s; refine wpAny_bind (wpAny_field ho hd (x:=.ref t) rfl ?_)
  show wpAny _ _ (if (Value.ref t == Value.none) = true then _ else _) _ _ s; rw [if_neg (show ¬ ((Value.ref t == Value.none) = true) from Bool.false_ne_true)]
  show wpAny _ _ (field (.ref it) 1 >>= _) _ _ s; refine wpAny_bind (wpAny_field ho hd (x:=.int i 0) rfl ?_)
  show wpAny _ _ (seqItems? (.ref t) >>= _) _ _ s; refine wpAny_bind (wpAny_seqItems hol hdl ?_); simp only [Int.toNat_natCast,hx]
  refine wpAny_bind (wpAny_rule (wpAny_bind (wpAny_setField ho hd (by simp) ?_))); show wpAny _ _ (newExc (.type "StopIteration") [] >>= _) _ _ _
  refine wpAny_bind ?_; simp only [newExc,newTuple]; refine wpAny_bind (wpAny_newObj_type ?_ (by size_fits))
  refine wpAny_bind (m:=firstArgMember _ _) (wpAny_of_eq (a:=Value.none) (by first | rfl | (simp only [firstArgMember]; rfl)) ?_); refine wpAny_newObj_type ?_ (by size_fits)
  simp only [raiseNew]; refine wpAny_bind (wpAny_handled ?_); first | rw [show A.in1.handled = none from hh] | rw [hh]
  refine wpAny_bind (wpAny_pure (wpAny_throw ?_)); exact hE _ _ (((Heap.SameBut.update ..).extBut.push _).push _) ⟨_,Heap.get?_push_size _ rfl,rfl⟩
end
section
variable {X:Cx} {pins:List (Addr × Obj)} {σ:St} {H:Hp} {s:Shared} {h':Heap}
theorem Inv.turnedN {t':Nat} {ch:List Addr} (I:Inv X pins σ H s) (k:∀ b o,b ∉ ch → s.heap.get? b = some o → h'.get? b = some o) (hf:∀ b ∈ ch,FpOk X pins H b) : Inv X pins σ H { s with heap:=h',toks:=t' }:=by
  refine I.step (g':=s.gens) (d':=s.drawn) (ch:=ch) (fun b hb=>?_) (fun b o _ _ hc e _=>k b o hc e) (fun b o _ _ hc e _=>⟨o.slots,k b o hc e⟩) (fun _ _ _ _ n=>n)
    (fun b o hc e=>⟨o,k b o hc e⟩) (fun _ _ e=>e) (fun _ _ _ e=>e) (fun b ps e=>⟨#[],by rw [e]; simp⟩) (fun m hm=>?_) (fun b u e=>?_) I.bare
  · obtain ⟨f0,f1,f2,f3,f4,f5⟩:=hf b hb
    exact ⟨f3,f1,f4,f5⟩
  · obtain ⟨o,es,ep,ho,r⟩:=hm
    exact ⟨o,es,ep,k _ o (fun z=>(hf _ z).2.1 rfl) ho,r⟩
  · refine (I.hok b u e).stay (fun c v hc q=>k c v (fun z=>?_) q) (fun _ q=>q) fun _ _ q=>q
    have n:=(hf c z).1
    rcases hc with y | y
    · rw [y,e] at n; cases n
    · rw [y] at n; cases n
theorem Inv.turnedL {t':Nat} {ch:List Addr} {a:Addr} {o:HO} (I:Inv X pins σ H s) (k:∀ b o,b ∉ ch → s.heap.get? b = some o → h'.get? b = some o) (hf:∀ b ∈ ch,FpOk X pins H b) (hp:s.heap.objs.size ≤ a)
    (new:ObjOk X.prog X.w (upd H a o) h' a o) : Inv X pins σ (upd H a o) { s with heap:=h',toks:=t' }:=by
  have hn : H a = none:=I.hok.fresh hp
  have ne : ∀ b u,s.heap.get? b = some u → b ≠ a:=fun b u e=>Nat.ne_of_lt (Nat.lt_of_lt_of_le (Heap.lt_size e) hp)
  refine I.step (g':=s.gens) (d':=s.drawn) (ch:=ch) (fun b hb=>?_) (fun b o _ _ hc e _=>k b o hc e) (fun b o _ _ hc e _=>⟨o.slots,k b o hc e⟩) (fun b u _ e n=>by rw [upd_ne (ne b u e)]; exact n)
    (fun b o hc e=>⟨o,k b o hc e⟩) (fun b xs q=>by rw [upd_ne (ne_of_none q hn)]; exact q) (fun b u xs q=>by rw [upd_ne (ne_of_none q hn)]; exact q) (fun b ps q=>⟨#[],by rw [upd_ne (ne_of_none q hn),q]; simp⟩) (fun m hm=>?_) (fun b u e=>?_) I.bare
  · obtain ⟨f0,f1,f2,f3,f4,f5⟩:=hf b hb
    exact ⟨f3,f1,f4,f5⟩
  · obtain ⟨o,es,ep,ho,r⟩:=hm
    exact ⟨o,es,ep,k _ o (fun z=>(hf _ z).2.1 rfl) ho,r⟩
  · by_cases hb : b = a
    · subst hb
      rw [upd_same] at e
      cases e
      exact new
    · rw [upd_ne hb] at e
      refine (I.hok b u e).stay (fun c v hc q=>k c v (fun z=>?_) q) (fun c q=>by rw [upd_ne (ne_of_none q hn)]; exact q) fun c xs q=>by rw [upd_ne (ne_of_none q hn)]; exact q
      have n:=(hf c z).1
      rcases hc with y | y
      · rw [y,e] at n; cases n
      · rw [y] at n; cases n
end
end L2
namespace L2
open PySem PySem.Spec PyProof.Rows
section
variable {X:Cx}
theorem same_upd {H:Hp} {p:Addr} {o:HO} (h:H p = none) : Same H (upd H p o):=fun b u q=>by rw [upd_ne (ne_of_none q h)]; exact q
def rIsi (K:PySem.W.Frag) : List V → Hp → VK → Prop:=fun xs H Q=>∃ x T t b,xs = [x,.ty T] ∧ TyOf K H x t ∧ PySem.W.kitOne K t (.type T) = some b ∧ Q (.bl b) H
theorem call_isi : CallR X (.builtin "isinstance") (rIsi X.K):=by
  intro pins s σ H xs us Q I r h
  obtain ⟨x,T,t,b,rfl,ty,e,q⟩:=h
  obtain ⟨u,w',rfl,ru,rw'⟩:=vals2 r
  cases rw'
  exact isinst_ok I ru ty e fun tk=>⟨.bl b,H,I.tok tk,rfl,q⟩
def rSlS : V → Option Int → Option Int → Hp → VK → Prop:=fun x lo hi H Q=>∃ z,x = .str z ∧ z.length ≤ sizeLine ∧ ((Txt.slice z lo hi).length ≤ z.length → Q (.str (Txt.slice z lo hi)) H)
theorem part_of {v:Value} {o:Option Int} (p:IsPart v o) : ∃ q : Option (Int × Tok),q.map (·.1) = o ∧ v = (match q with | none=>Value.none | some (i,t)=>.int i t):=by
  cases p with
  | none=>exact ⟨none,rfl,rfl⟩
  | int i t=>exact ⟨some (i,t),rfl,rfl⟩
theorem sl_str : SlR X rSlS:=by
  intro pins s σ H x v vl vu lo hi sl Q I rx hs pl pu h
  obtain ⟨z,rfl,hz,q⟩:=h
  obtain ⟨t,rfl⟩:=rx
  obtain ⟨l,hl,el⟩:=part_of pl
  obtain ⟨u,hu,eu⟩:=part_of pu
  subst hl hu
  refine ⟨"str", _,F.slot_str_getitem.lookup,typeIs_str _ _ _,wpAny_getItem_str_slice (l:=l) (u:=u) (st:=none) ?_ rfl (post_val_or_str ⟨Nat.le_trans (Txt.slice_le z _ _) hz,fun t' k=>⟨.str (Txt.slice z _ _),H,I.kept (fun _ _ e=>e),⟨t',rfl⟩,q (Txt.slice_le z _ _)⟩⟩)⟩
  obtain ⟨o,ho,hc,hd⟩:=hs
  refine ⟨o,ho,hc,?_⟩
  rw [hd,el,eu]
  cases l <;> cases u <;> rfl
theorem eqL_all {A:Around} {s:Shared} {xs ys:List V} {us ws:List Value} (rx:Vals xs us) (ry:Vals ys ws) (fx:xs.all flatV = true) (fy:ys.all flatV = true) :
    ∃ e : Nat → Bool,(∀ j (h1:j < us.toArray.size) (h2:j < ws.toArray.size),SeqAt.EqAt A s us.toArray[j] ws.toArray[j] (e j)) ∧ ∀ j (x y:V),xs[j]? = some x → ys[j]? = some y → e j = eqV x y:=by
  refine ⟨fun j=>match xs[j]?,ys[j]? with | some x,some y=>eqV x y | _,_=>false,fun j h1 h2=>?_,fun j x y e1 e2=>by simp only [e1,e2]⟩
  have l1:=rx.length
  have l2:=ry.length
  have g1 : j < xs.length:=by rw [l1]; simpa using h1
  have g2 : j < ys.length:=by rw [l2]; simpa using h2
  obtain ⟨u,eu,ru⟩:=rx.get (List.getElem?_eq_getElem g1)
  obtain ⟨v,ev,rv⟩:=ry.get (List.getElem?_eq_getElem g2)
  have e1 : us.toArray[j] = u:=by
    have:=List.getElem?_eq_some_iff.mp eu
    obtain ⟨_,z⟩:=this
    simpa using z
  have e2 : ws.toArray[j] = v:=by
    have:=List.getElem?_eq_some_iff.mp ev
    obtain ⟨_,z⟩:=this
    simpa using z
  simp only [List.getElem?_eq_getElem g1,List.getElem?_eq_getElem g2,e1,e2]
  exact eqAt_V ru rv (List.all_eq_true.mp fx _ (List.getElem_mem g1)) (List.all_eq_true.mp fy _ (List.getElem_mem g2))
theorem eqV_str (a b:Str) : eqV (.str a) (.str b) = true ↔ a = b:=by
  constructor
  · intro h; simpa [eqV] using h
  · intro h; subst h; simp [eqV]
theorem all_strs {xs ys:List Str} (hl:xs.length = ys.length) {e:Nat → Bool} (he:∀ j (x y:V),(xs.map V.str)[j]? = some x → (ys.map V.str)[j]? = some y → e j = eqV x y) : (List.range xs.length).all e = decide (xs = ys):=by
  rw [Bool.eq_iff_iff,List.all_eq_true,decide_eq_true_iff]
  have at_ : ∀ j (h1:j < xs.length) (h2:j < ys.length),e j = eqV (.str xs[j]) (.str ys[j]):=fun j h1 h2=>he j _ _ (by simp [h1]) (by simp [h2])
  constructor
  · intro h
    refine List.ext_getElem hl fun j h1 h2=>?_
    have:=h j (List.mem_range.mpr h1)
    rw [at_ j h1 h2,eqV_str] at this
    exact this
  · intro h j hj
    subst h
    have h1:=List.mem_range.mp hj
    rw [at_ j h1 h1,eqV_str]
def rEqS (neg:Bool) : R2:=fun x y H Q=>∃ (p r:Addr) (xs ys:List Str),x = .ref p ∧ y = .ref r ∧ H p = some (.lst (xs.map V.str)) ∧ H r = some (.lst (ys.map V.str)) ∧ Q (.bl (if neg then !decide (xs = ys) else decide (xs = ys))) H
theorem flat_strs (xs:List Str) : (xs.map V.str).all flatV = true:=by
  rw [List.all_eq_true]
  intro x hx
  obtain ⟨y,_,rfl⟩:=List.mem_map.mp hx
  rfl
theorem op_neS (hu:X.A.units < cLine) : OpR X (compareOp .NotEq) (rEqS true):=by
  intro pins s σ H x y v u Q I rx ry h
  obtain ⟨p,r,xs,ys,rfl,rfl,hp,hr,q⟩:=h
  cases rx
  cases ry
  obtain ⟨_,its,n,r1,l1,e1⟩:=I.lstM hp
  obtain ⟨_,its2,n2,r2,l2,e2⟩:=I.lstM hr
  have L1 : s.heap.IsList p its.toArray:=⟨_,e1,rfl,_,rfl⟩
  have L2 : s.heap.IsList r its2.toArray:=⟨_,e2,rfl,_,rfl⟩
  rw [List.length_map] at l1 l2
  by_cases hl : xs.length = ys.length
  · obtain ⟨e,h1,h2⟩:=eqL_all (A:=X.A.in1) (s:=s) r1 r2 (flat_strs xs) (flat_strs ys)
    refine SeqAt.RcNeAt.lists L1 L2 (by simp; omega) hu h1 _ _ _ _ ?_
    have ez : its.toArray.size = xs.length:=by simp; omega
    rw [ez,all_strs hl h2]
    exact ⟨.bl (!decide (xs = ys)),H,I,rfl,by simpa using q⟩
  · refine SeqAt.RcNeAt.lists_lengths L1 L2 (by simp; omega) hu _ _ _ _ ⟨.bl true,H,I,rfl,?_⟩
    have ne : xs ≠ ys:=fun z=>hl (by rw [z])
    rw [decide_eq_false ne] at q
    exact q
theorem strs_of {P:Program} {w:World} : ∀ {vs:List (Key × Value)} {ks:List Str} {us:List Value},vs.map (·.1) = ks.map Sum.inr → us.length = vs.length →
    (∀ (j:Nat) (v:Value),us[j]? = some v → ∃ k x,vs[j]? = some (k,x) ∧ (mixKind P w).is k v = true) → StrsAre us ks
  | [],[],[],_,_,_=>.nil
  | (k,x) :: vs,y :: ks,u :: us,e,hl,h=>by
    have e1 : k = Sum.inr y:=(List.cons.inj e).1
    have e2 : vs.map (·.1) = ks.map Sum.inr:=(List.cons.inj e).2
    obtain ⟨k',x',q,m⟩:=h 0 u rfl
    have q' : (k,x) = (k',x'):=Option.some.inj q
    cases q'
    subst e1
    rcases keyIs_shape (show keyIs (Sum.inr y) u = true from m) with ⟨i,t,z,_⟩ | ⟨z,t,z1,z2⟩
    · cases z
    · cases z1
      subst z2
      exact .cons _ t (strs_of e2 (by simpa using hl) fun j v hv=>h (j + 1) v (by simpa using hv))
  | [],_ :: _,_,e,_,_=>nomatch e
  | _ :: _,[],_,e,_,_=>nomatch e
  | [],[],_ :: _,_,e,_=>nomatch e
  | _ :: _,_ :: _,[],_,e,_=>nomatch e
theorem vals_strs : ∀ {us:List Value} {ks:List Str},StrsAre us ks → Vals (ks.map V.str) us
  | _,_,.nil=>.nil
  | _,_,.cons y t r=>.cons ⟨t,rfl⟩ (vals_strs r)
theorem cps_trans {a b c:Str} (h1:ltCps b.cps.toList a.cps.toList = false) (h2:ltCps c.cps.toList b.cps.toList = false) : ltCps c.cps.toList a.cps.toList = false:=by
  rw [ltCps_eq,decide_eq_false_iff_not] at *
  exact List.le_trans (l₁:=a.cps.toList) (l₂:=b.cps.toList) (l₃:=c.cps.toList) h1 h2
theorem cps_anti {a b:Str} (h1:ltCps b.cps.toList a.cps.toList = false) (h2:ltCps a.cps.toList b.cps.toList = false) : a = b:=by
  rw [ltCps_eq,decide_eq_false_iff_not] at *
  have e : a.cps.toList = b.cps.toList:=List.le_antisymm (as:=a.cps.toList) (bs:=b.cps.toList) h1 h2
  cases a; cases b
  congr
  exact Array.toList_inj.mp e
theorem rising_all : ∀ (p:Str) (l:List Str),risingS p l = true → (p :: l).Pairwise (fun a b=>ltCps b.cps.toList a.cps.toList = false)
  | p,[],_=>by simp
  | p,x :: r,h=>by
    have h' : (!ltCps x.cps.toList p.cps.toList && risingS x r) = true:=h
    rw [Bool.and_eq_true] at h'
    have h1 : ltCps x.cps.toList p.cps.toList = false:=by simpa using h'.1
    have ih:=rising_all x r h'.2
    refine List.pairwise_cons.mpr ⟨fun y hy=>?_,ih⟩
    rcases List.mem_cons.mp hy with z | z
    · subst z; exact h1
    · exact cps_trans h1 ((List.pairwise_cons.mp ih).1 y z)
theorem pairwise_sorted : ∀ {l:List Str},sortedS l = true → l.Pairwise (fun a b=>ltCps b.cps.toList a.cps.toList = false)
  | [],_=>.nil
  | x :: r,h=>rising_all x r h
theorem kv_keys {kvs:List (Key × V)} {vs:List (Key × Value)} (h:KV kvs vs) : kvs.map (·.1) = vs.map (·.1):=by
  unfold KV at h
  induction h with
  | nil=>rfl
  | cons r _ ih=>simp [r.1,ih]
end
end L2
namespace L2
open PySem PySem.Spec PyProof.Rows
structure FnB (P:Program) (w:World) (K:PySem.W.Frag) (mg:Str → Option Value) (base:Heap) (k:Nat) (x:Str) (f:Addr) (fd:FuncData) (ps:List Str) (sp:Sp) : Prop where
  ok : FnOk P w K mg base CX0 k f fd ps sp
  bd : Binds K fd ps []
  kp : PySem.W.keepIn K (.ref f) = true
  gl : mg x = some (.ref f)
theorem FnB.up {P:Program} {w:World} {K:PySem.W.Frag} {mg:Str → Option Value} {base:Heap} {j k:Nat} {x:Str} {f:Addr} {fd:FuncData} {ps:List Str} {sp:Sp} (F:FnB P w K mg base j x f fd ps sp) (h:j ≤ k) : FnB P w K mg base k x f fd ps sp :=
  ⟨F.ok.mono h,F.bd,F.kp,F.gl⟩
def Tk (H H':Hp) : Prop:=∀ b xs,H b = some (.tup xs) → H' b = some (.tup xs)
theorem Tk.trans {H H1 H2:Hp} (a:Tk H H1) (b:Tk H1 H2) : Tk H H2:=fun c xs h=>b c xs (a c xs h)
theorem Same.tk {H H':Hp} (h:Same H H') : Tk H H':=fun b xs e=>h b _ e
theorem Tk.lst {H:Hp} {p:Addr} {xs:List V} {o:HO} (h:H p = some (.lst xs)) : Tk H (upd H p o):=fun b ys e=>by
  rw [upd_ne (fun z=>by subst z; rw [h] at e; cases e)]; exact e
section
variable {X:Cx}
end
inductive Atom where
  | name (x:Str) | num (n:Int) | gap (g:Str)
inductive Bin where
  | add | sub | mul | thn
def Bin.s : Bin → Str
  | .add => "add" | .sub => "sub" | .mul => "mul" | .thn => "then"
inductive Tr where
  | num (n:Int) | name (x:Str) | ask (x:Str) | stop (x:Str) | gap (g:Str) (as:List Atom)
  | say (a:Tr) | bin (o:Bin) (a b:Tr) | ite (a b c:Tr) | lett (x:Str) (a b:Tr)
def AtRep (H:Hp) : Atom → V → Prop
  | .name x,v=>∃ a,v = .ref a ∧ H a = some (.tup [.str "name", .str x])
  | .num n,v=>∃ a,v = .ref a ∧ H a = some (.tup [.str "num", .int n])
  | .gap g,v=>∃ a b,v = .ref a ∧ H a = some (.tup [.str "gap", .str g,.ref b]) ∧ H b = some (.tup [])
def Rep (H:Hp) : Tr → V → Prop
  | .num n,v=>∃ a,v = .ref a ∧ H a = some (.tup [.str "num", .int n])
  | .name x,v=>∃ a,v = .ref a ∧ H a = some (.tup [.str "name", .str x])
  | .ask x,v=>∃ a,v = .ref a ∧ H a = some (.tup [.str "ask", .str x])
  | .stop x,v=>∃ a,v = .ref a ∧ H a = some (.tup [.str "stop", .str x])
  | .gap g as,v=>∃ a b us,v = .ref a ∧ H a = some (.tup [.str "gap", .str g,.ref b]) ∧ H b = some (.tup us) ∧ us.length ≤ 1000 ∧ Paired (AtRep H) as us
  | .say t,v=>∃ a u,v = .ref a ∧ H a = some (.tup [.str "say", u]) ∧ Rep H t u
  | .bin o s t,v=>∃ a u w,v = .ref a ∧ H a = some (.tup [.str o.s,u,w]) ∧ Rep H s u ∧ Rep H t w
  | .ite r s t,v=>∃ a u w z,v = .ref a ∧ H a = some (.tup [.str "if", u,w,z]) ∧ Rep H r u ∧ Rep H s w ∧ Rep H t z
  | .lett x s t,v=>∃ a u w,v = .ref a ∧ H a = some (.tup [.str "let", .str x,u,w]) ∧ Rep H s u ∧ Rep H t w
theorem AtRep.mono {H H':Hp} (k:Tk H H') : ∀ {t:Atom} {v:V},AtRep H t v → AtRep H' t v
  | .name _,_,⟨a,e,h⟩=>⟨a,e,k _ _ h⟩
  | .num _,_,⟨a,e,h⟩=>⟨a,e,k _ _ h⟩
  | .gap _,_,⟨a,b,e,h,h'⟩=>⟨a,b,e,k _ _ h,k _ _ h'⟩
theorem Rep.mono {H H':Hp} (k:Tk H H') : ∀ {t:Tr} {v:V},Rep H t v → Rep H' t v
  | .num _,_,⟨a,e,h⟩=>⟨a,e,k _ _ h⟩
  | .name _,_,⟨a,e,h⟩=>⟨a,e,k _ _ h⟩
  | .ask _,_,⟨a,e,h⟩=>⟨a,e,k _ _ h⟩
  | .stop _,_,⟨a,e,h⟩=>⟨a,e,k _ _ h⟩
  | .gap _ _,_,⟨a,b,us,e,h,h',n,p⟩=>⟨a,b,us,e,k _ _ h,k _ _ h',n,Paired.mapP p fun _ _ z=>z.mono k⟩
  | .say _,_,⟨a,u,e,h,r⟩=>⟨a,u,e,k _ _ h,r.mono k⟩
  | .bin _ _ _,_,⟨a,u,w,e,h,r,s⟩=>⟨a,u,w,e,k _ _ h,r.mono k,s.mono k⟩
  | .ite _ _ _,_,⟨a,u,w,z,e,h,r,s,t⟩=>⟨a,u,w,z,e,k _ _ h,r.mono k,s.mono k,t.mono k⟩
  | .lett _ _ _,_,⟨a,u,w,e,h,r,s⟩=>⟨a,u,w,e,k _ _ h,r.mono k,s.mono k⟩
inductive Kd where
  | num | name | ask | stop | gap | say | add | sub | mul | thn | ite | lett
  deriving DecidableEq
def Kd.s : Kd → Str
  | .num => "num" | .name => "name" | .ask => "ask" | .stop => "stop" | .gap => "gap"
  | .say => "say" | .add => "add" | .sub => "sub" | .mul => "mul" | .thn => "then" | .ite => "if" | .lett => "let"
def Kd.leaf : Kd → Bool
  | .num=>true | .name=>true | .ask=>true | .stop=>true | .gap=>true
  | _=>false
def Bin.kd : Bin → Kd
  | .add=>.add | .sub=>.sub | .mul=>.mul | .thn=>.thn
def Tr.kd : Tr → Kd
  | .num _=>.num | .name _=>.name | .ask _=>.ask | .stop _=>.stop | .gap _ _=>.gap
  | .say _=>.say | .bin o _ _=>o.kd | .ite _ _ _=>.ite | .lett _ _ _=>.lett
def Tr.sign (t:Tr) : Str:=t.kd.s
theorem Bin.kd_s (o:Bin) : o.kd.s = o.s:=by cases o <;> rfl
def Tr.parts : Tr → List Tr
  | .say a=>[a] | .bin _ a b=>[a,b] | .ite a b c=>[a,b,c] | .lett _ a b=>[a,b]
  | _=>[]
def Tr.head : Tr → Nat
  | .gap _ _=>3 | .say _=>1 | .bin _ _ _=>1 | .ite _ _ _=>1
  | _=>2
theorem Rep.all {H:Hp} : ∀ {t:Tr} {v:V},Rep H t v → ∃ a hs us,v = .ref a ∧ H a = some (.tup (.str t.sign :: hs ++ us)) ∧ hs.length + 1 = t.head ∧ Paired (Rep H) t.parts us
  | .num n,_,⟨a,e,h⟩=>⟨a,[.int n],[],e,h,rfl,.nil⟩
  | .name x,_,⟨a,e,h⟩=>⟨a,[.str x],[],e,h,rfl,.nil⟩
  | .ask x,_,⟨a,e,h⟩=>⟨a,[.str x],[],e,h,rfl,.nil⟩
  | .stop x,_,⟨a,e,h⟩=>⟨a,[.str x],[],e,h,rfl,.nil⟩
  | .gap g _,_,⟨a,b,us,e,h,h',_,p⟩=>⟨a,[.str g,.ref b],[],e,h,rfl,.nil⟩
  | .say _,_,⟨a,u,e,h,r⟩=>⟨a,[],[u],e,h,rfl,.cons r .nil⟩
  | .bin o _ _,_,⟨a,u,w,e,h,r,s⟩=>⟨a,[],[u,w],e,(by show _ = some (HO.tup [V.str o.kd.s,u,w]); rw [Bin.kd_s]; exact h),rfl,.cons r (.cons s .nil)⟩
  | .ite _ _ _,_,⟨a,u,w,z,e,h,r,s,t⟩=>⟨a,[],[u,w,z],e,h,rfl,.cons r (.cons s (.cons t .nil))⟩
  | .lett x _ _,_,⟨a,u,w,e,h,r,s⟩=>⟨a,[.str x],[u,w],e,h,rfl,.cons r (.cons s .nil)⟩
def Tr.size : Tr → Nat
  | .say a=>a.size + 1 | .bin _ a b=>a.size + b.size + 1 | .ite a b c=>a.size + b.size + c.size + 1 | .lett _ a b=>a.size + b.size + 1
  | _=>1
theorem paired_get {α:Type} {F:α → V → Prop} : ∀ {as:List α} {us:List V} {i:Nat} {u:V},Paired F as us → us[i]? = some u → ∃ a,as[i]? = some a ∧ F a u
  | _,_,_,_,.nil,e=>by simp at e
  | _,_,0,_,.cons r _,e=>by simp at e; subst e; exact ⟨_,rfl,r⟩
  | _,_,i + 1,u,.cons _ t,e=>by
    obtain ⟨a,h1,h2⟩:=paired_get (i:=i) (u:=u) t (by simpa using e)
    exact ⟨a,by simpa using h1,h2⟩
theorem same_set {H H':Hp} {p:Addr} {o:HO} (g:Same H H') (h:H p = none) : Same H (upd H' p o):=fun b u q=>by rw [upd_ne (ne_of_none q h)]; exact g b u q
theorem take_next {α:Type} {as:List α} {i:Nat} {a:α} (h:as[i]? = some a) : as.take (i + 1) = as.take i ++ [a]:=by
  rw [List.take_add_one,h]; rfl
def Atom.names : Atom → List Str
  | .name x=>[x]
  | _=>[]
def Tr.names : Tr → List Str
  | .name x=>[x]
  | .gap _ as=>as.flatMap Atom.names
  | _=>[]
theorem line1000 {n:Nat} (h:n ≤ 1000) : n ≤ sizeLine:=Nat.le_of_lt (small1000 h)
def constVs : List Expr → Option (List V)
  | []=>some []
  | .Constant (.str x) _ _ :: r=>(constVs r).map fun l=>V.str x :: l
  | .Constant (.int i) _ _ :: r=>(constVs r).map fun l=>V.int i :: l
  | _=>none
def tRow (vs:List V) : TA:=fun _ H Q=>Q vs H
theorem pa_row {X:Cx} : ∀ {es:List Expr} (vs:List V),constVs es = some vs → PA X es (tRow vs)
  | [],vs,h=>by cases h; exact pa_nil
  | .Constant (.str x) j p :: r,vs,h=>by
    obtain ⟨l,hl,e⟩:=Option.map_eq_some_iff.mp (show (constVs r).map (fun l=>V.str x :: l) = some vs from h)
    subst e
    exact pa_cons pe_str (pa_row l hl)
  | .Constant (.int x) j p :: r,vs,h=>by
    obtain ⟨l,hl,e⟩:=Option.map_eq_some_iff.mp (show (constVs r).map (fun l=>V.int x :: l) = some vs from h)
    subst e
    exact pa_cons pe_int (pa_row l hl)
def rowT : Expr → Option (List V)
  | .Tuple es _ _=>constVs es
  | _=>none
def rowL : Expr → Option (List V)
  | .List es _=>constVs es
  | _=>none
theorem pe_tupR {X:Cx} {e:Expr} (vs:List V) (h:rowT e = some vs) : PE X e (tTup (tRow vs)):=by
  unfold rowT at h
  split at h
  · exact pe_tup (pa_row vs h)
  · cases h
theorem pe_lstR {X:Cx} {e:Expr} (vs:List V) (h:rowL e = some vs) : PE X e (tLst (tRow vs)):=by
  unfold rowL at h
  split at h
  · exact pe_lst (pa_row vs h)
  · cases h
end L2
namespace L2
open PySem
abbrev DRow:=Str × (Str ⊕ Int)
abbrev En:=Str → Int
abbrev Res:=List DRow × (Int ⊕ Str)
def askR (x:Str) : DRow:=("ask", .inl x)
def sayR (n:Int) : DRow:=("say", .inr n)
def Bin.op : Bin → Int → Int → Int
  | .add,m,n=>(m + n) % 10 ^ 30
  | .sub,m,n=>(m - n) % 10 ^ 30
  | .mul,m,n=>(m * n) % 10 ^ 30
  | .thn,_,n=>n
def En.set (e:En) (x:Str) (n:Int) : En:=fun y=>if y = x then n else e y
def pre (D:List DRow) (o:Option Res) : Option Res:=o.map fun q=>(D ++ q.1,q.2)
def seqR (r:Option Res) (k:Int → Option Res) : Option Res:=r.bind fun r=>match r.2 with
  | .inr w=>some (r.1,.inr w)
  | .inl n=>pre r.1 (k n)
def ev (a:En) : Tr → En → Option Res
  | .num n,_=>some ([],.inl n)
  | .name x,e=>some ([],.inl (e x))
  | .ask x,_=>some ([askR x],.inl (a x))
  | .stop x,_=>some ([],.inr x)
  | .gap _ _,_=>none
  | .say t,e=>seqR (ev a t e) fun n=>some ([sayR n],.inl n)
  | .bin o s t,e=>seqR (ev a s e) fun m=>seqR (ev a t e) fun n=>some ([],.inl (o.op m n))
  | .ite c s t,e=>seqR (ev a c e) fun n=>if n = 0 then ev a t e else ev a s e
  | .lett x s t,e=>seqR (ev a s e) fun n=>ev a t (e.set x n)
def aft (a:En) (t:Tr) (e:En) (E:List Int) : Option (Option Res × List Int) :=
  match t with
  | .say _=>match E with
    | n :: E=>some (some ([sayR n],.inl n),E)
    | _=>none
  | .bin .thn _ t=>match E with
    | _ :: E=>some (ev a t e,E)
    | _=>none
  | .bin o _ _=>match E with
    | n :: m :: E=>some (some ([],.inl (o.op m n)),E)
    | _=>none
  | .ite _ s t=>match E with
    | n :: E=>some (if n = 0 then ev a t e else ev a s e,E)
    | _=>none
  | .lett x _ t=>match E with
    | n :: E=>some (ev a t (e.set x n),E)
    | _=>none
  | _=>none
abbrev Item:=Tr × En × Bool
def cont (a:En) : List Item → List Int → Option Res
  | [],[]=>none
  | [],n :: _=>some ([],.inl n)
  | (t,e,false) :: W,E=>seqR (ev a t e) fun n=>cont a W (n :: E)
  | (t,e,true) :: W,E=>(aft a t e E).bind fun p=>seqR p.1 fun n=>cont a W (n :: p.2)
section
variable {a e:En} {W:List Item} {E:List Int}
end
end L2
namespace L2
open PySem PySem.Spec PyProof.Rows
section
variable {P:Program} {w:World} {K:PySem.W.Frag} {mg:Str → Option Value} {base:Heap}
structure FnM (P:Program) (w:World) (K:PySem.W.Frag) (mg:Str → Option Value) (base:Heap) (k:Nat) (C:Addr) (m:Str) (f:Addr) (fd:FuncData) (ps:List Str) (sp:Sp) : Prop where
  ok : FnOk P w K mg base CX0 k f fd ps sp
  bd : Binds K fd ps []
  mt : Meth K C m f
theorem FnM.up {j k:Nat} {C:Addr} {m:Str} {f:Addr} {fd:FuncData} {ps:List Str} {sp:Sp} (F:FnM P w K mg base j C m f fd ps sp) (h:j ≤ k) : FnM P w K mg base k C m f fd ps sp:=⟨F.ok.mono h,F.bd,F.mt⟩
end
end L2
namespace L2
open PySem PySem.Spec PyProof.Rows
section
variable {prog:Program} {w:World} {A:Around} {E:Value → Shared → Prop} {s:Shared}
end
end L2
namespace L2
open PySem PySem.Spec PyProof.Rows
theorem strs_back : ∀ {ys:List Str} {us:List Value},Vals (ys.map V.str) us → StrsAre us ys
  | [],_,h=>by cases h; exact .nil
  | y :: ys,_,h=>by
    cases h with
    | cons r t =>
      obtain ⟨tk,rfl⟩:=r
      exact .cons y tk (strs_back t)
def rJoin : V → List V → Hp → VK → Prop:=fun x xs H Q=>∃ (z:Str) (l:Addr) (ys:List Str),x = .str z ∧ xs = [.ref l] ∧ H l = some (.lst (ys.map V.str)) ∧ z.length ≤ 16 ∧ (ys.map (·.length)).sum + ys.length ≤ 1048576 ∧ Q (.str (Txt.join z ys)) H
theorem mt_join {X:Cx} : MtR X "str.join" rJoin:=by
  intro pins s σ H x xs v us Q I rx rs h
  obtain ⟨z,l,ys,rfl,rfl,hl,hz,hw,q⟩:=h
  obtain ⟨t,rfl⟩:=rx
  obtain ⟨u,rfl,ru⟩:=Vals.one rs
  cases ru
  obtain ⟨_,its,n,r,le,e⟩:=I.lstM hl
  have L1 : s.heap.IsList l its.toArray:=⟨_,e,rfl,_,rfl⟩
  exact join_listW L1 (strs_back r) hz hw fun t' k=>⟨.str _,H,I.tok k,⟨t',rfl⟩,q⟩
end L2
namespace L2
open PySem PySem.Spec PyProof.Rows
theorem comp_listR {K:PySem.W.Frag} {a:Addr} {xs:List V} {acc:Addr} {g:TG} {tt:TT} {te:TE} {σ:L2.St} {H:Hp} {R:Hp → Prop} (Pv:Nat → Hp → Prop) (h0:Pv 0 (upd H acc (.lst []))) (hl:∀ i H,i ≤ xs.length → Pv i H → SqL K H a xs)
    (hs:∀ i x H,xs[i]? = some x → Pv i H → g x σ H fun σ2 H4=>Ext σ σ2 ∧ tt σ2 H4 fun b H5 =>
      if b = true then te σ2 H5 fun y H6=>∃ zs,H6 acc = some (.lst zs) ∧ zs.length < sizeLine ∧ Pv (i + 1) (upd H6 acc (.lst (zs ++ [y]))) else Pv (i + 1) H5) (hd:∀ H,Pv xs.length H → R H) :
    ∃ W : Nat → Nat → Hp → Prop,(∃ m,W 0 m (upd H acc (.lst []))) ∧ ∀ i m H2,W i m H2 →
      ((Itl K a).stop i H2 ∧ R H2) ∨ ((Itl K a).go i H2 ∧ ∃ N : Hp → Prop,(∀ H',N H' → ∃ m',m' < m ∧ W (i + 1) m' H') ∧ ∀ x H3,(Itl K a).yld i H2 x H3 → g x σ H3 fun σ2 H4=>Ext σ σ2 ∧ tt σ2 H4 fun b H5 =>
        if b = true then te σ2 H5 fun y H6=>∃ zs,H6 acc = some (.lst zs) ∧ zs.length < sizeLine ∧ N (upd H6 acc (.lst (zs ++ [y])))
        else N H5):=by
  refine ⟨fun i m H=>m = xs.length - i ∧ i ≤ xs.length ∧ Pv i H,⟨xs.length,by simp,Nat.zero_le _,h0⟩,?_⟩
  rintro i m H2 ⟨rfl,hi,p⟩
  have q:=hl i H2 hi p
  by_cases hlt : i < xs.length
  · refine .inr ⟨⟨xs,xs[i],q,by simp [hlt]⟩,Pv (i + 1),fun H' p'=>⟨xs.length - (i + 1),by omega,rfl,hlt,p'⟩,fun x H' y=>?_⟩
    obtain ⟨e,y⟩:=y
    subst e
    exact hs i x _ (y xs q) p
  · have e : i = xs.length:=by omega
    subst e
    exact .inl ⟨⟨xs,q,Nat.le_refl _⟩,hd H2 p⟩
end L2
namespace L2
open PySem PySem.Spec PyProof.Rows
section
variable {prog:Program} {w:World}
open AutoSeq1 (wpAny_loadPart')
open MeetsSeq MeetsSeq2 MeetsSeq3 SeqAt
end
end L2
set_option maxHeartbeats 1000000
namespace L2
open PySem PySem.Spec PyProof.Rows
section
variable {X:Cx}
theorem ps_comp {elt tg iter:Expr} {y:Str} {py spos:Pos} {jj:Nat} {ifs:List Expr} {sc:Scope} {pos:Pos} {wi:TI} {g:TG} {tt:TT} {te:TE} (N:List Str) (cap:List (Option Nat)) (hc:X.calm = true) (hi:PI X tg iter wi)
    (hg:∀ cl s H C ex,PG (X.block sc cl N s H C ex) tg g) (ht:∀ cl s H C ex,PTs (X.block sc cl N s H C ex) ifs tt) (he:∀ cl s H C ex,PE (X.block sc cl N s H C ex) elt te)
    (hk:sc.kind = .function) (nc:∀ y ∈ sc.names,y.2 ≠ .cell) (hnames:∀ y ∈ sc.names,y.2 = .local → sc.names.lookup y.1 = some .local)
    (hfree:∀ n,(n,NameKind.free) ∈ sc.names → X.env.kindOf n = some .cell)
    (hcap:∀ (i j:Nat),cap[i]? = some (some j) → ∃ x,N[i]? = some x ∧ X.N[j]? = some x ∧ sc.names.lookup x = some .free) (hlen:cap.length = N.length)
    (hN:X.N.Nodup) (hjj:X.N[jj]? = some y) (hxx:Loc X.env.scope y) (hf:X.fn y = true ∨ X.env.scope.names.lookup y = some .local)
    (hsw:swapsWith (.ListComp elt [⟨tg,iter,ifs,0⟩] sc pos) (some (.Name y py)) spos.line X.env = pure true)
    (hs:∀ x,foldedSetIterable iter X.env x = pure x:=by intro _; rfl) : PS X (.Assign [.Name y py] (.ListComp elt [⟨tg,iter,ifs,0⟩] sc pos) spos) (tAsg (tComp cap wi g tt te) (gName jj)):=by
  intro pins s σ H D I h
  obtain ⟨cl,hclos,c1,c2⟩:=closure_of (sc:=sc) (env:=X.env) fun n hn=>I.ok.has n (.inl (hfree n hn))
  rw [exec_Assign_Name_used _ _ _ _ hsw]; refine wpAny_bind (wpAny_standAt (wpAny_bind ?_)); show wpAny _ X.A (do let _ ← comprehension (.ListComp elt [⟨tg,iter,ifs,0⟩] sc pos) sc X.env _ (newList []) false (eval iter X.env) (some (assign (.Name y py) X.env))) _ _ s
  refine wpAny_bind (wpAny_mono (wpAny_comprehension_free (use:=some (assign (.Name y py) X.env)) (Q:=fun _ s'=>SP X pins D .next s') rfl hs hclos hk hnames ?_) (fun _ s' hq=>wpAny_pure (wpAny_pure hq)) fun _ _ e=>e)
  refine thn (hi pins s σ H _ I h) fun v s1 h1=>thn h1 fun itv s2 h2=>?_
  obtain ⟨it,fp,tn,J,H2,e,I2,T,st2,f2,q2⟩:=h2
  subst e
  have hfr : H2 s2.heap.objs.size = none:=I2.fresh
  obtain ⟨W,⟨m0,w0⟩,turn⟩:=q2 s2.heap.objs.size hfr
  have I3:=I2.lnew (ys:=[]) (its:=[]) (t':=s2.toks) .nil (Nat.zero_le _)
  have hacc : H2 s2.heap.objs.size = none:=hfr
  refine wpAny_newObj_type (wpAny_newFunctionEnv nc (by intro y hy; simp at hy) (fun h4 hns hsb=>?_) hk)
  generalize hs3 : ({ s2 with heap:=s2.heap.push { cls:=.type "list", data:=.seq ([] : List Value).toArray } } : Shared) = s3 at hns hsb I3 ⊢
  have hheap : s3.heap = s2.heap.push { cls:=.type "list", data:=.seq ([] : List Value).toArray }:=by rw [← hs3]
  generalize hH3 : upd H2 s2.heap.objs.size (.lst []) = H3 at I3 w0
  have up2 : ∀ b o,s2.heap.get? b = some o → s3.heap.get? b = some o:=fun b o q=>by rw [hheap]; exact Heap.get?_push_of_some _ q
  have neA : ∀ b ∈ fp,b ≠ s2.heap.objs.size:=fun b hb=>by
    obtain ⟨o,q,_⟩:=T.obj _ _ st2 b hb
    exact Nat.ne_of_lt (Heap.lt_size q)
  have f3 : ∀ b ∈ fp,FpOk X pins H3 b:=fun b hb=>⟨by rw [← hH3,upd_ne (neA b hb)]; exact (f2 b hb).1,(f2 b hb).2⟩
  have o3 : ∀ b ∈ fp,∃ o,s3.heap.get? b = some o:=fun b hb=>by
    obtain ⟨o,q,_⟩:=T.obj _ _ st2 b hb
    exact ⟨o,up2 b o q⟩
  have ok':=block_ok (N:=N) (C:=s3.heap.objs.size) I3 hk nc (Nat.le_refl _) f3 o3 c1 c2
  generalize hC : s3.heap.objs.size = C at hns hsb ok' ⊢
  have ltC : ∀ b o,s3.heap.get? b = some o → b ≠ C:=fun b o q=>by rw [← hC]; exact Nat.ne_of_lt (Heap.lt_size q)
  have up4 : ∀ b o,s3.heap.get? b = some o → h4.get? b = some o:=fun b o q=>hsb.extBut b o (ltC b o q) (Heap.get?_push_of_some _ q)
  have st4 : tn 0 h4:=T.keep _ _ _ st2 fun b hb o q=>up4 b o (up2 b o q)
  have I4 : Inv (X.block sc cl N s3 H3 C fp) [] (capSt cap σ) H3 { s3 with heap:=h4,toks:=s3.toks + ([] : List (Str × Value)).length }:=by
    refine ⟨ok',rfl,I3.bare,Un.kept up4,⟨_,hns,fun i x v e1 e2 e3=>?_⟩,fun x c q=>?_,?_,fun x c q=>I3.freeC x c (c1 x c q),fun p hp=>(nomatch hp),I3.hok.kept up4,?_⟩
    · have ee : ∃ j,cap[i]? = some (some j) ∧ σ[j]? = some (some v):=by
        unfold capSt at e2
        rw [List.getElem?_map] at e2
        cases q : cap[i]? with
        | none=>rw [q] at e2; cases e2
        | some o =>
          rw [q] at e2
          cases o with
          | none=>cases e2
          | some j =>
            refine ⟨j,rfl,?_⟩
            have e2' : some ((σ[j]?).join) = some (some v):=e2
            cases z : σ[j]? with
            | none=>rw [z] at e2'; cases e2'
            | some o' =>
              rw [z] at e2'
              have e2'' : o' = some v:=Option.some.inj e2'
              rw [e2'']
      obtain ⟨j,ej,es⟩:=ee
      obtain ⟨x',n1,n2,n3⟩:=hcap i j ej
      have e1' : N[i]? = some x:=e1
      rw [n1] at e1'
      cases e1'
      have hfr' : (x,NameKind.free) ∈ sc.names:=lookup_mem n3
      have kc:=hfree x hfr'
      obtain ⟨m,_,hl⟩:=I3.loc
      obtain ⟨u,r,l⟩:=hl j x v n2 es (.inr (.inl kc))
      refine ⟨u,r,?_⟩
      rcases l with ⟨l,_⟩ | ⟨_,c,ec,z⟩
      · rw [kc] at l; cases l
      · obtain ⟨c',ec'⟩:=c2 x hfr'
        have:=c1 x c' ec'
        rw [ec] at this
        cases this
        obtain ⟨oc,q1,q2⟩:=z
        exact .inr ⟨lookup_relabel_free (sc:=sc) n3,c,ec',oc,up4 _ _ q1,q2⟩
    · obtain ⟨v,oc,q1,q2⟩:=I3.cell x c (c1 x c q)
      exact ⟨v,oc,up4 _ _ q1,q2⟩
    · exact I3.hok.fresh (by rw [hC]; exact Nat.le_refl _)
    · show (capSt cap σ).length = N.length
      unfold capSt
      rw [List.length_map,hlen]
  have loop : codeAny (model X.prog X.w) X.A (.compLoop (.ListComp elt [⟨tg,iter,ifs,0⟩] sc pos) 0 (.ref it) (.ref s2.heap.objs.size) (compEnvC sc cl C X.env)) (compPost (model X.prog X.w) X.A X.xe (some (assign (.Name y py) X.env)) (fun _ s'=>SP X pins D .next s') (.ref s2.heap.objs.size) C)
      { s3 with heap:=h4,toks:=s3.toks + ([] : List (Str × Value)).length }:=by
    have stat : ∀ {H':Hp},(∀ b ∈ fp,H' b = none) → ∀ b ∈ fp,FpOk (X.block sc cl N s3 H3 C fp) [] H' b:=fun hn b hb =>
      ⟨hn b hb,(ok'.exf b hb).1,ok'.exfs b hb,.inl hb,(ok'.exf b hb).2,fun p hp=>(nomatch hp)⟩
    refine comp_loop (fun n s'=>∃ i H',Inv (X.block sc cl N s3 H3 C fp) [] (capSt cap σ) H' s' ∧ tn i s'.heap ∧ (∀ b ∈ fp,H' b = none) ∧ W i n H') ?_ m0 ⟨0,H3,I4,st4,fun b hb=>(f3 b hb).1,w0⟩
    rintro n s5 ⟨i,H5,I5,st5,fr5,w5⟩
    rcases turn i n H5 w5 with ⟨stop,qn⟩ | ⟨go,N',hN',step⟩
    · refine thn (T.done (X.block sc cl N s3 H3 C fp) rfl rfl rfl hc i [] s5 _ H5 NoX I5 (stat fr5) st5 stop) fun r s6 ⟨hr,I6⟩=>?_
      subst hr
      obtain ⟨m,hm,_⟩:=I6.loc
      have I7 : Inv X pins σ H5 s6:=by
        refine I3.call' (s':=s6) (ch:=fp) I6.os I6.base I6.hok I6.bare fun b hb=>?_
        obtain ⟨g0,g1,g2,g3,g4,g5⟩:=f3 b hb
        exact ⟨g3,g1,g4,g5⟩
      have hCl : X.env.locals ≠ C:=by
        obtain ⟨_,hn3,_⟩:=I3.loc
        rw [← hC]
        exact Nat.ne_of_lt hn3.lt
      have hCc : ∀ x c,X.env.cells.lookup x = some c → c ≠ C:=fun x c q=>by
        obtain ⟨v,oc,q1,q2⟩:=I3.cell x c q
        exact ltC _ _ q1
      refine wpAny_assign_Name (store_ok2 I7 hN hjj hxx (v:=.ref s2.heap.objs.size) rfl (fun s9 I9 ⟨a9,sb9,ha9⟩=>?_) hf)
      have hCa : a9 ≠ C:=by
        rcases ha9 with rfl | z
        · exact hCl
        · exact hCc _ _ z
      refine ⟨m,hm.sameBut sb9 (Ne.symm hCa),fun h' sb=>⟨_,H5,?_,qn⟩⟩
      refine I9.call' (s':={ s9 with heap:=h' }) (ch:=[C]) rfl ?_ (I9.hok.but I6.free sb) I9.bare fun b hb=>?_
      · have st : ∀ b o,s9.heap.get? b = some o → b ∉ [C] → h'.get? b = some o:=fun b o q hx=>(sb.2 b (fun z=>hx (by rw [z]; exact List.mem_singleton.mpr rfl))).trans q
        exact ⟨fun b o q _ _ hx=>st b o q hx,fun b o q _ _ hx=>⟨o.slots,st b o q hx⟩,fun b o q n _=>n,fun b o q hx=>⟨o,st b o q hx⟩,fun _ _ q=>q,fun _ _ _ q=>q,fun b ps q=>⟨#[],by simpa using q⟩⟩
      · rw [List.mem_singleton.mp hb]
        exact ⟨.inr (by rw [← hC]; exact I3.sz),Ne.symm hCl,hCc,fun p hp=>ltC _ _ (I3.pin p hp).1⟩
    · refine thn (T.item (X.block sc cl N s3 H3 C fp) rfl rfl rfl hc i [] s5 _ H5 NoX I5 (stat fr5) st5 go) fun r s6 ⟨u,hr,h6⟩=>?_
      subst hr
      refine thn h6 fun _ s7 ⟨x,H7,I7,r7,y7,st7,fr7⟩=>?_
      have I7':=I7.pinned (stat fr7) (T.obj _ _ st7)
      have again : ∀ {σ8:St} {H8:Hp} {s8:Shared},Inv (X.block sc cl N s3 H3 C fp) ([] ++ pinsAt fp s7.heap) σ8 H8 s8 → Ext (capSt cap σ) σ8 → N' H8 →
          ∃ m,m < n ∧ ∃ i H',Inv (X.block sc cl N s3 H3 C fp) [] (capSt cap σ) H' s8 ∧ tn i s8.heap ∧ (∀ b ∈ fp,H' b = none) ∧ W i m H':=fun {σ8 H8 s8} I8 ex n8=>by
        obtain ⟨m',hm,w8⟩:=hN' H8 n8
        have I8':=I8.unpinned.weak ex.len ex.get
        refine ⟨m',hm,i + 1,H8,I8',T.keep _ _ _ st7 fun b hb o q=>(I8.pin (b,o) (List.mem_append_right _ (List.mem_append_right _ (mem_pinsAt hb q)))).1,fun b hb=>?_,w8⟩
        obtain ⟨o,q,d⟩:=T.obj _ _ st7 b hb
        exact (I8.pin (b,o) (List.mem_append_right _ (List.mem_append_right _ (mem_pinsAt hb q)))).2.1
      refine thn (hg cl s3 H3 C fp _ s7 _ H7 x u _ I7' r7 (step x H7 y7)) fun _ s8 ⟨σ8,H8,I8,ex8,q8⟩=>?_
      refine thn (ht cl s3 H3 C fp _ s8 σ8 H8 _ I8 q8) fun b s9 ⟨H9,I9,q9⟩=>?_
      cases b with
      | false=>exact again I9 ex8 q9
      | true =>
        rw [if_pos rfl] at q9 ⊢
        refine thn (he cl s3 H3 C fp _ s9 σ8 H9 _ I9 q9) fun yv s10 ⟨y,H10,I10,r10,zs,e10,l10,q10⟩=>?_
        refine thn (mt_append (X:=X.block sc cl N s3 H3 C fp) _ s10 σ8 H10 (.ref s2.heap.objs.size) [y] (.ref s2.heap.objs.size) [yv] (fun _ H'=>N' H') I10 rfl (.cons r10 .nil) ⟨_,zs,y,rfl,rfl,e10,l10,q10⟩) fun _ s11 ⟨_,H11,I11,_,q11⟩=>?_
        exact again I11 ex8 q11
  exact codeAny_compStart_list loop (T.self X.A 0 _ _ _ st4 loop)
theorem ps_compB {elt tg iter:Expr} {y:Str} {py spos:Pos} {jj:Nat} {ifs:List Expr} {sc:Scope} {pos:Pos} {wi:TI} {g:TG} {tt:TT} {te:TE} (N:List Str) (cap:List (Option Nat)) (hc:X.calm = true) (hi:PI X tg iter wi)
    (hg:∀ cl s H C ex,PG (X.block sc cl N s H C ex) tg g) (ht:∀ cl s H C ex,PTs (X.block sc cl N s H C ex) ifs tt) (he:∀ cl s H C ex,PE (X.block sc cl N s H C ex) elt te)
    (ck:compCk sc X.env X.N N cap = true) (hN:X.N.Nodup) (hjj:X.N[jj]? = some y) (hxx:Loc X.env.scope y) (hf:X.fn y = true ∨ X.env.scope.names.lookup y = some .local)
    (hsw:swapsWith (.ListComp elt [⟨tg,iter,ifs,0⟩] sc pos) (some (.Name y py)) spos.line X.env = pure true:=by rfl) (hs:∀ x,foldedSetIterable iter X.env x = pure x:=by intro _; rfl) : PS X (.Assign [.Name y py] (.ListComp elt [⟨tg,iter,ifs,0⟩] sc pos) spos) (tAsg (tComp cap wi g tt te) (gName jj)):=by
  unfold compCk at ck
  simp only [Bool.and_eq_true] at ck
  obtain ⟨⟨⟨⟨⟨k1,k2⟩,k3⟩,k4⟩,k5⟩,k6⟩:=ck
  refine ps_comp N cap hc hi hg ht he (by simpa using k1) (fun y hy=>?_) (fun y hy z=>?_) (fun n hn=>?_) (fun i j e=>?_) (by simpa using k6) hN hjj hxx hf hsw hs
  · have:=List.all_eq_true.mp k2 y hy
    simpa using this
  · have:=List.all_eq_true.mp k3 y hy
    rw [z] at this
    simpa using this
  · have:=List.all_eq_true.mp k4 _ hn
    simpa using this
  · have hi : i < cap.length:=(List.getElem?_eq_some_iff.mp e).1
    have:=List.all_eq_true.mp k5 i (List.mem_range.mpr hi)
    rw [e] at this
    dsimp only at this
    cases q : N[i]? with
    | none=>rw [q] at this; cases this
    | some x =>
      rw [q] at this
      dsimp only at this
      rw [Bool.and_eq_true] at this
      exact ⟨x,rfl,by simpa using this.1,by simpa using this.2⟩
end
end L2
set_option maxHeartbeats 4000000
namespace L2
open PySem PySem.Spec PyProof.Rows
inductive Dt where
  | int (i:Int) | str (x:Str) | tup (ds:List Dt)
mutual
def Dt.beq : Dt → Dt → Bool
  | .int i,.int j=>decide (i = j)
  | .str x,.str y=>decide (x = y)
  | .tup ds,.tup es=>Dt.beqs ds es
  | _,_=>false
def Dt.beqs : List Dt → List Dt → Bool
  | [],[]=>true
  | d :: ds,e :: es=>Dt.beq d e && Dt.beqs ds es
  | _,_=>false
end
mutual
theorem Dt.beq_iff : ∀ {d e:Dt},Dt.beq d e = true ↔ d = e
  | .int i,.int j=>by simp [Dt.beq]
  | .str x,.str y=>by simp [Dt.beq]
  | .tup ds,.tup es=>by
    have:=Dt.beqs_iff (ds:=ds) (es:=es)
    simp [Dt.beq,this]
  | .int _,.str _=>by simp [Dt.beq]
  | .int _,.tup _=>by simp [Dt.beq]
  | .str _,.int _=>by simp [Dt.beq]
  | .str _,.tup _=>by simp [Dt.beq]
  | .tup _,.int _=>by simp [Dt.beq]
  | .tup _,.str _=>by simp [Dt.beq]
theorem Dt.beqs_iff : ∀ {ds es:List Dt},Dt.beqs ds es = true ↔ ds = es
  | [],[]=>by simp [Dt.beqs]
  | [],_ :: _=>by simp [Dt.beqs]
  | _ :: _,[]=>by simp [Dt.beqs]
  | d :: ds,e :: es=>by
    have h1:=Dt.beq_iff (d:=d) (e:=e)
    have h2:=Dt.beqs_iff (ds:=ds) (es:=es)
    simp [Dt.beqs,h1,h2]
end
mutual
def Dt.deep : Dt → Nat
  | .tup ds=>Dt.deeps ds + 1
  | _=>0
def Dt.deeps : List Dt → Nat
  | []=>0
  | d :: ds=>max (Dt.deep d) (Dt.deeps ds)
end
mutual
inductive DR (H:Hp) : Dt → V → Prop
  | int (i:Int) : DR H (.int i) (.int i)
  | str (x:Str) : DR H (.str x) (.str x)
  | tup {a:Addr} {xs:List V} {ds:List Dt} : H a = some (.tup xs) → DRs H ds xs → DR H (.tup ds) (.ref a)
inductive DRs (H:Hp) : List Dt → List V → Prop
  | nil : DRs H [] []
  | cons {d:Dt} {v:V} {ds:List Dt} {vs:List V} : DR H d v → DRs H ds vs → DRs H (d :: ds) (v :: vs)
end
mutual
theorem DR.mono {H H':Hp} (k:Tk H H') : ∀ {d:Dt} {v:V},DR H d v → DR H' d v
  | _,_,.int i=>.int i
  | _,_,.str x=>.str x
  | _,_,.tup h r=>.tup (k _ _ h) (DRs.mono k r)
theorem DRs.mono {H H':Hp} (k:Tk H H') : ∀ {ds:List Dt} {vs:List V},DRs H ds vs → DRs H' ds vs
  | _,_,.nil=>.nil
  | _,_,.cons r t=>.cons (DR.mono k r) (DRs.mono k t)
end
theorem DRs.length {H:Hp} : ∀ {ds:List Dt} {vs:List V},DRs H ds vs → ds.length = vs.length
  | _,_,.nil=>rfl
  | _,_,.cons _ t=>congrArg (· + 1) t.length
theorem DRs.get {H:Hp} : ∀ {ds:List Dt} {vs:List V} {j:Nat} {v:V},DRs H ds vs → vs[j]? = some v → ∃ d,ds[j]? = some d ∧ DR H d v
  | _,_,_,_,.nil,e=>by simp at e
  | _,_,0,_,.cons r _,e=>by simp at e; subst e; exact ⟨_,rfl,r⟩
  | _,_,j + 1,v,.cons _ t,e=>by
    obtain ⟨d,h1,h2⟩:=DRs.get (j:=j) (v:=v) t (by simpa using e)
    exact ⟨d,by simpa using h1,h2⟩
theorem deep_get : ∀ {ds:List Dt} {j:Nat} {d:Dt},ds[j]? = some d → d.deep ≤ Dt.deeps ds
  | [],_,_,h=>by simp at h
  | e :: ds,0,d,h=>by simp at h; subst h; simp [Dt.deeps]; omega
  | e :: ds,j + 1,d,h=>by
    have:=deep_get (ds:=ds) (j:=j) (d:=d) (by simpa using h)
    simp [Dt.deeps]; omega
section
variable {X:Cx} {pins:List (Addr × Obj)} {σ:St} {H:Hp} {s:Shared}
end
end L2
namespace L2
open PySem PySem.Spec PyProof.Rows
theorem itB {h h':Heap} {a b t:Addr} {i:Nat} (x:h.IsTupleIter a t i) (e:Heap.SameBut b h h') (n:a ≠ b) : h'.IsTupleIter a t i:=x.extBut e.extBut n
theorem tpB {h h':Heap} {a b:Addr} {xs:Array Value} (x:h.IsTuple a xs) (e:Heap.SameBut b h h') (n:a ≠ b) : h'.IsTuple a xs:=let ⟨o,ho,r⟩:=x; ⟨o,e.extBut a o n ho,r⟩
section
variable {prog:Program} {w:World} {A:Around} {E:Value → Shared → Prop} {s:Shared}
theorem zipT_item {z TI TO i1 i2 l1 l2:Addr} {k:Nat} {xs ys:Array Value} {x y a b:Value} {Q:Option Value → Shared → Prop} (D:ZipApart z TI TO i1 i2 l1 l2)
    (hz:IsZip s.heap z TI TO .none) (hTI:IsPair s.heap TI (.ref i1) (.ref i2)) (hTO:IsPair s.heap TO a b) (h1:s.heap.IsTupleIter i1 l1 k) (h2:s.heap.IsTupleIter i2 l2 k)
    (hl1:s.heap.IsTuple l1 xs) (hl2:s.heap.IsTuple l2 ys) (hx:xs[k]? = some x) (hy:ys[k]? = some y)
    (hQ:∀ h',IsZip h' z TI TO (rawInt s.heap.objs.size) → IsPair h' TO x y → h'.IsTupleIter i1 l1 (k + 1) → h'.IsTupleIter i2 l2 (k + 1) → IsPair h' s.heap.objs.size x y →
      (∀ c o,c ≠ z → c ≠ TO → c ≠ i1 → c ≠ i2 → s.heap.get? c = some o → h'.get? c = some o) → Q (some (.ref s.heap.objs.size)) { s with heap:=h' }) : wpAny (model prog w) A (pyNext (.ref z)) Q E s:=by
  have hT : s.TypeIs (.ref z) "zip" := ⟨_,hz,rfl⟩
  unfold pyNext
  refine wpAny_bind (wpAny_attempt (wpAny_callSpecial?_slot (name:=Str.ofString "__next__") hT F.slot_zip_next (wpAny_call_entry F.slot_zip_next hT F.entry_zip_next ?_ (F.args_zip_next_1 _))))
  show wpAny _ _ (field (.ref z) 2 >>= _) _ _ _; refine wpAny_bind (wpAny_field hz rfl (x:=.bool false) rfl ?_)
  show wpAny _ _ (field (.ref z) 3 >>= _) _ _ _; refine wpAny_bind (wpAny_field hz rfl (x:=.ref TI) rfl ?_); refine wpAny_bind (wpAny_seqItems hTI rfl ?_)
  show wpAny _ _ (Builtin.SmallTypes.ownedTupleIsFree (.ref z) >>= _) _ _ _; refine wpAny_bind ?_; unfold Builtin.SmallTypes.ownedTupleIsFree
  refine wpAny_bind (wpAny_field hz rfl (x:=.none) rfl (wpAny_pure ?_)); simp only [if_true]; refine wpAny_bind (wpAny_rule ?_); refine wpAny_bind (wpAny_field hz rfl (x:=.ref TO) rfl ?_)
  refine wpAny_bind (wpAny_setField_rec hz (by simp) fun q1 hz1 hs1=>?_); replace hz1 : IsZip q1 z TI TO .ellipsis:=hz1
  refine wpAny_bind ?_; simp only [List.zipIdx_cons,List.zipIdx_nil,List.forIn_cons,List.forIn_nil]
  refine wpAny_bind (wpAny_bind (wpAny_onRaise ?_)); show wpAny _ _ (Builtin.SmallTypes.nextOf (.ref i1) >>= _) _ _ _
  refine wpAny_bind (next_tup_item (itB h1 hs1 D.i1z) (tpB hl1 hs1 D.l1z) hx fun q2 j1 hs2=>wpAny_pure ?_)
  have hTO2 : IsPair q2 TO a b:=hs2.extBut _ _ D.TOi1 (hs1.extBut _ _ D.TOz hTO)
  refine wpAny_bind (wpAny_seqItems hTO2 rfl ?_); refine wpAny_bind (wpAny_updateSeq_pair hTO2 fun q3 hTO3 hs3=>?_); replace hTO3 : IsPair q3 TO x b:=hTO3
  refine wpAny_bind (wpAny_letGo (wpAny_pure ?_)); refine wpAny_bind (wpAny_bind (wpAny_onRaise ?_)); show wpAny _ _ (Builtin.SmallTypes.nextOf (.ref i2) >>= _) _ _ _
  refine wpAny_bind (next_tup_item (itB (itB (itB h2 hs1 D.i2z) hs2 D.i12.symm) hs3 D.TOi2.symm) (tpB (tpB (tpB hl2 hs1 D.l2z) hs2 D.l2i1) hs3 D.l2TO) hy fun q4 j2 hs4=>wpAny_pure ?_)
  have hTO4 : IsPair q4 TO x b:=hs4.extBut _ _ D.TOi2 hTO3
  refine wpAny_bind (wpAny_seqItems hTO4 rfl ?_); refine wpAny_bind (wpAny_updateSeq_pair hTO4 fun q5 hTO5 hs5=>?_); replace hTO5 : IsPair q5 TO x y:=hTO5
  refine wpAny_bind (wpAny_letGo (wpAny_pure (wpAny_pure ?_))); refine wpAny_bind (wpAny_seqItems hTO5 rfl ?_); refine wpAny_bind (wpAny_newTuple ?_)
  have hsz : q5.objs.size = s.heap.objs.size:=by rw [hs5.1,hs4.1,hs3.1,hs2.1,hs1.1]
  have hz5 : IsZip q5 z TI TO .ellipsis:=hs5.extBut _ _ D.TOz.symm (hs4.extBut _ _ D.i2z.symm (hs3.extBut _ _ D.TOz.symm (hs2.extBut _ _ D.i1z.symm hz1)))
  have hk5 : ∀ c o,c ≠ z → c ≠ TO → c ≠ i1 → c ≠ i2 → s.heap.get? c = some o → q5.get? c = some o:=fun c o c1 c2 c3 c4 e=>hs5.extBut _ _ c2 (hs4.extBut _ _ c4 (hs3.extBut _ _ c2 (hs2.extBut _ _ c3 (hs1.extBut _ _ c1 e))))
  have j15 : q5.IsTupleIter i1 l1 (k + 1):=itB (itB (itB j1 hs3 D.TOi1.symm) hs4 D.i12) hs5 D.TOi1.symm
  have j25 : q5.IsTupleIter i2 l2 (k + 1):=itB j2 hs5 D.TOi2.symm
  have hzlt : z < q5.objs.size:=Heap.lt_size hz5
  show wpAny _ _ (Builtin.SmallTypes.ownedTupleHandOut (.ref z) (.ref q5.objs.size) >>= _) _ _ _; refine wpAny_bind ?_; unfold Builtin.SmallTypes.ownedTupleHandOut
  have hz6 : IsZip (q5.push { cls:=.type "tuple", data:=.seq #[x,y] }) z TI TO .ellipsis:=Heap.get?_push_of_some _ hz5
  refine wpAny_bind (wpAny_setField_rec hz6 (by simp) fun q7 hz7 hs7=>?_); replace hz7 : IsZip q7 z TI TO (rawInt q5.objs.size):=hz7
  refine wpAny_setField_rec hz7 (by simp) fun q8 hz8 hs8=>?_; replace hz8 : IsZip q8 z TI TO (rawInt q5.objs.size):=hz8
  have up : ∀ c o,c ≠ z → q5.get? c = some o → q8.get? c = some o:=fun c o c1 e=>hs8.extBut _ _ c1 (hs7.extBut _ _ c1 (Heap.get?_push_of_some _ e))
  have hT8 : IsPair q8 q5.objs.size x y:=hs8.extBut _ _ (Nat.ne_of_gt hzlt) (hs7.extBut _ _ (Nat.ne_of_gt hzlt) (Heap.get?_push_size _ rfl))
  rw [hsz] at hz8 hT8
  refine wpAny_pure ⟨_,rfl,wpAny_pure ?_⟩
  show Q (some (.ref q5.objs.size)) _
  rw [hsz]
  exact hQ q8 hz8 (up _ _ D.TOz hTO5) (let ⟨o,e,r⟩:=j15; ⟨o,up _ o D.i1z e,r⟩) (let ⟨o,e,r⟩:=j25; ⟨o,up _ o D.i2z e,r⟩) hT8 fun c o c1 c2 c3 c4 e=>up c o c1 (hk5 c o c1 c2 c3 c4 e)
theorem zipT_end {z TI TO i1 i2 l1 l2:Addr} {k:Nat} {xs ys:Array Value} {a b:Value} {Q:Option Value → Shared → Prop} (hh:A.handled = none) (D:ZipApart z TI TO i1 i2 l1 l2)
    (hz:IsZip s.heap z TI TO .none) (hTI:IsPair s.heap TI (.ref i1) (.ref i2)) (hTO:IsPair s.heap TO a b) (h1:s.heap.IsTupleIter i1 l1 k) (h2:s.heap.IsTupleIter i2 l2 k)
    (hl1:s.heap.IsTuple l1 xs) (hl2:s.heap.IsTuple l2 ys) (hend:xs[k]? = none ∨ ys[k]? = none)
    (hQ:∀ h',(∀ c o,c ≠ z → c ≠ TO → c ≠ i1 → c ≠ i2 → s.heap.get? c = some o → h'.get? c = some o) → Q none { s with heap:=h' }) : wpAny (model prog w) A (pyNext (.ref z)) Q E s:=by
  have hT : s.TypeIs (.ref z) "zip" := ⟨_,hz,rfl⟩
  unfold pyNext
  have fin : ∀ (h':Heap) (e:Addr),(∀ c o,c ≠ z → c ≠ TO → c ≠ i1 → c ≠ i2 → s.heap.get? c = some o → h'.get? c = some o) → (∃ o,h'.get? e = some o ∧ o.cls = .type "StopIteration") →
      wpAny (model prog w) A (do if ← isInstance (.ref e) (.type "StopIteration") then pure none else throw (.ref e)) Q E { s with heap:=h' }:=fun h' e hk ⟨o,ho,hc⟩ =>
    wpAny_bind (wpAny_isInstance (T := "StopIteration") (b:=true) ⟨o,ho,hc⟩ isSubtype_stop (wpAny_pure (hQ _ hk)))
  refine wpAny_bind (wpAny_attempt (wpAny_callSpecial?_slot (name:=Str.ofString "__next__") hT F.slot_zip_next (wpAny_call_entry F.slot_zip_next hT F.entry_zip_next ?_ (F.args_zip_next_1 _))))
  show wpAny _ _ (field (.ref z) 2 >>= _) _ _ _; refine wpAny_bind (wpAny_field hz rfl (x:=.bool false) rfl ?_)
  show wpAny _ _ (field (.ref z) 3 >>= _) _ _ _; refine wpAny_bind (wpAny_field hz rfl (x:=.ref TI) rfl ?_); refine wpAny_bind (wpAny_seqItems hTI rfl ?_)
  show wpAny _ _ (Builtin.SmallTypes.ownedTupleIsFree (.ref z) >>= _) _ _ _; refine wpAny_bind ?_; unfold Builtin.SmallTypes.ownedTupleIsFree
  refine wpAny_bind (wpAny_field hz rfl (x:=.none) rfl (wpAny_pure ?_)); simp only [if_true]; refine wpAny_bind (wpAny_rule ?_); refine wpAny_bind (wpAny_field hz rfl (x:=.ref TO) rfl ?_)
  refine wpAny_bind (wpAny_setField_rec hz (by simp) fun q1 hz1 hs1=>?_); replace hz1 : IsZip q1 z TI TO .ellipsis:=hz1
  refine wpAny_bind ?_; simp only [List.zipIdx_cons,List.zipIdx_nil,List.forIn_cons,List.forIn_nil]
  refine wpAny_bind (wpAny_bind (wpAny_onRaise ?_)); show wpAny _ _ (Builtin.SmallTypes.nextOf (.ref i1) >>= _) _ _ _
  cases hx : xs[k]? with
  | none =>
    refine wpAny_bind (next_tup_end hh (itB h1 hs1 D.i1z) (tpB hl1 hs1 D.l1z) hx fun q2 e hs2 he=>?_)
    obtain ⟨oe,hoe,hce⟩:=he
    have hz2 : IsZip q2 z TI TO .ellipsis:=hs2 _ _ D.i1z.symm hz1
    have hez : e ≠ z:=fun x=>by subst x; rw [hz2] at hoe; cases hoe; simp at hce
    exact wpAny_setField_rec hz2 (by simp) fun q3 _ hs3=>fin q3 e (fun c o c1 _ c3 _ x=>hs3.extBut _ _ c1 (hs2 _ _ c3 (hs1.extBut _ _ c1 x))) ⟨oe,hs3.extBut _ _ hez hoe,hce⟩
  | some x =>
    have hy : ys[k]? = none:=by rcases hend with h | h; rw [hx] at h; cases h; exact h
    refine wpAny_bind (next_tup_item (itB h1 hs1 D.i1z) (tpB hl1 hs1 D.l1z) hx fun q2 j1 hs2=>wpAny_pure ?_)
    have hTO2 : IsPair q2 TO a b:=hs2.extBut _ _ D.TOi1 (hs1.extBut _ _ D.TOz hTO)
    refine wpAny_bind (wpAny_seqItems hTO2 rfl ?_); refine wpAny_bind (wpAny_updateSeq_pair hTO2 fun q3 hTO3 hs3=>?_)
    refine wpAny_bind (wpAny_letGo (wpAny_pure ?_)); refine wpAny_bind (wpAny_bind (wpAny_onRaise ?_)); show wpAny _ _ (Builtin.SmallTypes.nextOf (.ref i2) >>= _) _ _ _
    refine wpAny_bind (next_tup_end hh (itB (itB (itB h2 hs1 D.i2z) hs2 D.i12.symm) hs3 D.TOi2.symm) (tpB (tpB (tpB hl2 hs1 D.l2z) hs2 D.l2i1) hs3 D.l2TO) hy fun q4 e hs4 he=>?_)
    obtain ⟨oe,hoe,hce⟩:=he
    have hz4 : IsZip q4 z TI TO .ellipsis:=hs4 _ _ D.i2z.symm (hs3.extBut _ _ D.TOz.symm (hs2.extBut _ _ D.i1z.symm hz1))
    have hez : e ≠ z:=fun x=>by subst x; rw [hz4] at hoe; cases hoe; simp at hce
    exact wpAny_setField_rec hz4 (by simp) fun q5 _ hs5=>fin q5 e (fun c o c1 c2 c3 c4 x=>hs5.extBut _ _ c1 (hs4 _ _ c4 (hs3.extBut _ _ c2 (hs2.extBut _ _ c3 (hs1.extBut _ _ c1 x))))) ⟨oe,hs5.extBut _ _ hez hoe,hce⟩
end
theorem meets_zipT (l1 l2:Addr) (xs ys:Array Value) :
    Meets (Builtin.«zip.__new__» ⟨[.type "zip", .ref l1,.ref l2],[]⟩) (fun _ R s=>s.heap.IsTuple l1 xs ∧ s.heap.IsTuple l2 ys ∧
      ∀ (h':Heap) (z TI TO i1 i2:Addr),(∀ c o,s.heap.get? c = some o → h'.get? c = some o) → s.heap.objs.size ≤ z → s.heap.objs.size ≤ TI → s.heap.objs.size ≤ TO → s.heap.objs.size ≤ i1 → s.heap.objs.size ≤ i2 →
        (TI ≠ z ∧ TO ≠ z ∧ i1 ≠ z ∧ i2 ≠ z ∧ TI ≠ TO ∧ TI ≠ i1 ∧ TI ≠ i2 ∧ TO ≠ i1 ∧ TO ≠ i2 ∧ i1 ≠ i2) → IsZip h' z TI TO .none → IsPair h' TI (.ref i1) (.ref i2) → IsPair h' TO .none .none → h'.IsTupleIter i1 l1 0 → h'.IsTupleIter i2 l2 0 →
        R (.ok (.ret (.ref z))) { s with heap:=h' }) :=
  .of_wp fun prog w A R s h=>by
    obtain ⟨hp,g,d,tk,os⟩:=s; obtain ⟨hl1,hl2,h⟩:=h; have hsub:=sub_zip
    have hL1 : Heap.IsTuple (Shared.heap ⟨hp,g,d,tk,os⟩) l1 xs:=hl1
    have hL2 : Heap.IsTuple (Shared.heap ⟨hp.push { cls:=.type "tuple_iterator", data:=.fields #[.ref l1,.int 0 0] },g,d,tk,os⟩) l2 ys:=let ⟨o,ho,r⟩:=hl2; ⟨o,Heap.get?_push_of_some _ ho,r⟩
    wp_walk using wpAny_pyIter_tuple hL1,wpAny_pyIter_tuple hL2
    refine ⟨_,rfl,h _ _ _ _ _ _ (fun c o e=>Heap.get?_push_of_some _ (Heap.get?_push_of_some _ (Heap.get?_push_of_some _ (Heap.get?_push_of_some _ (Heap.get?_push_of_some _ e))))) ?_ ?_ ?_ ?_ ?_ ?_ (Heap.get?_push_size _ rfl) (Heap.get?_push_of_some _ (Heap.get?_push_of_some _ (Heap.get?_push_size _ rfl))) (Heap.get?_push_of_some _ (Heap.get?_push_size _ rfl))
      ⟨_,Heap.get?_push_of_some _ (Heap.get?_push_of_some _ (Heap.get?_push_of_some _ (Heap.get?_push_of_some _ (Heap.get?_push_size _ rfl)))),rfl,rfl⟩ ⟨_,Heap.get?_push_of_some _ (Heap.get?_push_of_some _ (Heap.get?_push_of_some _ (Heap.get?_push_size _ rfl))),rfl,rfl⟩⟩
    all_goals simp only [Heap.size_push]
    all_goals first
      | omega
      | (refine ⟨?_,?_,?_,?_,?_,?_,?_,?_,?_,?_⟩ <;> (intro e; have e' : @Eq Nat _ _:=e; omega))
section
variable {prog:Program} {w:World} {A:Around} {E:Value → Shared → Prop} {s:Shared}
theorem call_zipT {l1 l2:Addr} {xs ys:Array Value} {Q:Value → Shared → Prop} (hl1:s.heap.IsTuple l1 xs) (hl2:s.heap.IsTuple l2 ys)
    (h:∀ (h':Heap) (z TI TO i1 i2:Addr),(∀ c o,s.heap.get? c = some o → h'.get? c = some o) → s.heap.objs.size ≤ z → s.heap.objs.size ≤ TI → s.heap.objs.size ≤ TO → s.heap.objs.size ≤ i1 → s.heap.objs.size ≤ i2 →
        (TI ≠ z ∧ TO ≠ z ∧ i1 ≠ z ∧ i2 ≠ z ∧ TI ≠ TO ∧ TI ≠ i1 ∧ TI ≠ i2 ∧ TO ≠ i1 ∧ TO ≠ i2 ∧ i1 ≠ i2) → IsZip h' z TI TO .none → IsPair h' TI (.ref i1) (.ref i2) → IsPair h' TO .none .none → h'.IsTupleIter i1 l1 0 → h'.IsTupleIter i2 l2 0 → Q (.ref z) { s with heap:=h' }) :
    wpAny (model prog w) A (call (.type "zip") [.ref l1,.ref l2]) Q E s:=by
  refine callType_new F.called_zip (by decide) (F.typeCall_zip_2 _ _) (F.newCall_zip_2 _ _) (fun obj=>F.args_object_init_3 obj _ _) F.entry_zip_new (meets_zipT l1 l2 xs ys) ⟨hl1,hl2,fun h' z TI TO i1 i2 a0 a1 a2 a3 a4 a5 a6 a7 a8 a9 b1 b2=>?_⟩
  exact ⟨⟨_,a7,rfl⟩,h h' z TI TO i1 i2 a0 a1 a2 a3 a4 a5 a6 a7 a8 a9 b1 b2⟩
end
def Itz (a b:Addr) : It :=
  ⟨fun i H=>∃ xs ys x y,H a = some (.tup xs) ∧ H b = some (.tup ys) ∧ xs[i]? = some x ∧ ys[i]? = some y,
   fun i H v H'=>∃ T x y,H T = none ∧ v = .ref T ∧ H' = upd H T (.tup [x,y]) ∧ (∀ xs,H a = some (.tup xs) → xs[i]? = some x) ∧ ∀ ys,H b = some (.tup ys) → ys[i]? = some y,
   fun i H=>∃ xs ys,H a = some (.tup xs) ∧ H b = some (.tup ys) ∧ (xs.length ≤ i ∨ ys.length ≤ i)⟩
theorem turn_zip {P:Program} {w:World} {K:PySem.W.Frag} {es:List Expr} {kk:Nat} {pos:Pos} (a b z TI TO i1 i2:Addr)
    (ap:TI ≠ z ∧ TO ≠ z ∧ i1 ≠ z ∧ i2 ≠ z ∧ TI ≠ TO ∧ TI ≠ i1 ∧ TI ≠ i2 ∧ TO ≠ i1 ∧ TO ≠ i2 ∧ i1 ≠ i2) :
    Turn P w K (.Tuple es kk pos) (Itz a b) [z,TI,TO,i1,i2] z (fun i h=>IsZip h z TI TO .none ∧ IsPair h TI (.ref i1) (.ref i2) ∧ (∃ p q,IsPair h TO p q) ∧ h.IsTupleIter i1 a i ∧ h.IsTupleIter i2 b i) where
  mem:=by simp
  obj:=fun i h st c hc=>by
    obtain ⟨hz,hTI,⟨p,q,hTO⟩,⟨o1,e1,c1,d1⟩,o2,e2,c2,d2⟩:=st
    simp only [List.mem_cons,List.not_mem_nil,or_false] at hc
    rcases hc with rfl | rfl | rfl | rfl | rfl
    · exact ⟨_,hz,fun v z=>by have z' : Data.fields _ = Data.cell v:=z; cases z'⟩
    · exact ⟨_,hTI,fun v z=>by have z' : Data.seq _ _ = Data.cell v:=z; cases z'⟩
    · exact ⟨_,hTO,fun v z=>by have z' : Data.seq _ _ = Data.cell v:=z; cases z'⟩
    · exact ⟨o1,e1,fun v z=>by rw [d1] at z; cases z⟩
    · exact ⟨o2,e2,fun v z=>by rw [d2] at z; cases z⟩
  keep:=fun i h h' st k=>by
    obtain ⟨hz,hTI,⟨p,q,hTO⟩,⟨o1,e1,r1⟩,o2,e2,r2⟩:=st
    exact ⟨k z (by simp) _ hz,k TI (by simp) _ hTI,⟨p,q,k TO (by simp) _ hTO⟩,⟨o1,k i1 (by simp) _ e1,r1⟩,o2,k i2 (by simp) _ e2,r2⟩
  item:=by
    intro X hP hw hK hc i pins s σ H E I hf st hg
    subst hP hw hK
    obtain ⟨xs,ys,x,y,ha,hb,hx,hy⟩:=hg
    obtain ⟨hz,hTI,⟨p,q,hTO⟩,h1,h2⟩:=st
    obtain ⟨its,rv,t1,_⟩:=I.tuple (SqT.of ha)
    obtain ⟨its2,rv2,t2,_⟩:=I.tuple (SqT.of hb)
    obtain ⟨u,hu,ru⟩:=rv.get hx
    obtain ⟨u2,hu2,ru2⟩:=rv2.get hy
    obtain ⟨n1,n2,n3,n4,n5,n6,n7,n8,n9,n10⟩:=ap
    have ne : ∀ {c d:Addr} {o:HO},H c = some o → d ∈ [z,TI,TO,i1,i2] → c ≠ d:=fun e hd=>ne_of_none e (hf _ hd).1
    have D : ZipApart z TI TO i1 i2 a b:=⟨n1,n2,n3,n4,n5,n6,n7,n8,n9,n10,ne ha (by simp),ne ha (by simp),ne ha (by simp),ne ha (by simp),ne hb (by simp),ne hb (by simp),ne hb (by simp),ne hb (by simp)⟩
    refine zipT_item D hz hTI hTO h1 h2 (show s.heap.IsTuple a its.toArray from t1) (show s.heap.IsTuple b its2.toArray from t2) (by simpa using hu) (by simpa using hu2) fun q1 hz1 hTO1 j1 j2 hT hk=>⟨_,rfl,?_⟩
    have hn : H s.heap.objs.size = none:=I.fresh
    have hT1 : IsPair q1 TI (.ref i1) (.ref i2):=hk _ _ n1 n5 n6 n7 hTI
    have neT : ∀ c ∈ [z,TI,TO,i1,i2],c ≠ s.heap.objs.size:=fun c hc=>by
      simp only [List.mem_cons,List.not_mem_nil,or_false] at hc
      rcases hc with rfl | rfl | rfl | rfl | rfl
      · exact Nat.ne_of_lt (Heap.lt_size (show s.heap.get? _ = some _ from hz))
      · exact Nat.ne_of_lt (Heap.lt_size (show s.heap.get? _ = some _ from hTI))
      · exact Nat.ne_of_lt (Heap.lt_size (show s.heap.get? _ = some _ from hTO))
      · obtain ⟨_,e,_⟩:=h1; exact Nat.ne_of_lt (Heap.lt_size e)
      · obtain ⟨_,e,_⟩:=h2; exact Nat.ne_of_lt (Heap.lt_size e)
    have I1 : Inv X pins σ (upd H s.heap.objs.size (.tup [x,y])) { s with heap:=q1,toks:=s.toks }:=I.turnedL (ch:=[z,TO,i1,i2]) (fun c o hc e=>hk c o (fun q=>hc (by simp [q])) (fun q=>hc (by simp [q])) (fun q=>hc (by simp [q])) (fun q=>hc (by simp [q])) e)
      (fun c hc=>hf c (by simp at hc ⊢; rcases hc with r | r | r | r <;> simp [r])) (Nat.le_refl _) ⟨Nat.le_of_lt (small1000 (show 2 ≤ 1000 by decide)),[u,u2],.cons ru (.cons ru2 .nil),_,hT,rfl,_,rfl⟩
    refine wpAny_letOwnedTupleGo_zip (s:={ s with heap:=q1 }) hz1 fun q2 hz2 hs2=>⟨.ref s.heap.objs.size,_,?_,rfl,⟨_,x,y,hn,rfl,rfl,fun ws e=>by rw [ha] at e; cases e; exact hx,fun ws e=>by rw [hb] at e; cases e; exact hy⟩,⟨hz2,hs2.extBut _ _ n1 hT1,⟨_,_,hs2.extBut _ _ n2 hTO1⟩,itB j1 hs2 n3,itB j2 hs2 n4⟩,fun c hc=>?_⟩
    · refine I1.turnedN (t':=s.toks) (ch:=[z]) (fun c o hc e=>(hs2.2 c (fun q=>hc (by simp [q]))).trans e) fun c hc=>?_
      have ec:=List.mem_singleton.mp hc
      subst ec
      obtain ⟨f0,f⟩:=hf c (by simp)
      exact ⟨by rw [upd_ne (neT c (by simp))]; exact f0,f⟩
    · rw [upd_ne (neT c hc)]; exact (hf c hc).1
  done:=by
    intro X hP hw hK hc i pins s σ H E I hf st hg
    subst hP hw hK
    obtain ⟨xs,ys,ha,hb,hend⟩:=hg
    obtain ⟨hz,hTI,⟨p,q,hTO⟩,h1,h2⟩:=st
    obtain ⟨its,rv,t1,_⟩:=I.tuple (SqT.of ha)
    obtain ⟨its2,rv2,t2,_⟩:=I.tuple (SqT.of hb)
    have l1:=rv.length
    have l2:=rv2.length
    obtain ⟨n1,n2,n3,n4,n5,n6,n7,n8,n9,n10⟩:=ap
    have ne : ∀ {c d:Addr} {o:HO},H c = some o → d ∈ [z,TI,TO,i1,i2] → c ≠ d:=fun e hd=>ne_of_none e (hf _ hd).1
    have D : ZipApart z TI TO i1 i2 a b:=⟨n1,n2,n3,n4,n5,n6,n7,n8,n9,n10,ne ha (by simp),ne ha (by simp),ne ha (by simp),ne ha (by simp),ne hb (by simp),ne hb (by simp),ne hb (by simp),ne hb (by simp)⟩
    refine zipT_end (I.ok.hd hc) D hz hTI hTO h1 h2 (show s.heap.IsTuple a its.toArray from t1) (show s.heap.IsTuple b its2.toArray from t2) ?_ fun q1 hk=>⟨rfl,?_⟩
    · rcases hend with h | h
      · exact .inl (by simp; omega)
      · exact .inr (by simp; omega)
    · exact I.turnedN (t':=s.toks) (ch:=[z,TO,i1,i2]) (fun c o hc e=>hk c o (fun q=>hc (by simp [q])) (fun q=>hc (by simp [q])) (fun q=>hc (by simp [q])) (fun q=>hc (by simp [q])) e) (fun c hc=>hf c (by simp at hc ⊢; rcases hc with r | r | r | r <;> simp [r]))
  self:=fun _ _ _ _ _ st h=>wpAny_pyIter_zip st.1 h
theorem boot_zip' : bootBuiltins "zip" = some (.type "zip"):=by decide +kernel
def iZip (ta:TA) : TI:=fun σ H R=>ta σ H fun vs H1=>∃ a b xs ys,vs = [.ref a,.ref b] ∧ H1 a = some (.tup xs) ∧ H1 b = some (.tup ys) ∧ R (Itz a b) H1
theorem pi_zip {X:Cx} {es:List Expr} {k:Nat} {tpos:Pos} {a b:Expr} {ta:TA} {p pos:Pos} (hg:Gl X "zip") (hm:X.mg "zip" = none) (ha:PA X [a,b] ta) (hs:starEach [a,b] X.env = [(false,eval a X.env),(false,eval b X.env)]:=by rfl) (hs2:starEach [b] X.env = [(false,eval b X.env)]:=by rfl) :
    PI X (.Tuple es k tpos) (.Call (.Name "zip" p) [a,b] [] pos) (iZip ta):=by
  intro pins s σ H R I h
  refine Call_ (ld_blt I hg hm boot_zip' (PyProof.Rows.callWith_type1 (thn (ha pos pins s σ H _ I h) fun us s1 ⟨vs,H1,I1,r1,q1⟩=>?_) (by rw [hs,hs2]) (by rw [hs2]; rfl)))
  obtain ⟨l1,l2,xs,ys,e,h1,h2,q⟩:=q1
  subst e
  obtain ⟨u,w',rfl,ru,rw'⟩:=vals2 r1
  cases ru
  cases rw'
  obtain ⟨its,rv,t1,_⟩:=I1.tuple (SqT.of h1)
  obtain ⟨its2,rv2,t2,_⟩:=I1.tuple (SqT.of h2)
  refine call_zipT (show s1.heap.IsTuple l1 its.toArray from t1) (show s1.heap.IsTuple l2 its2.toArray from t2) fun h' z TI TO i1 i2 a0 a1 a2 a3 a4 a5 a6 a7 a8 a9 b1 b2=>?_
  refine wpAny_pyIter_zip a7 ⟨_,[z,TI,TO,i1,i2],_,_,H1,rfl,I1.kept (t':=s1.toks) a0,turn_zip l1 l2 z TI TO i1 i2 a6,⟨a7,a8,⟨_,_,a9⟩,b1,b2⟩,fun c hc=>?_,q⟩
  have ge : s1.heap.objs.size ≤ c:=by
    simp only [List.mem_cons,List.not_mem_nil,or_false] at hc
    rcases hc with rfl | rfl | rfl | rfl | rfl <;> assumption
  exact I1.fpOk ge (I1.hok.fresh ge)
theorem for_zip {a b:Addr} {xs ys:List V} {g:TG} {tb:TS} {D:Ends} {σ:St} {H:Hp} (Pv:Nat → St → Hp → Prop) (h0:Pv 0 σ H) (hl:∀ i σ H,i ≤ min xs.length ys.length → Pv i σ H → H a = some (.tup xs) ∧ H b = some (.tup ys))
    (hs:∀ i x y T σ H,xs[i]? = some x → ys[i]? = some y → Pv i σ H → H T = none → g (.ref T) σ (upd H T (.tup [x,y])) fun σ2 H2=>tb { D with nx:=Pv (i + 1),ct:=Pv (i + 1),bk:=D.nx } σ2 H2) (hd:∀ σ H,Pv (min xs.length ys.length) σ H → D.nx σ H) :
    ∃ W : Nat → Nat → St → Hp → Prop,(∃ m,W 0 m σ H) ∧ ∀ i m σ H,W i m σ H →
      ((Itz a b).stop i H ∧ D.nx σ H) ∨ ((Itz a b).go i H ∧ ∃ N : St → Hp → Prop,(∀ σ' H',N σ' H' → ∃ m',m' < m ∧ W (i + 1) m' σ' H') ∧ ∀ x H',(Itz a b).yld i H x H' → g x σ H' fun σ2 H2=>tb { D with nx:=N,ct:=N,bk:=D.nx } σ2 H2):=by
  refine ⟨fun i m σ H=>m = min xs.length ys.length - i ∧ i ≤ min xs.length ys.length ∧ Pv i σ H,⟨min xs.length ys.length,by simp,Nat.zero_le _,h0⟩,?_⟩
  rintro i m σ H ⟨rfl,hi,p⟩
  obtain ⟨ha,hb⟩:=hl i σ H hi p
  by_cases hlt : i < min xs.length ys.length
  · have hx : i < xs.length:=by omega
    have hy : i < ys.length:=by omega
    refine .inr ⟨⟨xs,ys,xs[i],ys[i],ha,hb,by simp [hx],by simp [hy]⟩,Pv (i + 1),fun σ' H' p'=>⟨min xs.length ys.length - (i + 1),by omega,rfl,hlt,p'⟩,fun x H' y=>?_⟩
    obtain ⟨T,u,v,hT,ex,eH,e1,e2⟩:=y
    subst ex eH
    exact hs i u v T σ H (e1 xs ha) (e2 ys hb) p hT
  · have e : i = min xs.length ys.length:=by omega
    subst e
    exact .inl ⟨⟨xs,ys,ha,hb,by omega⟩,hd σ H p⟩
end L2
namespace L2
open PySem PySem.Spec PyProof.Rows
end L2
namespace L2
open PySem PySem.Spec PyProof.Rows
theorem comp_tupR {K:PySem.W.Frag} {a:Addr} {xs:List V} {acc:Addr} {g:TG} {tt:TT} {te:TE} {σ:L2.St} {H:Hp} {R:Hp → Prop} (Pv:Nat → Hp → Prop) (h0:Pv 0 (upd H acc (.lst []))) (hl:∀ i H,i ≤ xs.length → Pv i H → SqT K H a xs)
    (hs:∀ i x H,xs[i]? = some x → Pv i H → g x σ H fun σ2 H4=>Ext σ σ2 ∧ tt σ2 H4 fun b H5 =>
      if b = true then te σ2 H5 fun y H6=>∃ zs,H6 acc = some (.lst zs) ∧ zs.length < sizeLine ∧ Pv (i + 1) (upd H6 acc (.lst (zs ++ [y]))) else Pv (i + 1) H5) (hd:∀ H,Pv xs.length H → R H) :
    ∃ W : Nat → Nat → Hp → Prop,(∃ m,W 0 m (upd H acc (.lst []))) ∧ ∀ i m H2,W i m H2 →
      ((Itt K a).stop i H2 ∧ R H2) ∨ ((Itt K a).go i H2 ∧ ∃ N : Hp → Prop,(∀ H',N H' → ∃ m',m' < m ∧ W (i + 1) m' H') ∧ ∀ x H3,(Itt K a).yld i H2 x H3 → g x σ H3 fun σ2 H4=>Ext σ σ2 ∧ tt σ2 H4 fun b H5 =>
        if b = true then te σ2 H5 fun y H6=>∃ zs,H6 acc = some (.lst zs) ∧ zs.length < sizeLine ∧ N (upd H6 acc (.lst (zs ++ [y])))
        else N H5):=by
  refine ⟨fun i m H=>m = xs.length - i ∧ i ≤ xs.length ∧ Pv i H,⟨xs.length,by simp,Nat.zero_le _,h0⟩,?_⟩
  rintro i m H2 ⟨rfl,hi,p⟩
  have q:=hl i H2 hi p
  by_cases hlt : i < xs.length
  · refine .inr ⟨⟨xs,xs[i],q,by simp [hlt]⟩,Pv (i + 1),fun H' p'=>⟨xs.length - (i + 1),by omega,rfl,hlt,p'⟩,fun x H' y=>?_⟩
    obtain ⟨e,y⟩:=y
    subst e
    exact hs i x _ (y xs q) p
  · have e : i = xs.length:=by omega
    subst e
    exact .inl ⟨⟨xs,q,Nat.le_refl _⟩,hd H2 p⟩
theorem pg_tupK {X:Cx} {K:PySem.W.Frag} {es:List Expr} {k:Nat} {t:TGs} {n:Nat} {pos:Pos} (hK:X.K = K) (hc:X.calm = true) (h:PGs X es t)
    (hn:(assignEach es X.env).length = n:=by rfl) (hst:(assignEach es X.env).findIdx? (·.1) = none:=by rfl) : PG X (.Tuple es k pos) (gTup K n t):=hK ▸ pg_tup hc h hn hst
section
variable {X:Cx}
theorem bools_back : ∀ {bs:List Bool} {us:List Value},Vals (bs.map V.bl) us → LSm.BoolsAre us bs
  | [],_,h=>by cases h; exact .nil
  | b :: bs,_,h=>by
    cases h with
    | cons r t =>
      cases r
      exact .cons b (bools_back t)
structure KDic (K:PySem.W.Frag) (P:Params) (d:Addr) : Prop where
  ex : ∃ (es:Array DictEntry) (n:Nat),K.lookup d = some ⟨.type "dict", none,.dict es n,#[]⟩ ∧ PySem.W.KeysLit P es.toList
  sy : (d == sysModules) = false
def rIxK (d:Addr) : R2:=fun x y H Q=>∃ (z:Str) (r:Value) (v:V),x = .ref d ∧ y = .str z ∧ PySem.W.nsIn X.K d z = some (some r) ∧ RelV v r ∧ Q v H
theorem ix_kd {d:Addr} (k:KDic X.K X.w.params d) : IxR X (rIxK (X:=X) d):=by
  intro value slice pins s σ H x y v u Q I rx ry h hs
  obtain ⟨z,r,vv,rfl,rfl,e,rv,q⟩:=h
  cases rx
  obtain ⟨t,rfl⟩:=ry
  obtain ⟨es,n,hl,hk⟩:=k.ex
  have hm:=PySem.W.mapOf_K (prog:=X.prog) (w:=X.w) I.kIn hl hk
  exact tail_any hm.typeIs slot_dict_getitem.lookup (wpAny_getItem_of (strKind_is X.prog X.w z t) hm (PySem.W.find_K hl e) ⟨vv,H,I.tok _,rv,q⟩) hs
theorem op_eqE (hu:X.A.units < cLine) : OpR X (compareOp .Eq) (fun x y H Q=>∃ (a b:Addr) (xs:List V),x = .ref a ∧ y = .ref b ∧ H a = some (.tup xs) ∧ H b = some (.tup []) ∧ Q (.bl (xs.length == 0)) H):=by
  intro pins s σ H x y v u Q I rx ry h
  obtain ⟨a,b,xs,rfl,rfl,ha,hb,q⟩:=h
  cases rx
  cases ry
  obtain ⟨its,rv,p,_⟩:=I.tuple (SqT.of ha)
  obtain ⟨its2,rv2,p2,_⟩:=I.tuple (SqT.of hb)
  have l1:=rv.length
  have l2:=rv2.length
  have z2 : its2.toArray.size = 0:=by rw [List.size_toArray]; exact l2.symm
  refine SeqAt.eq_tupleAt (e:=fun _=>true) (show s.heap.IsTuple a its.toArray from p) (show s.heap.IsTuple b its2.toArray from p2) hu (fun j _ h2=>absurd h2 (by omega)) ?_
  have e : ((List.range (min its.toArray.size its2.toArray.size)).all (fun _=>true) && its.toArray.size == its2.toArray.size) = (xs.length == 0):=by
    rw [z2,List.size_toArray,← l1]
    simp
  rw [e]
  exact ⟨.bl (xs.length == 0),H,I,rfl,q⟩
end
structure Sd (p:Prop) : Prop where
  un : p
section
variable {X:Cx} {st:Stmt} {rest:List Stmt} {t u:TS} {e a b:Expr} {es:List Expr} {te ta tb:TE} {tA:TA} {pos:Pos}
theorem pss_consS (h1:Sd (PS X st t)) (h2:Sd (PSs X rest u)) : Sd (PSs X (st :: rest) (tSeq t u)):=⟨pss_cons h1.un h2.un⟩
theorem pss_oneS (h1:Sd (PS X st t)) : Sd (PSs X [st] t):=⟨pss_one h1.un⟩
theorem ps_ifS {c:Expr} {x y:List Stmt} {tc:TT} (hc:Sd (PT X c tc)) (ha:Sd (PSs X x t)) (hb:Sd (PSs X y u)) : Sd (PS X (.If c x y pos) (tIfS tc t u)):=⟨ps_if hc.un ha.un hb.un⟩
theorem ps_retS (he:Sd (PE X e te)) : Sd (PS X (.Return (some e) pos) (tRet te)):=⟨ps_ret he.un⟩
theorem ps_setS {i:Nat} {x:Str} {pos':Pos} (hN:X.N.Nodup) (hi:X.N[i]? = some x) (hx:Loc X.env.scope x) (he:Sd (PE X e te)) (hs:swapsWith e (some (.Name x pos')) pos.line X.env = pure false:=by rfl) (hf:X.fn x = true ∨ X.env.scope.names.lookup x = some .local:=by first | exact .inl rfl | exact .inr rfl | assumption) :
    Sd (PS X (.Assign [.Name x pos'] e pos) (tAsg te (gName i))):=⟨ps_set hN hi hx he.un hs hf⟩
theorem pe_tupS {k:Nat} (h:Sd (PA X es tA)) : Sd (PE X (.Tuple es k pos) (tTup tA)):=⟨pe_tup h.un⟩
theorem pe_lstS (h:Sd (PA X es tA)) : Sd (PE X (.List es pos) (tLst tA)):=⟨pe_lst h.un⟩
theorem pa_consS (ha:Sd (PE X e te)) (hr:Sd (PA X es tA)) (hs:starEach (e :: es) X.env = (false,eval e X.env) :: starEach es X.env:=by rfl) : Sd (PA X (e :: es) (tCons te tA)):=⟨pa_cons ha.un hr.un hs⟩
theorem pe_ixS {r:R2} (hr:IxR X r) (ha:Sd (PE X a ta)) (hb:Sd (PE X b tb)) (hs:PlainIx b) : Sd (PE X (.Subscript a b pos) (tOp r ta tb)):=⟨pe_ix hr ha.un hb.un hs⟩
end
end L2
namespace L2
open PySem PySem.Spec PyProof.Rows
section
variable {prog:Program} {w:World} {A:Around} {E:Value → Shared → Prop} {s:Shared}
end
end L2
namespace L2
open PySem PySem.Spec PyProof.Rows
section
variable {X:Cx}
end
section
variable {prog:Program} {w:World} {A:Around} {E:Value → Shared → Prop} {s:Shared}
end
end L2
namespace L2
open PySem PySem.Spec PyProof.Rows
section
variable {X:Cx}
theorem range_anyB (bs:List Bool) : ((List.range bs.length).any fun i=>(bs[i]?).getD false) = bs.any id:=by
  rw [Bool.eq_iff_iff,List.any_eq_true,List.any_eq_true]
  constructor
  · rintro ⟨i,hi,h⟩
    have hl:=List.mem_range.mp hi
    rw [List.getElem?_eq_getElem hl] at h
    exact ⟨bs[i],List.getElem_mem hl,h⟩
  · rintro ⟨b,hb,h⟩
    obtain ⟨i,hl,e⟩:=List.getElem_of_mem hb
    exact ⟨i,List.mem_range.mpr hl,by rw [List.getElem?_eq_getElem hl,e]; exact h⟩
theorem call_anyL (hc:X.calm = true) : CallR X (.builtin "any") (fun xs H Q=>∃ (l:Addr) (bs:List Bool),xs = [.ref l] ∧ H l = some (.lst (bs.map V.bl)) ∧ Q (.bl (bs.any id)) H):=by
  intro pins s σ H xs us Q I r h
  obtain ⟨l,bs,rfl,hl,q⟩:=h
  obtain ⟨u,rfl,ru⟩:=vals1 r
  cases ru
  obtain ⟨_,its,n,rv,le,e⟩:=I.lstM hl
  have L1 : s.heap.IsList l its.toArray:=⟨_,e,rfl,_,rfl⟩
  have hb:=bools_back rv
  have hlt : l < s.heap.objs.size:=Heap.lt_size e
  refine call_any_walk (wpAny_pyIter_list L1 ?_)
  refine ⟨s.heap.objs.size,[s.heap.objs.size,l],[s.heap.objs.size],its.toArray.size,_,_,fun i=>(bs[i]?).getD false,rfl,Walks.list (A:=X.A.in1) (I.ok.hd hc) _ l (Nat.ne_of_lt hlt) its.toArray,
    ⟨⟨_,Heap.get?_push_size _ rfl,rfl,rfl⟩,L1.push _⟩,fun i v s' Q' E' hP hQ=>?_,fun h' tk hk=>?_⟩
  · obtain ⟨b,e,rfl⟩:=hb.get i v (by simpa using hP)
    simp only [e,Option.getD_some] at hQ
    exact wpAny_truthy_bool hQ
  · have e : ((List.range its.toArray.size).any fun i=>(bs[i]?).getD false) = bs.any id:=by
      rw [List.size_toArray,hb.length]; exact range_anyB bs
    rw [e]
    exact ⟨.bl (bs.any id),H,I.kept (LSm.kept_iter hk),rfl,q⟩
end
end L2
namespace L2
open PySem PySem.Spec PyProof.Rows
section
variable {X:Cx}
open Classical in
noncomputable def eqW (H:Hp) (dx:Dt) (w:Value) : Bool:=decide (∃ x d,RelV x w ∧ DR H d x ∧ Dt.beq d dx = true)
end
end L2
namespace PySem
open Sem (wp)
namespace F
end F
section
variable {prog:Program} {w:World} {K:Type} [DecidableEq K] {knd:KeyKind prog w K} {A:Around} {R:Result → Shared → Prop} {E:Value → Shared → Prop}
end
end PySem
namespace L2
open PySem PySem.Spec PyProof.Rows
section
variable {X:Cx}
end
end L2
namespace L2
open PySem PySem.W PyProof.Rows
section
variable {n:Nat} {r:Nat → Nat → Bool}
abbrev lt (r:Nat → Nat → Bool) (p:Array Nat) (i j:Nat) : Bool:=r (p.getD i 0) (p.getD j 0)
end
end L2
namespace L2
end L2
namespace PySem
open PySem.Calls PyProof.Rows PySem.W L2
open AutoSeq1 (wpAny_loadPart')
end PySem
namespace PySem
open PySem.Calls PyProof.Rows PySem.W L2
section
variable {prog:Program} {w:World} {A:Around} {E:Value → Shared → Prop} {s:Shared}
end
end PySem
namespace L2
open PySem PySem.Spec PyProof.Rows PySem.W
section
variable {X:Cx}
end
end L2
namespace PySem
open AutoSeq1
end PySem
namespace L2
open PySem PySem.Spec PyProof.Rows
section
variable {X:Cx}
def rSortDR : List V → Hp → VK → Prop:=fun xs H Q=>∃ (d:Addr) (kvs:List (Key × V)) (ks:List Str),xs = [.ref d] ∧ Rd H d (.dK kvs) ∧ kvs.map (·.1) = ks.map Sum.inr ∧ ks.length < 64 ∧
  ∀ (l:Addr) (ss:List Str),H l = none → ss.Perm ks → ss.Pairwise (fun a b=>ltCps b.cps.toList a.cps.toList = false) → Q (.ref l) (upd H l (.lst (ss.map V.str)))
theorem call_sortedDR (hc:X.calm = true) : CallR X (.builtin "sorted") rSortDR:=by
  intro pins s σ H xs us Q I r h
  obtain ⟨d,kvs,ks,rfl,hd,hk,h64,q⟩:=h
  obtain ⟨u,rfl,ru⟩:=vals1 r
  cases ru
  obtain ⟨hz,hsm,vs,kv,hdo⟩:=dk_rd I.hok hd
  obtain ⟨ep,hat⟩:=hdo.dictAt
  have hks : vs.map (·.1) = ks.map Sum.inr:=by rw [← kv_keys kv]; exact hk
  have hn : vs.length = ks.length:=by have:=congrArg List.length hks; simpa using this
  have line : vs.length ≤ sizeLine:=Nat.le_of_lt (small1000 (by omega))
  refine Calls.call_function_entry kind_sorted plain_sorted entry_sorted (args_sorted1 _) ?_
  unfold Builtin.«sorted»
  refine wpAny_bind (m:=checkCount "sorted" 1 1 _) (wpAny_pure ?_)
  refine wpAny_bind (PySem.W.kdu_collect (A:=X.A.in1) (PySem.W.kdl_dict (knd:=mixKind X.prog X.w) (kvs:=vs) (ep:=ep) hsm) (I.ok.hd hc) hat line fun h1 tk acc hk1 hacc=>?_)
  have la : acc.toList.length = vs.length:=by rw [Array.length_toList]; exact hacc.1
  have hS : StrsAre acc.toList ks:=strs_of (P:=X.prog) (w:=X.w) hks la fun j v hv=>hacc.2 j v (by rw [← Array.getElem?_toList]; exact hv)
  have I1 : Inv X pins σ H { s with heap:=h1,toks:=tk }:=I.kept hk1
  refine wpAny_bind (wpAny_newList ?_ (by rw [la]; exact line))
  have hoL : (h1.push { cls:=.type "list", data:=.seq acc.toList.toArray }).get? h1.objs.size = some (seqObj "list" acc.toList.toArray 0):=Heap.get?_push_size _ rfl
  refine wpAny_bind (wpAny_holding (wpAny_call_entry slot_list_sort ⟨_,hoL,rfl⟩ entry_list_sort (list_sort_treeK strKind_oneLt hoL hS.keysOf (fun a b rest e=>keyKind_strs (ss:=ks) (by rw [← e]; exact hS)) (by rw [la,hn]; exact h64) fun st' a1 a2=>⟨_,rfl,?_⟩) (args_list_sort _)))
  obtain ⟨ss,b1,b2,b3⟩:=sorted_out_str hS a1 a2
  obtain ⟨e,he⟩ : ∃ e,(sortedHeap (h1.push { cls:=.type "list", data:=.seq acc.toList.toArray }) h1.objs.size acc.toList ((arrOf st').map (·.2))).get? h1.objs.size = some (seqObj "list" ((arrOf st').map (·.2)) e):=sortedHeap_at hoL
  refine wpAny_pure ⟨_,rfl,⟨.ref h1.objs.size,upd H h1.objs.size (.lst (ss.map V.str)),I1.laid (t':=tk) (a:=h1.objs.size) (o:=.lst (ss.map V.str)) (fun b o hb=>?_) (Nat.le_refl _) ⟨?_,_,e,vals_strs b1,?_⟩,rfl,q _ ss (I1.hok.fresh (Nat.le_refl _)) b2 (pairwise_sorted b3)⟩⟩
  · rw [sortedHeap_old (Nat.ne_of_lt (Heap.lt_size hb)) (by rw [Heap.size_push]; exact Nat.lt_succ_of_lt (Heap.lt_size hb))]
    exact Heap.get?_push_of_some _ hb
  · rw [List.length_map,b2.length_eq]
    exact Nat.le_of_lt (small1000 (by omega))
  · rw [he]
end
end L2
namespace L2
open PySem PySem.W PyProof.Rows
section
variable {n:Nat} {r:Nat → Nat → Bool}
end
end L2
namespace L2
open PySem PySem.Spec PyProof.Rows PySem.W
instance : DecidableEq Dt:=fun d e=>decidable_of_iff (Dt.beq d e = true) Dt.beq_iff
mutual
inductive DA (h:Heap) : Dt → Value → Prop
  | int (i:Int) (t:Tok) : DA h (.int i) (.int i t)
  | str (x:Str) (t:Tok) : DA h (.str x) (.str x t)
  | tup {a:Addr} {items:Array Value} {ds:List Dt} : h.IsTuple a items → DAs h ds items.toList → DA h (.tup ds) (.ref a)
inductive DAs (h:Heap) : List Dt → List Value → Prop
  | nil : DAs h [] []
  | cons {d:Dt} {u:Value} {ds:List Dt} {us:List Value} : DA h d u → DAs h ds us → DAs h (d :: ds) (u :: us)
end
section
variable {P:Program} {w:World} {H:Hp} {h:Heap}
end
section
variable {s:Shared}
end
mutual
def Dt.hsh (w:World) : Dt → Int
  | .int i=>hashInt i
  | .str x=>hashStr w x
  | .tup ds=>reduceHash (Builtin.Tuple.tupleHashOf (Dt.hshs w ds))
def Dt.hshs (w:World) : List Dt → List Int
  | []=>[]
  | d :: ds=>Dt.hsh w d :: Dt.hshs w ds
end
mutual
def Dt.draws : Dt → Nat
  | .int _=>1
  | .str _=>1
  | .tup ds=>Dt.drawss ds + 1
def Dt.drawss : List Dt → Nat
  | []=>0
  | d :: ds=>Dt.draws d + Dt.drawss ds
end
section
variable {prog:Program} {w:World} {E:Value → Shared → Prop}
end
end L2
namespace L2
open PySem PySem.Spec PyProof.Rows PySem.W
def strLt (x y:Str) : Bool:=decide (x.cps.toList < y.cps.toList)
mutual
def Dt.lt : Dt → Dt → Bool
  | .int i,.int j=>decide (i < j)
  | .str x,.str y=>strLt x y
  | .tup ds,.tup es=>Dt.lts ds es
  | .int _,.str _=>true
  | .int _,.tup _=>true
  | .str _,.tup _=>true
  | .str _,.int _=>false
  | .tup _,.int _=>false
  | .tup _,.str _=>false
def Dt.lts : List Dt → List Dt → Bool
  | [],[]=>false
  | [],_ :: _=>true
  | _ :: _,[]=>false
  | d :: ds,e :: es=>if Dt.beq d e = true then Dt.lts ds es else Dt.lt d e
end
inductive Ty where
  | int | str | many (t:Ty) | two (a b:Ty)
mutual
def Dt.has : Ty → Dt → Bool
  | .int,.int _=>true
  | .str,.str _=>true
  | .many t,.tup ds=>Dt.hass t ds
  | .two a b,.tup ds=>Dt.hasp a b ds
  | _,_=>false
def Dt.hass : Ty → List Dt → Bool
  | _,[]=>true
  | t,d :: ds=>Dt.has t d && Dt.hass t ds
def Dt.hasp : Ty → Ty → List Dt → Bool
  | a,b,d :: es=>Dt.has a d && Dt.hasq b es
  | _,_,_=>false
def Dt.hasq : Ty → List Dt → Bool
  | b,e :: es=>Dt.has b e && (es.length == 0)
  | _,_=>false
end
mutual
def Dt.cmp : Dt → Dt → Bool
  | .int _,.int _=>true
  | .str _,.str _=>true
  | .tup ds,.tup es=>Dt.cmps ds es
  | _,_=>false
def Dt.cmps : List Dt → List Dt → Bool
  | [],_=>true
  | _ :: _,[]=>true
  | d :: ds,e :: es=>if Dt.beq d e = true then Dt.cmps ds es else Dt.cmp d e
end
end L2
namespace L2
open PySem PySem.Calls PySem.Spec PyProof.Rows PySem.W
open AutoSeq1 (wpAny_loadPart')
end L2
namespace L2
open PySem PySem.Calls PySem.Spec PyProof.Rows PySem.W
section
variable {prog:Program} {w:World} {A:Around} {E:Value → Shared → Prop} {s:Shared}
end
end L2
namespace L2
open PySem PySem.Calls PySem.Spec PyProof.Rows PySem.W
section
variable {prog:Program} {w:World} {A:Around} {E:Value → Shared → Prop} {s:Shared}
end
end L2
namespace L2
open PySem PySem.W PyProof.Rows
structure LtE (M:Model) (A:Around) (E:Value → Shared → Prop) (s:Shared) (κ:SortKind) (G:Keyed → Prop) (R:Keyed → Keyed → Bool) : Prop where
  lt : ∀ x y,G x → G y → ∀ (st:SortSt) (Q:Option Bool → SortSt → Prop),kindOf st = κ → Q (some (R x y)) st → wpS M A E s (lt' x y) Q st
  asym : ∀ x y,G x → G y → R x y = true → R y x = false
  tr : ∀ x y z,G x → G y → G z → R x y = false → R y z = false → R x z = false
section
variable {M:Model} {A:Around} {E:Value → Shared → Prop} {s:Shared} {κ:SortKind} {G:Keyed → Prop} {R:Keyed → Keyed → Bool}
end
end L2
namespace L2
open PySem PySem.W PyProof.Rows
section
variable {R:Keyed → Keyed → Bool} {A B o as bs p:List Keyed}
end
section
variable {M:Model} {A:Around} {E:Value → Shared → Prop} {s:Shared} {κ:SortKind} {G:Keyed → Prop} {R:Keyed → Keyed → Bool}
abbrev d0 : Keyed:=(.none,.none)
section
variable {a b o:Array Keyed} {ia ib k:Nat}
end
end
end L2
namespace L2
open PySem PySem.W PyProof.Rows
section
variable {M:Model} {A:Around} {E:Value → Shared → Prop} {s:Shared} {κ:SortKind} {G:Keyed → Prop} {R:Keyed → Keyed → Bool}
end
end L2
namespace L2
open PySem PySem.W PyProof.Rows
section
variable {M:Model} {A:Around} {E:Value → Shared → Prop} {s:Shared} {κ:SortKind} {G:Keyed → Prop} {R:Keyed → Keyed → Bool}
section
variable {a b o:Array Keyed} {na nb k:Nat}
end
end
end L2
namespace L2
open PySem PySem.W PyProof.Rows
section
variable {M:Model} {A:Around} {E:Value → Shared → Prop} {s:Shared} {κ:SortKind} {G:Keyed → Prop} {R:Keyed → Keyed → Bool}
end
end L2
namespace L2
open PySem PySem.W PyProof.Rows
section
variable {M:Model} {A:Around} {E:Value → Shared → Prop} {s:Shared} {κ:SortKind} {G:Keyed → Prop} {R:Keyed → Keyed → Bool}
end
end L2
namespace L2
open PySem PySem.W PyProof.Rows
section
variable {M:Model} {A:Around} {E:Value → Shared → Prop} {s:Shared} {κ:SortKind} {G:Keyed → Prop} {R:Keyed → Keyed → Bool} {a₀:Array Keyed}
end
end L2
namespace L2
open PySem PySem.Calls PySem.W PyProof.Rows
section
variable {prog:Program} {w:World} {A:Around} {E:Value → Shared → Prop} {s:Shared} {κ:SortKind} {G:Keyed → Prop} {R:Keyed → Keyed → Bool}
end
end L2
namespace L2
open PySem PySem.Calls PySem.Spec PySem.W PyProof.Rows
open Classical in
noncomputable def dtOf (h:Heap) (v:Value) : Dt:=if e : ∃ d,DA h d v then e.choose else .tup []
section
variable {prog:Program} {w:World} {A:Around} {E:Value → Shared → Prop} {s:Shared}
end
end L2
namespace L2
open PySem PySem.Calls PySem.Spec PyProof.Rows PySem.W
section
variable {X:Cx}
end
end L2
namespace L2
open PySem PySem.Calls PySem.Spec PyProof.Rows PySem.W
abbrev XN:=List (Dt × Addr × V)
section
variable {P:Program} {w:World} {H H':Hp} {h:Heap} {a:Addr} {kvs:List (Dt × V)}
end
section
variable {X:Cx} {pins:List (Addr × Obj)} {σ:L2.St} {H:Hp} {s:Shared} {a b:Addr} {k:Dt} {kvs:List (Dt × V)} {v:V} {A:Around} {E:Value → Shared → Prop}
end
end L2
namespace PySem
open Sem (wp)
section
variable {prog:Program} {w:World} {A:Around} {E:Value → Shared → Prop} {s:Shared} {d it:Addr} {es:Array DictEntry} {ep i:Nat}
end
end PySem
namespace PySem.W
open PySem
section
variable {prog:Program} {w:World} {d r:Addr} {es:Array DictEntry} {ep:Nat}
end
end PySem.W
namespace PySem.W
open PySem PySem.Spec PySem.Calls PyProof.Rows
def ExAt (x D:Addr) (h:Heap) : Prop:=∃ o vs,h.get? x = some o ∧ o.cls = .ref D ∧ o.data = .fields vs
theorem ExAt.ty {x D:Addr} {h:Heap} (p:ExAt x D h) (M:Model) : Looks M h (typeOf (.ref x)) (.ref D):=by
  obtain ⟨o,vs,h1,h2,_⟩:=p
  exact h2 ▸ (Looks.ld h1).andThen .now
section
variable {prog:Program} {w:World} {A:Around} {E:Value → Shared → Prop} {K:Frag} {x D:Addr} {h:Heap} {g:Array GenState} {d:Drawn} {t:Nat} {os:OsState}
theorem ex_check_ga {M:Model} {nameV:Value} {Q:Unit → Shared → Prop} (X:K.In h) (p:ExAt x D h) (hb:mroIn K D (.type "BaseException") = some true) (hq:Q () ⟨h,g,d,t,os⟩) :
    wpAny M A (checkBuiltinCall "BaseException.__getattribute__" ⟨[.ref x,nameV],[]⟩) Q E ⟨h,g,d,t,os⟩:=by
  have hk : builtinKind "BaseException.__getattribute__" = some .slot:=by decide +kernel
  have hsplit : splitId "BaseException.__getattribute__" = some ("BaseException", "__getattribute__"):=by decide +kernel
  have ha:=F.args_bexc_ga (.ref x) nameV
  have L0:=p.ty M
  have L1:=looks_mroIn (M:=M) X hb
  simp only [checkBuiltinCall,hk,hsplit]
  unfold isInstance
  refine wpAny_bind (wpAny_bind (L0.at (L1.at ?_)))
  repeat (first | wp_step)
  exact hq
theorem ex_class_get {tp:Value} {R:Result → Shared → Prop} (X:K.In h) (p:ExAt x D h) (hm:mroIn K D (.type "object") = some true) (hq:R (.ok (.ret (.ref D))) ⟨h,g,d,t,os⟩) :
    codeAny (model prog w) A (.call (.builtin "getset_descriptor.__get__") ⟨[.builtin "object.__class__", .ref x,tp],[]⟩) R ⟨h,g,d,t,os⟩:=by
  have L0:=p.ty (model prog w)
  have L1:=looks_mroIn (M:=model prog w) X hm
  have hT5 : (⟨h,g,d,t,os⟩ : Shared).TypeIs (.builtin "object.__class__") "getset_descriptor" := F.typeOf_object_class
  refine codeAny_call_builtin F.slot_gs_get.plain F.entry_gs_get (F.slot_gs_get.check _ _ _ _ _ _ _ _ hT5 (F.args_gs_get _ _ _) ?_)
  repeat (any_goals (first | assumption | with_reducible refine L0.at ?_ | (rw [F.owner_object_class]; with_reducible refine L1.at ?_) | wp_step))
  refine ⟨Code.quiet_builtin _ (by decide +kernel),codeAny_builtin F.entry_object_class ?_⟩
  repeat (any_goals (first | assumption | with_reducible refine L0.at ?_ | wp_step))
theorem ex_class_entry {tk:Tok} {Q:Fin → Shared → Prop} (X:K.In h) (p:ExAt x D h) (hc:findIn K (.ref D) "__class__" = some (some (.builtin "object.__class__"))) (hm:mroIn K D (.type "object") = some true) (hq:Q (.done (.ret (.ref D))) ⟨h,g,d,t,os⟩) :
    wpAny (model prog w) A (Builtin.«object.__getattribute__» ⟨[.ref x,.str "__class__" tk],[]⟩) Q E ⟨h,g,d,t,os⟩:=by
  have f5:=F.typeOf_object_class
  have f6:=F.slot_gs_get.lookup
  have f7:=F.slot_gs_set.lookup
  have L0:=p.ty (model prog w)
  have L1:=looks_findIn (M:=model prog w) X hc
  have hT5 : (⟨h,g,d,t,os⟩ : Shared).TypeIs (.builtin "object.__class__") "getset_descriptor" := F.typeOf_object_class
  repeat (any_goals (first | assumption | with_reducible refine L0.at ?_ | with_reducible refine L1.at ?_ | wp_step))
  refine ex_class_get X p hm ?_
  repeat (any_goals (first | assumption | wp_step))
theorem ex_class_by {tk:Tok} {Q:Value → Shared → Prop} (X:K.In h) (p:ExAt x D h) (hga:findIn K (.ref D) "__getattribute__" = some (some (.builtin "BaseException.__getattribute__"))) (hgt:findIn K (.ref D) "__getattr__" = some none)
    (hb:mroIn K D (.type "BaseException") = some true) (hc:findIn K (.ref D) "__class__" = some (some (.builtin "object.__class__"))) (hm:mroIn K D (.type "object") = some true) (hq:Q (.ref D) ⟨h,g,d,t,os⟩) :
    wpAny (model prog w) A (getAttrBy (.ref x) (.str "__class__" tk) false false) Q E ⟨h,g,d,t,os⟩:=by
  have L0:=p.ty (model prog w)
  have L1:=looks_findIn (M:=model prog w) X hga
  have L2:=looks_findIn (M:=model prog w) X hgt
  have f3:=F.attr_ValueError.ga.bind (.ref x)
  have hx2 : (Value.builtin "BaseException.__getattribute__" == Value.builtin "object.__getattribute__") = false:=by decide +kernel
  have hx1 : (onTheHeap (Value.ref D) && Value.builtin "BaseException.__getattribute__" == Value.builtin "object.__getattribute__") = false:=by rw [hx2]; rfl
  repeat (any_goals (first | assumption | with_reducible refine L0.at ?_ | with_reducible refine L1.at ?_ | with_reducible refine L2.at ?_ | wp_step))
  refine codeAny_call_builtin F.attr_ValueError.ga.plain F.entry_bexc_ga (ex_check_ga X p hb (ex_class_entry X p hc hm ?_))
  repeat (any_goals (first | assumption | wp_step))
theorem ex_class {Q:Option Value → Shared → Prop} (X:K.In h) (p:ExAt x D h) (hga:findIn K (.ref D) "__getattribute__" = some (some (.builtin "BaseException.__getattribute__"))) (hgt:findIn K (.ref D) "__getattr__" = some none)
    (hb:mroIn K D (.type "BaseException") = some true) (hc:findIn K (.ref D) "__class__" = some (some (.builtin "object.__class__"))) (hm:mroIn K D (.type "object") = some true) (hq:Q (some (.ref D)) ⟨h,g,d,t + 1,os⟩) :
    wpAny (model prog w) A (getAttr? (.ref x) "__class__") Q E ⟨h,g,d,t,os⟩:=by
  unfold getAttr? getAttrBy?
  repeat (any_goals (first | assumption | with_reducible apply ex_class_by X p hga hgt hb hc hm | wp_step))
end
structure ExCls (K:Frag) (D:Addr) : Prop where
  ga : findIn K (.ref D) "__getattribute__" = some (some (.builtin "BaseException.__getattribute__"))
  gt : findIn K (.ref D) "__getattr__" = some none
  bs : mroIn K D (.type "BaseException") = some true
  cl : findIn K (.ref D) "__class__" = some (some (.builtin "object.__class__"))
  ob : mroIn K D (.type "object") = some true
  ic : (clsIn K D).isSome = true
theorem kitx_exc {K:Frag} {x D:Addr} (C:ExCls K D) : KitX K (.ref x) (.ref D) (ExAt x D) where
  ty:=fun M _ _ p=>p.ty M
  it:=fun _ _ X _=>by
    have hcD:=C.ic
    unfold clsIn at hcD
    split at hcD
    · rename_i c' d' cd' sl' ho
      intro A' Q' E' s' k q
      unfold isType loadHead
      exact wpAny_bind (wpAny_loadPart (k _ _ (X _ _ ho)) (wpAny_pure q))
    · cases hcD
  ne:=fun h tp dd its n sl X htp=>by
    have hcD:=C.ic
    refine Bool.eq_false_iff.mpr fun q=>?_
    have e : D = tp:=Value.ref.inj (beq_iff_eq.mp q)
    subst e
    unfold clsIn at hcD
    split at hcD
    · rename_i c' d' cd' sl' ho
      have z:=(X _ _ ho).symm.trans htp
      cases z
    · cases hcD
  ca:=fun {_ _ _ _ _ s} X p k=>by
    obtain ⟨h,g,d,t,os⟩:=s
    exact ex_class X p C.ga C.gt C.bs C.cl C.ob k
end PySem.W
namespace L2
open PySem PySem.Spec PyProof.Rows
section
variable {P:Program} {w:World} {H H':Hp} {h h' g:Heap} {a:Addr} {o:HO}
theorem ObjOk.there (x:ObjOk P w H h a o) : ∃ ob,h.get? a = some ob:=by
  cases o with
  | lst xs=>obtain ⟨_,_,_,_,e⟩:=x; exact ⟨_,e⟩
  | tup xs=>obtain ⟨_,_,_,ob,e,_⟩:=x; exact ⟨_,e⟩
  | dK kvs=>obtain ⟨_,_,_,_,o,_,_,e,_⟩:=x; exact ⟨_,e⟩
  | dT kvs=>obtain ⟨_,_,_,_,o,_,_,e,_⟩:=x; exact ⟨_,e⟩
  | set S n=>obtain ⟨o,_,_,_,e,_⟩:=x; exact ⟨_,e⟩
  | ins C dx fs=>obtain ⟨_,_,_,e,_⟩:=x; exact ⟨_,e⟩
  | own y=>exact x
  | xd fs=>obtain ⟨_,⟨_,_,_,e,_⟩,_⟩:=x; exact ⟨_,e⟩
  | rng lo hi=>obtain ⟨_,_,_,e⟩:=x; exact ⟨_,e⟩
  | frz ob u=>obtain ⟨e,_⟩:=x; exact ⟨_,e⟩
  | tbl ps=>exact ⟨_,(show h.get? a = some _ from x)⟩
  | met f y=>exact ⟨_,(show h.get? a = some _ from x)⟩
  | ext φ=>obtain ⟨_,e,_⟩:=x; exact e
def Cov (fs:List Addr) (H':Hp) (h g B:Heap) : Prop:=∀ b o,g.get? b = some o → b ∉ fs → ((∃ o0,h.get? b = some o0) ∨ H' b ≠ none) → B.get? b = some o
theorem moved {fs:List Addr} {B:Heap} (un:Un fs [] H H' h g) (hok:HOk P w H' g) (cov:Cov fs H' h g B) (hfd:∀ b ∈ fs,H' b = none ∧ ∃ o,g.get? b = some o ∧ ∀ vs,o.data ≠ .fields vs)
    (st:B.StaysIn h') (sm:g.UpToSlots h') : Un fs [] H H' h h' ∧ HOk P w H' h' ∧ Cov fs H' h h' B:=by
  refine ⟨⟨fun b o q n nb _=>?_,fun b o q n hb _=>?_,un.free,fun b o q _=>?_,un.tups,un.frzs,un.tbls⟩,fun b u e=>?_,fun b o e nb hz=>?_⟩
  · exact st b o (cov b o (un.keep b o q n nb (by simp)) nb (.inl ⟨o,q⟩))
  · obtain ⟨sl,e⟩:=un.slot b o q n hb (by simp)
    obtain ⟨_,o',e',d⟩:=hfd b hb
    rw [e] at e'; cases e'
    obtain ⟨sl',e2⟩:=sm b _ e d
    exact ⟨sl',e2⟩
  · by_cases hb : b ∈ fs
    · obtain ⟨_,o',e',d⟩:=hfd b hb
      obtain ⟨sl',e2⟩:=sm b _ e' d
      exact ⟨_,e2⟩
    · obtain ⟨o',e⟩:=un.there b o q (by simp)
      exact ⟨o',st b o' (cov b o' e hb (.inl ⟨o,q⟩))⟩
  · refine (hok b u e).stay (fun c v hc q=>?_) (fun _ q=>q) fun _ _ q=>q
    have hn : H' c ≠ none:=by
      rcases hc with z | z
      · rw [z,e]; intro y; cases y
      · rw [z]; intro y; cases y
    exact st c v (cov c v q (fun z=>hn (hfd c z).1) (.inr hn))
  · have : ∃ o',g.get? b = some o':=by
      rcases hz with ⟨o0,z⟩ | z
      · exact un.there b o0 z (by simp)
      · cases q : H' b with
        | none=>exact absurd q z
        | some u=>exact (hok b u q).there
    obtain ⟨o',e'⟩:=this
    have c:=cov b o' e' nb hz
    have:=st b o' c
    rw [e] at this; cases this
    exact c
end
structure Flew (P:Program) (w:World) (stk:List Env) (H:Hp) (s:Shared) (H':Hp) (ea C:Addr) (s':Shared) : Prop where
  os : s'.os = s.os
  bare : AllBare s'.gens
  un : Un (frs stk) [] H H' s.heap s'.heap
  hok : HOk P w H' s'.heap
  new : s.heap.get? ea = none
  hn : H' ea = none
  fly : ∃ (B:Heap) (a0:Value),Heap.FlyingW B stk ea (.ref C) a0 s'.heap ∧ Cov (frs stk) H' s.heap s'.heap B
def CXF (P:Program) (w:World) : CXT:=fun outer H s E e s'=>∃ ea C H',e = .ref ea ∧ Flew P w outer H s H' ea C s' ∧ E (.ref C) none H'
section
variable {X:Cx} {pins:List (Addr × Obj)} {σ:St} {H H':Hp} {s s':Shared} {ea C:Addr}
theorem Flew.frd (F:Flew X.prog X.w X.stack H s H' ea C s') (I:Inv X pins σ H s) {B:Heap} {a0:Value} (hfl:Heap.FlyingW B X.stack ea (.ref C) a0 s'.heap) : ∀ b ∈ frs X.stack,H' b = none ∧ ∃ o,s'.heap.get? b = some o ∧ ∀ vs,o.data ≠ .fields vs:=fun b hb=>by
  obtain ⟨_,o,e,d⟩:=I.stack.mem hb
  exact ⟨F.un.free b o e (I.stkFree b hb) (by simp),(hfl.2.2.1.mem hb).2⟩
theorem Flew.on (F:Flew X.prog X.w X.stack H s H' ea C s') (I:Inv X pins σ H s) {B:Heap} {a0:Value} {h':Heap} (hfl:Heap.FlyingW B X.stack ea (.ref C) a0 s'.heap) (cov:Cov (frs X.stack) H' s.heap s'.heap B)
    (hfl':Heap.FlyingW B X.stack ea (.ref C) a0 h') (sm:s'.heap.UpToSlots h') : Flew X.prog X.w X.stack H s H' ea C { s' with heap:=h' }:=by
  obtain ⟨u,k,c⟩:=moved F.un F.hok cov (F.frd I hfl) hfl'.1 sm
  exact ⟨F.os,F.bare,u,k,F.new,F.hn,B,a0,hfl',c⟩
theorem Flew.inv (F:Flew X.prog X.w X.stack H s H' ea C s') (I:Inv X pins σ H s) : Inv X pins σ H' s':=I.call' (ch:=[]) F.os F.un F.hok F.bare (fun b z=>absurd z (by simp))
end
section
variable {P:Program} {w:World} {K:PySem.W.Frag} {mg:Str → Option Value} {base:Heap} {N:List Str} {qual:Str} {scope:Scope} {f:Addr} {cd:Value} {A:Around} {outer:List Env} {s:Shared} {H:Hp} {E:XK}
theorem frame_out {pins:List (Addr × Obj)} {σ:St} {H1 H':Hp} {s1:Shared} {h' B:Heap} (I:Inv (cxOf (CXF P w) P w K mg base N qual scope f cd A outer s H E) pins σ H1 s1)
    (U:Un (frs (cxOf (CXF P w) P w K mg base N qual scope f cd A outer s H E).stack) [] H1 H' s1.heap h') (c:Cov (frs (cxOf (CXF P w) P w K mg base N qual scope f cd A outer s H E).stack) H' s1.heap h' B) : Un (frs outer) [] H H' s.heap h' ∧ Cov (frs outer) H' s.heap h' B:=by
  have ba : Un (frs outer) [] H H1 s.heap s1.heap:=I.base
  have ab : s.heap.objs.size ≤ (cxOf (CXF P w) P w K mg base N qual scope f cd A outer s H E).env.locals:=I.ok.above
  have lt : ∀ b o,s.heap.get? b = some o → b ≠ (cxOf (CXF P w) P w K mg base N qual scope f cd A outer s H E).env.locals:=fun b o e=>Nat.ne_of_lt (Nat.lt_of_lt_of_le (Heap.lt_size e) ab)
  have no : ∀ b,b ≠ (cxOf (CXF P w) P w K mg base N qual scope f cd A outer s H E).env.locals → b ∉ frs outer → b ∉ frs (cxOf (CXF P w) P w K mg base N qual scope f cd A outer s H E).stack:=fun b n1 n2 z=>by
    rcases List.mem_cons.mp (I.stkSub b z) with q | q
    · exact n1 q
    · exact n2 q
  have hL : H' (cxOf (CXF P w) P w K mg base N qual scope f cd A outer s H E).env.locals = none:=by
    obtain ⟨m,⟨o,_,_,e,_⟩,_⟩:=I.loc
    exact U.free _ o e I.free (by simp)
  refine ⟨⟨fun b o q n nb hx=>U.keep b o (ba.keep b o q n nb hx) (ba.free b o q n hx) (no b (lt b o q) nb) hx,fun b o q n hb hx=>?_,fun b o q n hx=>?_,fun b o q hx=>?_,fun b xs q=>U.tups b xs (ba.tups b xs q),fun b o u q=>U.frzs b o u (ba.frzs b o u q),fun b ps q=>?_⟩,fun b o e nb hz=>?_⟩
  · obtain ⟨sl,e⟩:=ba.slot b o q n hb hx
    obtain ⟨sl',e'⟩:=U.any e (ba.free b o q n hx) hx
    exact ⟨sl',e'⟩
  · obtain ⟨o',e⟩:=ba.there b o q hx
    exact U.free b o' e (ba.free b o q n hx) hx
  · obtain ⟨o',e⟩:=ba.there b o q hx
    exact U.there b o' e hx
  · obtain ⟨m1,e1⟩:=ba.tbls b ps q
    obtain ⟨m2,e2⟩:=U.tbls b _ e1
    exact ⟨m1 ++ m2,by rw [e2,Array.append_assoc]⟩
  · rcases hz with ⟨o0,z⟩ | z
    · obtain ⟨o1,z1⟩:=ba.there b o0 z (by simp)
      exact c b o e (no b (lt b o0 z) nb) (.inl ⟨o1,z1⟩)
    · exact c b o e (no b (fun y=>z (by rw [y]; exact hL)) nb) (.inr z)
theorem cxf_pass : Passes (CXF P w) (cxOf (CXF P w) P w K mg base N qual scope f cd A outer s H E) E:=by
  rintro pins σ H1 s1 e s' I ⟨ea,C,H',rfl,F,q⟩
  obtain ⟨B,a0,hfl,cov⟩:=F.fly
  refine wpAny_leaves_onW I.ok.frames rfl hfl fun h' x1 x2=>?_
  obtain ⟨u,k,c⟩:=moved F.un F.hok cov (Flew.frd (X:=cxOf (CXF P w) P w K mg base N qual scope f cd A outer s H E) F I hfl) x1.1 x2
  obtain ⟨u2,c2⟩:=frame_out I u c
  refine ⟨ea,C,H',rfl,⟨F.os.trans I.os,F.bare,u2,k,?_,F.hn,B,a0,x1,c2⟩,q⟩
  cases z : s.heap.get? ea with
  | none=>rfl
  | some o =>
    obtain ⟨o',z'⟩:=(show Un (frs outer) [] H H1 s.heap s1.heap from I.base).there ea o z (by simp)
    rw [F.new] at z'; cases z'
theorem cxf_raise {pins:List (Addr × Obj)} {σ:St} {H1:Hp} {s1:Shared} {h1:Heap} {ea C:Addr} {vs:List Value} (I:Inv (cxOf (CXF P w) P w K mg base N qual scope f cd A outer s H E) pins σ H1 s1) (hx:Heap.MadeExcOf s1.heap h1 ea (.ref C) vs) (q:E (.ref C) none H1) :
    (cxOf (CXF P w) P w K mg base N qual scope f cd A outer s H E).xe (.ref ea) { s1 with heap:=h1 }:=by
  refine wpAny_leaves_madeW (base:=PySem.W.hideAll s1.heap (frs (cxOf (CXF P w) P w K mg base N qual scope f cd A outer s H E).stack)) I.ok.frames rfl (fun b o e=>PySem.W.of_hideAll _ e) (PySem.W.funFrames_hide I.stack fun env he b hb=>List.mem_filterMap.mpr ⟨env,he,hb⟩) hx fun h' t x1 x2 x3 x4=>?_
  have cov : Cov (frs (cxOf (CXF P w) P w K mg base N qual scope f cd A outer s H E).stack) H1 s1.heap h1 (PySem.W.hideAll s1.heap (frs (cxOf (CXF P w) P w K mg base N qual scope f cd A outer s H E).stack)):=fun b o e nb hz=>by
    have : ∃ o0,s1.heap.get? b = some o0:=by
      rcases hz with z | z
      · exact z
      · cases y : H1 b with
        | none=>exact absurd y z
        | some u=>exact (I.hok b u y).there
    obtain ⟨o0,z⟩:=this
    have:=hx.keeps b o0 z
    rw [e] at this; cases this
    exact PySem.W.hideAll_get _ z nb
  obtain ⟨u,k,c⟩:=moved (Un.kept (fs:=frs (cxOf (CXF P w) P w K mg base N qual scope f cd A outer s H E).stack) (ex:=[]) (H:=H1) hx.keeps) (I.hok.kept hx.keeps) cov (fun b hb=>by
    obtain ⟨_,o,e,d⟩:=I.stack.mem hb
    exact ⟨I.stkFree b hb,o,hx.keeps b o e,d⟩) x1.1 x4
  obtain ⟨u2,c2⟩:=frame_out I u c
  refine ⟨ea,C,H1,rfl,⟨I.os,I.bare,u2,k,?_,?_,_,_,x1,c2⟩,q⟩
  · cases z : s.heap.get? ea with
    | none=>rfl
    | some o =>
      obtain ⟨o',z'⟩:=(show Un (frs outer) [] H H1 s.heap s1.heap from I.base).there ea o z (by simp)
      rw [hx.new] at z'; cases z'
  · cases y : H1 ea with
    | none=>rfl
    | some u =>
      obtain ⟨o,z⟩:=(I.hok ea u y).there
      rw [hx.new] at z; cases z
end
end L2
namespace PySem.W
open PySem PySem.Spec PySem.Calls PyProof.Rows
section
variable {M:Model} {A:Around} {E:Value → Shared → Prop} {K:Frag} {x C D:Addr} {b:Bool} {h:Heap} {g:Array GenState} {d:Drawn} {t:Nat} {os:OsState}
theorem ex_matches {Q:Bool → Shared → Prop} (X:K.In h) (p:ExAt x C h) (tD:typeIn K (.ref D) = some (.type "type")) (bD:mroIn K D (.type "BaseException") = some true) (cD:(clsIn K D).isSome = true) (e:mroIn K C (.ref D) = some b) (hq:Q b ⟨h,g,d,t,os⟩) :
    wpAny M A (excMatches (.ref x) (.ref D)) Q E ⟨h,g,d,t,os⟩:=by
  have L0:=p.ty M
  have L1:=looks_typeIn (M:=M) X tD
  have L2:=looks_mroIn (M:=M) X bD
  have L3:=looks_mroIn (M:=M) X e
  have L4 : Looks M h (isType (.ref D)) true:=by
    unfold clsIn at cD
    split at cD
    · rename_i c' d' cd' sl' ho
      intro A' Q' E' s' k q
      unfold isType loadHead
      exact wpAny_bind (wpAny_loadPart (k _ _ (X _ _ ho)) (wpAny_pure q))
    · cases cD
  have f:=tc_notTuple
  unfold excMatches
  repeat (first | with_reducible refine L0.at ?_ | with_reducible refine L1.at ?_ | with_reducible refine L4.at ?_ | with_reducible refine L2.at ?_ | with_reducible refine L3.at ?_ | wp_step)
  cases b with
  | true=>repeat (first | exact hq | wp_step)
  | false=>repeat (first | exact hq | wp_step)
end
theorem exc_obj {K:Frag} {h:Heap} {C:Addr} {bB:List Value} {nid:String} (Z:K.In h) (e:excIn K C bB nid = true) : ∃ tl NN n1 n2 b1 b2 b3 b4 b5 b6 b7 z0 z1 z2 z3 z5 mm,
    h.get? C = some (excClassObj n1 n2 C NN b1 tl b2 b3 b4 b5 b6 b7 z0 z1 z2 z3 z5 nid) ∧ h.Ns NN mm ∧ mm "__init__" = none ∧ OwnTail h bB tl:=by
  unfold excIn at e
  split at e
  next b7 cc ss hK =>
    split at e
    next C2 tl z0 z1 z2 z3 nn z5 hmro hsl =>
      simp only [Bool.and_eq_true,beq_iff_eq,Bool.not_eq_true'] at e
      obtain ⟨⟨⟨⟨⟨r1,r2⟩,hdl⟩,htl⟩,hnk⟩,hin⟩:=e
      subst r1 r2
      obtain ⟨n1,b1,mro,NN,n2,b2,b3,b4,b5,b6,del⟩:=cc
      dsimp only at hmro hdl hnk hin
      subst hmro hdl
      have es : ss = #[z0,z1,z2,z3,some (.builtin nn),z5]:=by
        obtain ⟨l⟩:=ss
        simp only at hsl
        rw [hsl]
      subst es
      exact ⟨tl,NN,n1,n2,b1,b2,b3,b4,b5,b6,b7,z0,z1,z2,z3,z5,_,Z _ _ hK,.of_isNs (isNs_of_in Z hnk),nsMap_none_of_in Z hnk hin,tail_of_in Z htl⟩
    next=>cases e
  next=>cases e
end PySem.W
namespace L2
open PySem PySem.Spec PyProof.Rows
structure ExC (K:PySem.W.Frag) (C:Addr) : Prop extends PySem.W.ExCls K C where
  ty : PySem.W.typeIn K (.ref C) = some (.type "type")
abbrev bmVE : List Value:=[.type "ValueError", .type "Exception", .type "BaseException", .type "object"]
def tRaise (C:Addr) (E:XK) (t:TA) : TS:=fun _ σ H=>t σ H fun vs H1=>vs.length ≤ sizeLine ∧ E (.ref C) none H1
section
variable {P:Program} {w:World} {K:PySem.W.Frag} {mg:Str → Option Value} {base:Heap} {N:List Str} {qual:Str} {scope:Scope} {f:Addr} {cd:Value} {A:Around} {outer:List Env} {s:Shared} {H:Hp} {E:XK}
theorem ps_raise {x:Str} {np cpos pos:Pos} {e0:Expr} {es:List Expr} {t:TA} {C:Addr} (hg:Gl (cxOf (CXF P w) P w K mg base N qual scope f cd A outer s H E) x) (hm:mg x = some (.ref C)) (hC:PySem.W.excIn K C bmVE "ValueError.__new__" = true)
    (ha:PA (cxOf (CXF P w) P w K mg base N qual scope f cd A outer s H E) (e0 :: es) t) (hdb:(x == ("__debug__" : Str)) = false:=by decide)
    (he:starEach (e0 :: es) (cxOf (CXF P w) P w K mg base N qual scope f cd A outer s H E).env = (false,eval e0 (cxOf (CXF P w) P w K mg base N qual scope f cd A outer s H E).env) :: starEach es (cxOf (CXF P w) P w K mg base N qual scope f cd A outer s H E).env:=by rfl)
    (hpl:(backTo cpos (starEach es (cxOf (CXF P w) P w K mg base N qual scope f cd A outer s H E).env)).any (·.1) = false:=by rfl) :
    PS (cxOf (CXF P w) P w K mg base N qual scope f cd A outer s H E) (.Raise (some (.Call (.Name x np) (e0 :: es) [] cpos)) none pos) (tRaise C E t):=by
  intro pins s1 σ H1 D I h
  obtain ⟨tl,NN,n1,n2,b1,b2,b3,b4,b5,b6,b7,z0,z1,z2,z3,z5,mm,hobj,hns,hni,T⟩:=PySem.W.exc_obj I.ok.mod.kin hC
  refine wpAny_Raise_call_subT (C:=C) (nm:=n1) (q:=n2) (N:=NN) (bs:=b1) (bm:=tl) (hdct:=b2) (sn:=b3) (sub:=b4) (ab:=b5) (col:=b6) (dd:=b7) (k0:=z0) (k1:=z1) (k2:=z2) (k3:=z3) (k5:=z5) PySem.F.excBase_ValueError (mN:=mm) (T.hasType PySem.F.excBase_ValueError.hasBase) (I.ok.hd rfl) ?_ hni (ld_glob I hg hm ⟨rfl,?_⟩ hdb)
  · rw [he]
    show (false || (backTo cpos (starEach es _)).any (·.1)) = false
    rw [hpl]; rfl
  · have z:=ha cpos pins s1 σ H1 _ I h
    rw [he] at z ⊢
    refine Calls.evalArgs_plain (wpAny_mono z (fun us s2 ⟨vs,H2,I2,r,hl,q⟩=>⟨rfl,by rw [← r.length]; exact hl,I2.bk _ _ hobj,hns.keeps I2.bk,T.keeps I2.bk,fun h' e hx=>cxf_raise I2 hx q⟩) fun _ _ y=>y)
end
end L2
namespace L2
open PySem PySem.Spec PyProof.Rows
def exO (ea C:Addr) : HO:=.ext (PySem.W.ExAt ea C)
theorem exO_ok {P:Program} {w:World} {H:Hp} {h:Heap} {ea C:Addr} (p:PySem.W.ExAt ea C h) : ObjOk P w H h ea (exO ea C):=by
  obtain ⟨o,vs,e,hc,hd⟩:=p
  exact ⟨⟨o,vs,e,hc,hd⟩,⟨o,e⟩,fun h1 h2 ⟨o,vs,e,hc,hd⟩ k=>⟨o,vs,k o e,hc,hd⟩⟩
theorem exO_get {P:Program} {w:World} {H:Hp} {h:Heap} {ea C:Addr} (hok:HOk P w H h) (e:H ea = some (exO ea C)) : PySem.W.ExAt ea C h:=(hok ea _ e).1
abbrev HR:=Ends → Addr → St → Hp → Prop
abbrev Cx.inX (X:Cx) (ea:Addr) : Cx:={ X with A:=X.A.mark (some (.ref ea)),calm:=false,xe:=fun _ _=>False }
theorem Cx.Ok.inX {X:Cx} (ok:X.Ok) (ea:Addr) : (X.inX ea).Ok :=
  ⟨ok.mod,ok.kind,ok.glob,ok.blt,ok.above,ok.inj,ok.has,ok.cab,fun z=>(by cases z),ok.frames,ok.stk,ok.exf,ok.bs,ok.bsz,ok.noex,ok.exfs,ok.funs,ok.frf⟩
section
variable {X:Cx} {pins:List (Addr × Obj)} {σ:St} {H H':Hp} {s s':Shared} {ea C:Addr}
theorem Inv.inX (I:Inv X pins σ H s) (ea:Addr) : Inv (X.inX ea) pins σ H s:=⟨I.ok.inX ea,I.os,I.bare,I.base,I.loc,I.cell,I.free,I.freeC,I.pin,I.hok,I.len⟩
theorem Inv.outX (ok:X.Ok) (I:Inv (X.inX ea) pins σ H s) : Inv X pins σ H s:=⟨ok,I.os,I.bare,I.base,I.loc,I.cell,I.free,I.freeC,I.pin,I.hok,I.len⟩
def PH (X:Cx) (hs:List ExceptHandler) (r:HR) : Prop:=∀ (pins:List (Addr × Obj)) (D:Ends) (σ:St) (ea C:Addr) (H H0:Hp) (s s0:Shared),Inv X pins σ H0 s0 → Flew X.prog X.w X.stack H0 s0 H ea C s → r D C σ H →
  wpAny (model X.prog X.w) X.A (handleBy (.ref ea) X.env hs) (SP X pins D) X.xe s
theorem ph_nil : PH X [] (fun _ _ _ _=>False):=fun _ _ _ _ _ _ _ _ _ _ _ h=>False.elim h
theorem Flew.caught (F:Flew X.prog X.w X.stack H s H' ea C s') (I:Inv X pins σ H s) : Inv X pins σ (upd H' ea (exO ea C)) s':=by
  obtain ⟨B,a0,hfl,cov⟩:=F.fly
  obtain ⟨oe,vs,e1,e2,e3,_⟩:=hfl.first
  have ne : ∀ b u,H' b = some u → b ≠ ea:=fun b u q=>ne_of_none q F.hn
  refine I.call' (ch:=[]) F.os ⟨F.un.keep,F.un.slot,fun b o q n hx=>?_,F.un.there,fun b xs q=>?_,fun b o u q=>?_,fun b ps q=>?_⟩ (fun b u q=>?_) F.bare (fun b z=>absurd z (by simp))
  · rw [upd_ne (fun z=>by rw [z,F.new] at q; cases q)]
    exact F.un.free b o q n hx
  · have:=F.un.tups b xs q
    rw [upd_ne (ne b _ this)]; exact this
  · have:=F.un.frzs b o u q
    rw [upd_ne (ne b _ this)]; exact this
  · obtain ⟨m,this⟩:=F.un.tbls b ps q
    exact ⟨m,by rw [upd_ne (ne b _ this)]; exact this⟩
  · by_cases hb : b = ea
    · subst hb
      rw [upd_same] at q
      cases q
      exact exO_ok ⟨oe,vs,e1,e2,e3⟩
    · rw [upd_ne hb] at q
      exact (F.hok b u q).stay (fun _ _ _ z=>z) (fun c z=>by rw [upd_ne (ne c _ z)]; exact z) fun c xs z=>by rw [upd_ne (ne c _ z)]; exact z
theorem Inv.gone {M:Model} {A:Around} {E:Value → Shared → Prop} {n:Str} {i:Nat} {pos:Pos} {Q:Unit → Shared → Prop} (I:Inv X pins σ H s) (hN:X.N.Nodup) (hi:X.N[i]? = some n) (hl:X.env.kindOf n = some .local)
    (h:∀ s',Inv X pins (σ.set i none) H s' → Q () s') : wpAny M A (do bindName X.env n .none; unbindBehindTheSuite X.env n pos) Q E s:=by
  obtain ⟨m,hn,hv⟩:=id I.loc
  obtain ⟨oL,_,_,hoL,_⟩:=id hn
  have hiσ : i < σ.length:=by rw [I.len]; exact (List.getElem?_eq_some_iff.mp hi).1
  have cne:=I.cne
  have lt : ∀ b o,X.s₀.heap.get? b = some o → b ≠ X.env.locals:=fun b o e=>Nat.ne_of_lt (Nat.lt_of_lt_of_le (Heap.lt_size e) I.ok.above)
  refine wpAny_nameGoes_keeps hl hn (by rw [I.ok.kind]; rfl) fun h' v hn' hs=>h _ ?_
  refine ⟨I.ok,I.os,I.bare,⟨fun b o e nb hb hx=>?_,fun b o e nb hb hx=>?_,I.base.free,fun b o e hx=>?_,I.base.tups,I.base.frzs,I.base.tbls⟩,⟨_,hn',fun j y v' e1 e2 e3=>?_⟩,fun y c e=>?_,I.free,I.freeC,fun p hp=>?_,fun b ob e=>?_,by simpa using I.len⟩
  · exact (hs.2 b (lt b o e)).trans (I.base.keep b o e nb hb hx)
  · obtain ⟨sl,e1⟩:=I.base.slot b o e nb hb hx
    exact ⟨sl,(hs.2 b (lt b o e)).trans e1⟩
  · obtain ⟨o',e1⟩:=I.base.there b o e hx
    exact ⟨o',(hs.2 b (lt b o e)).trans e1⟩
  · by_cases hj : j = i
    · subst hj
      rw [List.getElem?_set_self hiσ] at e2
      cases e2
    · rw [List.getElem?_set_ne (Ne.symm hj)] at e2
      obtain ⟨u',r',q⟩:=hv j y v' e1 e2 e3
      refine ⟨u',r',?_⟩
      rcases q with ⟨k,e⟩ | ⟨k,c,e,z⟩
      · refine .inl ⟨k,?_⟩
        have : y ≠ n:=fun e=>hj (nodup_ix hN e1 (e ▸ hi))
        simp [this,e]
      · exact .inr ⟨k,c,e,z.sameBut hs (cne y c e)⟩
  · obtain ⟨w',z⟩:=I.cell y c e
    exact ⟨w',z.sameBut hs (cne y c e)⟩
  · obtain ⟨e,n,ne,nf,d⟩:=I.pin p hp
    exact ⟨(hs.2 p.1 ne).trans e,n,ne,nf,d⟩
  · refine (I.hok b ob e).stay (fun c w' hc q=>(hs.2 c ?_).trans q) (fun _ q=>q) fun _ _ q=>q
    rintro rfl
    rcases hc with rfl | hc
    · rw [I.free] at e; cases e
    · rw [I.free] at hc; cases hc
end
def Ends.less (D:Ends) (i:Nat) : Ends:={ nx:=fun σ H=>D.nx (σ.set i none) H,rt:=D.rt,bk:=fun σ H=>D.bk (σ.set i none) H,ct:=fun σ H=>D.ct (σ.set i none) H }
def hAs (K:PySem.W.Frag) (Da:Addr) (i:Nat) (ts:TS) (r:HR) : HR:=fun D C σ H=>PySem.W.ExCls K C ∧ ∃ b,PySem.W.mroIn K C (.ref Da) = some b ∧
  if b = true then ∀ ea,H ea = none → ts (D.less i) (σ.set i (some (.ref ea))) (upd H ea (exO ea C)) else r D C σ H
section
variable {X:Cx} {x n:Str} {np pos:Pos} {i:Nat} {b0:Stmt} {suite:List Stmt} {rest:List ExceptHandler} {ts:TS} {r:HR} {Da:Addr}
theorem SP.goes {ea:Addr} {pins:List (Addr × Obj)} {D:Ends} {M:Model} {A:Around} {E:Value → Shared → Prop} {f:Flow} {s:Shared} (ok:X.Ok) (hN:X.N.Nodup) (hi:X.N[i]? = some n) (hl:X.env.kindOf n = some .local) (h:SP (X.inX ea) pins (D.less i) f s) :
    wpAny M A (do bindName X.env n .none; unbindBehindTheSuite X.env n pos) (fun _ s'=>SP X pins D f s') E s:=by
  cases f with
  | next=>obtain ⟨σ',H',I,q⟩:=h; exact (Inv.outX ok I).gone hN hi hl fun s' I'=>⟨_,_,I',q⟩
  | brk=>obtain ⟨σ',H',I,q⟩:=h; exact (Inv.outX ok I).gone hN hi hl fun s' I'=>⟨_,_,I',q⟩
  | cont=>obtain ⟨σ',H',I,q⟩:=h; exact (Inv.outX ok I).gone hN hi hl fun s' I'=>⟨_,_,I',q⟩
  | ret u=>obtain ⟨v,σ',H',I,rv,q⟩:=h; exact (Inv.outX ok I).gone hN hi hl fun s' I'=>⟨v,_,_,I',rv,q⟩
theorem ph_as (hN:X.N.Nodup) (hi:X.N[i]? = some n) (hl:X.env.kindOf n = some .local) (hg:Gl X x) (hm:X.mg x = some (.ref Da)) (hD:ExC X.K Da) (hs:∀ ea,PSs (X.inX ea) (b0 :: suite) ts) (hr:PH X rest r) (hdb:(x == ("__debug__" : Str)) = false:=by decide) :
    PH X (.ExceptHandler (some (.Name x np)) (some n) (b0 :: suite) pos :: rest) (hAs X.K Da i ts r):=by
  intro pins D σ ea C H H0 s s0 I F h
  obtain ⟨hC,b,hb,h⟩:=h
  obtain ⟨B,a0,hfl,cov⟩:=F.fly
  obtain ⟨oe,vs,e1,e2,e3,_⟩:=hfl.first
  have I1:=F.inv I
  refine wpAny_handleBy_cons (codeAny_handlers_test (ld_glob (X:=X.inX ea) (I1.inX ea) hg hm ?_ hdb)) (by intro q; cases q)
  obtain ⟨hp,g,d,tk,os⟩:=s
  refine PySem.W.ex_matches I1.kIn ⟨oe,vs,e1,e2,e3⟩ hD.ty hD.bs hD.ic hb ?_
  cases b with
  | false=>exact hr pins D σ ea C H H0 _ s0 I F (by simpa using h)
  | true =>
    refine codeAny_handlers_suite_as ?_
    refine PyProof.Rows.lands_againW hfl fun h' hfl' sm=>?_
    have F2:=F.on I hfl cov hfl' sm
    have I2:=F2.caught I
    refine store_ok (X:=X.inX ea) (v:=.ref ea) (I2.inX ea) hN hi (.inl hl) rfl (fun s3 I3=>?_) (.inr hl)
    refine wpAny_mono (hs ea pins s3 _ _ _ I3 ((by simpa using h:∀ ea,H ea = none → ts (D.less i) (σ.set i (some (.ref ea))) (upd H ea (exO ea C))) ea F.hn)) (fun f s4 q=>?_) fun _ _ z=>False.elim z
    exact SP.goes I.ok hN hi hl q
abbrev Cx.inTry (X:Cx) (hs:List ExceptHandler) (pins:List (Addr × Obj)) (D:Ends) : Cx:={ X with pn:=X.pn ++ pins,xe:=fun e s1=>wpAny (model X.prog X.w) X.A (noteFrame e X.env) (fun _ s2=>wpAny (model X.prog X.w) X.A (setFlight e none) (fun _ s3=>wpAny (model X.prog X.w) X.A (handleBy e X.env hs) (SP X pins D) X.xe s3) X.xe s2) X.xe s1 }
theorem Cx.Ok.inTry (ok:X.Ok) (hs:List ExceptHandler) (pins:List (Addr × Obj)) (D:Ends) : (X.inTry hs pins D).Ok :=
  ⟨ok.mod,ok.kind,ok.glob,ok.blt,ok.above,ok.inj,ok.has,ok.cab,ok.hd,ok.frames,ok.stk,ok.exf,ok.bs,ok.bsz,ok.noex,ok.exfs,ok.funs,ok.frf⟩
theorem Inv.inTry {pins:List (Addr × Obj)} {σ:St} {H:Hp} {s:Shared} (I:Inv X pins σ H s) (hs:List ExceptHandler) (D:Ends) : Inv (X.inTry hs pins D) [] σ H s :=
  ⟨I.ok.inTry hs pins D,I.os,I.bare,I.base,I.loc,I.cell,I.free,I.freeC,fun p hp=>I.pin p (by simpa using hp),I.hok,I.len⟩
theorem Inv.outTry {pins pins':List (Addr × Obj)} {hs:List ExceptHandler} {D:Ends} {σ:St} {H:Hp} {s:Shared} (ok:X.Ok) (I:Inv (X.inTry hs pins D) pins' σ H s) : Inv X pins σ H s :=
  ⟨ok,I.os,I.bare,I.base,I.loc,I.cell,I.free,I.freeC,fun p hp=>I.pin p (List.mem_append_left _ hp),I.hok,I.len⟩
def eTry (r:HR) (D:Ends) (σ:St) : XK:=fun c _ H=>∃ C,c = .ref C ∧ r D C σ H
theorem passT {hs:List ExceptHandler} {pins pins':List (Addr × Obj)} {D:Ends} {σ:St} {H:Hp} {s s':Shared} {e:Value} (ok:X.Ok) (hf:X.env.frame = some X.env.locals) (hst:X.stack = X.env :: X.outer) (ph:PH X hs r) (I:Inv (X.inTry hs pins D) pins' σ H s) (h:CXF X.prog X.w X.stack H s (eTry r D σ) e s') :
    (X.inTry hs pins D).xe e s':=by
  obtain ⟨ea,C,H',rfl,F,C2,e2,q⟩:=h
  cases e2
  have I0:=Inv.outTry ok I
  obtain ⟨B,a0,hfl,cov⟩:=F.fly
  have ff:=ok.frames
  rw [hst] at ff
  have hfl2:=hfl
  rw [hst] at hfl2
  refine wpAny_looks_onW ff hf hfl2 fun h4 hh4 sm4=>?_
  refine wpAny_landsW hh4 fun h5 hfl5 sm5=>?_
  rw [← hst] at hfl5
  exact ph pins D σ ea C H' H _ s I0 (F.on I0 hfl cov hfl5 (sm4.trans sm5)) q
def tCallT (sp:Sp) (dvs:List V) (r:HR) (D:Ends) (t:TA) : TE:=fun σ H Q=>t σ H fun vs H1=>sp (vs ++ dvs) H1 Q (eTry r D σ)
theorem pe_callT {hs:List ExceptHandler} {pins0:List (Addr × Obj)} {D:Ends} {k:Nat} {f:Addr} {fd:FuncData} {ps:List Str} {sp:Sp} {dvs:List V} {ds:List Value} {p pos:Pos} {e:Expr} {es:List Expr} {t:TA}
    (hf:X.env.frame = some X.env.locals) (hst:X.stack = X.env :: X.outer) (ph:PH X hs r)
    (F:FnOk X.prog X.w X.K X.mg X.base (CXF X.prog X.w) k f fd ps sp) (hr:Room k X.A) (hg:Gl X x) (hm:X.mg x = some (.ref f)) (hk:PySem.W.keepIn X.K (.ref f) = true) (hb:Binds X.K fd ps ds) (hd:Vals dvs ds)
    (ha:PA (X.inTry hs pins0 D) (e :: es) t) (hdb:(x == ("__debug__" : Str)) = false:=by decide) (he:starEach (e :: es) X.env = (false,eval e X.env) :: starEach es X.env:=by rfl) (hpl:(backTo pos (starEach es X.env)).any (·.1) = false:=by rfl) :
    PE (X.inTry hs pins0 D) (.Call (.Name x p) (e :: es) [] pos) (tCallT sp dvs r D t):=by
  intro pins s σ H Q I h
  have ok : X.Ok:=⟨I.ok.mod,I.ok.kind,I.ok.glob,I.ok.blt,I.ok.above,I.ok.inj,I.ok.has,I.ok.cab,I.ok.hd,I.ok.frames,I.ok.stk,I.ok.exf,I.ok.bs,I.ok.bsz,I.ok.noex,I.ok.exfs,I.ok.funs,I.ok.frf⟩
  refine wpAny_Call_Name_kw (ld_glob (X:=X.inTry hs pins0 D) I hg hm ?_ hdb)
  refine PySem.W.callWith_K (h₀:=X.base) I.ok.mod.kin hk (thn (ha pos pins s σ H _ I h) fun us s1 ⟨vs,H1,I1,rv,q⟩=>⟨I1.kIn,?_⟩) he hpl
  have r2 : Vals (vs ++ dvs) (us ++ ds):=rv.append hd
  have hl : (us ++ ds).length = ps.length:=by rw [← r2.length]; exact F.len _ _ _ _ q
  refine wpAny_call (codeAny_mono (F.run X.A X.stack s1 H1 ⟨us,[]⟩ (us ++ ds) (vs ++ dvs) Q _ hr I1.env0 (hb s1 us I1.kIn hl) r2 q) fun rr s' hq=>?_)
  cases rr with
  | error e=>exact passT ok hf hst ph I1 hq
  | ok fl =>
    cases fl with
    | ret u=>exact I1.after hq
    | next=>exact False.elim hq
    | brk=>exact False.elim hq
    | cont=>exact False.elim hq
theorem ps_try {h0:ExceptHandler} {hs:List ExceptHandler} {body orelse:List Stmt} {tb:Ends → TS} {to:TS} (hb:∀ pins D,PSs (X.inTry (h0 :: hs) pins D) body (tb D)) (ho:PSs X orelse to) :
    PS X (.Try body (h0 :: hs) orelse [] pos) (fun D σ H=>tb D { D with nx:=to D } σ H):=by
  intro pins s σ H D I h
  refine wpAny_Try_except (wpAny_mono (hb pins D [] s σ H _ (I.inTry (h0 :: hs) D) h) (fun f s1 q=>?_) fun _ _ z=>z)
  cases f with
  | next =>
    obtain ⟨σ',H',I',q⟩:=q
    exact ho pins s1 σ' H' D (Inv.outTry I.ok I') q
  | brk=>obtain ⟨σ',H',I',q⟩:=q; exact ⟨σ',H',Inv.outTry I.ok I',q⟩
  | cont=>obtain ⟨σ',H',I',q⟩:=q; exact ⟨σ',H',Inv.outTry I.ok I',q⟩
  | ret u=>obtain ⟨v,σ',H',I',rv,q⟩:=q; exact ⟨v,σ',H',Inv.outTry I.ok I',rv,q⟩
end
def rIsiX (K:PySem.W.Frag) : List V → Hp → VK → Prop:=fun xs H Q=>∃ (ea C:Addr) (c:V) (cv:Value) (b:Bool),xs = [.ref ea,c] ∧ H ea = some (exO ea C) ∧ PySem.W.ExCls K C ∧ (∀ u,RelV c u → u = cv) ∧ PySem.W.kitOne K (.ref C) cv = some b ∧ Q (.bl b) H
theorem call_isiX {X:Cx} : CallR X (.builtin "isinstance") (rIsiX X.K):=by
  intro pins s σ H xs us Q I r h
  obtain ⟨ea,C,c,cv,b,rfl,he,hC,hc,e,q⟩:=h
  obtain ⟨u,w',rfl,ru,rw'⟩:=vals2 r
  cases ru
  have:=hc w' rw'
  subst this
  exact PySem.W.kia_one (PySem.W.kitx_exc hC) I.kIn (exO_get I.hok he) e (fun z=>nomatch z) fun tk=>⟨.bl b,H,I.tok tk,rfl,q⟩
end L2
namespace L2
open PySem PySem.Spec PyProof.Rows
theorem Fun.okF {P:Program} {w:World} {K:PySem.W.Frag} {mg:Str → Option Value} {base:Heap} {x qual:Str} {st:Stmt} {f:Addr} {fd:FuncData} {N ps:List Str} {k:Nat} {sp:Sp} (F:Fun K x qual st f fd) (S:FnScope N ps (defScope st)) (len:∀ vs H Q E,sp vs H Q E → vs.length = ps.length)
    (hbody:∀ (cdv:Value) (A:Around) (outer:List Env) (s:Shared) (H:Hp) (vs:List V) (Q:VK) (E:XK),Room k (A.deeper (envOfC qual (defScope st) s.heap.objs.size f cdv)) → sp vs H Q E →
      ∃ t,PSs (cxOf (CXF P w) P w K mg base N qual (defScope st) f cdv A outer s H E) (defBody st) t ∧ t { nx:=fun _ H'=>Q .non H',rt:=Q } (start N vs) H) : FnOk P w K mg base (CXF P w) (k + 1) f fd ps sp:=by
  obtain ⟨oc,od,kV,doc,pm,an,cdv,ct,osl,rfl,lk,hcd⟩:=F.ex
  exact fn_of lk hcd S len fun A outer s H vs Q E hr hsp=>hbody cdv A outer s H vs Q E hr hsp
end L2
namespace L2
open PySem PySem.Spec PyProof.Rows
section
variable {prog:Program} {w:World} {A:Around} {E:Value → Shared → Prop} {s:Shared}
end
section
variable {prog:Program} {w:World} {A:Around} {E:Value → Shared → Prop} {s:Shared} {R:Result → Shared → Prop}
end
end L2
namespace L2
open PySem PySem.Spec PyProof.Rows
section
variable {prog:Program} {w:World} {A:Around} {E:Value → Shared → Prop} {s:Shared}
end
end L2
namespace L2
open PySem PySem.Spec PyProof.Rows
section
variable {prog:Program} {w:World} {A:Around} {E:Value → Shared → Prop} {s:Shared}
end
def ov (H N:Hp) : Hp:=fun a=>(N a).or (H a)
end L2
namespace L2
open PySem PySem.Spec PyProof.Rows
theorem boot_VE : bootBuiltins "ValueError" = some (.type "ValueError"):=by decide +kernel
theorem kit_self {K:PySem.W.Frag} {C:Addr} : PySem.W.kitOne K (.ref C) (.ref C) = some true:=if_pos (by simp)
theorem cls_of {K:PySem.W.Frag} {C:Addr} {c0:Value} {dd:Option Addr} {cd:ClassData} {sl:Array (Option Value)} (lk:K.lookup C = some ⟨c0,dd,.cls cd,sl⟩) : (PySem.W.clsIn K C).isSome = true:=by
  unfold PySem.W.clsIn
  rw [lk]
  rfl
theorem kit_ref {K:PySem.W.Frag} {C D:Addr} {b:Bool} {dd:Option Addr} {cd:ClassData} {sl:Array (Option Value)} (ne:C ≠ D) (lk:K.lookup D = some ⟨.type "type", dd,.cls cd,sl⟩) (e:PySem.W.subIn K (.ref C) (.ref D) = some b) : PySem.W.kitOne K (.ref C) (.ref D) = some b:=by
  unfold PySem.W.kitOne
  rw [if_neg (by simp [ne])]
  show (if ((PySem.W.clsIn K D).isSome && PySem.W.typeIn K (.ref D) == some (.type "type")) = true then PySem.W.subIn K (.ref C) (.ref D) else none) = some b
  have t : PySem.W.typeIn K (.ref D) = some (.type "type"):=by
    show (K.lookup D).map (·.cls) = _
    rw [lk]; rfl
  rw [cls_of lk,t,if_pos (by simp)]
  exact e
theorem kit_ty {K:PySem.W.Frag} {C:Addr} {b:Bool} {T:String} (hm:PySem.W.kitMeta T = true) (e:PySem.W.subIn K (.ref C) (.type T) = some b) : PySem.W.kitOne K (.ref C) (.type T) = some b:=by
  unfold PySem.W.kitOne
  rw [if_neg (by intro z; cases beq_iff_eq.mp z)]
  show (if PySem.W.kitMeta T = true then PySem.W.subIn K (.ref C) (.type T) else none) = some b
  rw [if_pos hm]
  exact e
structure FnF (P:Program) (w:World) (K:PySem.W.Frag) (mg:Str → Option Value) (base:Heap) (k:Nat) (x:Str) (f:Addr) (fd:FuncData) (ps:List Str) (sp:Sp) : Prop where
  ok : FnOk P w K mg base (CXF P w) k f fd ps sp
  bd : Binds K fd ps []
  kp : PySem.W.keepIn K (.ref f) = true
  gl : mg x = some (.ref f)
theorem FnF.up {P:Program} {w:World} {K:PySem.W.Frag} {mg:Str → Option Value} {base:Heap} {j k:Nat} {x:Str} {f:Addr} {fd:FuncData} {ps:List Str} {sp:Sp} (F:FnF P w K mg base j x f fd ps sp) (h:j ≤ k) : FnF P w K mg base k x f fd ps sp :=
  ⟨F.ok.mono h,F.bd,F.kp,F.gl⟩
theorem own_cx {P:Program} {w:World} {K:PySem.W.Frag} {mg:Str → Option Value} {base:Heap} {N:List Str} {qual:Str} {scope:Scope} {f:Addr} {cd:Value} {A:Around} {outer:List Env} {s:Shared} {H:Hp} {E:XK} {CX:CXT} :
    PassesOwn (model (cxOf CX P w K mg base N qual scope f cd A outer s H E).prog (cxOf CX P w K mg base N qual scope f cd A outer s H E).w) (cxOf CX P w K mg base N qual scope f cd A outer s H E).A (cxOf CX P w K mg base N qual scope f cd A outer s H E).env (cxOf CX P w K mg base N qual scope f cd A outer s H E).xe:=PassesOwn.leaving
end L2
namespace L2
open PySem PySem.Spec PyProof.Rows
def Its (x:Str) : It:=⟨fun i _=>i < x.cps.size,fun i H v H'=>H' = H ∧ ∃ c,x.cps[i]? = some c ∧ v = .str ⟨#[c]⟩,fun i _=>x.cps.size ≤ i⟩
def TyS (ty:String) : Prop:=ty = "str_ascii_iterator" ∨ ty = "str_iterator"
theorem turn_str {P:Program} {w:World} {K:PySem.W.Frag} {tg:Expr} (x:Str) (t:Tok) (it:Addr) : Turn P w K tg (Its x) [it] it (fun i h=>∃ ty,TyS ty ∧ h.IsStrIter it ty x t i) where
  mem:=by simp
  obj:=fun i h st b hb=>by
    have e : b = it:=by simpa using hb
    subst e
    obtain ⟨_,_,o,e,c,d⟩:=st
    exact ⟨o,e,fun v z=>by rw [d] at z; cases z⟩
  keep:=fun i h h' st k=>by
    obtain ⟨ty,ht,o,e,r⟩:=st
    exact ⟨ty,ht,o,k it (by simp) o e,r⟩
  item:=by
    intro X hP hw hK hc i pins s σ H E I hf st hg
    subst hP hw hK
    obtain ⟨ty,ht,st⟩:=st
    have hi : i < x.cps.size:=hg
    have hx : x.cps[i]? = some x.cps[i]:=by simp [hi]
    obtain ⟨f0,f1,f2,f3,f4,f5⟩:=hf it (by simp)
    have fin : ∀ h',h'.IsStrIter it ty x t (i + 1) → Heap.SameBut it s.heap h' → ∃ u,some (Value.str ⟨#[x.cps[i]]⟩ s.toks) = some u ∧
      wpAny (model X.prog X.w) X.A (letOwnedTupleGo tg (.ref it) u) (fun _ s2=>∃ y H',Inv X pins σ H' s2 ∧ RelV y u ∧ (Its x).yld i H y H' ∧ (∃ ty,TyS ty ∧ s2.heap.IsStrIter it ty x t (i + 1)) ∧ ∀ b ∈ [it],H' b = none) E { s with heap:=h',toks:=s.toks + 1 }:=by
      intro h' st' sb
      have I1 : Inv X pins σ H { s with heap:=h',toks:=s.toks + 1 }:=I.turned (t':=s.toks + 1) (fun b o hb e=>(sb.2 b hb).trans e) f0 f1 f3 f4 f5
      obtain ⟨o,e,c,d⟩:=id st'
      refine ⟨_,rfl,go_of (s:={ s with heap:=h',toks:=s.toks + 1 }) e c d (by rcases ht with z | z <;> subst z <;> decide) ⟨.str ⟨#[x.cps[i]]⟩,H,I1,⟨_,rfl⟩,⟨rfl,_,hx,rfl⟩,⟨ty,ht,st'⟩,fun b hb=>(hf b hb).1⟩⟩
    rcases id ht with z | z
    · subst z
      exact wpAny_pyNext_ascii_item st hx fin
    · subst z
      exact wpAny_pyNext_wide_item st hx fin
  done:=by
    intro X hP hw hK hc i pins s σ H E I hf st hg
    subst hP hw hK
    obtain ⟨ty,ht,st⟩:=st
    have hx : x.cps[i]? = none:=Array.getElem?_eq_none (show x.cps.size ≤ i from hg)
    obtain ⟨f0,f1,f2,f3,f4,f5⟩:=hf it (by simp)
    rcases id ht with z | z
    · subst z
      exact wpAny_pyNext_ascii_end (I.ok.hd hc) st hx fun h' eb=>⟨rfl,I.turned (t':=s.toks) (fun b o hb e=>eb b o hb e) f0 f1 f3 f4 f5⟩
    · subst z
      exact wpAny_pyNext_wide_end (I.ok.hd hc) st hx fun h' eb=>⟨rfl,I.turned (t':=s.toks) (fun b o hb e=>eb b o hb e) f0 f1 f3 f4 f5⟩
  self:=fun _ _ _ _ _ st h=>by
    obtain ⟨ty,ht,st⟩:=st
    rcases id ht with z | z
    · subst z
      exact wpAny_pyIter_striter_ascii st h
    · subst z
      exact wpAny_pyIter_striter_wide st h
def iStr (tl:TE) : TI:=fun σ H R=>tl σ H fun v H1=>∃ x,v = .str x ∧ R (Its x) H1
theorem pi_str {X:Cx} {tg l:Expr} {tl:TE} (hl:PE X l tl) : PI X tg l (iStr tl):=by
  intro pins s σ H R I h
  refine thn (hl pins s σ H _ I h) fun v s1 ⟨y,H1,I1,r1,q1⟩=>?_
  obtain ⟨x,e,q⟩:=q1
  subst e
  obtain ⟨t,rfl⟩:=r1
  have fp : ∀ b ∈ [s1.heap.objs.size],FpOk X pins H1 b:=fun b hb=>by
    have e : b = s1.heap.objs.size:=by simpa using hb
    subst e
    exact I1.fpOk (Nat.le_refl _) (I1.hok.fresh (Nat.le_refl _))
  cases ha : x.cps.all (· < 128)
  · refine wpAny_pyIter_wide ha ?_
    exact ⟨s1.heap.objs.size,[s1.heap.objs.size],_,_,H1,rfl,I1.kept (t':=s1.toks) fun b o e=>Heap.get?_push_of_some _ e,turn_str x t _,⟨_,.inr rfl,_,Heap.get?_push_size _ rfl,rfl,rfl⟩,fp,q⟩
  · refine wpAny_pyIter_ascii ha ?_
    exact ⟨s1.heap.objs.size,[s1.heap.objs.size],_,_,H1,rfl,I1.kept (t':=s1.toks) fun b o e=>Heap.get?_push_of_some _ e,turn_str x t _,⟨_,.inl rfl,_,Heap.get?_push_size _ rfl,rfl,rfl⟩,fp,q⟩
theorem comp_strR {x:Str} {acc:Addr} {g:TG} {tt:TT} {te:TE} {σ:L2.St} {H:Hp} {R:Hp → Prop} (Pv:Nat → Hp → Prop) (h0:Pv 0 (upd H acc (.lst [])))
    (hs:∀ i c H,x.cps[i]? = some c → Pv i H → g (.str ⟨#[c]⟩) σ H fun σ2 H4=>Ext σ σ2 ∧ tt σ2 H4 fun b H5 =>
      if b = true then te σ2 H5 fun y H6=>∃ zs,H6 acc = some (.lst zs) ∧ zs.length < sizeLine ∧ Pv (i + 1) (upd H6 acc (.lst (zs ++ [y]))) else Pv (i + 1) H5) (hd:∀ H,Pv x.cps.size H → R H) :
    ∃ W : Nat → Nat → Hp → Prop,(∃ m,W 0 m (upd H acc (.lst []))) ∧ ∀ i m H2,W i m H2 →
      ((Its x).stop i H2 ∧ R H2) ∨ ((Its x).go i H2 ∧ ∃ N : Hp → Prop,(∀ H',N H' → ∃ m',m' < m ∧ W (i + 1) m' H') ∧ ∀ x' H3,(Its x).yld i H2 x' H3 → g x' σ H3 fun σ2 H4=>Ext σ σ2 ∧ tt σ2 H4 fun b H5 =>
        if b = true then te σ2 H5 fun y H6=>∃ zs,H6 acc = some (.lst zs) ∧ zs.length < sizeLine ∧ N (upd H6 acc (.lst (zs ++ [y])))
        else N H5):=by
  refine ⟨fun i m H=>m = x.cps.size - i ∧ i ≤ x.cps.size ∧ Pv i H,⟨x.cps.size,by simp,Nat.zero_le _,h0⟩,?_⟩
  rintro i m H2 ⟨rfl,hi,p⟩
  by_cases hlt : i < x.cps.size
  · refine .inr ⟨hlt,Pv (i + 1),fun H' p'=>⟨x.cps.size - (i + 1),by omega,rfl,hlt,p'⟩,fun v H' y=>?_⟩
    obtain ⟨e,c,hc,ex⟩:=y
    subst e ex
    exact hs i c _ hc p
  · have e : i = x.cps.size:=by omega
    subst e
    exact .inl ⟨Nat.le_refl _,hd H2 p⟩
end L2
namespace L2
open PySem PySem.Calls PySem.Spec PyProof.Rows PySem.W
section
variable {X:Cx} {o i e f value:Expr} {pos pos' tpos apos cpos:Pos} {td ty tv tx:TE}
end
end L2
namespace L2
open PySem PySem.Spec PyProof.Rows
end L2
namespace PyProof.Rows
open PySem PySem.Calls
end PyProof.Rows
namespace L2
open PySem PySem.Calls PySem.Spec PyProof.Rows PySem.W
section
variable {X:Cx}
end
end L2
namespace L2
open PySem PySem.Calls PySem.Spec PyProof.Rows PySem.W
section
variable {prog:Program} {w:World} {A:Around} {E:Value → Shared → Prop} {s:Shared}
end
end L2
namespace L2
open PySem PySem.Calls PySem.Spec PyProof.Rows PySem.W
def rStarts3 : V → List V → Hp → VK → Prop:=fun x vs H Q=>∃ (z y:Str) (i:Int),x = .str z ∧ vs = [.str y,.int i] ∧ Q (.bl (Txt.startswith3 z y i)) H
theorem mt_starts3 {X:Cx} : MtM X "str.startswith" rStarts3:=by
  intro pins s σ H x xs v us Q I rx rs h
  obtain ⟨z,y,i,rfl,rfl,q⟩:=h
  obtain ⟨t,rfl⟩:=rx
  obtain ⟨u,w',rfl,ru,rw'⟩:=vals2 rs
  obtain ⟨t1,rfl⟩:=ru
  obtain ⟨t2,rfl⟩:=rw'
  exact SC.startswith3 ⟨.bl _,H,I,rfl,q⟩
theorem str_empty_append (x:Str) : Str.empty ++ x = x:=by
  show (⟨#[] ++ x.cps⟩ : Str) = x
  simp
def tFRep (te:TE) (y:Str) : TE:=fun σ H Q=>te σ H fun v H1=>∃ x : Str,v = .str x ∧ (PySem.reprText x).length + y.length ≤ sizeLine ∧ Q (.str (PySem.reprText x ++ y)) H1
theorem pe_fRep {X:Cx} {e:Expr} {te:TE} {y:Str} {j} {p1 p2 pos:Pos} (he:PE X e te) : PE X (.JoinedStr [.FormattedValue e 114 none p1,.Constant (.str y) j p2] pos) (tFRep te y):=by
  intro pins s σ H Q I h
  refine wpAny_JoinedStr ?_
  show wpAny _ _ (eval (.FormattedValue e 114 none p1) X.env) _ _ s
  refine wpAny_FormattedValue_repr (thn (he pins s σ H _ I h) fun v s1 ⟨u,H1,I1,r1,x,ex,hx,q⟩=>?_)
  subst ex
  obtain ⟨t,rfl⟩:=r1
  have hr : (PySem.reprText x).length ≤ sizeLine:=Nat.le_trans (Nat.le_add_right _ _) hx
  have e0 : Str.empty ++ PySem.reprText x = PySem.reprText x:=str_empty_append _
  have fin : ∀ (t':Tok) (tk:Nat),∃ z u',(Value.str (PySem.reprText x) t' : Value) = .str z u' ∧ (Str.empty ++ z).length ≤ sizeLine ∧ Joins (model X.prog X.w) X.A X.xe (evalEach [.Constant (.str y) j p2] X.env) (Str.empty ++ z) (fun out s₁=>out.length ≤ sizeLine ∧ EP X pins σ Q (.str out s₁.toks) { s₁ with toks:=s₁.toks + 1 }) { s1 with toks:=tk }:=fun t' tk=>by
    refine ⟨_,t',rfl,by rw [e0]; exact hr,?_⟩
    show wpAny _ _ (eval (.Constant (.str y) j p2) X.env) _ _ _
    refine Calls.Constant_str ⟨y,_,rfl,?_,?_⟩
    · rw [e0,strLen_append]; exact hx
    · rw [e0]
      exact ⟨by rw [strLen_append]; exact hx,.str (PySem.reprText x ++ y),H1,I1.tok _,⟨_,rfl⟩,q⟩
  refine pyReprObj_str (wpAny_handedOn (fin _ _) (fin _ _) hr) hr
def rIntS : List V → Hp → VK → Prop:=fun xs H Q=>∃ (x:Str) (n:Int),xs = [.str x] ∧ x.length ≤ 640 ∧ PySem.intText? x = some n ∧ Q (.int n) H
theorem call_intS {X:Cx} : CallR X (.type "int") rIntS:=by
  intro pins s σ H xs us Q I r h
  obtain ⟨x,n,rfl,hl,hn,q⟩:=h
  obtain ⟨u,rfl,ru⟩:=vals1 r
  obtain ⟨t,rfl⟩:=ru
  exact KIN.call_text hn hl ⟨.int n,H,I.tok _,⟨_,rfl⟩,q⟩
def rStr1 : List V → Hp → VK → Prop:=fun xs H Q=>(∃ x : Str,xs = [.str x] ∧ Q (.str x) H) ∨ ∃ n : Int,xs = [.int n] ∧ n.natAbs.log2 < 1920 ∧ Q (.str (toString n)) H
theorem call_str1 {X:Cx} : CallR X (.type "str") rStr1:=by
  intro pins s σ H xs us Q I r h
  rcases h with ⟨x,rfl,q⟩ | ⟨n,rfl,hl,q⟩
  · obtain ⟨u,rfl,ru⟩:=vals1 r
    obtain ⟨t,rfl⟩:=ru
    exact P.str_of_str ⟨.str x,H,I,⟨_,rfl⟩,q⟩
  · obtain ⟨u,rfl,ru⟩:=vals1 r
    obtain ⟨t,rfl⟩:=ru
    exact P.str_of_int hl ⟨.str (toString n),H,I.tok _,⟨_,rfl⟩,q⟩
end L2
namespace L2
open PySem
theorem starts_at {T p:Str} {i:Nat} (hi:i ≤ T.length) : Txt.startswith3 T p (i:Int) = p.cps.toList.isPrefixOf (T.cps.toList.drop i):=by
  unfold Txt.startswith3
  have e : PySem.fromIndex T.length (i:Int) = i:=by
    unfold PySem.fromIndex
    rw [if_neg (by omega)]
    omega
  rw [e,StrLaws.subAt_eq]
  have hT : T.cps.toList.length = T.length:=Array.length_toList
  have hp : p.cps.toList.length = p.length:=Array.length_toList
  rw [Bool.eq_iff_iff,Bool.and_eq_true,List.isPrefixOf_iff_prefix,beq_iff_eq,decide_eq_true_eq]
  constructor
  · rintro ⟨_,h⟩
    rw [← h]
    exact List.take_prefix _ _
  · intro h
    have hl:=h.length_le
    rw [List.length_drop] at hl
    refine ⟨by omega,?_⟩
    obtain ⟨r,hr⟩:=h
    rw [← hr,← hp]
    exact List.take_left' rfl
theorem small1000' {n:Nat} (h:n ≤ 4000) : n < sizeLine:=by rw [sizeLine_eq]; omega
theorem slice_run {T:Str} {i:Nat} {run post:List Nat} (hd:T.cps.toList.drop i = run ++ post) (hi:i ≤ T.length) : Txt.slice T (some (i:Int)) (some ((i + run.length : Nat) : Int)) = ⟨run.toArray⟩:=by
  have hT : T.cps.toList.length = T.length:=Array.length_toList
  have hl:=congrArg List.length hd
  rw [List.length_drop,List.length_append] at hl
  have h:=PyProof.Rows.slice_closes (x:=T) (i:=(i:Int)) (j:=((i + run.length : Nat) : Int)) ⟨by omega,by omega,by omega⟩
  rw [eq_of_beq h,Int.toNat_natCast,hd,show (((i + run.length : Nat) : Int) - (i:Int)).toNat = run.length by omega,List.take_left' rfl]
def rflds (T:Str) (i:Nat) : List (Str × V):=[("text", .str T),("at", .int (i:Int))]
structure RdAt (C:Addr) (H:Hp) (r:Addr) (T:Str) (i:Nat) : Prop where
  ob : ∃ dx,H r = some (.ins C dx (rflds T i))
  le : i ≤ T.length
  few : T.length ≤ 2000
def But (r:Addr) (H H':Hp) : Prop:=∀ b o,b ≠ r → H b = some o → H' b = some o
theorem But.refl (r:Addr) (H:Hp) : But r H H:=fun _ _ _ e=>e
theorem But.trans {r:Addr} {H H' H'':Hp} (g:But r H H') (h:But r H' H'') : But r H H'':=fun b o n e=>h b o n (g b o n e)
theorem But.set {r:Addr} {H:Hp} {o:HO} : But r H (upd H r o):=fun b x n e=>by rw [upd_ne n]; exact e
structure TxtR (K:PySem.W.Frag) (mg:Str → Option Value) (C:Addr) : Prop where
  cl : Cls K C
  nT : NoAttr K C "text"
  nA : NoAttr K C "at"
  mgC : mg "Reader" = some (.ref C)
theorem rf_text (T:Str) (i:Nat) : (rflds T i).lookup (Str.ofString "text") = some (V.str T):=rfl
theorem rf_at (T:Str) (i:Nat) : (rflds T i).lookup (Str.ofString "at") = some (V.int (i:Int)):=by
  unfold rflds
  rw [List.lookup_cons,show ((Str.ofString "at") == (Str.ofString "text")) = false by decide +kernel]
  rfl
theorem rf_put (T:Str) (i:Nat) (v:V) : putF (Str.ofString "at") v (rflds T i) = [(Str.ofString "text", V.str T),(Str.ofString "at", v)]:=by
  unfold rflds
  rw [putF,if_neg (by decide +kernel),putF,if_pos rfl]
end L2
namespace K08
open PySem PySem.Spec L2 PyProof.Rows
def top (i:Nat) : Stmt:=PySem.Challenge.pw_recastle_k08_rules_read_again.main.body.getD i (.Pass ⟨0,0,0,0⟩)
abbrev s_Reader___init__ : Stmt:=inClass (top 23) 0
theorem sc_Reader___init__ : FnScope ["self", "text"] ["self", "text"] (defScope s_Reader___init__):=⟨rfl,rfl,rfl,by decide +kernel,rfl,by decide +kernel,by decide +kernel⟩
abbrev s_Reader_stands : Stmt:=inClass (top 23) 1
theorem sc_Reader_stands : FnScope ["self", "piece"] ["self", "piece"] (defScope s_Reader_stands):=⟨rfl,rfl,rfl,by decide +kernel,rfl,by decide +kernel,by decide +kernel⟩
abbrev s_Reader_skipped : Stmt:=inClass (top 23) 2
theorem sc_Reader_skipped : FnScope ["self", "piece"] ["self", "piece"] (defScope s_Reader_skipped):=⟨rfl,rfl,rfl,by decide +kernel,rfl,by decide +kernel,by decide +kernel⟩
abbrev s_Reader_run_of : Stmt:=inClass (top 23) 4
theorem sc_Reader_run_of : FnScope ["self", "signs", "begin"] ["self", "signs"] (defScope s_Reader_run_of):=⟨rfl,rfl,rfl,by decide +kernel,rfl,by decide +kernel,by decide +kernel⟩
section
variable {P:Program} {w:World} {K:PySem.W.Frag} {mg:Str → Option Value} {base:Heap}
def sp_stands (C:Addr) : Sp:=fun vs H Q _=>∃ (r:Addr) (T p:Str) (i:Nat),vs = [.ref r,.str p] ∧ RdAt C H r T i ∧ Q (.bl (p.cps.toList.isPrefixOf (T.cps.toList.drop i))) H
theorem ok_stands {k:Nat} {f C:Addr} {fd:FuncData} (F:Fun K "stands" "Reader.stands" s_Reader_stands f fd) (T_Reader:TxtR K mg C) : FnOk P w K mg base CX0 (k + 1) f fd ["self", "piece"] (sp_stands C):=by
  refine F.ok sc_Reader_stands (fun vs H Q E h=>?_) (fun cdv A outer s H vs Q E hr h=>?_)
  · obtain ⟨r,T,p,i,rfl,_⟩:=h
    rfl
  obtain ⟨r,T,p,i,rfl,⟨⟨dx,hr0⟩,hi,_⟩,q⟩:=h
  refine ⟨_,(pss_one (ps_ret (pe_bm PySem.F.plainAttrs_str PySem.F.slot_str_startswith PySem.F.type_str_startswith mt_starts3 (pe_fld (pv 0) rfl) (pa_cons (pv 1) (pa_cons (pe_fld (pv 0) rfl) pa_nil))))),?_⟩
  refine ⟨_,rfl,r,C,dx,_,.str T,rfl,hr0,T_Reader.cl,T_Reader.nT,rf_text T i,rfl,_,rfl,_,rfl,r,C,dx,_,.int (i:Int),rfl,hr0,T_Reader.cl,T_Reader.nA,rf_at T i,T,p,(i:Int),rfl,rfl,?_⟩
  rw [starts_at hi]
  exact q
def sp_skipped (C:Addr) : Sp:=fun vs H Q _=>∃ (r:Addr) (T p:Str) (i:Nat),vs = [.ref r,.str p] ∧ RdAt C H r T i ∧
  (p.cps.toList.isPrefixOf (T.cps.toList.drop i) = false → Q (.bl false) H) ∧ (p.cps.toList.isPrefixOf (T.cps.toList.drop i) = true → ∀ H',But r H H' → RdAt C H' r T (i + p.length) → Q (.bl true) H')
theorem ok_skipped {k:Nat} {f C g1:Addr} {fd gd1:FuncData} (F:Fun K "skipped" "Reader.skipped" s_Reader_skipped f fd) (T_Reader:TxtR K mg C) (z_len:mg "len" = none) (G_Reader_stands:FnM P w K mg base k C "stands" g1 gd1 ["self", "piece"] (sp_stands C)) :
    FnOk P w K mg base CX0 (k + 1) f fd ["self", "piece"] (sp_skipped C):=by
  refine F.ok sc_Reader_skipped (fun vs H Q E h=>?_) (fun cdv A outer s H vs Q E hr h=>?_)
  · obtain ⟨r,T,p,i,rfl,_⟩:=h
    rfl
  obtain ⟨r,T,p,i,rfl,rd,q0,q1⟩:=h
  obtain ⟨⟨dx,hr0⟩,hi,hf⟩:=id rd
  refine ⟨_,(pss_cons (ps_if (pt_not (pt_val (pe_meth (pv 0) T_Reader.cl G_Reader_stands.mt G_Reader_stands.ok hr G_Reader_stands.bd .nil pass0 (pa_cons (pv 1) pa_nil)))) (pss_one (ps_ret pe_bl)) pss_nil)
    (pss_cons (ps_fldaug (pv 0) (pe_callB call_len_str (by rfl) z_len PySem.boot_len (pa_cons (pv 1) pa_nil)) in_add)
    (pss_one (ps_ret pe_bl)))),?_⟩
  refine ⟨_,rfl,r,dx,_,rfl,hr0,rfl,_,rfl,r,T,p,i,rfl,rd,?_⟩
  refine ⟨_,rfl,?_⟩
  cases hb : p.cps.toList.isPrefixOf (T.cps.toList.drop i) with
  | false=>exact iteT (q0 hb)
  | true =>
    have hle : i + p.length ≤ T.length:=by
      have h:=(List.isPrefixOf_iff_prefix.mp hb).length_le
      have hT : T.cps.toList.length = T.length:=Array.length_toList
      have hp : p.cps.toList.length = p.length:=Array.length_toList
      rw [List.length_drop] at h
      omega
    refine iteF ?_
    refine ⟨_,rfl,r,C,dx,_,.int (i:Int),rfl,hr0,T_Reader.cl,T_Reader.nA,rf_at T i,_,rfl,p,rfl,Nat.le_of_lt (small1000' (by omega)),_,_,rfl,rfl,dx,_,hr0,(by show 2 < 1000; decide),?_⟩
    refine q1 hb _ But.set ⟨⟨dx,?_⟩,hle,hf⟩
    rw [upd_same,rf_put]
    rfl
def sp_init (C:Addr) : Sp:=fun vs H Q _=>∃ (r dx:Addr) (T:Str),vs = [.ref r,.str T] ∧ H r = some (.ins C dx []) ∧ T.length ≤ 2000 ∧ ∀ H',But r H H' → RdAt C H' r T 0 → Q .non H'
theorem ok_init {k:Nat} {f C:Addr} {fd:FuncData} (F:Fun K "__init__" "Reader.__init__" s_Reader___init__ f fd) (T_Reader:TxtR K mg C) : FnOk P w K mg base CX0 (k + 1) f fd ["self", "text"] (sp_init C):=by
  refine F.ok sc_Reader___init__ (fun vs H Q E h=>?_) (fun cdv A outer s H vs Q E hr h=>?_)
  · obtain ⟨r,dx,T,rfl,_⟩:=h
    rfl
  obtain ⟨r,dx,T,rfl,hr0,hT,q⟩:=h
  refine ⟨_,(pss_cons (ps_fld (pv 0) (pv 1) rfl)
    (pss_one (ps_fld (pv 0) pe_int rfl))),?_⟩
  refine ⟨_,rfl,_,rfl,r,C,dx,[],rfl,hr0,T_Reader.cl,T_Reader.nT,(by show 0 < 1000; decide),?_⟩
  refine ⟨_,rfl,r,C,dx,_,rfl,upd_same,T_Reader.cl,T_Reader.nA,(by show 1 < 1000; decide),?_⟩
  refine q _ (But.set.trans But.set) ⟨⟨dx,?_⟩,Nat.zero_le _,hT⟩
  rw [upd_same,putF,putF,if_neg (by decide +kernel),putF]
  rfl
def sp_run (C:Addr) : Sp:=fun vs H Q _=>∃ (r:Addr) (T S:Str) (i:Nat) (run post:List Nat),vs = [.ref r,.str S] ∧ RdAt C H r T i ∧ T.cps.toList.drop i = run ++ post ∧ (∀ c ∈ run,c ∈ S.cps.toList) ∧ (∀ c ∈ post.head?,c ∉ S.cps.toList) ∧
  ∀ H',But r H H' → RdAt C H' r T (i + run.length) → Q (.str ⟨run.toArray⟩) H'
theorem ok_run_of {k:Nat} {f C:Addr} {fd:FuncData} (F:Fun K "run_of" "Reader.run_of" s_Reader_run_of f fd) (T_Reader:TxtR K mg C) (z_len:mg "len" = none) : FnOk P w K mg base CX0 (k + 1) f fd ["self", "signs"] (sp_run C):=by
  refine F.ok sc_Reader_run_of (fun vs H Q E h=>?_) (fun cdv A outer s H vs Q E hr h=>?_)
  · obtain ⟨r,T,S,i,run,post,rfl,_⟩:=h
    rfl
  obtain ⟨r,T,S,i,run,post,rfl,rd,hd,hin,hout,q⟩:=h
  obtain ⟨⟨dx,hr0⟩,hi,hf⟩:=id rd
  have hT : T.cps.toList.length = T.length:=Array.length_toList
  have hlen : T.length = i + run.length + post.length:=by
    have:=congrArg List.length hd
    rw [List.length_drop,List.length_append] at this
    omega
  have hat : ∀ j,j < run.length + post.length → T.cps.toList[i + j]? = (run ++ post)[j]?:=fun j _=>by rw [← hd,List.getElem?_drop]
  refine ⟨_,(pss_cons (ps_set (i:=2) sc_Reader_run_of.nd rfl (Or.inl rfl) (pe_fld (pv 0) rfl))
    (pss_cons (ps_while PassesOwn.never (pw_and (pt_cmpR op_lt (pe_fld (pv 0) rfl) (pe_callB call_len_str (by rfl) z_len PySem.boot_len (pa_cons (pe_fld (pv 0) rfl) pa_nil)) (nomark _)) (pw_and1 (pt_cmpR op_in_str (pe_ix ix_str (pe_fld (pv 0) rfl) (pe_fld (pv 0) rfl) (fun _ _=>rfl)) (pv 1) rfl))).pt (pss_one (ps_fldaug (pv 0) pe_int in_add)))
    (pss_one (ps_ret (pe_slice sl_str (pe_fld (pv 0) rfl) (po_some (pv 2)) (po_some (pe_fld (pv 0) rfl))))))),?_⟩
  refine ⟨_,rfl,r,C,dx,_,.int (i:Int),rfl,hr0,T_Reader.cl,T_Reader.nA,rf_at T i,?_⟩
  refine ⟨fun m σ' H'=>∃ j : Nat,σ' = [some (.ref r),some (.str S),some (.int (i:Int))] ∧ But r H H' ∧ RdAt C H' r T (i + j) ∧ j ≤ run.length ∧ m = run.length - j,⟨run.length,0,rfl,But.refl r H,rd,Nat.zero_le _,rfl⟩,?_⟩
  rintro m σ' H1 ⟨j,rfl,g1,rd1,hj,rfl⟩
  obtain ⟨⟨dx1,hr1⟩,hi1,_⟩:=id rd1
  refine ⟨_,rfl,r,C,dx1,_,.int ((i + j : Nat) : Int),rfl,hr1,T_Reader.cl,T_Reader.nA,rf_at T _,_,rfl,r,C,dx1,_,.str T,rfl,hr1,T_Reader.cl,T_Reader.nT,rf_text T _,T,rfl,Nat.le_of_lt (small1000' (by omega)),_,_,rfl,rfl,_,rfl,?_⟩
  refine ite2 (fun c=>?_) (fun c=>?_)
  · have c' : ((i + j : Nat) : Int) < (T.length : Int):=of_decide_eq_true c
    have hjl : j < run.length + post.length:=by omega
    obtain ⟨ch,hch⟩ : ∃ ch,(run ++ post)[j]? = some ch:=⟨_,List.getElem?_eq_getElem (by rw [List.length_append]; exact hjl)⟩
    have hTc : atI T.cps.toList ((i + j : Nat) : Int) = some ch:=atI_nat (by rw [hat j hjl,hch])
    refine ⟨_,rfl,r,C,dx1,_,.str T,rfl,hr1,T_Reader.cl,T_Reader.nT,rf_text T _,_,rfl,r,C,dx1,_,.int ((i + j : Nat) : Int),rfl,hr1,T_Reader.cl,T_Reader.nA,rf_at T _,T,_,ch,rfl,rfl,Nat.le_of_lt (small1000' (by omega)),hTc,_,rfl,_,_,rfl,rfl,_,rfl,?_⟩
    rw [StrLaws.found_one]
    refine ite2 (fun c2=>?_) (fun c2=>?_)
    · have hjr : j < run.length:=by
        rcases Nat.lt_or_ge j run.length with h | h
        · exact h
        · have e : j = run.length:=by omega
          subst e
          rw [List.getElem?_append_right (Nat.le_refl _),Nat.sub_self,← List.head?_eq_getElem?] at hch
          exact absurd (of_decide_eq_true c2) (hout ch hch)
      refine ⟨_,fun _ _ h=>h,?_⟩
      refine ⟨_,rfl,r,C,dx1,_,.int ((i + j : Nat) : Int),rfl,hr1,T_Reader.cl,T_Reader.nA,rf_at T _,_,_,rfl,rfl,dx1,_,hr1,(by show 2 < 1000; decide),?_⟩
      refine ⟨run.length - (j + 1),by omega,j + 1,rfl,g1.trans But.set,⟨⟨dx1,?_⟩,by omega,hf⟩,hjr,rfl⟩
      rw [upd_same,rf_put]
      rfl
    · have hjr : j = run.length:=by
        rcases Nat.lt_or_ge j run.length with h | h
        · rw [List.getElem?_append_left h] at hch
          exact absurd (decide_eq_true (hin ch (List.mem_of_getElem? hch))) c2
        · omega
      subst hjr
      refine ⟨_,rfl,r,C,dx1,_,.str T,rfl,hr1,T_Reader.cl,T_Reader.nT,rf_text T _,_,rfl,_,rfl,_,rfl,r,C,dx1,_,.int ((i + run.length : Nat) : Int),rfl,hr1,T_Reader.cl,T_Reader.nA,rf_at T _,_,rfl,T,rfl,Nat.le_of_lt (small1000' (by omega)),fun _=>?_⟩
      rw [slice_run hd hi]
      exact q H1 g1 rd1
  · have c' : ¬ ((i + j : Nat) : Int) < (T.length : Int):=fun z=>c (decide_eq_true z)
    have hjr : j = run.length:=by omega
    subst hjr
    refine iteF ?_
    refine ⟨_,rfl,r,C,dx1,_,.str T,rfl,hr1,T_Reader.cl,T_Reader.nT,rf_text T _,_,rfl,_,rfl,_,rfl,r,C,dx1,_,.int ((i + run.length : Nat) : Int),rfl,hr1,T_Reader.cl,T_Reader.nA,rf_at T _,_,rfl,T,rfl,Nat.le_of_lt (small1000' (by omega)),fun _=>?_⟩
    rw [slice_run hd hi]
    exact q H1 g1 rd1
end
end K08
namespace L2
open PySem PySem.Spec PyProof.Rows
structure KDicW (K:PySem.W.Frag) (P:Params) (d:Addr) (ks:List Str) : Prop where
  ex : ∃ (es:Array DictEntry) (n:Nat),K.lookup d = some ⟨.type "dict", none,.dict es n,#[]⟩ ∧ PySem.W.KeysLit P es.toList ∧ Paired (fun (x:Str) (e:DictEntry)=>∃ t,e.key = .str x t) ks es.toList
  nd : ks.Nodup
  sy : (d == sysModules) = false
theorem KDicW.dic {K:PySem.W.Frag} {P:Params} {d:Addr} {ks:List Str} (h:KDicW K P d ks) : KDic K P d:=by
  obtain ⟨es,n,h1,h2,_⟩:=h.ex
  exact ⟨⟨es,n,h1,h2⟩,h.sy⟩
theorem kw_pairs {P:Program} {w:World} : ∀ {ks:List Str} {l:List DictEntry},Paired (fun (x:Str) (e:DictEntry)=>∃ t,e.key = .str x t) ks l → ∃ kvs : List (Str × Value),kvs.map (·.1) = ks ∧ PySem.Pairs (PySem.strKind P w) l kvs
  | _,_,.nil=>⟨[],rfl,.nil⟩
  | _,_,@Paired.cons _ _ _ a e _ _ ⟨t,h⟩ r=>by
    obtain ⟨kvs,e1,e2⟩:=kw_pairs (P:=P) (w:=w) r
    exact ⟨(a,e.val) :: kvs,by rw [List.map_cons,e1],.cons (by rw [h]; exact PySem.strKind_is P w a t) rfl e2⟩
theorem kw_at {X:Cx} {pins:List (Addr × Obj)} {σ:L2.St} {H:Hp} {s:Shared} {d:Addr} {ks:List Str} {es:Array DictEntry} {n:Nat} (I:Inv X pins σ H s) (hl:X.K.lookup d = some ⟨.type "dict", none,.dict es n,#[]⟩) (hk:PySem.W.KeysLit X.w.params es.toList)
    (hp:Paired (fun (x:Str) (e:DictEntry)=>∃ t,e.key = .str x t) ks es.toList) (nd:ks.Nodup) : ∃ kvs : List (Str × Value),kvs.map (·.1) = ks ∧ s.heap.DictAt (PySem.strKind X.prog X.w) d kvs n:=by
  obtain ⟨kvs,e1,e2⟩:=kw_pairs (P:=X.prog) (w:=X.w) hp
  refine ⟨kvs,e1,_,es,I.kIn _ _ hl,⟨rfl,rfl,rfl⟩,rfl,fun e he=>?_,e2,by rw [e1]; exact nd⟩
  obtain ⟨x,t,h1,h2⟩:=hk.all e (Array.mem_toList_iff.mpr he)
  exact ⟨x,by rw [h1]; exact PySem.strKind_is X.prog X.w x t,h2⟩
def Itk (ks:List Str) : It:=⟨fun i _=>i < ks.length,fun i H x H'=>H' = H ∧ ∃ p,ks[i]? = some p ∧ x = .str p,fun i _=>ks.length ≤ i⟩
theorem turn_dictK {P:Program} {w:World} {K:PySem.W.Frag} {tg:Expr} (d it:Addr) {ks:List Str} {es:Array DictEntry} {n:Nat} (hl:K.lookup d = some ⟨.type "dict", none,.dict es n,#[]⟩) (hk:PySem.W.KeysLit w.params es.toList)
    (hp:Paired (fun (x:Str) (e:DictEntry)=>∃ t,e.key = .str x t) ks es.toList) (nd:ks.Nodup) : Turn P w K tg (Itk ks) [it] it (fun i h=>h.IsKeyIter it d i ks.length n) where
  mem:=by simp
  obj:=fun i h st b hb=>by
    have e : b = it:=by simpa using hb
    subst e
    obtain ⟨ob,e,c,d⟩:=st
    exact ⟨ob,e,fun v z=>by rw [d] at z; cases z⟩
  keep:=fun i h h' st k=>by
    obtain ⟨ob,e,r⟩:=st
    exact ⟨ob,k it (by simp) ob e,r⟩
  item:=by
    intro X hP hw hK hc i pins s σ H E I hf hit hg
    subst hP hw hK
    obtain ⟨kvs,ek,hm⟩:=kw_at I hl hk hp nd
    have hlen : ks.length = kvs.length:=by rw [← ek,List.length_map]
    have hg' : i < ks.length:=hg
    have hi : i < kvs.length:=by omega
    have hv : kvs[i]? = some (kvs[i].1,kvs[i].2):=List.getElem?_eq_getElem hi
    have hks : ks[i]? = some kvs[i].1:=by rw [← ek,List.getElem?_map,hv]; rfl
    obtain ⟨f0,f1,f2,f3,f4,f5⟩:=hf it (by simp)
    rw [hlen] at hit
    refine wpAny_pyNext_dict_item hit hm hv fun key h' hk' hit' sb=>?_
    have I1 : Inv X pins σ H { s with heap:=h' }:=I.turned (t':=s.toks) (fun b o hb e=>(sb.2 b hb).trans e) f0 f1 f3 f4 f5
    obtain ⟨ob,e,c,dd⟩:=id hit'
    rw [← hlen] at hit'
    obtain ⟨t,et⟩:=PySem.Value.isStrOf_shape hk'
    subst et
    exact ⟨_,rfl,go_of (s:={ s with heap:=h' }) e c dd (by decide) ⟨.str kvs[i].1,H,I1,⟨t,rfl⟩,⟨rfl,_,hks,rfl⟩,hit',fun b hb=>(hf b hb).1⟩⟩
  done:=by
    intro X hP hw hK hc i pins s σ H E I hf hit hg
    subst hP hw hK
    obtain ⟨kvs,ek,hm⟩:=kw_at I hl hk hp nd
    have hlen : ks.length = kvs.length:=by rw [← ek,List.length_map]
    have hg' : ks.length ≤ i:=hg
    obtain ⟨f0,f1,f2,f3,f4,f5⟩:=hf it (by simp)
    rw [hlen] at hit
    exact wpAny_pyNext_dict_end (I.ok.hd hc) hit hm (List.getElem?_eq_none (by omega)) fun h' eb=>⟨rfl,I.turned (t':=s.toks) (fun b o hb e=>eb b o hb e) f0 f1 f3 f4 f5⟩
  self:=fun A i s Q E hit h=>by
    refine wpAny_pyIter_slot hit.typeIs F.slot_dict_keyiterator_iter (wpAny_call_entry F.slot_dict_keyiterator_iter hit.typeIs F.entry_dict_keyiterator_iter ?_ (F.args_dict_keyiterator_iter_1 _))
    show wpAny _ _ (ret (.ref it)) _ _ s
    exact wpAny_pure ⟨_,rfl, "dict_keyiterator", _,hit.typeIs,F.slot_dict_keyiterator_next.lookup,h⟩
def iDictK (d:Addr) (ks:List Str) (tl:TE) : TI:=fun σ H R=>tl σ H fun x H1=>x = .ref d ∧ R (Itk ks) H1
theorem pi_dictK {X:Cx} {tg l:Expr} {tl:TE} {d:Addr} {ks:List Str} (k:KDicW X.K X.w.params d ks) (hl:PE X l tl) : PI X tg l (iDictK d ks tl):=by
  intro pins s σ H R I h
  refine thn (hl pins s σ H _ I h) fun v s1 ⟨x,H1,I1,r1,q1⟩=>?_
  obtain ⟨e,q⟩:=q1
  subst e
  cases r1
  obtain ⟨es,n,h1,h2,h3⟩:=k.ex
  obtain ⟨kvs,ek,hm⟩:=kw_at I1 h1 h2 h3 k.nd
  have hlen : ks.length = kvs.length:=by rw [← ek,List.length_map]
  refine wpAny_pyIter_dict k.sy hm ?_
  refine ⟨s1.heap.objs.size,[s1.heap.objs.size],_,_,H1,rfl,I1.kept (t':=s1.toks) fun b o e=>Heap.get?_push_of_some _ e,turn_dictK d _ h1 h2 h3 k.nd,⟨_,Heap.get?_push_size _ rfl,rfl,by rw [hlen]; rfl⟩,fun b hb=>?_,q⟩
  have e : b = s1.heap.objs.size:=by simpa using hb
  subst e
  exact I1.fpOk (Nat.le_refl _) (I1.hok.fresh (Nat.le_refl _))
theorem for_dictK {ks:List Str} {g:TG} {tb:TS} {D:Ends} {σ:L2.St} {H:Hp} (Pv:Nat → L2.St → Hp → Prop) (h0:Pv 0 σ H)
    (hs:∀ i p σ H,ks[i]? = some p → Pv i σ H → g (.str p) σ H fun σ2 H2=>tb { D with nx:=Pv (i + 1),ct:=Pv (i + 1),bk:=D.nx } σ2 H2) (hd:∀ σ H,Pv ks.length σ H → D.nx σ H) :
    ∃ W : Nat → Nat → L2.St → Hp → Prop,(∃ m,W 0 m σ H) ∧ ∀ i m σ H,W i m σ H →
      ((Itk ks).stop i H ∧ D.nx σ H) ∨ ((Itk ks).go i H ∧ ∃ N : L2.St → Hp → Prop,(∀ σ' H',N σ' H' → ∃ m',m' < m ∧ W (i + 1) m' σ' H') ∧ ∀ x H',(Itk ks).yld i H x H' → g x σ H' fun σ2 H2=>tb { D with nx:=N,ct:=N,bk:=D.nx } σ2 H2):=by
  refine ⟨fun i m σ H=>m = ks.length - i ∧ i ≤ ks.length ∧ Pv i σ H,⟨ks.length,by simp,Nat.zero_le _,h0⟩,?_⟩
  rintro i m σ H ⟨rfl,hi,p⟩
  by_cases hlt : i < ks.length
  · refine .inr ⟨hlt,Pv (i + 1),fun σ' H' p'=>⟨ks.length - (i + 1),by omega,rfl,hlt,p'⟩,fun x H' y=>?_⟩
    obtain ⟨e,p',hp',ex⟩:=y
    subst e ex
    exact hs i p' σ _ hp' p
  · have e : i = ks.length:=by omega
    subst e
    exact .inl ⟨Nat.le_refl _,hd σ H p⟩
def tRevL (K:PySem.W.Frag) (te:TE) (tk:TO) : TE:=fun σ H Q=>te σ H fun x H1=>tk σ H1 fun k H2=>k = some (-1) ∧ ∃ a xs,x = .ref a ∧ SqL K H2 a xs ∧ ∀ p,H2 p = none → Q (.ref p) (upd H2 p (.lst xs.reverse))
theorem vals_rev : ∀ {xs:List V} {us:List Value},Vals xs us → Vals xs.reverse us.reverse
  | _,_,.nil=>.nil
  | _,_,.cons r t=>by
    rw [List.reverse_cons,List.reverse_cons]
    exact (vals_rev t).append (.cons r .nil)
theorem pe_revL {X:Cx} {e st:Expr} {te:TE} {tk:TO} {p2 pos:Pos} (he:PE X e te) (hk:PO X (some st) tk) : PE X (.Subscript e (.Slice none none (some st) p2) pos) (tRevL X.K te tk):=by
  intro pins s σ H Q I h
  refine Subscript_ (thn (he pins s σ H _ I h) fun v s1 ⟨x,H1,I1,r1,q1⟩=>?_)
  refine wpAny_Slice ?_
  rw [evalPart_none]
  refine wpAny_pure (wpAny_pure (thn (hk pins s1 σ H1 _ I1 q1) fun vk s3 ⟨k,H3,I3,pk,q3⟩=>?_))
  obtain ⟨rfl,a,xs,rfl,hx,q⟩:=q3
  cases r1
  have I4 : Inv X pins σ H3 { s3 with heap:=s3.heap.push { cls:=.type "slice", data:=.fields #[.none,.none,vk] } }:=I3.kept (t':=s3.toks) fun b ob q=>Heap.get?_push_of_some _ q
  obtain ⟨its,r,ht,hz⟩:=I4.list hx
  have hlen:=r.length
  show wpAny (model X.prog X.w) X.A (subscriptTail e (.Slice none none (some st) p2) (.ref a) (.ref s3.heap.objs.size)) (EP X pins σ Q) X.xe { s3 with heap:=s3.heap.push { cls:=.type "slice", data:=.fields #[.none,.none,vk] } }
  refine tail_any (ops:=[.ref a,.ref s3.heap.objs.size]) ht.isList.typeIs slot_list_getitem.lookup ?_ (by with_unfolding_all rfl)
  refine wpAny_getItem_list_slice ht.isList (Heap.IsSliceOf.new ..) .none .none pk (by decide) ?_ (by rw [List.size_toArray] <;> omega)
  rw [PySem.W.krv_pick]
  refine ⟨.ref _,_,I4.laid (t':=s3.toks) (o:=.lst xs.reverse) (fun b ob q=>Heap.get?_push_of_some _ q) (Nat.le_refl _) ?_,rfl,q _ (I4.hok.fresh (Nat.le_refl _))⟩
  exact ⟨by rw [List.length_reverse]; exact hz,_,0,vals_rev r,Heap.get?_push_size _ rfl⟩
theorem for_str {x:Str} {g:TG} {tb:TS} {D:Ends} {σ:L2.St} {H:Hp} (Pv:Nat → L2.St → Hp → Prop) (h0:Pv 0 σ H)
    (hs:∀ i c σ H,x.cps[i]? = some c → Pv i σ H → g (.str ⟨#[c]⟩) σ H fun σ2 H2=>tb { D with nx:=Pv (i + 1),ct:=Pv (i + 1),bk:=D.nx } σ2 H2) (hd:∀ σ H,Pv x.cps.size σ H → D.nx σ H) :
    ∃ W : Nat → Nat → L2.St → Hp → Prop,(∃ m,W 0 m σ H) ∧ ∀ i m σ H,W i m σ H →
      ((Its x).stop i H ∧ D.nx σ H) ∨ ((Its x).go i H ∧ ∃ N : L2.St → Hp → Prop,(∀ σ' H',N σ' H' → ∃ m',m' < m ∧ W (i + 1) m' σ' H') ∧ ∀ x' H',(Its x).yld i H x' H' → g x' σ H' fun σ2 H2=>tb { D with nx:=N,ct:=N,bk:=D.nx } σ2 H2):=by
  refine ⟨fun i m σ H=>m = x.cps.size - i ∧ i ≤ x.cps.size ∧ Pv i σ H,⟨x.cps.size,by simp,Nat.zero_le _,h0⟩,?_⟩
  rintro i m σ H ⟨rfl,hi,p⟩
  by_cases hlt : i < x.cps.size
  · refine .inr ⟨hlt,Pv (i + 1),fun σ' H' p'=>⟨x.cps.size - (i + 1),by omega,rfl,hlt,p'⟩,fun v H' y=>?_⟩
    obtain ⟨e,c,hc,ex⟩:=y
    subst e ex
    exact hs i c σ _ hc p
  · have e : i = x.cps.size:=by omega
    subst e
    exact .inl ⟨Nat.le_refl _,hd σ H p⟩
end L2
namespace L2
open PySem PySem.Spec PyProof.Rows
section
variable {aA dl el wl:Addr}
end
section
variable {C:Addr} {H H':Hp} {p aA dl el wl:Addr} {ds es ws:List V}
end
theorem paired_append {α:Type} {F:α → V → Prop} : ∀ {as bs:List α} {us vs:List V},Paired F as us → Paired F bs vs → Paired F (as ++ bs) (us ++ vs)
  | _,_,_,_,.nil,h=>h
  | _,_,_,_,.cons r t,h=>.cons r (paired_append t h)
section
variable {C:Addr} {H H':Hp} {p aA dl el wl:Addr} {a:En} {W:List Item} {E:List Int} {D:List DRow}
end
theorem paired_len {α:Type} {F:α → V → Prop} {as:List α} {us:List V} (h:Paired F as us) : us.length = as.length:=h.length.symm
end L2
namespace L2
open PySem
def abcS : Str:=Str.ofString "abcdefghijklmnopqrstuvwxyz"
def figS : Str:=Str.ofString "0123456789"
def kept11 : List Str:=["let", "in", "if", "then", "else", "say", "ask", "stop", "where", "quiet", "number"]
def KeptT (K:PySem.W.Frag) (lv:Addr) : Prop:=∃ (o:Obj) (its:Array Value) (n:Nat),K.lookup lv = some o ∧ o.cls = .type "tuple" ∧ o.data = .seq its n ∧ its.size ≤ sizeLine ∧ Vals (kept11.map V.str) its.toList
structure WOk (x:Str) : Prop where
  lo : 1 ≤ x.length
  hi : x.length ≤ 8
  ab : ∀ c ∈ x.cps.toList,c ∈ abcS.cps.toList
  kp : x ∉ kept11
theorem in_kept {x:Str} (h:x ∉ kept11) : inV (.str x) (kept11.map V.str) = false:=by
  cases e : inV (.str x) (kept11.map V.str) with
  | false=>rfl
  | true =>
    unfold inV at e
    obtain ⟨v,hv,e2⟩:=List.any_eq_true.mp e
    obtain ⟨y,hy,rfl⟩:=List.mem_map.mp hv
    rw [eqV_str] at e2
    exact absurd (e2 ▸ hy) h
def WEnd (post:List Nat) : Prop:=∀ c ∈ post.head?,c ∉ abcS.cps.toList
structure NOk (x:Str) (n:Int) : Prop where
  lo : 1 ≤ x.length
  hi : x.length ≤ 30
  fg : ∀ c ∈ x.cps.toList,c ∈ figS.cps.toList
  zr : 1 < x.length → x.cps.toList.head? ≠ some 48
  rd : PySem.intText? x = some n
  sm : n.natAbs.log2 < 1920
def NEnd (post:List Nat) : Prop:=∀ c ∈ post.head?,c ∉ figS.cps.toList
end L2
namespace L2
open PySem
inductive PLf where
  | num (x:Str) (n:Int) | word (x:Str)
def PLf.ok : PLf → Prop
  | .num x n=>NOk x n
  | .word x=>WOk x
def PLf.items : PLf → List V
  | .num _ n=>[.str "num", .int n]
  | .word x=>[.str "name", .str x]
def LEnd (post:List Nat) : Prop:=WEnd post ∧ NEnd post
theorem fig_not_abc : ∀ c ∈ abcS.cps.toList,c ∉ figS.cps.toList:=by decide +kernel
theorem But.tk {C:Addr} {r:Addr} {H H':Hp} {dx:Addr} {fs:List (Str × V)} (hr:H r = some (.ins C dx fs)) (g:But r H H') : Tk H H':=fun b ys e=>g b _ (fun z=>by rw [z,hr] at e; cases e) e
theorem one_pre (c:Nat) (l:List Nat) : [c].isPrefixOf l = decide (l.head? = some c):=by
  cases l with
  | nil=>rfl
  | cons d l =>
    show (c == d && List.isPrefixOf [] l) = _
    rw [List.isPrefixOf_nil_left,Bool.and_true]
    by_cases h : c = d
    · subst h; simp
    · rw [beq_eq_false_iff_ne.mpr h]
      simp
      exact fun z=>h z.symm
end L2
namespace L2
open PySem
def numT (n:Int) : Str:=Str.ofString (toString n)
def txA : Atom → List Nat
  | .name x=>x.cps.toList
  | .num n=>(numT n).cps.toList
  | .gap g=>63 :: g.cps.toList
def AOk : Atom → Prop
  | .name x=>WOk x
  | .num n=>NOk (numT n) n
  | .gap g=>WOk g
theorem q_len : (Str.ofString "?").length = 1:=by decide +kernel
theorem q_list : (Str.ofString "?").cps.toList = [63]:=by decide +kernel
theorem head_in {x:Str} (h:1 ≤ x.length) (post:List Nat) : ∃ c,c ∈ x.cps.toList ∧ (x.cps.toList ++ post).head? = some c:=by
  have lx : x.cps.toList.length = x.length:=Array.length_toList
  cases hx : x.cps.toList with
  | nil=>rw [hx] at lx; simp at lx; omega
  | cons c r=>exact ⟨c,List.mem_cons_self,rfl⟩
end L2
namespace L2
open PySem
def moreA (as:List Atom) : List Nat:=as.flatMap fun a=>32 :: txA a
def txAs : List Atom → List Nat
  | []=>[]
  | a :: as=>91 :: (txA a ++ (moreA as ++ [93]))
theorem But.put {r la:Addr} {H H':Hp} {o:HO} (g:But r H H') (h:H la = none) : But r H (upd H' la o):=fun b x n e=>by
  rw [upd_ne (fun z=>by rw [z,h] at e; cases e)]
  exact g b x n e
theorem br_list : (Str.ofString "[").cps.toList = [91] ∧ (Str.ofString " ").cps.toList = [32] ∧ (Str.ofString "]").cps.toList = [93]:=by decide +kernel
theorem br_len : (Str.ofString "[").length = 1 ∧ (Str.ofString " ").length = 1 ∧ (Str.ofString "]").length = 1:=by decide +kernel
theorem end_of {c:Nat} {l:List Nat} (h:c = 32 ∨ c = 93 ∨ c = 41) : LEnd (c :: l):=by
  have k : ∀ d ∈ [32,93,41],d ∉ abcS.cps.toList ∧ d ∉ figS.cps.toList:=by decide +kernel
  have hc:=k c (by rcases h with rfl | rfl | rfl <;> simp)
  exact ⟨fun d hd=>by cases hd; exact hc.1,fun d hd=>by cases hd; exact hc.2⟩
theorem more_end (as:List Atom) (post:List Nat) : LEnd (moreA as ++ (93 :: post)):=by
  cases as with
  | nil=>exact end_of (.inr (.inl rfl))
  | cons a as=>exact end_of (.inl rfl)
theorem drop_more {T l m:List Nat} {i:Nat} (h:T.drop i = l ++ m) : T.drop (i + l.length) = m:=by
  rw [← List.drop_drop,h]
  exact List.drop_left' rfl
end L2
namespace L2
open PySem
def tx (s:String) : List Nat:=(Str.ofString s).cps.toList
def bwT : Bin → String
  | .add => " + "
  | .sub => " - "
  | .mul => " * "
  | .thn => " ; "
def txT : Tr → List Nat
  | .num n=>(numT n).cps.toList
  | .name x=>x.cps.toList
  | .ask x=>tx "(ask " ++ (x.cps.toList ++ [41])
  | .stop x=>tx "(stop " ++ (x.cps.toList ++ [41])
  | .gap g as=>63 :: (g.cps.toList ++ txAs as)
  | .say a=>tx "(say " ++ (txT a ++ [41])
  | .bin o a b=>40 :: (txT a ++ (tx (bwT o) ++ (txT b ++ [41])))
  | .ite a b c=>tx "(if " ++ (txT a ++ (tx " then " ++ (txT b ++ (tx " else " ++ (txT c ++ [41])))))
  | .lett x a b=>tx "(let " ++ (x.cps.toList ++ (tx " = " ++ (txT a ++ (tx " in " ++ (txT b ++ [41])))))
def TOk : Tr → Prop
  | .num n=>NOk (numT n) n
  | .name x=>WOk x
  | .ask x=>WOk x
  | .stop x=>WOk x
  | .gap g as=>WOk g ∧ (∀ a ∈ as,AOk a) ∧ as.length ≤ 900
  | .say a=>TOk a
  | .bin _ a b=>TOk a ∧ TOk b
  | .ite a b c=>TOk a ∧ TOk b ∧ TOk c
  | .lett x a b=>WOk x ∧ TOk a ∧ TOk b
def dpT : Tr → Nat
  | .say a=>dpT a + 1
  | .bin _ a b=>max (dpT a) (dpT b) + 1
  | .ite a b c=>max (dpT a) (max (dpT b) (dpT c)) + 1
  | .lett _ a b=>max (dpT a) (dpT b) + 1
  | _=>0
theorem pre_app (s l:List Nat) : s.isPrefixOf (s ++ l) = true:=List.isPrefixOf_iff_prefix.mpr (List.prefix_append s l)
theorem tx_len (s:String) : (tx s).length = (Str.ofString s).length:=Array.length_toList
end L2
namespace L2
open PySem
def brT : Tr → Option (List Nat)
  | .ask x=>some (tx "ask " ++ x.cps.toList)
  | .stop x=>some (tx "stop " ++ x.cps.toList)
  | .say a=>some (tx "say " ++ txT a)
  | .bin o a b=>some (txT a ++ (tx (bwT o) ++ txT b))
  | .ite a b c=>some (tx "if " ++ (txT a ++ (tx " then " ++ (txT b ++ (tx " else " ++ txT c)))))
  | .lett x a b=>some (tx "let " ++ (x.cps.toList ++ (tx " = " ++ (txT a ++ (tx " in " ++ txT b)))))
  | _=>none
theorem tx_open : tx "(ask " = 40 :: tx "ask " ∧ tx "(stop " = 40 :: tx "stop " ∧ tx "(say " = 40 :: tx "say " ∧ tx "(if " = 40 :: tx "if " ∧ tx "(let " = 40 :: tx "let " := by decide +kernel
theorem br_txt {t:Tr} {l:List Nat} (h:brT t = some l) : txT t = 40 :: (l ++ [41]):=by
  obtain ⟨e1,e2,e3,e4,e5⟩:=tx_open
  cases t <;> simp [brT] at h <;> subst h <;> simp [txT,e1,e2,e3,e4,e5]
theorem par_list : (Str.ofString "(").cps.toList = [40] ∧ (Str.ofString ")").cps.toList = [41] ∧ (Str.ofString "(").length = 1 ∧ (Str.ofString ")").length = 1:=by decide +kernel
end L2
namespace L2
open PySem
theorem blank_no : 32 ∉ abcS.cps.toList:=by decide +kernel
theorem run_same : ∀ {k x rest s:List Nat},(∀ c ∈ k,c ∈ abcS.cps.toList) → (∀ c ∈ x,c ∈ abcS.cps.toList) → WEnd rest → k ++ 32 :: s = x ++ rest → x = k
  | [],[],_,_,_,_,_,_=>rfl
  | [],d :: x,rest,s,_,hx,_,e=>by
    have h : 32 = d:=by simpa using congrArg List.head? e
    exact absurd (hx d List.mem_cons_self) (by rw [← h]; exact blank_no)
  | c :: k,[],rest,s,hk,_,hr,e=>by
    have h : rest.head? = some c:=by
      have:=congrArg List.head? e
      simpa using this.symm
    exact absurd (hk c List.mem_cons_self) (hr c h)
  | c :: k,d :: x,rest,s,hk,hx,hr,e=>by
    have h : c = d ∧ k ++ 32 :: s = x ++ rest:=by simpa using e
    rw [h.1,run_same (fun a ha=>hk a (List.mem_cons_of_mem _ ha)) (fun a ha=>hx a (List.mem_cons_of_mem _ ha)) hr h.2]
def opens : List String:=["ask", "stop", "say", "if", "let"]
theorem open_tx : ∀ s ∈ opens,tx (s ++ " ") = tx s ++ [32] ∧ (∀ c ∈ tx s,c ∈ abcS.cps.toList) ∧ Str.ofString s ∈ kept11:=by decide +kernel
theorem str_of_list {x:Str} {l:List Nat} (h:x.cps.toList = l) : x = ⟨l.toArray⟩:=by cases x; simp at h ⊢; rw [← h]
theorem no_open_word {x:Str} (ok:WOk x) {rest:List Nat} (hr:WEnd rest) {s:String} (hs:s ∈ opens) : (tx (s ++ " ")).isPrefixOf (x.cps.toList ++ rest) = false:=by
  obtain ⟨e1,e2,e3⟩:=open_tx s hs
  cases h : (tx (s ++ " ")).isPrefixOf (x.cps.toList ++ rest) with
  | false=>rfl
  | true =>
    obtain ⟨r,hr2⟩:=List.isPrefixOf_iff_prefix.mp h
    rw [e1,List.append_assoc] at hr2
    have e4:=run_same e2 ok.ab hr hr2
    have e5 : x = Str.ofString s:=by
      have a:=str_of_list e4
      have b:=str_of_list (x:=Str.ofString s) rfl
      rw [a,b]
      rfl
    exact absurd (e5 ▸ e3) ok.kp
theorem open_head : ∀ s ∈ opens,∃ c,(tx (s ++ " ")).head? = some c ∧ c ∈ abcS.cps.toList:=by
  intro s hs
  simp only [opens,List.mem_cons,List.not_mem_nil,or_false] at hs
  rcases hs with rfl | rfl | rfl | rfl | rfl
  · exact ⟨97,by decide +kernel,by decide +kernel⟩
  · exact ⟨115,by decide +kernel,by decide +kernel⟩
  · exact ⟨115,by decide +kernel,by decide +kernel⟩
  · exact ⟨105,by decide +kernel,by decide +kernel⟩
  · exact ⟨108,by decide +kernel,by decide +kernel⟩
theorem no_open_head {l:List Nat} {d:Nat} (h:l.head? = some d) (hd:d ∉ abcS.cps.toList) {s:String} (hs:s ∈ opens) : (tx (s ++ " ")).isPrefixOf l = false:=by
  obtain ⟨c,e,hc⟩:=open_head s hs
  cases h2 : (tx (s ++ " ")).isPrefixOf l with
  | false=>rfl
  | true =>
    obtain ⟨r,hr⟩:=List.isPrefixOf_iff_prefix.mp h2
    rw [← hr,List.head?_append,e] at h
    cases h
    exact absurd hc hd
theorem fig_abc : ∀ c ∈ figS.cps.toList,c ∉ abcS.cps.toList:=by decide +kernel
theorem marks_no : 63 ∉ abcS.cps.toList ∧ 40 ∉ abcS.cps.toList:=by decide +kernel
theorem kw_apart : ∀ s ∈ opens,∀ s' ∈ opens,(tx (s ++ " ")).isPrefixOf (tx (s' ++ " ")) = decide (s = s'):=by decide +kernel
theorem kw_pre {s s':String} (hs:s ∈ opens) (hs':s' ∈ opens) (m:List Nat) : (tx (s ++ " ")).isPrefixOf (tx (s' ++ " ") ++ m) = decide (s' = s):=by
  by_cases c : s' = s
  · subst c
    rw [pre_app,decide_eq_true rfl]
  · rw [decide_eq_false c]
    cases h : (tx (s ++ " ")).isPrefixOf (tx (s' ++ " ") ++ m) with
    | false=>rfl
    | true =>
      have h1:=List.isPrefixOf_iff_prefix.mp h
      have h2 : tx (s' ++ " ") <+: tx (s' ++ " ") ++ m:=List.prefix_append _ _
      rcases Nat.le_total (tx (s ++ " ")).length (tx (s' ++ " ")).length with hl | hl
      · have h3:=List.isPrefixOf_iff_prefix.mpr (List.prefix_of_prefix_length_le h1 h2 hl)
        rw [kw_apart s hs s' hs'] at h3
        exact absurd (of_decide_eq_true h3).symm c
      · have h3:=List.isPrefixOf_iff_prefix.mpr (List.prefix_of_prefix_length_le h2 h1 hl)
        rw [kw_apart s' hs' s hs] at h3
        exact absurd (of_decide_eq_true h3) c
end L2
namespace L2
open PySem
end L2
namespace L2
open PySem
def bins : List Bin:=[.add,.sub,.mul,.thn]
def betw : List Str:=["add", "sub", "mul", "then"]
theorem betw_at {i:Nat} {p:Str} (h:betw[i]? = some p) : ∃ o,bins[i]? = some o ∧ p = o.s:=by
  have hi : i < 4:=(List.getElem?_eq_some_iff.mp h).1
  rcases (show i = 0 ∨ i = 1 ∨ i = 2 ∨ i = 3 by omega) with rfl | rfl | rfl | rfl <;> (cases h; exact ⟨_,rfl,rfl⟩)
theorem bins_in (o:Bin) : ∃ i,i < 4 ∧ bins[i]? = some o:=by
  cases o
  · exact ⟨0,by decide,rfl⟩
  · exact ⟨1,by decide,rfl⟩
  · exact ⟨2,by decide,rfl⟩
  · exact ⟨3,by decide,rfl⟩
theorem bw_lists : tx " + " = [32,43,32] ∧ tx " - " = [32,45,32] ∧ tx " * " = [32,42,32] ∧ tx " ; " = [32,59,32]:=by decide +kernel
theorem bw_miss {o p:Bin} (h:o ≠ p) (m:List Nat) : (tx (bwT o)).isPrefixOf (tx (bwT p) ++ m) = false:=by
  obtain ⟨e1,e2,e3,e4⟩:=bw_lists
  cases o <;> cases p <;> first | exact absurd rfl h | (simp only [bwT,e1,e2,e3,e4]; rfl)
def KBtw (K:PySem.W.Frag) (d:Addr) : Prop:=∀ o : Bin,∃ t,PySem.W.nsIn K d o.s = some (some (.str (Str.ofString (bwT o)) t))
end L2
namespace L2
open PySem
def moS (p:Nat × Nat) (c:Nat) : Nat × Nat:=if c = 40 then (max p.1 (p.2 + 1),p.2 + 1) else if c = 41 then (max p.1 (p.2 - 1),p.2 - 1) else (max p.1 p.2,p.2)
def Bal (l:List Nat) (d:Nat) : Prop:=∀ m c,∃ m',l.foldl moS (m,c) = (m',c) ∧ m' ≤ max m (c + d)
theorem Bal.app {l l':List Nat} {d:Nat} (h:Bal l d) (h':Bal l' d) : Bal (l ++ l') d:=fun m c=>by
  obtain ⟨m1,e1,b1⟩:=h m c
  obtain ⟨m2,e2,b2⟩:=h' m1 c
  exact ⟨m2,by rw [List.foldl_append,e1,e2],by omega⟩
theorem Bal.up {l:List Nat} {d d':Nat} (h:Bal l d) (hd:d ≤ d') : Bal l d':=fun m c=>by
  obtain ⟨m1,e1,b1⟩:=h m c
  exact ⟨m1,e1,by omega⟩
theorem Bal.plain : ∀ {l:List Nat},(∀ c ∈ l,c ≠ 40 ∧ c ≠ 41) → ∀ {d:Nat},Bal l d
  | [],_,d=>fun m c=>⟨m,rfl,by omega⟩
  | x :: l,h,d=>fun m c=>by
    obtain ⟨h1,h2⟩:=h x List.mem_cons_self
    obtain ⟨m',e,b⟩:=Bal.plain (l:=l) (fun c hc=>h c (List.mem_cons_of_mem _ hc)) (d:=d) (max m c) c
    refine ⟨m',?_,by omega⟩
    rw [List.foldl_cons]
    unfold moS
    rw [if_neg h1,if_neg h2]
    exact e
theorem Bal.wrap {l:List Nat} {d:Nat} (h:Bal l d) : Bal (40 :: (l ++ [41])) (d + 1):=fun m c=>by
  obtain ⟨m1,e1,b1⟩:=h (max m (c + 1)) (c + 1)
  refine ⟨max m1 c,?_,by omega⟩
  rw [List.foldl_cons,List.foldl_append]
  have e0 : moS (m,c) 40 = (max m (c + 1),c + 1):=rfl
  rw [e0,e1]
  rfl
def opT : Tr → Nat
  | .ask _=>1
  | .stop _=>1
  | .say a=>opT a + 1
  | .bin _ a b=>max (opT a) (opT b) + 1
  | .ite a b c=>max (opT a) (max (opT b) (opT c)) + 1
  | .lett _ a b=>max (opT a) (opT b) + 1
  | _=>0
theorem abc_bal : ∀ c ∈ abcS.cps.toList,c ≠ 40 ∧ c ≠ 41:=by decide +kernel
theorem fig_bal : ∀ c ∈ figS.cps.toList,c ≠ 40 ∧ c ≠ 41:=by decide +kernel
theorem tx_bal : ∀ s ∈ ["ask ", "stop ", "say ", "if ", " then ", " else ", "let ", " = ", " in ", " + ", " - ", " * ", " ; "],∀ c ∈ tx s,c ≠ 40 ∧ c ≠ 41:=by decide +kernel
theorem WOk.bal {x:Str} (h:WOk x) {d:Nat} : Bal x.cps.toList d:=Bal.plain fun c hc=>abc_bal c (h.ab c hc)
theorem NOk.bal {x:Str} {n:Int} (h:NOk x n) {d:Nat} : Bal x.cps.toList d:=Bal.plain fun c hc=>fig_bal c (h.fg c hc)
theorem one_bal {c d:Nat} (h:c ≠ 40 ∧ c ≠ 41) : Bal [c] d:=Bal.plain fun x hx=>by rw [List.mem_singleton.mp hx]; exact h
theorem Bal.cons {c d:Nat} {l:List Nat} (h:c ≠ 40 ∧ c ≠ 41) (hl:Bal l d) : Bal (c :: l) d:=(one_bal h).app hl
theorem txb {s:String} (h:s ∈ ["ask ", "stop ", "say ", "if ", " then ", " else ", "let ", " = ", " in ", " + ", " - ", " * ", " ; "]) {d:Nat} : Bal (tx s) d:=Bal.plain (tx_bal s h)
theorem AOk.bal {a:Atom} (h:AOk a) {d:Nat} : Bal (txA a) d:=by
  cases a with
  | name x=>exact WOk.bal h
  | num n=>exact NOk.bal h
  | gap g=>exact Bal.cons (by decide) (WOk.bal h)
theorem more_bal : ∀ {as:List Atom},(∀ a ∈ as,AOk a) → ∀ {d:Nat},Bal (moreA as) d
  | [],_,d=>Bal.plain fun c hc=>by cases hc
  | a :: as,h,d=>by
    show Bal (32 :: txA a ++ moreA as) d
    exact (Bal.cons (by decide) (AOk.bal (h a List.mem_cons_self))).app (more_bal fun x hx=>h x (List.mem_cons_of_mem _ hx))
theorem atoms_bal {as:List Atom} (h:∀ a ∈ as,AOk a) {d:Nat} : Bal (txAs as) d:=by
  cases as with
  | nil=>exact Bal.plain fun c hc=>by cases hc
  | cons a as=>exact Bal.cons (by decide) ((AOk.bal (h a List.mem_cons_self)).app ((more_bal fun x hx=>h x (List.mem_cons_of_mem _ hx)).app (one_bal (by decide))))
theorem tree_bal : ∀ {t:Tr},TOk t → Bal (txT t) (opT t)
  | .num n,h=>NOk.bal h
  | .name x,h=>WOk.bal h
  | .gap g as,h=>Bal.cons (by decide) ((WOk.bal h.1).app (atoms_bal h.2.1))
  | .ask x,h=>by rw [br_txt rfl]; exact Bal.wrap ((txb (by decide)).app (WOk.bal h))
  | .stop x,h=>by rw [br_txt rfl]; exact Bal.wrap ((txb (by decide)).app (WOk.bal h))
  | .say a,h=>by rw [br_txt rfl]; exact Bal.wrap ((txb (by decide)).app (tree_bal (t:=a) h))
  | .bin o a b,h=>by
    rw [br_txt rfl]
    exact Bal.wrap (((tree_bal h.1).up (Nat.le_max_left _ _)).app ((txb (by cases o <;> decide)).app ((tree_bal h.2).up (Nat.le_max_right _ _))))
  | .ite a b c,h=>by
    rw [br_txt rfl]
    exact Bal.wrap ((txb (by decide)).app (((tree_bal h.1).up (by omega)).app ((txb (by decide)).app (((tree_bal h.2.1).up (by omega)).app ((txb (by decide)).app ((tree_bal h.2.2).up (by omega)))))))
  | .lett x a b,h=>by
    rw [br_txt rfl]
    exact Bal.wrap ((txb (by decide)).app ((WOk.bal h.1).app ((txb (by decide)).app (((tree_bal h.2.1).up (by omega)).app ((txb (by decide)).app ((tree_bal h.2.2).up (by omega)))))))
theorem par_eq {c:Nat} : (V.str ⟨#[c]⟩ = V.str "(" ↔ c = 40) ∧ (V.str ⟨#[c]⟩ = V.str ")" ↔ c = 41):=by
  have e1 : (Str.ofString "(") = ⟨#[40]⟩:=by decide +kernel
  have e2 : (Str.ofString ")") = ⟨#[41]⟩:=by decide +kernel
  constructor
  · constructor
    · intro h; injection h with h; rw [e1] at h; injection h with h; simpa using h
    · intro h; rw [h]; exact congrArg V.str e1.symm
  · constructor
    · intro h; injection h with h; rw [e2] at h; injection h with h; simpa using h
    · intro h; rw [h]; exact congrArg V.str e2.symm
theorem max_nat (a b:Nat) : (if (b:Int) > (a:Int) then (b:Int) else (a:Int)) = ((max a b:Nat) : Int):=by split <;> omega
theorem max_pred (a:Nat) : (if (0:Int) > (a:Int) - 1 then (0:Int) else (a:Int) - 1) = ((a - 1 : Nat) : Int):=by split <;> omega
end L2
namespace L2
open PySem
theorem dig_split {m:Nat} (h:10 ≤ m) : Nat.toDigits 10 m = Nat.toDigits 10 (m / 10) ++ [Nat.digitChar (m % 10)]:=by
  have hm : m % 10 < 10:=Nat.mod_lt m (by decide)
  have t : Nat.toDigits 10 (m / 10) ++ Nat.toDigits 10 (m % 10) = Nat.toDigits 10 (10 * (m / 10) + m % 10):=Nat.toDigits_append_toDigits (by decide) (by omega) hm
  rw [Nat.div_add_mod,Nat.toDigits_of_lt_base hm] at t
  exact t.symm
theorem dig_len : ∀ (k m:Nat),m < 10 ^ (k + 1) → (Nat.toDigits 10 m).length ≤ k + 1
  | 0,m,h=>by
    rw [Nat.toDigits_of_lt_base (by simpa using h)]
    exact Nat.le_refl _
  | k + 1,m,h=>by
    by_cases c : m < 10
    · rw [Nat.toDigits_of_lt_base c]
      simp
    · rw [dig_split (by omega),List.length_append]
      have:=dig_len k (m / 10) (by rw [Nat.pow_succ] at h; omega)
      simp only [List.length_singleton]
      omega
theorem dig_char : ∀ d : Nat,d < 10 → 1 ≤ d → (Nat.digitChar d).toNat ≠ 48:=by decide
theorem dig_head (m:Nat) (h:1 ≤ m) : ((Nat.toDigits 10 m).map Char.toNat).head? ≠ some 48:=by
  induction m using Nat.strongRecOn with
  | _ m ih =>
    by_cases c : m < 10
    · rw [Nat.toDigits_of_lt_base c]
      intro z
      have z' : (Nat.digitChar m).toNat = 48:=by simpa using z
      exact dig_char m c h z'
    · rw [dig_split (by omega),List.map_append,List.head?_append]
      have e:=ih (m / 10) (by omega) (by omega)
      have hl:=PySem.toDigits_len_ge 10 (m / 10)
      cases hx : (Nat.toDigits 10 (m / 10)).map Char.toNat with
      | nil =>
        rw [List.map_eq_nil_iff.mp hx] at hl
        exact absurd hl (by decide)
      | cons a l =>
        rw [hx] at e
        simpa using e
theorem fig_mem : ∀ c : Nat,48 ≤ c → c ≤ 57 → c ∈ figS.cps.toList:=by
  intro c h1 h2
  have k : ∀ i : Nat,i < 10 → (48 + i) ∈ figS.cps.toList:=by decide +kernel
  have:=k (c - 48) (by omega)
  rwa [show 48 + (c - 48) = c by omega] at this
theorem abits {n:Int} (h0:0 ≤ n) (h1:n < 10 ^ 30) : n.natAbs.log2 < 1920:=by
  rcases Nat.eq_zero_or_pos n.natAbs with z | p
  · rw [z]; decide
  · rw [Nat.log2_lt (Nat.ne_of_gt p)]
    have : n.natAbs < 10 ^ 30:=by
      have : ((10 ^ 30 : Nat) : Int) = 10 ^ 30:=by decide
      omega
    exact Nat.lt_trans this (by decide)
theorem num_ok {n:Int} (h0:0 ≤ n) (h1:n < 10 ^ 30) : NOk (numT n) n:=by
  obtain ⟨m,rfl⟩:=Int.eq_ofNat_of_zero_le h0
  have hm : m < 10 ^ (29 + 1):=by
    have : ((m:Nat) : Int) < ((10 ^ 30 : Nat) : Int):=by rw [show ((10 ^ 30 : Nat) : Int) = 10 ^ 30 by decide]; exact h1
    exact Int.ofNat_lt.mp this
  have es : (numT ((m:Nat) : Int)).cps.toList = (Nat.toDigits 10 m).map Char.toNat:=PySem.W.KIN.signs_num m
  have ll : (numT ((m:Nat) : Int)).cps.toList.length = (numT ((m:Nat) : Int)).length:=Array.length_toList
  have l1:=PySem.toDigits_len_ge 10 m
  have l2:=dig_len 29 m hm
  have hd : ∀ c ∈ (numT ((m:Nat) : Int)).cps.toList,48 ≤ c ∧ c ≤ 57:=fun c hc=>by
    rw [es] at hc
    obtain ⟨ch,hch,e⟩:=List.mem_map.mp hc
    have r:=PyProof.Rows.digit_range (Nat.isDigit_of_mem_toDigits (by decide) (by decide) hch)
    rw [← e]
    exact r
  rw [es,List.length_map] at ll
  refine ⟨by omega,by omega,fun c hc=>fig_mem c (hd c hc).1 (hd c hc).2,fun h=>?_,?_,abits h0 h1⟩
  · rw [es]
    refine dig_head m ?_
    cases m with
    | zero=>rw [← ll,Nat.toDigits_of_lt_base (by decide)] at h; exact absurd h (by decide)
    | succ m=>omega
  · have hne : (numT ((m:Nat) : Int)).cps.toList ≠ []:=by
      rw [es]
      intro e
      rw [List.map_eq_nil_iff.mp e] at l1
      exact absurd l1 (by decide)
    have e:=PySem.intText_digits hd hne (by omega)
    rw [es,PySem.W.KIN.val_back] at e
    exact e
def sOf (l:List Nat) : Str:=⟨l.toArray⟩
theorem sOf_list (l:List Nat) : (sOf l).cps.toList = l:=by simp [sOf]
theorem sOf_eq {x:Str} {l:List Nat} (h:x.cps.toList = l) : x = sOf l:=by cases x; simp [sOf] at h ⊢; rw [← h]
theorem sOf_len (l:List Nat) : (sOf l).length = l.length:=by
  have:=sOf_list l
  rw [← this,Array.length_toList]
  rw [this]
  rfl
theorem app_list (x y:Str) : (x ++ y).cps.toList = x.cps.toList ++ y.cps.toList:=by
  show (x.cps ++ y.cps).toList = _
  exact Array.toList_append
theorem sOf_app (a b:List Nat) : sOf a ++ sOf b = sOf (a ++ b):=sOf_eq (by rw [app_list,sOf_list,sOf_list])
theorem str_tx (s:String) : Str.ofString s = sOf (tx s):=sOf_eq rfl
theorem glue_fold (g:Array Nat) : ∀ (l:List Str) (a:Array Nat),(l.foldl (fun acc (p:Str)=>acc ++ g ++ p.cps) a).toList = a.toList ++ l.flatMap fun p=>g.toList ++ p.cps.toList
  | [],a=>by simp
  | p :: l,a=>by
    rw [List.foldl_cons,glue_fold g l]
    simp
theorem join_none (ys:List Str) : Txt.join (Str.ofString "") ys = sOf (ys.flatMap fun y=>y.cps.toList):=by
  refine sOf_eq ?_
  unfold Txt.join Builtin.Str.glued
  cases ys with
  | nil=>rfl
  | cons y ys =>
    show (List.foldl (fun acc (p:Str)=>acc ++ (Str.ofString "").cps ++ p.cps) y.cps ys).toList = _
    have e : (Str.ofString "").cps.toList = []:=by decide +kernel
    rw [glue_fold,e]
    simp
theorem join_blank (y:Str) (ys:List Str) : Txt.join (Str.ofString " ") (y :: ys) = sOf (y.cps.toList ++ ys.flatMap fun p=>32 :: p.cps.toList):=by
  refine sOf_eq ?_
  unfold Txt.join Builtin.Str.glued
  show (List.foldl (fun acc (p:Str)=>acc ++ (Str.ofString " ").cps ++ p.cps) y.cps ys).toList = _
  have e : (Str.ofString " ").cps.toList = [32]:=by decide +kernel
  rw [glue_fold,e]
  simp
theorem atx_len {a:Atom} (h:AOk a) : (txA a).length ≤ 31:=by
  cases a with
  | name x=>have:=WOk.hi h; show x.cps.toList.length ≤ 31; rw [Array.length_toList]; exact Nat.le_trans this (by decide)
  | num n=>have:=NOk.hi h; show (numT n).cps.toList.length ≤ 31; rw [Array.length_toList]; exact Nat.le_trans this (by decide)
  | gap g =>
    have:=WOk.hi h
    show (63 :: g.cps.toList).length ≤ 31
    rw [List.length_cons,Array.length_toList]
    exact Nat.le_trans (Nat.succ_le_succ this) (by decide)
theorem more_len : ∀ {as:List Atom},(∀ a ∈ as,AOk a) → (moreA as).length ≤ 32 * as.length
  | [],_=>Nat.le_refl _
  | a :: as,h=>by
    have h1:=atx_len (h a List.mem_cons_self)
    have h2:=more_len fun x hx=>h x (List.mem_cons_of_mem _ hx)
    show (32 :: txA a ++ moreA as).length ≤ _
    rw [List.length_append,List.length_cons,List.length_cons]
    omega
abbrev Pc:=List Nat ⊕ Tr
def pcT : Pc → List Nat
  | .inl s=>s
  | .inr t=>txT t
def PcRep (H:Hp) : Pc → V → Prop
  | .inl s,v=>v = .str (sOf s)
  | .inr t,v=>Rep H t v
theorem PcRep.mono {H H':Hp} (k:Tk H H') : ∀ {p:Pc} {v:V},PcRep H p v → PcRep H' p v
  | .inl _,_,h=>h
  | .inr _,_,h=>Rep.mono k h
def PcOk : Pc → Prop
  | .inl _=>True
  | .inr t=>TOk t
def rowP : Tr → List Pc
  | .say a=>[.inl (tx "(say "),.inr a,.inl (tx ")")]
  | .ite a b c=>[.inl (tx "(if "),.inr a,.inl (tx " then "),.inr b,.inl (tx " else "),.inr c,.inl (tx ")")]
  | .lett x a b=>[.inl (tx "(let " ++ (x.cps.toList ++ tx " = ")),.inr a,.inl (tx " in "),.inr b,.inl (tx ")")]
  | .bin o a b=>[.inl (tx "("),.inr a,.inl (tx (bwT o)),.inr b,.inl (tx ")")]
  | t=>[.inl (txT t)]
theorem tx_par : tx "(" = [40] ∧ tx ")" = [41]:=by decide +kernel
theorem rowP_txt (t:Tr) : (rowP t).flatMap pcT = txT t:=by
  obtain ⟨e1,e2⟩:=tx_par
  cases t <;> simp [rowP,pcT,txT,e1,e2]
theorem rowP_ok {t:Tr} (h:TOk t) : ∀ p ∈ rowP t,PcOk p:=by
  cases t <;> simp only [rowP,List.mem_cons,List.not_mem_nil,or_false,forall_eq_or_imp,forall_eq,PcOk,true_and,and_true]
  case say a=>exact h
  case bin o a b=>exact h
  case ite a b c=>exact h
  case lett x a b=>exact h.2
def wtT : Tr → Nat
  | .say a=>wtT a + 3
  | .bin _ a b=>wtT a + wtT b + 4
  | .ite a b c=>wtT a + wtT b + wtT c + 5
  | .lett _ a b=>wtT a + wtT b + 4
  | _=>2
def wtP : Pc → Nat
  | .inl _=>1
  | .inr t=>wtT t
def wtS (ps:List Pc) : Nat:=(ps.map wtP).sum
theorem wtS_app (a b:List Pc) : wtS (a ++ b) = wtS a + wtS b:=by simp [wtS]
theorem wtS_rev (a:List Pc) : wtS a.reverse = wtS a:=by simp [wtS]
theorem wt_row (t:Tr) : wtS (rowP t) + 1 = wtT t:=by cases t <;> simp [rowP,wtS,wtP,wtT] <;> omega
theorem wtP_pos (p:Pc) : 1 ≤ wtP p:=by
  cases p with
  | inl s=>exact Nat.le_refl _
  | inr t=>cases t <;> simp [wtP,wtT] <;> omega
theorem wtS_len : ∀ ps : List Pc,ps.length ≤ wtS ps
  | []=>Nat.le_refl _
  | p :: ps=>by
    have h1:=wtP_pos p
    have h2:=wtS_len ps
    simp only [wtS,List.map_cons,List.sum_cons,List.length_cons] at h2 ⊢
    omega
theorem str_len (x:Str) : x.cps.toList.length = x.length:=Array.length_toList
theorem tx_lens : (tx "(ask ").length = 5 ∧ (tx "(stop ").length = 6 ∧ (tx "(say ").length = 5 ∧ (tx "(if ").length = 4 ∧ (tx " then ").length = 6 ∧ (tx " else ").length = 6 ∧ (tx "(let ").length = 5 ∧ (tx " = ").length = 3 ∧ (tx " in ").length = 4:=by decide +kernel
theorem bw_len (o:Bin) : (tx (bwT o)).length = 3:=by cases o <;> decide +kernel
theorem wt_txt : ∀ {t:Tr},TOk t → wtT t ≤ 3 * (txT t).length
  | .num n,h=>by
    have:=NOk.lo h
    show 2 ≤ 3 * (numT n).cps.toList.length
    rw [str_len]
    omega
  | .name x,h=>by
    have:=WOk.lo h
    show 2 ≤ 3 * x.cps.toList.length
    rw [str_len]
    omega
  | .gap g as,h=>by
    show 2 ≤ 3 * (63 :: (g.cps.toList ++ txAs as)).length
    rw [List.length_cons]
    omega
  | .ask x,h=>by
    obtain ⟨l1,l2,l3,l4,l5,l6,l7,l8,l9⟩:=tx_lens
    simp only [txT,wtT,List.length_append,l1]
    omega
  | .stop x,h=>by
    obtain ⟨l1,l2,l3,l4,l5,l6,l7,l8,l9⟩:=tx_lens
    simp only [txT,wtT,List.length_append,l2]
    omega
  | .say a,h=>by
    obtain ⟨l1,l2,l3,l4,l5,l6,l7,l8,l9⟩:=tx_lens
    have:=wt_txt (t:=a) h
    simp only [txT,wtT,List.length_append,l3]
    omega
  | .bin o a b,h=>by
    have h1:=wt_txt h.1
    have h2:=wt_txt h.2
    simp only [txT,wtT,List.length_append,List.length_cons,bw_len]
    omega
  | .ite a b c,h=>by
    obtain ⟨l1,l2,l3,l4,l5,l6,l7,l8,l9⟩:=tx_lens
    have h1:=wt_txt h.1
    have h2:=wt_txt h.2.1
    have h3:=wt_txt h.2.2
    simp only [txT,wtT,List.length_append,l4,l5,l6]
    omega
  | .lett x a b,h=>by
    obtain ⟨l1,l2,l3,l4,l5,l6,l7,l8,l9⟩:=tx_lens
    have h1:=wt_txt h.2.1
    have h2:=wt_txt h.2.2
    simp only [txT,wtT,List.length_append,l7,l8,l9]
    omega
theorem line_of {n:Nat} (h:n ≤ 1000000) : n ≤ sizeLine:=by rw [sizeLine_eq]; omega
theorem line_lt {n:Nat} (h:n ≤ 1000000) : n < sizeLine:=by rw [sizeLine_eq]; omega
end L2
namespace L2
open PySem
theorem flat_more : ∀ as : List Atom,(as.map fun a=>sOf (txA a)).flatMap (fun p=>32 :: p.cps.toList) = moreA as
  | []=>rfl
  | a :: as=>by
    rw [List.map_cons,List.flatMap_cons,flat_more as,sOf_list]
    rfl
theorem sum_atx : ∀ {as:List Atom},(∀ a ∈ as,AOk a) → (as.map ((fun x:Str=>x.length) ∘ fun a=>sOf (txA a))).sum ≤ 31 * as.length
  | [],_=>Nat.le_refl _
  | a :: as,h=>by
    have h1:=atx_len (h a List.mem_cons_self)
    have h2:=sum_atx (as:=as) fun x hx=>h x (List.mem_cons_of_mem _ hx)
    rw [List.map_cons,List.sum_cons,List.length_cons]
    have e : ((fun x:Str=>x.length) ∘ fun a=>sOf (txA a)) a = (txA a).length:=sOf_len _
    omega
end L2
namespace L2
open PySem
theorem flat_len : ∀ ys : List Str,(ys.map (·.length)).sum = (ys.flatMap fun y=>y.cps.toList).length
  | []=>rfl
  | y :: ys=>by
    rw [List.map_cons,List.sum_cons,List.flatMap_cons,List.length_append,flat_len ys,str_len]
theorem paired_rev' {α:Type} {F:α → V → Prop} : ∀ {as:List α} {us:List V},Paired F as us → Paired F as.reverse us.reverse
  | _,_,.nil=>.nil
  | _,_,.cons r t=>by
    rw [List.reverse_cons,List.reverse_cons]
    exact paired_append (paired_rev' t) (.cons r .nil)
theorem paired_last {α:Type} {F:α → V → Prop} : ∀ {as:List α} {a:α} {us:List V},Paired F (as ++ [a]) us → ∃ us' u,us = us' ++ [u] ∧ Paired F as us' ∧ F a u
  | [],a,_,.cons r t=>by cases t; exact ⟨[],_,rfl,.nil,r⟩
  | b :: as,a,_,.cons r t=>by
    obtain ⟨us',u,rfl,h1,h2⟩:=paired_last (as:=as) t
    exact ⟨_ :: us',u,rfl,.cons r h1,h2⟩
theorem Rep.tupo {H:Hp} {t:Tr} {v:V} (h:Rep H t v) : ∃ p xs,v = .ref p ∧ H p = some (.tup xs):=by
  obtain ⟨p,hs,us,e,hp,_⟩:=h.all
  exact ⟨p,_,e,hp⟩
end L2
namespace L2
open PySem
theorem atI_in {α:Type} {xs:List α} {i:Int} (h0:0 ≤ i) (h1:i < xs.length) : ∃ v,v ∈ xs ∧ atI xs i = some v:=by
  have hl : i.toNat < xs.length:=by omega
  have e : ((i.toNat : Nat) : Int) = i:=by omega
  refine ⟨xs[i.toNat],List.getElem_mem hl,?_⟩
  have:=atI_nat (xs:=xs) (j:=i.toNat) (v:=xs[i.toNat]) (List.getElem?_eq_getElem hl)
  rwa [e] at this
theorem paired_take {α:Type} {F:α → V → Prop} : ∀ {as:List α} {us:List V} (n:Nat),Paired F as us → Paired F (as.take n) (us.take n)
  | _,_,0,_=>by rw [List.take_zero,List.take_zero]; exact .nil
  | _,_,_ + 1,.nil=>.nil
  | _,_,n + 1,.cons h t=>.cons h (paired_take n t)
theorem paired_drop {α:Type} {F:α → V → Prop} : ∀ {as:List α} {us:List V} (n:Nat),Paired F as us → Paired F (as.drop n) (us.drop n)
  | _,_,0,h=>h
  | _,_,_ + 1,.nil=>.nil
  | _,_,n + 1,.cons _ t=>paired_drop n t
theorem cut_front (xs:List V) (k:Int) (h:0 ≤ k) : cutV xs none (some k) = xs.take k.toNat:=by
  have e : ((k.toNat : Nat) : Int) = k:=by omega
  unfold cutV
  rw [HT.sIx_none,← e,HT.sIx_nat,Int.toNat_natCast,List.drop_zero,Nat.sub_zero]
  rcases Nat.le_total k.toNat xs.length with h | h
  · rw [Nat.min_eq_left h]
  · rw [Nat.min_eq_right h,List.take_length,List.take_of_length_le h]
theorem cut_back (xs:List V) (k:Int) (h:0 ≤ k) : cutV xs (some k) none = xs.drop k.toNat:=by
  have e : ((k.toNat : Nat) : Int) = k:=by omega
  unfold cutV
  rw [HT.sIx_none,← e,HT.sIx_nat,Int.toNat_natCast]
  rcases Nat.le_total k.toNat xs.length with h | h
  · rw [Nat.min_eq_left h,List.take_of_length_le (by rw [List.length_drop]; exact Nat.le_refl _)]
  · rw [Nat.min_eq_right h,List.drop_length,List.drop_of_length_le h]
    simp
theorem kept_in {x:Str} (h:inV (.str x) (kept11.map V.str) = true) : x ∈ kept11:=by
  unfold inV at h
  obtain ⟨v,hv,e⟩:=List.any_eq_true.mp h
  obtain ⟨y,hy,rfl⟩:=List.mem_map.mp hv
  rw [eqV_str] at e
  exact e ▸ hy
end L2
namespace L2
open PySem
def atTr : Atom → Tr
  | .name x=>.name x
  | .num n=>.num n
  | .gap g=>.gap g []
theorem atTr_txt (a:Atom) : txT (atTr a) = txA a:=by cases a <;> simp [atTr,txT,txA,txAs]
theorem atTr_ok {a:Atom} (h:AOk a) : TOk (atTr a):=by
  cases a with
  | name x=>exact h
  | num n=>exact h
  | gap g=>exact ⟨h,(fun a ha=>by cases ha),Nat.zero_le _⟩
theorem atTr_rep {H:Hp} {a:Atom} {v:V} (h:AtRep H a v) : Rep H (atTr a) v:=by
  cases a with
  | name x=>exact h
  | num n=>exact h
  | gap g =>
    obtain ⟨p,b,e,h1,h2⟩:=h
    exact ⟨p,b,[],e,h1,h2,Nat.zero_le _,.nil⟩
def gdT : Tr → Nat
  | .gap _ (_ :: _)=>1
  | _=>0
theorem gdT_at (a:Atom) : gdT (atTr a) = 0:=by cases a <;> rfl
end L2
namespace L2
open PySem PySem.NumText
abbrev Sg:=List Nat
def isAbc (c:Nat) : Bool:=decide (c ∈ abcS.cps.toList)
def isFig (c:Nat) : Bool:=decide (c ∈ figS.cps.toList)
def skP (p s:Sg) : Option Sg:=if p.isPrefixOf s = true then some (s.drop p.length) else none
def wordP (s:Sg) : Option (Str × Sg):=if 1 ≤ (s.takeWhile isAbc).length ∧ (s.takeWhile isAbc).length ≤ 8 ∧ sOf (s.takeWhile isAbc) ∉ kept11 then some (sOf (s.takeWhile isAbc),s.dropWhile isAbc) else none
def numP (s:Sg) : Option (Int × Sg):=if 30 < (s.takeWhile isFig).length then none else if 1 < (s.takeWhile isFig).length ∧ (s.takeWhile isFig).head? = some 48 then none else some (((digitsVal (s.takeWhile isFig) : Nat) : Int),s.dropWhile isFig)
def figB (s:Sg) : Bool:=match s.head? with | some c=>isFig c | none=>false
def pleafP (s:Sg) : Option (Atom × Sg):=if figB s = true then (match numP s with | none=>none | some (n,r)=>some (.num n,r)) else (match wordP s with | none=>none | some (x,r)=>some (.name x,r))
def atomP (s:Sg) : Option (Atom × Sg):=match skP [63] s with
  | some s1=>(match wordP s1 with | none=>none | some (x,r)=>some (.gap x,r))
  | none=>pleafP s
def moreP : Nat → Sg → Option (List Atom × Sg)
  | 0,_=>none
  | n + 1,s=>match skP [32] s with
    | none=>some ([],s)
    | some s1=>match atomP s1 with
      | none=>none
      | some (a,s2)=>match moreP n s2 with
        | none=>none
        | some (as,r)=>some (a :: as,r)
def atomsP (s:Sg) : Option (List Atom × Sg):=match skP [91] s with
  | none=>some ([],s)
  | some s1=>match atomP s1 with
    | none=>none
    | some (a,s2)=>match moreP (s2.length + 1) s2 with
      | none=>none
      | some (as,s3)=>match skP [93] s3 with
        | none=>none
        | some r=>some (a :: as,r)
def binP (s:Sg) : Option (Bin × Sg):=match skP (tx " + ") s with
  | some r=>some (.add,r)
  | none=>match skP (tx " - ") s with
    | some r=>some (.sub,r)
    | none=>match skP (tx " * ") s with
      | some r=>some (.mul,r)
      | none=>match skP (tx " ; ") s with
        | some r=>some (.thn,r)
        | none=>none
def twoP (R:Sg → Option (Tr × Sg)) (s:Sg) : Option (Tr × Sg):=match R s with
  | none=>none
  | some (a,s1)=>match binP s1 with
    | none=>none
    | some (o,s2)=>match R s2 with
      | none=>none
      | some (b,r)=>some (.bin o a b,r)
def ifP (R:Sg → Option (Tr × Sg)) (s:Sg) : Option (Tr × Sg):=match R s with
  | none=>none
  | some (a,s1)=>match skP (tx " then ") s1 with
    | none=>none
    | some s2=>match R s2 with
      | none=>none
      | some (b,s3)=>match skP (tx " else ") s3 with
        | none=>none
        | some s4=>match R s4 with
          | none=>none
          | some (c,r)=>some (.ite a b c,r)
def letP (R:Sg → Option (Tr × Sg)) (s:Sg) : Option (Tr × Sg):=match wordP s with
  | none=>none
  | some (x,s1)=>match skP (tx " = ") s1 with
    | none=>none
    | some s2=>match R s2 with
      | none=>none
      | some (a,s3)=>match skP (tx " in ") s3 with
        | none=>none
        | some s4=>match R s4 with
          | none=>none
          | some (b,r)=>some (.lett x a b,r)
def brackP (R:Sg → Option (Tr × Sg)) (s:Sg) : Option (Tr × Sg):=match skP (tx "ask ") s with
  | some s1=>(match wordP s1 with | none=>none | some (x,r)=>some (.ask x,r))
  | none=>match skP (tx "stop ") s with
    | some s1=>(match wordP s1 with | none=>none | some (x,r)=>some (.stop x,r))
    | none=>match skP (tx "say ") s with
      | some s1=>(match R s1 with | none=>none | some (a,r)=>some (.say a,r))
      | none=>match skP (tx "if ") s with
        | some s1=>ifP R s1
        | none=>match skP (tx "let ") s with
          | some s1=>letP R s1
          | none=>twoP R s
def shapeP : Nat → Sg → Option (Tr × Sg)
  | 0,_=>none
  | n + 1,s=>match skP [40] s with
    | some s1=>(match brackP (shapeP n) s1 with
      | none=>none
      | some (t,s2)=>match skP [41] s2 with
        | none=>none
        | some r=>some (t,r))
    | none=>match skP [63] s with
      | some s1=>(match wordP s1 with
        | none=>none
        | some (g,s2)=>match atomsP s2 with
          | none=>none
          | some (as,r)=>some (.gap g as,r))
      | none=>match pleafP s with
        | none=>none
        | some (a,r)=>some (atTr a,r)
def opn : Sg → Nat
  | []=>0
  | c :: s=>if c = 40 then opn s + 1 else if c = 41 then opn s - 1 else opn s
def NetZ (l:Sg) : Prop:=∀ s,opn s ≤ opn (l ++ s)
theorem opn_plain : ∀ {l:Sg},(∀ c ∈ l,c ≠ 40 ∧ c ≠ 41) → ∀ s,opn (l ++ s) = opn s
  | [],_,_=>rfl
  | c :: l,h,s=>by
    obtain ⟨h1,h2⟩:=h c List.mem_cons_self
    rw [List.cons_append,opn,if_neg h1,if_neg h2]
    exact opn_plain (fun x hx=>h x (List.mem_cons_of_mem _ hx)) s
theorem NetZ.plain {l:Sg} (h:∀ c ∈ l,c ≠ 40 ∧ c ≠ 41) : NetZ l:=fun s=>Nat.le_of_eq (opn_plain h s).symm
theorem NetZ.app {l m:Sg} (h:NetZ l) (h':NetZ m) : NetZ (l ++ m):=fun s=>by rw [List.append_assoc]; exact Nat.le_trans (h' s) (h _)
theorem NetZ.wrap {l:Sg} (h:NetZ l) : NetZ (40 :: (l ++ [41])):=fun s=>by
  have h1:=h (41 :: s)
  have e1 : opn (40 :: (l ++ [41]) ++ s) = opn (l ++ 41 :: s) + 1:=by
    rw [List.cons_append,opn,if_pos rfl,List.append_assoc]
    rfl
  have e2 : opn (41 :: s) = opn s - 1:=by rw [opn,if_neg (by decide),if_pos rfl]
  omega
theorem skP_some {p s r:Sg} (h:skP p s = some r) : s = p ++ r ∧ p.isPrefixOf s = true:=by
  unfold skP at h
  split at h
  · rename_i e
    cases h
    obtain ⟨q,rfl⟩:=List.isPrefixOf_iff_prefix.mp e
    exact ⟨by rw [List.drop_left' rfl],e⟩
  · cases h
theorem skP_app (p s:Sg) : skP p (p ++ s) = some s:=by
  unfold skP
  rw [if_pos (pre_app p s),List.drop_left' rfl]
theorem skP_no {p s:Sg} (h:p.isPrefixOf s = false) : skP p s = none:=by
  unfold skP
  rw [h]
  rfl
theorem tw_mem {p:Nat → Bool} {s:Sg} : ∀ c ∈ s.takeWhile p,p c = true:=fun c hc=>by
  induction s with
  | nil=>cases hc
  | cons d s ih =>
    rw [List.takeWhile_cons] at hc
    split at hc
    · rename_i e
      rcases List.mem_cons.mp hc with rfl | h
      · exact e
      · exact ih h
    · cases hc
theorem dw_head {p:Nat → Bool} {s:Sg} : ∀ c ∈ (s.dropWhile p).head?,p c = false:=fun c hc=>by
  induction s with
  | nil=>cases hc
  | cons d s ih =>
    rw [List.dropWhile_cons] at hc
    split at hc
    · exact ih hc
    · rename_i e
      cases hc
      exact Bool.eq_false_iff.mpr e
theorem word_net {s r:Sg} {x:Str} (h:wordP s = some (x,r)) : ∃ c,s = c ++ r ∧ NetZ c:=by
  unfold wordP at h
  split at h
  · cases h
    exact ⟨s.takeWhile isAbc,List.takeWhile_append_dropWhile.symm,NetZ.plain fun c hc=>abc_bal c (of_decide_eq_true (tw_mem (p:=isAbc) c hc))⟩
  · cases h
theorem num_net {s r:Sg} {n:Int} (h:numP s = some (n,r)) : ∃ c,s = c ++ r ∧ NetZ c:=by
  unfold numP at h
  split at h
  · cases h
  · split at h
    · cases h
    · cases h
      exact ⟨s.takeWhile isFig,List.takeWhile_append_dropWhile.symm,NetZ.plain fun c hc=>fig_bal c (of_decide_eq_true (tw_mem (p:=isFig) c hc))⟩
theorem pleaf_net {s r:Sg} {a:Atom} (h:pleafP s = some (a,r)) : ∃ c,s = c ++ r ∧ NetZ c:=by
  unfold pleafP at h
  split at h
  · split at h
    · cases h
    · rename_i n r' e
      cases h
      exact num_net e
  · split at h
    · cases h
    · rename_i n r' e
      cases h
      exact word_net e
theorem sk_net {p s r:Sg} (hp:∀ c ∈ p,c ≠ 40 ∧ c ≠ 41) (h:skP p s = some r) : ∃ c,s = c ++ r ∧ NetZ c:=⟨p,(skP_some h).1,NetZ.plain hp⟩
theorem net_trans {s m r:Sg} (h:∃ c,s = c ++ m ∧ NetZ c) (h':∃ c,m = c ++ r ∧ NetZ c) : ∃ c,s = c ++ r ∧ NetZ c:=by
  obtain ⟨c,rfl,n⟩:=h
  obtain ⟨d,rfl,n'⟩:=h'
  exact ⟨c ++ d,by rw [List.append_assoc],n.app n'⟩
theorem atom_net {s r:Sg} {a:Atom} (h:atomP s = some (a,r)) : ∃ c,s = c ++ r ∧ NetZ c:=by
  unfold atomP at h
  split at h
  · rename_i s1 e
    split at h
    · cases h
    · rename_i n r' e'
      cases h
      exact net_trans (sk_net (by decide) e) (word_net e')
  · exact pleaf_net h
theorem word_len {s r:Sg} {x:Str} (h:wordP s = some (x,r)) : r.length < s.length:=by
  unfold wordP at h
  split at h
  · rename_i e
    cases h
    have h1:=congrArg List.length (List.takeWhile_append_dropWhile (p:=isAbc) (l:=s))
    rw [List.length_append] at h1
    omega
  · cases h
theorem num_lenP {s r:Sg} {n:Int} (hf:figB s = true) (h:numP s = some (n,r)) : r.length < s.length:=by
  unfold numP at h
  split at h
  · cases h
  · split at h
    · cases h
    · cases h
      cases s with
      | nil=>cases hf
      | cons c l =>
        have hc : isFig c = true:=hf
        rw [List.dropWhile_cons,hc,if_pos rfl]
        have h1:=congrArg List.length (List.takeWhile_append_dropWhile (p:=isFig) (l:=l))
        rw [List.length_append] at h1
        rw [List.length_cons]
        omega
theorem pleaf_len {s r:Sg} {a:Atom} (h:pleafP s = some (a,r)) : r.length < s.length:=by
  unfold pleafP at h
  split at h
  · rename_i hf
    split at h
    · cases h
    · rename_i n r' e
      cases h
      exact num_lenP hf e
  · split at h
    · cases h
    · rename_i n r' e
      cases h
      exact word_len e
theorem atom_len {s r:Sg} {a:Atom} (h:atomP s = some (a,r)) : r.length < s.length:=by
  unfold atomP at h
  split at h
  · rename_i s1 e
    split at h
    · cases h
    · rename_i n r' e'
      cases h
      have h1:=congrArg List.length (skP_some e).1
      have h2:=word_len e'
      rw [List.length_append] at h1
      omega
  · exact pleaf_len h
theorem more_net : ∀ {n:Nat} {s r:Sg} {as:List Atom},moreP n s = some (as,r) → ∃ c,s = c ++ r ∧ NetZ c
  | 0,_,_,_,h=>by cases h
  | n + 1,s,r,as,h=>by
    rw [moreP] at h
    split at h
    · cases h
      exact ⟨[],rfl,fun s=>Nat.le_refl _⟩
    · rename_i s1 e
      split at h
      · cases h
      · rename_i a s2 e2
        split at h
        · cases h
        · rename_i bs r' e3
          cases h
          exact net_trans (net_trans (sk_net (by decide) e) (atom_net e2)) (more_net e3)
theorem atoms_net {s r:Sg} {as:List Atom} (h:atomsP s = some (as,r)) : ∃ c,s = c ++ r ∧ NetZ c:=by
  unfold atomsP at h
  split at h
  · cases h
    exact ⟨[],rfl,fun s=>Nat.le_refl _⟩
  · rename_i s1 e
    split at h
    · cases h
    · rename_i a s2 e2
      split at h
      · cases h
      · rename_i bs s3 e3
        split at h
        · cases h
        · rename_i r' e4
          cases h
          exact net_trans (net_trans (net_trans (sk_net (by decide) e) (atom_net e2)) (more_net e3)) (sk_net (by decide) e4)
theorem bin_net {s r:Sg} {o:Bin} (h:binP s = some (o,r)) : ∃ c,s = c ++ r ∧ NetZ c:=by
  unfold binP at h
  split at h
  · rename_i r' e; cases h; exact sk_net (tx_bal _ (by decide)) e
  · split at h
    · rename_i r' e; cases h; exact sk_net (tx_bal _ (by decide)) e
    · split at h
      · rename_i r' e; cases h; exact sk_net (tx_bal _ (by decide)) e
      · split at h
        · rename_i r' e; cases h; exact sk_net (tx_bal _ (by decide)) e
        · cases h
def Nets (R:Sg → Option (Tr × Sg)) : Prop:=∀ {s r:Sg} {t:Tr},R s = some (t,r) → ∃ c,s = c ++ r ∧ NetZ c
theorem two_net {R:Sg → Option (Tr × Sg)} (hR:Nets R) : Nets (twoP R):=fun {s r t} h=>by
  unfold twoP at h
  split at h
  · cases h
  · rename_i a s1 e
    split at h
    · cases h
    · rename_i o s2 e2
      split at h
      · cases h
      · rename_i b r' e3
        cases h
        exact net_trans (net_trans (hR e) (bin_net e2)) (hR e3)
theorem if_net {R:Sg → Option (Tr × Sg)} (hR:Nets R) : Nets (ifP R):=fun {s r t} h=>by
  unfold ifP at h
  split at h
  · cases h
  · rename_i a s1 e
    split at h
    · cases h
    · rename_i s2 e2
      split at h
      · cases h
      · rename_i b s3 e3
        split at h
        · cases h
        · rename_i s4 e4
          split at h
          · cases h
          · rename_i c r' e5
            cases h
            exact net_trans (net_trans (net_trans (net_trans (hR e) (sk_net (tx_bal _ (by decide)) e2)) (hR e3)) (sk_net (tx_bal _ (by decide)) e4)) (hR e5)
theorem let_net {R:Sg → Option (Tr × Sg)} (hR:Nets R) : Nets (letP R):=fun {s r t} h=>by
  unfold letP at h
  split at h
  · cases h
  · rename_i a s1 e
    split at h
    · cases h
    · rename_i s2 e2
      split at h
      · cases h
      · rename_i b s3 e3
        split at h
        · cases h
        · rename_i s4 e4
          split at h
          · cases h
          · rename_i c r' e5
            cases h
            exact net_trans (net_trans (net_trans (net_trans (word_net e) (sk_net (tx_bal _ (by decide)) e2)) (hR e3)) (sk_net (tx_bal _ (by decide)) e4)) (hR e5)
theorem brack_net {R:Sg → Option (Tr × Sg)} (hR:Nets R) : Nets (brackP R):=fun {s r t} h=>by
  unfold brackP at h
  split at h
  · rename_i s1 e
    split at h
    · cases h
    · rename_i x r' e2; cases h; exact net_trans (sk_net (tx_bal _ (by decide)) e) (word_net e2)
  · split at h
    · rename_i s1 e
      split at h
      · cases h
      · rename_i x r' e2; cases h; exact net_trans (sk_net (tx_bal _ (by decide)) e) (word_net e2)
    · split at h
      · rename_i s1 e
        split at h
        · cases h
        · rename_i x r' e2; cases h; exact net_trans (sk_net (tx_bal _ (by decide)) e) (hR e2)
      · split at h
        · rename_i s1 e; exact net_trans (sk_net (tx_bal _ (by decide)) e) (if_net hR h)
        · split at h
          · rename_i s1 e; exact net_trans (sk_net (tx_bal _ (by decide)) e) (let_net hR h)
          · exact two_net hR h
theorem shape_net : ∀ n : Nat,Nets (shapeP n)
  | 0,_,_,_,h=>by cases h
  | n + 1,s,r,t,h=>by
    rw [shapeP] at h
    split at h
    · rename_i s1 e
      split at h
      · cases h
      · rename_i t' s2 e2
        split at h
        · cases h
        · rename_i r' e3
          cases h
          obtain ⟨c,hc,nc⟩:=brack_net (shape_net n) e2
          refine ⟨40 :: (c ++ [41]),?_,nc.wrap⟩
          rw [(skP_some e).1,hc,(skP_some e3).1]
          simp
    · split at h
      · rename_i s1 e
        split at h
        · cases h
        · rename_i g s2 e2
          split at h
          · cases h
          · rename_i as r' e3
            cases h
            exact net_trans (net_trans (sk_net (by decide) e) (word_net e2)) (atoms_net e3)
      · split at h
        · cases h
        · rename_i a r' e; cases h; exact pleaf_net e
theorem tw_app {p:Nat → Bool} : ∀ {x r:Sg},(∀ c ∈ x,p c = true) → (∀ c ∈ r.head?,p c = false) → (x ++ r).takeWhile p = x ∧ (x ++ r).dropWhile p = r
  | [],[],_,_=>⟨rfl,rfl⟩
  | [],d :: r,_,h=>by
    have e:=h d rfl
    rw [List.nil_append,List.takeWhile_cons,List.dropWhile_cons,e]
    exact ⟨rfl,rfl⟩
  | c :: x,r,h,h'=>by
    obtain ⟨h1,h2⟩:=tw_app (x:=x) (r:=r) (fun d hd=>h d (List.mem_cons_of_mem _ hd)) h'
    rw [List.cons_append,List.takeWhile_cons,List.dropWhile_cons,h c List.mem_cons_self,if_pos rfl,if_pos rfl,h1,h2]
    exact ⟨rfl,rfl⟩
theorem word_comp {x:Str} {r:Sg} (h:WOk x) (hr:WEnd r) : wordP (x.cps.toList ++ r) = some (x,r):=by
  obtain ⟨e1,e2⟩:=tw_app (p:=isAbc) (x:=x.cps.toList) (r:=r) (fun c hc=>decide_eq_true (h.ab c hc)) (fun c hc=>decide_eq_false (hr c hc))
  have ex : sOf x.cps.toList = x:=(sOf_eq rfl).symm
  unfold wordP
  rw [e1,e2,ex,str_len,if_pos ⟨h.lo,h.hi,h.kp⟩]
theorem num_comp {x:Str} {n:Int} {r:Sg} (h:NOk x n) (hr:NEnd r) : numP (x.cps.toList ++ r) = some (n,r) ∧ figB (x.cps.toList ++ r) = true:=by
  obtain ⟨e1,e2⟩:=tw_app (p:=isFig) (x:=x.cps.toList) (r:=r) (fun c hc=>decide_eq_true (h.fg c hc)) (fun c hc=>decide_eq_false (hr c hc))
  have hl:=str_len x
  have h0:=h.lo
  have hd : AllDigits x.cps.toList:=fun c hc=>by
    have:=h.fg c hc
    have k : ∀ c ∈ figS.cps.toList,48 ≤ c ∧ c ≤ 57:=by decide +kernel
    exact k c this
  have hne : x.cps.toList ≠ []:=fun z=>by rw [z] at hl; simp at hl; omega
  have hv:=intText_digits hd hne (by have:=h.hi; omega)
  rw [h.rd] at hv
  have hn : n = ((digitsVal x.cps.toList : Nat) : Int):=Option.some.inj hv
  constructor
  · unfold numP
    rw [e1,e2,hl,if_neg (by have:=h.hi; omega),if_neg (fun z=>h.zr z.1 z.2),← hn]
  · obtain ⟨c,hc,e⟩:=head_in h.lo r
    unfold figB
    rw [e]
    exact decide_eq_true (h.fg c hc)
theorem fig_no_abc {x:Str} {r:Sg} (h:WOk x) : figB (x.cps.toList ++ r) = false:=by
  obtain ⟨c,hc,e⟩:=head_in h.lo r
  unfold figB
  rw [e]
  exact decide_eq_false (fig_not_abc c (h.ab c hc))
theorem q_no {x:Str} {r:Sg} (h:∀ c ∈ x.cps.toList,c ∈ abcS.cps.toList ∨ c ∈ figS.cps.toList) (h1:1 ≤ x.length) : skP [63] (x.cps.toList ++ r) = none ∧ skP [40] (x.cps.toList ++ r) = none:=by
  obtain ⟨c,hc,e⟩:=head_in h1 r
  have k : 63 ∉ abcS.cps.toList ∧ 63 ∉ figS.cps.toList ∧ 40 ∉ abcS.cps.toList ∧ 40 ∉ figS.cps.toList:=by decide +kernel
  constructor
  · refine skP_no ?_
    rw [one_pre,e]
    refine decide_eq_false fun z=>?_
    cases z
    exact (h 63 hc).elim k.1 k.2.1
  · refine skP_no ?_
    rw [one_pre,e]
    refine decide_eq_false fun z=>?_
    cases z
    exact (h 40 hc).elim k.2.2.1 k.2.2.2
theorem atom_comp {a:Atom} {r:Sg} (h:AOk a) (hr:LEnd r) : atomP (txA a ++ r) = some (a,r):=by
  cases a with
  | name x =>
    have h' : WOk x:=h
    show atomP (x.cps.toList ++ r) = _
    unfold atomP pleafP
    rw [(q_no (fun c hc=>.inl (h'.ab c hc)) h'.lo).1,fig_no_abc h',word_comp h' hr.1]
    rfl
  | num n =>
    have h' : NOk (numT n) n:=h
    show atomP ((numT n).cps.toList ++ r) = _
    unfold atomP pleafP
    rw [(q_no (fun c hc=>.inr (h'.fg c hc)) h'.lo).1,(num_comp h' hr.2).2,(num_comp h' hr.2).1]
    rfl
  | gap g =>
    have h' : WOk g:=h
    show atomP ([63] ++ (g.cps.toList ++ r)) = _
    unfold atomP
    rw [skP_app]
    dsimp only
    rw [word_comp h' hr.1]
theorem more_comp : ∀ {as:List Atom} {n:Nat} {r:Sg},(∀ a ∈ as,AOk a) → as.length < n → moreP n (moreA as ++ 93 :: r) = some (as,93 :: r)
  | [],n + 1,r,_,_=>by
    show moreP (n + 1) (93 :: r) = _
    rw [moreP,skP_no (by rw [one_pre]; simp)]
  | a :: as,n + 1,r,h,hn=>by
    have e : moreA (a :: as) ++ 93 :: r = [32] ++ (txA a ++ (moreA as ++ 93 :: r)):=by
      show (32 :: txA a ++ moreA as) ++ 93 :: r = _
      simp
    rw [e,moreP,skP_app]
    dsimp only
    rw [atom_comp (h a List.mem_cons_self) (more_end as r)]
    dsimp only
    rw [more_comp (fun x hx=>h x (List.mem_cons_of_mem _ hx)) (by simpa using hn)]
theorem moreA_len : ∀ as : List Atom,as.length ≤ (moreA as).length
  | []=>Nat.le_refl _
  | a :: as=>by
    have:=moreA_len as
    show as.length + 1 ≤ (32 :: txA a ++ moreA as).length
    rw [List.length_append,List.length_cons]
    omega
theorem atoms_comp {as:List Atom} {r:Sg} (h:∀ a ∈ as,AOk a) (hr:∀ c ∈ r.head?,c ≠ 91) : atomsP (txAs as ++ r) = some (as,r):=by
  cases as with
  | nil =>
    show atomsP r = _
    unfold atomsP
    rw [skP_no]
    rw [one_pre]
    exact decide_eq_false fun z=>hr 91 z rfl
  | cons a as =>
    have e : txAs (a :: as) ++ r = [91] ++ (txA a ++ (moreA as ++ 93 :: r)):=by simp [txAs]
    unfold atomsP
    rw [e,skP_app]
    dsimp only
    rw [atom_comp (h a List.mem_cons_self) (more_end as r)]
    dsimp only
    rw [more_comp (fun x hx=>h x (List.mem_cons_of_mem _ hx)) (by have:=moreA_len as; rw [List.length_append]; omega)]
    dsimp only
    rw [show (93 :: r : Sg) = [93] ++ r from rfl,skP_app]
def EndOk (r:Sg) : Prop:=LEnd r ∧ ∀ c ∈ r.head?,c ≠ 91
theorem end_cons {c:Nat} {r:Sg} (h:c ∉ abcS.cps.toList ∧ c ∉ figS.cps.toList ∧ c ≠ 91) : EndOk (c :: r):=⟨⟨fun d hd=>by cases hd; exact h.1,fun d hd=>by cases hd; exact h.2.1⟩,fun d hd=>by cases hd; exact h.2.2⟩
theorem end_nil : EndOk []:=⟨⟨(fun d hd=>by cases hd),(fun d hd=>by cases hd)⟩,(fun d hd=>by cases hd)⟩
theorem end_tx {s:String} {l:Sg} (h:(tx s).head? = some 32) : EndOk (tx s ++ l):=by
  cases e : tx s with
  | nil=>rw [e] at h; cases h
  | cons c m =>
    rw [e] at h
    cases h
    exact end_cons (by decide +kernel)
theorem end_41 {l:Sg} : EndOk (41 :: l):=end_cons (by decide +kernel)
theorem no_open_end {a:Tr} (ok:TOk a) {rest:Sg} (hr:WEnd rest) {s:String} (hs:s ∈ opens) : (tx (s ++ " ")).isPrefixOf (txT a ++ rest) = false:=by
  obtain ⟨e1,e2,e3,e4,e5⟩:=tx_open
  cases a with
  | num n =>
    obtain ⟨c,hc,e⟩:=head_in (NOk.lo ok) rest
    exact no_open_head e (fig_abc c (NOk.fg ok c hc)) hs
  | name x=>exact no_open_word ok hr hs
  | gap g as=>exact no_open_head (d:=63) rfl marks_no.1 hs
  | ask x=>exact no_open_head (d:=40) (by simp [txT,e1]) marks_no.2 hs
  | stop x=>exact no_open_head (d:=40) (by simp [txT,e2]) marks_no.2 hs
  | say a=>exact no_open_head (d:=40) (by simp [txT,e3]) marks_no.2 hs
  | bin o a b=>exact no_open_head (d:=40) rfl marks_no.2 hs
  | ite a b c=>exact no_open_head (d:=40) (by simp [txT,e4]) marks_no.2 hs
  | lett x a b=>exact no_open_head (d:=40) (by simp [txT,e5]) marks_no.2 hs
theorem brack_two {R:Sg → Option (Tr × Sg)} {s:Sg} (h:∀ k ∈ opens,(tx (k ++ " ")).isPrefixOf s = false) : brackP R s = twoP R s:=by
  unfold brackP
  rw [show tx "ask " = tx ("ask" ++ " ") from rfl,show tx "stop " = tx ("stop" ++ " ") from rfl,show tx "say " = tx ("say" ++ " ") from rfl,show tx "if " = tx ("if" ++ " ") from rfl,show tx "let " = tx ("let" ++ " ") from rfl,
    skP_no (h "ask" (by decide)),skP_no (h "stop" (by decide)),skP_no (h "say" (by decide)),skP_no (h "if" (by decide)),skP_no (h "let" (by decide))]
theorem bin_comp (o:Bin) (r:Sg) : binP (tx (bwT o) ++ r) = some (o,r):=by
  have miss : ∀ p : Bin,p ≠ o → skP (tx (bwT p)) (tx (bwT o) ++ r) = none:=fun p h=>skP_no (bw_miss h r)
  unfold binP
  cases o with
  | add=>rw [show tx (bwT .add) = tx " + " from rfl,skP_app]
  | sub=>rw [show skP (tx " + ") (tx (bwT .sub) ++ r) = none from miss .add (by intro z; cases z),show tx (bwT .sub) = tx " - " from rfl,skP_app]
  | mul=>rw [show skP (tx " + ") (tx (bwT .mul) ++ r) = none from miss .add (by intro z; cases z),show skP (tx " - ") (tx (bwT .mul) ++ r) = none from miss .sub (by intro z; cases z),show tx (bwT .mul) = tx " * " from rfl,skP_app]
  | thn=>rw [show skP (tx " + ") (tx (bwT .thn) ++ r) = none from miss .add (by intro z; cases z),show skP (tx " - ") (tx (bwT .thn) ++ r) = none from miss .sub (by intro z; cases z),show skP (tx " * ") (tx (bwT .thn) ++ r) = none from miss .mul (by intro z; cases z),show tx (bwT .thn) = tx " ; " from rfl,skP_app]
theorem kw_ot {k k':String} (s s':String) (e:k = s ++ " ") (e':k' = s' ++ " ") (hs:s ∈ opens) (hs':s' ∈ opens) (n:s' ≠ s) (m:Sg) : skP (tx k) (tx k' ++ m) = none:=by
  subst e e'
  exact skP_no (by rw [kw_pre hs hs' m]; exact decide_eq_false n)
theorem shape_compB : ∀ {n:Nat} {t:Tr} {r:Sg},TOk t → dpT t < n → (brT t = none → EndOk r) → shapeP n (txT t ++ r) = some (t,r)
  | 0,t,r,_,h,_=>absurd h (Nat.not_lt_zero _)
  | n + 1,t,r,ok,hn,hr0=>by
    have brk : ∀ {l:Sg},brT t = some l → brackP (shapeP n) (l ++ 41 :: r) = some (t,41 :: r) → shapeP (n + 1) (txT t ++ r) = some (t,r):=fun {l} hb h=>by
      have e : txT t ++ r = [40] ++ (l ++ 41 :: r):=by rw [br_txt hb]; simp
      rw [e,shapeP,skP_app]
      dsimp only
      rw [h]
      dsimp only
      rw [show (41 :: r : Sg) = [41] ++ r from rfl,skP_app]
    cases t with
    | num m =>
      have hr:=hr0 rfl
      have ok' : NOk (numT m) m:=ok
      show shapeP (n + 1) ((numT m).cps.toList ++ r) = _
      rw [shapeP,(q_no (fun c hc=>.inr (ok'.fg c hc)) ok'.lo).2,(q_no (fun c hc=>.inr (ok'.fg c hc)) ok'.lo).1]
      unfold pleafP
      rw [(num_comp ok' hr.1.2).2,(num_comp ok' hr.1.2).1]
      rfl
    | name x =>
      have hr:=hr0 rfl
      have ok' : WOk x:=ok
      show shapeP (n + 1) (x.cps.toList ++ r) = _
      rw [shapeP,(q_no (fun c hc=>.inl (ok'.ab c hc)) ok'.lo).2,(q_no (fun c hc=>.inl (ok'.ab c hc)) ok'.lo).1]
      unfold pleafP
      rw [fig_no_abc ok',word_comp ok' hr.1.1]
      rfl
    | gap g as =>
      have hr:=hr0 rfl
      obtain ⟨kg,kas,_⟩:=ok
      have e : txT (.gap g as) ++ r = [63] ++ (g.cps.toList ++ (txAs as ++ r)):=by simp [txT]
      have we : WEnd (txAs as ++ r):=by
        cases as with
        | nil=>exact hr.1.1
        | cons a as =>
          intro c hc
          cases hc
          exact (show 91 ∉ abcS.cps.toList by decide +kernel)
      rw [e,shapeP,skP_no (by rw [one_pre]; simp),skP_app]
      dsimp only
      rw [word_comp kg we]
      dsimp only
      rw [atoms_comp kas hr.2]
    | ask x =>
      refine brk rfl ?_
      unfold brackP
      rw [List.append_assoc,skP_app]
      dsimp only
      rw [word_comp ok end_41.1.1]
    | stop x =>
      refine brk rfl ?_
      unfold brackP
      rw [List.append_assoc,kw_ot (k := "ask ") (k' := "stop ") "ask" "stop" rfl rfl (by decide) (by decide) (by decide),skP_app]
      dsimp only
      rw [word_comp ok end_41.1.1]
    | say a =>
      refine brk rfl ?_
      have hn' : dpT a + 1 < n + 1:=hn
      unfold brackP
      rw [List.append_assoc,kw_ot (k := "ask ") (k' := "say ") "ask" "say" rfl rfl (by decide) (by decide) (by decide),kw_ot (k := "stop ") (k' := "say ") "stop" "say" rfl rfl (by decide) (by decide) (by decide),skP_app]
      dsimp only
      rw [shape_compB (n:=n) (t:=a) ok (by omega) (fun _=>end_41)]
    | ite a b c =>
      refine brk rfl ?_
      have hn' : max (dpT a) (max (dpT b) (dpT c)) + 1 < n + 1:=hn
      have e : tx "if " ++ (txT a ++ (tx " then " ++ (txT b ++ (tx " else " ++ txT c)))) ++ 41 :: r = tx "if " ++ (txT a ++ (tx " then " ++ (txT b ++ (tx " else " ++ (txT c ++ 41 :: r))))):=by simp
      unfold brackP
      rw [e,kw_ot (k := "ask ") (k' := "if ") "ask" "if" rfl rfl (by decide) (by decide) (by decide),kw_ot (k := "stop ") (k' := "if ") "stop" "if" rfl rfl (by decide) (by decide) (by decide),kw_ot (k := "say ") (k' := "if ") "say" "if" rfl rfl (by decide) (by decide) (by decide),skP_app]
      dsimp only
      unfold ifP
      rw [shape_compB (n:=n) (t:=a) ok.1 (by omega) (fun _=>(end_tx (by decide +kernel)))]
      dsimp only
      rw [skP_app]
      dsimp only
      rw [shape_compB (n:=n) (t:=b) ok.2.1 (by omega) (fun _=>(end_tx (by decide +kernel)))]
      dsimp only
      rw [skP_app]
      dsimp only
      rw [shape_compB (n:=n) (t:=c) ok.2.2 (by omega) (fun _=>end_41)]
    | lett x a b =>
      refine brk rfl ?_
      have hn' : max (dpT a) (dpT b) + 1 < n + 1:=hn
      have e : tx "let " ++ (x.cps.toList ++ (tx " = " ++ (txT a ++ (tx " in " ++ txT b)))) ++ 41 :: r = tx "let " ++ (x.cps.toList ++ (tx " = " ++ (txT a ++ (tx " in " ++ (txT b ++ 41 :: r))))):=by simp
      unfold brackP
      rw [e,kw_ot (k := "ask ") (k' := "let ") "ask" "let" rfl rfl (by decide) (by decide) (by decide),kw_ot (k := "stop ") (k' := "let ") "stop" "let" rfl rfl (by decide) (by decide) (by decide),kw_ot (k := "say ") (k' := "let ") "say" "let" rfl rfl (by decide) (by decide) (by decide),kw_ot (k := "if ") (k' := "let ") "if" "let" rfl rfl (by decide) (by decide) (by decide),skP_app]
      dsimp only
      unfold letP
      rw [word_comp ok.1 (end_tx (s := " = ") (by decide +kernel)).1.1]
      dsimp only
      rw [skP_app]
      dsimp only
      rw [shape_compB (n:=n) (t:=a) ok.2.1 (by omega) (fun _=>(end_tx (by decide +kernel)))]
      dsimp only
      rw [skP_app]
      dsimp only
      rw [shape_compB (n:=n) (t:=b) ok.2.2 (by omega) (fun _=>end_41)]
    | bin o a b =>
      refine brk rfl ?_
      have hn' : max (dpT a) (dpT b) + 1 < n + 1:=hn
      have e : txT a ++ (tx (bwT o) ++ txT b) ++ 41 :: r = txT a ++ (tx (bwT o) ++ (txT b ++ 41 :: r)):=by simp
      have eo : EndOk (tx (bwT o) ++ (txT b ++ 41 :: r)):=end_tx (by cases o <;> decide +kernel)
      rw [e,brack_two fun k hk=>no_open_end ok.1 eo.1.1 hk]
      unfold twoP
      rw [shape_compB (n:=n) (t:=a) ok.1 (by omega) (fun _=>eo)]
      dsimp only
      rw [bin_comp]
      dsimp only
      rw [shape_compB (n:=n) (t:=b) ok.2 (by omega) (fun _=>end_41)]
theorem shape_comp {n:Nat} {t:Tr} {r:Sg} (ok:TOk t) (hn:dpT t < n) (hr:EndOk r) : shapeP n (txT t ++ r) = some (t,r):=shape_compB ok hn fun _=>hr
end L2
namespace L2
open PySem PySem.NumText
structure FnMF (P:Program) (w:World) (K:PySem.W.Frag) (mg:Str → Option Value) (base:Heap) (k:Nat) (C:Addr) (m:Str) (f:Addr) (fd:FuncData) (ps:List Str) (sp:Sp) : Prop where
  ok : FnOk P w K mg base (CXF P w) k f fd ps sp
  bd : Binds K fd ps []
  mt : Meth K C m f
theorem FnMF.up {P:Program} {w:World} {K:PySem.W.Frag} {mg:Str → Option Value} {base:Heap} {j k:Nat} {C:Addr} {m:Str} {f:Addr} {fd:FuncData} {ps:List Str} {sp:Sp} (F:FnMF P w K mg base j C m f fd ps sp) (h:j ≤ k) : FnMF P w K mg base k C m f fd ps sp:=⟨F.ok.mono h,F.bd,F.mt⟩
def OutP {α:Type} (C cN:Addr) (H:Hp) (r:Addr) (T:Str) (o:Option (α × Sg)) (Rp:Hp → α → V → Prop) (Q:VK) (E:XK) : Prop:=match o with
  | none=>∀ H',But r H H' → E (.ref cN) none H'
  | some (x,s)=>∀ (v:V) (H':Hp) (j:Nat),But r H H' → RdAt C H' r T j → T.cps.toList.drop j = s → Rp H' x v → Q v H'
theorem OutP.bad {α:Type} {C cN:Addr} {H:Hp} {r:Addr} {T:Str} {o:Option (α × Sg)} {Rp:Hp → α → V → Prop} {Q:VK} {E:XK} (h:OutP C cN H r T o Rp Q E) (e:o = none) : ∀ H',But r H H' → E (.ref cN) none H':=by
  subst e
  exact h
theorem OutP.good {α:Type} {C cN:Addr} {H:Hp} {r:Addr} {T:Str} {o:Option (α × Sg)} {Rp:Hp → α → V → Prop} {Q:VK} {E:XK} (h:OutP C cN H r T o Rp Q E) {x:α} {s:Sg} (e:o = some (x,s)) : ∀ (v:V) (H':Hp) (j:Nat),But r H H' → RdAt C H' r T j → T.cps.toList.drop j = s → Rp H' x v → Q v H':=by
  subst e
  exact h
theorem OutP.mk {α:Type} {C cN:Addr} {H:Hp} {r:Addr} {T:Str} {o:Option (α × Sg)} {Rp:Hp → α → V → Prop} {Q:VK} {E:XK} (hb:o = none → ∀ H',But r H H' → E (.ref cN) none H') (hg:∀ x s,o = some (x,s) → ∀ (v:V) (H':Hp) (j:Nat),But r H H' → RdAt C H' r T j → T.cps.toList.drop j = s → Rp H' x v → Q v H') : OutP C cN H r T o Rp Q E:=by
  cases o with
  | none=>exact hb rfl
  | some p=>obtain ⟨x,s⟩:=p; exact hg x s rfl
def RpS (_:Hp) (x:Str) (v:V) : Prop:=v = .str x
def RpI (_:Hp) (n:Int) (v:V) : Prop:=v = .int n
end L2
namespace K08
open PySem PySem.Spec L2 PyProof.Rows PySem.NumText
abbrev s_Reader_skip : Stmt:=inClass (top 23) 3
theorem sc_Reader_skip : FnScope ["self", "piece"] ["self", "piece"] (defScope s_Reader_skip):=⟨rfl,rfl,rfl,by decide +kernel,rfl,by decide +kernel,by decide +kernel⟩
abbrev s_Reader_skip_end : Stmt:=inClass (top 23) 5
theorem sc_Reader_skip_end : FnScope ["self"] ["self"] (defScope s_Reader_skip_end):=⟨rfl,rfl,rfl,by decide +kernel,rfl,by decide +kernel,by decide +kernel⟩
abbrev s_word_from : Stmt:=top 26
theorem sc_word_from : FnScope ["reader", "word"] ["reader"] (defScope s_word_from):=⟨rfl,rfl,rfl,by decide +kernel,rfl,by decide +kernel,by decide +kernel⟩
abbrev s_number_from : Stmt:=top 27
theorem sc_number_from : FnScope ["reader", "figures"] ["reader"] (defScope s_number_from):=⟨rfl,rfl,rfl,by decide +kernel,rfl,by decide +kernel,by decide +kernel⟩
section
variable {P:Program} {w:World} {K:PySem.W.Frag} {mg:Str → Option Value} {base:Heap}
def sp_skipF (C cN:Addr) : Sp:=fun vs H Q E=>∃ (r:Addr) (T p:Str) (i:Nat),vs = [.ref r,.str p] ∧ RdAt C H r T i ∧ (PySem.reprText p).length ≤ 1000 ∧
  (skP p.cps.toList (T.cps.toList.drop i) = none → E (.ref cN) none H) ∧ ∀ s,skP p.cps.toList (T.cps.toList.drop i) = some s → ∀ (H':Hp) (j:Nat),But r H H' → RdAt C H' r T j → T.cps.toList.drop j = s → Q .non H'
theorem okF_skip {k:Nat} {f C cN g1:Addr} {fd gd1:FuncData} (F:Fun K "skip" "Reader.skip" s_Reader_skip f fd) (T_Reader:TxtR K mg C) (m_NoText:mg "NoText" = some (.ref cN)) (x_NoText:PySem.W.excIn K cN bmVE "ValueError.__new__" = true) (G_Reader_skipped:FnM P w K mg base k C "skipped" g1 gd1 ["self", "piece"] (sp_skipped C)) :
    FnOk P w K mg base (CXF P w) (k + 1) f fd ["self", "piece"] (sp_skipF C cN):=by
  refine F.okF sc_Reader_skip (fun vs H Q E h=>?_) (fun cdv A outer s H vs Q E hr h=>?_)
  · obtain ⟨r,T,p,i,rfl,_⟩:=h
    rfl
  obtain ⟨r,T,p,i,rfl,rd,hp,qn,qs⟩:=h
  obtain ⟨⟨dx,hr0⟩,hi,hf⟩:=id rd
  refine ⟨_,(pss_one (ps_if (pt_not (pt_val (pe_meth (pv 0) T_Reader.cl G_Reader_skipped.mt G_Reader_skipped.ok hr G_Reader_skipped.bd .nil pass0 (pa_cons (pv 1) pa_nil)))) (pss_one (ps_raise (by rfl) m_NoText x_NoText (pa_cons (pe_fRep (pv 1)) pa_nil))) pss_nil)),?_⟩
  refine ⟨_,rfl,r,dx,_,rfl,hr0,rfl,_,rfl,r,T,p,i,rfl,rd,fun hb=>?_,fun hb H' g rd'=>?_⟩
  · refine ⟨_,rfl,iteT ⟨_,rfl,p,rfl,line_of (by rw [show (Str.ofString " is missing").length = 11 by decide +kernel]; omega),(by show 1 ≤ sizeLine; decide),qn (skP_no hb)⟩⟩
  · refine ⟨_,rfl,iteF ?_⟩
    have e : skP p.cps.toList (T.cps.toList.drop i) = some ((T.cps.toList.drop i).drop p.cps.toList.length):=if_pos hb
    refine qs _ e H' _ g rd' ?_
    rw [List.drop_drop,str_len]
def sp_skip_endF (C cN:Addr) : Sp:=fun vs H Q E=>∃ (r:Addr) (T:Str) (i:Nat),vs = [.ref r] ∧ RdAt C H r T i ∧ (T.cps.toList.drop i = [] → Q .non H) ∧ (T.cps.toList.drop i ≠ [] → E (.ref cN) none H)
theorem okF_skip_end {k:Nat} {f C cN:Addr} {fd:FuncData} (F:Fun K "skip_end" "Reader.skip_end" s_Reader_skip_end f fd) (T_Reader:TxtR K mg C) (z_len:mg "len" = none) (m_NoText:mg "NoText" = some (.ref cN)) (x_NoText:PySem.W.excIn K cN bmVE "ValueError.__new__" = true) : FnOk P w K mg base (CXF P w) (k + 1) f fd ["self"] (sp_skip_endF C cN):=by
  refine F.okF sc_Reader_skip_end (fun vs H Q E h=>?_) (fun cdv A outer s H vs Q E hr h=>?_)
  · obtain ⟨r,T,i,rfl,_⟩:=h
    rfl
  obtain ⟨r,T,i,rfl,⟨⟨dx,hr0⟩,hi,hf⟩,q0,q1⟩:=h
  refine ⟨_,(pss_one (ps_if (pt_cmpR op_lt (pe_fld (pv 0) rfl) (pe_callB call_len_str (by rfl) z_len PySem.boot_len (pa_cons (pe_fld (pv 0) rfl) pa_nil)) (nomark _)) (pss_one (ps_raise (by rfl) m_NoText x_NoText (pa_cons pe_str pa_nil))) pss_nil)),?_⟩
  have hl:=str_len T
  refine ⟨_,rfl,r,C,dx,_,.int (i:Int),rfl,hr0,T_Reader.cl,T_Reader.nA,rf_at T _,_,rfl,r,C,dx,_,.str T,rfl,hr0,T_Reader.cl,T_Reader.nT,rf_text T _,T,rfl,Nat.le_of_lt (small1000' (by omega)),_,_,rfl,rfl,_,rfl,ite2 (fun c=>?_) (fun c=>?_)⟩
  · refine ⟨(by show 1 ≤ sizeLine; decide),q1 fun z=>?_⟩
    have h1:=congrArg List.length z
    rw [List.length_drop,hl,List.length_nil] at h1
    have h2 : ((i:Int) < (T.length : Int)):=of_decide_eq_true c
    omega
  · refine q0 (List.drop_of_length_le ?_)
    have h2 : ¬ ((i:Int) < (T.length : Int)):=fun z=>c (decide_eq_true z)
    rw [hl]
    omega
def sp_wordF (C cN:Addr) : Sp:=fun vs H Q E=>∃ (r:Addr) (T:Str) (i:Nat),vs = [.ref r] ∧ RdAt C H r T i ∧ OutP C cN H r T (wordP (T.cps.toList.drop i)) RpS Q E
theorem abc_small : ∀ c ∈ abcS.cps.toList,c < 16 ^ 8:=by decide +kernel
theorem okF_word {k:Nat} {f C cN g1 lv:Addr} {fd gd1:FuncData} {tk tk2:Tok} (F:Fun K "word_from" "word_from" s_word_from f fd) (T_Reader:TxtR K mg C) (z_len:mg "len" = none) (m_LETTERS:mg "LETTERS" = some (.str abcS tk)) (m_MOST_LETTERS:mg "MOST_LETTERS" = some (.int 8 tk2)) (m_KEPT_WORDS:mg "KEPT_WORDS" = some (.ref lv)) (hK:KeptT K lv)
    (m_NoText:mg "NoText" = some (.ref cN)) (x_NoText:PySem.W.excIn K cN bmVE "ValueError.__new__" = true) (G_Reader_run_of:FnM P w K mg base k C "run_of" g1 gd1 ["self", "signs"] (sp_run C)) : FnOk P w K mg base (CXF P w) (k + 1) f fd ["reader"] (sp_wordF C cN):=by
  refine F.okF sc_word_from (fun vs H Q E h=>?_) (fun cdv A outer s H vs Q E hr h=>?_)
  · obtain ⟨r,T,i,rfl,_⟩:=h
    rfl
  obtain ⟨r,T,i,rfl,rd,q⟩:=h
  obtain ⟨⟨dx,hr0⟩,hi,hf⟩:=id rd
  refine ⟨_,(pss_cons (ps_set (i:=1) sc_word_from.nd rfl (Or.inl rfl) (pe_meth (pv 0) T_Reader.cl G_Reader_run_of.mt G_Reader_run_of.ok hr G_Reader_run_of.bd .nil pass0 (pa_cons (pe_glob (v:=.str abcS) (by rfl) m_LETTERS ⟨_,rfl⟩) pa_nil)))
    (pss_cons (ps_if (pw_or (pt_not (pt_chain op_le op_le pe_int (pe_callB call_len_str (by rfl) z_len PySem.boot_len (pa_cons (pv 1) pa_nil)) (pe_glob (v:=.int 8) (by rfl) m_MOST_LETTERS ⟨_,rfl⟩))) (pw_or1 (pt_cmpR (r:=rIn K false) op_in_seq (pv 1) (pe_glob (v:=.ref _) (by rfl) m_KEPT_WORDS (by rfl)) rfl))).pt (pss_one (ps_raise (by rfl) m_NoText x_NoText (pa_cons (pe_fRep (pv 1)) pa_nil))) pss_nil)
    (pss_one (ps_ret (pv 1))))),?_⟩
  have hT:=str_len T
  obtain ⟨x,hx⟩ : ∃ x,(T.cps.toList.drop i).takeWhile isAbc = x:=⟨_,rfl⟩
  have hd : T.cps.toList.drop i = x ++ (T.cps.toList.drop i).dropWhile isAbc:=by rw [← hx]; exact List.takeWhile_append_dropWhile.symm
  have hab : ∀ c ∈ x,c ∈ abcS.cps.toList:=fun c hc=>of_decide_eq_true (tw_mem (p:=isAbc) c (hx ▸ hc))
  have hlx : x.length ≤ 4000:=by
    have:=congrArg List.length hd
    rw [List.length_drop,List.length_append] at this
    omega
  have lx : (sOf x).length = x.length:=sOf_len x
  have rp:=PySem.StrLaws.reprText_len (sOf x) (fun c hc=>abc_small c (hab c (by rw [sOf_list] at hc; exact hc)))
  refine ⟨_,rfl,r,dx,_,rfl,hr0,rfl,r,T,abcS,i,x,_,rfl,rd,hd,hab,(fun c hc=>of_decide_eq_false (dw_head (p:=isAbc) c hc)),fun H1 g1 rd1=>?_⟩
  have bad : ¬ (1 ≤ x.length ∧ x.length ≤ 8 ∧ sOf x ∉ kept11) → E (.ref cN) none H1:=fun z=>q.bad (by unfold wordP; rw [hx]; exact if_neg z) H1 g1
  have rs : ∀ (Z:Prop),Z → (PySem.reprText (sOf x)).length + (Str.ofString " is no word").length ≤ sizeLine ∧ Z:=fun Z z=>⟨line_of (by rw [show (Str.ofString " is no word").length = 11 by decide +kernel]; omega),z⟩
  have d1 : 1 ≤ sizeLine:=by decide
  have raise_ : ¬ (1 ≤ x.length ∧ x.length ≤ 8 ∧ sOf x ∉ kept11) → _:=fun z=>(⟨_,rfl,sOf x,rfl,(rs _ trivial).1,d1,bad z⟩ : ∃ v,[some (V.ref r),some (V.str (sOf x))][1]? = some (some v) ∧ ∃ y : Str,v = .str y ∧ (PySem.reprText y).length + (Str.ofString " is no word").length ≤ sizeLine ∧ 1 ≤ sizeLine ∧ E (.ref cN) none H1)
  refine ⟨_,rfl,sOf x,rfl,line_of (by omega),_,_,rfl,rfl,_,rfl,?_⟩
  by_cases k1 : 1 ≤ x.length
  · rw [decide_eq_true (show (1:Int) ≤ ((sOf x).length : Int) by omega)]
    refine iteT ⟨_,_,rfl,rfl,_,rfl,?_⟩
    by_cases k2 : x.length ≤ 8
    · rw [decide_eq_true (show ((sOf x).length : Int) ≤ 8 by omega)]
      refine iteF ⟨_,rfl,lv,kept11.map V.str,rfl,.inr (.inr hK),rfl,rfl,_,rfl,?_⟩
      show if inV (.str (sOf x)) (kept11.map V.str) = true then _ else _
      by_cases k3 : sOf x ∈ kept11
      · rw [show inV (.str (sOf x)) (kept11.map V.str) = true by unfold inV; exact List.any_eq_true.mpr ⟨.str (sOf x),List.mem_map_of_mem k3,by rw [eqV_str]⟩]
        exact iteT (raise_ fun z=>z.2.2 k3)
      · rw [in_kept k3]
        refine iteF ⟨_,rfl,q.good (x:=sOf x) (s:=(T.cps.toList.drop i).dropWhile isAbc) (by unfold wordP; rw [hx]; exact if_pos ⟨k1,k2,k3⟩) _ H1 _ g1 rd1 (drop_more hd) rfl⟩
    · rw [decide_eq_false (show ¬ ((sOf x).length : Int) ≤ 8 by omega)]
      exact iteT (raise_ fun z=>k2 z.2.1)
  · rw [decide_eq_false (show ¬ (1:Int) ≤ ((sOf x).length : Int) by omega)]
    exact iteF ⟨_,rfl,iteT (raise_ fun z=>k1 z.1)⟩
def sp_numberF (C cN:Addr) : Sp:=fun vs H Q E=>∃ (r:Addr) (T:Str) (i:Nat),vs = [.ref r] ∧ RdAt C H r T i ∧ figB (T.cps.toList.drop i) = true ∧ OutP C cN H r T (numP (T.cps.toList.drop i)) RpI Q E
theorem okF_number {k:Nat} {f C cN g1:Addr} {fd gd1:FuncData} {tk tk2:Tok} (F:Fun K "number_from" "number_from" s_number_from f fd) (T_Reader:TxtR K mg C) (z_len:mg "len" = none) (z_int:mg "int" = none) (m_FIGURES:mg "FIGURES" = some (.str figS tk)) (m_MOST_FIGURES:mg "MOST_FIGURES" = some (.int 30 tk2))
    (m_NoText:mg "NoText" = some (.ref cN)) (x_NoText:PySem.W.excIn K cN bmVE "ValueError.__new__" = true) (G_Reader_run_of:FnM P w K mg base k C "run_of" g1 gd1 ["self", "signs"] (sp_run C)) : FnOk P w K mg base (CXF P w) (k + 1) f fd ["reader"] (sp_numberF C cN):=by
  refine F.okF sc_number_from (fun vs H Q E h=>?_) (fun cdv A outer s H vs Q E hr h=>?_)
  · obtain ⟨r,T,i,rfl,_⟩:=h
    rfl
  obtain ⟨r,T,i,rfl,rd,hfig,q⟩:=h
  obtain ⟨⟨dx,hr0⟩,hi,hf⟩:=id rd
  refine ⟨_,(pss_cons (ps_set (i:=1) sc_number_from.nd rfl (Or.inl rfl) (pe_meth (pv 0) T_Reader.cl G_Reader_run_of.mt G_Reader_run_of.ok hr G_Reader_run_of.bd .nil pass0 (pa_cons (pe_glob (v:=.str figS) (by rfl) m_FIGURES ⟨_,rfl⟩) pa_nil)))
    (pss_cons (ps_if (pt_cmpR op_gt (pe_callB call_len_str (by rfl) z_len PySem.boot_len (pa_cons (pv 1) pa_nil)) (pe_glob (v:=.int 30) (by rfl) m_MOST_FIGURES ⟨_,rfl⟩) (nomark _)) (pss_one (ps_raise (by rfl) m_NoText x_NoText (pa_cons pe_str pa_nil))) pss_nil)
    (pss_cons (ps_if (pw_and (pt_cmpR op_gt (pe_callB call_len_str (by rfl) z_len PySem.boot_len (pa_cons (pv 1) pa_nil)) pe_int (nomark _)) (pw_and1 (pt_cmpR op_eq (pe_ix ix_str (pv 1) pe_int (fun _ _=>rfl)) pe_str (nomark _)))).pt (pss_one (ps_raise (by rfl) m_NoText x_NoText (pa_cons pe_str pa_nil))) pss_nil)
    (pss_one (ps_ret (pe_callTy call_intS (by rfl) z_int PyProof.Rows.boot_int (pa_cons (pv 1) pa_nil))))))),?_⟩
  have hT:=str_len T
  obtain ⟨x,hx⟩ : ∃ x,(T.cps.toList.drop i).takeWhile isFig = x:=⟨_,rfl⟩
  have hd : T.cps.toList.drop i = x ++ (T.cps.toList.drop i).dropWhile isFig:=by rw [← hx]; exact List.takeWhile_append_dropWhile.symm
  have hab : ∀ c ∈ x,c ∈ figS.cps.toList:=fun c hc=>of_decide_eq_true (tw_mem (p:=isFig) c (hx ▸ hc))
  have hlx : x.length ≤ 4000:=by
    have:=congrArg List.length hd
    rw [List.length_drop,List.length_append] at this
    omega
  have lx : (sOf x).length = x.length:=sOf_len x
  have hne : x ≠ []:=fun z=>by
    unfold figB at hfig
    cases hs : T.cps.toList.drop i with
    | nil=>rw [hs] at hfig; cases hfig
    | cons c l =>
      rw [hs] at hfig hx
      have hfig' : isFig c = true:=hfig
      rw [List.takeWhile_cons,hfig',if_pos rfl,z] at hx
      cases hx
  obtain ⟨ch,xr,hxc⟩ : ∃ ch xr,x = ch :: xr:=by
    cases x with
    | nil=>exact absurd rfl hne
    | cons c l=>exact ⟨c,l,rfl⟩
  have d1 : 1 ≤ sizeLine:=by decide
  refine ⟨_,rfl,r,dx,_,rfl,hr0,rfl,r,T,figS,i,x,_,rfl,rd,hd,hab,(fun c hc=>of_decide_eq_false (dw_head (p:=isFig) c hc)),fun H1 g1 rd1=>?_⟩
  refine ⟨_,rfl,sOf x,rfl,line_of (by omega),_,_,rfl,rfl,_,rfl,ite2 (fun c1=>?_) (fun c1=>?_)⟩
  · have c1' : (30:Int) < ((sOf x).length : Int):=of_decide_eq_true c1
    exact ⟨d1,q.bad (by unfold numP; rw [hx]; exact if_pos (by omega)) H1 g1⟩
  have c1' : ¬ (30 < x.length):=fun z=>c1 (decide_eq_true (by show (30:Int) < ((sOf x).length : Int); omega))
  have hdg : AllDigits (sOf x).cps.toList:=fun c hc=>by
    rw [sOf_list] at hc
    have k : ∀ c ∈ figS.cps.toList,48 ≤ c ∧ c ≤ 57:=by decide +kernel
    exact k c (hab c hc)
  have hv:=intText_digits hdg (by rw [sOf_list]; exact hne) (by omega)
  rw [sOf_list] at hv
  have good : ¬ (1 < x.length ∧ x.head? = some 48) → _:=fun z=>(⟨_,rfl,sOf x,_,rfl,by omega,hv,q.good (x:=((digitsVal x:Nat) : Int)) (s:=(T.cps.toList.drop i).dropWhile isFig) (by unfold numP; rw [hx,if_neg c1',if_neg z]) _ H1 _ g1 rd1 (drop_more hd) rfl⟩ : ∃ v,[some (V.ref r),some (V.str (sOf x))][1]? = some (some v) ∧ ∃ (y:Str) (n:Int),[v] = [.str y] ∧ y.length ≤ 640 ∧ PySem.intText? y = some n ∧ Q (.int n) H1)
  refine ⟨_,rfl,sOf x,rfl,line_of (by omega),_,_,rfl,rfl,_,rfl,ite2 (fun c2=>?_) (fun c2=>?_)⟩
  · have c2' : (1:Int) < ((sOf x).length : Int):=of_decide_eq_true c2
    have hch : (sOf x).cps.toList[0]? = some ch:=by rw [sOf_list,hxc]; rfl
    refine ⟨_,rfl,sOf x,0,ch,rfl,rfl,line_of (by omega),atI_nat (j:=0) hch,rfl,_,rfl,ite2 (fun c3=>?_) (fun c3=>?_)⟩
    · have e : V.str ⟨#[ch]⟩ = V.str "0" := of_decide_eq_true c3
      injection e with e
      have e3 : ch = 48:=by
        have:=congrArg (fun z:Str=>z.cps.toList) e
        have z0 : (Str.ofString "0").cps.toList = [48]:=by decide +kernel
        rw [z0] at this
        simpa using this
      exact ⟨d1,q.bad (by unfold numP; rw [hx,if_neg c1',if_pos ⟨by omega,by rw [hxc,e3]; rfl⟩]) H1 g1⟩
    · refine good fun z=>c3 (decide_eq_true ?_)
      have : ch = 48:=by have:=z.2; rw [hxc] at this; simpa using this
      rw [this]
      exact congrArg V.str (by decide +kernel)
  · exact iteF (good fun z=>c2 (decide_eq_true (by show (1:Int) < ((sOf x).length : Int); omega)))
end
end K08
namespace L2
open PySem
theorem any_fig (s:Sg) : (figS.cps.toList.any (id ∘ fun c=>[c].isPrefixOf s)) = figB s:=by
  rw [Bool.eq_iff_iff,List.any_eq_true]
  unfold figB
  cases h : s.head? with
  | none =>
    constructor
    · rintro ⟨c,hc,e⟩
      have e' : [c].isPrefixOf s = true:=e
      rw [one_pre,h] at e'
      exact absurd (of_decide_eq_true e') (by simp)
    · intro z; cases z
  | some d =>
    constructor
    · rintro ⟨c,hc,e⟩
      have e' : [c].isPrefixOf s = true:=e
      rw [one_pre,h] at e'
      have:=Option.some.inj (of_decide_eq_true e')
      subst this
      exact decide_eq_true hc
    · intro z
      refine ⟨d,of_decide_eq_true z,?_⟩
      show [d].isPrefixOf s = true
      rw [one_pre,h]
      exact decide_eq_true rfl
theorem But.upd_new {C:Addr} {r:Addr} {H H':Hp} {p:Addr} {o:HO} (b:But r H H') (h:H' p = none) : But r H (upd H' p o):=b.trans fun x u _ e=>same_upd h _ _ e
theorem RdAt.new {C:Addr} {H:Hp} {r:Addr} {T:Str} {i:Nat} {p:Addr} {o:HO} (rd:RdAt C H r T i) (h:H p = none) : RdAt C (upd H p o) r T i:=by
  obtain ⟨⟨dx,hr⟩,h1,h2⟩:=rd
  exact ⟨⟨dx,same_upd h _ _ hr⟩,h1,h2⟩
end L2
namespace K08
open PySem PySem.Spec L2 PyProof.Rows
abbrev s_plain_leaf_from : Stmt:=top 28
theorem sc_plain_leaf_from : FnScope ["reader"] ["reader"] (defScope s_plain_leaf_from):=⟨rfl,rfl,rfl,by decide +kernel,rfl,by decide +kernel,by decide +kernel⟩
abbrev s_atom_from : Stmt:=top 29
theorem sc_atom_from : FnScope ["reader"] ["reader"] (defScope s_atom_from):=⟨rfl,rfl,rfl,by decide +kernel,rfl,by decide +kernel,by decide +kernel⟩
abbrev s_atoms_from : Stmt:=top 30
theorem sc_atoms_from : FnScope ["reader", "atoms"] ["reader"] (defScope s_atoms_from):=⟨rfl,rfl,rfl,by decide +kernel,rfl,by decide +kernel,by decide +kernel⟩
section
variable {P:Program} {w:World} {K:PySem.W.Frag} {mg:Str → Option Value} {base:Heap}
def sp_pleafF (C cN:Addr) : Sp:=fun vs H Q E=>∃ (r:Addr) (T:Str) (i:Nat),vs = [.ref r] ∧ RdAt C H r T i ∧ OutP C cN H r T (pleafP (T.cps.toList.drop i)) AtRep Q E
theorem okF_pleaf {k:Nat} {f C cN g1 g2 g3:Addr} {fd gd1 gd2 gd3:FuncData} {tk:Tok} (F:Fun K "plain_leaf_from" "plain_leaf_from" s_plain_leaf_from f fd) (T_Reader:TxtR K mg C) (z_any:mg "any" = none) (m_FIGURES:mg "FIGURES" = some (.str figS tk))
    (G_Reader_stands:FnM P w K mg base k C "stands" g1 gd1 ["self", "piece"] (sp_stands C)) (G_number_from:FnF P w K mg base k "number_from" g2 gd2 ["reader"] (sp_numberF C cN)) (G_word_from:FnF P w K mg base k "word_from" g3 gd3 ["reader"] (sp_wordF C cN)) :
    FnOk P w K mg base (CXF P w) (k + 1) f fd ["reader"] (sp_pleafF C cN):=by
  refine F.okF sc_plain_leaf_from (fun vs H Q E h=>?_) (fun cdv A outer s H vs Q E hr h=>?_)
  · obtain ⟨r,T,i,rfl,_⟩:=h
    rfl
  obtain ⟨r,T,i,rfl,rd,q⟩:=h
  obtain ⟨⟨dx,hr0⟩,hi,hf⟩:=id rd
  refine ⟨_,(pss_cons (ps_if (pt_val (pe_callB (call_anyL rfl) (by rfl) z_any PyProof.Rows.boot_any (pa_cons (pe_compB ["figure", "reader"] [none,some 0] rfl (pi_str (pe_glob (v:=.str figS) (by rfl) m_FIGURES ⟨_,rfl⟩)) (fun _ _ _ _ _=>(pg_name (i:=0) (show List.Nodup (["figure", "reader"] : List Str) by decide +kernel) rfl (Or.inl rfl))) (fun _ _ _ _ _=>pts_nil) (fun _ _ _ _ _=>(pe_meth (pv 1) T_Reader.cl G_Reader_stands.mt G_Reader_stands.ok hr G_Reader_stands.bd .nil pass0 (pa_cons (pv 0) pa_nil))) rfl) pa_nil))) (pss_one (ps_ret (pe_tup (pa_cons pe_str (pa_cons (pe_call G_number_from.ok hr (by rfl) G_number_from.gl G_number_from.kp G_number_from.bd .nil cxf_pass (pa_cons (pv 0) pa_nil)) pa_nil)) : PE _ _ _))) pss_nil)
    (pss_one (ps_ret (pe_tup (pa_cons pe_str (pa_cons (pe_call G_word_from.ok hr (by rfl) G_word_from.gl G_word_from.kp G_word_from.bd .nil cxf_pass (pa_cons (pv 0) pa_nil)) pa_nil)) : PE _ _ _)))),?_⟩
  refine ⟨figS,rfl,fun acc hacc=>?_⟩
  have d2 : 2 ≤ sizeLine:=by decide
  refine comp_strR (x:=figS) (fun j H'=>Same H H' ∧ H' acc = some (.lst (((figS.cps.toList.take j).map fun c=>[c].isPrefixOf (T.cps.toList.drop i)).map V.bl))) ⟨same_upd hacc,upd_same⟩ ?_ ?_
  · rintro j c H1 hj ⟨g1,ea⟩
    have hr1:=g1 _ _ hr0
    have hc : figS.cps.toList[j]? = some c:=by rw [Array.getElem?_toList]; exact hj
    have hj10 : j < 10:=by
      have h1:=(List.getElem?_eq_some_iff.mp hc).1
      have h2 : figS.cps.toList.length = 10:=by decide +kernel
      omega
    refine ⟨.skip (.keep .nil),?_⟩
    refine ⟨_,rfl,r,dx,_,rfl,hr1,rfl,_,rfl,r,T,⟨#[c]⟩,i,rfl,⟨⟨dx,hr1⟩,hi,hf⟩,?_⟩
    refine ⟨_,ea,small1000 (by rw [List.length_map,List.length_map,List.length_take]; omega),same_set g1 hacc,?_⟩
    rw [upd_same,take_next hc,List.map_append,List.map_append]
    rfl
  · rintro H1 ⟨g1,ea⟩
    have e10 : figS.cps.toList.take figS.cps.size = figS.cps.toList:=List.take_of_length_le (by rw [Array.length_toList]; exact Nat.le_refl _)
    rw [e10] at ea
    have b1 : But r H H1:=fun b o _ e=>g1 _ _ e
    have rd1 : RdAt C H1 r T i:=⟨⟨dx,g1 _ _ hr0⟩,hi,hf⟩
    refine ⟨acc,_,rfl,ea,_,rfl,?_⟩
    rw [List.any_map,any_fig]
    cases hfb : figB (T.cps.toList.drop i) with
    | true =>
      refine iteT ⟨_,rfl,r,T,i,rfl,rd1,hfb,OutP.mk (fun e H' b=>?_) fun n s e v H' j b rd' hs hv=>?_⟩
      · exact q.bad (by unfold pleafP; rw [hfb,if_pos rfl,e]) H' (b1.trans b)
      · have hv' : v = .int n:=hv
        subst hv'
        refine ⟨d2,fun p hp=>?_⟩
        exact q.good (x:=.num n) (s:=s) (by unfold pleafP; rw [hfb,if_pos rfl,e]) _ _ j ((b1.trans b).upd_new (C:=C) hp) (rd'.new hp) hs ⟨p,rfl,upd_same⟩
    | false =>
      refine iteF ⟨_,rfl,r,T,i,rfl,rd1,OutP.mk (fun e H' b=>?_) fun n s e v H' j b rd' hs hv=>?_⟩
      · exact q.bad (by unfold pleafP; rw [hfb,e]; rfl) H' (b1.trans b)
      · have hv' : v = .str n:=hv
        subst hv'
        refine ⟨d2,fun p hp=>?_⟩
        exact q.good (x:=.name n) (s:=s) (by unfold pleafP; rw [hfb,e]; rfl) _ _ j ((b1.trans b).upd_new (C:=C) hp) (rd'.new hp) hs ⟨p,rfl,upd_same⟩
def sp_atomF (C cN:Addr) : Sp:=fun vs H Q E=>∃ (r:Addr) (T:Str) (i:Nat),vs = [.ref r] ∧ RdAt C H r T i ∧ OutP C cN H r T (atomP (T.cps.toList.drop i)) AtRep Q E
theorem okF_atom {k:Nat} {f C cN g1 g2 g3:Addr} {fd gd1 gd2 gd3:FuncData} (F:Fun K "atom_from" "atom_from" s_atom_from f fd) (T_Reader:TxtR K mg C)
    (G_Reader_skipped:FnM P w K mg base k C "skipped" g1 gd1 ["self", "piece"] (sp_skipped C)) (G_plain_leaf_from:FnF P w K mg base k "plain_leaf_from" g2 gd2 ["reader"] (sp_pleafF C cN)) (G_word_from:FnF P w K mg base k "word_from" g3 gd3 ["reader"] (sp_wordF C cN)) :
    FnOk P w K mg base (CXF P w) (k + 1) f fd ["reader"] (sp_atomF C cN):=by
  refine F.okF sc_atom_from (fun vs H Q E h=>?_) (fun cdv A outer s H vs Q E hr h=>?_)
  · obtain ⟨r,T,i,rfl,_⟩:=h
    rfl
  obtain ⟨r,T,i,rfl,rd,q⟩:=h
  obtain ⟨⟨dx,hr0⟩,hi,hf⟩:=id rd
  refine ⟨_,(pss_cons (ps_if (pt_val (pe_meth (pv 0) T_Reader.cl G_Reader_skipped.mt G_Reader_skipped.ok hr G_Reader_skipped.bd .nil pass0 (pa_cons pe_str pa_nil))) (pss_one (ps_ret (pe_tup (pa_cons pe_str (pa_cons (pe_call G_word_from.ok hr (by rfl) G_word_from.gl G_word_from.kp G_word_from.bd .nil cxf_pass (pa_cons (pv 0) pa_nil)) (pa_cons (pe_tup pa_nil:PE _ _ _) pa_nil))) : PE _ _ _))) pss_nil)
    (pss_one (ps_ret (pe_call G_plain_leaf_from.ok hr (by rfl) G_plain_leaf_from.gl G_plain_leaf_from.kp G_plain_leaf_from.bd .nil cxf_pass (pa_cons (pv 0) pa_nil))))),?_⟩
  have d0 : 0 ≤ sizeLine:=by decide
  have d3 : 3 ≤ sizeLine:=by decide
  refine ⟨_,rfl,r,dx,_,rfl,hr0,rfl,r,T, "?", i,rfl,rd,fun hq=>?_,fun hq H1 b1 rd1=>?_⟩
  · rw [q_list] at hq
    refine ⟨_,rfl,iteF ⟨_,rfl,r,T,i,rfl,rd,OutP.mk (fun e H' b=>?_) fun a s e v H' j b rd' hs hv=>?_⟩⟩
    · exact q.bad (by unfold atomP; rw [skP_no hq]; exact e) H' b
    · exact q.good (x:=a) (s:=s) (by unfold atomP; rw [skP_no hq]; exact e) v H' j b rd' hs hv
  · rw [q_list] at hq
    have es : skP [63] (T.cps.toList.drop i) = some (T.cps.toList.drop (i + 1)):=by unfold skP; rw [if_pos hq,List.drop_drop]; rfl
    rw [q_len] at rd1
    refine ⟨_,rfl,iteT ⟨_,rfl,r,T,i + 1,rfl,rd1,OutP.mk (fun e H' b=>?_) fun x s e v H' j b rd' hs hv=>?_⟩⟩
    · exact q.bad (by unfold atomP; rw [es]; dsimp only; rw [e]) H' (b1.trans b)
    · have hv' : v = .str x:=hv
      subst hv'
      refine ⟨d0,fun p0 hp0=>⟨d3,fun p hp=>?_⟩⟩
      exact q.good (x:=.gap x) (s:=s) (by unfold atomP; rw [es]; dsimp only; rw [e]) _ _ j (((b1.trans b).upd_new (C:=C) hp0).upd_new (C:=C) hp) ((rd'.new hp0).new hp) hs ⟨p,p0,rfl,upd_same,same_upd hp _ _ upd_same⟩
def RpAs (H:Hp) (as:List Atom) (v:V) : Prop:=∃ p us,v = .ref p ∧ H p = some (.tup us) ∧ Paired (AtRep H) as us ∧ us.length ≤ 1000
def sp_atomsF (C cN:Addr) : Sp:=fun vs H Q E=>∃ (r:Addr) (T:Str) (i:Nat),vs = [.ref r] ∧ RdAt C H r T i ∧ OutP C cN H r T (atomsP (T.cps.toList.drop i)) RpAs Q E
theorem okF_atoms {k:Nat} {f C cN g1 g2 g3:Addr} {fd gd1 gd2 gd3:FuncData} (F:Fun K "atoms_from" "atoms_from" s_atoms_from f fd) (T_Reader:TxtR K mg C) (z_tuple:mg "tuple" = none)
    (G_Reader_skipped:FnM P w K mg base k C "skipped" g1 gd1 ["self", "piece"] (sp_skipped C)) (G_Reader_skip:FnMF P w K mg base k C "skip" g2 gd2 ["self", "piece"] (sp_skipF C cN)) (G_atom_from:FnF P w K mg base k "atom_from" g3 gd3 ["reader"] (sp_atomF C cN)) :
    FnOk P w K mg base (CXF P w) (k + 1) f fd ["reader"] (sp_atomsF C cN):=by
  refine F.okF sc_atoms_from (fun vs H Q E h=>?_) (fun cdv A outer s H vs Q E hr h=>?_)
  · obtain ⟨r,T,i,rfl,_⟩:=h
    rfl
  obtain ⟨r,T,i,rfl,rd,q⟩:=h
  obtain ⟨⟨dx,hr0⟩,hi,hf⟩:=id rd
  refine ⟨_,(pss_cons (ps_if (pt_not (pt_val (pe_meth (pv 0) T_Reader.cl G_Reader_skipped.mt G_Reader_skipped.ok hr G_Reader_skipped.bd .nil pass0 (pa_cons pe_str pa_nil)))) (pss_one (ps_ret (pe_tup pa_nil:PE _ _ _))) pss_nil)
    (pss_cons (ps_set (i:=1) sc_atoms_from.nd rfl (Or.inl rfl) (pe_lst (pa_cons (pe_call G_atom_from.ok hr (by rfl) G_atom_from.gl G_atom_from.kp G_atom_from.bd .nil cxf_pass (pa_cons (pv 0) pa_nil)) pa_nil) : PE _ _ _))
    (pss_cons (ps_while own_cx (pt_val (pe_meth (pv 0) T_Reader.cl G_Reader_skipped.mt G_Reader_skipped.ok hr G_Reader_skipped.bd .nil pass0 (pa_cons pe_str pa_nil))) (pss_one (ps_expr (pe_bm PySem.F.plainAttrs_list PySem.F.slot_list_append PySem.F.type_list_append mt_append (pv 1) (pa_cons (pe_call G_atom_from.ok hr (by rfl) G_atom_from.gl G_atom_from.kp G_atom_from.bd .nil cxf_pass (pa_cons (pv 0) pa_nil)) pa_nil)))))
    (pss_cons (ps_expr (pe_meth (pv 0) T_Reader.cl G_Reader_skip.mt G_Reader_skip.ok hr G_Reader_skip.bd .nil cxf_pass (pa_cons pe_str pa_nil)))
    (pss_one (ps_ret (pe_callTy call_tuple_of (by rfl) z_tuple PyProof.Rows.boot_tuple (pa_cons (pv 1) pa_nil)))))))),?_⟩
  have d0 : 0 ≤ sizeLine:=by decide
  have d1 : 1 ≤ sizeLine:=by decide
  refine ⟨_,rfl,r,dx,_,rfl,hr0,rfl,r,T, "[", i,rfl,rd,fun hq=>?_,fun hq H1 b1 rd1=>?_⟩
  · rw [br_list.1] at hq
    refine ⟨_,rfl,iteT ⟨d0,fun p hp=>?_⟩⟩
    exact q.good (x:=[]) (s:=T.cps.toList.drop i) (by unfold atomsP; rw [skP_no hq]) _ _ i ((But.refl r H).upd_new (C:=C) hp) (rd.new hp) rfl ⟨p,[],rfl,upd_same,.nil,Nat.zero_le _⟩
  · rw [br_list.1] at hq
    have es : skP [91] (T.cps.toList.drop i) = some (T.cps.toList.drop (i + 1)):=by unfold skP; rw [if_pos hq,List.drop_drop]; rfl
    rw [br_len.1] at rd1
    refine ⟨_,rfl,iteF ?_⟩
    refine ⟨_,rfl,r,T,i + 1,rfl,rd1,OutP.mk (fun e H' b=>?_) fun a s2 e v H2 j b2 rd2 hs2 hv=>⟨d1,fun la hla=>?_⟩⟩
    · exact q.bad (by unfold atomsP; rw [es]; dsimp only; rw [e]) H' (b1.trans b)
    have hlaH : H la = none:=by
      cases z : H la with
      | none=>rfl
      | some o =>
        have nla : la ≠ r:=fun y=>by obtain ⟨⟨dx2,h2⟩,_,_⟩:=rd2; rw [y,h2] at hla; cases hla
        have:=(b1.trans b2) la o nla z
        rw [hla] at this
        cases this
    have hT:=str_len T
    have hat : ∀ as r',moreP (s2.length + 1) s2 = some (as,r') → (skP [93] r' = none → atomsP (T.cps.toList.drop i) = none) ∧ ∀ z,skP [93] r' = some z → atomsP (T.cps.toList.drop i) = some (a :: as,z):=fun as r' hm =>
      ⟨fun h=>by unfold atomsP; rw [es]; dsimp only; rw [e]; dsimp only; rw [hm]; dsimp only; rw [h],fun z h=>by unfold atomsP; rw [es]; dsimp only; rw [e]; dsimp only; rw [hm]; dsimp only; rw [h]⟩
    have hno : moreP (s2.length + 1) s2 = none → atomsP (T.cps.toList.drop i) = none:=fun hm=>by unfold atomsP; rw [es]; dsimp only; rw [e]; dsimp only; rw [hm]
    refine ⟨fun m σ' H'=>∃ (as:List Atom) (us:List V) (j:Nat) (n:Nat),σ' = [some (.ref r),some (.ref la)] ∧ But r H H' ∧ RdAt C H' r T j ∧ H' la = some (.lst us) ∧ Paired (AtRep H') (a :: as) us ∧ m = (T.cps.toList.drop j).length ∧ 2 * us.length + (T.cps.toList.drop j).length ≤ 2000 ∧ (T.cps.toList.drop j).length < n ∧
        (∀ bs z,moreP n (T.cps.toList.drop j) = some (bs,z) → moreP (s2.length + 1) s2 = some (as ++ bs,z)) ∧ (moreP n (T.cps.toList.drop j) = none → moreP (s2.length + 1) s2 = none),?_,?_⟩
    · refine ⟨_,[],[v],j,s2.length + 1,rfl,(b1.trans b2).upd_new (C:=C) hla,rd2.new hla,upd_same,.cons (hv.mono (same_upd hla).tk) .nil,rfl,?_,by rw [hs2]; omega,?_,?_⟩
      · have h1:=congrArg List.length (skP_some es).1
        have h2:=atom_len e
        rw [hs2]
        rw [List.length_append] at h1
        rw [List.length_drop] at h1
        simp only [List.length_singleton] at h1 ⊢
        omega
      · intro bs z h
        rw [hs2] at h
        exact h
      · intro h
        rw [hs2] at h
        exact h
    rintro m σ' H3 ⟨as,us,j3,n,rfl,b3,rd3,e3,p3,rfl,l3,hn,hg,hb⟩
    obtain ⟨⟨dx3,hr3⟩,hi3,_⟩:=id rd3
    have nra : la ≠ r:=fun y=>by rw [y,hr3] at e3; cases e3
    obtain ⟨n',rfl⟩ : ∃ n',n = n' + 1:=⟨n - 1,by omega⟩
    refine ⟨_,rfl,r,dx3,_,rfl,hr3,rfl,r,T, " ", j3,rfl,rd3,fun hq3=>?_,fun hq3 H4 b4 rd4=>?_⟩
    · rw [br_list.2.1] at hq3
      refine ⟨_,rfl,iteF ?_⟩
      have hm:=hg [] (T.cps.toList.drop j3) (by rw [moreP,skP_no hq3])
      rw [List.append_nil] at hm
      obtain ⟨h93n,h93s⟩:=hat as _ hm
      refine ⟨_,rfl,r,dx3,_,rfl,hr3,rfl,r,T, "]", j3,rfl,rd3,Nat.le_trans (show (PySem.reprText (Str.ofString "]")).length ≤ 3 by decide +kernel) (by decide),fun h=>?_,fun z h H5 j5 b5 rd5 hs5=>?_⟩
      · rw [br_list.2.2] at h
        exact q.bad (h93n h) H3 b3
      · rw [br_list.2.2] at h
        have e5:=b5 _ _ nra e3
        refine ⟨_,rfl,la,_,rfl,.inl ⟨SqL.of e5,fun p hp=>?_⟩⟩
        have s6:=same_upd (o:=.tup us) hp
        exact q.good (x:=a :: as) (s:=z) (h93s z h) _ _ j5 ((b3.trans b5).upd_new (C:=C) hp) (rd5.new hp) hs5 ⟨p,us,rfl,upd_same,Paired.mapP p3 fun _ _ y=>y.mono ((But.tk hr3 b5).trans s6.tk),by omega⟩
    · rw [br_list.2.1] at hq3
      rw [br_len.2.1] at rd4
      have es3 : skP [32] (T.cps.toList.drop j3) = some (T.cps.toList.drop (j3 + 1)):=by unfold skP; rw [if_pos hq3,List.drop_drop]; rfl
      have hm1 : ∀ o,atomP (T.cps.toList.drop (j3 + 1)) = o → moreP (n' + 1) (T.cps.toList.drop j3) = (match o with | none=>none | some (x,s3)=>match moreP n' s3 with | none=>none | some (bs,z)=>some (x :: bs,z)):=fun o ho=>by
        rw [moreP,es3]
        dsimp only
        rw [ho]
        all_goals (cases o <;> rfl)
      have e4:=b4 _ _ nra e3
      have l4 : (T.cps.toList.drop j3).length = (T.cps.toList.drop (j3 + 1)).length + 1:=by
        have:=congrArg List.length (skP_some es3).1
        simpa [Nat.add_comm] using this
      refine ⟨_,rfl,iteT ⟨_,fun _ _ h=>h,?_⟩⟩
      refine ⟨_,rfl,.inl ⟨rfl,_,SqL.of e4⟩,_,rfl,r,T,j3 + 1,rfl,rd4,OutP.mk (fun e9 H' b=>?_) fun x s3 e9 v9 H5 j5 b5 rd5 hs5 hv9=>?_⟩
      · exact q.bad (hno (hb (hm1 none e9))) H' ((b3.trans b4).trans b)
      · have e5:=b5 _ _ nra e4
        obtain ⟨⟨dx4,hr4⟩,_,_⟩:=id rd4
        refine ⟨la,us,_,rfl,rfl,e5,line_lt (by omega),?_⟩
        have l5:=atom_len e9
        have k6 : Tk H5 (upd H5 la (.lst (us ++ [v9]))):=Tk.lst e5
        refine ⟨(T.cps.toList.drop j5).length,by rw [hs5]; omega,as ++ [x],us ++ [v9],j5,n',rfl,?_,?_,upd_same,?_,rfl,?_,by rw [hs5]; omega,?_,?_⟩
        · exact ((b3.trans b4).trans b5).put hlaH
        · obtain ⟨⟨dx5,hr5⟩,h5,h5'⟩:=rd5
          exact ⟨⟨dx5,by rw [upd_ne (Ne.symm nra)]; exact hr5⟩,h5,h5'⟩
        · exact paired_append (as:=a :: as) (Paired.mapP p3 fun _ _ y=>y.mono (((But.tk hr3 b4).trans (But.tk hr4 b5)).trans k6)) (.cons (hv9.mono k6) .nil)
        · rw [hs5,List.length_append,List.length_singleton]
          omega
        · intro bs z h
          rw [hs5] at h
          have:=hg (x :: bs) z (by rw [hm1 _ e9]; dsimp only; rw [h])
          rw [this,List.append_assoc]
          rfl
        · intro h
          rw [hs5] at h
          exact hb (by rw [hm1 _ e9]; dsimp only; rw [h])
end
end K08
namespace L2
open PySem
theorem opn_sk {p s r:Sg} (hp:∀ c ∈ p,c ≠ 40 ∧ c ≠ 41) (h:skP p s = some r) : opn s = opn r:=by rw [(skP_some h).1,opn_plain hp]
theorem opn_net {s r:Sg} (h:∃ c,s = c ++ r ∧ NetZ c) : opn r ≤ opn s:=by
  obtain ⟨c,rfl,n⟩:=h
  exact n r
theorem RdAt.tk {C:Addr} {H H':Hp} {r:Addr} {T:Str} {i:Nat} (rd:RdAt C H r T i) (b:But r H H') : Tk H H':=by
  obtain ⟨⟨dx,hr⟩,_,_⟩:=rd
  exact But.tk hr b
theorem rep_piece : ∀ s ∈ [" then ", " else ", " = ", " in ", ")", "]", " -> ", " "],(PySem.reprText (Str.ofString s)).length ≤ 1000:=by decide +kernel
end L2
namespace K08
open PySem PySem.Spec L2 PyProof.Rows
abbrev s_if_from : Stmt:=top 33
theorem sc_if_from : FnScope ["reader", "asked", "first"] ["reader"] (defScope s_if_from):=⟨rfl,rfl,rfl,by decide +kernel,rfl,by decide +kernel,by decide +kernel⟩
abbrev s_let_from : Stmt:=top 34
theorem sc_let_from : FnScope ["reader", "name", "first"] ["reader"] (defScope s_let_from):=⟨rfl,rfl,rfl,by decide +kernel,rfl,by decide +kernel,by decide +kernel⟩
abbrev s_two_from : Stmt:=top 35
theorem sc_two_from : FnScope ["reader", "first", "sign"] ["reader"] (defScope s_two_from):=⟨rfl,rfl,rfl,by decide +kernel,rfl,by decide +kernel,by decide +kernel⟩
section
variable {P:Program} {w:World} {K:PySem.W.Frag} {mg:Str → Option Value} {base:Heap}
def sp_shapeF (C cN:Addr) (n:Nat) : Sp:=fun vs H Q E=>∃ (r:Addr) (T:Str) (i:Nat),vs = [.ref r] ∧ RdAt C H r T i ∧ opn (T.cps.toList.drop i) < n ∧ OutP C cN H r T (shapeP n (T.cps.toList.drop i)) Rep Q E
def sp_ifF (C cN:Addr) (n:Nat) : Sp:=fun vs H Q E=>∃ (r:Addr) (T:Str) (i:Nat),vs = [.ref r] ∧ RdAt C H r T i ∧ opn (T.cps.toList.drop i) < n ∧ OutP C cN H r T (ifP (shapeP n) (T.cps.toList.drop i)) Rep Q E
def sp_letF (C cN:Addr) (n:Nat) : Sp:=fun vs H Q E=>∃ (r:Addr) (T:Str) (i:Nat),vs = [.ref r] ∧ RdAt C H r T i ∧ opn (T.cps.toList.drop i) < n ∧ OutP C cN H r T (letP (shapeP n) (T.cps.toList.drop i)) Rep Q E
def sp_twoF (C cN:Addr) (n:Nat) : Sp:=fun vs H Q E=>∃ (r:Addr) (T:Str) (i:Nat),vs = [.ref r] ∧ RdAt C H r T i ∧ opn (T.cps.toList.drop i) < n ∧ OutP C cN H r T (twoP (shapeP n) (T.cps.toList.drop i)) Rep Q E
theorem okF_if {k n:Nat} {f C cN g1 g2:Addr} {fd gd1 gd2:FuncData} (F:Fun K "if_from" "if_from" s_if_from f fd) (T_Reader:TxtR K mg C) (G_Reader_skip:FnMF P w K mg base k C "skip" g1 gd1 ["self", "piece"] (sp_skipF C cN)) (G_shape_from:FnF P w K mg base k "shape_from" g2 gd2 ["reader"] (sp_shapeF C cN n)) :
    FnOk P w K mg base (CXF P w) (k + 1) f fd ["reader"] (sp_ifF C cN n):=by
  refine F.okF sc_if_from (fun vs H Q E h=>?_) (fun cdv A outer s H vs Q E hr h=>?_)
  · obtain ⟨r,T,i,rfl,_⟩:=h
    rfl
  obtain ⟨r,T,i,rfl,rd,ho,q⟩:=h
  refine ⟨_,(pss_cons (ps_set (i:=1) sc_if_from.nd rfl (Or.inl rfl) (pe_call G_shape_from.ok hr (by rfl) G_shape_from.gl G_shape_from.kp G_shape_from.bd .nil cxf_pass (pa_cons (pv 0) pa_nil)))
    (pss_cons (ps_expr (pe_meth (pv 0) T_Reader.cl G_Reader_skip.mt G_Reader_skip.ok hr G_Reader_skip.bd .nil cxf_pass (pa_cons pe_str pa_nil)))
    (pss_cons (ps_set (i:=2) sc_if_from.nd rfl (Or.inl rfl) (pe_call G_shape_from.ok hr (by rfl) G_shape_from.gl G_shape_from.kp G_shape_from.bd .nil cxf_pass (pa_cons (pv 0) pa_nil)))
    (pss_cons (ps_expr (pe_meth (pv 0) T_Reader.cl G_Reader_skip.mt G_Reader_skip.ok hr G_Reader_skip.bd .nil cxf_pass (pa_cons pe_str pa_nil)))
    (pss_one (ps_ret (pe_tup (pa_cons pe_str (pa_cons (pv 1) (pa_cons (pv 2) (pa_cons (pe_call G_shape_from.ok hr (by rfl) G_shape_from.gl G_shape_from.kp G_shape_from.bd .nil cxf_pass (pa_cons (pv 0) pa_nil)) pa_nil)))) : PE _ _ _))))))),?_⟩
  have hN : Nets (shapeP n):=@shape_net n
  refine ⟨_,rfl,r,T,i,rfl,rd,ho,OutP.mk (fun e H' b=>?_) fun a s1 e va H1 j1 b1 rd1 hs1 ra=>?_⟩
  · exact q.bad (by unfold ifP; rw [e]) H' b
  obtain ⟨⟨dx1,hr1⟩,_,_⟩:=id rd1
  have o1:=opn_net (hN e)
  refine ⟨_,rfl,r,dx1,_,rfl,hr1,rfl,r,T, " then ", j1,rfl,rd1,rep_piece " then " (by decide),fun h=>?_,fun s2 h H2 j2 b2 rd2 hs2=>?_⟩
  · rw [hs1] at h
    exact q.bad (by unfold ifP; rw [e]; dsimp only; rw [show skP (tx " then ") s1 = none from h]) H1 b1
  rw [hs1] at h
  have o2:=opn_sk (tx_bal " then " (by decide)) h
  refine ⟨_,rfl,r,T,j2,rfl,rd2,by rw [hs2]; omega,OutP.mk (fun e2 H' b=>?_) fun c s3 e2 vb H3 j3 b3 rd3 hs3 rb=>?_⟩
  · rw [hs2] at e2
    exact q.bad (by unfold ifP; rw [e]; dsimp only; rw [show skP (tx " then ") s1 = some s2 from h]; dsimp only; rw [e2]) H' ((b1.trans b2).trans b)
  rw [hs2] at e2
  obtain ⟨⟨dx3,hr3⟩,_,_⟩:=id rd3
  have o3:=opn_net (hN e2)
  refine ⟨_,rfl,r,dx3,_,rfl,hr3,rfl,r,T, " else ", j3,rfl,rd3,rep_piece " else " (by decide),fun h4=>?_,fun s4 h4 H4 j4 b4 rd4 hs4=>?_⟩
  · rw [hs3] at h4
    exact q.bad (by unfold ifP; rw [e]; dsimp only; rw [show skP (tx " then ") s1 = some s2 from h]; dsimp only; rw [e2]; dsimp only; rw [show skP (tx " else ") s3 = none from h4]) H3 ((b1.trans b2).trans b3)
  rw [hs3] at h4
  have o4:=opn_sk (tx_bal " else " (by decide)) h4
  refine ⟨_,rfl,_,rfl,_,rfl,r,T,j4,rfl,rd4,by rw [hs4]; omega,OutP.mk (fun e5 H' b=>?_) fun d s5 e5 vc H5 j5 b5 rd5 hs5 rc=>⟨(by show 4 ≤ sizeLine; decide),fun p hp=>?_⟩⟩
  · rw [hs4] at e5
    exact q.bad (by unfold ifP; rw [e]; dsimp only; rw [show skP (tx " then ") s1 = some s2 from h]; dsimp only; rw [e2]; dsimp only; rw [show skP (tx " else ") s3 = some s4 from h4]; dsimp only; rw [e5]) H' (((b1.trans b2).trans (b3.trans b4)).trans b)
  rw [hs4] at e5
  have s6:=same_upd (o:=.tup [.str "if", va,vb,vc]) hp
  have t5:=rd4.tk b5
  have t4:=rd3.tk b4
  have t3:=rd2.tk b3
  have t2:=rd1.tk b2
  exact q.good (x:=.ite a c d) (s:=s5) (by unfold ifP; rw [e]; dsimp only; rw [show skP (tx " then ") s1 = some s2 from h]; dsimp only; rw [e2]; dsimp only; rw [show skP (tx " else ") s3 = some s4 from h4]; dsimp only; rw [e5]) _ _ j5 ((((b1.trans b2).trans (b3.trans b4)).trans b5).upd_new (C:=C) hp) (rd5.new hp) hs5
    ⟨p,va,vb,vc,rfl,upd_same,ra.mono (t2.trans (t3.trans (t4.trans (t5.trans s6.tk)))),rb.mono (t4.trans (t5.trans s6.tk)),rc.mono s6.tk⟩
theorem okF_let {k n:Nat} {f C cN g1 g2 g3:Addr} {fd gd1 gd2 gd3:FuncData} (F:Fun K "let_from" "let_from" s_let_from f fd) (T_Reader:TxtR K mg C) (G_Reader_skip:FnMF P w K mg base k C "skip" g1 gd1 ["self", "piece"] (sp_skipF C cN)) (G_shape_from:FnF P w K mg base k "shape_from" g2 gd2 ["reader"] (sp_shapeF C cN n))
    (G_word_from:FnF P w K mg base k "word_from" g3 gd3 ["reader"] (sp_wordF C cN)) : FnOk P w K mg base (CXF P w) (k + 1) f fd ["reader"] (sp_letF C cN n):=by
  refine F.okF sc_let_from (fun vs H Q E h=>?_) (fun cdv A outer s H vs Q E hr h=>?_)
  · obtain ⟨r,T,i,rfl,_⟩:=h
    rfl
  obtain ⟨r,T,i,rfl,rd,ho,q⟩:=h
  refine ⟨_,(pss_cons (ps_set (i:=1) sc_let_from.nd rfl (Or.inl rfl) (pe_call G_word_from.ok hr (by rfl) G_word_from.gl G_word_from.kp G_word_from.bd .nil cxf_pass (pa_cons (pv 0) pa_nil)))
    (pss_cons (ps_expr (pe_meth (pv 0) T_Reader.cl G_Reader_skip.mt G_Reader_skip.ok hr G_Reader_skip.bd .nil cxf_pass (pa_cons pe_str pa_nil)))
    (pss_cons (ps_set (i:=2) sc_let_from.nd rfl (Or.inl rfl) (pe_call G_shape_from.ok hr (by rfl) G_shape_from.gl G_shape_from.kp G_shape_from.bd .nil cxf_pass (pa_cons (pv 0) pa_nil)))
    (pss_cons (ps_expr (pe_meth (pv 0) T_Reader.cl G_Reader_skip.mt G_Reader_skip.ok hr G_Reader_skip.bd .nil cxf_pass (pa_cons pe_str pa_nil)))
    (pss_one (ps_ret (pe_tup (pa_cons pe_str (pa_cons (pv 1) (pa_cons (pv 2) (pa_cons (pe_call G_shape_from.ok hr (by rfl) G_shape_from.gl G_shape_from.kp G_shape_from.bd .nil cxf_pass (pa_cons (pv 0) pa_nil)) pa_nil)))) : PE _ _ _))))))),?_⟩
  have hN : Nets (shapeP n):=@shape_net n
  refine ⟨_,rfl,r,T,i,rfl,rd,OutP.mk (fun e H' b=>?_) fun x s1 e vx H1 j1 b1 rd1 hs1 hx=>?_⟩
  · exact q.bad (by unfold letP; rw [e]) H' b
  have hx' : vx = .str x:=hx
  subst hx'
  obtain ⟨⟨dx1,hr1⟩,_,_⟩:=id rd1
  have o1:=opn_net (word_net e)
  refine ⟨_,rfl,r,dx1,_,rfl,hr1,rfl,r,T, " = ", j1,rfl,rd1,rep_piece " = " (by decide),fun h=>?_,fun s2 h H2 j2 b2 rd2 hs2=>?_⟩
  · rw [hs1] at h
    exact q.bad (by unfold letP; rw [e]; dsimp only; rw [show skP (tx " = ") s1 = none from h]) H1 b1
  rw [hs1] at h
  have o2:=opn_sk (tx_bal " = " (by decide)) h
  refine ⟨_,rfl,r,T,j2,rfl,rd2,by rw [hs2]; omega,OutP.mk (fun e2 H' b=>?_) fun c s3 e2 vb H3 j3 b3 rd3 hs3 rb=>?_⟩
  · rw [hs2] at e2
    exact q.bad (by unfold letP; rw [e]; dsimp only; rw [show skP (tx " = ") s1 = some s2 from h]; dsimp only; rw [e2]) H' ((b1.trans b2).trans b)
  rw [hs2] at e2
  obtain ⟨⟨dx3,hr3⟩,_,_⟩:=id rd3
  have o3:=opn_net (hN e2)
  refine ⟨_,rfl,r,dx3,_,rfl,hr3,rfl,r,T, " in ", j3,rfl,rd3,rep_piece " in " (by decide),fun h4=>?_,fun s4 h4 H4 j4 b4 rd4 hs4=>?_⟩
  · rw [hs3] at h4
    exact q.bad (by unfold letP; rw [e]; dsimp only; rw [show skP (tx " = ") s1 = some s2 from h]; dsimp only; rw [e2]; dsimp only; rw [show skP (tx " in ") s3 = none from h4]) H3 ((b1.trans b2).trans b3)
  rw [hs3] at h4
  have o4:=opn_sk (tx_bal " in " (by decide)) h4
  refine ⟨_,rfl,_,rfl,_,rfl,r,T,j4,rfl,rd4,by rw [hs4]; omega,OutP.mk (fun e5 H' b=>?_) fun d s5 e5 vc H5 j5 b5 rd5 hs5 rc=>⟨(by show 4 ≤ sizeLine; decide),fun p hp=>?_⟩⟩
  · rw [hs4] at e5
    exact q.bad (by unfold letP; rw [e]; dsimp only; rw [show skP (tx " = ") s1 = some s2 from h]; dsimp only; rw [e2]; dsimp only; rw [show skP (tx " in ") s3 = some s4 from h4]; dsimp only; rw [e5]) H' (((b1.trans b2).trans (b3.trans b4)).trans b)
  rw [hs4] at e5
  have s6:=same_upd (o:=.tup [.str "let", .str x,vb,vc]) hp
  have t5:=rd4.tk b5
  have t4:=rd3.tk b4
  exact q.good (x:=.lett x c d) (s:=s5) (by unfold letP; rw [e]; dsimp only; rw [show skP (tx " = ") s1 = some s2 from h]; dsimp only; rw [e2]; dsimp only; rw [show skP (tx " in ") s3 = some s4 from h4]; dsimp only; rw [e5]) _ _ j5 ((((b1.trans b2).trans (b3.trans b4)).trans b5).upd_new (C:=C) hp) (rd5.new hp) hs5
    ⟨p,vb,vc,rfl,upd_same,rb.mono (t4.trans (t5.trans s6.tk)),rc.mono s6.tk⟩
theorem bin_at (s:Sg) : (∀ o,bins.find? (fun o=>(tx (bwT o)).isPrefixOf s) = some o → binP s = some (o,s.drop 3)) ∧ (bins.find? (fun o=>(tx (bwT o)).isPrefixOf s) = none → binP s = none):=by
  obtain ⟨e1,e2,e3,e4⟩:=bw_lists
  have l : ∀ o,(tx (bwT o)).length = 3:=bw_len
  have key : ∀ o : Bin,skP (tx (bwT o)) s = if (tx (bwT o)).isPrefixOf s = true then some (s.drop 3) else none:=fun o=>by unfold skP; rw [l]
  have ka:=key .add
  have kb:=key .sub
  have kc:=key .mul
  have kd:=key .thn
  unfold binP
  rw [show tx " + " = tx (bwT .add) from rfl,show tx " - " = tx (bwT .sub) from rfl,show tx " * " = tx (bwT .mul) from rfl,show tx " ; " = tx (bwT .thn) from rfl,ka,kb,kc,kd]
  simp only [bins,List.find?_cons]
  cases (tx (bwT .add)).isPrefixOf s <;> cases (tx (bwT .sub)).isPrefixOf s <;> cases (tx (bwT .mul)).isPrefixOf s <;> cases (tx (bwT .thn)).isPrefixOf s <;> simp
theorem find_next {p:Bin → Bool} {j:Nat} {o:Bin} (ho:bins[j]? = some o) (hb:∀ j' o',j' < j → bins[j']? = some o' → p o' = false) : (p o = true → bins.find? p = some o) ∧ ((∀ j' o',j' < 4 → bins[j']? = some o' → p o' = false) → bins.find? p = none):=by
  constructor
  · intro hp
    have hj : j < 4:=(List.getElem?_eq_some_iff.mp ho).1
    rcases (show j = 0 ∨ j = 1 ∨ j = 2 ∨ j = 3 by omega) with rfl | rfl | rfl | rfl
    · cases ho; simp [bins,List.find?_cons,hp]
    · cases ho; simp [bins,List.find?_cons,hp,hb 0 .add (by decide) rfl]
    · cases ho; simp [bins,List.find?_cons,hp,hb 0 .add (by decide) rfl,hb 1 .sub (by decide) rfl]
    · cases ho; simp [bins,List.find?_cons,hp,hb 0 .add (by decide) rfl,hb 1 .sub (by decide) rfl,hb 2 .mul (by decide) rfl]
  · intro h
    simp [bins,List.find?_cons,h 0 .add (by decide) rfl,h 1 .sub (by decide) rfl,h 2 .mul (by decide) rfl,h 3 .thn (by decide) rfl]
theorem okF_two {k n:Nat} {f C cN bd g1 g2:Addr} {fd gd1 gd2:FuncData} (F:Fun K "two_from" "two_from" s_two_from f fd) (T_Reader:TxtR K mg C) (m_BETWEEN:mg "BETWEEN" = some (.ref bd)) (h_BETWEEN:KDicW K w.params bd betw) (hB:KBtw K bd) (m_NoText:mg "NoText" = some (.ref cN)) (x_NoText:PySem.W.excIn K cN bmVE "ValueError.__new__" = true)
    (G_Reader_skipped:FnM P w K mg base k C "skipped" g1 gd1 ["self", "piece"] (sp_skipped C)) (G_shape_from:FnF P w K mg base k "shape_from" g2 gd2 ["reader"] (sp_shapeF C cN n)) :
    FnOk P w K mg base (CXF P w) (k + 1) f fd ["reader"] (sp_twoF C cN n):=by
  refine F.okF sc_two_from (fun vs H Q E h=>?_) (fun cdv A outer s H vs Q E hr h=>?_)
  · obtain ⟨r,T,i,rfl,_⟩:=h
    rfl
  obtain ⟨r,T,i,rfl,rd,ho,q⟩:=h
  refine ⟨_,(pss_cons (ps_set (i:=1) sc_two_from.nd rfl (Or.inl rfl) (pe_call G_shape_from.ok hr (by rfl) G_shape_from.gl G_shape_from.kp G_shape_from.bd .nil cxf_pass (pa_cons (pv 0) pa_nil)))
    (pss_cons (ps_for own_cx rfl (pi_dictK h_BETWEEN (pe_glob (v:=.ref _) (by rfl) m_BETWEEN (by rfl))) (pg_name (i:=2) sc_two_from.nd rfl (Or.inl rfl)) (pss_one (ps_if (pt_val (pe_meth (pv 0) T_Reader.cl G_Reader_skipped.mt G_Reader_skipped.ok hr G_Reader_skipped.bd .nil pass0 (pa_cons (pe_ix (ix_kd h_BETWEEN.dic) (pe_glob (v:=.ref _) (by rfl) m_BETWEEN (by rfl)) (pv 2) (fun _ _=>rfl)) pa_nil))) (pss_one (ps_ret (pe_tup (pa_cons (pv 2) (pa_cons (pv 1) (pa_cons (pe_call G_shape_from.ok hr (by rfl) G_shape_from.gl G_shape_from.kp G_shape_from.bd .nil cxf_pass (pa_cons (pv 0) pa_nil)) pa_nil))) : PE _ _ _))) pss_nil)))
    (pss_one (ps_raise (by rfl) m_NoText x_NoText (pa_cons pe_str pa_nil))))),?_⟩
  have hN : Nets (shapeP n):=@shape_net n
  refine ⟨_,rfl,r,T,i,rfl,rd,ho,OutP.mk (fun e H' b=>?_) fun a s1 e va H1 j1 b1 rd1 hs1 ra=>?_⟩
  · exact q.bad (by unfold twoP; rw [e]) H' b
  obtain ⟨⟨dx1,hr1⟩,_,hf⟩:=id rd1
  have o1:=opn_net (hN e)
  obtain ⟨hg,hn⟩:=bin_at s1
  refine ⟨rfl,?_⟩
  refine for_dictK (ks:=betw) (fun j σ' H'=>∃ s2 : Option V,σ' = [some (.ref r),some va,s2] ∧ H' = H1 ∧ ∀ j' o',j' < j → bins[j']? = some o' → (tx (bwT o')).isPrefixOf s1 = false) ⟨none,rfl,rfl,fun j' o' h=>absurd h (Nat.not_lt_zero _)⟩ ?_ ?_
  · rintro j p σ' H' hp ⟨s2,rfl,rfl,nb⟩
    obtain ⟨o',ho',rfl⟩:=betw_at hp
    obtain ⟨t,hB'⟩:=hB o'
    refine ⟨_,rfl,r,dx1,_,rfl,hr1,rfl,_,rfl,_,_,.str (Str.ofString (bwT o')),rfl,rfl,hB',⟨_,rfl⟩,r,T,_,_,rfl,rd1,fun hq=>?_,fun hq H2 b2 rd2=>?_⟩
    · rw [hs1] at hq
      refine ⟨_,rfl,iteF ⟨_,rfl,rfl,fun j' o2 hj' h2=>?_⟩⟩
      rcases Nat.lt_or_ge j' j with h | h
      · exact nb j' o2 h h2
      · have ej : j' = j:=by omega
        subst ej
        rw [ho'] at h2
        cases h2
        exact hq
    · rw [hs1] at hq
      have hfo:=(find_next ho' nb).1 hq
      have hbin:=hg o' hfo
      have hl3 : (Str.ofString (bwT o')).length = 3:=by rw [← tx_len]; exact bw_len o'
      have hs2 : T.cps.toList.drop (j1 + (Str.ofString (bwT o')).length) = s1.drop 3:=by rw [hl3,← List.drop_drop,hs1]
      have o2:=opn_net (bin_net hbin)
      refine ⟨_,rfl,iteT ⟨_,rfl,_,rfl,_,rfl,r,T,_,rfl,rd2,by rw [hs2]; omega,OutP.mk (fun e3 H' b=>?_) fun c s3 e3 vb H3 j3 b3 rd3 hs3 rb=>⟨(by show 3 ≤ sizeLine; decide),fun p hp=>?_⟩⟩⟩
      · rw [hs2] at e3
        exact q.bad (by unfold twoP; rw [e]; dsimp only; rw [hbin]; dsimp only; rw [e3]) H' ((b1.trans b2).trans b)
      · rw [hs2] at e3
        have s4:=same_upd (o:=.tup [.str o'.s,va,vb]) hp
        have t3:=rd2.tk b3
        have t2:=rd1.tk b2
        exact q.good (x:=.bin o' a c) (s:=s3) (by unfold twoP; rw [e]; dsimp only; rw [hbin]; dsimp only; rw [e3]) _ _ j3 (((b1.trans b2).trans b3).upd_new (C:=C) hp) (rd3.new hp) hs3 ⟨p,va,vb,rfl,upd_same,ra.mono (t2.trans (t3.trans s4.tk)),rb.mono s4.tk⟩
  · rintro σ' H' ⟨s2,rfl,rfl,nb⟩
    have hb:=hn ((find_next (p:=fun o=>(tx (bwT o)).isPrefixOf s1) (j:=0) (o:=.add) rfl (fun _ _ h=>absurd h (Nat.not_lt_zero _))).2 nb)
    exact ⟨(by show 1 ≤ sizeLine; decide),q.bad (by unfold twoP; rw [e]; dsimp only; rw [hb]) _ b1⟩
end
end K08
namespace L2
open PySem
theorem kw_cat : (Str.ofString "ask" ++ Str.ofString " ").cps.toList = tx "ask " ∧ (Str.ofString "stop" ++ Str.ofString " ").cps.toList = tx "stop " := by decide +kernel
theorem sk_yes {p s:Sg} (h:p.isPrefixOf s = true) : skP p s = some (s.drop p.length):=if_pos h
theorem OutP.same {α:Type} {C cN:Addr} {H H1:Hp} {r:Addr} {T:Str} {o o':Option (α × Sg)} {Rp:Hp → α → V → Prop} {Q:VK} {E:XK} (q:OutP C cN H r T o Rp Q E) (e:o' = o) (b:But r H H1) : OutP C cN H1 r T o' Rp Q E:=by
  subst e
  exact OutP.mk (fun e H' b'=>q.bad e H' (b.trans b')) fun x s e v H' j b' rd hs hv=>q.good e v H' j (b.trans b') rd hs hv
theorem opn_40 {s s1:Sg} (h:skP [40] s = some s1) : opn s = opn s1 + 1:=by
  rw [(skP_some h).1]
  show opn (40 :: s1) = _
  rw [opn,if_pos rfl]
end L2
namespace K08
open PySem PySem.Spec L2 PyProof.Rows
abbrev s_bracket_from : Stmt:=top 32
theorem sc_bracket_from : FnScope ["reader", "sign"] ["reader"] (defScope s_bracket_from):=⟨rfl,rfl,rfl,by decide +kernel,rfl,by decide +kernel,by decide +kernel⟩
abbrev s_shape_from : Stmt:=top 31
theorem sc_shape_from : FnScope ["reader", "tree", "gap"] ["reader"] (defScope s_shape_from):=⟨rfl,rfl,rfl,by decide +kernel,rfl,by decide +kernel,by decide +kernel⟩
section
variable {P:Program} {w:World} {K:PySem.W.Frag} {mg:Str → Option Value} {base:Heap}
def sp_brkF (C cN:Addr) (n:Nat) : Sp:=fun vs H Q E=>∃ (r:Addr) (T:Str) (i:Nat),vs = [.ref r] ∧ RdAt C H r T i ∧ opn (T.cps.toList.drop i) < n ∧ OutP C cN H r T (brackP (shapeP n) (T.cps.toList.drop i)) Rep Q E
theorem okF_bracket {k n:Nat} {f C cN g1 g2 g3 g4 g5 g6:Addr} {fd gd1 gd2 gd3 gd4 gd5 gd6:FuncData} (F:Fun K "bracket_from" "bracket_from" s_bracket_from f fd) (T_Reader:TxtR K mg C) (G_Reader_skipped:FnM P w K mg base k C "skipped" g1 gd1 ["self", "piece"] (sp_skipped C))
    (G_word_from:FnF P w K mg base k "word_from" g2 gd2 ["reader"] (sp_wordF C cN)) (G_shape_from:FnF P w K mg base k "shape_from" g3 gd3 ["reader"] (sp_shapeF C cN n)) (G_if_from:FnF P w K mg base k "if_from" g4 gd4 ["reader"] (sp_ifF C cN n)) (G_let_from:FnF P w K mg base k "let_from" g5 gd5 ["reader"] (sp_letF C cN n)) (G_two_from:FnF P w K mg base k "two_from" g6 gd6 ["reader"] (sp_twoF C cN n)) :
    FnOk P w K mg base (CXF P w) (k + 1) f fd ["reader"] (sp_brkF C cN n):=by
  refine F.okF sc_bracket_from (fun vs H Q E h=>?_) (fun cdv A outer s H vs Q E hr h=>?_)
  · obtain ⟨r,T,i,rfl,_⟩:=h
    rfl
  obtain ⟨r,T,i,rfl,rd,ho,q⟩:=h
  obtain ⟨⟨dx,hr0⟩,hi,hf⟩:=id rd
  refine ⟨_,(pss_cons (ps_for own_cx rfl (pi_tup (pe_tup (pa_cons pe_str (pa_cons pe_str pa_nil)) : PE _ _ _)) (pg_name (i:=1) sc_bracket_from.nd rfl (Or.inl rfl)) (pss_one (ps_if (pt_val (pe_meth (pv 0) T_Reader.cl G_Reader_skipped.mt G_Reader_skipped.ok hr G_Reader_skipped.bd .nil pass0 (pa_cons (pe_op op_add_str (pv 1) pe_str) pa_nil))) (pss_one (ps_ret (pe_tup (pa_cons (pv 1) (pa_cons (pe_call G_word_from.ok hr (by rfl) G_word_from.gl G_word_from.kp G_word_from.bd .nil cxf_pass (pa_cons (pv 0) pa_nil)) pa_nil)) : PE _ _ _))) pss_nil)))
    (pss_cons (ps_if (pt_val (pe_meth (pv 0) T_Reader.cl G_Reader_skipped.mt G_Reader_skipped.ok hr G_Reader_skipped.bd .nil pass0 (pa_cons pe_str pa_nil))) (pss_one (ps_ret (pe_tup (pa_cons pe_str (pa_cons (pe_call G_shape_from.ok hr (by rfl) G_shape_from.gl G_shape_from.kp G_shape_from.bd .nil cxf_pass (pa_cons (pv 0) pa_nil)) pa_nil)) : PE _ _ _))) pss_nil)
    (pss_cons (ps_if (pt_val (pe_meth (pv 0) T_Reader.cl G_Reader_skipped.mt G_Reader_skipped.ok hr G_Reader_skipped.bd .nil pass0 (pa_cons pe_str pa_nil))) (pss_one (ps_ret (pe_call G_if_from.ok hr (by rfl) G_if_from.gl G_if_from.kp G_if_from.bd .nil cxf_pass (pa_cons (pv 0) pa_nil)))) pss_nil)
    (pss_cons (ps_if (pt_val (pe_meth (pv 0) T_Reader.cl G_Reader_skipped.mt G_Reader_skipped.ok hr G_Reader_skipped.bd .nil pass0 (pa_cons pe_str pa_nil))) (pss_one (ps_ret (pe_call G_let_from.ok hr (by rfl) G_let_from.gl G_let_from.kp G_let_from.bd .nil cxf_pass (pa_cons (pv 0) pa_nil)))) pss_nil)
    (pss_one (ps_ret (pe_call G_two_from.ok hr (by rfl) G_two_from.gl G_two_from.kp G_two_from.bd .nil cxf_pass (pa_cons (pv 0) pa_nil)))))))),?_⟩
  have d2 : 2 ≤ sizeLine:=by decide
  refine ⟨d2,fun tp htp=>⟨tp,rfl,⟨_,SqT.of upd_same⟩,?_⟩⟩
  have s0:=same_upd (o:=.tup [.str "ask", .str "stop"]) htp
  have b0 : But r H (upd H tp (.tup [.str "ask", .str "stop"])):=fun b o _ e=>s0 _ _ e
  have rd0 : RdAt C (upd H tp (.tup [.str "ask", .str "stop"])) r T i:=⟨⟨dx,s0 _ _ hr0⟩,hi,hf⟩
  have et : (upd H tp (.tup [.str "ask", .str "stop"])) tp = some (.tup [.str "ask", .str "stop"]):=upd_same
  generalize upd H tp (.tup [.str "ask", .str "stop"]) = H0 at s0 b0 rd0 et ⊢
  have hr00:=s0 _ _ hr0
  have nxt : ∀ (p:Str) (H1:Hp),RdAt C H1 r T (i + p.length) → p.cps.toList.isPrefixOf (T.cps.toList.drop i) = true → T.cps.toList.drop (i + p.length) = (T.cps.toList.drop i).drop p.cps.toList.length:=fun p _ _ _=>by rw [List.drop_drop,str_len]
  refine for_tup (xs:=[V.str "ask", V.str "stop"]) (fun j σ' H'=>∃ s1 : Option V,σ' = [some (.ref r),s1] ∧ H' = H0 ∧ (1 ≤ j → (tx "ask ").isPrefixOf (T.cps.toList.drop i) = false) ∧ (2 ≤ j → (tx "stop ").isPrefixOf (T.cps.toList.drop i) = false)) ⟨none,rfl,rfl,(by omega),(by omega)⟩ ?_ ?_ ?_
  · rintro j σ' H' _ ⟨s1,rfl,rfl,_⟩
    exact SqT.of et
  · rintro j x σ' H' hx ⟨s1,rfl,rfl,n1,n2⟩
    have hj : j < 2:=(List.getElem?_eq_some_iff.mp hx).1
    rcases (show j = 0 ∨ j = 1 by omega) with rfl | rfl
    · cases hx
      refine ⟨_,rfl,r,dx,_,rfl,hr00,rfl,_,rfl,_,_,rfl,rfl,line1000 (by decide +kernel),r,T,_,i,rfl,rd0,fun hq=>?_,fun hq H1 b1 rd1=>?_⟩
      · rw [kw_cat.1] at hq
        exact ⟨_,rfl,iteF ⟨_,rfl,rfl,fun _=>hq,fun z=>by omega⟩⟩
      · have hd:=nxt _ _ rd1 hq
        rw [kw_cat.1] at hq hd
        have hsk:=sk_yes hq
        refine ⟨_,rfl,iteT ⟨_,rfl,_,rfl,r,T,_,rfl,rd1,OutP.mk (fun e H' b=>?_) fun x s2 e v H2 j2 b2 rd2 hs2 hv=>?_⟩⟩
        · rw [hd] at e
          exact q.bad (by unfold brackP; rw [hsk]; dsimp only; rw [e]) H' ((b0.trans b1).trans b)
        · rw [hd] at e
          have hv' : v = .str x:=hv
          subst hv'
          refine ⟨d2,fun p hp=>?_⟩
          exact q.good (x:=.ask x) (s:=s2) (by unfold brackP; rw [hsk]; dsimp only; rw [e]) _ _ j2 (((b0.trans b1).trans b2).upd_new (C:=C) hp) (rd2.new hp) hs2 ⟨p,rfl,upd_same⟩
    · cases hx
      have hk1:=skP_no (n1 (by omega))
      refine ⟨_,rfl,r,dx,_,rfl,hr00,rfl,_,rfl,_,_,rfl,rfl,line1000 (by decide +kernel),r,T,_,i,rfl,rd0,fun hq=>?_,fun hq H1 b1 rd1=>?_⟩
      · rw [kw_cat.2] at hq
        exact ⟨_,rfl,iteF ⟨_,rfl,rfl,fun _=>n1 (by omega),fun _=>hq⟩⟩
      · have hd:=nxt _ _ rd1 hq
        rw [kw_cat.2] at hq hd
        have hsk:=sk_yes hq
        refine ⟨_,rfl,iteT ⟨_,rfl,_,rfl,r,T,_,rfl,rd1,OutP.mk (fun e H' b=>?_) fun x s2 e v H2 j2 b2 rd2 hs2 hv=>?_⟩⟩
        · rw [hd] at e
          exact q.bad (by unfold brackP; rw [hk1]; dsimp only; rw [hsk]; dsimp only; rw [e]) H' ((b0.trans b1).trans b)
        · rw [hd] at e
          have hv' : v = .str x:=hv
          subst hv'
          refine ⟨d2,fun p hp=>?_⟩
          exact q.good (x:=.stop x) (s:=s2) (by unfold brackP; rw [hk1]; dsimp only; rw [hsk]; dsimp only; rw [e]) _ _ j2 (((b0.trans b1).trans b2).upd_new (C:=C) hp) (rd2.new hp) hs2 ⟨p,rfl,upd_same⟩
  · rintro σ' H' ⟨s1,rfl,rfl,n1,n2⟩
    have hk1:=skP_no (n1 (by decide))
    have hk2:=skP_no (n2 (by decide))
    refine ⟨_,rfl,r,dx,_,rfl,hr00,rfl,r,T, "say ", i,rfl,rd0,fun hq=>?_,fun hq H1 b1 rd1=>?_⟩
    · have hk3 : skP (tx "say ") (T.cps.toList.drop i) = none:=skP_no hq
      refine ⟨_,rfl,iteF ?_⟩
      refine ⟨_,rfl,r,dx,_,rfl,hr00,rfl,r,T, "if ", i,rfl,rd0,fun hq2=>?_,fun hq2 H1 b1 rd1=>?_⟩
      · have hk4 : skP (tx "if ") (T.cps.toList.drop i) = none:=skP_no hq2
        refine ⟨_,rfl,iteF ?_⟩
        refine ⟨_,rfl,r,dx,_,rfl,hr00,rfl,r,T, "let ", i,rfl,rd0,fun hq3=>?_,fun hq3 H1 b1 rd1=>?_⟩
        · have hk5 : skP (tx "let ") (T.cps.toList.drop i) = none:=skP_no hq3
          refine ⟨_,rfl,iteF ⟨_,rfl,r,T,i,rfl,rd0,ho,q.same ?_ b0⟩⟩
          unfold brackP
          rw [hk1,hk2,hk3,hk4,hk5]
        · have hd:=nxt _ _ rd1 hq3
          have hk5 : skP (tx "let ") (T.cps.toList.drop i) = some _:=sk_yes hq3
          have oo:=opn_sk (tx_bal "let " (by decide)) hk5
          refine ⟨_,rfl,iteT ⟨_,rfl,r,T,_,rfl,rd1,by rw [hd]; exact Nat.lt_of_le_of_lt (Nat.le_of_eq oo.symm) ho,q.same ?_ (b0.trans b1)⟩⟩
          rw [hd]
          unfold brackP
          rw [hk1,hk2,hk3,hk4,hk5]
          rfl
      · have hd:=nxt _ _ rd1 hq2
        have hk4 : skP (tx "if ") (T.cps.toList.drop i) = some _:=sk_yes hq2
        have oo:=opn_sk (tx_bal "if " (by decide)) hk4
        refine ⟨_,rfl,iteT ⟨_,rfl,r,T,_,rfl,rd1,by rw [hd]; exact Nat.lt_of_le_of_lt (Nat.le_of_eq oo.symm) ho,q.same ?_ (b0.trans b1)⟩⟩
        rw [hd]
        unfold brackP
        rw [hk1,hk2,hk3,hk4]
        rfl
    · have hd:=nxt _ _ rd1 hq
      have hk3 : skP (tx "say ") (T.cps.toList.drop i) = some _:=sk_yes hq
      have oo:=opn_sk (tx_bal "say " (by decide)) hk3
      refine ⟨_,rfl,iteT ⟨_,rfl,r,T,_,rfl,rd1,by rw [hd]; exact Nat.lt_of_le_of_lt (Nat.le_of_eq oo.symm) ho,OutP.mk (fun e H' b=>?_) fun a s2 e v H2 j2 b2 rd2 hs2 rv=>⟨d2,fun p hp=>?_⟩⟩⟩
      · rw [hd] at e
        exact q.bad (by unfold brackP; rw [hk1,hk2,hk3]; dsimp only; exact (by rw [show shapeP n (List.drop (tx "say ").length (List.drop i T.cps.toList)) = none from e])) H' ((b0.trans b1).trans b)
      · rw [hd] at e
        have s3:=same_upd (o:=.tup [.str "say", v]) hp
        exact q.good (x:=.say a) (s:=s2) (by unfold brackP; rw [hk1,hk2,hk3]; dsimp only; rw [show shapeP n (List.drop (tx "say ").length (List.drop i T.cps.toList)) = some (a,s2) from e]) _ _ j2 (((b0.trans b1).trans b2).upd_new (C:=C) hp) (rd2.new hp) hs2 ⟨p,v,rfl,upd_same,rv.mono s3.tk⟩
theorem okF_shape {k n:Nat} {f C cN g1 g2 g3 g4 g5 g6:Addr} {fd gd1 gd2 gd3 gd4 gd5 gd6:FuncData} (F:Fun K "shape_from" "shape_from" s_shape_from f fd) (T_Reader:TxtR K mg C) (G_Reader_skipped:FnM P w K mg base k C "skipped" g1 gd1 ["self", "piece"] (sp_skipped C)) (G_Reader_skip:FnMF P w K mg base k C "skip" g2 gd2 ["self", "piece"] (sp_skipF C cN))
    (G_bracket_from:FnF P w K mg base k "bracket_from" g3 gd3 ["reader"] (sp_brkF C cN n)) (G_word_from:FnF P w K mg base k "word_from" g4 gd4 ["reader"] (sp_wordF C cN)) (G_atoms_from:FnF P w K mg base k "atoms_from" g5 gd5 ["reader"] (sp_atomsF C cN)) (G_plain_leaf_from:FnF P w K mg base k "plain_leaf_from" g6 gd6 ["reader"] (sp_pleafF C cN)) :
    FnOk P w K mg base (CXF P w) (k + 1) f fd ["reader"] (sp_shapeF C cN (n + 1)):=by
  refine F.okF sc_shape_from (fun vs H Q E h=>?_) (fun cdv A outer s H vs Q E hr h=>?_)
  · obtain ⟨r,T,i,rfl,_⟩:=h
    rfl
  obtain ⟨r,T,i,rfl,rd,ho,q⟩:=h
  obtain ⟨⟨dx,hr0⟩,hi,hf⟩:=id rd
  refine ⟨_,(pss_cons (ps_if (pt_val (pe_meth (pv 0) T_Reader.cl G_Reader_skipped.mt G_Reader_skipped.ok hr G_Reader_skipped.bd .nil pass0 (pa_cons pe_str pa_nil))) (pss_cons (ps_set (i:=1) sc_shape_from.nd rfl (Or.inl rfl) (pe_call G_bracket_from.ok hr (by rfl) G_bracket_from.gl G_bracket_from.kp G_bracket_from.bd .nil cxf_pass (pa_cons (pv 0) pa_nil)))
    (pss_cons (ps_expr (pe_meth (pv 0) T_Reader.cl G_Reader_skip.mt G_Reader_skip.ok hr G_Reader_skip.bd .nil cxf_pass (pa_cons pe_str pa_nil)))
    (pss_one (ps_ret (pv 1))))) pss_nil)
    (pss_cons (ps_if (pt_val (pe_meth (pv 0) T_Reader.cl G_Reader_skipped.mt G_Reader_skipped.ok hr G_Reader_skipped.bd .nil pass0 (pa_cons pe_str pa_nil))) (pss_cons (ps_set (i:=2) sc_shape_from.nd rfl (Or.inl rfl) (pe_call G_word_from.ok hr (by rfl) G_word_from.gl G_word_from.kp G_word_from.bd .nil cxf_pass (pa_cons (pv 0) pa_nil)))
    (pss_one (ps_ret (pe_tup (pa_cons pe_str (pa_cons (pv 2) (pa_cons (pe_call G_atoms_from.ok hr (by rfl) G_atoms_from.gl G_atoms_from.kp G_atoms_from.bd .nil cxf_pass (pa_cons (pv 0) pa_nil)) pa_nil))) : PE _ _ _)))) pss_nil)
    (pss_one (ps_ret (pe_call G_plain_leaf_from.ok hr (by rfl) G_plain_leaf_from.gl G_plain_leaf_from.kp G_plain_leaf_from.bd .nil cxf_pass (pa_cons (pv 0) pa_nil)))))),?_⟩
  have d3 : 3 ≤ sizeLine:=by decide
  refine ⟨_,rfl,r,dx,_,rfl,hr0,rfl,r,T, "(", i,rfl,rd,fun hq=>?_,fun hq H1 b1 rd1=>?_⟩
  · rw [par_list.1] at hq
    have hk1:=skP_no hq
    refine ⟨_,rfl,iteF ?_⟩
    refine ⟨_,rfl,r,dx,_,rfl,hr0,rfl,r,T, "?", i,rfl,rd,fun hq2=>?_,fun hq2 H1 b1 rd1=>?_⟩
    · rw [q_list] at hq2
      have hk2:=skP_no hq2
      refine ⟨_,rfl,iteF ⟨_,rfl,r,T,i,rfl,rd,OutP.mk (fun e H' b=>?_) fun a s2 e v H2 j2 b2 rd2 hs2 hv=>?_⟩⟩
      · exact q.bad (by rw [shapeP,hk1,hk2]; dsimp only; rw [e]) H' b
      · exact q.good (x:=atTr a) (s:=s2) (by rw [shapeP,hk1,hk2]; dsimp only; rw [e]) v H2 j2 b2 rd2 hs2 (atTr_rep hv)
    · rw [q_list] at hq2
      have hk2 : skP [63] (T.cps.toList.drop i) = some (T.cps.toList.drop (i + 1)):=by rw [sk_yes hq2,List.drop_drop]; rfl
      rw [q_len] at rd1
      refine ⟨_,rfl,iteT ?_⟩
      refine ⟨_,rfl,r,T,i + 1,rfl,rd1,OutP.mk (fun e H' b=>?_) fun g s2 e v H2 j2 b2 rd2 hs2 hv=>?_⟩
      · exact q.bad (by rw [shapeP,hk1,hk2]; dsimp only; rw [e]) H' (b1.trans b)
      · have hv' : v = .str g:=hv
        subst hv'
        refine ⟨_,rfl,_,rfl,r,T,j2,rfl,rd2,OutP.mk (fun e3 H' b=>?_) fun as s3 e3 va H3 j3 b3 rd3 hs3 ha=>⟨d3,fun p hp=>?_⟩⟩
        · rw [hs2] at e3
          exact q.bad (by rw [shapeP,hk1,hk2]; dsimp only; rw [e]; dsimp only; rw [e3]) H' ((b1.trans b2).trans b)
        · rw [hs2] at e3
          obtain ⟨pa,us,rfl,hpa,pu,lu⟩:=ha
          have s4:=same_upd (o:=.tup [.str "gap", .str g,.ref pa]) hp
          exact q.good (x:=.gap g as) (s:=s3) (by rw [shapeP,hk1,hk2]; dsimp only; rw [e]; dsimp only; rw [e3]) _ _ j3 (((b1.trans b2).trans b3).upd_new (C:=C) hp) (rd3.new hp) hs3 ⟨p,pa,us,rfl,upd_same,s4 _ _ hpa,lu,Paired.mapP pu fun _ _ z=>z.mono s4.tk⟩
  · rw [par_list.1] at hq
    have hk1 : skP [40] (T.cps.toList.drop i) = some (T.cps.toList.drop (i + 1)):=by rw [sk_yes hq,List.drop_drop]; rfl
    rw [par_list.2.2.1] at rd1
    have oo:=opn_40 hk1
    refine ⟨_,rfl,iteT ?_⟩
    refine ⟨_,rfl,r,T,i + 1,rfl,rd1,by omega,OutP.mk (fun e H' b=>?_) fun t s2 e v H2 j2 b2 rd2 hs2 hv=>?_⟩
    · exact q.bad (by rw [shapeP,hk1]; dsimp only; rw [e]) H' (b1.trans b)
    obtain ⟨⟨dx2,hr2⟩,_,_⟩:=id rd2
    refine ⟨_,rfl,r,dx2,_,rfl,hr2,rfl,r,T, ")", j2,rfl,rd2,rep_piece ")" (by decide),fun h=>?_,fun s3 h H3 j3 b3 rd3 hs3=>?_⟩
    · rw [hs2,par_list.2.1] at h
      exact q.bad (by rw [shapeP,hk1]; dsimp only; rw [e]; dsimp only; rw [h]) H2 (b1.trans b2)
    · rw [hs2,par_list.2.1] at h
      exact ⟨_,rfl,q.good (x:=t) (s:=s3) (by rw [shapeP,hk1]; dsimp only; rw [e]; dsimp only; rw [h]) v H3 j3 ((b1.trans b2).trans b3) rd3 hs3 (hv.mono (rd2.tk b3))⟩
theorem noF_shape {k:Nat} {f C cN:Addr} {fd:FuncData} : FnOk P w K mg base (CXF P w) k f fd ["reader"] (sp_shapeF C cN 0):=by
  have no : ∀ vs H Q E,¬ sp_shapeF C cN 0 vs H Q E:=fun vs H Q E h=>by
    obtain ⟨r,T,i,_,_,h1,_⟩:=h
    omega
  exact ⟨fun vs H Q E h=>absurd h (no vs H Q E),fun A outer s H args us vs Q E _ _ _ _ h=>absurd h (no vs H Q E)⟩
theorem allF_shape {k:Nat} {C cN f0 f1 f2 f3 f4 bd g1 g2 g3 g4 g5:Addr} {fd0 fd1 fd2 fd3 fd4 gd1 gd2 gd3 gd4 gd5:FuncData} (F0:Fun K "shape_from" "shape_from" s_shape_from f0 fd0) (F1:Fun K "bracket_from" "bracket_from" s_bracket_from f1 fd1) (F2:Fun K "if_from" "if_from" s_if_from f2 fd2) (F3:Fun K "let_from" "let_from" s_let_from f3 fd3) (F4:Fun K "two_from" "two_from" s_two_from f4 fd4)
    (b0:Binds K fd0 ["reader"] []) (b1:Binds K fd1 ["reader"] []) (b2:Binds K fd2 ["reader"] []) (b3:Binds K fd3 ["reader"] []) (b4:Binds K fd4 ["reader"] []) (m0:mg "shape_from" = some (.ref f0)) (m1:mg "bracket_from" = some (.ref f1)) (m2:mg "if_from" = some (.ref f2)) (m3:mg "let_from" = some (.ref f3)) (m4:mg "two_from" = some (.ref f4))
    (T_Reader:TxtR K mg C) (m_BETWEEN:mg "BETWEEN" = some (.ref bd)) (h_BETWEEN:KDicW K w.params bd betw) (hB:KBtw K bd) (m_NoText:mg "NoText" = some (.ref cN)) (x_NoText:PySem.W.excIn K cN bmVE "ValueError.__new__" = true)
    (G1:FnM P w K mg base k C "skipped" g1 gd1 ["self", "piece"] (sp_skipped C)) (G2:FnMF P w K mg base k C "skip" g2 gd2 ["self", "piece"] (sp_skipF C cN)) (G3:FnF P w K mg base k "word_from" g3 gd3 ["reader"] (sp_wordF C cN)) (G4:FnF P w K mg base k "atoms_from" g4 gd4 ["reader"] (sp_atomsF C cN)) (G5:FnF P w K mg base k "plain_leaf_from" g5 gd5 ["reader"] (sp_pleafF C cN)) :
    ∀ n : Nat,FnF P w K mg base (k + 3 * n) "shape_from" f0 fd0 ["reader"] (sp_shapeF C cN n)
  | 0=>⟨noF_shape,b0,F0.kp,m0⟩
  | n + 1=>by
    have S:=allF_shape F0 F1 F2 F3 F4 b0 b1 b2 b3 b4 m0 m1 m2 m3 m4 T_Reader m_BETWEEN h_BETWEEN hB m_NoText x_NoText G1 G2 G3 G4 G5 n
    have l0 : k ≤ k + 3 * n:=Nat.le_add_right _ _
    have l1 : k ≤ k + 3 * n + 1:=Nat.le_trans l0 (Nat.le_add_right _ _)
    have l2 : k ≤ k + 3 * n + 1 + 1:=Nat.le_trans l1 (Nat.le_add_right _ _)
    have I : FnF P w K mg base (k + 3 * n + 1) "if_from" f2 fd2 ["reader"] (sp_ifF C cN n):=⟨okF_if F2 T_Reader (G2.up l0) S,b2,F2.kp,m2⟩
    have L : FnF P w K mg base (k + 3 * n + 1) "let_from" f3 fd3 ["reader"] (sp_letF C cN n):=⟨okF_let F3 T_Reader (G2.up l0) S (G3.up l0),b3,F3.kp,m3⟩
    have W : FnF P w K mg base (k + 3 * n + 1) "two_from" f4 fd4 ["reader"] (sp_twoF C cN n):=⟨okF_two F4 T_Reader m_BETWEEN h_BETWEEN hB m_NoText x_NoText (G1.up l0) S,b4,F4.kp,m4⟩
    have B : FnF P w K mg base (k + 3 * n + 1 + 1) "bracket_from" f1 fd1 ["reader"] (sp_brkF C cN n):=⟨okF_bracket F1 T_Reader (G1.up l1) (G3.up l1) (S.up (Nat.le_add_right _ _)) I L W,b1,F1.kp,m1⟩
    exact ⟨okF_shape F0 T_Reader (G1.up l2) (G2.up l2) B (G3.up l2) (G4.up l2) (G5.up l2),b0,F0.kp,m0⟩
end
end K08
namespace L2
open PySem
def moF (s:Sg) : Nat:=(s.foldl moS (0,0)).1
theorem mo_up : ∀ (s:Sg) (m c:Nat),m ≤ (s.foldl moS (m,c)).1
  | [],m,c=>Nat.le_refl _
  | d :: s,m,c=>by
    rw [List.foldl_cons]
    have h:=mo_up s (moS (m,c) d).1 (moS (m,c) d).2
    have h2 : m ≤ (moS (m,c) d).1:=by
      unfold moS
      split
      · exact Nat.le_max_left _ _
      · split
        · exact Nat.le_max_left _ _
        · exact Nat.le_max_left _ _
    exact Nat.le_trans h2 h
theorem opn_mo : ∀ (s:Sg) (m c:Nat),c ≤ m → c + opn s ≤ (s.foldl moS (m,c)).1
  | [],m,c,h=>h
  | d :: s,m,c,h=>by
    rw [List.foldl_cons]
    by_cases h1 : d = 40
    · have e : moS (m,c) d = (max m (c + 1),c + 1):=if_pos h1
      have ih:=opn_mo s (max m (c + 1)) (c + 1) (Nat.le_max_right _ _)
      rw [e,opn,if_pos h1]
      omega
    · by_cases h2 : d = 41
      · have e : moS (m,c) d = (max m (c - 1),c - 1):=by unfold moS; rw [if_neg h1,if_pos h2]
        have ih:=opn_mo s (max m (c - 1)) (c - 1) (Nat.le_max_right _ _)
        have up:=mo_up s (max m (c - 1)) (c - 1)
        rw [e,opn,if_neg h1,if_pos h2]
        omega
      · have e : moS (m,c) d = (max m c,c):=by unfold moS; rw [if_neg h1,if_neg h2]
        have ih:=opn_mo s (max m c) c (Nat.le_max_right _ _)
        rw [e,opn,if_neg h1,if_neg h2]
        omega
theorem opn_le (s:Sg) : opn s ≤ moF s:=by
  have:=opn_mo s 0 0 (Nat.le_refl _)
  unfold moF
  omega
def Great (T:Str) : Prop:=2000 < T.length ∨ 16 < moF T.cps.toList
instance (T:Str) : Decidable (Great T):=inferInstanceAs (Decidable (_ ∨ _))
theorem rep_arrow : (PySem.reprText (Str.ofString " -> ")).length ≤ 1000:=rep_piece " -> " (by decide)
end L2
namespace K08
open PySem PySem.Spec L2 PyProof.Rows
abbrev s_most_open : Stmt:=top 24
theorem sc_most_open : FnScope ["text", "most", "count", "sign"] ["text"] (defScope s_most_open):=⟨rfl,rfl,rfl,by decide +kernel,rfl,by decide +kernel,by decide +kernel⟩
abbrev s_begun : Stmt:=top 25
theorem sc_begun : FnScope ["text"] ["text"] (defScope s_begun):=⟨rfl,rfl,rfl,by decide +kernel,rfl,by decide +kernel,by decide +kernel⟩
section
variable {P:Program} {w:World} {K:PySem.W.Frag} {mg:Str → Option Value} {base:Heap}
def sp_most : Sp:=fun vs H Q _=>∃ (T:Str),vs = [.str T] ∧ Q (.int (moF T.cps.toList : Int)) H
theorem ok_most {k:Nat} {f:Addr} {fd:FuncData} (F:Fun K "most_open" "most_open" s_most_open f fd) (z_max:mg "max" = none) : FnOk P w K mg base CX0 (k + 1) f fd ["text"] sp_most:=by
  refine F.ok sc_most_open (fun vs H Q E h=>?_) (fun cdv A outer s H vs Q E hr h=>?_)
  · obtain ⟨T,rfl,_⟩:=h
    rfl
  obtain ⟨T,rfl,q⟩:=h
  refine ⟨_,(pss_cons (ps_set (i:=1) sc_most_open.nd rfl (Or.inl rfl) pe_int)
    (pss_cons (ps_set (i:=2) sc_most_open.nd rfl (Or.inl rfl) pe_int)
    (pss_cons (ps_for PassesOwn.never rfl (pi_str (pv 0)) (pg_name (i:=3) sc_most_open.nd rfl (Or.inl rfl)) (pss_cons (ps_if (pt_cmpR op_eq (pv 3) pe_str (nomark _)) (pss_one (ps_aug (i:=2) sc_most_open.nd rfl (Or.inl rfl) pe_int ip_add)) (pss_one (ps_if (pt_cmpR op_eq (pv 3) pe_str (nomark _)) (pss_one (ps_set (i:=2) sc_most_open.nd rfl (Or.inl rfl) (pe_callB (call_max2 rfl) (by rfl) z_max PyProof.Rows.boot_max (pa_cons (pe_op op_sub (pv 2) pe_int) (pa_cons pe_int pa_nil))))) pss_nil)))
    (pss_one (ps_set (i:=1) sc_most_open.nd rfl (Or.inl rfl) (pe_callB (call_max2 rfl) (by rfl) z_max PyProof.Rows.boot_max (pa_cons (pv 1) (pa_cons (pv 2) pa_nil)))))))
    (pss_one (ps_ret (pv 1)))))),?_⟩
  refine ⟨_,rfl,_,rfl,?_⟩
  refine for_str (x:=T) (fun i σ' H'=>∃ s3 : Option V,σ' = [some (.str T),some (.int (((T.cps.toList.take i).foldl moS (0,0)).1 : Int)),some (.int (((T.cps.toList.take i).foldl moS (0,0)).2 : Int)),s3] ∧ H' = H) ⟨none,rfl,rfl⟩ ?_ ?_
  · rintro i c σ' H' hc ⟨s3,rfl,rfl⟩
    have hc' : T.cps.toList[i]? = some c:=by rw [Array.getElem?_toList]; exact hc
    have en : (T.cps.toList.take (i + 1)).foldl moS (0,0) = moS ((T.cps.toList.take i).foldl moS (0,0)) c:=by
      rw [take_next hc',List.foldl_append]
      rfl
    generalize (T.cps.toList.take i).foldl moS (0,0) = p at en ⊢
    rw [en]
    refine ⟨_,rfl,rfl,_,rfl,ite2 (fun z=>?_) (fun z=>?_)⟩
    · have e : c = 40:=par_eq.1.mp (of_decide_eq_true z)
      have e2 : moS p c = (max p.1 (p.2 + 1),p.2 + 1):=by rw [e]; rfl
      refine ⟨_,rfl,_,_,rfl,rfl,_,rfl,_,rfl,_,_,rfl,some (.str ⟨#[c]⟩),?_,rfl⟩
      rw [e2]
      have:=max_nat p.1 (p.2 + 1)
      rw [show ((p.2 + 1 : Nat) : Int) = (p.2 : Int) + 1 from rfl] at this ⊢
      rw [this]
      rfl
    · have n1 : c ≠ 40:=fun h=>z (decide_eq_true (par_eq.1.mpr h))
      refine ⟨_,rfl,rfl,_,rfl,ite2 (fun z2=>?_) (fun z2=>?_)⟩
      · have e : c = 41:=par_eq.2.mp (of_decide_eq_true z2)
        have e2 : moS p c = (max p.1 (p.2 - 1),p.2 - 1):=by rw [e]; rfl
        refine ⟨_,rfl,_,_,rfl,rfl,_,_,rfl,_,rfl,_,rfl,_,_,rfl,some (.str ⟨#[c]⟩),?_,rfl⟩
        rw [e2]
        dsimp only
        rw [max_pred,max_nat]
        rfl
      · have n2 : c ≠ 41:=fun h=>z2 (decide_eq_true (par_eq.2.mpr h))
        have e2 : moS p c = (max p.1 p.2,p.2):=by unfold moS; rw [if_neg n1,if_neg n2]
        refine ⟨_,rfl,_,rfl,_,_,rfl,some (.str ⟨#[c]⟩),?_,rfl⟩
        rw [e2,max_nat]
        rfl
  · rintro σ' H' ⟨s3,rfl,rfl⟩
    have et : T.cps.toList.take T.cps.size = T.cps.toList:=List.take_of_length_le (by rw [Array.length_toList]; exact Nat.le_refl _)
    rw [et]
    exact ⟨_,rfl,q⟩
def sp_begunF (C cG:Addr) : Sp:=fun vs H Q E=>∃ (T:Str),vs = [.str T] ∧ T.length ≤ 10000 ∧ (Great T → E (.ref cG) none H) ∧ (¬ Great T → ∀ (r:Addr) (H':Hp),Same H H' → H r = none → RdAt C H' r T 0 → Q (.ref r) H')
theorem okF_begun {k:Nat} {f C cG g1 g2:Addr} {fd gd1 gd2:FuncData} {tk tk2:Tok} (F:Fun K "begun" "begun" s_begun f fd) (z_len:mg "len" = none) (m_MOST_SIGNS:mg "MOST_SIGNS" = some (.int 2000 tk)) (m_MOST_OPEN:mg "MOST_OPEN" = some (.int 16 tk2)) (T_Reader:TxtR K mg C) (MK_Reader:Mk K C g2) (m_TooGreat:mg "TooGreat" = some (.ref cG)) (x_TooGreat:PySem.W.excIn K cG bmVE "ValueError.__new__" = true)
    (G_most_open:FnB P w K mg base (k + 1) "most_open" g1 gd1 ["text"] sp_most) (G_Reader___init__:FnM P w K mg base k C "__init__" g2 gd2 ["self", "text"] (sp_init C)) : FnOk P w K mg base (CXF P w) (k + 1 + 1) f fd ["text"] (sp_begunF C cG):=by
  refine F.okF sc_begun (fun vs H Q E h=>?_) (fun cdv A outer s H vs Q E hr h=>?_)
  · obtain ⟨T,rfl,_⟩:=h
    rfl
  obtain ⟨T,rfl,hT,qG,q⟩:=h
  refine ⟨_,(pss_cons (ps_if (pt_cmpR op_gt (pe_callB call_len_str (by rfl) z_len PySem.boot_len (pa_cons (pv 0) pa_nil)) (pe_glob (v:=.int 2000) (by rfl) m_MOST_SIGNS ⟨_,rfl⟩) (nomark _)) (pss_one (ps_raise (by rfl) m_TooGreat x_TooGreat (pa_cons pe_str pa_nil))) pss_nil)
    (pss_cons (ps_if (pt_cmpR op_gt (pe_call G_most_open.ok hr (by rfl) G_most_open.gl G_most_open.kp G_most_open.bd .nil pass0 (pa_cons (pv 0) pa_nil)) (pe_glob (v:=.int 16) (by rfl) m_MOST_OPEN ⟨_,rfl⟩) (nomark _)) (pss_one (ps_raise (by rfl) m_TooGreat x_TooGreat (pa_cons pe_str pa_nil))) pss_nil)
    (pss_one (ps_ret (pe_make MK_Reader G_Reader___init__.ok hr (by rfl) T_Reader.mgC G_Reader___init__.bd .nil pass0 (pa_cons (pv 0) pa_nil)))))),?_⟩
  have d1 : 1 ≤ sizeLine:=by decide
  refine ⟨_,rfl,T,rfl,line_of (by omega),_,_,rfl,rfl,_,rfl,ite2 (fun c=>?_) (fun c=>?_)⟩
  · have c' : (2000:Int) < (T.length : Int):=of_decide_eq_true c
    exact ⟨d1,qG (.inl (by omega))⟩
  have c' : ¬ (2000 < T.length):=fun z=>c (decide_eq_true (by show (2000:Int) < (T.length : Int); omega))
  refine ⟨_,rfl,T,rfl,_,_,rfl,rfl,_,rfl,ite2 (fun c2=>?_) (fun c2=>?_)⟩
  · have c2' : (16:Int) < (moF T.cps.toList : Int):=of_decide_eq_true c2
    exact ⟨d1,qG (.inr (by omega))⟩
  have c2' : ¬ (16 < moF T.cps.toList):=fun z=>c2 (decide_eq_true (by show (16:Int) < (moF T.cps.toList : Int); omega))
  refine ⟨_,rfl,?_⟩
  intro x dx nx ndx nex
  refine ⟨x,dx,T,rfl,upd_same,by omega,fun H1 b1 rd1=>⟨rfl,?_⟩⟩
  refine q (fun z=>z.elim c' c2') x H1 (fun b o e=>?_) nx rd1
  have nb : b ≠ x:=ne_of_none e nx
  have nd : b ≠ dx:=ne_of_none e ndx
  exact b1 b o nb (by rw [upd_ne nb,upd_ne nd]; exact e)
end
end K08
namespace PySem
open Sem (wp)
theorem si_next : Slot "set_iterator" "__next__" "set_iterator.__next__" := .of (owner := "set_iterator") (n := "__next__") (by rw [typeLookup_type,builtinLookup_eq_fast]; kernel_rfl) (by decide +kernel) (by decide +kernel) (by decide +kernel) (by first | exact .inl (by decide +kernel) | exact .inr (by decide +kernel)) (by rw [isSubtype_type]; kernel_rfl)
theorem si_next_entry : entryFor table "set_iterator.__next__" = some Builtin.«set_iterator.__next__»:=entryFor_of_tree (by kernel_rfl)
theorem si_iter : Slot "set_iterator" "__iter__" "set_iterator.__iter__" := .of (owner := "set_iterator") (n := "__iter__") (by rw [typeLookup_type,builtinLookup_eq_fast]; kernel_rfl) (by decide +kernel) (by decide +kernel) (by decide +kernel) (by first | exact .inl (by decide +kernel) | exact .inr (by decide +kernel)) (by rw [isSubtype_type]; kernel_rfl)
theorem si_owner : Manifest.owners.lookup (String.ofList ['r', 'o', 't', 'a', 'r', 'e', 't', 'i', '_', 't', 'e', 's'].reverse) = some Manifest.sig_set_iterator:=by kernel_rfl
theorem si_next_args (a:Value) : argsOk "set_iterator.__next__" ⟨[a],[]⟩:=by unfold argsOk; rw [signature?_of (id := "set_iterator.__next__") (n:=['_', '_', 't', 'x', 'e', 'n', '_', '_']) (o:=['r', 'o', 't', 'a', 'r', 'e', 't', 'i', '_', 't', 'e', 's']) (by kernel_rfl) si_owner]; kernel_rfl
theorem si_iter_args (a:Value) : argsOk "set_iterator.__iter__" ⟨[a],[]⟩:=by unfold argsOk; rw [signature?_of (id := "set_iterator.__iter__") (n:=['_', '_', 'r', 'e', 't', 'i', '_', '_']) (o:=['r', 'o', 't', 'a', 'r', 'e', 't', 'i', '_', 't', 'e', 's']) (by kernel_rfl) si_owner]; kernel_rfl
theorem si_iter_entry : entryFor table "set_iterator.__iter__" = some Builtin.«dict_keyiterator.__iter__»:=entryFor_alias (id' := "dict_keyiterator.__iter__") (by kernel_rfl) (by first | rfl | decide +kernel | (unfold String.splitOn; simp +decide [String.splitOnAux])) (by decide +kernel) (by kernel_rfl)
theorem set_iter_entry : entryFor table "set.__iter__" = some Builtin.«frozenset.__iter__»:=entryFor_alias (id' := "frozenset.__iter__") (by kernel_rfl) (by first | rfl | decide +kernel | (unfold String.splitOn; simp +decide [String.splitOnAux])) (by decide +kernel) (by kernel_rfl)
def OneSet (h:Heap) (d:Addr) (e:Int × Value) (ep:Nat) (t:SetTable) : Prop:=∃ o,h.get? d = some o ∧ o.ExactSet ∧ o.data = .set #[e] ep t
theorem OneSet.at {h h':Heap} {d:Addr} {e:Int × Value} {ep:Nat} {t:SetTable} (x:OneSet h d e ep t) (k:∀ o,h.get? d = some o → h'.get? d = some o) : OneSet h' d e ep t:=let ⟨o,ho,r⟩:=x; ⟨o,k _ ho,r⟩
section
variable {prog:Program} {w:World} {A:Around} {E:Value → Shared → Prop} {s:Shared} {d it:Addr} {e:Int × Value} {ep i:Nat} {t:SetTable}
theorem set_hint {Q:Bool → Shared → Prop} (hT:s.TypeIs (.ref d) "set") (h:Q false s) : wpAny (model prog w) A (Builtin.List.listLengthHint (.ref d)) Q E s:=by
  unfold Builtin.List.listLengthHint
  refine wpAny_bind (wpAny_specialOf hT F.slot_set_len.lookup ?_)
  dsimp only
  rw [show splitId "set.__len__" = some ("set", "__len__") from by decide +kernel]
  dsimp only
  refine wpAny_bind (wpAny_isInstance hT sub_set_self ?_)
  refine wpAny_ite_false (by rfl) ?_
  refine wpAny_ite_true (by rfl) ?_
  refine wpAny_bind (wpAny_typeOf hT ?_)
  exact wpAny_pure h
theorem no_drawn1 : ∀ c : Bool,decide ((c && false) = true) = false:=by decide
theorem one_pick (f:Nat → Nat) : pickOrder f #[e] = #[e]:=by
  unfold pickOrder
  simp [pickOrder.go,Nat.mod_one]
theorem one_below (p:Nat) : SetTable.below #[p] 0 = 0 ∧ SetTable.below #[p] (p + 1) = 1:=by
  constructor
  · unfold SetTable.below
    simp [SetTable.below.go]
  · unfold SetTable.below
    simp [SetTable.below.go]
structure TabOk (w:World) (t:SetTable) (p:Nat) : Prop where
  ft : t.fits 1 = true
  pl : t.place = #[p]
  ld : w.params.followText "set-order" = false → t.led = true
def SitAt (h:Heap) (it d:Addr) (sl i ep:Nat) : Prop:=∃ o,h.get? it = some o ∧ o.cls = .type "set_iterator" ∧ o.data = .fields #[rawInt (sl:Int),rawInt (i:Int),.ref d,rawInt (1:Int),rawInt (ep:Int)]
theorem SitAt.typeIs {sl:Nat} (x:SitAt s.heap it d sl i ep) : s.TypeIs (.ref it) "set_iterator" := let ⟨o,ho,hc,_⟩:=x; ⟨o,ho,hc⟩
theorem SitAt.at {h h':Heap} {sl:Nat} (x:SitAt h it d sl i ep) (k:∀ o,h.get? it = some o → h'.get? it = some o) : SitAt h' it d sl i ep:=let ⟨o,ho,r⟩:=x; ⟨o,k _ ho,r⟩
def slOk (w:World) (p i sl:Nat) : Prop:=if w.params.followText "set-order" = true then True else sl = (if i = 0 then 0 else p + 1)
theorem sit_two {sl sl' i':Nat} {x:Value} {Q:Fin → Shared → Prop} (hit:SitAt s.heap it d sl i ep) (hQ:∀ h',SitAt h' it d sl' i' ep → Heap.SameBut it s.heap h' → Q (.done (.ret x)) { s with heap:=h' }) :
    wpAny (model prog w) A (setField (.ref it) 0 (rawInt (sl':Int)) >>= fun _=>setField (.ref it) 1 (rawInt (i':Int)) >>= fun _=>ret x) Q E s:=by
  obtain ⟨o,ho,hc,hd⟩:=hit
  refine wpAny_bind (wpAny_setField ho hd (by simp) ?_)
  have hd1 : (Obj.mapFields (·.setIfInBounds 0 (rawInt (sl':Int))) o).data = .fields #[rawInt (sl':Int),rawInt (i:Int),.ref d,rawInt (1:Int),rawInt (ep:Int)]:=by rw [Obj.data_mapFields hd]; simp
  have ho1:=Heap.get?_update_self (h:=s.heap) (Obj.mapFields (·.setIfInBounds 0 (rawInt (sl':Int)))) ho (Obj.isFreed_of_fields hd1)
  refine wpAny_bind (wpAny_setField (s:={ s with heap:=s.heap.update it (Obj.mapFields (·.setIfInBounds 0 (rawInt (sl':Int)))) }) ho1 hd1 (by simp) ?_)
  refine wpAny_pure (hQ _ ⟨_,Heap.get?_update_self _ ho1 (Obj.isFreed_of_fields (Obj.data_mapFields hd1 _)),(Obj.cls_mapFields ..).trans ((Obj.cls_mapFields ..).trans hc),?_⟩ ((Heap.SameBut.update ..).trans (Heap.SameBut.update ..)))
  rw [Obj.data_mapFields hd1]
  simp
theorem sit_end {sl:Nat} {Q:Option Value → Shared → Prop} (hh:A.handled = none) (hit:SitAt s.heap it d sl i ep) (hQ:∀ h',Heap.ExtBut it s.heap h' → Q none { s with heap:=h' }) :
    wpAny (model prog w) A.in1 (setField (.ref it) 2 .none >>= fun _=>newExc (.type "StopIteration") [] >>= fun x=>raiseNew x) (fun fin s'=>∃ v,fin = Fin.done (Flow.ret v) ∧ wpAny (model prog w) A (pure (some v)) Q E s')
      (fun e s'=>wpAny (model prog w) A (do let b ← isInstance e (.type "StopIteration"); if b = true then pure none else throw e) Q E s') s:=by
  obtain ⟨o,ho,hc,hd⟩:=hit
  refine wpAny_bind (wpAny_setField ho hd (by simp) ?_)
  show wpAny _ _ (newExc (.type "StopIteration") [] >>= _) _ _ _; refine wpAny_bind ?_
  simp only [newExc,newTuple]; refine wpAny_bind (wpAny_newObj_type ?_ (by size_fits))
  refine wpAny_bind (m:=firstArgMember _ _) (wpAny_of_eq (a:=Value.none) (by first | rfl | (simp only [firstArgMember]; rfl)) (wpAny_newObj_type ?_ (by size_fits)))
  simp only [raiseNew]; refine wpAny_bind (wpAny_handled ?_); rw [show A.in1.handled = none from hh]
  refine wpAny_bind (wpAny_pure (wpAny_throw ?_)); refine wpAny_bind (wpAny_isInstance (T := "StopIteration") (b:=true) ⟨_,Heap.get?_push_size _ rfl,rfl⟩ isSubtype_stop ?_)
  exact wpAny_pure (hQ _ (((Heap.SameBut.update ..).extBut.push _).push _))
theorem one_next {p sl:Nat} {Q:Option Value → Shared → Prop} (tok:TabOk w t p) (hit:SitAt s.heap it d sl 0 ep) (hsl:slOk w p 0 sl) (hm:OneSet s.heap d e ep t)
    (hQ:∀ h' sl',slOk w p 1 sl' → SitAt h' it d sl' 1 ep → Heap.SameBut it s.heap h' → Q (some e.2) { s with heap:=h' }) : wpAny (model prog w) A (pyNext (.ref it)) Q E s:=by
  obtain ⟨o,ho,hc,hd⟩:=id hit
  obtain ⟨od,hod,hcd,hdd⟩:=id hm
  unfold pyNext
  refine wpAny_bind (wpAny_attempt (wpAny_callSpecial?_slot (name:=Str.ofString "__next__") hit.typeIs si_next (wpAny_call_entry si_next hit.typeIs si_next_entry ?_ (si_next_args _))))
  unfold Builtin.«set_iterator.__next__»
  refine wpAny_bind (wpAny_of_eq (a:=(Value.ref it,[])) rfl ?_); dsimp only
  refine wpAny_bind (wpAny_fieldsOf ho hd ?_)
  show wpAny _ _ (setEntries d >>= _) _ _ _
  refine wpAny_bind (wpAny_setEntries_of hod hdd tok.ft ?_)
  refine wpAny_ite_false (by rfl) ?_
  show wpAny _ _ (setNext d _ _ _ >>= _) _ _ _
  refine wpAny_bind ?_
  unfold setNext
  refine wpAny_bind (wpAny_setState_of hod hdd tok.ft ?_)
  dsimp only
  unfold setsByText
  refine wpAny_bind (wpAny_bind (wpAny_askSetting (wpAny_pure ?_)))
  by_cases hf : w.params.followText "set-order" = true
  · refine wpAny_ite_true (decide_eq_true hf) ?_
    refine wpAny_ite_false (by simp [rawInt]) ?_
    unfold setWalk
    refine wpAny_bind (wpAny_bind (wpAny_setState_of hod hdd tok.ft ?_))
    dsimp only
    unfold setsByText
    refine wpAny_bind (wpAny_bind (wpAny_askSetting (wpAny_pure ?_)))
    refine wpAny_ite_true (decide_eq_true hf) ?_
    refine wpAny_bind (wpAny_askSetting (wpAny_pure ?_))
    rw [one_pick]
    refine wpAny_pure ?_
    exact sit_two (sl':=sl) (i':=1) hit fun h' x1 x2=>⟨_,rfl,wpAny_pure (hQ h' sl (by unfold slOk; rw [if_pos hf]; trivial) x1 x2)⟩
  · have hl:=tok.ld (Bool.eq_false_iff.mpr hf)
    have hs0 : sl = 0:=by unfold slOk at hsl; rw [if_neg hf] at hsl; exact hsl
    subst hs0
    refine wpAny_ite_false (decide_eq_false hf) ?_
    refine wpAny_ite_false (no_drawn1 _) ?_
    refine wpAny_bind (wpAny_ite_false (by rw [hl]; rfl) (wpAny_pure (wpAny_pure ?_)))
    rw [tok.pl]
    have e1 : SetTable.below #[p] ((0:Nat) : Int).toNat = 0:=(one_below p).1
    simp only [e1]
    exact sit_two (sl':=p + 1) (i':=1) hit fun h' x1 x2=>⟨_,rfl,wpAny_pure (hQ h' (p + 1) (by unfold slOk; rw [if_neg hf]; rfl) x1 x2)⟩
theorem one_end {p sl:Nat} {Q:Option Value → Shared → Prop} (hh:A.handled = none) (tok:TabOk w t p) (hit:SitAt s.heap it d sl 1 ep) (hsl:slOk w p 1 sl) (hm:OneSet s.heap d e ep t)
    (hQ:∀ h',Heap.ExtBut it s.heap h' → Q none { s with heap:=h' }) : wpAny (model prog w) A (pyNext (.ref it)) Q E s:=by
  obtain ⟨o,ho,hc,hd⟩:=id hit
  obtain ⟨od,hod,hcd,hdd⟩:=id hm
  unfold pyNext
  refine wpAny_bind (wpAny_attempt (wpAny_callSpecial?_slot (name:=Str.ofString "__next__") hit.typeIs si_next (wpAny_call_entry si_next hit.typeIs si_next_entry ?_ (si_next_args _))))
  unfold Builtin.«set_iterator.__next__»
  refine wpAny_bind (wpAny_of_eq (a:=(Value.ref it,[])) rfl ?_); dsimp only
  refine wpAny_bind (wpAny_fieldsOf ho hd ?_)
  show wpAny _ _ (setEntries d >>= _) _ _ _
  refine wpAny_bind (wpAny_setEntries_of hod hdd tok.ft ?_)
  refine wpAny_ite_false (by rfl) ?_
  show wpAny _ _ (setNext d _ _ _ >>= _) _ _ _
  refine wpAny_bind ?_
  unfold setNext
  refine wpAny_bind (wpAny_setState_of hod hdd tok.ft ?_)
  dsimp only
  unfold setsByText
  refine wpAny_bind (wpAny_bind (wpAny_askSetting (wpAny_pure ?_)))
  by_cases hf : w.params.followText "set-order" = true
  · refine wpAny_ite_true (decide_eq_true hf) ?_
    refine wpAny_ite_false (by simp [rawInt]) ?_
    unfold setWalk
    refine wpAny_bind (wpAny_bind (wpAny_setState_of hod hdd tok.ft ?_))
    dsimp only
    unfold setsByText
    refine wpAny_bind (wpAny_bind (wpAny_askSetting (wpAny_pure ?_)))
    refine wpAny_ite_true (decide_eq_true hf) ?_
    refine wpAny_bind (wpAny_askSetting (wpAny_pure ?_))
    rw [one_pick]
    refine wpAny_pure ?_
    exact sit_end hh hit hQ
  · have hl:=tok.ld (Bool.eq_false_iff.mpr hf)
    have hs0 : sl = p + 1:=by unfold slOk at hsl; rw [if_neg hf] at hsl; exact hsl
    subst hs0
    refine wpAny_ite_false (decide_eq_false hf) ?_
    refine wpAny_ite_false (no_drawn1 _) ?_
    refine wpAny_bind (wpAny_ite_false (by rw [hl]; rfl) (wpAny_pure (wpAny_pure ?_)))
    rw [tok.pl]
    have e1 : SetTable.below #[p] ((p + 1 : Nat) : Int).toNat = 1:=(one_below p).2
    simp only [e1]
    exact sit_end hh hit hQ
theorem sit_self {sl:Nat} {Q:Value → Shared → Prop} (hit:SitAt s.heap it d sl i ep) (h:Q (.ref it) s) : wpAny (model prog w) A (pyIter (.ref it)) Q E s:=by
  have hT:=hit.typeIs
  refine wpAny_pyIter_slot hT si_iter (wpAny_call_entry si_iter hT si_iter_entry ?_ (si_iter_args _)); show wpAny _ _ (ret (.ref it)) _ _ s
  exact wpAny_pure ⟨_,rfl, "set_iterator", _,hT,si_next.lookup,h⟩
theorem walks_one {p:Nat} (hh:A.handled = none) (I d:Addr) (hne:d ≠ I) (e:Int × Value) (ep:Nat) (tok:TabOk w t p) :
    Walks prog w A I [I,d] [I] 1 (fun i v=>v = e.2) (fun i h=>(∃ sl,SitAt h I d sl i ep ∧ slOk w p i sl) ∧ OneSet h d e ep t) where
  sub:=fun b hb=>by simp at hb; simp [hb]
  frame:=fun _ _ _ st hk=>⟨let ⟨sl,x,y⟩:=st.1; ⟨sl,x.at fun o e=>hk I (by simp) o e,y⟩,st.2.at fun o e=>hk d (by simp) o e⟩
  item:=fun i s Q E hi st hQ=>by
    have i0 : i = 0:=by omega
    subst i0
    obtain ⟨⟨sl,x,y⟩,om⟩:=st
    exact one_next tok x y om fun h' sl' y' x' hs'=>hQ _ h' s.toks rfl ⟨⟨sl',x',y'⟩,om.at fun o e=>hs'.extBut d o hne e⟩ fun b o hb e=>hs'.extBut b o (fun h=>hb (by simp [h])) e
  done:=fun s Q E st hQ=>by
    obtain ⟨⟨sl,x,y⟩,om⟩:=st
    exact one_end hh tok x y om fun h' he'=>hQ h' s.toks fun b o hb e=>he' b o (fun h=>hb (by simp [h])) e
  self:=fun _ _ _ _ st hQ=>let ⟨⟨_,x,_⟩,_⟩:=st; sit_self x hQ
end
end PySem
namespace PySem.W
open PySem
end PySem.W
namespace PySem
open Sem (wp)
section
variable {prog:Program} {w:World} {A:Around} {E:Value → Shared → Prop} {s:Shared}
theorem code_set_led (a:Value) {Q₁:Value → Shared → Prop} (h:Q₁ (.ref s.heap.objs.size) { s with heap:=s.heap.push { cls:=.type "set", data:=.set #[] 0 (SetTable.fresh 0 0 (!w.params.followText "set-order")) } }) :
    codeAny (model prog w) A (.call (.builtin "set.__new__") ⟨[.type "set", a],[]⟩) (wants Q₁ E) s:=by
  refine codeAny_of_tree ?_
  show wpAny _ _ (checkBuiltinCall "set.__new__" _ >>= _) _ _ _
  refine wpAny_bind (wpAny_of_eq (F.newCall_set_1 a) (wpAny_pure ⟨plainId_quiet F.plain_set_new _,codeAny_builtin F.entry_set_new ?_⟩))
  rw [Around.under_plainId F.plain_set_new _]
  have hsub:=sub_set_self
  obtain ⟨hp,g,d,tk,os⟩:=s
  unfold Builtin.«set.__new__»
  refine wpAny_bind ?_
  unfold Builtin.Frozenset.newClass
  dsimp only
  refine wpAny_bind (wpAny_of_eq (a:=true) rfl ?_)
  refine wpAny_ite_false (by rfl) ?_
  refine wpAny_bind (wpAny_of_eq hsub (wpAny_ite_false (by rfl) (wpAny_pure ?_)))
  refine wpAny_bind ?_
  unfold newSet
  refine wpAny_bind (m:=setsByText) (wpAny_bind (wpAny_askSetting (wpAny_pure ?_)))
  dsimp only
  refine wpAny_newObj_type ?_ (by size_fits)
  exact wpAny_pure h
theorem set_fresh_fits (b:Bool) : (SetTable.fresh 0 0 b).fits 0 = true:=by cases b <;> rfl
def setObj (es:Array (Int × Value)) (ep:Nat) (t:SetTable) : Obj:={ cls:=.type "set", data:=.set es ep t }
end
end PySem
namespace PySem
open Sem (wp)
section
variable {prog:Program} {w:World} {A:Around} {E:Value → Shared → Prop} {s:Shared}
theorem erase_perm {α:Type} : ∀ (xs:List α) (i:Nat) (h:i < xs.length),(xs[i] :: xs.eraseIdx i).Perm xs
  | x :: r,0,_=>List.Perm.refl _
  | x :: r,i + 1,h=>((List.Perm.swap x (r[i]'(by simpa using h)) (r.eraseIdx i))).trans ((erase_perm r i (by simpa using h)).cons x)
theorem wpAny_choose {src:Source} {n:Nat} {Q:Nat → Shared → Prop} (hn:n ≠ 0) (h:∀ d',Q (w.draws src (s.drawn.get src) % n) { s with drawn:=d' }) : wpAny (model prog w) A (choose src n) Q E s:=by
  intro Γ p hΓ
  unfold choose
  rw [Sem.wp_choose]
  exact ⟨hn,h _⟩
theorem wpAny_drawOrder {α:Type} : ∀ (n:Nat) (xs:List α) {Q:List α → Shared → Prop} {s:Shared},xs.length = n → (∀ ys d',ys.Perm xs → Q ys { s with drawn:=d' }) → wpAny (model prog w) A (drawOrder n xs) Q E s
  | 0,xs,Q,s,hl,h=>by
    have e : xs = []:=List.eq_nil_of_length_eq_zero hl
    subst e
    unfold drawOrder
    exact wpAny_pure (h [] s.drawn (List.Perm.refl _))
  | n + 1,[],Q,s,hl,h=>by cases hl
  | n + 1,x :: xs,Q,s,hl,h=>by
    unfold drawOrder
    refine wpAny_bind (wpAny_choose (by simp) fun d'=>?_)
    have hlt : w.draws .order (s.drawn.get .order) % (x :: xs).length < (x :: xs).length:=Nat.mod_lt _ (by simp)
    generalize w.draws .order (s.drawn.get .order) % (x :: xs).length = i at hlt ⊢
    have e : (x :: xs)[i]? = some (x :: xs)[i]:=List.getElem?_eq_getElem hlt
    rw [e]
    dsimp only
    refine wpAny_bind (wpAny_drawOrder n ((x :: xs).eraseIdx i) (by rw [List.length_eraseIdx_of_lt hlt]; omega) fun ys d2 hp=>?_)
    refine wpAny_pure (h _ d2 ?_)
    exact (hp.cons _).trans (erase_perm _ i hlt)
theorem pick_go {α:Type} (f:Nat → Nat) : ∀ (n i:Nat) (xs:List α) (acc:Array α),xs.length = n → (pickOrder.go f n i xs acc).toList.Perm (acc.toList ++ xs)
  | 0,i,xs,acc,h=>by
    have e : xs = []:=List.eq_nil_of_length_eq_zero h
    subst e
    rw [pickOrder.go,List.append_nil]
  | n + 1,i,[],acc,h=>by cases h
  | n + 1,i,x :: xs,acc,h=>by
    rw [pickOrder.go]
    have hlt : f i % (x :: xs).length < (x :: xs).length:=Nat.mod_lt _ (by simp)
    generalize f i % (x :: xs).length = j at hlt ⊢
    rw [List.getElem?_eq_getElem hlt]
    dsimp only
    refine (pick_go f n (i + 1) _ _ (by rw [List.length_eraseIdx_of_lt hlt]; omega)).trans ?_
    rw [Array.toList_push,List.append_assoc]
    exact (erase_perm _ j hlt).append_left _
theorem pick_perm {α:Type} (f:Nat → Nat) (es:Array α) : (pickOrder f es).toList.Perm es.toList:=by
  unfold pickOrder
  exact pick_go f _ 0 _ #[] (by simp)
def SetN (h:Heap) (d:Addr) (es:Array (Int × Value)) (ep:Nat) (t:SetTable) : Prop:=h.get? d = some (setObj es ep t)
theorem SetN.at {h h':Heap} {d:Addr} {es:Array (Int × Value)} {ep:Nat} {t:SetTable} (x:SetN h d es ep t) (k:∀ o,h.get? d = some o → h'.get? d = some o) : SetN h' d es ep t:=k _ x
theorem SetN.typeIs {d:Addr} {es:Array (Int × Value)} {ep:Nat} {t:SetTable} (x:SetN s.heap d es ep t) : s.TypeIs (.ref d) "set" := ⟨_,x,rfl⟩
structure TabN (w:World) (es:Array (Int × Value)) (t:SetTable) : Prop where
  ft : t.fits es.size = true
  ld : w.params.followText "set-order" = false → t.led = true
  pl : 1 ≤ es.size → t.plain = false
def strOf : Value → Str
  | .str x _=>x
  | _=>⟨#[]⟩
structure EsOk (es:Array (Int × Value)) (ks:List Str) : Prop where
  tx : ∀ e ∈ es.toList,∃ x t,e.2 = .str x t
  pm : (es.toList.map fun e=>strOf e.2).Perm ks
theorem orStand_keep (t:SetTable) (n:Nat) : (t.orStandIn n).led = t.led ∧ (t.plain = false → (t.orStandIn n).plain = false):=by
  unfold SetTable.orStandIn
  split
  · exact ⟨rfl,fun h=>h⟩
  · exact ⟨rfl,fun _=>rfl⟩
theorem lay_keep (t:SetTable) (es:Array (Int × Value)) (h:Int) (x:Value) : (layNew t es h x).2.1.led = t.led ∧ (t.plain = false → (layNew t es h x).2.1.plain = false):=by
  unfold layNew
  cases e : t.freeSlot h with
  | none=>exact ⟨rfl,fun _=>rfl⟩
  | some q =>
    obtain ⟨j,wd⟩:=q
    exact orStand_keep (t.put j).1 (SetTable.insertAt es (t.put j).2 (h,x)).size
theorem relay_keep (t:SetTable) (es:Array (Int × Value)) (n:Nat) : (relayAll t es n).2.1.led = t.led ∧ (t.plain = false → (relayAll t es n).2.1.plain = false):=by
  unfold relayAll
  cases e : t.relaid (es.map (·.1)) n with
  | none=>exact ⟨rfl,fun _=>rfl⟩
  | some q =>
    obtain ⟨t',order⟩:=q
    have ht : t'.led = t.led ∧ t'.plain = t.plain:=by
      unfold SetTable.relaid SetTable.laid at e
      cases e2 : SetTable.layClean (SetTable.sizeAbove n - 1) (es.map (·.1)) with
      | none=>rw [e2] at e; cases e
      | some owner =>
        rw [e2] at e
        have e3:=congrArg (Option.map (·.1)) e
        have e4 : some _ = some t':=e3
        injection e4 with e4
        rw [← e4]
        exact ⟨rfl,rfl⟩
    dsimp only
    split
    · exact ⟨ht.1,fun h=>by rw [ht.2]; exact h⟩
    · exact ⟨rfl,fun _=>rfl⟩
theorem EsOk.mem {es:Array (Int × Value)} {ks:List Str} (h:EsOk es ks) (x:Str) : x ∈ ks ↔ ∃ e ∈ es.toList,e.2.isStr x = true:=by
  rw [← h.pm.mem_iff,List.mem_map]
  constructor
  · rintro ⟨e,he,rfl⟩
    obtain ⟨y,t,ey⟩:=h.tx e he
    exact ⟨e,he,by rw [ey]; simp [strOf,Value.isStr]⟩
  · rintro ⟨e,he,hs⟩
    obtain ⟨y,t,ey⟩:=h.tx e he
    refine ⟨e,he,?_⟩
    rw [ey] at hs ⊢
    simpa [Value.isStr,strOf] using hs
theorem set_add_txt {d:Addr} {x:Str} {tk:Tok} {h0:Int} {es:Array (Int × Value)} {ep:Nat} {t:SetTable} {ks:List Str} {Q:Bool → Shared → Prop} (hd:SetN s.heap d es ep t) (ht:TabN w es t) (he:EsOk es ks) (hsz:es.size < 200)
    (hQ0:x ∈ ks → Q false s) (hQ1:x ∉ ks → ∀ h' es' ep' t',SetN h' d es' ep' t' → TabN w es' t' → EsOk es' (ks ++ [x]) → es'.size = es.size + 1 → Heap.SameBut d s.heap h' → Q true { s with heap:=h' }) : wpAny (model prog w) A (setAddHashed d (.str x tk) h0) Q E s:=by
  have hall : (es.all fun e=>isExactStrKey e.2) = true:=by
    rw [Array.all_eq_true_iff_forall_mem]
    intro e hm
    obtain ⟨y,t,ey⟩:=he.tx e (by simpa using hm)
    rw [ey]
    rfl
  have hscan : (es.all fun e=>e.2.scannable) = true:=by
    rw [Array.all_eq_true_iff_forall_mem]
    intro e hm
    obtain ⟨y,t,ey⟩:=he.tx e (by simpa using hm)
    rw [ey]
    rfl
  have hbd : es.size < scanBound:=Nat.lt_trans hsz (by decide)
  unfold setAddHashed
  refine wpAny_holding ?_
  rw [setAddHashedIn.eq_def]
  dsimp only
  refine wpAny_bind (wpAny_setState_of hd rfl ht.ft ?_)
  dsimp only
  refine wpAny_ite_true (by unfold byScan; rw [hscan]; simp [Value.scannable,hbd]) ?_
  refine wpAny_bind ?_
  unfold setAddByScan
  refine wpAny_bind (wpAny_rule ?_)
  unfold setScan
  dsimp only
  rw [if_pos hall]
  unfold setScanStrs
  cases hf : es.findIdx? (fun e=>e.2.isStr x) with
  | some i =>
    obtain ⟨hi,hp,_⟩:=Array.findIdx?_eq_some_iff_getElem.mp hf
    have hm : es[i] ∈ es.toList:=by simp
    have hk : x ∈ ks:=(he.mem x).mpr ⟨es[i],hm,hp⟩
    obtain ⟨y,ty,ey⟩:=he.tx es[i] hm
    have exy : y = x:=by rw [ey] at hp; simpa [Value.isStr] using hp
    subst exy
    dsimp only
    rw [Array.getElem?_eq_getElem hi]
    have e1 : es[i] = (es[i].1,Value.str y ty):=by rw [← ey]
    rw [e1]
    dsimp only
    refine wpAny_bind (wpAny_bind (wpAny_setEpoch_of hd rfl ht.ft ?_))
    refine wpAny_bind ((strKind prog w).eqBool (a:=y) (b:=y) (by simp [strKind,Value.isStrOf]) (by simp [strKind,Value.isStrOf]) ?_)
    refine wpAny_ite_true (by simp) (wpAny_pure (wpAny_pure (wpAny_pure (hQ0 hk))))
  | none =>
    have hk : x ∉ ks:=fun z=>by
      obtain ⟨e,hm,hp⟩:=(he.mem x).mp z
      have:=Array.findIdx?_eq_none_iff.mp hf e (by simpa using hm)
      rw [this] at hp
      cases hp
    dsimp only
    refine wpAny_bind (wpAny_pure ?_)
    have kp:=lay_keep t es h0 (.str x tk)
    have pm:=layNew_perm t es h0 (.str x tk)
    have ft:=layNew_fits t es h0 (.str x tk)
    generalize layNew t es h0 (.str x tk) = L at kp pm ft ⊢
    obtain ⟨es1,t1,wd,gv⟩:=L
    dsimp only at kp pm ft ⊢
    have s1 : es1.size = es.size + 1:=by
      have:=pm.length_eq
      simpa using this
    have e1 : EsOk es1 (ks ++ [x]):=by
      refine ⟨fun e hm=>?_,?_⟩
      · have hm2:=pm.mem_iff.mp hm
        rw [Array.toList_push] at hm2
        rcases List.mem_append.mp hm2 with h | h
        · exact he.tx e h
        · rw [List.mem_singleton.mp h]
          exact ⟨x,tk,rfl⟩
      · refine (pm.map _).trans ?_
        rw [Array.toList_push,List.map_append]
        exact he.pm.append (List.Perm.refl _)
    have fin : ∀ (t2:SetTable) (Kf:Bool → Sem Unit),(∀ (p:Bool) (s₁:Shared) (Q':Unit → Shared → Prop),Q' () s₁ → wpAny (model prog w) A (Kf p) Q' E s₁) → t2.led = t.led → t2.plain = false → t2.fits es1.size = true → wpAny (model prog w) A (storeSet d es1 t2 >>= fun _=>if (!wd && t2.tooFull) = true then (Kf (relayAll t2 es1 (SetTable.grown es1.size)).2.2 >>= fun _=>storeSet d (relayAll t2 es1 (SetTable.grown es1.size)).1 (relayAll t2 es1 (SetTable.grown es1.size)).2.1 >>= fun _=>pure (some true)) else pure (some true)) (fun a s'=>wpAny (model prog w) A (match a with | some added=>pure added | none=>setAddHashedIn d (Value.str x tk) h0 99999) Q E s') E s:=by
      intro t2 Kf hK p1 p2 p3
      refine wpAny_bind (wpAny_storeSet_of hd rfl ?_ (Nat.le_trans (by omega:es1.size ≤ 1000) (by decide)))
      have n1 : SetN (s.heap.update d (Obj.putSet es1 t2)) d es1 (ep + 1) t2:=Heap.get?_update_self _ hd (by rfl)
      have tn : TabN w es1 t2:=⟨p3,fun z=>by rw [p1]; exact ht.ld z,fun _=>p2⟩
      by_cases hu : (!wd && t2.tooFull) = true
      · refine wpAny_ite_true (decide_eq_true hu) ?_
        refine wpAny_bind (hK _ _ _ ?_)
        have kp2:=relay_keep t2 es1 (SetTable.grown es1.size)
        have pm2:=relayAll_perm t2 es1 (SetTable.grown es1.size)
        have ft2:=relayAll_fits t2 es1 (SetTable.grown es1.size)
        generalize relayAll t2 es1 (SetTable.grown es1.size) = L2 at kp2 pm2 ft2 ⊢
        obtain ⟨es2,t3,gv2⟩:=L2
        dsimp only at kp2 pm2 ft2 ⊢
        have s2 : es2.size = es1.size:=by simpa using pm2.length_eq
        refine wpAny_bind (wpAny_storeSet_of (s:={ s with heap:=s.heap.update d (Obj.putSet es1 t2) }) n1 rfl ?_ (Nat.le_trans (by omega:es2.size ≤ 1000) (by decide)))
        refine wpAny_pure (wpAny_pure (hQ1 hk _ es2 (ep + 1 + 1) t3 (Heap.get?_update_self _ n1 (by rfl)) ⟨ft2,fun z=>by rw [kp2.1,p1]; exact ht.ld z,fun _=>kp2.2 p2⟩ ⟨fun e hm=>e1.tx e (pm2.mem_iff.mp hm),(pm2.map _).trans e1.pm⟩ (by omega) ((Heap.SameBut.update ..).trans (Heap.SameBut.update ..))))
      · refine wpAny_ite_false (decide_eq_false hu) ?_
        exact wpAny_pure (wpAny_pure (hQ1 hk _ es1 (ep + 1) t2 n1 tn e1 s1 (Heap.SameBut.update ..)))
    refine wpAny_bind ?_
    cases gv
    · first | refine wpAny_pure ?_ | refine wpAny_rule ?_
      by_cases hp : t1.plain = true
      · refine wpAny_ite_true (decide_eq_true hp) (wpAny_bind (wpAny_of_eq (hashByValue.eq_5 _ _ _) ?_))
        exact fin { t1 with plain:=false } _ (fun b s₁ Q' h=>by cases b; (first | exact wpAny_pure h | exact wpAny_rule h); (first | exact wpAny_rule h | exact wpAny_pure h)) kp.1 rfl ft
      · refine wpAny_ite_false (decide_eq_false hp) (wpAny_bind (wpAny_pure ?_))
        exact fin t1 _ (fun b s₁ Q' h=>by cases b; (first | exact wpAny_pure h | exact wpAny_rule h); (first | exact wpAny_rule h | exact wpAny_pure h)) kp.1 (Bool.eq_false_iff.mpr hp) ft
    · first | refine wpAny_rule ?_ | refine wpAny_pure ?_
      by_cases hp : t1.plain = true
      · refine wpAny_ite_true (decide_eq_true hp) (wpAny_bind (wpAny_of_eq (hashByValue.eq_5 _ _ _) ?_))
        exact fin { t1 with plain:=false } _ (fun b s₁ Q' h=>by cases b; (first | exact wpAny_pure h | exact wpAny_rule h); (first | exact wpAny_rule h | exact wpAny_pure h)) kp.1 rfl ft
      · refine wpAny_ite_false (decide_eq_false hp) (wpAny_bind (wpAny_pure ?_))
        exact fin t1 _ (fun b s₁ Q' h=>by cases b; (first | exact wpAny_pure h | exact wpAny_rule h); (first | exact wpAny_rule h | exact wpAny_pure h)) kp.1 (Bool.eq_false_iff.mpr hp) ft
def ddS (ks:List Str) (x:Str) : List Str:=if x ∈ ks then ks else ks ++ [x]
def dd (xs:List Str) : List Str:=xs.foldl ddS []
theorem dd_snoc (xs:List Str) (x:Str) : dd (xs ++ [x]) = ddS (dd xs) x:=by unfold dd; rw [List.foldl_append]; rfl
theorem strs_get : ∀ {us:List Value} {xs:List Str} {i:Nat} {x:Str},PyProof.Rows.StrsAre us xs → xs[i]? = some x → ∃ tk,us[i]? = some (.str x tk)
  | _,_,0,_,.cons y tk _,h=>by cases h; exact ⟨tk,rfl⟩
  | _,_,i + 1,_,.cons y tk r,h=>by
    obtain ⟨tk',h'⟩:=strs_get (i:=i) r (by simpa using h)
    exact ⟨tk',by simpa using h'⟩
  | _,_,_,_,.nil,h=>by simp at h
theorem set_loop_txt {d it l:Addr} {vs:Array Value} {xs:List Str} {R:Result → Shared → Prop} (hh:A.handled = none) (hv:PyProof.Rows.StrsAre vs.toList xs) (n1:d ≠ it) (n2:l ≠ it) (n3:l ≠ d) (hlen:xs.length ≤ 100) :
    ∀ (m i:Nat) (s:Shared) (es:Array (Int × Value)) (ep:Nat) (t:SetTable),vs.size - i = m → i ≤ vs.size → s.heap.IsListIter it l i → s.heap.IsList l vs → SetN s.heap d es ep t → TabN w es t → EsOk es (dd (xs.take i)) → es.size ≤ i →
    (∀ h' es' ep' t' tk',SetN h' d es' ep' t' → TabN w es' t' → EsOk es' (dd xs) → es'.size ≤ 100 → (∀ b o,b ≠ d → b ≠ it → s.heap.get? b = some o → h'.get? b = some o) → R (.ok (.ret .none)) { s with heap:=h',toks:=tk' }) →
    codeAny (model prog w) A (.builtin "set.update.loop" ⟨[.ref d,.ref it],[]⟩) R s:=by
  have hl : vs.size = xs.length:=by have:=hv.length; simpa using this
  intro m
  induction m with
  | zero =>
    intro i s es ep t hm hi hit hL hd ht he hes hR
    have ei : i = vs.size:=by omega
    subst ei
    refine codeAny_builtin PyProof.Rows.F.entry_set_update_loop ?_
    rw [Around.under_plainId PyProof.Rows.F.plain_set_update_loop _]
    unfold Builtin.«set.update.loop»
    dsimp only
    refine wpAny_bind (wpAny_pyNext_list_end (show A.in1.handled = none from hh) hit hL (by simp) fun h3 he3=>?_)
    rw [hl,List.take_length] at he
    exact wpAny_pure (hR h3 es ep t s.toks (he3 d _ n1 hd) ht he (by omega) fun b o nb ni e=>he3 b o ni e)
  | succ m ih =>
    intro i s es ep t hm hi hit hL hd ht he hes hR
    have hlt : i < vs.size:=by omega
    obtain ⟨x,hx⟩ : ∃ x,xs[i]? = some x:=⟨_,List.getElem?_eq_getElem (by omega)⟩
    obtain ⟨tk,hvx⟩ : ∃ tk,vs[i]? = some (.str x tk):=by
      obtain ⟨tk,h⟩:=strs_get hv hx
      exact ⟨tk,by rw [← Array.getElem?_toList]; exact h⟩
    refine codeAny_builtin PyProof.Rows.F.entry_set_update_loop ?_
    rw [Around.under_plainId PyProof.Rows.F.plain_set_update_loop _]
    unfold Builtin.«set.update.loop»
    dsimp only
    refine wpAny_bind (wpAny_pyNext_list_item hit hL (x:=.str x tk) hvx fun h1 hit1 hs1=>?_)
    dsimp only
    refine wpAny_bind (wpAny_holding ?_)
    unfold setAdd
    refine wpAny_holding (wpAny_bind ((strKind prog w).pyHash (k:=x) (v:=.str x tk) (by simp [strKind,Value.isStrOf]) ?_))
    have etk : xs.take (i + 1) = xs.take i ++ [x]:=by rw [List.take_add_one,hx]; rfl
    have hL1 : ∀ h2,Heap.SameBut d h1 h2 ∨ h2 = h1 → h2.IsList l vs:=fun h2 hs2=>by
      obtain ⟨o,ho,r⟩:=hL
      rcases hs2 with hs2 | rfl
      · exact ⟨o,hs2.extBut l o n3 (hs1.extBut l o n2 ho),r⟩
      · exact ⟨o,hs1.extBut l o n2 ho,r⟩
    refine set_add_txt (s:={ s with heap:=h1,toks:=s.toks + 1 }) (hs1.extBut d _ n1 hd) ht he (by omega) (fun hin=>?_) (fun hnin h2 es2 ep2 t2 hd2 ht2 he2 hz2 hs2=>?_)
    · refine wpAny_pure ⟨plainId_quiet PyProof.Rows.F.plain_set_update_loop _,?_⟩
      refine ih (i + 1) _ es ep t (by omega) hlt hit1 (hL1 h1 (.inr rfl)) (hs1.extBut d _ n1 hd) ht (by rw [etk,dd_snoc,ddS,if_pos hin]; exact he) (by omega) fun h' es' ep' t' tk' a b c d' k=>?_
      exact hR h' es' ep' t' tk' a b c d' fun b o nb ni e=>k b o nb ni (hs1.extBut b o ni e)
    · refine wpAny_pure ⟨plainId_quiet PyProof.Rows.F.plain_set_update_loop _,?_⟩
      refine ih (i + 1) _ es2 ep2 t2 (by omega) hlt (hit1.extBut hs2.extBut (Ne.symm n1)) (hL1 h2 (.inl hs2)) hd2 ht2 (by rw [etk,dd_snoc,ddS,if_neg hnin]; exact he2) (by omega) fun h' es' ep' t' tk' a b c d' k=>?_
      exact hR h' es' ep' t' tk' a b c d' fun b o nb ni e=>k b o nb ni (hs2.extBut b o nb (hs1.extBut b o ni e))
theorem call_set_txt {l:Addr} {vs:Array Value} {xs:List Str} {Q:Value → Shared → Prop} (hh:A.handled = none) (hl:s.heap.IsList l vs) (hv:PyProof.Rows.StrsAre vs.toList xs) (hlen:xs.length ≤ 100)
    (h:∀ h' es ep t tk',SetN h' s.heap.objs.size es ep t → TabN w es t → EsOk es (dd xs) → es.size ≤ 100 → (∀ b o,s.heap.get? b = some o → h'.get? b = some o) → Q (.ref s.heap.objs.size) { s with heap:=h',toks:=tk' }) :
    wpAny (model prog w) A (call (.type "set") [.ref l]) Q E s:=by
  obtain ⟨c,tl,hmro⟩:=F.called_set.mro
  have hmade:=F.called_set.made
  have hsub:=F.called_set.sub
  refine wpAny_call (codeAny_of_tree ?_)
  refine wpAny_pure ⟨Code.quiet_builtin _ (by decide +kernel),codeAny_builtin F.entry_type_call ?_⟩
  rw [Around.under_plain (weight_type_call_type "set" [.ref l] []) rfl]
  have h1:=F.called_set.notType
  have h2:=F.called_set.canCreate
  have hct:=F.typeCall_set_1 (.ref l)
  unfold Builtin.«type.__call__»
  dsimp only
  refine wpAny_ite_false (decide_eq_false (by rw [h1]; exact Bool.false_ne_true)) ?_
  refine wpAny_ite_false (decide_eq_false (by rw [h2]; exact Bool.false_ne_true)) ?_
  refine wpAny_bind (wpAny_of_eq hct (wpAny_bind (wpAny_of_eq hmro ?_)))
  refine wpAny_ite_false (by rfl) ?_
  refine wpAny_bind (wpAny_of_eq hmade ?_)
  dsimp only
  refine wpAny_bind (wpAny_pure ?_)
  refine wpAny_bind (wpAny_holding (wpAny_call (codeAny_mono (code_set_led (E:=E) (Q₁:=fun obj s₁=>obj = .ref s.heap.objs.size ∧ s₁ = { s with heap:=s.heap.push (setObj #[] 0 (SetTable.fresh 0 0 (!w.params.followText "set-order"))) }) (.ref l) ⟨rfl,rfl⟩) fun r s₁ hr=>?_)))
  rcases r with e | f
  · exact hr
  cases f with
  | ret v=>?_
  | _=>exact hr
  obtain ⟨rfl,rfl⟩:=hr
  have hd:=Heap.get?_push_size (h:=s.heap) (o:=setObj #[] 0 (SetTable.fresh 0 0 (!w.params.followText "set-order"))) rfl
  have hT : (⟨s.heap.push (setObj #[] 0 (SetTable.fresh 0 0 (!w.params.followText "set-order"))),s.gens,s.drawn,s.toks,s.os⟩ : Shared).TypeIs (.ref s.heap.objs.size) "set" := ⟨_,hd,rfl⟩
  refine wpAny_bind (wpAny_isInstance hT hsub (wpAny_ite_false (by rfl) ?_))
  refine wpAny_bind (wpAny_holding (wpAny_callSpecial?_slot (name:=Str.ofString "__init__") hT F.called_set.init (wpAny_call (codeAny_call_builtin F.called_set.init.plain F.entry_set_init (check_set_init_1 hT ?_)))))
  have kp0 : ∀ b o,s.heap.get? b = some o → (s.heap.push (setObj #[] 0 (SetTable.fresh 0 0 (!w.params.followText "set-order")))).get? b = some o:=fun b o hb=>Heap.get?_push_of_some _ hb
  have hl0 : (s.heap.push (setObj #[] 0 (SetTable.fresh 0 0 (!w.params.followText "set-order")))).IsList l vs:=by
    obtain ⟨o,ho,r⟩:=hl
    exact ⟨o,kp0 l o ho,r⟩
  have lt : l < s.heap.objs.size:=let ⟨o,ho,_⟩:=hl; Heap.lt_size ho
  unfold Builtin.«set.__init__»
  refine wpAny_bind (wpAny_of_eq (a:=()) (by rfl) ?_)
  dsimp only
  have hsl:=F.sub_list_set
  have hsf:=F.sub_list_frozenset
  refine wpAny_bind ?_
  unfold typeNameOfCut
  have hTl : (⟨s.heap.push (setObj #[] 0 (SetTable.fresh 0 0 (!w.params.followText "set-order"))),s.gens,s.drawn,s.toks,s.os⟩ : Shared).TypeIs (.ref l) "list" := let ⟨o,ho,hc,_⟩:=hl0; ⟨o,ho,hc⟩
  repeat (any_goals (first | assumption | exact hT | (with_reducible refine wpAny_isInstance hTl hsl ?_) | (with_reducible refine wpAny_isInstance hTl hsf ?_) | (with_reducible refine wpAny_pyIter_list hl0 ?_) | (with_reducible refine wpAny_typeOf hTl ?_) | (with_reducible refine wpAny_runValue ?_) | wp_step))
  have ltp : s.heap.objs.size < (s.heap.push (setObj #[] 0 (SetTable.fresh 0 0 (!w.params.followText "set-order")))).objs.size:=by rw [Heap.size_push]; exact Nat.lt_succ_self _
  have hd2:=Heap.get?_push_of_some { cls:=Value.type "list_iterator", data:=Data.fields #[Value.ref l,Value.int 0 0] } hd
  have hl2 : ((s.heap.push (setObj #[] 0 (SetTable.fresh 0 0 (!w.params.followText "set-order")))).push { cls:=Value.type "list_iterator", data:=Data.fields #[Value.ref l,Value.int 0 0] }).IsList l vs:=by
    obtain ⟨o,ho,r⟩:=hl0
    exact ⟨o,Heap.get?_push_of_some _ ho,r⟩
  refine set_loop_txt (vs:=vs) (xs:=xs) (show A.in1.in1.handled = none from hh) hv (Nat.ne_of_lt ltp) (Nat.ne_of_lt (Nat.lt_trans lt ltp)) (Nat.ne_of_lt lt) hlen vs.size 0 _ #[] 0 _ (by omega) (Nat.zero_le _) ⟨_,Heap.get?_push_size _ rfl,rfl,rfl⟩ hl2 hd2 ⟨set_fresh_fits _,(fun z=>by rw [z]; rfl),fun z=>absurd z (by decide)⟩ ⟨(fun e h=>by simp at h),List.Perm.refl _⟩ (Nat.le_refl _) fun h' es ep t tk' e1 e2 e3 e4 kp=>?_
  refine wpAny_pure (wpAny_pure ?_)
  refine wpAny_ite_false (by rfl) (wpAny_pure ?_)
  refine h h' es ep t tk' e1 e2 e3 e4 fun b o e=>?_
  have lb:=Heap.lt_size e
  exact kp b o (Nat.ne_of_lt lb) (Nat.ne_of_lt (Nat.lt_trans lb ltp)) (Heap.get?_push_of_some _ (kp0 b o e))
end
end PySem
namespace PySem
open Sem (wp)
section
variable {prog:Program} {w:World} {A:Around} {E:Value → Shared → Prop} {s:Shared} {d it:Addr} {es:Array (Int × Value)} {ep i:Nat} {t:SetTable}
def SitN (h:Heap) (it d:Addr) (first:Value) (n i ep:Nat) : Prop:=∃ o,h.get? it = some o ∧ o.cls = .type "set_iterator" ∧ o.data = .fields #[first,rawInt (i:Int),.ref d,rawInt (n:Int),rawInt (ep:Int)]
theorem SitN.typeIs {f:Value} {n:Nat} (x:SitN s.heap it d f n i ep) : s.TypeIs (.ref it) "set_iterator" := let ⟨o,ho,hc,_⟩:=x; ⟨o,ho,hc⟩
theorem SitN.at {h h':Heap} {f:Value} {n:Nat} (x:SitN h it d f n i ep) (k:∀ o,h.get? it = some o → h'.get? it = some o) : SitN h' it d f n i ep:=let ⟨o,ho,r⟩:=x; ⟨o,k _ ho,r⟩
theorem sitN_end {f:Value} {n:Nat} {Q:Option Value → Shared → Prop} (hh:A.handled = none) (hit:SitN s.heap it d f n i ep) (hQ:∀ h',Heap.ExtBut it s.heap h' → Q none { s with heap:=h' }) :
    wpAny (model prog w) A.in1 (setField (.ref it) 2 .none >>= fun _=>newExc (.type "StopIteration") [] >>= fun x=>raiseNew x) (fun fin s'=>∃ v,fin = Fin.done (Flow.ret v) ∧ wpAny (model prog w) A (pure (some v)) Q E s')
      (fun e s'=>wpAny (model prog w) A (do let b ← isInstance e (.type "StopIteration"); if b = true then pure none else throw e) Q E s') s:=by
  obtain ⟨o,ho,hc,hd⟩:=hit
  refine wpAny_bind (wpAny_setField ho hd (by simp) ?_)
  show wpAny _ _ (newExc (.type "StopIteration") [] >>= _) _ _ _; refine wpAny_bind ?_
  simp only [newExc,newTuple]; refine wpAny_bind (wpAny_newObj_type ?_ (by size_fits))
  refine wpAny_bind (m:=firstArgMember _ _) (wpAny_of_eq (a:=Value.none) (by first | rfl | (simp only [firstArgMember]; rfl)) (wpAny_newObj_type ?_ (by size_fits)))
  simp only [raiseNew]; refine wpAny_bind (wpAny_handled ?_); rw [show A.in1.handled = none from hh]
  refine wpAny_bind (wpAny_pure (wpAny_throw ?_)); refine wpAny_bind (wpAny_isInstance (T := "StopIteration") (b:=true) ⟨_,Heap.get?_push_size _ rfl,rfl⟩ isSubtype_stop ?_)
  exact wpAny_pure (hQ _ (((Heap.SameBut.update ..).extBut.push _).push _))
theorem sitN_two {f f':Value} {n i':Nat} {x:Value} {Q:Fin → Shared → Prop} (hit:SitN s.heap it d f n i ep) (hQ:∀ h',SitN h' it d f' n i' ep → Heap.SameBut it s.heap h' → Q (.done (.ret x)) { s with heap:=h' }) :
    wpAny (model prog w) A (setField (.ref it) 0 f' >>= fun _=>setField (.ref it) 1 (rawInt (i':Int)) >>= fun _=>ret x) Q E s:=by
  obtain ⟨o,ho,hc,hd⟩:=hit
  refine wpAny_bind (wpAny_setField ho hd (by simp) ?_)
  have hd1 : (Obj.mapFields (·.setIfInBounds 0 f') o).data = .fields #[f',rawInt (i:Int),.ref d,rawInt (n:Int),rawInt (ep:Int)]:=by rw [Obj.data_mapFields hd]; simp
  have ho1:=Heap.get?_update_self (h:=s.heap) (Obj.mapFields (·.setIfInBounds 0 f')) ho (Obj.isFreed_of_fields hd1)
  refine wpAny_bind (wpAny_setField (s:={ s with heap:=s.heap.update it (Obj.mapFields (·.setIfInBounds 0 f')) }) ho1 hd1 (by simp) ?_)
  refine wpAny_pure (hQ _ ⟨_,Heap.get?_update_self _ ho1 (Obj.isFreed_of_fields (Obj.data_mapFields hd1 _)),(Obj.cls_mapFields ..).trans ((Obj.cls_mapFields ..).trans hc),?_⟩ ((Heap.SameBut.update ..).trans (Heap.SameBut.update ..)))
  rw [Obj.data_mapFields hd1]
  simp
theorem sitN_one {f:Value} {n i':Nat} {x:Value} {Q:Fin → Shared → Prop} (hit:SitN s.heap it d f n i ep) (hQ:∀ h',SitN h' it d f n i' ep → Heap.SameBut it s.heap h' → Q (.done (.ret x)) { s with heap:=h' }) :
    wpAny (model prog w) A (setField (.ref it) 1 (rawInt (i':Int)) >>= fun _=>ret x) Q E s:=by
  obtain ⟨o,ho,hc,hd⟩:=hit
  refine wpAny_bind (wpAny_setField ho hd (by simp) ?_)
  refine wpAny_pure (hQ _ ⟨_,Heap.get?_update_self _ ho (Obj.isFreed_of_fields (Obj.data_mapFields hd _)),(Obj.cls_mapFields ..).trans hc,?_⟩ (Heap.SameBut.update ..))
  rw [Obj.data_mapFields hd]
  simp
theorem sitN_self {f:Value} {n:Nat} {Q:Value → Shared → Prop} (hit:SitN s.heap it d f n i ep) (h:Q (.ref it) s) : wpAny (model prog w) A (pyIter (.ref it)) Q E s:=by
  have hT:=hit.typeIs
  refine wpAny_pyIter_slot hT si_iter (wpAny_call_entry si_iter hT si_iter_entry ?_ (si_iter_args _)); show wpAny _ _ (ret (.ref it)) _ _ s
  exact wpAny_pure ⟨_,rfl, "set_iterator", _,hT,si_next.lookup,h⟩
theorem txt_next {sl:Nat} {e:Int × Value} {Q:Option Value → Shared → Prop} (hf:w.params.followText "set-order" = true) (ht:t.fits es.size = true) (hit:SitN s.heap it d (rawInt (sl:Int)) es.size i ep) (hm:SetN s.heap d es ep t) (hx:(pickOrder (w.params.setOrder d ep) es)[i]? = some e)
    (hQ:∀ h',SitN h' it d (rawInt (sl:Int)) es.size (i + 1) ep → Heap.SameBut it s.heap h' → Q (some e.2) { s with heap:=h' }) : wpAny (model prog w) A (pyNext (.ref it)) Q E s:=by
  obtain ⟨o,ho,hc,hd⟩:=id hit
  unfold pyNext
  refine wpAny_bind (wpAny_attempt (wpAny_callSpecial?_slot (name:=Str.ofString "__next__") hit.typeIs si_next (wpAny_call_entry si_next hit.typeIs si_next_entry ?_ (si_next_args _))))
  unfold Builtin.«set_iterator.__next__»
  refine wpAny_bind (wpAny_of_eq (a:=(Value.ref it,[])) rfl ?_); dsimp only
  refine wpAny_bind (wpAny_fieldsOf ho hd ?_)
  show wpAny _ _ (setEntries d >>= _) _ _ _
  refine wpAny_bind (wpAny_setEntries_of hm rfl ht ?_)
  refine wpAny_ite_false (by simp [rawInt]) ?_
  show wpAny _ _ (setNext d _ _ _ >>= _) _ _ _
  refine wpAny_bind ?_
  unfold setNext
  refine wpAny_bind (wpAny_setState_of hm rfl ht ?_)
  dsimp only
  unfold setsByText
  refine wpAny_bind (wpAny_bind (wpAny_askSetting (wpAny_pure ?_)))
  refine wpAny_ite_true (decide_eq_true hf) ?_
  refine wpAny_ite_false (by simp [rawInt]) ?_
  unfold setWalk
  refine wpAny_bind (wpAny_bind (wpAny_setState_of hm rfl ht ?_))
  dsimp only
  unfold setsByText
  refine wpAny_bind (wpAny_bind (wpAny_askSetting (wpAny_pure ?_)))
  refine wpAny_ite_true (decide_eq_true hf) ?_
  refine wpAny_bind (wpAny_askSetting (wpAny_pure ?_))
  refine wpAny_pure ?_
  simp only [Int.toNat_natCast]
  rw [show (pickOrder ((model prog w).w.params.setOrder d ep) es)[i]? = some e from hx]
  exact sitN_two (f':=rawInt (sl:Int)) (i':=i + 1) hit fun h' x1 x2=>⟨_,rfl,wpAny_pure (hQ h' x1 x2)⟩
theorem txt_end {sl:Nat} {Q:Option Value → Shared → Prop} (hh:A.handled = none) (hf:w.params.followText "set-order" = true) (ht:t.fits es.size = true) (hit:SitN s.heap it d (rawInt (sl:Int)) es.size i ep) (hm:SetN s.heap d es ep t) (hx:(pickOrder (w.params.setOrder d ep) es)[i]? = none)
    (hQ:∀ h',Heap.ExtBut it s.heap h' → Q none { s with heap:=h' }) : wpAny (model prog w) A (pyNext (.ref it)) Q E s:=by
  obtain ⟨o,ho,hc,hd⟩:=id hit
  unfold pyNext
  refine wpAny_bind (wpAny_attempt (wpAny_callSpecial?_slot (name:=Str.ofString "__next__") hit.typeIs si_next (wpAny_call_entry si_next hit.typeIs si_next_entry ?_ (si_next_args _))))
  unfold Builtin.«set_iterator.__next__»
  refine wpAny_bind (wpAny_of_eq (a:=(Value.ref it,[])) rfl ?_); dsimp only
  refine wpAny_bind (wpAny_fieldsOf ho hd ?_)
  show wpAny _ _ (setEntries d >>= _) _ _ _
  refine wpAny_bind (wpAny_setEntries_of hm rfl ht ?_)
  refine wpAny_ite_false (by simp [rawInt]) ?_
  show wpAny _ _ (setNext d _ _ _ >>= _) _ _ _
  refine wpAny_bind ?_
  unfold setNext
  refine wpAny_bind (wpAny_setState_of hm rfl ht ?_)
  dsimp only
  unfold setsByText
  refine wpAny_bind (wpAny_bind (wpAny_askSetting (wpAny_pure ?_)))
  refine wpAny_ite_true (decide_eq_true hf) ?_
  refine wpAny_ite_false (by simp [rawInt]) ?_
  unfold setWalk
  refine wpAny_bind (wpAny_bind (wpAny_setState_of hm rfl ht ?_))
  dsimp only
  unfold setsByText
  refine wpAny_bind (wpAny_bind (wpAny_askSetting (wpAny_pure ?_)))
  refine wpAny_ite_true (decide_eq_true hf) ?_
  refine wpAny_bind (wpAny_askSetting (wpAny_pure ?_))
  refine wpAny_pure ?_
  simp only [Int.toNat_natCast]
  rw [show (pickOrder ((model prog w).w.params.setOrder d ep) es)[i]? = none from hx]
  exact sitN_end hh hit hQ
def placesObj (ys:List Nat) : Obj:={ cls:=.type "tuple", data:=.seq (ys.map fun (y:Nat)=>rawInt (y:Int)).toArray }
theorem drw_next {tp:Addr} {ys:List Nat} {y:Nat} {e:Int × Value} {Q:Option Value → Shared → Prop} (ht:t.fits es.size = true) (hit:SitN s.heap it d (.ref tp) es.size i ep) (htp:s.heap.get? tp = some (placesObj ys)) (hm:SetN s.heap d es ep t) (hy:ys[i]? = some y) (hx:es[y]? = some e)
    (hQ:∀ h',SitN h' it d (.ref tp) es.size (i + 1) ep → Heap.SameBut it s.heap h' → Q (some e.2) { s with heap:=h' }) : wpAny (model prog w) A (pyNext (.ref it)) Q E s:=by
  obtain ⟨o,ho,hc,hd⟩:=id hit
  unfold pyNext
  refine wpAny_bind (wpAny_attempt (wpAny_callSpecial?_slot (name:=Str.ofString "__next__") hit.typeIs si_next (wpAny_call_entry si_next hit.typeIs si_next_entry ?_ (si_next_args _))))
  unfold Builtin.«set_iterator.__next__»
  refine wpAny_bind (wpAny_of_eq (a:=(Value.ref it,[])) rfl ?_); dsimp only
  refine wpAny_bind (wpAny_fieldsOf ho hd ?_)
  show wpAny _ _ (setEntries d >>= _) _ _ _
  refine wpAny_bind (wpAny_setEntries_of hm rfl ht ?_)
  refine wpAny_ite_false (by simp [rawInt]) ?_
  show wpAny _ _ (seqItems? (.ref tp) >>= _) _ _ _
  unfold seqItems?
  refine wpAny_bind (wpAny_bind (wpAny_load htp (wpAny_pure ?_)))
  dsimp only
  have hp : ((ys.map fun (y:Nat)=>rawInt (y:Int)).toArray)[((i:Nat) : Int).toNat]? = some (rawInt (y:Int)):=by simp [hy]
  rw [hp]
  show wpAny _ _ (setNextDrawn d _ _ >>= _) _ _ _
  refine wpAny_bind ?_
  unfold setNextDrawn
  refine wpAny_bind (wpAny_setState_of hm rfl ht ?_)
  dsimp only
  refine wpAny_ite_false (by simp [rawInt]) ?_
  rw [show ((y:Nat) : Int).toNat = y from Int.toNat_natCast y,hx]
  refine wpAny_pure ?_
  exact sitN_one (i':=i + 1) hit fun h' x1 x2=>⟨_,rfl,wpAny_pure (hQ h' x1 x2)⟩
theorem drw_end {tp:Addr} {ys:List Nat} {Q:Option Value → Shared → Prop} (hh:A.handled = none) (ht:t.fits es.size = true) (hit:SitN s.heap it d (.ref tp) es.size i ep) (htp:s.heap.get? tp = some (placesObj ys)) (hm:SetN s.heap d es ep t) (hy:ys[i]? = none)
    (hQ:∀ h',Heap.ExtBut it s.heap h' → Q none { s with heap:=h' }) : wpAny (model prog w) A (pyNext (.ref it)) Q E s:=by
  obtain ⟨o,ho,hc,hd⟩:=id hit
  unfold pyNext
  refine wpAny_bind (wpAny_attempt (wpAny_callSpecial?_slot (name:=Str.ofString "__next__") hit.typeIs si_next (wpAny_call_entry si_next hit.typeIs si_next_entry ?_ (si_next_args _))))
  unfold Builtin.«set_iterator.__next__»
  refine wpAny_bind (wpAny_of_eq (a:=(Value.ref it,[])) rfl ?_); dsimp only
  refine wpAny_bind (wpAny_fieldsOf ho hd ?_)
  show wpAny _ _ (setEntries d >>= _) _ _ _
  refine wpAny_bind (wpAny_setEntries_of hm rfl ht ?_)
  refine wpAny_ite_false (by simp [rawInt]) ?_
  show wpAny _ _ (seqItems? (.ref tp) >>= _) _ _ _
  unfold seqItems?
  refine wpAny_bind (wpAny_bind (wpAny_load htp (wpAny_pure ?_)))
  dsimp only
  have hp : ((ys.map fun (y:Nat)=>rawInt (y:Int)).toArray)[((i:Nat) : Int).toNat]? = none:=by simp; simpa using hy
  rw [hp]
  refine wpAny_bind (wpAny_setField ho hd (by simp) ?_)
  have hd1 : (Obj.mapFields (·.setIfInBounds 0 (rawInt 0)) o).data = .fields #[rawInt 0,rawInt (i:Int),.ref d,rawInt (es.size : Int),rawInt (ep:Int)]:=by rw [Obj.data_mapFields hd]; simp
  have ho1:=Heap.get?_update_self (h:=s.heap) (Obj.mapFields (·.setIfInBounds 0 (rawInt 0))) ho (Obj.isFreed_of_fields hd1)
  refine sitN_end (s:={ s with heap:=s.heap.update it (Obj.mapFields (·.setIfInBounds 0 (rawInt 0))) }) hh ⟨_,ho1,(Obj.cls_mapFields ..).trans hc,hd1⟩ fun h' hx=>hQ h' fun b o hb e=>hx b o hb ((Heap.SameBut.update ..).extBut b o hb e)
theorem setN_iter {Q:Value → Shared → Prop} (ht:TabN w es t) (h1:1 ≤ es.size) (hle:es.size ≤ 100) (hm:SetN s.heap d es ep t)
    (hQ1:w.params.followText "set-order" = true ∨ es.size = 1 → Q (.ref s.heap.objs.size) { s with heap:=s.heap.push { cls:=.type "set_iterator", data:=.fields #[rawInt 0,rawInt 0,.ref d,rawInt (es.size : Int),rawInt (ep:Int)] } })
    (hQ2:∀ ys d',ys.Perm (List.range es.size) → Q (.ref (s.heap.push (placesObj ys)).objs.size) { s with heap:=(s.heap.push (placesObj ys)).push { cls:=.type "set_iterator", data:=.fields #[.ref s.heap.objs.size,rawInt 0,.ref d,rawInt (es.size : Int),rawInt (ep:Int)] },drawn:=d' }) : wpAny (model prog w) A (pyIter (.ref d)) Q E s:=by
  have hT:=hm.typeIs
  refine wpAny_pyIter_slot hT F.slot_set_iter (wpAny_call_entry F.slot_set_iter hT set_iter_entry ?_ (F.args_set_iter_1 _))
  unfold Builtin.«frozenset.__iter__»
  refine wpAny_bind (wpAny_of_eq (a:=d) rfl ?_)
  refine wpAny_bind (wpAny_bind (wpAny_setEntries_of hm rfl ht.ft (wpAny_pure ?_)))
  refine wpAny_bind ?_
  unfold setDrawn
  refine wpAny_bind (wpAny_setState_of hm rfl ht.ft ?_)
  dsimp only
  unfold setsByText
  refine wpAny_bind (wpAny_bind (wpAny_askSetting (wpAny_pure (wpAny_pure ?_))))
  have hpl:=ht.pl h1
  by_cases hf : w.params.followText "set-order" = true ∨ es.size = 1
  · have key : ∀ b c e : Bool,(b = true ∨ e = false) → decide ((!b && (c && e)) = true) = false:=by decide
    refine wpAny_ite_false (key _ _ _ (hf.imp id fun z=>decide_eq_false (by omega))) ?_
    refine wpAny_bind (wpAny_pure ?_)
    refine wpAny_bind (wpAny_setEpoch_of hm rfl ht.ft ?_)
    refine wpAny_bind ?_
    unfold newFields
    refine wpAny_newObj_type (wpAny_pure ⟨_,rfl, "set_iterator", _,⟨_,Heap.get?_push_size _ rfl,rfl⟩,si_next.lookup,?_⟩)
    exact hQ1 hf
  · have hf1 : w.params.followText "set-order" = false:=Bool.eq_false_iff.mpr fun z=>hf (.inl z)
    have hs1 : 1 < es.size:=by have : es.size ≠ 1:=fun z=>hf (.inr z); omega
    have key : ∀ b c e : Bool,b = false → c = false → e = true → decide ((!b && (!c && e)) = true) = true:=by decide
    refine wpAny_ite_true (key _ _ _ hf1 hpl (decide_eq_true hs1)) ?_
    refine wpAny_bind (wpAny_drawOrder es.size (List.range es.size) (by simp) fun ys d' hp=>?_)
    refine wpAny_bind ?_
    have hyl : ys.length = es.size:=by rw [hp.length_eq]; simp
    have hmm : SetN (s.heap.push (placesObj ys)) d es ep t:=Heap.get?_push_of_some _ hm
    unfold newTuple
    refine wpAny_newObj_type ?_ (by show (ys.map fun (y:Nat)=>rawInt (y:Int)).toArray.size ≤ sizeLine; simp; rw [hyl]; exact Nat.le_trans hle (by decide))
    refine wpAny_bind (wpAny_setEpoch_of (s:={ s with heap:=s.heap.push (placesObj ys),drawn:=d' }) hmm rfl ht.ft ?_)
    refine wpAny_bind ?_
    unfold newFields
    refine wpAny_newObj_type (wpAny_pure ⟨_,rfl, "set_iterator", _,⟨_,Heap.get?_push_size _ rfl,rfl⟩,si_next.lookup,?_⟩)
    exact hQ2 ys d' hp
theorem walks_txt (hh:A.handled = none) (hf:w.params.followText "set-order" = true) (ht:t.fits es.size = true) (I d:Addr) (hne:d ≠ I) :
    Walks prog w A I [I,d] [I] es.size (fun i v=>∃ e,(pickOrder (w.params.setOrder d ep) es)[i]? = some e ∧ v = e.2) (fun i h=>SitN h I d (rawInt ((0:Nat) : Int)) es.size i ep ∧ SetN h d es ep t) where
  sub:=fun b hb=>by simp at hb; simp [hb]
  frame:=fun _ _ _ st hk=>⟨st.1.at fun o e=>hk I (by simp) o e,st.2.at fun o e=>hk d (by simp) o e⟩
  item:=fun i s Q E hi st hQ=>by
    have hl : (pickOrder (w.params.setOrder d ep) es).size = es.size:=by simpa using (pick_perm (w.params.setOrder d ep) es).length_eq
    have hx : (pickOrder (w.params.setOrder d ep) es)[i]? = some (pickOrder (w.params.setOrder d ep) es)[i]:=by simp
    exact txt_next hf ht st.1 st.2 hx fun h' x hs=>hQ _ h' s.toks ⟨_,hx,rfl⟩ ⟨x,st.2.at fun o e=>hs.extBut d o hne e⟩ fun b o hb e=>hs.extBut b o (fun h=>hb (by simp [h])) e
  done:=fun s Q E st hQ=>by
    have hl : (pickOrder (w.params.setOrder d ep) es).size = es.size:=by simpa using (pick_perm (w.params.setOrder d ep) es).length_eq
    exact txt_end hh hf ht st.1 st.2 (by simp [hl]) fun h' he'=>hQ h' s.toks fun b o hb e=>he' b o (fun h=>hb (by simp [h])) e
  self:=fun _ _ _ _ st hQ=>sitN_self st.1 hQ
theorem walks_drw (hh:A.handled = none) (ht:t.fits es.size = true) (I d tp:Addr) (hne:d ≠ I) (hnt:tp ≠ I) (ys:List Nat) (hp:ys.Perm (List.range es.size)) :
    Walks prog w A I [I,d,tp] [I] es.size (fun i v=>∃ y e,ys[i]? = some y ∧ es[y]? = some e ∧ v = e.2) (fun i h=>SitN h I d (.ref tp) es.size i ep ∧ SetN h d es ep t ∧ h.get? tp = some (placesObj ys)) where
  sub:=fun b hb=>by simp at hb; simp [hb]
  frame:=fun _ _ _ st hk=>⟨st.1.at fun o e=>hk I (by simp) o e,st.2.1.at fun o e=>hk d (by simp) o e,hk tp (by simp) _ st.2.2⟩
  item:=fun i s Q E hi st hQ=>by
    have hl : ys.length = es.size:=by rw [hp.length_eq]; simp
    have hy : ys[i]? = some (ys[i]'(by omega)):=List.getElem?_eq_getElem (by omega)
    have hm : ys[i]'(by omega) < es.size:=List.mem_range.mp (hp.mem_iff.mp (List.getElem_mem (by omega)))
    have hx : es[ys[i]'(by omega)]? = some es[ys[i]'(by omega)]:=by simp [hm]
    exact drw_next ht st.1 st.2.2 st.2.1 hy hx fun h' x hs=>hQ _ h' s.toks ⟨_,_,hy,hx,rfl⟩ ⟨x,st.2.1.at fun o e=>hs.extBut d o hne e,hs.extBut tp _ hnt st.2.2⟩ fun b o hb e=>hs.extBut b o (fun h=>hb (by simp [h])) e
  done:=fun s Q E st hQ=>by
    have hl : ys.length = es.size:=by rw [hp.length_eq]; simp
    exact drw_end hh ht st.1 st.2.2 st.2.1 (List.getElem?_eq_none (by omega)) fun h' he'=>hQ h' s.toks fun b o hb e=>he' b o (fun h=>hb (by simp [h])) e
  self:=fun _ _ _ _ st hQ=>sitN_self st.1 hQ
theorem got_perm {ks:List Str} {us:List Value} {ws:List (Int × Value)} (he:EsOk es ks) (hp:ws.Perm es.toList) (hl:us.length = ws.length) (hu:∀ (j:Nat) (v:Value),us[j]? = some v → ∃ e,ws[j]? = some e ∧ v = e.2) : ∃ ss,PyProof.Rows.StrsAre us ss ∧ ss.Perm ks:=by
  have eu : us = ws.map (·.2):=by
    refine List.ext_getElem? fun j=>?_
    rw [List.getElem?_map]
    cases e1 : us[j]? with
    | none =>
      have : us.length ≤ j:=List.getElem?_eq_none_iff.mp e1
      rw [List.getElem?_eq_none (by omega)]
      rfl
    | some v =>
      obtain ⟨e,e2,rfl⟩:=hu j v e1
      rw [e2]
      rfl
  have htx : ∀ e ∈ ws,∃ x t,e.2 = Value.str x t:=fun e hm=>he.tx e (hp.mem_iff.mp hm)
  refine ⟨ws.map fun e=>strOf e.2,?_,(hp.map _).trans he.pm⟩
  rw [eu]
  clear hp hl hu eu
  induction ws with
  | nil=>exact .nil
  | cons e ws ih =>
    obtain ⟨x,t,ex⟩:=htx e List.mem_cons_self
    rw [List.map_cons,List.map_cons,ex]
    exact .cons x t (ih fun e he=>htx e (List.mem_cons_of_mem _ he))
theorem collect_set {ks:List Str} {R:List Value → Shared → Prop} (hh:A.handled = none) (ht:TabN w es t) (he:EsOk es ks) (h1:1 ≤ es.size) (hle:es.size ≤ 100) (hm:SetN s.heap d es ep t)
    (hR:∀ h' tk d' us ss,(∀ b o,s.heap.get? b = some o → h'.get? b = some o) → PyProof.Rows.StrsAre us ss → ss.Perm ks → R us { s with heap:=h',toks:=tk,drawn:=d' }) : wpAny (model prog w) A (collect (.ref d)) R E s:=by
  have ltd:=Heap.lt_size hm
  unfold collect
  refine wpAny_bind (wpAny_runValue (codeAny_builtin PyProof.Rows.entry_proto_collect' ?_))
  show wpAny _ _ (newList [] >>= _) _ _ _
  refine wpAny_bind (wpAny_newList ?_ (Nat.zero_le _))
  refine wpAny_pure ⟨plainId_quiet F.plain_list_iadd _,?_⟩
  refine codeAny_builtin F.entry_list_iadd ?_
  show wpAny _ _ (Builtin.List.listExtendWith (.ref s.heap.objs.size) (.ref d) (.ref s.heap.objs.size)) _ _ _
  unfold Builtin.List.listExtendWith
  have hm2 : SetN (s.heap.push { cls:=.type "list", data:=.seq #[] }) d es ep t:=Heap.get?_push_of_some _ hm
  have hT2 : Shared.TypeIs { s with heap:=s.heap.push { cls:=.type "list", data:=.seq #[] } } (.ref d) "set" := ⟨_,hm2,rfl⟩
  refine wpAny_bind (wpAny_typeOf hT2 ?_)
  rw [if_neg (by
    have hn1 : (s.heap.objs.size == d) = false:=by simpa using Nat.ne_of_gt ltd
    simp only [Builtin.List.listSameRef,hn1]
    decide)]
  have hS0 : (s.heap.push { cls:=.type "list", data:=.seq #[] }).get? s.heap.objs.size = some { cls:=.type "list", data:=.seq #[] }:=Heap.get?_push_size _ rfl
  have loop : ∀ (h1:Heap) (dr:Drawn) (I:Addr) (fp:List Addr) (n:Nat) (P:Nat → Value → Prop) (St:Nat → Heap → Prop),n ≤ 100 → Walks prog w A.in1 I fp [I] n P St → s.heap.objs.size ∉ fp → s.heap.objs.size < I → (∀ b o,s.heap.get? b = some o → h1.get? b = some o) → (∀ (h2:Heap),(∀ b o,b ≠ s.heap.objs.size → h1.get? b = some o → h2.get? b = some o) → St 0 h2) → (∀ acc : Array Value,ItemsOf P acc n → ∃ ss,PyProof.Rows.StrsAre acc.toList ss ∧ ss.Perm ks) →
      ∀ (h2:Heap) (c tk:Nat),h2.get? s.heap.objs.size = some { cls:=.type "list", data:=.seq #[] c } → (∀ b o,b ≠ s.heap.objs.size → h1.get? b = some o → h2.get? b = some o) →
      codeAny (model prog w) A (.builtin "list.extend.loop" { pos:=[.ref s.heap.objs.size,.ref I,.ref s.heap.objs.size] })
        (fun r s'=>match r with
          | .ok (.ret v)=>wpAny (model prog w) A (match v with
            | .ref a=>do
              let __do_lift ← load a
              match __do_lift.data with
                | .seq xs epoch=>pure xs.toList
                | x=>unsupported "internal:collect"
            | x=>unsupported "internal:collect") R E s'
          | .ok a=>False
          | .error e=>E e s') { s with heap:=h2,drawn:=dr,toks:=tk }:=by
    intro h1 dr I fp n P St hn W hfp hSI hk hst hgot h2 c tk hS hk2
    refine codeAny_extend_loopS W.toS (Nat.le_trans hn (by decide)) s.heap.objs.size hfp _ n 0 _ #[] c (by omega) (Nat.zero_le _) (hst h2 hk2) hS ⟨rfl,fun j v e=>by simp at e⟩ fun s' acc c' hm hg hacc=>?_
    show wpAny _ _ (load s.heap.objs.size >>= _) _ _ _
    refine wpAny_bind (wpAny_load hg ?_)
    refine wpAny_pure ?_
    obtain ⟨ss,a1,a2⟩:=hgot acc hacc
    obtain ⟨h3,g3,d3,tk3,o3⟩:=s'
    have eg:=hm.gens
    have ed:=hm.drawn
    have eo:=hm.os
    simp only at eg ed eo
    subst eg ed eo
    refine hR h3 tk3 _ _ ss (fun b o e=>hm.heap b o (by
      have lb:=Heap.lt_size e
      simp
      exact ⟨Nat.ne_of_lt lb,Nat.ne_of_lt (Nat.lt_trans lb hSI)⟩) (hk2 b o (Nat.ne_of_lt (Heap.lt_size e)) (hk b o e))) a1 a2
  have ltp : s.heap.objs.size < (s.heap.push { cls:=.type "list", data:=.seq #[] }).objs.size:=by rw [Heap.size_push]; exact Nat.lt_succ_self _
  refine wpAny_bind (setN_iter (s:={ s with heap:=s.heap.push { cls:=.type "list", data:=.seq #[] } }) ht h1 hle hm2 (fun hc=>?_) (fun ys d' hp=>?_))
  · refine wpAny_bind (wpAny_holding (set_hint (s:={ s with heap:=(s.heap.push { cls:=.type "list", data:=.seq #[] }).push { cls:=.type "set_iterator", data:=.fields #[rawInt 0,rawInt 0,.ref d,rawInt (es.size : Int),rawInt (ep:Int)] } }) ⟨_,Heap.get?_push_of_some _ hm2,rfl⟩ ?_))
    have hIT:=Heap.get?_push_size (h:=s.heap.push { cls:=.type "list", data:=.seq #[] }) (o:={ cls:=.type "set_iterator", data:=.fields #[rawInt 0,rawInt 0,.ref d,rawInt (es.size : Int),rawInt (ep:Int)] }) rfl
    have hm3 : SetN ((s.heap.push { cls:=.type "list", data:=.seq #[] }).push { cls:=.type "set_iterator", data:=.fields #[rawInt 0,rawInt 0,.ref d,rawInt (es.size : Int),rawInt (ep:Int)] }) d es ep t:=Heap.get?_push_of_some _ hm2
    have hS1:=Heap.get?_push_of_some { cls:=.type "set_iterator", data:=.fields #[rawInt 0,rawInt 0,.ref d,rawInt (es.size : Int),rawInt (ep:Int)] } hS0
    have hk : ∀ b o,s.heap.get? b = some o → ((s.heap.push { cls:=.type "list", data:=.seq #[] }).push { cls:=.type "set_iterator", data:=.fields #[rawInt 0,rawInt 0,.ref d,rawInt (es.size : Int),rawInt (ep:Int)] }).get? b = some o:=fun b o e=>Heap.get?_push_of_some _ (Heap.get?_push_of_some _ e)
    have hSI:=ltp
    have ndI : d ≠ (s.heap.push { cls:=.type "list", data:=.seq #[] }).objs.size:=Nat.ne_of_lt (Nat.lt_trans ltd ltp)
    have nSd : d ≠ s.heap.objs.size:=Nat.ne_of_lt ltd
    have nIS : (s.heap.push { cls:=.type "list", data:=.seq #[] }).objs.size ≠ s.heap.objs.size:=Nat.ne_of_gt ltp
    obtain ⟨fp,P,St,W,hfp,hst,hgot⟩ : ∃ (fp:List Addr) (P:Nat → Value → Prop) (St:Nat → Heap → Prop),Walks prog w A.in1 (s.heap.push { cls:=.type "list", data:=.seq #[] }).objs.size fp [(s.heap.push { cls:=.type "list", data:=.seq #[] }).objs.size] es.size P St ∧ s.heap.objs.size ∉ fp ∧ (∀ (h2:Heap),(∀ b o,b ≠ s.heap.objs.size → ((s.heap.push { cls:=.type "list", data:=.seq #[] }).push { cls:=.type "set_iterator", data:=.fields #[rawInt 0,rawInt 0,.ref d,rawInt (es.size : Int),rawInt (ep:Int)] }).get? b = some o → h2.get? b = some o) → St 0 h2) ∧ (∀ acc : Array Value,ItemsOf P acc es.size → ∃ ss,PyProof.Rows.StrsAre acc.toList ss ∧ ss.Perm ks):=by
      by_cases hf : w.params.followText "set-order" = true
      · refine ⟨_,_,_,walks_txt (A:=A.in1) (ep:=ep) (t:=t) hh hf ht.ft _ d ndI,?_,fun h2 k=>⟨⟨_,k _ _ nIS hIT,rfl,rfl⟩,k _ _ nSd hm3⟩,fun acc ha=>?_⟩
        · simp
          exact Ne.symm nSd
        · refine got_perm he (pick_perm (w.params.setOrder d ep) es) ?_ fun j v hv=>?_
          · have:=(pick_perm (w.params.setOrder d ep) es).length_eq
            rw [this]
            simpa using ha.1
          · obtain ⟨e,e1,e2⟩:=ha.2 j v (by rw [← Array.getElem?_toList]; exact hv)
            exact ⟨e,by rw [Array.getElem?_toList]; exact e1,e2⟩
      · have hf1:=Bool.eq_false_iff.mpr hf
        have hs1 : es.size = 1:=hc.resolve_left hf
        obtain ⟨e,hes⟩ : ∃ e,es = #[e]:=by
          refine ⟨es[0]'(by omega),?_⟩
          refine Array.ext (by simp [hs1]) fun i h1 h2=>?_
          have : i = 0:=by simp at h2; exact h2
          subst this
          rfl
        subst hes
        have hft:=ht.ft
        unfold SetTable.fits at hft
        rw [Bool.and_eq_true] at hft
        have hpl : t.place.size = 1:=by simpa using hft.1
        obtain ⟨p,hp⟩ : ∃ p,t.place = #[p]:=by
          refine ⟨t.place[0]'(by omega),?_⟩
          refine Array.ext (by simp [hpl]) fun i h1 h2=>?_
          have : i = 0:=by simp at h2; exact h2
          subst this
          rfl
        refine ⟨_,_,_,walks_one (A:=A.in1) (p:=p) hh _ d ndI e ep ⟨ht.ft,hp,fun _=>ht.ld hf1⟩,?_,fun h2 k=>⟨⟨0,⟨_,k _ _ nIS hIT,rfl,rfl⟩,by unfold slOk; rw [if_neg hf]; rfl⟩,⟨_,k _ _ nSd hm3,⟨rfl,rfl,rfl⟩,rfl⟩⟩,fun acc ha=>?_⟩
        · simp
          exact Ne.symm nSd
        · refine got_perm he (List.Perm.refl _) (by simpa using ha.1) fun j v hv=>?_
          have hj : j = 0:=by
            have h2:=(List.getElem?_eq_some_iff.mp hv).1
            have h3 : acc.toList.length = 1:=by simpa using ha.1
            omega
          subst hj
          exact ⟨e,rfl,ha.2 0 v (by rw [← Array.getElem?_toList]; exact hv)⟩
    split
    · refine wpAny_bind (wpAny_rule ?_)
      refine wpAny_bind ?_
      unfold Builtin.List.listTouch
      refine wpAny_bind (PyProof.Rows.listUpdate_at hS1 rfl ?_ (Nat.zero_le _) (by show 1 ≤ sizeLine + 1; omega))
      have hS2:=Heap.get?_update_self (Obj.mapSeq (fun x=>x.push Value.none)) hS1 rfl
      refine PyProof.Rows.listUpdate_at hS2 rfl ?_ (by show 1 ≤ sizeLine; decide) (by show 0 ≤ sizeLine + 1; omega)
      have hS3:=Heap.get?_update_self (Obj.mapSeq (fun x=>x.pop)) hS2 rfl
      exact wpAny_pure ⟨plainId_quiet F.plain_extend_loop _,loop _ _ _ fp es.size P St hle W hfp hSI hk hst hgot _ _ _ hS3 fun b o hb q=>(Heap.SameBut.update ..).extBut _ _ hb ((Heap.SameBut.update ..).extBut _ _ hb q)⟩
    · exact wpAny_pure ⟨plainId_quiet F.plain_extend_loop _,loop _ _ _ fp es.size P St hle W hfp hSI hk hst hgot _ _ _ hS1 fun b o hb q=>q⟩
  · have hS00 : ((s.heap.push { cls:=.type "list", data:=.seq #[] }).push (placesObj ys)).get? s.heap.objs.size = some { cls:=.type "list", data:=.seq #[] }:=Heap.get?_push_of_some _ hS0
    have hm20 : SetN ((s.heap.push { cls:=.type "list", data:=.seq #[] }).push (placesObj ys)) d es ep t:=Heap.get?_push_of_some _ hm2
    have htp0:=Heap.get?_push_size (h:=s.heap.push { cls:=.type "list", data:=.seq #[] }) (o:=placesObj ys) rfl
    have hk0 : ∀ b o,s.heap.get? b = some o → ((s.heap.push { cls:=.type "list", data:=.seq #[] }).push (placesObj ys)).get? b = some o:=fun b o e=>Heap.get?_push_of_some _ (Heap.get?_push_of_some _ e)
    have ltp2 : (s.heap.push { cls:=.type "list", data:=.seq #[] }).objs.size < ((s.heap.push { cls:=.type "list", data:=.seq #[] }).push (placesObj ys)).objs.size:=by simp [Heap.size_push]
    show wpAny _ _ _ _ _ { s with heap:=((s.heap.push { cls:=.type "list", data:=.seq #[] }).push (placesObj ys)).push { cls:=.type "set_iterator", data:=.fields #[.ref (s.heap.push { cls:=.type "list", data:=.seq #[] }).objs.size,rawInt 0,.ref d,rawInt (es.size : Int),rawInt (ep:Int)] },drawn:=d' }
    refine wpAny_bind (wpAny_holding (set_hint (s:={ s with heap:=((s.heap.push { cls:=.type "list", data:=.seq #[] }).push (placesObj ys)).push { cls:=.type "set_iterator", data:=.fields #[.ref (s.heap.push { cls:=.type "list", data:=.seq #[] }).objs.size,rawInt 0,.ref d,rawInt (es.size : Int),rawInt (ep:Int)] },drawn:=d' }) ⟨_,Heap.get?_push_of_some _ hm20,rfl⟩ ?_))
    have hIT:=Heap.get?_push_size (h:=(s.heap.push { cls:=.type "list", data:=.seq #[] }).push (placesObj ys)) (o:={ cls:=.type "set_iterator", data:=.fields #[.ref (s.heap.push { cls:=.type "list", data:=.seq #[] }).objs.size,rawInt 0,.ref d,rawInt (es.size : Int),rawInt (ep:Int)] }) rfl
    have hm3 : SetN (((s.heap.push { cls:=.type "list", data:=.seq #[] }).push (placesObj ys)).push { cls:=.type "set_iterator", data:=.fields #[.ref (s.heap.push { cls:=.type "list", data:=.seq #[] }).objs.size,rawInt 0,.ref d,rawInt (es.size : Int),rawInt (ep:Int)] }) d es ep t:=Heap.get?_push_of_some _ hm20
    have htp3:=Heap.get?_push_of_some { cls:=.type "set_iterator", data:=.fields #[.ref (s.heap.push { cls:=.type "list", data:=.seq #[] }).objs.size,rawInt 0,.ref d,rawInt (es.size : Int),rawInt (ep:Int)] } htp0
    have hS1:=Heap.get?_push_of_some { cls:=.type "set_iterator", data:=.fields #[.ref (s.heap.push { cls:=.type "list", data:=.seq #[] }).objs.size,rawInt 0,.ref d,rawInt (es.size : Int),rawInt (ep:Int)] } hS00
    have hk : ∀ b o,s.heap.get? b = some o → (((s.heap.push { cls:=.type "list", data:=.seq #[] }).push (placesObj ys)).push { cls:=.type "set_iterator", data:=.fields #[.ref (s.heap.push { cls:=.type "list", data:=.seq #[] }).objs.size,rawInt 0,.ref d,rawInt (es.size : Int),rawInt (ep:Int)] }).get? b = some o:=fun b o e=>Heap.get?_push_of_some _ (hk0 b o e)
    have hSI:=Nat.lt_trans ltp ltp2
    have ndI : d ≠ ((s.heap.push { cls:=.type "list", data:=.seq #[] }).push (placesObj ys)).objs.size:=Nat.ne_of_lt (Nat.lt_trans ltd hSI)
    have nSd : d ≠ s.heap.objs.size:=Nat.ne_of_lt ltd
    have nIS : ((s.heap.push { cls:=.type "list", data:=.seq #[] }).push (placesObj ys)).objs.size ≠ s.heap.objs.size:=Nat.ne_of_gt hSI
    have nTS : (s.heap.push { cls:=.type "list", data:=.seq #[] }).objs.size ≠ s.heap.objs.size:=Nat.ne_of_gt ltp
    have nTI : (s.heap.push { cls:=.type "list", data:=.seq #[] }).objs.size ≠ ((s.heap.push { cls:=.type "list", data:=.seq #[] }).push (placesObj ys)).objs.size:=Nat.ne_of_lt ltp2
    obtain ⟨fp,P,St,W,hfp,hst,hgot⟩ : ∃ (fp:List Addr) (P:Nat → Value → Prop) (St:Nat → Heap → Prop),Walks prog w A.in1 ((s.heap.push { cls:=.type "list", data:=.seq #[] }).push (placesObj ys)).objs.size fp [((s.heap.push { cls:=.type "list", data:=.seq #[] }).push (placesObj ys)).objs.size] es.size P St ∧ s.heap.objs.size ∉ fp ∧ (∀ (h2:Heap),(∀ b o,b ≠ s.heap.objs.size → (((s.heap.push { cls:=.type "list", data:=.seq #[] }).push (placesObj ys)).push { cls:=.type "set_iterator", data:=.fields #[.ref (s.heap.push { cls:=.type "list", data:=.seq #[] }).objs.size,rawInt 0,.ref d,rawInt (es.size : Int),rawInt (ep:Int)] }).get? b = some o → h2.get? b = some o) → St 0 h2) ∧ (∀ acc : Array Value,ItemsOf P acc es.size → ∃ ss,PyProof.Rows.StrsAre acc.toList ss ∧ ss.Perm ks):=by
      refine ⟨_,_,_,walks_drw (A:=A.in1) (ep:=ep) (t:=t) hh ht.ft _ d _ ndI nTI ys hp,?_,fun h2 k=>⟨⟨_,k _ _ nIS hIT,rfl,rfl⟩,k _ _ nSd hm3,k _ _ nTS htp3⟩,fun acc ha=>?_⟩
      · intro z
        rcases List.mem_cons.mp z with z | z
        · exact nIS z.symm
        · rcases List.mem_cons.mp z with z | z
          · exact nSd z.symm
          · exact nTS (List.mem_singleton.mp z).symm
      · have hl : ys.length = es.size:=by rw [hp.length_eq]; simp
        have hpe : (ys.filterMap fun y=>es[y]?).Perm es.toList:=by
          have:=hp.filterMap fun y=>es[y]?
          rwa [filterMap_getElem?_range] at this
        have hmap : ∀ (zs:List Nat),(∀ z ∈ zs,z < es.size) → ∀ j : Nat,(zs.filterMap fun y=>es[y]?)[j]? = (zs[j]?).bind fun y=>es[y]?:=by
          intro zs
          induction zs with
          | nil=>intro _ j; simp
          | cons z zs ih =>
            intro hz j
            have hz0:=hz z List.mem_cons_self
            rw [List.filterMap_cons_some (Array.getElem?_eq_getElem hz0)]
            cases j with
            | zero=>simp [hz0]
            | succ j =>
              rw [List.getElem?_cons_succ,List.getElem?_cons_succ]
              exact ih (fun x hx=>hz x (List.mem_cons_of_mem _ hx)) j
        refine got_perm he hpe ?_ fun j v hv=>?_
        · rw [hpe.length_eq]
          simpa using ha.1
        · obtain ⟨y,e,e1,e2,e3⟩:=ha.2 j v (by rw [← Array.getElem?_toList]; exact hv)
          refine ⟨e,?_,e3⟩
          rw [hmap ys (fun z hz=>List.mem_range.mp (hp.mem_iff.mp hz)) j,e1]
          exact e2
    split
    · refine wpAny_bind (wpAny_rule ?_)
      refine wpAny_bind ?_
      unfold Builtin.List.listTouch
      refine wpAny_bind (PyProof.Rows.listUpdate_at hS1 rfl ?_ (Nat.zero_le _) (by show 1 ≤ sizeLine + 1; omega))
      have hS2:=Heap.get?_update_self (Obj.mapSeq (fun x=>x.push Value.none)) hS1 rfl
      refine PyProof.Rows.listUpdate_at hS2 rfl ?_ (by show 1 ≤ sizeLine; decide) (by show 0 ≤ sizeLine + 1; omega)
      have hS3:=Heap.get?_update_self (Obj.mapSeq (fun x=>x.pop)) hS2 rfl
      exact wpAny_pure ⟨plainId_quiet F.plain_extend_loop _,loop _ _ _ fp es.size P St hle W hfp hSI hk hst hgot _ _ _ hS3 fun b o hb q=>(Heap.SameBut.update ..).extBut _ _ hb ((Heap.SameBut.update ..).extBut _ _ hb q)⟩
    · exact wpAny_pure ⟨plainId_quiet F.plain_extend_loop _,loop _ _ _ fp es.size P St hle W hfp hSI hk hst hgot _ _ _ hS1 fun b o hb q=>q⟩
end
end PySem
namespace L2
open PySem PySem.Spec PyProof.Rows
section
variable {X:Cx}
end
end L2
namespace L2
open PySem PySem.Spec PyProof.Rows
theorem boot_set' : bootBuiltins "set" = some (.type "set"):=by rfl
end L2
namespace L2
open PySem PySem.Spec PyProof.Rows
theorem Inv.drew {X:Cx} {pins:List (Addr × Obj)} {σ:L2.St} {H:Hp} {s:Shared} {d':Drawn} (I:Inv X pins σ H s) : Inv X pins σ H { s with drawn:=d' } :=
  I.step (h':=s.heap) (H':=H) (g':=s.gens) (t':=s.toks) (d':=d') (ch:=[]) (fun _ z=>nomatch z) (fun b o _ _ _ e _=>e) (fun b o _ _ _ e _=>⟨o.slots,e⟩) (fun _ _ _ _ n=>n) (fun b o _ e=>⟨o,e⟩) (fun _ _ e=>e) (fun _ _ _ e=>e) (fun b ps e=>⟨#[],by rw [e]; simp⟩) (fun m hm=>hm) I.hok I.bare
def tSortSetN (K:PySem.W.Frag) (ta:TA) : TE:=fun σ H Q=>ta σ H fun vs H1=>∃ (a:Addr) (xs:List Str),vs = [.ref a] ∧ SqL K H1 a (xs.map V.str) ∧ 1 ≤ xs.length ∧ xs.length < 60 ∧ ∀ (l:Addr) (ss:List Str),H1 l = none → ss.Perm (dd xs) → ss.Pairwise (fun a b=>ltCps b.cps.toList a.cps.toList = false) → Q (.ref l) (upd H1 l (.lst (ss.map V.str)))
theorem dd_len : ∀ (xs ks:List Str),(xs.foldl ddS ks).length ≤ ks.length + xs.length
  | [],ks=>Nat.le_refl _
  | x :: xs,ks=>by
    rw [List.foldl_cons]
    have h:=dd_len xs (ddS ks x)
    have h2 : (ddS ks x).length ≤ ks.length + 1:=by
      unfold ddS
      split
      · omega
      · simp
    rw [List.length_cons]
    omega
theorem dd_ge : ∀ (xs ks:List Str),ks.length ≤ (xs.foldl ddS ks).length
  | [],ks=>Nat.le_refl _
  | x :: xs,ks=>by
    rw [List.foldl_cons]
    refine Nat.le_trans ?_ (dd_ge xs (ddS ks x))
    unfold ddS
    split
    · exact Nat.le_refl _
    · simp
theorem pe_sortSetN {X:Cx} {a:Expr} {ta:TA} {p p2 pos pos2:Pos} (hc:X.calm = true) (hg:Gl X "sorted") (hm:X.mg "sorted" = none) (hg2:Gl X "set") (hm2:X.mg "set" = none) (ha:PA X [a] ta) (hs:starEach [a] X.env = [(false,eval a X.env)]:=by rfl)
    (hs3:starEach [Expr.Call (.Name "set" p2) [a] [] pos2] X.env = [(false,eval (Expr.Call (.Name "set" p2) [a] [] pos2) X.env)]:=by rfl) :
    PE X (.Call (.Name "sorted" p) [.Call (.Name "set" p2) [a] [] pos2] [] pos) (tSortSetN X.K ta):=by
  intro pins s σ H Q I h
  refine wpAny_Call_Name_kw (ld_blt I hg hm PyProof.Rows.boot_sorted (PyProof.Rows.callWith_builtin1 ?_ hs3 rfl))
  rw [hs3]
  show wpAny _ _ (spliced [(false,eval (Expr.Call (.Name "set" p2) [a] [] pos2) X.env)]) _ _ s
  refine Calls.spliced_cons ?_
  refine Call_ (ld_blt I hg2 hm2 boot_set' (PyProof.Rows.callWith_type1 (thn (ha pos2 pins s σ H _ I h) fun us s1 ⟨vs,H1,I1,r1,q1⟩=>?_) hs rfl))
  obtain ⟨l,xs,e,h1,hx1,hx60,q⟩:=q1
  subst e
  obtain ⟨u,rfl,ru⟩:=vals1 r1
  cases ru
  obtain ⟨its,rv,t1,_⟩:=I1.list h1
  have hv : StrsAre its xs:=strs_back rv
  have hL : s1.heap.IsList l its.toArray:=let ⟨o,n,ho,hc,_,r⟩:=t1; ⟨o,ho,hc,n,r⟩
  refine call_set_txt (vs:=its.toArray) (xs:=xs) (I1.ok.hd hc) hL (by simpa using hv) (by omega) fun h2 es ep t tk' hd ht he hz kp=>?_
  refine Calls.spliced_nil ?_
  have I2 : Inv X pins σ H1 { s1 with heap:=h2,toks:=tk' }:=I1.kept (t':=tk') kp
  have ddl : (dd xs).length ≤ xs.length:=by have:=dd_len xs []; simpa [dd] using this
  have ess : es.size = (dd xs).length:=by have:=he.pm.length_eq; simpa using this
  have ge1 : 1 ≤ es.size:=by
    rw [ess]
    cases xs with
    | nil=>simp at hx1
    | cons x xs =>
      have:=dd_ge xs (ddS [] x)
      have e1 : (ddS [] x).length = 1:=by simp [ddS]
      show 1 ≤ (xs.foldl ddS (ddS [] x)).length
      omega
  refine Calls.call_function_entry kind_sorted plain_sorted entry_sorted (args_sorted1 _) ?_
  unfold Builtin.«sorted»
  refine wpAny_bind (m:=checkCount "sorted" 1 1 _) (wpAny_pure ?_)
  refine wpAny_bind (collect_set (A:=X.A.in1) (s:={ s1 with heap:=h2,toks:=tk' }) (I2.ok.hd hc) ht he ge1 hz hd fun h3 tk3 d3 us ss hk1 hS hperm=>?_)
  have I3 : Inv X pins σ H1 { s1 with heap:=h3,toks:=tk3,drawn:=d3 }:=(I2.kept (t':=tk3) hk1).drew (d':=d3)
  have hul : us.length = ss.length:=hS.length
  have hsl : ss.length ≤ xs.length:=by rw [hperm.length_eq]; exact ddl
  have line : us.length ≤ sizeLine:=by rw [hul]; exact Nat.le_of_lt (small1000 (by omega))
  refine wpAny_bind (wpAny_newList ?_ line)
  have hoL : (h3.push { cls:=.type "list", data:=.seq us.toArray }).get? h3.objs.size = some (seqObj "list" us.toArray 0):=Heap.get?_push_size _ rfl
  refine wpAny_bind (wpAny_holding (wpAny_call_entry slot_list_sort ⟨_,hoL,rfl⟩ entry_list_sort (list_sort_treeK strKind_oneLt hoL hS.keysOf (fun a b rest e=>keyKind_strs (ss:=ss) (by rw [← e]; exact hS)) (by omega) fun st' a1 a2=>⟨_,rfl,?_⟩) (args_list_sort _)))
  obtain ⟨s2,b1,b2,b3⟩:=sorted_out_str hS a1 a2
  obtain ⟨e,he'⟩ : ∃ e,(sortedHeap (h3.push { cls:=.type "list", data:=.seq us.toArray }) h3.objs.size us ((arrOf st').map (·.2))).get? h3.objs.size = some (seqObj "list" ((arrOf st').map (·.2)) e):=sortedHeap_at hoL
  refine wpAny_pure ⟨_,rfl,⟨.ref h3.objs.size,upd H1 h3.objs.size (.lst (s2.map V.str)),I3.laid (t':=tk3) (a:=h3.objs.size) (o:=.lst (s2.map V.str)) (fun b o hb=>?_) (Nat.le_refl _) ⟨?_,_,e,vals_strs b1,?_⟩,rfl,q _ s2 (I3.hok.fresh (Nat.le_refl _)) (b2.trans hperm) (pairwise_sorted b3)⟩⟩
  · rw [sortedHeap_old (Nat.ne_of_lt (Heap.lt_size hb)) (by rw [Heap.size_push]; exact Nat.lt_succ_of_lt (Heap.lt_size hb))]
    exact Heap.get?_push_of_some _ hb
  · rw [List.length_map,b2.length_eq]
    exact Nat.le_of_lt (small1000 (by omega))
  · rw [he']
end L2
namespace L2
open PySem PySem.Spec PyProof.Rows
section
variable {X:Cx}
def eqVs : List V → List V → Bool
  | [],[]=>true
  | x :: xs,y :: ys=>eqV x y && eqVs xs ys
  | _,_=>false
theorem eqVs_all : ∀ {xs ys:List V} {e:Nat → Bool},xs.length = ys.length → (∀ j x y,xs[j]? = some x → ys[j]? = some y → e j = eqV x y) → (List.range xs.length).all e = eqVs xs ys
  | [],[],_,_,_=>rfl
  | x :: xs,y :: ys,e,hl,h=>by
    rw [List.length_cons,List.range_succ_eq_map,List.all_cons,List.all_map,h 0 x y rfl rfl]
    rw [show eqVs (x :: xs) (y :: ys) = (eqV x y && eqVs xs ys) from rfl]
    congr 1
    exact eqVs_all (by simpa using hl) fun j x' y' h1 h2=>h (j + 1) x' y' (by simpa using h1) (by simpa using h2)
  | [],_ :: _,_,hl,_=>by cases hl
  | _ :: _,[],_,hl,_=>by cases hl
theorem eqVs_len : ∀ {xs ys:List V},xs.length ≠ ys.length → eqVs xs ys = false
  | [],[],h=>absurd rfl h
  | x :: xs,y :: ys,h=>by
    rw [show eqVs (x :: xs) (y :: ys) = (eqV x y && eqVs xs ys) from rfl,eqVs_len (fun z=>h (by simp [z])),Bool.and_false]
  | [],_ :: _,_=>rfl
  | _ :: _,[],_=>rfl
def rEqF (neg:Bool) : R2:=fun x y H Q=>∃ (p r:Addr) (xs ys:List V),x = .ref p ∧ y = .ref r ∧ H p = some (.lst xs) ∧ H r = some (.lst ys) ∧ xs.all flatV = true ∧ ys.all flatV = true ∧ Q (.bl (if neg then !eqVs xs ys else eqVs xs ys)) H
theorem op_eqF (hu:X.A.units < cLine) : OpR X (compareOp .Eq) (rEqF false):=by
  intro pins s σ H x y v u Q I rx ry h
  obtain ⟨p,r,xs,ys,rfl,rfl,hp,hr,fx,fy,q⟩:=h
  cases rx
  cases ry
  obtain ⟨_,its,n,r1,l1,e1⟩:=I.lstM hp
  obtain ⟨_,its2,n2,r2,l2,e2⟩:=I.lstM hr
  have L1 : s.heap.IsList p its.toArray:=⟨_,e1,rfl,_,rfl⟩
  have L2 : s.heap.IsList r its2.toArray:=⟨_,e2,rfl,_,rfl⟩
  by_cases hl : xs.length = ys.length
  · obtain ⟨e,h1,h2⟩:=eqL_all (A:=X.A.in1) (s:=s) r1 r2 fx fy
    refine SeqAt.eq_listAt L1 L2 (by simp; omega) hu h1 ?_
    have ez : its.toArray.size = xs.length:=by simp; omega
    rw [ez,eqVs_all hl h2]
    exact ⟨.bl (eqVs xs ys),H,I,rfl,by simpa using q⟩
  · refine SeqAt.eq_list_lengthsAt L1 L2 (by simp; omega) hu ⟨.bl false,H,I,rfl,?_⟩
    rw [eqVs_len hl] at q
    exact q
end
end L2
namespace L2
open PySem PySem.Spec PyProof.Rows
def kindP (s:Sg) : Option ((Str × Str) × Sg):=match wordP s with
  | none=>none
  | some (g,s1)=>match skP [32] s1 with
    | none=>none
    | some s2=>match skP (tx "quiet") s2 with
      | some r=>some ((g,Str.ofString "quiet"),r)
      | none=>match skP (tx "number") s2 with
        | some r=>some ((g,Str.ofString "number"),r)
        | none=>none
def moreKP : Nat → Sg → Option (List (Str × Str) × Sg)
  | 0,_=>none
  | n + 1,s=>match skP (tx ", ") s with
    | none=>some ([],s)
    | some s1=>match kindP s1 with
      | none=>none
      | some (k,s2)=>match moreKP n s2 with
        | none=>none
        | some (ks,r)=>some (k :: ks,r)
def SrtS (l:List Str) : Prop:=l.Pairwise (fun a b=>ltCps a.cps.toList b.cps.toList = true)
instance (l:List Str) : Decidable (SrtS l):=inferInstanceAs (Decidable (List.Pairwise _ _))
def kinds1P (s:Sg) : Option (List (Str × Str) × Sg):=match skP (tx " where ") s with
  | none=>some ([],s)
  | some s1=>match kindP s1 with
    | none=>none
    | some (k,s2)=>match moreKP (s2.length + 1) s2 with
      | none=>none
      | some (ks,r)=>if SrtS ((k :: ks).map (·.1)) then some (k :: ks,r) else none
theorem lt_asym {a b:Str} (h:ltCps a.cps.toList b.cps.toList = true) : ltCps b.cps.toList a.cps.toList = false:=by
  rw [ltCps_eq,decide_eq_true_iff] at h
  rw [ltCps_eq,decide_eq_false_iff_not]
  exact List.lt_asymm h
theorem lt_irr (a:Str) : ltCps a.cps.toList a.cps.toList = false:=by
  cases h : ltCps a.cps.toList a.cps.toList with
  | false=>rfl
  | true=>rw [lt_asym h] at h; cases h
theorem le_lt {a b:Str} (h:ltCps b.cps.toList a.cps.toList = false) (n:a ≠ b) : ltCps a.cps.toList b.cps.toList = true:=by
  cases h2 : ltCps a.cps.toList b.cps.toList with
  | true=>rfl
  | false=>exact absurd (cps_anti h h2) n
theorem ddS_nodup {ks:List Str} {x:Str} (h:ks.Nodup) : (ddS ks x).Nodup:=by
  unfold ddS
  split
  · exact h
  · rename_i hn
    rw [List.nodup_append]
    refine ⟨h,by simp,fun a ha b hb=>?_⟩
    rw [List.mem_singleton.mp hb]
    exact fun z=>hn (z ▸ ha)
theorem dd_nodup : ∀ (xs ks:List Str),ks.Nodup → (xs.foldl ddS ks).Nodup
  | [],ks,h=>h
  | x :: xs,ks,h=>dd_nodup xs _ (ddS_nodup h)
theorem dd_self : ∀ (xs ks:List Str),(ks ++ xs).Nodup → xs.foldl ddS ks = ks ++ xs
  | [],ks,_=>by simp
  | x :: xs,ks,h=>by
    have hx : x ∉ ks:=fun z=>(List.nodup_append.mp h).2.2 x z x List.mem_cons_self rfl
    rw [List.foldl_cons,ddS,if_neg hx,dd_self xs (ks ++ [x]) (by simpa using h)]
    simp
theorem srt_iff {xs ss:List Str} (hp:ss.Perm (dd xs)) (hs:ss.Pairwise (fun a b=>ltCps b.cps.toList a.cps.toList = false)) : decide (xs = ss) = decide (SrtS xs):=by
  rw [Bool.eq_iff_iff,decide_eq_true_iff,decide_eq_true_iff]
  constructor
  · intro e
    rw [e]
    have nd : ss.Nodup:=hp.nodup_iff.mpr (dd_nodup xs [] (by simp))
    exact (hs.and nd).imp fun h=>le_lt h.1 h.2
  · intro h
    have nd : xs.Nodup:=h.imp fun {a b} h e=>by rw [e,lt_irr] at h; cases h
    have e : dd xs = xs:=by have:=dd_self xs [] (by simpa using nd); simpa [dd] using this
    rw [e] at hp
    exact List.Perm.eq_of_pairwise (fun a b _ _ h1 h2=>cps_anti h1 h2) (h.imp fun h=>lt_asym h) hs hp.symm
theorem kind_len {s r:Sg} {k:Str × Str} (h:kindP s = some (k,r)) : r.length < s.length:=by
  unfold kindP at h
  split at h
  · cases h
  · rename_i g s1 e1
    have h1:=word_len e1
    split at h
    · cases h
    · rename_i s2 e2
      have h2:=congrArg List.length (skP_some e2).1
      rw [List.length_append] at h2
      split at h
      · rename_i r' e3
        have h3:=congrArg List.length (skP_some e3).1
        rw [List.length_append] at h3
        cases h
        omega
      · split at h
        · rename_i r' e3
          have h3:=congrArg List.length (skP_some e3).1
          rw [List.length_append] at h3
          cases h
          omega
        · cases h
def RpK (H:Hp) (k:Str × Str) (v:V) : Prop:=∃ p,v = .ref p ∧ H p = some (.tup [.str k.1,.str k.2])
def RpKs (H:Hp) (ks:List (Str × Str)) (v:V) : Prop:=∃ p us,v = .ref p ∧ H p = some (.tup us) ∧ Paired (RpK H) ks us
theorem RpK.mono {H H':Hp} {k:Str × Str} {v:V} (h:RpK H k v) (t:Tk H H') : RpK H' k v:=let ⟨p,e,x⟩:=h; ⟨p,e,t _ _ x⟩
theorem RpKs.mono {H H':Hp} {k:List (Str × Str)} {v:V} (h:RpKs H k v) (t:Tk H H') : RpKs H' k v:=let ⟨p,us,e,x,y⟩:=h; ⟨p,us,e,t _ _ x,Paired.mapP y fun _ _ z=>z.mono t⟩
theorem wh_arrow7 : (tx " where ").length = 7:=by decide +kernel
def OneK (s:Sg) : Prop:=∀ s1 k s2 ks r,skP (tx " where ") s = some s1 → kindP s1 = some (k,s2) → moreKP (s2.length + 1) s2 = some (ks,r) → ks.length < 50
def ruleP (s:Sg) : Option (Tr × Tr × List (Str × Str)):=match shapeP 17 s with
  | none=>none
  | some (t,s1)=>match skP (tx " -> ") s1 with
    | none=>none
    | some s2=>match shapeP 17 s2 with
      | none=>none
      | some (u,s3)=>match kinds1P s3 with
        | none=>none
        | some (ks,s4)=>if s4 = [] then some (t,u,ks) else none
def RuleK (s:Sg) : Prop:=∀ t s1 s2 u s3,shapeP 17 s = some (t,s1) → skP (tx " -> ") s1 = some s2 → shapeP 17 s2 = some (u,s3) → OneK s3
end L2
namespace K08
open PySem PySem.Spec L2 PyProof.Rows
abbrev s_kind_from : Stmt:=top 36
theorem sc_kind_from : FnScope ["reader", "gap", "kind"] ["reader"] (defScope s_kind_from):=⟨rfl,rfl,rfl,by decide +kernel,rfl,by decide +kernel,by decide +kernel⟩
abbrev s_kinds_from : Stmt:=top 37
theorem sc_kinds_from : FnScope ["reader", "kinds", "gaps"] ["reader"] (defScope s_kinds_from):=⟨rfl,rfl,rfl,by decide +kernel,rfl,by decide +kernel,by decide +kernel⟩
abbrev s_read_rule : Stmt:=top 38
theorem sc_read_rule : FnScope ["text", "reader", "left", "right", "kinds"] ["text"] (defScope s_read_rule):=⟨rfl,rfl,rfl,by decide +kernel,rfl,by decide +kernel,by decide +kernel⟩
section
variable {P:Program} {w:World} {K:PySem.W.Frag} {mg:Str → Option Value} {base:Heap}
def sp_kindF (C cN:Addr) : Sp:=fun vs H Q E=>∃ (r:Addr) (T:Str) (i:Nat),vs = [.ref r] ∧ RdAt C H r T i ∧ OutP C cN H r T (kindP (T.cps.toList.drop i)) RpK Q E
theorem okF_kind {k:Nat} {f C cN g1 g2 g3:Addr} {fd gd1 gd2 gd3:FuncData} (F:Fun K "kind_from" "kind_from" s_kind_from f fd) (T_Reader:TxtR K mg C) (m_NoText:mg "NoText" = some (.ref cN)) (x_NoText:PySem.W.excIn K cN bmVE "ValueError.__new__" = true)
    (G_Reader_skipped:FnM P w K mg base k C "skipped" g1 gd1 ["self", "piece"] (sp_skipped C)) (G_Reader_skip:FnMF P w K mg base k C "skip" g2 gd2 ["self", "piece"] (sp_skipF C cN)) (G_word_from:FnF P w K mg base k "word_from" g3 gd3 ["reader"] (sp_wordF C cN)) :
    FnOk P w K mg base (CXF P w) (k + 1) f fd ["reader"] (sp_kindF C cN):=by
  refine F.okF sc_kind_from (fun vs H Q E h=>?_) (fun cdv A outer s H vs Q E hr h=>?_)
  · obtain ⟨r,T,i,rfl,_⟩:=h
    rfl
  obtain ⟨r,T,i,rfl,rd,q⟩:=h
  refine ⟨_,(pss_cons (ps_set (i:=1) sc_kind_from.nd rfl (Or.inl rfl) (pe_call G_word_from.ok hr (by rfl) G_word_from.gl G_word_from.kp G_word_from.bd .nil cxf_pass (pa_cons (pv 0) pa_nil)))
    (pss_cons (ps_expr (pe_meth (pv 0) T_Reader.cl G_Reader_skip.mt G_Reader_skip.ok hr G_Reader_skip.bd .nil cxf_pass (pa_cons pe_str pa_nil)))
    (pss_cons (ps_for own_cx rfl (pi_tup (pe_tup (pa_cons pe_str (pa_cons pe_str pa_nil)) : PE _ _ _)) (pg_name (i:=2) sc_kind_from.nd rfl (Or.inl rfl)) (pss_one (ps_if (pt_val (pe_meth (pv 0) T_Reader.cl G_Reader_skipped.mt G_Reader_skipped.ok hr G_Reader_skipped.bd .nil pass0 (pa_cons (pv 2) pa_nil))) (pss_one (ps_ret (pe_tup (pa_cons (pv 1) (pa_cons (pv 2) pa_nil)) : PE _ _ _))) pss_nil)))
    (pss_one (ps_raise (by rfl) m_NoText x_NoText (pa_cons pe_str pa_nil)))))),?_⟩
  have d1 : 1 ≤ sizeLine:=by decide
  have d2 : 2 ≤ sizeLine:=by decide
  refine ⟨_,rfl,r,T,i,rfl,rd,OutP.mk (fun e H' b=>?_) fun x s1 e vx H1 j1 b1 rd1 hs1 hx=>?_⟩
  · exact q.bad (by unfold kindP; rw [e]) H' b
  have hx' : vx = .str x:=hx
  subst hx'
  obtain ⟨⟨dx1,hr1⟩,_,_⟩:=id rd1
  refine ⟨_,rfl,r,dx1,_,rfl,hr1,rfl,r,T, " ", j1,rfl,rd1,rep_piece " " (by decide),fun h=>?_,fun s2 h H2 j2 b2 rd2 hs2=>?_⟩
  · rw [hs1,br_list.2.1] at h
    exact q.bad (by unfold kindP; rw [e]; dsimp only; rw [h]) H1 b1
  rw [hs1,br_list.2.1] at h
  obtain ⟨⟨dx2,hr2⟩,hi2,hf2⟩:=id rd2
  refine ⟨d2,fun tp htp=>⟨tp,rfl,⟨_,SqT.of upd_same⟩,?_⟩⟩
  have s0:=same_upd (o:=.tup [.str "quiet", .str "number"]) htp
  have b0 : But r H2 (upd H2 tp (.tup [.str "quiet", .str "number"])):=fun b o _ e=>s0 _ _ e
  have rd0 : RdAt C (upd H2 tp (.tup [.str "quiet", .str "number"])) r T j2:=⟨⟨dx2,s0 _ _ hr2⟩,hi2,hf2⟩
  have et : (upd H2 tp (.tup [.str "quiet", .str "number"])) tp = some (.tup [.str "quiet", .str "number"]):=upd_same
  generalize upd H2 tp (.tup [.str "quiet", .str "number"]) = H0 at s0 b0 rd0 et ⊢
  have hr00:=s0 _ _ hr2
  have nxt : ∀ (p:Str),T.cps.toList.drop (j2 + p.length) = s2.drop p.cps.toList.length:=fun p=>by rw [← hs2,List.drop_drop,str_len]
  have hk : ∀ o,kindP (T.cps.toList.drop i) = o ↔ (match skP (tx "quiet") s2 with | some r=>some ((x,Str.ofString "quiet"),r) | none=>match skP (tx "number") s2 with | some r=>some ((x,Str.ofString "number"),r) | none=>none) = o:=fun o=>by
    unfold kindP
    rw [e]
    dsimp only
    rw [h]
  refine for_tup (xs:=[V.str "quiet", V.str "number"]) (fun j σ' H'=>∃ s1 : Option V,σ' = [some (.ref r),some (.str x),s1] ∧ H' = H0 ∧ (1 ≤ j → (tx "quiet").isPrefixOf s2 = false) ∧ (2 ≤ j → (tx "number").isPrefixOf s2 = false)) ⟨none,rfl,rfl,(by omega),(by omega)⟩ ?_ ?_ ?_
  · rintro j σ' H' _ ⟨s1,rfl,rfl,_⟩
    exact SqT.of et
  · rintro j y σ' H' hy ⟨s1',rfl,rfl,n1,n2⟩
    have hj : j < 2:=(List.getElem?_eq_some_iff.mp hy).1
    rcases (show j = 0 ∨ j = 1 by omega) with rfl | rfl
    · cases hy
      refine ⟨_,rfl,r,dx2,_,rfl,hr00,rfl,_,rfl,r,T,_,_,rfl,rd0,fun hq=>?_,fun hq H3 b3 rd3=>?_⟩
      · rw [hs2] at hq
        exact ⟨_,rfl,iteF ⟨_,rfl,rfl,fun _=>hq,fun z=>by omega⟩⟩
      · rw [hs2] at hq
        have hsk : skP (tx "quiet") s2 = some (s2.drop (tx "quiet").length):=sk_yes hq
        refine ⟨_,rfl,iteT ⟨_,rfl,_,rfl,d2,fun p hp=>?_⟩⟩
        exact q.good (x:=(x,Str.ofString "quiet")) (s:=s2.drop (tx "quiet").length) ((hk _).mpr (by rw [hsk])) _ _ _ ((((b1.trans b2).trans b0).trans b3).upd_new (C:=C) hp) (rd3.new hp) (nxt "quiet") ⟨p,rfl,upd_same⟩
    · cases hy
      have hk1 : skP (tx "quiet") s2 = none:=skP_no (n1 (by omega))
      refine ⟨_,rfl,r,dx2,_,rfl,hr00,rfl,_,rfl,r,T,_,_,rfl,rd0,fun hq=>?_,fun hq H3 b3 rd3=>?_⟩
      · rw [hs2] at hq
        exact ⟨_,rfl,iteF ⟨_,rfl,rfl,fun _=>n1 (by omega),fun z=>hq⟩⟩
      · rw [hs2] at hq
        have hsk : skP (tx "number") s2 = some (s2.drop (tx "number").length):=sk_yes hq
        refine ⟨_,rfl,iteT ⟨_,rfl,_,rfl,d2,fun p hp=>?_⟩⟩
        exact q.good (x:=(x,Str.ofString "number")) (s:=s2.drop (tx "number").length) ((hk _).mpr (by rw [hk1]; dsimp only; rw [hsk])) _ _ _ ((((b1.trans b2).trans b0).trans b3).upd_new (C:=C) hp) (rd3.new hp) (nxt "number") ⟨p,rfl,upd_same⟩
  · rintro σ' H' ⟨s1',rfl,rfl,n1,n2⟩
    exact ⟨d1,q.bad ((hk _).mpr (by rw [skP_no (n1 (by decide))]; dsimp only; rw [skP_no (n2 (by decide))])) _ ((b1.trans b2).trans b0)⟩
def sp_kindsF (C cN:Addr) : Sp:=fun vs H Q E=>∃ (r:Addr) (T:Str) (i:Nat),vs = [.ref r] ∧ RdAt C H r T i ∧ OneK (T.cps.toList.drop i) ∧ OutP C cN H r T (kinds1P (T.cps.toList.drop i)) RpKs Q E
theorem wh_len : (Str.ofString " where ").length = 7:=by decide +kernel
theorem co_len : (Str.ofString ", ").length = 2:=by decide +kernel
theorem okF_kinds {k:Nat} {f C cN g1 g2:Addr} {fd gd1 gd2:FuncData} (F:Fun K "kinds_from" "kinds_from" s_kinds_from f fd) (T_Reader:TxtR K mg C) (z_tuple:mg "tuple" = none) (z_sorted:mg "sorted" = none) (z_set:mg "set" = none) (m_NoText:mg "NoText" = some (.ref cN)) (x_NoText:PySem.W.excIn K cN bmVE "ValueError.__new__" = true)
    (G_Reader_skipped:FnM P w K mg base k C "skipped" g1 gd1 ["self", "piece"] (sp_skipped C)) (G_kind_from:FnF P w K mg base k "kind_from" g2 gd2 ["reader"] (sp_kindF C cN)) :
    FnOk P w K mg base (CXF P w) (k + 1) f fd ["reader"] (sp_kindsF C cN):=by
  refine F.okF sc_kinds_from (fun vs H Q E h=>?_) (fun cdv A outer s H vs Q E hr h=>?_)
  · obtain ⟨r,T,i,rfl,_⟩:=h
    rfl
  obtain ⟨r,T,i,rfl,rd,h1k,q⟩:=h
  obtain ⟨⟨dx,hr0⟩,hi,hf⟩:=id rd
  have hu0:=Nat.lt_of_succ_lt (hu_of hr)
  refine ⟨_,(pss_cons (ps_if (pt_not (pt_val (pe_meth (pv 0) T_Reader.cl G_Reader_skipped.mt G_Reader_skipped.ok hr G_Reader_skipped.bd .nil pass0 (pa_cons pe_str pa_nil)))) (pss_one (ps_ret (pe_tup pa_nil:PE _ _ _))) pss_nil)
    (pss_cons (ps_set (i:=1) sc_kinds_from.nd rfl (Or.inl rfl) (pe_lst (pa_cons (pe_call G_kind_from.ok hr (by rfl) G_kind_from.gl G_kind_from.kp G_kind_from.bd .nil cxf_pass (pa_cons (pv 0) pa_nil)) pa_nil) : PE _ _ _))
    (pss_cons (ps_while own_cx (pt_val (pe_meth (pv 0) T_Reader.cl G_Reader_skipped.mt G_Reader_skipped.ok hr G_Reader_skipped.bd .nil pass0 (pa_cons pe_str pa_nil))) (pss_one (ps_expr (pe_bm PySem.F.plainAttrs_list PySem.F.slot_list_append PySem.F.type_list_append mt_append (pv 1) (pa_cons (pe_call G_kind_from.ok hr (by rfl) G_kind_from.gl G_kind_from.kp G_kind_from.bd .nil cxf_pass (pa_cons (pv 0) pa_nil)) pa_nil)))))
    (pss_cons (ps_compB (jj:=2) ["gap", "kind"] [none,none] rfl (pi_list (pv 1)) (fun _ _ _ _ _=>(pg_tupK (K:=K) (n:=2) rfl rfl (pgs_cons (pg_name (i:=0) (show List.Nodup (["gap", "kind"] : List Str) by decide +kernel) rfl (Or.inl rfl)) (pgs_cons (pg_name (i:=1) (show List.Nodup (["gap", "kind"] : List Str) by decide +kernel) rfl (Or.inl rfl)) pgs_nil)))) (fun _ _ _ _ _=>pts_nil) (fun _ _ _ _ _=>(pv 0)) rfl sc_kinds_from.nd rfl (Or.inl rfl) (Or.inr rfl))
    (pss_cons (ps_if (pt_cmpR (op_neS hu0) (pv 2) (pe_sortSetN rfl (by rfl) z_sorted (by rfl) z_set (pa_cons (pv 2) pa_nil)) (nomark _)) (pss_one (ps_raise (by rfl) m_NoText x_NoText (pa_cons pe_str pa_nil))) pss_nil)
    (pss_one (ps_ret (pe_callTy call_tuple_of (by rfl) z_tuple PyProof.Rows.boot_tuple (pa_cons (pv 1) pa_nil))))))))),?_⟩
  have d0 : 0 ≤ sizeLine:=by decide
  have d1 : 1 ≤ sizeLine:=by decide
  have hT:=str_len T
  refine ⟨_,rfl,r,dx,_,rfl,hr0,rfl,r,T, " where ", i,rfl,rd,fun hq=>?_,fun hq H1 b1 rd1=>?_⟩
  · have hk : skP (tx " where ") (T.cps.toList.drop i) = none:=skP_no hq
    refine ⟨_,rfl,iteT ⟨d0,fun p hp=>?_⟩⟩
    exact q.good (x:=[]) (s:=T.cps.toList.drop i) (by unfold kinds1P; rw [hk]) _ _ i ((But.refl r H).upd_new (C:=C) hp) (rd.new hp) rfl ⟨p,[],rfl,upd_same,.nil⟩
  · have hk : skP (tx " where ") (T.cps.toList.drop i) = some (T.cps.toList.drop (i + 7)):=by rw [show tx " where " = (Str.ofString " where ").cps.toList from rfl,sk_yes hq,List.drop_drop,str_len,wh_len]
    rw [wh_len] at rd1
    refine ⟨_,rfl,iteF ?_⟩
    refine ⟨_,rfl,r,T,i + 7,rfl,rd1,OutP.mk (fun e H' b=>?_) fun a s2 e v H2 j b2 rd2 hs2 hv=>⟨d1,fun la hla=>?_⟩⟩
    · exact q.bad (by unfold kinds1P; rw [hk]; dsimp only; rw [e]) H' (b1.trans b)
    have hlaH : H la = none:=by
      cases z : H la with
      | none=>rfl
      | some o =>
        have nla : la ≠ r:=fun y=>by obtain ⟨⟨dx2,h2⟩,_,_⟩:=rd2; rw [y,h2] at hla; cases hla
        have:=(b1.trans b2) la o nla z
        rw [hla] at this
        cases this
    have hat : ∀ as r',moreKP (s2.length + 1) s2 = some (as,r') → kinds1P (T.cps.toList.drop i) = if SrtS ((a :: as).map (·.1)) then some (a :: as,r') else none:=fun as r' hm=>by unfold kinds1P; rw [hk]; dsimp only; rw [e]; dsimp only; rw [hm]
    have hno : moreKP (s2.length + 1) s2 = none → kinds1P (T.cps.toList.drop i) = none:=fun hm=>by unfold kinds1P; rw [hk]; dsimp only; rw [e]; dsimp only; rw [hm]
    refine ⟨fun m σ' H'=>∃ (as:List (Str × Str)) (us:List V) (j:Nat) (n:Nat),σ' = [some (.ref r),some (.ref la),none] ∧ But r H H' ∧ RdAt C H' r T j ∧ H' la = some (.lst us) ∧ Paired (RpK H') (a :: as) us ∧ m = (T.cps.toList.drop j).length ∧ us.length + (T.cps.toList.drop j).length ≤ 2000 ∧ (T.cps.toList.drop j).length < n ∧
        (∀ bs z,moreKP n (T.cps.toList.drop j) = some (bs,z) → moreKP (s2.length + 1) s2 = some (as ++ bs,z)) ∧ (moreKP n (T.cps.toList.drop j) = none → moreKP (s2.length + 1) s2 = none),?_,?_⟩
    · refine ⟨_,[],[v],j,s2.length + 1,rfl,(b1.trans b2).upd_new (C:=C) hla,rd2.new hla,upd_same,.cons (hv.mono (same_upd hla).tk) .nil,rfl,?_,by rw [hs2]; omega,?_,?_⟩
      · have h1:=congrArg List.length (skP_some hk).1
        have h2:=kind_len e
        rw [hs2]
        rw [List.length_append,List.length_drop,wh_arrow7] at h1
        rw [List.length_singleton]
        omega
      · intro bs z h
        rw [hs2] at h
        exact h
      · intro h
        rw [hs2] at h
        exact h
    rintro m σ' H3 ⟨as,us,j3,n,rfl,b3,rd3,e3,p3,rfl,l3,hn,hg,hb⟩
    obtain ⟨⟨dx3,hr3⟩,hi3,hf3⟩:=id rd3
    have nra : la ≠ r:=fun y=>by rw [y,hr3] at e3; cases e3
    obtain ⟨n',rfl⟩ : ∃ n',n = n' + 1:=⟨n - 1,by omega⟩
    refine ⟨_,rfl,r,dx3,_,rfl,hr3,rfl,r,T, ", ", j3,rfl,rd3,fun hq3=>?_,fun hq3 H4 b4 rd4=>?_⟩
    · refine ⟨_,rfl,iteF ?_⟩
      have hm:=hg [] (T.cps.toList.drop j3) (by rw [moreKP,show skP (tx ", ") (T.cps.toList.drop j3) = none from skP_no hq3])
      rw [List.append_nil] at hm
      have hfew:=h1k _ _ _ _ _ hk e hm
      have hres:=hat as _ hm
      have lus : us.length = as.length + 1:=by rw [paired_len p3]; rfl
      refine ⟨_,rfl,la,rfl,⟨_,SqL.of e3⟩,fun acc hacc=>?_⟩
      refine comp_listR (xs:=us) (fun i' H4=>Same H3 H4 ∧ H4 acc = some (.lst ((((a :: as).take i').map (·.1)).map V.str))) ⟨same_upd hacc,upd_same⟩ (fun i' H4 _ h=>SqL.of (h.1 _ _ e3)) ?_ ?_
      · rintro i' x H4 hx ⟨g4,ea⟩
        obtain ⟨kd,ekd,pk,rfl,hpk⟩:=paired_get p3 hx
        have hil : i' < (a :: as).length:=(List.getElem?_eq_some_iff.mp ekd).1
        rw [List.length_cons] at hil
        refine ⟨_,_,rfl,SqT.of (g4 _ _ hpk),rfl,_,_,rfl,_,_,rfl,rfl,.skip (.skip .nil),?_⟩
        refine ⟨_,rfl,_,ea,line_lt (by rw [List.length_map,List.length_map,List.length_take,List.length_cons]; omega),same_set g4 hacc,?_⟩
        rw [upd_same,take_next ekd,List.map_append,List.map_append]
        rfl
      · rintro H4 ⟨g4,ea⟩
        rw [List.take_of_length_le (by rw [List.length_cons]; omega)] at ea
        refine ⟨_,rfl,_,rfl,acc,(a :: as).map (·.1),rfl,SqL.of ea,by rw [List.length_map,List.length_cons]; omega,by rw [List.length_map,List.length_cons]; omega,fun l ss hl hperm hsrt=>?_⟩
        have g5:=same_upd (o:=.lst (ss.map V.str)) hl
        refine ⟨acc,l,(a :: as).map (·.1),ss,rfl,rfl,g5 _ _ ea,upd_same,_,rfl,?_⟩
        show if (if true = true then !decide ((a :: as).map (·.1) = ss) else decide ((a :: as).map (·.1) = ss)) = true then _ else _
        rw [if_pos rfl,srt_iff hperm hsrt]
        have b6 : ∀ H6,Same H4 H6 → But r H H6:=fun H6 g6=>b3.trans fun x u _ e=>(g4.trans g6) _ _ e
        by_cases hS : SrtS ((a :: as).map (·.1))
        · rw [decide_eq_true hS]
          refine iteF ⟨_,rfl,la,_,rfl,.inl ⟨SqL.of (g5 _ _ (g4 _ _ e3)),fun p hp=>?_⟩⟩
          have g6:=g5.trans (same_upd (o:=.tup us) hp)
          have g46:=g4.trans g6
          exact q.good (x:=a :: as) (s:=T.cps.toList.drop j3) (by rw [hres,if_pos hS]) _ _ j3 (b6 _ g6) ⟨⟨dx3,g46 _ _ hr3⟩,hi3,hf3⟩ rfl ⟨p,us,rfl,upd_same,Paired.mapP p3 fun _ _ y=>y.mono g46.tk⟩
        · rw [decide_eq_false hS]
          exact iteT ⟨d1,q.bad (by rw [hres,if_neg hS]) _ (b6 _ g5)⟩
    · rw [co_len] at rd4
      have es3 : skP (tx ", ") (T.cps.toList.drop j3) = some (T.cps.toList.drop (j3 + 2)):=by rw [show tx ", " = (Str.ofString ", ").cps.toList from rfl,sk_yes hq3,List.drop_drop,str_len,co_len]
      have hm1 : ∀ o,kindP (T.cps.toList.drop (j3 + 2)) = o → moreKP (n' + 1) (T.cps.toList.drop j3) = (match o with | none=>none | some (x,s3)=>match moreKP n' s3 with | none=>none | some (bs,z)=>some (x :: bs,z)):=fun o ho=>by
        rw [moreKP,es3]
        dsimp only
        rw [ho]
        all_goals (cases o <;> rfl)
      have e4:=b4 _ _ nra e3
      have l4 : (T.cps.toList.drop j3).length = (T.cps.toList.drop (j3 + 2)).length + 2:=by
        have:=congrArg List.length (skP_some es3).1
        rw [List.length_append,show (tx ", ").length = 2 by decide +kernel] at this
        omega
      refine ⟨_,rfl,iteT ⟨_,fun _ _ h=>h,?_⟩⟩
      refine ⟨_,rfl,.inl ⟨rfl,_,SqL.of e4⟩,_,rfl,r,T,j3 + 2,rfl,rd4,OutP.mk (fun e9 H' b=>?_) fun x s3 e9 v9 H5 j5 b5 rd5 hs5 hv9=>?_⟩
      · exact q.bad (hno (hb (hm1 none e9))) H' ((b3.trans b4).trans b)
      · have e5:=b5 _ _ nra e4
        obtain ⟨⟨dx4,hr4⟩,_,_⟩:=id rd4
        refine ⟨la,us,_,rfl,rfl,e5,line_lt (by omega),?_⟩
        have l5:=kind_len e9
        have k6 : Tk H5 (upd H5 la (.lst (us ++ [v9]))):=Tk.lst e5
        refine ⟨(T.cps.toList.drop j5).length,by rw [hs5]; omega,as ++ [x],us ++ [v9],j5,n',rfl,?_,?_,upd_same,?_,rfl,?_,by rw [hs5]; omega,?_,?_⟩
        · exact ((b3.trans b4).trans b5).put hlaH
        · obtain ⟨⟨dx5,hr5⟩,h5,h5'⟩:=rd5
          exact ⟨⟨dx5,by rw [upd_ne (Ne.symm nra)]; exact hr5⟩,h5,h5'⟩
        · exact paired_append (as:=a :: as) (Paired.mapP p3 fun _ _ y=>y.mono (((But.tk hr3 b4).trans (But.tk hr4 b5)).trans k6)) (.cons (hv9.mono k6) .nil)
        · rw [hs5,List.length_append,List.length_singleton]
          omega
        · intro bs z h
          rw [hs5] at h
          have:=hg (x :: bs) z (by rw [hm1 _ e9]; dsimp only; rw [h])
          rw [this,List.append_assoc]
          rfl
        · intro h
          rw [hs5] at h
          exact hb (by rw [hm1 _ e9]; dsimp only; rw [h])
def sp_ruleF (cN cG:Addr) : Sp:=fun vs H Q E=>∃ (T:Str),vs = [.str T] ∧ T.length ≤ 10000 ∧ (Great T → ∀ H',Same H H' → E (.ref cG) none H') ∧ (¬ Great T → RuleK T.cps.toList ∧ (∀ t u ks,ruleP T.cps.toList = some (t,u,ks) → ∀ p a b c H',Same H H' → H' p = some (.tup [a,b,c]) → Rep H' t a → Rep H' u b → RpKs H' ks c → Q (.ref p) H') ∧ (ruleP T.cps.toList = none → ∀ H',Same H H' → E (.ref cN) none H'))
theorem okF_rule {k:Nat} {f C cN cG g1 g2 g3 g4 g5:Addr} {fd gd1 gd2 gd3 gd4 gd5:FuncData} (F:Fun K "read_rule" "read_rule" s_read_rule f fd) (T_Reader:TxtR K mg C) (G_begun:FnF P w K mg base k "begun" g1 gd1 ["text"] (sp_begunF C cG)) (G_shape_from:FnF P w K mg base k "shape_from" g2 gd2 ["reader"] (sp_shapeF C cN 17))
    (G_Reader_skip:FnMF P w K mg base k C "skip" g3 gd3 ["self", "piece"] (sp_skipF C cN)) (G_kinds_from:FnF P w K mg base k "kinds_from" g4 gd4 ["reader"] (sp_kindsF C cN)) (G_Reader_skip_end:FnMF P w K mg base k C "skip_end" g5 gd5 ["self"] (sp_skip_endF C cN)) : FnOk P w K mg base (CXF P w) (k + 1) f fd ["text"] (sp_ruleF cN cG):=by
  refine F.okF sc_read_rule (fun vs H Q E h=>?_) (fun cdv A outer s H vs Q E hr h=>?_)
  · obtain ⟨T,rfl,_⟩:=h
    rfl
  obtain ⟨T,rfl,hT,qG,q⟩:=h
  refine ⟨_,(pss_cons (ps_set (i:=1) sc_read_rule.nd rfl (Or.inl rfl) (pe_call G_begun.ok hr (by rfl) G_begun.gl G_begun.kp G_begun.bd .nil cxf_pass (pa_cons (pv 0) pa_nil)))
    (pss_cons (ps_set (i:=2) sc_read_rule.nd rfl (Or.inl rfl) (pe_call G_shape_from.ok hr (by rfl) G_shape_from.gl G_shape_from.kp G_shape_from.bd .nil cxf_pass (pa_cons (pv 1) pa_nil)))
    (pss_cons (ps_expr (pe_meth (pv 1) T_Reader.cl G_Reader_skip.mt G_Reader_skip.ok hr G_Reader_skip.bd .nil cxf_pass (pa_cons pe_str pa_nil)))
    (pss_cons (ps_set (i:=3) sc_read_rule.nd rfl (Or.inl rfl) (pe_call G_shape_from.ok hr (by rfl) G_shape_from.gl G_shape_from.kp G_shape_from.bd .nil cxf_pass (pa_cons (pv 1) pa_nil)))
    (pss_cons (ps_set (i:=4) sc_read_rule.nd rfl (Or.inl rfl) (pe_call G_kinds_from.ok hr (by rfl) G_kinds_from.gl G_kinds_from.kp G_kinds_from.bd .nil cxf_pass (pa_cons (pv 1) pa_nil)))
    (pss_cons (ps_expr (pe_meth0 (pv 1) T_Reader.cl G_Reader_skip_end.mt G_Reader_skip_end.ok hr G_Reader_skip_end.bd .nil cxf_pass))
    (pss_one (ps_ret (pe_tup (pa_cons (pv 2) (pa_cons (pv 3) (pa_cons (pv 4) pa_nil))) : PE _ _ _))))))))),?_⟩
  refine ⟨_,rfl,T,rfl,hT,fun g=>qG g H (.refl _),fun g r H1 g1 nr rd1=>?_⟩
  obtain ⟨hk,qs,qn⟩:=q g
  have sm : ∀ H',But r H1 H' → Same H H':=fun H' b x o e=>b x o (ne_of_none e nr) (g1 x o e)
  have hN : Nets (shapeP 17):=@shape_net 17
  have ho : opn T.cps.toList < 17:=by
    have:=opn_le T.cps.toList
    have : ¬ 16 < moF T.cps.toList:=fun z=>g (.inr z)
    omega
  refine ⟨_,rfl,r,T,0,rfl,rd1,by rw [List.drop_zero]; exact ho,OutP.mk (fun e H' b=>?_) fun t s2 e v H2 j2 b2 rd2 hs2 hv=>?_⟩
  · rw [List.drop_zero] at e
    exact qn (by unfold ruleP; rw [e]) H' (sm H' b)
  rw [List.drop_zero] at e
  have o1:=opn_net (hN e)
  obtain ⟨⟨dx2,hr2⟩,_,_⟩:=id rd2
  refine ⟨_,rfl,r,dx2,_,rfl,hr2,rfl,r,T, " -> ", j2,rfl,rd2,rep_arrow,fun h=>?_,fun s3 h H3 j3 b3 rd3 hs3=>?_⟩
  · rw [hs2] at h
    exact qn (by unfold ruleP; rw [e]; dsimp only; rw [show skP (tx " -> ") s2 = none from h]) H2 (sm H2 b2)
  rw [hs2] at h
  have h' : skP (tx " -> ") s2 = some s3:=h
  have o2:=opn_sk (show ∀ c ∈ tx " -> ", c ≠ 40 ∧ c ≠ 41 by decide +kernel) h'
  refine ⟨_,rfl,r,T,j3,rfl,rd3,by rw [hs3]; omega,OutP.mk (fun e4 H' b=>?_) fun u s4 e4 v4 H4 j4 b4 rd4 hs4 hv4=>?_⟩
  · rw [hs3] at e4
    exact qn (by unfold ruleP; rw [e]; dsimp only; rw [h']; dsimp only; rw [e4]) H' (sm H' ((b2.trans b3).trans b))
  rw [hs3] at e4
  have hk4 : OneK s4:=hk _ _ _ _ _ e h' e4
  refine ⟨_,rfl,r,T,j4,rfl,rd4,by rw [hs4]; exact hk4,OutP.mk (fun e5 H' b=>?_) fun ks s5 e5 v5 H5 j5 b5 rd5 hs5 hv5=>?_⟩
  · rw [hs4] at e5
    exact qn (by unfold ruleP; rw [e]; dsimp only; rw [h']; dsimp only; rw [e4]; dsimp only; rw [e5]) H' (sm H' (((b2.trans b3).trans b4).trans b))
  rw [hs4] at e5
  obtain ⟨⟨dx5,hr5⟩,_,_⟩:=id rd5
  have b5':=((b2.trans b3).trans b4).trans b5
  refine ⟨_,rfl,r,dx5,_,rfl,hr5,rfl,r,T,j5,rfl,rd5,fun h6=>?_,fun h6=>?_⟩
  · rw [hs5] at h6
    subst h6
    refine ⟨_,rfl,_,rfl,_,rfl,(by show 3 ≤ sizeLine; decide),fun p hp=>?_⟩
    have g7:=same_upd (o:=.tup [v,v4,v5]) hp
    have t3:=rd2.tk b3
    have t4:=rd3.tk b4
    have t5:=rd4.tk b5
    exact qs t u ks (by unfold ruleP; rw [e]; dsimp only; rw [h']; dsimp only; rw [e4]; dsimp only; rw [e5]; rfl) p v v4 v5 _ ((sm H5 b5').trans g7) upd_same (hv.mono (t3.trans (t4.trans (t5.trans g7.tk)))) (hv4.mono (t5.trans g7.tk)) (hv5.mono g7.tk)
  · rw [hs5] at h6
    exact qn (by unfold ruleP; rw [e]; dsimp only; rw [h']; dsimp only; rw [e4]; dsimp only; rw [e5]; dsimp only; exact if_neg h6) H5 (sm H5 b5')
end
end K08
namespace K08
open PySem PySem.Spec L2 PyProof.Rows
abbrev s_atom_text : Stmt:=top 11
theorem sc_atom_text : FnScope ["atom"] ["atom"] (defScope s_atom_text):=⟨rfl,rfl,rfl,by decide +kernel,rfl,by decide +kernel,by decide +kernel⟩
abbrev s_gap_text : Stmt:=top 12
theorem sc_gap_text : FnScope ["gap", "text"] ["gap"] (defScope s_gap_text):=⟨rfl,rfl,rfl,by decide +kernel,rfl,by decide +kernel,by decide +kernel⟩
abbrev s_leaf_text : Stmt:=top 13
theorem sc_leaf_text : FnScope ["leaf"] ["leaf"] (defScope s_leaf_text):=⟨rfl,rfl,rfl,by decide +kernel,rfl,by decide +kernel,by decide +kernel⟩
section
variable {P:Program} {w:World} {K:PySem.W.Frag} {mg:Str → Option Value} {base:Heap}
def sp_atext : Sp:=fun vs H Q _=>∃ (a:Atom) (v:V),vs = [v] ∧ AtRep H a v ∧ AOk a ∧ Q (.str (sOf (txA a))) H
theorem ok_atext {k:Nat} {f:Addr} {fd:FuncData} (F:Fun K "atom_text" "atom_text" s_atom_text f fd) (z_str:mg "str" = none) : FnOk P w K mg base CX0 (k + 1) f fd ["atom"] sp_atext:=by
  refine F.ok sc_atom_text (fun vs H Q E h=>?_) (fun cdv A outer s H vs Q E hr h=>?_)
  · obtain ⟨a,v,rfl,_⟩:=h
    rfl
  obtain ⟨a,v,rfl,hR,ok,q⟩:=h
  refine ⟨_,(pss_cons (ps_if (pt_cmpR op_eq (pe_ix (r:=rIxT K) ix_tup (pv 0) pe_int (fun _ _=>rfl)) pe_str (nomark _)) (pss_one (ps_ret (pe_op op_add_str pe_str (pe_ix (r:=rIxT K) ix_tup (pv 0) pe_int (fun _ _=>rfl))))) pss_nil)
    (pss_one (ps_ret (pe_callTy call_str1 (by rfl) z_str PyProof.Rows.boot_str (pa_cons (pe_ix (r:=rIxT K) ix_tup (pv 0) pe_int (fun _ _=>rfl)) pa_nil))))),?_⟩
  cases a with
  | name x =>
    obtain ⟨p,rfl,hp⟩:=hR
    refine ⟨_,rfl,p,_,0,_,rfl,rfl,SqT.of hp,rfl,rfl,_,rfl,iteF ?_⟩
    refine ⟨_,rfl,p,_,1,_,rfl,rfl,SqT.of hp,rfl,.inl ⟨x,rfl,?_⟩⟩
    rw [sOf_eq (x:=x) rfl]
    exact q
  | num n =>
    obtain ⟨p,rfl,hp⟩:=hR
    refine ⟨_,rfl,p,_,0,_,rfl,rfl,SqT.of hp,rfl,rfl,_,rfl,iteF ?_⟩
    refine ⟨_,rfl,p,_,1,_,rfl,rfl,SqT.of hp,rfl,.inr ⟨n,rfl,NOk.sm ok,?_⟩⟩
    show Q (.str (numT n)) H
    rw [sOf_eq (x:=numT n) rfl]
    exact q
  | gap g =>
    obtain ⟨p,b,rfl,hp,hb⟩:=hR
    have h8:=WOk.hi ok
    refine ⟨_,rfl,p,_,0,_,rfl,rfl,SqT.of hp,rfl,rfl,_,rfl,iteT ?_⟩
    refine ⟨_,rfl,p,_,1,_,rfl,rfl,SqT.of hp,rfl,_,_,rfl,rfl,line_of (by rw [q_len]; omega),?_⟩
    rw [sOf_eq (x:=Str.ofString "?" ++ g) (l:=txA (.gap g)) (by rw [app_list,q_list]; rfl)]
    exact q
def sp_gtext : Sp:=fun vs H Q _=>∃ (g:Str) (as:List Atom) (v:V),vs = [v] ∧ Rep H (.gap g as) v ∧ TOk (.gap g as) ∧ ∀ H',Same H H' → Q (.str (sOf (txT (.gap g as)))) H'
theorem ok_gtext {k:Nat} {f g1:Addr} {fd gd1:FuncData} (F:Fun K "gap_text" "gap_text" s_gap_text f fd) (G_atom_text:FnB P w K mg base k "atom_text" g1 gd1 ["atom"] sp_atext) : FnOk P w K mg base CX0 (k + 1) f fd ["gap"] sp_gtext:=by
  refine F.ok sc_gap_text (fun vs H Q E h=>?_) (fun cdv A outer s H vs Q E hr h=>?_)
  · obtain ⟨g,as,v,rfl,_⟩:=h
    rfl
  obtain ⟨g,as,v,rfl,hR,ok,q⟩:=h
  refine ⟨_,(pss_cons (ps_set (i:=1) sc_gap_text.nd rfl (Or.inl rfl) (pe_op op_add_str pe_str (pe_ix (r:=rIxT K) ix_tup (pv 0) pe_int (fun _ _=>rfl))))
    (pss_cons (ps_if (pt_truth (pe_ix (r:=rIxT K) ix_tup (pv 0) pe_int (fun _ _=>rfl)) (fun _=>rfl)) (pss_one (ps_aug (i:=1) sc_gap_text.nd rfl (Or.inl rfl) (pe_op op_add_str (pe_op op_add_str pe_str (pe_bm PySem.F.plainAttrs_str PySem.F.slot_str_join PySem.F.type_str_join mt_join pe_str (pa_cons (pe_compB ["atom"] [none] rfl (pi_tup (pe_ix (r:=rIxT K) ix_tup (pv 0) pe_int (fun _ _=>rfl))) (fun _ _ _ _ _=>(pg_name (i:=0) (show List.Nodup (["atom"] : List Str) by decide +kernel) rfl (Or.inl rfl))) (fun _ _ _ _ _=>pts_nil) (fun _ _ _ _ _=>(pe_call G_atom_text.ok hr (by rfl) G_atom_text.gl G_atom_text.kp G_atom_text.bd .nil pass0 (pa_cons (pv 0) pa_nil))) rfl) pa_nil))) pe_str) iop_add_str)) pss_nil)
    (pss_one (ps_ret (pv 1))))),?_⟩
  obtain ⟨p,b,us,rfl,hp,hb,h900,hus⟩:=hR
  have h8:=WOk.hi ok.1
  have lu : us.length = as.length:=paired_len hus
  refine ⟨_,rfl,p,_,1,_,rfl,rfl,SqT.of hp,rfl,_,_,rfl,rfl,line_of (by rw [q_len]; omega),?_⟩
  have e0 : Str.ofString "?" ++ g = sOf (63 :: g.cps.toList):=sOf_eq (by rw [app_list,q_list]; rfl)
  rw [e0]
  refine ⟨_,rfl,p,_,2,_,rfl,rfl,SqT.of hp,rfl,_,.inr (.inl ⟨us,SqT.of hb,rfl⟩),?_⟩
  cases as with
  | nil =>
    cases us with
    | cons _ _=>cases lu
    | nil =>
      refine iteF ⟨_,rfl,?_⟩
      have:=q H (.refl _)
      rwa [show txT (.gap g []) = 63 :: g.cps.toList by simp [txT,txAs]] at this
  | cons a as =>
    cases us with
    | nil=>cases lu
    | cons u us =>
      refine iteT ?_
      refine ⟨_,rfl,rfl,_,rfl,p,_,2,_,rfl,rfl,SqT.of hp,rfl,b,rfl,⟨_,SqT.of hb⟩,fun acc hacc=>?_⟩
      refine comp_tupR (xs:=u :: us) (fun i H'=>Same H H' ∧ H' acc = some (.lst ((((a :: as).take i).map fun a=>sOf (txA a)).map V.str))) ⟨same_upd hacc,upd_same⟩ (fun i H' _ h=>SqT.of (h.1 _ _ hb)) ?_ ?_
      · rintro i x H1 hx ⟨g1,ea⟩
        obtain ⟨ai,eai,rai⟩:=paired_get hus hx
        have hil : i < (a :: as).length:=(List.getElem?_eq_some_iff.mp eai).1
        refine ⟨.skip .nil,?_⟩
        refine ⟨_,rfl,ai,x,rfl,rai.mono g1.tk,ok.2.1 ai (List.mem_of_getElem? eai),?_⟩
        refine ⟨_,ea,line_lt (by have:=ok.2.2; rw [List.length_map,List.length_map,List.length_take]; omega),same_set g1 hacc,?_⟩
        rw [upd_same,take_next eai,List.map_append,List.map_append]
        rfl
      · rintro H1 ⟨g1,ea⟩
        have et : (a :: as).take (u :: us).length = a :: as:=List.take_of_length_le (by omega)
        rw [et] at ea
        have hm:=more_len (as:=as) fun x hx=>ok.2.1 x (List.mem_cons_of_mem _ hx)
        have ha:=atx_len (ok.2.1 a List.mem_cons_self)
        have hl:=ok.2.2
        rw [List.length_cons] at hl
        have e1 : Txt.join (Str.ofString " ") ((a :: as).map fun a=>sOf (txA a)) = sOf (txA a ++ moreA as):=by
          rw [List.map_cons,join_blank,sOf_list,flat_more]
        refine ⟨_,acc,_,rfl,rfl,ea,(by show 1 ≤ 16; decide),?_,?_⟩
        · rw [List.map_cons,List.map_cons,List.sum_cons,List.length_cons,List.length_map,sOf_len,List.map_map]
          have:=sum_atx (as:=as) fun x hx=>ok.2.1 x (List.mem_cons_of_mem _ hx)
          omega
        rw [e1,str_tx "[", str_tx "]"]
        have b1 : (tx "[") = [91]:=by decide +kernel
        have b2 : (tx "]") = [93]:=by decide +kernel
        refine ⟨_,_,rfl,rfl,line_of (by rw [b1,sOf_len,sOf_len,List.length_append,List.length_singleton]; omega),?_⟩
        rw [sOf_app]
        refine ⟨_,_,rfl,rfl,line_of (by rw [b1,b2,sOf_len,sOf_len]; simp only [List.length_append,List.length_singleton]; omega),?_⟩
        rw [sOf_app]
        refine ⟨_,_,rfl,rfl,line_of (by have:=str_len g; rw [b1,b2,sOf_len,sOf_len]; simp only [List.length_append,List.length_singleton,List.length_cons,List.length_nil]; omega),?_⟩
        rw [sOf_app]
        refine ⟨_,rfl,?_⟩
        have:=q H1 g1
        rwa [show txT (.gap g (a :: as)) = 63 :: g.cps.toList ++ (tx "[" ++ (txA a ++ moreA as) ++ tx "]") by simp [txT,txAs,b1,b2]] at this
def leafB : Tr → Bool
  | .say _=>false
  | .bin _ _ _=>false
  | .ite _ _ _=>false
  | .lett _ _ _=>false
  | _=>true
def sp_ltext : Sp:=fun vs H Q _=>∃ (t:Tr) (v:V),vs = [v] ∧ Rep H t v ∧ TOk t ∧ leafB t = true ∧ ∀ H',Same H H' → Q (.str (sOf (txT t))) H'
theorem ok_ltext {k:Nat} {f g1:Addr} {fd gd1:FuncData} (F:Fun K "leaf_text" "leaf_text" s_leaf_text f fd) (z_str:mg "str" = none) (G_gap_text:FnB P w K mg base k "gap_text" g1 gd1 ["gap"] sp_gtext) : FnOk P w K mg base CX0 (k + 1) f fd ["leaf"] sp_ltext:=by
  refine F.ok sc_leaf_text (fun vs H Q E h=>?_) (fun cdv A outer s H vs Q E hr h=>?_)
  · obtain ⟨t,v,rfl,_⟩:=h
    rfl
  obtain ⟨t,v,rfl,hR,ok,hl,q⟩:=h
  refine ⟨_,(pss_cons (ps_if (pt_cmpR op_eq (pe_ix (r:=rIxT K) ix_tup (pv 0) pe_int (fun _ _=>rfl)) pe_str (nomark _)) (pss_one (ps_ret (pe_call G_gap_text.ok hr (by rfl) G_gap_text.gl G_gap_text.kp G_gap_text.bd .nil pass0 (pa_cons (pv 0) pa_nil)))) pss_nil)
    (pss_cons (ps_if (pt_cmpR (r:=rIn K false) op_in_seq (pe_ix (r:=rIxT K) ix_tup (pv 0) pe_int (fun _ _=>rfl)) (pe_tup (pa_cons pe_str (pa_cons pe_str pa_nil)) : PE _ _ _) rfl) (pss_one (ps_ret (pe_op op_add_str (pe_op op_add_str (pe_op op_add_str (pe_op op_add_str pe_str (pe_ix (r:=rIxT K) ix_tup (pv 0) pe_int (fun _ _=>rfl))) pe_str) (pe_ix (r:=rIxT K) ix_tup (pv 0) pe_int (fun _ _=>rfl))) pe_str))) pss_nil)
    (pss_one (ps_ret (pe_callTy call_str1 (by rfl) z_str PyProof.Rows.boot_str (pa_cons (pe_ix (r:=rIxT K) ix_tup (pv 0) pe_int (fun _ _=>rfl)) pa_nil)))))),?_⟩
  have d2 : 2 ≤ sizeLine:=by decide
  cases t with
  | num n =>
    obtain ⟨p,rfl,hp⟩:=hR
    refine ⟨_,rfl,p,_,0,_,rfl,rfl,SqT.of hp,rfl,rfl,_,rfl,iteF ?_⟩
    refine ⟨_,rfl,p,_,0,_,rfl,rfl,SqT.of hp,rfl,d2,fun pt hpt=>⟨pt,_,rfl,.inr (SqT.of upd_same),rfl,rfl,_,rfl,iteF ?_⟩⟩
    have g:=same_upd (o:=.tup [.str "ask", .str "stop"]) hpt
    refine ⟨_,rfl,p,_,1,_,rfl,rfl,SqT.of (g _ _ hp),rfl,.inr ⟨n,rfl,NOk.sm ok,?_⟩⟩
    show Q (.str (numT n)) _
    rw [sOf_eq (x:=numT n) rfl]
    exact q _ g
  | name x =>
    obtain ⟨p,rfl,hp⟩:=hR
    refine ⟨_,rfl,p,_,0,_,rfl,rfl,SqT.of hp,rfl,rfl,_,rfl,iteF ?_⟩
    refine ⟨_,rfl,p,_,0,_,rfl,rfl,SqT.of hp,rfl,d2,fun pt hpt=>⟨pt,_,rfl,.inr (SqT.of upd_same),rfl,rfl,_,rfl,iteF ?_⟩⟩
    have g:=same_upd (o:=.tup [.str "ask", .str "stop"]) hpt
    refine ⟨_,rfl,p,_,1,_,rfl,rfl,SqT.of (g _ _ hp),rfl,.inl ⟨x,rfl,?_⟩⟩
    rw [sOf_eq (x:=x) rfl]
    exact q _ g
  | ask x =>
    obtain ⟨p,rfl,hp⟩:=hR
    have h8:=WOk.hi ok
    refine ⟨_,rfl,p,_,0,_,rfl,rfl,SqT.of hp,rfl,rfl,_,rfl,iteF ?_⟩
    refine ⟨_,rfl,p,_,0,_,rfl,rfl,SqT.of hp,rfl,d2,fun pt hpt=>⟨pt,_,rfl,.inr (SqT.of upd_same),rfl,rfl,_,rfl,iteT ?_⟩⟩
    have g:=same_upd (o:=.tup [.str "ask", .str "stop"]) hpt
    have hp1:=g _ _ hp
    refine ⟨_,rfl,p,_,0,_,rfl,rfl,SqT.of hp1,rfl,_,_,rfl,rfl,line1000 (by decide +kernel),_,_,rfl,rfl,line1000 (by decide +kernel),_,rfl,p,_,1,_,rfl,rfl,SqT.of hp1,rfl,_,_,rfl,rfl,line_of ?_,_,_,rfl,rfl,line_of ?_,?_⟩
    · rw [show (Str.ofString "(" ++ Str.ofString "ask" ++ Str.ofString " ").length = 5 by decide +kernel]; omega
    · rw [show (Str.ofString "(" ++ Str.ofString "ask" ++ Str.ofString " " ++ x).length = 5 + x.length by rw [strLen_append]; rw [show (Str.ofString "(" ++ Str.ofString "ask" ++ Str.ofString " ").length = 5 by decide +kernel],par_list.2.2.2]; omega
    rw [sOf_eq (x:=Str.ofString "(" ++ Str.ofString "ask" ++ Str.ofString " " ++ x ++ Str.ofString ")") (l:=txT (.ask x)) (by rw [app_list,app_list,show (Str.ofString "(" ++ Str.ofString "ask" ++ Str.ofString " ").cps.toList = tx "(ask " by decide +kernel,par_list.2.1]; simp [txT])]
    exact q _ g
  | stop x =>
    obtain ⟨p,rfl,hp⟩:=hR
    have h8:=WOk.hi ok
    refine ⟨_,rfl,p,_,0,_,rfl,rfl,SqT.of hp,rfl,rfl,_,rfl,iteF ?_⟩
    refine ⟨_,rfl,p,_,0,_,rfl,rfl,SqT.of hp,rfl,d2,fun pt hpt=>⟨pt,_,rfl,.inr (SqT.of upd_same),rfl,rfl,_,rfl,iteT ?_⟩⟩
    have g:=same_upd (o:=.tup [.str "ask", .str "stop"]) hpt
    have hp1:=g _ _ hp
    refine ⟨_,rfl,p,_,0,_,rfl,rfl,SqT.of hp1,rfl,_,_,rfl,rfl,line1000 (by decide +kernel),_,_,rfl,rfl,line1000 (by decide +kernel),_,rfl,p,_,1,_,rfl,rfl,SqT.of hp1,rfl,_,_,rfl,rfl,line_of ?_,_,_,rfl,rfl,line_of ?_,?_⟩
    · rw [show (Str.ofString "(" ++ Str.ofString "stop" ++ Str.ofString " ").length = 6 by decide +kernel]; omega
    · rw [show (Str.ofString "(" ++ Str.ofString "stop" ++ Str.ofString " " ++ x).length = 6 + x.length by rw [strLen_append]; rw [show (Str.ofString "(" ++ Str.ofString "stop" ++ Str.ofString " ").length = 6 by decide +kernel],par_list.2.2.2]; omega
    rw [sOf_eq (x:=Str.ofString "(" ++ Str.ofString "stop" ++ Str.ofString " " ++ x ++ Str.ofString ")") (l:=txT (.stop x)) (by rw [app_list,app_list,show (Str.ofString "(" ++ Str.ofString "stop" ++ Str.ofString " ").cps.toList = tx "(stop " by decide +kernel,par_list.2.1]; simp [txT])]
    exact q _ g
  | gap g as =>
    obtain ⟨p,b,us,rfl,hp,hb,h900,hus⟩:=id hR
    refine ⟨_,rfl,p,_,0,_,rfl,rfl,SqT.of hp,rfl,rfl,_,rfl,iteT ?_⟩
    exact ⟨_,rfl,g,as,_,rfl,hR,ok,q⟩
  | _=>cases hl
end
end K08
namespace L2
open PySem
def leaf5 : List Str:=["num", "name", "ask", "stop", "gap"]
def LeafK (K:PySem.W.Frag) (lv:Addr) : Prop:=∃ (o:Obj) (its:Array Value) (n:Nat),K.lookup lv = some o ∧ o.cls = .type "tuple" ∧ o.data = .seq its n ∧ its.size ≤ sizeLine ∧ Vals (leaf5.map V.str) its.toList
end L2
namespace K08
open PySem PySem.Spec L2 PyProof.Rows
abbrev s_written_row : Stmt:=top 14
theorem sc_written_row : FnScope ["tree", "sign"] ["tree"] (defScope s_written_row):=⟨rfl,rfl,rfl,by decide +kernel,rfl,by decide +kernel,by decide +kernel⟩
section
variable {P:Program} {w:World} {K:PySem.W.Frag} {mg:Str → Option Value} {base:Heap}
def sp_row : Sp:=fun vs H Q _=>∃ (t:Tr) (v:V),vs = [v] ∧ Rep H t v ∧ TOk t ∧ ∀ (l:Addr) (us:List V) (H':Hp),Same H H' → H' l = some (.lst us) → H l = none → Paired (PcRep H') (rowP t) us → Q (.ref l) H'
theorem ok_row {k:Nat} {f lv bd g1:Addr} {fd gd1:FuncData} (F:Fun K "written_row" "written_row" s_written_row f fd) (m_LEAF_SIGNS:mg "LEAF_SIGNS" = some (.ref lv)) (hL:LeafK K lv) (m_BETWEEN:mg "BETWEEN" = some (.ref bd)) (h_BETWEEN:KDicW K w.params bd betw) (hB:KBtw K bd)
    (G_leaf_text:FnB P w K mg base k "leaf_text" g1 gd1 ["leaf"] sp_ltext) : FnOk P w K mg base CX0 (k + 1) f fd ["tree"] sp_row:=by
  refine F.ok sc_written_row (fun vs H Q E h=>?_) (fun cdv A outer s H vs Q E hr h=>?_)
  · obtain ⟨t,v,rfl,_⟩:=h
    rfl
  obtain ⟨t,v,rfl,hR,ok,q⟩:=h
  refine ⟨_,(Sd.un (pss_consS (ps_setS (i:=1) sc_written_row.nd rfl (Or.inl rfl) (pe_ixS (r:=rIxT K) ix_tup ⟨pv 0⟩ ⟨pe_int⟩ (fun _ _=>rfl)))
    (pss_consS (ps_ifS ⟨pt_cmpR (r:=rIn K false) op_in_seq (pv 1) (pe_glob (v:=.ref _) (by rfl) m_LEAF_SIGNS (by rfl)) rfl⟩ (pss_oneS (ps_retS (pe_lstS (pa_consS ⟨pe_call G_leaf_text.ok hr (by rfl) G_leaf_text.gl G_leaf_text.kp G_leaf_text.bd .nil pass0 (pa_cons (pv 0) pa_nil)⟩ ⟨pa_nil⟩)))) ⟨pss_nil⟩)
    (pss_consS (ps_ifS ⟨pt_cmpR op_eq (pv 1) pe_str (nomark _)⟩ (pss_oneS (ps_retS (pe_lstS (pa_consS ⟨pe_str⟩ (pa_consS (pe_ixS (r:=rIxT K) ix_tup ⟨pv 0⟩ ⟨pe_int⟩ (fun _ _=>rfl)) (pa_consS ⟨pe_str⟩ ⟨pa_nil⟩)))))) ⟨pss_nil⟩)
    (pss_consS (ps_ifS ⟨pt_cmpR op_eq (pv 1) pe_str (nomark _)⟩ (pss_oneS (ps_retS (pe_lstS (pa_consS ⟨pe_str⟩ (pa_consS (pe_ixS (r:=rIxT K) ix_tup ⟨pv 0⟩ ⟨pe_int⟩ (fun _ _=>rfl)) (pa_consS ⟨pe_str⟩ (pa_consS (pe_ixS (r:=rIxT K) ix_tup ⟨pv 0⟩ ⟨pe_int⟩ (fun _ _=>rfl)) (pa_consS ⟨pe_str⟩ (pa_consS (pe_ixS (r:=rIxT K) ix_tup ⟨pv 0⟩ ⟨pe_int⟩ (fun _ _=>rfl)) (pa_consS ⟨pe_str⟩ ⟨pa_nil⟩)))))))))) ⟨pss_nil⟩)
    (pss_consS (ps_ifS ⟨pt_cmpR op_eq (pv 1) pe_str (nomark _)⟩ (pss_oneS (ps_retS (pe_lstS (pa_consS ⟨pe_op op_add_str (pe_op op_add_str pe_str (pe_ix (r:=rIxT K) ix_tup (pv 0) pe_int (fun _ _=>rfl))) pe_str⟩ (pa_consS (pe_ixS (r:=rIxT K) ix_tup ⟨pv 0⟩ ⟨pe_int⟩ (fun _ _=>rfl)) (pa_consS ⟨pe_str⟩ (pa_consS (pe_ixS (r:=rIxT K) ix_tup ⟨pv 0⟩ ⟨pe_int⟩ (fun _ _=>rfl)) (pa_consS ⟨pe_str⟩ ⟨pa_nil⟩)))))))) ⟨pss_nil⟩)
    (pss_oneS (ps_retS (pe_lstS (pa_consS ⟨pe_str⟩ (pa_consS (pe_ixS (r:=rIxT K) ix_tup ⟨pv 0⟩ ⟨pe_int⟩ (fun _ _=>rfl)) (pa_consS ⟨pe_ix (ix_kd h_BETWEEN.dic) (pe_glob (v:=.ref _) (by rfl) m_BETWEEN (by rfl)) (pv 1) (fun _ _=>rfl)⟩ (pa_consS (pe_ixS (r:=rIxT K) ix_tup ⟨pv 0⟩ ⟨pe_int⟩ (fun _ _=>rfl)) (pa_consS ⟨pe_str⟩ ⟨pa_nil⟩)))))))))))))),?_⟩
  have d1 : 1 ≤ sizeLine:=by decide
  have d3 : 3 ≤ sizeLine:=by decide
  have d5 : 5 ≤ sizeLine:=by decide
  have d7 : 7 ≤ sizeLine:=by decide
  cases t with
  | num n =>
    obtain ⟨p,rfl,hp⟩:=id hR
    refine ⟨_,rfl,p,_,0,_,rfl,rfl,SqT.of hp,rfl,_,rfl,lv,leaf5.map V.str,rfl,.inr (.inr hL),rfl,rfl,_,rfl,iteT ?_⟩
    exact ⟨_,rfl,_,_,rfl,hR,ok,rfl,fun H1 g1=>⟨d1,fun l hl=>q l _ _ (g1.trans (same_upd hl)) upd_same (g1.free hl) (.cons rfl .nil)⟩⟩
  | name x =>
    obtain ⟨p,rfl,hp⟩:=id hR
    refine ⟨_,rfl,p,_,0,_,rfl,rfl,SqT.of hp,rfl,_,rfl,lv,leaf5.map V.str,rfl,.inr (.inr hL),rfl,rfl,_,rfl,iteT ?_⟩
    exact ⟨_,rfl,_,_,rfl,hR,ok,rfl,fun H1 g1=>⟨d1,fun l hl=>q l _ _ (g1.trans (same_upd hl)) upd_same (g1.free hl) (.cons rfl .nil)⟩⟩
  | ask x =>
    obtain ⟨p,rfl,hp⟩:=id hR
    refine ⟨_,rfl,p,_,0,_,rfl,rfl,SqT.of hp,rfl,_,rfl,lv,leaf5.map V.str,rfl,.inr (.inr hL),rfl,rfl,_,rfl,iteT ?_⟩
    exact ⟨_,rfl,_,_,rfl,hR,ok,rfl,fun H1 g1=>⟨d1,fun l hl=>q l _ _ (g1.trans (same_upd hl)) upd_same (g1.free hl) (.cons rfl .nil)⟩⟩
  | stop x =>
    obtain ⟨p,rfl,hp⟩:=id hR
    refine ⟨_,rfl,p,_,0,_,rfl,rfl,SqT.of hp,rfl,_,rfl,lv,leaf5.map V.str,rfl,.inr (.inr hL),rfl,rfl,_,rfl,iteT ?_⟩
    exact ⟨_,rfl,_,_,rfl,hR,ok,rfl,fun H1 g1=>⟨d1,fun l hl=>q l _ _ (g1.trans (same_upd hl)) upd_same (g1.free hl) (.cons rfl .nil)⟩⟩
  | gap g as =>
    obtain ⟨p,pb,us,rfl,hp,hb,h9,hus⟩:=id hR
    refine ⟨_,rfl,p,_,0,_,rfl,rfl,SqT.of hp,rfl,_,rfl,lv,leaf5.map V.str,rfl,.inr (.inr hL),rfl,rfl,_,rfl,iteT ?_⟩
    exact ⟨_,rfl,_,_,rfl,hR,ok,rfl,fun H1 g1=>⟨d1,fun l hl=>q l _ _ (g1.trans (same_upd hl)) upd_same (g1.free hl) (.cons rfl .nil)⟩⟩
  | say a =>
    obtain ⟨p,u,rfl,hp,ra⟩:=id hR
    refine ⟨_,rfl,p,_,0,_,rfl,rfl,SqT.of hp,rfl,_,rfl,lv,leaf5.map V.str,rfl,.inr (.inr hL),rfl,rfl,_,rfl,iteF ?_⟩
    refine ⟨_,rfl,rfl,_,rfl,iteT ?_⟩
    refine ⟨_,rfl,p,_,1,_,rfl,rfl,SqT.of hp,rfl,d3,fun l hl=>?_⟩
    have g:=same_upd (o:=.lst [.str "(say ", u,.str ")"]) hl
    exact q l _ _ g upd_same hl (.cons (congrArg V.str (str_tx _)) (.cons (Rep.mono g.tk ra) (.cons (congrArg V.str (str_tx _)) .nil)))
  | ite a b c =>
    obtain ⟨p,u,v,z,rfl,hp,ra,rb,rc⟩:=id hR
    refine ⟨_,rfl,p,_,0,_,rfl,rfl,SqT.of hp,rfl,_,rfl,lv,leaf5.map V.str,rfl,.inr (.inr hL),rfl,rfl,_,rfl,iteF ?_⟩
    refine ⟨_,rfl,rfl,_,rfl,iteF ?_⟩
    refine ⟨_,rfl,rfl,_,rfl,iteT ?_⟩
    refine ⟨_,rfl,p,_,1,_,rfl,rfl,SqT.of hp,rfl,_,rfl,p,_,2,_,rfl,rfl,SqT.of hp,rfl,_,rfl,p,_,3,_,rfl,rfl,SqT.of hp,rfl,d7,fun l hl=>?_⟩
    have g:=same_upd (o:=.lst [.str "(if ", u,.str " then ", v,.str " else ", z,.str ")"]) hl
    exact q l _ _ g upd_same hl (.cons (congrArg V.str (str_tx _)) (.cons (Rep.mono g.tk ra) (.cons (congrArg V.str (str_tx _)) (.cons (Rep.mono g.tk rb) (.cons (congrArg V.str (str_tx _)) (.cons (Rep.mono g.tk rc) (.cons (congrArg V.str (str_tx _)) .nil)))))))
  | lett x a b =>
    obtain ⟨p,u,v,rfl,hp,ra,rb⟩:=id hR
    have h8:=WOk.hi ok.1
    refine ⟨_,rfl,p,_,0,_,rfl,rfl,SqT.of hp,rfl,_,rfl,lv,leaf5.map V.str,rfl,.inr (.inr hL),rfl,rfl,_,rfl,iteF ?_⟩
    refine ⟨_,rfl,rfl,_,rfl,iteF ?_⟩
    refine ⟨_,rfl,rfl,_,rfl,iteF ?_⟩
    refine ⟨_,rfl,rfl,_,rfl,iteT ?_⟩
    refine ⟨_,rfl,p,_,1,_,rfl,rfl,SqT.of hp,rfl,_,_,rfl,rfl,line_of (by rw [show (Str.ofString "(let ").length = 5 by decide +kernel]; omega),_,_,rfl,rfl,line_of (by rw [strLen_append,show (Str.ofString "(let ").length = 5 by decide +kernel,show (Str.ofString " = ").length = 3 by decide +kernel]; omega),_,rfl,p,_,2,_,rfl,rfl,SqT.of hp,rfl,_,rfl,p,_,3,_,rfl,rfl,SqT.of hp,rfl,d5,fun l hl=>?_⟩
    have g:=same_upd (o:=.lst [.str (Str.ofString "(let " ++ x ++ Str.ofString " = "),u,.str " in ", v,.str ")"]) hl
    exact q l _ _ g upd_same hl (.cons (congrArg V.str (sOf_eq (by rw [app_list,app_list,List.append_assoc]; rfl))) (.cons (Rep.mono g.tk ra) (.cons (congrArg V.str (str_tx _)) (.cons (Rep.mono g.tk rb) (.cons (congrArg V.str (str_tx _)) .nil)))))
  | bin o a b =>
    obtain ⟨p,u,v,rfl,hp,ra,rb⟩:=id hR
    obtain ⟨tk,hB'⟩:=hB o
    have fin : ∀ l,H l = none → Q (.ref l) (upd H l (.lst [.str "(", u,.str (Str.ofString (bwT o)),v,.str ")"])):=fun l hl=>by
      have g:=same_upd (o:=.lst [.str "(", u,.str (Str.ofString (bwT o)),v,.str ")"]) hl
      exact q l _ _ g upd_same hl (.cons (congrArg V.str (str_tx _)) (.cons (Rep.mono g.tk ra) (.cons (congrArg V.str (str_tx _)) (.cons (Rep.mono g.tk rb) (.cons (congrArg V.str (str_tx _)) .nil)))))
    cases o
    · refine ⟨_,rfl,p,_,0,_,rfl,rfl,SqT.of hp,rfl,_,rfl,lv,leaf5.map V.str,rfl,.inr (.inr hL),rfl,rfl,_,rfl,iteF ?_⟩
      refine ⟨_,rfl,rfl,_,rfl,iteF ⟨_,rfl,rfl,_,rfl,iteF ⟨_,rfl,rfl,_,rfl,iteF ?_⟩⟩⟩
      exact ⟨_,rfl,p,_,1,_,rfl,rfl,SqT.of hp,rfl,_,rfl,_,_,.str _,rfl,rfl,hB',⟨_,rfl⟩,_,rfl,p,_,2,_,rfl,rfl,SqT.of hp,rfl,d5,fin⟩
    · refine ⟨_,rfl,p,_,0,_,rfl,rfl,SqT.of hp,rfl,_,rfl,lv,leaf5.map V.str,rfl,.inr (.inr hL),rfl,rfl,_,rfl,iteF ?_⟩
      refine ⟨_,rfl,rfl,_,rfl,iteF ⟨_,rfl,rfl,_,rfl,iteF ⟨_,rfl,rfl,_,rfl,iteF ?_⟩⟩⟩
      exact ⟨_,rfl,p,_,1,_,rfl,rfl,SqT.of hp,rfl,_,rfl,_,_,.str _,rfl,rfl,hB',⟨_,rfl⟩,_,rfl,p,_,2,_,rfl,rfl,SqT.of hp,rfl,d5,fin⟩
    · refine ⟨_,rfl,p,_,0,_,rfl,rfl,SqT.of hp,rfl,_,rfl,lv,leaf5.map V.str,rfl,.inr (.inr hL),rfl,rfl,_,rfl,iteF ?_⟩
      refine ⟨_,rfl,rfl,_,rfl,iteF ⟨_,rfl,rfl,_,rfl,iteF ⟨_,rfl,rfl,_,rfl,iteF ?_⟩⟩⟩
      exact ⟨_,rfl,p,_,1,_,rfl,rfl,SqT.of hp,rfl,_,rfl,_,_,.str _,rfl,rfl,hB',⟨_,rfl⟩,_,rfl,p,_,2,_,rfl,rfl,SqT.of hp,rfl,d5,fin⟩
    · refine ⟨_,rfl,p,_,0,_,rfl,rfl,SqT.of hp,rfl,_,rfl,lv,leaf5.map V.str,rfl,.inr (.inr hL),rfl,rfl,_,rfl,iteF ?_⟩
      refine ⟨_,rfl,rfl,_,rfl,iteF ⟨_,rfl,rfl,_,rfl,iteF ⟨_,rfl,rfl,_,rfl,iteF ?_⟩⟩⟩
      exact ⟨_,rfl,p,_,1,_,rfl,rfl,SqT.of hp,rfl,_,rfl,_,_,.str _,rfl,rfl,hB',⟨_,rfl⟩,_,rfl,p,_,2,_,rfl,rfl,SqT.of hp,rfl,d5,fin⟩
end
end K08
namespace K08
open PySem PySem.Spec L2 PyProof.Rows
abbrev s_shown : Stmt:=top 15
theorem sc_shown : FnScope ["tree", "texts", "waiting", "piece"] ["tree"] (defScope s_shown):=⟨rfl,rfl,rfl,by decide +kernel,rfl,by decide +kernel,by decide +kernel⟩
section
variable {P:Program} {w:World} {K:PySem.W.Frag} {mg:Str → Option Value} {base:Heap}
def sp_shown : Sp:=fun vs H Q _=>∃ (t:Tr) (v:V),vs = [v] ∧ Rep H t v ∧ TOk t ∧ (txT t).length ≤ 4000 ∧ ∀ H',Same H H' → Q (.str (sOf (txT t))) H'
theorem ok_shown {k:Nat} {f g1:Addr} {fd gd1:FuncData} (F:Fun K "shown" "shown" s_shown f fd) (z_isinstance:mg "isinstance" = none) (z_str:mg "str" = none) (G_written_row:FnB P w K mg base k "written_row" g1 gd1 ["tree"] sp_row) : FnOk P w K mg base CX0 (k + 1) f fd ["tree"] sp_shown:=by
  refine F.ok sc_shown (fun vs H Q E h=>?_) (fun cdv A outer s H vs Q E hr h=>?_)
  · obtain ⟨t,v,rfl,_⟩:=h
    rfl
  obtain ⟨t,v,rfl,hR,ok,hlen,q⟩:=h
  refine ⟨_,(pss_cons (ps_set (i:=1) sc_shown.nd rfl (Or.inl rfl) (pe_lst pa_nil:PE _ _ _))
    (pss_cons (ps_set (i:=2) sc_shown.nd rfl (Or.inl rfl) (pe_lst (pa_cons (pv 0) pa_nil) : PE _ _ _))
    (pss_cons (ps_while PassesOwn.never (pt_truth (pv 2) (fun _=>rfl)) (pss_cons (ps_set (i:=3) sc_shown.nd rfl (Or.inl rfl) (pe_bm0 PySem.F.plainAttrs_list PySem.F.slot_list_pop PySem.F.type_list_pop mt_pop (pv 2)))
    (pss_one (ps_if (pt_val (pe_callB call_isi (by rfl) z_isinstance PyProof.Rows.boot_isinstance (pa_cons (pv 3) (pa_cons (pe_bltn (v:=.ty _) (by rfl) z_str PyProof.Rows.boot_str (by rfl)) pa_nil)))) (pss_one (ps_expr (pe_bm PySem.F.plainAttrs_list PySem.F.slot_list_append PySem.F.type_list_append mt_append (pv 1) (pa_cons (pv 3) pa_nil)))) (pss_one (ps_expr (pe_bm PySem.F.plainAttrs_list PySem.F.slot_list_extend PySem.F.type_list_extend mt_extend (pv 2) (pa_cons (pe_revL (pe_call G_written_row.ok hr (by rfl) G_written_row.gl G_written_row.kp G_written_row.bd .nil pass0 (pa_cons (pv 3) pa_nil)) (po_some (pe_un un_neg pe_int))) pa_nil))))))))
    (pss_one (ps_ret (pe_bm PySem.F.plainAttrs_str PySem.F.slot_str_join PySem.F.type_str_join mt_join pe_str (pa_cons (pv 1) pa_nil))))))),?_⟩
  have d0 : 0 ≤ sizeLine:=by decide
  have d1 : 1 ≤ sizeLine:=by decide
  refine ⟨d0,fun tl htl=>⟨_,rfl,d1,fun wl hwl=>?_⟩⟩
  have ntw : tl ≠ wl:=fun z=>by rw [← z,upd_same] at hwl; cases hwl
  have hwl0 : H wl = none:=by rw [upd_ne (Ne.symm ntw)] at hwl; exact hwl
  have g0 : Same H (upd (upd H tl (.lst [])) wl (.lst [v])):=(same_upd htl).trans (same_upd hwl)
  have hw9:=wt_txt ok
  refine ⟨fun m σ' H'=>∃ (ys:List Str) (ps:List Pc) (us:List V) (s3:Option V),σ' = [some v,some (.ref tl),some (.ref wl),s3] ∧ Same H H' ∧ H' tl = some (.lst (ys.map V.str)) ∧ H' wl = some (.lst us) ∧ Paired (PcRep H') ps us ∧ (∀ p ∈ ps,PcOk p) ∧ (ys.flatMap fun y=>y.cps.toList) ++ ps.reverse.flatMap pcT = txT t ∧ ys.length + wtS ps ≤ 12000 ∧ m = wtS ps,
    ⟨wtT t,[],[.inr t],[v],none,rfl,g0,by rw [upd_ne ntw,upd_same]; rfl,upd_same,.cons (hR.mono g0.tk) .nil,?_,?_,?_,?_⟩,?_⟩
  · intro p hp
    rw [List.mem_singleton.mp hp]
    exact ok
  · simp [pcT]
  · show 0 + (wtT t + 0) ≤ 12000
    omega
  · show wtT t = wtT t + 0
    rfl
  rintro m σ' H1 ⟨ys,ps,us,s3,rfl,g1,ht1,hw1,pr1,ok1,e1,hb1,rfl⟩
  refine ⟨_,rfl,_,.inl ⟨us,SqL.of hw1,rfl⟩,?_⟩
  refine ite2 (fun c=>?_) (fun c=>?_)
  · refine ⟨_,fun _ _ h=>h,?_⟩
    obtain ⟨ps',p,rfl⟩ : ∃ ps' p,ps = ps' ++ [p]:=by
      have hne : ps ≠ []:=fun z=>by
        subst z
        cases pr1
        simp at c
      exact ⟨ps.dropLast,ps.getLast hne,(List.dropLast_concat_getLast hne).symm⟩
    obtain ⟨us',u,rfl,pr',pu⟩:=paired_last pr1
    have okp:=ok1 p (by simp)
    have ok' : ∀ x ∈ ps',PcOk x:=fun x hx=>ok1 x (by simp [hx])
    rw [wtS_app] at hb1
    have hp1:=wtP_pos p
    have ew : wtS [p] = wtP p:=rfl
    rw [List.reverse_append,List.flatMap_append] at e1
    refine ⟨_,rfl,.inl ⟨rfl,_,SqL.of hw1⟩,wl,_,u,rfl,rfl,hw1,by simp,?_⟩
    rw [List.dropLast_concat]
    have g2 : Same H (upd H1 wl (.lst us')):=same_set g1 hwl0
    have tk2 : Tk H1 (upd H1 wl (.lst us')):=fun b xs e=>by rw [upd_ne (fun z=>by rw [z,hw1] at e; cases e)]; exact e
    have ht2 : (upd H1 wl (.lst us')) tl = some (.lst (ys.map V.str)):=by rw [upd_ne ntw]; exact ht1
    have hw2 : (upd H1 wl (.lst us')) wl = some (.lst us'):=upd_same
    have pr2 : Paired (PcRep (upd H1 wl (.lst us'))) ps' us':=Paired.mapP pr' fun _ _ z=>z.mono tk2
    have pu2 : PcRep (upd H1 wl (.lst us')) p u:=pu.mono tk2
    generalize upd H1 wl (.lst us') = H2 at g2 ht2 hw2 pr2 pu2 ⊢
    cases p with
    | inl x =>
      have eu : u = .str (sOf x):=pu2
      subst eu
      refine ⟨_,rfl,.str (sOf x), "str", _,true,rfl,.str _,rfl,_,rfl,iteT ?_⟩
      refine ⟨_,rfl,.inl ⟨rfl,_,SqL.of ht2⟩,_,rfl,tl,_,_,rfl,rfl,ht2,line_lt (by rw [List.length_map]; omega),?_⟩
      refine ⟨wtS ps',by rw [wtS_app]; omega,ys ++ [sOf x],ps',us',some (.str (sOf x)),rfl,same_set g2 htl,?_,?_,Paired.mapP pr2 fun _ _ z=>z.mono fun b xs e=>by rw [upd_ne (fun z=>by rw [z,ht2] at e; cases e)]; exact e,ok',?_,?_,rfl⟩
      · rw [upd_same,List.map_append]
        rfl
      · rw [upd_ne (Ne.symm ntw)]
        exact hw2
      · rw [List.flatMap_append,List.flatMap_cons,sOf_list,← e1]
        simp [pcT]
      · rw [List.length_append,List.length_singleton]
        have : wtP (.inl x) = 1:=rfl
        omega
    | inr t' =>
      have ru : Rep H2 t' u:=pu2
      obtain ⟨p9,xs9,rfl,hp9⟩:=ru.tupo
      refine ⟨_,rfl,.ref p9, "str", _,false,rfl,.tup hp9,rfl,_,rfl,iteF ?_⟩
      refine ⟨_,rfl,.inl ⟨rfl,_,SqL.of hw2⟩,_,rfl,t',_,rfl,ru,okp,fun l us2 H3 g3 hl nl pr3=>?_⟩
      have hw3:=g3 _ _ hw2
      have ht3:=g3 _ _ ht2
      refine ⟨1,rfl,-1,rfl,rfl,l,us2,rfl,SqL.of hl,fun lp hlp=>?_⟩
      have g4:=same_upd (o:=.lst us2.reverse) hlp
      have lrow : us2.length = (rowP t').length:=paired_len pr3
      have wrow:=wt_row t'
      have lr2:=wtS_len (rowP t')
      have lps:=wtS_len ps'
      have lu' : us'.length = ps'.length:=paired_len pr2
      have ewt : wtP (.inr t') = wtT t':=rfl
      refine ⟨wl,lp,_,_,rfl,rfl,g4 _ _ hw3,upd_same,line_of (by rw [List.length_reverse]; omega),?_⟩
      have hw4:=g4 _ _ hw3
      have ht4:=g4 _ _ ht3
      have tk5 : Tk (upd H3 lp (.lst us2.reverse)) (upd (upd H3 lp (.lst us2.reverse)) wl (.lst (us' ++ us2.reverse))):=fun b xs e=>by rw [upd_ne (fun z=>by rw [z,hw4] at e; cases e)]; exact e
      refine ⟨wtS ps' + wtS (rowP t'),by rw [wtS_app]; omega,ys,ps' ++ (rowP t').reverse,us' ++ us2.reverse,some (.ref p9),rfl,same_set (g2.trans (g3.trans g4)) hwl0,?_,upd_same,?_,?_,?_,?_,?_⟩
      · rw [upd_ne ntw]
        exact ht4
      · refine paired_append ?_ ?_
        · exact Paired.mapP pr2 fun _ _ z=>z.mono ((g3.trans g4).tk.trans tk5)
        · exact paired_rev' (Paired.mapP pr3 fun _ _ z=>z.mono (g4.tk.trans tk5))
      · intro x hx
        rcases List.mem_append.mp hx with h | h
        · exact ok' x h
        · exact rowP_ok okp x (List.mem_reverse.mp h)
      · rw [List.reverse_append,List.reverse_reverse,List.flatMap_append,rowP_txt,← e1]
        simp [pcT]
      · rw [wtS_app,wtS_rev]
        omega
      · rw [wtS_app,wtS_rev]
  · have hus : us = []:=by
      cases us with
      | nil=>rfl
      | cons _ _=>simp at c
    subst hus
    cases pr1
    rw [List.reverse_nil,List.flatMap_nil,List.append_nil] at e1
    have hl:=flat_len ys
    rw [e1] at hl
    refine ⟨rfl,_,rfl,_,tl,ys,rfl,rfl,ht1,by decide +kernel,by omega,?_⟩
    rw [join_none,e1]
    exact q H1 g1
end
end K08
namespace L2
open PySem
def txK (k:Str × Str) : Sg:=k.1.cps.toList ++ 32 :: k.2.cps.toList
def moreK (ks:List (Str × Str)) : Sg:=ks.flatMap fun k=>tx ", " ++ txK k
def txKs : List (Str × Str) → Sg
  | []=>[]
  | k :: ks=>tx " where " ++ (txK k ++ moreK ks)
def txR (t u:Tr) (ks:List (Str × Str)) : Sg:=txT t ++ (tx " -> " ++ (txT u ++ txKs ks))
theorem join_comma (y:Str) (ys:List Str) : Txt.join (Str.ofString ", ") (y :: ys) = sOf (y.cps.toList ++ ys.flatMap fun p=>tx ", " ++ p.cps.toList):=by
  refine sOf_eq ?_
  unfold Txt.join Builtin.Str.glued
  show (List.foldl (fun acc (p:Str)=>acc ++ (Str.ofString ", ").cps ++ p.cps) y.cps ys).toList = _
  rw [glue_fold]
  simp [tx]
def KOk (k:Str × Str) : Prop:=WOk k.1 ∧ k.2.length ≤ 6
theorem txK_len {k:Str × Str} (h:KOk k) : (txK k).length ≤ 15:=by
  have h1:=h.1.hi
  have h2:=h.2
  unfold txK
  rw [List.length_append,List.length_cons,str_len,str_len]
  omega
theorem moreK_len : ∀ {ks:List (Str × Str)},(∀ k ∈ ks,KOk k) → (moreK ks).length ≤ 17 * ks.length
  | [],_=>Nat.le_refl _
  | k :: ks,h=>by
    have h1:=txK_len (h k List.mem_cons_self)
    have h2:=moreK_len (ks:=ks) fun x hx=>h x (List.mem_cons_of_mem _ hx)
    have h3 : (tx ", ").length = 2:=by decide +kernel
    show ((tx ", " ++ txK k) ++ moreK ks).length ≤ 17 * (ks.length + 1)
    rw [List.length_append,List.length_append,h3]
    omega
theorem sumK_len : ∀ {ks:List (Str × Str)},(∀ k ∈ ks,KOk k) → (ks.map fun k=>(sOf (txK k)).length).sum ≤ 15 * ks.length
  | [],_=>Nat.le_refl _
  | k :: ks,h=>by
    have h1:=txK_len (h k List.mem_cons_self)
    have h2:=sumK_len (ks:=ks) fun x hx=>h x (List.mem_cons_of_mem _ hx)
    rw [List.map_cons,List.sum_cons,sOf_len,List.length_cons]
    omega
theorem sp1 : (Str.ofString " ").cps.toList = [32]:=by decide +kernel
theorem wh_arrow : (tx " -> ").length = 4 ∧ (tx " where ").length = 7:=by decide +kernel
theorem flat_moreK (ks:List (Str × Str)) : (ks.map fun k=>sOf (txK k)).flatMap (fun p=>tx ", " ++ p.cps.toList) = moreK ks:=by
  unfold moreK
  rw [List.flatMap_map]
  congr 1
  all_goals (funext k; rw [sOf_list])
theorem app_len (x y:Str) : (x ++ y).length = x.length + y.length:=by
  rw [← str_len,app_list,List.length_append,str_len,str_len]
end L2
namespace K08
open PySem PySem.Spec L2 PyProof.Rows
abbrev s_shown_rule : Stmt:=top 16
theorem sc_shown_rule : FnScope ["rule", "text"] ["rule"] (defScope s_shown_rule):=⟨rfl,rfl,rfl,by decide +kernel,rfl,by decide +kernel,by decide +kernel⟩
section
variable {P:Program} {w:World} {K:PySem.W.Frag} {mg:Str → Option Value} {base:Heap}
def sp_shownr : Sp:=fun vs H Q _=>∃ (p:Addr) (a b c:V) (t u:Tr) (ks:List (Str × Str)),vs = [.ref p] ∧ H p = some (.tup [a,b,c]) ∧ Rep H t a ∧ Rep H u b ∧ RpKs H ks c ∧ TOk t ∧ TOk u ∧ (∀ k ∈ ks,KOk k) ∧ ks.length ≤ 60 ∧ (txT t).length ≤ 4000 ∧ (txT u).length ≤ 4000 ∧ ∀ H',Same H H' → Q (.str (sOf (txR t u ks))) H'
theorem ok_shownr {k:Nat} {f g1:Addr} {fd gd1:FuncData} (F:Fun K "shown_rule" "shown_rule" s_shown_rule f fd) (G_shown:FnB P w K mg base k "shown" g1 gd1 ["tree"] sp_shown) : FnOk P w K mg base CX0 (k + 1) f fd ["rule"] sp_shownr:=by
  refine F.ok sc_shown_rule (fun vs H Q E h=>?_) (fun cdv A outer s H vs Q E hr h=>?_)
  · obtain ⟨p,a,b,c,t,u,ks,rfl,_⟩:=h
    rfl
  obtain ⟨p,a,b,c,t,u,ks,rfl,hp,ra,rb,rc,kt,ku,kk,k60,lt,lu,q⟩:=h
  refine ⟨_,(pss_cons (ps_set (i:=1) sc_shown_rule.nd rfl (Or.inl rfl) (pe_op op_add_str (pe_op op_add_str (pe_call G_shown.ok hr (by rfl) G_shown.gl G_shown.kp G_shown.bd .nil pass0 (pa_cons (pe_ix (r:=rIxT K) ix_tup (pv 0) pe_int (fun _ _=>rfl)) pa_nil)) pe_str) (pe_call G_shown.ok hr (by rfl) G_shown.gl G_shown.kp G_shown.bd .nil pass0 (pa_cons (pe_ix (r:=rIxT K) ix_tup (pv 0) pe_int (fun _ _=>rfl)) pa_nil))))
    (pss_cons (ps_if (pt_truth (pe_ix (r:=rIxT K) ix_tup (pv 0) pe_int (fun _ _=>rfl)) (fun _=>rfl)) (pss_one (ps_aug (i:=1) sc_shown_rule.nd rfl (Or.inl rfl) (pe_op op_add_str pe_str (pe_bm PySem.F.plainAttrs_str PySem.F.slot_str_join PySem.F.type_str_join mt_join pe_str (pa_cons (pe_compB ["gap", "kind"] [none,none] rfl (pi_tup (pe_ix (r:=rIxT K) ix_tup (pv 0) pe_int (fun _ _=>rfl))) (fun _ _ _ _ _=>(pg_tupK (K:=K) (n:=2) rfl rfl (pgs_cons (pg_name (i:=0) (show List.Nodup (["gap", "kind"] : List Str) by decide +kernel) rfl (Or.inl rfl)) (pgs_cons (pg_name (i:=1) (show List.Nodup (["gap", "kind"] : List Str) by decide +kernel) rfl (Or.inl rfl)) pgs_nil)))) (fun _ _ _ _ _=>pts_nil) (fun _ _ _ _ _=>(pe_op op_add_str (pe_op op_add_str (pv 0) pe_str) (pv 1))) rfl) pa_nil))) iop_add_str)) pss_nil)
    (pss_one (ps_ret (pv 1))))),?_⟩
  obtain ⟨l4,l7⟩:=wh_arrow
  refine ⟨_,rfl,p,_,0,_,rfl,rfl,SqT.of hp,rfl,t,a,rfl,ra,kt,lt,fun H1 g1=>?_⟩
  rw [str_tx " -> "]
  refine ⟨_,_,rfl,rfl,line_of (by rw [sOf_len,sOf_len,l4]; omega),?_⟩
  rw [sOf_app]
  refine ⟨_,rfl,p,_,1,_,rfl,rfl,SqT.of (g1 _ _ hp),rfl,u,b,rfl,rb.mono g1.tk,ku,lu,fun H2 g2=>?_⟩
  refine ⟨_,_,rfl,rfl,line_of (by rw [sOf_len,sOf_len,List.length_append,l4]; omega),?_⟩
  rw [sOf_app]
  have g12:=g1.trans g2
  obtain ⟨pc,us,rfl,hpc,hus⟩:=rc.mono g12.tk
  have luk : us.length = ks.length:=paired_len hus
  refine ⟨_,rfl,p,_,2,_,rfl,rfl,SqT.of (g12 _ _ hp),rfl,_,.inr (.inl ⟨us,SqT.of hpc,rfl⟩),?_⟩
  cases ks with
  | nil =>
    cases us with
    | cons _ _=>cases luk
    | nil =>
      refine iteF ⟨_,rfl,?_⟩
      have:=q H2 g12
      rwa [show txR t u [] = txT t ++ tx " -> " ++ txT u by simp [txR,txKs]] at this
  | cons kd ks =>
    cases us with
    | nil=>cases luk
    | cons v us =>
      refine iteT ?_
      refine ⟨_,rfl,rfl,_,rfl,p,_,2,_,rfl,rfl,SqT.of (g12 _ _ hp),rfl,pc,rfl,⟨_,SqT.of hpc⟩,fun acc hacc=>?_⟩
      refine comp_tupR (xs:=v :: us) (fun i H'=>Same H2 H' ∧ H' acc = some (.lst ((((kd :: ks).take i).map fun k=>sOf (txK k)).map V.str))) ⟨same_upd hacc,upd_same⟩ (fun i H' _ h=>SqT.of (h.1 _ _ hpc)) ?_ ?_
      · rintro i x H3 hx ⟨g3,ea⟩
        obtain ⟨ki,eki,pk,rfl,hpk⟩:=paired_get hus hx
        have hil : i < (kd :: ks).length:=(List.getElem?_eq_some_iff.mp eki).1
        have ko:=kk ki (List.mem_of_getElem? eki)
        have k8:=ko.1.hi
        have k6:=ko.2
        refine ⟨_,_,rfl,SqT.of (g3 _ _ hpk),rfl,_,_,rfl,_,_,rfl,rfl,.skip (.skip .nil),?_⟩
        refine ⟨_,rfl,_,_,rfl,rfl,line_of (by rw [show (Str.ofString " ").length = 1 by decide +kernel]; omega),_,rfl,_,_,rfl,rfl,line_of (by rw [app_len,show (Str.ofString " ").length = 1 by decide +kernel]; omega),?_⟩
        refine ⟨_,ea,line_lt (by rw [List.length_map,List.length_map,List.length_take]; omega),same_set g3 hacc,?_⟩
        rw [upd_same,take_next eki,List.map_append,List.map_append]
        have e1 : ki.1 ++ Str.ofString " " ++ ki.2 = sOf (txK ki):=sOf_eq (by rw [app_list,app_list,sp1]; simp [txK])
        rw [e1]
        rfl
      · rintro H3 ⟨g3,ea⟩
        have et : (kd :: ks).take (v :: us).length = kd :: ks:=List.take_of_length_le (by omega)
        rw [et] at ea
        have hm:=moreK_len (ks:=ks) fun x hx=>kk x (List.mem_cons_of_mem _ hx)
        have ha:=txK_len (kk kd List.mem_cons_self)
        rw [List.length_cons] at k60
        have e1 : Txt.join (Str.ofString ", ") ((kd :: ks).map fun k=>sOf (txK k)) = sOf (txK kd ++ moreK ks):=by
          rw [List.map_cons,join_comma,sOf_list,flat_moreK]
        refine ⟨_,acc,_,rfl,rfl,ea,(by show 2 ≤ 16; decide),?_,?_⟩
        · have:=sumK_len kk
          rw [List.map_map,List.length_map]
          rw [List.length_cons] at this ⊢
          exact Nat.le_trans (Nat.add_le_add_right this _) (by omega)
        rw [e1,str_tx " where "]
        refine ⟨_,_,rfl,rfl,line_of (by rw [sOf_len,sOf_len,List.length_append,l7]; omega),?_⟩
        rw [sOf_app]
        refine ⟨_,_,rfl,rfl,line_of (by rw [sOf_len,sOf_len]; simp only [List.length_append,l4,l7]; omega),?_⟩
        rw [sOf_app]
        refine ⟨_,rfl,?_⟩
        have:=q H3 (g12.trans g3)
        rwa [show txR t u (kd :: ks) = txT t ++ tx " -> " ++ txT u ++ (tx " where " ++ (txK kd ++ moreK ks)) by simp [txR,txKs]] at this
end
end K08
namespace L2
open PySem PySem.Spec PyProof.Rows
def Up (l:Sg) (d e:Nat) : Prop:=∀ m c,(l.foldl moS (m,c)).1 ≤ max m (c + d) ∧ (l.foldl moS (m,c)).2 ≤ c + e
theorem Bal.up_ {l:Sg} {d:Nat} (h:Bal l d) : Up l d 0:=fun m c=>by
  obtain ⟨m',e,b⟩:=h m c
  rw [e]
  exact ⟨b,Nat.le_refl _⟩
theorem Up.mo {l:Sg} {d e:Nat} (h:Up l d e) : moF l ≤ d:=by
  have:=(h 0 0).1
  unfold moF
  omega
theorem Bal.mo {l:Sg} {d:Nat} (h:Bal l d) : moF l ≤ d:=h.up_.mo
def KdOk (k:Str × Str) : Prop:=WOk k.1 ∧ (k.2 = Str.ofString "quiet" ∨ k.2 = Str.ofString "number")
theorem kind_comp {k:Str × Str} (h:KdOk k) (r:Sg) : kindP (txK k ++ r) = some (k,r):=by
  obtain ⟨g,kk⟩:=k
  obtain ⟨hg,hk⟩:=h
  dsimp only at hg hk
  have e0 : txK (g,kk) ++ r = g.cps.toList ++ ([32] ++ (kk.cps.toList ++ r)):=by simp [txK]
  have e1 : wordP (g.cps.toList ++ ([32] ++ (kk.cps.toList ++ r))) = some (g,[32] ++ (kk.cps.toList ++ r)):=word_comp hg fun c hc=>by
    cases hc
    exact (show 32 ∉ abcS.cps.toList by decide +kernel)
  unfold kindP
  rw [e0,e1]
  dsimp only
  rw [skP_app]
  dsimp only
  rcases hk with rfl | rfl
  · rw [show (Str.ofString "quiet").cps.toList = tx "quiet" from rfl,skP_app]
  · rw [show (Str.ofString "number").cps.toList = tx "number" from rfl,skP_app]
    have : skP (tx "quiet") (tx "number" ++ r) = none:=skP_no (by
      rw [show tx "quiet" = 113 :: tx "uiet" by decide +kernel,show tx "number" = 110 :: tx "umber" by decide +kernel]
      rfl)
    rw [this]
theorem moreK_comp : ∀ {ks:List (Str × Str)} {n:Nat} {r:Sg},(∀ k ∈ ks,KdOk k) → ks.length < n → (tx ", ").isPrefixOf r = false → moreKP n (moreK ks ++ r) = some (ks,r)
  | [],n + 1,r,_,_,hr=>by
    show moreKP (n + 1) r = _
    rw [moreKP,skP_no hr]
  | k :: ks,n + 1,r,h,hn,hr=>by
    have e : moreK (k :: ks) ++ r = tx ", " ++ (txK k ++ (moreK ks ++ r)):=by
      show ((tx ", " ++ txK k) ++ moreK ks) ++ r = _
      simp
    rw [e,moreKP,skP_app]
    dsimp only
    rw [kind_comp (h k List.mem_cons_self)]
    dsimp only
    rw [moreK_comp (fun x hx=>h x (List.mem_cons_of_mem _ hx)) (by simpa using hn) hr]
theorem moreKc_len : ∀ ks : List (Str × Str),ks.length ≤ (moreK ks).length
  | []=>Nat.le_refl _
  | k :: ks=>by
    have:=moreKc_len ks
    show ks.length + 1 ≤ ((tx ", " ++ txK k) ++ moreK ks).length
    rw [List.length_append,List.length_append,show (tx ", ").length = 2 by decide +kernel]
    omega
theorem kinds_comp {k:Str × Str} {ks:List (Str × Str)} (h:∀ x ∈ k :: ks,KdOk x) (hl:ks.length < 50) {r:Sg} (hr:(tx ", ").isPrefixOf r = false) : kinds1P (txKs (k :: ks) ++ r) = (if SrtS ((k :: ks).map (·.1)) then some (k :: ks,r) else none) ∧ OneK (txKs (k :: ks) ++ r):=by
  have e0 : txKs (k :: ks) ++ r = tx " where " ++ (txK k ++ (moreK ks ++ r)):=by simp [txKs]
  have e1:=kind_comp (h k List.mem_cons_self) (moreK ks ++ r)
  have e2 : moreKP ((moreK ks ++ r).length + 1) (moreK ks ++ r) = some (ks,r):=moreK_comp (fun x hx=>h x (List.mem_cons_of_mem _ hx)) (by have:=moreKc_len ks; rw [List.length_append]; omega) hr
  rw [e0]
  constructor
  · unfold kinds1P
    rw [skP_app]
    dsimp only
    rw [e1]
    dsimp only
    rw [e2]
  · intro s1 k' s2 ks' r' h1 h2 h3
    rw [skP_app] at h1
    cases h1
    rw [e1] at h2
    cases h2
    rw [e2] at h3
    cases h3
    exact hl
theorem end_ks {ks:List (Str × Str)} : EndOk (txKs ks):=by
  cases ks with
  | nil=>exact end_nil
  | cons k ks=>exact end_tx (by decide +kernel)
theorem rule_z {t u:Tr} {z:Sg} (kt:TOk t) (ku:TOk u) (dt:dpT t ≤ 16) (du:dpT u ≤ 16) (hz:EndOk z) :
    ruleP (txT t ++ (tx " -> " ++ (txT u ++ z))) = (match kinds1P z with | none=>none | some (ks,r)=>if r = [] then some (t,u,ks) else none) ∧ (OneK z → RuleK (txT t ++ (tx " -> " ++ (txT u ++ z)))):=by
  have e1 : shapeP 17 (txT t ++ (tx " -> " ++ (txT u ++ z))) = some (t,tx " -> " ++ (txT u ++ z)):=shape_comp kt (by omega) (end_tx (by decide +kernel))
  have e2 : skP (tx " -> ") (tx " -> " ++ (txT u ++ z)) = some (txT u ++ z):=skP_app _ _
  have e3 : shapeP 17 (txT u ++ z) = some (u,z):=shape_comp ku (by omega) hz
  constructor
  · unfold ruleP
    rw [e1]
    dsimp only
    rw [e2]
    dsimp only
    rw [e3]
    all_goals (dsimp only; rcases kinds1P z with _ | ⟨ks,r⟩ <;> rfl)
  · intro h5 t' s1 s2 u' s3 h1 h2 h3
    rw [e1] at h1
    cases h1
    rw [e2] at h2
    cases h2
    rw [e3] at h3
    cases h3
    exact h5
structure BadR (s:Sg) : Prop where
  no : ruleP s = none
  fk : RuleK s
def badZ (z:Sg) : Bool:=(match kinds1P z with | none=>true | some (_,r)=>!r.isEmpty) && (match skP (tx " where ") z with | none=>true | some s1=>match kindP s1 with | none=>true | some (_,s2)=>match moreKP (s2.length + 1) s2 with | none=>true | some (ks,_)=>decide (ks.length < 50))
theorem bad_z {t u:Tr} {z:Sg} (kt:TOk t) (ku:TOk u) (dt:dpT t ≤ 16) (du:dpT u ≤ 16) (hz:EndOk z) (hb:kinds1P z = none ∨ ∃ ks r,kinds1P z = some (ks,r) ∧ r ≠ []) (h1:OneK z) : BadR (txT t ++ (tx " -> " ++ (txT u ++ z))):=by
  obtain ⟨a,b⟩:=rule_z kt ku dt du hz
  refine ⟨?_,b h1⟩
  rw [a]
  rcases hb with h | ⟨ks,r,h,hr⟩
  · rw [h]
  · rw [h]
    exact if_neg hr
theorem badZ_of {z:Sg} (h:badZ z = true) : (kinds1P z = none ∨ ∃ ks r,kinds1P z = some (ks,r) ∧ r ≠ []) ∧ OneK z:=by
  unfold badZ at h
  rw [Bool.and_eq_true] at h
  constructor
  · cases e : kinds1P z with
    | none=>exact .inl rfl
    | some p =>
      obtain ⟨ks,r⟩:=p
      rw [e] at h
      refine .inr ⟨ks,r,rfl,fun z=>?_⟩
      rw [z] at h
      exact absurd h.1 Bool.false_ne_true
  · intro s1 k s2 ks r h1 h2 h3
    have h':=h.2
    rw [h1] at h'
    dsimp only at h'
    rw [h2] at h'
    dsimp only at h'
    rw [h3] at h'
    exact of_decide_eq_true h'
theorem no_where {z:Sg} (h:(tx " where ").isPrefixOf z = false) : kinds1P z = some ([],z) ∧ OneK z:=by
  constructor
  · unfold kinds1P
    rw [skP_no h]
  · intro s1 k s2 ks r h1
    rw [skP_no h] at h1
    cases h1
theorem bad_more {t u:Tr} {z:Sg} (kt:TOk t) (ku:TOk u) (dt:dpT t ≤ 16) (du:dpT u ≤ 16) (hz:EndOk z) (hw:(tx " where ").isPrefixOf z = false) (hn:z ≠ []) : BadR (txT t ++ (tx " -> " ++ (txT u ++ z))) :=
  bad_z kt ku dt du hz (.inr ⟨_,_,(no_where hw).1,hn⟩) (no_where hw).2
theorem no62_abc : 62 ∉ abcS.cps.toList ∧ 62 ∉ figS.cps.toList:=by decide +kernel
theorem no62_tx : ∀ s ∈ ["(ask ", "(stop ", "(say ", "(if ", " then ", " else ", "(let ", " = ", " in ", " + ", " - ", " * ", " ; "],62 ∉ tx s:=by decide +kernel
theorem no62_atom {a:Atom} (h:AOk a) : 62 ∉ txA a:=by
  cases a with
  | name x=>exact fun z=>no62_abc.1 (WOk.ab h 62 z)
  | num n=>exact fun z=>no62_abc.2 (NOk.fg h 62 z)
  | gap g =>
    intro z
    rcases List.mem_cons.mp z with z | z
    · exact absurd z (by decide)
    · exact no62_abc.1 (WOk.ab h 62 z)
theorem no62_more : ∀ {as:List Atom},(∀ a ∈ as,AOk a) → 62 ∉ moreA as
  | [],_=>by intro z; cases z
  | a :: as,h=>by
    intro z
    have z' : 62 ∈ 32 :: txA a ++ moreA as:=z
    rcases List.mem_append.mp z' with z | z
    · rcases List.mem_cons.mp z with z | z
      · exact absurd z (by decide)
      · exact no62_atom (h a List.mem_cons_self) z
    · exact no62_more (fun x hx=>h x (List.mem_cons_of_mem _ hx)) z
theorem no62_tree : ∀ {t:Tr},TOk t → 62 ∉ txT t
  | .num n,h=>fun z=>no62_abc.2 (NOk.fg h 62 z)
  | .name x,h=>fun z=>no62_abc.1 (WOk.ab h 62 z)
  | .ask x,h=>fun z=>by
    rcases List.mem_append.mp (show 62 ∈ tx "(ask " ++ (x.cps.toList ++ [41]) from z) with z | z
    · exact no62_tx _ (by decide) z
    · rcases List.mem_append.mp z with z | z
      · exact no62_abc.1 (WOk.ab h 62 z)
      · exact absurd z (by decide)
  | .stop x,h=>fun z=>by
    rcases List.mem_append.mp (show 62 ∈ tx "(stop " ++ (x.cps.toList ++ [41]) from z) with z | z
    · exact no62_tx _ (by decide) z
    · rcases List.mem_append.mp z with z | z
      · exact no62_abc.1 (WOk.ab h 62 z)
      · exact absurd z (by decide)
  | .gap g as,h=>fun z=>by
    rcases List.mem_cons.mp (show 62 ∈ 63 :: (g.cps.toList ++ txAs as) from z) with z | z
    · exact absurd z (by decide)
    · rcases List.mem_append.mp z with z | z
      · exact no62_abc.1 (WOk.ab h.1 62 z)
      · cases as with
        | nil=>cases z
        | cons a as =>
          rcases List.mem_cons.mp (show 62 ∈ 91 :: (txA a ++ moreA as ++ [93]) by simpa [txAs] using z) with z | z
          · exact absurd z (by decide)
          · rcases List.mem_append.mp z with z | z
            · rcases List.mem_append.mp z with z | z
              · exact no62_atom (h.2.1 a List.mem_cons_self) z
              · exact no62_more (fun x hx=>h.2.1 x (List.mem_cons_of_mem _ hx)) z
            · exact absurd z (by decide)
  | .say a,h=>fun z=>by
    rcases List.mem_append.mp (show 62 ∈ tx "(say " ++ (txT a ++ [41]) from z) with z | z
    · exact no62_tx _ (by decide) z
    · rcases List.mem_append.mp z with z | z
      · exact no62_tree (t:=a) h z
      · exact absurd z (by decide)
  | .bin o a b,h=>fun z=>by
    rcases List.mem_cons.mp (show 62 ∈ 40 :: (txT a ++ (tx (bwT o) ++ (txT b ++ [41]))) from z) with z | z
    · exact absurd z (by decide)
    · simp only [List.mem_append] at z
      rcases z with z | z | z | z
      · exact no62_tree h.1 z
      · cases o <;> exact no62_tx _ (by decide) z
      · exact no62_tree h.2 z
      · exact absurd z (by decide)
  | .ite a b c,h=>fun z=>by
    have z' : 62 ∈ tx "(if " ++ (txT a ++ (tx " then " ++ (txT b ++ (tx " else " ++ (txT c ++ [41]))))):=z
    simp only [List.mem_append] at z'
    rcases z' with z | z | z | z | z | z | z
    · exact no62_tx _ (by decide) z
    · exact no62_tree h.1 z
    · exact no62_tx _ (by decide) z
    · exact no62_tree h.2.1 z
    · exact no62_tx _ (by decide) z
    · exact no62_tree h.2.2 z
    · exact absurd z (by decide)
  | .lett x a b,h=>fun z=>by
    have z' : 62 ∈ tx "(let " ++ (x.cps.toList ++ (tx " = " ++ (txT a ++ (tx " in " ++ (txT b ++ [41]))))):=z
    simp only [List.mem_append] at z'
    rcases z' with z | z | z | z | z | z | z
    · exact no62_tx _ (by decide) z
    · exact no62_abc.1 (WOk.ab h.1 62 z)
    · exact no62_tx _ (by decide) z
    · exact no62_tree h.2.1 z
    · exact no62_tx _ (by decide) z
    · exact no62_tree h.2.2 z
    · exact absurd z (by decide)
theorem bad_no62 {s:Sg} (h:62 ∉ s) : BadR s:=by
  have key : ∀ t s1,shapeP 17 s = some (t,s1) → skP (tx " -> ") s1 = none:=fun t s1 e=>by
    obtain ⟨c,hc,_⟩:=(@shape_net 17) e
    cases e2 : skP (tx " -> ") s1 with
    | none=>rfl
    | some s2 =>
      have:=(skP_some e2).1
      refine absurd ?_ h
      rw [hc,this]
      exact List.mem_append_right _ (List.mem_append_left _ (by decide +kernel))
  constructor
  · unfold ruleP
    cases e : shapeP 17 s with
    | none=>rfl
    | some p =>
      obtain ⟨t,s1⟩:=p
      dsimp only
      rw [key t s1 e]
  · intro t s1 s2 u s3 h1 h2
    rw [key t s1 h1] at h2
    cases h2
theorem bad_left {s:Sg} (h:shapeP 17 s = none) : BadR s:=⟨by unfold ruleP; rw [h],fun t s1 s2 u s3 h1=>by rw [h] at h1; cases h1⟩
theorem bad_mid {t:Tr} {z:Sg} (kt:TOk t) (dt:dpT t ≤ 16) (hz:EndOk z) (hb:skP (tx " -> ") z = none ∨ ∃ s2,skP (tx " -> ") z = some s2 ∧ shapeP 17 s2 = none) : BadR (txT t ++ z):=by
  have e1 : shapeP 17 (txT t ++ z) = some (t,z):=shape_comp kt (by omega) hz
  rcases hb with h | ⟨s2,h,h'⟩
  · exact ⟨by unfold ruleP; rw [e1]; dsimp only; rw [h],fun t s1 s2 u s3 h1 h2=>by rw [e1] at h1; cases h1; rw [h] at h2; cases h2⟩
  · exact ⟨by unfold ruleP; rw [e1]; dsimp only; rw [h]; dsimp only; rw [h'],fun t s1 s2 u s3 h1 h2 h3=>by rw [e1] at h1; cases h1; rw [h] at h2; cases h2; rw [h'] at h3; cases h3⟩
theorem shape_blank (s:Sg) : shapeP 17 (32 :: s) = none:=by
  show shapeP (16 + 1) (32 :: s) = none
  have h1 : skP [40] (32 :: s) = none:=skP_no (by rw [one_pre]; exact decide_eq_false (by simp))
  have h2 : skP [63] (32 :: s) = none:=skP_no (by rw [one_pre]; exact decide_eq_false (by simp))
  have h3 : figB (32 :: s) = false:=by show isFig 32 = false; decide +kernel
  have h4 : wordP (32 :: s) = none:=by
    unfold wordP
    rw [List.takeWhile_cons,show isAbc 32 = false by decide +kernel]
    exact if_neg fun z=>absurd (show 1 ≤ ([] : Sg).length from z.1) (by decide)
  rw [shapeP,h1,h2]
  dsimp only
  unfold pleafP
  rw [h3,h4]
  rfl
end L2
namespace L2
open PySem PySem.Spec PyProof.Rows
structure GdS (t:Tr) : Prop where
  ok : TOk t
  dp : dpT t ≤ 12
  op : opT t ≤ 13
  ln : (txT t).length ≤ 324
structure GdK (ks:List (Str × Str)) : Prop where
  ok : ∀ k ∈ ks,KdOk k
  st : SrtS (ks.map (·.1))
  ln : ks.length ≤ 6
structure Spo (s:Sg) : Prop where
  bd : BadR s
  ln : s.length ≤ 2000
  mo : moF s ≤ 16
theorem KdOk.k {k:Str × Str} (h:KdOk k) : KOk k:=⟨h.1,by rcases h.2 with e | e <;> rw [e] <;> decide +kernel⟩
theorem GdS.bal {t:Tr} (h:GdS t) : Bal (txT t) 16:=(tree_bal h.ok).up (by have:=h.op; omega)
theorem pl_bal {l:Sg} (h:(l.all fun c=>c != 40 && c != 41) = true) : Bal l 16:=Bal.plain fun c hc=>by
  have:=List.all_eq_true.mp h c hc
  simpa using this
theorem kd_bal {k:Str × Str} (h:KdOk k) : Bal (txK k) 16:=by
  refine h.1.bal.app (Bal.cons (by decide) ?_)
  rcases h.2 with e | e <;> rw [e] <;> exact pl_bal (by decide +kernel)
theorem mk_bal : ∀ {ks:List (Str × Str)},(∀ k ∈ ks,KdOk k) → Bal (moreK ks) 16
  | [],_=>pl_bal (by decide)
  | k :: ks,h=>((pl_bal (l:=tx ", ") (by decide +kernel)).app (kd_bal (h k List.mem_cons_self))).app (mk_bal fun x hx=>h x (List.mem_cons_of_mem _ hx))
theorem ks_bal {ks:List (Str × Str)} (h:∀ k ∈ ks,KdOk k) : Bal (txKs ks) 16:=by
  cases ks with
  | nil=>exact pl_bal (by decide)
  | cons k ks=>exact (pl_bal (l:=tx " where ") (by decide +kernel)).app ((kd_bal (h k List.mem_cons_self)).app (mk_bal fun x hx=>h x (List.mem_cons_of_mem _ hx)))
theorem ks_len {ks:List (Str × Str)} (h:∀ k ∈ ks,KdOk k) (hl:ks.length ≤ 8) : (txKs ks).length ≤ 200:=by
  cases ks with
  | nil=>exact Nat.zero_le _
  | cons k ks =>
    have h1:=txK_len (h k List.mem_cons_self).k
    have h2:=moreK_len (ks:=ks) fun x hx=>(h x (List.mem_cons_of_mem _ hx)).k
    rw [List.length_cons] at hl
    show (tx " where " ++ (txK k ++ moreK ks)).length ≤ 200
    rw [List.length_append,List.length_append,wh_arrow7]
    omega
theorem arrow4 : (tx " -> ").length = 4:=by decide +kernel
section
variable {t u:Tr} (ht:GdS t) (hu:GdS u)
include ht hu
theorem side_len {z:Sg} (hz:z.length ≤ 1000) : (txT t ++ (tx " -> " ++ (txT u ++ z))).length ≤ 2000:=by
  have h1:=ht.ln
  have h2:=hu.ln
  rw [List.length_append,List.length_append,List.length_append,arrow4]
  omega
theorem side_bal {z:Sg} (hz:Bal z 16) : Bal (txT t ++ (tx " -> " ++ (txT u ++ z))) 16:=ht.bal.app ((pl_bal (l:=tx " -> ") (by decide +kernel)).app (hu.bal.app hz))
theorem spo_ks {ks:List (Str × Str)} (h:∀ k ∈ ks,KdOk k) (hl:ks.length ≤ 8) (hn:¬ SrtS (ks.map (·.1))) : Spo (txR t u ks):=by
  cases ks with
  | nil=>exact absurd List.Pairwise.nil hn
  | cons k ks =>
    rw [List.length_cons] at hl
    obtain ⟨e1,e2⟩:=kinds_comp h (by omega) (r:=[]) (by decide +kernel)
    rw [List.append_nil] at e1 e2
    have dt:=ht.dp
    have du:=hu.dp
    refine ⟨bad_z ht.ok hu.ok (by omega) (by omega) end_ks (.inl (by rw [e1,if_neg hn])) e2,side_len ht hu (Nat.le_trans (ks_len h (by rw [List.length_cons]; omega)) (by decide)),(side_bal ht hu (ks_bal h)).mo⟩
theorem spo_0 {init:List (Str × Str)} {a b:Str × Str} (hk:GdK (init ++ [a,b])) : Spo (txR t u (init ++ [b,a])):=by
  have hl:=hk.ln
  rw [List.length_append] at hl
  refine spo_ks ht hu (fun k hm=>hk.ok k ?_) (by rw [List.length_append]; simp at hl ⊢; omega) fun z=>?_
  · simp only [List.mem_append,List.mem_cons,List.not_mem_nil,or_false] at hm ⊢
    rcases hm with h | h | h
    · exact .inl h
    · exact .inr (.inr h)
    · exact .inr (.inl h)
  · have h1:=hk.st
    unfold SrtS at h1 z
    rw [List.map_append,List.pairwise_append] at h1 z
    have h2:=(List.pairwise_cons.mp h1.2.1).1 b.1 (by simp)
    have h3:=(List.pairwise_cons.mp z.2.1).1 a.1 (by simp)
    rw [lt_asym h2] at h3
    cases h3
theorem spo_1 {init:List (Str × Str)} {b:Str × Str} (hk:GdK (init ++ [b])) : Spo (txR t u (init ++ [b] ++ [b])):=by
  have hl:=hk.ln
  rw [List.length_append] at hl
  refine spo_ks ht hu (fun k hm=>hk.ok k ?_) (by rw [List.length_append,List.length_append]; simp at hl ⊢; omega) fun z=>?_
  · simp only [List.mem_append,List.mem_cons,List.not_mem_nil,or_false,or_assoc] at hm ⊢
    rcases hm with h | h | h
    · exact .inl h
    · exact .inr h
    · exact .inr h
  · unfold SrtS at z
    rw [List.map_append,List.pairwise_append] at z
    have h3:=z.2.2 b.1 (by simp) b.1 (by simp)
    rw [lt_irr] at h3
    cases h3
def more10 : List String:=["a loud", "a", "a quiets", " quiet", "quiet", "a  quiet", "a number ", "b3 quiet", "in quiet", ""]
theorem more10_bad : ∀ m ∈ more10,badZ (tx " where " ++ tx m) = true ∧ (tx m).length ≤ 20 ∧ ((tx m).all fun c=>c != 40 && c != 41) = true:=by decide +kernel
theorem spo_2 {m:String} (hm:m ∈ more10) : Spo (txT t ++ (tx " -> " ++ (txT u ++ (tx " where " ++ tx m)))):=by
  obtain ⟨h1,h2,h3⟩:=more10_bad ht hu m hm
  obtain ⟨a,b⟩:=badZ_of h1
  have dt:=ht.dp
  have du:=hu.dp
  exact ⟨bad_z ht.ok hu.ok (by omega) (by omega) (end_tx (by decide +kernel)) a b,side_len ht hu (by rw [List.length_append,wh_arrow7]; omega),(side_bal ht hu ((pl_bal (l:=tx " where ") (by decide +kernel)).app (pl_bal h3))).mo⟩
def betw3 : List String:=[",", ",  ", " , ", " "]
theorem spo_3 {a b:Str × Str} (ha:KdOk a) (hb:KdOk b) {m:String} (hm:m ∈ betw3) : Spo (txT t ++ (tx " -> " ++ (txT u ++ (tx " where " ++ (txK a ++ (tx m ++ txK b)))))):=by
  have dt:=ht.dp
  have du:=hu.dp
  have la:=txK_len ha.k
  have lb:=txK_len hb.k
  have lm : ∀ m ∈ betw3,(tx m).length ≤ 10 ∧ ((tx m).all fun c=>c != 40 && c != 41) = true:=by decide +kernel
  obtain ⟨l1,l2⟩:=lm m hm
  have e1:=kind_comp ha (tx m ++ txK b)
  have hw : ∃ c l,txK b = c :: l ∧ c ∈ abcS.cps.toList:=by
    obtain ⟨c,hc,e⟩:=head_in hb.1.lo (32 :: b.2.cps.toList)
    cases e2 : txK b with
    | nil=>have:=congrArg List.length e2; simp [txK] at this
    | cons c' l =>
      have : txK b = b.1.cps.toList ++ 32 :: b.2.cps.toList:=rfl
      rw [← this,e2] at e
      cases e
      exact ⟨_,l,rfl,hb.1.ab _ hc⟩
  obtain ⟨c,l,ec,hc⟩:=hw
  have nc : c ≠ 32:=fun z=>(show 32 ∉ abcS.cps.toList by decide +kernel) (z ▸ hc)
  have key : ((tx ", ").isPrefixOf (tx m ++ txK b) = false ∧ tx m ++ txK b ≠ []) ∨ ∃ s1,skP (tx ", ") (tx m ++ txK b) = some s1 ∧ kindP s1 = none:=by
    simp only [betw3,List.mem_cons,List.not_mem_nil,or_false] at hm
    rcases hm with rfl | rfl | rfl | rfl
    · refine .inl ⟨?_,by rw [ec,show tx "," = [44] by decide +kernel]; simp⟩
      rw [ec,show tx ", " = [44,32] by decide +kernel,show tx "," = [44] by decide +kernel]
      simp [List.isPrefixOf]
      exact fun z=>nc z.symm
    · refine .inr ⟨32 :: txK b,?_,?_⟩
      · rw [show tx ",  " = tx ", " ++ [32] by decide +kernel,List.append_assoc,skP_app]
        rfl
      · unfold kindP wordP
        rw [List.takeWhile_cons,show isAbc 32 = false by decide +kernel]
        rfl
    · refine .inl ⟨?_,by rw [show tx " , " = [32,44,32] by decide +kernel]; simp⟩
      rw [show tx ", " = [44,32] by decide +kernel,show tx " , " = [32,44,32] by decide +kernel]
      rfl
    · refine .inl ⟨?_,by rw [show tx " " = [32] by decide +kernel]; simp⟩
      rw [show tx ", " = [44,32] by decide +kernel,show tx " " = [32] by decide +kernel]
      rfl
  have hk : (kinds1P (tx " where " ++ (txK a ++ (tx m ++ txK b))) = none ∨ ∃ ks r,kinds1P (tx " where " ++ (txK a ++ (tx m ++ txK b))) = some (ks,r) ∧ r ≠ []) ∧ OneK (tx " where " ++ (txK a ++ (tx m ++ txK b))):=by
    rcases key with ⟨h1,h2⟩ | ⟨s1,h1,h2⟩
    · have e2 : moreKP ((tx m ++ txK b).length + 1) (tx m ++ txK b) = some ([],tx m ++ txK b):=by rw [moreKP,skP_no h1]
      refine ⟨.inr ⟨[a],tx m ++ txK b,?_,h2⟩,?_⟩
      · unfold kinds1P
        rw [skP_app]
        dsimp only
        rw [e1]
        dsimp only
        rw [e2]
        exact if_pos (List.pairwise_singleton _ _)
      · intro s1 k s2 ks r g1 g2 g3
        rw [skP_app] at g1
        cases g1
        rw [e1] at g2
        cases g2
        rw [e2] at g3
        cases g3
        decide
    · have e2 : moreKP ((tx m ++ txK b).length + 1) (tx m ++ txK b) = none:=by rw [moreKP,h1]; dsimp only; rw [h2]
      refine ⟨.inl ?_,?_⟩
      · unfold kinds1P
        rw [skP_app]
        dsimp only
        rw [e1]
        dsimp only
        rw [e2]
      · intro s1 k s2 ks r g1 g2 g3
        rw [skP_app] at g1
        cases g1
        rw [e1] at g2
        cases g2
        rw [e2] at g3
        cases g3
  exact ⟨bad_z ht.ok hu.ok (by omega) (by omega) (end_tx (by decide +kernel)) hk.1 hk.2,side_len ht hu (by simp only [List.length_append,wh_arrow7]; omega),(side_bal ht hu ((pl_bal (l:=tx " where ") (by decide +kernel)).app ((kd_bal ha).app ((pl_bal l2).app (kd_bal hb))))).mo⟩
theorem spo_7 : Spo (txT t ++ (tx " -> " ++ (txT u ++ (tx " -> " ++ txT t)))):=by
  have dt:=ht.dp
  have du:=hu.dp
  have lt:=ht.ln
  have a4:=arrow4
  refine ⟨bad_more ht.ok hu.ok (by omega) (by omega) (end_tx (by decide +kernel)) ?_ (by rw [show tx " -> " = 32 :: tx "-> " by decide +kernel]; simp),side_len ht hu (by rw [List.length_append,arrow4]; omega),(side_bal ht hu ((pl_bal (l:=tx " -> ") (by decide +kernel)).app ht.bal)).mo⟩
  rw [show tx " -> " = 32 :: 45 :: tx "> " by decide +kernel,show tx " where " = 32 :: 119 :: tx "here " by decide +kernel]
  rfl
theorem tree_head (x:Sg) : ∃ c l,txT u ++ x = c :: l ∧ c ≠ 32 ∧ c ≠ 45:=by
  have ok:=hu.ok
  have kf : ∀ c,c ∈ abcS.cps.toList ∨ c ∈ figS.cps.toList → c ≠ 32 ∧ c ≠ 45:=by
    intro c h
    have k : ∀ c ∈ abcS.cps.toList ++ figS.cps.toList,c ≠ 32 ∧ c ≠ 45:=by decide +kernel
    exact k c (List.mem_append.mpr h)
  have hd : ∀ (y:Str) (r:Sg),1 ≤ y.length → (∀ c ∈ y.cps.toList,c ∈ abcS.cps.toList ∨ c ∈ figS.cps.toList) → ∃ c l,y.cps.toList ++ r = c :: l ∧ c ≠ 32 ∧ c ≠ 45:=fun y r h1 h2=>by
    obtain ⟨c,hc,e⟩:=head_in h1 r
    cases e2 : y.cps.toList ++ r with
    | nil=>rw [e2] at e; cases e
    | cons c' l =>
      rw [e2] at e
      cases e
      exact ⟨_,l,rfl,kf _ (h2 _ hc)⟩
  cases u with
  | num n=>exact hd (numT n) x (NOk.lo ok) fun c hc=>.inr (NOk.fg ok c hc)
  | name y=>exact hd y x (WOk.lo ok) fun c hc=>.inl (WOk.ab ok c hc)
  | gap g as=>exact ⟨63,_,rfl,by decide,by decide⟩
  | ask y=>exact ⟨40,_,by rw [show txT (.ask y) = tx "(ask " ++ (y.cps.toList ++ [41]) from rfl,show tx "(ask " = 40 :: tx "ask " by decide +kernel]; rfl,by decide,by decide⟩
  | stop y=>exact ⟨40,_,by rw [show txT (.stop y) = tx "(stop " ++ (y.cps.toList ++ [41]) from rfl,show tx "(stop " = 40 :: tx "stop " by decide +kernel]; rfl,by decide,by decide⟩
  | say a=>exact ⟨40,_,by rw [show txT (.say a) = tx "(say " ++ (txT a ++ [41]) from rfl,show tx "(say " = 40 :: tx "say " by decide +kernel]; rfl,by decide,by decide⟩
  | bin o a b=>exact ⟨40,_,rfl,by decide,by decide⟩
  | ite a b c=>exact ⟨40,_,by rw [show txT (.ite a b c) = tx "(if " ++ (txT a ++ (tx " then " ++ (txT b ++ (tx " else " ++ (txT c ++ [41]))))) from rfl,show tx "(if " = 40 :: tx "if " by decide +kernel]; rfl,by decide,by decide⟩
  | lett y a b=>exact ⟨40,_,by rw [show txT (.lett y a b) = tx "(let " ++ (y.cps.toList ++ (tx " = " ++ (txT a ++ (tx " in " ++ (txT b ++ [41]))))) from rfl,show tx "(let " = 40 :: tx "let " by decide +kernel]; rfl,by decide,by decide⟩
def betw4 : List String:=["->", " ->", "-> ", "  -> ", " ->  ", " => ", " ", ""]
theorem betw4_pl : ∀ m ∈ betw4,(tx m).length ≤ 10 ∧ ((tx m).all fun c=>c != 40 && c != 41) = true:=by decide +kernel
theorem spo_4 {m:String} (hm:m ∈ betw4) : Spo (txT t ++ (tx m ++ txT u)):=by
  obtain ⟨l1,l2⟩:=betw4_pl ht hu m hm
  have dt:=ht.dp
  have lt:=ht.ln
  have lu:=hu.ln
  obtain ⟨c,l,ec,n1,n2⟩:=tree_head ht hu []
  rw [List.append_nil] at ec
  refine ⟨?_,by rw [List.length_append,List.length_append]; omega,(ht.bal.app ((pl_bal l2).app hu.bal)).mo⟩
  have ar : tx " -> " = [32,45,62,32]:=by decide +kernel
  simp only [betw4,List.mem_cons,List.not_mem_nil,or_false] at hm
  rcases hm with rfl | rfl | rfl | rfl | rfl | rfl | rfl | rfl
  · refine bad_mid ht.ok (by omega) ?_ (.inl (skP_no ?_))
    · rw [show tx "->" = [45,62] by decide +kernel]
      exact end_cons (by decide +kernel)
    · rw [ar,show tx "->" = [45,62] by decide +kernel]
      rfl
  · refine bad_mid ht.ok (by omega) (end_tx (by decide +kernel)) (.inl (skP_no ?_))
    rw [ar,show tx " ->" = [32,45,62] by decide +kernel,ec]
    simp [List.isPrefixOf]
    exact fun z=>n1 z.symm
  · refine bad_mid ht.ok (by omega) ?_ (.inl (skP_no ?_))
    · rw [show tx "-> " = [45,62,32] by decide +kernel]
      exact end_cons (by decide +kernel)
    · rw [ar,show tx "-> " = [45,62,32] by decide +kernel]
      rfl
  · refine bad_mid ht.ok (by omega) (end_tx (by decide +kernel)) (.inl (skP_no ?_))
    rw [ar,show tx "  -> " = [32,32,45,62,32] by decide +kernel]
    rfl
  · refine bad_mid ht.ok (by omega) (end_tx (by decide +kernel)) (.inr ⟨32 :: txT u,?_,shape_blank _⟩)
    rw [show tx " ->  " = tx " -> " ++ [32] by decide +kernel,List.append_assoc,skP_app]
    rfl
  · refine bad_mid ht.ok (by omega) (end_tx (by decide +kernel)) (.inl (skP_no ?_))
    rw [ar,show tx " => " = [32,61,62,32] by decide +kernel]
    rfl
  · refine bad_no62 fun z=>?_
    rw [show tx " " = [32] by decide +kernel] at z
    simp only [List.mem_append,List.mem_singleton] at z
    rcases z with z | z | z
    · exact no62_tree ht.ok z
    · exact absurd z (by decide)
    · exact no62_tree hu.ok z
  · refine bad_no62 fun z=>?_
    rw [show tx "" = [] by decide +kernel] at z
    simp only [List.mem_append,List.not_mem_nil,false_or] at z
    rcases z with z | z
    · exact no62_tree ht.ok z
    · exact no62_tree hu.ok z
theorem spo_6a : Spo (tx " -> " ++ txT u) ∧ Spo (txT t ++ tx " -> ") ∧ Spo (tx " -> ") ∧ Spo (tx "-> " ++ txT u) ∧ Spo (txT t ++ tx " ->"):=by
  have dt:=ht.dp
  have lt:=ht.ln
  have lu:=hu.ln
  have a4:=arrow4
  have pa : Bal (tx " -> ") 16:=pl_bal (by decide +kernel)
  refine ⟨⟨bad_left ?_,by rw [List.length_append]; omega,(pa.app hu.bal).mo⟩,⟨bad_mid ht.ok (by omega) ?_ (.inr ⟨[],?_,by decide +kernel⟩),by rw [List.length_append]; omega,(ht.bal.app pa).mo⟩,⟨bad_left ?_,by omega,pa.mo⟩,⟨bad_left ?_,by rw [List.length_append,show (tx "-> ").length = 3 by decide +kernel]; omega,((pl_bal (l:=tx "-> ") (by decide +kernel)).app hu.bal).mo⟩,⟨bad_mid ht.ok (by omega) ?_ (.inl (skP_no (by decide +kernel))),by rw [List.length_append,show (tx " ->").length = 3 by decide +kernel]; omega,(ht.bal.app (pl_bal (l:=tx " ->") (by decide +kernel))).mo⟩⟩
  · rw [show tx " -> " = 32 :: tx "-> " by decide +kernel]
    exact shape_blank _
  · have:=end_tx (s := " -> ") (l:=[]) (by decide +kernel)
    rwa [List.append_nil] at this
  · have:=skP_app (tx " -> ") []
    rwa [List.append_nil] at this
  · rw [show tx " -> " = 32 :: tx "-> " by decide +kernel]
    exact shape_blank _
  · rw [show tx "-> " = 45 :: tx "> " by decide +kernel]
    show shapeP (16 + 1) (45 :: (tx "> " ++ txT u)) = none
    have h1 : ∀ s,skP [40] (45 :: s) = none:=fun s=>skP_no (by rw [one_pre]; exact decide_eq_false (by simp))
    have h2 : ∀ s,skP [63] (45 :: s) = none:=fun s=>skP_no (by rw [one_pre]; exact decide_eq_false (by simp))
    have h3 : ∀ s,figB (45 :: s) = false:=fun s=>by show isFig 45 = false; decide +kernel
    have h4 : ∀ s,wordP (45 :: s) = none:=fun s=>by
      unfold wordP
      rw [List.takeWhile_cons,show isAbc 45 = false by decide +kernel]
      exact if_neg fun z=>absurd (show 1 ≤ ([] : Sg).length from z.1) (by decide)
    rw [shapeP,h1,h2]
    dsimp only
    unfold pleafP
    rw [h3,h4]
    rfl
  · have:=end_tx (s := " ->") (l:=[]) (by decide +kernel)
    rwa [List.append_nil] at this
def joinK : List (Str × Str) → Sg
  | []=>[]
  | k :: ks=>txK k ++ moreK ks
omit ht hu in
theorem join_where {ks:List (Str × Str)} (h:∀ k ∈ ks,KdOk k) : (tx "where ").isPrefixOf (joinK ks) = false ∧ (∀ c ∈ (joinK ks).head?,c ∈ abcS.cps.toList):=by
  cases ks with
  | nil=>exact ⟨by decide +kernel,fun c hc=>by cases hc⟩
  | cons k ks =>
    have hk:=h k List.mem_cons_self
    have e0 : joinK (k :: ks) = k.1.cps.toList ++ (32 :: (k.2.cps.toList ++ moreK ks)):=by simp [joinK,txK]
    have e1 : wordP (joinK (k :: ks)) = some (k.1,32 :: (k.2.cps.toList ++ moreK ks)):=by
      rw [e0]
      exact word_comp hk.1 fun c hc=>by
        cases hc
        exact (show 32 ∉ abcS.cps.toList by decide +kernel)
    constructor
    · cases e : (tx "where ").isPrefixOf (joinK (k :: ks)) with
      | false=>rfl
      | true =>
        obtain ⟨q,hq⟩:=List.isPrefixOf_iff_prefix.mp e
        have e2 : wordP (joinK (k :: ks)) = none:=by
          rw [← hq,show tx "where " = tx "where" ++ [32] by decide +kernel,List.append_assoc]
          have e3:=tw_app (p:=isAbc) (x:=tx "where") (r:=[32] ++ q) (by decide +kernel) (fun c hc=>by cases hc; decide +kernel)
          unfold wordP
          rw [e3.1]
          exact if_neg fun z=>z.2.2 (by decide +kernel)
        rw [e1] at e2
        cases e2
    · intro c hc
      rw [e0] at hc
      obtain ⟨d,hd,e⟩:=head_in hk.1.lo (32 :: (k.2.cps.toList ++ moreK ks))
      rw [e] at hc
      cases hc
      exact hk.1.ab _ hd
omit ht hu in
theorem join_len {ks:List (Str × Str)} (h:∀ k ∈ ks,KdOk k) (hl:ks.length ≤ 8) : (joinK ks).length ≤ 200:=by
  have:=ks_len h hl
  cases ks with
  | nil=>exact Nat.zero_le _
  | cons k ks =>
    have e : txKs (k :: ks) = tx " where " ++ joinK (k :: ks):=rfl
    rw [e,List.length_append] at this
    omega
omit ht hu in
theorem join_bal {ks:List (Str × Str)} (h:∀ k ∈ ks,KdOk k) : Bal (joinK ks) 16:=by
  cases ks with
  | nil=>exact pl_bal (by decide)
  | cons k ks=>exact (kd_bal (h k List.mem_cons_self)).app (mk_bal fun x hx=>h x (List.mem_cons_of_mem _ hx))
theorem spo_5b {ks:List (Str × Str)} (h:∀ k ∈ ks,KdOk k) (hl:ks.length ≤ 8) {m:String} (hm:m ∈ [" where", "  where ", " Where ", " "]) : Spo (txT t ++ (tx " -> " ++ (txT u ++ (tx m ++ joinK ks)))):=by
  have dt:=ht.dp
  have du:=hu.dp
  obtain ⟨j1,j2⟩:=join_where h
  have jl:=join_len h hl
  have hw : tx " where " = [32,119,104,101,114,101,32]:=by decide +kernel
  have hml : ∀ m ∈ [" where", "  where ", " Where ", " "],(tx m).length ≤ 10 ∧ ((tx m).all fun c=>c != 40 && c != 41) = true ∧ (tx m).head? = some 32:=by decide +kernel
  obtain ⟨m1,m2,m3⟩:=hml m hm
  refine ⟨bad_more ht.ok hu.ok (by omega) (by omega) (end_tx m3) ?_ (fun z=>by rw [List.append_eq_nil_iff] at z; rw [z.1] at m3; cases m3),side_len ht hu (by rw [List.length_append]; omega),(side_bal ht hu ((pl_bal m2).app (join_bal h))).mo⟩
  simp only [List.mem_cons,List.not_mem_nil,or_false] at hm
  rcases hm with rfl | rfl | rfl | rfl
  · rw [hw,show tx " where" = [32,119,104,101,114,101] by decide +kernel]
    cases e : joinK ks with
    | nil=>rfl
    | cons c l =>
      have hc:=j2 c (by rw [e]; rfl)
      have nc : c ≠ 32:=fun z=>(show 32 ∉ abcS.cps.toList by decide +kernel) (z ▸ hc)
      simp [List.isPrefixOf]
      exact fun z=>nc z.symm
  · rw [hw,show tx "  where " = [32,32,119,104,101,114,101,32] by decide +kernel]
    rfl
  · rw [hw,show tx " Where " = [32,87,104,101,114,101,32] by decide +kernel]
    rfl
  · rw [show tx " where " = [32] ++ tx "where " by decide +kernel,show tx " " = [32] by decide +kernel]
    show (32 :: tx "where ").isPrefixOf (32 :: joinK ks) = false
    rw [List.isPrefixOf_cons₂,j1]
    rfl
omit ht hu in
theorem word_where {x:Str} (hx:WOk x) (r:Sg) : wordP (x.cps.toList ++ (tx "where " ++ r)) = none ∨ ∃ y,wordP (x.cps.toList ++ (tx "where " ++ r)) = some (y,32 :: r):=by
  have e : x.cps.toList ++ (tx "where " ++ r) = (x.cps.toList ++ tx "where") ++ (32 :: r):=by
    rw [show tx "where " = tx "where" ++ [32] by decide +kernel]
    simp
  have e3:=tw_app (p:=isAbc) (x:=x.cps.toList ++ tx "where") (r:=32 :: r) (fun c hc=>by
    rcases List.mem_append.mp hc with h | h
    · exact decide_eq_true (hx.ab c h)
    · exact (show ∀ c ∈ tx "where", isAbc c = true by decide +kernel) c h) (fun c hc=>by cases hc; decide +kernel)
  unfold wordP
  rw [e,e3.1,e3.2]
  by_cases hc : 1 ≤ (x.cps.toList ++ tx "where").length ∧ (x.cps.toList ++ tx "where").length ≤ 8 ∧ sOf (x.cps.toList ++ tx "where") ∉ kept11
  · exact .inr ⟨_,if_pos hc⟩
  · exact .inl (if_neg hc)
theorem spo_5a {ks:List (Str × Str)} (h:∀ k ∈ ks,KdOk k) (hl:ks.length ≤ 8) : Spo (txT t ++ (tx " -> " ++ (txT u ++ (tx "where " ++ joinK ks)))):=by
  have dt:=ht.dp
  have du:=hu.dp
  have jl:=join_len h hl
  obtain ⟨j1,j2⟩:=join_where h
  have hw : tx "where " = 119 :: tx "here " := by decide +kernel
  have ok:=hu.ok
  have same : shapeP 17 (txT u ++ (tx "where " ++ joinK ks)) = some (u,tx "where " ++ joinK ks) → ∃ u' s',shapeP 17 (txT u ++ (tx "where " ++ joinK ks)) = some (u',s') ∧ s' ≠ [] ∧ (tx " where ").isPrefixOf s' = false:=fun e=>⟨u,_,e,by rw [hw]; simp,by rw [hw,show tx " where " = 32 :: tx "where " by decide +kernel]; rfl⟩
  have bl : (tx " where ").isPrefixOf (32 :: joinK ks) = false:=by
    rw [show tx " where " = 32 :: tx "where " by decide +kernel,List.isPrefixOf_cons₂,j1]
    rfl
  have key : shapeP 17 (txT u ++ (tx "where " ++ joinK ks)) = none ∨ ∃ u' s',shapeP 17 (txT u ++ (tx "where " ++ joinK ks)) = some (u',s') ∧ s' ≠ [] ∧ (tx " where ").isPrefixOf s' = false:=by
    by_cases hb : brT u = none
    · have du17 : dpT u < 17:=by omega
      clear ht dt
      cases u with
      | num n =>
        refine .inr (same ?_)
        have ok' : NOk (numT n) n:=ok
        show shapeP (16 + 1) ((numT n).cps.toList ++ (tx "where " ++ joinK ks)) = _
        rw [shapeP,(q_no (fun c hc=>.inr (ok'.fg c hc)) ok'.lo).2,(q_no (fun c hc=>.inr (ok'.fg c hc)) ok'.lo).1]
        dsimp only
        have ne : NEnd (tx "where " ++ joinK ks):=fun c hc=>by
          rw [hw] at hc
          cases hc
          exact (show 119 ∉ figS.cps.toList by decide +kernel)
        unfold pleafP
        rw [(num_comp ok' ne).2,(num_comp ok' ne).1]
        rfl
      | name x =>
        have ok' : WOk x:=ok
        have e0 : shapeP 17 (x.cps.toList ++ (tx "where " ++ joinK ks)) = (match wordP (x.cps.toList ++ (tx "where " ++ joinK ks)) with | none=>none | some (y,r)=>some (.name y,r)):=by
          show shapeP (16 + 1) _ = _
          rw [shapeP,(q_no (fun c hc=>.inl (ok'.ab c hc)) ok'.lo).2,(q_no (fun c hc=>.inl (ok'.ab c hc)) ok'.lo).1]
          dsimp only
          unfold pleafP
          rw [fig_no_abc ok']
          cases wordP (x.cps.toList ++ (tx "where " ++ joinK ks)) with
          | none=>rfl
          | some p=>rfl
        show shapeP 17 (x.cps.toList ++ (tx "where " ++ joinK ks)) = none ∨ ∃ u' s',shapeP 17 (x.cps.toList ++ (tx "where " ++ joinK ks)) = some (u',s') ∧ _
        rw [e0]
        rcases word_where ok' (joinK ks) with hh | ⟨y,hh⟩
        · rw [hh]
          exact .inl rfl
        · rw [hh]
          exact .inr ⟨.name y,32 :: joinK ks,rfl,by simp,bl⟩
      | gap g as =>
        obtain ⟨kg,kas,_⟩:=ok
        cases as with
        | nil =>
          have e0 : txT (.gap g []) ++ (tx "where " ++ joinK ks) = [63] ++ (g.cps.toList ++ (tx "where " ++ joinK ks)):=by simp [txT,txAs]
          have e1 : shapeP 17 ([63] ++ (g.cps.toList ++ (tx "where " ++ joinK ks))) = (match wordP (g.cps.toList ++ (tx "where " ++ joinK ks)) with | none=>none | some (y,s2)=>match atomsP s2 with | none=>none | some (as,r)=>some (.gap y as,r)):=by
            show shapeP (16 + 1) _ = _
            rw [shapeP,skP_no (by rw [one_pre]; simp),skP_app]
            all_goals (dsimp only; cases wordP (g.cps.toList ++ (tx "where " ++ joinK ks)) <;> rfl)
          rw [e0,e1]
          rcases word_where kg (joinK ks) with hh | ⟨y,hh⟩
          · rw [hh]
            exact .inl rfl
          · rw [hh]
            dsimp only
            have e2 : atomsP (32 :: joinK ks) = some ([],32 :: joinK ks):=by
              unfold atomsP
              rw [skP_no (by rw [one_pre]; exact decide_eq_false (by simp))]
            rw [e2]
            exact .inr ⟨.gap y [],32 :: joinK ks,rfl,by simp,bl⟩
        | cons a as =>
          refine .inr (same ?_)
          have e0 : txT (.gap g (a :: as)) ++ (tx "where " ++ joinK ks) = [63] ++ (g.cps.toList ++ (txAs (a :: as) ++ (tx "where " ++ joinK ks))):=by simp [txT]
          rw [e0]
          show shapeP (16 + 1) _ = _
          rw [shapeP,skP_no (by rw [one_pre]; simp),skP_app]
          dsimp only
          rw [word_comp kg (fun c hc=>by cases hc; exact (show 91 ∉ abcS.cps.toList by decide +kernel))]
          dsimp only
          rw [atoms_comp kas (fun c hc=>by rw [hw] at hc; cases hc; decide)]
      | ask x=>cases hb
      | stop x=>cases hb
      | say a=>cases hb
      | bin o a b=>cases hb
      | ite a b c=>cases hb
      | lett x a b=>cases hb
    · exact .inr (same (shape_compB ok (by omega) fun z=>absurd z hb))
  have e1 : shapeP 17 (txT t ++ (tx " -> " ++ (txT u ++ (tx "where " ++ joinK ks)))) = some (t,tx " -> " ++ (txT u ++ (tx "where " ++ joinK ks))):=shape_comp ht.ok (by omega) (end_tx (by decide +kernel))
  have e2:=skP_app (tx " -> ") (txT u ++ (tx "where " ++ joinK ks))
  refine ⟨?_,side_len ht hu (by rw [List.length_append,show (tx "where ").length = 6 by decide +kernel]; omega),(side_bal ht hu ((pl_bal (l:=tx "where ") (by decide +kernel)).app (join_bal h))).mo⟩
  rcases key with e3 | ⟨u',s',e3,ns,nw⟩
  · exact ⟨by unfold ruleP; rw [e1]; dsimp only; rw [e2]; dsimp only; rw [e3],fun t s1 s2 u s3 h1 h2 h3=>by rw [e1] at h1; cases h1; rw [e2] at h2; cases h2; rw [e3] at h3; cases h3⟩
  · obtain ⟨k1,k2⟩:=no_where nw
    exact ⟨by unfold ruleP; rw [e1]; dsimp only; rw [e2]; dsimp only; rw [e3]; dsimp only; rw [k1]; exact if_neg ns,fun t s1 s2 u s3 h1 h2 h3=>by rw [e1] at h1; cases h1; rw [e2] at h2; cases h2; rw [e3] at h3; cases h3; exact k2⟩
end
end L2
namespace L2
open PySem
theorem kept_c : ∀ y ∈ kept11,1 ≤ (Str.ofString "c" ++ Txt.slice y (some 1) none).length ∧ (Str.ofString "c" ++ Txt.slice y (some 1) none).length ≤ 8 ∧ (∀ c ∈ (Str.ofString "c" ++ Txt.slice y (some 1) none).cps.toList,c ∈ abcS.cps.toList) ∧ (Str.ofString "c" ++ Txt.slice y (some 1) none) ∉ kept11:=by decide +kernel
end L2
namespace K08
open PySem PySem.Spec L2 PyProof.Rows
abbrev s_law_cell_at : Stmt:=top 40
theorem sc_law_cell_at : FnScope ["_law_script", "_law_k"] ["_law_script", "_law_k"] (defScope s_law_cell_at):=⟨rfl,rfl,rfl,by decide +kernel,rfl,by decide +kernel,by decide +kernel⟩
abbrev s_law_word : Stmt:=top 41
theorem sc_law_word : FnScope ["_law_cell", "_law_long", "_law_at", "_law_turn", "_law_letters", "_law_word_here", "_law_j", "_law_number"] ["_law_cell", "_law_long", "_law_at", "_law_turn"] (defScope s_law_word):=⟨rfl,rfl,rfl,by decide +kernel,rfl,by decide +kernel,by decide +kernel⟩
abbrev s_law_words : Stmt:=top 42
theorem sc_law_words : FnScope ["_law_cell", "_law_long", "_law_at"] ["_law_cell"] (defScope s_law_words):=⟨rfl,rfl,rfl,by decide +kernel,rfl,by decide +kernel,by decide +kernel⟩
section
variable {P:Program} {w:World} {K:PySem.W.Frag} {mg:Str → Option Value} {base:Heap}
def sp_cell_at (K:PySem.W.Frag) : Sp:=fun vs H Q _=>∃ (a:Addr) (ns:List Int) (k:Int),vs = [.ref a,.int k] ∧ SqL K H a (ns.map V.int) ∧ 0 ≤ k ∧ ∀ i : Int,Q (.int i) H
theorem ok_cell_at {k:Nat} {f:Addr} {fd:FuncData} (F:Fun K "_law_cell_at" "_law_cell_at" s_law_cell_at f fd) (z_len:mg "len" = none) : FnOk P w K mg base CX0 (k + 1) f fd ["_law_script", "_law_k"] (sp_cell_at K):=by
  refine F.ok sc_law_cell_at (fun vs H Q E h=>?_) (fun cdv A outer s H vs Q E hr h=>?_)
  · obtain ⟨a,ns,k,rfl,_⟩:=h
    rfl
  obtain ⟨a,ns,k,rfl,hS,h0,q⟩:=h
  refine ⟨_,(pss_cons (ps_if (pt_cmpR op_lt (pv 1) (pe_callB call_len_seq (by rfl) z_len PySem.boot_len (pa_cons (pv 0) pa_nil)) (nomark _)) (pss_one (ps_ret (pe_ix (r:=rIxL K) ix_list (pv 0) (pv 1) (fun _ _=>rfl)))) pss_nil)
    (pss_one (ps_ret pe_int))),?_⟩
  refine ⟨_,rfl,_,rfl,a,_,rfl,.inl hS,_,_,rfl,rfl,_,rfl,?_⟩
  refine ite2 (fun c=>?_) (fun c=>?_)
  · have c' : k < ((ns.map V.int).length : Int):=of_decide_eq_true c
    obtain ⟨v,hv,e⟩:=atI_in h0 c'
    obtain ⟨i,_,rfl⟩:=List.mem_map.mp hv
    exact ⟨_,rfl,_,rfl,a,_,k,_,rfl,rfl,hS,e,q i⟩
  · exact q 0
def sp_lword : Sp:=fun vs H Q _=>∃ (c n at_ tn:Int),vs = [.int c,.int n,.int at_,.int tn] ∧ 1 ≤ n ∧ n ≤ 8 ∧ ∀ (x:Str) (H':Hp),Same H H' → WOk x → Q (.str x) H'
theorem ok_lword {k:Nat} {f:Addr} {fd:FuncData} (F:Fun K "_law_word" "_law_word" s_law_word f fd) (z_range:mg "range" = none) : FnOk P w K mg base CX0 (k + 1) f fd ["_law_cell", "_law_long", "_law_at", "_law_turn"] sp_lword:=by
  refine F.ok sc_law_word (fun vs H Q E h=>?_) (fun cdv A outer s H vs Q E hr h=>?_)
  · obtain ⟨c,n,a,t,rfl,_⟩:=h
    rfl
  obtain ⟨c,n,at_,tn,rfl,hn1,hn8,q⟩:=h
  refine ⟨_,(pss_cons (ps_set (i:=4) sc_law_word.nd rfl (Or.inl rfl) pe_str)
    (pss_cons (ps_set (i:=5) sc_law_word.nd rfl (Or.inl rfl) pe_str)
    (pss_cons (ps_for PassesOwn.never rfl (pi_range1 (by rfl) z_range (pa_cons (pv 1) pa_nil)) (pg_name (i:=6) sc_law_word.nd rfl (Or.inl rfl)) (pss_cons (ps_set (i:=7) sc_law_word.nd rfl (Or.inl rfl) (pe_op op_fdiv (pe_op op_mod (pe_op op_mul (pe_op op_mod (pv 0) pe_int) (pe_op op_add pe_int (pe_op op_mul (pe_op op_mul pe_int (pv 6)) (pv 6)))) pe_int) pe_int))
    (pss_cons (ps_if (pt_cmpR op_eq (pv 6) (pv 2) (nomark _)) (pss_one (ps_set (i:=7) sc_law_word.nd rfl (Or.inl rfl) (pe_op op_add (pv 7) (pv 3)))) pss_nil)
    (pss_one (ps_set (i:=5) sc_law_word.nd rfl (Or.inl rfl) (pe_op op_add_str (pv 5) (pe_ix ix_str (pv 4) (pe_op op_mod (pv 7) pe_int) (fun _ _=>rfl))))))))
    (pss_cons (ps_if (pt_cmpR (r:=rIn K false) op_in_seq (pv 5) (pe_tupR [.str "let", .str "in", .str "if", .str "then", .str "else", .str "say", .str "ask", .str "stop", .str "where", .str "quiet", .str "number"] (by rfl) : PE _ _ _) rfl) (pss_one (ps_ret (pe_op op_add_str pe_str (pe_slice sl_str (pv 5) (po_some pe_int) po_none)))) pss_nil)
    (pss_one (ps_ret (pv 5))))))),?_⟩
  have hLlen : abcS.length = 26:=by decide +kernel
  have hLl : ((abcS.cps.toList).length : Int) = 26:=by rw [str_len,hLlen]; rfl
  refine ⟨_,rfl,n,rfl,by omega,by omega,?_⟩
  refine for_range (n:=n.toNat) (fun i σ' H'=>∃ (x:Str) (s6 s7:Option V),σ' = [some (.int c),some (.int n),some (.int at_),some (.int tn),some (.str abcS),some (.str x),s6,s7] ∧ H' = H ∧ x.length = i ∧ ∀ d ∈ x.cps.toList,d ∈ abcS.cps.toList) ?_ ?_ ?_
  · exact ⟨_,none,none,rfl,rfl,by decide +kernel,by decide +kernel⟩
  · rintro i σ1 H1 hi ⟨x,s6,s7,rfl,rfl,hx,hab⟩
    refine ⟨_,rfl,_,_,rfl,rfl,(show (0:Int) < 999931 by decide),_,rfl,_,_,rfl,rfl,.inl ⟨by decide,by decide⟩,_,rfl,_,_,rfl,rfl,.inr ⟨by omega,by omega⟩,_,_,rfl,rfl,_,_,rfl,rfl,.inl ⟨?_,?_⟩,_,_,rfl,rfl,(show (0:Int) < 2147483647 by decide),_,_,rfl,rfl,⟨by decide,by decide⟩,?_⟩
    · have:=Int.emod_nonneg c (show (999931:Int) ≠ 0 by decide)
      omega
    · have:=Int.emod_lt_of_pos c (show (0:Int) < 999931 by decide)
      omega
    have at26 : ∀ m : Int,∃ ch,ch ∈ abcS.cps.toList ∧ atI abcS.cps.toList (m % 26) = some ch:=fun m=>by
      obtain ⟨ch,hch,e1⟩:=atI_in (xs:=abcS.cps.toList) (i:=m % 26) (by omega) (by omega)
      exact ⟨ch,hch,e1⟩
    have lenx : ∀ ch : Nat,(x ++ (⟨#[ch]⟩ : Str)).length = i + 1:=fun ch=>by
      have : (x ++ (⟨#[ch]⟩ : Str)).length = x.length + 1:=by
        show (x.cps ++ #[ch]).size = x.cps.size + 1
        simp
      omega
    have memx : ∀ ch : Nat,ch ∈ abcS.cps.toList → ∀ d ∈ (x ++ (⟨#[ch]⟩ : Str)).cps.toList,d ∈ abcS.cps.toList:=fun ch hch d hd=>by
      rw [app_list] at hd
      rcases List.mem_append.mp hd with h | h
      · exact hab d h
      · have : d = ch:=by simpa using h
        rw [this]
        exact hch
    refine ⟨_,rfl,_,rfl,rfl,_,rfl,ite2 (fun _=>?_) (fun _=>?_)⟩
    · obtain ⟨ch,hch,e1⟩:=at26 (c % 999931 * (48271 + 11 * (0 + (i:Int)) * (0 + (i:Int))) % 2147483647 / 109 + tn)
      refine ⟨_,rfl,_,rfl,_,_,rfl,rfl,?_⟩
      exact ⟨_,rfl,_,rfl,_,rfl,_,_,rfl,rfl,(show (0:Int) < 26 by decide),abcS,_,ch,rfl,rfl,line1000 (by rw [hLlen]; decide),e1,_,_,rfl,rfl,line1000 (by show x.length + 1 ≤ 1000; omega),_,_,_,rfl,rfl,lenx ch,memx ch hch⟩
    · obtain ⟨ch,hch,e1⟩:=at26 (c % 999931 * (48271 + 11 * (0 + (i:Int)) * (0 + (i:Int))) % 2147483647 / 109)
      exact ⟨_,rfl,_,rfl,_,rfl,_,_,rfl,rfl,(show (0:Int) < 26 by decide),abcS,_,ch,rfl,rfl,line1000 (by rw [hLlen]; decide),e1,_,_,rfl,rfl,line1000 (by show x.length + 1 ≤ 1000; omega),_,_,_,rfl,rfl,lenx ch,memx ch hch⟩
  · rintro σ1 H1 ⟨x,s6,s7,rfl,rfl,hx,hab⟩
    have hn : (n.toNat : Int) = n:=by omega
    refine ⟨_,rfl,(by show 11 ≤ sizeLine; decide),fun p hp=>⟨p,kept11.map V.str,rfl,.inr (SqT.of upd_same),rfl,rfl,_,rfl,?_⟩⟩
    refine ite2 (fun hin=>?_) (fun hin=>?_)
    · obtain ⟨k1,k2,k3,k4⟩:=kept_c x (kept_in hin)
      refine ⟨_,rfl,_,rfl,x,rfl,line1000 (by omega),fun hle=>⟨_,_,rfl,rfl,line1000 ?_,q _ _ (same_upd hp) ⟨k1,k2,k3,k4⟩⟩⟩
      have : (Str.ofString "c").length = 1:=by decide +kernel
      omega
    · refine ⟨_,rfl,q _ _ (same_upd hp) ⟨by omega,by omega,hab,fun z=>hin ?_⟩⟩
      show inV (.str x) (kept11.map V.str) = true
      unfold inV
      exact List.any_eq_true.mpr ⟨.str x,List.mem_map_of_mem z,by rw [eqV_str]⟩
def sp_words : Sp:=fun vs H Q _=>∃ (c:Int),vs = [.int c] ∧ ∀ (l:Addr) (ws:List Str) (H':Hp),Same H H' → H' l = some (.lst (ws.map V.str)) → ws.length = 6 → (∀ x ∈ ws,WOk x) → Q (.ref l) H'
theorem ok_words {k:Nat} {f g1:Addr} {fd gd1:FuncData} (F:Fun K "_law_words" "_law_words" s_law_words f fd) (z_range:mg "range" = none) (G_law_word:FnB P w K mg base k "_law_word" g1 gd1 ["_law_cell", "_law_long", "_law_at", "_law_turn"] sp_lword) : FnOk P w K mg base CX0 (k + 1) f fd ["_law_cell"] sp_words:=by
  refine F.ok sc_law_words (fun vs H Q E h=>?_) (fun cdv A outer s H vs Q E hr h=>?_)
  · obtain ⟨c,rfl,_⟩:=h
    rfl
  obtain ⟨c,rfl,q⟩:=h
  refine ⟨_,(pss_cons (ps_set (i:=1) sc_law_words.nd rfl (Or.inr rfl) (pe_op op_add pe_int (pe_op op_mod (pv 0) pe_int)))
    (pss_cons (ps_set (i:=2) sc_law_words.nd rfl (Or.inr rfl) (pe_op op_mod (pe_op op_fdiv (pv 0) pe_int) (pv 1)))
    (pss_one (ps_ret (pe_compB ["_law_k", "_law_long", "_law_at", "_law_cell"] [none,some 1,some 2,some 0] rfl (pi_range1 (by rfl) z_range (pa_cons pe_int pa_nil)) (fun _ _ _ _ _=>(pg_name (i:=0) (show List.Nodup (["_law_k", "_law_long", "_law_at", "_law_cell"] : List Str) by decide +kernel) rfl (Or.inl rfl))) (fun _ _ _ _ _=>pts_nil) (fun _ _ _ _ _=>(pe_call G_law_word.ok hr (by rfl) G_law_word.gl G_law_word.kp G_law_word.bd .nil pass0 (pa_cons (pe_op op_fdiv (pv 3) pe_int) (pa_cons (pv 1) (pa_cons (pv 2) (pa_cons (pe_op op_mul pe_int (pv 0)) pa_nil)))))) rfl))))),?_⟩
  have m0:=Int.emod_nonneg c (show (8:Int) ≠ 0 by decide)
  have m1:=Int.emod_lt_of_pos c (show (0:Int) < 8 by decide)
  refine ⟨_,rfl,_,_,rfl,rfl,(show (0:Int) < 8 by decide),_,_,rfl,rfl,_,rfl,_,_,rfl,rfl,⟨by decide,by decide⟩,_,rfl,_,_,rfl,rfl,(show (0:Int) < 1 + c % 8 by omega),?_⟩
  refine ⟨6,rfl,by decide,by decide,fun acc hacc=>?_⟩
  refine comp_range (n:=6) (fun i H'=>Same H H' ∧ ∃ ws : List Str,ws.length = i ∧ (∀ x ∈ ws,WOk x) ∧ H' acc = some (.lst (ws.map V.str))) ⟨same_upd hacc,[],rfl,by simp,upd_same⟩ ?_ ?_
  · rintro i H1 hi ⟨g1,ws,hl,hw,ea⟩
    refine ⟨.skip (.keep (.keep (.keep .nil))),?_⟩
    refine ⟨_,rfl,_,_,rfl,rfl,⟨by decide,by decide⟩,_,rfl,_,rfl,_,rfl,_,_,rfl,rfl,.inl ⟨by decide,by decide⟩,_,_,_,_,rfl,by omega,by omega,fun x H2 g2 hx=>?_⟩
    refine ⟨_,g2 _ _ ea,line_lt (by rw [List.length_map]; omega),same_set (g1.trans g2) hacc,ws ++ [x],by rw [List.length_append,hl]; rfl,fun y hy=>?_,?_⟩
    · rcases List.mem_append.mp hy with h | h
      · exact hw y h
      · rw [List.mem_singleton.mp h]
        exact hx
    · rw [upd_same,List.map_append]
      rfl
  · rintro H1 ⟨g1,ws,hl,hw,ea⟩
    exact q acc ws H1 g1 ea hl hw
end
end K08
namespace L2
open PySem PySem.Spec PyProof.Rows
section
variable {X:Cx} {o e:Expr} {es:List Expr} {te to:TE} {t:TA} {name x:Str} {apos cpos pos p:Pos} {T id:String}
theorem ps_exprS (he:Sd (PE X e te)) (hs:swapsWith e none pos.line X.env = pure false:=by rfl) : Sd (PS X (.Expr e pos) (tDrop te)):=⟨ps_expr he.un hs⟩
theorem pe_bmS {r:V → List V → Hp → VK → Prop} (pa:PlainAttrs T) (slot:Slot T name id) (hty:typeOf (.builtin id) = pure (.type "method_descriptor")) (hm:MtR X id r) (ho:Sd (PE X o to)) (ha:Sd (PA X (e :: es) t))
    (hbase:attributeBase o name X.env (eval o X.env) = eval o X.env:=by rfl)
    (hfew:((backTo cpos (starEach (e :: es) X.env)).all (fun x=>!x.1) && (backToKw cpos (keywordEach [] X.env)).all (fun x=>x.1.isSome) && decide ((e :: es).length + ([] : List Keyword).length + (if ([] : List Keyword).isEmpty then 0 else 1) < 30)) = true:=by rfl)
    (hline:(apos.endLine == cpos.line) = true:=by rfl) (hs:starEach (e :: es) X.env = (false,eval e X.env) :: starEach es X.env:=by rfl) (hplain:(backTo cpos (starEach es X.env)).any (·.1) = false:=by rfl) :
    Sd (PE X (.Call (.Attribute o name apos) (e :: es) [] cpos) (tBM X.K T r to t)):=⟨pe_bm pa slot hty hm ho.un ha.un hbase hfew hline hs hplain⟩
theorem pe_callTyS {r:List V → Hp → VK → Prop} (hc:CallR X (.type T) r) (hg:Gl X x) (hm:X.mg x = none) (hv:bootBuiltins x = some (.type T)) (ha:Sd (PA X (e :: es) t)) (hn:x ≠ "__name__" := by decide) (hdb:(x == ("__debug__" : Str)) = false:=by decide)
    (he:starEach (e :: es) X.env = (false,eval e X.env) :: starEach es X.env:=by rfl) (hpl:(backTo pos (starEach es X.env)).any (·.1) = false:=by rfl) : Sd (PE X (.Call (.Name x p) (e :: es) [] pos) (tCB r t)):=⟨pe_callTy hc hg hm hv ha.un hn hdb he hpl⟩
end
instance instDecDt : DecidableEq Dt:=fun a b=>decidable_of_iff (Dt.beq a b = true) Dt.beq_iff
def lookB (x:Str) : List Str → Option Nat
  | []=>none
  | y :: r=>if y = x then some 0 else (lookB x r).map (· + 1)
def keyB (x:Str) (rs:List Str) : Nat ⊕ Str:=match lookB x rs with
  | some k=>.inl k
  | none=>.inr x
def keyD : Nat ⊕ Str → Dt
  | .inl k=>.tup [.str "bound", .int k]
  | .inr z=>.tup [.str "free", .str z]
def bareN (x:Str) (bs:List Str) : Dt:=keyD (keyB x bs.reverse)
def sn (x y:Str) : List (Str × Str) → Bool
  | []=>decide (x = y)
  | p :: r=>if p.1 = x ∨ p.2 = y then decide (p.1 = x ∧ p.2 = y) else sn x y r
inductive Lf where
  | name (x:Str) | num (n:Int) | gap (g:Str) | ask (x:Str) | stop (x:Str)
def dtL : Lf → List Dt
  | .name x=>[.str "name", .str x] | .num n=>[.str "num", .int n] | .gap g=>[.str "gap", .str g,.tup []] | .ask x=>[.str "ask", .str x] | .stop x=>[.str "stop", .str x]
def bareL (l:Lf) (bs:List Str) : Dt:=match l with
  | .name x=>bareN x bs
  | l=>.tup (dtL l)
def Atom.lf : Atom → Lf
  | .name x=>.name x | .num n=>.num n | .gap g=>.gap g
def bareA (bs:List Str) (a:Atom) : Dt:=bareL a.lf bs
def bare : Tr → List Str → Dt
  | .num n,_=>.tup [.str "num", .int n]
  | .name x,bs=>bareN x bs
  | .ask x,_=>.tup [.str "ask", .str x]
  | .stop x,_=>.tup [.str "stop", .str x]
  | .gap g as,bs=>.tup [.str "gap", .str g,.tup (as.map (bareA bs))]
  | .say a,bs=>.tup [.str "say", bare a bs]
  | .bin o a b,bs=>.tup [.str o.s,bare a bs,bare b bs]
  | .ite a b c,bs=>.tup [.str "if", bare a bs,bare b bs,bare c bs]
  | .lett x a b,bs=>.tup [.str "let", bare a bs,bare b (bs ++ [x])]
end L2
namespace L2
open PySem
theorem pe_lstRS {X:Cx} {e:Expr} (vs:List V) (h:rowL e = some vs) : Sd (PE X e (tLst (tRow vs))):=⟨@pe_lstR X e vs h⟩
theorem pe_opS {X:Cx} {a b:Expr} {ta tb:TE} {pos:Pos} {op:Operator} {r:R2} (ho:OpR X (binaryOp op) r) (ha:Sd (PE X a ta)) (hb:Sd (PE X b tb)) : Sd (PE X (.BinOp a op b pos) (tOp r ta tb)):=⟨pe_op ho ha.un hb.un⟩
theorem pa_cS {X:Cx} {es:List Expr} {te:TE} {tA:TA} {c:Const} {k:Nat} {p:Pos} (ha:Sd (PE X (.Constant c k p) te)) (hr:Sd (PA X es tA)) : Sd (PA X (.Constant c k p :: es) (tCons te tA)):=⟨pa_cons ha.un hr.un rfl⟩
theorem pa_bS {X:Cx} {es:List Expr} {te:TE} {tA:TA} {a b:Expr} {op:Operator} {p:Pos} (ha:Sd (PE X (.BinOp a op b p) te)) (hr:Sd (PA X es tA)) : Sd (PA X (.BinOp a op b p :: es) (tCons te tA)):=⟨pa_cons ha.un hr.un rfl⟩
theorem sealed {X:Cx} {st:List Stmt} {G:TS → Prop} (h:∃ t,Sd (PSs X st t) ∧ G t) : ∃ t,PSs X st t ∧ G t:=h.elim fun t ht=>⟨t,ht.1.un,ht.2⟩
theorem ps_tryS {X:Cx} {pos:Pos} {h0:ExceptHandler} {hs:List ExceptHandler} {body orelse:List Stmt} {tb:Ends → TS} {to:TS} (hb:∀ pins D,Sd (PSs (X.inTry (h0 :: hs) pins D) body (tb D))) (ho:Sd (PSs X orelse to)) :
    Sd (PS X (.Try body (h0 :: hs) orelse [] pos) (fun D σ H=>tb D { D with nx:=to D } σ H)):=⟨ps_try (fun pins D=>(hb pins D).un) ho.un⟩
theorem more9 : ∀ {as:List Atom},(∀ a ∈ as,(txA a).length ≤ 9) → (moreA as).length ≤ 10 * as.length
  | [],_=>Nat.le_refl _
  | a :: as,h=>by
    have h1:=h a List.mem_cons_self
    have h2:=more9 (as:=as) fun x hx=>h x (List.mem_cons_of_mem _ hx)
    show (32 :: txA a ++ moreA as).length ≤ 10 * (as.length + 1)
    rw [List.length_append,List.length_cons]
    omega
theorem gap_len {as:List Atom} (h:∀ a ∈ as,AOk a ∧ (txA a).length ≤ 9) : (txAs as).length ≤ 2 + 10 * as.length:=by
  cases as with
  | nil=>exact Nat.zero_le _
  | cons a as =>
    have h1:=(h a List.mem_cons_self).2
    have h2:=more9 (as:=as) fun x hx=>(h x (List.mem_cons_of_mem _ hx)).2
    have e : txAs (a :: as) = 91 :: (txA a ++ moreA as ++ [93]):=by simp [txAs]
    rw [e,List.length_cons,List.length_append,List.length_append,List.length_singleton,List.length_cons]
    omega
structure ShOk (t:Tr) (n d:Nat) : Prop where
  ok : TOk t
  dp : dpT t ≤ 2 * d
  op : opT t ≤ 2 * d + 1
  ln : (txT t).length ≤ 45 * n + 9
end L2
namespace K08
open PySem PySem.Spec L2 PyProof.Rows
abbrev s_law_leaf : Stmt:=top 43
theorem sc_law_leaf : FnScope ["_law_cell", "_law_words_here", "_law_number", "_law_word_here", "_law_some"] ["_law_cell", "_law_words_here"] (defScope s_law_leaf):=⟨rfl,rfl,rfl,by decide +kernel,rfl,by decide +kernel,by decide +kernel⟩
abbrev s_law_shape : Stmt:=top 44
theorem sc_law_shape : FnScope ["_law_cells", "_law_words_here", "_law_deep", "_law_number", "_law_at", "_law_one", "_law_other", "_law_sign"] ["_law_cells", "_law_words_here", "_law_deep"] (defScope s_law_shape):=⟨rfl,rfl,rfl,by decide +kernel,rfl,by decide +kernel,by decide +kernel⟩
section
variable {P:Program} {w:World} {K:PySem.W.Frag} {mg:Str → Option Value} {base:Heap}
def sp_leaf : Sp:=fun vs H Q _=>∃ (c:Int) (wl:Addr) (ws:List Str),vs = [.int c,.ref wl] ∧ H wl = some (.lst (ws.map V.str)) ∧ ws.length = 6 ∧ (∀ x ∈ ws,WOk x) ∧ ∀ (t:Tr) (v:V) (H':Hp),Same H H' → Rep H' t v → ShOk t 1 0 → Q v H'
theorem ok_leaf {k:Nat} {f:Addr} {fd:FuncData} (F:Fun K "_law_leaf" "_law_leaf" s_law_leaf f fd) (z_tuple:mg "tuple" = none) : FnOk P w K mg base CX0 (k + 1) f fd ["_law_cell", "_law_words_here"] sp_leaf:=by
  refine F.ok sc_law_leaf (fun vs H Q E h=>?_) (fun cdv A outer s H vs Q E hr h=>?_)
  · obtain ⟨c,wl,ws,rfl,_⟩:=h
    rfl
  obtain ⟨c,wl,ws,rfl,hwl,h6,hw,q⟩:=h
  refine sealed ⟨_,(pss_consS (ps_setS (i:=2) sc_law_leaf.nd rfl (Or.inl rfl) (pe_opS op_mod (pe_opS op_mul ⟨pv 0⟩ ⟨pe_int⟩) ⟨pe_int⟩))
    (pss_consS (ps_setS (i:=3) sc_law_leaf.nd rfl (Or.inl rfl) (pe_ixS (r:=rIxL K) ix_list ⟨pv 1⟩ (pe_opS op_mod (pe_opS op_fdiv ⟨pv 2⟩ ⟨pe_int⟩) ⟨pe_int⟩) (fun _ _=>rfl)))
    (pss_consS (ps_ifS ⟨pt_cmpR op_lt (pe_op op_mod (pv 2) pe_int) pe_int (nomark _)⟩ (pss_oneS (ps_retS (pe_tupS (pa_cS ⟨pe_str⟩ (pa_consS (pe_ixS (r:=rIxL K) ix_list (pe_lstS (pa_bS (pe_opS op_mod ⟨pv 0⟩ (pe_opS op_pow ⟨pe_int⟩ ⟨pe_int⟩)) (pa_bS (pe_opS op_mod (pe_opS op_fdiv ⟨pv 2⟩ ⟨pe_int⟩) ⟨pe_int⟩) ⟨pa_nil⟩))) (pe_opS op_mod ⟨pv 2⟩ ⟨pe_int⟩) (fun _ _=>rfl)) ⟨pa_nil⟩))))) ⟨pss_nil⟩)
    (pss_consS (ps_ifS ⟨pt_cmpR op_lt (pe_op op_mod (pv 2) pe_int) pe_int (nomark _)⟩ (pss_consS (ps_setS (i:=4) sc_law_leaf.nd rfl (Or.inl rfl) (pe_lstS (pa_consS (pe_tupS (pa_cS ⟨pe_str⟩ (pa_consS (pe_ixS (r:=rIxL K) ix_list ⟨pv 1⟩ (pe_opS op_mod (pe_opS op_fdiv ⟨pv 2⟩ ⟨pe_int⟩) ⟨pe_int⟩) (fun _ _=>rfl)) ⟨pa_nil⟩))) (pa_consS (pe_tupS (pa_cS ⟨pe_str⟩ (pa_bS (pe_opS op_mod (pe_opS op_fdiv ⟨pv 2⟩ ⟨pe_int⟩) ⟨pe_int⟩) ⟨pa_nil⟩))) ⟨pa_nil⟩))))
    (pss_consS (ps_exprS (pe_bmS PySem.F.plainAttrs_list PySem.F.slot_list_append PySem.F.type_list_append mt_append ⟨pv 4⟩ (pa_consS (pe_tupS (pa_cS ⟨pe_str⟩ (pa_consS (pe_ixS (r:=rIxL K) ix_list ⟨pv 1⟩ (pe_opS op_mod (pe_opS op_fdiv ⟨pv 2⟩ ⟨pe_int⟩) ⟨pe_int⟩) (fun _ _=>rfl)) (pa_consS (pe_tupS ⟨pa_nil⟩) ⟨pa_nil⟩)))) ⟨pa_nil⟩)))
    (pss_oneS (ps_retS (pe_tupS (pa_cS ⟨pe_str⟩ (pa_consS ⟨pv 3⟩ (pa_consS (pe_callTyS call_tuple_of (by rfl) z_tuple PyProof.Rows.boot_tuple (pa_consS ⟨pe_slice (r:=rSlL K) sl_list (pe_slice (r:=rSlL K) sl_list (pv 4) (po_some (pe_op op_mod (pe_op op_fdiv (pv 2) pe_int) pe_int)) po_none) po_none (po_some (pe_op op_mod (pe_op op_fdiv (pv 2) pe_int) pe_int))⟩ ⟨pa_nil⟩)) ⟨pa_nil⟩)))))))) ⟨pss_nil⟩)
    (pss_oneS (ps_retS (pe_tupS (pa_consS (pe_ixS (r:=rIxL K) ix_list (pe_lstRS [.str "ask", .str "stop", .str "name"] (by decide +kernel)) (pe_opS op_sub (pe_opS op_mod ⟨pv 2⟩ ⟨pe_int⟩) ⟨pe_int⟩) (fun _ _=>rfl)) (pa_consS ⟨pv 3⟩ ⟨pa_nil⟩))))))))),?_⟩
  have wat : ∀ m : Int,∃ x,x ∈ ws ∧ atI (ws.map V.str) (m % 6) = some (.str x):=fun m=>by
    obtain ⟨v,hv,e⟩:=atI_in (xs:=ws.map V.str) (i:=m % 6) (by omega) (by rw [List.length_map,h6]; omega)
    obtain ⟨x,hx,rfl⟩:=List.mem_map.mp hv
    exact ⟨x,hx,e⟩
  have d0 : 0 ≤ sizeLine:=by decide
  have d2 : 2 ≤ sizeLine:=by decide
  have d3 : 3 ≤ sizeLine:=by decide
  obtain ⟨N,hN⟩ : ∃ N,c * 48271 % 2147483647 = N:=⟨_,rfl⟩
  have hN0 : 0 ≤ N:=by rw [← hN]; exact Int.emod_nonneg _ (by decide)
  obtain ⟨x,hx,ex⟩:=wat (c * 48271 % 2147483647 / 8)
  refine ⟨_,rfl,_,_,rfl,rfl,.inr ⟨by decide,by decide⟩,_,_,rfl,rfl,(show (0:Int) < 2147483647 by decide),?_⟩
  refine ⟨_,rfl,_,rfl,_,_,rfl,rfl,⟨by decide,by decide⟩,_,_,rfl,rfl,(show (0:Int) < 6 by decide),wl,_,_,_,rfl,rfl,SqL.of hwl,ex,?_⟩
  refine ⟨_,rfl,_,_,rfl,rfl,(show (0:Int) < 8 by decide),_,_,rfl,rfl,_,rfl,ite2 (fun c2=>?_) (fun c2=>?_)⟩
  · have c2' : c * 48271 % 2147483647 % 8 < 2:=of_decide_eq_true c2
    obtain ⟨v,hv,e⟩:=atI_in (xs:=[V.int (c % 10 ^ (30:Int).toNat),V.int (c * 48271 % 2147483647 / 8 % 12)]) (i:=c * 48271 % 2147483647 % 8) (by omega) (by show c * 48271 % 2147483647 % 8 < ((2:Nat) : Int); omega)
    obtain ⟨n,rfl,n0,n1⟩ : ∃ n : Int,v = .int n ∧ 0 ≤ n ∧ n < 10 ^ 30:=by
      simp only [List.mem_cons,List.not_mem_nil,or_false] at hv
      rcases hv with rfl | rfl
      · exact ⟨_,rfl,Int.emod_nonneg _ (by decide),Int.emod_lt_of_pos _ (by decide)⟩
      · refine ⟨_,rfl,by omega,Int.lt_of_lt_of_le (Int.emod_lt_of_pos _ (show (0:Int) < 12 by decide)) (by decide)⟩
    refine ⟨_,rfl,_,_,rfl,rfl,⟨by decide,by decide,by decide⟩,_,_,rfl,rfl,(show (0:Int) < 10 ^ (30:Int).toNat by decide),_,rfl,_,_,rfl,rfl,⟨by decide,by decide⟩,_,_,rfl,rfl,(show (0:Int) < 12 by decide),d2,fun p1 hp1=>?_⟩
    refine ⟨_,rfl,_,_,rfl,rfl,(show (0:Int) < 8 by decide),p1,_,_,_,rfl,rfl,SqL.of upd_same,e,d2,fun p2 hp2=>?_⟩
    have ok:=num_ok n0 n1
    refine q (.num n) _ _ ((same_upd hp1).trans (same_upd hp2)) ⟨p2,rfl,upd_same⟩ ⟨ok,Nat.le_refl _,Nat.zero_le _,?_⟩
    have:=ok.hi
    have:=str_len (numT n)
    show (numT n).cps.toList.length ≤ _
    omega
  · refine ⟨_,rfl,_,_,rfl,rfl,(show (0:Int) < 8 by decide),_,_,rfl,rfl,_,rfl,ite2 (fun c5=>?_) (fun c5=>?_)⟩
    · obtain ⟨y,hy,ey⟩:=wat (c * 48271 % 2147483647 / 48)
      obtain ⟨z,hz,ez⟩:=wat (c * 48271 % 2147483647 / 9000)
      refine ⟨_,rfl,_,rfl,_,_,rfl,rfl,⟨by decide,by decide⟩,_,_,rfl,rfl,(show (0:Int) < 6 by decide),wl,_,_,_,rfl,rfl,SqL.of hwl,ey,d2,fun t1 ht1=>?_⟩
      refine ⟨_,rfl,_,_,rfl,rfl,⟨by decide,by decide⟩,_,_,rfl,rfl,(show (0:Int) < 30 by decide),d2,fun t2 ht2=>⟨d2,fun ls hls=>?_⟩⟩
      have s1:=same_upd (o:=.tup [.str "name", .str y]) ht1
      have s2:=same_upd (o:=.tup [.str "num", .int (c * 48271 % 2147483647 / 300 % 30)]) ht2
      have s3:=same_upd (o:=.lst [.ref t1,.ref t2]) hls
      have s123:=s1.trans (s2.trans s3)
      refine ⟨_,rfl,.inl ⟨rfl,_,SqL.of upd_same⟩,_,rfl,_,rfl,_,_,rfl,rfl,⟨by decide,by decide⟩,_,_,rfl,rfl,(show (0:Int) < 6 by decide),wl,_,_,_,rfl,rfl,SqL.of (s123 _ _ hwl),ez,d0,fun t0 ht0=>⟨d3,fun t3 ht3=>?_⟩⟩
      have s4:=same_upd (o:=.tup []) ht0
      have s5:=same_upd (o:=.tup [.str "gap", .str z,.ref t0]) ht3
      refine ⟨ls,_,_,rfl,rfl,s5 _ _ (s4 _ _ upd_same),(by show 2 < sizeLine; decide),?_⟩
      have e5:=s5 _ _ (s4 _ _ (upd_same (H:=upd (upd H t1 (.tup [.str "name", .str y])) t2 (.tup [.str "num", .int (c * 48271 % 2147483647 / 300 % 30)])) (a:=ls) (o:=.lst [.ref t1,.ref t2])))
      have f0:=s5 _ _ (upd_same (a:=t0) (o:=.tup []) (H:=upd (upd (upd H t1 (.tup [.str "name", .str y])) t2 (.tup [.str "num", .int (c * 48271 % 2147483647 / 300 % 30)])) ls (.lst [.ref t1,.ref t2])))
      have f3:=upd_same (a:=t3) (o:=.tup [.str "gap", .str z,.ref t0]) (H:=upd (upd (upd (upd H t1 (.tup [.str "name", .str y])) t2 (.tup [.str "num", .int (c * 48271 % 2147483647 / 300 % 30)])) ls (.lst [.ref t1,.ref t2])) t0 (.tup []))
      have f1:=s5 _ _ (s4 _ _ (s3 _ _ (s2 _ _ (upd_same (H:=H) (a:=t1) (o:=.tup [.str "name", .str y])))))
      have f2:=s5 _ _ (s4 _ _ (s3 _ _ (upd_same (a:=t2) (o:=.tup [.str "num", .int (c * 48271 % 2147483647 / 300 % 30)]) (H:=upd H t1 (.tup [.str "name", .str y])))))
      have gF:=(s1.trans s2).trans (same_set (o:=.lst ([.ref t1,.ref t2] ++ [.ref t3])) (s3.trans (s4.trans s5)) hls)
      have tk:=Tk.lst (o:=.lst ([.ref t1,.ref t2] ++ [.ref t3])) e5
      have eF : (upd (upd (upd (upd (upd (upd H t1 (.tup [.str "name", .str y])) t2 (.tup [.str "num", .int (c * 48271 % 2147483647 / 300 % 30)])) ls (.lst [.ref t1,.ref t2])) t0 (.tup [])) t3 (.tup [.str "gap", .str z,.ref t0])) ls (.lst ([.ref t1,.ref t2] ++ [.ref t3]))) ls = some (.lst ([.ref t1,.ref t2] ++ [.ref t3])):=upd_same
      generalize upd (upd (upd (upd (upd (upd H t1 (.tup [.str "name", .str y])) t2 (.tup [.str "num", .int (c * 48271 % 2147483647 / 300 % 30)])) ls (.lst [.ref t1,.ref t2])) t0 (.tup [])) t3 (.tup [.str "gap", .str z,.ref t0])) ls (.lst ([.ref t1,.ref t2] ++ [.ref t3])) = HF at gF tk eF ⊢
      obtain ⟨n,hn⟩ : ∃ n,c * 48271 % 2147483647 / 300 % 30 = n:=⟨_,rfl⟩
      have hn0 : 0 ≤ n:=by omega
      have hn1 : n < 30:=by omega
      have pr : Paired (AtRep HF) [Atom.name y,Atom.num n,Atom.gap z] [.ref t1,.ref t2,.ref t3]:=.cons ⟨t1,rfl,tk _ _ f1⟩ (.cons ⟨t2,rfl,by rw [← hn]; exact tk _ _ f2⟩ (.cons ⟨t3,t0,rfl,tk _ _ f3,tk _ _ f0⟩ .nil))
      refine ⟨_,rfl,_,rfl,_,rfl,_,_,rfl,rfl,⟨by decide,by decide⟩,_,_,rfl,rfl,(show (0:Int) < 2 by decide),_,rfl,ls,_,rfl,SqL.of eF,fun p1 hp1=>?_⟩
      refine ⟨_,rfl,_,_,rfl,rfl,⟨by decide,by decide⟩,_,_,rfl,rfl,(show (0:Int) < 4 by decide),_,rfl,p1,_,rfl,SqL.of upd_same,fun p2 hp2=>?_⟩
      refine ⟨p2,_,rfl,.inl ⟨SqL.of upd_same,fun tp htp=>⟨d3,fun p hp=>?_⟩⟩⟩
      rw [cut_back _ (c * 48271 % 2147483647 / 77 % 2) (by omega)] at hp2 htp hp ⊢
      rw [cut_front _ (c * 48271 % 2147483647 / 8 % 4) (by omega)] at htp hp ⊢
      generalize (c * 48271 % 2147483647 / 77 % 2).toNat = ia at hp1 hp2 htp hp ⊢
      generalize (c * 48271 % 2147483647 / 8 % 4).toNat = ib at hp2 htp hp ⊢
      have pr2:=paired_take ib (paired_drop ia pr)
      have hlu : (([V.ref t1,V.ref t2,V.ref t3].drop ia).take ib).length ≤ 3:=by rw [List.length_take,List.length_drop]; show min ib (3 - ia) ≤ 3; omega
      have gG:=(same_upd hp1).trans ((same_upd hp2).trans ((same_upd htp).trans (same_upd (o:=.tup [.str "gap", .str x,.ref tp]) hp)))
      have hmem : ∀ a ∈ ([Atom.name y,Atom.num n,Atom.gap z].drop ia).take ib,AOk a ∧ (txA a).length ≤ 9:=fun a ha=>by
        have ha':=List.mem_of_mem_drop (List.mem_of_mem_take ha)
        simp only [List.mem_cons,List.not_mem_nil,or_false] at ha'
        have hyl:=str_len y
        have hzl:=str_len z
        have hy8:=(hw y hy).hi
        have hz8:=(hw z hz).hi
        rcases ha' with rfl | rfl | rfl
        · exact ⟨hw y hy,by show y.cps.toList.length ≤ 9; omega⟩
        · refine ⟨num_ok hn0 (by omega),?_⟩
          obtain ⟨m,rfl⟩:=Int.eq_ofNat_of_zero_le hn0
          show (numT ((m:Nat) : Int)).cps.toList.length ≤ 9
          have h1 : (numT ((m:Nat) : Int)).cps.toList = (Nat.toDigits 10 m).map Char.toNat:=PySem.W.KIN.signs_num m
          have h2:=dig_len 1 m (by omega)
          rw [h1,List.length_map]
          omega
        · exact ⟨hw z hz,by show (63 :: z.cps.toList).length ≤ 9; rw [List.length_cons]; omega⟩
      have hla : (([Atom.name y,Atom.num n,Atom.gap z].drop ia).take ib).length ≤ 3:=by rw [List.length_take,List.length_drop]; show min ib (3 - ia) ≤ 3; omega
      refine q (.gap x (([Atom.name y,Atom.num n,Atom.gap z].drop ia).take ib)) _ _ (gF.trans gG) ⟨p,tp,_,rfl,upd_same,same_upd hp _ _ upd_same,Nat.le_trans hlu (by decide),Paired.mapP pr2 fun _ _ y=>y.mono gG.tk⟩ ⟨⟨hw x hx,fun a ha=>(hmem a ha).1,Nat.le_trans hla (by decide)⟩,Nat.le_refl _,Nat.zero_le _,?_⟩
      have hxl:=str_len x
      have hx8:=(hw x hx).hi
      have:=gap_len hmem
      show (63 :: (x.cps.toList ++ txAs (([Atom.name y,Atom.num n,Atom.gap z].drop ia).take ib))).length ≤ _
      rw [List.length_cons,List.length_append]
      omega
    · have c5' : ¬ c * 48271 % 2147483647 % 8 < 5:=fun z=>c5 (decide_eq_true z)
      obtain ⟨v,hv,e⟩:=atI_in (xs:=[V.str "ask", V.str "stop", V.str "name"]) (i:=c * 48271 % 2147483647 % 8 - 5) (by omega) (by show c * 48271 % 2147483647 % 8 - 5 < ((3:Nat) : Int); omega)
      refine ⟨d3,fun p1 hp1=>⟨_,rfl,_,_,rfl,rfl,(show (0:Int) < 8 by decide),_,_,rfl,rfl,p1,_,_,_,rfl,rfl,SqL.of upd_same,e,_,rfl,d2,fun p hp=>?_⟩⟩
      have hx8:=(hw x hx).hi
      have hxl:=str_len x
      have g:=(same_upd (o:=.lst [V.str "ask", V.str "stop", V.str "name"]) hp1).trans (same_upd (o:=.tup [v,V.str x]) hp)
      simp only [List.mem_cons,List.not_mem_nil,or_false] at hv
      rcases hv with rfl | rfl | rfl
      · refine q (.ask x) _ _ g ⟨p,rfl,upd_same⟩ ⟨hw x hx,Nat.zero_le _,Nat.le_refl _,?_⟩
        show (tx "(ask " ++ (x.cps.toList ++ [41])).length ≤ _
        rw [List.length_append,List.length_append,show (tx "(ask ").length = 5 by decide +kernel,List.length_singleton]
        omega
      · refine q (.stop x) _ _ g ⟨p,rfl,upd_same⟩ ⟨hw x hx,Nat.zero_le _,Nat.le_refl _,?_⟩
        show (tx "(stop " ++ (x.cps.toList ++ [41])).length ≤ _
        rw [List.length_append,List.length_append,show (tx "(stop ").length = 6 by decide +kernel,List.length_singleton]
        omega
      · refine q (.name x) _ _ g ⟨p,rfl,upd_same⟩ ⟨hw x hx,Nat.zero_le _,Nat.zero_le _,?_⟩
        show x.cps.toList.length ≤ _
        omega
end
end K08
namespace L2
open PySem
theorem cut_mid (xs:List V) (k:Int) (h1:1 ≤ k) (h2:k ≤ xs.length) : cutV xs (some 1) (some k) = (xs.drop 1).take (k.toNat - 1):=by
  unfold cutV
  have e1 : HT.sIx xs.length 0 (some 1) = 1:=by rw [show (1:Int) = ((1:Nat) : Int) from rfl,HT.sIx_nat]; omega
  have e2 : HT.sIx xs.length xs.length (some k) = k.toNat:=by rw [show k = ((k.toNat : Nat) : Int) by omega,HT.sIx_nat]; omega
  rw [e1,e2]
theorem ShOk.mono {t:Tr} {n d n' d':Nat} (h:ShOk t n d) (hn:n ≤ n') (hd:d ≤ d') : ShOk t n' d':=⟨h.ok,by have:=h.dp; omega,by have:=h.op; omega,by have:=h.ln; omega⟩
theorem say_len (a b:Tr) : (txT (.say (.bin .add a b))).length = (txT a).length + (txT b).length + 11:=by
  show (tx "(say " ++ ((40 :: (txT a ++ (tx (bwT .add) ++ (txT b ++ [41])))) ++ [41])).length = _
  simp only [List.length_append,List.length_cons,List.length_nil,bw_len,show (tx "(say ").length = 5 by decide +kernel]
  omega
theorem bin_len8 (o:Bin) (a b:Tr) : (txT (.bin o a b)).length = (txT a).length + (txT b).length + 5:=by
  show (40 :: (txT a ++ (tx (bwT o) ++ (txT b ++ [41])))).length = _
  simp only [List.length_append,List.length_cons,List.length_nil,bw_len]
  omega
theorem ite_len (a b:Tr) (g:Str) : (txT (.ite a (.gap g []) b)).length = (txT a).length + (txT b).length + g.length + 18:=by
  have:=str_len g
  show (tx "(if " ++ (txT a ++ (tx " then " ++ ((63 :: (g.cps.toList ++ [])) ++ (tx " else " ++ (txT b ++ [41])))))).length = _
  simp only [List.length_append,List.length_cons,List.length_nil,show (tx "(if ").length = 4 by decide +kernel,show (tx " then ").length = 6 by decide +kernel,show (tx " else ").length = 6 by decide +kernel]
  omega
theorem let_len (a b:Tr) (g:Str) : (txT (.lett g a b)).length = (txT a).length + (txT b).length + g.length + 13:=by
  have:=str_len g
  show (tx "(let " ++ (g.cps.toList ++ (tx " = " ++ (txT a ++ (tx " in " ++ (txT b ++ [41])))))).length = _
  simp only [List.length_append,List.length_cons,List.length_nil,show (tx "(let ").length = 5 by decide +kernel,show (tx " = ").length = 3 by decide +kernel,show (tx " in ").length = 4 by decide +kernel]
  omega
end L2
namespace K08
open PySem PySem.Spec L2 PyProof.Rows
section
variable {P:Program} {w:World} {K:PySem.W.Frag} {mg:Str → Option Value} {base:Heap}
def sp_shape8 (K:PySem.W.Frag) (n:Nat) : Sp:=fun vs H Q _=>∃ (a:Addr) (ns:List Int) (wl:Addr) (ws:List Str) (d:Int),vs = [.ref a,.ref wl,.int d] ∧ SqL K H a (ns.map V.int) ∧ H wl = some (.lst (ws.map V.str)) ∧ ws.length = 6 ∧ (∀ x ∈ ws,WOk x) ∧ 0 ≤ d ∧ d < n ∧ ∀ (t:Tr) (v:V) (H':Hp),Same H H' → Rep H' t v → ShOk t ns.length d.toNat → Q v H'
theorem ok_shape8 {k n:Nat} {f g1:Addr} {fd gd1:FuncData} (F:Fun K "_law_shape" "_law_shape" s_law_shape f fd) (z_len:mg "len" = none) (G_law_leaf:FnB P w K mg base k "_law_leaf" g1 gd1 ["_law_cell", "_law_words_here"] sp_leaf)
    (G_law_shape:FnB P w K mg base k "_law_shape" f fd ["_law_cells", "_law_words_here", "_law_deep"] (sp_shape8 K n)) : FnOk P w K mg base CX0 (k + 1) f fd ["_law_cells", "_law_words_here", "_law_deep"] (sp_shape8 K (n + 1)):=by
  refine F.ok sc_law_shape (fun vs H Q E h=>?_) (fun cdv A outer s H vs Q E hr h=>?_)
  · obtain ⟨a,ns,wl,ws,d,rfl,_⟩:=h
    rfl
  obtain ⟨a,ns,wl,ws,d,rfl,hS,hwl,h6,hw,hd0,hdn,q⟩:=h
  refine sealed ⟨_,(pss_consS (ps_ifS ⟨pt_cmpR op_eq (pe_callB call_len_seq (by rfl) z_len PySem.boot_len (pa_cons (pv 0) pa_nil)) pe_int (nomark _)⟩ (pss_oneS (ps_retS (pe_tupS (pa_cS ⟨pe_str⟩ (pa_consS (pe_ixS (r:=rIxL K) ix_list ⟨pv 1⟩ (pe_opS op_mod ⟨pv 2⟩ ⟨pe_int⟩) (fun _ _=>rfl)) (pa_consS (pe_tupS ⟨pa_nil⟩) ⟨pa_nil⟩)))))) ⟨pss_nil⟩)
    (pss_consS (ps_ifS ⟨(pw_or (pt_cmpR op_eq (pe_callB call_len_seq (by rfl) z_len PySem.boot_len (pa_cons (pv 0) pa_nil)) pe_int (nomark _)) (pw_or1 (pt_cmpR op_eq (pv 2) pe_int (nomark _)))).pt⟩ (pss_oneS (ps_retS ⟨pe_call G_law_leaf.ok hr (by rfl) G_law_leaf.gl G_law_leaf.kp G_law_leaf.bd .nil pass0 (pa_cons (pe_ix (r:=rIxL K) ix_list (pv 0) pe_int (fun _ _=>rfl)) (pa_cons (pv 1) pa_nil))⟩)) ⟨pss_nil⟩)
    (pss_consS (ps_setS (i:=3) sc_law_shape.nd rfl (Or.inl rfl) (pe_opS op_mod (pe_opS op_mul (pe_ixS (r:=rIxL K) ix_list ⟨pv 0⟩ ⟨pe_int⟩ (fun _ _=>rfl)) ⟨pe_int⟩) ⟨pe_int⟩))
    (pss_consS (ps_setS (i:=4) sc_law_shape.nd rfl (Or.inl rfl) (pe_opS op_add ⟨pe_int⟩ (pe_opS op_mod (pe_opS op_fdiv ⟨pv 3⟩ ⟨pe_int⟩) ⟨pe_callB call_len_seq (by rfl) z_len PySem.boot_len (pa_cons (pv 0) pa_nil)⟩)))
    (pss_consS (ps_setS (i:=5) sc_law_shape.nd rfl (Or.inl rfl) ⟨pe_call G_law_shape.ok hr (by rfl) G_law_shape.gl G_law_shape.kp G_law_shape.bd .nil pass0 (pa_cons (pe_slice (r:=rSlL K) sl_list (pv 0) (po_some pe_int) (po_some (pv 4))) (pa_cons (pv 1) (pa_cons (pe_op op_sub (pv 2) pe_int) pa_nil)))⟩)
    (pss_consS (ps_setS (i:=6) sc_law_shape.nd rfl (Or.inl rfl) ⟨pe_call G_law_shape.ok hr (by rfl) G_law_shape.gl G_law_shape.kp G_law_shape.bd .nil pass0 (pa_cons (pe_slice (r:=rSlL K) sl_list (pv 0) (po_some (pv 4)) po_none) (pa_cons (pv 1) (pa_cons (pe_op op_sub (pv 2) pe_int) pa_nil)))⟩)
    (pss_consS (ps_setS (i:=7) sc_law_shape.nd rfl (Or.inl rfl) (pe_ixS (r:=rIxL K) ix_list (pe_lstRS [.str "say", .str "add", .str "sub", .str "mul", .str "then", .str "if", .str "let", .str "let"] (by decide +kernel)) (pe_opS op_mod ⟨pv 3⟩ ⟨pe_int⟩) (fun _ _=>rfl)))
    (pss_consS (ps_ifS ⟨pt_cmpR op_eq (pv 7) pe_str (nomark _)⟩ (pss_oneS (ps_retS (pe_tupS (pa_cS ⟨pe_str⟩ (pa_consS (pe_tupS (pa_cS ⟨pe_str⟩ (pa_consS ⟨pv 5⟩ (pa_consS ⟨pv 6⟩ ⟨pa_nil⟩)))) ⟨pa_nil⟩))))) ⟨pss_nil⟩)
    (pss_consS (ps_ifS ⟨pt_cmpR op_eq (pv 7) pe_str (nomark _)⟩ (pss_oneS (ps_retS (pe_tupS (pa_cS ⟨pe_str⟩ (pa_consS ⟨pv 6⟩ (pa_consS (pe_tupS (pa_cS ⟨pe_str⟩ (pa_consS (pe_ixS (r:=rIxL K) ix_list ⟨pv 1⟩ (pe_opS op_mod (pe_opS op_fdiv ⟨pv 3⟩ ⟨pe_int⟩) ⟨pe_int⟩) (fun _ _=>rfl)) (pa_consS (pe_tupS ⟨pa_nil⟩) ⟨pa_nil⟩)))) (pa_consS ⟨pv 5⟩ ⟨pa_nil⟩))))))) ⟨pss_nil⟩)
    (pss_consS (ps_ifS ⟨pt_cmpR op_eq (pv 7) pe_str (nomark _)⟩ (pss_oneS (ps_retS (pe_tupS (pa_cS ⟨pe_str⟩ (pa_consS (pe_ixS (r:=rIxL K) ix_list ⟨pv 1⟩ (pe_opS op_mod (pe_opS op_fdiv ⟨pv 3⟩ ⟨pe_int⟩) ⟨pe_int⟩) (fun _ _=>rfl)) (pa_consS ⟨pv 5⟩ (pa_consS ⟨pv 6⟩ ⟨pa_nil⟩))))))) ⟨pss_nil⟩)
    (pss_oneS (ps_retS (pe_tupS (pa_consS ⟨pv 7⟩ (pa_consS ⟨pv 5⟩ (pa_consS ⟨pv 6⟩ ⟨pa_nil⟩)))))))))))))))),?_⟩
  have wat : ∀ m : Int,∃ x,x ∈ ws ∧ atI (ws.map V.str) (m % 6) = some (.str x):=fun m=>by
    obtain ⟨v,hv,e⟩:=atI_in (xs:=ws.map V.str) (i:=m % 6) (by omega) (by rw [List.length_map,h6]; omega)
    obtain ⟨x,hx,rfl⟩:=List.mem_map.mp hv
    exact ⟨x,hx,e⟩
  have d0 : 0 ≤ sizeLine:=by decide
  have d2 : 2 ≤ sizeLine:=by decide
  have d3 : 3 ≤ sizeLine:=by decide
  have d4 : 4 ≤ sizeLine:=by decide
  have lm : ((ns.map V.int).length : Int) = (ns.length : Int):=by rw [List.length_map]
  refine ⟨_,rfl,a,_,rfl,.inl hS,rfl,_,rfl,ite2 (fun c0=>?_) (fun c0=>?_)⟩
  · obtain ⟨x,hx,ex⟩:=wat d
    refine ⟨_,rfl,_,rfl,_,_,rfl,rfl,(show (0:Int) < 6 by decide),wl,_,_,_,rfl,rfl,SqL.of hwl,ex,d0,fun p0 hp0=>⟨d3,fun p hp=>?_⟩⟩
    have hx8:=(hw x hx).hi
    have hxl:=str_len x
    refine q (.gap x []) _ _ ((same_upd hp0).trans (same_upd hp)) ⟨p,p0,[],rfl,upd_same,same_upd hp _ _ upd_same,Nat.zero_le _,.nil⟩ ⟨⟨hw x hx,(fun a ha=>by cases ha),Nat.zero_le _⟩,Nat.zero_le _,Nat.zero_le _,?_⟩
    show (63 :: (x.cps.toList ++ [])).length ≤ _
    rw [List.length_cons,List.append_nil]
    omega
  · have c0' : ns.length ≠ 0:=fun z=>c0 (decide_eq_true (by rw [List.length_map,z]; rfl))
    obtain ⟨i0,ns',rfl⟩ : ∃ i0 ns',ns = i0 :: ns':=by
      cases ns with
      | nil=>exact absurd rfl c0'
      | cons i ns=>exact ⟨i,ns,rfl⟩
    have e0 : atI ((i0 :: ns').map V.int) 0 = some (.int i0):=atI_nat (j:=0) rfl
    refine ⟨_,rfl,a,_,rfl,.inl hS,rfl,_,rfl,ite2 (fun c1=>?_) (fun c1=>?_)⟩
    · exact iteT ⟨_,rfl,a,_,0,_,rfl,rfl,hS,e0,_,rfl,i0,wl,ws,rfl,hwl,h6,hw,fun t v H' g r sh=>q t v H' g r (sh.mono (by rw [List.length_cons]; omega) (Nat.zero_le _))⟩
    · refine ⟨_,rfl,rfl,_,rfl,ite2 (fun c2=>?_) (fun c2=>?_)⟩
      · exact ⟨_,rfl,a,_,0,_,rfl,rfl,hS,e0,_,rfl,i0,wl,ws,rfl,hwl,h6,hw,fun t v H' g r sh=>q t v H' g r (sh.mono (by rw [List.length_cons]; omega) (Nat.zero_le _))⟩
      · have hd1 : 1 ≤ d:=by
          have : d ≠ 0:=fun z=>c2 (decide_eq_true (congrArg V.int z))
          omega
        obtain ⟨L,hL⟩ : ∃ L : Nat,L = (i0 :: ns').length:=⟨_,rfl⟩
        have hL1 : 1 ≤ L:=by rw [hL,List.length_cons]; omega
        refine ⟨_,rfl,a,_,0,_,rfl,rfl,hS,e0,_,_,rfl,rfl,.inr ⟨by decide,by decide⟩,_,_,rfl,rfl,(show (0:Int) < 2147483647 by decide),?_⟩
        refine ⟨_,rfl,_,_,rfl,rfl,⟨by decide,by decide⟩,_,rfl,a,_,rfl,.inl hS,_,_,rfl,rfl,(by rw [lm,← hL]; omega),_,_,rfl,rfl,?_⟩
        obtain ⟨N,hN⟩ : ∃ N,i0 * 69621 % 2147483647 = N:=⟨_,rfl⟩
        obtain ⟨at_,hat,ha1,haL⟩ : ∃ at_ : Int,1 + i0 * 69621 % 2147483647 / 8 % (((i0 :: ns').map V.int).length : Int) = at_ ∧ 1 ≤ at_ ∧ at_ ≤ L:=by
          refine ⟨_,rfl,?_,?_⟩
          · have:=Int.emod_nonneg (i0 * 69621 % 2147483647 / 8) (show (((i0 :: ns').map V.int).length : Int) ≠ 0 by rw [lm,← hL]; omega)
            omega
          · have:=Int.emod_lt_of_pos (i0 * 69621 % 2147483647 / 8) (show (0:Int) < (((i0 :: ns').map V.int).length : Int) by rw [lm,← hL]; omega)
            rw [lm,← hL] at this
            rw [lm,← hL]
            omega
        have hlen : ((i0 :: ns').map V.int).length = L:=by rw [List.length_map,hL]
        have c1e : cutV ((i0 :: ns').map V.int) (some 1) (some at_) = (((i0 :: ns').drop 1).take (at_.toNat - 1)).map V.int:=by rw [cut_mid _ at_ ha1 (by rw [hlen]; exact haL)]; simp only [List.map_take,List.map_drop]
        have c2e : cutV ((i0 :: ns').map V.int) (some at_) none = ((i0 :: ns').drop at_.toNat).map V.int:=by rw [cut_back _ at_ (by omega)]; simp only [List.map_drop]
        have hsum : (((i0 :: ns').drop 1).take (at_.toNat - 1)).length + ((i0 :: ns').drop at_.toNat).length + 1 = L:=by
          rw [List.length_take,List.length_drop,List.length_drop,← hL]
          omega
        have ex1 : ∀ {Z:Prop},Z → Z:=fun z=>z
        refine ⟨_,rfl,1,rfl,_,rfl,at_,congrArg V.int hat,a,_,rfl,hS,fun p1 hp1=>⟨_,rfl,_,rfl,_,_,rfl,rfl,p1,_,wl,ws,d - 1,rfl,SqL.of (by rw [upd_same]; exact congrArg (fun z=>some (HO.lst z)) c1e),same_upd hp1 _ _ hwl,h6,hw,by omega,by omega,fun t1 v1 H1 g1 r1 sh1=>?_⟩⟩
        have gg1:=(same_upd hp1).trans g1
        refine ⟨_,rfl,_,rfl,at_,congrArg V.int hat,a,_,rfl,gg1.seq hS,fun p2 hp2=>⟨_,rfl,_,rfl,_,_,rfl,rfl,p2,_,wl,ws,d - 1,rfl,SqL.of (by rw [upd_same]; exact congrArg (fun z=>some (HO.lst z)) c2e),same_upd hp2 _ _ (gg1 _ _ hwl),h6,hw,by omega,by omega,fun t2 v2 H2 g2 r2 sh2=>?_⟩⟩
        have g12:=(same_upd hp2).trans g2
        have gg2:=gg1.trans g12
        have r1':=r1.mono g12.tk
        have a1:=sh1.ln
        have a2:=sh2.ln
        have b1:=sh1.dp
        have b2:=sh2.dp
        have o1:=sh1.op
        have o2:=sh2.op
        have hdd : (d - 1).toNat + 1 = d.toNat:=by omega
        refine ⟨(by show 8 ≤ sizeLine; decide),fun p3 hp3=>?_⟩
        obtain ⟨sg,hsg,e8⟩:=atI_in (xs:=[V.str "say", V.str "add", V.str "sub", V.str "mul", V.str "then", V.str "if", V.str "let", V.str "let"]) (i:=i0 * 69621 % 2147483647 % 8) (by omega) (by show i0 * 69621 % 2147483647 % 8 < ((8:Nat) : Int); omega)
        refine ⟨_,rfl,_,_,rfl,rfl,(show (0:Int) < 8 by decide),p3,_,_,_,rfl,rfl,SqL.of upd_same,e8,?_⟩
        have s3:=same_upd (o:=.lst [V.str "say", V.str "add", V.str "sub", V.str "mul", V.str "then", V.str "if", V.str "let", V.str "let"]) hp3
        have gg3:=gg2.trans s3
        have q1:=r1'.mono s3.tk
        have q2:=r2.mono s3.tk
        have hw3:=gg3 _ _ hwl
        generalize upd H2 p3 (.lst [V.str "say", V.str "add", V.str "sub", V.str "mul", V.str "then", V.str "if", V.str "let", V.str "let"]) = H3 at s3 gg3 q1 q2 hw3 ⊢
        obtain ⟨x,hx,ex⟩:=wat (i0 * 69621 % 2147483647 / 64)
        have hx8:=(hw x hx).hi
        simp only [List.mem_cons,List.not_mem_nil,or_false] at hsg
        rcases hsg with rfl | rfl | rfl | rfl | rfl | rfl | rfl | rfl
        · refine ⟨_,rfl,rfl,_,rfl,iteT ⟨_,rfl,_,rfl,d3,fun p4 hp4=>⟨d2,fun p hp=>?_⟩⟩⟩
          have g4:=same_upd (o:=.tup [.str "add", v1,v2]) hp4
          have g5:=same_upd (o:=.tup [.str "say", .ref p4]) hp
          have tk:=g4.tk.trans g5.tk
          refine q (.say (.bin .add t1 t2)) _ _ (gg3.trans (g4.trans g5)) ⟨p,.ref p4,rfl,upd_same,p4,v1,v2,rfl,g5 _ _ upd_same,q1.mono tk,q2.mono tk⟩ ⟨⟨sh1.ok,sh2.ok⟩,?_,?_,?_⟩
          · show max (dpT t1) (dpT t2) + 1 + 1 ≤ _
            omega
          · show max (opT t1) (opT t2) + 1 + 1 ≤ _
            omega
          · rw [say_len,← hL]
            omega
        · refine ⟨_,rfl,rfl,_,rfl,iteF ⟨_,rfl,rfl,_,rfl,iteF ⟨_,rfl,rfl,_,rfl,iteF ⟨_,rfl,_,rfl,_,rfl,d3,fun p hp=>?_⟩⟩⟩⟩
          refine q (.bin .add t1 t2) _ _ (gg3.trans (same_upd hp)) ⟨p,v1,v2,rfl,upd_same,q1.mono (same_upd hp).tk,q2.mono (same_upd hp).tk⟩ ⟨⟨sh1.ok,sh2.ok⟩,?_,?_,?_⟩
          · show max (dpT t1) (dpT t2) + 1 ≤ _
            omega
          · show max (opT t1) (opT t2) + 1 ≤ _
            omega
          · rw [bin_len8,← hL]
            omega
        · refine ⟨_,rfl,rfl,_,rfl,iteF ⟨_,rfl,rfl,_,rfl,iteF ⟨_,rfl,rfl,_,rfl,iteF ⟨_,rfl,_,rfl,_,rfl,d3,fun p hp=>?_⟩⟩⟩⟩
          refine q (.bin .sub t1 t2) _ _ (gg3.trans (same_upd hp)) ⟨p,v1,v2,rfl,upd_same,q1.mono (same_upd hp).tk,q2.mono (same_upd hp).tk⟩ ⟨⟨sh1.ok,sh2.ok⟩,?_,?_,?_⟩
          · show max (dpT t1) (dpT t2) + 1 ≤ _
            omega
          · show max (opT t1) (opT t2) + 1 ≤ _
            omega
          · rw [bin_len8,← hL]
            omega
        · refine ⟨_,rfl,rfl,_,rfl,iteF ⟨_,rfl,rfl,_,rfl,iteF ⟨_,rfl,rfl,_,rfl,iteF ⟨_,rfl,_,rfl,_,rfl,d3,fun p hp=>?_⟩⟩⟩⟩
          refine q (.bin .mul t1 t2) _ _ (gg3.trans (same_upd hp)) ⟨p,v1,v2,rfl,upd_same,q1.mono (same_upd hp).tk,q2.mono (same_upd hp).tk⟩ ⟨⟨sh1.ok,sh2.ok⟩,?_,?_,?_⟩
          · show max (dpT t1) (dpT t2) + 1 ≤ _
            omega
          · show max (opT t1) (opT t2) + 1 ≤ _
            omega
          · rw [bin_len8,← hL]
            omega
        · refine ⟨_,rfl,rfl,_,rfl,iteF ⟨_,rfl,rfl,_,rfl,iteF ⟨_,rfl,rfl,_,rfl,iteF ⟨_,rfl,_,rfl,_,rfl,d3,fun p hp=>?_⟩⟩⟩⟩
          refine q (.bin .thn t1 t2) _ _ (gg3.trans (same_upd hp)) ⟨p,v1,v2,rfl,upd_same,q1.mono (same_upd hp).tk,q2.mono (same_upd hp).tk⟩ ⟨⟨sh1.ok,sh2.ok⟩,?_,?_,?_⟩
          · show max (dpT t1) (dpT t2) + 1 ≤ _
            omega
          · show max (opT t1) (opT t2) + 1 ≤ _
            omega
          · rw [bin_len8,← hL]
            omega
        · refine ⟨_,rfl,rfl,_,rfl,iteF ⟨_,rfl,rfl,_,rfl,iteT ⟨_,rfl,_,rfl,_,rfl,_,_,rfl,rfl,⟨by decide,by decide⟩,_,_,rfl,rfl,(show (0:Int) < 6 by decide),wl,_,_,_,rfl,rfl,SqL.of hw3,ex,d0,fun p0 hp0=>⟨d3,fun p4 hp4=>⟨_,rfl,d4,fun p hp=>?_⟩⟩⟩⟩⟩
          have g0:=same_upd (o:=.tup []) hp0
          have g4:=same_upd (o:=.tup [.str "gap", .str x,.ref p0]) hp4
          have g5:=same_upd (o:=.tup [.str "if", v2,.ref p4,v1]) hp
          have tk:=g0.tk.trans (g4.tk.trans g5.tk)
          refine q (.ite t2 (.gap x []) t1) _ _ (gg3.trans (g0.trans (g4.trans g5))) ⟨p,v2,.ref p4,v1,rfl,upd_same,q2.mono tk,⟨p4,p0,[],rfl,g5 _ _ upd_same,g5 _ _ (g4 _ _ upd_same),Nat.zero_le _,.nil⟩,q1.mono tk⟩ ⟨⟨sh2.ok,⟨hw x hx,(fun a ha=>by cases ha),Nat.zero_le _⟩,sh1.ok⟩,?_,?_,?_⟩
          · show max (dpT t2) (max 0 (dpT t1)) + 1 ≤ _
            omega
          · show max (opT t2) (max 0 (opT t1)) + 1 ≤ _
            omega
          · rw [ite_len,← hL]
            omega
        · refine ⟨_,rfl,rfl,_,rfl,iteF ⟨_,rfl,rfl,_,rfl,iteF ⟨_,rfl,rfl,_,rfl,iteT ⟨_,rfl,_,rfl,_,_,rfl,rfl,⟨by decide,by decide⟩,_,_,rfl,rfl,(show (0:Int) < 6 by decide),wl,_,_,_,rfl,rfl,SqL.of hw3,ex,_,rfl,_,rfl,d4,fun p hp=>?_⟩⟩⟩⟩
          refine q (.lett x t1 t2) _ _ (gg3.trans (same_upd hp)) ⟨p,v1,v2,rfl,upd_same,q1.mono (same_upd hp).tk,q2.mono (same_upd hp).tk⟩ ⟨⟨hw x hx,sh1.ok,sh2.ok⟩,?_,?_,?_⟩
          · show max (dpT t1) (dpT t2) + 1 ≤ _
            omega
          · show max (opT t1) (opT t2) + 1 ≤ _
            omega
          · rw [let_len,← hL]
            omega
        · refine ⟨_,rfl,rfl,_,rfl,iteF ⟨_,rfl,rfl,_,rfl,iteF ⟨_,rfl,rfl,_,rfl,iteT ⟨_,rfl,_,rfl,_,_,rfl,rfl,⟨by decide,by decide⟩,_,_,rfl,rfl,(show (0:Int) < 6 by decide),wl,_,_,_,rfl,rfl,SqL.of hw3,ex,_,rfl,_,rfl,d4,fun p hp=>?_⟩⟩⟩⟩
          refine q (.lett x t1 t2) _ _ (gg3.trans (same_upd hp)) ⟨p,v1,v2,rfl,upd_same,q1.mono (same_upd hp).tk,q2.mono (same_upd hp).tk⟩ ⟨⟨hw x hx,sh1.ok,sh2.ok⟩,?_,?_,?_⟩
          · show max (dpT t1) (dpT t2) + 1 ≤ _
            omega
          · show max (opT t1) (opT t2) + 1 ≤ _
            omega
          · rw [let_len,← hL]
            omega
theorem no_shape8 {k:Nat} {f:Addr} {fd:FuncData} : FnOk P w K mg base CX0 k f fd ["_law_cells", "_law_words_here", "_law_deep"] (sp_shape8 K 0):=by
  have no : ∀ vs H Q E,¬ sp_shape8 K 0 vs H Q E:=fun vs H Q E h=>by
    obtain ⟨a,ns,wl,ws,d,_,_,_,_,_,h0,h1,_⟩:=h
    omega
  exact ⟨fun vs H Q E h=>absurd h (no vs H Q E),fun A outer s H args us vs Q E _ _ _ _ h=>absurd h (no vs H Q E)⟩
theorem all_shape8 {k:Nat} {f g1:Addr} {fd gd1:FuncData} (F:Fun K "_law_shape" "_law_shape" s_law_shape f fd) (b:Binds K fd ["_law_cells", "_law_words_here", "_law_deep"] []) (m:mg "_law_shape" = some (.ref f)) (z_len:mg "len" = none) (G_law_leaf:FnB P w K mg base k "_law_leaf" g1 gd1 ["_law_cell", "_law_words_here"] sp_leaf) :
    ∀ n : Nat,FnB P w K mg base (k + n) "_law_shape" f fd ["_law_cells", "_law_words_here", "_law_deep"] (sp_shape8 K n)
  | 0=>⟨no_shape8,b,F.kp,m⟩
  | n + 1=>⟨ok_shape8 F z_len (G_law_leaf.up (Nat.le_add_right _ _)) (all_shape8 F b m z_len G_law_leaf n),b,F.kp,m⟩
end
end K08
namespace K08
open PySem PySem.Spec L2 PyProof.Rows
abbrev s_law_leaf_written : Stmt:=top 45
theorem sc_law_leaf_written : FnScope ["_law_tree"] ["_law_tree"] (defScope s_law_leaf_written):=⟨rfl,rfl,rfl,by decide +kernel,rfl,by decide +kernel,by decide +kernel⟩
section
variable {P:Program} {w:World} {K:PySem.W.Frag} {mg:Str → Option Value} {base:Heap}
theorem atTr_leaf (a:Atom) : leafB (atTr a) = true:=by cases a <;> rfl
def sp_lwr (n:Nat) : Sp:=fun vs H Q _=>∃ (t:Tr) (v:V),vs = [v] ∧ Rep H t v ∧ TOk t ∧ leafB t = true ∧ gdT t < n ∧ ∀ H',Same H H' → Q (.str (sOf (txT t))) H'
theorem ok_lwr {k n:Nat} {f:Addr} {fd:FuncData} (F:Fun K "_law_leaf_written" "_law_leaf_written" s_law_leaf_written f fd) (z_str:mg "str" = none) (G_law_leaf_written:FnB P w K mg base k "_law_leaf_written" f fd ["_law_tree"] (sp_lwr n)) : FnOk P w K mg base CX0 (k + 1) f fd ["_law_tree"] (sp_lwr (n + 1)):=by
  refine F.ok sc_law_leaf_written (fun vs H Q E h=>?_) (fun cdv A outer s H vs Q E hr h=>?_)
  · obtain ⟨t,v,rfl,_⟩:=h
    rfl
  obtain ⟨t,v,rfl,hR,ok,hl,hn,q⟩:=h
  have hu0:=Nat.lt_of_succ_lt (hu_of hr)
  refine ⟨_,(pss_cons (ps_if (pt_cmpR op_eq (pe_ix (r:=rIxT K) ix_tup (pv 0) pe_int (fun _ _=>rfl)) pe_str (nomark _)) (pss_one (ps_ret (pe_callTy call_str1 (by rfl) z_str PyProof.Rows.boot_str (pa_cons (pe_ix (r:=rIxT K) ix_tup (pv 0) pe_int (fun _ _=>rfl)) pa_nil)))) pss_nil)
    (pss_cons (ps_if (pt_cmpR op_eq (pe_ix (r:=rIxT K) ix_tup (pv 0) pe_int (fun _ _=>rfl)) pe_str (nomark _)) (pss_one (ps_ret (pe_ix (r:=rIxT K) ix_tup (pv 0) pe_int (fun _ _=>rfl)))) pss_nil)
    (pss_cons (ps_if (pw_and (pt_cmpR op_eq (pe_ix (r:=rIxT K) ix_tup (pv 0) pe_int (fun _ _=>rfl)) pe_str (nomark _)) (pw_and1 (pt_cmpR (op_eqE hu0) (pe_ix (r:=rIxT K) ix_tup (pv 0) pe_int (fun _ _=>rfl)) (pe_tup pa_nil:PE _ _ _) (nomark _)))).pt (pss_one (ps_ret (pe_op op_add_str pe_str (pe_ix (r:=rIxT K) ix_tup (pv 0) pe_int (fun _ _=>rfl))))) pss_nil)
    (pss_cons (ps_if (pt_cmpR op_eq (pe_ix (r:=rIxT K) ix_tup (pv 0) pe_int (fun _ _=>rfl)) pe_str (nomark _)) (pss_one (ps_ret (pe_op op_add_str (pe_op op_add_str (pe_op op_add_str (pe_op op_add_str pe_str (pe_ix (r:=rIxT K) ix_tup (pv 0) pe_int (fun _ _=>rfl))) pe_str) (pe_bm PySem.F.plainAttrs_str PySem.F.slot_str_join PySem.F.type_str_join mt_join pe_str (pa_cons (pe_compB ["_law_atom"] [none] rfl (pi_tup (pe_ix (r:=rIxT K) ix_tup (pv 0) pe_int (fun _ _=>rfl))) (fun _ _ _ _ _=>(pg_name (i:=0) (show List.Nodup (["_law_atom"] : List Str) by decide +kernel) rfl (Or.inl rfl))) (fun _ _ _ _ _=>pts_nil) (fun _ _ _ _ _=>(pe_call G_law_leaf_written.ok hr (by rfl) G_law_leaf_written.gl G_law_leaf_written.kp G_law_leaf_written.bd .nil pass0 (pa_cons (pv 0) pa_nil))) rfl) pa_nil))) pe_str))) pss_nil)
    (pss_one (ps_ret (pe_op op_add_str (pe_op op_add_str (pe_op op_add_str (pe_op op_add_str pe_str (pe_ix (r:=rIxT K) ix_tup (pv 0) pe_int (fun _ _=>rfl))) pe_str) (pe_ix (r:=rIxT K) ix_tup (pv 0) pe_int (fun _ _=>rfl))) pe_str))))))),?_⟩
  have d0 : 0 ≤ sizeLine:=by decide
  cases t with
  | num n =>
    obtain ⟨p,rfl,hp⟩:=hR
    refine ⟨_,rfl,p,_,0,_,rfl,rfl,SqT.of hp,rfl,rfl,_,rfl,iteT ?_⟩
    refine ⟨_,rfl,p,_,1,_,rfl,rfl,SqT.of hp,rfl,.inr ⟨n,rfl,NOk.sm ok,?_⟩⟩
    show Q (.str (numT n)) _
    rw [sOf_eq (x:=numT n) rfl]
    exact q _ (.refl _)
  | name x =>
    obtain ⟨p,rfl,hp⟩:=hR
    refine ⟨_,rfl,p,_,0,_,rfl,rfl,SqT.of hp,rfl,rfl,_,rfl,iteF ?_⟩
    refine ⟨_,rfl,p,_,0,_,rfl,rfl,SqT.of hp,rfl,rfl,_,rfl,iteT ?_⟩
    refine ⟨_,rfl,p,_,1,_,rfl,rfl,SqT.of hp,rfl,?_⟩
    rw [sOf_eq (x:=x) rfl]
    exact q _ (.refl _)
  | ask x =>
    obtain ⟨p,rfl,hp⟩:=hR
    have h8:=WOk.hi ok
    refine ⟨_,rfl,p,_,0,_,rfl,rfl,SqT.of hp,rfl,rfl,_,rfl,iteF ?_⟩
    refine ⟨_,rfl,p,_,0,_,rfl,rfl,SqT.of hp,rfl,rfl,_,rfl,iteF ?_⟩
    refine ⟨_,rfl,p,_,0,_,rfl,rfl,SqT.of hp,rfl,rfl,_,rfl,iteF (iteF ?_)⟩
    refine ⟨_,rfl,p,_,0,_,rfl,rfl,SqT.of hp,rfl,rfl,_,rfl,iteF ?_⟩
    refine ⟨_,rfl,p,_,0,_,rfl,rfl,SqT.of hp,rfl,_,_,rfl,rfl,line1000 (by decide +kernel),_,_,rfl,rfl,line1000 (by decide +kernel),_,rfl,p,_,1,_,rfl,rfl,SqT.of hp,rfl,_,_,rfl,rfl,line_of ?_,_,_,rfl,rfl,line_of ?_,?_⟩
    · rw [show (Str.ofString "(" ++ Str.ofString "ask" ++ Str.ofString " ").length = 5 by decide +kernel]; omega
    · rw [show (Str.ofString "(" ++ Str.ofString "ask" ++ Str.ofString " " ++ x).length = 5 + x.length by rw [strLen_append]; rw [show (Str.ofString "(" ++ Str.ofString "ask" ++ Str.ofString " ").length = 5 by decide +kernel],par_list.2.2.2]; omega
    rw [sOf_eq (x:=Str.ofString "(" ++ Str.ofString "ask" ++ Str.ofString " " ++ x ++ Str.ofString ")") (l:=txT (.ask x)) (by rw [app_list,app_list,show (Str.ofString "(" ++ Str.ofString "ask" ++ Str.ofString " ").cps.toList = tx "(ask " by decide +kernel,par_list.2.1]; simp [txT])]
    exact q _ (.refl _)
  | stop x =>
    obtain ⟨p,rfl,hp⟩:=hR
    have h8:=WOk.hi ok
    refine ⟨_,rfl,p,_,0,_,rfl,rfl,SqT.of hp,rfl,rfl,_,rfl,iteF ?_⟩
    refine ⟨_,rfl,p,_,0,_,rfl,rfl,SqT.of hp,rfl,rfl,_,rfl,iteF ?_⟩
    refine ⟨_,rfl,p,_,0,_,rfl,rfl,SqT.of hp,rfl,rfl,_,rfl,iteF (iteF ?_)⟩
    refine ⟨_,rfl,p,_,0,_,rfl,rfl,SqT.of hp,rfl,rfl,_,rfl,iteF ?_⟩
    refine ⟨_,rfl,p,_,0,_,rfl,rfl,SqT.of hp,rfl,_,_,rfl,rfl,line1000 (by decide +kernel),_,_,rfl,rfl,line1000 (by decide +kernel),_,rfl,p,_,1,_,rfl,rfl,SqT.of hp,rfl,_,_,rfl,rfl,line_of ?_,_,_,rfl,rfl,line_of ?_,?_⟩
    · rw [show (Str.ofString "(" ++ Str.ofString "stop" ++ Str.ofString " ").length = 6 by decide +kernel]; omega
    · rw [show (Str.ofString "(" ++ Str.ofString "stop" ++ Str.ofString " " ++ x).length = 6 + x.length by rw [strLen_append]; rw [show (Str.ofString "(" ++ Str.ofString "stop" ++ Str.ofString " ").length = 6 by decide +kernel],par_list.2.2.2]; omega
    rw [sOf_eq (x:=Str.ofString "(" ++ Str.ofString "stop" ++ Str.ofString " " ++ x ++ Str.ofString ")") (l:=txT (.stop x)) (by rw [app_list,app_list,show (Str.ofString "(" ++ Str.ofString "stop" ++ Str.ofString " ").cps.toList = tx "(stop " by decide +kernel,par_list.2.1]; simp [txT])]
    exact q _ (.refl _)
  | gap g as =>
    obtain ⟨p,b,us,rfl,hp,hb,h900,hus⟩:=hR
    have h8:=WOk.hi ok.1
    have lg:=str_len g
    have lu : us.length = as.length:=paired_len hus
    refine ⟨_,rfl,p,_,0,_,rfl,rfl,SqT.of hp,rfl,rfl,_,rfl,iteF ?_⟩
    refine ⟨_,rfl,p,_,0,_,rfl,rfl,SqT.of hp,rfl,rfl,_,rfl,iteF ?_⟩
    refine ⟨_,rfl,p,_,0,_,rfl,rfl,SqT.of hp,rfl,rfl,_,rfl,iteT ?_⟩
    refine ⟨_,rfl,p,_,2,_,rfl,rfl,SqT.of hp,rfl,d0,fun pe hpe=>?_⟩
    have g0:=same_upd (o:=.tup []) hpe
    refine ⟨b,pe,_,rfl,rfl,g0 _ _ hb,upd_same,_,rfl,?_⟩
    generalize upd H pe (.tup []) = H0 at g0 ⊢
    have hp0:=g0 _ _ hp
    have hb0:=g0 _ _ hb
    have e0 : Str.ofString "?" ++ g = sOf (63 :: g.cps.toList):=sOf_eq (by rw [app_list,q_list]; rfl)
    cases as with
    | nil =>
      cases us with
      | cons _ _=>cases lu
      | nil =>
        refine iteT ⟨_,rfl,p,_,1,_,rfl,rfl,SqT.of hp0,rfl,_,_,rfl,rfl,line_of (by rw [q_len]; omega),?_⟩
        rw [e0]
        have:=q H0 g0
        rwa [show txT (.gap g []) = 63 :: g.cps.toList by simp [txT,txAs]] at this
    | cons a as =>
      cases us with
      | nil=>cases lu
      | cons u us =>
        have hn1 : 1 < n + 1:=hn
        refine iteF ?_
        refine ⟨_,rfl,p,_,0,_,rfl,rfl,SqT.of hp0,rfl,rfl,_,rfl,iteT ?_⟩
        refine ⟨_,rfl,p,_,1,_,rfl,rfl,SqT.of hp0,rfl,_,_,rfl,rfl,line_of (by rw [q_len]; omega),?_⟩
        rw [e0,str_tx "[", str_tx "]"]
        have b1 : (tx "[") = [91]:=by decide +kernel
        have b2 : (tx "]") = [93]:=by decide +kernel
        refine ⟨_,_,rfl,rfl,line_of (by rw [b1,sOf_len,sOf_len]; simp only [List.length_cons,List.length_nil]; omega),?_⟩
        rw [sOf_app]
        refine ⟨rfl,_,rfl,p,_,2,_,rfl,rfl,SqT.of hp0,rfl,b,rfl,⟨_,SqT.of hb0⟩,fun acc hacc=>?_⟩
        refine comp_tupR (xs:=u :: us) (fun i H'=>Same H0 H' ∧ H' acc = some (.lst ((((a :: as).take i).map fun a=>sOf (txA a)).map V.str))) ⟨same_upd hacc,upd_same⟩ (fun i H' _ h=>SqT.of (h.1 _ _ hb0)) ?_ ?_
        · rintro i x H1 hx ⟨g1,ea⟩
          obtain ⟨ai,eai,rai⟩:=paired_get hus hx
          have hil : i < (a :: as).length:=(List.getElem?_eq_some_iff.mp eai).1
          have oka:=ok.2.1 ai (List.mem_of_getElem? eai)
          refine ⟨.skip .nil,?_⟩
          refine ⟨_,rfl,atTr ai,x,rfl,atTr_rep (rai.mono (g0.trans g1).tk),atTr_ok oka,atTr_leaf ai,by rw [gdT_at]; omega,fun H2 g2=>?_⟩
          refine ⟨_,g2 _ _ ea,line_lt (by have:=ok.2.2; rw [List.length_map,List.length_map,List.length_take]; omega),same_set (g1.trans g2) hacc,?_⟩
          rw [upd_same,take_next eai,List.map_append,List.map_append,atTr_txt]
          rfl
        · rintro H1 ⟨g1,ea⟩
          have et : (a :: as).take (u :: us).length = a :: as:=List.take_of_length_le (by omega)
          rw [et] at ea
          have hm:=more_len (as:=as) fun x hx=>ok.2.1 x (List.mem_cons_of_mem _ hx)
          have ha:=atx_len (ok.2.1 a List.mem_cons_self)
          have hl:=ok.2.2
          rw [List.length_cons] at hl
          have e1 : Txt.join (Str.ofString " ") ((a :: as).map fun a=>sOf (txA a)) = sOf (txA a ++ moreA as):=by
            rw [List.map_cons,join_blank,sOf_list,flat_more]
          refine ⟨_,acc,_,rfl,rfl,ea,(by show 1 ≤ 16; decide),?_,?_⟩
          · rw [List.map_cons,List.map_cons,List.sum_cons,List.length_cons,List.length_map,sOf_len,List.map_map]
            have:=sum_atx (as:=as) fun x hx=>ok.2.1 x (List.mem_cons_of_mem _ hx)
            omega
          rw [e1]
          refine ⟨_,_,rfl,rfl,line_of (by rw [b1,sOf_len,sOf_len]; simp only [List.length_append,List.length_cons,List.length_nil]; omega),?_⟩
          rw [sOf_app]
          refine ⟨_,_,rfl,rfl,line_of (by rw [b1,b2,sOf_len,sOf_len]; simp only [List.length_append,List.length_cons,List.length_nil]; omega),?_⟩
          rw [sOf_app]
          have:=q H1 (g0.trans g1)
          rwa [show txT (.gap g (a :: as)) = 63 :: g.cps.toList ++ tx "[" ++ (txA a ++ moreA as) ++ tx "]" by simp [txT,txAs,b1,b2]] at this
  | _=>cases hl
theorem no_lwr {k:Nat} {f:Addr} {fd:FuncData} : FnOk P w K mg base CX0 k f fd ["_law_tree"] (sp_lwr 0):=by
  have no : ∀ vs H Q E,¬ sp_lwr 0 vs H Q E:=fun vs H Q E h=>by
    obtain ⟨t,v,_,_,_,_,h1,_⟩:=h
    omega
  exact ⟨fun vs H Q E h=>absurd h (no vs H Q E),fun A outer s H args us vs Q E _ _ _ _ h=>absurd h (no vs H Q E)⟩
theorem all_lwr {k:Nat} {f:Addr} {fd:FuncData} (F:Fun K "_law_leaf_written" "_law_leaf_written" s_law_leaf_written f fd) (b:Binds K fd ["_law_tree"] []) (m:mg "_law_leaf_written" = some (.ref f)) (z_str:mg "str" = none) : ∀ n : Nat,FnB P w K mg base (k + n) "_law_leaf_written" f fd ["_law_tree"] (sp_lwr n)
  | 0=>⟨no_lwr,b,F.kp,m⟩
  | n + 1=>⟨ok_lwr F z_str (all_lwr F b m z_str n),b,F.kp,m⟩
end
end K08
namespace L2
open PySem
def plainB : Tr → Bool
  | .say _=>false
  | .ite _ _ _=>false
  | .lett _ _ _=>false
  | _=>true
def sgT : Bin → String
  | .add => "+"
  | .sub => "-"
  | .mul => "*"
  | .thn => ";"
theorem leaf_no {o:Bin} {k:Kd} (h:o.s = k.s) : k = o.kd:=by
  cases o <;> cases k <;> first | rfl | exact absurd h (by decide +kernel)
theorem kd_no : ∀ k : Kd,k ≠ .say → k ≠ .lett → k ≠ .ite → k.s ≠ Str.ofString "say" ∧ k.s ≠ Str.ofString "let" ∧ k.s ≠ Str.ofString "if" := by
  intro k h1 h2 h3
  cases k <;> first | exact absurd rfl h1 | exact absurd rfl h2 | exact absurd rfl h3 | decide +kernel
theorem plain_no {t:Tr} (h:plainB t = true) : t.sign ≠ Str.ofString "say" ∧ t.sign ≠ Str.ofString "let" ∧ t.sign ≠ Str.ofString "if" := by
  refine kd_no t.kd ?_ ?_ ?_ <;> (intro z; cases t with
    | say a=>cases h
    | ite a b c=>cases h
    | lett x a b=>cases h
    | bin o a b=>cases o <;> cases z
    | _=>cases z)
theorem not_bin {t:Tr} {o:Bin} (hb:plainB t = true) (h:t.sign = o.s) : ∃ a b,t = .bin o a b:=by
  have e : t.kd = o.kd:=leaf_no h.symm
  cases t with
  | say a=>cases hb
  | ite a b c=>cases hb
  | lett x a b=>cases hb
  | bin p a b=>exact ⟨a,b,by cases p <;> cases o <;> first | rfl | cases e⟩
  | _=>cases o <;> cases e
theorem gdT_lt (t:Tr) : gdT t < 2:=by
  cases t with
  | gap g as=>cases as <;> simp [gdT]
  | _=>simp [gdT]
theorem bw_mid (o:Bin) : tx (bwT o) = tx " " ++ (tx (sgT o) ++ tx " "):=by cases o <;> decide +kernel
theorem sg_len (o:Bin) : (tx (sgT o)).length = 1:=by cases o <;> decide +kernel
theorem tx_ones : (tx " ").length = 1 ∧ (tx "(").length = 1 ∧ (tx ")").length = 1:=by decide +kernel
end L2
namespace K08
open PySem PySem.Spec L2 PyProof.Rows
abbrev s_law_written : Stmt:=top 46
theorem sc_law_written : FnScope ["_law_tree", "_law_one", "_law_ahead", "_law_sign", "_law_word_here"] ["_law_tree"] (defScope s_law_written):=⟨rfl,rfl,rfl,by decide +kernel,rfl,by decide +kernel,by decide +kernel⟩
section
variable {P:Program} {w:World} {K:PySem.W.Frag} {mg:Str → Option Value} {base:Heap}
def sp_wr (n:Nat) : Sp:=fun vs H Q _=>∃ (t:Tr) (v:V),vs = [v] ∧ Rep H t v ∧ TOk t ∧ dpT t < n ∧ (txT t).length ≤ 4000 ∧ ∀ H',Same H H' → Q (.str (sOf (txT t))) H'
theorem ok_wr {k n:Nat} {f g1:Addr} {fd gd1:FuncData} (F:Fun K "_law_written" "_law_written" s_law_written f fd) (G_law_leaf_written:FnB P w K mg base k "_law_leaf_written" g1 gd1 ["_law_tree"] (sp_lwr 2)) (G_law_written:FnB P w K mg base k "_law_written" f fd ["_law_tree"] (sp_wr n)) :
    FnOk P w K mg base CX0 (k + 1) f fd ["_law_tree"] (sp_wr (n + 1)):=by
  refine F.ok sc_law_written (fun vs H Q E h=>?_) (fun cdv A outer s H vs Q E hr h=>?_)
  · obtain ⟨t,v,rfl,_⟩:=h
    rfl
  obtain ⟨t,v,rfl,hR,ok,hn,h4,q⟩:=h
  refine ⟨_,(Sd.un (pss_consS (ps_ifS ⟨pt_cmpR op_eq (pe_ix (r:=rIxT K) ix_tup (pv 0) pe_int (fun _ _=>rfl)) pe_str (nomark _)⟩ (pss_oneS (ps_retS ⟨pe_op op_add_str (pe_op op_add_str pe_str (pe_call G_law_written.ok hr (by rfl) G_law_written.gl G_law_written.kp G_law_written.bd .nil pass0 (pa_cons (pe_ix (r:=rIxT K) ix_tup (pv 0) pe_int (fun _ _=>rfl)) pa_nil))) pe_str⟩)) ⟨pss_nil⟩)
    (pss_consS (ps_ifS ⟨pt_cmpR op_eq (pe_ix (r:=rIxT K) ix_tup (pv 0) pe_int (fun _ _=>rfl)) pe_str (nomark _)⟩ (pss_consS (ps_setS (i:=1) sc_law_written.nd rfl (Or.inl rfl) ⟨pe_op op_add_str (pe_op op_add_str (pe_op op_add_str pe_str (pe_ix (r:=rIxT K) ix_tup (pv 0) pe_int (fun _ _=>rfl))) pe_str) (pe_call G_law_written.ok hr (by rfl) G_law_written.gl G_law_written.kp G_law_written.bd .nil pass0 (pa_cons (pe_ix (r:=rIxT K) ix_tup (pv 0) pe_int (fun _ _=>rfl)) pa_nil))⟩)
    (pss_oneS (ps_retS ⟨pe_op op_add_str (pe_op op_add_str (pe_op op_add_str (pv 1) pe_str) (pe_call G_law_written.ok hr (by rfl) G_law_written.gl G_law_written.kp G_law_written.bd .nil pass0 (pa_cons (pe_ix (r:=rIxT K) ix_tup (pv 0) pe_int (fun _ _=>rfl)) pa_nil))) pe_str⟩))) ⟨pss_nil⟩)
    (pss_consS (ps_ifS ⟨pt_cmpR op_eq (pe_ix (r:=rIxT K) ix_tup (pv 0) pe_int (fun _ _=>rfl)) pe_str (nomark _)⟩ (pss_consS (ps_setS (i:=2) sc_law_written.nd rfl (Or.inl rfl) ⟨pe_op op_add_str (pe_op op_add_str pe_str (pe_call G_law_written.ok hr (by rfl) G_law_written.gl G_law_written.kp G_law_written.bd .nil pass0 (pa_cons (pe_ix (r:=rIxT K) ix_tup (pv 0) pe_int (fun _ _=>rfl)) pa_nil))) pe_str⟩)
    (pss_oneS (ps_retS ⟨pe_op op_add_str (pe_op op_add_str (pe_op op_add_str (pe_op op_add_str (pv 2) (pe_call G_law_written.ok hr (by rfl) G_law_written.gl G_law_written.kp G_law_written.bd .nil pass0 (pa_cons (pe_ix (r:=rIxT K) ix_tup (pv 0) pe_int (fun _ _=>rfl)) pa_nil))) pe_str) (pe_call G_law_written.ok hr (by rfl) G_law_written.gl G_law_written.kp G_law_written.bd .nil pass0 (pa_cons (pe_ix (r:=rIxT K) ix_tup (pv 0) pe_int (fun _ _=>rfl)) pa_nil))) pe_str⟩))) ⟨pss_nil⟩)
    (pss_consS ⟨ps_for PassesOwn.never rfl (pi_list (pe_lst (pa_cons (pe_tup (pa_cons pe_str (pa_cons pe_str pa_nil)) : PE _ _ _) (pa_cons (pe_tup (pa_cons pe_str (pa_cons pe_str pa_nil)) : PE _ _ _) (pa_cons (pe_tup (pa_cons pe_str (pa_cons pe_str pa_nil)) : PE _ _ _) (pa_cons (pe_tup (pa_cons pe_str (pa_cons pe_str pa_nil)) : PE _ _ _) pa_nil)))) : PE _ _ _)) (pg_tup rfl (pgs_cons (pg_name (i:=3) sc_law_written.nd rfl (Or.inl rfl)) (pgs_cons (pg_name (i:=4) sc_law_written.nd rfl (Or.inl rfl)) pgs_nil))) (pss_one (ps_if (pt_cmpR op_eq (pe_ix (r:=rIxT K) ix_tup (pv 0) pe_int (fun _ _=>rfl)) (pv 4) (nomark _)) (pss_cons (ps_set (i:=1) sc_law_written.nd rfl (Or.inl rfl) (pe_call G_law_written.ok hr (by rfl) G_law_written.gl G_law_written.kp G_law_written.bd .nil pass0 (pa_cons (pe_ix (r:=rIxT K) ix_tup (pv 0) pe_int (fun _ _=>rfl)) pa_nil)))
    (pss_one (ps_ret (pe_op op_add_str (pe_op op_add_str (pe_op op_add_str (pe_op op_add_str (pe_op op_add_str (pe_op op_add_str pe_str (pv 1)) pe_str) (pv 3)) pe_str) (pe_call G_law_written.ok hr (by rfl) G_law_written.gl G_law_written.kp G_law_written.bd .nil pass0 (pa_cons (pe_ix (r:=rIxT K) ix_tup (pv 0) pe_int (fun _ _=>rfl)) pa_nil))) pe_str)))) pss_nil))⟩
    (pss_oneS (ps_retS ⟨pe_call G_law_leaf_written.ok hr (by rfl) G_law_leaf_written.gl G_law_leaf_written.kp G_law_leaf_written.bd .nil pass0 (pa_cons (pv 0) pa_nil)⟩))))))),?_⟩
  have d2 : 2 ≤ sizeLine:=by decide
  have d4 : 4 ≤ sizeLine:=by decide
  obtain ⟨l1,l2,l3,l4,l5,l6,l7,l8,l9⟩:=tx_lens
  obtain ⟨o1,o2,o3⟩:=tx_ones
  obtain ⟨pp1,pp2⟩:=tx_par
  cases hb : plainB t with
  | false =>
    cases t with
    | say a =>
      obtain ⟨p,u,rfl,hp,ra⟩:=hR
      have hn' : dpT a + 1 < n + 1:=hn
      have ht : txT (.say a) = tx "(say " ++ (txT a ++ tx ")"):=by rw [pp2]; rfl
      rw [ht] at q h4
      simp only [List.length_append,l3,o3] at h4
      refine ⟨_,rfl,p,_,0,_,rfl,rfl,SqT.of hp,rfl,rfl,_,rfl,iteT ?_⟩
      rw [str_tx "(say ", str_tx ")"]
      refine ⟨_,rfl,p,_,1,_,rfl,rfl,SqT.of hp,rfl,a,u,rfl,ra,ok,by omega,by omega,fun H1 g1=>?_⟩
      refine ⟨_,_,rfl,rfl,line_of (by rw [sOf_len,sOf_len]; omega),?_⟩
      rw [sOf_app]
      refine ⟨_,_,rfl,rfl,line_of (by rw [sOf_len,sOf_len,List.length_append]; omega),?_⟩
      rw [sOf_app,List.append_assoc]
      exact q H1 g1
    | lett x a b =>
      obtain ⟨p,u,v,rfl,hp,ra,rb⟩:=hR
      have hn' : max (dpT a) (dpT b) + 1 < n + 1:=hn
      have hx:=ok.1.hi
      have lx:=str_len x
      have ht : txT (.lett x a b) = tx "(let " ++ (x.cps.toList ++ (tx " = " ++ (txT a ++ (tx " in " ++ (txT b ++ tx ")"))))):=by rw [pp2]; rfl
      rw [ht] at q h4
      simp only [List.length_append,l7,l8,l9,o3] at h4
      refine ⟨_,rfl,p,_,0,_,rfl,rfl,SqT.of hp,rfl,rfl,_,rfl,iteF ?_⟩
      refine ⟨_,rfl,p,_,0,_,rfl,rfl,SqT.of hp,rfl,rfl,_,rfl,iteT ?_⟩
      rw [str_tx "(let ", str_tx " = ", str_tx " in ", str_tx ")"]
      refine ⟨_,rfl,p,_,1,_,rfl,rfl,SqT.of hp,rfl,_,_,rfl,rfl,line_of (by rw [sOf_len]; omega),?_⟩
      rw [show sOf (tx "(let ") ++ x = sOf (tx "(let " ++ x.cps.toList) from sOf_eq (by rw [app_list,sOf_list])]
      refine ⟨_,_,rfl,rfl,line_of (by rw [sOf_len,sOf_len,List.length_append]; omega),?_⟩
      rw [sOf_app]
      refine ⟨_,rfl,p,_,2,_,rfl,rfl,SqT.of hp,rfl,a,u,rfl,ra,ok.2.1,by omega,by omega,fun H1 g1=>?_⟩
      refine ⟨_,_,rfl,rfl,line_of (by rw [sOf_len,sOf_len]; simp only [List.length_append]; omega),?_⟩
      rw [sOf_app]
      have hp1:=g1 _ _ hp
      refine ⟨_,rfl,_,_,rfl,rfl,line_of (by rw [sOf_len,sOf_len]; simp only [List.length_append]; omega),?_⟩
      rw [sOf_app]
      refine ⟨_,rfl,p,_,3,_,rfl,rfl,SqT.of hp1,rfl,b,v,rfl,rb.mono g1.tk,ok.2.2,by omega,by omega,fun H2 g2=>?_⟩
      refine ⟨_,_,rfl,rfl,line_of (by rw [sOf_len,sOf_len]; simp only [List.length_append]; omega),?_⟩
      rw [sOf_app]
      refine ⟨_,_,rfl,rfl,line_of (by rw [sOf_len,sOf_len]; simp only [List.length_append]; omega),?_⟩
      rw [sOf_app]
      simp only [List.append_assoc]
      exact q H2 (g1.trans g2)
    | ite a b c =>
      obtain ⟨p,u,v,z,rfl,hp,ra,rb,rc⟩:=hR
      have hn' : max (dpT a) (max (dpT b) (dpT c)) + 1 < n + 1:=hn
      have ht : txT (.ite a b c) = tx "(if " ++ (txT a ++ (tx " then " ++ (txT b ++ (tx " else " ++ (txT c ++ tx ")"))))):=by rw [pp2]; rfl
      rw [ht] at q h4
      simp only [List.length_append,l4,l5,l6,o3] at h4
      refine ⟨_,rfl,p,_,0,_,rfl,rfl,SqT.of hp,rfl,rfl,_,rfl,iteF ?_⟩
      refine ⟨_,rfl,p,_,0,_,rfl,rfl,SqT.of hp,rfl,rfl,_,rfl,iteF ?_⟩
      refine ⟨_,rfl,p,_,0,_,rfl,rfl,SqT.of hp,rfl,rfl,_,rfl,iteT ?_⟩
      rw [str_tx "(if ", str_tx " then ", str_tx " else ", str_tx ")"]
      refine ⟨_,rfl,p,_,1,_,rfl,rfl,SqT.of hp,rfl,a,u,rfl,ra,ok.1,by omega,by omega,fun H1 g1=>?_⟩
      refine ⟨_,_,rfl,rfl,line_of (by rw [sOf_len,sOf_len]; omega),?_⟩
      rw [sOf_app]
      refine ⟨_,_,rfl,rfl,line_of (by rw [sOf_len,sOf_len]; simp only [List.length_append]; omega),?_⟩
      rw [sOf_app]
      have hp1:=g1 _ _ hp
      refine ⟨_,rfl,_,rfl,p,_,2,_,rfl,rfl,SqT.of hp1,rfl,b,v,rfl,rb.mono g1.tk,ok.2.1,by omega,by omega,fun H2 g2=>?_⟩
      refine ⟨_,_,rfl,rfl,line_of (by rw [sOf_len,sOf_len]; simp only [List.length_append]; omega),?_⟩
      rw [sOf_app]
      have hp2:=g2 _ _ hp1
      refine ⟨_,_,rfl,rfl,line_of (by rw [sOf_len,sOf_len]; simp only [List.length_append]; omega),?_⟩
      rw [sOf_app]
      refine ⟨_,rfl,p,_,3,_,rfl,rfl,SqT.of hp2,rfl,c,z,rfl,rc.mono (g1.trans g2).tk,ok.2.2,by omega,by omega,fun H3 g3=>?_⟩
      refine ⟨_,_,rfl,rfl,line_of (by rw [sOf_len,sOf_len]; simp only [List.length_append]; omega),?_⟩
      rw [sOf_app]
      refine ⟨_,_,rfl,rfl,line_of (by rw [sOf_len,sOf_len]; simp only [List.length_append]; omega),?_⟩
      rw [sOf_app]
      simp only [List.append_assoc]
      exact q H3 (g1.trans (g2.trans g3))
    | _=>cases hb
  | true =>
    obtain ⟨n1,n2,n3⟩:=plain_no hb
    obtain ⟨p,hs,us,rfl,hp,hh,hus⟩:=id hR.all
    have no : ∀ {x:Str},t.sign ≠ x → ¬ decide (V.str t.sign = V.str x) = true:=fun h z=>h (by have:=of_decide_eq_true z; injection this)
    refine ⟨_,rfl,p,_,0,_,rfl,rfl,SqT.of hp,atI_nat (j:=0) rfl,rfl,_,rfl,ite2 (fun c=>absurd c (no n1)) (fun _=>?_)⟩
    refine ⟨_,rfl,p,_,0,_,rfl,rfl,SqT.of hp,atI_nat (j:=0) rfl,rfl,_,rfl,ite2 (fun c=>absurd c (no n2)) (fun _=>?_)⟩
    refine ⟨_,rfl,p,_,0,_,rfl,rfl,SqT.of hp,atI_nat (j:=0) rfl,rfl,_,rfl,ite2 (fun c=>absurd c (no n3)) (fun _=>?_)⟩
    refine ⟨d2,fun p1 h1=>⟨d2,fun p2 h2=>⟨d2,fun p3 h3=>⟨d2,fun p4 h4'=>⟨d4,fun ll hl=>?_⟩⟩⟩⟩⟩
    have k1:=same_upd (o:=.tup [.str "+", .str "add"]) h1
    have k2:=same_upd (o:=.tup [.str "-", .str "sub"]) h2
    have k3:=same_upd (o:=.tup [.str "*", .str "mul"]) h3
    have k4:=same_upd (o:=.tup [.str ";", .str "then"]) h4'
    have k5:=same_upd (o:=.lst [.ref p1,.ref p2,.ref p3,.ref p4]) hl
    have kA:=k1.trans (k2.trans (k3.trans (k4.trans k5)))
    have u1:=k5 _ _ (k4 _ _ (k3 _ _ (k2 _ _ (upd_same (H:=H) (a:=p1) (o:=.tup [.str "+", .str "add"])))))
    have u2:=k5 _ _ (k4 _ _ (k3 _ _ (upd_same (H:=upd H p1 (.tup [.str "+", .str "add"])) (a:=p2) (o:=.tup [.str "-", .str "sub"]))))
    have u3:=k5 _ _ (k4 _ _ (upd_same (H:=upd (upd H p1 (.tup [.str "+", .str "add"])) p2 (.tup [.str "-", .str "sub"])) (a:=p3) (o:=.tup [.str "*", .str "mul"])))
    have u4:=k5 _ _ (upd_same (H:=upd (upd (upd H p1 (.tup [.str "+", .str "add"])) p2 (.tup [.str "-", .str "sub"])) p3 (.tup [.str "*", .str "mul"])) (a:=p4) (o:=.tup [.str ";", .str "then"]))
    have el : (upd (upd (upd (upd (upd H p1 (.tup [.str "+", .str "add"])) p2 (.tup [.str "-", .str "sub"])) p3 (.tup [.str "*", .str "mul"])) p4 (.tup [.str ";", .str "then"])) ll (.lst [.ref p1,.ref p2,.ref p3,.ref p4])) ll = some (.lst [.ref p1,.ref p2,.ref p3,.ref p4]):=upd_same
    generalize upd (upd (upd (upd (upd H p1 (.tup [.str "+", .str "add"])) p2 (.tup [.str "-", .str "sub"])) p3 (.tup [.str "*", .str "mul"])) p4 (.tup [.str ";", .str "then"])) ll (.lst [.ref p1,.ref p2,.ref p3,.ref p4]) = H5 at kA u1 u2 u3 u4 el ⊢
    clear k1 k2 k3 k4 k5
    have hp5:=kA _ _ hp
    have items : ∀ (j:Nat) (x:V),[V.ref p1,.ref p2,.ref p3,.ref p4][j]? = some x → ∃ (o:Bin) (pj:Addr),bins[j]? = some o ∧ x = .ref pj ∧ H5 pj = some (.tup [.str (Str.ofString (sgT o)),.str o.s]):=fun j x hx=>by
      have hj : j < 4:=(List.getElem?_eq_some_iff.mp hx).1
      rcases (show j = 0 ∨ j = 1 ∨ j = 2 ∨ j = 3 by omega) with rfl | rfl | rfl | rfl
      · cases hx; exact ⟨.add,p1,rfl,rfl,u1⟩
      · cases hx; exact ⟨.sub,p2,rfl,rfl,u2⟩
      · cases hx; exact ⟨.mul,p3,rfl,rfl,u3⟩
      · cases hx; exact ⟨.thn,p4,rfl,rfl,u4⟩
    refine ⟨ll,rfl,⟨_,SqL.of el⟩,?_⟩
    refine for_list (xs:=[V.ref p1,.ref p2,.ref p3,.ref p4]) (fun j σ' H'=>∃ s3 s4 : Option V,σ' = [some (.ref p),none,none,s3,s4] ∧ H' = H5 ∧ ∀ j' o,j' < j → bins[j']? = some o → t.sign ≠ o.s) ⟨none,none,rfl,rfl,fun j' o h=>absurd h (Nat.not_lt_zero _)⟩ ?_ ?_ ?_
    · rintro j σ' H' _ ⟨s3,s4,rfl,rfl,_⟩
      exact SqL.of el
    · rintro j x σ' H' hx ⟨s3,s4,rfl,rfl,nb⟩
      obtain ⟨o,pj,hj,rfl,hpj⟩:=items j x hx
      refine ⟨pj,_,rfl,SqT.of hpj,rfl,_,_,rfl,_,_,rfl,rfl,?_⟩
      refine ⟨_,rfl,p,_,0,_,rfl,rfl,SqT.of hp5,atI_nat (j:=0) rfl,_,rfl,rfl,_,rfl,ite2 (fun c=>?_) (fun c=>?_)⟩
      · have e : t.sign = o.s:=by have:=of_decide_eq_true c; injection this
        obtain ⟨a,b,rfl⟩:=not_bin hb e
        obtain ⟨p',u,v,e',hp',ra,rb⟩:=hR
        cases e'
        have hn' : max (dpT a) (dpT b) + 1 < n + 1:=hn
        have ht : txT (.bin o a b) = tx "(" ++ (txT a ++ (tx " " ++ (tx (sgT o) ++ (tx " " ++ (txT b ++ tx ")"))))):=by
          rw [txT,bw_mid,pp1,pp2]
          simp
        have hsg:=sg_len o
        rw [ht] at q h4
        simp only [List.length_append,o1,o2,o3,hsg] at h4
        have hp6:=kA _ _ hp'
        rw [str_tx "(", str_tx " ", str_tx ")", str_tx (sgT o)]
        refine ⟨_,rfl,p,_,1,_,rfl,rfl,SqT.of hp6,rfl,a,u,rfl,ra.mono kA.tk,ok.1,by omega,by omega,fun H6 g6=>?_⟩
        have hp7:=g6 _ _ hp6
        refine ⟨_,rfl,_,_,rfl,rfl,line_of (by rw [sOf_len,sOf_len]; omega),?_⟩
        rw [sOf_app]
        refine ⟨_,_,rfl,rfl,line_of (by rw [sOf_len,sOf_len]; simp only [List.length_append]; omega),?_⟩
        rw [sOf_app]
        refine ⟨_,rfl,_,_,rfl,rfl,line_of (by rw [sOf_len,sOf_len]; simp only [List.length_append]; omega),?_⟩
        rw [sOf_app]
        refine ⟨_,_,rfl,rfl,line_of (by rw [sOf_len,sOf_len]; simp only [List.length_append]; omega),?_⟩
        rw [sOf_app]
        refine ⟨_,rfl,p,_,2,_,rfl,rfl,SqT.of hp7,rfl,b,v,rfl,rb.mono (kA.trans g6).tk,ok.2,by omega,by omega,fun H7 g7=>?_⟩
        refine ⟨_,_,rfl,rfl,line_of (by rw [sOf_len,sOf_len]; simp only [List.length_append]; omega),?_⟩
        rw [sOf_app]
        refine ⟨_,_,rfl,rfl,line_of (by rw [sOf_len,sOf_len]; simp only [List.length_append]; omega),?_⟩
        rw [sOf_app]
        simp only [List.append_assoc]
        exact q H7 (kA.trans (g6.trans g7))
      · refine ⟨_,_,rfl,rfl,fun j' o' h h'=>?_⟩
        rcases Nat.lt_or_ge j' j with h2 | h2
        · exact nb j' o' h2 h'
        · have ej : j' = j:=by omega
          subst ej
          rw [hj] at h'
          cases h'
          exact fun z=>c (decide_eq_true (by rw [z]))
    · rintro σ' H' ⟨s3,s4,rfl,rfl,nb⟩
      have hlf : leafB t = true:=by
        cases t with
        | say a=>cases hb
        | ite a b c=>cases hb
        | lett x a b=>cases hb
        | bin o a b =>
          obtain ⟨j,hj,e⟩:=bins_in o
          exact absurd (Bin.kd_s o) (nb j o hj e)
        | _=>rfl
      have hgd : gdT t < 2:=gdT_lt t
      exact ⟨_,rfl,t,_,rfl,hR.mono kA.tk,ok,hlf,hgd,fun H6 g6=>q H6 (kA.trans g6)⟩
theorem no_wr {k:Nat} {f:Addr} {fd:FuncData} : FnOk P w K mg base CX0 k f fd ["_law_tree"] (sp_wr 0):=by
  have no : ∀ vs H Q E,¬ sp_wr 0 vs H Q E:=fun vs H Q E h=>by
    obtain ⟨t,v,_,_,_,h1,_⟩:=h
    omega
  exact ⟨fun vs H Q E h=>absurd h (no vs H Q E),fun A outer s H args us vs Q E _ _ _ _ h=>absurd h (no vs H Q E)⟩
theorem all_wr {k:Nat} {f g1:Addr} {fd gd1:FuncData} (F:Fun K "_law_written" "_law_written" s_law_written f fd) (b:Binds K fd ["_law_tree"] []) (m:mg "_law_written" = some (.ref f)) (G:FnB P w K mg base k "_law_leaf_written" g1 gd1 ["_law_tree"] (sp_lwr 2)) : ∀ n : Nat,FnB P w K mg base (k + n) "_law_written" f fd ["_law_tree"] (sp_wr n)
  | 0=>⟨no_wr,b,F.kp,m⟩
  | n + 1=>⟨ok_wr F (G.up (Nat.le_add_right _ _)) (all_wr F b m G n),b,F.kp,m⟩
end
end K08
namespace L2
open PySem
def kfS (ks:List (Str × Str)) : List (Key × V):=ks.map fun k=>((Sum.inr k.1 : Key),V.str k.2)
structure KvS (ks:List (Str × Str)) : Prop where
  nd : (ks.map (·.1)).Nodup
  ok : ∀ k ∈ ks,KdOk k
theorem kf_any {ks:List (Str × Str)} {x:Str} : (kfS ks).any (fun kv=>decide (kv.1 = (Sum.inr x : Key))) = decide (x ∈ ks.map (·.1)):=by
  rw [Bool.eq_iff_iff,List.any_eq_true,decide_eq_true_iff]
  constructor
  · rintro ⟨p,hp,e⟩
    obtain ⟨k,hk,rfl⟩:=List.mem_map.mp hp
    exact List.mem_map.mpr ⟨k,hk,Sum.inr.inj (of_decide_eq_true e)⟩
  · intro h
    obtain ⟨k,hk,rfl⟩:=List.mem_map.mp h
    exact ⟨_,List.mem_map.mpr ⟨k,hk,rfl⟩,decide_eq_true rfl⟩
theorem KvS.put {ks:List (Str × Str)} (h:KvS ks) {x y:Str} (hk:KdOk (x,y)) : ∃ ks',putK (kfS ks) (Sum.inr x : Key) (.str y) = kfS ks' ∧ KvS ks' ∧ ks'.length ≤ ks.length + 1:=by
  unfold putK
  split
  · refine ⟨ks.map fun k=>if k.1 = x then (k.1,y) else k,?_,⟨?_,fun k hk'=>?_⟩,by rw [List.length_map]; omega⟩
    · unfold kfS
      rw [List.map_map,List.map_map]
      refine List.map_congr_left fun k _=>?_
      show (if (Sum.inr k.1 : Key) = Sum.inr x then ((Sum.inr k.1 : Key),V.str y) else ((Sum.inr k.1 : Key),V.str k.2)) = (fun k:Str × Str=>((Sum.inr k.1 : Key),V.str k.2)) (if k.1 = x then (k.1,y) else k)
      by_cases z : k.1 = x
      · rw [if_pos z,if_pos (congrArg Sum.inr z)]
      · rw [if_neg z,if_neg fun w=>z (Sum.inr.inj w)]
    · have e : (ks.map fun k=>if k.1 = x then (k.1,y) else k).map (·.1) = ks.map (·.1):=by
        rw [List.map_map]
        refine List.map_congr_left fun q _=>?_
        show (if q.1 = x then (q.1,y) else q).1 = q.1
        split <;> rfl
      rw [e]; exact h.nd
    · obtain ⟨q,hq,e⟩:=List.mem_map.mp hk'
      by_cases z : q.1 = x
      · rw [if_pos z,z] at e
        exact e ▸ hk
      · rw [if_neg z] at e
        exact e ▸ h.ok q hq
  · rename_i hn
    rw [kf_any,decide_eq_true_iff] at hn
    refine ⟨ks ++ [(x,y)],by unfold kfS; rw [List.map_append]; rfl,⟨?_,fun k hk'=>?_⟩,by simp⟩
    · rw [List.map_append,List.nodup_append]
      refine ⟨h.nd,by simp,fun a ha b hb e=>hn ?_⟩
      simp at hb
      exact hb ▸ e ▸ ha
    · rcases List.mem_append.mp hk' with z | z
      · exact h.ok k z
      · rw [List.mem_singleton.mp z]; exact hk
theorem kf_get {ks:List (Str × Str)} {x:Str} (h:x ∈ ks.map (·.1)) : ∃ y,(x,y) ∈ ks ∧ valV (kfS ks) (Sum.inr x : Key) = some (.str y):=by
  induction ks with
  | nil=>cases h
  | cons k ks ih =>
    by_cases z : k.1 = x
    · refine ⟨k.2,by rw [← z]; exact List.mem_cons_self,?_⟩
      show ((List.find? _ (((Sum.inr k.1 : Key),V.str k.2) :: kfS ks)).map (·.2)) = _
      rw [List.find?_cons_of_pos (by exact decide_eq_true (congrArg Sum.inr z))]
      rfl
    · have h' : x ∈ ks.map (·.1):=by
        rcases List.mem_cons.mp h with e | e
        · exact absurd e.symm z
        · exact e
      obtain ⟨y,hy,e⟩:=ih h'
      refine ⟨y,List.mem_cons_of_mem _ hy,?_⟩
      show ((List.find? _ (((Sum.inr k.1 : Key),V.str k.2) :: kfS ks)).map (·.2)) = _
      rw [List.find?_cons_of_neg (by exact fun w=>z (Sum.inr.inj (of_decide_eq_true w)))]
      exact e
theorem pow3_at (i:Nat) (h:i < 6) : ∃ d : Int,CDiv 0 d ∧ atI [V.int 1,.int 3,.int 9,.int 27,.int 81,.int 243] (i:Int) = some (.int d):=by
  match i,h with
  | 0,_=>exact ⟨1,⟨by decide,by decide⟩,rfl⟩
  | 1,_=>exact ⟨3,⟨by decide,by decide⟩,rfl⟩
  | 2,_=>exact ⟨9,⟨by decide,by decide⟩,rfl⟩
  | 3,_=>exact ⟨27,⟨by decide,by decide⟩,rfl⟩
  | 4,_=>exact ⟨81,⟨by decide,by decide⟩,rfl⟩
  | 5,_=>exact ⟨243,⟨by decide,by decide⟩,rfl⟩
end L2
namespace K08
open PySem PySem.Spec L2 PyProof.Rows
abbrev s_law_kinds : Stmt:=top 47
theorem sc_law_kinds : FnScope ["_law_cell", "_law_words_here", "_law_known", "_law_k", "_law_turn"] ["_law_cell", "_law_words_here"] (defScope s_law_kinds):=⟨rfl,rfl,rfl,by decide +kernel,rfl,by decide +kernel,by decide +kernel⟩
section
variable {P:Program} {w:World} {K:PySem.W.Frag} {mg:Str → Option Value} {base:Heap}
def sp_lkinds : Sp:=fun vs H Q _=>∃ (c:Int) (a:Addr) (ws:List Str),vs = [.int c,.ref a] ∧ H a = some (.lst (ws.map V.str)) ∧ ws.length = 6 ∧ (∀ x ∈ ws,WOk x) ∧ ∀ (v:V) (ks:List (Str × Str)) (H':Hp),Same H H' → RpKs H' ks v → GdK ks → Q v H'
theorem ok_lkinds {k:Nat} {f:Addr} {fd:FuncData} (F:Fun K "_law_kinds" "_law_kinds" s_law_kinds f fd) (z_range:mg "range" = none) (z_tuple:mg "tuple" = none) (z_sorted:mg "sorted" = none) : FnOk P w K mg base CX0 (k + 1) f fd ["_law_cell", "_law_words_here"] sp_lkinds:=by
  refine F.ok sc_law_kinds (fun vs H Q E h=>?_) (fun cdv A outer s H vs Q E hr h=>?_)
  · obtain ⟨c,a,ws,rfl,_⟩:=h
    rfl
  obtain ⟨c,a,ws,rfl,ha,hl,hw,q⟩:=h
  have hu:=hu_of hr
  refine ⟨_,(pss_cons (ps_set (i:=2) sc_law_kinds.nd rfl (Or.inr rfl) pe_dnewK)
    (pss_cons (ps_for PassesOwn.never rfl (pi_range1 (by rfl) z_range (pa_cons pe_int pa_nil)) (pg_name (i:=3) sc_law_kinds.nd rfl (Or.inl rfl)) (pss_cons (ps_set (i:=4) sc_law_kinds.nd rfl (Or.inl rfl) (pe_op op_mod (pe_op op_fdiv (pv 0) (pe_ix (r:=rIxL K) ix_list (pe_lstR [.int 1,.int 3,.int 9,.int 27,.int 81,.int 243] (by rfl) : PE _ _ _) (pv 3) (fun _ _=>rfl))) pe_int))
    (pss_one (ps_if (pt_cmpR op_gt (pv 4) pe_int (nomark _)) (pss_one (ps_dput hu (pv 2) (pe_ix (r:=rIxL K) ix_list (pv 1) (pv 3) (fun _ _=>rfl)) (pe_ix (r:=rIxL K) ix_list (pe_lst (pa_cons pe_str (pa_cons pe_str pa_nil)) : PE _ _ _) (pe_op op_sub (pv 4) pe_int) (fun _ _=>rfl)) rfl)) pss_nil))))
    (pss_one (ps_ret (pe_callTy call_tuple_of (by rfl) z_tuple PyProof.Rows.boot_tuple (pa_cons (pe_compB ["_law_gap", "_law_known"] [none,some 2] rfl (pi_list (pe_callB (call_sortedDR rfl) (by rfl) z_sorted PyProof.Rows.boot_sorted (pa_cons (pv 2) pa_nil))) (fun _ _ _ _ _=>(pg_name (i:=0) (show List.Nodup (["_law_gap", "_law_known"] : List Str) by decide +kernel) rfl (Or.inl rfl))) (fun _ _ _ _ _=>pts_nil) (fun _ _ _ _ _=>(pe_tup (pa_cons (pv 0) (pa_cons (pe_dget hu (pv 1) (pv 0) (fun _ _=>rfl)) pa_nil)) : PE _ _ _)) rfl) pa_nil)))))),?_⟩
  have d2 : 2 ≤ sizeLine:=by decide
  have d6 : 6 ≤ sizeLine:=by decide
  refine fun d0 hd0=>?_
  have nda : a ≠ d0:=fun z=>by rw [z,hd0] at ha; cases ha
  refine ⟨6,rfl,by decide,by decide,?_⟩
  refine for_range (n:=6) (fun i σ' H'=>∃ (ks:List (Str × Str)) (s3 s4:Option V),σ' = [some (.int c),some (.ref a),some (.ref d0),s3,s4] ∧ Same H H' ∧ H' d0 = some (.dK (kfS ks)) ∧ KvS ks ∧ ks.length ≤ i) ?_ ?_ ?_
  · exact ⟨[],none,none,rfl,same_upd hd0,upd_same,⟨List.nodup_nil,fun k h=>nomatch h⟩,Nat.le_refl _⟩
  · rintro i σ1 H1 hi ⟨ks,s3,s4,rfl,g1,ed,kv,kl⟩
    have e0 : (0:Int) + (i:Int) = (i:Int):=by omega
    obtain ⟨dd,dpos,hdd⟩:=pow3_at i hi
    refine ⟨_,rfl,d6,fun p hp=>⟨_,rfl,p,_,_,_,rfl,rfl,SqL.of upd_same,(by rw [e0]; exact hdd),_,_,rfl,rfl,dpos,_,_,rfl,rfl,(show (0:Int) < 3 by decide),?_⟩⟩
    have k1:=same_upd (o:=.lst [V.int 1,.int 3,.int 9,.int 27,.int 81,.int 243]) hp
    have g2:=g1.trans k1
    have ed2:=k1 _ _ ed
    refine ⟨_,rfl,_,_,rfl,rfl,_,rfl,ite2 (fun ct=>?_) (fun ct=>?_)⟩
    · have ct' : 0 < c / dd % 3:=of_decide_eq_true ct
      have m1:=Int.emod_lt_of_pos (c / dd) (show (0:Int) < 3 by decide)
      have hxw : i < (ws.map V.str).length:=by rw [List.length_map,hl]; exact hi
      obtain ⟨x,hx,ex⟩ : ∃ x,x ∈ ws ∧ atI (ws.map V.str) (i:Int) = some (.str x):=by
        obtain ⟨v,hv,e⟩:=atI_in (xs:=ws.map V.str) (i:=(i:Int)) (by omega) (by omega)
        obtain ⟨x,hx,rfl⟩:=List.mem_map.mp hv
        exact ⟨x,hx,e⟩
      obtain ⟨y,hy,ey⟩ : ∃ y : Str,(y = Str.ofString "quiet" ∨ y = Str.ofString "number") ∧ atI [V.str "quiet", .str "number"] (c / dd % 3 - 1) = some (.str y):=by
        obtain e | e : c / dd % 3 = 1 ∨ c / dd % 3 = 2:=by omega
        · rw [e]; exact ⟨_,.inl rfl,rfl⟩
        · rw [e]; exact ⟨_,.inr rfl,rfl⟩
      refine ⟨d2,fun p2 hp2=>⟨_,rfl,_,_,rfl,rfl,p2,_,_,_,rfl,rfl,SqL.of upd_same,ey,_,rfl,_,rfl,_,rfl,a,_,_,_,rfl,rfl,SqL.of ((g2.trans (same_upd hp2)) _ _ ha),(by rw [e0]; exact ex),d0,_,rfl,DPut.k (k:=Sum.inr x) ((same_upd hp2) _ _ ed2) (small1000 (by unfold kfS; rw [List.length_map]; omega)),?_⟩⟩
      obtain ⟨ks',e',kv',kl'⟩:=kv.put (x:=x) (y:=y) ⟨hw x hx,hy⟩
      exact ⟨ks',_,_,rfl,same_set (g2.trans (same_upd hp2)) hd0,by rw [upd_same,e'],kv',by omega⟩
    · exact ⟨ks,_,_,rfl,g2,ed2,kv,by omega⟩
  · rintro σ1 H1 ⟨ks,s3,s4,rfl,g1,ed,kv,kl⟩
    have nd0 : H d0 = none:=hd0
    refine ⟨_,rfl,d0,_,ks.map (·.1),rfl,.inl ed,(by unfold kfS; rw [List.map_map,List.map_map]; rfl),(by rw [List.length_map]; omega),fun l ss hln hp hs=>⟨l,rfl,⟨_,SqL.of upd_same⟩,fun acc hacc=>?_⟩⟩
    have k2:=same_upd (o:=.lst (ss.map V.str)) hln
    have el : (upd H1 l (.lst (ss.map V.str))) l = some (.lst (ss.map V.str)):=upd_same
    have ed2:=k2 _ _ ed
    have g2:=g1.trans k2
    generalize upd H1 l (.lst (ss.map V.str)) = H2 at g2 el ed2 hacc ⊢
    have sl : ss.length = ks.length:=by have:=hp.length_eq; rwa [List.length_map] at this
    have nd : ss.Nodup:=hp.nodup_iff.mpr kv.nd
    have srt : SrtS ss:=(hs.and nd).imp fun h=>le_lt h.1 h.2
    refine comp_listR (xs:=ss.map V.str) (fun i H'=>Same H2 H' ∧ ∃ (rs:List (Str × Str)) (zs:List V),H' acc = some (.lst zs) ∧ Paired (RpK H') rs zs ∧ rs.map (·.1) = ss.take i ∧ ∀ k ∈ rs,KdOk k) ⟨same_upd hacc,[],[],upd_same,.nil,rfl,fun k h=>nomatch h⟩ (fun i H' _ h=>SqL.of (h.1 _ _ el)) ?_ ?_
    · rintro i x H3 hx ⟨g3,rs,zs,ez,pz,er,kr⟩
      obtain ⟨g,eg,rfl⟩ : ∃ g,ss[i]? = some g ∧ x = V.str g:=by
        rw [List.getElem?_map] at hx
        obtain ⟨g,eg,e⟩:=Option.map_eq_some_iff.mp hx
        exact ⟨g,eg,e.symm⟩
      obtain ⟨y,hy,ev⟩:=kf_get (hp.mem_iff.mp (List.mem_of_getElem? eg))
      have lz : zs.length = rs.length:=paired_len pz
      have lr : rs.length ≤ i:=by have:=congrArg List.length er; rw [List.length_map,List.length_take] at this; omega
      have hi : i < ss.length:=(List.getElem?_eq_some_iff.mp eg).1
      refine ⟨.skip (.keep .nil),?_⟩
      refine ⟨_,rfl,_,rfl,_,rfl,d0,_,rfl,ev ▸ DGet.k (k:=Sum.inr g) (g3 _ _ ed2),d2,fun pt hpt=>?_⟩
      have k4:=same_upd (o:=.tup [.str g,.str y]) hpt
      have tkz : Tk (upd H3 pt (.tup [.str g,.str y])) (upd (upd H3 pt (.tup [.str g,.str y])) acc (.lst (zs ++ [.ref pt]))):=Tk.lst (k4 _ _ ez)
      refine ⟨zs,k4 _ _ ez,small1000 (by omega),same_set (g3.trans k4) hacc,rs ++ [(g,y)],zs ++ [.ref pt],upd_same,paired_append (Paired.mapP pz fun _ _ z=>z.mono (k4.tk.trans tkz)) (.cons ⟨pt,rfl,tkz _ _ upd_same⟩ .nil),?_,fun k hk=>?_⟩
      · rw [take_next eg,List.map_append,er]; rfl
      · rcases List.mem_append.mp hk with z | z
        · exact kr k z
        · rw [List.mem_singleton.mp z]; exact kv.ok _ hy
    · rintro H3 ⟨g3,rs,zs,ez,pz,er,kr⟩
      rw [List.length_map,List.take_of_length_le (Nat.le_refl _)] at er
      refine ⟨acc,zs,rfl,.inl ⟨SqL.of ez,fun t ht=>?_⟩⟩
      have k5:=same_upd (o:=.tup zs) ht
      refine q _ rs _ ((g2.trans g3).trans k5) ⟨t,zs,rfl,upd_same,Paired.mapP pz fun _ _ z=>z.mono k5.tk⟩ ⟨kr,by rw [er]; exact srt,?_⟩
      have:=congrArg List.length er
      rw [List.length_map] at this
      omega
end
end K08
namespace K08
open PySem PySem.Spec L2 PyProof.Rows
abbrev s_law_refused : Stmt:=top 49
theorem sc_law_refused : FnScope ["_law_text", "_law_told", "e"] ["_law_text"] (defScope s_law_refused):=⟨rfl,rfl,rfl,by decide +kernel,rfl,by decide +kernel,by decide +kernel⟩
section
variable {P:Program} {w:World} {K:PySem.W.Frag} {mg:Str → Option Value} {base:Heap}
structure Er (K:PySem.W.Frag) (cR cN cG cU cP c:Addr) (g:Bool) : Prop where
  x : PySem.W.ExCls K c
  nR : PySem.W.mroIn K c (.ref cR) = some true
  nN : PySem.W.kitOne K (.ref c) (.ref cN) = some !g
  nG : PySem.W.kitOne K (.ref c) (.ref cG) = some g
  nU : PySem.W.kitOne K (.ref c) (.ref cU) = some false
  nP : PySem.W.kitOne K (.ref c) (.ref cP) = some false
  nV : PySem.W.kitOne K (.ref c) (.type "ValueError") = some true
def sp_refused : Sp:=fun vs H Q _=>∃ (T:Str),vs = [.str T] ∧ T.length ≤ 10000 ∧ ¬ Great T ∧ BadR T.cps.toList ∧ ∀ H',Same H H' → Q (.bl true) H'
theorem ok_refused {k:Nat} {f g1 cR cN cG cU cP:Addr} {fd gd1:FuncData} (F:Fun K "_law_refused" "_law_refused" s_law_refused f fd) (z_isinstance:mg "isinstance" = none) (z_ValueError:mg "ValueError" = none) (m_RecastError:mg "RecastError" = some (.ref cR)) (m_NoText:mg "NoText" = some (.ref cN)) (m_TooGreat:mg "TooGreat" = some (.ref cG)) (m_NoRule:mg "NoRule" = some (.ref cU)) (m_NoPlace:mg "NoPlace" = some (.ref cP)) (c_RecastError:ExC K cR)
    (XN:Er K cR cN cG cU cP cN false) (G_read_rule:FnF P w K mg base k "read_rule" g1 gd1 ["text"] (sp_ruleF cN cG)) :
    FnOk P w K mg base CX0 (k + 1) f fd ["_law_text"] sp_refused:=by
  refine F.ok sc_law_refused (fun vs H Q E h=>?_) (fun cdv A outer s H vs Q E hr h=>?_)
  · obtain ⟨T,rfl,_⟩:=h
    rfl
  obtain ⟨T,rfl,hT,hn,hb,q⟩:=h
  have hu0:=Nat.lt_of_succ_lt (hu_of hr)
  refine sealed ⟨_,(pss_consS (ps_setS (i:=1) sc_law_refused.nd rfl (Or.inl rfl) ⟨pe_non⟩)
    (pss_consS (ps_tryS (tb:=fun D=>(tDrop (tCallT _ _ _ D _))) (fun _ D=>(pss_oneS (ps_exprS ⟨pe_callT rfl rfl (ph_as sc_law_refused.nd (i:=2) rfl rfl (by rfl) m_RecastError c_RecastError (fun _=>(pss_cons (ps_set (i:=1) sc_law_refused.nd rfl (Or.inl rfl) (pe_lst (pa_cons (pe_callB (r:=rIsiX K) call_isiX (by rfl) z_isinstance PyProof.Rows.boot_isinstance (pa_cons (pv 2) (pa_cons (pe_glob (v:=.ref _) (by rfl) m_NoText (by rfl)) pa_nil))) (pa_cons (pe_callB (r:=rIsiX K) call_isiX (by rfl) z_isinstance PyProof.Rows.boot_isinstance (pa_cons (pv 2) (pa_cons (pe_glob (v:=.ref _) (by rfl) m_TooGreat (by rfl)) pa_nil))) (pa_cons (pe_callB (r:=rIsiX K) call_isiX (by rfl) z_isinstance PyProof.Rows.boot_isinstance (pa_cons (pv 2) (pa_cons (pe_glob (v:=.ref _) (by rfl) m_NoRule (by rfl)) pa_nil))) pa_nil))) : PE _ _ _))
    (pss_one (ps_set (i:=1) sc_law_refused.nd rfl (Or.inl rfl) (pe_op op_cat (pv 1) (pe_lst (pa_cons (pe_callB (r:=rIsiX K) call_isiX (by rfl) z_isinstance PyProof.Rows.boot_isinstance (pa_cons (pv 2) (pa_cons (pe_glob (v:=.ref _) (by rfl) m_NoPlace (by rfl)) pa_nil))) (pa_cons (pe_callB (r:=rIsiX K) call_isiX (by rfl) z_isinstance PyProof.Rows.boot_isinstance (pa_cons (pv 2) (pa_cons (pe_bltn (v:=.ty _) (by rfl) z_ValueError boot_VE (by rfl)) pa_nil))) pa_nil)) : PE _ _ _)))))) ph_nil) G_read_rule.ok hr (by rfl) G_read_rule.gl G_read_rule.kp G_read_rule.bd .nil (pa_cons (pv 0) pa_nil)⟩))) ⟨pss_nil⟩)
    (pss_oneS (ps_retS ⟨pe_cmpR (op_eqF hu0) (pv 1) (pe_lst (pa_cons pe_bl (pa_cons pe_bl (pa_cons pe_bl (pa_cons pe_bl (pa_cons pe_bl pa_nil))))) : PE _ _ _) (nomark _)⟩)))),?_⟩
  have d2 : 2 ≤ sizeLine:=by decide
  have d3 : 3 ≤ sizeLine:=by decide
  have d5 : 5 ≤ sizeLine:=by decide
  refine ⟨_,rfl,T,rfl,hT,fun n=>absurd n hn,fun _=>⟨hb.fk,(fun t u ks e=>by rw [hb.no] at e; cases e),fun _ H1 g1=>⟨cN,rfl,XN.x,true,XN.nR,iteT fun ea hea=>⟨_,rfl,ea,cN,.ref cN,.ref cN,true,rfl,upd_same,XN.x,(fun u r=>r),XN.nN,_,rfl,ea,cN,.ref cG,.ref cG,false,rfl,upd_same,XN.x,(fun u r=>r),XN.nG,_,rfl,ea,cN,.ref cU,.ref cU,false,rfl,upd_same,XN.x,(fun u r=>r),XN.nU,d3,fun p hp=>?_⟩⟩⟩⟩
  refine ⟨_,rfl,_,rfl,ea,cN,.ref cP,.ref cP,false,rfl,same_upd hp _ _ upd_same,XN.x,(fun u r=>r),XN.nP,_,rfl,ea,cN,.ty "ValueError", .type "ValueError", true,rfl,same_upd hp _ _ upd_same,XN.x,(fun u r=>r),XN.nV,d2,fun p2 hp2=>⟨p,p2,[.bl true,.bl false,.bl false],[.bl false,.bl true],rfl,rfl,same_upd hp2 _ _ upd_same,upd_same,d5,fun p3 hp3=>?_⟩⟩
  refine ⟨_,rfl,d5,fun p4 hp4=>⟨p3,p4,[.bl true,.bl false,.bl false,.bl false,.bl true],[.bl true,.bl false,.bl false,.bl false,.bl true],rfl,rfl,same_upd hp4 _ _ upd_same,upd_same,rfl,rfl,q _ ?_⟩⟩
  exact g1.trans ((same_upd hea).trans ((same_upd hp).trans ((same_upd hp2).trans ((same_upd hp3).trans (same_upd hp4)))))
end
end K08
namespace L2
open PySem
theorem both {c:Bool} {U V B:Prop} (hB:B) (h1:c = true → B → U) (h2:B → V) : if c = true then U else V:=by
  by_cases h : c = true
  · rw [if_pos h]; exact h1 h hB
  · rw [if_neg h]; exact h2 hB
theorem at_m1 (xs:List V) (b:V) : atI (xs ++ [b]) (-1) = some b:=by
  unfold atI ixN
  rw [if_neg (by decide),if_pos (by rw [List.length_append]; simp only [List.length_cons,List.length_nil]; omega)]
  rw [show ((-1 : Int) + ((xs ++ [b]).length : Nat)).toNat = xs.length by rw [List.length_append]; simp only [List.length_cons,List.length_nil]; omega]
  show (xs ++ [b])[xs.length]? = some b
  simp
theorem at_m1' (xs:List V) (a b:V) : atI (xs ++ [a,b]) (-1) = some b:=by
  have:=at_m1 (xs ++ [a]) b
  rwa [List.append_assoc] at this
theorem at_m2 (xs:List V) (a b:V) : atI (xs ++ [a,b]) (-2) = some a:=by
  unfold atI ixN
  rw [if_neg (by decide),if_pos (by rw [List.length_append]; simp only [List.length_cons,List.length_nil]; omega)]
  rw [show ((-2 : Int) + ((xs ++ [a,b]).length : Nat)).toNat = xs.length by rw [List.length_append]; simp only [List.length_cons,List.length_nil]; omega]
  show (xs ++ [a,b])[xs.length]? = some a
  simp
theorem cut_m2 (xs:List V) (a b:V) : cutV (xs ++ [a,b]) none (some (-2)) = xs:=by
  unfold cutV
  rw [HT.sIx_none,List.drop_zero]
  have : HT.sIx (xs ++ [a,b]).length (xs ++ [a,b]).length (some (-2)) = xs.length:=by
    show (if (-2 : Int) < 0 then ((-2 : Int) + ((xs ++ [a,b]).length : Nat)).toNat else min (-2 : Int).toNat (xs ++ [a,b]).length) = _
    rw [if_pos (by decide),List.length_append]
    simp only [List.length_cons,List.length_nil]
    omega
  rw [this,Nat.sub_zero]
  simp
def Sk (ks:List (Str × Str)) : List Str:=ks.map fun k=>sOf (txK k)
theorem join_S (ks:List (Str × Str)) : Txt.join (Str.ofString ", ") (Sk ks) = sOf (joinK ks):=by
  cases ks with
  | nil=>decide +kernel
  | cons k ks =>
    unfold Sk
    rw [List.map_cons,join_comma,sOf_list,flat_moreK]
    rfl
theorem sumS {ks:List (Str × Str)} (h:∀ k ∈ ks,KdOk k) (hl:ks.length ≤ 8) : ((Sk ks).map (·.length)).sum + (Sk ks).length ≤ 1048576:=by
  have:=sumK_len (ks:=ks) fun k hk=>(h k hk).k
  unfold Sk
  rw [List.map_map,List.length_map]
  exact Nat.le_trans (Nat.add_le_add_right this _) (by omega)
theorem Sk_app (a b:List (Str × Str)) : Sk (a ++ b) = Sk a ++ Sk b:=List.map_append
theorem ks_where {ks:List (Str × Str)} (h:ks ≠ []) : txKs ks = tx " where " ++ joinK ks:=by
  cases ks with
  | nil=>exact absurd rfl h
  | cons k ks=>rfl
theorem last2 {α:Type} : ∀ (l:List α),1 < l.length → ∃ i a b,l = i ++ [a,b]:=fun l h=>by
  have h1 : l ≠ []:=fun z=>by rw [z] at h; cases h
  obtain ⟨i,b,e⟩ : ∃ i b,l = i ++ [b]:=⟨l.dropLast,l.getLast h1,(List.dropLast_concat_getLast h1).symm⟩
  have h2 : i ≠ []:=fun z=>by rw [e,z] at h; simp at h
  refine ⟨i.dropLast,i.getLast h2,b,?_⟩
  rw [e]
  conv=>lhs; rw [← List.dropLast_concat_getLast h2]
  simp
theorem last1 {α:Type} : ∀ (l:List α),0 < l.length → ∃ i b,l = i ++ [b]:=fun l h=>by
  have h1 : l ≠ []:=fun z=>by rw [z] at h; cases h
  exact ⟨l.dropLast,l.getLast h1,(List.dropLast_concat_getLast h1).symm⟩
theorem lit_at (L:List String) (i:Int) (h0:0 ≤ i) (h1:i < (L.length : Int)) : ∃ m ∈ L,atI (L.map fun s=>V.str (Str.ofString s)) i = some (.str (Str.ofString m)):=by
  obtain ⟨v,hv,e⟩:=atI_in (xs:=L.map fun s=>V.str (Str.ofString s)) (i:=i) h0 (by rw [List.length_map]; exact h1)
  obtain ⟨m,hm,rfl⟩:=List.mem_map.mp hv
  exact ⟨m,hm,e⟩
def where5 : List String:=["where ", " where", "  where ", " Where ", " "]
theorem lits_len : ∀ m ∈ more10 ++ betw3 ++ betw4 ++ where5,(Str.ofString m).length ≤ 12:=by decide +kernel
theorem l_arr : (Str.ofString " -> ").length = 4 ∧ (Str.ofString " where ").length = 7 ∧ (Str.ofString "-> ").length = 3 ∧ (Str.ofString " ->").length = 3:=by decide +kernel
end L2
namespace K08
open PySem PySem.Spec L2 PyProof.Rows
abbrev s_law_spoiled : Stmt:=top 48
theorem sc_law_spoiled : FnScope ["_law_one", "_law_other", "_law_some", "_law_cell", "_law_kind", "_law_rest", "_law_good", "_law_more", "_law_between"] ["_law_one", "_law_other", "_law_some", "_law_cell"] (defScope s_law_spoiled):=⟨rfl,rfl,rfl,by decide +kernel,rfl,by decide +kernel,by decide +kernel⟩
section
variable {P:Program} {w:World} {K:PySem.W.Frag} {mg:Str → Option Value} {base:Heap}
def sp_spoiled : Sp:=fun vs H Q _=>∃ (t u:Tr) (ks:List (Str × Str)) (l:Addr) (c:Int),vs = [.str (sOf (txT t)),.str (sOf (txT u)),.ref l,.int c] ∧ H l = some (.lst ((Sk ks).map V.str)) ∧ GdS t ∧ GdS u ∧ GdK ks ∧ ∀ (s:Sg) (H':Hp),Same H H' → Spo s → Q (.str (sOf s)) H'
theorem ok_spoiled {k:Nat} {f:Addr} {fd:FuncData} (F:Fun K "_law_spoiled" "_law_spoiled" s_law_spoiled f fd) (z_len:mg "len" = none) : FnOk P w K mg base CX0 (k + 1) f fd ["_law_one", "_law_other", "_law_some", "_law_cell"] sp_spoiled:=by
  refine F.ok sc_law_spoiled (fun vs H Q E h=>?_) (fun cdv A outer s H vs Q E hr h=>?_)
  · obtain ⟨t,u,ks,l,c,rfl,_⟩:=h
    rfl
  obtain ⟨t,u,ks,l,c,rfl,hl,ht,hu,hk,q⟩:=h
  refine sealed ⟨_,(pss_consS (ps_setS (i:=4) sc_law_spoiled.nd rfl (Or.inl rfl) (pe_opS op_mod ⟨pv 3⟩ ⟨pe_int⟩))
    (pss_consS (ps_setS (i:=5) sc_law_spoiled.nd rfl (Or.inl rfl) (pe_bmS PySem.F.plainAttrs_str PySem.F.slot_str_join PySem.F.type_str_join mt_join ⟨pe_str⟩ (pa_consS ⟨pv 2⟩ ⟨pa_nil⟩)))
    (pss_consS (ps_setS (i:=6) sc_law_spoiled.nd rfl (Or.inl rfl) (pe_opS op_add_str (pe_opS op_add_str ⟨pv 0⟩ ⟨pe_str⟩) ⟨pv 1⟩))
    (pss_consS (ps_ifS ⟨(pw_and (pt_cmpR op_eq (pv 4) pe_int (nomark _)) (pw_and1 (pt_cmpR op_gt (pe_callB call_len_seq (by rfl) z_len PySem.boot_len (pa_cons (pv 2) pa_nil)) pe_int (nomark _)))).pt⟩ (pss_oneS (ps_retS (pe_opS op_add_str (pe_opS op_add_str ⟨pv 6⟩ ⟨pe_str⟩) (pe_bmS PySem.F.plainAttrs_str PySem.F.slot_str_join PySem.F.type_str_join mt_join ⟨pe_str⟩ (pa_bS (pe_opS op_cat ⟨pe_slice (r:=rSlL K) sl_list (pv 2) po_none (po_some (pe_un un_neg pe_int))⟩ (pe_lstS (pa_consS (pe_ixS (r:=rIxL K) ix_list ⟨pv 2⟩ ⟨pe_un un_neg pe_int⟩ (fun _ _=>rfl)) (pa_consS (pe_ixS (r:=rIxL K) ix_list ⟨pv 2⟩ ⟨pe_un un_neg pe_int⟩ (fun _ _=>rfl)) ⟨pa_nil⟩)))) ⟨pa_nil⟩))))) ⟨pss_nil⟩)
    (pss_consS (ps_ifS ⟨(pw_and (pt_cmpR op_eq (pv 4) pe_int (nomark _)) (pw_and1 (pt_cmpR op_gt (pe_callB call_len_seq (by rfl) z_len PySem.boot_len (pa_cons (pv 2) pa_nil)) pe_int (nomark _)))).pt⟩ (pss_oneS (ps_retS (pe_opS op_add_str (pe_opS op_add_str ⟨pv 6⟩ ⟨pe_str⟩) (pe_bmS PySem.F.plainAttrs_str PySem.F.slot_str_join PySem.F.type_str_join mt_join ⟨pe_str⟩ (pa_bS (pe_opS op_cat ⟨pv 2⟩ (pe_lstS (pa_consS (pe_ixS (r:=rIxL K) ix_list ⟨pv 2⟩ ⟨pe_un un_neg pe_int⟩ (fun _ _=>rfl)) ⟨pa_nil⟩))) ⟨pa_nil⟩))))) ⟨pss_nil⟩)
    (pss_consS (ps_ifS ⟨pt_cmpR op_eq (pv 4) pe_int (nomark _)⟩ (pss_consS (ps_setS (i:=7) sc_law_spoiled.nd rfl (Or.inl rfl) (pe_lstRS [.str "a loud", .str "a", .str "a quiets", .str " quiet", .str "quiet", .str "a  quiet"] (by decide +kernel)))
    (pss_consS (ps_setS (i:=7) sc_law_spoiled.nd rfl (Or.inl rfl) (pe_opS op_cat ⟨pv 7⟩ (pe_lstRS [.str "a number ", .str "b3 quiet", .str "in quiet", .str ""] (by decide +kernel))))
    (pss_oneS (ps_retS (pe_opS op_add_str (pe_opS op_add_str ⟨pv 6⟩ ⟨pe_str⟩) (pe_ixS (r:=rIxL K) ix_list ⟨pv 7⟩ (pe_opS op_mod (pe_opS op_fdiv ⟨pv 3⟩ ⟨pe_int⟩) ⟨pe_int⟩) (fun _ _=>rfl))))))) ⟨pss_nil⟩)
    (pss_consS (ps_ifS ⟨(pw_and (pt_cmpR op_eq (pv 4) pe_int (nomark _)) (pw_and1 (pt_cmpR op_gt (pe_callB call_len_seq (by rfl) z_len PySem.boot_len (pa_cons (pv 2) pa_nil)) pe_int (nomark _)))).pt⟩ (pss_consS (ps_setS (i:=8) sc_law_spoiled.nd rfl (Or.inl rfl) (pe_ixS (r:=rIxL K) ix_list (pe_lstRS [.str ",", .str ",  ", .str " , ", .str " "] (by decide +kernel)) (pe_opS op_mod (pe_opS op_fdiv ⟨pv 3⟩ ⟨pe_int⟩) ⟨pe_int⟩) (fun _ _=>rfl)))
    (pss_oneS (ps_retS (pe_opS op_add_str (pe_opS op_add_str (pe_opS op_add_str (pe_opS op_add_str ⟨pv 6⟩ ⟨pe_str⟩) (pe_ixS (r:=rIxL K) ix_list ⟨pv 2⟩ ⟨pe_int⟩ (fun _ _=>rfl))) ⟨pv 8⟩) (pe_ixS (r:=rIxL K) ix_list ⟨pv 2⟩ ⟨pe_int⟩ (fun _ _=>rfl)))))) ⟨pss_nil⟩)
    (pss_consS (ps_ifS ⟨pt_cmpR op_eq (pv 4) pe_int (nomark _)⟩ (pss_consS (ps_setS (i:=8) sc_law_spoiled.nd rfl (Or.inl rfl) (pe_ixS (r:=rIxL K) ix_list (pe_lstRS [.str "->", .str " ->", .str "-> ", .str "  -> ", .str " ->  ", .str " => ", .str " ", .str ""] (by decide +kernel)) (pe_opS op_mod (pe_opS op_fdiv ⟨pv 3⟩ ⟨pe_int⟩) ⟨pe_int⟩) (fun _ _=>rfl)))
    (pss_oneS (ps_retS (pe_opS op_add_str (pe_opS op_add_str ⟨pv 0⟩ ⟨pv 8⟩) ⟨pv 1⟩)))) ⟨pss_nil⟩)
    (pss_consS (ps_ifS ⟨pt_cmpR op_eq (pv 4) pe_int (nomark _)⟩ (pss_oneS (ps_retS (pe_opS op_add_str (pe_opS op_add_str ⟨pv 6⟩ (pe_ixS (r:=rIxL K) ix_list (pe_lstRS [.str "where ", .str " where", .str "  where ", .str " Where ", .str " "] (by decide +kernel)) (pe_opS op_mod (pe_opS op_fdiv ⟨pv 3⟩ ⟨pe_int⟩) ⟨pe_int⟩) (fun _ _=>rfl))) ⟨pv 5⟩))) ⟨pss_nil⟩)
    (pss_consS (ps_ifS ⟨pt_cmpR op_eq (pv 4) pe_int (nomark _)⟩ (pss_oneS (ps_retS (pe_ixS (r:=rIxL K) ix_list (pe_lstS (pa_bS (pe_opS op_add_str ⟨pe_str⟩ ⟨pv 1⟩) (pa_bS (pe_opS op_add_str ⟨pv 0⟩ ⟨pe_str⟩) (pa_cS ⟨pe_str⟩ (pa_bS (pe_opS op_add_str ⟨pe_str⟩ ⟨pv 1⟩) (pa_bS (pe_opS op_add_str ⟨pv 0⟩ ⟨pe_str⟩) ⟨pa_nil⟩)))))) (pe_opS op_mod (pe_opS op_fdiv ⟨pv 3⟩ ⟨pe_int⟩) ⟨pe_int⟩) (fun _ _=>rfl)))) ⟨pss_nil⟩)
    (pss_oneS (ps_retS (pe_opS op_add_str (pe_opS op_add_str ⟨pv 6⟩ ⟨pe_str⟩) ⟨pv 0⟩))))))))))))),?_⟩
  have d1 : 1 ≤ sizeLine:=by decide
  have d2 : 2 ≤ sizeLine:=by decide
  have d4 : 4 ≤ sizeLine:=by decide
  have d5 : 5 ≤ sizeLine:=by decide
  have d6 : 6 ≤ sizeLine:=by decide
  have d8 : 8 ≤ sizeLine:=by decide
  obtain ⟨l4,l7,l3a,l3b⟩:=l_arr
  have lt:=ht.ln
  have lu:=hu.ln
  have lk:=hk.ln
  have lj : ∀ {xs:List (Str × Str)},(∀ k ∈ xs,KdOk k) → xs.length ≤ 8 → (joinK xs).length ≤ 200:=fun a b=>join_len a b
  have fin : ∀ (x:Str) (s:Sg) (H':Hp),x.cps.toList = s → Same H H' → Spo s → Q (.str x) H':=fun x s H' e g h=>by rw [sOf_eq e]; exact q s H' g h
  have lkx : ∀ k ∈ ks,(txK k).length ≤ 15:=fun k h=>txK_len (hk.ok k h).k
  refine ⟨_,rfl,_,_,rfl,rfl,(show (0:Int) < 8 by decide),?_⟩
  refine ⟨rfl,_,rfl,_,l,_,rfl,rfl,hl,(by show 2 ≤ 16; decide),sumS hk.ok (by omega),?_⟩
  rw [join_S]
  refine ⟨_,rfl,_,_,rfl,rfl,line_of (by rw [sOf_len,l4]; omega),_,rfl,_,_,rfl,rfl,line_of (by simp only [app_len,sOf_len,l4]; omega),?_⟩
  have eg : sOf (txT t) ++ Str.ofString " -> " ++ sOf (txT u) = sOf (txT t ++ (tx " -> " ++ txT u)):=sOf_eq (by simp [app_list,sOf_list,tx])
  rw [eg]
  have lg : (txT t ++ (tx " -> " ++ txT u)).length ≤ 700:=by rw [List.length_append,List.length_append,show (tx " -> ").length = 4 from by decide +kernel]; omega
  refine ⟨_,rfl,rfl,_,rfl,both ?_ (fun c0 bb=>⟨_,rfl,l,_,rfl,.inl (SqL.of hl),_,_,rfl,rfl,_,rfl,ite2 (fun cl=>?_) (fun _=>bb)⟩) (fun bb=>iteF bb)⟩
  rotate_left
  · have cl' : (1:Int) < (((Sk ks).map V.str).length : Int):=of_decide_eq_true cl
    have cl2 : 1 < ks.length:=by unfold Sk at cl'; rw [List.length_map,List.length_map] at cl'; omega
    obtain ⟨init,a,b,rfl⟩:=last2 ks cl2
    have ev : (Sk (init ++ [a,b])).map V.str = (Sk init).map V.str ++ [V.str (sOf (txK a)),V.str (sOf (txK b))]:=by rw [Sk_app,List.map_append]; rfl
    rw [ev] at hl
    have s0:=spo_0 ht hu hk
    have hok : ∀ k ∈ init ++ [b,a],KdOk k:=fun k h=>hk.ok k (by simp only [List.mem_append,List.mem_cons,List.not_mem_nil,or_false] at h ⊢; rcases h with h | h | h; exact .inl h; exact .inr (.inr h); exact .inr (.inl h))
    have hll : (init ++ [b,a]).length ≤ 8:=by simp at lk ⊢; omega
    have hj:=lj hok hll
    refine ⟨_,rfl,_,_,rfl,rfl,line_of (by rw [sOf_len,l7]; omega),rfl,_,rfl,2,rfl,-2,rfl,l,_,rfl,SqL.of hl,fun p1 hp1=>?_⟩
    rw [cut_m2]
    have k1:=same_upd (o:=.lst ((Sk init).map V.str)) hp1
    refine ⟨_,rfl,1,rfl,l,_,-1,_,rfl,rfl,SqL.of (k1 _ _ hl),at_m1' _ _ _,_,rfl,2,rfl,l,_,-2,_,rfl,rfl,SqL.of (k1 _ _ hl),at_m2 _ _ _,d2,fun p2 hp2=>⟨p1,p2,_,_,rfl,rfl,same_upd hp2 _ _ upd_same,upd_same,line1000 (by unfold Sk; simp at hll ⊢; omega),fun p3 hp3=>?_⟩⟩
    refine ⟨_,p3,Sk (init ++ [b,a]),rfl,rfl,(by rw [upd_same,Sk_app,List.map_append]; rfl),(by show 2 ≤ 16; decide),sumS hok hll,?_⟩
    rw [join_S]
    refine ⟨_,_,rfl,rfl,line_of (by simp only [app_len,sOf_len,l7]; omega),fin _ _ _ ?_ (k1.trans ((same_upd hp2).trans (same_upd hp3))) s0⟩
    rw [txR,ks_where (by simp)]
    simp [app_list,sOf_list,tx]
  refine ⟨_,rfl,rfl,_,rfl,both ?_ (fun c0 bb=>⟨_,rfl,l,_,rfl,.inl (SqL.of hl),_,_,rfl,rfl,_,rfl,ite2 (fun cl=>?_) (fun _=>bb)⟩) (fun bb=>iteF bb)⟩
  rotate_left
  · have cl' : (0:Int) < (((Sk ks).map V.str).length : Int):=of_decide_eq_true cl
    have cl2 : 0 < ks.length:=by unfold Sk at cl'; rw [List.length_map,List.length_map] at cl'; omega
    obtain ⟨init,b,rfl⟩:=last1 ks cl2
    have ev : (Sk (init ++ [b])).map V.str = (Sk init).map V.str ++ [V.str (sOf (txK b))]:=by rw [Sk_app,List.map_append]; rfl
    have hl':=hl
    rw [ev] at hl'
    have s0:=spo_1 ht hu hk
    have hok : ∀ k ∈ init ++ [b] ++ [b],KdOk k:=fun k h=>hk.ok k (by simp only [List.mem_append,List.mem_cons,List.not_mem_nil,or_false] at h ⊢; rcases h with (h | h) | h; exact .inl h; exact .inr h; exact .inr h)
    have hll : (init ++ [b] ++ [b]).length ≤ 8:=by simp at lk ⊢; omega
    have hj:=lj hok hll
    refine ⟨_,rfl,_,_,rfl,rfl,line_of (by rw [sOf_len,l7]; omega),rfl,_,rfl,_,rfl,1,rfl,l,_,-1,_,rfl,rfl,SqL.of hl',at_m1 _ _,d1,fun p2 hp2=>⟨l,p2,_,_,rfl,rfl,same_upd hp2 _ _ hl,upd_same,line1000 (by unfold Sk; simp at hll ⊢; omega),fun p3 hp3=>?_⟩⟩
    refine ⟨_,p3,Sk (init ++ [b] ++ [b]),rfl,rfl,(by rw [upd_same,Sk_app (init ++ [b]),List.map_append]; rfl),(by show 2 ≤ 16; decide),sumS hok hll,?_⟩
    rw [join_S]
    refine ⟨_,_,rfl,rfl,line_of (by simp only [app_len,sOf_len,l7]; omega),fin _ _ _ ?_ ((same_upd hp2).trans (same_upd hp3)) s0⟩
    rw [txR,ks_where (by simp)]
    simp [app_list,sOf_list,tx]
  refine ⟨_,rfl,rfl,_,rfl,ite2 (fun c0=>?_) (fun _=>?_)⟩
  · obtain ⟨m,hm,em⟩:=lit_at more10 (c / 8 % 10) (by omega) (by show _ < (10:Int); omega)
    have hml:=lits_len m (by simp [hm])
    refine ⟨d6,fun p1 hp1=>⟨_,rfl,d4,fun p2 hp2=>⟨p1,p2,_,_,rfl,rfl,same_upd hp2 _ _ upd_same,upd_same,(by show 10 ≤ sizeLine; decide),fun p3 hp3=>?_⟩⟩⟩
    refine ⟨_,rfl,_,_,rfl,rfl,line_of (by rw [sOf_len,l7]; omega),_,rfl,_,rfl,_,_,rfl,rfl,⟨by decide,by decide⟩,_,_,rfl,rfl,(show (0:Int) < 10 by decide),p3,_,_,_,rfl,rfl,SqL.of upd_same,em,_,_,rfl,rfl,line_of (by simp only [app_len,sOf_len,l7]; omega),fin _ _ _ ?_ ((same_upd hp1).trans ((same_upd hp2).trans (same_upd hp3))) (spo_2 ht hu hm)⟩
    simp [app_list,sOf_list,tx]
  refine ⟨_,rfl,rfl,_,rfl,both ?_ (fun c0 bb=>⟨_,rfl,l,_,rfl,.inl (SqL.of hl),_,_,rfl,rfl,_,rfl,ite2 (fun cl=>?_) (fun _=>bb)⟩) (fun bb=>iteF bb)⟩
  rotate_left
  · have cl' : (1:Int) < (((Sk ks).map V.str).length : Int):=of_decide_eq_true cl
    have cl2 : 1 < ks.length:=by unfold Sk at cl'; rw [List.length_map,List.length_map] at cl'; omega
    obtain ⟨a,b,rest,rfl⟩ : ∃ a b rest,ks = a :: b :: rest:=by
      match ks,cl2 with
      | a :: b :: rest,_=>exact ⟨a,b,rest,rfl⟩
    have la:=lkx a (by simp)
    have lb:=lkx b (by simp)
    obtain ⟨m,hm,em⟩:=lit_at betw3 (c / 8 % 4) (by omega) (by show _ < (4:Int); omega)
    have hml:=lits_len m (by simp [hm])
    refine ⟨d4,fun p1 hp1=>?_⟩
    refine ⟨_,rfl,_,_,rfl,rfl,⟨by decide,by decide⟩,_,_,rfl,rfl,(show (0:Int) < 4 by decide),p1,_,_,_,rfl,rfl,SqL.of upd_same,em,?_⟩
    refine ⟨_,rfl,_,_,rfl,rfl,line_of (by rw [sOf_len,l7]; omega),_,rfl,l,_,0,_,rfl,rfl,SqL.of (same_upd hp1 _ _ hl),atI_nat (j:=0) rfl,_,_,rfl,rfl,line_of (by simp only [app_len,sOf_len,l7]; omega),_,rfl,_,_,rfl,rfl,line_of (by simp only [app_len,sOf_len,l7]; omega),_,rfl,l,_,1,_,rfl,rfl,SqL.of (same_upd hp1 _ _ hl),atI_nat (j:=1) rfl,_,_,rfl,rfl,line_of (by simp only [app_len,sOf_len,l7]; omega),fin _ _ _ ?_ (same_upd hp1) (spo_3 ht hu (hk.ok a (by simp)) (hk.ok b (by simp)) hm)⟩
    simp [app_list,sOf_list,tx]
  refine ⟨_,rfl,rfl,_,rfl,ite2 (fun c0=>?_) (fun _=>?_)⟩
  · obtain ⟨m,hm,em⟩:=lit_at betw4 (c / 8 % 8) (by omega) (by show _ < (8:Int); omega)
    have hml:=lits_len m (by simp [hm])
    refine ⟨d8,fun p1 hp1=>?_⟩
    refine ⟨_,rfl,_,_,rfl,rfl,⟨by decide,by decide⟩,_,_,rfl,rfl,(show (0:Int) < 8 by decide),p1,_,_,_,rfl,rfl,SqL.of upd_same,em,?_⟩
    refine ⟨_,rfl,_,rfl,_,_,rfl,rfl,line_of (by rw [sOf_len]; omega),_,rfl,_,_,rfl,rfl,line_of (by simp only [app_len,sOf_len]; omega),fin _ _ _ ?_ (same_upd hp1) (spo_4 ht hu hm)⟩
    simp [app_list,sOf_list,tx]
  refine ⟨_,rfl,rfl,_,rfl,ite2 (fun c0=>?_) (fun _=>?_)⟩
  · obtain ⟨m,hm,em⟩:=lit_at where5 (c / 8 % 5) (by omega) (by show _ < (5:Int); omega)
    have hml:=lits_len m (by simp [hm])
    have hj:=lj hk.ok (by omega)
    have sp : Spo (txT t ++ (tx " -> " ++ (txT u ++ (tx m ++ joinK ks)))):=by
      rcases List.mem_cons.mp hm with e | e
      · rw [e]; exact spo_5a ht hu hk.ok (by omega)
      · exact spo_5b ht hu hk.ok (by omega) e
    refine ⟨_,rfl,d5,fun p1 hp1=>?_⟩
    refine ⟨_,rfl,_,_,rfl,rfl,⟨by decide,by decide⟩,_,_,rfl,rfl,(show (0:Int) < 5 by decide),p1,_,_,_,rfl,rfl,SqL.of upd_same,em,_,_,rfl,rfl,line_of (by rw [sOf_len]; omega),_,rfl,_,_,rfl,rfl,line_of (by simp only [app_len,sOf_len]; omega),fin _ _ _ ?_ (same_upd hp1) sp⟩
    simp [app_list,sOf_list,tx]
  refine ⟨_,rfl,rfl,_,rfl,ite2 (fun c0=>?_) (fun _=>?_)⟩
  · obtain ⟨s1,s2,s3,s4,s5⟩:=spo_6a ht hu
    refine ⟨_,rfl,_,_,rfl,rfl,line_of (by rw [sOf_len,l4]; omega),_,rfl,_,_,rfl,rfl,line_of (by rw [sOf_len,l4]; omega),_,rfl,_,_,rfl,rfl,line_of (by rw [sOf_len,l3a]; omega),_,rfl,_,_,rfl,rfl,line_of (by rw [sOf_len,l3b]; omega),d5,fun p hp=>?_⟩
    refine ⟨_,rfl,_,_,rfl,rfl,⟨by decide,by decide⟩,_,_,rfl,rfl,(show (0:Int) < 5 by decide),?_⟩
    show rIxL K (V.ref p) (V.int (c / 8 % 5)) _ _
    obtain e | e | e | e | e : c / 8 % 5 = 0 ∨ c / 8 % 5 = 1 ∨ c / 8 % 5 = 2 ∨ c / 8 % 5 = 3 ∨ c / 8 % 5 = 4:=by omega
    · rw [e]; exact ⟨p,_,0,_,rfl,rfl,SqL.of upd_same,atI_nat (j:=0) rfl,fin _ _ _ (by simp [app_list,sOf_list,tx]) (same_upd hp) s1⟩
    · rw [e]; exact ⟨p,_,1,_,rfl,rfl,SqL.of upd_same,atI_nat (j:=1) rfl,fin _ _ _ (by simp [app_list,sOf_list,tx]) (same_upd hp) s2⟩
    · rw [e]; exact ⟨p,_,2,_,rfl,rfl,SqL.of upd_same,atI_nat (j:=2) rfl,fin _ _ _ (by simp [app_list,sOf_list,tx]) (same_upd hp) s3⟩
    · rw [e]; exact ⟨p,_,3,_,rfl,rfl,SqL.of upd_same,atI_nat (j:=3) rfl,fin _ _ _ (by simp [app_list,sOf_list,tx]) (same_upd hp) s4⟩
    · rw [e]; exact ⟨p,_,4,_,rfl,rfl,SqL.of upd_same,atI_nat (j:=4) rfl,fin _ _ _ (by simp [app_list,sOf_list,tx]) (same_upd hp) s5⟩
  refine ⟨_,rfl,_,_,rfl,rfl,line_of (by rw [sOf_len,l4]; omega),_,rfl,_,_,rfl,rfl,line_of (by simp only [app_len,sOf_len,l4]; omega),fin _ _ _ ?_ (Same.refl _) (spo_7 ht hu)⟩
  simp [app_list,sOf_list,tx]
end
end K08
namespace L2
open PySem
def dtA : Atom → Dt
  | .name x=>.tup [.str "name", .str x]
  | .num n=>.tup [.str "num", .int n]
  | .gap g=>.tup [.str "gap", .str g,.tup []]
def dtT : Tr → Dt
  | .num n=>.tup [.str "num", .int n]
  | .name x=>.tup [.str "name", .str x]
  | .ask x=>.tup [.str "ask", .str x]
  | .stop x=>.tup [.str "stop", .str x]
  | .gap g as=>.tup [.str "gap", .str g,.tup (as.map dtA)]
  | .say a=>.tup [.str "say", dtT a]
  | .bin o a b=>.tup [.str o.s,dtT a,dtT b]
  | .ite a b c=>.tup [.str "if", dtT a,dtT b,dtT c]
  | .lett x a b=>.tup [.str "let", .str x,dtT a,dtT b]
theorem AtRep.dr {H:Hp} : ∀ {a:Atom} {v:V},AtRep H a v → DR H (dtA a) v
  | .name x,_,⟨a,e,h⟩=>e ▸ .tup h (.cons (.str _) (.cons (.str _) .nil))
  | .num n,_,⟨a,e,h⟩=>e ▸ .tup h (.cons (.str _) (.cons (.int _) .nil))
  | .gap g,_,⟨a,b,e,h,h'⟩=>e ▸ .tup h (.cons (.str _) (.cons (.str _) (.cons (.tup h' .nil) .nil)))
theorem atoms_dr {H:Hp} : ∀ {as:List Atom} {us:List V},Paired (AtRep H) as us → DRs H (as.map dtA) us
  | _,_,.nil=>.nil
  | _,_,.cons r t=>.cons r.dr (atoms_dr t)
theorem Rep.dr {H:Hp} : ∀ {t:Tr} {v:V},Rep H t v → DR H (dtT t) v
  | .num n,_,⟨a,e,h⟩=>e ▸ .tup h (.cons (.str _) (.cons (.int _) .nil))
  | .name n,_,⟨a,e,h⟩=>e ▸ .tup h (.cons (.str _) (.cons (.str _) .nil))
  | .ask n,_,⟨a,e,h⟩=>e ▸ .tup h (.cons (.str _) (.cons (.str _) .nil))
  | .stop n,_,⟨a,e,h⟩=>e ▸ .tup h (.cons (.str _) (.cons (.str _) .nil))
  | .gap g as,_,⟨a,b,us,e,h,h',_,p⟩=>e ▸ .tup h (.cons (.str _) (.cons (.str _) (.cons (.tup h' (atoms_dr p)) .nil)))
  | .say _,_,⟨a,u,e,h,r⟩=>e ▸ .tup h (.cons (.str _) (.cons r.dr .nil))
  | .bin o _ _,_,⟨a,u,w,e,h,r,s⟩=>e ▸ .tup h (.cons (.str _) (.cons r.dr (.cons s.dr .nil)))
  | .ite _ _ _,_,⟨a,u,w,z,e,h,r,s,t⟩=>e ▸ .tup h (.cons (.str _) (.cons r.dr (.cons s.dr (.cons t.dr .nil))))
  | .lett x _ _,_,⟨a,u,w,e,h,r,s⟩=>e ▸ .tup h (.cons (.str _) (.cons (.str _) (.cons r.dr (.cons s.dr .nil))))
theorem dtA_deeps : ∀ as : List Atom,Dt.deeps (as.map dtA) ≤ 2
  | []=>by simp [Dt.deeps]
  | a :: as=>by
    have:=dtA_deeps as
    cases a <;> simp [Dt.deeps,dtA,Dt.deep] <;> omega
theorem dtT_deep : ∀ t : Tr,(dtT t).deep ≤ dpT t + 4
  | .num _=>by simp [dtT,Dt.deep,Dt.deeps]
  | .name _=>by simp [dtT,Dt.deep,Dt.deeps]
  | .ask _=>by simp [dtT,Dt.deep,Dt.deeps]
  | .stop _=>by simp [dtT,Dt.deep,Dt.deeps]
  | .gap _ as=>by have:=dtA_deeps as; simp [dtT,Dt.deep,Dt.deeps]; omega
  | .say a=>by have:=dtT_deep a; simp [dtT,Dt.deep,Dt.deeps,dpT]; omega
  | .bin _ a b=>by have:=dtT_deep a; have:=dtT_deep b; simp [dtT,Dt.deep,Dt.deeps,dpT]; omega
  | .ite a b c=>by have:=dtT_deep a; have:=dtT_deep b; have:=dtT_deep c; simp [dtT,Dt.deep,Dt.deeps,dpT]; omega
  | .lett _ a b=>by have:=dtT_deep a; have:=dtT_deep b; simp [dtT,Dt.deep,Dt.deeps,dpT]; omega
end L2
namespace K08
open PySem PySem.Spec L2 PyProof.Rows
abbrev s_law_same : Stmt:=top 50
theorem sc_law_same : FnScope ["_law_found", "_law_due", "_law_one", "_law_other"] ["_law_found", "_law_due"] (defScope s_law_same):=⟨rfl,rfl,rfl,by decide +kernel,rfl,by decide +kernel,by decide +kernel⟩
section
variable {P:Program} {w:World} {K:PySem.W.Frag} {mg:Str → Option Value} {base:Heap}
def sp_same (n:Nat) : Sp:=fun vs H Q _=>∃ (d:Dt) (v1 v2:V),vs = [v1,v2] ∧ DR H d v1 ∧ DR H d v2 ∧ d.deep < n ∧ ∀ H',Same H H' → Q (.bl true) H'
theorem ok_same {k n:Nat} {f:Addr} {fd:FuncData} (F:Fun K "_law_same" "_law_same" s_law_same f fd) (z_isinstance:mg "isinstance" = none) (z_tuple:mg "tuple" = none) (z_str:mg "str" = none) (z_int:mg "int" = none) (z_bool:mg "bool" = none) (z_len:mg "len" = none) (z_zip:mg "zip" = none)
    (G_law_same:FnB P w K mg base k "_law_same" f fd ["_law_found", "_law_due"] (sp_same n)) : FnOk P w K mg base CX0 (k + 1) f fd ["_law_found", "_law_due"] (sp_same (n + 1)):=by
  refine F.ok sc_law_same (fun vs H Q E h=>?_) (fun cdv A outer s H vs Q E hr h=>?_)
  · obtain ⟨d,v1,v2,rfl,_⟩:=h
    rfl
  obtain ⟨d,v1,v2,rfl,r1,r2,hdn,q⟩:=h
  refine ⟨_,(pss_cons (ps_if (pt_val (pe_callB call_isi (by rfl) z_isinstance PyProof.Rows.boot_isinstance (pa_cons (pv 1) (pa_cons (pe_bltn (v:=.ty _) (by rfl) z_tuple PyProof.Rows.boot_tuple (by rfl)) pa_nil)))) (pss_cons (ps_if (pw_or (pt_not (pt_val (pe_callB call_isi (by rfl) z_isinstance PyProof.Rows.boot_isinstance (pa_cons (pv 0) (pa_cons (pe_bltn (v:=.ty _) (by rfl) z_tuple PyProof.Rows.boot_tuple (by rfl)) pa_nil))))) (pw_or1 (pt_cmpR op_ne (pe_callB call_len_seq (by rfl) z_len PySem.boot_len (pa_cons (pv 0) pa_nil)) (pe_callB call_len_seq (by rfl) z_len PySem.boot_len (pa_cons (pv 1) pa_nil)) (nomark _)))).pt (pss_one (ps_ret pe_bl)) pss_nil)
    (pss_cons (ps_for PassesOwn.never rfl (pi_zip (by rfl) z_zip (pa_cons (pv 0) (pa_cons (pv 1) pa_nil))) (pg_tup rfl (pgs_cons (pg_name (i:=2) sc_law_same.nd rfl (Or.inl rfl)) (pgs_cons (pg_name (i:=3) sc_law_same.nd rfl (Or.inl rfl)) pgs_nil))) (pss_one (ps_if (pt_not (pt_val (pe_call G_law_same.ok hr (by rfl) G_law_same.gl G_law_same.kp G_law_same.bd .nil pass0 (pa_cons (pv 2) (pa_cons (pv 3) pa_nil))))) (pss_one (ps_ret pe_bl)) pss_nil)))
    (pss_one (ps_ret pe_bl)))) pss_nil)
    (pss_cons (ps_if (pt_val (pe_callB call_isi (by rfl) z_isinstance PyProof.Rows.boot_isinstance (pa_cons (pv 1) (pa_cons (pe_bltn (v:=.ty _) (by rfl) z_str PyProof.Rows.boot_str (by rfl)) pa_nil)))) (pss_one (ps_ret (pe_and (pe_callB call_isi (by rfl) z_isinstance PyProof.Rows.boot_isinstance (pa_cons (pv 0) (pa_cons (pe_bltn (v:=.ty _) (by rfl) z_str PyProof.Rows.boot_str (by rfl)) pa_nil))) (pe_one (pe_cmpR op_eq (pv 0) (pv 1) (nomark _)))))) pss_nil)
    (pss_one (ps_ret (pe_and (pe_callB call_isi (by rfl) z_isinstance PyProof.Rows.boot_isinstance (pa_cons (pv 0) (pa_cons (pe_bltn (v:=.ty _) (by rfl) z_int PyProof.Rows.boot_int (by rfl)) pa_nil))) (pe_and (pe_not (pe_callB call_isi (by rfl) z_isinstance PyProof.Rows.boot_isinstance (pa_cons (pv 0) (pa_cons (pe_bltn (v:=.ty _) (by rfl) z_bool PyProof.Rows.boot_bool (by rfl)) pa_nil)))) (pe_one (pe_cmpR op_eq (pv 0) (pv 1) (nomark _))))))))),?_⟩
  cases r1 with
  | @tup a xs ds ha hxs =>
    cases r2 with
    | @tup b ys _ hb hys =>
      have lx:=hxs.length
      have ly:=hys.length
      refine ⟨_,rfl,.ref b, "tuple", _,true,rfl,.tup hb,rfl,_,rfl,iteT ?_⟩
      refine ⟨_,rfl,.ref a, "tuple", _,true,rfl,.tup ha,rfl,_,rfl,iteF ?_⟩
      refine ⟨_,rfl,a,_,rfl,.inr (SqT.of ha),_,rfl,b,_,rfl,.inr (SqT.of hb),rfl,_,rfl,?_⟩
      refine ite2 (fun c=>?_) (fun _=>?_)
      · have en : xs.length = ys.length:=by omega
        rw [en,decide_eq_true rfl] at c
        cases c
      refine ⟨_,rfl,_,rfl,a,b,xs,ys,rfl,ha,hb,?_⟩
      refine for_zip (xs:=xs) (ys:=ys) (fun i σ' H'=>∃ s2 s3 : Option V,σ' = [some (.ref a),some (.ref b),s2,s3] ∧ Same H H') ?_ ?_ ?_ ?_
      · exact ⟨none,none,rfl,Same.refl _⟩
      · rintro i σ1 H1 _ ⟨s2,s3,rfl,g⟩
        exact ⟨g _ _ ha,g _ _ hb⟩
      · rintro i x y T σ1 H1 hx hy ⟨s2,s3,rfl,g⟩ hT
        obtain ⟨d1,e1,rd1⟩:=hxs.get hx
        obtain ⟨d2,e2,rd2⟩:=hys.get hy
        rw [e1] at e2; cases e2
        have g1:=g.trans (same_upd (o:=.tup [x,y]) hT)
        have hd:=deep_get e1
        have hdd : (Dt.tup ds).deep = Dt.deeps ds + 1:=rfl
        refine ⟨T,[x,y],rfl,SqT.of upd_same,rfl,_,_,rfl,_,_,rfl,rfl,?_⟩
        refine ⟨_,rfl,_,rfl,d1,x,y,rfl,rd1.mono g1.tk,rd2.mono g1.tk,by omega,fun H2 g2=>⟨_,rfl,iteF ?_⟩⟩
        exact ⟨_,_,rfl,g1.trans g2⟩
      · rintro σ1 H1 ⟨s2,s3,rfl,g⟩
        exact q H1 g
  | str x =>
    cases r2 with
    | str _ =>
      refine ⟨_,rfl,.str x, "tuple", _,false,rfl,.str x,rfl,_,rfl,iteF ?_⟩
      refine ⟨_,rfl,.str x, "str", _,true,rfl,.str x,rfl,_,rfl,iteT ?_⟩
      refine ⟨_,rfl,.str x, "str", _,true,rfl,.str x,rfl,_,rfl,iteT ?_⟩
      refine ⟨_,rfl,_,rfl,rfl,?_⟩
      rw [decide_eq_true rfl]
      exact q H (Same.refl _)
  | int i =>
    cases r2 with
    | int _ =>
      refine ⟨_,rfl,.int i, "tuple", _,false,rfl,.int i,rfl,_,rfl,iteF ?_⟩
      refine ⟨_,rfl,.int i, "str", _,false,rfl,.int i,rfl,_,rfl,iteF ?_⟩
      refine ⟨_,rfl,.int i, "int", _,true,rfl,.int i,rfl,_,rfl,iteT ?_⟩
      refine ⟨_,rfl,.int i, "bool", _,false,rfl,.int i,rfl,_,rfl,_,rfl,iteT ?_⟩
      refine ⟨_,rfl,_,rfl,rfl,?_⟩
      rw [decide_eq_true rfl]
      exact q H (Same.refl _)
theorem no_same {k:Nat} {f:Addr} {fd:FuncData} : FnOk P w K mg base CX0 k f fd ["_law_found", "_law_due"] (sp_same 0):=by
  have no : ∀ vs H Q E,¬ sp_same 0 vs H Q E:=fun vs H Q E h=>by
    obtain ⟨d,v1,v2,_,_,_,h1,_⟩:=h
    omega
  exact ⟨fun vs H Q E h=>absurd h (no vs H Q E),fun A outer s H args us vs Q E _ _ _ _ h=>absurd h (no vs H Q E)⟩
theorem all_same {k:Nat} {f:Addr} {fd:FuncData} (F:Fun K "_law_same" "_law_same" s_law_same f fd) (b:Binds K fd ["_law_found", "_law_due"] []) (m:mg "_law_same" = some (.ref f)) (z_isinstance:mg "isinstance" = none) (z_tuple:mg "tuple" = none) (z_str:mg "str" = none) (z_int:mg "int" = none) (z_bool:mg "bool" = none) (z_len:mg "len" = none) (z_zip:mg "zip" = none) :
    ∀ n : Nat,FnB P w K mg base (k + n) "_law_same" f fd ["_law_found", "_law_due"] (sp_same n)
  | 0=>⟨no_same,b,F.kp,m⟩
  | n + 1=>⟨ok_same F z_isinstance z_tuple z_str z_int z_bool z_len z_zip (all_same F b m z_isinstance z_tuple z_str z_int z_bool z_len z_zip n),b,F.kp,m⟩
end
end K08
namespace L2
open PySem
theorem cut7 {ns:List Int} (a:Nat) : ∃ ms : List Int,cutV (ns.map V.int) (some (a:Int)) (some ((a + 7 : Nat) : Int)) = ms.map V.int ∧ ms.length ≤ 7:=by
  refine ⟨(ns.drop (min a ns.length)).take (min (a + 7) ns.length - min a ns.length),?_,?_⟩
  · unfold cutV
    rw [List.length_map,HT.sIx_nat,HT.sIx_nat,List.map_take,List.map_drop]
  · rw [List.length_take]
    omega
theorem bothH {c:Bool} {U V:Prop} {H0:Hp} {T:Hp → Prop} (h2:(∀ H',Same H0 H' → T H') → V) (h1:c = true → (∀ H',Same H0 H' → T H') → U) (hB:∀ H',Same H0 H' → T H') : if c = true then U else V:=by
  by_cases h : c = true
  · rw [if_pos h]; exact h1 h hB
  · rw [if_neg h]; exact h2 hB
theorem kinds_nil : kinds1P [] = some ([],[]):=by decide +kernel
theorem one_nil : OneK []:=fun s1 k s2 ks r h=>by
  have : skP (tx " where ") [] = none:=by decide +kernel
  rw [this] at h
  cases h
theorem good_rule {t u:Tr} {ks:List (Str × Str)} (ht:GdS t) (hu:GdS u) (hk:GdK ks) : ruleP (txR t u ks) = some (t,u,ks) ∧ RuleK (txR t u ks) ∧ (txR t u ks).length ≤ 2000 ∧ moF (txR t u ks) ≤ 16:=by
  have dt:=ht.dp
  have du:=hu.dp
  have lk:=hk.ln
  obtain ⟨a,b⟩:=rule_z (z:=txKs ks) ht.ok hu.ok (by omega) (by omega) end_ks
  have e : kinds1P (txKs ks) = some (ks,[]) ∧ OneK (txKs ks):=by
    cases ks with
    | nil=>exact ⟨kinds_nil,one_nil⟩
    | cons k ks =>
      rw [List.length_cons] at lk
      obtain ⟨e1,e2⟩:=kinds_comp hk.ok (by omega) (r:=[]) (by decide +kernel)
      rw [List.append_nil] at e1 e2
      exact ⟨by rw [e1,if_pos hk.st],e2⟩
  refine ⟨?_,b e.2,side_len ht hu (Nat.le_trans (ks_len hk.ok (by omega)) (by decide)),(side_bal ht hu (ks_bal hk.ok)).mo⟩
  unfold txR
  rw [a,e.1]
  exact if_pos rfl
def dtK (k:Str × Str) : Dt:=.tup [.str k.1,.str k.2]
def dtR (t u:Tr) (ks:List (Str × Str)) : Dt:=.tup [dtT t,dtT u,.tup (ks.map dtK)]
theorem kinds_dr {H:Hp} : ∀ {ks:List (Str × Str)} {us:List V},Paired (RpK H) ks us → DRs H (ks.map dtK) us
  | _,_,.nil=>.nil
  | _,_,.cons ⟨p,e,h⟩ t=>.cons (e ▸ .tup h (.cons (.str _) (.cons (.str _) .nil))) (kinds_dr t)
theorem rule_dr {H:Hp} {t u:Tr} {ks:List (Str × Str)} {p:Addr} {a b c:V} (hp:H p = some (.tup [a,b,c])) (ra:Rep H t a) (rb:Rep H u b) (rc:RpKs H ks c) : DR H (dtR t u ks) (.ref p):=by
  obtain ⟨q,us,rfl,hq,hus⟩:=rc
  exact .tup hp (.cons ra.dr (.cons rb.dr (.cons (.tup hq (kinds_dr hus)) .nil)))
theorem dtK_deeps : ∀ ks : List (Str × Str),Dt.deeps (ks.map dtK) ≤ 2
  | []=>by simp [Dt.deeps]
  | a :: as=>by
    have:=dtK_deeps as
    simp [Dt.deeps,dtK,Dt.deep]
    omega
theorem dtR_deep {t u:Tr} {ks:List (Str × Str)} (ht:GdS t) (hu:GdS u) : (dtR t u ks).deep < 20:=by
  have h1:=dtT_deep t
  have h2:=dtT_deep u
  have h3:=dtK_deeps ks
  have dt:=ht.dp
  have du:=hu.dp
  simp [dtR,Dt.deep,Dt.deeps]
  omega
theorem ShOk.gd {t:Tr} {n:Nat} (h:ShOk t n 6) (hn:n ≤ 7) : GdS t:=⟨h.ok,h.dp,h.op,by have:=h.ln; omega⟩
end L2
namespace K08
open PySem PySem.Spec L2 PyProof.Rows
theorem passF {X:Cx} {P:Program} {w:World} : Passes (CXF P w) X (fun _ _ _=>False):=fun _ _ _ _ _ _ _ h=>by
  obtain ⟨_,_,_,_,_,z⟩:=h
  exact z.elim
abbrev s_law : Stmt:=top 51
theorem sc_law : FnScope ["_law_script", "_law_words_here", "_law_kinds_here", "_law_left", "_law_right", "_law_rule", "_law_some", "_law_due", "_law_text", "_law_cell", "_law_bad"] ["_law_script"] (defScope s_law):=⟨rfl,rfl,rfl,by decide +kernel,rfl,by decide +kernel,by decide +kernel⟩
section
variable {P:Program} {w:World} {K:PySem.W.Frag} {mg:Str → Option Value} {base:Heap}
def sp_law (K:PySem.W.Frag) : Sp:=fun vs H Q _=>∃ (a:Addr) (ns:List Int),vs = [.ref a] ∧ SqL K H a (ns.map V.int) ∧ ∀ H',Q (.bl true) H'
theorem ok_law {k:Nat} {f g1 g2 g3 g4 g5 g6 g7 g8 g9 g10 cN cG:Addr} {fd gd1 gd2 gd3 gd4 gd5 gd6 gd7 gd8 gd9 gd10:FuncData} (F:Fun K "law" "law" s_law f fd) (z_isinstance:mg "isinstance" = none) (z_str:mg "str" = none) (z_len:mg "len" = none)
    (G_law_cell_at:FnB P w K mg base k "_law_cell_at" g1 gd1 ["_law_script", "_law_k"] (sp_cell_at K)) (G_law_words:FnB P w K mg base k "_law_words" g2 gd2 ["_law_cell"] sp_words) (G_law_kinds:FnB P w K mg base k "_law_kinds" g3 gd3 ["_law_cell", "_law_words_here"] sp_lkinds)
    (G_law_shape:FnB P w K mg base k "_law_shape" g4 gd4 ["_law_cells", "_law_words_here", "_law_deep"] (sp_shape8 K 7)) (G_law_written:FnB P w K mg base k "_law_written" g5 gd5 ["_law_tree"] (sp_wr 13)) (G_shown_rule:FnB P w K mg base k "shown_rule" g6 gd6 ["rule"] sp_shownr)
    (G_law_same:FnB P w K mg base k "_law_same" g7 gd7 ["_law_found", "_law_due"] (sp_same 20)) (G_read_rule:FnF P w K mg base k "read_rule" g8 gd8 ["text"] (sp_ruleF cN cG)) (G_law_spoiled:FnB P w K mg base k "_law_spoiled" g9 gd9 ["_law_one", "_law_other", "_law_some", "_law_cell"] sp_spoiled)
    (G_law_refused:FnB P w K mg base k "_law_refused" g10 gd10 ["_law_text"] sp_refused) : FnOk P w K mg base CX0 (k + 1) f fd ["_law_script"] (sp_law K):=by
  refine F.ok sc_law (fun vs H Q E h=>?_) (fun cdv A outer s H vs Q E hr h=>?_)
  · obtain ⟨a,ns,rfl,_⟩:=h
    rfl
  obtain ⟨a,ns,rfl,hS,q⟩:=h
  refine sealed ⟨_,(pss_consS (ps_setS (i:=1) sc_law.nd rfl (Or.inl rfl) ⟨pe_call G_law_words.ok hr (by rfl) G_law_words.gl G_law_words.kp G_law_words.bd .nil pass0 (pa_cons (pe_call G_law_cell_at.ok hr (by rfl) G_law_cell_at.gl G_law_cell_at.kp G_law_cell_at.bd .nil pass0 (pa_cons (pv 0) (pa_cons pe_int pa_nil))) pa_nil)⟩)
    (pss_consS (ps_setS (i:=2) sc_law.nd rfl (Or.inl rfl) ⟨pe_call G_law_kinds.ok hr (by rfl) G_law_kinds.gl G_law_kinds.kp G_law_kinds.bd .nil pass0 (pa_cons (pe_call G_law_cell_at.ok hr (by rfl) G_law_cell_at.gl G_law_cell_at.kp G_law_cell_at.bd .nil pass0 (pa_cons (pv 0) (pa_cons pe_int pa_nil))) (pa_cons (pv 1) pa_nil))⟩)
    (pss_consS (ps_setS (i:=3) sc_law.nd rfl (Or.inl rfl) ⟨pe_call G_law_shape.ok hr (by rfl) G_law_shape.gl G_law_shape.kp G_law_shape.bd .nil pass0 (pa_cons (pe_slice (r:=rSlL K) sl_list (pv 0) (po_some pe_int) (po_some pe_int)) (pa_cons (pv 1) (pa_cons pe_int pa_nil)))⟩)
    (pss_consS (ps_setS (i:=4) sc_law.nd rfl (Or.inl rfl) ⟨pe_call G_law_shape.ok hr (by rfl) G_law_shape.gl G_law_shape.kp G_law_shape.bd .nil pass0 (pa_cons (pe_slice (r:=rSlL K) sl_list (pv 0) (po_some pe_int) (po_some pe_int)) (pa_cons (pv 1) (pa_cons pe_int pa_nil)))⟩)
    (pss_consS (ps_setS (i:=5) sc_law.nd rfl (Or.inl rfl) (pe_tupS (pa_consS ⟨pv 3⟩ (pa_consS ⟨pv 4⟩ (pa_consS ⟨pv 2⟩ ⟨pa_nil⟩)))))
    (pss_consS ⟨ps_compB (jj:=6) ["_law_gap", "_law_kind"] [none,none] rfl (pi_tup (pv 2)) (fun _ _ _ _ _=>(pg_tupK (K:=K) (n:=2) rfl rfl (pgs_cons (pg_name (i:=0) (show List.Nodup (["_law_gap", "_law_kind"] : List Str) by decide +kernel) rfl (Or.inl rfl)) (pgs_cons (pg_name (i:=1) (show List.Nodup (["_law_gap", "_law_kind"] : List Str) by decide +kernel) rfl (Or.inl rfl)) pgs_nil)))) (fun _ _ _ _ _=>pts_nil) (fun _ _ _ _ _=>(pe_op op_add_str (pe_op op_add_str (pv 0) pe_str) (pv 1))) rfl sc_law.nd rfl (Or.inl rfl) (Or.inr rfl)⟩
    (pss_consS (ps_setS (i:=7) sc_law.nd rfl (Or.inl rfl) (pe_opS op_add_str (pe_opS op_add_str ⟨pe_call G_law_written.ok hr (by rfl) G_law_written.gl G_law_written.kp G_law_written.bd .nil pass0 (pa_cons (pv 3) pa_nil)⟩ ⟨pe_str⟩) ⟨pe_call G_law_written.ok hr (by rfl) G_law_written.gl G_law_written.kp G_law_written.bd .nil pass0 (pa_cons (pv 4) pa_nil)⟩))
    (pss_consS (ps_ifS ⟨pt_cmpR op_gt (pe_callB call_len_seq (by rfl) z_len PySem.boot_len (pa_cons (pv 6) pa_nil)) pe_int (nomark _)⟩ (pss_oneS (ps_setS (i:=7) sc_law.nd rfl (Or.inl rfl) (pe_opS op_add_str (pe_opS op_add_str ⟨pv 7⟩ ⟨pe_str⟩) (pe_bmS PySem.F.plainAttrs_str PySem.F.slot_str_join PySem.F.type_str_join mt_join ⟨pe_str⟩ (pa_consS ⟨pv 6⟩ ⟨pa_nil⟩))))) ⟨pss_nil⟩)
    (pss_consS (ps_setS (i:=8) sc_law.nd rfl (Or.inl rfl) ⟨pe_call G_shown_rule.ok hr (by rfl) G_shown_rule.gl G_shown_rule.kp G_shown_rule.bd .nil pass0 (pa_cons (pv 5) pa_nil)⟩)
    (pss_consS (ps_ifS ⟨(pw_or (pt_not (pt_val (pe_callB call_isi (by rfl) z_isinstance PyProof.Rows.boot_isinstance (pa_cons (pv 8) (pa_cons (pe_bltn (v:=.ty _) (by rfl) z_str PyProof.Rows.boot_str (by rfl)) pa_nil))))) (pw_or (pt_cmpR op_ne (pv 8) (pv 7) (nomark _)) (pw_or1 (pt_not (pt_val (pe_call G_law_same.ok hr (by rfl) G_law_same.gl G_law_same.kp G_law_same.bd .nil pass0 (pa_cons (pe_call G_read_rule.ok hr (by rfl) G_read_rule.gl G_read_rule.kp G_read_rule.bd .nil passF (pa_cons (pv 8) pa_nil)) (pa_cons (pv 5) pa_nil)))))))).pt⟩ (pss_oneS (ps_retS ⟨pe_bl⟩)) ⟨pss_nil⟩)
    (pss_consS (ps_setS (i:=9) sc_law.nd rfl (Or.inl rfl) ⟨pe_call G_law_cell_at.ok hr (by rfl) G_law_cell_at.gl G_law_cell_at.kp G_law_cell_at.bd .nil pass0 (pa_cons (pv 0) (pa_cons pe_int pa_nil))⟩)
    (pss_consS (ps_setS (i:=10) sc_law.nd rfl (Or.inl rfl) ⟨pe_call G_law_spoiled.ok hr (by rfl) G_law_spoiled.gl G_law_spoiled.kp G_law_spoiled.bd .nil pass0 (pa_cons (pe_call G_law_written.ok hr (by rfl) G_law_written.gl G_law_written.kp G_law_written.bd .nil pass0 (pa_cons (pv 3) pa_nil)) (pa_cons (pe_call G_law_written.ok hr (by rfl) G_law_written.gl G_law_written.kp G_law_written.bd .nil pass0 (pa_cons (pv 4) pa_nil)) (pa_cons (pv 6) (pa_cons (pe_op op_fdiv (pv 9) pe_int) pa_nil))))⟩)
    (pss_consS (ps_ifS ⟨(pw_and (pt_cmpR op_eq (pe_op op_mod (pv 9) pe_int) pe_int (nomark _)) (pw_and1 (pt_not (pt_val (pe_call G_law_refused.ok hr (by rfl) G_law_refused.gl G_law_refused.kp G_law_refused.bd .nil pass0 (pa_cons (pv 10) pa_nil)))))).pt⟩ (pss_oneS (ps_retS ⟨pe_bl⟩)) ⟨pss_nil⟩)
    (pss_oneS (ps_retS ⟨pe_and (pe_cmpR op_eq (pe_call G_shown_rule.ok hr (by rfl) G_shown_rule.gl G_shown_rule.kp G_shown_rule.bd .nil pass0 (pa_cons (pv 5) pa_nil)) (pv 7) (nomark _)) (pe_one (pe_call G_law_same.ok hr (by rfl) G_law_same.gl G_law_same.kp G_law_same.bd .nil pass0 (pa_cons (pe_call G_read_rule.ok hr (by rfl) G_read_rule.gl G_read_rule.kp G_read_rule.bd .nil passF (pa_cons (pv 7) pa_nil)) (pa_cons (pv 5) pa_nil))))⟩))))))))))))))),?_⟩
  have d3 : 3 ≤ sizeLine:=by decide
  obtain ⟨l4,l7,_,_⟩:=l_arr
  refine ⟨_,rfl,a,ns,0,rfl,hS,by decide,fun c0=>⟨c0,rfl,fun lw ws H1 g1 elw hwl hw=>?_⟩⟩
  refine ⟨_,rfl,a,ns,1,rfl,g1.seq hS,by decide,fun c1=>⟨_,rfl,c1,lw,ws,rfl,elw,hwl,hw,fun vk ks H2 g2 rk gk=>?_⟩⟩
  obtain ⟨m1,em1,lm1⟩:=cut7 (ns:=ns) 3
  obtain ⟨m2,em2,lm2⟩:=cut7 (ns:=ns) 10
  have g02:=g1.trans g2
  refine ⟨_,rfl,_,rfl,_,rfl,a,_,rfl,g02.seq hS,fun p1 hp1=>?_⟩
  rw [show cutV (ns.map V.int) (some 3) (some 10) = m1.map V.int from em1]
  have k1:=same_upd (o:=.lst (m1.map V.int)) hp1
  refine ⟨_,rfl,p1,m1,lw,ws,6,rfl,SqL.of upd_same,k1 _ _ (g2 _ _ elw),hwl,hw,by decide,by decide,fun t vt H3 g3 rt okt=>?_⟩
  have g03:=g02.trans (k1.trans g3)
  have rk3:=rk.mono (k1.trans g3).tk
  have elw3:=g3 _ _ (k1 _ _ (g2 _ _ elw))
  refine ⟨_,rfl,_,rfl,_,rfl,a,_,rfl,g03.seq hS,fun p2 hp2=>?_⟩
  rw [show cutV (ns.map V.int) (some 10) (some 17) = m2.map V.int from em2]
  have k2:=same_upd (o:=.lst (m2.map V.int)) hp2
  refine ⟨_,rfl,p2,m2,lw,ws,6,rfl,SqL.of upd_same,k2 _ _ elw3,hwl,hw,by decide,by decide,fun u vu H4 g4 ru oku=>?_⟩
  have ht : GdS t:=ShOk.gd okt lm1
  have hu : GdS u:=ShOk.gd oku lm2
  have lt:=ht.ln
  have lu:=hu.ln
  have dt:=ht.dp
  have du:=hu.dp
  have lk:=gk.ln
  have g34:=k2.trans g4
  have g04:=g03.trans g34
  refine ⟨_,rfl,_,rfl,_,rfl,d3,fun pr hpr=>?_⟩
  have k3:=same_upd (o:=.tup [vt,vu,vk]) hpr
  have er : (upd H4 pr (.tup [vt,vu,vk])) pr = some (.tup [vt,vu,vk]):=upd_same
  have rt5:=rt.mono (g34.trans k3).tk
  have ru5:=ru.mono k3.tk
  have rk5:=rk3.mono (g34.trans k3).tk
  have g05:=g04.trans k3
  generalize upd H4 pr (.tup [vt,vu,vk]) = H5 at er rt5 ru5 rk5 g05 ⊢
  obtain ⟨pc,us,rfl,hpc,hus⟩:=id rk5
  have luk : us.length = ks.length:=paired_len hus
  refine ⟨_,rfl,pc,rfl,⟨_,SqT.of hpc⟩,fun acc hacc=>?_⟩
  refine comp_tupR (xs:=us) (fun i H'=>Same H5 H' ∧ H' acc = some (.lst ((Sk (ks.take i)).map V.str))) ⟨same_upd hacc,upd_same⟩ (fun i H' _ h=>SqT.of (h.1 _ _ hpc)) ?_ ?_
  · rintro i x H6 hx ⟨g6,ea⟩
    obtain ⟨ki,eki,pk,rfl,hpk⟩:=paired_get hus hx
    have hil : i < ks.length:=(List.getElem?_eq_some_iff.mp eki).1
    have ko:=(gk.ok ki (List.mem_of_getElem? eki)).k
    have k8:=ko.1.hi
    have k6:=ko.2
    refine ⟨_,_,rfl,SqT.of (g6 _ _ hpk),rfl,_,_,rfl,_,_,rfl,rfl,.skip (.skip .nil),?_⟩
    refine ⟨_,rfl,_,_,rfl,rfl,line_of (by rw [show (Str.ofString " ").length = 1 by decide +kernel]; omega),_,rfl,_,_,rfl,rfl,line_of (by rw [app_len,show (Str.ofString " ").length = 1 by decide +kernel]; omega),?_⟩
    refine ⟨_,ea,line_lt (by unfold Sk; rw [List.length_map,List.length_map,List.length_take]; omega),same_set g6 hacc,?_⟩
    rw [upd_same,take_next eki,Sk_app,List.map_append]
    have e1 : ki.1 ++ Str.ofString " " ++ ki.2 = sOf (txK ki):=sOf_eq (by rw [app_list,app_list,sp1]; simp [txK])
    rw [e1]
    rfl
  rintro H6 ⟨g6,ea⟩
  rw [List.take_of_length_le (by omega)] at ea
  have g06:=g05.trans g6
  have er6:=g6 _ _ er
  have rt6:=rt5.mono g6.tk
  have ru6:=ru5.mono g6.tk
  have rk6:=rk5.mono g6.tk
  obtain ⟨gr1,gr2,gr3,gr4⟩:=good_rule ht hu gk
  have nG : ¬ Great (sOf (txR t u ks)):=fun z=>by
    rcases z with z | z
    · rw [sOf_len] at z; omega
    · rw [sOf_list] at z; omega
  have hT : (sOf (txR t u ks)).length ≤ 10000:=by rw [sOf_len]; omega
  have gr1' : ruleP (sOf (txR t u ks)).cps.toList = some (t,u,ks):=by rw [sOf_list]; exact gr1
  have gr2' : RuleK (sOf (txR t u ks)).cps.toList:=by rw [sOf_list]; exact gr2
  have hdd:=dtR_deep (ks:=ks) ht hu
  refine ⟨_,rfl,t,vt,rfl,rt6,ht.ok,by omega,by omega,fun H7 g7=>?_⟩
  refine ⟨_,_,rfl,rfl,line_of (by rw [sOf_len,l4]; omega),_,rfl,u,vu,rfl,ru6.mono g7.tk,hu.ok,by omega,by omega,fun H8 g8=>?_⟩
  refine ⟨_,_,rfl,rfl,line_of (by simp only [app_len,sOf_len,l4]; omega),?_⟩
  have g68:=g7.trans g8
  have ea8:=g68 _ _ ea
  have lj : (joinK ks).length ≤ 200:=join_len gk.ok (by omega)
  refine ⟨_,rfl,acc,_,rfl,.inl (SqL.of ea8),_,_,rfl,rfl,_,rfl,?_⟩
  have eg : sOf (txT t) ++ Str.ofString " -> " ++ sOf (txT u) = sOf (txT t ++ (tx " -> " ++ txT u)):=sOf_eq (by simp [app_list,sOf_list,tx])
  rw [eg]
  refine ite2 (fun cl=>?_) (fun cl=>?_)
  · have ne : ks ≠ []:=fun z=>by rw [z] at cl; exact absurd (of_decide_eq_true cl) (by decide)
    refine ⟨_,rfl,_,_,rfl,rfl,line_of (by simp only [sOf_len,List.length_append,arrow4,l7]; omega),rfl,_,rfl,_,acc,_,rfl,rfl,ea8,(by show 2 ≤ 16; decide),sumS gk.ok (by omega),?_⟩
    rw [join_S]
    refine ⟨_,_,rfl,rfl,line_of (by simp only [app_len,sOf_len,List.length_append,arrow4,l7]; omega),?_⟩
    have ed : sOf (txT t ++ (tx " -> " ++ txT u)) ++ Str.ofString " where " ++ sOf (joinK ks) = sOf (txR t u ks):=sOf_eq (by rw [txR,ks_where ne]; simp [app_list,sOf_list,tx])
    rw [ed]
    refine ⟨_,rfl,pr,vt,vu,_,t,u,ks,rfl,g68 _ _ er6,rt6.mono g68.tk,ru6.mono g68.tk,rk6.mono g68.tk,ht.ok,hu.ok,(fun k h=>(gk.ok k h).k),by omega,by omega,by omega,fun H9 g9=>?_⟩
    refine ⟨_,rfl,.str _, "str", _,true,rfl,.str _,rfl,_,rfl,iteF ?_⟩
    refine ⟨_,rfl,_,rfl,rfl,_,rfl,ite2 (fun z=>?_) (fun _=>?_)⟩
    · rw [decide_eq_true rfl] at z
      cases z
    have g69:=g68.trans g9
    refine ⟨_,rfl,sOf (txR t u ks),rfl,hT,fun G=>absurd G nG,fun _=>⟨gr2',fun t' u' ks' e p va vb vc HA gA hp ra rb rc=>?_,fun z=>by rw [gr1'] at z; cases z⟩⟩
    rw [gr1'] at e
    cases e
    have g6A:=g69.trans gA
    refine ⟨_,rfl,dtR t u ks,.ref p,.ref pr,rfl,rule_dr hp ra rb rc,rule_dr (g6A _ _ er6) (rt6.mono g6A.tk) (ru6.mono g6A.tk) (rk6.mono g6A.tk),hdd,fun HB gB=>⟨_,rfl,iteF ?_⟩⟩
    have g6B:=g6A.trans gB
    refine ⟨_,rfl,a,ns,2,rfl,(g06.trans g6B).seq hS,by decide,fun c2=>?_⟩
    refine ⟨_,rfl,t,vt,rfl,rt6.mono g6B.tk,ht.ok,by omega,by omega,fun HC gC=>?_⟩
    refine ⟨_,rfl,u,vu,rfl,ru6.mono (g6B.trans gC).tk,hu.ok,by omega,by omega,fun HD gD=>?_⟩
    have g6D:=g6B.trans (gC.trans gD)
    refine ⟨_,rfl,_,rfl,_,_,rfl,rfl,⟨by decide,by decide⟩,t,u,ks,acc,_,rfl,g6D _ _ ea,ht,hu,gk,fun sb HE gE hsb=>?_⟩
    have g6E:=g6D.trans gE
    refine ⟨_,rfl,_,_,rfl,rfl,(show (0:Int) < 2 by decide),rfl,_,rfl,bothH (H0:=HE) (fun bb=>iteF (bb HE (Same.refl _))) (fun _ bb=>⟨_,rfl,sOf sb,rfl,(by rw [sOf_len]; have:=hsb.ln; omega),(fun z=>by
      have h1:=hsb.ln
      have h2:=hsb.mo
      rcases z with z | z
      · rw [sOf_len] at z; omega
      · rw [sOf_list] at z; omega),(by rw [sOf_list]; exact hsb.bd),fun HF gF=>⟨_,rfl,iteF (bb HF gF)⟩⟩) ?_⟩
    intro HF gF
    have g6F:=g6E.trans gF
    refine ⟨_,rfl,pr,vt,vu,_,t,u,ks,rfl,g6F _ _ er6,rt6.mono g6F.tk,ru6.mono g6F.tk,rk6.mono g6F.tk,ht.ok,hu.ok,(fun k h=>(gk.ok k h).k),by omega,by omega,by omega,fun HG gG=>?_⟩
    refine ⟨_,rfl,rfl,_,rfl,?_⟩
    rw [decide_eq_true (show V.str (sOf (txR t u ks)) = V.str (sOf (txR t u ks)) from rfl)]
    have g6G:=g6F.trans gG
    refine iteT ⟨_,rfl,sOf (txR t u ks),rfl,hT,fun G=>absurd G nG,fun _=>⟨gr2',fun t' u' ks' e p va vb vc HI gI hp ra rb rc=>?_,fun z=>by rw [gr1'] at z; cases z⟩⟩
    rw [gr1'] at e
    cases e
    have g6I:=g6G.trans gI
    exact ⟨_,rfl,dtR t u ks,.ref p,.ref pr,rfl,rule_dr hp ra rb rc,rule_dr (g6I _ _ er6) (rt6.mono g6I.tk) (ru6.mono g6I.tk) (rk6.mono g6I.tk),hdd,fun HJ gJ=>q HJ⟩
  · have ne : ks = []:=Classical.byContradiction fun z=>cl (decide_eq_true (by
      show (0:Int) < (((Sk ks).map V.str).length : Int)
      unfold Sk
      rw [List.length_map,List.length_map]
      have:=List.length_pos_iff.mpr z
      omega))
    have ed : txT t ++ (tx " -> " ++ txT u) = txR t u ks:=by rw [ne]; simp [txR,txKs]
    rw [ed]
    refine ⟨_,rfl,pr,vt,vu,_,t,u,ks,rfl,g68 _ _ er6,rt6.mono g68.tk,ru6.mono g68.tk,rk6.mono g68.tk,ht.ok,hu.ok,(fun k h=>(gk.ok k h).k),by omega,by omega,by omega,fun H9 g9=>?_⟩
    refine ⟨_,rfl,.str _, "str", _,true,rfl,.str _,rfl,_,rfl,iteF ?_⟩
    refine ⟨_,rfl,_,rfl,rfl,_,rfl,ite2 (fun z=>?_) (fun _=>?_)⟩
    · rw [decide_eq_true rfl] at z
      cases z
    have g69:=g68.trans g9
    refine ⟨_,rfl,sOf (txR t u ks),rfl,hT,fun G=>absurd G nG,fun _=>⟨gr2',fun t' u' ks' e p va vb vc HA gA hp ra rb rc=>?_,fun z=>by rw [gr1'] at z; cases z⟩⟩
    rw [gr1'] at e
    cases e
    have g6A:=g69.trans gA
    refine ⟨_,rfl,dtR t u ks,.ref p,.ref pr,rfl,rule_dr hp ra rb rc,rule_dr (g6A _ _ er6) (rt6.mono g6A.tk) (ru6.mono g6A.tk) (rk6.mono g6A.tk),hdd,fun HB gB=>⟨_,rfl,iteF ?_⟩⟩
    have g6B:=g6A.trans gB
    refine ⟨_,rfl,a,ns,2,rfl,(g06.trans g6B).seq hS,by decide,fun c2=>?_⟩
    refine ⟨_,rfl,t,vt,rfl,rt6.mono g6B.tk,ht.ok,by omega,by omega,fun HC gC=>?_⟩
    refine ⟨_,rfl,u,vu,rfl,ru6.mono (g6B.trans gC).tk,hu.ok,by omega,by omega,fun HD gD=>?_⟩
    have g6D:=g6B.trans (gC.trans gD)
    refine ⟨_,rfl,_,rfl,_,_,rfl,rfl,⟨by decide,by decide⟩,t,u,ks,acc,_,rfl,g6D _ _ ea,ht,hu,gk,fun sb HE gE hsb=>?_⟩
    have g6E:=g6D.trans gE
    refine ⟨_,rfl,_,_,rfl,rfl,(show (0:Int) < 2 by decide),rfl,_,rfl,bothH (H0:=HE) (fun bb=>iteF (bb HE (Same.refl _))) (fun _ bb=>⟨_,rfl,sOf sb,rfl,(by rw [sOf_len]; have:=hsb.ln; omega),(fun z=>by
      have h1:=hsb.ln
      have h2:=hsb.mo
      rcases z with z | z
      · rw [sOf_len] at z; omega
      · rw [sOf_list] at z; omega),(by rw [sOf_list]; exact hsb.bd),fun HF gF=>⟨_,rfl,iteF (bb HF gF)⟩⟩) ?_⟩
    intro HF gF
    have g6F:=g6E.trans gF
    refine ⟨_,rfl,pr,vt,vu,_,t,u,ks,rfl,g6F _ _ er6,rt6.mono g6F.tk,ru6.mono g6F.tk,rk6.mono g6F.tk,ht.ok,hu.ok,(fun k h=>(gk.ok k h).k),by omega,by omega,by omega,fun HG gG=>?_⟩
    refine ⟨_,rfl,rfl,_,rfl,?_⟩
    rw [decide_eq_true (show V.str (sOf (txR t u ks)) = V.str (sOf (txR t u ks)) from rfl)]
    have g6G:=g6F.trans gG
    refine iteT ⟨_,rfl,sOf (txR t u ks),rfl,hT,fun G=>absurd G nG,fun _=>⟨gr2',fun t' u' ks' e p va vb vc HI gI hp ra rb rc=>?_,fun z=>by rw [gr1'] at z; cases z⟩⟩
    rw [gr1'] at e
    cases e
    have g6I:=g6G.trans gI
    exact ⟨_,rfl,dtR t u ks,.ref p,.ref pr,rfl,rule_dr hp ra rb rc,rule_dr (g6I _ _ er6) (rt6.mono g6I.tk) (ru6.mono g6I.tk) (rk6.mono g6I.tk),hdd,fun HJ gJ=>q HJ⟩
end
end K08
namespace K08
open PySem PySem.Spec L2 PyProof.Rows
theorem keep_of {K:PySem.W.Frag} {f:Addr} {oc:Value} {od:Option Addr} {fd:FuncData} {sl:Array (Option Value)} (l:K.lookup f = some ⟨oc,od,.func fd,sl⟩) : PySem.W.keepIn K (.ref f) = true:=by unfold PySem.W.keepIn; dsimp only; rw [l]
theorem all_mk {l:PySem.W.OpenLaw} {w:World} {K:PySem.W.Frag} {h:Heap} {mg:Str → Option Value} {fa f0 f1 f2 f3 f4 f5 f6 f7 f8 f9 f10 f11 f12 f13 f14 f15 f16 f17 f18 f19 f20 f21 f22 f23 f24 f25 f26 f27 f28 f29 f30 f31 f32 f33 f34 f35 f36 f37 f38 lv_LEAF_SIGNS lv_KEPT_WORDS c_RecastError c_NoText c_TooGreat c_NoRule c_NoPlace c_Reader:Addr} (X:K.In h) (G:h.Ns mainGlobals mg) (hfa:mg "law" = some (.ref fa))
    {od0 an0:Option Addr} {sl0:Array (Option Value)} {oc0 kV0 dc0 pm0 cd0 ct0:Value}
    {od1 an1:Option Addr} {sl1:Array (Option Value)} {oc1 kV1 dc1 pm1 cd1 ct1:Value}
    {od2 an2:Option Addr} {sl2:Array (Option Value)} {oc2 kV2 dc2 pm2 cd2 ct2:Value}
    {od3 an3:Option Addr} {sl3:Array (Option Value)} {oc3 kV3 dc3 pm3 cd3 ct3:Value}
    {od4 an4:Option Addr} {sl4:Array (Option Value)} {oc4 kV4 dc4 pm4 cd4 ct4:Value}
    {od5 an5:Option Addr} {sl5:Array (Option Value)} {oc5 kV5 dc5 pm5 cd5 ct5:Value}
    {od6 an6:Option Addr} {sl6:Array (Option Value)} {oc6 kV6 dc6 pm6 cd6 ct6:Value}
    {od7 an7:Option Addr} {sl7:Array (Option Value)} {oc7 kV7 dc7 pm7 cd7 ct7:Value}
    {od8 an8:Option Addr} {sl8:Array (Option Value)} {oc8 kV8 dc8 pm8 cd8 ct8:Value}
    {od9 an9:Option Addr} {sl9:Array (Option Value)} {oc9 kV9 dc9 pm9 cd9 ct9:Value}
    {od10 an10:Option Addr} {sl10:Array (Option Value)} {oc10 kV10 dc10 pm10 cd10 ct10:Value}
    {od11 an11:Option Addr} {sl11:Array (Option Value)} {oc11 kV11 dc11 pm11 cd11 ct11:Value}
    {od12 an12:Option Addr} {sl12:Array (Option Value)} {oc12 kV12 dc12 pm12 cd12 ct12:Value}
    {od13 an13:Option Addr} {sl13:Array (Option Value)} {oc13 kV13 dc13 pm13 cd13 ct13:Value}
    {od14 an14:Option Addr} {sl14:Array (Option Value)} {oc14 kV14 dc14 pm14 cd14 ct14:Value}
    {od15 an15:Option Addr} {sl15:Array (Option Value)} {oc15 kV15 dc15 pm15 cd15 ct15:Value}
    {od16 an16:Option Addr} {sl16:Array (Option Value)} {oc16 kV16 dc16 pm16 cd16 ct16:Value}
    {od17 an17:Option Addr} {sl17:Array (Option Value)} {oc17 kV17 dc17 pm17 cd17 ct17:Value}
    {od18 an18:Option Addr} {sl18:Array (Option Value)} {oc18 kV18 dc18 pm18 cd18 ct18:Value}
    {od19 an19:Option Addr} {sl19:Array (Option Value)} {oc19 kV19 dc19 pm19 cd19 ct19:Value}
    {od20 an20:Option Addr} {sl20:Array (Option Value)} {oc20 kV20 dc20 pm20 cd20 ct20:Value}
    {od21 an21:Option Addr} {sl21:Array (Option Value)} {oc21 kV21 dc21 pm21 cd21 ct21:Value}
    {od22 an22:Option Addr} {sl22:Array (Option Value)} {oc22 kV22 dc22 pm22 cd22 ct22:Value}
    {od23 an23:Option Addr} {sl23:Array (Option Value)} {oc23 kV23 dc23 pm23 cd23 ct23:Value}
    {od24 an24:Option Addr} {sl24:Array (Option Value)} {oc24 kV24 dc24 pm24 cd24 ct24:Value}
    {od25 an25:Option Addr} {sl25:Array (Option Value)} {oc25 kV25 dc25 pm25 cd25 ct25:Value}
    {od26 an26:Option Addr} {sl26:Array (Option Value)} {oc26 kV26 dc26 pm26 cd26 ct26:Value}
    {od27 an27:Option Addr} {sl27:Array (Option Value)} {oc27 kV27 dc27 pm27 cd27 ct27:Value}
    {od28 an28:Option Addr} {sl28:Array (Option Value)} {oc28 kV28 dc28 pm28 cd28 ct28:Value}
    {od29 an29:Option Addr} {sl29:Array (Option Value)} {oc29 kV29 dc29 pm29 cd29 ct29:Value}
    {od30 an30:Option Addr} {sl30:Array (Option Value)} {oc30 kV30 dc30 pm30 cd30 ct30:Value}
    {od31 an31:Option Addr} {sl31:Array (Option Value)} {oc31 kV31 dc31 pm31 cd31 ct31:Value}
    {od32 an32:Option Addr} {sl32:Array (Option Value)} {oc32 kV32 dc32 pm32 cd32 ct32:Value}
    {od33 an33:Option Addr} {sl33:Array (Option Value)} {oc33 kV33 dc33 pm33 cd33 ct33:Value}
    {od34 an34:Option Addr} {sl34:Array (Option Value)} {oc34 kV34 dc34 pm34 cd34 ct34:Value}
    {od35 an35:Option Addr} {sl35:Array (Option Value)} {oc35 kV35 dc35 pm35 cd35 ct35:Value}
    {od36 an36:Option Addr} {sl36:Array (Option Value)} {oc36 kV36 dc36 pm36 cd36 ct36:Value}
    {od37 an37:Option Addr} {sl37:Array (Option Value)} {oc37 kV37 dc37 pm37 cd37 ct37:Value}
    {od38 an38:Option Addr} {sl38:Array (Option Value)} {oc38 kV38 dc38 pm38 cd38 ct38:Value}
    {odC0:Option Addr} {slC0:Array (Option Value)} {nC0:Nat} {tC0_0 tC0_1 tC0_2 tC0_3 tC0_4:Tok}
    {odC1:Option Addr} {slC1:Array (Option Value)} {nC1:Nat} {tC1_0 tC1_1 tC1_2 tC1_3 tC1_4 tC1_5 tC1_6 tC1_7 tC1_8 tC1_9 tC1_10:Tok}
    {tk1 tk2 tk3 tk4 tk5 tk6 x0 x1 x2 x3:Tok} {bd:Addr} {esB:Array DictEntry} {nB:Nat}
    {dd_RecastError dd_NoText dd_TooGreat dd_NoRule dd_NoPlace:Option Addr} {cd_RecastError cd_NoText cd_TooGreat cd_NoRule cd_NoPlace:ClassData} {sl_RecastError sl_NoText sl_TooGreat sl_NoRule sl_NoPlace:Array (Option Value)}
    (aK_Reader:PySem.W.nsIn K mainGlobals "Reader" = some (some (.ref c_Reader))) (pg_Reader:PySem.W.plainGet K c_Reader Str.empty = true) (hd_Reader:PySem.W.hasDictIn K c_Reader = true) (po_Reader:PySem.W.plainOver K c_Reader = true) (sa_Reader:PySem.W.findIn K (.ref c_Reader) "__setattr__" = some (some (.builtin "object.__setattr__"))) (mk_Reader:PySem.W.makesIn K c_Reader = true) (kc_Reader:PySem.W.keepIn K (.ref c_Reader) = true)
    (n_Reader_text:PySem.W.findIn K (.ref c_Reader) "text" = some none)
    (n_Reader_at:PySem.W.findIn K (.ref c_Reader) "at" = some none)
    (a0:PySem.W.nsIn K mainGlobals "atom_text" = some (some (.ref f0)))
    (l0:K.lookup f0 = some ⟨oc0,od0,.func (PySem.W.fnOf "atom_text" "atom_text" (defArgs s_atom_text) (defBody s_atom_text) (defScope s_atom_text) .none kV0 dc0 pm0 an0 cd0 ct0),sl0⟩) (c0:PySem.W.codeIn K cd0 "atom_text" = true)
    (a1:PySem.W.nsIn K mainGlobals "gap_text" = some (some (.ref f1)))
    (l1:K.lookup f1 = some ⟨oc1,od1,.func (PySem.W.fnOf "gap_text" "gap_text" (defArgs s_gap_text) (defBody s_gap_text) (defScope s_gap_text) .none kV1 dc1 pm1 an1 cd1 ct1),sl1⟩) (c1:PySem.W.codeIn K cd1 "gap_text" = true)
    (a2:PySem.W.nsIn K mainGlobals "leaf_text" = some (some (.ref f2)))
    (l2:K.lookup f2 = some ⟨oc2,od2,.func (PySem.W.fnOf "leaf_text" "leaf_text" (defArgs s_leaf_text) (defBody s_leaf_text) (defScope s_leaf_text) .none kV2 dc2 pm2 an2 cd2 ct2),sl2⟩) (c2:PySem.W.codeIn K cd2 "leaf_text" = true)
    (a3:PySem.W.nsIn K mainGlobals "written_row" = some (some (.ref f3)))
    (l3:K.lookup f3 = some ⟨oc3,od3,.func (PySem.W.fnOf "written_row" "written_row" (defArgs s_written_row) (defBody s_written_row) (defScope s_written_row) .none kV3 dc3 pm3 an3 cd3 ct3),sl3⟩) (c3:PySem.W.codeIn K cd3 "written_row" = true)
    (a4:PySem.W.nsIn K mainGlobals "shown" = some (some (.ref f4)))
    (l4:K.lookup f4 = some ⟨oc4,od4,.func (PySem.W.fnOf "shown" "shown" (defArgs s_shown) (defBody s_shown) (defScope s_shown) .none kV4 dc4 pm4 an4 cd4 ct4),sl4⟩) (c4:PySem.W.codeIn K cd4 "shown" = true)
    (a5:PySem.W.nsIn K mainGlobals "shown_rule" = some (some (.ref f5)))
    (l5:K.lookup f5 = some ⟨oc5,od5,.func (PySem.W.fnOf "shown_rule" "shown_rule" (defArgs s_shown_rule) (defBody s_shown_rule) (defScope s_shown_rule) .none kV5 dc5 pm5 an5 cd5 ct5),sl5⟩) (c5:PySem.W.codeIn K cd5 "shown_rule" = true)
    (a6:PySem.W.findIn K (.ref c_Reader) "__init__" = some (some (.ref f6))) (i6:PySem.W.isFn K (.ref f6) = true)
    (l6:K.lookup f6 = some ⟨oc6,od6,.func (PySem.W.fnOf "__init__" "Reader.__init__" (defArgs s_Reader___init__) (defBody s_Reader___init__) (defScope s_Reader___init__) .none kV6 dc6 pm6 an6 cd6 ct6),sl6⟩) (c6:PySem.W.codeIn K cd6 "Reader.__init__" = true)
    (a7:PySem.W.findIn K (.ref c_Reader) "stands" = some (some (.ref f7))) (i7:PySem.W.isFn K (.ref f7) = true)
    (l7:K.lookup f7 = some ⟨oc7,od7,.func (PySem.W.fnOf "stands" "Reader.stands" (defArgs s_Reader_stands) (defBody s_Reader_stands) (defScope s_Reader_stands) .none kV7 dc7 pm7 an7 cd7 ct7),sl7⟩) (c7:PySem.W.codeIn K cd7 "Reader.stands" = true)
    (a8:PySem.W.findIn K (.ref c_Reader) "skipped" = some (some (.ref f8))) (i8:PySem.W.isFn K (.ref f8) = true)
    (l8:K.lookup f8 = some ⟨oc8,od8,.func (PySem.W.fnOf "skipped" "Reader.skipped" (defArgs s_Reader_skipped) (defBody s_Reader_skipped) (defScope s_Reader_skipped) .none kV8 dc8 pm8 an8 cd8 ct8),sl8⟩) (c8:PySem.W.codeIn K cd8 "Reader.skipped" = true)
    (a9:PySem.W.findIn K (.ref c_Reader) "skip" = some (some (.ref f9))) (i9:PySem.W.isFn K (.ref f9) = true)
    (l9:K.lookup f9 = some ⟨oc9,od9,.func (PySem.W.fnOf "skip" "Reader.skip" (defArgs s_Reader_skip) (defBody s_Reader_skip) (defScope s_Reader_skip) .none kV9 dc9 pm9 an9 cd9 ct9),sl9⟩) (c9:PySem.W.codeIn K cd9 "Reader.skip" = true)
    (a10:PySem.W.findIn K (.ref c_Reader) "run_of" = some (some (.ref f10))) (i10:PySem.W.isFn K (.ref f10) = true)
    (l10:K.lookup f10 = some ⟨oc10,od10,.func (PySem.W.fnOf "run_of" "Reader.run_of" (defArgs s_Reader_run_of) (defBody s_Reader_run_of) (defScope s_Reader_run_of) .none kV10 dc10 pm10 an10 cd10 ct10),sl10⟩) (c10:PySem.W.codeIn K cd10 "Reader.run_of" = true)
    (a11:PySem.W.findIn K (.ref c_Reader) "skip_end" = some (some (.ref f11))) (i11:PySem.W.isFn K (.ref f11) = true)
    (l11:K.lookup f11 = some ⟨oc11,od11,.func (PySem.W.fnOf "skip_end" "Reader.skip_end" (defArgs s_Reader_skip_end) (defBody s_Reader_skip_end) (defScope s_Reader_skip_end) .none kV11 dc11 pm11 an11 cd11 ct11),sl11⟩) (c11:PySem.W.codeIn K cd11 "Reader.skip_end" = true)
    (a12:PySem.W.nsIn K mainGlobals "most_open" = some (some (.ref f12)))
    (l12:K.lookup f12 = some ⟨oc12,od12,.func (PySem.W.fnOf "most_open" "most_open" (defArgs s_most_open) (defBody s_most_open) (defScope s_most_open) .none kV12 dc12 pm12 an12 cd12 ct12),sl12⟩) (c12:PySem.W.codeIn K cd12 "most_open" = true)
    (a13:PySem.W.nsIn K mainGlobals "begun" = some (some (.ref f13)))
    (l13:K.lookup f13 = some ⟨oc13,od13,.func (PySem.W.fnOf "begun" "begun" (defArgs s_begun) (defBody s_begun) (defScope s_begun) .none kV13 dc13 pm13 an13 cd13 ct13),sl13⟩) (c13:PySem.W.codeIn K cd13 "begun" = true)
    (a14:PySem.W.nsIn K mainGlobals "word_from" = some (some (.ref f14)))
    (l14:K.lookup f14 = some ⟨oc14,od14,.func (PySem.W.fnOf "word_from" "word_from" (defArgs s_word_from) (defBody s_word_from) (defScope s_word_from) .none kV14 dc14 pm14 an14 cd14 ct14),sl14⟩) (c14:PySem.W.codeIn K cd14 "word_from" = true)
    (a15:PySem.W.nsIn K mainGlobals "number_from" = some (some (.ref f15)))
    (l15:K.lookup f15 = some ⟨oc15,od15,.func (PySem.W.fnOf "number_from" "number_from" (defArgs s_number_from) (defBody s_number_from) (defScope s_number_from) .none kV15 dc15 pm15 an15 cd15 ct15),sl15⟩) (c15:PySem.W.codeIn K cd15 "number_from" = true)
    (a16:PySem.W.nsIn K mainGlobals "plain_leaf_from" = some (some (.ref f16)))
    (l16:K.lookup f16 = some ⟨oc16,od16,.func (PySem.W.fnOf "plain_leaf_from" "plain_leaf_from" (defArgs s_plain_leaf_from) (defBody s_plain_leaf_from) (defScope s_plain_leaf_from) .none kV16 dc16 pm16 an16 cd16 ct16),sl16⟩) (c16:PySem.W.codeIn K cd16 "plain_leaf_from" = true)
    (a17:PySem.W.nsIn K mainGlobals "atom_from" = some (some (.ref f17)))
    (l17:K.lookup f17 = some ⟨oc17,od17,.func (PySem.W.fnOf "atom_from" "atom_from" (defArgs s_atom_from) (defBody s_atom_from) (defScope s_atom_from) .none kV17 dc17 pm17 an17 cd17 ct17),sl17⟩) (c17:PySem.W.codeIn K cd17 "atom_from" = true)
    (a18:PySem.W.nsIn K mainGlobals "atoms_from" = some (some (.ref f18)))
    (l18:K.lookup f18 = some ⟨oc18,od18,.func (PySem.W.fnOf "atoms_from" "atoms_from" (defArgs s_atoms_from) (defBody s_atoms_from) (defScope s_atoms_from) .none kV18 dc18 pm18 an18 cd18 ct18),sl18⟩) (c18:PySem.W.codeIn K cd18 "atoms_from" = true)
    (a19:PySem.W.nsIn K mainGlobals "shape_from" = some (some (.ref f19)))
    (l19:K.lookup f19 = some ⟨oc19,od19,.func (PySem.W.fnOf "shape_from" "shape_from" (defArgs s_shape_from) (defBody s_shape_from) (defScope s_shape_from) .none kV19 dc19 pm19 an19 cd19 ct19),sl19⟩) (c19:PySem.W.codeIn K cd19 "shape_from" = true)
    (a20:PySem.W.nsIn K mainGlobals "bracket_from" = some (some (.ref f20)))
    (l20:K.lookup f20 = some ⟨oc20,od20,.func (PySem.W.fnOf "bracket_from" "bracket_from" (defArgs s_bracket_from) (defBody s_bracket_from) (defScope s_bracket_from) .none kV20 dc20 pm20 an20 cd20 ct20),sl20⟩) (c20:PySem.W.codeIn K cd20 "bracket_from" = true)
    (a21:PySem.W.nsIn K mainGlobals "if_from" = some (some (.ref f21)))
    (l21:K.lookup f21 = some ⟨oc21,od21,.func (PySem.W.fnOf "if_from" "if_from" (defArgs s_if_from) (defBody s_if_from) (defScope s_if_from) .none kV21 dc21 pm21 an21 cd21 ct21),sl21⟩) (c21:PySem.W.codeIn K cd21 "if_from" = true)
    (a22:PySem.W.nsIn K mainGlobals "let_from" = some (some (.ref f22)))
    (l22:K.lookup f22 = some ⟨oc22,od22,.func (PySem.W.fnOf "let_from" "let_from" (defArgs s_let_from) (defBody s_let_from) (defScope s_let_from) .none kV22 dc22 pm22 an22 cd22 ct22),sl22⟩) (c22:PySem.W.codeIn K cd22 "let_from" = true)
    (a23:PySem.W.nsIn K mainGlobals "two_from" = some (some (.ref f23)))
    (l23:K.lookup f23 = some ⟨oc23,od23,.func (PySem.W.fnOf "two_from" "two_from" (defArgs s_two_from) (defBody s_two_from) (defScope s_two_from) .none kV23 dc23 pm23 an23 cd23 ct23),sl23⟩) (c23:PySem.W.codeIn K cd23 "two_from" = true)
    (a24:PySem.W.nsIn K mainGlobals "kind_from" = some (some (.ref f24)))
    (l24:K.lookup f24 = some ⟨oc24,od24,.func (PySem.W.fnOf "kind_from" "kind_from" (defArgs s_kind_from) (defBody s_kind_from) (defScope s_kind_from) .none kV24 dc24 pm24 an24 cd24 ct24),sl24⟩) (c24:PySem.W.codeIn K cd24 "kind_from" = true)
    (a25:PySem.W.nsIn K mainGlobals "kinds_from" = some (some (.ref f25)))
    (l25:K.lookup f25 = some ⟨oc25,od25,.func (PySem.W.fnOf "kinds_from" "kinds_from" (defArgs s_kinds_from) (defBody s_kinds_from) (defScope s_kinds_from) .none kV25 dc25 pm25 an25 cd25 ct25),sl25⟩) (c25:PySem.W.codeIn K cd25 "kinds_from" = true)
    (a26:PySem.W.nsIn K mainGlobals "read_rule" = some (some (.ref f26)))
    (l26:K.lookup f26 = some ⟨oc26,od26,.func (PySem.W.fnOf "read_rule" "read_rule" (defArgs s_read_rule) (defBody s_read_rule) (defScope s_read_rule) .none kV26 dc26 pm26 an26 cd26 ct26),sl26⟩) (c26:PySem.W.codeIn K cd26 "read_rule" = true)
    (a27:PySem.W.nsIn K mainGlobals "_law_cell_at" = some (some (.ref f27)))
    (l27:K.lookup f27 = some ⟨oc27,od27,.func (PySem.W.fnOf "_law_cell_at" "_law_cell_at" (defArgs s_law_cell_at) (defBody s_law_cell_at) (defScope s_law_cell_at) .none kV27 dc27 pm27 an27 cd27 ct27),sl27⟩) (c27:PySem.W.codeIn K cd27 "_law_cell_at" = true)
    (a28:PySem.W.nsIn K mainGlobals "_law_word" = some (some (.ref f28)))
    (l28:K.lookup f28 = some ⟨oc28,od28,.func (PySem.W.fnOf "_law_word" "_law_word" (defArgs s_law_word) (defBody s_law_word) (defScope s_law_word) .none kV28 dc28 pm28 an28 cd28 ct28),sl28⟩) (c28:PySem.W.codeIn K cd28 "_law_word" = true)
    (a29:PySem.W.nsIn K mainGlobals "_law_words" = some (some (.ref f29)))
    (l29:K.lookup f29 = some ⟨oc29,od29,.func (PySem.W.fnOf "_law_words" "_law_words" (defArgs s_law_words) (defBody s_law_words) (defScope s_law_words) .none kV29 dc29 pm29 an29 cd29 ct29),sl29⟩) (c29:PySem.W.codeIn K cd29 "_law_words" = true)
    (a30:PySem.W.nsIn K mainGlobals "_law_leaf" = some (some (.ref f30)))
    (l30:K.lookup f30 = some ⟨oc30,od30,.func (PySem.W.fnOf "_law_leaf" "_law_leaf" (defArgs s_law_leaf) (defBody s_law_leaf) (defScope s_law_leaf) .none kV30 dc30 pm30 an30 cd30 ct30),sl30⟩) (c30:PySem.W.codeIn K cd30 "_law_leaf" = true)
    (a31:PySem.W.nsIn K mainGlobals "_law_shape" = some (some (.ref f31)))
    (l31:K.lookup f31 = some ⟨oc31,od31,.func (PySem.W.fnOf "_law_shape" "_law_shape" (defArgs s_law_shape) (defBody s_law_shape) (defScope s_law_shape) .none kV31 dc31 pm31 an31 cd31 ct31),sl31⟩) (c31:PySem.W.codeIn K cd31 "_law_shape" = true)
    (a32:PySem.W.nsIn K mainGlobals "_law_leaf_written" = some (some (.ref f32)))
    (l32:K.lookup f32 = some ⟨oc32,od32,.func (PySem.W.fnOf "_law_leaf_written" "_law_leaf_written" (defArgs s_law_leaf_written) (defBody s_law_leaf_written) (defScope s_law_leaf_written) .none kV32 dc32 pm32 an32 cd32 ct32),sl32⟩) (c32:PySem.W.codeIn K cd32 "_law_leaf_written" = true)
    (a33:PySem.W.nsIn K mainGlobals "_law_written" = some (some (.ref f33)))
    (l33:K.lookup f33 = some ⟨oc33,od33,.func (PySem.W.fnOf "_law_written" "_law_written" (defArgs s_law_written) (defBody s_law_written) (defScope s_law_written) .none kV33 dc33 pm33 an33 cd33 ct33),sl33⟩) (c33:PySem.W.codeIn K cd33 "_law_written" = true)
    (a34:PySem.W.nsIn K mainGlobals "_law_kinds" = some (some (.ref f34)))
    (l34:K.lookup f34 = some ⟨oc34,od34,.func (PySem.W.fnOf "_law_kinds" "_law_kinds" (defArgs s_law_kinds) (defBody s_law_kinds) (defScope s_law_kinds) .none kV34 dc34 pm34 an34 cd34 ct34),sl34⟩) (c34:PySem.W.codeIn K cd34 "_law_kinds" = true)
    (a35:PySem.W.nsIn K mainGlobals "_law_spoiled" = some (some (.ref f35)))
    (l35:K.lookup f35 = some ⟨oc35,od35,.func (PySem.W.fnOf "_law_spoiled" "_law_spoiled" (defArgs s_law_spoiled) (defBody s_law_spoiled) (defScope s_law_spoiled) .none kV35 dc35 pm35 an35 cd35 ct35),sl35⟩) (c35:PySem.W.codeIn K cd35 "_law_spoiled" = true)
    (a36:PySem.W.nsIn K mainGlobals "_law_refused" = some (some (.ref f36)))
    (l36:K.lookup f36 = some ⟨oc36,od36,.func (PySem.W.fnOf "_law_refused" "_law_refused" (defArgs s_law_refused) (defBody s_law_refused) (defScope s_law_refused) .none kV36 dc36 pm36 an36 cd36 ct36),sl36⟩) (c36:PySem.W.codeIn K cd36 "_law_refused" = true)
    (a37:PySem.W.nsIn K mainGlobals "_law_same" = some (some (.ref f37)))
    (l37:K.lookup f37 = some ⟨oc37,od37,.func (PySem.W.fnOf "_law_same" "_law_same" (defArgs s_law_same) (defBody s_law_same) (defScope s_law_same) .none kV37 dc37 pm37 an37 cd37 ct37),sl37⟩) (c37:PySem.W.codeIn K cd37 "_law_same" = true)
    (a38:PySem.W.nsIn K mainGlobals "law" = some (some (.ref f38)))
    (l38:K.lookup f38 = some ⟨oc38,od38,.func (PySem.W.fnOf "law" "law" (defArgs s_law) (defBody s_law) (defScope s_law) .none kV38 dc38 pm38 an38 cd38 ct38),sl38⟩) (c38:PySem.W.codeIn K cd38 "law" = true)
    (aC0:PySem.W.nsIn K mainGlobals "LEAF_SIGNS" = some (some (.ref lv_LEAF_SIGNS))) (lC0:K.lookup lv_LEAF_SIGNS = some ⟨.type "tuple", odC0,.seq #[.str "num" tC0_0,.str "name" tC0_1,.str "ask" tC0_2,.str "stop" tC0_3,.str "gap" tC0_4] nC0,slC0⟩)
    (aC1:PySem.W.nsIn K mainGlobals "KEPT_WORDS" = some (some (.ref lv_KEPT_WORDS))) (lC1:K.lookup lv_KEPT_WORDS = some ⟨.type "tuple", odC1,.seq #[.str "let" tC1_0,.str "in" tC1_1,.str "if" tC1_2,.str "then" tC1_3,.str "else" tC1_4,.str "say" tC1_5,.str "ask" tC1_6,.str "stop" tC1_7,.str "where" tC1_8,.str "quiet" tC1_9,.str "number" tC1_10] nC1,slC1⟩)
    (aX0:PySem.W.nsIn K mainGlobals "RecastError" = some (some (.ref c_RecastError)))
    (aX1:PySem.W.nsIn K mainGlobals "NoText" = some (some (.ref c_NoText)))
    (aX2:PySem.W.nsIn K mainGlobals "TooGreat" = some (some (.ref c_TooGreat)))
    (aX3:PySem.W.nsIn K mainGlobals "NoRule" = some (some (.ref c_NoRule)))
    (aX4:PySem.W.nsIn K mainGlobals "NoPlace" = some (some (.ref c_NoPlace)))
    (aLt:PySem.W.nsIn K mainGlobals "LETTERS" = some (some (.str "abcdefghijklmnopqrstuvwxyz" tk1)))
    (aFg:PySem.W.nsIn K mainGlobals "FIGURES" = some (some (.str "0123456789" tk2)))
    (aM1:PySem.W.nsIn K mainGlobals "MOST_SIGNS" = some (some (.int 2000 tk3)))
    (aM2:PySem.W.nsIn K mainGlobals "MOST_OPEN" = some (some (.int 16 tk4)))
    (aM3:PySem.W.nsIn K mainGlobals "MOST_LETTERS" = some (some (.int 8 tk5)))
    (aM4:PySem.W.nsIn K mainGlobals "MOST_FIGURES" = some (some (.int 30 tk6)))
    (aB:PySem.W.nsIn K mainGlobals "BETWEEN" = some (some (.ref bd)))
    (lB:K.lookup bd = some ⟨.type "dict", none,.dict esB nB,#[]⟩)
    (kB:PySem.W.KeysLit w.params esB.toList)
    (sB:(bd == sysModules) = false)
    (pB:Paired (fun (x:Str) (e:DictEntry)=>∃ t,e.key = .str x t) betw esB.toList)
    (nB0:PySem.W.nsIn K bd "add" = some (some (.str " + " x0)))
    (nB1:PySem.W.nsIn K bd "sub" = some (some (.str " - " x1)))
    (nB2:PySem.W.nsIn K bd "mul" = some (some (.str " * " x2)))
    (nB3:PySem.W.nsIn K bd "then" = some (some (.str " ; " x3)))
    (RecastError_ga:PySem.W.findIn K (.ref c_RecastError) "__getattribute__" = some (some (.builtin "BaseException.__getattribute__")))
    (RecastError_gt:PySem.W.findIn K (.ref c_RecastError) "__getattr__" = some none)
    (RecastError_bs:PySem.W.mroIn K c_RecastError (.type "BaseException") = some true)
    (RecastError_cl:PySem.W.findIn K (.ref c_RecastError) "__class__" = some (some (.builtin "object.__class__")))
    (RecastError_ob:PySem.W.mroIn K c_RecastError (.type "object") = some true)
    (NoText_ga:PySem.W.findIn K (.ref c_NoText) "__getattribute__" = some (some (.builtin "BaseException.__getattribute__")))
    (NoText_gt:PySem.W.findIn K (.ref c_NoText) "__getattr__" = some none)
    (NoText_bs:PySem.W.mroIn K c_NoText (.type "BaseException") = some true)
    (NoText_cl:PySem.W.findIn K (.ref c_NoText) "__class__" = some (some (.builtin "object.__class__")))
    (NoText_ob:PySem.W.mroIn K c_NoText (.type "object") = some true)
    (R_ty:PySem.W.typeIn K (.ref c_RecastError) = some (.type "type"))
    (lk_RecastError:K.lookup c_RecastError = some ⟨.type "type", dd_RecastError,.cls cd_RecastError,sl_RecastError⟩)
    (lk_NoText:K.lookup c_NoText = some ⟨.type "type", dd_NoText,.cls cd_NoText,sl_NoText⟩)
    (lk_TooGreat:K.lookup c_TooGreat = some ⟨.type "type", dd_TooGreat,.cls cd_TooGreat,sl_TooGreat⟩)
    (lk_NoRule:K.lookup c_NoRule = some ⟨.type "type", dd_NoRule,.cls cd_NoRule,sl_NoRule⟩)
    (lk_NoPlace:K.lookup c_NoPlace = some ⟨.type "type", dd_NoPlace,.cls cd_NoPlace,sl_NoPlace⟩)
    (x_NoText:PySem.W.excIn K c_NoText bmVE "ValueError.__new__" = true)
    (nR_NoText:PySem.W.mroIn K c_NoText (.ref c_RecastError) = some true)
    (ne_NoText_TooGreat:c_NoText ≠ c_TooGreat)
    (sb_NoText_TooGreat:PySem.W.subIn K (.ref c_NoText) (.ref c_TooGreat) = some false)
    (ne_NoText_NoRule:c_NoText ≠ c_NoRule)
    (sb_NoText_NoRule:PySem.W.subIn K (.ref c_NoText) (.ref c_NoRule) = some false)
    (ne_NoText_NoPlace:c_NoText ≠ c_NoPlace)
    (sb_NoText_NoPlace:PySem.W.subIn K (.ref c_NoText) (.ref c_NoPlace) = some false)
    (sb_NoText_V:PySem.W.subIn K (.ref c_NoText) (.type "ValueError") = some true)
    (x_TooGreat:PySem.W.excIn K c_TooGreat bmVE "ValueError.__new__" = true)
    (z_len:PySem.W.nsIn K mainGlobals "len" = some none)
    (z_range:PySem.W.nsIn K mainGlobals "range" = some none)
    (z_isinstance:PySem.W.nsIn K mainGlobals "isinstance" = some none)
    (z_int:PySem.W.nsIn K mainGlobals "int" = some none)
    (z_str:PySem.W.nsIn K mainGlobals "str" = some none)
    (z_tuple:PySem.W.nsIn K mainGlobals "tuple" = some none)
    (z_any:PySem.W.nsIn K mainGlobals "any" = some none)
    (z_max:PySem.W.nsIn K mainGlobals "max" = some none)
    (z_sorted:PySem.W.nsIn K mainGlobals "sorted" = some none)
    (z_set:PySem.W.nsIn K mainGlobals "set" = some none)
    (z_bool:PySem.W.nsIn K mainGlobals "bool" = some none)
    (z_zip:PySem.W.nsIn K mainGlobals "zip" = some none)
    (z_ValueError:PySem.W.nsIn K mainGlobals "ValueError" = some none)
    : ∃ fd : FuncData,(∀ (s:Shared) (v:Value),BindsTo s fd ⟨[v],[]⟩ [("_law_script", v)]) ∧ ∀ base : Heap,K.In base → base.Ns mainGlobals mg → FnOk l.prog w K mg base CX0 60 fa fd ["_law_script"] (sp_law K):=by
  have e:=hfa.symm.trans (PySem.W.mg_of X G a38)
  cases e
  have z_len:=PySem.W.mg_none_of X G z_len
  have z_range:=PySem.W.mg_none_of X G z_range
  have z_isinstance:=PySem.W.mg_none_of X G z_isinstance
  have z_int:=PySem.W.mg_none_of X G z_int
  have z_str:=PySem.W.mg_none_of X G z_str
  have z_tuple:=PySem.W.mg_none_of X G z_tuple
  have z_any:=PySem.W.mg_none_of X G z_any
  have z_max:=PySem.W.mg_none_of X G z_max
  have z_sorted:=PySem.W.mg_none_of X G z_sorted
  have z_set:=PySem.W.mg_none_of X G z_set
  have z_bool:=PySem.W.mg_none_of X G z_bool
  have z_zip:=PySem.W.mg_none_of X G z_zip
  have z_ValueError:=PySem.W.mg_none_of X G z_ValueError
  have m_LEAF_SIGNS:=PySem.W.mg_of X G aC0
  have h_LEAF_SIGNS : LeafK K lv_LEAF_SIGNS:=⟨_,_,_,lC0,rfl,rfl,(by show 5 ≤ sizeLine; decide),(.cons ⟨_,rfl⟩ (.cons ⟨_,rfl⟩ (.cons ⟨_,rfl⟩ (.cons ⟨_,rfl⟩ (.cons ⟨_,rfl⟩ .nil)))))⟩
  have m_KEPT_WORDS:=PySem.W.mg_of X G aC1
  have h_KEPT_WORDS : KeptT K lv_KEPT_WORDS:=⟨_,_,_,lC1,rfl,rfl,(by show 11 ≤ sizeLine; decide),(.cons ⟨_,rfl⟩ (.cons ⟨_,rfl⟩ (.cons ⟨_,rfl⟩ (.cons ⟨_,rfl⟩ (.cons ⟨_,rfl⟩ (.cons ⟨_,rfl⟩ (.cons ⟨_,rfl⟩ (.cons ⟨_,rfl⟩ (.cons ⟨_,rfl⟩ (.cons ⟨_,rfl⟩ (.cons ⟨_,rfl⟩ .nil)))))))))))⟩
  have m_RecastError:=PySem.W.mg_of X G aX0
  have m_NoText:=PySem.W.mg_of X G aX1
  have m_TooGreat:=PySem.W.mg_of X G aX2
  have m_NoRule:=PySem.W.mg_of X G aX3
  have m_NoPlace:=PySem.W.mg_of X G aX4
  have T_Reader : TxtR K mg c_Reader:=⟨⟨pg_Reader,hd_Reader,po_Reader,sa_Reader⟩,n_Reader_text,n_Reader_at,PySem.W.mg_of X G aK_Reader⟩
  have m_LETTERS : mg "LETTERS" = some (.str abcS tk1):=PySem.W.mg_of X G aLt
  have m_FIGURES : mg "FIGURES" = some (.str figS tk2):=PySem.W.mg_of X G aFg
  have m_MS:=PySem.W.mg_of X G aM1
  have m_MO:=PySem.W.mg_of X G aM2
  have m_ML:=PySem.W.mg_of X G aM3
  have m_MF:=PySem.W.mg_of X G aM4
  have m_BETWEEN:=PySem.W.mg_of X G aB
  have h_BETWEEN : KDicW K w.params bd betw:=⟨⟨esB,nB,lB,kB,pB⟩,by decide +kernel,sB⟩
  have hB : KBtw K bd:=fun o=>by
    cases o
    · exact ⟨_,nB0⟩
    · exact ⟨_,nB1⟩
    · exact ⟨_,nB2⟩
    · exact ⟨_,nB3⟩
  have XR : ExC K c_RecastError:=⟨⟨RecastError_ga,RecastError_gt,RecastError_bs,RecastError_cl,RecastError_ob,cls_of lk_RecastError⟩,R_ty⟩
  have XN : Er K c_RecastError c_NoText c_TooGreat c_NoRule c_NoPlace c_NoText false:=⟨⟨NoText_ga,NoText_gt,NoText_bs,NoText_cl,NoText_ob,cls_of lk_NoText⟩,nR_NoText,kit_self,kit_ref ne_NoText_TooGreat lk_TooGreat sb_NoText_TooGreat,kit_ref ne_NoText_NoRule lk_NoRule sb_NoText_NoRule,kit_ref ne_NoText_NoPlace lk_NoPlace sb_NoText_NoPlace,kit_ty (by decide +kernel) sb_NoText_V⟩
  have k0:=keep_of l0
  have F0:=fun_mk (st:=s_atom_text) l0 c0 k0
  have b0:=F0.binds (ps:=["atom"]) fun _ _ _ _ _ _ us hl=>match us,hl with | [_],_=>rfl
  have m0:=PySem.W.mg_of X G a0
  have k1:=keep_of l1
  have F1:=fun_mk (st:=s_gap_text) l1 c1 k1
  have b1:=F1.binds (ps:=["gap"]) fun _ _ _ _ _ _ us hl=>match us,hl with | [_],_=>rfl
  have m1:=PySem.W.mg_of X G a1
  have k2:=keep_of l2
  have F2:=fun_mk (st:=s_leaf_text) l2 c2 k2
  have b2:=F2.binds (ps:=["leaf"]) fun _ _ _ _ _ _ us hl=>match us,hl with | [_],_=>rfl
  have m2:=PySem.W.mg_of X G a2
  have k3:=keep_of l3
  have F3:=fun_mk (st:=s_written_row) l3 c3 k3
  have b3:=F3.binds (ps:=["tree"]) fun _ _ _ _ _ _ us hl=>match us,hl with | [_],_=>rfl
  have m3:=PySem.W.mg_of X G a3
  have k4:=keep_of l4
  have F4:=fun_mk (st:=s_shown) l4 c4 k4
  have b4:=F4.binds (ps:=["tree"]) fun _ _ _ _ _ _ us hl=>match us,hl with | [_],_=>rfl
  have m4:=PySem.W.mg_of X G a4
  have k5:=keep_of l5
  have F5:=fun_mk (st:=s_shown_rule) l5 c5 k5
  have b5:=F5.binds (ps:=["rule"]) fun _ _ _ _ _ _ us hl=>match us,hl with | [_],_=>rfl
  have m5:=PySem.W.mg_of X G a5
  have k6:=keep_of l6
  have F6:=fun_mk (st:=s_Reader___init__) l6 c6 k6
  have b6:=F6.binds (ps:=["self", "text"]) fun _ _ _ _ _ _ us hl=>match us,hl with | [_,_],_=>rfl
  have k7:=keep_of l7
  have F7:=fun_mk (st:=s_Reader_stands) l7 c7 k7
  have b7:=F7.binds (ps:=["self", "piece"]) fun _ _ _ _ _ _ us hl=>match us,hl with | [_,_],_=>rfl
  have k8:=keep_of l8
  have F8:=fun_mk (st:=s_Reader_skipped) l8 c8 k8
  have b8:=F8.binds (ps:=["self", "piece"]) fun _ _ _ _ _ _ us hl=>match us,hl with | [_,_],_=>rfl
  have k9:=keep_of l9
  have F9:=fun_mk (st:=s_Reader_skip) l9 c9 k9
  have b9:=F9.binds (ps:=["self", "piece"]) fun _ _ _ _ _ _ us hl=>match us,hl with | [_,_],_=>rfl
  have k10:=keep_of l10
  have F10:=fun_mk (st:=s_Reader_run_of) l10 c10 k10
  have b10:=F10.binds (ps:=["self", "signs"]) fun _ _ _ _ _ _ us hl=>match us,hl with | [_,_],_=>rfl
  have k11:=keep_of l11
  have F11:=fun_mk (st:=s_Reader_skip_end) l11 c11 k11
  have b11:=F11.binds (ps:=["self"]) fun _ _ _ _ _ _ us hl=>match us,hl with | [_],_=>rfl
  have k12:=keep_of l12
  have F12:=fun_mk (st:=s_most_open) l12 c12 k12
  have b12:=F12.binds (ps:=["text"]) fun _ _ _ _ _ _ us hl=>match us,hl with | [_],_=>rfl
  have m12:=PySem.W.mg_of X G a12
  have k13:=keep_of l13
  have F13:=fun_mk (st:=s_begun) l13 c13 k13
  have b13:=F13.binds (ps:=["text"]) fun _ _ _ _ _ _ us hl=>match us,hl with | [_],_=>rfl
  have m13:=PySem.W.mg_of X G a13
  have k14:=keep_of l14
  have F14:=fun_mk (st:=s_word_from) l14 c14 k14
  have b14:=F14.binds (ps:=["reader"]) fun _ _ _ _ _ _ us hl=>match us,hl with | [_],_=>rfl
  have m14:=PySem.W.mg_of X G a14
  have k15:=keep_of l15
  have F15:=fun_mk (st:=s_number_from) l15 c15 k15
  have b15:=F15.binds (ps:=["reader"]) fun _ _ _ _ _ _ us hl=>match us,hl with | [_],_=>rfl
  have m15:=PySem.W.mg_of X G a15
  have k16:=keep_of l16
  have F16:=fun_mk (st:=s_plain_leaf_from) l16 c16 k16
  have b16:=F16.binds (ps:=["reader"]) fun _ _ _ _ _ _ us hl=>match us,hl with | [_],_=>rfl
  have m16:=PySem.W.mg_of X G a16
  have k17:=keep_of l17
  have F17:=fun_mk (st:=s_atom_from) l17 c17 k17
  have b17:=F17.binds (ps:=["reader"]) fun _ _ _ _ _ _ us hl=>match us,hl with | [_],_=>rfl
  have m17:=PySem.W.mg_of X G a17
  have k18:=keep_of l18
  have F18:=fun_mk (st:=s_atoms_from) l18 c18 k18
  have b18:=F18.binds (ps:=["reader"]) fun _ _ _ _ _ _ us hl=>match us,hl with | [_],_=>rfl
  have m18:=PySem.W.mg_of X G a18
  have k19:=keep_of l19
  have F19:=fun_mk (st:=s_shape_from) l19 c19 k19
  have b19:=F19.binds (ps:=["reader"]) fun _ _ _ _ _ _ us hl=>match us,hl with | [_],_=>rfl
  have m19:=PySem.W.mg_of X G a19
  have k20:=keep_of l20
  have F20:=fun_mk (st:=s_bracket_from) l20 c20 k20
  have b20:=F20.binds (ps:=["reader"]) fun _ _ _ _ _ _ us hl=>match us,hl with | [_],_=>rfl
  have m20:=PySem.W.mg_of X G a20
  have k21:=keep_of l21
  have F21:=fun_mk (st:=s_if_from) l21 c21 k21
  have b21:=F21.binds (ps:=["reader"]) fun _ _ _ _ _ _ us hl=>match us,hl with | [_],_=>rfl
  have m21:=PySem.W.mg_of X G a21
  have k22:=keep_of l22
  have F22:=fun_mk (st:=s_let_from) l22 c22 k22
  have b22:=F22.binds (ps:=["reader"]) fun _ _ _ _ _ _ us hl=>match us,hl with | [_],_=>rfl
  have m22:=PySem.W.mg_of X G a22
  have k23:=keep_of l23
  have F23:=fun_mk (st:=s_two_from) l23 c23 k23
  have b23:=F23.binds (ps:=["reader"]) fun _ _ _ _ _ _ us hl=>match us,hl with | [_],_=>rfl
  have m23:=PySem.W.mg_of X G a23
  have k24:=keep_of l24
  have F24:=fun_mk (st:=s_kind_from) l24 c24 k24
  have b24:=F24.binds (ps:=["reader"]) fun _ _ _ _ _ _ us hl=>match us,hl with | [_],_=>rfl
  have m24:=PySem.W.mg_of X G a24
  have k25:=keep_of l25
  have F25:=fun_mk (st:=s_kinds_from) l25 c25 k25
  have b25:=F25.binds (ps:=["reader"]) fun _ _ _ _ _ _ us hl=>match us,hl with | [_],_=>rfl
  have m25:=PySem.W.mg_of X G a25
  have k26:=keep_of l26
  have F26:=fun_mk (st:=s_read_rule) l26 c26 k26
  have b26:=F26.binds (ps:=["text"]) fun _ _ _ _ _ _ us hl=>match us,hl with | [_],_=>rfl
  have m26:=PySem.W.mg_of X G a26
  have k27:=keep_of l27
  have F27:=fun_mk (st:=s_law_cell_at) l27 c27 k27
  have b27:=F27.binds (ps:=["_law_script", "_law_k"]) fun _ _ _ _ _ _ us hl=>match us,hl with | [_,_],_=>rfl
  have m27:=PySem.W.mg_of X G a27
  have k28:=keep_of l28
  have F28:=fun_mk (st:=s_law_word) l28 c28 k28
  have b28:=F28.binds (ps:=["_law_cell", "_law_long", "_law_at", "_law_turn"]) fun _ _ _ _ _ _ us hl=>match us,hl with | [_,_,_,_],_=>rfl
  have m28:=PySem.W.mg_of X G a28
  have k29:=keep_of l29
  have F29:=fun_mk (st:=s_law_words) l29 c29 k29
  have b29:=F29.binds (ps:=["_law_cell"]) fun _ _ _ _ _ _ us hl=>match us,hl with | [_],_=>rfl
  have m29:=PySem.W.mg_of X G a29
  have k30:=keep_of l30
  have F30:=fun_mk (st:=s_law_leaf) l30 c30 k30
  have b30:=F30.binds (ps:=["_law_cell", "_law_words_here"]) fun _ _ _ _ _ _ us hl=>match us,hl with | [_,_],_=>rfl
  have m30:=PySem.W.mg_of X G a30
  have k31:=keep_of l31
  have F31:=fun_mk (st:=s_law_shape) l31 c31 k31
  have b31:=F31.binds (ps:=["_law_cells", "_law_words_here", "_law_deep"]) fun _ _ _ _ _ _ us hl=>match us,hl with | [_,_,_],_=>rfl
  have m31:=PySem.W.mg_of X G a31
  have k32:=keep_of l32
  have F32:=fun_mk (st:=s_law_leaf_written) l32 c32 k32
  have b32:=F32.binds (ps:=["_law_tree"]) fun _ _ _ _ _ _ us hl=>match us,hl with | [_],_=>rfl
  have m32:=PySem.W.mg_of X G a32
  have k33:=keep_of l33
  have F33:=fun_mk (st:=s_law_written) l33 c33 k33
  have b33:=F33.binds (ps:=["_law_tree"]) fun _ _ _ _ _ _ us hl=>match us,hl with | [_],_=>rfl
  have m33:=PySem.W.mg_of X G a33
  have k34:=keep_of l34
  have F34:=fun_mk (st:=s_law_kinds) l34 c34 k34
  have b34:=F34.binds (ps:=["_law_cell", "_law_words_here"]) fun _ _ _ _ _ _ us hl=>match us,hl with | [_,_],_=>rfl
  have m34:=PySem.W.mg_of X G a34
  have k35:=keep_of l35
  have F35:=fun_mk (st:=s_law_spoiled) l35 c35 k35
  have b35:=F35.binds (ps:=["_law_one", "_law_other", "_law_some", "_law_cell"]) fun _ _ _ _ _ _ us hl=>match us,hl with | [_,_,_,_],_=>rfl
  have m35:=PySem.W.mg_of X G a35
  have k36:=keep_of l36
  have F36:=fun_mk (st:=s_law_refused) l36 c36 k36
  have b36:=F36.binds (ps:=["_law_text"]) fun _ _ _ _ _ _ us hl=>match us,hl with | [_],_=>rfl
  have m36:=PySem.W.mg_of X G a36
  have k37:=keep_of l37
  have F37:=fun_mk (st:=s_law_same) l37 c37 k37
  have b37:=F37.binds (ps:=["_law_found", "_law_due"]) fun _ _ _ _ _ _ us hl=>match us,hl with | [_,_],_=>rfl
  have m37:=PySem.W.mg_of X G a37
  have k38:=keep_of l38
  have F38:=fun_mk (st:=s_law) l38 c38 k38
  have b38:=F38.binds (ps:=["_law_script"]) fun _ _ _ _ _ _ us hl=>match us,hl with | [_],_=>rfl
  have m38:=PySem.W.mg_of X G a38
  refine ⟨PySem.W.fnOf "law" "law" (defArgs s_law) (defBody s_law) (defScope s_law) .none kV38 dc38 pm38 an38 cd38 ct38,fun s v=>.of_eq rfl,fun base _ _=>?_⟩
  have G0 : FnB l.prog w K mg base 1 "atom_text" f0 _ _ _:=⟨ok_atext (k:=0) F0 z_str,b0,k0,m0⟩
  have G1 : FnB l.prog w K mg base 2 "gap_text" f1 _ _ _:=⟨ok_gtext F1 (G0.up (k:=1) (by decide)),b1,k1,m1⟩
  have G2 : FnB l.prog w K mg base 3 "leaf_text" f2 _ _ _:=⟨ok_ltext F2 z_str (G1.up (k:=2) (by decide)),b2,k2,m2⟩
  have G3 : FnB l.prog w K mg base 4 "written_row" f3 _ _ _:=⟨ok_row F3 m_LEAF_SIGNS h_LEAF_SIGNS m_BETWEEN h_BETWEEN hB (G2.up (k:=3) (by decide)),b3,k3,m3⟩
  have G4 : FnB l.prog w K mg base 5 "shown" f4 _ _ _:=⟨ok_shown F4 z_isinstance z_str (G3.up (k:=4) (by decide)),b4,k4,m4⟩
  have G5 : FnB l.prog w K mg base 6 "shown_rule" f5 _ _ _:=⟨ok_shownr F5 (G4.up (k:=5) (by decide)),b5,k5,m5⟩
  have G6 : FnM l.prog w K mg base 1 c_Reader "__init__" f6 _ _ _:=⟨ok_init (k:=0) F6 T_Reader,b6,⟨a6,i6,k6⟩⟩
  have G7 : FnM l.prog w K mg base 1 c_Reader "stands" f7 _ _ _:=⟨ok_stands (k:=0) F7 T_Reader,b7,⟨a7,i7,k7⟩⟩
  have G8 : FnM l.prog w K mg base 2 c_Reader "skipped" f8 _ _ _:=⟨ok_skipped F8 T_Reader z_len (G7.up (k:=1) (by decide)),b8,⟨a8,i8,k8⟩⟩
  have G9 : FnMF l.prog w K mg base 3 c_Reader "skip" f9 _ _ _:=⟨okF_skip F9 T_Reader m_NoText x_NoText (G8.up (k:=2) (by decide)),b9,⟨a9,i9,k9⟩⟩
  have G10 : FnM l.prog w K mg base 1 c_Reader "run_of" f10 _ _ _:=⟨ok_run_of (k:=0) F10 T_Reader z_len,b10,⟨a10,i10,k10⟩⟩
  have G11 : FnMF l.prog w K mg base 1 c_Reader "skip_end" f11 _ _ _:=⟨okF_skip_end (k:=0) F11 T_Reader z_len m_NoText x_NoText,b11,⟨a11,i11,k11⟩⟩
  have G14 : FnF l.prog w K mg base 2 "word_from" f14 _ _ _:=⟨okF_word F14 T_Reader z_len m_LETTERS m_ML m_KEPT_WORDS h_KEPT_WORDS m_NoText x_NoText (G10.up (k:=1) (by decide)),b14,k14,m14⟩
  have G15 : FnF l.prog w K mg base 2 "number_from" f15 _ _ _:=⟨okF_number F15 T_Reader z_len z_int m_FIGURES m_MF m_NoText x_NoText (G10.up (k:=1) (by decide)),b15,k15,m15⟩
  have G16 : FnF l.prog w K mg base 3 "plain_leaf_from" f16 _ _ _:=⟨okF_pleaf F16 T_Reader z_any m_FIGURES (G7.up (k:=2) (by decide)) (G15.up (k:=2) (by decide)) (G14.up (k:=2) (by decide)),b16,k16,m16⟩
  have G17 : FnF l.prog w K mg base 4 "atom_from" f17 _ _ _:=⟨okF_atom F17 T_Reader (G8.up (k:=3) (by decide)) (G16.up (k:=3) (by decide)) (G14.up (k:=3) (by decide)),b17,k17,m17⟩
  have G18 : FnF l.prog w K mg base 5 "atoms_from" f18 _ _ _:=⟨okF_atoms F18 T_Reader z_tuple (G8.up (k:=4) (by decide)) (G9.up (k:=4) (by decide)) (G17.up (k:=4) (by decide)),b18,k18,m18⟩
  have G19:=allF_shape F19 F20 F21 F22 F23 b19 b20 b21 b22 b23 m19 m20 m21 m22 m23 T_Reader m_BETWEEN h_BETWEEN hB m_NoText x_NoText (G8.up (k:=5) (by decide)) (G9.up (k:=5) (by decide)) (G14.up (k:=5) (by decide)) (G18.up (k:=5) (by decide)) (G16.up (k:=5) (by decide)) 17
  have G12 : FnB l.prog w K mg base 1 "most_open" f12 _ _ _:=⟨ok_most (k:=0) F12 z_max,b12,k12,m12⟩
  have G13 : FnF l.prog w K mg base 3 "begun" f13 _ _ _:=⟨okF_begun F13 z_len m_MS m_MO T_Reader ⟨mk_Reader,a6,i6,kc_Reader⟩ m_TooGreat x_TooGreat (G12.up (k:=2) (by decide)) (G6.up (k:=1) (by decide)),b13,k13,m13⟩
  have G24 : FnF l.prog w K mg base 4 "kind_from" f24 _ _ _:=⟨okF_kind F24 T_Reader m_NoText x_NoText (G8.up (k:=3) (by decide)) (G9.up (k:=3) (by decide)) (G14.up (k:=3) (by decide)),b24,k24,m24⟩
  have G25 : FnF l.prog w K mg base 5 "kinds_from" f25 _ _ _:=⟨okF_kinds F25 T_Reader z_tuple z_sorted z_set m_NoText x_NoText (G8.up (k:=4) (by decide)) (G24.up (k:=4) (by decide)),b25,k25,m25⟩
  have G26 : FnF l.prog w K mg base 57 "read_rule" f26 _ _ _:=⟨okF_rule F26 T_Reader (G13.up (k:=56) (by decide)) (G19.up (k:=56) (by decide)) (G9.up (k:=56) (by decide)) (G25.up (k:=56) (by decide)) (G11.up (k:=56) (by decide)),b26,k26,m26⟩
  have G27 : FnB l.prog w K mg base 1 "_law_cell_at" f27 _ _ _:=⟨ok_cell_at (k:=0) F27 z_len,b27,k27,m27⟩
  have G28 : FnB l.prog w K mg base 1 "_law_word" f28 _ _ _:=⟨ok_lword (k:=0) F28 z_range,b28,k28,m28⟩
  have G29 : FnB l.prog w K mg base 2 "_law_words" f29 _ _ _:=⟨ok_words F29 z_range (G28.up (k:=1) (by decide)),b29,k29,m29⟩
  have G30 : FnB l.prog w K mg base 1 "_law_leaf" f30 _ _ _:=⟨ok_leaf (k:=0) F30 z_tuple,b30,k30,m30⟩
  have G31:=all_shape8 F31 b31 m31 z_len (G30.up (k:=1) (by decide)) 7
  have G32:=all_lwr (P:=l.prog) (w:=w) (base:=base) (k:=0) F32 b32 m32 z_str 2
  have G33:=all_wr F33 b33 m33 (G32.up (k:=2) (by decide)) 13
  have G34 : FnB l.prog w K mg base 1 "_law_kinds" f34 _ _ _:=⟨ok_lkinds (k:=0) F34 z_range z_tuple z_sorted,b34,k34,m34⟩
  have G35 : FnB l.prog w K mg base 1 "_law_spoiled" f35 _ _ _:=⟨ok_spoiled (k:=0) F35 z_len,b35,k35,m35⟩
  have G36 : FnB l.prog w K mg base 58 "_law_refused" f36 _ _ _:=⟨ok_refused F36 z_isinstance z_ValueError m_RecastError m_NoText m_TooGreat m_NoRule m_NoPlace XR XN (G26.up (k:=57) (by decide)),b36,k36,m36⟩
  have G37:=all_same (P:=l.prog) (w:=w) (base:=base) (k:=0) F37 b37 m37 z_isinstance z_tuple z_str z_int z_bool z_len z_zip 20
  exact ok_law F38 z_isinstance z_str z_len (G27.up (k:=59) (by decide)) (G29.up (k:=59) (by decide)) (G34.up (k:=59) (by decide)) (G31.up (k:=59) (by decide)) (G33.up (k:=59) (by decide)) (G5.up (k:=59) (by decide)) (G37.up (k:=59) (by decide)) (G26.up (k:=59) (by decide)) (G35.up (k:=59) (by decide)) (G36.up (k:=59) (by decide))
theorem walk {l:PySem.W.OpenLaw} {q:Program} {loose:List Str} {XP:(Str → Option Value) → Heap → Prop} {YP:World → Heap → Prop} {d:DefRec} {K:Params → PySem.W.Frag} (hn:l.most = some 63) (hdf:d.params.defaults = [])
    (hY:∀ (w:World) (h:Heap),YP w h → (K w.params).In h)
    (F:∀ (w:World) (mg:Str → Option Value) (fa:Addr) (h:Heap),(K w.params).In h → h.Ns mainGlobals mg → mg d.name = some (.ref fa) →
      ∃ fd : FuncData,(∀ (s:Shared) (u:Value),BindsTo s fd ⟨[u],[]⟩ [("_law_script", u)]) ∧ ∀ base : Heap,(K w.params).In base → base.Ns mainGlobals mg → FnOk l.prog w (K w.params) mg base CX0 60 fa fd ["_law_script"] (sp_law (K w.params))) :
    PySem.W.WalkO q loose XP YP l.row.toRowW d [] (fun f vs=>PySem.call f vs) :=
  L2.walk_of (n:=63) (k:=60) (x := "_law_script") (CX:=fun _=>CX0) (sp:=fun w=>sp_law (K w.params)) hn (by decide) hdf ⟨rfl,by decide,by decide⟩ hY F (fun _ _ a ns hl _ hS=>⟨a,ns,rfl,hS,fun _=>rfl⟩) fun _ _ _ _ _ z=>z
end K08
def PySem.W.Fast.tw7179093997482188112 : Unit:=()
def PySem.W.Fast.tw2925084484815686143 : Unit:=()
def PySem.W.Fast.tw10308502939231273576 : Unit:=()
def PySem.W.Fast.tw15326852004531345359 : Unit:=()
def PySem.W.Fast.tw16730166268502049989 : Unit:=()
def PySem.W.Fast.tw8279007574672679128 : Unit:=()
def PySem.W.Fast.tw11501727816413440902 : Unit:=()
def PySem.W.Fast.tw15067918335276468185 : Unit:=()
def PySem.W.Fast.tw8439531629437345108 : Unit:=()
def PySem.W.Fast.tw9572480238140628245 : Unit:=()
def PySem.W.Fast.tw10110092827927964791 : Unit:=()
open PySem PySem.W PyProof.Rows
set_option maxRecDepth 100000 in
set_option maxHeartbeats 0 in
theorem PySem.Challenge.cw_recastle_k08_rules_read_again_holds : PySem.Challenge.rw_recastle_k08_rules_read_again.Holds := by
  w_on; o_law; k_head; (case hw=>w_witness2)
  k_fill
  refine K08.walk (l:=PySem.Challenge.rw_recastle_k08_rules_read_again) rfl rfl (fun w h Y=>PySem.W.kIn_of Y) ?F
  case F =>
    intro w mg fa h KX G hmg
    refine' K08.all_mk KX G hmg ?aK_Reader ?pg_Reader ?hd_Reader ?po_Reader ?sa_Reader ?mk_Reader ?kc_Reader ?n_Reader_text ?n_Reader_at ?a0 ?l0 ?c0 ?a1 ?l1 ?c1 ?a2 ?l2 ?c2 ?a3 ?l3 ?c3 ?a4 ?l4 ?c4 ?a5 ?l5 ?c5 ?a6 ?i6 ?l6 ?c6 ?a7 ?i7 ?l7 ?c7 ?a8 ?i8 ?l8 ?c8 ?a9 ?i9 ?l9 ?c9 ?a10 ?i10 ?l10 ?c10 ?a11 ?i11 ?l11 ?c11 ?a12 ?l12 ?c12 ?a13 ?l13 ?c13 ?a14 ?l14 ?c14 ?a15 ?l15 ?c15 ?a16 ?l16 ?c16 ?a17 ?l17 ?c17 ?a18 ?l18 ?c18 ?a19 ?l19 ?c19 ?a20 ?l20 ?c20 ?a21 ?l21 ?c21 ?a22 ?l22 ?c22 ?a23 ?l23 ?c23 ?a24 ?l24 ?c24 ?a25 ?l25 ?c25 ?a26 ?l26 ?c26 ?a27 ?l27 ?c27 ?a28 ?l28 ?c28 ?a29 ?l29 ?c29 ?a30 ?l30 ?c30 ?a31 ?l31 ?c31 ?a32 ?l32 ?c32 ?a33 ?l33 ?c33 ?a34 ?l34 ?c34 ?a35 ?l35 ?c35 ?a36 ?l36 ?c36 ?a37 ?l37 ?c37 ?a38 ?l38 ?c38 ?aC0 ?lC0 ?aC1 ?lC1 ?aX0 ?aX1 ?aX2 ?aX3 ?aX4 ?aLt ?aFg ?aM1 ?aM2 ?aM3 ?aM4 ?aB ?lB ?kB ?sB ?pB ?nB0 ?nB1 ?nB2 ?nB3 ?RecastError_ga ?RecastError_gt ?RecastError_bs ?RecastError_cl ?RecastError_ob ?NoText_ga ?NoText_gt ?NoText_bs ?NoText_cl ?NoText_ob ?R_ty ?lk_RecastError ?lk_NoText ?lk_TooGreat ?lk_NoRule ?lk_NoPlace ?x_NoText ?nR_NoText ?ne_NoText_TooGreat ?sb_NoText_TooGreat ?ne_NoText_NoRule ?sb_NoText_NoRule ?ne_NoText_NoPlace ?sb_NoText_NoPlace ?sb_NoText_V ?x_TooGreat ?z_len ?z_range ?z_isinstance ?z_int ?z_str ?z_tuple ?z_any ?z_max ?z_sorted ?z_set ?z_bool ?z_zip ?z_ValueError
    (case aK_Reader=>k_is); (case pg_Reader=>k_is); (case hd_Reader=>k_is); (case po_Reader=>k_is)
    (case sa_Reader=>k_is); (case mk_Reader=>k_is); (case kc_Reader=>k_is); (case n_Reader_text=>k_is)
    (case n_Reader_at=>k_is); (case a0=>k_is); (case l0=>k_is); (case c0=>k_is)
    (case a1=>k_is); (case l1=>k_is); (case c1=>k_is); (case a2=>k_is)
    (case l2=>k_is); (case c2=>k_is); (case a3=>k_is); (case l3=>k_is)
    (case c3=>k_is); (case a4=>k_is); (case l4=>k_is); (case c4=>k_is)
    (case a5=>k_is); (case l5=>k_is); (case c5=>k_is); (case a6=>k_is)
    (case i6=>k_is); (case l6=>k_is); (case c6=>k_is); (case a7=>k_is)
    (case i7=>k_is); (case l7=>k_is); (case c7=>k_is); (case a8=>k_is)
    (case i8=>k_is); (case l8=>k_is); (case c8=>k_is); (case a9=>k_is)
    (case i9=>k_is); (case l9=>k_is); (case c9=>k_is); (case a10=>k_is)
    (case i10=>k_is); (case l10=>k_is); (case c10=>k_is); (case a11=>k_is)
    (case i11=>k_is); (case l11=>k_is); (case c11=>k_is); (case a12=>k_is)
    (case l12=>k_is); (case c12=>k_is); (case a13=>k_is); (case l13=>k_is)
    (case c13=>k_is); (case a14=>k_is); (case l14=>k_is); (case c14=>k_is)
    (case a15=>k_is); (case l15=>k_is); (case c15=>k_is); (case a16=>k_is)
    (case l16=>k_is); (case c16=>k_is); (case a17=>k_is); (case l17=>k_is)
    (case c17=>k_is); (case a18=>k_is); (case l18=>k_is); (case c18=>k_is)
    (case a19=>k_is); (case l19=>k_is); (case c19=>k_is); (case a20=>k_is)
    (case l20=>k_is); (case c20=>k_is); (case a21=>k_is); (case l21=>k_is)
    (case c21=>k_is); (case a22=>k_is); (case l22=>k_is); (case c22=>k_is)
    (case a23=>k_is); (case l23=>k_is); (case c23=>k_is); (case a24=>k_is)
    (case l24=>k_is); (case c24=>k_is); (case a25=>k_is); (case l25=>k_is)
    (case c25=>k_is); (case a26=>k_is); (case l26=>k_is); (case c26=>k_is)
    (case a27=>k_is); (case l27=>k_is); (case c27=>k_is); (case a28=>k_is)
    (case l28=>k_is); (case c28=>k_is); (case a29=>k_is); (case l29=>k_is)
    (case c29=>k_is); (case a30=>k_is); (case l30=>k_is); (case c30=>k_is)
    (case a31=>k_is); (case l31=>k_is); (case c31=>k_is); (case a32=>k_is)
    (case l32=>k_is); (case c32=>k_is); (case a33=>k_is); (case l33=>k_is)
    (case c33=>k_is); (case a34=>k_is); (case l34=>k_is); (case c34=>k_is)
    (case a35=>k_is); (case l35=>k_is); (case c35=>k_is); (case a36=>k_is)
    (case l36=>k_is); (case c36=>k_is); (case a37=>k_is); (case l37=>k_is)
    (case c37=>k_is); (case a38=>k_is); (case l38=>k_is); (case c38=>k_is)
    (case aC0=>k_is); (case lC0=>k_is); (case aC1=>k_is); (case lC1=>k_is)
    (case aX0=>k_is); (case aX1=>k_is); (case aX2=>k_is); (case aX3=>k_is)
    (case aX4=>k_is); (case aLt=>k_is); (case aFg=>k_is); (case aM1=>k_is)
    (case aM2=>k_is); (case aM3=>k_is); (case aM4=>k_is); (case aB=>k_is)
    (case lB=>k_is); (case kB=>k_keys); (case sB=>decide); (case pB=>exact .cons ⟨_,rfl⟩ (.cons ⟨_,rfl⟩ (.cons ⟨_,rfl⟩ (.cons ⟨_,rfl⟩ .nil))))
    (case nB0=>k_is); (case nB1=>k_is); (case nB2=>k_is); (case nB3=>k_is)
    (case RecastError_ga=>k_is); (case RecastError_gt=>k_is); (case RecastError_bs=>k_is); (case RecastError_cl=>k_is)
    (case RecastError_ob=>k_is); (case NoText_ga=>k_is); (case NoText_gt=>k_is); (case NoText_bs=>k_is)
    (case NoText_cl=>k_is); (case NoText_ob=>k_is); (case R_ty=>k_is); (case lk_RecastError=>k_is)
    (case lk_NoText=>k_is); (case lk_TooGreat=>k_is); (case lk_NoRule=>k_is); (case lk_NoPlace=>k_is)
    (case x_NoText=>k_exc); (case nR_NoText=>k_is); (case ne_NoText_TooGreat=>decide); (case sb_NoText_TooGreat=>k_is)
    (case ne_NoText_NoRule=>decide); (case sb_NoText_NoRule=>k_is); (case ne_NoText_NoPlace=>decide); (case sb_NoText_NoPlace=>k_is)
    (case sb_NoText_V=>k_is); (case x_TooGreat=>k_exc); (case z_len=>k_is); (case z_range=>k_is)
    (case z_isinstance=>k_is); (case z_int=>k_is); (case z_str=>k_is); (case z_tuple=>k_is)
    (case z_any=>k_is); (case z_max=>k_is); (case z_sorted=>k_is); (case z_set=>k_is)
    (case z_bool=>k_is); (case z_zip=>k_is); (case z_ValueError=>k_is)
#print axioms PySem.Challenge.cw_recastle_k08_rules_read_again_holds