import PyProof.Rows.All
import Wide.All
import OpenK.AllK
import Wide.FinOn
import Lean
import PyProof.EqAt
import PyProof.EqKinds
import PyProof.TupleCall
import PyProof.NeKinds
import PyProof.AttrMissHeap
import KE.KDictOf
import KE.KDictLaws
import KE.KSortTup
import PyProof.Rows.SortWalk
import PyProof.Rows.SortShellK
import PySem.Challenge.RW_recastle_k02_parts_put
set_option Elab.async false
set_option linter.all false
set_option maxRecDepth 100000
namespace L2
open PySem PySem.Spec PyProof.Rows
abbrev Key := Sum Int Str
def keyIs : Key → Value → Bool
  | .inl k, v => Value.isInt k v
  | .inr x, v => Value.isStrOf x v
def keyH (w : World) : Key → Int
  | .inl k => hashInt k
  | .inr x => hashStr w x
theorem keyIs_shape : ∀ {k : Key} {v : Value}, keyIs k v = true → (∃ i t, k = Sum.inl i ∧ v = Value.int i t) ∨ (∃ x t, k = Sum.inr x ∧ v = Value.str x t)
  | .inl i, v, h => by
    obtain ⟨t, e⟩ := Value.isInt_shape (k := i) (v := v) h
    exact .inl ⟨i, t, rfl, e⟩
  | .inr x, v, h => by
    obtain ⟨t, e⟩ := Value.isStrOf_shape (x := x) (v := v) h
    exact .inr ⟨x, t, rfl, e⟩
theorem key_ll (a b : Int) : decide ((Sum.inl a : Key) = Sum.inl b) = (a == b) := by
  by_cases e : a = b
  · subst e; simp
  · have h : ¬ (Sum.inl a : Key) = Sum.inl b := fun q => e (Sum.inl.inj q)
    rw [decide_eq_false h]
    exact (beq_eq_false_iff_ne.mpr e).symm
theorem key_rr (a b : Str) : decide ((Sum.inr a : Key) = Sum.inr b) = decide (a = b) := by
  by_cases e : a = b
  · subst e; simp
  · have h : ¬ (Sum.inr a : Key) = Sum.inr b := fun q => e (Sum.inr.inj q)
    rw [decide_eq_false h, decide_eq_false e]
theorem key_lr (a : Int) (b : Str) : decide ((Sum.inl a : Key) = Sum.inr b) = false := decide_eq_false (fun q => nomatch q)
theorem key_rl (a : Str) (b : Int) : decide ((Sum.inr a : Key) = Sum.inl b) = false := decide_eq_false (fun q => nomatch q)
def mixKind (prog : Program) (w : World) : PySem.KeyKind prog w Key where
  is := keyIs
  hash := keyH w
  inj := fun v a b ha hb => by
    rcases keyIs_shape ha with ⟨i, t, rfl, rfl⟩ | ⟨x, t, rfl, rfl⟩
    · rcases keyIs_shape hb with ⟨j, u, rfl, e⟩ | ⟨y, u, rfl, e⟩
      · injection e with e1 _; rw [e1]
      · exact nomatch e
    · rcases keyIs_shape hb with ⟨j, u, rfl, e⟩ | ⟨y, u, rfl, e⟩
      · exact nomatch e
      · injection e with e1 _; rw [e1]
  byValue := fun k v h => by
    rcases keyIs_shape h with ⟨i, t, rfl, rfl⟩ | ⟨x, t, rfl, rfl⟩ <;> rfl
  pyHash := fun hv h => by
    rcases keyIs_shape hv with ⟨i, t, rfl, rfl⟩ | ⟨x, t, rfl, rfl⟩
    · exact wpAny_pyHash_int h
    · exact wpAny_pyHash_str h
  eqBool := fun hu hv h => by
    rcases keyIs_shape hu with ⟨i, t, rfl, rfl⟩ | ⟨x, t, rfl, rfl⟩
    · rcases keyIs_shape hv with ⟨j, u, rfl, rfl⟩ | ⟨y, u, rfl, rfl⟩
      · rw [key_ll] at h; exact wpAny_eqBool_int h
      · rw [key_lr] at h; exact SeqAt.EqAt.int_str i t y u _ _ _ _ h
    · rcases keyIs_shape hv with ⟨j, u, rfl, rfl⟩ | ⟨y, u, rfl, rfl⟩
      · rw [key_rl] at h; exact SeqAt.EqAt.str_int x t j u _ _ _ _ h
      · rw [key_rr] at h; exact wpAny_eqBool_str h
  «strs» := fun k x t v h => by
    rcases keyIs_shape h with ⟨i, u, rfl, e⟩ | ⟨y, u, rfl, e⟩
    · exact nomatch e
    · injection e with e1 _
      subst e1
      cases v <;> rfl
end L2
namespace L2
open PySem PySem.Spec PyProof.Rows
inductive V where
  | non | bl (b : Bool) | int (i : Int) | str (x : Str) | byt (b : Array UInt8) | flt (b : UInt64) | ref (a : Addr) | ty (n : String)
  deriving DecidableEq
def RelV : V → Value → Prop
  | .non, u => u = Value.none
  | .bl b, u => u = Value.bool b
  | .int i, u => ∃ t, u = Value.int i t
  | .str x, u => ∃ t, u = Value.str x t
  | .byt b, u => ∃ t, u = Value.bytes b t
  | .flt b, u => ∃ t, u = Value.float b t
  | .ref a, u => u = Value.ref a
  | .ty n, u => u = Value.type n
abbrev Vals : List V → List Value → Prop := Paired RelV
theorem Vals.length {xs : List V} {us : List Value} (r : Vals xs us) : xs.length = us.length := Paired.length r
theorem Vals.get : ∀ {xs : List V} {us : List Value} {i : Nat} {x : V}, Vals xs us → xs[i]? = some x → ∃ u, us[i]? = some u ∧ RelV x u
  | _, _, _, _, .nil, e => by simp at e
  | _, _, 0, _, .cons r _, e => by simp at e; subst e; exact ⟨_, rfl, r⟩
  | _, _, i + 1, x, .cons _ t, e => by
    obtain ⟨u, h1, h2⟩ := Vals.get (i := i) (x := x) t (by simpa using e)
    exact ⟨u, by simpa using h1, h2⟩
theorem Vals.set {x : V} {u : Value} (r : RelV x u) : ∀ {xs : List V} {us : List Value} (i : Nat), Vals xs us → Vals (xs.set i x) (us.set i u)
  | _, _, _, .nil => .nil
  | _, _, 0, .cons _ t => .cons r t
  | _, _, i + 1, .cons q t => .cons q (Vals.set r i t)
theorem Vals.append : ∀ {xs ys : List V} {us ws : List Value}, Vals xs us → Vals ys ws → Vals (xs ++ ys) (us ++ ws)
  | _, _, _, _, .nil, s => s
  | _, _, _, _, .cons r t, s => .cons r (Vals.append t s)
theorem Vals.take : ∀ {xs : List V} {us : List Value} (n : Nat), Vals xs us → Vals (xs.take n) (us.take n)
  | _, _, 0, _ => .nil
  | _, _, _ + 1, .nil => .nil
  | _, _, n + 1, .cons r t => .cons r (Vals.take n t)
theorem Vals.drop : ∀ {xs : List V} {us : List Value} (n : Nat), Vals xs us → Vals (xs.drop n) (us.drop n)
  | _, _, 0, r => r
  | _, _, _ + 1, .nil => .nil
  | _, _, n + 1, .cons _ t => Vals.drop n t
def RelO : Option V → Option Value → Prop
  | some v, some u => RelV v u
  | none, none => True
  | _, _ => False
def KV {κ : Type} : List (κ × V) → List (κ × Value) → Prop := Paired fun (p : κ × V) (q : κ × Value) => p.1 = q.1 ∧ RelV p.2 q.2
def kV : Key → V
  | .inl i => .int i
  | .inr x => .str x
inductive HO where
  | lst (xs : List V)
  | tup (xs : List V)
  | dK (kvs : List (Key × V)) | dT (kvs : List (List Key × V))
  | set (S : Int → Bool) (n : Nat)
  | ins (C dx : Addr) (fs : List (Str × V))
  | own (x : Addr)
  | xd (fs : List (Str × V))
  | met (f x : Addr)
  | rng (lo hi : Int)
  | frz (o : Obj) (u : HO)
  | tbl (ps : Array Value)
  | ext (φ : Heap → Prop)
abbrev Hp := Addr → Option HO
def upd (H : Hp) (a : Addr) (o : HO) : Hp := fun b => if b = a then some o else H b
theorem upd_same {H : Hp} {a : Addr} {o : HO} : upd H a o a = some o := by unfold upd; rw [if_pos rfl]
theorem upd_ne {H : Hp} {a b : Addr} {o : HO} (h : b ≠ a) : upd H a o b = H b := by unfold upd; rw [if_neg h]
theorem ne_of_none {H : Hp} {a b : Addr} {o : HO} (h : H a = some o) (h' : H b = none) : a ≠ b := by
  intro e; subst e; rw [h] at h'; cases h'
section
variable (P : Program) (w : World)
def ObjOk (H : Hp) (h : Heap) (a : Addr) : HO → Prop
  | .lst xs => xs.length ≤ sizeLine ∧ ∃ (its : List Value) (n : Nat), Vals xs its ∧ h.get? a = some { cls := .type "list", data := .seq its.toArray n }
  | .tup xs => xs.length ≤ sizeLine ∧ ∃ its : List Value, Vals xs its ∧ IsTup h a its.toArray
  | .dK kvs => kvs.length ≤ sizeLine ∧ (a == sysModules) = false ∧ ∃ vs, KV kvs vs ∧ h.DictOf (mixKind P w) a vs
  | .dT kvs => kvs.length ≤ sizeLine ∧ (a == sysModules) = false ∧ ∃ xs : List (List Key × Addr × Value),
      Paired (fun (p : List Key × V) (q : List Key × Addr × Value) => p.1 = q.1 ∧ H q.2.1 = some (.tup (p.1.map kV)) ∧ RelV p.2 q.2.2) kvs xs ∧
      ∃ o es ep, h.get? a = some o ∧ o.ExactDict ∧ o.data = .dict es ep ∧ es.toList = xs.map (entryOfKey (tupleKind (mixKind P w))) ∧ (xs.map (·.1)).Nodup
  | .set S n => h.SetOf (intKind P w) a S n
  | .ins C dx fs => H dx = some (.own a) ∧ fs.length ≤ 1000 ∧ dx ≠ a ∧ h.get? a = some (PySem.W.instObj C dx) ∧
      ∃ mA, h.Ns1 dx mA ∧ (∀ f, RelO (fs.lookup f) (mA f)) ∧ PySem.Within mA (fs.map (·.1))
  | .own _ => ∃ o, h.get? a = some o
  | .xd fs => ∃ mA, h.Ns1 a mA ∧ ∀ f, RelO (fs.lookup f) (mA f)
  | .rng lo hi => ∃ t u v, h.get? a = some { cls := .type "range", data := .fields #[.int lo t, .int hi u, .int 1 v] }
  | .frz o u => h.get? a = some o ∧ ObjOk H h a u
  | .tbl ps => h.get? a = some { cls := .none, data := .fields ps }
  | .met f x => h.get? a = some (PySem.W.methodObj (.ref f) (.ref x))
  | .ext φ => φ h ∧ (∃ o, h.get? a = some o) ∧ ∀ h1 h2 : Heap, φ h1 → (∀ o, h1.get? a = some o → h2.get? a = some o) → φ h2
def HOk (H : Hp) (h : Heap) : Prop := ∀ a o, H a = some o → ObjOk P w H h a o
end
section
variable {P : Program} {w : World} {H H' : Hp} {h h' : Heap} {a : Addr} {o : HO}
theorem ObjOk.lt (x : ObjOk P w H h a o) : a < h.objs.size := by
  cases o with
  | lst xs => obtain ⟨_, _, _, _, e⟩ := x; exact Heap.lt_size e
  | tup xs => obtain ⟨_, _, _, p⟩ := x; exact p.lt
  | dK kvs => obtain ⟨_, _, _, _, o, _, _, e, _⟩ := x; exact Heap.lt_size e
  | dT kvs => obtain ⟨_, _, _, _, o, _, _, e, _⟩ := x; exact Heap.lt_size e
  | set S n => obtain ⟨o, _, _, _, e, _⟩ := x; exact Heap.lt_size e
  | ins C dx fs => obtain ⟨_, _, _, e, _⟩ := x; exact Heap.lt_size e
  | own y => obtain ⟨_, e⟩ := x; exact Heap.lt_size e
  | xd fs => obtain ⟨_, ⟨_, _, _, e, _⟩, _⟩ := x; exact Heap.lt_size e
  | rng lo hi => obtain ⟨_, _, _, e⟩ := x; exact Heap.lt_size e
  | frz ob u => obtain ⟨e, _⟩ := x; exact Heap.lt_size e
  | tbl ps => exact Heap.lt_size (show h.get? a = some _ from x)
  | met f y => exact Heap.lt_size (show h.get? a = some _ from x)
  | ext φ => obtain ⟨_, ⟨_, e⟩, _⟩ := x; exact Heap.lt_size e
theorem Paired.mapP {α β : Type} {F G : α → β → Prop} : ∀ {l₁ : List α} {l₂ : List β}, Paired F l₁ l₂ → (∀ a b, F a b → G a b) → Paired G l₁ l₂
  | _, _, .nil, _ => .nil
  | _, _, .cons r t, f => .cons (f _ _ r) (Paired.mapP t f)
theorem ObjOk.stay (x : ObjOk P w H h a o) (k : ∀ b u, (b = a ∨ H b = some (.own a)) → h.get? b = some u → h'.get? b = some u)
    (ho : ∀ b, H b = some (.own a) → H' b = some (.own a)) (ht : ∀ b xs, H b = some (.tup xs) → H' b = some (.tup xs)) : ObjOk P w H' h' a o := by
  induction o with
  | lst xs => obtain ⟨z, its, n, r, e⟩ := x; exact ⟨z, its, n, r, k _ _ (.inl rfl) e⟩
  | tup xs => obtain ⟨z, its, r, ob, e, c⟩ := x; exact ⟨z, its, r, ob, k _ _ (.inl rfl) e, c⟩
  | dK kvs => obtain ⟨z, y, vs, r, ob, es, ep, e, c⟩ := x; exact ⟨z, y, vs, r, ob, es, ep, k _ _ (.inl rfl) e, c⟩
  | dT kvs =>
    obtain ⟨z, y, xs, r, ob, es, ep, e, c⟩ := x
    exact ⟨z, y, xs, Paired.mapP r fun p q z => ⟨z.1, ht _ _ z.2.1, z.2.2⟩, ob, es, ep, k _ _ (.inl rfl) e, c⟩
  | set S n => obtain ⟨ob, es, ep, t, e, c⟩ := x; exact ⟨ob, es, ep, t, k _ _ (.inl rfl) e, c⟩
  | ins C dx fs =>
    obtain ⟨d, z, ne, e, mA, ⟨od, es, ep, e2, c⟩, r⟩ := x
    exact ⟨ho _ d, z, ne, k _ _ (.inl rfl) e, mA, ⟨od, es, ep, k _ _ (.inr d) e2, c⟩, r⟩
  | own y => obtain ⟨ob, e⟩ := x; exact ⟨ob, k _ _ (.inl rfl) e⟩
  | xd fs => obtain ⟨mA, ⟨od, es, ep, e, c⟩, r⟩ := x; exact ⟨mA, ⟨od, es, ep, k _ _ (.inl rfl) e, c⟩, r⟩
  | rng lo hi => obtain ⟨t, u, v, e⟩ := x; exact ⟨t, u, v, k _ _ (.inl rfl) e⟩
  | frz ob u ih => obtain ⟨e, q⟩ := x; exact ⟨k _ _ (.inl rfl) e, ih q⟩
  | tbl ps =>
    have e : h.get? a = some { cls := .none, data := .fields ps } := x
    show h'.get? a = some { cls := .none, data := .fields ps }
    exact k a _ (.inl rfl) e
  | met f y =>
    have e : h.get? a = some (PySem.W.methodObj (.ref f) (.ref y)) := x
    show h'.get? a = some (PySem.W.methodObj (.ref f) (.ref y))
    exact k a _ (.inl rfl) e
  | ext φ => obtain ⟨p, ⟨o, e⟩, st⟩ := x; exact ⟨st _ _ p fun o q => k _ _ (.inl rfl) q, ⟨o, k _ _ (.inl rfl) e⟩, st⟩
theorem HOk.lt (x : HOk P w H h) (e : H a = some o) : a < h.objs.size := (x a o e).lt
theorem HOk.fresh (x : HOk P w H h) (e : h.objs.size ≤ a) : H a = none := by
  cases q : H a with
  | none => rfl
  | some u => exact absurd (Nat.lt_of_lt_of_le (x.lt q) e) (Nat.lt_irrefl _)
theorem HOk.kept (x : HOk P w H h) (k : ∀ b u, h.get? b = some u → h'.get? b = some u) : HOk P w H h' := fun a o e =>
  (x a o e).stay (fun b u _ q => k b u q) (fun _ q => q) fun _ _ q => q
theorem HOk.laid (x : HOk P w H h) (k : ∀ b u, h.get? b = some u → h'.get? b = some u) (hp : h.objs.size ≤ a) (new : ObjOk P w (upd H a o) h' a o) : HOk P w (upd H a o) h' := fun b u e => by
  have hn := x.fresh hp
  by_cases hb : b = a
  · subst hb; rw [upd_same] at e; cases e; exact new
  · rw [upd_ne hb] at e
    exact (x b u e).stay (fun c v _ q => k c v q) (fun c q => by rw [upd_ne (ne_of_none q hn)]; exact q) fun c xs q => by rw [upd_ne (ne_of_none q hn)]; exact q
end
def Rd (H : Hp) (a : Addr) (u : HO) : Prop := H a = some u ∨ ∃ o, H a = some (.frz o u)
theorem Rd.ok {P : Program} {w : World} {H : Hp} {h : Heap} {a : Addr} {u : HO} (r : Rd H a u) (x : HOk P w H h) : ObjOk P w H h a u := by
  rcases r with r | ⟨o, r⟩
  · exact x a u r
  · obtain ⟨_, q⟩ := x a _ r
    exact q
def Mut : Option HO → Prop
  | some (.lst _) => True
  | some (.dK _) => True
  | some (.dT _) => True
  | some (.set _ _) => True
  | some (.ins _ _ _) => True
  | some (.ext _) => True
  | _ => False
section
variable {P : Program} {w : World} {H : Hp} {h h' : Heap} {x e : Addr} {o' : HO}
theorem HOk.write (ok : HOk P w H h) (mu : Mut (H x)) (he : e = x ∨ H e = some (.own x)) (k : ∀ b u, b ≠ e → h.get? b = some u → h'.get? b = some u) (heo : ∃ u, h'.get? e = some u)
    (new : ObjOk P w (upd H x o') h' x o') : HOk P w (upd H x o') h' := fun b u q => by
  have nown : ∀ c y, H c = some (.own y) → c ≠ x := fun c y r z => by subst z; rw [r] at mu; exact mu
  have ntup : ∀ c xs, H c = some (.tup xs) → c ≠ x := fun c xs r z => by subst z; rw [r] at mu; exact mu
  by_cases hb : b = x
  · subst hb; rw [upd_same] at q; cases q; exact new
  · rw [upd_ne hb] at q
    by_cases hbe : b = e
    · have q' : H b = some (.own x) := by
        rcases he with z | z
        · exact absurd (hbe.trans z) hb
        · rw [hbe]; exact z
      rw [q] at q'; cases q'
      obtain ⟨v, hv⟩ := heo
      exact ⟨v, by rw [hbe]; exact hv⟩
    · refine (ok b u q).stay (fun c v hc r => k c v ?_ r) (fun c r => by rw [upd_ne (nown c b r)]; exact r) fun c xs r => by rw [upd_ne (ntup c xs r)]; exact r
      rcases hc with rfl | hc
      · exact hbe
      · rintro rfl
        rcases he with z | z
        · exact nown c b hc z
        · rw [hc] at z; cases z; exact hb rfl
end
structure Un (fs ex : List Addr) (H H' : Hp) (h h' : Heap) : Prop where
  keep : ∀ b o, h.get? b = some o → H b = none → b ∉ fs → b ∉ ex → h'.get? b = some o
  slot : ∀ b o, h.get? b = some o → H b = none → b ∈ fs → b ∉ ex → ∃ sl, h'.get? b = some { o with slots := sl }
  free : ∀ b o, h.get? b = some o → H b = none → b ∉ ex → H' b = none
  there : ∀ b o, h.get? b = some o → b ∉ ex → ∃ o', h'.get? b = some o'
  tups : ∀ b xs, H b = some (.tup xs) → H' b = some (.tup xs)
  frzs : ∀ b o u, H b = some (.frz o u) → H' b = some (.frz o u)
  tbls : ∀ b ps, H b = some (.tbl ps) → ∃ more, H' b = some (.tbl (ps ++ more))
section
variable {fs fs' ex ex' : List Addr} {H H1 H2 : Hp} {h h1 h2 h' : Heap} {a x e : Addr} {o : HO}
theorem Un.any (u : Un fs ex H H1 h h1) {b : Addr} {ob : Obj} (q : h.get? b = some ob) (n : H b = none) (hx : b ∉ ex) : ∃ sl, h1.get? b = some { ob with slots := sl } := by
  by_cases hb : b ∈ fs
  · exact u.slot b ob q n hb hx
  · exact ⟨ob.slots, u.keep b ob q n hb hx⟩
theorem Un.kept (k : ∀ b u, h.get? b = some u → h'.get? b = some u) : Un fs ex H H h h' :=
  ⟨fun b ob q _ _ _ => k b ob q, fun b ob q _ _ _ => ⟨ob.slots, k b ob q⟩, fun _ _ _ n _ => n, fun b ob q _ => ⟨ob, k b ob q⟩, fun _ _ q => q, fun _ _ _ q => q, fun _ ps q => ⟨#[], by rw [q]; simp⟩⟩
theorem Un.refl : Un fs ex H H h h := Un.kept fun _ _ q => q
theorem Un.laid (k : ∀ b u, h.get? b = some u → h'.get? b = some u) (hp : h.objs.size ≤ a) (hn : H a = none) : Un fs ex H (upd H a o) h h' where
  keep := fun b u q _ _ _ => k b u q
  slot := fun b u q _ _ _ => ⟨u.slots, k b u q⟩
  free := fun b u q n _ => by rw [upd_ne (Nat.ne_of_lt (Nat.lt_of_lt_of_le (Heap.lt_size q) hp))]; exact n
  there := fun b u q _ => ⟨u, k b u q⟩
  tups := fun b xs q => by rw [upd_ne (ne_of_none q hn)]; exact q
  frzs := fun b u xs q => by rw [upd_ne (ne_of_none q hn)]; exact q
  tbls := fun b ps q => ⟨#[], by rw [upd_ne (ne_of_none q hn), q]; simp⟩
theorem Un.write (mu : Mut (H x)) (he : e = x ∨ H e = some (.own x)) (k : ∀ b u, b ≠ e → h.get? b = some u → h'.get? b = some u) (heo : ∃ u, h'.get? e = some u) : Un fs ex H (upd H x o) h h' := by
  have hx : ∀ b, H b = none → b ≠ x := fun b n z => by subst z; rw [n] at mu; exact mu
  have hb : ∀ b, H b = none → b ≠ e := fun b n z => by
    subst z
    rcases he with r | r
    · exact hx b n r
    · rw [n] at r; cases r
  have hm : ∀ b u, H b = some u → ¬ Mut (some u) → b ≠ x := fun b u q nm z => by subst z; rw [q] at mu; exact nm mu
  refine ⟨fun b u q n _ _ => k b u (hb b n) q, fun b u q n _ _ => ⟨u.slots, k b u (hb b n) q⟩, fun b u q n _ => by rw [upd_ne (hx b n)]; exact n, fun b u q _ => ?_,
    fun b xs q => by rw [upd_ne (hm b _ q fun z => z)]; exact q, fun b u xs q => by rw [upd_ne (hm b _ q fun z => z)]; exact q, fun b ps q => ⟨#[], by rw [upd_ne (hm b _ q fun z => z), q]; simp⟩⟩
  by_cases hbe : b = e
  · subst hbe; exact heo
  · exact ⟨u, k b u hbe q⟩
end
def trk (h : Heap) (H : Hp) : List Addr := (List.range h.objs.size).filter fun a => (H a).isSome
def hidT (h : Heap) (H : Hp) : Heap := PySem.W.hideAll h (trk h H)
theorem hidT_size (h : Heap) (H : Hp) : (hidT h H).objs.size = h.objs.size := PySem.W.hideAll_size _ _
theorem hidT_get {h : Heap} {H : Hp} {b : Addr} {o : Obj} (e : h.get? b = some o) (n : H b = none) : (hidT h H).get? b = some o :=
  PySem.W.hideAll_get _ e fun hm => by
    have q : (H b).isSome = true := (List.mem_filter.mp hm).2
    rw [n] at q; simp at q
theorem of_hidT {h : Heap} {H : Hp} {b : Addr} {o : Obj} (e : (hidT h H).get? b = some o) : h.get? b = some o ∧ H b = none := by
  have e' : h.get? b = some o := PySem.W.of_hideAll (trk h H) e
  refine ⟨e', ?_⟩
  cases q : H b with
  | none => rfl
  | some x =>
    have hm : b ∈ trk h H := List.mem_filter.mpr ⟨List.mem_range.mpr (Heap.lt_size e'), by simp [q]⟩
    have z : (hidT h H).get? b = none := PySem.W.hideAll_none (trk h H) hm
    rw [z] at e; cases e
def allNews (g h : Heap) (L : Addr) : List (Addr × Obj) := (List.range h.objs.size).filterMap fun a => if a = L ∨ (g.get? a).isSome = true then none else (h.get? a).map fun o => (a, o)
def rest (g h : Heap) (L d : Addr) : List (Addr × Obj) := (allNews g h L).filter fun p => decide (p.1 ≠ d)
end L2
namespace L2
open PySem PySem.Spec PyProof.Rows
structure Mod (K : PySem.W.Frag) (mg : Str → Option Value) (base : Heap) : Prop where
  kin : K.In base
  glob : base.Ns mainGlobals mg
  blt : ∃ mb, base.Ns builtinsNs mb ∧ ∀ x : Str, x ≠ "__name__" → mb x = bootBuiltins x
  nolimit : base.NoLimit
structure Cx where
  prog : Program
  w : World
  K : PySem.W.Frag
  mg : Str → Option Value
  base : Heap
  A : Around
  N : List Str
  s₀ : Shared
  H₀ : Hp
  env : Env
  outer : List Env
  stack : List Env
  ex : List Addr
  fn : Str → Bool
  calm : Bool
  pn : List (Addr × Obj)
  xe : Value → Shared → Prop
def frs (l : List Env) : List Addr := l.filterMap (·.frame)
abbrev Cx.fs (X : Cx) : List Addr := frs X.outer
def Vis (sc : Scope) (x : Str) : Prop := sc.names.lookup x = some .local ∨ sc.names.lookup x = some .cell ∨ sc.names.lookup x = some .free
def Loc (sc : Scope) (x : Str) : Prop := sc.names.lookup x = some .local ∨ sc.names.lookup x = some .cell
def Look (env : Env) (h : Heap) (m : Str → Option Value) (x : Str) (u : Value) : Prop :=
  (env.kindOf x = some .local ∧ m x = some u) ∨ ((env.kindOf x = some .cell ∨ env.kindOf x = some .free) ∧ ∃ c, env.cells.lookup x = some c ∧ h.IsCell c (some u))
structure Cx.Ok (X : Cx) : Prop where
  mod : Mod X.K X.mg X.base
  kind : X.env.scope.kind = .function
  glob : X.env.globals = mainGlobals
  blt : X.env.builtins = builtinsNs
  above : X.s₀.heap.objs.size ≤ X.env.locals
  inj : ∀ x y c, X.env.cells.lookup x = some c → X.env.cells.lookup y = some c → x = y
  has : ∀ x, (X.env.kindOf x = some .cell ∨ X.env.kindOf x = some .free) → ∃ c, X.env.cells.lookup x = some c
  cab : ∀ x c, X.fn x = true → X.env.cells.lookup x = some c → X.s₀.heap.objs.size ≤ c
  hd : X.calm = true → X.A.handled = none
  frames : X.A.frames = some X.stack
  stk : X.stack = X.outer ∨ (X.stack = X.env :: X.outer ∧ X.env.frame = some X.env.locals)
  exf : ∀ b ∈ X.ex, b ≠ X.env.locals ∧ ∀ x c, X.env.cells.lookup x = some c → c ≠ b
  bs : ∀ b o, X.base.get? b = some o → X.s₀.heap.get? b = some o ∧ X.H₀ b = none
  bsz : X.base.objs.size ≤ X.s₀.heap.objs.size
  noex : ∀ b o, X.base.get? b = some o → b ∉ X.ex
  exfs : ∀ b ∈ X.ex, b ∉ X.fs
  funs : X.s₀.heap.FunFrames X.base X.outer
  frf : ∀ b ∈ X.fs, X.H₀ b = none
structure Inv (X : Cx) (pins : List (Addr × Obj)) (σ : List (Option V)) (H : Hp) (s : Shared) : Prop where
  ok : X.Ok
  os : s.os = X.s₀.os
  bare : AllBare s.gens
  base : Un X.fs X.ex X.H₀ H X.s₀.heap s.heap
  loc : ∃ m, s.heap.Ns X.env.locals m ∧ ∀ (i : Nat) (x : Str) (v : V), X.N[i]? = some x → σ[i]? = some (some v) → Vis X.env.scope x → ∃ u, RelV v u ∧ Look X.env s.heap m x u
  cell : ∀ x c, X.env.cells.lookup x = some c → ∃ v, s.heap.IsCell c v
  free : H X.env.locals = none
  freeC : ∀ x c, X.env.cells.lookup x = some c → H c = none
  pin : ∀ p ∈ X.pn ++ pins, s.heap.get? p.1 = some p.2 ∧ H p.1 = none ∧ p.1 ≠ X.env.locals ∧ p.1 ∉ X.fs ∧ ∀ v, p.2.data ≠ .cell v
  hok : HOk X.prog X.w H s.heap
  len : σ.length = X.N.length
section
variable {X : Cx} {pins : List (Addr × Obj)} {σ : List (Option V)} {H H' : Hp} {s : Shared} {h' : Heap}
theorem Cx.Ok.nofr (ok : X.Ok) {b : Addr} {o : Obj} (e : X.base.get? b = some o) : b ∉ X.fs := fun hb => by
  have := (ok.funs.mem hb).1
  rw [e] at this; cases this
theorem Inv.bs (I : Inv X pins σ H s) : ∀ b o, X.base.get? b = some o → s.heap.get? b = some o ∧ H b = none := fun b o e =>
  ⟨I.base.keep b o (I.ok.bs b o e).1 (I.ok.bs b o e).2 (I.ok.nofr e) (I.ok.noex b o e), I.base.free b o (I.ok.bs b o e).1 (I.ok.bs b o e).2 (I.ok.noex b o e)⟩
theorem Inv.bk (I : Inv X pins σ H s) : ∀ b o, X.base.get? b = some o → s.heap.get? b = some o := fun b o e => (I.bs b o e).1
theorem Inv.mod (I : Inv X pins σ H s) : Mod X.K X.mg X.base := I.ok.mod
theorem Inv.kIn (I : Inv X pins σ H s) : X.K.In s.heap := I.ok.mod.kin.keeps I.bk
theorem Inv.lt (I : Inv X pins σ H s) : X.env.locals < s.heap.objs.size := let ⟨_, hn, _⟩ := I.loc; hn.lt
theorem Inv.sz (I : Inv X pins σ H s) : X.s₀.heap.objs.size ≤ s.heap.objs.size := Nat.le_trans I.ok.above (Nat.le_of_lt I.lt)
theorem Inv.nofs (I : Inv X pins σ H s) {a : Addr} (h : s.heap.objs.size ≤ a) : a ∉ X.fs := fun hb => by
  obtain ⟨_, o, ho, _⟩ := I.ok.funs.mem hb
  exact absurd (Nat.lt_of_lt_of_le (Heap.lt_size ho) (Nat.le_trans I.sz h)) (Nat.lt_irrefl _)
theorem Inv.cne (I : Inv X pins σ H s) : ∀ x c, X.env.cells.lookup x = some c → c ≠ X.env.locals := fun x c e z => by
  obtain ⟨v, o, ho, hd⟩ := I.cell x c e
  obtain ⟨m, ⟨o', es, ep, ho', hd', _⟩, _⟩ := I.loc
  rw [z, ho'] at ho; cases ho; rw [hd'] at hd; cases hd
theorem Inv.funs (I : Inv X pins σ H s) : s.heap.FunFrames X.base X.outer := by
  have all : ∀ (l : List Env), (∀ b ∈ frs l, b ∈ X.fs) → X.s₀.heap.FunFrames X.base l → s.heap.FunFrames X.base l := by
    intro l
    induction l with
    | nil => intro _ _; trivial
    | cons env r ih =>
      intro hs hl
      obtain ⟨hk, ⟨L, o, hf, hn, ho, hd⟩, hr⟩ := hl
      have hL : L ∈ X.fs := hs L (by unfold frs; rw [List.filterMap_cons, hf]; exact List.mem_cons_self)
      obtain ⟨sl, e⟩ := I.base.slot L o ho (I.ok.frf L hL) hL fun z => I.ok.exfs L z hL
      exact ⟨hk, ⟨L, _, hf, hn, e, hd⟩, ih (fun b hb => hs b (by unfold frs; rw [List.filterMap_cons, hf]; exact List.mem_cons_of_mem _ hb)) hr⟩
  exact all X.outer (fun _ hb => hb) I.ok.funs
theorem Inv.stack (I : Inv X pins σ H s) : s.heap.FunFrames X.base X.stack := by
  rcases I.ok.stk with e | ⟨e, hf⟩
  · rw [e]; exact I.funs
  · rw [e]
    obtain ⟨m, hn, _⟩ := I.loc
    refine .cons (by rw [I.ok.kind]; decide) hf hn ?_ I.funs
    exact Heap.get?_none_of_le (Nat.le_trans I.ok.bsz I.ok.above)
theorem Inv.stkSub (I : Inv X pins σ H s) : ∀ b ∈ frs X.stack, b ∈ X.env.locals :: X.fs := fun b hb => by
  rcases I.ok.stk with e | ⟨e, hf⟩
  · rw [e] at hb; exact List.mem_cons_of_mem _ hb
  · rw [e] at hb
    unfold frs at hb
    rw [List.filterMap_cons, hf] at hb
    exact hb
theorem Inv.stkFree (I : Inv X pins σ H s) : ∀ b ∈ frs X.stack, H b = none := fun b hb => by
  rcases List.mem_cons.mp (I.stkSub b hb) with e | hb
  · rw [e]; exact I.free
  · obtain ⟨_, o, ho, _⟩ := I.ok.funs.mem hb
    exact I.base.free b o ho (I.ok.frf b hb) fun z => I.ok.exfs b z hb
theorem Inv.step {g' : Array GenState} {t' : Nat} {d' : Drawn} {ch : List Addr} (I : Inv X pins σ H s)
    (hch : ∀ b ∈ ch, (b ∈ X.ex ∨ X.s₀.heap.objs.size ≤ b) ∧ b ≠ X.env.locals ∧ (∀ x c, X.env.cells.lookup x = some c → c ≠ b) ∧ ∀ p ∈ X.pn ++ pins, p.1 ≠ b)
    (keep : ∀ b o, b ≠ X.env.locals → b ∉ X.fs → b ∉ ch → s.heap.get? b = some o → H b = none → h'.get? b = some o)
    (slot : ∀ b o, b ≠ X.env.locals → b ∈ X.fs → b ∉ ch → s.heap.get? b = some o → H b = none → ∃ sl, h'.get? b = some { o with slots := sl }) (free : ∀ b o, b ∉ ch → s.heap.get? b = some o → H b = none → H' b = none)
    (there : ∀ b o, b ∉ ch → s.heap.get? b = some o → ∃ o', h'.get? b = some o')
    (tups : ∀ b xs, H b = some (.tup xs) → H' b = some (.tup xs)) (frzs : ∀ b o u, H b = some (.frz o u) → H' b = some (.frz o u)) (tbls : ∀ b ps, H b = some (.tbl ps) → ∃ more, H' b = some (.tbl (ps ++ more)))
    (ns : ∀ m, s.heap.Ns X.env.locals m → h'.Ns X.env.locals m) (hok : HOk X.prog X.w H' h') (hg : AllBare g') :
    Inv X pins σ H' { s with heap := h', gens := g', drawn := d', toks := t' } := by
  have neL : ∀ b o, X.s₀.heap.get? b = some o → b ≠ X.env.locals := fun b o e => Nat.ne_of_lt (Nat.lt_of_lt_of_le (Heap.lt_size e) I.ok.above)
  have neC : ∀ b o, X.s₀.heap.get? b = some o → b ∉ X.ex → b ∉ ch := fun b o e hx hb => by
    rcases (hch b hb).1 with z | z
    · exact hx z
    · exact absurd (Nat.lt_of_lt_of_le (Heap.lt_size e) z) (Nat.lt_irrefl _)
  have cellK : ∀ x c, X.env.cells.lookup x = some c → ∀ v, s.heap.IsCell c v → h'.IsCell c v := fun x c e v ⟨o, ho, hd⟩ => by
    have nch : c ∉ ch := fun z => (hch c z).2.2.1 x c e rfl
    by_cases hc : c ∈ X.fs
    · obtain ⟨sl, q⟩ := slot c o (I.cne x c e) hc nch ho (I.freeC x c e)
      exact ⟨_, q, hd⟩
    · exact ⟨o, keep c o (I.cne x c e) hc nch ho (I.freeC x c e), hd⟩
  refine ⟨I.ok, I.os, hg, ⟨fun b o e n hb hx => ?_, fun b o e n hb hx => ?_, fun b o e n hx => ?_, fun b o e hx => ?_, fun b xs e => tups b xs (I.base.tups b xs e), fun b o xs e => frzs b o xs (I.base.frzs b o xs e), fun b ps e => ?_⟩, ?_, fun x c e => ?_, ?_, fun x c e => ?_, fun p hp => ?_, hok, I.len⟩
  · exact keep b o (neL b o e) hb (neC b o e hx) (I.base.keep b o e n hb hx) (I.base.free b o e n hx)
  · obtain ⟨sl, e1⟩ := I.base.slot b o e n hb hx
    obtain ⟨sl', e2⟩ := slot b _ (neL b o e) hb (neC b o e hx) e1 (I.base.free b o e n hx)
    exact ⟨sl', e2⟩
  · obtain ⟨o', e1⟩ := I.base.there b o e hx
    exact free b o' (neC b o e hx) e1 (I.base.free b o e n hx)
  · obtain ⟨o', e1⟩ := I.base.there b o e hx
    exact there b o' (neC b o e hx) e1
  · obtain ⟨m1, e1⟩ := I.base.tbls b ps e
    obtain ⟨m2, e2⟩ := tbls b _ e1
    exact ⟨m1 ++ m2, by rw [e2, Array.append_assoc]⟩
  · obtain ⟨m, hn, hl⟩ := I.loc
    refine ⟨m, ns m hn, fun i x v e1 e2 e3 => ?_⟩
    obtain ⟨u, r, l⟩ := hl i x v e1 e2 e3
    refine ⟨u, r, ?_⟩
    rcases l with l | ⟨k, c, e, z⟩
    · exact .inl l
    · exact .inr ⟨k, c, e, cellK x c e _ z⟩
  · obtain ⟨v, z⟩ := I.cell x c e
    exact ⟨v, cellK x c e v z⟩
  · obtain ⟨m, ⟨o, _, _, ho, _⟩, _⟩ := I.loc
    exact free _ o (fun z => (hch _ z).2.1 rfl) ho I.free
  · obtain ⟨v, o, ho, hd⟩ := I.cell x c e
    exact free c o (fun z => (hch c z).2.2.1 x c e rfl) ho (I.freeC x c e)
  · obtain ⟨e, n, ne, nf, d⟩ := I.pin p hp
    have nch : p.1 ∉ ch := fun z => (hch p.1 z).2.2.2 p hp rfl
    exact ⟨keep p.1 p.2 ne nf nch e n, free p.1 p.2 nch e n, ne, nf, d⟩
theorem Inv.un {t' : Nat} (I : Inv X pins σ H s) (u : Un X.fs [] H H' s.heap h') (hok : HOk X.prog X.w H' h') : Inv X pins σ H' { s with heap := h', toks := t' } := by
  obtain ⟨m, ⟨o, es, ep, ho, r⟩, _⟩ := id I.loc
  obtain ⟨sl, hL⟩ := u.any ho I.free (by simp)
  exact I.step (g' := s.gens) (d' := s.drawn) (ch := []) (fun _ z => nomatch z) (fun b o _ hb _ e n => u.keep b o e n hb (by simp)) (fun b o _ hb _ e n => u.slot b o e n hb (by simp)) (fun b o _ e n => u.free b o e n (by simp)) (fun b o _ e => u.there b o e (by simp)) u.tups u.frzs u.tbls (fun m' hm => by
    obtain ⟨o', es', ep', ho', r'⟩ := hm
    rw [ho] at ho'; cases ho'
    exact ⟨_, es', ep', hL, r'⟩) hok I.bare
theorem Inv.call {g' : Array GenState} {t' : Nat} {d' : Drawn} {ch : List Addr} (I : Inv X pins σ H s) (u : Un (frs X.stack) ch H H' s.heap h') (hok : HOk X.prog X.w H' h') (hg : AllBare g')
    (hch : ∀ b ∈ ch, (b ∈ X.ex ∨ X.s₀.heap.objs.size ≤ b) ∧ b ≠ X.env.locals ∧ (∀ x c, X.env.cells.lookup x = some c → c ≠ b) ∧ ∀ p ∈ X.pn ++ pins, p.1 ≠ b) :
    Inv X pins σ H' { s with heap := h', gens := g', drawn := d', toks := t' } := by
  obtain ⟨m, ⟨o, es, ep, ho, r⟩, _⟩ := id I.loc
  obtain ⟨sl, hL⟩ := u.any ho I.free fun z => (hch _ z).2.1 rfl
  exact I.step (ch := ch) hch (fun b o hL hb hc e n => u.keep b o e n (fun z => (List.mem_cons.mp (I.stkSub b z)).elim hL hb) hc) (fun b o _ _ hc e n => u.any e n hc) (fun b o hc e n => u.free b o e n hc) (fun b o hc e => u.there b o e hc) u.tups u.frzs u.tbls (fun m' hm => by
    obtain ⟨o', es', ep', ho', r'⟩ := hm
    rw [ho] at ho'; cases ho'
    exact ⟨_, es', ep', hL, r'⟩) hok hg
theorem Inv.turned {t' : Nat} {it : Addr} (I : Inv X pins σ H s) (k : ∀ b o, b ≠ it → s.heap.get? b = some o → h'.get? b = some o) (hn : H it = none) (hL : it ≠ X.env.locals)
    (h1 : it ∈ X.ex ∨ X.s₀.heap.objs.size ≤ it) (h2 : ∀ x c, X.env.cells.lookup x = some c → c ≠ it) (h3 : ∀ p ∈ X.pn ++ pins, p.1 ≠ it) : Inv X pins σ H { s with heap := h', toks := t' } := by
  have nit : ∀ b u, H b = some u → b ≠ it := fun b u e z => by rw [z, hn] at e; cases e
  refine I.step (g' := s.gens) (d' := s.drawn) (ch := [it]) (fun b hb => ?_) (fun b o _ _ hc e _ => k b o (fun z => hc (by simp [z])) e) (fun b o _ _ hc e _ => ⟨o.slots, k b o (fun z => hc (by simp [z])) e⟩) (fun _ _ _ _ n => n)
    (fun b o hc e => ⟨o, k b o (fun z => hc (by simp [z])) e⟩) (fun _ _ e => e) (fun _ _ _ e => e) (fun b ps e => ⟨#[], by rw [e]; simp⟩) (fun m hm => ?_) (fun b u e => ?_) I.bare
  · have e : b = it := by simpa using hb
    subst e
    exact ⟨h1, hL, h2, h3⟩
  · obtain ⟨o, es, ep, ho, r⟩ := hm
    exact ⟨o, es, ep, k _ o (Ne.symm hL) ho, r⟩
  · refine (I.hok b u e).stay (fun c v hc q => k c v ?_ q) (fun _ q => q) fun _ _ q => q
    rcases hc with z | z
    · rw [z]; exact nit b u e
    · exact nit c _ z
theorem Inv.tok (I : Inv X pins σ H s) (t : Nat) : Inv X pins σ H { s with toks := t } := I.un (h' := s.heap) (t' := t) Un.refl I.hok
theorem Inv.kept {t' : Nat} (I : Inv X pins σ H s) (k : ∀ b u, s.heap.get? b = some u → h'.get? b = some u) : Inv X pins σ H { s with heap := h', toks := t' } := I.un (Un.kept k) (I.hok.kept k)
theorem Inv.laid {a : Addr} {o : HO} {t' : Nat} (I : Inv X pins σ H s) (k : ∀ b u, s.heap.get? b = some u → h'.get? b = some u) (hp : s.heap.objs.size ≤ a) (new : ObjOk X.prog X.w (upd H a o) h' a o) :
    Inv X pins σ (upd H a o) { s with heap := h', toks := t' } := I.un (Un.laid k hp (I.hok.fresh hp)) (I.hok.laid k hp new)
theorem Inv.write {x e : Addr} {o : HO} {t' : Nat} (I : Inv X pins σ H s) (mu : Mut (H x)) (he : e = x ∨ H e = some (.own x)) (k : ∀ b u, b ≠ e → s.heap.get? b = some u → h'.get? b = some u) (heo : ∃ u, h'.get? e = some u)
    (new : ObjOk X.prog X.w (upd H x o) h' x o) : Inv X pins σ (upd H x o) { s with heap := h', toks := t' } := I.un (Un.write mu he k heo) (I.hok.write mu he k heo new)
theorem Inv.pins_of {pins' : List (Addr × Obj)} (I : Inv X pins σ H s) (h : ∀ p ∈ pins', s.heap.get? p.1 = some p.2 ∧ H p.1 = none ∧ p.1 ≠ X.env.locals ∧ p.1 ∉ X.fs ∧ ∀ v, p.2.data ≠ .cell v) : Inv X pins' σ H s :=
  ⟨I.ok, I.os, I.bare, I.base, I.loc, I.cell, I.free, I.freeC, fun p hp => (List.mem_append.mp hp).elim (fun z => I.pin p (List.mem_append_left _ z)) (h p), I.hok, I.len⟩
theorem nodup_ix {N : List Str} (hN : N.Nodup) {i j : Nat} {x : Str} (a : N[i]? = some x) (b : N[j]? = some x) : i = j := by
  obtain ⟨h1, e1⟩ := List.getElem?_eq_some_iff.mp a
  obtain ⟨h2, e2⟩ := List.getElem?_eq_some_iff.mp b
  exact (List.getElem_inj hN).mp (e1.trans e2.symm)
theorem store_ok2 {M : Model} {A : Around} {E : Value → Shared → Prop} {i : Nat} {x : Str} {v : V} {u : Value} {Q : Unit → Shared → Prop} (I : Inv X pins σ H s) (hN : X.N.Nodup) (hi : X.N[i]? = some x) (hx : Loc X.env.scope x) (r : RelV v u)
    (h : ∀ s', Inv X pins (σ.set i (some v)) H s' → (∃ a, Heap.SameBut a s.heap s'.heap ∧ (a = X.env.locals ∨ X.env.cells.lookup x = some a)) → Q () s') (hf : X.fn x = true ∨ X.env.scope.names.lookup x = some .local := by first | exact .inl rfl | exact .inr rfl | assumption) : wpAny M A (storeName X.env x u) Q E s := by
  obtain ⟨m, hn, hl⟩ := id I.loc
  have hcls : (X.env.scope.kind == .class || (X.env.scope.kind == .module && X.env.locals != X.env.globals)) = false := by rw [I.ok.kind]; rfl
  have hiσ : i < σ.length := by rw [I.len]; exact (List.getElem?_eq_some_iff.mp hi).1
  have cne := I.cne
  have tracked : ∀ {a : Addr} {h' : Heap}, (∃ o, s.heap.get? a = some o ∧ H a = none) → Heap.SameBut a s.heap h' → HOk X.prog X.w H h' := fun {a h'} ha hs b ob e => by
    obtain ⟨_, _, hfree⟩ := ha
    refine (I.hok b ob e).stay (fun c w' hc q => (hs.2 c ?_).trans q) (fun _ q => q) fun _ _ q => q
    rintro rfl
    rcases hc with rfl | hc
    · rw [hfree] at e; cases e
    · rw [hfree] at hc; cases hc
  rcases hx with hk | hk
  · refine wpAny_storeName_local hk hn (fun h' hn' hs => ?_) hcls
    obtain ⟨oL, _, _, hoL, _⟩ := id hn
    refine h _ ⟨I.ok, I.os, I.bare, ⟨fun b o e n hb hx => ?_, fun b o e n hb hx => ?_, I.base.free, fun b o e hx => ?_, I.base.tups, I.base.frzs, I.base.tbls⟩, ⟨_, hn', fun j y v' e1 e2 e3 => ?_⟩, fun y c e => ?_, I.free, I.freeC, fun p hp => ?_, tracked ⟨oL, hoL, I.free⟩ hs, by simpa using I.len⟩ ⟨_, hs, .inl rfl⟩
    · exact (hs.2 b (Nat.ne_of_lt (Nat.lt_of_lt_of_le (Heap.lt_size e) I.ok.above))).trans (I.base.keep b o e n hb hx)
    · obtain ⟨sl, e1⟩ := I.base.slot b o e n hb hx
      exact ⟨sl, (hs.2 b (Nat.ne_of_lt (Nat.lt_of_lt_of_le (Heap.lt_size e) I.ok.above))).trans e1⟩
    · obtain ⟨o', e1⟩ := I.base.there b o e hx
      exact ⟨o', (hs.2 b (Nat.ne_of_lt (Nat.lt_of_lt_of_le (Heap.lt_size e) I.ok.above))).trans e1⟩
    · by_cases hj : j = i
      · subst hj
        rw [hi] at e1; cases e1
        rw [List.getElem?_set_self hiσ] at e2
        cases e2
        exact ⟨u, r, .inl ⟨hk, by simp⟩⟩
      · rw [List.getElem?_set_ne (Ne.symm hj)] at e2
        obtain ⟨u', r', q⟩ := hl j y v' e1 e2 e3
        refine ⟨u', r', ?_⟩
        rcases q with ⟨k, e⟩ | ⟨k, c, e, z⟩
        · refine .inl ⟨k, ?_⟩
          have : y ≠ x := fun e => hj (nodup_ix hN e1 (e ▸ hi))
          simp [this, e]
        · exact .inr ⟨k, c, e, z.sameBut hs (cne y c e)⟩
    · obtain ⟨w', z⟩ := I.cell y c e
      exact ⟨w', z.sameBut hs (cne y c e)⟩
    · obtain ⟨e, n, ne, nf, d⟩ := I.pin p hp
      exact ⟨(hs.2 p.1 ne).trans e, n, ne, nf, d⟩
  · have hfn : X.fn x = true := by
      rcases hf with z | z
      · exact z
      · rw [z] at hk; cases hk
    obtain ⟨c, hc⟩ := I.ok.has x (.inl hk)
    obtain ⟨w', z⟩ := I.cell x c hc
    refine wpAny_storeName_cell I.ok.kind hk hc z (fun h' hc' hs => ?_)
    obtain ⟨oc, hoc, hocd⟩ := id z
    refine h { s with heap := h' } ⟨I.ok, I.os, I.bare, ⟨fun b o e n hb hx => ?_, fun b o e n hb hx => ?_, I.base.free, fun b o e hx => ?_, I.base.tups, I.base.frzs, I.base.tbls⟩, ⟨m, hn.sameBut hs (Ne.symm (cne x c hc)), fun j y v' e1 e2 e3 => ?_⟩, fun y c' e => ?_, I.free, I.freeC, fun p hp => ?_, tracked ⟨oc, hoc, I.freeC x c hc⟩ hs, by simpa using I.len⟩ ⟨c, hs, .inr hc⟩
    · exact (hs.2 b (Nat.ne_of_lt (Nat.lt_of_lt_of_le (Heap.lt_size e) (I.ok.cab x c hfn hc)))).trans (I.base.keep b o e n hb hx)
    · obtain ⟨sl, e1⟩ := I.base.slot b o e n hb hx
      exact ⟨sl, (hs.2 b (Nat.ne_of_lt (Nat.lt_of_lt_of_le (Heap.lt_size e) (I.ok.cab x c hfn hc)))).trans e1⟩
    · obtain ⟨o', e1⟩ := I.base.there b o e hx
      exact ⟨o', (hs.2 b (Nat.ne_of_lt (Nat.lt_of_lt_of_le (Heap.lt_size e) (I.ok.cab x c hfn hc)))).trans e1⟩
    · by_cases hj : j = i
      · subst hj
        rw [hi] at e1; cases e1
        rw [List.getElem?_set_self hiσ] at e2
        cases e2
        exact ⟨u, r, .inr ⟨.inl hk, c, hc, hc'⟩⟩
      · rw [List.getElem?_set_ne (Ne.symm hj)] at e2
        obtain ⟨u', r', q⟩ := hl j y v' e1 e2 e3
        refine ⟨u', r', ?_⟩
        rcases q with q | ⟨k, c', e, z'⟩
        · exact .inl q
        · refine .inr ⟨k, c', e, z'.sameBut hs ?_⟩
          rintro rfl
          exact hj (nodup_ix hN e1 (I.ok.inj _ _ _ e hc ▸ hi))
    · by_cases hcc : c' = c
      · subst hcc; exact ⟨_, hc'⟩
      · obtain ⟨w2, z2⟩ := I.cell y c' e
        exact ⟨w2, z2.sameBut hs hcc⟩
    · obtain ⟨e, n, ne, nf, d⟩ := I.pin p hp
      refine ⟨(hs.2 p.1 ?_).trans e, n, ne, nf, d⟩
      intro q
      rw [q, hoc] at e
      have q' : oc = p.2 := Option.some.inj e
      exact d w' (by rw [← q']; exact hocd)
theorem store_ok {M : Model} {A : Around} {E : Value → Shared → Prop} {i : Nat} {x : Str} {v : V} {u : Value} {Q : Unit → Shared → Prop} (I : Inv X pins σ H s) (hN : X.N.Nodup) (hi : X.N[i]? = some x) (hx : Loc X.env.scope x) (r : RelV v u)
    (h : ∀ s', Inv X pins (σ.set i (some v)) H s' → Q () s') (hf : X.fn x = true ∨ X.env.scope.names.lookup x = some .local := by first | exact .inl rfl | exact .inr rfl | assumption) : wpAny M A (storeName X.env x u) Q E s :=
  store_ok2 I hN hi hx r (fun s' I' _ => h s' I') hf
theorem Inv.call' {s' : Shared} {ch : List Addr} (I : Inv X pins σ H s) (ho : s'.os = s.os) (u : Un (frs X.stack) ch H H' s.heap s'.heap) (hok : HOk X.prog X.w H' s'.heap) (hg : AllBare s'.gens)
    (hch : ∀ b ∈ ch, (b ∈ X.ex ∨ X.s₀.heap.objs.size ≤ b) ∧ b ≠ X.env.locals ∧ (∀ x c, X.env.cells.lookup x = some c → c ≠ b) ∧ ∀ p ∈ X.pn ++ pins, p.1 ≠ b) : Inv X pins σ H' s' := by
  obtain ⟨h', g', d', t', o'⟩ := s'
  have e : o' = s.os := ho
  subst e
  exact I.call (g' := g') (t' := t') (d' := d') u hok hg hch
end
abbrev XK := Value → Option Addr → Hp → Prop
abbrev St := List (Option V)
abbrev VK := V → Hp → Prop
abbrev TE := St → Hp → VK → Prop
abbrev TT := St → Hp → (Bool → Hp → Prop) → Prop
abbrev TA := St → Hp → (List V → Hp → Prop) → Prop
structure Ends where
  nx : St → Hp → Prop
  rt : VK
  bk : St → Hp → Prop := fun _ _ => False
  ct : St → Hp → Prop := fun _ _ => False
abbrev TS := Ends → St → Hp → Prop
def EP (X : Cx) (pins : List (Addr × Obj)) (σ : St) (Q : VK) (u : Value) (s' : Shared) : Prop := ∃ v H', Inv X pins σ H' s' ∧ RelV v u ∧ Q v H'
def TP (X : Cx) (pins : List (Addr × Obj)) (σ : St) (Q : Bool → Hp → Prop) (b : Bool) (s' : Shared) : Prop := ∃ H', Inv X pins σ H' s' ∧ Q b H'
def AP (X : Cx) (pins : List (Addr × Obj)) (σ : St) (Q : List V → Hp → Prop) (us : List Value) (s' : Shared) : Prop := ∃ vs H', Inv X pins σ H' s' ∧ Vals vs us ∧ Q vs H'
def SP (X : Cx) (pins : List (Addr × Obj)) (D : Ends) (f : Flow) (s' : Shared) : Prop :=
  match f with
  | .next => ∃ σ' H', Inv X pins σ' H' s' ∧ D.nx σ' H'
  | .brk => ∃ σ' H', Inv X pins σ' H' s' ∧ D.bk σ' H'
  | .cont => ∃ σ' H', Inv X pins σ' H' s' ∧ D.ct σ' H'
  | .ret u => ∃ v σ' H', Inv X pins σ' H' s' ∧ RelV v u ∧ D.rt v H'
def PE (X : Cx) (e : Expr) (t : TE) : Prop :=
  ∀ (pins : List (Addr × Obj)) (s : Shared) (σ : St) (H : Hp) (Q : VK), Inv X pins σ H s → t σ H Q → wpAny (model X.prog X.w) X.A (eval e X.env) (EP X pins σ Q) X.xe s
def PT (X : Cx) (e : Expr) (t : TT) : Prop :=
  ∀ (pins : List (Addr × Obj)) (s : Shared) (σ : St) (H : Hp) (Q : Bool → Hp → Prop), Inv X pins σ H s → t σ H Q → wpAny (model X.prog X.w) X.A (isTrue e X.env (eval e X.env)) (TP X pins σ Q) X.xe s
def PW (X : Cx) (e : Expr) (t : TT) : Prop :=
  ∀ (whole : Sem Value) (pins : List (Addr × Obj)) (s : Shared) (σ : St) (H : Hp) (Q : Bool → Hp → Prop), Inv X pins σ H s → t σ H Q → wpAny (model X.prog X.w) X.A (isTrue e X.env whole) (TP X pins σ Q) X.xe s
theorem PW.pt {X : Cx} {e : Expr} {t : TT} (h : PW X e t) : PT X e t := h _
def PA (X : Cx) (es : List Expr) (t : TA) : Prop :=
  ∀ (pos : Pos) (pins : List (Addr × Obj)) (s : Shared) (σ : St) (H : Hp) (Q : List V → Hp → Prop), Inv X pins σ H s → t σ H Q → wpAny (model X.prog X.w) X.A (spliced (backTo pos (starEach es X.env))) (AP X pins σ Q) X.xe s
def PS (X : Cx) (st : Stmt) (t : TS) : Prop :=
  ∀ (pins : List (Addr × Obj)) (s : Shared) (σ : St) (H : Hp) (D : Ends), Inv X pins σ H s → t D σ H → wpAny (model X.prog X.w) X.A (exec st X.env) (SP X pins D) X.xe s
def PSs (X : Cx) (st : List Stmt) (t : TS) : Prop :=
  ∀ (pins : List (Addr × Obj)) (s : Shared) (σ : St) (H : Hp) (D : Ends), Inv X pins σ H s → t D σ H → wpAny (model X.prog X.w) X.A (execs st X.env) (SP X pins D) X.xe s
theorem thn {α : Type} {t : Sem α} {Q Q' : α → Shared → Prop} {M : Model} {A : Around} {E : Value → Shared → Prop} {s : Shared} (h : wpAny M A t Q E s) (hQ : ∀ a s, Q a s → Q' a s) : wpAny M A t Q' E s := wpAny_mono h hQ fun _ _ x => x
end L2
namespace L2
open PySem PySem.Spec PyProof.Rows
section
variable {X : Cx}
def tVar (i : Nat) : TE := fun σ H Q => ∃ v, σ[i]? = some (some v) ∧ Q v H
def tC (v : V) : TE := fun _ H Q => Q v H
theorem pe_var {i : Nat} {x : Str} {pos : Pos} (hN : X.N[i]? = some x) (hv : Vis X.env.scope x) (hd : (x == ("__debug__" : Str)) = false := by decide) (hcd : (x == ("__classdict__" : Str)) = false := by decide) : PE X (.Name x pos) (tVar i) := by
  intro pins s σ H Q I h
  obtain ⟨v, e, h⟩ := h
  obtain ⟨m, hn, hl⟩ := I.loc
  obtain ⟨u, r, l⟩ := hl i x v hN e hv
  have fin : EP X pins σ Q u s := ⟨v, H, I, r, h⟩
  rcases l with ⟨hk, hm⟩ | ⟨hk, c, hc, hcell⟩
  · exact wpAny_Name (wpAny_loadName_local I.ok.kind hk hn hm fin) hd
  · rcases hk with hk | hk
    · exact wpAny_Name (wpAny_loadName_cell I.ok.kind hk hc hcell fin) hd
    · exact wpAny_Name (wpAny_loadName_free I.ok.kind hk hc hcell fin hcd) hd
theorem pe_int {i j pos} : PE X (.Constant (.int i) j pos) (tC (.int i)) := fun _ _ _ H _ I h => wpAny_Constant_int ⟨.int i, H, I.tok _, ⟨_, rfl⟩, h⟩
theorem pe_bl {b j pos} : PE X (.Constant (.bool b) j pos) (tC (.bl b)) := fun _ _ _ H _ I h => Constant_bool ⟨.bl b, H, I, rfl, h⟩
theorem pe_str {x j pos} : PE X (.Constant (.str x) j pos) (tC (.str x)) := fun _ _ _ H _ I h => Calls.Constant_str ⟨.str x, H, I.tok _, ⟨_, rfl⟩, h⟩
def Gl (X : Cx) (x : Str) : Prop := X.env.kindOf x = some .globalImplicit
theorem ld_glob {E : Value → Shared → Prop} {pins : List (Addr × Obj)} {s : Shared} {σ : St} {H : Hp} {x : Str} {u : Value} {pos : Pos} {Q : Value → Shared → Prop} (I : Inv X pins σ H s) (hg : Gl X x) (hm : X.mg x = some u) (h : Q u s)
    (hd : (x == ("__debug__" : Str)) = false := by decide) : wpAny (model X.prog X.w) X.A (eval (.Name x pos) X.env) Q E s :=
  Calls.Name_function_global I.ok.kind hg (Calls.loadGlobal_global (by rw [I.ok.glob]; exact I.mod.glob.keeps I.bk) hm h) hd
theorem ld_blt {E : Value → Shared → Prop} {pins : List (Addr × Obj)} {s : Shared} {σ : St} {H : Hp} {x : Str} {u : Value} {pos : Pos} {Q : Value → Shared → Prop} (I : Inv X pins σ H s) (hg : Gl X x) (hm : X.mg x = none) (hv : bootBuiltins x = some u) (h : Q u s)
    (hn : x ≠ "__name__" := by decide) (hd : (x == ("__debug__" : Str)) = false := by decide) : wpAny (model X.prog X.w) X.A (eval (.Name x pos) X.env) Q E s := by
  obtain ⟨mb, h1, h2⟩ := I.mod.blt
  exact Calls.Name_function_global I.ok.kind hg (Calls.loadGlobal_builtin (by rw [I.ok.glob]; exact I.mod.glob.keeps I.bk) hm (by rw [I.ok.blt]; exact h1.keeps I.bk) ((h2 x hn).trans hv) h) hd
theorem pe_glob {x : Str} {v : V} {u : Value} {pos : Pos} (hg : Gl X x) (hm : X.mg x = some u) (r : RelV v u) (hd : (x == ("__debug__" : Str)) = false := by decide) : PE X (.Name x pos) (tC v) :=
  fun _ _ _ H _ I h => ld_glob I hg hm ⟨v, H, I, r, h⟩ hd
theorem pe_bltn {x : Str} {v : V} {u : Value} {pos : Pos} (hg : Gl X x) (hm : X.mg x = none) (hv : bootBuiltins x = some u) (r : RelV v u) (hn : x ≠ "__name__" := by decide) (hd : (x == ("__debug__" : Str)) = false := by decide) : PE X (.Name x pos) (tC v) :=
  fun _ _ _ H _ I h => ld_blt I hg hm hv ⟨v, H, I, r, h⟩ hn hd
def t2I (ta tb : TE) (k : Int → Int → Hp → Prop) : St → Hp → Prop := fun σ H => ta σ H fun x H1 => tb σ H1 fun y H2 => ∃ i j, x = .int i ∧ y = .int j ∧ k i j H2
def tAdd (ta tb : TE) : TE := fun σ H Q => t2I ta tb (fun i j H2 => Q (.int (i + j)) H2) σ H
def tSub (ta tb : TE) : TE := fun σ H Q => t2I ta tb (fun i j H2 => Q (.int (i - j)) H2) σ H
def tMul (ta tb : TE) : TE := fun σ H Q => t2I ta tb (fun i j H2 => (-(2 ^ 64) < i ∧ i < 2 ^ 64) ∧ Q (.int (i * j)) H2) σ H
variable {a b : Expr} {ta tb : TE} {pos : Pos}
def PC (X : Cx) (op : CmpOp) (a b : Expr) (t : TE) : Prop :=
  ∀ (pins : List (Addr × Obj)) (s : Shared) (σ : St) (H : Hp) (Q : VK), Inv X pins σ H s → t σ H Q →
    wpAny (model X.prog X.w) X.A (eval a X.env) (fun v s₁ => wpAny (model X.prog X.w) X.A (eval b X.env) (fun u s₂ => wpAny (model X.prog X.w) X.A (compareOp op v u) (EP X pins σ Q) X.xe s₂) X.xe s₁) X.xe s
def tCmp (p : Int → Int → Bool) (ta tb : TE) : TE := fun σ H Q => t2I ta tb (fun i j H2 => Q (.bl (p i j)) H2) σ H
abbrev tLt : TE → TE → TE := tCmp fun i j => decide (i < j)
abbrev tLe : TE → TE → TE := tCmp fun i j => decide (i ≤ j)
abbrev tGt : TE → TE → TE := tCmp fun i j => decide (j < i)
abbrev tGe : TE → TE → TE := tCmp fun i j => decide (j ≤ i)
abbrev tEqI : TE → TE → TE := tCmp fun i j => decide (i = j)
abbrev tNeI : TE → TE → TE := tCmp fun i j => !decide (i = j)
def tIsN (ta : TE) : TE := fun σ H Q => ta σ H fun x H1 => Q (.bl (decide (x = .non))) H1
def tNotN (ta : TE) : TE := fun σ H Q => ta σ H fun x H1 => Q (.bl (!decide (x = .non))) H1
def tB (t : TE) : TT := fun σ H Q => t σ H fun x H1 => ∃ c, x = .bl c ∧ Q c H1
theorem pt_val {e : Expr} {t : TE} (h : PE X e t) (he : ∀ whole, isTrue e X.env whole = (do let v ← whole; standAt e.pos; holding [v] (truthy v)) := by intro _; rfl) : PT X e (tB t) := by
  intro pins s σ H Q I hw
  refine isTrue_plain (thn (h pins s σ H _ I hw) fun v s1 ⟨x, H1, I1, r1, q1⟩ => ?_) (he _)
  obtain ⟨d, rfl, q⟩ := q1
  cases r1
  exact wpAny_truthy_bool ⟨H1, I1, q⟩
variable {tA tB' : TT} {rest : List Expr}
def tAnd (t u : TT) : TT := fun σ H Q => t σ H fun c H1 => if c = true then u σ H1 Q else Q false H1
def tOr (t u : TT) : TT := fun σ H Q => t σ H fun c H1 => if c = true then Q true H1 else u σ H1 Q
def tNot (t : TT) : TT := fun σ H Q => t σ H fun c H1 => Q (!c) H1
theorem pw_or1 (ha : PT X a tA) : PW X (.BoolOp .Or [a] pos) tA := by
  intro wh pins s σ H Q I h
  refine isTrue_or (thn (ha pins s σ H Q I h) fun c s1 e => ?_)
  cases c with
  | false => exact isTrue_or_nil e
  | true => exact e
theorem pw_or (ha : PT X a tA) (hb : PW X (.BoolOp .Or (b :: rest) pos) tB') : PW X (.BoolOp .Or (a :: b :: rest) pos) (tOr tA tB') := by
  intro wh pins s σ H Q I h
  refine isTrue_or (thn (ha pins s σ H _ I h) fun c s1 ⟨H1, I1, q1⟩ => ?_)
  cases c with
  | true => exact ⟨H1, I1, q1⟩
  | false => exact hb wh pins s1 σ H1 Q I1 q1
theorem pt_not (ha : PT X a tA) : PT X (.UnaryOp .Not a pos) (tNot tA) := by
  intro pins s σ H Q I h
  exact isTrue_not (ha pins s σ H (fun c H1 => Q (!c) H1) I h)
def tAndV (ta tb : TE) : TE := fun σ H Q => ta σ H fun x H1 => ∃ c, x = .bl c ∧ if c = true then tb σ H1 Q else Q (.bl false) H1
def tOrV (ta tb : TE) : TE := fun σ H Q => ta σ H fun x H1 => ∃ c, x = .bl c ∧ if c = true then Q (.bl true) H1 else tb σ H1 Q
def tNotV (ta : TE) : TE := fun σ H Q => ta σ H fun x H1 => ∃ c, x = .bl c ∧ Q (.bl (!c)) H1
theorem pe_one {op} {t : TE} (h : PE X a t) : PE X (.BoolOp op [a] pos) t := fun pins s σ H Q I hw => BoolOp_one (h pins s σ H Q I hw)
theorem pe_and (ha : PE X a ta) (hb : PE X (.BoolOp .And (b :: rest) pos) tb) : PE X (.BoolOp .And (a :: b :: rest) pos) (tAndV ta tb) := by
  intro pins s σ H Q I h
  refine BoolOp_and (thn (ha pins s σ H _ I h) fun v s1 ⟨x, H1, I1, r1, q1⟩ => ?_)
  obtain ⟨c, rfl, q1⟩ := q1
  cases r1
  refine wpAny_truthy_bool ?_
  cases c with
  | true => exact hb pins s1 σ H1 Q I1 q1
  | false => exact ⟨.bl false, H1, I1, rfl, q1⟩
theorem pe_not (ha : PE X a ta) : PE X (.UnaryOp .Not a pos) (tNotV ta) := by
  intro pins s σ H Q I h
  refine UnaryOp_ (thn (ha pins s σ H _ I h) fun v s1 ⟨x, H1, I1, r1, q1⟩ => ?_)
  obtain ⟨c, rfl, q1⟩ := q1
  cases r1
  exact not_of (wpAny_truthy_bool ⟨.bl (!c), H1, I1, rfl, q1⟩)
def tIf (t : TT) (ta tb : TE) : TE := fun σ H Q => t σ H fun c H1 => if c = true then ta σ H1 Q else tb σ H1 Q
end
end L2
namespace L2
open PySem PySem.Spec PyProof.Rows
def SqL (K : PySem.W.Frag) (H : Hp) (a : Addr) (xs : List V) : Prop :=
  Rd H a (.lst xs) ∨
    ∃ (o : Obj) (its : Array Value) (n : Nat), K.lookup a = some o ∧ o.cls = .type "list" ∧ o.dict = none ∧ o.data = .seq its n ∧ its.size ≤ sizeLine ∧ Vals xs its.toList
def SqT (K : PySem.W.Frag) (H : Hp) (a : Addr) (xs : List V) : Prop :=
  Rd H a (.tup xs) ∨
    ∃ (o : Obj) (its : Array Value) (n : Nat), K.lookup a = some o ∧ o.cls = .type "tuple" ∧ o.data = .seq its n ∧ its.size ≤ sizeLine ∧ Vals xs its.toList
def absV : Value → Option V
  | .none => some .non
  | .bool b => some (.bl b)
  | .int i _ => some (.int i)
  | .str x _ => some (.str x)
  | .bytes b _ => some (.byt b)
  | .float b _ => some (.flt b)
  | .ref a => some (.ref a)
  | .type n => some (.ty n)
  | _ => none
theorem RelV.abs {x : V} {u : Value} (r : RelV x u) : absV u = some x := by
  cases x with
  | non => cases r; rfl
  | bl _ => cases r; rfl
  | int _ => obtain ⟨t, rfl⟩ := r; rfl
  | str _ => obtain ⟨t, rfl⟩ := r; rfl
  | byt _ => obtain ⟨t, rfl⟩ := r; rfl
  | flt _ => obtain ⟨t, rfl⟩ := r; rfl
  | ref _ => cases r; rfl
  | ty _ => cases r; rfl
theorem RelV.inj {x y : V} {u : Value} (r : RelV x u) (q : RelV y u) : x = y := Option.some.inj (r.abs.symm.trans q.abs)
theorem Vals.inj : ∀ {xs ys : List V} {us : List Value}, Vals xs us → Vals ys us → xs = ys
  | _, _, _, .nil, .nil => rfl
  | _, _, _, .cons r t, .cons r' t' => by rw [r.inj r', Vals.inj t t']
section
variable {X : Cx} {pins : List (Addr × Obj)} {σ : St} {H : Hp} {s : Shared} {a : Addr} {xs ys : List V}
theorem SqL.of {K : PySem.W.Frag} (h : H a = some (.lst xs)) : SqL K H a xs := .inl (.inl h)
theorem SqT.of {K : PySem.W.Frag} (h : H a = some (.tup xs)) : SqT K H a xs := .inl (.inl h)
theorem Inv.list (I : Inv X pins σ H s) (h : SqL X.K H a xs) : ∃ its : List Value, Vals xs its ∧ PlainL s.heap a its.toArray ∧ xs.length ≤ sizeLine := by
  rcases h with h | ⟨o, its, n, hk, hc, hd, hs, hz, r⟩
  · obtain ⟨z, its, n, r, e⟩ := h.ok I.hok
    exact ⟨its, r, ⟨_, n, e, rfl, rfl, rfl⟩, z⟩
  · refine ⟨its.toList, r, ⟨o, n, I.kIn a o hk, hc, hd, by simpa using hs⟩, ?_⟩
    have e := r.length
    simp only [Array.length_toList] at e
    omega
theorem Inv.tuple (I : Inv X pins σ H s) (h : SqT X.K H a xs) : ∃ its : List Value, Vals xs its ∧ IsTup s.heap a its.toArray ∧ xs.length ≤ sizeLine := by
  rcases h with h | ⟨o, its, n, hk, hc, hs, hz, r⟩
  · obtain ⟨z, its, r, p⟩ := h.ok I.hok
    exact ⟨its, r, p, z⟩
  · refine ⟨its.toList, r, ⟨o, I.kIn a o hk, hc, n, by simpa using hs⟩, ?_⟩
    have e := r.length
    simp only [Array.length_toList] at e
    omega
theorem Inv.list_inj (I : Inv X pins σ H s) (h : SqL X.K H a xs) (h' : SqL X.K H a ys) : xs = ys := by
  obtain ⟨its, r, ⟨o, n, e, _, _, d⟩, _⟩ := I.list h
  obtain ⟨its', r', ⟨o', n', e', _, _, d'⟩, _⟩ := I.list h'
  rw [e] at e'; cases e'
  rw [d] at d'
  injection d' with d1 _
  have : its = its' := by simpa using congrArg Array.toList d1
  subst this
  exact r.inj r'
theorem Inv.tuple_inj (I : Inv X pins σ H s) (h : SqT X.K H a xs) (h' : SqT X.K H a ys) : xs = ys := by
  obtain ⟨its, r, ⟨o, e, _, n, d⟩, _⟩ := I.tuple h
  obtain ⟨its', r', ⟨o', e', _, n', d'⟩, _⟩ := I.tuple h'
  rw [e] at e'; cases e'
  rw [d] at d'
  injection d' with d1 _
  have : its = its' := by simpa using congrArg Array.toList d1
  subst this
  exact r.inj r'
end
abbrev Cx.wish (X : Cx) (E : Value → Shared → Prop) : Cx := { X with xe := E }
abbrev Cx.nox (X : Cx) : Cx := X.wish fun _ _ => False
theorem Cx.Ok.wish {X : Cx} (ok : X.Ok) (E : Value → Shared → Prop) : (X.wish E).Ok :=
  ⟨ok.mod, ok.kind, ok.glob, ok.blt, ok.above, ok.inj, ok.has, ok.cab, ok.hd, ok.frames, ok.stk, ok.exf, ok.bs, ok.bsz, ok.noex, ok.exfs, ok.funs, ok.frf⟩
theorem Cx.Ok.unwish {X : Cx} {E : Value → Shared → Prop} (ok : (X.wish E).Ok) : X.Ok :=
  ⟨ok.mod, ok.kind, ok.glob, ok.blt, ok.above, ok.inj, ok.has, ok.cab, ok.hd, ok.frames, ok.stk, ok.exf, ok.bs, ok.bsz, ok.noex, ok.exfs, ok.funs, ok.frf⟩
section
variable {X : Cx} {pins : List (Addr × Obj)} {σ : St} {H : Hp} {s : Shared} {E : Value → Shared → Prop}
theorem Inv.wish (I : Inv X pins σ H s) (E : Value → Shared → Prop) : Inv (X.wish E) pins σ H s := ⟨I.ok.wish E, I.os, I.bare, I.base, I.loc, I.cell, I.free, I.freeC, I.pin, I.hok, I.len⟩
theorem Inv.unwish (I : Inv (X.wish E) pins σ H s) : Inv X pins σ H s := ⟨I.ok.unwish, I.os, I.bare, I.base, I.loc, I.cell, I.free, I.freeC, I.pin, I.hok, I.len⟩
theorem SP.unwish {D : Ends} {f : Flow} {s' : Shared} (h : SP (X.wish E) pins D f s') : SP X pins D f s' := by
  cases f with
  | next => obtain ⟨σ', H', I, q⟩ := h; exact ⟨σ', H', I.unwish, q⟩
  | brk => obtain ⟨σ', H', I, q⟩ := h; exact ⟨σ', H', I.unwish, q⟩
  | cont => obtain ⟨σ', H', I, q⟩ := h; exact ⟨σ', H', I.unwish, q⟩
  | ret u => obtain ⟨v, σ', H', I, r, q⟩ := h; exact ⟨v, σ', H', I.unwish, r, q⟩
theorem PSs.nox {st : List Stmt} {t : TS} (h : PSs X.nox st t) : PSs X st t := fun pins s σ H D I hw =>
  wpAny_mono (h pins s σ H D (I.wish _) hw) (fun _ _ q => q.unwish) fun _ _ z => False.elim z
end
section
variable {X : Cx} {st : Stmt} {rest : List Stmt} {t u : TS} {e : Expr} {te : TE} {pos : Pos}
def tNext : TS := fun D σ H => D.nx σ H
def tSeq (t u : TS) : TS := fun D σ H => t { D with nx := u D } σ H
theorem pss_nil : PSs X [] tNext := fun _ _ σ H _ I h => wpAny_execs_nil ⟨σ, H, I, h⟩
theorem pss_cons (h1 : PS X st t) (h2 : PSs X rest u) : PSs X (st :: rest) (tSeq t u) := by
  intro pins s σ H D I h
  refine wpAny_execs_cons (thn (h1 pins s σ H { D with nx := u D } I h) fun f s1 q => ?_)
  cases f with
  | next =>
    obtain ⟨σ', H', I', q⟩ := q
    exact h2 pins s1 σ' H' D I' q
  | ret v => exact q
  | brk => exact q
  | cont => exact q
theorem pss_one (h1 : PS X st t) : PSs X [st] t := by
  intro pins s σ H D I h
  refine wpAny_execs_cons (thn (h1 pins s σ H D I h) fun f s1 q => ?_)
  cases f with
  | next => exact wpAny_execs_nil q
  | ret v => exact q
  | brk => exact q
  | cont => exact q
def tBreak : TS := fun D σ H => D.bk σ H
def tCont : TS := fun D σ H => D.ct σ H
theorem Inv.quiet {pins : List (Addr × Obj)} {σ : St} {H : Hp} {s : Shared} (I : Inv X pins σ H s) : interactive X.env = false := by simp [interactive, I.ok.kind]
def tDrop (te : TE) : TS := fun D σ H => te σ H fun _ H1 => D.nx σ H1
theorem ps_expr (he : PE X e te) (hs : swapsWith e none pos.line X.env = pure false := by rfl) : PS X (.Expr e pos) (tDrop te) := by
  intro pins s σ H D I h
  exact wpAny_Expr_any (thn (he pins s σ H _ I h) fun v s1 ⟨x, H1, I1, r1, q1⟩ => ⟨σ, H1, I1, q1⟩) I.quiet hs
def tRet (te : TE) : TS := fun D σ H => te σ H D.rt
theorem ps_ret (he : PE X e te) : PS X (.Return (some e) pos) (tRet te) := by
  intro pins s σ H D I h
  exact wpAny_Return_some (thn (he pins s σ H _ I h) fun v s1 ⟨x, H1, I1, r1, q1⟩ => ⟨x, σ, H1, I1, r1, q1⟩)
def tRetN : TS := fun D _ H => D.rt .non H
def tIfS (c : TT) (t u : TS) : TS := fun D σ H => c σ H fun b H1 => if b = true then t D σ H1 else u D σ H1
theorem ps_if {c : Expr} {a b : List Stmt} {tc : TT} (hc : PT X c tc) (ha : PSs X a t) (hb : PSs X b u) : PS X (.If c a b pos) (tIfS tc t u) := by
  intro pins s σ H D I h
  refine wpAny_If (thn (hc pins s σ H _ I h) fun d s1 ⟨H1, I1, q1⟩ => ?_)
  cases d with
  | true => exact ha pins s1 σ H1 D I1 q1
  | false => exact hb pins s1 σ H1 D I1 q1
def tNever : TS := fun _ _ _ => False
end
abbrev TG := V → St → Hp → (St → Hp → Prop) → Prop
abbrev TGs := List V → St → Hp → (St → Hp → Prop) → Prop
def PG (X : Cx) (target : Expr) (t : TG) : Prop :=
  ∀ (pins : List (Addr × Obj)) (s : Shared) (σ : St) (H : Hp) (v : V) (u : Value) (Q : St → Hp → Prop), Inv X pins σ H s → RelV v u → t v σ H Q →
    wpAny (model X.prog X.w) X.A (assign target X.env u) (fun _ s' => ∃ σ' H', Inv X pins σ' H' s' ∧ Q σ' H') X.xe s
def PGs (X : Cx) (ts : List Expr) (t : TGs) : Prop :=
  ∀ (pins : List (Addr × Obj)) (s : Shared) (σ : St) (H : Hp) (vs : List V) (us : List Value) (Q : St → Hp → Prop), Inv X pins σ H s → Vals vs us → t vs σ H Q →
    wpAny (model X.prog X.w) X.A (assignInOrder ((assignEach ts X.env).map (·.2)) us) (fun _ s' => ∃ σ' H', Inv X pins σ' H' s' ∧ Q σ' H') X.xe s
abbrev TSet := V → V → V → Hp → (Hp → Prop) → Prop
def PSet (X : Cx) (t : TSet) : Prop :=
  ∀ (pins : List (Addr × Obj)) (s : Shared) (σ : St) (H : Hp) (o i v : V) (ov iv u : Value) (Q : Hp → Prop), Inv X pins σ H s → RelV o ov → RelV i iv → RelV v u → t o i v H Q →
    wpAny (model X.prog X.w) X.A (setItem ov iv u) (fun _ s' => ∃ H', Inv X pins σ H' s' ∧ Q H') X.xe s
abbrev TIp := V → V → Hp → VK → Prop
def PIp (X : Cx) (op : Operator) (t : TIp) : Prop :=
  ∀ (pins : List (Addr × Obj)) (s : Shared) (σ : St) (H : Hp) (x y : V) (v u : Value) (Q : VK), Inv X pins σ H s → RelV x v → RelV y u → t x y H Q →
    wpAny (model X.prog X.w) X.A (inplaceOp op v u) (EP X pins σ Q) X.xe s
section
variable {X : Cx} {pos : Pos}
def gName (i : Nat) : TG := fun v σ H Q => Q (σ.set i (some v)) H
theorem pg_name {i : Nat} {x : Str} (hN : X.N.Nodup) (hi : X.N[i]? = some x) (hx : Loc X.env.scope x) (hf : X.fn x = true ∨ X.env.scope.names.lookup x = some .local := by first | exact .inl rfl | exact .inr rfl | assumption) : PG X (.Name x pos) (gName i) := by
  intro pins s σ H v u Q I r h
  exact wpAny_assign_Name (store_ok I hN hi hx r (fun s' I' => ⟨_, H, I', h⟩) hf)
def gNil : TGs := fun vs σ H Q => vs = [] ∧ Q σ H
def gCons (t : TG) (u : TGs) : TGs := fun vs σ H Q => ∃ v r, vs = v :: r ∧ t v σ H fun σ' H' => u r σ' H' Q
theorem pgs_nil : PGs X [] gNil := by
  intro pins s σ H vs us Q I r h
  obtain ⟨e, h⟩ := h
  subst e
  cases r
  exact assignInOrder_nil ⟨σ, H, I, h⟩
theorem pgs_cons {e : Expr} {es : List Expr} {t : TG} {u : TGs} (h1 : PG X e t) (h2 : PGs X es u)
    (hs : (assignEach (e :: es) X.env).map (·.2) = assign e X.env :: (assignEach es X.env).map (·.2) := by rfl) : PGs X (e :: es) (gCons t u) := by
  intro pins s σ H vs us Q I r h
  obtain ⟨v, vr, e1, h⟩ := h
  subst e1
  cases r with
  | cons r rr =>
    rw [hs]
    refine assignInOrder_cons (thn (h1 pins s σ H _ _ _ I r h) fun _ s1 ⟨σ1, H1, I1, q1⟩ => ?_)
    exact h2 pins s1 σ1 H1 _ _ Q I1 rr q1
def gTup (K : PySem.W.Frag) (n : Nat) (t : TGs) : TG := fun v σ H Q => ∃ a xs, v = .ref a ∧ SqT K H a xs ∧ xs.length = n ∧ t xs σ H Q
theorem pg_tup {es : List Expr} {k : Nat} {t : TGs} {n : Nat} (hc : X.calm = true) (h : PGs X es t)
    (hn : (assignEach es X.env).length = n := by rfl) (hst : (assignEach es X.env).findIdx? (·.1) = none := by rfl) : PG X (.Tuple es k pos) (gTup X.K n t) := by
  intro pins s σ H v u Q I r hw
  obtain ⟨a, xs, e1, hq, hl, hw⟩ := hw
  subst e1
  cases r
  obtain ⟨its, rv, ht, hz⟩ := I.tuple hq
  refine assign_Tuple_tuple (I.ok.hd hc) ht (by simp [hn, ← hl, rv.length]) hst fun h' hx => ?_
  have I1 : Inv X pins σ H { s with heap := h' } := I.kept (t' := s.toks) fun b o e => hx b o (Nat.ne_of_lt (Heap.lt_size e)) e
  exact h pins _ σ H xs _ Q I1 (by simpa using rv) hw
def gSub (to ti : TE) (t : TSet) : TG := fun v σ H Q => to σ H fun o H1 => ti σ H1 fun i H2 => t o i v H2 fun H3 => Q σ H3
theorem pg_sub {o i : Expr} {to ti : TE} {t : TSet} (ho : PE X o to) (hi : PE X i ti) (hs : PSet X t)
    (ha : ∀ v, assign (.Subscript o i pos) X.env v = (do
      let ov ← holding [v] (eval o X.env)
      let iv ← holding [v, ov] (eval i X.env)
      standAt pos
      holding [v, ov, iv] (setItem ov iv v)
      release [v, ov, iv] []) := by intro _; rfl) : PG X (.Subscript o i pos) (gSub to ti t) := by
  intro pins s σ H v u Q I r h
  rw [ha]
  refine wpAny_bind (wpAny_holding (thn (ho pins s σ H _ I h) fun ov s1 ⟨x, H1, I1, r1, q1⟩ => ?_))
  refine wpAny_bind (wpAny_holding (thn (hi pins s1 σ H1 _ I1 q1) fun iv s2 ⟨y, H2, I2, r2, q2⟩ => ?_))
  refine wpAny_bind (wpAny_standAt (wpAny_bind (wpAny_holding (thn (hs pins s2 σ H2 x y v ov iv u _ I2 r1 r2 r q2) fun _ s3 ⟨H3, I3, q3⟩ => ?_))))
  exact wpAny_release ⟨σ, H3, I3, q3⟩
def tAsg (te : TE) (g : TG) : TS := fun D σ H => te σ H fun x H1 => g x σ H1 D.nx
theorem ps_asg {tg e : Expr} {te : TE} {g : TG} (he : PE X e te) (hg : PG X tg g) (hs : swapsWithSole [tg] e pos.line X.env = pure false := by rfl) (hw : swappedStores [tg] e X.env = pure none := by rfl)
    (h1 : (assignEach [tg] X.env).map (·.2) = [assign tg X.env] := by rfl) : PS X (.Assign [tg] e pos) (tAsg te g) := by
  intro pins s σ H D I h
  refine wpAny_Assign_stores (thn (he pins s σ H _ I h) fun v s1 ⟨x, H1, I1, r1, q1⟩ => ?_) hs hw
  rw [h1]
  exact thn (hg pins s1 σ H1 x v _ I1 r1 q1) fun _ s2 q => q
theorem ps_set {i : Nat} {x : Str} {e : Expr} {te : TE} {pos' : Pos} (hN : X.N.Nodup) (hi : X.N[i]? = some x) (hx : Loc X.env.scope x) (he : PE X e te) (hs : swapsWith e (some (.Name x pos')) pos.line X.env = pure false := by rfl) (hf : X.fn x = true ∨ X.env.scope.names.lookup x = some .local := by first | exact .inl rfl | exact .inr rfl | assumption) :
    PS X (.Assign [.Name x pos'] e pos) (tAsg te (gName i)) := by
  intro pins s σ H D I h
  refine wpAny_Assign_Name (thn (he pins s σ H _ I h) fun v s1 ⟨y, H1, I1, r1, q1⟩ => ?_) hs
  exact store_ok I1 hN hi hx r1 (fun s2 I2 => ⟨_, H1, I2, q1⟩) hf
def tPar (i j : Nat) (ta : TA) : TS := fun D σ H => ta σ H fun vs H1 => ∃ v w, vs = [v, w] ∧ D.nx ((σ.set i (some v)).set j (some w)) H1
def tAug (i : Nat) (te : TE) (ti : TIp) : TS := fun D σ H => ∃ x, σ[i]? = some (some x) ∧ te σ H fun y H1 => ti x y H1 fun z H2 => D.nx (σ.set i (some z)) H2
def tAugS (to ti te : TE) (tget : V → V → Hp → VK → Prop) (tip : TIp) (tset : TSet) : TS := fun D σ H => to σ H fun o H1 => ti σ H1 fun i H2 => tget o i H2 fun x H3 => te σ H3 fun y H4 => tip x y H4 fun z H5 => tset o i z H5 fun H6 => D.nx σ H6
def PGet (X : Cx) (t : V → V → Hp → VK → Prop) : Prop :=
  ∀ (pins : List (Addr × Obj)) (s : Shared) (σ : St) (H : Hp) (o i : V) (ov iv : Value) (Q : VK), Inv X pins σ H s → RelV o ov → RelV i iv → t o i H Q →
    wpAny (model X.prog X.w) X.A (getItem ov iv) (EP X pins σ Q) X.xe s
def ipI (f : Int → Int → Int) : TIp := fun x y H Q => ∃ i j, x = .int i ∧ y = .int j ∧ Q (.int (f i j)) H
end
section
variable {X : Cx} {pos : Pos}
def tWhile (c : TT) (tb : TS) : TS := fun D σ H => ∃ W : Nat → St → Hp → Prop, (∃ m, W m σ H) ∧ ∀ m σ H, W m σ H →
  c σ H fun b H1 => if b = true then ∃ N : St → Hp → Prop, (∀ σ' H', N σ' H' → ∃ m', m' < m ∧ W m' σ' H') ∧ tb { D with nx := N, ct := N, bk := D.nx } σ H1 else D.nx σ H1
theorem ps_while {c : Expr} {body : List Stmt} {tc : TT} {tb : TS} (hp : PassesOwn (model X.prog X.w) X.A X.env X.xe) (hc : PT X c tc) (hb : PSs X body tb) : PS X (.While c body [] pos) (tWhile tc tb) := by
  intro pins s σ H D I h
  obtain ⟨W, ⟨m0, w0⟩, turn⟩ := h
  refine wpAny_While (codeAny_whileLoop (fun n s' => ∃ σ' H', Inv X pins σ' H' s' ∧ W n σ' H') ?_ m0 ⟨σ, H, I, w0⟩)
  rintro n s1 ⟨σ1, H1, I1, w1⟩
  refine wpAny_passesOwn hp (thn (hc pins s1 σ1 H1 _ I1 (turn n σ1 H1 w1)) fun b s2 ⟨H2, I2, q2⟩ => ?_)
  cases b with
  | true =>
    obtain ⟨N, hN, q2⟩ := q2
    rw [if_pos rfl]
    refine wpAny_passesOwn hp (thn (hb pins s2 σ1 H2 _ I2 q2) fun f s3 q3 => ?_)
    cases f with
    | next =>
      obtain ⟨σ3, H3, I3, n3⟩ := q3
      obtain ⟨m', hm, w3⟩ := hN σ3 H3 n3
      exact ⟨m', hm, σ3, H3, I3, w3⟩
    | cont =>
      obtain ⟨σ3, H3, I3, n3⟩ := q3
      obtain ⟨m', hm, w3⟩ := hN σ3 H3 n3
      exact ⟨m', hm, σ3, H3, I3, w3⟩
    | brk => exact q3
    | ret v => exact q3
  | false =>
    rw [if_neg Bool.false_ne_true]
    exact wpAny_execs_nil ⟨σ1, H2, I2, q2⟩
end
structure It where
  go : Nat → Hp → Prop
  yld : Nat → Hp → V → Hp → Prop
  stop : Nat → Hp → Prop
def FpOk (X : Cx) (pins : List (Addr × Obj)) (H : Hp) (b : Addr) : Prop :=
  H b = none ∧ b ≠ X.env.locals ∧ b ∉ X.fs ∧ (b ∈ X.ex ∨ X.s₀.heap.objs.size ≤ b) ∧ (∀ x c, X.env.cells.lookup x = some c → c ≠ b) ∧ ∀ p ∈ X.pn ++ pins, p.1 ≠ b
theorem Inv.fpOk {X : Cx} {pins : List (Addr × Obj)} {σ : St} {H H' : Hp} {s : Shared} {b : Addr} (I : Inv X pins σ H s) (hb : s.heap.objs.size ≤ b) (hn : H' b = none) : FpOk X pins H' b := by
  refine ⟨hn, Nat.ne_of_gt (Nat.lt_of_lt_of_le I.lt hb), I.nofs hb, .inr (Nat.le_trans I.sz hb), fun x c e z => ?_, fun p hp z => ?_⟩
  · obtain ⟨v, q⟩ := I.cell x c e
    exact absurd (Nat.lt_of_lt_of_le q.lt (by rw [z]; exact hb)) (Nat.lt_irrefl _)
  · exact absurd (Nat.lt_of_lt_of_le (Heap.lt_size (I.pin p hp).1) (by rw [z]; exact hb)) (Nat.lt_irrefl _)
structure Turn (P : Program) (w : World) (K : PySem.W.Frag) (tg : Expr) (J : It) (fp : List Addr) (it : Addr) (tn : Nat → Heap → Prop) : Prop where
  mem : it ∈ fp
  obj : ∀ i h, tn i h → ∀ b ∈ fp, ∃ o, h.get? b = some o ∧ ∀ v, o.data ≠ .cell v
  keep : ∀ i h h', tn i h → (∀ b ∈ fp, ∀ o, h.get? b = some o → h'.get? b = some o) → tn i h'
  item : ∀ (X : Cx), X.prog = P → X.w = w → X.K = K → X.calm = true → ∀ (i : Nat) (pins : List (Addr × Obj)) (s : Shared) (σ : St) (H : Hp) (E : Value → Shared → Prop), Inv X pins σ H s → (∀ b ∈ fp, FpOk X pins H b) → tn i s.heap → J.go i H →
    wpAny (model P w) X.A (pyNext (.ref it)) (fun r s1 => ∃ u, r = some u ∧
      wpAny (model P w) X.A (letOwnedTupleGo tg (.ref it) u) (fun _ s2 => ∃ x H', Inv X pins σ H' s2 ∧ RelV x u ∧ J.yld i H x H' ∧ tn (i + 1) s2.heap ∧ ∀ b ∈ fp, H' b = none) E s1) E s
  done : ∀ (X : Cx), X.prog = P → X.w = w → X.K = K → X.calm = true → ∀ (i : Nat) (pins : List (Addr × Obj)) (s : Shared) (σ : St) (H : Hp) (E : Value → Shared → Prop), Inv X pins σ H s → (∀ b ∈ fp, FpOk X pins H b) → tn i s.heap → J.stop i H →
    wpAny (model P w) X.A (pyNext (.ref it)) (fun r s1 => r = none ∧ Inv X pins σ H s1) E s
  self : ∀ (A : Around) (i : Nat) (s : Shared) (Q : Value → Shared → Prop) (E : Value → Shared → Prop), tn i s.heap → Q (.ref it) s → wpAny (model P w) A (pyIter (.ref it)) Q E s
abbrev TI := St → Hp → (It → Hp → Prop) → Prop
def PIE (X : Cx) (pins : List (Addr × Obj)) (σ : St) (tg : Expr) (R : It → Hp → Prop) (itv : Value) (s2 : Shared) : Prop :=
  ∃ (it : Addr) (fp : List Addr) (tn : Nat → Heap → Prop) (J : It) (H' : Hp), itv = .ref it ∧ Inv X pins σ H' s2 ∧ Turn X.prog X.w X.K tg J fp it tn ∧ tn 0 s2.heap ∧ (∀ b ∈ fp, FpOk X pins H' b) ∧ R J H'
def PI (X : Cx) (tg iter : Expr) (wi : TI) : Prop :=
  ∀ (pins : List (Addr × Obj)) (s : Shared) (σ : St) (H : Hp) (R : It → Hp → Prop), Inv X pins σ H s → wi σ H R →
    wpAny (model X.prog X.w) X.A (eval iter X.env) (fun v s1 => wpAny (model X.prog X.w) X.A (pyIter v) (PIE X pins σ tg R) X.xe s1) X.xe s
theorem go_of {M : Model} {A : Around} {E : Value → Shared → Prop} {s : Shared} {tg : Expr} {it : Addr} {u : Value} {o : Obj} {n : String} {vs : Array Value} {Q : Unit → Shared → Prop} (ho : s.heap.get? it = some o) (hc : o.cls = .type n) (hd : o.data = .fields vs)
    (hn : ["enumerate", "zip", "dict_itemiterator", "dict_reverseitemiterator", "odict_iterator", "itertools.zip_longest", "itertools.pairwise"].contains n = false) (hQ : Q () s) : wpAny M A (letOwnedTupleGo tg (.ref it) u) Q E s := by
  unfold letOwnedTupleGo
  cases tg <;> first
    | exact wpAny_pure hQ
    | (cases u <;> first
        | exact wpAny_pure hQ
        | (refine wpAny_bind (wpAny_load ho ?_)
           rw [hc, hd]
           show wpAny M A (if (["enumerate", "zip", "dict_itemiterator", "dict_reverseitemiterator", "odict_iterator", "itertools.zip_longest", "itertools.pairwise"].contains n && vs[0]? == some (rawInt _)) = true then _ else _) Q E s
           rw [if_neg (by intro h; rw [hn, Bool.false_and] at h; cases h)]
           exact wpAny_pure hQ))
def Itl (K : PySem.W.Frag) (a : Addr) : It :=
  ⟨fun i H => ∃ xs x, SqL K H a xs ∧ xs[i]? = some x, fun i H x H' => H' = H ∧ ∀ xs, SqL K H a xs → xs[i]? = some x, fun i H => ∃ xs, SqL K H a xs ∧ xs.length ≤ i⟩
def Itt (K : PySem.W.Frag) (a : Addr) : It :=
  ⟨fun i H => ∃ xs x, SqT K H a xs ∧ xs[i]? = some x, fun i H x H' => H' = H ∧ ∀ xs, SqT K H a xs → xs[i]? = some x, fun i H => ∃ xs, SqT K H a xs ∧ xs.length ≤ i⟩
def Itr (lo : Int) (n : Nat) : It := ⟨fun i _ => i < n, fun i H x H' => H' = H ∧ x = .int (lo + i), fun i _ => n ≤ i⟩
theorem turn_tuple {P : Program} {w : World} {K : PySem.W.Frag} {tg : Expr} (a it : Addr) : Turn P w K tg (Itt K a) [it] it (fun i h => h.IsTupleIter it a i) where
  mem := by simp
  obj := fun i h st b hb => by
    have e : b = it := by simpa using hb
    subst e
    obtain ⟨o, e, c, d⟩ := st
    exact ⟨o, e, fun v z => by rw [d] at z; cases z⟩
  keep := fun i h h' st k => st.at fun o e => k it (by simp) o e
  item := by
    intro X hP hw hK hc i pins s σ H E I hf st hg
    subst hP hw hK
    obtain ⟨xs, x, hq, hx⟩ := hg
    obtain ⟨its, rv, p, hz⟩ := I.tuple hq
    obtain ⟨u, hu, ru⟩ := rv.get hx
    obtain ⟨f0, f1, f2, f3, f4, f5⟩ := hf it (by simp)
    refine wpAny_pyNext_tuple_item st (show s.heap.IsTuple a its.toArray from p) (x := u) (by simpa using hu) fun h' st' sb => ?_
    have I1 : Inv X pins σ H { s with heap := h' } := I.turned (t' := s.toks) (fun b o hb e => (sb.2 b hb).trans e) f0 f1 f3 f4 f5
    obtain ⟨o, e, c, d⟩ := id st'
    exact ⟨u, rfl, go_of (s := { s with heap := h' }) e c d (by decide) ⟨x, H, I1, ru, ⟨rfl, fun ys hy => by rw [I.tuple_inj hy hq]; exact hx⟩, st', fun b hb => (hf b hb).1⟩⟩
  done := by
    intro X hP hw hK hc i pins s σ H E I hf st hg
    subst hP hw hK
    obtain ⟨xs, hq, hx⟩ := hg
    obtain ⟨its, rv, p, hz⟩ := I.tuple hq
    obtain ⟨f0, f1, f2, f3, f4, f5⟩ := hf it (by simp)
    have hl := rv.length
    exact wpAny_pyNext_tuple_end (I.ok.hd hc) st (show s.heap.IsTuple a its.toArray from p) (by simp; omega) fun h' eb => ⟨rfl, I.turned (t' := s.toks) (fun b o hb e => eb b o hb e) f0 f1 f3 f4 f5⟩
  self := fun _ _ _ _ _ st h => wpAny_pyIter_tupleiter st h
theorem turn_range {P : Program} {w : World} {K : PySem.W.Frag} {tg : Expr} (it : Addr) (lo : Int) (n : Nat) : Turn P w K tg (Itr lo n) [it] it (fun i h => IsRangeIter h it (lo + (i : Nat) * 1) ((n : Int) - (i : Nat)) 1) where
  mem := by simp
  obj := fun i h st b hb => by
    have e : b = it := by simpa using hb
    subst e
    exact ⟨_, st, fun v z => by
      have z' : Data.fields _ = Data.cell v := z
      cases z'⟩
  keep := fun i h h' st k => k it (by simp) _ st
  item := by
    intro X hP hw hK hc i pins s σ H E I hf st hg
    subst hP hw hK
    obtain ⟨f0, f1, f2, f3, f4, f5⟩ := hf it (by simp)
    have W := Walks.range (prog := X.prog) (w := X.w) (I.ok.hd hc) it lo 1 n
    refine W.item i s _ _ hg st fun v h' tk hv st' kk => ?_
    obtain ⟨t, rfl⟩ := hv
    have I1 : Inv X pins σ H { s with heap := h', toks := tk } := I.turned (fun b o hb e => kk b o (by simpa using hb) e) f0 f1 f3 f4 f5
    refine ⟨_, rfl, go_of (s := { s with heap := h', toks := tk }) (n := "range_iterator") st' rfl rfl (by decide) ⟨.int (lo + i), H, I1, ⟨t, ?_⟩, ⟨rfl, rfl⟩, st', fun b hb => (hf b hb).1⟩⟩
    rw [Int.mul_one]
  done := by
    intro X hP hw hK hc i pins s σ H E I hf st hg
    subst hP hw hK
    obtain ⟨f0, f1, f2, f3, f4, f5⟩ := hf it (by simp)
    exact wpAny_pyNext_range_end (I.ok.hd hc) st (by have : n ≤ i := hg; omega) fun h' eb => ⟨rfl, I.turned (t' := s.toks) (fun b o hb e => eb b o hb e) f0 f1 f3 f4 f5⟩
  self := fun _ _ _ _ _ st h => wpAny_pyIter_rangeiter st h
end L2
namespace L2
open PySem PySem.Spec PyProof.Rows
section
variable {X : Cx} {tg : Expr}
def iList (K : PySem.W.Frag) (tl : TE) : TI := fun σ H R => tl σ H fun x H1 => ∃ a, x = .ref a ∧ (∃ xs, SqL K H1 a xs) ∧ R (Itl K a) H1
def iTup (K : PySem.W.Frag) (tl : TE) : TI := fun σ H R => tl σ H fun x H1 => ∃ a, x = .ref a ∧ (∃ xs, SqT K H1 a xs) ∧ R (Itt K a) H1
theorem pi_tup {l : Expr} {tl : TE} (hl : PE X l tl) : PI X tg l (iTup X.K tl) := by
  intro pins s σ H R I h
  refine thn (hl pins s σ H _ I h) fun v s1 ⟨x, H1, I1, r1, q1⟩ => ?_
  obtain ⟨a, e, ⟨xs, hq⟩, q⟩ := q1
  subst e
  cases r1
  obtain ⟨its, rv, p, hz⟩ := I1.tuple hq
  refine wpAny_pyIter_tuple (show s1.heap.IsTuple a its.toArray from p) ?_
  refine ⟨s1.heap.objs.size, [s1.heap.objs.size], _, _, H1, rfl, I1.kept (t' := s1.toks) fun b o e => Heap.get?_push_of_some _ e, turn_tuple a _, ⟨_, Heap.get?_push_size _ rfl, rfl, rfl⟩, fun b hb => ?_, q⟩
  have e : b = s1.heap.objs.size := by simpa using hb
  subst e
  exact I1.fpOk (Nat.le_refl _) (I1.hok.fresh (Nat.le_refl _))
theorem range_it {pins : List (Addr × Obj)} {σ : St} {H : Hp} {s : Shared} {R : It → Hp → Prop} {E : Value → Shared → Prop} {lo hi : Int} {t u v : Tok} {tk : Nat} (I : Inv X pins σ H s) (h1 : -(2 ^ 62) ≤ lo) (h2 : lo < 2 ^ 62) (h3 : -(2 ^ 62) ≤ hi) (h4 : hi < 2 ^ 62)
    (q : R (Itr lo (hi - lo).toNat) H) : wpAny (model X.prog X.w) X.A (pyIter (.ref s.heap.objs.size)) (PIE X pins σ tg R) E { s with heap := s.heap.push { cls := .type "range", data := .fields #[.int lo t, .int hi u, .int 1 v] }, toks := tk } := by
  refine wpAny_pyIter_range (IsRange.new ..) (small_one h1 h2 h3 h4) ?_
  have I1 : Inv X pins σ H { s with heap := s.heap.push { cls := .type "range", data := .fields #[.int lo t, .int hi u, .int 1 v] }, toks := tk } := I.kept fun b o e => Heap.get?_push_of_some _ e
  refine ⟨(s.heap.push { cls := .type "range", data := .fields #[.int lo t, .int hi u, .int 1 v] }).objs.size, [(s.heap.push { cls := .type "range", data := .fields #[.int lo t, .int hi u, .int 1 v] }).objs.size], _, _, H, rfl,
    I1.kept (t' := tk) fun b o e => Heap.get?_push_of_some _ e, turn_range _ lo (hi - lo).toNat, ?_, fun b hb => ?_, q⟩
  · have e1 : lo + ((0 : Nat) : Int) * 1 = lo := by simp
    have e2 : (((hi - lo).toNat : Nat) : Int) - ((0 : Nat) : Int) = Builtin.Range.rangeSize lo hi 1 := by rw [rangeSize_one]; split <;> omega
    show IsRangeIter _ _ (lo + ((0 : Nat) : Int) * 1) ((((hi - lo).toNat : Nat) : Int) - ((0 : Nat) : Int)) 1
    rw [e1, e2]
    exact Heap.get?_push_size _ rfl
  · have e : b = (s.heap.push { cls := .type "range", data := .fields #[.int lo t, .int hi u, .int 1 v] }).objs.size := by simpa using hb
    subst e
    exact I1.fpOk (Nat.le_refl _) (I1.hok.fresh (Nat.le_refl _))
def iRng1 (ta : TA) : TI := fun σ H R => ta σ H fun vs H1 => ∃ j : Int, vs = [.int j] ∧ -(2 ^ 62) ≤ j ∧ j < 2 ^ 62 ∧ R (Itr 0 j.toNat) H1
def iRng2 (ta : TA) : TI := fun σ H R => ta σ H fun vs H1 => ∃ i j : Int, vs = [.int i, .int j] ∧ (-(2 ^ 62) ≤ i ∧ i < 2 ^ 62 ∧ -(2 ^ 62) ≤ j ∧ j < 2 ^ 62) ∧ R (Itr i (j - i).toNat) H1
theorem pi_range1 {a : Expr} {ta : TA} {p pos : Pos} (hg : Gl X "range") (hm : X.mg "range" = none) (ha : PA X [a] ta) (hs : starEach [a] X.env = [(false, eval a X.env)] := by rfl) : PI X tg (.Call (.Name "range" p) [a] [] pos) (iRng1 ta) := by
  intro pins s σ H R I h
  refine Call_ (ld_blt I hg hm boot_range (PyProof.Rows.callWith_type1 (thn (ha pos pins s σ H _ I h) fun us s1 ⟨vs, H1, I1, r1, q1⟩ => ?_) hs rfl))
  obtain ⟨j, e, q1, q2, q⟩ := q1
  subst e
  cases r1 with
  | cons r rr =>
    cases rr
    obtain ⟨t, rfl⟩ := r
    exact call_range_1 (range_it I1 (by omega) (by omega) q1 q2 (by simpa using q))
def tFor (wi : TI) (g : TG) (tb : TS) : TS := fun D σ H => wi σ H fun J H1 => ∃ W : Nat → Nat → St → Hp → Prop, (∃ m, W 0 m σ H1) ∧ ∀ i m σ H, W i m σ H →
  (J.stop i H ∧ D.nx σ H) ∨ (J.go i H ∧ ∃ N : St → Hp → Prop, (∀ σ' H', N σ' H' → ∃ m', m' < m ∧ W (i + 1) m' σ' H') ∧ ∀ x H', J.yld i H x H' → g x σ H' fun σ2 H2 => tb { D with nx := N, ct := N, bk := D.nx } σ2 H2)
def pinsAt (fp : List Addr) (h : Heap) : List (Addr × Obj) := fp.filterMap fun b => (h.get? b).map fun o => (b, o)
theorem mem_pinsAt {fp : List Addr} {h : Heap} {b : Addr} {o : Obj} (hb : b ∈ fp) (e : h.get? b = some o) : (b, o) ∈ pinsAt fp h := List.mem_filterMap.mpr ⟨b, hb, by rw [e]; rfl⟩
theorem of_pinsAt {fp : List Addr} {h : Heap} {p : Addr × Obj} (hp : p ∈ pinsAt fp h) : p.1 ∈ fp ∧ h.get? p.1 = some p.2 := by
  obtain ⟨b, hb, e⟩ := List.mem_filterMap.mp hp
  cases q : h.get? b with
  | none => rw [q] at e; cases e
  | some o =>
    rw [q] at e
    have e' : (b, o) = p := Option.some.inj e
    subst e'
    exact ⟨hb, q⟩
theorem Inv.pinned {pins : List (Addr × Obj)} {σ : St} {H : Hp} {s : Shared} {fp : List Addr} (I : Inv X pins σ H s) (hf : ∀ b ∈ fp, FpOk X pins H b) (ho : ∀ b ∈ fp, ∃ o, s.heap.get? b = some o ∧ ∀ v, o.data ≠ .cell v) : Inv X (pins ++ pinsAt fp s.heap) σ H s :=
  I.pins_of fun p hp => (List.mem_append.mp hp).elim (fun z => I.pin p (List.mem_append_right _ z)) fun z => by
    obtain ⟨hb, e⟩ := of_pinsAt z
    obtain ⟨f0, f1, f2, _⟩ := hf p.1 hb
    obtain ⟨o, e', d⟩ := ho p.1 hb
    rw [e] at e'; cases e'
    exact ⟨e, f0, f1, f2, d⟩
theorem Inv.unpinned {pins pl : List (Addr × Obj)} {σ : St} {H : Hp} {s : Shared} (I : Inv X (pins ++ pl) σ H s) : Inv X pins σ H s := I.pins_of fun p hp => I.pin p (List.mem_append_right _ (List.mem_append_left _ hp))
theorem ps_for {iter : Expr} {body : List Stmt} {wi : TI} {g : TG} {tb : TS} {pos : Pos} (hp : PassesOwn (model X.prog X.w) X.A X.env X.xe) (hc : X.calm = true) (hi : PI X tg iter wi) (hg : PG X tg g) (hb : PSs X body tb)
    (hs : ∀ x, foldedSetIterable iter X.env x = pure x := by intro _; rfl) : PS X (.For tg iter body [] pos) (tFor wi g tb) := by
  intro pins s σ H D I h
  refine wpAny_For (thn (hi pins s σ H _ I h) fun v s1 h1 => thn h1 fun itv s2 h2 => ?_) hs
  obtain ⟨it, fp, tn, J, H2, e, I2, T, st2, f2, W, ⟨m0, w0⟩, turn⟩ := h2
  subst e
  have stat : ∀ {H' : Hp}, (∀ b ∈ fp, H' b = none) → ∀ b ∈ fp, FpOk X pins H' b := fun hn b hb => ⟨hn b hb, (f2 b hb).2⟩
  refine codeAny_forLoop_any (fun n s' => ∃ i σ' H', Inv X pins σ' H' s' ∧ tn i s'.heap ∧ (∀ b ∈ fp, H' b = none) ∧ W i n σ' H') ?_ m0 ⟨0, σ, H2, I2, st2, fun b hb => (f2 b hb).1, w0⟩
  rintro n s3 ⟨i, σ3, H3, I3, st3, fr3, w3⟩
  rcases turn i n σ3 H3 w3 with ⟨stop, qn⟩ | ⟨go, N, hN, step⟩
  · refine wpAny_passesOwn hp (thn (T.done X rfl rfl rfl hc i pins s3 σ3 H3 X.xe I3 (stat fr3) st3 stop) fun r s4 ⟨hr, I4⟩ => ?_)
    subst hr
    exact wpAny_execs_nil ⟨σ3, H3, I4, qn⟩
  · refine wpAny_passesOwn hp (thn (T.item X rfl rfl rfl hc i pins s3 σ3 H3 X.xe I3 (stat fr3) st3 go) fun r s4 ⟨u, hr, h4⟩ => ?_)
    subst hr
    refine wpAny_passesOwn hp (thn h4 fun _ s5 ⟨x, H5, I5, r5, y5, st5, fr5⟩ => ?_)
    have I5' := I5.pinned (stat fr5) (T.obj _ _ st5)
    refine wpAny_passesOwn hp (thn (hg _ s5 σ3 H5 x u _ I5' r5 (step x H5 y5)) fun _ s6 ⟨σ6, H6, I6, q6⟩ => ?_)
    refine wpAny_passesOwn hp (thn (hb _ s6 σ6 H6 _ I6 q6) fun f s7 q7 => ?_)
    have again : ∀ {σ7 : St} {H7 : Hp}, Inv X (pins ++ pinsAt fp s5.heap) σ7 H7 s7 → N σ7 H7 → ∃ m, m < n ∧ ∃ i σ' H', Inv X pins σ' H' s7 ∧ tn i s7.heap ∧ (∀ b ∈ fp, H' b = none) ∧ W i m σ' H' := fun {σ7 H7} I7 n7 => by
      obtain ⟨m', hm, w7⟩ := hN σ7 H7 n7
      refine ⟨m', hm, i + 1, σ7, H7, I7.unpinned, T.keep _ _ _ st5 fun b hb o e => (I7.pin (b, o) (List.mem_append_right _ (List.mem_append_right _ (mem_pinsAt hb e)))).1, fun b hb => ?_, w7⟩
      obtain ⟨o, e, d⟩ := T.obj _ _ st5 b hb
      exact (I7.pin (b, o) (List.mem_append_right _ (List.mem_append_right _ (mem_pinsAt hb e)))).2.1
    cases f with
    | next => obtain ⟨σ7, H7, I7, n7⟩ := q7; exact again I7 n7
    | cont => obtain ⟨σ7, H7, I7, n7⟩ := q7; exact again I7 n7
    | brk => obtain ⟨σ7, H7, I7, q7⟩ := q7; exact ⟨σ7, H7, I7.unpinned, q7⟩
    | ret v => obtain ⟨x7, σ7, H7, I7, r7, q7⟩ := q7; exact ⟨x7, σ7, H7, I7.unpinned, r7, q7⟩
end
theorem for_tup {K : PySem.W.Frag} {a : Addr} {xs : List V} {g : TG} {tb : TS} {D : Ends} {σ : St} {H : Hp} (Pv : Nat → St → Hp → Prop) (h0 : Pv 0 σ H) (hl : ∀ i σ H, i ≤ xs.length → Pv i σ H → SqT K H a xs)
    (hs : ∀ i x σ H, xs[i]? = some x → Pv i σ H → g x σ H fun σ2 H2 => tb { D with nx := Pv (i + 1), ct := Pv (i + 1), bk := D.nx } σ2 H2) (hd : ∀ σ H, Pv xs.length σ H → D.nx σ H) :
    ∃ W : Nat → Nat → St → Hp → Prop, (∃ m, W 0 m σ H) ∧ ∀ i m σ H, W i m σ H →
      ((Itt K a).stop i H ∧ D.nx σ H) ∨ ((Itt K a).go i H ∧ ∃ N : St → Hp → Prop, (∀ σ' H', N σ' H' → ∃ m', m' < m ∧ W (i + 1) m' σ' H') ∧ ∀ x H', (Itt K a).yld i H x H' → g x σ H' fun σ2 H2 => tb { D with nx := N, ct := N, bk := D.nx } σ2 H2) := by
  refine ⟨fun i m σ H => m = xs.length - i ∧ i ≤ xs.length ∧ Pv i σ H, ⟨xs.length, by simp, Nat.zero_le _, h0⟩, ?_⟩
  rintro i m σ H ⟨rfl, hi, p⟩
  have q := hl i σ H hi p
  by_cases hlt : i < xs.length
  · refine .inr ⟨⟨xs, xs[i], q, by simp [hlt]⟩, Pv (i + 1), fun σ' H' p' => ⟨xs.length - (i + 1), by omega, rfl, hlt, p'⟩, fun x H' y => ?_⟩
    obtain ⟨e, y⟩ := y
    subst e
    exact hs i x σ _ (y xs q) p
  · have e : i = xs.length := by omega
    subst e
    exact .inl ⟨⟨xs, q, Nat.le_refl _⟩, hd σ H p⟩
theorem for_range {lo : Int} {n : Nat} {g : TG} {tb : TS} {D : Ends} {σ : St} {H : Hp} (Pv : Nat → St → Hp → Prop) (h0 : Pv 0 σ H)
    (hs : ∀ i σ H, i < n → Pv i σ H → g (.int (lo + i)) σ H fun σ2 H2 => tb { D with nx := Pv (i + 1), ct := Pv (i + 1), bk := D.nx } σ2 H2) (hd : ∀ σ H, Pv n σ H → D.nx σ H) :
    ∃ W : Nat → Nat → St → Hp → Prop, (∃ m, W 0 m σ H) ∧ ∀ i m σ H, W i m σ H →
      ((Itr lo n).stop i H ∧ D.nx σ H) ∨ ((Itr lo n).go i H ∧ ∃ N : St → Hp → Prop, (∀ σ' H', N σ' H' → ∃ m', m' < m ∧ W (i + 1) m' σ' H') ∧ ∀ x H', (Itr lo n).yld i H x H' → g x σ H' fun σ2 H2 => tb { D with nx := N, ct := N, bk := D.nx } σ2 H2) := by
  refine ⟨fun i m σ H => m = n - i ∧ i ≤ n ∧ Pv i σ H, ⟨n, by simp, Nat.zero_le _, h0⟩, ?_⟩
  rintro i m σ H ⟨rfl, hi, p⟩
  by_cases hlt : i < n
  · refine .inr ⟨hlt, Pv (i + 1), fun σ' H' p' => ⟨n - (i + 1), by omega, rfl, hlt, p'⟩, fun x H' y => ?_⟩
    obtain ⟨e, y⟩ := y
    subst e y
    exact hs i σ _ hlt p
  · have e : i = n := by omega
    subst e
    exact .inl ⟨Nat.le_refl _, hd σ H p⟩
end L2
namespace L2
open PySem PySem.Spec PyProof.Rows
abbrev R2 := V → V → Hp → VK → Prop
def OpR (X : Cx) (f : Value → Value → Sem Value) (r : R2) : Prop :=
  ∀ (pins : List (Addr × Obj)) (s : Shared) (σ : St) (H : Hp) (x y : V) (v u : Value) (Q : VK), Inv X pins σ H s → RelV x v → RelV y u → r x y H Q →
    wpAny (model X.prog X.w) X.A (f v u) (EP X pins σ Q) X.xe s
def UnR (X : Cx) (f : Value → Sem Value) (r : V → Hp → VK → Prop) : Prop :=
  ∀ (pins : List (Addr × Obj)) (s : Shared) (σ : St) (H : Hp) (x : V) (v : Value) (Q : VK), Inv X pins σ H s → RelV x v → r x H Q →
    wpAny (model X.prog X.w) X.A (f v) (EP X pins σ Q) X.xe s
def CallR (X : Cx) (f : Value) (r : List V → Hp → VK → Prop) : Prop :=
  ∀ (pins : List (Addr × Obj)) (s : Shared) (σ : St) (H : Hp) (xs : List V) (us : List Value) (Q : VK), Inv X pins σ H s → Vals xs us → r xs H Q →
    wpAny (model X.prog X.w) X.A (call f us) (EP X pins σ Q) X.xe s
def TruR (X : Cx) (r : V → Hp → (Bool → Hp → Prop) → Prop) : Prop :=
  ∀ (pins : List (Addr × Obj)) (s : Shared) (σ : St) (H : Hp) (x : V) (v : Value) (Q : Bool → Hp → Prop), Inv X pins σ H s → RelV x v → r x H Q →
    wpAny (model X.prog X.w) X.A (truthy v) (TP X pins σ Q) X.xe s
def tOp (r : R2) (ta tb : TE) : TE := fun σ H Q => ta σ H fun x H1 => tb σ H1 fun y H2 => r x y H2 Q
def tUn (r : V → Hp → VK → Prop) (ta : TE) : TE := fun σ H Q => ta σ H fun x H1 => r x H1 Q
def rI (C : Int → Int → Prop) (g : Int → Int → V) : R2 := fun x y H Q => ∃ i j, x = .int i ∧ y = .int j ∧ C i j ∧ Q (g i j) H
def rI0 (g : Int → Int → V) : R2 := fun x y H Q => ∃ i j, x = .int i ∧ y = .int j ∧ Q (g i j) H
def rU (g : Int → V) : V → Hp → VK → Prop := fun x H Q => ∃ i, x = .int i ∧ Q (g i) H
section
variable {X : Cx} {a b c : Expr} {ta tb tc : TE} {pos : Pos}
theorem binT (ha : PE X a ta) (hb : PE X b tb) {pins : List (Addr × Obj)} {s : Shared} {σ : St} {H : Hp} {R : V → V → Hp → Prop} (I : Inv X pins σ H s)
    (h : ta σ H fun x H1 => tb σ H1 fun y H2 => R x y H2) {Q : Value → Shared → Prop} {f : Value → Value → Sem Value}
    (hf : ∀ v u s2 x y H2, Inv X pins σ H2 s2 → RelV x v → RelV y u → R x y H2 → wpAny (model X.prog X.w) X.A (f v u) Q X.xe s2) :
    wpAny (model X.prog X.w) X.A (eval a X.env) (fun v s₁ => wpAny (model X.prog X.w) X.A (eval b X.env) (fun u s₂ => wpAny (model X.prog X.w) X.A (f v u) Q X.xe s₂) X.xe s₁) X.xe s := by
  refine thn (ha pins s σ H _ I h) fun v s1 ⟨x, H1, I1, r1, q1⟩ => ?_
  refine thn (hb pins s1 σ H1 _ I1 q1) fun u s2 ⟨y, H2, I2, r2, q2⟩ => ?_
  exact hf v u s2 x y H2 I2 r1 r2 q2
theorem pe_op {op : Operator} {r : R2} (ho : OpR X (binaryOp op) r) (ha : PE X a ta) (hb : PE X b tb) : PE X (.BinOp a op b pos) (tOp r ta tb) := by
  intro pins s σ H Q I h
  exact wpAny_BinOp (binT ha hb I h fun v u s2 x y H2 I2 rx ry q => ho pins s2 σ H2 x y v u Q I2 rx ry q)
theorem pe_un {op : UnaryOp} {r : V → Hp → VK → Prop} (ho : UnR X (unaryOp op) r) (ha : PE X a ta) : PE X (.UnaryOp op a pos) (tUn r ta) := by
  intro pins s σ H Q I h
  exact UnaryOp_ (thn (ha pins s σ H _ I h) fun v s1 ⟨x, H1, I1, r1, q1⟩ => ho pins s1 σ H1 x v Q I1 r1 q1)
theorem opI {f : Value → Value → Sem Value} {C : Int → Int → Prop} {g : Int → Int → Int}
    (rule : ∀ (i j : Int) (t u : Tok) (s : Shared) (Q : Value → Shared → Prop) (E : Value → Shared → Prop), C i j → Q (.int (g i j) s.toks) { s with toks := s.toks + 1 } → wpAny (model X.prog X.w) X.A (f (.int i t) (.int j u)) Q E s) :
    OpR X f (rI C fun i j => .int (g i j)) := by
  intro pins s σ H x y v u Q I rx ry h
  obtain ⟨i, j, rfl, rfl, hc, q⟩ := h
  obtain ⟨t, rfl⟩ := rx
  obtain ⟨t', rfl⟩ := ry
  exact rule i j t t' s _ _ hc ⟨.int (g i j), H, I.tok _, ⟨_, rfl⟩, q⟩
theorem opI0 {f : Value → Value → Sem Value} {g : Int → Int → Int}
    (rule : ∀ (i j : Int) (t u : Tok) (s : Shared) (Q : Value → Shared → Prop) (E : Value → Shared → Prop), Q (.int (g i j) s.toks) { s with toks := s.toks + 1 } → wpAny (model X.prog X.w) X.A (f (.int i t) (.int j u)) Q E s) :
    OpR X f (rI0 fun i j => .int (g i j)) := by
  intro pins s σ H x y v u Q I rx ry h
  obtain ⟨i, j, rfl, rfl, q⟩ := h
  obtain ⟨t, rfl⟩ := rx
  obtain ⟨t', rfl⟩ := ry
  exact rule i j t t' s _ _ ⟨.int (g i j), H, I.tok _, ⟨_, rfl⟩, q⟩
theorem opB0 {f : Value → Value → Sem Value} {g : Int → Int → Bool}
    (rule : ∀ (i j : Int) (t u : Tok) (s : Shared) (Q : Value → Shared → Prop) (E : Value → Shared → Prop), Q (.bool (g i j)) s → wpAny (model X.prog X.w) X.A (f (.int i t) (.int j u)) Q E s) :
    OpR X f (rI0 fun i j => .bl (g i j)) := by
  intro pins s σ H x y v u Q I rx ry h
  obtain ⟨i, j, rfl, rfl, q⟩ := h
  obtain ⟨t, rfl⟩ := rx
  obtain ⟨t', rfl⟩ := ry
  exact rule i j t t' s _ _ ⟨.bl (g i j), H, I, rfl, q⟩
def CDiv (i j : Int) : Prop := 0 < j ∧ j < 1073741824
def CDivN (i j : Int) : Prop := j ≠ 0 ∧ j.natAbs < 1073741824
def CPow (i j : Int) : Prop := 0 ≤ j ∧ j ≤ 1000000 ∧ i.natAbs < 2 ^ 64
def CMul (i j : Int) : Prop := (-(2 ^ 64) < i ∧ i < 2 ^ 64) ∨ (-(2 ^ 64) < j ∧ j < 2 ^ 64)
theorem CMul.ok {i j : Int} (h : CMul i j) : IntMulOk i j := by
  rcases h with ⟨h1, h2⟩ | ⟨h1, h2⟩
  · exact .of_left (intBits_le_64 h1 h2)
  · exact .of_right (intBits_le_64 h1 h2)
theorem op_add : OpR X (binaryOp .Add) (rI0 fun i j => .int (i + j)) := opI0 fun _ _ _ _ _ _ _ q => add_int q
theorem op_sub : OpR X (binaryOp .Sub) (rI0 fun i j => .int (i - j)) := opI0 fun _ _ _ _ _ _ _ q => sub_int q
theorem op_mul : OpR X (binaryOp .Mult) (rI CMul fun i j => .int (i * j)) := opI fun _ _ _ _ _ _ _ hc q => mul_int q hc.ok
theorem op_fdiv : OpR X (binaryOp .FloorDiv) (rI CDiv fun i j => .int (i / j)) := opI fun i j _ _ _ _ _ hc q => by
  have h1 : (0 : Int) < j := hc.1
  have h2 : j < 1073741824 := hc.2
  exact floordiv_int (by omega) (by rw [Int.fdiv_eq_ediv_of_nonneg i (by omega)]; exact q) (.inl (PyProof.noPylong_small (by omega)))
theorem op_mod : OpR X (binaryOp .Mod) (rI (fun _ j => 0 < j) fun i j => .int (i % j)) := opI fun i j _ _ _ _ _ hc q => by
  have h1 : (0 : Int) < j := hc
  exact mod_int' (by omega) (by rw [Int.fmod_eq_emod_of_nonneg i (by omega)]; exact q)
theorem op_pow : OpR X (binaryOp .Pow) (rI CPow fun i j => .int (i ^ j.toNat)) := opI fun _ _ _ _ _ _ _ hc q => pow_int_small hc.1 hc.2.1 hc.2.2 q
theorem unI {f : Value → Sem Value} {g : Int → Int}
    (rule : ∀ (i : Int) (t : Tok) (s : Shared) (Q : Value → Shared → Prop) (E : Value → Shared → Prop), Q (.int (g i) s.toks) { s with toks := s.toks + 1 } → wpAny (model X.prog X.w) X.A (f (.int i t)) Q E s) :
    UnR X f (rU fun i => .int (g i)) := by
  intro pins s σ H x v Q I rx h
  obtain ⟨i, rfl, q⟩ := h
  obtain ⟨t, rfl⟩ := rx
  exact rule i t s _ _ ⟨.int (g i), H, I.tok _, ⟨_, rfl⟩, q⟩
theorem un_neg : UnR X (unaryOp .USub) (rU fun i => .int (-i)) := unI fun _ _ _ _ _ q => neg_int q
end
def scal : V → V → Bool
  | .non, .non => true | .non, .int _ => true | .int _, .non => true | .non, .bl _ => true | .bl _, .non => true | .non, .str _ => true | .str _, .non => true
  | .int _, .int _ => true | .bl _, .bl _ => true | .str _, .str _ => true | .byt _, .byt _ => true
  | .int _, .str _ => true | .str _, .int _ => true | .bl _, .str _ => true | .str _, .bl _ => true
  | _, _ => false
def rEq : R2 := fun x y H Q => scal x y = true ∧ Q (.bl (decide (x = y))) H
def rNe : R2 := fun x y H Q => scal x y = true ∧ Q (.bl (!decide (x = y))) H
theorem dec_int {i j : Int} : decide (V.int i = V.int j) = (i == j) := by
  rw [Bool.eq_iff_iff]
  simp
theorem dec_bl {i j : Bool} : decide (V.bl i = V.bl j) = (i == j) := by
  rw [Bool.eq_iff_iff]
  simp
theorem dec_str {i j : Str} : decide (V.str i = V.str j) = (i == j) := by
  rw [Bool.eq_iff_iff]
  simp
theorem dec_byt {i j : Array UInt8} : decide (V.byt i = V.byt j) = (i.toList == j.toList) := by
  rw [Bool.eq_iff_iff]
  cases i
  cases j
  simp
section
variable {X : Cx} {a b c : Expr} {ta tb tc : TE} {pos : Pos}
theorem fin_bl {pins : List (Addr × Obj)} {σ : St} {H : Hp} {s : Shared} {Q : VK} {k k' : Bool} (I : Inv X pins σ H s) (q : Q (.bl k) H) (e : k = k') : EP X pins σ Q (.bool k') s := by
  subst e
  exact ⟨.bl k, H, I, rfl, q⟩
theorem op_eq : OpR X (compareOp .Eq) rEq := by
  intro pins s σ H x y v u Q I rx ry h
  obtain ⟨hs, q⟩ := h
  cases x with
  | non =>
    cases rx
    cases y with
    | non => cases ry; exact PySem.EqNone.eq_none_none (fin_bl I q (by simp))
    | bl j => cases ry; exact PySem.EqNone.eq_none_bool (fin_bl I q (by simp))
    | int j => obtain ⟨t', rfl⟩ := ry; exact PySem.EqNone.eq_none_int (fin_bl I q (by simp))
    | str j => obtain ⟨t', rfl⟩ := ry; exact PySem.EqNone.eq_none_str (fin_bl I q (by simp))
    | _ => exact absurd (show false = true from hs) Bool.false_ne_true
  | bl i =>
    cases rx
    cases y with
    | non => cases ry; exact PySem.EqNone.eq_bool_none (fin_bl I q (by simp))
    | bl j => cases ry; exact eq_bool (fin_bl I q dec_bl)
    | str j => obtain ⟨t', rfl⟩ := ry; exact PySem.EqMixed.eq_bool_str (fin_bl I q (by simp))
    | _ => exact absurd (show false = true from hs) Bool.false_ne_true
  | int i =>
    obtain ⟨t, rfl⟩ := rx
    cases y with
    | non => cases ry; exact PySem.EqNone.eq_int_none (fin_bl I q (by simp))
    | int j => obtain ⟨t', rfl⟩ := ry; exact eq_int (fin_bl I q dec_int)
    | str j => obtain ⟨t', rfl⟩ := ry; exact PySem.EqMixed.eq_int_str (fin_bl I q (by simp))
    | _ => exact absurd (show false = true from hs) Bool.false_ne_true
  | str i =>
    obtain ⟨t, rfl⟩ := rx
    cases y with
    | non => cases ry; exact PySem.EqNone.eq_str_none (fin_bl I q (by simp))
    | bl j => cases ry; exact PySem.EqMixed.eq_str_bool (fin_bl I q (by simp))
    | int j => obtain ⟨t', rfl⟩ := ry; exact PySem.EqMixed.eq_str_int (fin_bl I q (by simp))
    | str j => obtain ⟨t', rfl⟩ := ry; exact eq_str (fin_bl I q dec_str)
    | _ => exact absurd (show false = true from hs) Bool.false_ne_true
  | byt i =>
    obtain ⟨t, rfl⟩ := rx
    cases y with
    | byt j => obtain ⟨t', rfl⟩ := ry; exact PySem.W.eq_bytes (fin_bl I q dec_byt)
    | _ => exact absurd (show false = true from hs) Bool.false_ne_true
  | _ => cases y <;> exact absurd (show false = true from hs) Bool.false_ne_true
theorem op_ne : OpR X (compareOp .NotEq) rNe := by
  intro pins s σ H x y v u Q I rx ry h
  obtain ⟨hs, q⟩ := h
  cases x with
  | non =>
    cases rx
    cases y with
    | non => cases ry; exact PySem.EqNone.ne_none_none (fin_bl I q (by simp))
    | bl j => cases ry; exact PySem.EqNone.ne_none_bool (fin_bl I q (by simp))
    | int j => obtain ⟨t', rfl⟩ := ry; exact PySem.EqNone.ne_none_int (fin_bl I q (by simp))
    | str j => obtain ⟨t', rfl⟩ := ry; exact PySem.EqNone.ne_none_str (fin_bl I q (by simp))
    | _ => exact absurd (show false = true from hs) Bool.false_ne_true
  | bl i =>
    cases rx
    cases y with
    | non => cases ry; exact PySem.EqNone.ne_bool_none (fin_bl I q (by simp))
    | bl j => cases ry; exact ne_bool (fin_bl I q (congrArg not dec_bl))
    | str j => obtain ⟨t', rfl⟩ := ry; exact PySem.EqMixed.ne_bool_str (fin_bl I q (by simp))
    | _ => exact absurd (show false = true from hs) Bool.false_ne_true
  | int i =>
    obtain ⟨t, rfl⟩ := rx
    cases y with
    | non => cases ry; exact PySem.EqNone.ne_int_none (fin_bl I q (by simp))
    | int j => obtain ⟨t', rfl⟩ := ry; exact ne_int (fin_bl I q (congrArg not dec_int))
    | str j => obtain ⟨t', rfl⟩ := ry; exact PySem.EqMixed.ne_int_str (fin_bl I q (by simp))
    | _ => exact absurd (show false = true from hs) Bool.false_ne_true
  | str i =>
    obtain ⟨t, rfl⟩ := rx
    cases y with
    | non => cases ry; exact PySem.EqNone.ne_str_none (fin_bl I q (by simp))
    | bl j => cases ry; exact PySem.EqMixed.ne_str_bool (fin_bl I q (by simp))
    | int j => obtain ⟨t', rfl⟩ := ry; exact PySem.EqMixed.ne_str_int (fin_bl I q (by simp))
    | str j => obtain ⟨t', rfl⟩ := ry; exact ne_str (fin_bl I q (congrArg not dec_str))
    | _ => exact absurd (show false = true from hs) Bool.false_ne_true
  | byt i =>
    obtain ⟨t, rfl⟩ := rx
    cases y with
    | byt j => obtain ⟨t', rfl⟩ := ry; exact PySem.W.ne_bytes (fin_bl I q (congrArg not dec_byt))
    | _ => exact absurd (show false = true from hs) Bool.false_ne_true
  | _ => cases y <;> exact absurd (show false = true from hs) Bool.false_ne_true
theorem op_lt : OpR X (compareOp .Lt) (rI0 fun i j => .bl (decide (i < j))) := opB0 fun _ _ _ _ _ _ _ q => lt_int q
theorem op_le : OpR X (compareOp .LtE) (rI0 fun i j => .bl (decide (i ≤ j))) := opB0 fun _ _ _ _ _ _ _ q => le_int q
theorem op_gt : OpR X (compareOp .Gt) (rI0 fun i j => .bl (decide (j < i))) := opB0 fun _ _ _ _ _ _ _ q => gt_int q
def isObj : HO → Bool
  | .lst _ => true
  | .ins _ _ _ => true
  | _ => false
theorem nomark (b : Expr) {op : CmpOp} (h : op ≠ .In := by decide) (h2 : op ≠ .NotIn := by decide) : behindInMarks op b = false := by
  have e1 : (op == CmpOp.In) = false := by cases op <;> first | rfl | exact absurd rfl h
  have e2 : (op == CmpOp.NotIn) = false := by cases op <;> first | rfl | exact absurd rfl h2
  cases b <;> simp [behindInMarks, e1, e2]
theorem pe_cmpR {op : CmpOp} {r : R2} (ho : OpR X (compareOp op) r) (ha : PE X a ta) (hb : PE X b tb) (hm : behindInMarks op b = false) : PE X (.Compare a [op] [b] pos) (tOp r ta tb) := by
  intro pins s σ H Q I h
  exact wpAny_Compare1 (binT ha hb I h fun v u s2 x y H2 I2 rx ry q => ho pins s2 σ H2 x y v u Q I2 rx ry q) hm
def tTest (t : TE) : TT := fun σ H Q => t σ H fun x H' => ∃ k, x = .bl k ∧ Q k H'
theorem pt_cmpR {op : CmpOp} {r : R2} (ho : OpR X (compareOp op) r) (ha : PE X a ta) (hb : PE X b tb) (hm : behindInMarks op b = false) : PT X (.Compare a [op] [b] pos) (tTest (tOp r ta tb)) := by
  intro pins s σ H Q I h
  refine wpAny_isTrue_Compare1 (thn (ha pins s σ H _ I h) fun v s1 ⟨x, H1, I1, r1, q1⟩ => thn (hb pins s1 σ H1 _ I1 q1) fun u s2 ⟨y, H2, I2, r2, q2⟩ =>
    thn (ho pins s2 σ H2 x y v u _ I2 r1 r2 q2) fun c s3 ⟨z, H3, I3, r3, k, e, q3⟩ => ?_) hm
  subst e
  cases r3
  exact wpAny_truthy_bool ⟨H3, I3, q3⟩
def tChain (r r' : R2) (ta tb tc : TE) : TE := fun σ H Q => ta σ H fun x H1 => tb σ H1 fun y H2 => r x y H2 fun z H3 => ∃ k, z = .bl k ∧
  (if k = true then tc σ H3 fun w' H4 => r' y w' H4 Q else Q (.bl false) H3)
theorem pt_chain {op op' : CmpOp} {r r' : R2} (ho : OpR X (compareOp op) r) (ho' : OpR X (compareOp op') r') (ha : PE X a ta) (hb : PE X b tb) (hc : PE X c tc)
    (hm : lastMarks [op, op'] [b, c] = false := by with_unfolding_all rfl) : PT X (.Compare a [op, op'] [b, c] pos) (tTest (tChain r r' ta tb tc)) := by
  intro pins s σ H Q I h
  refine isTrue_chain (thn (ha pins s σ H _ I h) fun v s1 ⟨x, H1, I1, r1, q1⟩ => test_link (thn (hb pins s1 σ H1 _ I1 q1) fun u s2 ⟨y, H2, I2, r2, q2⟩ =>
    thn (ho pins s2 σ H2 x y v u _ I2 r1 r2 q2) fun d s3 ⟨z, H3, I3, r3, k, e, q3⟩ => ?_)) hm
  subst e
  cases r3
  refine wpAny_truthy_bool ?_
  cases k with
  | false =>
    obtain ⟨k', e', q'⟩ := q3
    cases e'
    exact ite_ff ⟨H3, I3, q'⟩
  | true =>
    refine ite_tt (test_last (thn (hc pins s3 σ H3 _ I3 q3) fun w' s4 ⟨z', H4, I4, r4, q4⟩ => thn (ho' pins s4 σ H4 y z' u w' _ I4 r2 r4 q4) fun d' s5 ⟨z2, H5, I5, r5, k2, e2, q5⟩ => ?_))
    subst e2
    cases r5
    exact wpAny_truthy_bool ⟨H5, I5, q5⟩
def TruV (K : PySem.W.Frag) (x : V) (H : Hp) (k : Bool) : Prop :=
  match x with
  | .non => k = false
  | .bl b => k = b
  | .int i => k = (i != 0)
  | .str y => y.length ≤ sizeLine ∧ k = ((y.length : Int) != 0)
  | .byt y => y.size ≤ sizeLine ∧ k = ((y.size : Int) != 0)
  | .ref p => (∃ xs, SqL K H p xs ∧ k = !xs.isEmpty) ∨ (∃ xs, SqT K H p xs ∧ k = !xs.isEmpty) ∨ ∃ kvs, H p = some (.dK kvs) ∧ k = !kvs.isEmpty
  | _ => False
theorem line63 : (sizeLine : Nat) < 2 ^ 63 := by rw [sizeLine_eq]; decide
theorem op_add_str : OpR X (binaryOp .Add) (fun x y H Q => ∃ i j, x = .str i ∧ y = .str j ∧ i.length + j.length ≤ sizeLine ∧ Q (.str (i ++ j)) H) := by
  intro pins s σ H x y v u Q I rx ry h
  obtain ⟨i, j, rfl, rfl, hz, q⟩ := h
  obtain ⟨t, rfl⟩ := rx
  obtain ⟨t', rfl⟩ := ry
  exact add_str (fun t' tk => ⟨.str (i ++ j), H, I.tok _, ⟨_, rfl⟩, q⟩) hz
def PlainIxT (b : Expr) : Prop := ∀ o i, subscripted b false o i = operate [o, i] (getItem o i)
theorem vals1 {x : V} {us : List Value} (r : Vals [x] us) : ∃ u, us = [u] ∧ RelV x u := by
  cases r with
  | cons r1 r2 => cases r2; exact ⟨_, rfl, r1⟩
theorem vals2 {x y : V} {us : List Value} (r : Vals [x, y] us) : ∃ u w', us = [u, w'] ∧ RelV x u ∧ RelV y w' := by
  cases r with
  | cons r1 r2 =>
    cases r2 with
    | cons r3 r4 => cases r4; exact ⟨_, _, rfl, r1, r3⟩
def LenV (K : PySem.W.Frag) (x : V) (H : Hp) (n : Nat) : Prop :=
  match x with
  | .str y => y.length ≤ sizeLine ∧ n = y.length
  | .byt y => y.size ≤ sizeLine ∧ n = y.size
  | .ref p => (∃ xs, SqL K H p xs ∧ n = xs.length) ∨ ∃ xs, SqT K H p xs ∧ n = xs.length
  | _ => False
end
end L2
namespace L2
open PySem PySem.Spec PyProof.Rows
structure ObjM (h : Heap) (x dx C : Addr) (mA : Str → Option Value) : Prop where
  obj : h.get? x = some (PySem.W.instObj C dx)
  ns : h.Ns1 dx mA
  ne : dx ≠ x
theorem lookIn_ns {h : Heap} {dx : Addr} {mA : Str → Option Value} (n : h.Ns1 dx mA) : ∃ od, h.get? dx = some od ∧ ∀ name, PySem.W.lookIn name od = some (mA name) := by
  obtain ⟨o, es, ep, ho, hd, hk, _, hm⟩ := n
  refine ⟨o, ho, fun name => ?_⟩
  have e := hm name
  unfold nsFind findBy at e
  rw [← Array.find?_toList] at e
  unfold PySem.W.lookIn
  rw [hd]
  dsimp only
  split
  · rename_i y q
    rw [q] at e
    exact congrArg some e
  · rename_i q
    rw [q] at e
    have a : es.toList.any (·.refKey) = false := by
      rw [List.any_eq_false]
      intro y hy
      obtain ⟨z, t, hkey⟩ := hk y (Array.mem_toList_iff.mp hy)
      simp [DictEntry.refKey, hkey]
    have a' : ¬ es.toList.any (·.refKey) = true := by rw [a]; exact Bool.false_ne_true
    rw [if_neg a']
    exact congrArg some e
theorem ObjM.look {h : Heap} {x dx C : Addr} {mA : Str → Option Value} (I : ObjM h x dx C mA) : ∃ od, PySem.W.InstAt h x (PySem.W.instObj C dx) C (some od) ∧ ∀ name, PySem.W.lookIn name od = some (mA name) :=
  let ⟨od, ho, hl⟩ := lookIn_ns I.ns
  ⟨od, ⟨I.obj, rfl, rfl, ho⟩, hl⟩
section
variable {prog : Program} {w : World} {A : Around} {E : Value → Shared → Prop} {s : Shared} {K : PySem.W.Frag} {x dx C f : Addr} {mA : Str → Option Value} {name : Str} {v : Value}
end
def putF (f : Str) (v : V) : List (Str × V) → List (Str × V)
  | [] => [(f, v)]
  | (g, x) :: r => if g = f then (g, v) :: r else (g, x) :: putF f v r
section
variable {P : Program} {w : World} {H H' : Hp} {h h' : Heap} {a C dx : Addr} {fs fs' : List (Str × V)}
theorem ins_get (hok : HOk P w H h) (e : H a = some (.ins C dx fs)) : ∃ mA, ObjM h a dx C mA ∧ (∀ f, RelO (fs.lookup f) (mA f)) ∧ PySem.Within mA (fs.map (·.1)) ∧ fs.length ≤ 1000 ∧ H dx = some (.own a) := by
  obtain ⟨d, z, ne, ob, mA, n, r, q⟩ := (show ObjOk P w H h a (.ins C dx fs) from hok a _ e)
  exact ⟨mA, ⟨ob, n, ne⟩, r, q, z, d⟩
end
structure Cls (K : PySem.W.Frag) (C : Addr) : Prop where
  pg : PySem.W.plainGet K C Str.empty = true
  hd : PySem.W.hasDictIn K C = true
  po : PySem.W.plainOver K C = true
  sa : PySem.W.findIn K (.ref C) "__setattr__" = some (some (.builtin "object.__setattr__"))
theorem Cls.get {K : PySem.W.Frag} {C : Addr} (c : Cls K C) (f : Str) : PySem.W.plainGet K C f = true := c.pg
def NoAttr (K : PySem.W.Frag) (C : Addr) (f : Str) : Prop := PySem.W.findIn K (.ref C) f = some none
structure Con (K : PySem.W.Frag) (C : Addr) (f : Str) (v : V) (u : Value) : Prop where
  at_ : PySem.W.findIn K (.ref C) f = some (some u)
  rel : RelV v u
  get : PySem.W.specialIn K u "__get__" = some none
  cp : PySem.W.copiedNames.contains f = false
structure Meth (K : PySem.W.Frag) (C : Addr) (m : Str) (f : Addr) : Prop where
  at_ : PySem.W.findIn K (.ref C) m = some (some (.ref f))
  fn : PySem.W.isFn K (.ref f) = true
  kp : PySem.W.keepIn K (.ref f) = true
section
variable {X : Cx} {pins : List (Addr × Obj)} {σ : St} {H : Hp} {s : Shared} {a C dx : Addr} {fs : List (Str × V)} {f : Str} {v : V} {A : Around} {E : Value → Shared → Prop}
end
def tFld (K : PySem.W.Frag) (ta : TE) (f : Str) : TE := fun σ H Q => ta σ H fun x H1 => ∃ a C dx fs v, x = .ref a ∧ H1 a = some (.ins C dx fs) ∧ Cls K C ∧ NoAttr K C f ∧ fs.lookup f = some v ∧ Q v H1
def tCon (K : PySem.W.Frag) (ta : TE) (f : Str) : TE := fun σ H Q => ta σ H fun x H1 => ∃ a C dx fs v u, x = .ref a ∧ H1 a = some (.ins C dx fs) ∧ Cls K C ∧ Con K C f v u ∧ fs.lookup f = none ∧ Q v H1
def sFld (K : PySem.W.Frag) (ta tv : TE) (f : Str) : TS := fun D σ H => tv σ H fun y H1 => ta σ H1 fun x H2 => ∃ a C dx fs, x = .ref a ∧ H2 a = some (.ins C dx fs) ∧ Cls K C ∧ NoAttr K C f ∧ fs.length < 1000 ∧
  D.nx σ (upd H2 a (.ins C dx (putF f y fs)))
def InOp (X : Cx) (op : Operator) (rd : V → V → Hp → VK → Prop) : Prop :=
  ∀ (pins : List (Addr × Obj)) (s : Shared) (σ : St) (H : Hp) (x y : V) (u v : Value) (Q : VK), Inv X pins σ H s → RelV x u → RelV y v → rd x y H Q → wpAny (model X.prog X.w) X.A (inplaceOp op u v) (EP X pins σ Q) X.xe s
def sFldAug (K : PySem.W.Frag) (ta tv : TE) (rd : V → V → Hp → VK → Prop) (f : Str) : TS := fun D σ H => ta σ H fun x H1 => ∃ a C dx fs v, x = .ref a ∧ H1 a = some (.ins C dx fs) ∧ Cls K C ∧ NoAttr K C f ∧ fs.lookup f = some v ∧
  tv σ H1 fun y H2 => rd v y H2 fun z H3 => ∃ dx' fs', H3 a = some (.ins C dx' fs') ∧ fs'.length < 1000 ∧ D.nx σ (upd H3 a (.ins C dx' (putF f z fs')))
section
variable {X : Cx} {o e value : Expr} {f : Str} {pos pos' tpos : Pos} {ta tv : TE}
def rAdd : V → V → Hp → VK → Prop := fun x y H Q => ∃ i j, x = .int i ∧ y = .int j ∧ Q (.int (i + j)) H
def rSub : V → V → Hp → VK → Prop := fun x y H Q => ∃ i j, x = .int i ∧ y = .int j ∧ Q (.int (i - j)) H
end
section
variable {X : Cx} {pins : List (Addr × Obj)} {σ : St} {H : Hp} {s : Shared} {A : Around} {E : Value → Shared → Prop} {Q : Value → Shared → Prop} {c : Value} {b : Bool}
inductive TyOf (K : PySem.W.Frag) (H : Hp) : V → Value → Prop where
  | non : TyOf K H .non (.type "NoneType")
  | bl (x : Bool) : TyOf K H (.bl x) (.type "bool")
  | int (i : Int) : TyOf K H (.int i) (.type "int")
  | str (x : Str) : TyOf K H (.str x) (.type "str")
  | flt (x : UInt64) : TyOf K H (.flt x) (.type "float")
  | lst {a : Addr} {xs : List V} (e : H a = some (.lst xs)) : TyOf K H (.ref a) (.type "list")
  | frz {a : Addr} {o : Obj} {xs : List V} (e : H a = some (.frz o (.lst xs))) : TyOf K H (.ref a) (.type "list")
  | tup {a : Addr} {xs : List V} (e : H a = some (.tup xs)) : TyOf K H (.ref a) (.type "tuple")
  | dK {a : Addr} {kvs : List (Key × V)} (e : H a = some (.dK kvs)) : TyOf K H (.ref a) (.type "dict")
  | dT {a : Addr} {kvs : List (List Key × V)} (e : H a = some (.dT kvs)) : TyOf K H (.ref a) (.type "dict")
  | ins {a C dx : Addr} {fs : List (Str × V)} (e : H a = some (.ins C dx fs)) (cl : Cls K C) (ha : PySem.W.findIn K (.ref C) "__class__" = some (some (.builtin "object.__class__")))
      (hn : PySem.W.specialIn K (.builtin "object.__class__") "__get__" = some (some (.builtin "getset_descriptor.__get__"))) (htk : PySem.W.takesIn K (.builtin "object.__class__") = some true)
      (hm : PySem.W.mroIn K C (.type "object") = some true) : TyOf K H (.ref a) (.ref C)
theorem isinst_ok {x : V} {u t : Value} (I : Inv X pins σ H s) (rx : RelV x u) (ty : TyOf X.K H x t) (e : PySem.W.kitOne X.K t c = some b) (h : ∀ tk, Q (.bool b) { s with toks := tk }) :
    wpAny (model X.prog X.w) A (call (.builtin "isinstance") [u, c]) Q E s := by
  cases ty with
  | non => cases (show u = Value.none from rx); exact PySem.W.kia_one PySem.W.kitx_none I.kIn True.intro e (fun z => nomatch z) h
  | bl y => cases (show u = Value.bool y from rx); exact PySem.W.kia_one PySem.W.kitx_bool I.kIn True.intro e (fun z => nomatch z) h
  | int i => obtain ⟨t, q⟩ := (show ∃ t, u = Value.int i t from rx); cases q; exact PySem.W.kia_one PySem.W.kitx_int I.kIn True.intro e (fun z => nomatch z) h
  | str y => obtain ⟨t, q⟩ := (show ∃ t, u = Value.str y t from rx); cases q; exact PySem.W.kia_one PySem.W.kitx_str I.kIn True.intro e (fun z => nomatch z) h
  | flt y => obtain ⟨t, q⟩ := (show ∃ t, u = Value.float y t from rx); cases q; exact PySem.W.kia_one PySem.W.kitx_float I.kIn True.intro e (fun z => nomatch z) h
  | @lst a xs ea =>
    cases (show u = Value.ref a from rx)
    obtain ⟨_, _, n, _, h1⟩ := (show ObjOk X.prog X.w H s.heap a (.lst xs) from I.hok a _ ea)
    exact PySem.W.kia_one PySem.W.kitx_list I.kIn ⟨_, h1, rfl⟩ e (fun z => nomatch z) h
  | @frz a ob xs ea =>
    cases (show u = Value.ref a from rx)
    obtain ⟨_, _, _, n, _, h1⟩ := (show ObjOk X.prog X.w H s.heap a (.frz ob (.lst xs)) from I.hok a _ ea)
    exact PySem.W.kia_one PySem.W.kitx_list I.kIn ⟨_, h1, rfl⟩ e (fun z => nomatch z) h
  | @tup a xs ea =>
    cases (show u = Value.ref a from rx)
    obtain ⟨_, _, _, p⟩ := (show ObjOk X.prog X.w H s.heap a (.tup xs) from I.hok a _ ea)
    obtain ⟨o, h1, h2, _⟩ := p
    exact PySem.W.kia_one PySem.W.kitx_tuple I.kIn ⟨o, h1, h2⟩ e (fun z => nomatch z) h
  | @dK a kvs ea =>
    cases (show u = Value.ref a from rx)
    obtain ⟨_, _, vs, _, p⟩ := (show ObjOk X.prog X.w H s.heap a (.dK kvs) from I.hok a _ ea)
    obtain ⟨o, es, ep, h1, h2, _⟩ := p
    exact PySem.W.kia_one PySem.W.kitx_dict I.kIn ⟨o, h1, h2.1⟩ e (fun z => nomatch z) h
  | @dT a kvs ea =>
    cases (show u = Value.ref a from rx)
    obtain ⟨_, _, xs, _, o, es, ep, h1, h2, _⟩ := (show ObjOk X.prog X.w H s.heap a (.dT kvs) from I.hok a _ ea)
    exact PySem.W.kia_one PySem.W.kitx_dict I.kIn ⟨o, h1, h2.1⟩ e (fun z => nomatch z) h
  | @ins a C dx fs ea cl ha hn htk hm =>
    cases (show u = Value.ref a from rx)
    obtain ⟨mA, O, _⟩ := ins_get I.hok ea
    obtain ⟨od, J, _⟩ := O.look
    exact PySem.W.kia_one (PySem.W.kitx_own (cl.get _) cl.hd ha hn htk hm) I.kIn J e (fun z => nomatch z) h
end
end L2
namespace L2
open PySem PySem.Spec PyProof.Rows
structure Room (k : Nat) (A : Around) : Prop where
  hd : A.handled = none
  dp : A.depth + 3 * k + 5 < recursionLimit
  un : A.units + 16 * k + 200 < cLine
theorem Room.mono {j k : Nat} {A : Around} (r : Room k A) (h : j ≤ k) : Room j A := ⟨r.hd, by have := r.dp; omega, by have := r.un; omega⟩
theorem Room.deeper {k : Nat} {A : Around} (r : Room (k + 1) A) (env : Env) : Room k (A.deeper env) :=
  ⟨r.hd, by have := r.dp; show A.depth + 1 + 3 * k + 5 < _; omega, by have := r.un; show A.units + 3 + 16 * k + 200 < _; omega⟩
theorem Room.depth {k : Nat} {A : Around} (r : Room k A) : A.depth < recursionLimit := by have := r.dp; omega
theorem Room.units {k : Nat} {A : Around} (r : Room k A) : A.units + 64 < cLine := by have := r.un; omega
def tNil : TA := fun _ H Q => Q [] H
def tCons (ta : TE) (tr : TA) : TA := fun σ H Q => ta σ H fun x H1 => tr σ H1 fun xs H2 => Q (x :: xs) H2
section
variable {X : Cx} {e : Expr} {es : List Expr} {te : TE} {t : TA} {pos : Pos}
theorem pa_nil : PA X [] tNil := fun _ _ _ _ H Q I h => Calls.spliced_nil ⟨[], H, I, .nil, h⟩
theorem pa_cons (ha : PE X e te) (hr : PA X es t) (hs : starEach (e :: es) X.env = (false, eval e X.env) :: starEach es X.env := by rfl) : PA X (e :: es) (tCons te t) := by
  intro pos pins s σ H Q I h
  rw [hs]
  show wpAny _ _ (spliced ((false, eval e X.env) :: backTo pos (starEach es X.env))) _ _ s
  refine Calls.spliced_cons (thn (ha pins s σ H _ I h) fun u s1 ⟨x, H1, I1, r1, q1⟩ => ?_)
  exact thn (hr pos pins s1 σ H1 _ I1 q1) fun us s2 ⟨xs, H2, I2, r2, q2⟩ => ⟨x :: xs, H2, I2, .cons r1 r2, q2⟩
def tTup (t : TA) : TE := fun σ H Q => t σ H fun xs H1 => xs.length ≤ sizeLine ∧ ∀ p, H1 p = none → Q (.ref p) (upd H1 p (.tup xs))
def tLst (t : TA) : TE := fun σ H Q => t σ H fun xs H1 => xs.length ≤ sizeLine ∧ ∀ p, H1 p = none → Q (.ref p) (upd H1 p (.lst xs))
theorem pe_tup {x1} (h : PA X es t) : PE X (.Tuple es x1 pos) (tTup t) := by
  intro pins s σ H Q I hq
  refine wpAny_Tuple_spliced (thn (h pos pins s σ H _ I hq) fun us s1 ⟨xs, H1, I1, r, z, q⟩ => ⟨by rw [← r.length]; exact z, ?_⟩)
  have hf : H1 s1.heap.objs.size = none := I1.hok.fresh (Nat.le_refl _)
  refine ⟨.ref s1.heap.objs.size, upd H1 s1.heap.objs.size (.tup xs), I1.laid (t' := s1.toks) (fun b u e => Heap.get?_push_of_some _ e) (Nat.le_refl _) ?_, rfl, q _ hf⟩
  exact ⟨z, us, r, ⟨_, Heap.get?_push_size _ rfl, rfl, _, rfl⟩⟩
theorem pe_lst (h : PA X es t) : PE X (.List es pos) (tLst t) := by
  intro pins s σ H Q I hq
  refine wpAny_List_spliced (thn (h pos pins s σ H _ I hq) fun us s1 ⟨xs, H1, I1, r, z, q⟩ => ⟨by rw [← r.length]; exact z, ?_⟩)
  have hf : H1 s1.heap.objs.size = none := I1.hok.fresh (Nat.le_refl _)
  refine ⟨.ref s1.heap.objs.size, upd H1 s1.heap.objs.size (.lst xs), I1.laid (t' := s1.toks) (fun b u e => Heap.get?_push_of_some _ e) (Nat.le_refl _) ?_, rfl, q _ hf⟩
  exact ⟨z, us, 0, r, Heap.get?_push_size _ rfl⟩
end
abbrev Sp := List V → Hp → VK → XK → Prop
abbrev CXT := List Env → Hp → Shared → XK → Value → Shared → Prop
structure Env0 (P : Program) (w : World) (K : PySem.W.Frag) (mg : Str → Option Value) (base : Heap) (A : Around) (outer : List Env) (s : Shared) (H : Hp) : Prop where
  frames : A.frames = some outer
  mod : Mod K mg base
  bs : ∀ b o, base.get? b = some o → s.heap.get? b = some o ∧ H b = none
  bsz : base.objs.size ≤ s.heap.objs.size
  funs : s.heap.FunFrames base outer
  frf : ∀ b ∈ frs outer, H b = none
  hok : HOk P w H s.heap
  bare : AllBare s.gens
def CE (outer : List Env) (P : Program) (w : World) (H : Hp) (s : Shared) (Q : VK) (u : Value) (s' : Shared) : Prop :=
  ∃ v H', s'.os = s.os ∧ AllBare s'.gens ∧ Un (frs outer) [] H H' s.heap s'.heap ∧ HOk P w H' s'.heap ∧ RelV v u ∧ Q v H'
def CR (CX : CXT) (outer : List Env) (P : Program) (w : World) (H : Hp) (s : Shared) (Q : VK) (E : XK) (r : Result) (s' : Shared) : Prop :=
  match r with
  | .ok (.ret u) => CE outer P w H s Q u s'
  | .ok _ => False
  | .error e => CX outer H s E e s'
structure FnOk (P : Program) (w : World) (K : PySem.W.Frag) (mg : Str → Option Value) (base : Heap) (CX : CXT) (k : Nat) (f : Addr) (fd : FuncData) (ps : List Str) (sp : Sp) : Prop where
  len : ∀ vs H Q E, sp vs H Q E → vs.length = ps.length
  run : ∀ (A : Around) (outer : List Env) (s : Shared) (H : Hp) (args : Args) (us : List Value) (vs : List V) (Q : VK) (E : XK), Room k A → Env0 P w K mg base A outer s H → BindsTo s fd args (ps.zip us) → Vals vs us → sp vs H Q E →
    codeAny (model P w) A (.call (.ref f) args) (CR CX outer P w H s Q E) s
theorem FnOk.mono {P : Program} {w : World} {K : PySem.W.Frag} {mg : Str → Option Value} {base : Heap} {CX : CXT} {j k : Nat} {f : Addr} {fd : FuncData} {ps : List Str} {sp : Sp} (F : FnOk P w K mg base CX j f fd ps sp) (h : j ≤ k) :
    FnOk P w K mg base CX k f fd ps sp := ⟨F.len, fun A outer s H args us vs Q E hr => F.run A outer s H args us vs Q E (hr.mono h)⟩
section
variable {X : Cx} {pins : List (Addr × Obj)} {σ : St} {H : Hp} {s s' : Shared}
theorem Inv.env0 (I : Inv X pins σ H s) : Env0 X.prog X.w X.K X.mg X.base X.A X.stack s H :=
  ⟨I.ok.frames, I.ok.mod, I.bs, Nat.le_trans I.ok.bsz I.sz, I.stack, I.stkFree, I.hok, I.bare⟩
theorem Inv.after {Q : VK} {u : Value} (I : Inv X pins σ H s) (h : CE X.stack X.prog X.w H s Q u s') : EP X pins σ Q u s' := by
  obtain ⟨v, H', os, bare, un, hok, r, q⟩ := h
  obtain ⟨hh, g, d, t, os'⟩ := s'
  obtain rfl : os' = s.os := os
  exact ⟨v, H', I.call (h' := hh) (g' := g) (d' := d) (t' := t) (ch := []) un hok bare (fun b z => absurd z (by simp)), r, q⟩
end
def tCall (sp : Sp) (dvs : List V) (E : XK) (t : TA) : TE := fun σ H Q => t σ H fun vs H1 => sp (vs ++ dvs) H1 Q E
def tMeth (C : Addr) (m : Str) (sp : Sp) (dvs : List V) (E : XK) (ta : TE) (t : TA) : TE := fun σ H Q => ta σ H fun x H1 => ∃ a dx fs, x = .ref a ∧ H1 a = some (.ins C dx fs) ∧ fs.lookup m = none ∧
  t σ H1 fun vs H2 => sp (x :: (vs ++ dvs)) H2 Q E
def tMake (C : Addr) (sp : Sp) (dvs : List V) (E : XK) (t : TA) : TE := fun σ H Q => t σ H fun vs H1 => ∀ x dx, H1 x = none → H1 dx = none → dx ≠ x →
  sp (.ref x :: (vs ++ dvs)) (upd (upd H1 dx (.own x)) x (.ins C dx [])) (fun v H2 => v = .non ∧ Q (.ref x) H2) E
def Binds (K : PySem.W.Frag) (fd : FuncData) (ps : List Str) (ds : List Value) : Prop :=
  ∀ (s : Shared) (us : List Value), K.In s.heap → (us ++ ds).length = ps.length → BindsTo s fd ⟨us, []⟩ (ps.zip (us ++ ds))
theorem Binds.all {K : PySem.W.Frag} {fd : FuncData} {ps : List Str} (h : ∀ us : List Value, us.length = ps.length → bindArgs fd ⟨us, []⟩ = pure (ps.zip us)) : Binds K fd ps [] := fun s us _ hl => by
  rw [List.append_nil] at hl ⊢
  exact .of_eq (h us hl)
def Passes (CX : CXT) (X : Cx) (E : XK) : Prop := ∀ (pins : List (Addr × Obj)) (σ : St) (H : Hp) (s : Shared) (e : Value) (s' : Shared), Inv X pins σ H s → CX X.stack H s E e s' → X.xe e s'
section
variable {X : Cx} {CX : CXT} {k : Nat} {f C : Addr} {fd : FuncData} {ps : List Str} {sp : Sp} {dvs : List V} {ds : List Value} {E : XK} {x m : Str} {p pos apos : Pos} {e o : Expr} {es : List Expr} {ta : TE} {t : TA}
theorem run_fn {pins : List (Addr × Obj)} {σ : St} {H : Hp} {s : Shared} {Q : VK} {us : List Value} {vs : List V} (F : FnOk X.prog X.w X.K X.mg X.base CX k f fd ps sp) (hr : Room k X.A) (hb : Binds X.K fd ps ds) (hd : Vals dvs ds) (hx : Passes CX X E)
    (I : Inv X pins σ H s) (r : Vals vs us) (h : sp (vs ++ dvs) H Q E) : wpAny (model X.prog X.w) X.A (call (.ref f) us) (EP X pins σ Q) X.xe s := by
  have r2 : Vals (vs ++ dvs) (us ++ ds) := r.append hd
  have hl : (us ++ ds).length = ps.length := by rw [← r2.length]; exact F.len _ _ _ _ h
  refine wpAny_call (codeAny_mono (F.run X.A X.stack s H ⟨us, []⟩ (us ++ ds) (vs ++ dvs) Q E hr I.env0 (hb s us I.kIn hl) r2 h) fun r s' hq => ?_)
  cases r with
  | error e => exact hx pins σ H s e s' I hq
  | ok fl =>
    cases fl with
    | ret u => exact I.after hq
    | next => exact False.elim hq
    | brk => exact False.elim hq
    | cont => exact False.elim hq
theorem pe_call (F : FnOk X.prog X.w X.K X.mg X.base CX k f fd ps sp) (hr : Room k X.A) (hg : Gl X x) (hm : X.mg x = some (.ref f)) (hk : PySem.W.keepIn X.K (.ref f) = true) (hb : Binds X.K fd ps ds) (hd : Vals dvs ds) (hx : Passes CX X E)
    (ha : PA X (e :: es) t) (hdb : (x == ("__debug__" : Str)) = false := by decide) (he : starEach (e :: es) X.env = (false, eval e X.env) :: starEach es X.env := by rfl) (hpl : (backTo pos (starEach es X.env)).any (·.1) = false := by rfl) :
    PE X (.Call (.Name x p) (e :: es) [] pos) (tCall sp dvs E t) := by
  intro pins s σ H Q I h
  refine wpAny_Call_Name_kw (ld_glob I hg hm ?_ hdb)
  refine PySem.W.callWith_K (h₀ := X.base) I.ok.mod.kin hk (thn (ha pos pins s σ H _ I h) fun us s1 ⟨vs, H1, I1, r, q⟩ => ⟨I1.kIn, ?_⟩) he hpl
  exact run_fn F hr hb hd hx I1 r q
structure Mk (K : PySem.W.Frag) (C f : Addr) : Prop where
  makes : PySem.W.makesIn K C = true
  init : PySem.W.findIn K (.ref C) "__init__" = some (some (.ref f))
  fn : PySem.W.isFn K (.ref f) = true
  kp : PySem.W.keepIn K (.ref C) = true
end
def PK (X : Cx) (kws : List Keyword) (t : TA) : Prop :=
  ∀ (pos : Pos) (pins : List (Addr × Obj)) (s : Shared) (σ : St) (H : Hp) (Q : List V → Hp → Prop), Inv X pins σ H s → t σ H Q → wpAny (model X.prog X.w) X.A (evalAll ((backToKw pos (keywordEach kws X.env)).map (·.2))) (AP X pins σ Q) X.xe s
section
variable {X : Cx} {CX : CXT} {k : Nat} {f C : Addr} {fd : FuncData} {ps ks : List Str} {sp : Sp} {E : XK} {x m : Str} {p pos apos kpos : Pos} {e o : Expr} {es : List Expr} {kws : List Keyword} {te ta : TE} {t tk : TA} {nm : Option Str}
structure KBinds (K : PySem.W.Frag) (fd : FuncData) (ps ks : List Str) (g : List Value → List Value → List Value) (gV : List V → List V → List V) : Prop where
  to : ∀ (s : Shared) (us ws : List Value), K.In s.heap → (g us ws).length = ps.length → BindsTo s fd ⟨us, ks.zip ws⟩ (ps.zip (g us ws))
  rel : ∀ {vs : List V} {us : List Value} {zs : List V} {ws : List Value}, Vals vs us → Vals zs ws → Vals (gV vs zs) (g us ws)
def tCallK (sp : Sp) (gV : List V → List V → List V) (E : XK) (t tk : TA) : TE := fun σ H Q => t σ H fun vs H1 => tk σ H1 fun zs H2 => sp (gV vs zs) H2 Q E
variable {g : List Value → List Value → List Value} {gV : List V → List V → List V}
end
structure FnScope (N P : List Str) (sc : Scope) : Prop where
  kind : sc.kind = .function
  co : sc.isCoroutine = false
  gen : sc.isGenerator = false
  nd : N.Nodup
  pre : N.take P.length = P
  par : ∀ x ∈ P, sc.names.lookup x = some .local ∨ sc.names.lookup x = some .cell
  nofree : ∀ y ∈ sc.names, y.2 ≠ .free
theorem bindL_out {kindOf : Str → Option NameKind} {x : Str} : ∀ {binds : List (Str × Value)} {m : Str → Option Value}, (∀ v, (x, v) ∉ binds) → bindL kindOf binds m x = m x
  | [], _, _ => rfl
  | (n, v) :: r, m, h => by
    unfold bindL
    rw [bindL_out fun w hw => h w (List.mem_cons_of_mem _ hw)]
    split
    · have : x ≠ n := by rintro rfl; exact h v List.mem_cons_self
      simp [this]
    · rfl
theorem bindC_out {kindOf : Str → Option NameKind} {x : Str} : ∀ {binds : List (Str × Value)} {m : Str → Option Value}, (∀ v, (x, v) ∉ binds) → bindC kindOf binds m x = m x
  | [], _, _ => rfl
  | (n, v) :: r, m, h => by
    unfold bindC
    rw [bindC_out fun w hw => h w (List.mem_cons_of_mem _ hw)]
    split
    · rfl
    · have : x ≠ n := by rintro rfl; exact h v List.mem_cons_self
      simp [this]
theorem bindL_get {kindOf : Str → Option NameKind} {x : Str} {v : Value} : ∀ {P : List Str} {vs : List Value} {i : Nat} {m : Str → Option Value}, P.Nodup → P[i]? = some x → vs[i]? = some v → kindOf x = some .local →
    bindL kindOf (P.zip vs) m x = some v
  | [], _, _, _, _, h, _, _ => by simp at h
  | _ :: _, [], _, _, _, _, h, _ => by simp at h
  | p :: P, w :: vs, 0, m, nd, h1, h2, hk => by
    simp at h1 h2; subst h1; subst h2
    show bindL kindOf ((p, w) :: P.zip vs) m p = _
    unfold bindL
    rw [bindL_out fun v hv => (List.nodup_cons.mp nd).1 (List.of_mem_zip hv).1, if_pos hk]
    simp
  | p :: P, w :: vs, i + 1, m, nd, h1, h2, hk => by
    show bindL kindOf ((p, w) :: P.zip vs) m x = _
    unfold bindL
    exact bindL_get (i := i) (List.nodup_cons.mp nd).2 (by simpa using h1) (by simpa using h2) hk
theorem bindC_get {kindOf : Str → Option NameKind} {x : Str} {v : Value} : ∀ {P : List Str} {vs : List Value} {i : Nat} {m : Str → Option Value}, P.Nodup → P[i]? = some x → vs[i]? = some v → kindOf x ≠ some .local →
    bindC kindOf (P.zip vs) m x = some v
  | [], _, _, _, _, h, _, _ => by simp at h
  | _ :: _, [], _, _, _, _, h, _ => by simp at h
  | p :: P, w :: vs, 0, m, nd, h1, h2, hk => by
    simp at h1 h2; subst h1; subst h2
    show bindC kindOf ((p, w) :: P.zip vs) m p = _
    unfold bindC
    rw [bindC_out fun v hv => (List.nodup_cons.mp nd).1 (List.of_mem_zip hv).1, if_neg hk]
    simp
  | p :: P, w :: vs, i + 1, m, nd, h1, h2, hk => by
    show bindC kindOf ((p, w) :: P.zip vs) m x = _
    unfold bindC
    exact bindC_get (i := i) (List.nodup_cons.mp nd).2 (by simpa using h1) (by simpa using h2) hk
def start (N : List Str) (vs : List V) : St := vs.map some ++ List.replicate (N.length - vs.length) none
def cxOf (CX : CXT) (P : Program) (w : World) (K : PySem.W.Frag) (mg : Str → Option Value) (base : Heap) (N : List Str) (qual : Str) (scope : Scope) (f : Addr) (cd : Value) (A : Around) (outer : List Env) (s : Shared) (H : Hp) (E : XK) : Cx where
  prog := P
  w := w
  K := K
  mg := mg
  base := base
  A := A.deeper (envOfC qual scope s.heap.objs.size f cd)
  N := N
  s₀ := s
  H₀ := H
  env := envOfC qual scope s.heap.objs.size f cd
  outer := outer
  stack := envOfC qual scope s.heap.objs.size f cd :: outer
  ex := []
  calm := true
  fn := fun _ => true
  pn := []
  xe := fun e s' => wpAny (model P w) (A.deeper (envOfC qual scope s.heap.objs.size f cd)) (leaving (envOfC qual scope s.heap.objs.size f cd) e) (fun _ s'' => CX outer H s E e s'') (fun e' s'' => CX outer H s E e' s'') s'
theorem cell_has {sc : Scope} {n : Nat} {x : Str} (h : sc.names.lookup x = some .cell) : ∃ c, (cellsFrom n sc.names []).lookup x = some c := by
  have q := PySem.W.cellsFrom_some sc.names n [] (.inl h)
  exact Option.isSome_iff_exists.mp q
theorem inv_start {CX : CXT} {P : Program} {w : World} {K : PySem.W.Frag} {mg : Str → Option Value} {base : Heap} {N ps : List Str} {qual : Str} {scope : Scope} {f : Addr} {cd : Value} {A : Around} {outer : List Env} {s s1 : Shared} {H : Hp} {E : XK} {us : List Value} {vs : List V}
    (S : FnScope N ps scope) (hd : A.handled = none) (e0 : Env0 P w K mg base A outer s H) (hl : vs.length = ps.length) (r : Vals vs us)
    (x : InCallC s s.heap.objs.size (bindL (envOfC qual scope s.heap.objs.size f cd).kindOf (ps.zip us) fun _ => none) (cellsFrom (s.heap.objs.size + 1) scope.names []) (bindC (envOfC qual scope s.heap.objs.size f cd).kindOf (ps.zip us) fun _ => none) s1) :
    Inv (cxOf CX P w K mg base N qual scope f cd A outer s H E) [] (start N vs) H s1 := by
  have hpl : ps.length ≤ N.length := by have := congrArg List.length S.pre; rw [List.length_take] at this; omega
  obtain ⟨h1, tk, rfl, hk⟩ := x.done
  have noA : ∀ b : Addr, b ∉ (cxOf CX P w K mg base N qual scope f cd A outer s H E).ex := fun b z => absurd (show b ∈ ([] : List Addr) from z) (by simp)
  refine ⟨⟨e0.mod, S.kind, rfl, rfl, Nat.le_refl _, fun y z c h1 h2 => ?_, fun y hy => ?_, fun y c _ h => ?_, fun _ => hd, Around.frames_deeper e0.frames, .inr ⟨rfl, rfl⟩, fun b z => absurd z (noA b), e0.bs, e0.bsz, fun b _ _ => noA b, fun b z => absurd z (noA b), e0.funs, e0.frf⟩,
    rfl, e0.bare, Un.kept hk, ⟨_, x.toInCall.ns, fun i y v h1 h2 h3 => ?_⟩, fun y c h => ⟨_, x.cell y c h⟩, e0.hok.fresh (Nat.le_refl _), fun y c h => ?_, fun p hp => absurd (show p ∈ ([] : List (Addr × Obj)) from hp) (by simp), e0.hok.kept hk, ?_⟩
  · exact name_of_addr x.apart (PySem.mem_of_lookup h1) (PySem.mem_of_lookup h2)
  · have hy : scope.names.lookup y = some .cell ∨ scope.names.lookup y = some .free := hy
    rcases hy with hy | hy
    · exact cell_has hy
    · exact absurd rfl (S.nofree _ (PySem.mem_of_lookup hy))
  · exact Nat.le_of_lt (x.above y c (PySem.mem_of_lookup h))
  · have hi : i < vs.length := by
      unfold start at h2
      by_cases hi : i < vs.length
      · exact hi
      · rw [List.getElem?_append_right (by simpa using hi)] at h2
        rw [List.getElem?_replicate] at h2
        split at h2 <;> cases h2
    have ha : vs[i]? = some v := by
      unfold start at h2
      rw [List.getElem?_append_left (by simpa using hi), List.getElem?_map] at h2
      cases e : vs[i]? with
      | none => rw [e] at h2; cases h2
      | some a => rw [e] at h2; cases h2; rfl
    obtain ⟨u, hu, rv⟩ := r.get ha
    have hp : ps[i]? = some y := by
      rw [← S.pre, List.getElem?_take_of_lt (by omega)]; exact h1
    have ndP : ps.Nodup := by rw [← S.pre]; exact S.nd.sublist (List.take_sublist _ _)
    refine ⟨u, rv, ?_⟩
    rcases S.par y (List.mem_of_getElem? hp) with k | k
    · exact .inl ⟨k, bindL_get ndP hp hu k⟩
    · obtain ⟨c, e⟩ := cell_has (n := s.heap.objs.size + 1) k
      refine .inr ⟨.inl k, c, e, ?_⟩
      have q := x.cell y c e
      rw [bindC_get ndP hp hu (by show scope.names.lookup y ≠ _; rw [k]; decide)] at q
      exact q
  · exact e0.hok.fresh (Nat.le_of_lt (x.above y c (PySem.mem_of_lookup h)))
  · unfold start
    show _ = N.length
    rw [List.length_append, List.length_map, List.length_replicate]
    omega
theorem fn_of {CX : CXT} {P : Program} {w : World} {K : PySem.W.Frag} {mg : Str → Option Value} {base : Heap} {k : Nat} {f : Addr} {name qual : Str} {params : Arguments} {body : List Stmt} {scope : Scope} {dV kV doc pm cdv ct oc : Value} {an od : Option Addr}
    {osl : Array (Option Value)} {N ps : List Str} {sp : Sp} (lk : K.lookup f = some ⟨oc, od, .func (PySem.W.fnOf name qual params body scope dV kV doc pm an cdv ct), osl⟩) (hcd : PySem.W.codeIn K cdv qual = true) (S : FnScope N ps scope)
    (len : ∀ vs H Q E, sp vs H Q E → vs.length = ps.length)
    (hbody : ∀ (A : Around) (outer : List Env) (s : Shared) (H : Hp) (vs : List V) (Q : VK) (E : XK), Room k (A.deeper (envOfC qual scope s.heap.objs.size f cdv)) → sp vs H Q E →
      ∃ t, PSs (cxOf CX P w K mg base N qual scope f cdv A outer s H E) body t ∧ t { nx := fun _ H' => Q .non H', rt := Q } (start N vs) H) :
    FnOk P w K mg base CX (k + 1) f (PySem.W.fnOf name qual params body scope dV kV doc pm an cdv ct) ps sp := by
  refine ⟨len, fun A outer s H args us vs Q E hr e0 hb r hsp => ?_⟩
  have hl := len _ _ _ _ hsp
  have KX : K.In s.heap := e0.mod.kin.keeps fun b o e => (e0.bs b o e).1
  have lim : s.heap.NoLimit := e0.mod.nolimit.keeps fun b o e => (e0.bs b o e).1
  have hkind : ∀ y ∈ ps.zip us, scope.names.lookup y.1 = some .local ∨ (scope.names.lookup y.1 = some .cell ∧ ((cellsFrom (s.heap.objs.size + 1) scope.names []).lookup y.1).isSome = true) := fun ⟨n, v⟩ hy => by
    rcases S.par n (List.of_mem_zip hy).1 with q | q
    · exact .inl q
    · exact .inr ⟨q, PySem.W.cellsFrom_some _ _ _ (.inl q)⟩
  refine codeAny_call_function hr.depth (KX _ _ lk) rfl S.co S.gen rfl (PySem.W.codeRec_of KX hcd) (hb _ _ _ _ ?_)
  refine wpAny_newFunctionEnv_cells S.kind hkind fun env he s1 x => ?_
  subst he
  refine ⟨lim.keeps x.toInCall.keep, codeAny_func ?_⟩
  obtain ⟨t, ht, hq⟩ := hbody A outer s H vs Q E (hr.deeper _) hsp
  have I : Inv (cxOf CX P w K mg base N qual scope f cdv A outer s H E) [] (start N vs) H s1 := inv_start S hr.hd e0 hl r x
  refine wpAny_mono (ht [] s1 (start N vs) H _ I hq) (fun fl s' hs => ?_) fun e s' hs => hs
  have fin : ∀ {σ' : St} {H' : Hp} {v : V} {u : Value}, Inv (cxOf CX P w K mg base N qual scope f cdv A outer s H E) [] σ' H' s' → RelV v u → Q v H' → CE outer P w H s Q u s' :=
    fun {σ' H' v u} J rv q => ⟨v, H', J.os, J.bare, J.base, J.hok, rv, q⟩
  cases fl with
  | ret u =>
    obtain ⟨v, σ', H', J, rv, q⟩ := hs
    exact fin J rv q
  | next =>
    obtain ⟨σ', H', J, q⟩ := hs
    exact fin (v := V.non) (u := Value.none) J rfl q
  | brk =>
    obtain ⟨_, _, _, q⟩ := hs
    exact False.elim q
  | cont =>
    obtain ⟨_, _, _, q⟩ := hs
    exact False.elim q
end L2
namespace L2
open PySem PySem.Spec PyProof.Rows
section
variable {X : Cx} {x : Str} {p pos : Pos} {e : Expr} {es : List Expr} {t : TA} {id T : String} {r : List V → Hp → VK → Prop}
def tCB (r : List V → Hp → VK → Prop) (t : TA) : TE := fun σ H Q => t σ H fun vs H1 => r vs H1 Q
theorem pe_callB (hc : CallR X (.builtin id) r) (hg : Gl X x) (hm : X.mg x = none) (hv : bootBuiltins x = some (.builtin id)) (ha : PA X (e :: es) t) (hn : x ≠ "__name__" := by decide) (hdb : (x == ("__debug__" : Str)) = false := by decide)
    (he : starEach (e :: es) X.env = (false, eval e X.env) :: starEach es X.env := by rfl) (hpl : (backTo pos (starEach es X.env)).any (·.1) = false := by rfl) : PE X (.Call (.Name x p) (e :: es) [] pos) (tCB r t) := by
  intro pins s σ H Q I h
  refine wpAny_Call_Name_kw (ld_blt I hg hm hv ?_ hn hdb)
  exact PyProof.Rows.callWith_builtin1 (thn (ha pos pins s σ H _ I h) fun us s1 ⟨vs, H1, I1, r1, q1⟩ => hc pins s1 σ H1 vs us Q I1 r1 q1) he hpl
theorem pe_callTy (hc : CallR X (.type T) r) (hg : Gl X x) (hm : X.mg x = none) (hv : bootBuiltins x = some (.type T)) (ha : PA X (e :: es) t) (hn : x ≠ "__name__" := by decide) (hdb : (x == ("__debug__" : Str)) = false := by decide)
    (he : starEach (e :: es) X.env = (false, eval e X.env) :: starEach es X.env := by rfl) (hpl : (backTo pos (starEach es X.env)).any (·.1) = false := by rfl) : PE X (.Call (.Name x p) (e :: es) [] pos) (tCB r t) := by
  intro pins s σ H Q I h
  refine wpAny_Call_Name_kw (ld_blt I hg hm hv ?_ hn hdb)
  exact PyProof.Rows.callWith_type1 (thn (ha pos pins s σ H _ I h) fun us s1 ⟨vs, H1, I1, r1, q1⟩ => hc pins s1 σ H1 vs us Q I1 r1 q1) he hpl
end
end L2
namespace HT
open PySem PyProof.Rows
def lexLt : List Int → List Int → Bool
  | [], [] => false
  | [], _ :: _ => true
  | _ :: _, [] => false
  | x :: xs, y :: ys => if x = y then lexLt xs ys else decide (x < y)
section
open PySem.SeqAt
open PySem.AutoSeq1 (wpAny_loadPart')
open PySem.MeetsSeq PySem.MeetsSeq2 PySem.MeetsSeq3
end
section
variable {prog : Program} {w : World} {A : Around} {E : Value → Shared → Prop} {s : Shared}
theorem cat_tup {t b : Addr} {vs ws : List Value} {Q : Value → Shared → Prop} (ht : IsTup s.heap t vs.toArray) (hb : IsTup s.heap b ws.toArray) (hv : vs ≠ [])
    (h1 : ws = [] → Q (.ref t) s) (h2 : ws ≠ [] → Q (.ref s.heap.objs.size) { s with heap := s.heap.push { cls := .type "tuple", data := .seq (vs ++ ws).toArray } })
    (hsz : vs.length + ws.length ≤ sizeLine) : wpAny (model prog w) A (binaryOp .Add (.ref t) (.ref b)) Q E s := by
  obtain ⟨⟨cls, dd, data, sl⟩, ho, hc, n, hd⟩ := id ht
  obtain ⟨⟨cls2, dd2, data2, sl2⟩, ho2, hc2, n2, hd2⟩ := id hb
  simp only at hc hd hc2 hd2
  subst hc hd hc2 hd2
  have e : vs.toArray ++ ws.toArray = (vs ++ ws).toArray := by simp
  by_cases hw : ws = []
  · exact concat_meets ⟨_, ho, rfl⟩ ⟨_, ho2, rfl⟩ noFill_tuple_add seq_tuple_add PySem.F.slot_tuple_add PySem.F.entry_tuple_add (PySem.F.args_tuple_add_2 _ _)
      (tuple_addW1 t b vs.toArray ws.toArray n n2 dd dd2 sl sl2 (by simpa using hv) (by simp [hw])) ⟨ho, ho2, h1 hw⟩
  · refine concat_meets ⟨_, ho, rfl⟩ ⟨_, ho2, rfl⟩ noFill_tuple_add seq_tuple_add PySem.F.slot_tuple_add PySem.F.entry_tuple_add (PySem.F.args_tuple_add_2 _ _)
      (tuple_addW2 t b vs.toArray ws.toArray n n2 dd dd2 sl sl2 (by simpa using hv) (by simpa using hw) (by rw [List.size_toArray, List.size_toArray]; exact hsz)) ⟨ho, ho2, ?_⟩
    rw [e]
    exact h2 hw
def sIx (n d : Nat) : Option Int → Nat
  | none => d
  | some v => if v < 0 then (v + (n : Int)).toNat else min v.toNat n
theorem sIx_none (n d : Nat) : sIx n d none = d := rfl
theorem sIx_nat (n d k : Nat) : sIx n d (some (k : Int)) = min k n := by
  show (if (k : Int) < 0 then ((k : Int) + (n : Int)).toNat else min (k : Int).toNat n) = min k n
  rw [if_neg (by omega), Int.toNat_natCast]
theorem sIx_le (n d : Nat) (hd : d ≤ n) (o : Option Int) : sIx n d o ≤ n := by
  cases o with
  | none => exact hd
  | some v =>
    show (if v < 0 then (v + (n : Int)).toNat else min v.toNat n) ≤ n
    by_cases hv : v < 0
    · rw [if_pos hv]; omega
    · rw [if_neg hv]; exact Nat.min_le_right _ _
theorem clip_eq (v : Int) (n d : Nat) : (if v < 0 then max (v + (n : Int)) 0 else min v (n : Int)) = ((sIx n d (some v) : Nat) : Int) := by
  show (if v < 0 then max (v + (n : Int)) 0 else min v (n : Int)) = (((if v < 0 then (v + (n : Int)).toNat else min v.toNat n) : Nat) : Int)
  by_cases hv : v < 0
  · simp only [if_pos hv]; omega
  · simp only [if_neg hv]; omega
theorem adjust_gen (lo hi : Option Int) (n : Nat) : Builtin.Slice.sliceAdjust lo hi 1 (n : Int) = (((sIx n 0 lo : Nat) : Int), ((sIx n n hi : Nat) : Int)) := by
  have h1 : ¬ ((1 : Int) < 0) := by omega
  unfold Builtin.Slice.sliceAdjust
  simp only [h1, if_false]
  refine Prod.ext ?_ ?_
  · cases lo with
    | none => rfl
    | some v => exact clip_eq v n 0
  · cases hi with
    | none => rfl
    | some v => exact clip_eq v n n
theorem places_gen (i j : Nat) : Builtin.Slice.slicePlaces (i : Int) (j : Int) 1 = j - i := by
  unfold Builtin.Slice.slicePlaces
  have h1 : (1 : Int) > 0 := by omega
  simp only [h1, if_true, Int.ediv_one]
  split <;> omega
theorem slicePart_ {v : Value} {o : Option Int} {Q : Option Int → Shared → Prop} (p : IsPart v o) (h : Q o s) : wpAny (model prog w) A (Builtin.Slice.slicePartIndex v) Q E s := by
  cases p with
  | none => exact slicePart_none h
  | int i t => exact slicePart_int h
theorem sliceApplied_gen {sl : Addr} {vl vu : Value} {lo hi : Option Int} {n : Nat} {Q : Int × Int × Nat → Shared → Prop} (hs : s.heap.IsSliceOf sl vl vu .none) (pl : IsPart vl lo) (pu : IsPart vu hi)
    (h : Q (((sIx n 0 lo : Nat) : Int), 1, sIx n n hi - sIx n 0 lo) s) : wpAny (model prog w) A (Builtin.Slice.sliceApplied (.ref sl) (pure (n : Int))) Q E s := by
  obtain ⟨os, hos, hcs, hds⟩ := id hs
  unfold Builtin.Slice.sliceApplied Builtin.Slice.sliceFields
  refine wpAny_bind (wpAny_bind (wpAny_field hos hds (x := vl) rfl (wpAny_bind (wpAny_field hos hds (x := vu) rfl (wpAny_bind (wpAny_field hos hds (x := .none) rfl (wpAny_pure ?_)))))))
  refine wpAny_bind (slicePart_none ?_)
  show wpAny _ _ (if ((1 : Int) == 0) = true then _ else _) _ _ s
  rw [if_neg (by decide)]
  refine wpAny_bind (slicePart_ pl (wpAny_bind (slicePart_ pu (wpAny_bind (wpAny_pure ?_)))))
  show wpAny _ _ (match Builtin.Slice.sliceAdjust lo hi 1 (n : Int) with | (lo, hi) => pure (lo, (1 : Int), Builtin.Slice.slicePlaces lo hi 1)) _ _ s
  rw [adjust_gen lo hi n]
  show wpAny _ _ (pure (((sIx n 0 lo : Nat) : Int), (1 : Int), Builtin.Slice.slicePlaces ((sIx n 0 lo : Nat) : Int) ((sIx n n hi : Nat) : Int) 1)) _ _ s
  rw [places_gen]
  exact wpAny_pure h
theorem pick_gen (xs : Array Value) (i k : Nat) : ((List.range k).filterMap fun (m : Nat) => xs[((i : Int) + (m : Int) * 1).toNat]?).toArray = ((xs.toList.drop i).take k).toArray := by
  have e : (fun (m : Nat) => xs[((i : Int) + (m : Int) * 1).toNat]?) = fun m => xs[i + m]? := by
    funext m
    have : ((i : Int) + (m : Int) * 1).toNat = i + m := by omega
    rw [this]
  rw [e]
  have := pick_run xs i k
  rw [List.filterMap_map] at this
  have e2 : ((fun x => xs[x]?) ∘ fun x => i + x) = fun m => xs[i + m]? := rfl
  rw [e2] at this
  rw [this]
theorem getItem_tuple_cut {t sl : Addr} {items : Array Value} {vl vu : Value} {lo hi : Option Int} {Q : Value → Shared → Prop} (ht : IsTup s.heap t items) (hs : s.heap.IsSliceOf sl vl vu .none) (pl : IsPart vl lo) (pu : IsPart vu hi)
    (hw : ¬ (sIx items.size 0 lo = 0 ∧ sIx items.size items.size hi = items.size))
    (h : Q (.ref s.heap.objs.size) { s with heap := s.heap.push { cls := .type "tuple", data := .seq ((items.toList.drop (sIx items.size 0 lo)).take (sIx items.size items.size hi - sIx items.size 0 lo)).toArray } })
    (hsz : items.size ≤ sizeLine) : wpAny (model prog w) A (getItem (.ref t) (.ref sl)) Q E s := by
  have htake : sizeOk (.seq ((items.toList.drop (sIx items.size 0 lo)).take (sIx items.size items.size hi - sIx items.size 0 lo)).toArray) := by
    show ((items.toList.drop (sIx items.size 0 lo)).take (sIx items.size items.size hi - sIx items.size 0 lo)).toArray.size ≤ sizeLine
    rw [List.size_toArray, List.length_take, List.length_drop, Array.length_toList]
    omega
  have hj : sIx items.size items.size hi ≤ items.size := sIx_le _ _ (Nat.le_refl _) hi
  obtain ⟨os, hos, hcs, hds⟩ := id hs
  have hTs : s.TypeIs (.ref sl) "slice" := ⟨os, hos, hcs⟩
  unfold getItem
  try with_reducible refine wpAny_holding ?_
  first | refine wpAny_bind (wpAny_pure ?_) | skip
  refine wpAny_bind (wpAny_sequenceKey ht.typeIs (by decide) ?_)
  refine wpAny_bind (wpAny_callSpecial?_slot (name := Str.ofString "__getitem__") ht.typeIs PyProof.Rows.slot_tuple_getitem
    (wpAny_call_entry PyProof.Rows.slot_tuple_getitem ht.typeIs entry_tuple_getitem ?_ (args_tuple_getitem _ _)))
  show wpAny _ _ (Builtin.Tuple.tupleItemsOf (.ref t) >>= _) _ _ s
  refine wpAny_bind (tupleItemsOf_ ht ?_)
  refine wpAny_bind (wpAny_typeOf hTs ?_)
  rw [if_pos (by decide)]
  refine wpAny_bind (sliceApplied_gen hs pl pu ?_)
  have hno : ¬ ((((sIx items.size 0 lo : Nat) : Int) == 0 && (1 : Int) == 1 && (sIx items.size items.size hi - sIx items.size 0 lo) == items.size) = true) := by
    intro q
    rw [Bool.and_eq_true, Bool.and_eq_true] at q
    have q1 : ((sIx items.size 0 lo : Nat) : Int) = 0 := eq_of_beq q.1.1
    have q2 : sIx items.size items.size hi - sIx items.size 0 lo = items.size := eq_of_beq q.2
    exact hw ⟨by omega, by omega⟩
  show wpAny _ _ (if (((sIx items.size 0 lo : Nat) : Int) == 0 && (1 : Int) == 1 && (sIx items.size items.size hi - sIx items.size 0 lo) == items.size) = true then _ else _) _ _ s
  rw [if_neg hno, pick_gen]
  first
    | exact wpAny_bind (m := Builtin.Tuple.tupleExact _) (wpAny_newObj_type (wpAny_pure ⟨_, rfl, wpAny_pure h⟩) htake)
    | exact wpAny_bind (m := Builtin.Tuple.tupleExact _) (wpAny_newObj_type (wpAny_bind (wpAny_pure (wpAny_pure ⟨_, rfl, wpAny_pure h⟩))) htake)
    | exact wpAny_bind (wpAny_bind (m := Builtin.Tuple.tupleExact _) (wpAny_newObj_type (wpAny_pure (wpAny_pure ⟨_, rfl, wpAny_pure h⟩)) htake))
    | exact wpAny_bind (wpAny_bind (m := Builtin.Tuple.tupleExact _) (wpAny_newObj_type (wpAny_pure ⟨_, rfl, wpAny_pure h⟩) htake))
end
end HT
namespace L2
open PySem PySem.Spec PyProof.Rows
abbrev TO := St → Hp → (Option Int → Hp → Prop) → Prop
def PO (X : Cx) (e : Option Expr) (t : TO) : Prop :=
  ∀ (pins : List (Addr × Obj)) (s : Shared) (σ : St) (H : Hp) (Q : Option Int → Hp → Prop), Inv X pins σ H s → t σ H Q →
    wpAny (model X.prog X.w) X.A (evalPart e X.env) (fun u s' => ∃ o H', Inv X pins σ H' s' ∧ IsPart u o ∧ Q o H') X.xe s
def tNoPart : TO := fun _ H Q => Q none H
def tPart (t : TE) : TO := fun σ H Q => t σ H fun x H1 => ∃ i, x = .int i ∧ Q (some i) H1
section
variable {X : Cx} {e : Expr} {te : TE} {lo hi : Option Expr} {tl th : TO} {pos p2 : Pos}
theorem po_none : PO X none tNoPart := by
  intro pins s σ H Q I h
  rw [evalPart_none]
  exact wpAny_pure ⟨none, H, I, .none, h⟩
theorem po_some (h : PE X e te) : PO X (some e) (tPart te) := by
  intro pins s σ H Q I hw
  rw [evalPart_some]
  refine thn (h pins s σ H _ I hw) fun u s1 ⟨x, H1, I1, r1, q1⟩ => ?_
  obtain ⟨i, rfl, q⟩ := q1
  obtain ⟨t, rfl⟩ := r1
  exact ⟨some i, H1, I1, .int i t, q⟩
def SlR (X : Cx) (r : V → Option Int → Option Int → Hp → VK → Prop) : Prop :=
  ∀ (pins : List (Addr × Obj)) (s : Shared) (σ : St) (H : Hp) (x : V) (v vl vu : Value) (lo hi : Option Int) (sl : Addr) (Q : VK), Inv X pins σ H s → RelV x v → s.heap.IsSliceOf sl vl vu .none → IsPart vl lo → IsPart vu hi → r x lo hi H Q →
    ∃ T id, typeLookup (.type T) "__getitem__" = pure (some (.builtin id)) ∧ s.TypeIs v T ∧ wpAny (model X.prog X.w) X.A (getItem v (.ref sl)) (EP X pins σ Q) X.xe s
def tSl (r : V → Option Int → Option Int → Hp → VK → Prop) (te : TE) (tl th : TO) : TE := fun σ H Q => te σ H fun x H1 => tl σ H1 fun l H2 => th σ H2 fun u H3 => r x l u H3 Q
theorem pe_slice {r : V → Option Int → Option Int → Hp → VK → Prop} (hr : SlR X r) (he : PE X e te) (hl : PO X lo tl) (hu : PO X hi th) : PE X (.Subscript e (.Slice lo hi none p2) pos) (tSl r te tl th) := by
  intro pins s σ H Q I h
  refine Subscript_ (thn (he pins s σ H _ I h) fun v s1 ⟨x, H1, I1, r1, q1⟩ => ?_)
  refine wpAny_Slice (thn (hl pins s1 σ H1 _ I1 q1) fun vl s2 ⟨l, H2, I2, pl, q2⟩ => thn (hu pins s2 σ H2 _ I2 q2) fun vu s3 ⟨u, H3, I3, pu, q3⟩ => ?_)
  rw [evalPart_none]
  refine wpAny_pure ?_
  have I4 : Inv X pins σ H3 { s3 with heap := s3.heap.push { cls := .type "slice", data := .fields #[vl, vu, .none] } } := I3.kept (t' := s3.toks) fun b ob q => Heap.get?_push_of_some _ q
  obtain ⟨T, id, hT, ht, hg⟩ := hr pins { s3 with heap := s3.heap.push { cls := .type "slice", data := .fields #[vl, vu, .none] } } σ H3 x v vl vu l u s3.heap.objs.size Q I4 r1 (Heap.IsSliceOf.new ..) pl pu q3
  show wpAny (model X.prog X.w) X.A (subscriptTail e (.Slice lo hi none p2) v (.ref s3.heap.objs.size)) (EP X pins σ Q) X.xe { s3 with heap := s3.heap.push { cls := .type "slice", data := .fields #[vl, vu, .none] } }
  exact tail_any (ops := [.ref s3.heap.objs.size, v]) ht hT hg (by with_unfolding_all rfl)
def cutV (xs : List V) (lo hi : Option Int) : List V := (xs.drop (HT.sIx xs.length 0 lo)).take (HT.sIx xs.length xs.length hi - HT.sIx xs.length 0 lo)
theorem cutV_length (xs : List V) (lo hi : Option Int) : (cutV xs lo hi).length ≤ xs.length := by
  unfold cutV
  rw [List.length_take, List.length_drop]
  omega
def rSlT (K : PySem.W.Frag) : V → Option Int → Option Int → Hp → VK → Prop := fun x lo hi H Q => ∃ a xs, x = .ref a ∧ SqT K H a xs ∧
  ¬ (HT.sIx xs.length 0 lo = 0 ∧ HT.sIx xs.length xs.length hi = xs.length) ∧ ∀ p, H p = none → Q (.ref p) (upd H p (.tup (cutV xs lo hi)))
theorem sl_tup : SlR X (rSlT X.K) := by
  intro pins s σ H x v vl vu lo hi sl Q I rx hs pl pu h
  obtain ⟨a, xs, rfl, hx, hw, q⟩ := h
  cases rx
  obtain ⟨its, r, ht, hz⟩ := I.tuple hx
  have hlen : its.toArray.size = xs.length := by rw [List.size_toArray]; exact r.length.symm
  refine ⟨"tuple", _, PyProof.Rows.slot_tuple_getitem.lookup, ht.typeIs, ?_⟩
  refine HT.getItem_tuple_cut ht hs pl pu (by rw [hlen]; exact hw) ?_ (by rw [hlen]; exact hz)
  rw [hlen]
  refine ⟨.ref s.heap.objs.size, _, I.laid (t' := s.toks) (o := .tup (cutV xs lo hi)) (fun b ob q => Heap.get?_push_of_some _ q) (Nat.le_refl _) ?_, rfl, q _ (I.hok.fresh (Nat.le_refl _))⟩
  exact ⟨Nat.le_trans (cutV_length xs lo hi) hz, _, (r.drop (HT.sIx xs.length 0 lo)).take (HT.sIx xs.length xs.length hi - HT.sIx xs.length 0 lo), IsTup.new _ _⟩
def rLtT (K : PySem.W.Frag) : R2 := fun x y H Q => ∃ a b ns ms, x = .ref a ∧ y = .ref b ∧ SqT K H a (ns.map V.int) ∧ SqT K H b (ms.map V.int) ∧ Q (.bl (HT.lexLt ns ms)) H
def rCatT (K : PySem.W.Frag) : R2 := fun x y H Q => ∃ a b xs ys, x = .ref a ∧ y = .ref b ∧ SqT K H a xs ∧ SqT K H b ys ∧ xs ≠ [] ∧ xs.length + ys.length ≤ sizeLine ∧
  (ys = [] → Q (.ref a) H) ∧ (ys ≠ [] → ∀ p, H p = none → Q (.ref p) (upd H p (.tup (xs ++ ys))))
theorem Vals.nil_iff {xs : List V} {us : List Value} (r : Vals xs us) : us = [] ↔ xs = [] := by
  cases r with
  | nil => simp
  | cons _ _ => simp
theorem op_catT : OpR X (binaryOp .Add) (rCatT X.K) := by
  intro pins s σ H x y v u Q I rx ry h
  obtain ⟨a, b, xs, ys, rfl, rfl, ha, hb, hx, hz, q1, q2⟩ := h
  cases rx
  cases ry
  obtain ⟨its, r1, p1, _⟩ := I.tuple ha
  obtain ⟨its2, r2, p2, _⟩ := I.tuple hb
  refine HT.cat_tup p1 p2 (fun z => hx (r1.nil_iff.mp z)) (fun z => ⟨.ref a, H, I, rfl, q1 (r2.nil_iff.mp z)⟩) (fun z => ?_) (by rw [← r1.length, ← r2.length]; exact hz)
  refine ⟨.ref s.heap.objs.size, _, I.laid (t' := s.toks) (o := .tup (xs ++ ys)) (fun b ob q => Heap.get?_push_of_some _ q) (Nat.le_refl _) ?_, rfl, q2 (fun w => z (r2.nil_iff.mpr w)) _ (I.hok.fresh (Nat.le_refl _))⟩
  exact ⟨by rw [List.length_append]; exact hz, _, r1.append r2, IsTup.new _ _⟩
end
end L2
namespace L2
open PySem PySem.Spec PyProof.Rows
def ixN (n : Nat) (i : Int) : Option Nat := if 0 ≤ i then (if i < n then some i.toNat else none) else if -(n : Int) ≤ i then some (i + n).toNat else none
def atI {α : Type} (xs : List α) (i : Int) : Option α := (ixN xs.length i).bind fun j => xs[j]?
theorem ixN_seq {n : Nat} {i : Int} {j : Nat} (h : ixN n i = some j) : seqIndex? i n = some j ∧ j < n ∧ -(n : Int) ≤ i ∧ i < n := by
  unfold ixN at h
  by_cases h0 : 0 ≤ i
  · rw [if_pos h0] at h
    by_cases h1 : i < n
    · rw [if_pos h1] at h
      have e : i.toNat = j := Option.some.inj h
      exact ⟨by rw [seqIndex_of h0 h1, e], by omega, by omega, h1⟩
    · rw [if_neg h1] at h; cases h
  · rw [if_neg h0] at h
    by_cases h1 : -(n : Int) ≤ i
    · rw [if_pos h1] at h
      have e : (i + n).toNat = j := Option.some.inj h
      exact ⟨by rw [seqIndex_neg (by omega) h1, e], by omega, h1, by omega⟩
    · rw [if_neg h1] at h; cases h
theorem atI_get {α : Type} {xs : List α} {i : Int} {v : α} (h : atI xs i = some v) : ∃ j, seqIndex? i xs.length = some j ∧ xs[j]? = some v ∧ j < xs.length ∧ -(xs.length : Int) ≤ i ∧ i < xs.length := by
  unfold atI at h
  cases e : ixN xs.length i with
  | none => rw [e] at h; cases h
  | some j =>
    rw [e] at h
    obtain ⟨h1, h2, h3, h4⟩ := ixN_seq e
    exact ⟨j, h1, h, h2, h3, h4⟩
theorem atI_nat {α : Type} {xs : List α} {j : Nat} {v : α} (h : xs[j]? = some v) : atI xs (j : Int) = some v := by
  have hj : j < xs.length := (List.getElem?_eq_some_iff.mp h).1
  have e : ixN xs.length (j : Int) = some j := by
    unfold ixN
    rw [if_pos (by omega), if_pos (by omega)]; simp
  unfold atI; rw [e]; exact h
theorem atI_last {α : Type} (xs : List α) (v : α) : atI (xs ++ [v]) (-1) = some v := by
  have hl : (xs ++ [v]).length = xs.length + 1 := by simp
  have e : ixN (xs ++ [v]).length (-1) = some xs.length := by
    unfold ixN
    rw [hl, if_neg (by decide), if_pos (by omega)]
    congr 1
    omega
  unfold atI
  rw [e]
  show (xs ++ [v])[xs.length]? = some v
  simp
def PlainIx (b : Expr) : Prop := ∀ o i, subscripted b false o i = operate [o, i] (getItem o i)
def IxR (X : Cx) (r : R2) : Prop :=
  ∀ (value slice : Expr) (pins : List (Addr × Obj)) (s : Shared) (σ : St) (H : Hp) (x y : V) (v u : Value) (Q : VK), Inv X pins σ H s → RelV x v → RelV y u → r x y H Q →
    subscripted slice false v u = operate [v, u] (getItem v u) → wpAny (model X.prog X.w) X.A (subscriptTail value slice v u) (EP X pins σ Q) X.xe s
def MtR (X : Cx) (id : String) (r : V → List V → Hp → VK → Prop) : Prop :=
  ∀ (pins : List (Addr × Obj)) (s : Shared) (σ : St) (H : Hp) (x : V) (xs : List V) (v : Value) (us : List Value) (Q : VK), Inv X pins σ H s → RelV x v → Vals xs us → r x xs H Q →
    wpAny (model X.prog X.w) X.A (call (.builtin id) (v :: us)) (EP X pins σ Q) X.xe s
section
variable {X : Cx} {a b : Expr} {ta tb : TE} {pos : Pos}
theorem pe_ix {r : R2} (hr : IxR X r) (ha : PE X a ta) (hb : PE X b tb) (hs : PlainIx b) : PE X (.Subscript a b pos) (tOp r ta tb) := by
  intro pins s σ H Q I h
  exact Subscript_ (binT ha hb I h fun v u s2 x y H2 I2 rx ry q => hr a b pins s2 σ H2 x y v u Q I2 rx ry q (hs _ _))
def rIxL (K : PySem.W.Frag) : R2 := fun x y H Q => ∃ p xs i v, x = .ref p ∧ y = .int i ∧ SqL K H p xs ∧ atI xs i = some v ∧ Q v H
def rIxT (K : PySem.W.Frag) : R2 := fun x y H Q => ∃ p xs i v, x = .ref p ∧ y = .int i ∧ SqT K H p xs ∧ atI xs i = some v ∧ Q v H
def rIxS : R2 := fun x y H Q => ∃ z i c, x = .str z ∧ y = .int i ∧ z.length ≤ sizeLine ∧ atI z.cps.toList i = some c ∧ Q (.str ⟨#[c]⟩) H
theorem ix_list : IxR X (rIxL X.K) := by
  intro value slice pins s σ H x y v u Q I rx ry h hs
  obtain ⟨p, xs, i, z, rfl, rfl, hq, he, q⟩ := h
  cases rx
  obtain ⟨t, rfl⟩ := ry
  obtain ⟨its, r, pl, hz⟩ := I.list hq
  obtain ⟨j, h1, h2, h3, h4, h5⟩ := atI_get he
  obtain ⟨w, ew, rw'⟩ := r.get h2
  have hl := r.length
  have hn := line63
  have fin : EP X pins σ Q w s := ⟨z, H, I, rw', q⟩
  by_cases h0 : 0 ≤ i
  · have hj : i.toNat = j := by
      rw [seqIndex_of h0 h5] at h1
      exact Option.some.inj h1
    exact item_listR pl.isList h0 (by omega) (by rw [hj]; simpa using ew) fin hs
  · have hj : (i + (its.toArray.size : Int)).toNat = j := by
      rw [seqIndex_neg (by omega) h4] at h1
      rw [List.size_toArray, ← hl]
      exact Option.some.inj h1
    exact subscriptTail_builtinR (x := w) pl.isList.typeIs slot_list_getitem.lookup
      (wpAny_getItem_list_neg (Q := fun r s' => r = w ∧ EP X pins σ Q r s') pl.isList (by omega) (by rw [List.size_toArray] <;> omega) (by omega) (by rw [hj]; simpa using ew) ⟨rfl, fin⟩) hs
theorem ix_tup : IxR X (rIxT X.K) := by
  intro value slice pins s σ H x y v u Q I rx ry h hs
  obtain ⟨p, xs, i, z, rfl, rfl, hq, he, q⟩ := h
  cases rx
  obtain ⟨t, rfl⟩ := ry
  obtain ⟨its, r, pl, hz⟩ := I.tuple hq
  obtain ⟨j, h1, h2, h3, h4, h5⟩ := atI_get he
  obtain ⟨w, ew, rw'⟩ := r.get h2
  have hl := r.length
  have hn := line63
  have fin : EP X pins σ Q w s := ⟨z, H, I, rw', q⟩
  exact subscriptTail_builtinR (x := w) pl.typeIs slot_tuple_getitem.lookup
    (getItem_tuple (j := j) (Q := fun r s' => r = w ∧ EP X pins σ Q r s') pl (by omega) (by omega) (by rw [List.size_toArray, ← hl]; exact h1) (by simpa using ew) ⟨rfl, fin⟩) hs
theorem ix_str : IxR X rIxS := by
  intro value slice pins s σ H x y v u Q I rx ry h hs
  obtain ⟨z, i, c, rfl, rfl, hz, he, q⟩ := h
  obtain ⟨t, rfl⟩ := rx
  obtain ⟨t', rfl⟩ := ry
  obtain ⟨j, h1, h2, h3, h4, h5⟩ := atI_get he
  have hl : z.cps.toList.length = z.length := by simp [Str.length]
  rw [hl] at h1 h4 h5
  have hn := line63
  exact tail_any (typeIs_str s z t) slot_str_getitem.lookup (getItem_str (c := c) (by
    have e1 : decide (i < -(2 ^ 63 : Int)) = false := decide_eq_false (by omega)
    have e2 : decide (i ≥ 2 ^ 63) = false := decide_eq_false (by omega)
    rw [e1, e2, Bool.or_false]) (by rw [h1]; simpa using h2) ⟨.str ⟨#[c]⟩, H, I.tok _, ⟨_, rfl⟩, q⟩) hs
def rIx (K : PySem.W.Frag) : R2 := fun x y H Q => rIxL K x y H Q ∨ rIxT K x y H Q ∨ rIxS x y H Q
theorem mapSeq_set (its : List Value) (n j : Nat) (u : Value) : Obj.mapSeq (·.setIfInBounds j u) { cls := .type "list", data := .seq its.toArray n } = { cls := .type "list", data := .seq (its.set j u).toArray n } := by
  simp [Obj.mapSeq]
theorem Inv.lst {pins : List (Addr × Obj)} {σ : St} {H : Hp} {s : Shared} {p : Addr} {xs : List V} (I : Inv X pins σ H s) (h : H p = some (.lst xs)) :
    ∃ (its : List Value) (n : Nat), Vals xs its ∧ s.heap.get? p = some { cls := .type "list", data := .seq its.toArray n } ∧ xs.length ≤ sizeLine := by
  obtain ⟨z, its, n, r, e⟩ := I.hok p _ h
  exact ⟨its, n, r, e, z⟩
theorem Inv.lstUpd {pins : List (Addr × Obj)} {σ : St} {H : Hp} {s : Shared} {p : Addr} {xs ys : List V} {its its' : List Value} {n n' : Nat} {f : Obj → Obj} (I : Inv X pins σ H s) (h : H p = some (.lst xs))
    (ho : s.heap.get? p = some { cls := .type "list", data := .seq its.toArray n }) (hf : f { cls := .type "list", data := .seq its.toArray n } = { cls := .type "list", data := .seq its'.toArray n' }) (r : Vals ys its') (hz : ys.length ≤ sizeLine) (t : Nat) :
    Inv X pins σ (upd H p (.lst ys)) { s with heap := s.heap.update p f, toks := t } := by
  have e : (s.heap.update p f).get? p = some { cls := .type "list", data := .seq its'.toArray n' } := by
    rw [Heap.get?_update_self f ho (by rw [hf] <;> rfl), hf]
  refine I.write (x := p) (e := p) (by rw [h]; trivial) (.inl rfl) (fun b u hb q => (Heap.get?_update_other _ _ (Ne.symm hb)).trans q) ⟨_, e⟩ ?_
  exact ⟨hz, its', n', r, e⟩
def rSetL : V → V → V → Hp → (Hp → Prop) → Prop := fun o i v H Q => ∃ p xs k j, o = .ref p ∧ i = .int k ∧ H p = some (.lst xs) ∧ ixN xs.length k = some j ∧ Q (upd H p (.lst (xs.set j v)))
theorem set_list : PSet X rSetL := by
  intro pins s σ H o i v ov iv u Q I ro ri rv h
  obtain ⟨p, xs, k, j, rfl, rfl, hp, hj, q⟩ := h
  cases ro
  obtain ⟨t, rfl⟩ := ri
  obtain ⟨its, n, r, ho, hz⟩ := I.lst hp
  obtain ⟨h1, h2, h3, h4⟩ := ixN_seq hj
  have hl := r.length
  have hn := line63
  have I' : Inv X pins σ (upd H p (.lst (xs.set j v))) { s with heap := s.heap.update p (Obj.mapSeq (·.setIfInBounds j u)) } :=
    I.lstUpd hp ho (mapSeq_set its n j u) (r.set rv j) (by rw [List.length_set]; exact hz) s.toks
  by_cases h0 : 0 ≤ k
  · have hk : k.toNat = j := by
      rw [seqIndex_of h0 h4] at h1
      exact Option.some.inj h1
    exact PySem.W.ki_setAt ho h0 (by omega) (by rw [List.size_toArray, ← hl]; exact h4) (by rw [hk]; exact ⟨_, I', q⟩)
  · have hk : (k + (its.toArray.size : Int)).toNat = j := by
      rw [seqIndex_neg (by omega) h3] at h1
      rw [List.size_toArray, ← hl]
      exact Option.some.inj h1
    exact PySem.W.ki_setBack ho (by omega) (by rw [List.size_toArray, ← hl]; exact h3) (by omega) (by rw [hk]; exact ⟨_, I', q⟩)
theorem slice_bounds (lo hi : Option Int) (n : Nat) : (sliceBounds lo hi none n).1 = ((HT.sIx n 0 lo : Nat) : Int) ∧ (sliceBounds lo hi none n).2.1 = ((HT.sIx n n hi : Nat) : Int) ∧ (sliceBounds lo hi none n).2.2 = 1 := by
  refine ⟨?_, ?_, rfl⟩
  · cases lo with
    | none => simp [sliceBounds, HT.sIx]
    | some i =>
      simp only [sliceBounds, HT.sIx, Option.getD_none, show (1 : Int) > 0 by decide, if_true]
      by_cases h : i < 0
      · simp only [h, if_true] <;> omega
      · simp only [h, if_false] <;> omega
  · cases hi with
    | none => simp [sliceBounds, HT.sIx]
    | some i =>
      simp only [sliceBounds, HT.sIx, Option.getD_none, show (1 : Int) > 0 by decide, if_true]
      by_cases h : i < 0
      · simp only [h, if_true] <;> omega
      · simp only [h, if_false] <;> omega
theorem slicePick_cut (its : List Value) (lo hi : Option Int) : slicePick its.toArray lo hi none = ((its.drop (HT.sIx its.length 0 lo)).take (HT.sIx its.length its.length hi - HT.sIx its.length 0 lo)).toArray := by
  obtain ⟨h1, h2, h3⟩ := slice_bounds lo hi its.toArray.size
  unfold slicePick
  rw [h1, h2, h3]
  simp only [sliceRange_one, pick_run, List.size_toArray] <;> rfl
def rSlL (K : PySem.W.Frag) : V → Option Int → Option Int → Hp → VK → Prop := fun x lo hi H Q => ∃ a xs, x = .ref a ∧ SqL K H a xs ∧ ∀ p, H p = none → Q (.ref p) (upd H p (.lst (cutV xs lo hi)))
theorem sl_list : SlR X (rSlL X.K) := by
  intro pins s σ H x v vl vu lo hi sl Q I rx hs pl pu h
  obtain ⟨a, xs, rfl, hx, q⟩ := h
  cases rx
  obtain ⟨its, r, ht, hz⟩ := I.list hx
  have hlen := r.length
  refine ⟨"list", _, slot_list_getitem.lookup, ht.isList.typeIs, ?_⟩
  refine wpAny_getItem_list_slice ht.isList hs pl pu .none (by simp) ?_ (by rw [List.size_toArray] <;> omega)
  rw [slicePick_cut, ← hlen]
  refine ⟨.ref s.heap.objs.size, _, I.laid (t' := s.toks) (o := .lst (cutV xs lo hi)) (fun b ob q => Heap.get?_push_of_some _ q) (Nat.le_refl _) ?_, rfl, q _ (I.hok.fresh (Nat.le_refl _))⟩
  exact ⟨Nat.le_trans (cutV_length xs lo hi) hz, _, 0, (r.drop (HT.sIx xs.length 0 lo)).take (HT.sIx xs.length xs.length hi - HT.sIx xs.length 0 lo), Heap.get?_push_size _ rfl⟩
def flatV : V → Bool
  | .non => true
  | .bl _ => true
  | .int _ => true
  | .str _ => true
  | _ => false
def eqV : V → V → Bool
  | .non, .non => true
  | .bl a, .bl b => a == b
  | .bl a, .int b => (if a then 1 else 0) == b
  | .int a, .bl b => a == (if b then 1 else 0)
  | .int a, .int b => a == b
  | .str a, .str b => a == b
  | _, _ => false
theorem eqAt_V {A : Around} {s : Shared} {y x : V} {u v : Value} (ry : RelV y u) (rx : RelV x v) (fy : flatV y = true) (fx : flatV x = true) : SeqAt.EqAt A s u v (eqV y x) := by
  cases y with
  | non =>
    cases ry
    cases x with
    | non => cases rx; exact SeqAt.EqAt.same _
    | bl b => cases rx; exact SeqAt.EqAt.none_bool b
    | int b => obtain ⟨t, rfl⟩ := rx; exact SeqAt.EqAt.none_int b t
    | str b => obtain ⟨t, rfl⟩ := rx; exact SeqAt.EqAt.none_str b t
    | _ => exact absurd (show false = true from fx) Bool.false_ne_true
  | bl a =>
    cases ry
    cases x with
    | non => cases rx; exact SeqAt.EqAt.bool_none a
    | bl b => cases rx; exact SeqAt.EqAt.bool_bool a b
    | int b => obtain ⟨t, rfl⟩ := rx; exact SeqAt.EqAt.bool_int a b t
    | str b => obtain ⟨t, rfl⟩ := rx; exact SeqAt.EqAt.bool_str a b t
    | _ => exact absurd (show false = true from fx) Bool.false_ne_true
  | int a =>
    obtain ⟨t', rfl⟩ := ry
    cases x with
    | non => cases rx; exact SeqAt.EqAt.int_none a t'
    | bl b => cases rx; exact SeqAt.EqAt.int_bool a t' b
    | int b => obtain ⟨t, rfl⟩ := rx; exact SeqAt.EqAt.int_int a t' b t
    | str b => obtain ⟨t, rfl⟩ := rx; exact SeqAt.EqAt.int_str a t' b t
    | _ => exact absurd (show false = true from fx) Bool.false_ne_true
  | str a =>
    obtain ⟨t', rfl⟩ := ry
    cases x with
    | non => cases rx; exact SeqAt.EqAt.str_none a t'
    | bl b => cases rx; exact SeqAt.EqAt.str_bool a t' b
    | int b => obtain ⟨t, rfl⟩ := rx; exact SeqAt.EqAt.str_int a t' b t
    | str b => obtain ⟨t, rfl⟩ := rx; exact SeqAt.EqAt.str_str a t' b t
    | _ => exact absurd (show false = true from fx) Bool.false_ne_true
  | _ => exact absurd (show false = true from fy) Bool.false_ne_true
def eqU (x : V) (u : Value) : Bool := match u with
  | .none => eqV .non x
  | .bool b => eqV (.bl b) x
  | .int i _ => eqV (.int i) x
  | .str z _ => eqV (.str z) x
  | _ => false
theorem eqU_of {x y : V} {u : Value} (r : RelV y u) (f : flatV y = true) : eqU x u = eqV y x := by
  cases y with
  | non => cases r; rfl
  | bl b => cases r; rfl
  | int i => obtain ⟨t, rfl⟩ := r; rfl
  | str z => obtain ⟨t, rfl⟩ := r; rfl
  | _ => exact absurd (show false = true from f) Bool.false_ne_true
theorem any_eqU {x : V} : ∀ {xs : List V} {us : List Value}, Vals xs us → xs.all flatV = true → us.any (eqU x) = xs.any fun y => eqV y x
  | _, _, .nil, _ => rfl
  | y :: xs, u :: us, .cons r t, f => by
    rw [List.all_cons, Bool.and_eq_true] at f
    rw [List.any_cons, List.any_cons, eqU_of r f.1, any_eqU t f.2]
theorem mem_eqAt {A : Around} {s : Shared} {x : V} {v : Value} (rx : RelV x v) (fx : flatV x = true) : ∀ {xs : List V} {us : List Value}, Vals xs us → xs.all flatV = true → ∀ u ∈ us, SeqAt.EqAt A s u v (eqU x u)
  | _, _, .nil, _ => fun u hu => by cases hu
  | y :: xs, u :: us, .cons r t, f => fun u' hu => by
    rw [List.all_cons, Bool.and_eq_true] at f
    rcases List.mem_cons.mp hu with rfl | hu
    · rw [eqU_of r f.1]; exact eqAt_V r rx f.1 fx
    · exact mem_eqAt rx fx t f.2 u' hu
def inV (x : V) (xs : List V) : Bool := xs.any fun y => eqV y x
def rIn (K : PySem.W.Frag) (neg : Bool) : R2 := fun x y H Q => ∃ p xs, y = .ref p ∧ (SqL K H p xs ∨ SqT K H p xs) ∧ flatV x = true ∧ xs.all flatV = true ∧ Q (.bl (if neg then !inV x xs else inV x xs)) H
theorem op_in_seq : OpR X (compareOp .In) (rIn X.K false) := by
  intro pins s σ H x y v u Q I rx ry h
  obtain ⟨p, xs, rfl, hq, fx, fs, q⟩ := h
  cases ry
  rcases hq with hq | hq
  · obtain ⟨its, r, pl, hz⟩ := I.list hq
    refine SeqAt.in_listAt (eqU x) pl.isList (fun w hw => mem_eqAt rx fx r fs w (by simpa using hw)) ⟨.bl _, H, I, rfl, ?_⟩
    rw [show its.toArray.any (eqU x) = its.any (eqU x) by simp, any_eqU r fs]
    exact q
  · obtain ⟨its, r, pl, hz⟩ := I.tuple hq
    refine SeqAt.in_tupleAt (eqU x) pl (fun w hw => mem_eqAt rx fx r fs w (by simpa using hw)) ⟨.bl _, H, I, rfl, ?_⟩
    rw [show its.toArray.any (eqU x) = its.any (eqU x) by simp, any_eqU r fs]
    exact q
theorem call_len_seq : CallR X (.builtin "len") (fun xs H Q => ∃ p ys, xs = [.ref p] ∧ (SqL X.K H p ys ∨ SqT X.K H p ys) ∧ Q (.int ys.length) H) := by
  intro pins s σ H xs us Q I r h
  obtain ⟨p, ys, rfl, hq, q⟩ := h
  obtain ⟨u, rfl, rx⟩ := vals1 r
  cases rx
  have hn := line63
  rcases hq with hq | hq
  · obtain ⟨its, r', pl, hz⟩ := I.list hq
    have hlen := r'.length
    exact Calls.call_len_list pl.isList (by simp only [List.size_toArray] <;> omega) ⟨.int ys.length, H, I.tok _, ⟨s.toks + 1, by rw [List.size_toArray, hlen]⟩, q⟩
  · obtain ⟨its, r', pl, hz⟩ := I.tuple hq
    have hlen := r'.length
    exact len_tuple pl (by simp only [List.size_toArray] <;> omega) ⟨.int ys.length, H, I.tok _, ⟨s.toks + 1, by rw [List.size_toArray, hlen]⟩, q⟩
theorem call_list_of : CallR X (.type "list") (fun xs H Q => ∃ p ys, xs = [.ref p] ∧ (SqL X.K H p ys ∨ SqT X.K H p ys) ∧ ∀ l, H l = none → Q (.ref l) (upd H l (.lst ys))) := by
  intro pins s σ H xs us Q I r h
  obtain ⟨p, ys, rfl, hq, q⟩ := h
  obtain ⟨u, rfl, rx⟩ := vals1 r
  cases rx
  have fin : ∀ (its : List Value), Vals ys its → ys.length ≤ sizeLine → ∀ (h' : Heap) (c' : Nat), (∀ b o', s.heap.get? b = some o' → h'.get? b = some o') →
      h'.get? s.heap.objs.size = some { cls := .type "list", dict := none, data := .seq its.toArray c', slots := #[] } → EP X pins σ Q (.ref s.heap.objs.size) { s with heap := h' } := fun its r' hz h' c' kp e =>
    ⟨.ref s.heap.objs.size, _, I.laid (t' := s.toks) kp (Nat.le_refl _) (show ObjOk X.prog X.w _ h' _ (.lst ys) from ⟨hz, its, c', r', e⟩), rfl, q _ (I.hok.fresh (Nat.le_refl _))⟩
  rcases hq with hq | hq
  · obtain ⟨its, r', pl, hz⟩ := I.list hq
    have hlen := r'.length
    obtain ⟨o, ho, hc, n, hd⟩ := pl.isList
    exact call_list_seq p (.inl rfl) ho hc hd (fun h' c' kp e => fin its r' hz h' c' kp e) (by simp only [List.size_toArray] <;> omega)
  · obtain ⟨its, r', pl, hz⟩ := I.tuple hq
    have hlen := r'.length
    obtain ⟨o, ho, hc, n, hd⟩ := pl
    exact call_list_seq p (.inr rfl) ho hc hd (fun h' c' kp e => fin its r' hz h' c' kp e) (by simp only [List.size_toArray] <;> omega)
theorem call_tuple_of : CallR X (.type "tuple") (fun xs H Q => ∃ p ys, xs = [.ref p] ∧ ((SqL X.K H p ys ∧ ∀ l, H l = none → Q (.ref l) (upd H l (.tup ys))) ∨ (SqT X.K H p ys ∧ Q (.ref p) H))) := by
  intro pins s σ H xs us Q I r h
  obtain ⟨p, ys, rfl, h⟩ := h
  obtain ⟨u, rfl, rx⟩ := vals1 r
  cases rx
  rcases h with ⟨hq, q⟩ | ⟨hq, q⟩
  · obtain ⟨its, r', pl, hz⟩ := I.list hq
    have hlen := r'.length
    refine call_tuple_list pl.isList (fun h' kp => ?_) (by simp only [List.size_toArray] <;> omega)
    have I1 : Inv X pins σ H { s with heap := h' } := I.kept (t' := s.toks) kp
    have I2 : Inv X pins σ (upd H h'.objs.size (.tup ys)) { s with heap := h'.push { cls := .type "tuple", data := .seq its.toArray } } :=
      I1.laid (t' := s.toks) (fun b o e => Heap.get?_push_of_some _ e) (Nat.le_refl _) (show ObjOk X.prog X.w _ _ _ (.tup ys) from ⟨hz, its, r', IsTup.new _ _⟩)
    exact ⟨.ref h'.objs.size, _, I2, rfl, q _ (I1.hok.fresh (Nat.le_refl _))⟩
  · obtain ⟨its, r', pl, hz⟩ := I.tuple hq
    exact call_tuple_same pl ⟨.ref p, H, I, rfl, q⟩
def tyV (K : PySem.W.Frag) (T : String) (x : V) (H : Hp) : Prop := match x with
  | .str _ => T = "str"
  | .int _ => T = "int"
  | .ref p => (T = "list" ∧ ∃ xs, SqL K H p xs) ∨ (T = "tuple" ∧ ∃ o, K.lookup p = some o ∧ o.cls = .type "tuple" ∧ o.dict = none) ∨
      (T = "dict" ∧ ((∃ kvs, H p = some (.dK kvs)) ∨ ∃ kvs, H p = some (.dT kvs))) ∨ (T = "set" ∧ ∃ S n, H p = some (.set S n))
  | _ => False
theorem tyV_is {pins : List (Addr × Obj)} {σ : St} {H : Hp} {s : Shared} {T : String} {x : V} {v : Value} (I : Inv X pins σ H s) (r : RelV x v) (ty : tyV X.K T x H) :
    s.TypeIs v T ∧ ∀ a, v = .ref a → ∃ ob, s.heap.get? a = some ob ∧ ob.dict = none := by
  cases x with
  | str z =>
    obtain ⟨t, rfl⟩ := r
    cases (show T = "str" from ty)
    exact ⟨typeIs_str s z t, fun _ e => nomatch e⟩
  | int i =>
    obtain ⟨t, rfl⟩ := r
    cases (show T = "int" from ty)
    exact ⟨typeIs_int s i t, fun _ e => nomatch e⟩
  | ref p =>
    cases r
    rcases ty with ⟨rfl, xs, hq⟩ | ⟨rfl, o, hk, hc, hd⟩ | ⟨rfl, hk⟩ | ⟨rfl, S, n, hk⟩
    · obtain ⟨its, _, pl, _⟩ := I.list hq
      refine ⟨pl.isList.typeIs, fun a e => ?_⟩
      cases e
      obtain ⟨o, n, e, c, hd, _⟩ := pl
      exact ⟨o, e, hd⟩
    · refine ⟨⟨o, I.kIn p o hk, hc⟩, fun a e => ?_⟩
      cases e
      exact ⟨o, I.kIn _ o hk, hd⟩
    · have z : ∃ o, s.heap.get? p = some o ∧ o.ExactDict := by
        rcases hk with ⟨kvs, hk⟩ | ⟨kvs, hk⟩
        · obtain ⟨_, _, _, _, o, _, _, e, ex, _⟩ := I.hok p _ hk
          exact ⟨o, e, ex⟩
        · obtain ⟨_, _, _, _, o, _, _, e, ex, _⟩ := I.hok p _ hk
          exact ⟨o, e, ex⟩
      obtain ⟨o, e, ex⟩ := z
      refine ⟨⟨o, e, ex.1⟩, fun a e2 => ?_⟩
      cases e2
      exact ⟨o, e, ex.2.1⟩
    · obtain ⟨o, _, _, _, e, ex, _⟩ := I.hok p _ hk
      refine ⟨⟨o, e, ex.1⟩, fun a e2 => ?_⟩
      cases e2
      exact ⟨o, e, ex.2.1⟩
  | _ => exact False.elim ty
def tBM0 (K : PySem.W.Frag) (T : String) (r : V → List V → Hp → VK → Prop) (to : TE) : TE := fun σ H Q => to σ H fun x H1 => tyV K T x H1 ∧ r x [] H1 Q
def tBM (K : PySem.W.Frag) (T : String) (r : V → List V → Hp → VK → Prop) (to : TE) (t : TA) : TE := fun σ H Q => to σ H fun x H1 => tyV K T x H1 ∧ t σ H1 fun xs H2 => r x xs H2 Q
variable {o e : Expr} {es : List Expr} {to : TE} {t : TA} {name : Str} {apos cpos : Pos} {T id : String} {r : V → List V → Hp → VK → Prop}
theorem pe_bm0 (pa : PlainAttrs T) (slot : Slot T name id) (hty : typeOf (.builtin id) = pure (.type "method_descriptor")) (hm : MtR X id r) (ho : PE X o to)
    (hbase : attributeBase o name X.env (eval o X.env) = eval o X.env := by rfl) (hline : (apos.endLine == cpos.line) = true := by rfl) : PE X (.Call (.Attribute o name apos) [] [] cpos) (tBM0 X.K T r to) := by
  intro pins s σ H Q I h
  refine wpAny_Call_method0_late hbase hline (thn (ho pins s σ H _ I h) fun v s1 ⟨x, H1, I1, r1, ty, q1⟩ => ?_)
  obtain ⟨h1, h2⟩ := tyV_is I1 r1 ty
  exact ⟨T, id, pa, slot, hty, h1, h2, Calls.callWith_builtin rfl (PySem.evalArgs_none (hm pins s1 σ H1 x [] v [] Q I1 r1 .nil q1))⟩
theorem pe_bm (pa : PlainAttrs T) (slot : Slot T name id) (hty : typeOf (.builtin id) = pure (.type "method_descriptor")) (hm : MtR X id r) (ho : PE X o to) (ha : PA X (e :: es) t)
    (hbase : attributeBase o name X.env (eval o X.env) = eval o X.env := by rfl)
    (hfew : ((backTo cpos (starEach (e :: es) X.env)).all (fun x => !x.1) && (backToKw cpos (keywordEach [] X.env)).all (fun x => x.1.isSome)
      && decide ((e :: es).length + ([] : List Keyword).length + (if ([] : List Keyword).isEmpty then 0 else 1) < 30)) = true := by rfl)
    (hline : (apos.endLine == cpos.line) = true := by rfl) (hs : starEach (e :: es) X.env = (false, eval e X.env) :: starEach es X.env := by rfl) (hplain : (backTo cpos (starEach es X.env)).any (·.1) = false := by rfl) :
    PE X (.Call (.Attribute o name apos) (e :: es) [] cpos) (tBM X.K T r to t) := by
  intro pins s σ H Q I h
  refine wpAny_Call_method_late hbase hfew hline rfl (thn (ho pins s σ H _ I h) fun v s1 ⟨x, H1, I1, r1, ty, q1⟩ => ?_)
  obtain ⟨h1, h2⟩ := tyV_is I1 r1 ty
  refine ⟨T, id, pa, slot, hty, h1, h2, ?_⟩
  have hA := ha cpos pins s1 σ H1 _ I1 q1
  rw [hs] at hA ⊢
  refine Calls.callWith_builtin (by show (false || (backTo cpos (starEach es X.env)).any (·.1)) = false; rw [hplain] <;> rfl) (Calls.evalArgs_plain ?_)
  exact thn hA fun us s2 ⟨vs, H2, I2, r2, q2⟩ => hm pins s2 σ H2 x vs v us Q I2 r1 r2 q2
end
end L2
namespace L2
open PySem PySem.Spec PyProof.Rows
def MtM (X : Cx) (id : String) (r : V → List V → Hp → VK → Prop) : Prop :=
  ∀ (pins : List (Addr × Obj)) (s : Shared) (σ : St) (H : Hp) (x : V) (xs : List V) (v : Value) (us : List Value) (Q : VK), Inv X pins σ H s → RelV x v → Vals xs us → r x xs H Q →
    wpAny (model X.prog X.w) X.A (call (.builtin id) (v :: us)) (EP X pins σ Q) X.xe s
theorem Vals.one : ∀ {x : V} {us : List Value}, Vals [x] us → ∃ u, us = [u] ∧ RelV x u
  | _, _, .cons r .nil => ⟨_, rfl, r⟩
theorem Vals.zero : ∀ {us : List Value}, Vals [] us → us = []
  | _, .nil => rfl
theorem Vals.dropLast {xs : List V} {us : List Value} (h : Vals xs us) : Vals xs.dropLast us.dropLast := by
  induction h with
  | nil => exact .nil
  | cons r t ih =>
    cases t with
    | nil => exact .nil
    | cons q t' => exact .cons r ih
theorem erase_last {α : Type} (l : List α) : l.eraseIdx (l.length - 1) = l.dropLast := by
  induction l with
  | nil => rfl
  | cons a r ih =>
    cases r with
    | nil => rfl
    | cons b r =>
      have e : (a :: b :: r).length - 1 = ((b :: r).length - 1) + 1 := by
        have h1 : (a :: b :: r).length = r.length + 2 := rfl
        have h2 : (b :: r).length = r.length + 1 := rfl
        omega
      rw [e, List.eraseIdx_cons_succ, ih]
      all_goals rfl
section
variable {X : Cx} {pins : List (Addr × Obj)} {σ : St} {H : Hp} {s : Shared} {l b : Addr} {xs ys zs : List V}
theorem Inv.lset {its its' : List Value} {n : Nat} {f : Array Value → Array Value} {t' : Nat} (I : Inv X pins σ H s) (hH : H l = some (.lst xs))
    (e : s.heap.get? l = some { cls := .type "list", data := .seq its.toArray n }) (hf : f its.toArray = its'.toArray) (hv : Vals ys its') (hz : ys.length ≤ sizeLine) :
    Inv X pins σ (upd H l (.lst ys)) { s with heap := s.heap.update l (Obj.mapSeq f), toks := t' } := by
  have q := PySem.IsL.update e f
  rw [hf] at q
  refine I.write (x := l) (e := l) (by rw [hH]; exact trivial) (.inl rfl) (fun b' u hb hu => (Heap.get?_update_other s.heap (Obj.mapSeq f) (Ne.symm hb)).trans hu) ⟨_, q⟩ ?_
  exact ⟨hz, its', _, hv, q⟩
theorem Inv.fresh (I : Inv X pins σ H s) : H s.heap.objs.size = none := I.hok.fresh (Nat.le_refl _)
theorem Inv.lstM (I : Inv X pins σ H s) (hH : H l = some (.lst xs)) : xs.length ≤ sizeLine ∧ ∃ (its : List Value) (n : Nat), Vals xs its ∧ xs.length = its.length ∧ s.heap.get? l = some { cls := .type "list", data := .seq its.toArray n } := by
  obtain ⟨z, its, n, r, e⟩ := I.hok l _ hH
  exact ⟨z, its, n, r, r.length, e⟩
end
section
variable {X : Cx}
def rAppend : V → List V → Hp → VK → Prop := fun x vs H Q => ∃ l xs y, x = .ref l ∧ vs = [y] ∧ H l = some (.lst xs) ∧ xs.length < sizeLine ∧ Q .non (upd H l (.lst (xs ++ [y])))
theorem mt_append : MtM X "list.append" rAppend := by
  intro pins s σ H x vs v us Q I rx rv h
  obtain ⟨l, xs, y, rfl, rfl, hH, hz, q⟩ := h
  cases rx
  obtain ⟨u, rfl, ru⟩ := rv.one
  obtain ⟨z, its, n, r, hl, e⟩ := I.lstM hH
  refine call_meets F.slot_list_append ⟨_, e, rfl⟩ F.entry_list_append (F.args_list_append_2 _ _) (PySem.list_append l its.toArray n u (by rw [List.size_toArray]; omega)) ⟨e, ?_⟩
  refine ⟨.non, _, I.lset (its' := its ++ [u]) hH e (by simp) (r.append (.cons ru .nil)) ?_, rfl, q⟩
  rw [List.length_append, List.length_singleton]
  omega
def rExtend : V → List V → Hp → VK → Prop := fun x vs H Q => ∃ l b xs zs, x = .ref l ∧ vs = [.ref b] ∧ H l = some (.lst xs) ∧ H b = some (.lst zs) ∧ xs.length + zs.length ≤ sizeLine ∧ Q .non (upd H l (.lst (xs ++ zs)))
def rPop : V → List V → Hp → VK → Prop := fun x vs H Q => ∃ l xs y, x = .ref l ∧ vs = [] ∧ H l = some (.lst xs) ∧ xs[xs.length - 1]? = some y ∧ Q y (upd H l (.lst xs.dropLast))
theorem mt_pop : MtM X "list.pop" rPop := by
  intro pins s σ H x vs v us Q I rx rv h
  obtain ⟨l, xs, y, rfl, rfl, hH, hy, q⟩ := h
  cases rx
  have hus := rv.zero
  subst hus
  obtain ⟨z, its, n, r, hl, e⟩ := I.lstM hH
  obtain ⟨u, hu, ru⟩ := r.get hy
  have hy' : its.toArray[its.toArray.size - 1]? = some u := by
    show its.toArray[its.length - 1]? = some u
    rw [← Array.getElem?_toList, ← hl]
    exact hu
  refine call_meets F.slot_list_pop ⟨_, e, rfl⟩ F.entry_list_pop (F.args_list_pop_1 _) (MeetsSeq.list_pop_last l its.toArray n u hy' (by rw [List.size_toArray]; omega)) ⟨e, ?_⟩
  refine ⟨y, _, I.lset (its' := its.dropLast) hH e ?_ r.dropLast ?_, ru, q⟩
  · show its.toArray.eraseIdxIfInBounds (its.toArray.size - 1) = its.dropLast.toArray
    rw [List.size_toArray, List.eraseIdxIfInBounds_toArray, erase_last]
  · rw [List.length_dropLast]
    omega
def rPopAt : V → List V → Hp → VK → Prop := fun x vs H Q => ∃ l xs i k y, x = .ref l ∧ vs = [.int i] ∧ H l = some (.lst xs) ∧ -(2 ^ 63) ≤ i ∧ i < 2 ^ 63 ∧ seqIndex? i xs.length = some k ∧ xs[k]? = some y ∧ Q y (upd H l (.lst (xs.eraseIdx k)))
def rReverse : V → List V → Hp → VK → Prop := fun x vs H Q => ∃ l xs, x = .ref l ∧ vs = [] ∧ H l = some (.lst xs) ∧ Q .non (upd H l (.lst xs.reverse))
def rClear : V → List V → Hp → VK → Prop := fun x vs H Q => ∃ l xs, x = .ref l ∧ vs = [] ∧ H l = some (.lst xs) ∧ Q .non (upd H l (.lst []))
def rCat : R2 := fun x y H Q => ∃ l b xs zs, x = .ref l ∧ y = .ref b ∧ H l = some (.lst xs) ∧ H b = some (.lst zs) ∧ xs.length + zs.length ≤ sizeLine ∧ ∀ p, H p = none → Q (.ref p) (upd H p (.lst (xs ++ zs)))
def rRep : R2 := fun x y H Q => ∃ l k xs, x = .ref l ∧ y = .int k ∧ H l = some (.lst xs) ∧ -(2 ^ 63) ≤ k ∧ k < 2 ^ 63 ∧ xs.length * k.toNat ≤ sizeLine ∧
  ∀ p, H p = none → Q (.ref p) (upd H p (.lst (List.replicate k.toNat xs).flatten))
end
section
variable {prog : Program} {w : World} {A : Around} {E : Value → Shared → Prop} {s : Shared}
end
section
variable {X : Cx}
end
end L2
namespace L2
open PySem PySem.Spec PyProof.Rows
section
variable {κ : Type} [DecidableEq κ]
def valV (kvs : List (κ × V)) (k : κ) : Option V := (kvs.find? fun kv => decide (kv.1 = k)).map (·.2)
def putK (kvs : List (κ × V)) (k : κ) (v : V) : List (κ × V) :=
  if (kvs.any fun kv => decide (kv.1 = k)) = true then kvs.map (fun kv => if kv.1 = k then (kv.1, v) else kv) else kvs ++ [(k, v)]
def dropK (kvs : List (κ × V)) (k : κ) : List (κ × V) := kvs.filter fun kv => decide (kv.1 ≠ k)
end
abbrev KT (H : Hp) : List (List Key × V) → List (List Key × Addr × Value) → Prop := Paired fun p q => p.1 = q.1 ∧ H q.2.1 = some (.tup (p.1.map kV)) ∧ RelV p.2 q.2.2
section
variable {P : Program} {w : World} {H : Hp} {h : Heap} {a : Addr}
end
def DGet (H : Hp) (a : Addr) (y : V) (r : Option V) : Prop :=
  (∃ kvs k, Rd H a (.dK kvs) ∧ y = kV k ∧ r = valV kvs k) ∨ ∃ kvs k b, Rd H a (.dT kvs) ∧ y = .ref b ∧ H b = some (.tup (k.map kV)) ∧ r = valV kvs k
def DPut (H : Hp) (a : Addr) (y v : V) (H' : Hp) : Prop :=
  (∃ kvs k, H a = some (.dK kvs) ∧ y = kV k ∧ kvs.length < sizeLine ∧ H' = upd H a (.dK (putK kvs k v))) ∨
  ∃ kvs k b, H a = some (.dT kvs) ∧ y = .ref b ∧ H b = some (.tup (k.map kV)) ∧ kvs.length < sizeLine ∧ H' = upd H a (.dT (putK kvs k v))
section
variable {X : Cx} {pins : List (Addr × Obj)} {σ : St} {H : Hp} {s : Shared} {a : Addr} {y v : V} {u r : Value} {o : Option V} {A : Around} {E : Value → Shared → Prop}
end
section
variable {X : Cx} {pins : List (Addr × Obj)} {σ : St} {H : Hp} {s : Shared} {a : Addr} {kvs : List (Key × V)} {k : Key} {u : Value} {A : Around} {E : Value → Shared → Prop}
end
def NoSl (i : Expr) : Prop := ∀ ov iv, subscripted i false ov iv = operate [ov, iv] (getItem ov iv)
def tDGet (td ty : TE) : TE := fun σ H Q => td σ H fun x H1 => ty σ H1 fun y H2 => ∃ a v, x = .ref a ∧ DGet H2 a y (some v) ∧ Q v H2
def tDIn (ty td : TE) : TE := fun σ H Q => ty σ H fun y H1 => td σ H1 fun x H2 => ∃ a o, x = .ref a ∧ DGet H2 a y o ∧ Q (.bl o.isSome) H2
def tDNotIn (ty td : TE) : TE := fun σ H Q => ty σ H fun y H1 => td σ H1 fun x H2 => ∃ a o, x = .ref a ∧ DGet H2 a y o ∧ Q (.bl (!o.isSome)) H2
def sDPut (td ty tv : TE) : TS := fun D σ H => tv σ H fun v H1 => td σ H1 fun x H2 => ty σ H2 fun y H3 => ∃ a H4, x = .ref a ∧ DPut H3 a y v H4 ∧ D.nx σ H4
def sDAug (td ty tv : TE) (rd : V → V → Hp → VK → Prop) : TS := fun D σ H => td σ H fun x H1 => ty σ H1 fun y H2 => ∃ a v, x = .ref a ∧ DGet H2 a y (some v) ∧
  tv σ H2 fun y2 H3 => rd v y2 H3 fun z H4 => ∃ H5, DPut H4 a y z H5 ∧ D.nx σ H5
def sDDel (td ty : TE) : TS := fun D σ H => td σ H fun x H1 => ty σ H1 fun y H2 => ∃ a kvs k, x = .ref a ∧ H2 a = some (.dK kvs) ∧ y = kV k ∧ (valV kvs k).isSome = true ∧ D.nx σ (upd H2 a (.dK (dropK kvs k)))
section
variable {X : Cx} {o i e value : Expr} {pos pos' tpos : Pos} {td ty tv : TE}
end
def tDNewK : TE := fun _ H Q => ∀ p, H p = none → Q (.ref p) (upd H p (.dK []))
def tDNewT : TE := fun _ H Q => ∀ p, H p = none → Q (.ref p) (upd H p (.dT []))
section
variable {X : Cx} {pos : Pos}
end
def tPairs : List (TE × TE) → St → Hp → (List (V × V) → Hp → Prop) → Prop
  | [], _, H, Q => Q [] H
  | (tk, tv) :: r, σ, H, Q => tk σ H fun x H1 => tv σ H1 fun y H2 => tPairs r σ H2 fun ps H3 => Q ((x, y) :: ps) H3
abbrev VV : List (V × V) → List (Value × Value) → Prop := Paired fun p q => RelV p.1 q.1 ∧ RelV p.2 q.2
def PPs (X : Cx) (pos : Pos) (keys : List (Option Expr)) (values : List Expr) (trs : List (TE × TE)) : Prop :=
  ∀ (pins : List (Addr × Obj)) (s : Shared) (σ : St) (H : Hp) (Q : List (V × V) → Hp → Prop), Inv X pins σ H s → tPairs trs σ H Q →
    wpAny (model X.prog X.w) X.A (evalPairs (pairTrees keys values X.env pos)) (fun vs s' => ∃ ps H', Inv X pins σ H' s' ∧ VV ps vs ∧ Q ps H') X.xe s
def mergeK (kvs more : List (Key × V)) : List (Key × V) := more.foldl (fun acc kv => putK acc kv.1 kv.2) kvs
def tDisp (trs : List (TE × TE)) : TE := fun σ H Q => ∀ p, H p = none → tPairs trs σ (upd H p (.dK [])) fun ps H2 => H2 p = some (.dK []) ∧ ∃ kvs : List (Key × V), ps = kvs.map (fun kv => (kV kv.1, kv.2)) ∧ kvs.length ≤ 15 ∧ Q (.ref p) (upd H2 p (.dK (mergeK [] kvs)))
structure M1 (X : Cx) (o : Expr) (m : Str) (apos : Pos) (e : Expr) (cpos : Pos) : Prop where
  base : attributeBase o m X.env (eval o X.env) = eval o X.env
  few : ((backTo cpos (starEach [e] X.env)).all (fun x => !x.1) && (backToKw cpos (keywordEach [] X.env)).all (fun x => x.1.isSome)
    && decide (([e] : List Expr).length + ([] : List Keyword).length + (if ([] : List Keyword).isEmpty then 0 else 1) < 30)) = true
  line : (apos.endLine == cpos.line) = true
  trees : backTo cpos (starEach [e] X.env) = [(false, eval e X.env)]
structure M2 (X : Cx) (o : Expr) (m : Str) (apos : Pos) (e f : Expr) (cpos : Pos) : Prop where
  base : attributeBase o m X.env (eval o X.env) = eval o X.env
  few : ((backTo cpos (starEach [e, f] X.env)).all (fun x => !x.1) && (backToKw cpos (keywordEach [] X.env)).all (fun x => x.1.isSome)
    && decide (([e, f] : List Expr).length + ([] : List Keyword).length + (if ([] : List Keyword).isEmpty then 0 else 1) < 30)) = true
  line : (apos.endLine == cpos.line) = true
  trees : backTo cpos (starEach [e, f] X.env) = [(false, eval e X.env), (false, eval f X.env)]
def IsD (H : Hp) (a : Addr) : Prop := (∃ kvs, Rd H a (.dK kvs)) ∨ ∃ kvs, Rd H a (.dT kvs)
section
variable {X : Cx} {pins : List (Addr × Obj)} {σ : St} {H : Hp} {s : Shared} {a : Addr} {y d : V} {u r : Value} {o : Option V} {A : Around} {E : Value → Shared → Prop}
end
def tDGet1 (td ty : TE) : TE := fun σ H Q => td σ H fun x H1 => ∃ a, x = .ref a ∧ IsD H1 a ∧ ty σ H1 fun y H2 => ∃ o, DGet H2 a y o ∧ Q (o.getD .non) H2
def tDGet2 (td ty tx : TE) : TE := fun σ H Q => td σ H fun x H1 => ∃ a, x = .ref a ∧ IsD H1 a ∧ ty σ H1 fun y H2 => tx σ H2 fun z H3 => ∃ o, DGet H3 a y o ∧ Q (o.getD z) H3
def tDPop1 (td ty : TE) : TE := fun σ H Q => td σ H fun x H1 => ∃ a, x = .ref a ∧ IsD H1 a ∧ ty σ H1 fun y H2 => ∃ kvs k v, H2 a = some (.dK kvs) ∧ y = kV k ∧ valV kvs k = some v ∧ Q v (upd H2 a (.dK (dropK kvs k)))
def tDPop2 (td ty tx : TE) : TE := fun σ H Q => td σ H fun x H1 => ∃ a, x = .ref a ∧ IsD H1 a ∧ ty σ H1 fun y H2 => tx σ H2 fun z H3 => ∃ kvs k, H3 a = some (.dK kvs) ∧ y = kV k ∧
  (∀ v, valV kvs k = some v → Q v (upd H3 a (.dK (dropK kvs k)))) ∧ (valV kvs k = none → Q z H3)
section
variable {X : Cx} {o e f : Expr} {apos cpos : Pos} {td ty tx : TE}
end
section
variable {X : Cx} {pins : List (Addr × Obj)} {σ : St} {H : Hp} {s : Shared} {a : Addr} {kvs : List (Key × V)} {A : Around} {E : Value → Shared → Prop}
end
section
variable {X : Cx} {pins : List (Addr × Obj)} {σ : St} {H : Hp} {s : Shared} {a : Addr} {y : V} {u : Value} {A : Around} {E : Value → Shared → Prop}
end
end L2
namespace Att
open PySem PySem.W PySem.Calls PyProof.Rows
theorem ints_of_wellAll {P : Params} {h : Heap} : ∀ (ns : List Int) (vs : List Value), WellAll P h vs (ns.map WData.int) → IntsAre vs ns := by
  intro ns
  induction ns with
  | nil =>
    intro vs w
    rw [List.map_nil] at w
    cases w
    exact .nil
  | cons n ns ih =>
    intro vs w
    rw [List.map_cons] at w
    cases w with
    | cons a b =>
      cases a
      exact .cons _ _ (ih _ b)
theorem script_of {l : OpenLaw} {n : Nat} (hn : l.most = some n) {P : Params} {h : Heap} {args : List WData} {vals : List Value}
    (hpre : l.row.toRowW.claim.pre args = true) (hwl : WellAll P h vals args) :
    ∃ a vs ns, vals = [Value.ref a] ∧ args = [WData.list (ns.map WData.int)] ∧ h.get? a = some { cls := .type "list", data := .seq vs.toArray } ∧ IntsAre vs ns ∧ ns.length ≤ n := by
  have hsh : WShape.hasAll [] args [.list .int] = true := (pre_splitW hpre).1
  have hc : l.pre.holds [] { args := args } = true := (pre_splitW hpre).2
  obtain ⟨d, r, rfl, h1, h2⟩ := hasAllW_cons hsh
  obtain rfl := hasAllW_nil h2
  obtain ⟨xs, rfl, h3⟩ := hasW_list h1
  obtain ⟨ns, rfl⟩ := items_int h3
  have hlen : ns.length ≤ n := by
    unfold OpenLaw.pre at hc
    have h4 : (WTm.not (.lt (.lit (.int (n : Int))) (.len (.arg 0)))).holds [] { args := [.list (ns.map .int)] } = true := by
      have h4 := (holds_andW hc).1
      rw [hn] at h4
      exact h4
    have h5 := condW_of h4 (w_not (w_lt w_lit (w_len_list (w_arg rfl))))
    rw [List.length_map] at h5
    refine Nat.le_of_not_lt fun q => ?_
    have q' : (n : Int) < ((ns.length : Nat) : Int) := by omega
    first
      | (rw [decide_eq_true q'] at h5; exact absurd h5 (by decide))
      | (simp at h5; omega)
  cases hwl with
  | cons w1 w2 =>
    cases w2
    cases w1 with
    | list ho hall => exact ⟨_, _, ns, rfl, rfl, ho, ints_of_wellAll ns _ hall, hlen⟩
theorem post_true (l : OpenLaw) (args : List WData) : l.row.toRowW.claim.post args (.bool true) args = true :=
  postW_of (r := l.row.toRowW) (X := (true == true))
    (show WShape.has [] (.bool true) .bool = true by first | rfl | decide | simp [WShape.has, WShape.arms, WShape.armsAll])
    (show (WTm.eq .res (.lit (.bool true))).value [] { args := args, res := some (.bool true), after := args } = some (.bool (true == true)) from w_eq_bool (w_res rfl) w_lit) rfl
theorem attach_call {l : OpenLaw} {n : Nat} {q : Program} {loose : List Str} {XP : (Str → Option Value) → Heap → Prop} {YP : World → Heap → Prop} {d : DefRec}
    (hn : l.most = some n) (hdf : d.params.defaults = [])
    (call : ∀ (w : World) (s₀ s₁ : Shared) (mg mb : Str → Option Value) (fa : Addr) (o : Obj) (pm cd doc : Value) (a : Addr) (vs : List Value) (ns : List Int),
      Ground q loose [] XP w s₀ mg mb s₁.heap → YP w s₁.heap →
      s₁.heap.get? fa = some o → o.data = .func (docDef d.name d.params d.body d.scope pm cd doc) → s₁.heap.CodeRec cd d.name → mg d.name = some (.ref fa) →
      s₁.heap.get? a = some { cls := .type "list", data := .seq vs.toArray } → IntsAre vs ns → ns.length ≤ n → s₁.gens = #[] →
      codeAny (model l.prog w) callerA (.call (.ref fa) ⟨[.ref a], []⟩) (fun r s' => r = .ok (.ret (.bool true)) ∧ OldK s₁.heap s'.heap ∧ s'.os = s₁.os ∧ AllBare s'.gens) s₁) :
    WalkO q loose XP YP l.row.toRowW d [] (fun f vs => PySem.call f vs) := by
  intro w s₀ s₁ mg mb G Y fa o pm cd doc dV kV ho hd hcd hD hmg hg args vals as hpre hlay hrd hwl hlo
  obtain rfl : dV = .none := Dflts.none hD hdf
  obtain rfl : kV = .none := Dflts.noKw hD
  obtain ⟨a, vs, ns, rfl, rfl, hobj, hints, hlen⟩ := script_of hn hpre hwl
  refine enter_call (codeAny_mono (call w s₀ s₁ mg mb fa o pm cd doc a vs ns G Y ho (fd_plain hd) hcd hmg hobj hints hlen hg) fun r s' hq => ?_)
  obtain ⟨rfl, h2, h3, h4⟩ := hq
  exact ⟨.inl ⟨.bool true, .bool true, [], rfl, fun _ => rfl, .bool true, post_true l _, fun _ => ⟨List.Pairwise.nil, fun _ hm => (nomatch hm)⟩⟩, h2, h3, h4⟩
section
variable {prog : Program} {w : World} {A : Around} {E : Value → Shared → Prop} {s : Shared} {K : Frag}
def noObjs (h : Heap) : Heap := { h with objs := #[] }
def ledger (h : Heap) (L d : Addr) : List (Addr × Obj) := (List.range h.objs.size).filterMap fun a => if a = L ∨ a = d then none else (h.get? a).map fun o => (a, o)
end
end Att
namespace L2
open PySem PySem.Spec PyProof.Rows
theorem vals_ints : ∀ {vs : List Value} {ns : List Int}, IntsAre vs ns → Vals (ns.map V.int) vs
  | _, _, .nil => .nil
  | _, _, .cons n t h => .cons ⟨t, rfl⟩ (vals_ints h)
def Only (H : Hp) : Prop := ∀ b, H b = none ∨ ∃ o xs, H b = some (.frz o (.lst xs))
theorem law_call {P : Program} {w : World} {K : PySem.W.Frag} {mg mb : Str → Option Value} {CX : CXT} {k : Nat} {fa a : Addr} {fd : FuncData} {x : Str} {sp : Sp} {s₁ : Shared} {vs : List Value} {ns : List Int}
    (KX : K.In s₁.heap) (hns : s₁.heap.Ns mainGlobals mg) (hb : s₁.heap.Ns builtinsNs mb) (hbb : ∀ x : Str, x ≠ "__name__" → mb x = bootBuiltins x) (hlim : s₁.heap.NoLimit) (hg : s₁.gens = #[])
    (ha : s₁.heap.get? a = some { cls := .type "list", data := .seq vs.toArray }) (hi : IntsAre vs ns) (hl : ns.length ≤ sizeLine) (hr : Room k callerA)
    (F : ∀ base : Heap, K.In base → base.Ns mainGlobals mg → FnOk P w K mg base CX k fa fd [x] sp) (hbind : ∀ (s : Shared) (u : Value), BindsTo s fd ⟨[u], []⟩ [(x, u)])
    (hsp : ∀ H : Hp, Only H → SqL K H a (ns.map V.int) → sp [.ref a] H (fun v _ => v = .bl true) fun _ _ _ => False)
    (hCX : ∀ H e s', CX [] H s₁ (fun _ _ _ => False) e s' → False) :
    codeAny (model P w) callerA (.call (.ref fa) ⟨[.ref a], []⟩) (fun r s' => r = .ok (.ret (.bool true)) ∧ OldK s₁.heap s'.heap ∧ s'.os = s₁.os ∧ AllBare s'.gens) s₁ := by
  have rv := vals_ints hi
  have lenV := hi.length
  have core : ∀ H : Hp, Only H → SqL K H a (ns.map V.int) → HOk P w H s₁.heap → (∀ b, H b ≠ none → b = a) → (H a ≠ none → K.lookup a = none) →
      codeAny (model P w) callerA (.call (.ref fa) ⟨[.ref a], []⟩) (fun r s' => r = .ok (.ret (.bool true)) ∧ OldK s₁.heap s'.heap ∧ s'.os = s₁.os ∧ AllBare s'.gens) s₁ := by
    intro H hO hS hok hA hK
    have base_of : ∀ {b : Addr} {o : Obj}, s₁.heap.get? b = some o → H b = none → (hidT s₁.heap H).get? b = some o := fun e n => hidT_get e n
    have noA : ∀ {b : Addr} {o : Obj} {es : Array DictEntry} {ep : Nat}, s₁.heap.get? b = some o → o.data = .dict es ep → H b = none := fun {b o es ep} e d => by
      cases q : H b with
      | none => rfl
      | some u =>
        have e' : b = a := hA b (by rw [q]; simp)
        subst e'
        rw [ha] at e; cases e
        have d' : Data.seq vs.toArray _ = Data.dict es ep := d
        cases d'
    have nsK : ∀ {b : Addr} {m : Str → Option Value}, s₁.heap.Ns b m → (hidT s₁.heap H).Ns b m := fun {b m} ⟨o, es, ep, e, d, r⟩ => ⟨o, es, ep, base_of e (noA e d), d, r⟩
    have hKb : K.In (hidT s₁.heap H) := fun b o e => base_of (KX b o e) (by
      cases q : H b with
      | none => rfl
      | some u =>
        have e' : b = a := hA b (by rw [q]; simp)
        subst e'
        rw [hK (by rw [q]; simp)] at e; cases e)
    have hM : Mod K mg (hidT s₁.heap H) := ⟨hKb, nsK hns, ⟨mb, nsK hb, hbb⟩, let ⟨mc, h1, h2⟩ := hlim; ⟨mc, nsK h1, h2⟩⟩
    have e0 : Env0 P w K mg (hidT s₁.heap H) callerA [] s₁ H := ⟨rfl, hM, fun b o e => of_hidT e, Nat.le_of_eq (hidT_size _ _), trivial, fun b hb => absurd (show b ∈ ([] : List Addr) from hb) (by simp), hok, .of_eq hg⟩
    refine codeAny_mono ((F _ hKb (nsK hns)).run callerA [] s₁ H ⟨[.ref a], []⟩ [.ref a] [.ref a] _ _ hr e0 (hbind s₁ (.ref a)) (.cons rfl .nil) (hsp H hO hS)) fun r s' h => ?_
    cases r with
    | error e => exact (hCX H e s' h).elim
    | ok fl =>
      cases fl with
      | next => exact False.elim h
      | brk => exact False.elim h
      | cont => exact False.elim h
      | ret u =>
        obtain ⟨v, H', os, bare, un, hok', r', q⟩ := h
        have q' : v = .bl true := q
        subst q'
        obtain rfl : u = Value.bool true := r'
        refine ⟨rfl, OldK.of_keep fun b o e => ?_, os, bare⟩
        cases q : H b with
        | none => exact un.keep b o e q (by intro z; exact absurd (show b ∈ ([] : List Addr) from z) (by simp)) (by simp)
        | some u =>
          rcases hO b with z | ⟨ob, xs, z⟩
          · rw [q] at z; cases z
          · have z2 := un.frzs b ob _ z
            obtain ⟨e1, _⟩ := hok b _ z
            obtain ⟨e2, _⟩ := hok' b _ z2
            rw [e] at e1; cases e1
            exact e2
  cases hk : K.lookup a with
  | some o =>
    have e := KX a o hk
    rw [ha] at e
    cases e
    refine core (fun _ => none) (fun _ => .inl rfl) (.inr ⟨_, vs.toArray, _, hk, rfl, rfl, rfl, by rw [List.size_toArray, lenV]; exact hl, by simpa using rv⟩) (fun b u z => by have z' : (none : Option HO) = some u := z; cases z') (fun b z => absurd rfl z) fun z => absurd rfl z
  | none =>
    refine core (fun b => if b = a then some (.frz { cls := .type "list", data := .seq vs.toArray } (.lst (ns.map V.int))) else none) (fun b => ?_) (.inl (.inr ⟨{ cls := .type "list", data := .seq vs.toArray }, if_pos rfl⟩)) (fun b u z => ?_) (fun b z => ?_) fun _ => hk
    · by_cases hb : b = a
      · exact .inr ⟨_, _, if_pos hb⟩
      · exact .inl (if_neg hb)
    · by_cases hb : b = a
      · have z' := (if_pos hb).symm.trans z
        cases z'
        subst hb
        exact ⟨ha, by rw [List.length_map]; exact hl, vs, _, rv, ha⟩
      · have z' := (if_neg hb).symm.trans z
        cases z'
    · by_cases hb : b = a
      · exact hb
      · exact absurd (if_neg hb) z
end L2
namespace L2
open PySem PySem.Spec PyProof.Rows
abbrev KOf {K : PySem.W.Frag} {h : Heap} (_ : K.In h) : PySem.W.Frag := K
theorem walk_of {l : PySem.W.OpenLaw} {n k : Nat} {q : Program} {loose : List Str} {XP : (Str → Option Value) → Heap → Prop} {YP : World → Heap → Prop} {d : DefRec} {K : Params → PySem.W.Frag} {CX : World → CXT} {sp : World → Sp} {x : Str}
    (hn : l.most = some n) (hn2 : n ≤ sizeLine) (hdf : d.params.defaults = []) (hr : Room k callerA)
    (hY : ∀ (w : World) (h : Heap), YP w h → (K w.params).In h)
    (F : ∀ (w : World) (mg : Str → Option Value) (fa : Addr) (h : Heap), (K w.params).In h → h.Ns mainGlobals mg → mg d.name = some (.ref fa) →
      ∃ fd : FuncData, (∀ (s : Shared) (u : Value), BindsTo s fd ⟨[u], []⟩ [(x, u)]) ∧
        ∀ base : Heap, (K w.params).In base → base.Ns mainGlobals mg → FnOk l.prog w (K w.params) mg base (CX w) k fa fd [x] (sp w))
    (hsp : ∀ (w : World) (H : Hp) (a : Addr) (ns : List Int), ns.length ≤ n → Only H → SqL (K w.params) H a (ns.map V.int) → sp w [.ref a] H (fun v _ => v = .bl true) fun _ _ _ => False)
    (hCX : ∀ (w : World) (H : Hp) (s : Shared) (e : Value) (s' : Shared), CX w [] H s (fun _ _ _ => False) e s' → False) :
    PySem.W.WalkO q loose XP YP l.row.toRowW d [] (fun f vs => PySem.call f vs) := by
  refine Att.attach_call hn hdf fun w s₀ s₁ mg mb fa o pm cd doc a vs ns G Y ho hd hcd hmg hobj hints hlen hg => ?_
  have KX := hY w _ Y
  obtain ⟨fd, hb, hF⟩ := F w mg fa _ KX G.T.g hmg
  exact law_call KX G.T.g G.T.b G.T.builtins G.T.nolimit hg hobj hints (Nat.le_trans hlen hn2) hr hF hb (fun H hO hS => hsp w H a ns hlen hO hS) fun H e s' => hCX w H s₁ e s'
end L2
namespace L2
open PySem PySem.Spec PyProof.Rows
def inClass (s : Stmt) (j : Nat) : Stmt := match s with
  | .ClassDef _ _ _ body _ _ _ _ _ _ _ => body.getD j (.Pass ⟨0, 0, 0, 0⟩)
  | _ => .Pass ⟨0, 0, 0, 0⟩
def defArgs (s : Stmt) : Arguments := match s with
  | .FunctionDef _ a _ _ _ _ _ _ _ _ => a
  | _ => { posonlyargs := [], args := [], vararg := none, kwonlyargs := [], kw_defaults := [], kwarg := none, defaults := [] }
def defBody (s : Stmt) : List Stmt := match s with
  | .FunctionDef _ _ b _ _ _ _ _ _ _ => b
  | _ => []
def defScope (s : Stmt) : Scope := match s with
  | .FunctionDef _ _ _ _ _ _ sc _ _ _ => sc
  | _ => { kind := .function, names := [], isGenerator := false, isCoroutine := false }
abbrev CX0 : CXT := fun _ _ _ _ _ _ => False
abbrev E0 : XK := fun _ _ _ => False
theorem pass0 {X : Cx} : Passes CX0 X E0 := fun _ _ _ _ _ _ _ h => h.elim
structure Fun (K : PySem.W.Frag) (x qual : Str) (st : Stmt) (f : Addr) (fd : FuncData) : Prop where
  ex : ∃ (oc : Value) (od : Option Addr) (kV doc pm : Value) (an : Option Addr) (cdv ct : Value) (osl : Array (Option Value)),
    fd = PySem.W.fnOf x qual (defArgs st) (defBody st) (defScope st) .none kV doc pm an cdv ct ∧ K.lookup f = some ⟨oc, od, .func fd, osl⟩ ∧ PySem.W.codeIn K cdv qual = true
  kp : PySem.W.keepIn K (.ref f) = true
section
variable {P : Program} {w : World} {K : PySem.W.Frag} {mg : Str → Option Value} {base : Heap}
theorem Fun.ok {x qual : Str} {st : Stmt} {f : Addr} {fd : FuncData} {N ps : List Str} {k : Nat} {sp : Sp} (F : Fun K x qual st f fd) (S : FnScope N ps (defScope st)) (len : ∀ vs H Q E, sp vs H Q E → vs.length = ps.length)
    (hbody : ∀ (cdv : Value) (A : Around) (outer : List Env) (s : Shared) (H : Hp) (vs : List V) (Q : VK) (E : XK), Room k (A.deeper (envOfC qual (defScope st) s.heap.objs.size f cdv)) → sp vs H Q E →
      ∃ t, PSs (cxOf CX0 P w K mg base N qual (defScope st) f cdv A outer s H E).nox (defBody st) t ∧ t { nx := fun _ H' => Q .non H', rt := Q } (start N vs) H) : FnOk P w K mg base CX0 (k + 1) f fd ps sp := by
  obtain ⟨oc, od, kV, doc, pm, an, cdv, ct, osl, rfl, lk, hcd⟩ := F.ex
  refine fn_of lk hcd S len fun A outer s H vs Q E hr hsp => ?_
  obtain ⟨t, h, q⟩ := hbody cdv A outer s H vs Q E hr hsp
  exact ⟨t, h.nox, q⟩
theorem Fun.binds {x qual : Str} {st : Stmt} {f : Addr} {fd : FuncData} {ps : List Str} (F : Fun K x qual st f fd)
    (h : ∀ (kV doc pm : Value) (an : Option Addr) (cdv ct : Value) (us : List Value), us.length = ps.length → bindArgs (PySem.W.fnOf x qual (defArgs st) (defBody st) (defScope st) .none kV doc pm an cdv ct) ⟨us, []⟩ = pure (ps.zip us)) : Binds K fd ps [] := by
  obtain ⟨oc, od, kV, doc, pm, an, cdv, ct, osl, rfl, lk, hcd⟩ := F.ex
  exact .all (h kV doc pm an cdv ct)
theorem fun_mk {x qual : Str} {st : Stmt} {f : Addr} {oc : Value} {od an : Option Addr} {osl : Array (Option Value)} {kV doc pm cdv ct : Value} (l : K.lookup f = some ⟨oc, od, .func (PySem.W.fnOf x qual (defArgs st) (defBody st) (defScope st) .none kV doc pm an cdv ct), osl⟩)
    (c : PySem.W.codeIn K cdv qual = true) (k : PySem.W.keepIn K (.ref f) = true) : Fun K x qual st f (PySem.W.fnOf x qual (defArgs st) (defBody st) (defScope st) .none kV doc pm an cdv ct) := ⟨⟨oc, od, kV, doc, pm, an, cdv, ct, osl, rfl, l, c⟩, k⟩
end
theorem hu_of {A : Around} {k : Nat} (hr : Room k A) : A.units + 1 < cLine := Nat.lt_of_le_of_lt (Nat.add_le_add_left (by decide : 1 ≤ 64) _) hr.units
theorem small1000 {n : Nat} (h : n ≤ 1000) : n < sizeLine := Nat.lt_of_le_of_lt h (by decide)
section
variable {X : Cx}
theorem pv (i : Nat) {x : Str} {pos : Pos} (hN : X.N[i]? = some x := by rfl) (hv : Vis X.env.scope x := by first | exact Or.inl rfl | exact Or.inr (Or.inl rfl) | exact Or.inr (Or.inr rfl)) (hd : (x == ("__debug__" : Str)) = false := by decide)
    (hcd : (x == ("__classdict__" : Str)) = false := by decide) : PE X (.Name x pos) (tVar i) := pe_var hN hv hd hcd
end
theorem iteF {A B : Prop} (h : B) : if false = true then A else B := by
  rw [if_neg Bool.false_ne_true]
  exact h
theorem iteT {A B : Prop} (h : A) : if true = true then A else B := by
  rw [if_pos rfl]
  exact h
theorem ite2 {c A B : Prop} [Decidable c] (h1 : c → A) (h2 : ¬ c → B) : if c then A else B := by
  by_cases h : c
  · rw [if_pos h]
    exact h1 h
  · rw [if_neg h]
    exact h2 h
def Same (H H' : Hp) : Prop := ∀ b o, H b = some o → H' b = some o
theorem Same.refl (H : Hp) : Same H H := fun _ _ h => h
theorem Same.trans {H H1 H2 : Hp} (a : Same H H1) (b : Same H1 H2) : Same H H2 := fun c o h => b c o (a c o h)
theorem Same.free {H H' : Hp} (e : Same H H') {l : Addr} (h : H' l = Option.none) : H l = Option.none := by
  cases q : H l with
  | none => rfl
  | some o =>
    rw [e l o q] at h
    cases h
theorem Same.seq {K : PySem.W.Frag} {H H' : Hp} {a : Addr} {xs : List V} (e : Same H H') (h : SqL K H a xs) : SqL K H' a xs := by
  rcases h with (h | ⟨o, h⟩) | h
  · exact .inl (.inl (e _ _ h))
  · exact .inl (.inr ⟨o, e _ _ h⟩)
  · exact .inr h
section
variable {κ : Type} [DecidableEq κ]
end
end L2
set_option Elab.async false
set_option linter.all false
set_option maxRecDepth 100000
set_option maxHeartbeats 4000000
namespace L2
open PySem PySem.Spec PyProof.Rows
abbrev NoX : Value → Shared → Prop := fun _ _ => False
def capSt (cap : List (Option Nat)) (σ : St) : St := cap.map fun o => match o with
  | none => none
  | some j => (σ[j]?).join
inductive Ext : St → St → Prop
  | nil : Ext [] []
  | skip {a b : St} {x : Option V} : Ext a b → Ext (none :: a) (x :: b)
  | keep {a b : St} {x : Option V} : Ext a b → Ext (x :: a) (x :: b)
def Cx.block (X : Cx) (sc : Scope) (cl : List (Str × Addr)) (N : List Str) (s : Shared) (H : Hp) (C : Addr) (ex : List Addr) : Cx where
  prog := X.prog
  w := X.w
  K := X.K
  mg := X.mg
  base := X.base
  A := X.A
  N := N
  s₀ := s
  H₀ := H
  env := compEnvC sc cl C X.env
  outer := X.stack
  stack := X.stack
  ex := ex
  fn := fun _ => false
  calm := X.calm
  pn := []
  xe := NoX
def PTs (X : Cx) (ifs : List Expr) (t : TT) : Prop :=
  ∀ (pins : List (Addr × Obj)) (s : Shared) (σ : St) (H : Hp) (Q : Bool → Hp → Prop), Inv X pins σ H s → t σ H Q →
    wpAny (model X.prog X.w) X.A (forIn ifs true fun c r => if r = true then do let ok ← isTrue c X.env (eval c X.env); pure (ForInStep.yield ok) else pure (ForInStep.yield r)) (TP X pins σ Q) X.xe s
def tYes : TT := fun _ H Q => Q true H
def tComp (cap : List (Option Nat)) (wi : TI) (g : TG) (tt : TT) (te : TE) : TE := fun σ H Q => wi σ H fun J H1 => ∀ acc, H1 acc = none →
  ∃ W : Nat → Nat → Hp → Prop, (∃ m, W 0 m (upd H1 acc (.lst []))) ∧ ∀ i m H2, W i m H2 →
    (J.stop i H2 ∧ Q (.ref acc) H2) ∨ (J.go i H2 ∧ ∃ N : Hp → Prop, (∀ H', N H' → ∃ m', m' < m ∧ W (i + 1) m' H') ∧ ∀ x H3, J.yld i H2 x H3 → g x (capSt cap σ) H3 fun σ2 H4 => Ext (capSt cap σ) σ2 ∧ tt σ2 H4 fun b H5 =>
      if b = true then te σ2 H5 fun y H6 => ∃ zs, H6 acc = some (.lst zs) ∧ zs.length < sizeLine ∧ N (upd H6 acc (.lst (zs ++ [y])))
      else N H5)
section
variable {X : Cx}
end
def compCk (sc : Scope) (env : Env) (XN N : List Str) (cap : List (Option Nat)) : Bool :=
  (sc.kind == .function) && (sc.names.all fun y => y.2 != .cell) && (sc.names.all fun y => y.2 != .local || sc.names.lookup y.1 == some .local) &&
  (sc.names.all fun y => y.2 != .free || env.kindOf y.1 == some .cell) &&
  ((List.range cap.length).all fun i => match cap[i]? with
    | some (some j) => (match N[i]? with | some x => XN[j]? == some x && sc.names.lookup x == some .free | none => false)
    | _ => true) && (cap.length == N.length)
end L2
set_option Elab.async false
set_option linter.all false
set_option maxRecDepth 100000
set_option maxHeartbeats 4000000
namespace L2
open PySem PySem.Spec PyProof.Rows
section
variable {prog : Program} {w : World} {A : Around} {E : Value → Shared → Prop} {s : Shared}
theorem next_tup_item {it t : Addr} {i : Nat} {items : Array Value} {x : Value} {Q : Value → Shared → Prop} (hit : s.heap.IsTupleIter it t i) (ht : s.heap.IsTuple t items) (hx : items[i]? = some x)
    (hQ : ∀ h', h'.IsTupleIter it t (i + 1) → Heap.SameBut it s.heap h' → Q x { s with heap := h' }) : wpAny (model prog w) A (Builtin.SmallTypes.nextOf (.ref it)) Q E s := by
  obtain ⟨o, ho, hc, hd⟩ := id hit; obtain ⟨ol, hol, _, nl, hdl⟩ := ht; unfold Builtin.SmallTypes.nextOf
  refine wpAny_bind (wpAny_callSpecial?_slot (name := Str.ofString "__next__") hit.typeIs F.slot_tuple_iterator_next (wpAny_call_entry F.slot_tuple_iterator_next hit.typeIs F.entry_tuple_iterator_next ?_ (F.args_tuple_iterator_next_1 _)))
  show wpAny _ _ (field (.ref it) 0 >>= _) _ _ s; refine wpAny_bind (wpAny_field ho hd (x := .ref t) rfl ?_)
  show wpAny _ _ (if (Value.ref t == Value.none) = true then _ else _) _ _ s; rw [if_neg (show ¬ ((Value.ref t == Value.none) = true) from Bool.false_ne_true)]
  show wpAny _ _ (field (.ref it) 1 >>= _) _ _ s; refine wpAny_bind (wpAny_field ho hd (x := .int i 0) rfl ?_)
  show wpAny _ _ (seqItems? (.ref t) >>= _) _ _ s; refine wpAny_bind (wpAny_seqItems hol hdl ?_); simp only [Int.toNat_natCast, hx]
  refine wpAny_bind (wpAny_setField ho hd (by simp) (wpAny_pure ⟨x, rfl, wpAny_pure (hQ _ ?_ (Heap.SameBut.update ..))⟩))
  exact ⟨_, Heap.get?_update_self _ ho (Obj.isFreed_of_fields (Obj.data_mapFields hd _)), (Obj.cls_mapFields ..).trans hc, by rw [Obj.data_mapFields hd]; simp [rawInt]⟩
theorem next_tup_end {it t : Addr} {i : Nat} {items : Array Value} {Q : Value → Shared → Prop} (hh : A.handled = none) (hit : s.heap.IsTupleIter it t i) (ht : s.heap.IsTuple t items) (hx : items[i]? = none)
    (hE : ∀ h' e, Heap.ExtBut it s.heap h' → (∃ o, h'.get? e = some o ∧ o.cls = .type "StopIteration") → E (.ref e) { s with heap := h' }) : wpAny (model prog w) A (Builtin.SmallTypes.nextOf (.ref it)) Q E s := by
  obtain ⟨o, ho, hc, hd⟩ := id hit; obtain ⟨ol, hol, _, nl, hdl⟩ := ht; unfold Builtin.SmallTypes.nextOf
  refine wpAny_bind (wpAny_callSpecial?_slot (name := Str.ofString "__next__") hit.typeIs F.slot_tuple_iterator_next (wpAny_call_entry F.slot_tuple_iterator_next hit.typeIs F.entry_tuple_iterator_next ?_ (F.args_tuple_iterator_next_1 _)))
  show wpAny _ _ (field (.ref it) 0 >>= _) _ _ s; refine wpAny_bind (wpAny_field ho hd (x := .ref t) rfl ?_)
  show wpAny _ _ (if (Value.ref t == Value.none) = true then _ else _) _ _ s; rw [if_neg (show ¬ ((Value.ref t == Value.none) = true) from Bool.false_ne_true)]
  show wpAny _ _ (field (.ref it) 1 >>= _) _ _ s; refine wpAny_bind (wpAny_field ho hd (x := .int i 0) rfl ?_)
  show wpAny _ _ (seqItems? (.ref t) >>= _) _ _ s; refine wpAny_bind (wpAny_seqItems hol hdl ?_); simp only [Int.toNat_natCast, hx]
  refine wpAny_bind (wpAny_rule (wpAny_bind (wpAny_setField ho hd (by simp) ?_))); show wpAny _ _ (newExc (.type "StopIteration") [] >>= _) _ _ _
  refine wpAny_bind ?_; simp only [newExc, newTuple]; refine wpAny_bind (wpAny_newObj_type ?_ (by size_fits))
  refine wpAny_bind (m := firstArgMember _ _) (wpAny_of_eq (a := Value.none) (by first | rfl | (simp only [firstArgMember]; rfl)) ?_); refine wpAny_newObj_type ?_ (by size_fits)
  simp only [raiseNew]; refine wpAny_bind (wpAny_handled ?_); first | rw [show A.in1.handled = none from hh] | rw [hh]
  refine wpAny_bind (wpAny_pure (wpAny_throw ?_)); exact hE _ _ (((Heap.SameBut.update ..).extBut.push _).push _) ⟨_, Heap.get?_push_size _ rfl, rfl⟩
theorem draws_tuple {prog : Program} {w : World} {A : Around} (hh : A.handled = none) (it t : Addr) (hne : t ≠ it) (items : Array Value) :
    Draws prog w A it [it, t] items.size (fun i v => items[i]? = some v) (fun i h => h.IsTupleIter it t i ∧ h.IsTuple t items) where
  live := fun _ _ st => let ⟨o, ho, _⟩ := st.1; ⟨o, ho⟩
  frame := fun _ _ _ st hk => ⟨let ⟨o, ho, r⟩ := st.1; ⟨o, hk it (by simp) o ho, r⟩, let ⟨o, ho, r⟩ := st.2; ⟨o, hk t (by simp) o ho, r⟩⟩
  item := fun i s Q E hi st hQ => next_tup_item st.1 st.2 (x := items[i]) (by simp [hi]) fun h' hit' hs' => hQ _ h' s.toks (by simp [hi]) ⟨hit', let ⟨o, ho, r⟩ := st.2; ⟨o, hs'.extBut t o hne ho, r⟩⟩ hs'
  done := fun s Q E st hE => next_tup_end hh st.1 st.2 (by simp) hE
end
section
variable {X : Cx} {pins : List (Addr × Obj)} {σ : St} {H : Hp} {s : Shared} {h' : Heap}
theorem Inv.turnedN {t' : Nat} {ch : List Addr} (I : Inv X pins σ H s) (k : ∀ b o, b ∉ ch → s.heap.get? b = some o → h'.get? b = some o) (hf : ∀ b ∈ ch, FpOk X pins H b) : Inv X pins σ H { s with heap := h', toks := t' } := by
  refine I.step (g' := s.gens) (d' := s.drawn) (ch := ch) (fun b hb => ?_) (fun b o _ _ hc e _ => k b o hc e) (fun b o _ _ hc e _ => ⟨o.slots, k b o hc e⟩) (fun _ _ _ _ n => n)
    (fun b o hc e => ⟨o, k b o hc e⟩) (fun _ _ e => e) (fun _ _ _ e => e) (fun b ps e => ⟨#[], by rw [e]; simp⟩) (fun m hm => ?_) (fun b u e => ?_) I.bare
  · obtain ⟨f0, f1, f2, f3, f4, f5⟩ := hf b hb
    exact ⟨f3, f1, f4, f5⟩
  · obtain ⟨o, es, ep, ho, r⟩ := hm
    exact ⟨o, es, ep, k _ o (fun z => (hf _ z).2.1 rfl) ho, r⟩
  · refine (I.hok b u e).stay (fun c v hc q => k c v (fun z => ?_) q) (fun _ q => q) fun _ _ q => q
    have n := (hf c z).1
    rcases hc with y | y
    · rw [y, e] at n; cases n
    · rw [y] at n; cases n
theorem Inv.turnedL {t' : Nat} {ch : List Addr} {a : Addr} {o : HO} (I : Inv X pins σ H s) (k : ∀ b o, b ∉ ch → s.heap.get? b = some o → h'.get? b = some o) (hf : ∀ b ∈ ch, FpOk X pins H b) (hp : s.heap.objs.size ≤ a)
    (new : ObjOk X.prog X.w (upd H a o) h' a o) : Inv X pins σ (upd H a o) { s with heap := h', toks := t' } := by
  have hn : H a = none := I.hok.fresh hp
  have ne : ∀ b u, s.heap.get? b = some u → b ≠ a := fun b u e => Nat.ne_of_lt (Nat.lt_of_lt_of_le (Heap.lt_size e) hp)
  refine I.step (g' := s.gens) (d' := s.drawn) (ch := ch) (fun b hb => ?_) (fun b o _ _ hc e _ => k b o hc e) (fun b o _ _ hc e _ => ⟨o.slots, k b o hc e⟩) (fun b u _ e n => by rw [upd_ne (ne b u e)]; exact n)
    (fun b o hc e => ⟨o, k b o hc e⟩) (fun b xs q => by rw [upd_ne (ne_of_none q hn)]; exact q) (fun b u xs q => by rw [upd_ne (ne_of_none q hn)]; exact q) (fun b ps q => ⟨#[], by rw [upd_ne (ne_of_none q hn), q]; simp⟩) (fun m hm => ?_) (fun b u e => ?_) I.bare
  · obtain ⟨f0, f1, f2, f3, f4, f5⟩ := hf b hb
    exact ⟨f3, f1, f4, f5⟩
  · obtain ⟨o, es, ep, ho, r⟩ := hm
    exact ⟨o, es, ep, k _ o (fun z => (hf _ z).2.1 rfl) ho, r⟩
  · by_cases hb : b = a
    · subst hb
      rw [upd_same] at e
      cases e
      exact new
    · rw [upd_ne hb] at e
      refine (I.hok b u e).stay (fun c v hc q => k c v (fun z => ?_) q) (fun c q => by rw [upd_ne (ne_of_none q hn)]; exact q) fun c xs q => by rw [upd_ne (ne_of_none q hn)]; exact q
      have n := (hf c z).1
      rcases hc with y | y
      · rw [y, e] at n; cases n
      · rw [y] at n; cases n
end
def Ite (K : PySem.W.Frag) (a : Addr) : It :=
  ⟨fun i H => ∃ xs x, SqT K H a xs ∧ xs[i]? = some x, fun i H x H' => ∃ T y, H T = none ∧ x = .ref T ∧ H' = upd H T (.tup [.int i, y]) ∧ ∀ xs, SqT K H a xs → xs[i]? = some y, fun i H => ∃ xs, SqT K H a xs ∧ xs.length ≤ i⟩
def iEnum (K : PySem.W.Frag) (ta : TA) : TI := fun σ H R => ta σ H fun vs H1 => ∃ a, vs = [.ref a] ∧ (∃ xs, SqT K H1 a xs) ∧ R (Ite K a) H1
end L2
set_option Elab.async false
set_option linter.all false
set_option maxRecDepth 100000
set_option maxHeartbeats 4000000
namespace L2
open PySem PySem.Spec PyProof.Rows
section
variable {X : Cx}
def rCatU (K : PySem.W.Frag) : R2 := fun x y H Q => ∃ a b xs ys, x = .ref a ∧ y = .ref b ∧ SqT K H a xs ∧ SqT K H b ys ∧ xs.length + ys.length ≤ sizeLine ∧
  ∀ p H', Same H H' → SqT K H' p (xs ++ ys) → Q (.ref p) H'
theorem same_upd {H : Hp} {p : Addr} {o : HO} (h : H p = none) : Same H (upd H p o) := fun b u q => by rw [upd_ne (ne_of_none q h)]; exact q
def rIsi (K : PySem.W.Frag) : List V → Hp → VK → Prop := fun xs H Q => ∃ x T t b, xs = [x, .ty T] ∧ TyOf K H x t ∧ PySem.W.kitOne K t (.type T) = some b ∧ Q (.bl b) H
theorem call_isi : CallR X (.builtin "isinstance") (rIsi X.K) := by
  intro pins s σ H xs us Q I r h
  obtain ⟨x, T, t, b, rfl, ty, e, q⟩ := h
  obtain ⟨u, w', rfl, ru, rw'⟩ := vals2 r
  cases rw'
  exact isinst_ok I ru ty e fun tk => ⟨.bl b, H, I.tok tk, rfl, q⟩
def rSlS : V → Option Int → Option Int → Hp → VK → Prop := fun x lo hi H Q => ∃ z, x = .str z ∧ z.length ≤ sizeLine ∧ ((Txt.slice z lo hi).length ≤ z.length → Q (.str (Txt.slice z lo hi)) H)
theorem part_of {v : Value} {o : Option Int} (p : IsPart v o) : ∃ q : Option (Int × Tok), q.map (·.1) = o ∧ v = (match q with | none => Value.none | some (i, t) => .int i t) := by
  cases p with
  | none => exact ⟨none, rfl, rfl⟩
  | int i t => exact ⟨some (i, t), rfl, rfl⟩
theorem sl_str : SlR X rSlS := by
  intro pins s σ H x v vl vu lo hi sl Q I rx hs pl pu h
  obtain ⟨z, rfl, hz, q⟩ := h
  obtain ⟨t, rfl⟩ := rx
  obtain ⟨l, hl, el⟩ := part_of pl
  obtain ⟨u, hu, eu⟩ := part_of pu
  subst hl hu
  refine ⟨"str", _, F.slot_str_getitem.lookup, typeIs_str _ _ _, wpAny_getItem_str_slice (l := l) (u := u) (st := none) ?_ rfl (post_val_or_str ⟨Nat.le_trans (Txt.slice_le z _ _) hz, fun t' k => ⟨.str (Txt.slice z _ _), H, I.kept (fun _ _ e => e), ⟨t', rfl⟩, q (Txt.slice_le z _ _)⟩⟩)⟩
  obtain ⟨o, ho, hc, hd⟩ := hs
  refine ⟨o, ho, hc, ?_⟩
  rw [hd, el, eu]
  cases l <;> cases u <;> rfl
theorem eqL_all {A : Around} {s : Shared} {xs ys : List V} {us ws : List Value} (rx : Vals xs us) (ry : Vals ys ws) (fx : xs.all flatV = true) (fy : ys.all flatV = true) :
    ∃ e : Nat → Bool, (∀ j (h1 : j < us.toArray.size) (h2 : j < ws.toArray.size), SeqAt.EqAt A s us.toArray[j] ws.toArray[j] (e j)) ∧ ∀ j (x y : V), xs[j]? = some x → ys[j]? = some y → e j = eqV x y := by
  refine ⟨fun j => match xs[j]?, ys[j]? with | some x, some y => eqV x y | _, _ => false, fun j h1 h2 => ?_, fun j x y e1 e2 => by simp only [e1, e2]⟩
  have l1 := rx.length
  have l2 := ry.length
  have g1 : j < xs.length := by rw [l1]; simpa using h1
  have g2 : j < ys.length := by rw [l2]; simpa using h2
  obtain ⟨u, eu, ru⟩ := rx.get (List.getElem?_eq_getElem g1)
  obtain ⟨v, ev, rv⟩ := ry.get (List.getElem?_eq_getElem g2)
  have e1 : us.toArray[j] = u := by
    have := List.getElem?_eq_some_iff.mp eu
    obtain ⟨_, z⟩ := this
    simpa using z
  have e2 : ws.toArray[j] = v := by
    have := List.getElem?_eq_some_iff.mp ev
    obtain ⟨_, z⟩ := this
    simpa using z
  simp only [List.getElem?_eq_getElem g1, List.getElem?_eq_getElem g2, e1, e2]
  exact eqAt_V ru rv (List.all_eq_true.mp fx _ (List.getElem_mem g1)) (List.all_eq_true.mp fy _ (List.getElem_mem g2))
def rEqS (neg : Bool) : R2 := fun x y H Q => ∃ (p r : Addr) (xs ys : List Str), x = .ref p ∧ y = .ref r ∧ H p = some (.lst (xs.map V.str)) ∧ H r = some (.lst (ys.map V.str)) ∧ Q (.bl (if neg then !decide (xs = ys) else decide (xs = ys))) H
def rSortD : List V → Hp → VK → Prop := fun xs H Q => ∃ (d : Addr) (kvs : List (Key × V)) (ks : List Str), xs = [.ref d] ∧ H d = some (.dK kvs) ∧ kvs.map (·.1) = ks.map Sum.inr ∧ ks.length < 64 ∧
  ∀ (l : Addr) (ss : List Str), H l = none → ss.Perm ks → ss.Pairwise (fun a b => ltCps b.cps.toList a.cps.toList = false) → Q (.ref l) (upd H l (.lst (ss.map V.str)))
end
end L2
set_option Elab.async false
set_option linter.all false
set_option maxRecDepth 100000
set_option maxHeartbeats 4000000
namespace L2
open PySem PySem.Spec PyProof.Rows
structure FnB (P : Program) (w : World) (K : PySem.W.Frag) (mg : Str → Option Value) (base : Heap) (k : Nat) (x : Str) (f : Addr) (fd : FuncData) (ps : List Str) (sp : Sp) : Prop where
  ok : FnOk P w K mg base CX0 k f fd ps sp
  bd : Binds K fd ps []
  kp : PySem.W.keepIn K (.ref f) = true
  gl : mg x = some (.ref f)
theorem FnB.up {P : Program} {w : World} {K : PySem.W.Frag} {mg : Str → Option Value} {base : Heap} {j k : Nat} {x : Str} {f : Addr} {fd : FuncData} {ps : List Str} {sp : Sp} (F : FnB P w K mg base j x f fd ps sp) (h : j ≤ k) : FnB P w K mg base k x f fd ps sp :=
  ⟨F.ok.mono h, F.bd, F.kp, F.gl⟩
def Tk (H H' : Hp) : Prop := ∀ b xs, H b = some (.tup xs) → H' b = some (.tup xs)
theorem Tk.trans {H H1 H2 : Hp} (a : Tk H H1) (b : Tk H1 H2) : Tk H H2 := fun c xs h => b c xs (a c xs h)
theorem Same.tk {H H' : Hp} (h : Same H H') : Tk H H' := fun b xs e => h b _ e
theorem Tk.lst {H : Hp} {p : Addr} {xs : List V} {o : HO} (h : H p = some (.lst xs)) : Tk H (upd H p o) := fun b ys e => by
  rw [upd_ne (fun z => by subst z; rw [h] at e; cases e)]; exact e
section
variable {X : Cx}
def rCatV : R2 := fun x y H Q => ∃ a b xs ys, x = .ref a ∧ y = .ref b ∧ H a = some (.tup xs) ∧ H b = some (.tup ys) ∧ xs.length + ys.length ≤ sizeLine ∧
  ∀ p H', Same H H' → H' p = some (.tup (xs ++ ys)) → Q (.ref p) H'
theorem op_catV : OpR X (binaryOp .Add) rCatV := by
  intro pins s σ H x y v u Q I rx ry h
  obtain ⟨a, b, xs, ys, rfl, rfl, ha, hb, hz, q⟩ := h
  by_cases hx : xs = []
  · subst hx
    cases rx
    cases ry
    obtain ⟨its, r1, p1, _⟩ := I.tuple (SqT.of ha)
    obtain ⟨its2, r2, p2, _⟩ := I.tuple (SqT.of hb)
    have e0 : its = [] := r1.nil_iff.mpr rfl
    subst e0
    obtain ⟨⟨cls, dd, data, sl⟩, ho, hc, n, hd⟩ := id p1
    obtain ⟨⟨cls2, dd2, data2, sl2⟩, ho2, hc2, n2, hd2⟩ := id p2
    simp only at hc hd hc2 hd2
    subst hc hd hc2 hd2
    exact concat_meets ⟨_, ho, rfl⟩ ⟨_, ho2, rfl⟩ noFill_tuple_add seq_tuple_add PySem.F.slot_tuple_add PySem.F.entry_tuple_add (PySem.F.args_tuple_add_2 _ _) (tuple_addW0 a b _ _ n n2 dd dd2 sl sl2 rfl) ⟨ho, ho2, ⟨.ref b, H, I, rfl, q b H (.refl H) hb⟩⟩
  · refine op_catT pins s σ H (.ref a) (.ref b) v u Q I rx ry ⟨a, b, xs, ys, rfl, rfl, SqT.of ha, SqT.of hb, hx, hz, fun e => ?_, fun e p hp => ?_⟩
    · subst e
      exact q a H (.refl H) (by rw [List.append_nil]; exact ha)
    · exact q p _ (same_upd hp) upd_same
def rSlV : V → Option Int → Option Int → Hp → VK → Prop := fun x lo hi H Q => ∃ a xs, x = .ref a ∧ H a = some (.tup xs) ∧
  ¬ (HT.sIx xs.length 0 lo = 0 ∧ HT.sIx xs.length xs.length hi = xs.length) ∧ ∀ p H', Same H H' → H' p = some (.tup (cutV xs lo hi)) → Q (.ref p) H'
theorem sl_tupV : SlR X rSlV := by
  intro pins s σ H x v vl vu lo hi sl Q I rx hs pl pu h
  obtain ⟨a, xs, rfl, ha, hw, q⟩ := h
  exact sl_tup pins s σ H (.ref a) v vl vu lo hi sl Q I rx hs pl pu ⟨a, xs, rfl, SqT.of ha, hw, fun p hp => q p _ (same_upd hp) upd_same⟩
end
inductive Atom where
  | name (x : Str) | num (n : Int) | gap (g : Str)
inductive Bin where
  | add | sub | mul | thn
def Bin.s : Bin → Str
  | .add => "add" | .sub => "sub" | .mul => "mul" | .thn => "then"
inductive Tr where
  | num (n : Int) | name (x : Str) | ask (x : Str) | stop (x : Str) | gap (g : Str) (as : List Atom)
  | say (a : Tr) | bin (o : Bin) (a b : Tr) | ite (a b c : Tr) | lett (x : Str) (a b : Tr)
def AtRep (H : Hp) : Atom → V → Prop
  | .name x, v => ∃ a, v = .ref a ∧ H a = some (.tup [.str "name", .str x])
  | .num n, v => ∃ a, v = .ref a ∧ H a = some (.tup [.str "num", .int n])
  | .gap g, v => ∃ a b, v = .ref a ∧ H a = some (.tup [.str "gap", .str g, .ref b]) ∧ H b = some (.tup [])
def Rep (H : Hp) : Tr → V → Prop
  | .num n, v => ∃ a, v = .ref a ∧ H a = some (.tup [.str "num", .int n])
  | .name x, v => ∃ a, v = .ref a ∧ H a = some (.tup [.str "name", .str x])
  | .ask x, v => ∃ a, v = .ref a ∧ H a = some (.tup [.str "ask", .str x])
  | .stop x, v => ∃ a, v = .ref a ∧ H a = some (.tup [.str "stop", .str x])
  | .gap g as, v => ∃ a b us, v = .ref a ∧ H a = some (.tup [.str "gap", .str g, .ref b]) ∧ H b = some (.tup us) ∧ us.length ≤ 1000 ∧ Paired (AtRep H) as us
  | .say t, v => ∃ a u, v = .ref a ∧ H a = some (.tup [.str "say", u]) ∧ Rep H t u
  | .bin o s t, v => ∃ a u w, v = .ref a ∧ H a = some (.tup [.str o.s, u, w]) ∧ Rep H s u ∧ Rep H t w
  | .ite r s t, v => ∃ a u w z, v = .ref a ∧ H a = some (.tup [.str "if", u, w, z]) ∧ Rep H r u ∧ Rep H s w ∧ Rep H t z
  | .lett x s t, v => ∃ a u w, v = .ref a ∧ H a = some (.tup [.str "let", .str x, u, w]) ∧ Rep H s u ∧ Rep H t w
theorem AtRep.mono {H H' : Hp} (k : Tk H H') : ∀ {t : Atom} {v : V}, AtRep H t v → AtRep H' t v
  | .name _, _, ⟨a, e, h⟩ => ⟨a, e, k _ _ h⟩
  | .num _, _, ⟨a, e, h⟩ => ⟨a, e, k _ _ h⟩
  | .gap _, _, ⟨a, b, e, h, h'⟩ => ⟨a, b, e, k _ _ h, k _ _ h'⟩
theorem Rep.mono {H H' : Hp} (k : Tk H H') : ∀ {t : Tr} {v : V}, Rep H t v → Rep H' t v
  | .num _, _, ⟨a, e, h⟩ => ⟨a, e, k _ _ h⟩
  | .name _, _, ⟨a, e, h⟩ => ⟨a, e, k _ _ h⟩
  | .ask _, _, ⟨a, e, h⟩ => ⟨a, e, k _ _ h⟩
  | .stop _, _, ⟨a, e, h⟩ => ⟨a, e, k _ _ h⟩
  | .gap _ _, _, ⟨a, b, us, e, h, h', n, p⟩ => ⟨a, b, us, e, k _ _ h, k _ _ h', n, Paired.mapP p fun _ _ z => z.mono k⟩
  | .say _, _, ⟨a, u, e, h, r⟩ => ⟨a, u, e, k _ _ h, r.mono k⟩
  | .bin _ _ _, _, ⟨a, u, w, e, h, r, s⟩ => ⟨a, u, w, e, k _ _ h, r.mono k, s.mono k⟩
  | .ite _ _ _, _, ⟨a, u, w, z, e, h, r, s, t⟩ => ⟨a, u, w, z, e, k _ _ h, r.mono k, s.mono k, t.mono k⟩
  | .lett _ _ _, _, ⟨a, u, w, e, h, r, s⟩ => ⟨a, u, w, e, k _ _ h, r.mono k, s.mono k⟩
inductive Kd where
  | num | name | ask | stop | gap | say | add | sub | mul | thn | ite | lett
  deriving DecidableEq
def Kd.s : Kd → Str
  | .num => "num" | .name => "name" | .ask => "ask" | .stop => "stop" | .gap => "gap"
  | .say => "say" | .add => "add" | .sub => "sub" | .mul => "mul" | .thn => "then" | .ite => "if" | .lett => "let"
def Kd.leaf : Kd → Bool
  | .num => true | .name => true | .ask => true | .stop => true | .gap => true
  | _ => false
theorem Kd.inj {a b : Kd} (h : a.s = b.s) : a = b := by
  revert h
  cases a <;> cases b <;> first | (intro _; rfl) | (intro h; exact absurd h (by decide +kernel))
theorem Kd.eq_iff {a b : Kd} : (V.str a.s = V.str b.s) ↔ a = b := ⟨fun h => Kd.inj (V.str.inj h), fun h => by rw [h]⟩
def Bin.kd : Bin → Kd
  | .add => .add | .sub => .sub | .mul => .mul | .thn => .thn
def Tr.kd : Tr → Kd
  | .num _ => .num | .name _ => .name | .ask _ => .ask | .stop _ => .stop | .gap _ _ => .gap
  | .say _ => .say | .bin o _ _ => o.kd | .ite _ _ _ => .ite | .lett _ _ _ => .lett
def Tr.sign (t : Tr) : Str := t.kd.s
theorem Bin.kd_s (o : Bin) : o.kd.s = o.s := by cases o <;> rfl
def Tr.parts : Tr → List Tr
  | .say a => [a] | .bin _ a b => [a, b] | .ite a b c => [a, b, c] | .lett _ a b => [a, b]
  | _ => []
def Tr.head : Tr → Nat
  | .gap _ _ => 3 | .say _ => 1 | .bin _ _ _ => 1 | .ite _ _ _ => 1
  | _ => 2
theorem Rep.all {H : Hp} : ∀ {t : Tr} {v : V}, Rep H t v → ∃ a hs us, v = .ref a ∧ H a = some (.tup (.str t.sign :: hs ++ us)) ∧ hs.length + 1 = t.head ∧ Paired (Rep H) t.parts us
  | .num n, _, ⟨a, e, h⟩ => ⟨a, [.int n], [], e, h, rfl, .nil⟩
  | .name x, _, ⟨a, e, h⟩ => ⟨a, [.str x], [], e, h, rfl, .nil⟩
  | .ask x, _, ⟨a, e, h⟩ => ⟨a, [.str x], [], e, h, rfl, .nil⟩
  | .stop x, _, ⟨a, e, h⟩ => ⟨a, [.str x], [], e, h, rfl, .nil⟩
  | .gap g _, _, ⟨a, b, us, e, h, h', _, p⟩ => ⟨a, [.str g, .ref b], [], e, h, rfl, .nil⟩
  | .say _, _, ⟨a, u, e, h, r⟩ => ⟨a, [], [u], e, h, rfl, .cons r .nil⟩
  | .bin o _ _, _, ⟨a, u, w, e, h, r, s⟩ => ⟨a, [], [u, w], e, (by show _ = some (HO.tup [V.str o.kd.s, u, w]); rw [Bin.kd_s]; exact h), rfl, .cons r (.cons s .nil)⟩
  | .ite _ _ _, _, ⟨a, u, w, z, e, h, r, s, t⟩ => ⟨a, [], [u, w, z], e, h, rfl, .cons r (.cons s (.cons t .nil))⟩
  | .lett x _ _, _, ⟨a, u, w, e, h, r, s⟩ => ⟨a, [.str x], [u, w], e, h, rfl, .cons r (.cons s .nil)⟩
def Tr.size : Tr → Nat
  | .say a => a.size + 1 | .bin _ a b => a.size + b.size + 1 | .ite a b c => a.size + b.size + c.size + 1 | .lett _ a b => a.size + b.size + 1
  | _ => 1
theorem paired_get {α : Type} {F : α → V → Prop} : ∀ {as : List α} {us : List V} {i : Nat} {u : V}, Paired F as us → us[i]? = some u → ∃ a, as[i]? = some a ∧ F a u
  | _, _, _, _, .nil, e => by simp at e
  | _, _, 0, _, .cons r _, e => by simp at e; subst e; exact ⟨_, rfl, r⟩
  | _, _, i + 1, u, .cons _ t, e => by
    obtain ⟨a, h1, h2⟩ := paired_get (i := i) (u := u) t (by simpa using e)
    exact ⟨a, by simpa using h1, h2⟩
theorem same_set {H H' : Hp} {p : Addr} {o : HO} (g : Same H H') (h : H p = none) : Same H (upd H' p o) := fun b u q => by rw [upd_ne (ne_of_none q h)]; exact g b u q
theorem take_next {α : Type} {as : List α} {i : Nat} {a : α} (h : as[i]? = some a) : as.take (i + 1) = as.take i ++ [a] := by
  rw [List.take_add_one, h]; rfl
def Atom.names : Atom → List Str
  | .name x => [x]
  | _ => []
def Tr.names : Tr → List Str
  | .name x => [x]
  | .gap _ as => as.flatMap Atom.names
  | _ => []
theorem line1000 {n : Nat} (h : n ≤ 1000) : n ≤ sizeLine := Nat.le_of_lt (small1000 h)
def constVs : List Expr → Option (List V)
  | [] => some []
  | .Constant (.str x) _ _ :: r => (constVs r).map fun l => V.str x :: l
  | .Constant (.int i) _ _ :: r => (constVs r).map fun l => V.int i :: l
  | _ => none
def tRow (vs : List V) : TA := fun _ H Q => Q vs H
theorem pa_row {X : Cx} : ∀ {es : List Expr} (vs : List V), constVs es = some vs → PA X es (tRow vs)
  | [], vs, h => by cases h; exact pa_nil
  | .Constant (.str x) j p :: r, vs, h => by
    obtain ⟨l, hl, e⟩ := Option.map_eq_some_iff.mp (show (constVs r).map (fun l => V.str x :: l) = some vs from h)
    subst e
    exact pa_cons pe_str (pa_row l hl)
  | .Constant (.int x) j p :: r, vs, h => by
    obtain ⟨l, hl, e⟩ := Option.map_eq_some_iff.mp (show (constVs r).map (fun l => V.int x :: l) = some vs from h)
    subst e
    exact pa_cons pe_int (pa_row l hl)
def rowT : Expr → Option (List V)
  | .Tuple es _ _ => constVs es
  | _ => none
def rowL : Expr → Option (List V)
  | .List es _ => constVs es
  | _ => none
theorem pe_tupR {X : Cx} {e : Expr} (vs : List V) (h : rowT e = some vs) : PE X e (tTup (tRow vs)) := by
  unfold rowT at h
  split at h
  · exact pe_tup (pa_row vs h)
  · cases h
theorem pe_lstR {X : Cx} {e : Expr} (vs : List V) (h : rowL e = some vs) : PE X e (tLst (tRow vs)) := by
  unfold rowL at h
  split at h
  · exact pe_lst (pa_row vs h)
  · cases h
end L2
set_option Elab.async false
set_option linter.all false
set_option maxRecDepth 100000
set_option maxHeartbeats 4000000
namespace L2
open PySem
abbrev DRow := Str × (Str ⊕ Int)
abbrev En := Str → Int
abbrev Res := List DRow × (Int ⊕ Str)
def askR (x : Str) : DRow := ("ask", .inl x)
def sayR (n : Int) : DRow := ("say", .inr n)
def Bin.op : Bin → Int → Int → Int
  | .add, m, n => (m + n) % 10 ^ 30
  | .sub, m, n => (m - n) % 10 ^ 30
  | .mul, m, n => (m * n) % 10 ^ 30
  | .thn, _, n => n
def En.set (e : En) (x : Str) (n : Int) : En := fun y => if y = x then n else e y
def pre (D : List DRow) (o : Option Res) : Option Res := o.map fun q => (D ++ q.1, q.2)
def seqR (r : Option Res) (k : Int → Option Res) : Option Res := r.bind fun r => match r.2 with
  | .inr w => some (r.1, .inr w)
  | .inl n => pre r.1 (k n)
def ev (a : En) : Tr → En → Option Res
  | .num n, _ => some ([], .inl n)
  | .name x, e => some ([], .inl (e x))
  | .ask x, _ => some ([askR x], .inl (a x))
  | .stop x, _ => some ([], .inr x)
  | .gap _ _, _ => none
  | .say t, e => seqR (ev a t e) fun n => some ([sayR n], .inl n)
  | .bin o s t, e => seqR (ev a s e) fun m => seqR (ev a t e) fun n => some ([], .inl (o.op m n))
  | .ite c s t, e => seqR (ev a c e) fun n => if n = 0 then ev a t e else ev a s e
  | .lett x s t, e => seqR (ev a s e) fun n => ev a t (e.set x n)
def aft (a : En) (t : Tr) (e : En) (E : List Int) : Option (Option Res × List Int) :=
  match t with
  | .say _ => match E with
    | n :: E => some (some ([sayR n], .inl n), E)
    | _ => none
  | .bin .thn _ t => match E with
    | _ :: E => some (ev a t e, E)
    | _ => none
  | .bin o _ _ => match E with
    | n :: m :: E => some (some ([], .inl (o.op m n)), E)
    | _ => none
  | .ite _ s t => match E with
    | n :: E => some (if n = 0 then ev a t e else ev a s e, E)
    | _ => none
  | .lett x _ t => match E with
    | n :: E => some (ev a t (e.set x n), E)
    | _ => none
  | _ => none
abbrev Item := Tr × En × Bool
def cont (a : En) : List Item → List Int → Option Res
  | [], [] => none
  | [], n :: _ => some ([], .inl n)
  | (t, e, false) :: W, E => seqR (ev a t e) fun n => cont a W (n :: E)
  | (t, e, true) :: W, E => (aft a t e E).bind fun p => seqR p.1 fun n => cont a W (n :: p.2)
section
variable {a e : En} {W : List Item} {E : List Int}
end
def wtR : Tr → Nat
  | .bin .thn _ t => 2 * t.size + 1
  | .ite _ s t => 2 * s.size + 2 * t.size + 1
  | .lett _ _ t => 2 * t.size + 1
  | _ => 1
def wtI : Item → Nat
  | (t, _, false) => 2 * t.size
  | (t, _, true) => wtR t
def wt (W : List Item) : Nat := (W.map wtI).sum
end L2
set_option Elab.async false
set_option linter.all false
set_option maxRecDepth 100000
set_option maxHeartbeats 4000000
namespace L2
open PySem PySem.Spec PyProof.Rows
def tOrT (K : PySem.W.Frag) (ta tb : TE) : TE := fun σ H Q => ta σ H fun x H1 => ∃ k, TruV K x H1 k ∧ if k = true then Q x H1 else tb σ H1 Q
def eqDk (ka kb : List (Key × V)) : Bool := ka.length == kb.length && ka.all fun p => match valV kb p.1 with
  | none => false
  | some y => eqV p.2 y
def rEqDk (neg : Bool) : R2 := fun x y H Q => ∃ (a b : Addr) (ka kb : List (Key × V)), x = .ref a ∧ y = .ref b ∧ H a = some (.dK ka) ∧ H b = some (.dK kb) ∧ (∀ p ∈ ka, flatV p.2 = true) ∧ (∀ p ∈ kb, flatV p.2 = true) ∧
  Q (.bl (if neg then !eqDk ka kb else eqDk ka kb)) H
def CMulB (i j : Int) : Prop := i.natAbs < 2 ^ 100 ∧ j.natAbs < 2 ^ 100
structure FunD (K : PySem.W.Frag) (x qual : Str) (st : Stmt) (f : Addr) (fd : FuncData) (dvs : List Value) : Prop where
  ex : ∃ (oc : Value) (od : Option Addr) (kV doc pm : Value) (an : Option Addr) (cdv ct : Value) (osl : Array (Option Value)) (dt : Addr) (o : Obj) (n : Nat),
    fd = PySem.W.fnOf x qual (defArgs st) (defBody st) (defScope st) (.ref dt) kV doc pm an cdv ct ∧ K.lookup f = some ⟨oc, od, .func fd, osl⟩ ∧ PySem.W.codeIn K cdv qual = true ∧ K.lookup dt = some o ∧ o.data = .seq dvs.toArray n
  kp : PySem.W.keepIn K (.ref f) = true
section
variable {P : Program} {w : World} {K : PySem.W.Frag} {mg : Str → Option Value} {base : Heap}
structure FnD (P : Program) (w : World) (K : PySem.W.Frag) (mg : Str → Option Value) (base : Heap) (k : Nat) (x : Str) (f : Addr) (fd : FuncData) (ps : List Str) (sp : Sp) : Prop where
  ok : FnOk P w K mg base CX0 k f fd ps sp
  bd0 : Binds K fd ps []
  bd1 : Binds K fd ps [.none]
  bd2 : Binds K fd ps [.none, .none]
  kp : PySem.W.keepIn K (.ref f) = true
  gl : mg x = some (.ref f)
structure FnM (P : Program) (w : World) (K : PySem.W.Frag) (mg : Str → Option Value) (base : Heap) (k : Nat) (C : Addr) (m : Str) (f : Addr) (fd : FuncData) (ps : List Str) (sp : Sp) : Prop where
  ok : FnOk P w K mg base CX0 k f fd ps sp
  bd : Binds K fd ps []
  mt : Meth K C m f
end
end L2
set_option Elab.async false
set_option linter.all false
set_option maxRecDepth 100000
set_option maxHeartbeats 4000000
namespace L2
open PySem PySem.Spec PyProof.Rows
def rvObj (l : Addr) (i : Int) : Obj := { cls := .type "reversed", data := .fields #[.ref l, rawInt i] }
section
variable {prog : Program} {w : World} {A : Around} {E : Value → Shared → Prop} {s : Shared}
end
def Itv (K : PySem.W.Frag) (a : Addr) (n : Nat) : It :=
  ⟨fun i H => i < n ∧ ∃ xs x, SqT K H a xs ∧ xs.length = n ∧ xs[n - 1 - i]? = some x, fun i H x H' => H' = H ∧ ∀ xs, SqT K H a xs → xs[n - 1 - i]? = some x, fun i _ => n ≤ i⟩
def iRev (K : PySem.W.Frag) (ta : TA) : TI := fun σ H R => ta σ H fun vs H1 => ∃ a, vs = [.ref a] ∧ ∃ xs, SqT K H1 a xs ∧ R (Itv K a xs.length) H1
end L2
set_option Elab.async false
set_option linter.all false
set_option maxRecDepth 100000
set_option maxHeartbeats 4000000
namespace L2
open PySem PySem.Spec PyProof.Rows
def rJoin : V → List V → Hp → VK → Prop := fun x xs H Q => ∃ (z : Str) (l : Addr) (ys : List Str), x = .str z ∧ xs = [.ref l] ∧ H l = some (.lst (ys.map V.str)) ∧ z.length ≤ 16 ∧ (ys.map (·.length)).sum + ys.length ≤ 1048576 ∧ Q (.str (Txt.join z ys)) H
def Itw (K : PySem.W.Frag) (a : Addr) (n : Nat) : It :=
  ⟨fun i H => i < n ∧ ∃ xs x, SqL K H a xs ∧ xs.length = n ∧ xs[n - 1 - i]? = some x, fun i H x H' => H' = H ∧ ∀ xs, SqL K H a xs → xs[n - 1 - i]? = some x, fun i _ => i = n⟩
theorem turn_rvL {P : Program} {w : World} {K : PySem.W.Frag} {tg : Expr} (a it : Addr) (n : Nat) : Turn P w K tg (Itw K a n) [it] it (fun i h => h.IsRevIter it a ((n : Int) - 1 - (i : Nat))) where
  mem := by simp
  obj := fun i h st b hb => by
    have e : b = it := by simpa using hb
    subst e
    obtain ⟨o, e, c, d⟩ := st
    exact ⟨o, e, fun v z => by rw [d] at z; cases z⟩
  keep := fun i h h' st k => st.at fun o e => k it (by simp) o e
  item := by
    intro X hP hw hK hc i pins s σ H E I hf st hg
    subst hP hw hK
    obtain ⟨hin, xs, x, hq, hl, hx⟩ := hg
    obtain ⟨its, rv, p, hz⟩ := I.list hq
    obtain ⟨u, hu, ru⟩ := rv.get hx
    obtain ⟨f0, f1, f2, f3, f4, f5⟩ := hf it (by simp)
    have e : (n : Int) - 1 - (i : Nat) = ((n - 1 - i : Nat) : Int) := by omega
    rw [e] at st
    refine wpAny_pyNext_rev_item st p.isList (x := u) (by simpa using hu) fun h' st' sb => ?_
    have I1 : Inv X pins σ H { s with heap := h' } := I.turned (t' := s.toks) (fun b o hb e => (sb.2 b hb).trans e) f0 f1 f3 f4 f5
    obtain ⟨o, eo, c, d⟩ := id st'
    refine ⟨u, rfl, go_of (s := { s with heap := h' }) eo c d (by decide) ⟨x, H, I1, ru, ⟨rfl, fun ys hy => by rw [I.list_inj hy hq]; exact hx⟩, ?_, fun b hb => (hf b hb).1⟩⟩
    have e2 : (n : Int) - 1 - ((i + 1 : Nat) : Int) = ((n - 1 - i : Nat) : Int) - 1 := by omega
    show h'.IsRevIter it a ((n : Int) - 1 - ((i + 1 : Nat) : Int))
    rw [e2]
    exact st'
  done := by
    intro X hP hw hK hc i pins s σ H E I hf st hg
    subst hP hw hK
    obtain ⟨f0, f1, f2, f3, f4, f5⟩ := hf it (by simp)
    have hg' : i = n := hg
    subst hg'
    have e : (i : Int) - 1 - (i : Nat) = -1 := by omega
    rw [e] at st
    exact wpAny_pyNext_rev_end (I.ok.hd hc) st fun h' eb => ⟨rfl, I.turned (t' := s.toks) (fun b o hb e => eb b o hb e) f0 f1 f3 f4 f5⟩
  self := fun _ _ _ _ _ st h => wpAny_pyIter_revIter st h
def iRevL (K : PySem.W.Frag) (ta : TA) : TI := fun σ H R => ta σ H fun vs H1 => ∃ a, vs = [.ref a] ∧ ∃ xs, SqL K H1 a xs ∧ R (Itw K a xs.length) H1
theorem pi_revL {X : Cx} {tg a : Expr} {ta : TA} {p pos : Pos} (hg : Gl X "reversed") (hm : X.mg "reversed" = none) (ha : PA X [a] ta) (hs : starEach [a] X.env = [(false, eval a X.env)] := by rfl) : PI X tg (.Call (.Name "reversed" p) [a] [] pos) (iRevL X.K ta) := by
  intro pins s σ H R I h
  refine Call_ (ld_blt I hg hm boot_reversed (PyProof.Rows.callWith_type1 (thn (ha pos pins s σ H _ I h) fun us s1 ⟨vs, H1, I1, r1, q1⟩ => ?_) hs rfl))
  obtain ⟨b, e, xs, hq, q⟩ := q1
  subst e
  obtain ⟨u, rfl, ru⟩ := vals1 r1
  cases ru
  obtain ⟨its, rv, tp, hz⟩ := I1.list hq
  have hl := rv.length
  refine call_reversed_list tp.isList ?_
  have hnew : Heap.IsRevIter (s1.heap.push (revObj b ((its.toArray.size : Int) - 1))) s1.heap.objs.size b ((its.toArray.size : Int) - 1) := ⟨_, Heap.get?_push_size _ rfl, rfl, rfl⟩
  refine wpAny_pyIter_revIter hnew ⟨_, [s1.heap.objs.size], _, _, H1, rfl, I1.kept (t' := s1.toks) (fun c o e => Heap.get?_push_of_some _ e), turn_rvL b _ xs.length, ?_, fun c hc => ?_, q⟩
  · have e : (xs.length : Int) - 1 - ((0 : Nat) : Int) = (its.toArray.size : Int) - 1 := by rw [List.size_toArray]; omega
    show Heap.IsRevIter _ _ _ ((xs.length : Int) - 1 - ((0 : Nat) : Int))
    rw [e]
    exact hnew
  · have e := List.mem_singleton.mp hc
    subst e
    exact I1.fpOk (Nat.le_refl _) (I1.hok.fresh (Nat.le_refl _))
theorem for_revL {K : PySem.W.Frag} {a : Addr} {xs : List V} {g : TG} {tb : TS} {D : Ends} {σ : L2.St} {H : Hp} (Pv : Nat → St → Hp → Prop) (h0 : Pv 0 σ H) (hl : ∀ i σ H, i ≤ xs.length → Pv i σ H → SqL K H a xs)
    (hs : ∀ i x σ H, i < xs.length → xs[xs.length - 1 - i]? = some x → Pv i σ H → g x σ H fun σ2 H2 => tb { D with nx := Pv (i + 1), ct := Pv (i + 1), bk := D.nx } σ2 H2) (hd : ∀ σ H, Pv xs.length σ H → D.nx σ H) :
    ∃ W : Nat → Nat → St → Hp → Prop, (∃ m, W 0 m σ H) ∧ ∀ i m σ H, W i m σ H →
      ((Itw K a xs.length).stop i H ∧ D.nx σ H) ∨ ((Itw K a xs.length).go i H ∧ ∃ N : St → Hp → Prop, (∀ σ' H', N σ' H' → ∃ m', m' < m ∧ W (i + 1) m' σ' H') ∧ ∀ x H', (Itw K a xs.length).yld i H x H' → g x σ H' fun σ2 H2 => tb { D with nx := N, ct := N, bk := D.nx } σ2 H2) := by
  refine ⟨fun i m σ H => m = xs.length - i ∧ i ≤ xs.length ∧ Pv i σ H, ⟨xs.length, by simp, Nat.zero_le _, h0⟩, ?_⟩
  rintro i m σ H ⟨rfl, hi, p⟩
  have q := hl i σ H hi p
  by_cases hlt : i < xs.length
  · have hk : xs.length - 1 - i < xs.length := by omega
    refine .inr ⟨⟨hlt, xs, xs[xs.length - 1 - i], q, rfl, by simp [hk]⟩, Pv (i + 1), fun σ' H' p' => ⟨xs.length - (i + 1), by omega, rfl, hlt, p'⟩, fun x H' y => ?_⟩
    obtain ⟨eH, y⟩ := y
    subst eH
    exact hs i x σ _ hlt (y xs q) p
  · have e : i = xs.length := by omega
    subst e
    exact .inl ⟨rfl, hd σ H p⟩
end L2
set_option Elab.async false
set_option linter.all false
set_option maxRecDepth 100000
set_option maxHeartbeats 4000000
namespace L2
open PySem PySem.Spec PyProof.Rows
def Itr2 (n : Nat) : It := ⟨fun i _ => i < n, fun i H x H' => H' = H ∧ x = .int ((i : Int) * 2), fun i _ => n ≤ i⟩
def iRng3 (ta : TA) : TI := fun σ H R => ta σ H fun vs H1 => ∃ j : Int, vs = [.int 0, .int j, .int 2] ∧ 0 ≤ j ∧ j < 1000 ∧ R (Itr2 ((j + 1) / 2).toNat) H1
end L2
set_option Elab.async false
set_option linter.all false
set_option maxRecDepth 100000
set_option maxHeartbeats 4000000
namespace L2
open PySem PySem.Spec PyProof.Rows
section
variable {prog : Program} {w : World}
def EqT (prog : Program) (w : World) (A : Around) (s : Shared) (y x : Value) : Prop := ∀ (E : Value → Shared → Prop) (Q : Bool → Shared → Prop), Q true s → wpAny (model prog w) A (eqBool y x) Q E s
open AutoSeq1 (wpAny_loadPart')
open MeetsSeq MeetsSeq2 MeetsSeq3 SeqAt
end
def DEq (H : Hp) (a b : Addr) : Prop := a ≠ b ∧ ∃ ka kb, H a = some (.dK ka) ∧ H b = some (.dK kb) ∧ (∀ p ∈ ka, flatV p.2 = true) ∧ (∀ p ∈ kb, flatV p.2 = true) ∧ eqDk ka kb = true
def rEqLD (neg : Bool) : R2 := fun x y H Q => ∃ (p r : Addr) (ps qs : List Addr), x = .ref p ∧ y = .ref r ∧ H p = some (.lst (ps.map V.ref)) ∧ H r = some (.lst (qs.map V.ref)) ∧ ps.length = qs.length ∧ (∀ (j : Nat) (a b : Addr), ps[j]? = some a → qs[j]? = some b → DEq H a b) ∧ Q (.bl (!neg)) H
end L2
set_option Elab.async false
set_option linter.all false
set_option maxRecDepth 100000
set_option maxHeartbeats 1000000
namespace L2
open PySem PySem.Spec PyProof.Rows
section
variable {X : Cx}
end
end L2
set_option Elab.async false
set_option linter.all false
set_option maxRecDepth 100000
set_option maxHeartbeats 4000000
namespace L2
open PySem PySem.Spec PyProof.Rows
inductive Dt where
  | int (i : Int) | str (x : Str) | tup (ds : List Dt)
mutual
def Dt.beq : Dt → Dt → Bool
  | .int i, .int j => decide (i = j)
  | .str x, .str y => decide (x = y)
  | .tup ds, .tup es => Dt.beqs ds es
  | _, _ => false
def Dt.beqs : List Dt → List Dt → Bool
  | [], [] => true
  | d :: ds, e :: es => Dt.beq d e && Dt.beqs ds es
  | _, _ => false
end
mutual
theorem Dt.beq_iff : ∀ {d e : Dt}, Dt.beq d e = true ↔ d = e
  | .int i, .int j => by simp [Dt.beq]
  | .str x, .str y => by simp [Dt.beq]
  | .tup ds, .tup es => by
    have := Dt.beqs_iff (ds := ds) (es := es)
    simp [Dt.beq, this]
  | .int _, .str _ => by simp [Dt.beq]
  | .int _, .tup _ => by simp [Dt.beq]
  | .str _, .int _ => by simp [Dt.beq]
  | .str _, .tup _ => by simp [Dt.beq]
  | .tup _, .int _ => by simp [Dt.beq]
  | .tup _, .str _ => by simp [Dt.beq]
theorem Dt.beqs_iff : ∀ {ds es : List Dt}, Dt.beqs ds es = true ↔ ds = es
  | [], [] => by simp [Dt.beqs]
  | [], _ :: _ => by simp [Dt.beqs]
  | _ :: _, [] => by simp [Dt.beqs]
  | d :: ds, e :: es => by
    have h1 := Dt.beq_iff (d := d) (e := e)
    have h2 := Dt.beqs_iff (ds := ds) (es := es)
    simp [Dt.beqs, h1, h2]
end
mutual
def Dt.deep : Dt → Nat
  | .tup ds => Dt.deeps ds + 1
  | _ => 0
def Dt.deeps : List Dt → Nat
  | [] => 0
  | d :: ds => max (Dt.deep d) (Dt.deeps ds)
end
mutual
inductive DR (H : Hp) : Dt → V → Prop
  | int (i : Int) : DR H (.int i) (.int i)
  | str (x : Str) : DR H (.str x) (.str x)
  | tup {a : Addr} {xs : List V} {ds : List Dt} : H a = some (.tup xs) → DRs H ds xs → DR H (.tup ds) (.ref a)
inductive DRs (H : Hp) : List Dt → List V → Prop
  | nil : DRs H [] []
  | cons {d : Dt} {v : V} {ds : List Dt} {vs : List V} : DR H d v → DRs H ds vs → DRs H (d :: ds) (v :: vs)
end
mutual
theorem DR.mono {H H' : Hp} (k : Tk H H') : ∀ {d : Dt} {v : V}, DR H d v → DR H' d v
  | _, _, .int i => .int i
  | _, _, .str x => .str x
  | _, _, .tup h r => .tup (k _ _ h) (DRs.mono k r)
theorem DRs.mono {H H' : Hp} (k : Tk H H') : ∀ {ds : List Dt} {vs : List V}, DRs H ds vs → DRs H' ds vs
  | _, _, .nil => .nil
  | _, _, .cons r t => .cons (DR.mono k r) (DRs.mono k t)
end
theorem DRs.length {H : Hp} : ∀ {ds : List Dt} {vs : List V}, DRs H ds vs → ds.length = vs.length
  | _, _, .nil => rfl
  | _, _, .cons _ t => congrArg (· + 1) t.length
mutual
theorem DR.inj {H : Hp} : ∀ {d e : Dt} {v : V}, DR H d v → DR H e v → d = e
  | _, _, _, .int _, .int _ => rfl
  | _, _, _, .str _, .str _ => rfl
  | _, _, _, .tup h r, .tup h' r' => by
    rw [h] at h'
    cases h'
    rw [DRs.inj r r']
theorem DRs.inj {H : Hp} : ∀ {ds es : List Dt} {vs : List V}, DRs H ds vs → DRs H es vs → ds = es
  | _, _, _, .nil, .nil => rfl
  | _, _, _, .cons r t, .cons r' t' => by rw [DR.inj r r', DRs.inj t t']
end
theorem DRs.get {H : Hp} : ∀ {ds : List Dt} {vs : List V} {j : Nat} {v : V}, DRs H ds vs → vs[j]? = some v → ∃ d, ds[j]? = some d ∧ DR H d v
  | _, _, _, _, .nil, e => by simp at e
  | _, _, 0, _, .cons r _, e => by simp at e; subst e; exact ⟨_, rfl, r⟩
  | _, _, j + 1, v, .cons _ t, e => by
    obtain ⟨d, h1, h2⟩ := DRs.get (j := j) (v := v) t (by simpa using e)
    exact ⟨d, by simpa using h1, h2⟩
theorem deep_get : ∀ {ds : List Dt} {j : Nat} {d : Dt}, ds[j]? = some d → d.deep ≤ Dt.deeps ds
  | [], _, _, h => by simp at h
  | e :: ds, 0, d, h => by simp at h; subst h; simp [Dt.deeps]; omega
  | e :: ds, j + 1, d, h => by
    have := deep_get (ds := ds) (j := j) (d := d) (by simpa using h)
    simp [Dt.deeps]; omega
section
variable {X : Cx} {pins : List (Addr × Obj)} {σ : St} {H : Hp} {s : Shared}
def rEqD (neg : Bool) : R2 := fun x y H Q => ∃ (ds es : List Dt), DR H (.tup ds) x ∧ DR H (.tup es) y ∧ (Dt.tup ds).deep ≤ 150 ∧ Q (.bl (if neg then !Dt.beqs ds es else Dt.beqs ds es)) H
end
end L2
set_option Elab.async false
set_option linter.all false
set_option maxRecDepth 100000
set_option maxHeartbeats 4000000
namespace L2
open PySem PySem.Spec PyProof.Rows
theorem itB {h h' : Heap} {a b t : Addr} {i : Nat} (x : h.IsTupleIter a t i) (e : Heap.SameBut b h h') (n : a ≠ b) : h'.IsTupleIter a t i := x.extBut e.extBut n
theorem tpB {h h' : Heap} {a b : Addr} {xs : Array Value} (x : h.IsTuple a xs) (e : Heap.SameBut b h h') (n : a ≠ b) : h'.IsTuple a xs := let ⟨o, ho, r⟩ := x; ⟨o, e.extBut a o n ho, r⟩
section
variable {prog : Program} {w : World} {A : Around} {E : Value → Shared → Prop} {s : Shared}
theorem zipT_item {z TI TO i1 i2 l1 l2 : Addr} {k : Nat} {xs ys : Array Value} {x y a b : Value} {Q : Option Value → Shared → Prop} (D : ZipApart z TI TO i1 i2 l1 l2)
    (hz : IsZip s.heap z TI TO .none) (hTI : IsPair s.heap TI (.ref i1) (.ref i2)) (hTO : IsPair s.heap TO a b) (h1 : s.heap.IsTupleIter i1 l1 k) (h2 : s.heap.IsTupleIter i2 l2 k)
    (hl1 : s.heap.IsTuple l1 xs) (hl2 : s.heap.IsTuple l2 ys) (hx : xs[k]? = some x) (hy : ys[k]? = some y)
    (hQ : ∀ h', IsZip h' z TI TO (rawInt s.heap.objs.size) → IsPair h' TO x y → h'.IsTupleIter i1 l1 (k + 1) → h'.IsTupleIter i2 l2 (k + 1) → IsPair h' s.heap.objs.size x y →
      (∀ c o, c ≠ z → c ≠ TO → c ≠ i1 → c ≠ i2 → s.heap.get? c = some o → h'.get? c = some o) → Q (some (.ref s.heap.objs.size)) { s with heap := h' }) : wpAny (model prog w) A (pyNext (.ref z)) Q E s := by
  have hT : s.TypeIs (.ref z) "zip" := ⟨_, hz, rfl⟩
  unfold pyNext
  refine wpAny_bind (wpAny_attempt (wpAny_callSpecial?_slot (name := Str.ofString "__next__") hT F.slot_zip_next (wpAny_call_entry F.slot_zip_next hT F.entry_zip_next ?_ (F.args_zip_next_1 _))))
  show wpAny _ _ (field (.ref z) 2 >>= _) _ _ _; refine wpAny_bind (wpAny_field hz rfl (x := .bool false) rfl ?_)
  show wpAny _ _ (field (.ref z) 3 >>= _) _ _ _; refine wpAny_bind (wpAny_field hz rfl (x := .ref TI) rfl ?_); refine wpAny_bind (wpAny_seqItems hTI rfl ?_)
  show wpAny _ _ (Builtin.SmallTypes.ownedTupleIsFree (.ref z) >>= _) _ _ _; refine wpAny_bind ?_; unfold Builtin.SmallTypes.ownedTupleIsFree
  refine wpAny_bind (wpAny_field hz rfl (x := .none) rfl (wpAny_pure ?_)); simp only [if_true]; refine wpAny_bind (wpAny_rule ?_); refine wpAny_bind (wpAny_field hz rfl (x := .ref TO) rfl ?_)
  refine wpAny_bind (wpAny_setField_rec hz (by simp) fun q1 hz1 hs1 => ?_); replace hz1 : IsZip q1 z TI TO .ellipsis := hz1
  refine wpAny_bind ?_; simp only [List.zipIdx_cons, List.zipIdx_nil, List.forIn_cons, List.forIn_nil]
  refine wpAny_bind (wpAny_bind (wpAny_onRaise ?_)); show wpAny _ _ (Builtin.SmallTypes.nextOf (.ref i1) >>= _) _ _ _
  refine wpAny_bind (next_tup_item (itB h1 hs1 D.i1z) (tpB hl1 hs1 D.l1z) hx fun q2 j1 hs2 => wpAny_pure ?_)
  have hTO2 : IsPair q2 TO a b := hs2.extBut _ _ D.TOi1 (hs1.extBut _ _ D.TOz hTO)
  refine wpAny_bind (wpAny_seqItems hTO2 rfl ?_); refine wpAny_bind (wpAny_updateSeq_pair hTO2 fun q3 hTO3 hs3 => ?_); replace hTO3 : IsPair q3 TO x b := hTO3
  refine wpAny_bind (wpAny_letGo (wpAny_pure ?_)); refine wpAny_bind (wpAny_bind (wpAny_onRaise ?_)); show wpAny _ _ (Builtin.SmallTypes.nextOf (.ref i2) >>= _) _ _ _
  refine wpAny_bind (next_tup_item (itB (itB (itB h2 hs1 D.i2z) hs2 D.i12.symm) hs3 D.TOi2.symm) (tpB (tpB (tpB hl2 hs1 D.l2z) hs2 D.l2i1) hs3 D.l2TO) hy fun q4 j2 hs4 => wpAny_pure ?_)
  have hTO4 : IsPair q4 TO x b := hs4.extBut _ _ D.TOi2 hTO3
  refine wpAny_bind (wpAny_seqItems hTO4 rfl ?_); refine wpAny_bind (wpAny_updateSeq_pair hTO4 fun q5 hTO5 hs5 => ?_); replace hTO5 : IsPair q5 TO x y := hTO5
  refine wpAny_bind (wpAny_letGo (wpAny_pure (wpAny_pure ?_))); refine wpAny_bind (wpAny_seqItems hTO5 rfl ?_); refine wpAny_bind (wpAny_newTuple ?_)
  have hsz : q5.objs.size = s.heap.objs.size := by rw [hs5.1, hs4.1, hs3.1, hs2.1, hs1.1]
  have hz5 : IsZip q5 z TI TO .ellipsis := hs5.extBut _ _ D.TOz.symm (hs4.extBut _ _ D.i2z.symm (hs3.extBut _ _ D.TOz.symm (hs2.extBut _ _ D.i1z.symm hz1)))
  have hk5 : ∀ c o, c ≠ z → c ≠ TO → c ≠ i1 → c ≠ i2 → s.heap.get? c = some o → q5.get? c = some o := fun c o c1 c2 c3 c4 e => hs5.extBut _ _ c2 (hs4.extBut _ _ c4 (hs3.extBut _ _ c2 (hs2.extBut _ _ c3 (hs1.extBut _ _ c1 e))))
  have j15 : q5.IsTupleIter i1 l1 (k + 1) := itB (itB (itB j1 hs3 D.TOi1.symm) hs4 D.i12) hs5 D.TOi1.symm
  have j25 : q5.IsTupleIter i2 l2 (k + 1) := itB j2 hs5 D.TOi2.symm
  have hzlt : z < q5.objs.size := Heap.lt_size hz5
  show wpAny _ _ (Builtin.SmallTypes.ownedTupleHandOut (.ref z) (.ref q5.objs.size) >>= _) _ _ _; refine wpAny_bind ?_; unfold Builtin.SmallTypes.ownedTupleHandOut
  have hz6 : IsZip (q5.push { cls := .type "tuple", data := .seq #[x, y] }) z TI TO .ellipsis := Heap.get?_push_of_some _ hz5
  refine wpAny_bind (wpAny_setField_rec hz6 (by simp) fun q7 hz7 hs7 => ?_); replace hz7 : IsZip q7 z TI TO (rawInt q5.objs.size) := hz7
  refine wpAny_setField_rec hz7 (by simp) fun q8 hz8 hs8 => ?_; replace hz8 : IsZip q8 z TI TO (rawInt q5.objs.size) := hz8
  have up : ∀ c o, c ≠ z → q5.get? c = some o → q8.get? c = some o := fun c o c1 e => hs8.extBut _ _ c1 (hs7.extBut _ _ c1 (Heap.get?_push_of_some _ e))
  have hT8 : IsPair q8 q5.objs.size x y := hs8.extBut _ _ (Nat.ne_of_gt hzlt) (hs7.extBut _ _ (Nat.ne_of_gt hzlt) (Heap.get?_push_size _ rfl))
  rw [hsz] at hz8 hT8
  refine wpAny_pure ⟨_, rfl, wpAny_pure ?_⟩
  show Q (some (.ref q5.objs.size)) _
  rw [hsz]
  exact hQ q8 hz8 (up _ _ D.TOz hTO5) (let ⟨o, e, r⟩ := j15; ⟨o, up _ o D.i1z e, r⟩) (let ⟨o, e, r⟩ := j25; ⟨o, up _ o D.i2z e, r⟩) hT8 fun c o c1 c2 c3 c4 e => up c o c1 (hk5 c o c1 c2 c3 c4 e)
theorem zipT_end {z TI TO i1 i2 l1 l2 : Addr} {k : Nat} {xs ys : Array Value} {a b : Value} {Q : Option Value → Shared → Prop} (hh : A.handled = none) (D : ZipApart z TI TO i1 i2 l1 l2)
    (hz : IsZip s.heap z TI TO .none) (hTI : IsPair s.heap TI (.ref i1) (.ref i2)) (hTO : IsPair s.heap TO a b) (h1 : s.heap.IsTupleIter i1 l1 k) (h2 : s.heap.IsTupleIter i2 l2 k)
    (hl1 : s.heap.IsTuple l1 xs) (hl2 : s.heap.IsTuple l2 ys) (hend : xs[k]? = none ∨ ys[k]? = none)
    (hQ : ∀ h', (∀ c o, c ≠ z → c ≠ TO → c ≠ i1 → c ≠ i2 → s.heap.get? c = some o → h'.get? c = some o) → Q none { s with heap := h' }) : wpAny (model prog w) A (pyNext (.ref z)) Q E s := by
  have hT : s.TypeIs (.ref z) "zip" := ⟨_, hz, rfl⟩
  unfold pyNext
  have fin : ∀ (h' : Heap) (e : Addr), (∀ c o, c ≠ z → c ≠ TO → c ≠ i1 → c ≠ i2 → s.heap.get? c = some o → h'.get? c = some o) → (∃ o, h'.get? e = some o ∧ o.cls = .type "StopIteration") →
      wpAny (model prog w) A (do if ← isInstance (.ref e) (.type "StopIteration") then pure none else throw (.ref e)) Q E { s with heap := h' } := fun h' e hk ⟨o, ho, hc⟩ =>
    wpAny_bind (wpAny_isInstance (T := "StopIteration") (b := true) ⟨o, ho, hc⟩ isSubtype_stop (wpAny_pure (hQ _ hk)))
  refine wpAny_bind (wpAny_attempt (wpAny_callSpecial?_slot (name := Str.ofString "__next__") hT F.slot_zip_next (wpAny_call_entry F.slot_zip_next hT F.entry_zip_next ?_ (F.args_zip_next_1 _))))
  show wpAny _ _ (field (.ref z) 2 >>= _) _ _ _; refine wpAny_bind (wpAny_field hz rfl (x := .bool false) rfl ?_)
  show wpAny _ _ (field (.ref z) 3 >>= _) _ _ _; refine wpAny_bind (wpAny_field hz rfl (x := .ref TI) rfl ?_); refine wpAny_bind (wpAny_seqItems hTI rfl ?_)
  show wpAny _ _ (Builtin.SmallTypes.ownedTupleIsFree (.ref z) >>= _) _ _ _; refine wpAny_bind ?_; unfold Builtin.SmallTypes.ownedTupleIsFree
  refine wpAny_bind (wpAny_field hz rfl (x := .none) rfl (wpAny_pure ?_)); simp only [if_true]; refine wpAny_bind (wpAny_rule ?_); refine wpAny_bind (wpAny_field hz rfl (x := .ref TO) rfl ?_)
  refine wpAny_bind (wpAny_setField_rec hz (by simp) fun q1 hz1 hs1 => ?_); replace hz1 : IsZip q1 z TI TO .ellipsis := hz1
  refine wpAny_bind ?_; simp only [List.zipIdx_cons, List.zipIdx_nil, List.forIn_cons, List.forIn_nil]
  refine wpAny_bind (wpAny_bind (wpAny_onRaise ?_)); show wpAny _ _ (Builtin.SmallTypes.nextOf (.ref i1) >>= _) _ _ _
  cases hx : xs[k]? with
  | none =>
    refine wpAny_bind (next_tup_end hh (itB h1 hs1 D.i1z) (tpB hl1 hs1 D.l1z) hx fun q2 e hs2 he => ?_)
    obtain ⟨oe, hoe, hce⟩ := he
    have hz2 : IsZip q2 z TI TO .ellipsis := hs2 _ _ D.i1z.symm hz1
    have hez : e ≠ z := fun x => by subst x; rw [hz2] at hoe; cases hoe; simp at hce
    exact wpAny_setField_rec hz2 (by simp) fun q3 _ hs3 => fin q3 e (fun c o c1 _ c3 _ x => hs3.extBut _ _ c1 (hs2 _ _ c3 (hs1.extBut _ _ c1 x))) ⟨oe, hs3.extBut _ _ hez hoe, hce⟩
  | some x =>
    have hy : ys[k]? = none := by rcases hend with h | h; rw [hx] at h; cases h; exact h
    refine wpAny_bind (next_tup_item (itB h1 hs1 D.i1z) (tpB hl1 hs1 D.l1z) hx fun q2 j1 hs2 => wpAny_pure ?_)
    have hTO2 : IsPair q2 TO a b := hs2.extBut _ _ D.TOi1 (hs1.extBut _ _ D.TOz hTO)
    refine wpAny_bind (wpAny_seqItems hTO2 rfl ?_); refine wpAny_bind (wpAny_updateSeq_pair hTO2 fun q3 hTO3 hs3 => ?_)
    refine wpAny_bind (wpAny_letGo (wpAny_pure ?_)); refine wpAny_bind (wpAny_bind (wpAny_onRaise ?_)); show wpAny _ _ (Builtin.SmallTypes.nextOf (.ref i2) >>= _) _ _ _
    refine wpAny_bind (next_tup_end hh (itB (itB (itB h2 hs1 D.i2z) hs2 D.i12.symm) hs3 D.TOi2.symm) (tpB (tpB (tpB hl2 hs1 D.l2z) hs2 D.l2i1) hs3 D.l2TO) hy fun q4 e hs4 he => ?_)
    obtain ⟨oe, hoe, hce⟩ := he
    have hz4 : IsZip q4 z TI TO .ellipsis := hs4 _ _ D.i2z.symm (hs3.extBut _ _ D.TOz.symm (hs2.extBut _ _ D.i1z.symm hz1))
    have hez : e ≠ z := fun x => by subst x; rw [hz4] at hoe; cases hoe; simp at hce
    exact wpAny_setField_rec hz4 (by simp) fun q5 _ hs5 => fin q5 e (fun c o c1 c2 c3 c4 x => hs5.extBut _ _ c1 (hs4 _ _ c4 (hs3.extBut _ _ c2 (hs2.extBut _ _ c3 (hs1.extBut _ _ c1 x))))) ⟨oe, hs5.extBut _ _ hez hoe, hce⟩
end
theorem meets_zipT (l1 l2 : Addr) (xs ys : Array Value) :
    Meets (Builtin.«zip.__new__» ⟨[.type "zip", .ref l1, .ref l2], []⟩) (fun _ R s => s.heap.IsTuple l1 xs ∧ s.heap.IsTuple l2 ys ∧
      ∀ (h' : Heap) (z TI TO i1 i2 : Addr), (∀ c o, s.heap.get? c = some o → h'.get? c = some o) → s.heap.objs.size ≤ z → s.heap.objs.size ≤ TI → s.heap.objs.size ≤ TO → s.heap.objs.size ≤ i1 → s.heap.objs.size ≤ i2 →
        (TI ≠ z ∧ TO ≠ z ∧ i1 ≠ z ∧ i2 ≠ z ∧ TI ≠ TO ∧ TI ≠ i1 ∧ TI ≠ i2 ∧ TO ≠ i1 ∧ TO ≠ i2 ∧ i1 ≠ i2) → IsZip h' z TI TO .none → IsPair h' TI (.ref i1) (.ref i2) → IsPair h' TO .none .none → h'.IsTupleIter i1 l1 0 → h'.IsTupleIter i2 l2 0 →
        R (.ok (.ret (.ref z))) { s with heap := h' }) :=
  .of_wp fun prog w A R s h => by
    obtain ⟨hp, g, d, tk, os⟩ := s; obtain ⟨hl1, hl2, h⟩ := h; have hsub := sub_zip
    have hL1 : Heap.IsTuple (Shared.heap ⟨hp, g, d, tk, os⟩) l1 xs := hl1
    have hL2 : Heap.IsTuple (Shared.heap ⟨hp.push { cls := .type "tuple_iterator", data := .fields #[.ref l1, .int 0 0] }, g, d, tk, os⟩) l2 ys := let ⟨o, ho, r⟩ := hl2; ⟨o, Heap.get?_push_of_some _ ho, r⟩
    wp_walk using wpAny_pyIter_tuple hL1, wpAny_pyIter_tuple hL2
    refine ⟨_, rfl, h _ _ _ _ _ _ (fun c o e => Heap.get?_push_of_some _ (Heap.get?_push_of_some _ (Heap.get?_push_of_some _ (Heap.get?_push_of_some _ (Heap.get?_push_of_some _ e))))) ?_ ?_ ?_ ?_ ?_ ?_ (Heap.get?_push_size _ rfl) (Heap.get?_push_of_some _ (Heap.get?_push_of_some _ (Heap.get?_push_size _ rfl))) (Heap.get?_push_of_some _ (Heap.get?_push_size _ rfl))
      ⟨_, Heap.get?_push_of_some _ (Heap.get?_push_of_some _ (Heap.get?_push_of_some _ (Heap.get?_push_of_some _ (Heap.get?_push_size _ rfl)))), rfl, rfl⟩ ⟨_, Heap.get?_push_of_some _ (Heap.get?_push_of_some _ (Heap.get?_push_of_some _ (Heap.get?_push_size _ rfl))), rfl, rfl⟩⟩
    all_goals simp only [Heap.size_push]
    all_goals first
      | omega
      | (refine ⟨?_, ?_, ?_, ?_, ?_, ?_, ?_, ?_, ?_, ?_⟩ <;> (intro e; have e' : @Eq Nat _ _ := e; omega))
section
variable {prog : Program} {w : World} {A : Around} {E : Value → Shared → Prop} {s : Shared}
theorem call_zipT {l1 l2 : Addr} {xs ys : Array Value} {Q : Value → Shared → Prop} (hl1 : s.heap.IsTuple l1 xs) (hl2 : s.heap.IsTuple l2 ys)
    (h : ∀ (h' : Heap) (z TI TO i1 i2 : Addr), (∀ c o, s.heap.get? c = some o → h'.get? c = some o) → s.heap.objs.size ≤ z → s.heap.objs.size ≤ TI → s.heap.objs.size ≤ TO → s.heap.objs.size ≤ i1 → s.heap.objs.size ≤ i2 →
        (TI ≠ z ∧ TO ≠ z ∧ i1 ≠ z ∧ i2 ≠ z ∧ TI ≠ TO ∧ TI ≠ i1 ∧ TI ≠ i2 ∧ TO ≠ i1 ∧ TO ≠ i2 ∧ i1 ≠ i2) → IsZip h' z TI TO .none → IsPair h' TI (.ref i1) (.ref i2) → IsPair h' TO .none .none → h'.IsTupleIter i1 l1 0 → h'.IsTupleIter i2 l2 0 → Q (.ref z) { s with heap := h' }) :
    wpAny (model prog w) A (call (.type "zip") [.ref l1, .ref l2]) Q E s := by
  refine callType_new F.called_zip (by decide) (F.typeCall_zip_2 _ _) (F.newCall_zip_2 _ _) (fun obj => F.args_object_init_3 obj _ _) F.entry_zip_new (meets_zipT l1 l2 xs ys) ⟨hl1, hl2, fun h' z TI TO i1 i2 a0 a1 a2 a3 a4 a5 a6 a7 a8 a9 b1 b2 => ?_⟩
  exact ⟨⟨_, a7, rfl⟩, h h' z TI TO i1 i2 a0 a1 a2 a3 a4 a5 a6 a7 a8 a9 b1 b2⟩
end
def Itz (a b : Addr) : It :=
  ⟨fun i H => ∃ xs ys x y, H a = some (.tup xs) ∧ H b = some (.tup ys) ∧ xs[i]? = some x ∧ ys[i]? = some y,
   fun i H v H' => ∃ T x y, H T = none ∧ v = .ref T ∧ H' = upd H T (.tup [x, y]) ∧ (∀ xs, H a = some (.tup xs) → xs[i]? = some x) ∧ ∀ ys, H b = some (.tup ys) → ys[i]? = some y,
   fun i H => ∃ xs ys, H a = some (.tup xs) ∧ H b = some (.tup ys) ∧ (xs.length ≤ i ∨ ys.length ≤ i)⟩
theorem turn_zip {P : Program} {w : World} {K : PySem.W.Frag} {es : List Expr} {kk : Nat} {pos : Pos} (a b z TI TO i1 i2 : Addr)
    (ap : TI ≠ z ∧ TO ≠ z ∧ i1 ≠ z ∧ i2 ≠ z ∧ TI ≠ TO ∧ TI ≠ i1 ∧ TI ≠ i2 ∧ TO ≠ i1 ∧ TO ≠ i2 ∧ i1 ≠ i2) :
    Turn P w K (.Tuple es kk pos) (Itz a b) [z, TI, TO, i1, i2] z (fun i h => IsZip h z TI TO .none ∧ IsPair h TI (.ref i1) (.ref i2) ∧ (∃ p q, IsPair h TO p q) ∧ h.IsTupleIter i1 a i ∧ h.IsTupleIter i2 b i) where
  mem := by simp
  obj := fun i h st c hc => by
    obtain ⟨hz, hTI, ⟨p, q, hTO⟩, ⟨o1, e1, c1, d1⟩, o2, e2, c2, d2⟩ := st
    simp only [List.mem_cons, List.not_mem_nil, or_false] at hc
    rcases hc with rfl | rfl | rfl | rfl | rfl
    · exact ⟨_, hz, fun v z => by have z' : Data.fields _ = Data.cell v := z; cases z'⟩
    · exact ⟨_, hTI, fun v z => by have z' : Data.seq _ _ = Data.cell v := z; cases z'⟩
    · exact ⟨_, hTO, fun v z => by have z' : Data.seq _ _ = Data.cell v := z; cases z'⟩
    · exact ⟨o1, e1, fun v z => by rw [d1] at z; cases z⟩
    · exact ⟨o2, e2, fun v z => by rw [d2] at z; cases z⟩
  keep := fun i h h' st k => by
    obtain ⟨hz, hTI, ⟨p, q, hTO⟩, ⟨o1, e1, r1⟩, o2, e2, r2⟩ := st
    exact ⟨k z (by simp) _ hz, k TI (by simp) _ hTI, ⟨p, q, k TO (by simp) _ hTO⟩, ⟨o1, k i1 (by simp) _ e1, r1⟩, o2, k i2 (by simp) _ e2, r2⟩
  item := by
    intro X hP hw hK hc i pins s σ H E I hf st hg
    subst hP hw hK
    obtain ⟨xs, ys, x, y, ha, hb, hx, hy⟩ := hg
    obtain ⟨hz, hTI, ⟨p, q, hTO⟩, h1, h2⟩ := st
    obtain ⟨its, rv, t1, _⟩ := I.tuple (SqT.of ha)
    obtain ⟨its2, rv2, t2, _⟩ := I.tuple (SqT.of hb)
    obtain ⟨u, hu, ru⟩ := rv.get hx
    obtain ⟨u2, hu2, ru2⟩ := rv2.get hy
    obtain ⟨n1, n2, n3, n4, n5, n6, n7, n8, n9, n10⟩ := ap
    have ne : ∀ {c d : Addr} {o : HO}, H c = some o → d ∈ [z, TI, TO, i1, i2] → c ≠ d := fun e hd => ne_of_none e (hf _ hd).1
    have D : ZipApart z TI TO i1 i2 a b := ⟨n1, n2, n3, n4, n5, n6, n7, n8, n9, n10, ne ha (by simp), ne ha (by simp), ne ha (by simp), ne ha (by simp), ne hb (by simp), ne hb (by simp), ne hb (by simp), ne hb (by simp)⟩
    refine zipT_item D hz hTI hTO h1 h2 (show s.heap.IsTuple a its.toArray from t1) (show s.heap.IsTuple b its2.toArray from t2) (by simpa using hu) (by simpa using hu2) fun q1 hz1 hTO1 j1 j2 hT hk => ⟨_, rfl, ?_⟩
    have hn : H s.heap.objs.size = none := I.fresh
    have hT1 : IsPair q1 TI (.ref i1) (.ref i2) := hk _ _ n1 n5 n6 n7 hTI
    have neT : ∀ c ∈ [z, TI, TO, i1, i2], c ≠ s.heap.objs.size := fun c hc => by
      simp only [List.mem_cons, List.not_mem_nil, or_false] at hc
      rcases hc with rfl | rfl | rfl | rfl | rfl
      · exact Nat.ne_of_lt (Heap.lt_size (show s.heap.get? _ = some _ from hz))
      · exact Nat.ne_of_lt (Heap.lt_size (show s.heap.get? _ = some _ from hTI))
      · exact Nat.ne_of_lt (Heap.lt_size (show s.heap.get? _ = some _ from hTO))
      · obtain ⟨_, e, _⟩ := h1; exact Nat.ne_of_lt (Heap.lt_size e)
      · obtain ⟨_, e, _⟩ := h2; exact Nat.ne_of_lt (Heap.lt_size e)
    have I1 : Inv X pins σ (upd H s.heap.objs.size (.tup [x, y])) { s with heap := q1, toks := s.toks } := I.turnedL (ch := [z, TO, i1, i2]) (fun c o hc e => hk c o (fun q => hc (by simp [q])) (fun q => hc (by simp [q])) (fun q => hc (by simp [q])) (fun q => hc (by simp [q])) e)
      (fun c hc => hf c (by simp at hc ⊢; rcases hc with r | r | r | r <;> simp [r])) (Nat.le_refl _) ⟨Nat.le_of_lt (small1000 (show 2 ≤ 1000 by decide)), [u, u2], .cons ru (.cons ru2 .nil), _, hT, rfl, _, rfl⟩
    refine wpAny_letOwnedTupleGo_zip (s := { s with heap := q1 }) hz1 fun q2 hz2 hs2 => ⟨.ref s.heap.objs.size, _, ?_, rfl, ⟨_, x, y, hn, rfl, rfl, fun ws e => by rw [ha] at e; cases e; exact hx, fun ws e => by rw [hb] at e; cases e; exact hy⟩, ⟨hz2, hs2.extBut _ _ n1 hT1, ⟨_, _, hs2.extBut _ _ n2 hTO1⟩, itB j1 hs2 n3, itB j2 hs2 n4⟩, fun c hc => ?_⟩
    · refine I1.turnedN (t' := s.toks) (ch := [z]) (fun c o hc e => (hs2.2 c (fun q => hc (by simp [q]))).trans e) fun c hc => ?_
      have ec := List.mem_singleton.mp hc
      subst ec
      obtain ⟨f0, f⟩ := hf c (by simp)
      exact ⟨by rw [upd_ne (neT c (by simp))]; exact f0, f⟩
    · rw [upd_ne (neT c hc)]; exact (hf c hc).1
  done := by
    intro X hP hw hK hc i pins s σ H E I hf st hg
    subst hP hw hK
    obtain ⟨xs, ys, ha, hb, hend⟩ := hg
    obtain ⟨hz, hTI, ⟨p, q, hTO⟩, h1, h2⟩ := st
    obtain ⟨its, rv, t1, _⟩ := I.tuple (SqT.of ha)
    obtain ⟨its2, rv2, t2, _⟩ := I.tuple (SqT.of hb)
    have l1 := rv.length
    have l2 := rv2.length
    obtain ⟨n1, n2, n3, n4, n5, n6, n7, n8, n9, n10⟩ := ap
    have ne : ∀ {c d : Addr} {o : HO}, H c = some o → d ∈ [z, TI, TO, i1, i2] → c ≠ d := fun e hd => ne_of_none e (hf _ hd).1
    have D : ZipApart z TI TO i1 i2 a b := ⟨n1, n2, n3, n4, n5, n6, n7, n8, n9, n10, ne ha (by simp), ne ha (by simp), ne ha (by simp), ne ha (by simp), ne hb (by simp), ne hb (by simp), ne hb (by simp), ne hb (by simp)⟩
    refine zipT_end (I.ok.hd hc) D hz hTI hTO h1 h2 (show s.heap.IsTuple a its.toArray from t1) (show s.heap.IsTuple b its2.toArray from t2) ?_ fun q1 hk => ⟨rfl, ?_⟩
    · rcases hend with h | h
      · exact .inl (by simp; omega)
      · exact .inr (by simp; omega)
    · exact I.turnedN (t' := s.toks) (ch := [z, TO, i1, i2]) (fun c o hc e => hk c o (fun q => hc (by simp [q])) (fun q => hc (by simp [q])) (fun q => hc (by simp [q])) (fun q => hc (by simp [q])) e) (fun c hc => hf c (by simp at hc ⊢; rcases hc with r | r | r | r <;> simp [r]))
  self := fun _ _ _ _ _ st h => wpAny_pyIter_zip st.1 h
theorem boot_zip' : bootBuiltins "zip" = some (.type "zip") := by decide +kernel
def iZip (ta : TA) : TI := fun σ H R => ta σ H fun vs H1 => ∃ a b xs ys, vs = [.ref a, .ref b] ∧ H1 a = some (.tup xs) ∧ H1 b = some (.tup ys) ∧ R (Itz a b) H1
theorem pi_zip {X : Cx} {es : List Expr} {k : Nat} {tpos : Pos} {a b : Expr} {ta : TA} {p pos : Pos} (hg : Gl X "zip") (hm : X.mg "zip" = none) (ha : PA X [a, b] ta) (hs : starEach [a, b] X.env = [(false, eval a X.env), (false, eval b X.env)] := by rfl) (hs2 : starEach [b] X.env = [(false, eval b X.env)] := by rfl) :
    PI X (.Tuple es k tpos) (.Call (.Name "zip" p) [a, b] [] pos) (iZip ta) := by
  intro pins s σ H R I h
  refine Call_ (ld_blt I hg hm boot_zip' (PyProof.Rows.callWith_type1 (thn (ha pos pins s σ H _ I h) fun us s1 ⟨vs, H1, I1, r1, q1⟩ => ?_) (by rw [hs, hs2]) (by rw [hs2]; rfl)))
  obtain ⟨l1, l2, xs, ys, e, h1, h2, q⟩ := q1
  subst e
  obtain ⟨u, w', rfl, ru, rw'⟩ := vals2 r1
  cases ru
  cases rw'
  obtain ⟨its, rv, t1, _⟩ := I1.tuple (SqT.of h1)
  obtain ⟨its2, rv2, t2, _⟩ := I1.tuple (SqT.of h2)
  refine call_zipT (show s1.heap.IsTuple l1 its.toArray from t1) (show s1.heap.IsTuple l2 its2.toArray from t2) fun h' z TI TO i1 i2 a0 a1 a2 a3 a4 a5 a6 a7 a8 a9 b1 b2 => ?_
  refine wpAny_pyIter_zip a7 ⟨_, [z, TI, TO, i1, i2], _, _, H1, rfl, I1.kept (t' := s1.toks) a0, turn_zip l1 l2 z TI TO i1 i2 a6, ⟨a7, a8, ⟨_, _, a9⟩, b1, b2⟩, fun c hc => ?_, q⟩
  have ge : s1.heap.objs.size ≤ c := by
    simp only [List.mem_cons, List.not_mem_nil, or_false] at hc
    rcases hc with rfl | rfl | rfl | rfl | rfl <;> assumption
  exact I1.fpOk ge (I1.hok.fresh ge)
theorem for_zip {a b : Addr} {xs ys : List V} {g : TG} {tb : TS} {D : Ends} {σ : St} {H : Hp} (Pv : Nat → St → Hp → Prop) (h0 : Pv 0 σ H) (hl : ∀ i σ H, i ≤ min xs.length ys.length → Pv i σ H → H a = some (.tup xs) ∧ H b = some (.tup ys))
    (hs : ∀ i x y T σ H, xs[i]? = some x → ys[i]? = some y → Pv i σ H → H T = none → g (.ref T) σ (upd H T (.tup [x, y])) fun σ2 H2 => tb { D with nx := Pv (i + 1), ct := Pv (i + 1), bk := D.nx } σ2 H2) (hd : ∀ σ H, Pv (min xs.length ys.length) σ H → D.nx σ H) :
    ∃ W : Nat → Nat → St → Hp → Prop, (∃ m, W 0 m σ H) ∧ ∀ i m σ H, W i m σ H →
      ((Itz a b).stop i H ∧ D.nx σ H) ∨ ((Itz a b).go i H ∧ ∃ N : St → Hp → Prop, (∀ σ' H', N σ' H' → ∃ m', m' < m ∧ W (i + 1) m' σ' H') ∧ ∀ x H', (Itz a b).yld i H x H' → g x σ H' fun σ2 H2 => tb { D with nx := N, ct := N, bk := D.nx } σ2 H2) := by
  refine ⟨fun i m σ H => m = min xs.length ys.length - i ∧ i ≤ min xs.length ys.length ∧ Pv i σ H, ⟨min xs.length ys.length, by simp, Nat.zero_le _, h0⟩, ?_⟩
  rintro i m σ H ⟨rfl, hi, p⟩
  obtain ⟨ha, hb⟩ := hl i σ H hi p
  by_cases hlt : i < min xs.length ys.length
  · have hx : i < xs.length := by omega
    have hy : i < ys.length := by omega
    refine .inr ⟨⟨xs, ys, xs[i], ys[i], ha, hb, by simp [hx], by simp [hy]⟩, Pv (i + 1), fun σ' H' p' => ⟨min xs.length ys.length - (i + 1), by omega, rfl, hlt, p'⟩, fun x H' y => ?_⟩
    obtain ⟨T, u, v, hT, ex, eH, e1, e2⟩ := y
    subst ex eH
    exact hs i u v T σ H (e1 xs ha) (e2 ys hb) p hT
  · have e : i = min xs.length ys.length := by omega
    subst e
    exact .inl ⟨⟨xs, ys, ha, hb, by omega⟩, hd σ H p⟩
end L2
set_option Elab.async false
set_option linter.all false
set_option maxRecDepth 100000
set_option maxHeartbeats 4000000
namespace L2
open PySem PySem.Spec PyProof.Rows
def Itzl (K : PySem.W.Frag) (a b : Addr) : It :=
  ⟨fun i H => ∃ xs ys x y, H a = some (.lst xs) ∧ H b = some (.lst ys) ∧ xs[i]? = some x ∧ ys[i]? = some y,
   fun i H v H' => ∃ T x y, H T = none ∧ v = .ref T ∧ H' = upd H T (.tup [x, y]) ∧ (∀ xs, H a = some (.lst xs) → xs[i]? = some x) ∧ ∀ ys, H b = some (.lst ys) → ys[i]? = some y,
   fun i H => ∃ xs ys, H a = some (.lst xs) ∧ H b = some (.lst ys) ∧ (xs.length ≤ i ∨ ys.length ≤ i)⟩
def iZipL (K : PySem.W.Frag) (ta : TA) : TI := fun σ H R => ta σ H fun vs H1 => ∃ a b xs ys, vs = [.ref a, .ref b] ∧ H1 a = some (.lst xs) ∧ H1 b = some (.lst ys) ∧ R (Itzl K a b) H1
def Itd (o : Obj) (a : Addr) (kvs : List (Key × V)) : It :=
  ⟨fun i H => H a = some (.frz o (.dK kvs)) ∧ i < kvs.length, fun i H x H' => H' = H ∧ ∃ p, kvs[i]? = some p ∧ x = kV p.1, fun i H => H a = some (.frz o (.dK kvs)) ∧ kvs.length ≤ i⟩
def iDict (tl : TE) : TI := fun σ H R => tl σ H fun x H1 => ∃ a kvs, x = .ref a ∧ ((∃ o, H1 a = some (.frz o (.dK kvs)) ∧ R (Itd o a kvs) H1) ∨ (H1 a = some (.dK kvs) ∧ ∀ o, R (Itd o a kvs) (upd H1 a (.frz o (.dK kvs)))))
end L2
set_option Elab.async false
set_option linter.all false
set_option maxRecDepth 100000
set_option maxHeartbeats 4000000
namespace L2
open PySem PySem.Spec PyProof.Rows
section
variable {X : Cx}
def CMulC (i j : Int) : Prop := i.natAbs < 2 ^ 500 ∧ j.natAbs < 2 ^ 500
structure KDic (K : PySem.W.Frag) (P : Params) (d : Addr) : Prop where
  ex : ∃ (es : Array DictEntry) (n : Nat), K.lookup d = some ⟨.type "dict", none, .dict es n, #[]⟩ ∧ PySem.W.KeysLit P es.toList
  sy : (d == sysModules) = false
def rNotInK (d : Addr) : R2 := fun x y H Q => ∃ (z : Str) (r : Option Value), x = .str z ∧ y = .ref d ∧ PySem.W.nsIn X.K d z = some r ∧ Q (.bl (!r.isSome)) H
def rIxK (d : Addr) : R2 := fun x y H Q => ∃ (z : Str) (r : Value) (v : V), x = .ref d ∧ y = .str z ∧ PySem.W.nsIn X.K d z = some (some r) ∧ RelV v r ∧ Q v H
theorem op_eqE (hu : X.A.units < cLine) : OpR X (compareOp .Eq) (fun x y H Q => ∃ (a b : Addr) (xs : List V), x = .ref a ∧ y = .ref b ∧ H a = some (.tup xs) ∧ H b = some (.tup []) ∧ Q (.bl (xs.length == 0)) H) := by
  intro pins s σ H x y v u Q I rx ry h
  obtain ⟨a, b, xs, rfl, rfl, ha, hb, q⟩ := h
  cases rx
  cases ry
  obtain ⟨its, rv, p, _⟩ := I.tuple (SqT.of ha)
  obtain ⟨its2, rv2, p2, _⟩ := I.tuple (SqT.of hb)
  have l1 := rv.length
  have l2 := rv2.length
  have z2 : its2.toArray.size = 0 := by rw [List.size_toArray]; exact l2.symm
  refine SeqAt.eq_tupleAt (e := fun _ => true) (show s.heap.IsTuple a its.toArray from p) (show s.heap.IsTuple b its2.toArray from p2) hu (fun j _ h2 => absurd h2 (by omega)) ?_
  have e : ((List.range (min its.toArray.size its2.toArray.size)).all (fun _ => true) && its.toArray.size == its2.toArray.size) = (xs.length == 0) := by
    rw [z2, List.size_toArray, ← l1]
    simp
  rw [e]
  exact ⟨.bl (xs.length == 0), H, I, rfl, q⟩
def rSlW : V → Option Int → Option Int → Hp → VK → Prop := fun x lo hi H Q => ∃ a xs, x = .ref a ∧ H a = some (.tup xs) ∧ ∀ p H', Same H H' → H' p = some (.tup (cutV xs lo hi)) → Q (.ref p) H'
end
structure Sd (p : Prop) : Prop where
  un : p
section
variable {X : Cx} {st : Stmt} {rest : List Stmt} {t u : TS} {e a b : Expr} {es : List Expr} {te ta tb : TE} {tA : TA} {pos : Pos}
theorem pss_consS (h1 : Sd (PS X st t)) (h2 : Sd (PSs X rest u)) : Sd (PSs X (st :: rest) (tSeq t u)) := ⟨pss_cons h1.un h2.un⟩
theorem pss_oneS (h1 : Sd (PS X st t)) : Sd (PSs X [st] t) := ⟨pss_one h1.un⟩
theorem ps_ifS {c : Expr} {x y : List Stmt} {tc : TT} (hc : Sd (PT X c tc)) (ha : Sd (PSs X x t)) (hb : Sd (PSs X y u)) : Sd (PS X (.If c x y pos) (tIfS tc t u)) := ⟨ps_if hc.un ha.un hb.un⟩
theorem ps_retS (he : Sd (PE X e te)) : Sd (PS X (.Return (some e) pos) (tRet te)) := ⟨ps_ret he.un⟩
theorem ps_setS {i : Nat} {x : Str} {pos' : Pos} (hN : X.N.Nodup) (hi : X.N[i]? = some x) (hx : Loc X.env.scope x) (he : Sd (PE X e te)) (hs : swapsWith e (some (.Name x pos')) pos.line X.env = pure false := by rfl) (hf : X.fn x = true ∨ X.env.scope.names.lookup x = some .local := by first | exact .inl rfl | exact .inr rfl | assumption) :
    Sd (PS X (.Assign [.Name x pos'] e pos) (tAsg te (gName i))) := ⟨ps_set hN hi hx he.un hs hf⟩
theorem pe_tupS {k : Nat} (h : Sd (PA X es tA)) : Sd (PE X (.Tuple es k pos) (tTup tA)) := ⟨pe_tup h.un⟩
theorem pa_consS (ha : Sd (PE X e te)) (hr : Sd (PA X es tA)) (hs : starEach (e :: es) X.env = (false, eval e X.env) :: starEach es X.env := by rfl) : Sd (PA X (e :: es) (tCons te tA)) := ⟨pa_cons ha.un hr.un hs⟩
theorem pe_ixS {r : R2} (hr : IxR X r) (ha : Sd (PE X a ta)) (hb : Sd (PE X b tb)) (hs : PlainIx b) : Sd (PE X (.Subscript a b pos) (tOp r ta tb)) := ⟨pe_ix hr ha.un hb.un hs⟩
end
end L2
set_option Elab.async false
set_option linter.all false
set_option maxRecDepth 100000
set_option maxHeartbeats 4000000
namespace L2
open PySem PySem.Spec PyProof.Rows
section
variable {prog : Program} {w : World} {A : Around} {E : Value → Shared → Prop} {s : Shared}
abbrev ZipF (h : Heap) (z TI TO : Addr) (f0 : Value) (f1 : Bool) : Prop := h.get? z = some { cls := .type "zip", data := .fields #[f0, .bool f1, .bool false, .ref TI, .ref TO] }
def ZipS (h : Heap) (z TI TO : Addr) : Prop := ∃ f0 f1, ZipF h z TI TO f0 f1 ∧ (f0 = .none ∨ ∃ n : Nat, f0 = rawInt n)
theorem wpAny_alive {M : Model} {a : Addr} {Q : Option Obj → Shared → Prop} (h : Q (s.heap.get? a) s) : wpAny M A (loadIfAlive a) Q E s := by
  intro Γ p hΓ
  show Sem.wp M Γ (Sem.loadIfAlive a pure) _ _ p s
  rw [Sem.wp_loadIfAlive]
  exact h
theorem zip_free {z TI TO : Addr} {f0 : Value} {f1 : Bool} {Q : Bool → Shared → Prop} (hz : ZipF s.heap z TI TO f0 f1) (hf : f0 = .none ∨ ∃ n : Nat, f0 = rawInt n) (h1 : Q true s)
    (h2 : ∀ h', ZipF h' z TI TO f0 true → Heap.SameBut z s.heap h' → Q false { s with heap := h' }) : wpAny (model prog w) A (Builtin.SmallTypes.ownedTupleIsFree (.ref z)) Q E s := by
  unfold Builtin.SmallTypes.ownedTupleIsFree
  refine wpAny_bind (wpAny_field hz rfl (x := f0) rfl ?_)
  rcases hf with rfl | ⟨n, rfl⟩
  · exact wpAny_pure h1
  · show wpAny _ _ (loadIfAlive ((n : Int)).toNat >>= _) _ _ _
    refine wpAny_bind (wpAny_alive ?_)
    cases hg : s.heap.get? ((n : Int)).toNat with
    | none => exact wpAny_pure h1
    | some o =>
      show wpAny _ _ (field (.ref z) 1 >>= _) _ _ _
      refine wpAny_bind (wpAny_field hz rfl (x := .bool f1) rfl ?_)
      cases f1 with
      | true => exact wpAny_pure (h2 s.heap hz ⟨rfl, fun _ _ => rfl⟩)
      | false =>
        show wpAny _ _ (setField (.ref z) 1 (.bool true) >>= _) _ _ _
        exact wpAny_bind (wpAny_setField_rec hz (by simp) fun q hz1 hs1 => wpAny_pure (h2 q hz1 hs1))
end
def Itez (a b : Addr) : It :=
  ⟨fun i H => ∃ xs ys x y, H a = some (.tup xs) ∧ H b = some (.tup ys) ∧ xs[i]? = some x ∧ ys[i]? = some y,
   fun i H v H' => ∃ T U x y, H U = none ∧ (upd H U (.tup [x, y])) T = none ∧ v = .ref T ∧ H' = upd (upd H U (.tup [x, y])) T (.tup [.int i, .ref U]) ∧ (∀ xs, H a = some (.tup xs) → xs[i]? = some x) ∧ ∀ ys, H b = some (.tup ys) → ys[i]? = some y,
   fun i H => ∃ xs ys, H a = some (.tup xs) ∧ H b = some (.tup ys) ∧ (xs.length ≤ i ∨ ys.length ≤ i)⟩
abbrev EnZ (a b e z TI TO i1 i2 : Addr) (i : Nat) (h : Heap) : Prop := (∃ old, IsEnum h e z i old) ∧ ZipS h z TI TO ∧ IsPair h TI (.ref i1) (.ref i2) ∧ (∃ p q, IsPair h TO p q) ∧ h.IsTupleIter i1 a i ∧ h.IsTupleIter i2 b i
def iEnumZip (ta : TA) : TI := fun σ H R => ta σ H fun vs H1 => ∃ a b xs ys, vs = [.ref a, .ref b] ∧ H1 a = some (.tup xs) ∧ H1 b = some (.tup ys) ∧ R (Itez a b) H1
end L2
set_option Elab.async false
set_option linter.all false
namespace L2
open PySem PySem.Spec PyProof.Rows
section
variable {X : Cx}
def rMulT : R2 := fun x y H Q => ∃ (a : Addr) (v : V), x = .ref a ∧ H a = some (.tup [v]) ∧ ((y = .int 1 ∧ Q (.ref a) H) ∨ (y = .int 0 ∧ ∀ p, H p = none → Q (.ref p) (upd H p (.tup []))))
end
section
variable {prog : Program} {w : World} {A : Around} {E : Value → Shared → Prop} {s : Shared}
end
def tTupRev (ta : TA) : TE := fun σ H Q => ta σ H fun vs H1 => ∃ a xs, vs = [.ref a] ∧ H1 a = some (.tup xs) ∧ xs.length ≤ 8 ∧ ∀ p, H1 p = none → Q (.ref p) (upd H1 p (.tup xs.reverse))
end L2
set_option Elab.async false
set_option linter.all false
set_option maxRecDepth 100000
set_option maxHeartbeats 4000000
namespace L2
open PySem PySem.Spec PyProof.Rows
section
variable {X : Cx}
end
end L2
set_option Elab.async false
set_option linter.all false
set_option maxRecDepth 100000
set_option maxHeartbeats 4000000
namespace L2
open PySem PySem.Spec PyProof.Rows
section
variable {X : Cx}
def rInD (X : Cx) (neg : Bool) : R2 := fun x y H Q => ∃ (p : Addr) (xs : List V) (ds : List Dt) (dx : Dt), y = .ref p ∧ SqT X.K H p xs ∧ DRs H ds xs ∧ DR H dx x ∧ Dt.deeps ds ≤ 100 ∧ Q (.bl (if neg then !ds.any (fun d => Dt.beq d dx) else ds.any (fun d => Dt.beq d dx))) H
open Classical in
noncomputable def eqW (H : Hp) (dx : Dt) (w : Value) : Bool := decide (∃ x d, RelV x w ∧ DR H d x ∧ Dt.beq d dx = true)
end
end L2
set_option linter.all false
set_option maxRecDepth 100000
set_option maxHeartbeats 4000000
namespace PySem
open Sem (wp)
namespace F
end F
section
variable {prog : Program} {w : World} {K : Type} [DecidableEq K] {knd : KeyKind prog w K} {A : Around} {R : Result → Shared → Prop} {E : Value → Shared → Prop}
def PairsIn (knd : KeyKind prog w K) (h : Heap) (its : List Value) (prs : List (K × Value)) : Prop :=
  its.length = prs.length ∧ ∀ (i : Nat) (x : Value), its[i]? = some x → ∃ (pa : Addr) (key : Value) (kv : K × Value), x = Value.ref pa ∧ prs[i]? = some kv ∧ h.IsTuple pa #[key, kv.2] ∧ knd.is kv.1 key = true
end
end PySem
set_option Elab.async false
set_option linter.all false
set_option maxRecDepth 100000
set_option maxHeartbeats 4000000
namespace L2
open PySem PySem.Spec PyProof.Rows
section
variable {X : Cx}
def rDUpd : V → List V → Hp → VK → Prop := fun x vs H Q => ∃ (a b : Addr) (ka kb : List (Key × V)), x = .ref a ∧ vs = [.ref b] ∧ a ≠ b ∧ H a = some (.dK ka) ∧ H b = some (.dK kb) ∧ ka.length + kb.length ≤ sizeLine ∧ Q .non (upd H a (.dK (mergeK ka kb)))
def PrV (H : Hp) (y : V) (kv : Key × V) : Prop := ∃ b, y = .ref b ∧ H b = some (.tup [kV kv.1, kv.2])
def rDictP : List V → Hp → VK → Prop := fun xs H Q => ∃ (a : Addr) (o : Obj) (ys : List V) (kvs : List (Key × V)), xs = [.ref a] ∧ H a = some (.frz o (.tup ys)) ∧ o.dict = none ∧ Paired (PrV H) ys kvs ∧ kvs.length ≤ 1000 ∧ ∀ p, H p = none → Q (.ref p) (upd H p (.dK (mergeK [] kvs)))
end
end L2
set_option linter.all false
set_option maxRecDepth 100000
set_option maxHeartbeats 4000000
namespace L2
open PySem PySem.W PyProof.Rows
def Ev (r : Nat → Nat → Bool) (n : Nat) {α : Type} : KasT α → (α → Prop) → Prop
  | .ret a, Q => Q a
  | .ask i j k, Q => i < n ∧ j < n ∧ i ≠ j ∧ Ev r n (k (r i j)) Q
structure Ord (n : Nat) (r : Nat → Nat → Bool) : Prop where
  tot : ∀ i j, i < n → j < n → i ≠ j → r i j = false → r j i = true
  asym : ∀ i j, i < n → j < n → r i j = true → r j i = false
  trans : ∀ i j k, i < n → j < n → k < n → r i j = true → r j k = true → r i k = true
section
variable {n : Nat} {r : Nat → Nat → Bool}
abbrev lt (r : Nat → Nat → Bool) (p : Array Nat) (i j : Nat) : Bool := r (p.getD i 0) (p.getD j 0)
def PermN (n : Nat) (p : Array Nat) : Prop := p.toList.Perm (List.range n)
def Asc (r : Nat → Nat → Bool) (p : Array Nat) (k : Nat) : Prop := ∀ i j, i < j → j < k → lt r p i j = true
def Dsc (r : Nat → Nat → Bool) (p : Array Nat) (k : Nat) : Prop := ∀ i j, i < j → j < k → lt r p j i = true
end
end L2
set_option linter.all false
set_option maxRecDepth 100000
set_option maxHeartbeats 4000000
namespace L2
def lexB : List Int → List Int → Bool
  | _, [] => false
  | [], _ :: _ => true
  | a :: as, b :: bs => if a = b then lexB as bs else decide (a < b)
end L2
namespace PySem
open PySem.Calls PyProof.Rows PySem.W L2
open AutoSeq1 (wpAny_loadPart')
end PySem
set_option linter.all false
set_option maxRecDepth 100000
set_option maxHeartbeats 4000000
namespace PySem
open PySem.Calls PyProof.Rows PySem.W L2
section
variable {prog : Program} {w : World} {A : Around} {E : Value → Shared → Prop} {s : Shared}
def PlcAt (h : Heap) (v : Value) (ns : List Int) : Prop := ∃ (a c : Addr) (u : Value) (its : Array Value), v = .ref a ∧ h.IsTuple a #[.ref c, u] ∧ h.IsTuple c its ∧ IntsAre its.toList ns
end
end PySem
set_option Elab.async false
set_option linter.all false
set_option maxRecDepth 100000
set_option maxHeartbeats 4000000
namespace L2
open PySem PySem.Spec PyProof.Rows PySem.W
def PlV (H : Hp) (p : List Int × V) (v : V) : Prop := ∃ (b c : Addr), v = .ref b ∧ H b = some (.tup [.ref c, p.2]) ∧ H c = some (.tup (p.1.map V.int))
section
variable {X : Cx}
def rSortP : List V → Hp → VK → Prop := fun xs H Q => ∃ (l : Addr) (vs : List V) (ps : List (List Int × V)), xs = [.ref l] ∧ H l = some (.lst vs) ∧ Paired (PlV H) ps vs ∧ (ps.map (·.1)).Nodup ∧ ps.length < 64 ∧
  ∀ (l' : Addr) (ws : List V) (qs : List (List Int × V)), H l' = none → Paired (PlV H) qs ws → qs.Perm ps → qs.Pairwise (fun a b => lexB a.1 b.1 = true) → Q (.ref l') (upd H l' (.lst ws))
end
end L2
set_option Elab.async false
set_option linter.all false
set_option maxRecDepth 100000
set_option maxHeartbeats 4000000
namespace PySem
open AutoSeq1
end PySem
namespace L2
open PySem PySem.Spec PyProof.Rows
section
variable {X : Cx}
def rExtendT (K : PySem.W.Frag) : V → List V → Hp → VK → Prop := fun x vs H Q => ∃ l b xs zs, x = .ref l ∧ vs = [.ref b] ∧ H l = some (.lst xs) ∧ SqT K H b zs ∧ xs.length + zs.length ≤ sizeLine ∧ Q .non (upd H l (.lst (xs ++ zs)))
def rSetDef : V → List V → Hp → VK → Prop := fun x vs H Q => ∃ (a : Addr) (kvs : List (Key × V)) (k : Key) (y : V), x = .ref a ∧ vs = [kV k, y] ∧ H a = some (.dK kvs) ∧ kvs.length < 1000 ∧ (∀ z, valV kvs k = some z → Q z H) ∧ (valV kvs k = none → Q y (upd H a (.dK (putK kvs k y))))
def rSortDR : List V → Hp → VK → Prop := fun xs H Q => ∃ (d : Addr) (kvs : List (Key × V)) (ks : List Str), xs = [.ref d] ∧ Rd H d (.dK kvs) ∧ kvs.map (·.1) = ks.map Sum.inr ∧ ks.length < 64 ∧
  ∀ (l : Addr) (ss : List Str), H l = none → ss.Perm ks → ss.Pairwise (fun a b => ltCps b.cps.toList a.cps.toList = false) → Q (.ref l) (upd H l (.lst (ss.map V.str)))
def tTupF (t : TA) : TE := fun σ H Q => t σ H fun xs H1 => xs.length ≤ sizeLine ∧ ∀ (p : Addr) (o : Obj), H1 p = none → o.dict = none → Q (.ref p) (upd H1 p (.frz o (.tup xs)))
end
end L2
set_option Elab.async false
set_option linter.all false
set_option maxRecDepth 100000
set_option maxHeartbeats 4000000
namespace PySem.W
open PySem PySem.Spec PySem.Calls PyProof.Rows
def ExAt (x D : Addr) (h : Heap) : Prop := ∃ o vs, h.get? x = some o ∧ o.cls = .ref D ∧ o.data = .fields vs
theorem ExAt.ty {x D : Addr} {h : Heap} (p : ExAt x D h) (M : Model) : Looks M h (typeOf (.ref x)) (.ref D) := by
  obtain ⟨o, vs, h1, h2, _⟩ := p
  exact h2 ▸ (Looks.ld h1).andThen .now
section
variable {prog : Program} {w : World} {A : Around} {E : Value → Shared → Prop} {K : Frag} {x D : Addr} {h : Heap} {g : Array GenState} {d : Drawn} {t : Nat} {os : OsState}
theorem ex_check_ga {M : Model} {nameV : Value} {Q : Unit → Shared → Prop} (X : K.In h) (p : ExAt x D h) (hb : mroIn K D (.type "BaseException") = some true) (hq : Q () ⟨h, g, d, t, os⟩) :
    wpAny M A (checkBuiltinCall "BaseException.__getattribute__" ⟨[.ref x, nameV], []⟩) Q E ⟨h, g, d, t, os⟩ := by
  have hk : builtinKind "BaseException.__getattribute__" = some .slot := by decide +kernel
  have hsplit : splitId "BaseException.__getattribute__" = some ("BaseException", "__getattribute__") := by decide +kernel
  have ha := F.args_bexc_ga (.ref x) nameV
  have L0 := p.ty M
  have L1 := looks_mroIn (M := M) X hb
  simp only [checkBuiltinCall, hk, hsplit]
  unfold isInstance
  refine wpAny_bind (wpAny_bind (L0.at (L1.at ?_)))
  repeat (first | wp_step)
  exact hq
theorem ex_class_get {tp : Value} {R : Result → Shared → Prop} (X : K.In h) (p : ExAt x D h) (hm : mroIn K D (.type "object") = some true) (hq : R (.ok (.ret (.ref D))) ⟨h, g, d, t, os⟩) :
    codeAny (model prog w) A (.call (.builtin "getset_descriptor.__get__") ⟨[.builtin "object.__class__", .ref x, tp], []⟩) R ⟨h, g, d, t, os⟩ := by
  have L0 := p.ty (model prog w)
  have L1 := looks_mroIn (M := model prog w) X hm
  have hT5 : (⟨h, g, d, t, os⟩ : Shared).TypeIs (.builtin "object.__class__") "getset_descriptor" := F.typeOf_object_class
  refine codeAny_call_builtin F.slot_gs_get.plain F.entry_gs_get (F.slot_gs_get.check _ _ _ _ _ _ _ _ hT5 (F.args_gs_get _ _ _) ?_)
  repeat (any_goals (first | assumption | with_reducible refine L0.at ?_ | (rw [F.owner_object_class]; with_reducible refine L1.at ?_) | wp_step))
  refine ⟨Code.quiet_builtin _ (by decide +kernel), codeAny_builtin F.entry_object_class ?_⟩
  repeat (any_goals (first | assumption | with_reducible refine L0.at ?_ | wp_step))
theorem ex_class_entry {tk : Tok} {Q : Fin → Shared → Prop} (X : K.In h) (p : ExAt x D h) (hc : findIn K (.ref D) "__class__" = some (some (.builtin "object.__class__"))) (hm : mroIn K D (.type "object") = some true) (hq : Q (.done (.ret (.ref D))) ⟨h, g, d, t, os⟩) :
    wpAny (model prog w) A (Builtin.«object.__getattribute__» ⟨[.ref x, .str "__class__" tk], []⟩) Q E ⟨h, g, d, t, os⟩ := by
  have f5 := F.typeOf_object_class
  have f6 := F.slot_gs_get.lookup
  have f7 := F.slot_gs_set.lookup
  have L0 := p.ty (model prog w)
  have L1 := looks_findIn (M := model prog w) X hc
  have hT5 : (⟨h, g, d, t, os⟩ : Shared).TypeIs (.builtin "object.__class__") "getset_descriptor" := F.typeOf_object_class
  repeat (any_goals (first | assumption | with_reducible refine L0.at ?_ | with_reducible refine L1.at ?_ | wp_step))
  refine ex_class_get X p hm ?_
  repeat (any_goals (first | assumption | wp_step))
theorem ex_class_by {tk : Tok} {Q : Value → Shared → Prop} (X : K.In h) (p : ExAt x D h) (hga : findIn K (.ref D) "__getattribute__" = some (some (.builtin "BaseException.__getattribute__"))) (hgt : findIn K (.ref D) "__getattr__" = some none)
    (hb : mroIn K D (.type "BaseException") = some true) (hc : findIn K (.ref D) "__class__" = some (some (.builtin "object.__class__"))) (hm : mroIn K D (.type "object") = some true) (hq : Q (.ref D) ⟨h, g, d, t, os⟩) :
    wpAny (model prog w) A (getAttrBy (.ref x) (.str "__class__" tk) false false) Q E ⟨h, g, d, t, os⟩ := by
  have L0 := p.ty (model prog w)
  have L1 := looks_findIn (M := model prog w) X hga
  have L2 := looks_findIn (M := model prog w) X hgt
  have f3 := F.attr_ValueError.ga.bind (.ref x)
  have hx2 : (Value.builtin "BaseException.__getattribute__" == Value.builtin "object.__getattribute__") = false := by decide +kernel
  have hx1 : (onTheHeap (Value.ref D) && Value.builtin "BaseException.__getattribute__" == Value.builtin "object.__getattribute__") = false := by rw [hx2]; rfl
  repeat (any_goals (first | assumption | with_reducible refine L0.at ?_ | with_reducible refine L1.at ?_ | with_reducible refine L2.at ?_ | wp_step))
  refine codeAny_call_builtin F.attr_ValueError.ga.plain F.entry_bexc_ga (ex_check_ga X p hb (ex_class_entry X p hc hm ?_))
  repeat (any_goals (first | assumption | wp_step))
theorem ex_class {Q : Option Value → Shared → Prop} (X : K.In h) (p : ExAt x D h) (hga : findIn K (.ref D) "__getattribute__" = some (some (.builtin "BaseException.__getattribute__"))) (hgt : findIn K (.ref D) "__getattr__" = some none)
    (hb : mroIn K D (.type "BaseException") = some true) (hc : findIn K (.ref D) "__class__" = some (some (.builtin "object.__class__"))) (hm : mroIn K D (.type "object") = some true) (hq : Q (some (.ref D)) ⟨h, g, d, t + 1, os⟩) :
    wpAny (model prog w) A (getAttr? (.ref x) "__class__") Q E ⟨h, g, d, t, os⟩ := by
  unfold getAttr? getAttrBy?
  repeat (any_goals (first | assumption | with_reducible apply ex_class_by X p hga hgt hb hc hm | wp_step))
end
structure ExCls (K : Frag) (D : Addr) : Prop where
  ga : findIn K (.ref D) "__getattribute__" = some (some (.builtin "BaseException.__getattribute__"))
  gt : findIn K (.ref D) "__getattr__" = some none
  bs : mroIn K D (.type "BaseException") = some true
  cl : findIn K (.ref D) "__class__" = some (some (.builtin "object.__class__"))
  ob : mroIn K D (.type "object") = some true
  ic : (clsIn K D).isSome = true
theorem kitx_exc {K : Frag} {x D : Addr} (C : ExCls K D) : KitX K (.ref x) (.ref D) (ExAt x D) where
  ty := fun M _ _ p => p.ty M
  it := fun _ _ X _ => by
    have hcD := C.ic
    unfold clsIn at hcD
    split at hcD
    · rename_i c' d' cd' sl' ho
      intro A' Q' E' s' k q
      unfold isType loadHead
      exact wpAny_bind (wpAny_loadPart (k _ _ (X _ _ ho)) (wpAny_pure q))
    · cases hcD
  ne := fun h tp dd its n sl X htp => by
    have hcD := C.ic
    refine Bool.eq_false_iff.mpr fun q => ?_
    have e : D = tp := Value.ref.inj (beq_iff_eq.mp q)
    subst e
    unfold clsIn at hcD
    split at hcD
    · rename_i c' d' cd' sl' ho
      have z := (X _ _ ho).symm.trans htp
      cases z
    · cases hcD
  ca := fun {_ _ _ _ _ s} X p k => by
    obtain ⟨h, g, d, t, os⟩ := s
    exact ex_class X p C.ga C.gt C.bs C.cl C.ob k
end PySem.W
set_option Elab.async false
set_option linter.all false
set_option maxRecDepth 100000
set_option maxHeartbeats 4000000
namespace L2
open PySem PySem.Spec PyProof.Rows
section
variable {P : Program} {w : World} {H H' : Hp} {h h' g : Heap} {a : Addr} {o : HO}
theorem ObjOk.there (x : ObjOk P w H h a o) : ∃ ob, h.get? a = some ob := by
  cases o with
  | lst xs => obtain ⟨_, _, _, _, e⟩ := x; exact ⟨_, e⟩
  | tup xs => obtain ⟨_, _, _, ob, e, _⟩ := x; exact ⟨_, e⟩
  | dK kvs => obtain ⟨_, _, _, _, o, _, _, e, _⟩ := x; exact ⟨_, e⟩
  | dT kvs => obtain ⟨_, _, _, _, o, _, _, e, _⟩ := x; exact ⟨_, e⟩
  | set S n => obtain ⟨o, _, _, _, e, _⟩ := x; exact ⟨_, e⟩
  | ins C dx fs => obtain ⟨_, _, _, e, _⟩ := x; exact ⟨_, e⟩
  | own y => exact x
  | xd fs => obtain ⟨_, ⟨_, _, _, e, _⟩, _⟩ := x; exact ⟨_, e⟩
  | rng lo hi => obtain ⟨_, _, _, e⟩ := x; exact ⟨_, e⟩
  | frz ob u => obtain ⟨e, _⟩ := x; exact ⟨_, e⟩
  | tbl ps => exact ⟨_, (show h.get? a = some _ from x)⟩
  | met f y => exact ⟨_, (show h.get? a = some _ from x)⟩
  | ext φ => obtain ⟨_, e, _⟩ := x; exact e
def Cov (fs : List Addr) (H' : Hp) (h g B : Heap) : Prop := ∀ b o, g.get? b = some o → b ∉ fs → ((∃ o0, h.get? b = some o0) ∨ H' b ≠ none) → B.get? b = some o
theorem moved {fs : List Addr} {B : Heap} (un : Un fs [] H H' h g) (hok : HOk P w H' g) (cov : Cov fs H' h g B) (hfd : ∀ b ∈ fs, H' b = none ∧ ∃ o, g.get? b = some o ∧ ∀ vs, o.data ≠ .fields vs)
    (st : B.StaysIn h') (sm : g.UpToSlots h') : Un fs [] H H' h h' ∧ HOk P w H' h' ∧ Cov fs H' h h' B := by
  refine ⟨⟨fun b o q n nb _ => ?_, fun b o q n hb _ => ?_, un.free, fun b o q _ => ?_, un.tups, un.frzs, un.tbls⟩, fun b u e => ?_, fun b o e nb hz => ?_⟩
  · exact st b o (cov b o (un.keep b o q n nb (by simp)) nb (.inl ⟨o, q⟩))
  · obtain ⟨sl, e⟩ := un.slot b o q n hb (by simp)
    obtain ⟨_, o', e', d⟩ := hfd b hb
    rw [e] at e'; cases e'
    obtain ⟨sl', e2⟩ := sm b _ e d
    exact ⟨sl', e2⟩
  · by_cases hb : b ∈ fs
    · obtain ⟨_, o', e', d⟩ := hfd b hb
      obtain ⟨sl', e2⟩ := sm b _ e' d
      exact ⟨_, e2⟩
    · obtain ⟨o', e⟩ := un.there b o q (by simp)
      exact ⟨o', st b o' (cov b o' e hb (.inl ⟨o, q⟩))⟩
  · refine (hok b u e).stay (fun c v hc q => ?_) (fun _ q => q) fun _ _ q => q
    have hn : H' c ≠ none := by
      rcases hc with z | z
      · rw [z, e]; intro y; cases y
      · rw [z]; intro y; cases y
    exact st c v (cov c v q (fun z => hn (hfd c z).1) (.inr hn))
  · have : ∃ o', g.get? b = some o' := by
      rcases hz with ⟨o0, z⟩ | z
      · exact un.there b o0 z (by simp)
      · cases q : H' b with
        | none => exact absurd q z
        | some u => exact (hok b u q).there
    obtain ⟨o', e'⟩ := this
    have c := cov b o' e' nb hz
    have := st b o' c
    rw [e] at this; cases this
    exact c
end
structure Flew (P : Program) (w : World) (stk : List Env) (H : Hp) (s : Shared) (H' : Hp) (ea C : Addr) (s' : Shared) : Prop where
  os : s'.os = s.os
  bare : AllBare s'.gens
  un : Un (frs stk) [] H H' s.heap s'.heap
  hok : HOk P w H' s'.heap
  new : s.heap.get? ea = none
  hn : H' ea = none
  fly : ∃ (B : Heap) (a0 : Value), Heap.FlyingW B stk ea (.ref C) a0 s'.heap ∧ Cov (frs stk) H' s.heap s'.heap B
def CXF (P : Program) (w : World) : CXT := fun outer H s E e s' => ∃ ea C H', e = .ref ea ∧ Flew P w outer H s H' ea C s' ∧ E (.ref C) none H'
section
variable {X : Cx} {pins : List (Addr × Obj)} {σ : St} {H H' : Hp} {s s' : Shared} {ea C : Addr}
theorem Flew.frd (F : Flew X.prog X.w X.stack H s H' ea C s') (I : Inv X pins σ H s) {B : Heap} {a0 : Value} (hfl : Heap.FlyingW B X.stack ea (.ref C) a0 s'.heap) : ∀ b ∈ frs X.stack, H' b = none ∧ ∃ o, s'.heap.get? b = some o ∧ ∀ vs, o.data ≠ .fields vs := fun b hb => by
  obtain ⟨_, o, e, d⟩ := I.stack.mem hb
  exact ⟨F.un.free b o e (I.stkFree b hb) (by simp), (hfl.2.2.1.mem hb).2⟩
theorem Flew.on (F : Flew X.prog X.w X.stack H s H' ea C s') (I : Inv X pins σ H s) {B : Heap} {a0 : Value} {h' : Heap} (hfl : Heap.FlyingW B X.stack ea (.ref C) a0 s'.heap) (cov : Cov (frs X.stack) H' s.heap s'.heap B)
    (hfl' : Heap.FlyingW B X.stack ea (.ref C) a0 h') (sm : s'.heap.UpToSlots h') : Flew X.prog X.w X.stack H s H' ea C { s' with heap := h' } := by
  obtain ⟨u, k, c⟩ := moved F.un F.hok cov (F.frd I hfl) hfl'.1 sm
  exact ⟨F.os, F.bare, u, k, F.new, F.hn, B, a0, hfl', c⟩
theorem Flew.inv (F : Flew X.prog X.w X.stack H s H' ea C s') (I : Inv X pins σ H s) : Inv X pins σ H' s' := I.call' (ch := []) F.os F.un F.hok F.bare (fun b z => absurd z (by simp))
end
section
variable {P : Program} {w : World} {K : PySem.W.Frag} {mg : Str → Option Value} {base : Heap} {N : List Str} {qual : Str} {scope : Scope} {f : Addr} {cd : Value} {A : Around} {outer : List Env} {s : Shared} {H : Hp} {E : XK}
theorem frame_out {pins : List (Addr × Obj)} {σ : St} {H1 H' : Hp} {s1 : Shared} {h' B : Heap} (I : Inv (cxOf (CXF P w) P w K mg base N qual scope f cd A outer s H E) pins σ H1 s1)
    (U : Un (frs (cxOf (CXF P w) P w K mg base N qual scope f cd A outer s H E).stack) [] H1 H' s1.heap h') (c : Cov (frs (cxOf (CXF P w) P w K mg base N qual scope f cd A outer s H E).stack) H' s1.heap h' B) : Un (frs outer) [] H H' s.heap h' ∧ Cov (frs outer) H' s.heap h' B := by
  have ba : Un (frs outer) [] H H1 s.heap s1.heap := I.base
  have ab : s.heap.objs.size ≤ (cxOf (CXF P w) P w K mg base N qual scope f cd A outer s H E).env.locals := I.ok.above
  have lt : ∀ b o, s.heap.get? b = some o → b ≠ (cxOf (CXF P w) P w K mg base N qual scope f cd A outer s H E).env.locals := fun b o e => Nat.ne_of_lt (Nat.lt_of_lt_of_le (Heap.lt_size e) ab)
  have no : ∀ b, b ≠ (cxOf (CXF P w) P w K mg base N qual scope f cd A outer s H E).env.locals → b ∉ frs outer → b ∉ frs (cxOf (CXF P w) P w K mg base N qual scope f cd A outer s H E).stack := fun b n1 n2 z => by
    rcases List.mem_cons.mp (I.stkSub b z) with q | q
    · exact n1 q
    · exact n2 q
  have hL : H' (cxOf (CXF P w) P w K mg base N qual scope f cd A outer s H E).env.locals = none := by
    obtain ⟨m, ⟨o, _, _, e, _⟩, _⟩ := I.loc
    exact U.free _ o e I.free (by simp)
  refine ⟨⟨fun b o q n nb hx => U.keep b o (ba.keep b o q n nb hx) (ba.free b o q n hx) (no b (lt b o q) nb) hx, fun b o q n hb hx => ?_, fun b o q n hx => ?_, fun b o q hx => ?_, fun b xs q => U.tups b xs (ba.tups b xs q), fun b o u q => U.frzs b o u (ba.frzs b o u q), fun b ps q => ?_⟩, fun b o e nb hz => ?_⟩
  · obtain ⟨sl, e⟩ := ba.slot b o q n hb hx
    obtain ⟨sl', e'⟩ := U.any e (ba.free b o q n hx) hx
    exact ⟨sl', e'⟩
  · obtain ⟨o', e⟩ := ba.there b o q hx
    exact U.free b o' e (ba.free b o q n hx) hx
  · obtain ⟨o', e⟩ := ba.there b o q hx
    exact U.there b o' e hx
  · obtain ⟨m1, e1⟩ := ba.tbls b ps q
    obtain ⟨m2, e2⟩ := U.tbls b _ e1
    exact ⟨m1 ++ m2, by rw [e2, Array.append_assoc]⟩
  · rcases hz with ⟨o0, z⟩ | z
    · obtain ⟨o1, z1⟩ := ba.there b o0 z (by simp)
      exact c b o e (no b (lt b o0 z) nb) (.inl ⟨o1, z1⟩)
    · exact c b o e (no b (fun y => z (by rw [y]; exact hL)) nb) (.inr z)
theorem cxf_pass : Passes (CXF P w) (cxOf (CXF P w) P w K mg base N qual scope f cd A outer s H E) E := by
  rintro pins σ H1 s1 e s' I ⟨ea, C, H', rfl, F, q⟩
  obtain ⟨B, a0, hfl, cov⟩ := F.fly
  refine wpAny_leaves_onW I.ok.frames rfl hfl fun h' x1 x2 => ?_
  obtain ⟨u, k, c⟩ := moved F.un F.hok cov (Flew.frd (X := cxOf (CXF P w) P w K mg base N qual scope f cd A outer s H E) F I hfl) x1.1 x2
  obtain ⟨u2, c2⟩ := frame_out I u c
  refine ⟨ea, C, H', rfl, ⟨F.os.trans I.os, F.bare, u2, k, ?_, F.hn, B, a0, x1, c2⟩, q⟩
  cases z : s.heap.get? ea with
  | none => rfl
  | some o =>
    obtain ⟨o', z'⟩ := (show Un (frs outer) [] H H1 s.heap s1.heap from I.base).there ea o z (by simp)
    rw [F.new] at z'; cases z'
theorem cxf_raise {pins : List (Addr × Obj)} {σ : St} {H1 : Hp} {s1 : Shared} {h1 : Heap} {ea C : Addr} {vs : List Value} (I : Inv (cxOf (CXF P w) P w K mg base N qual scope f cd A outer s H E) pins σ H1 s1) (hx : Heap.MadeExcOf s1.heap h1 ea (.ref C) vs) (q : E (.ref C) none H1) :
    (cxOf (CXF P w) P w K mg base N qual scope f cd A outer s H E).xe (.ref ea) { s1 with heap := h1 } := by
  refine wpAny_leaves_madeW (base := PySem.W.hideAll s1.heap (frs (cxOf (CXF P w) P w K mg base N qual scope f cd A outer s H E).stack)) I.ok.frames rfl (fun b o e => PySem.W.of_hideAll _ e) (PySem.W.funFrames_hide I.stack fun env he b hb => List.mem_filterMap.mpr ⟨env, he, hb⟩) hx fun h' t x1 x2 x3 x4 => ?_
  have cov : Cov (frs (cxOf (CXF P w) P w K mg base N qual scope f cd A outer s H E).stack) H1 s1.heap h1 (PySem.W.hideAll s1.heap (frs (cxOf (CXF P w) P w K mg base N qual scope f cd A outer s H E).stack)) := fun b o e nb hz => by
    have : ∃ o0, s1.heap.get? b = some o0 := by
      rcases hz with z | z
      · exact z
      · cases y : H1 b with
        | none => exact absurd y z
        | some u => exact (I.hok b u y).there
    obtain ⟨o0, z⟩ := this
    have := hx.keeps b o0 z
    rw [e] at this; cases this
    exact PySem.W.hideAll_get _ z nb
  obtain ⟨u, k, c⟩ := moved (Un.kept (fs := frs (cxOf (CXF P w) P w K mg base N qual scope f cd A outer s H E).stack) (ex := []) (H := H1) hx.keeps) (I.hok.kept hx.keeps) cov (fun b hb => by
    obtain ⟨_, o, e, d⟩ := I.stack.mem hb
    exact ⟨I.stkFree b hb, o, hx.keeps b o e, d⟩) x1.1 x4
  obtain ⟨u2, c2⟩ := frame_out I u c
  refine ⟨ea, C, H1, rfl, ⟨I.os, I.bare, u2, k, ?_, ?_, _, _, x1, c2⟩, q⟩
  · cases z : s.heap.get? ea with
    | none => rfl
    | some o =>
      obtain ⟨o', z'⟩ := (show Un (frs outer) [] H H1 s.heap s1.heap from I.base).there ea o z (by simp)
      rw [hx.new] at z'; cases z'
  · cases y : H1 ea with
    | none => rfl
    | some u =>
      obtain ⟨o, z⟩ := (I.hok ea u y).there
      rw [hx.new] at z; cases z
end
end L2
set_option Elab.async false
set_option linter.all false
set_option maxRecDepth 100000
set_option maxHeartbeats 4000000
namespace PySem.W
open PySem PySem.Spec PySem.Calls PyProof.Rows
section
variable {M : Model} {A : Around} {E : Value → Shared → Prop} {K : Frag} {x C D : Addr} {b : Bool} {h : Heap} {g : Array GenState} {d : Drawn} {t : Nat} {os : OsState}
theorem ex_matches {Q : Bool → Shared → Prop} (X : K.In h) (p : ExAt x C h) (tD : typeIn K (.ref D) = some (.type "type")) (bD : mroIn K D (.type "BaseException") = some true) (cD : (clsIn K D).isSome = true) (e : mroIn K C (.ref D) = some b) (hq : Q b ⟨h, g, d, t, os⟩) :
    wpAny M A (excMatches (.ref x) (.ref D)) Q E ⟨h, g, d, t, os⟩ := by
  have L0 := p.ty M
  have L1 := looks_typeIn (M := M) X tD
  have L2 := looks_mroIn (M := M) X bD
  have L3 := looks_mroIn (M := M) X e
  have L4 : Looks M h (isType (.ref D)) true := by
    unfold clsIn at cD
    split at cD
    · rename_i c' d' cd' sl' ho
      intro A' Q' E' s' k q
      unfold isType loadHead
      exact wpAny_bind (wpAny_loadPart (k _ _ (X _ _ ho)) (wpAny_pure q))
    · cases cD
  have f := tc_notTuple
  unfold excMatches
  repeat (first | with_reducible refine L0.at ?_ | with_reducible refine L1.at ?_ | with_reducible refine L4.at ?_ | with_reducible refine L2.at ?_ | with_reducible refine L3.at ?_ | wp_step)
  cases b with
  | true => repeat (first | exact hq | wp_step)
  | false => repeat (first | exact hq | wp_step)
end
theorem exc_obj {K : Frag} {h : Heap} {C : Addr} {bB : List Value} {nid : String} (Z : K.In h) (e : excIn K C bB nid = true) : ∃ tl NN n1 n2 b1 b2 b3 b4 b5 b6 b7 z0 z1 z2 z3 z5 mm,
    h.get? C = some (excClassObj n1 n2 C NN b1 tl b2 b3 b4 b5 b6 b7 z0 z1 z2 z3 z5 nid) ∧ h.Ns NN mm ∧ mm "__init__" = none ∧ OwnTail h bB tl := by
  unfold excIn at e
  split at e
  next b7 cc ss hK =>
    split at e
    next C2 tl z0 z1 z2 z3 nn z5 hmro hsl =>
      simp only [Bool.and_eq_true, beq_iff_eq, Bool.not_eq_true'] at e
      obtain ⟨⟨⟨⟨⟨r1, r2⟩, hdl⟩, htl⟩, hnk⟩, hin⟩ := e
      subst r1 r2
      obtain ⟨n1, b1, mro, NN, n2, b2, b3, b4, b5, b6, del⟩ := cc
      dsimp only at hmro hdl hnk hin
      subst hmro hdl
      have es : ss = #[z0, z1, z2, z3, some (.builtin nn), z5] := by
        obtain ⟨l⟩ := ss
        simp only at hsl
        rw [hsl]
      subst es
      exact ⟨tl, NN, n1, n2, b1, b2, b3, b4, b5, b6, b7, z0, z1, z2, z3, z5, _, Z _ _ hK, .of_isNs (isNs_of_in Z hnk), nsMap_none_of_in Z hnk hin, tail_of_in Z htl⟩
    next => cases e
  next => cases e
end PySem.W
namespace L2
open PySem PySem.Spec PyProof.Rows
structure ExC (K : PySem.W.Frag) (C : Addr) : Prop extends PySem.W.ExCls K C where
  ty : PySem.W.typeIn K (.ref C) = some (.type "type")
abbrev bmVE : List Value := [.type "ValueError", .type "Exception", .type "BaseException", .type "object"]
def tRaise (C : Addr) (E : XK) (t : TA) : TS := fun _ σ H => t σ H fun vs H1 => vs.length ≤ sizeLine ∧ E (.ref C) none H1
section
variable {P : Program} {w : World} {K : PySem.W.Frag} {mg : Str → Option Value} {base : Heap} {N : List Str} {qual : Str} {scope : Scope} {f : Addr} {cd : Value} {A : Around} {outer : List Env} {s : Shared} {H : Hp} {E : XK}
theorem ps_raise {x : Str} {np cpos pos : Pos} {e0 : Expr} {es : List Expr} {t : TA} {C : Addr} (hg : Gl (cxOf (CXF P w) P w K mg base N qual scope f cd A outer s H E) x) (hm : mg x = some (.ref C)) (hC : PySem.W.excIn K C bmVE "ValueError.__new__" = true)
    (ha : PA (cxOf (CXF P w) P w K mg base N qual scope f cd A outer s H E) (e0 :: es) t) (hdb : (x == ("__debug__" : Str)) = false := by decide)
    (he : starEach (e0 :: es) (cxOf (CXF P w) P w K mg base N qual scope f cd A outer s H E).env = (false, eval e0 (cxOf (CXF P w) P w K mg base N qual scope f cd A outer s H E).env) :: starEach es (cxOf (CXF P w) P w K mg base N qual scope f cd A outer s H E).env := by rfl)
    (hpl : (backTo cpos (starEach es (cxOf (CXF P w) P w K mg base N qual scope f cd A outer s H E).env)).any (·.1) = false := by rfl) :
    PS (cxOf (CXF P w) P w K mg base N qual scope f cd A outer s H E) (.Raise (some (.Call (.Name x np) (e0 :: es) [] cpos)) none pos) (tRaise C E t) := by
  intro pins s1 σ H1 D I h
  obtain ⟨tl, NN, n1, n2, b1, b2, b3, b4, b5, b6, b7, z0, z1, z2, z3, z5, mm, hobj, hns, hni, T⟩ := PySem.W.exc_obj I.ok.mod.kin hC
  refine wpAny_Raise_call_subT (C := C) (nm := n1) (q := n2) (N := NN) (bs := b1) (bm := tl) (hdct := b2) (sn := b3) (sub := b4) (ab := b5) (col := b6) (dd := b7) (k0 := z0) (k1 := z1) (k2 := z2) (k3 := z3) (k5 := z5) PySem.F.excBase_ValueError (mN := mm) (T.hasType PySem.F.excBase_ValueError.hasBase) (I.ok.hd rfl) ?_ hni (ld_glob I hg hm ⟨rfl, ?_⟩ hdb)
  · rw [he]
    show (false || (backTo cpos (starEach es _)).any (·.1)) = false
    rw [hpl]; rfl
  · have z := ha cpos pins s1 σ H1 _ I h
    rw [he] at z ⊢
    refine Calls.evalArgs_plain (wpAny_mono z (fun us s2 ⟨vs, H2, I2, r, hl, q⟩ => ⟨rfl, by rw [← r.length]; exact hl, I2.bk _ _ hobj, hns.keeps I2.bk, T.keeps I2.bk, fun h' e hx => cxf_raise I2 hx q⟩) fun _ _ y => y)
end
end L2
set_option Elab.async false
set_option linter.all false
set_option maxRecDepth 100000
set_option maxHeartbeats 4000000
namespace L2
open PySem PySem.Spec PyProof.Rows
def exO (ea C : Addr) : HO := .ext (PySem.W.ExAt ea C)
theorem exO_ok {P : Program} {w : World} {H : Hp} {h : Heap} {ea C : Addr} (p : PySem.W.ExAt ea C h) : ObjOk P w H h ea (exO ea C) := by
  obtain ⟨o, vs, e, hc, hd⟩ := p
  exact ⟨⟨o, vs, e, hc, hd⟩, ⟨o, e⟩, fun h1 h2 ⟨o, vs, e, hc, hd⟩ k => ⟨o, vs, k o e, hc, hd⟩⟩
theorem exO_get {P : Program} {w : World} {H : Hp} {h : Heap} {ea C : Addr} (hok : HOk P w H h) (e : H ea = some (exO ea C)) : PySem.W.ExAt ea C h := (hok ea _ e).1
abbrev HR := Ends → Addr → St → Hp → Prop
abbrev Cx.inX (X : Cx) (ea : Addr) : Cx := { X with A := X.A.mark (some (.ref ea)), calm := false, xe := fun _ _ => False }
theorem Cx.Ok.inX {X : Cx} (ok : X.Ok) (ea : Addr) : (X.inX ea).Ok :=
  ⟨ok.mod, ok.kind, ok.glob, ok.blt, ok.above, ok.inj, ok.has, ok.cab, fun z => (by cases z), ok.frames, ok.stk, ok.exf, ok.bs, ok.bsz, ok.noex, ok.exfs, ok.funs, ok.frf⟩
section
variable {X : Cx} {pins : List (Addr × Obj)} {σ : St} {H H' : Hp} {s s' : Shared} {ea C : Addr}
theorem Inv.inX (I : Inv X pins σ H s) (ea : Addr) : Inv (X.inX ea) pins σ H s := ⟨I.ok.inX ea, I.os, I.bare, I.base, I.loc, I.cell, I.free, I.freeC, I.pin, I.hok, I.len⟩
theorem Inv.outX (ok : X.Ok) (I : Inv (X.inX ea) pins σ H s) : Inv X pins σ H s := ⟨ok, I.os, I.bare, I.base, I.loc, I.cell, I.free, I.freeC, I.pin, I.hok, I.len⟩
def PH (X : Cx) (hs : List ExceptHandler) (r : HR) : Prop := ∀ (pins : List (Addr × Obj)) (D : Ends) (σ : St) (ea C : Addr) (H H0 : Hp) (s s0 : Shared), Inv X pins σ H0 s0 → Flew X.prog X.w X.stack H0 s0 H ea C s → r D C σ H →
  wpAny (model X.prog X.w) X.A (handleBy (.ref ea) X.env hs) (SP X pins D) X.xe s
theorem ph_nil : PH X [] (fun _ _ _ _ => False) := fun _ _ _ _ _ _ _ _ _ _ _ h => False.elim h
theorem Flew.caught (F : Flew X.prog X.w X.stack H s H' ea C s') (I : Inv X pins σ H s) : Inv X pins σ (upd H' ea (exO ea C)) s' := by
  obtain ⟨B, a0, hfl, cov⟩ := F.fly
  obtain ⟨oe, vs, e1, e2, e3, _⟩ := hfl.first
  have ne : ∀ b u, H' b = some u → b ≠ ea := fun b u q => ne_of_none q F.hn
  refine I.call' (ch := []) F.os ⟨F.un.keep, F.un.slot, fun b o q n hx => ?_, F.un.there, fun b xs q => ?_, fun b o u q => ?_, fun b ps q => ?_⟩ (fun b u q => ?_) F.bare (fun b z => absurd z (by simp))
  · rw [upd_ne (fun z => by rw [z, F.new] at q; cases q)]
    exact F.un.free b o q n hx
  · have := F.un.tups b xs q
    rw [upd_ne (ne b _ this)]; exact this
  · have := F.un.frzs b o u q
    rw [upd_ne (ne b _ this)]; exact this
  · obtain ⟨m, this⟩ := F.un.tbls b ps q
    exact ⟨m, by rw [upd_ne (ne b _ this)]; exact this⟩
  · by_cases hb : b = ea
    · subst hb
      rw [upd_same] at q
      cases q
      exact exO_ok ⟨oe, vs, e1, e2, e3⟩
    · rw [upd_ne hb] at q
      exact (F.hok b u q).stay (fun _ _ _ z => z) (fun c z => by rw [upd_ne (ne c _ z)]; exact z) fun c xs z => by rw [upd_ne (ne c _ z)]; exact z
theorem Inv.gone {M : Model} {A : Around} {E : Value → Shared → Prop} {n : Str} {i : Nat} {pos : Pos} {Q : Unit → Shared → Prop} (I : Inv X pins σ H s) (hN : X.N.Nodup) (hi : X.N[i]? = some n) (hl : X.env.kindOf n = some .local)
    (h : ∀ s', Inv X pins (σ.set i none) H s' → Q () s') : wpAny M A (do bindName X.env n .none; unbindBehindTheSuite X.env n pos) Q E s := by
  obtain ⟨m, hn, hv⟩ := id I.loc
  obtain ⟨oL, _, _, hoL, _⟩ := id hn
  have hiσ : i < σ.length := by rw [I.len]; exact (List.getElem?_eq_some_iff.mp hi).1
  have cne := I.cne
  have lt : ∀ b o, X.s₀.heap.get? b = some o → b ≠ X.env.locals := fun b o e => Nat.ne_of_lt (Nat.lt_of_lt_of_le (Heap.lt_size e) I.ok.above)
  refine wpAny_nameGoes_keeps hl hn (by rw [I.ok.kind]; rfl) fun h' v hn' hs => h _ ?_
  refine ⟨I.ok, I.os, I.bare, ⟨fun b o e nb hb hx => ?_, fun b o e nb hb hx => ?_, I.base.free, fun b o e hx => ?_, I.base.tups, I.base.frzs, I.base.tbls⟩, ⟨_, hn', fun j y v' e1 e2 e3 => ?_⟩, fun y c e => ?_, I.free, I.freeC, fun p hp => ?_, fun b ob e => ?_, by simpa using I.len⟩
  · exact (hs.2 b (lt b o e)).trans (I.base.keep b o e nb hb hx)
  · obtain ⟨sl, e1⟩ := I.base.slot b o e nb hb hx
    exact ⟨sl, (hs.2 b (lt b o e)).trans e1⟩
  · obtain ⟨o', e1⟩ := I.base.there b o e hx
    exact ⟨o', (hs.2 b (lt b o e)).trans e1⟩
  · by_cases hj : j = i
    · subst hj
      rw [List.getElem?_set_self hiσ] at e2
      cases e2
    · rw [List.getElem?_set_ne (Ne.symm hj)] at e2
      obtain ⟨u', r', q⟩ := hv j y v' e1 e2 e3
      refine ⟨u', r', ?_⟩
      rcases q with ⟨k, e⟩ | ⟨k, c, e, z⟩
      · refine .inl ⟨k, ?_⟩
        have : y ≠ n := fun e => hj (nodup_ix hN e1 (e ▸ hi))
        simp [this, e]
      · exact .inr ⟨k, c, e, z.sameBut hs (cne y c e)⟩
  · obtain ⟨w', z⟩ := I.cell y c e
    exact ⟨w', z.sameBut hs (cne y c e)⟩
  · obtain ⟨e, n, ne, nf, d⟩ := I.pin p hp
    exact ⟨(hs.2 p.1 ne).trans e, n, ne, nf, d⟩
  · refine (I.hok b ob e).stay (fun c w' hc q => (hs.2 c ?_).trans q) (fun _ q => q) fun _ _ q => q
    rintro rfl
    rcases hc with rfl | hc
    · rw [I.free] at e; cases e
    · rw [I.free] at hc; cases hc
end
def Ends.less (D : Ends) (i : Nat) : Ends := { nx := fun σ H => D.nx (σ.set i none) H, rt := D.rt, bk := fun σ H => D.bk (σ.set i none) H, ct := fun σ H => D.ct (σ.set i none) H }
def hAs (K : PySem.W.Frag) (Da : Addr) (i : Nat) (ts : TS) (r : HR) : HR := fun D C σ H => PySem.W.ExCls K C ∧ ∃ b, PySem.W.mroIn K C (.ref Da) = some b ∧
  if b = true then ∀ ea, H ea = none → ts (D.less i) (σ.set i (some (.ref ea))) (upd H ea (exO ea C)) else r D C σ H
def hPl (K : PySem.W.Frag) (Da : Addr) (ts : TS) (r : HR) : HR := fun D C σ H => PySem.W.ExCls K C ∧ ∃ b, PySem.W.mroIn K C (.ref Da) = some b ∧
  if b = true then ∀ ea, H ea = none → ts D σ (upd H ea (exO ea C)) else r D C σ H
section
variable {X : Cx} {x n : Str} {np pos : Pos} {i : Nat} {b0 : Stmt} {suite : List Stmt} {rest : List ExceptHandler} {ts : TS} {r : HR} {Da : Addr}
theorem SP.goes {ea : Addr} {pins : List (Addr × Obj)} {D : Ends} {M : Model} {A : Around} {E : Value → Shared → Prop} {f : Flow} {s : Shared} (ok : X.Ok) (hN : X.N.Nodup) (hi : X.N[i]? = some n) (hl : X.env.kindOf n = some .local) (h : SP (X.inX ea) pins (D.less i) f s) :
    wpAny M A (do bindName X.env n .none; unbindBehindTheSuite X.env n pos) (fun _ s' => SP X pins D f s') E s := by
  cases f with
  | next => obtain ⟨σ', H', I, q⟩ := h; exact (Inv.outX ok I).gone hN hi hl fun s' I' => ⟨_, _, I', q⟩
  | brk => obtain ⟨σ', H', I, q⟩ := h; exact (Inv.outX ok I).gone hN hi hl fun s' I' => ⟨_, _, I', q⟩
  | cont => obtain ⟨σ', H', I, q⟩ := h; exact (Inv.outX ok I).gone hN hi hl fun s' I' => ⟨_, _, I', q⟩
  | ret u => obtain ⟨v, σ', H', I, rv, q⟩ := h; exact (Inv.outX ok I).gone hN hi hl fun s' I' => ⟨v, _, _, I', rv, q⟩
theorem ph_as (hN : X.N.Nodup) (hi : X.N[i]? = some n) (hl : X.env.kindOf n = some .local) (hg : Gl X x) (hm : X.mg x = some (.ref Da)) (hD : ExC X.K Da) (hs : ∀ ea, PSs (X.inX ea) (b0 :: suite) ts) (hr : PH X rest r) (hdb : (x == ("__debug__" : Str)) = false := by decide) :
    PH X (.ExceptHandler (some (.Name x np)) (some n) (b0 :: suite) pos :: rest) (hAs X.K Da i ts r) := by
  intro pins D σ ea C H H0 s s0 I F h
  obtain ⟨hC, b, hb, h⟩ := h
  obtain ⟨B, a0, hfl, cov⟩ := F.fly
  obtain ⟨oe, vs, e1, e2, e3, _⟩ := hfl.first
  have I1 := F.inv I
  refine wpAny_handleBy_cons (codeAny_handlers_test (ld_glob (X := X.inX ea) (I1.inX ea) hg hm ?_ hdb)) (by intro q; cases q)
  obtain ⟨hp, g, d, tk, os⟩ := s
  refine PySem.W.ex_matches I1.kIn ⟨oe, vs, e1, e2, e3⟩ hD.ty hD.bs hD.ic hb ?_
  cases b with
  | false => exact hr pins D σ ea C H H0 _ s0 I F (by simpa using h)
  | true =>
    refine codeAny_handlers_suite_as ?_
    refine PyProof.Rows.lands_againW hfl fun h' hfl' sm => ?_
    have F2 := F.on I hfl cov hfl' sm
    have I2 := F2.caught I
    refine store_ok (X := X.inX ea) (v := .ref ea) (I2.inX ea) hN hi (.inl hl) rfl (fun s3 I3 => ?_) (.inr hl)
    refine wpAny_mono (hs ea pins s3 _ _ _ I3 ((by simpa using h : ∀ ea, H ea = none → ts (D.less i) (σ.set i (some (.ref ea))) (upd H ea (exO ea C))) ea F.hn)) (fun f s4 q => ?_) fun _ _ z => False.elim z
    exact SP.goes I.ok hN hi hl q
abbrev Cx.inTry (X : Cx) (hs : List ExceptHandler) (pins : List (Addr × Obj)) (D : Ends) : Cx := { X with pn := X.pn ++ pins, xe := fun e s1 => wpAny (model X.prog X.w) X.A (noteFrame e X.env) (fun _ s2 => wpAny (model X.prog X.w) X.A (setFlight e none) (fun _ s3 => wpAny (model X.prog X.w) X.A (handleBy e X.env hs) (SP X pins D) X.xe s3) X.xe s2) X.xe s1 }
theorem Cx.Ok.inTry (ok : X.Ok) (hs : List ExceptHandler) (pins : List (Addr × Obj)) (D : Ends) : (X.inTry hs pins D).Ok :=
  ⟨ok.mod, ok.kind, ok.glob, ok.blt, ok.above, ok.inj, ok.has, ok.cab, ok.hd, ok.frames, ok.stk, ok.exf, ok.bs, ok.bsz, ok.noex, ok.exfs, ok.funs, ok.frf⟩
theorem Inv.inTry {pins : List (Addr × Obj)} {σ : St} {H : Hp} {s : Shared} (I : Inv X pins σ H s) (hs : List ExceptHandler) (D : Ends) : Inv (X.inTry hs pins D) [] σ H s :=
  ⟨I.ok.inTry hs pins D, I.os, I.bare, I.base, I.loc, I.cell, I.free, I.freeC, fun p hp => I.pin p (by simpa using hp), I.hok, I.len⟩
theorem Inv.outTry {pins pins' : List (Addr × Obj)} {hs : List ExceptHandler} {D : Ends} {σ : St} {H : Hp} {s : Shared} (ok : X.Ok) (I : Inv (X.inTry hs pins D) pins' σ H s) : Inv X pins σ H s :=
  ⟨ok, I.os, I.bare, I.base, I.loc, I.cell, I.free, I.freeC, fun p hp => I.pin p (List.mem_append_left _ hp), I.hok, I.len⟩
def eTry (r : HR) (D : Ends) (σ : St) : XK := fun c _ H => ∃ C, c = .ref C ∧ r D C σ H
theorem passT {hs : List ExceptHandler} {pins pins' : List (Addr × Obj)} {D : Ends} {σ : St} {H : Hp} {s s' : Shared} {e : Value} (ok : X.Ok) (hf : X.env.frame = some X.env.locals) (hst : X.stack = X.env :: X.outer) (ph : PH X hs r) (I : Inv (X.inTry hs pins D) pins' σ H s) (h : CXF X.prog X.w X.stack H s (eTry r D σ) e s') :
    (X.inTry hs pins D).xe e s' := by
  obtain ⟨ea, C, H', rfl, F, C2, e2, q⟩ := h
  cases e2
  have I0 := Inv.outTry ok I
  obtain ⟨B, a0, hfl, cov⟩ := F.fly
  have ff := ok.frames
  rw [hst] at ff
  have hfl2 := hfl
  rw [hst] at hfl2
  refine wpAny_looks_onW ff hf hfl2 fun h4 hh4 sm4 => ?_
  refine wpAny_landsW hh4 fun h5 hfl5 sm5 => ?_
  rw [← hst] at hfl5
  exact ph pins D σ ea C H' H _ s I0 (F.on I0 hfl cov hfl5 (sm4.trans sm5)) q
def tCallT (sp : Sp) (dvs : List V) (r : HR) (D : Ends) (t : TA) : TE := fun σ H Q => t σ H fun vs H1 => sp (vs ++ dvs) H1 Q (eTry r D σ)
theorem pe_callT {hs : List ExceptHandler} {pins0 : List (Addr × Obj)} {D : Ends} {k : Nat} {f : Addr} {fd : FuncData} {ps : List Str} {sp : Sp} {dvs : List V} {ds : List Value} {p pos : Pos} {e : Expr} {es : List Expr} {t : TA}
    (hf : X.env.frame = some X.env.locals) (hst : X.stack = X.env :: X.outer) (ph : PH X hs r)
    (F : FnOk X.prog X.w X.K X.mg X.base (CXF X.prog X.w) k f fd ps sp) (hr : Room k X.A) (hg : Gl X x) (hm : X.mg x = some (.ref f)) (hk : PySem.W.keepIn X.K (.ref f) = true) (hb : Binds X.K fd ps ds) (hd : Vals dvs ds)
    (ha : PA (X.inTry hs pins0 D) (e :: es) t) (hdb : (x == ("__debug__" : Str)) = false := by decide) (he : starEach (e :: es) X.env = (false, eval e X.env) :: starEach es X.env := by rfl) (hpl : (backTo pos (starEach es X.env)).any (·.1) = false := by rfl) :
    PE (X.inTry hs pins0 D) (.Call (.Name x p) (e :: es) [] pos) (tCallT sp dvs r D t) := by
  intro pins s σ H Q I h
  have ok : X.Ok := ⟨I.ok.mod, I.ok.kind, I.ok.glob, I.ok.blt, I.ok.above, I.ok.inj, I.ok.has, I.ok.cab, I.ok.hd, I.ok.frames, I.ok.stk, I.ok.exf, I.ok.bs, I.ok.bsz, I.ok.noex, I.ok.exfs, I.ok.funs, I.ok.frf⟩
  refine wpAny_Call_Name_kw (ld_glob (X := X.inTry hs pins0 D) I hg hm ?_ hdb)
  refine PySem.W.callWith_K (h₀ := X.base) I.ok.mod.kin hk (thn (ha pos pins s σ H _ I h) fun us s1 ⟨vs, H1, I1, rv, q⟩ => ⟨I1.kIn, ?_⟩) he hpl
  have r2 : Vals (vs ++ dvs) (us ++ ds) := rv.append hd
  have hl : (us ++ ds).length = ps.length := by rw [← r2.length]; exact F.len _ _ _ _ q
  refine wpAny_call (codeAny_mono (F.run X.A X.stack s1 H1 ⟨us, []⟩ (us ++ ds) (vs ++ dvs) Q _ hr I1.env0 (hb s1 us I1.kIn hl) r2 q) fun rr s' hq => ?_)
  cases rr with
  | error e => exact passT ok hf hst ph I1 hq
  | ok fl =>
    cases fl with
    | ret u => exact I1.after hq
    | next => exact False.elim hq
    | brk => exact False.elim hq
    | cont => exact False.elim hq
theorem ps_try {h0 : ExceptHandler} {hs : List ExceptHandler} {body orelse : List Stmt} {tb : Ends → TS} {to : TS} (hb : ∀ pins D, PSs (X.inTry (h0 :: hs) pins D) body (tb D)) (ho : PSs X orelse to) :
    PS X (.Try body (h0 :: hs) orelse [] pos) (fun D σ H => tb D { D with nx := to D } σ H) := by
  intro pins s σ H D I h
  refine wpAny_Try_except (wpAny_mono (hb pins D [] s σ H _ (I.inTry (h0 :: hs) D) h) (fun f s1 q => ?_) fun _ _ z => z)
  cases f with
  | next =>
    obtain ⟨σ', H', I', q⟩ := q
    exact ho pins s1 σ' H' D (Inv.outTry I.ok I') q
  | brk => obtain ⟨σ', H', I', q⟩ := q; exact ⟨σ', H', Inv.outTry I.ok I', q⟩
  | cont => obtain ⟨σ', H', I', q⟩ := q; exact ⟨σ', H', Inv.outTry I.ok I', q⟩
  | ret u => obtain ⟨v, σ', H', I', rv, q⟩ := q; exact ⟨v, σ', H', Inv.outTry I.ok I', rv, q⟩
end
def rIsiX (K : PySem.W.Frag) : List V → Hp → VK → Prop := fun xs H Q => ∃ (ea C : Addr) (c : V) (cv : Value) (b : Bool), xs = [.ref ea, c] ∧ H ea = some (exO ea C) ∧ PySem.W.ExCls K C ∧ (∀ u, RelV c u → u = cv) ∧ PySem.W.kitOne K (.ref C) cv = some b ∧ Q (.bl b) H
theorem call_isiX {X : Cx} : CallR X (.builtin "isinstance") (rIsiX X.K) := by
  intro pins s σ H xs us Q I r h
  obtain ⟨ea, C, c, cv, b, rfl, he, hC, hc, e, q⟩ := h
  obtain ⟨u, w', rfl, ru, rw'⟩ := vals2 r
  cases ru
  have := hc w' rw'
  subst this
  exact PySem.W.kia_one (PySem.W.kitx_exc hC) I.kIn (exO_get I.hok he) e (fun z => nomatch z) fun tk => ⟨.bl b, H, I.tok tk, rfl, q⟩
end L2
set_option Elab.async false
set_option linter.all false
set_option maxRecDepth 100000
set_option maxHeartbeats 4000000
namespace L2
open PySem PySem.Spec PyProof.Rows
theorem Fun.okF {P : Program} {w : World} {K : PySem.W.Frag} {mg : Str → Option Value} {base : Heap} {x qual : Str} {st : Stmt} {f : Addr} {fd : FuncData} {N ps : List Str} {k : Nat} {sp : Sp} (F : Fun K x qual st f fd) (S : FnScope N ps (defScope st)) (len : ∀ vs H Q E, sp vs H Q E → vs.length = ps.length)
    (hbody : ∀ (cdv : Value) (A : Around) (outer : List Env) (s : Shared) (H : Hp) (vs : List V) (Q : VK) (E : XK), Room k (A.deeper (envOfC qual (defScope st) s.heap.objs.size f cdv)) → sp vs H Q E →
      ∃ t, PSs (cxOf (CXF P w) P w K mg base N qual (defScope st) f cdv A outer s H E) (defBody st) t ∧ t { nx := fun _ H' => Q .non H', rt := Q } (start N vs) H) : FnOk P w K mg base (CXF P w) (k + 1) f fd ps sp := by
  obtain ⟨oc, od, kV, doc, pm, an, cdv, ct, osl, rfl, lk, hcd⟩ := F.ex
  exact fn_of lk hcd S len fun A outer s H vs Q E hr hsp => hbody cdv A outer s H vs Q E hr hsp
structure RoomU (k : Nat) (A : Around) : Prop where
  dp : A.depth + 3 * k + 5 < recursionLimit
  un : A.units + 16 * k + 200 < cLine
theorem Room.marked {k : Nat} {A : Around} (r : Room k A) (h : Option Value) : RoomU k (A.mark h) := ⟨r.dp, r.un⟩
theorem RoomU.deeper {k : Nat} {A : Around} (r : RoomU (k + 1) A) (env : Env) : RoomU k (A.deeper env) :=
  ⟨by have := r.dp; show A.depth + 1 + 3 * k + 5 < _; omega, by have := r.un; show A.units + 3 + 16 * k + 200 < _; omega⟩
theorem RoomU.mono {j k : Nat} {A : Around} (r : RoomU k A) (h : j ≤ k) : RoomU j A := ⟨by have := r.dp; omega, by have := r.un; omega⟩
structure FnU (P : Program) (w : World) (K : PySem.W.Frag) (mg : Str → Option Value) (base : Heap) (k : Nat) (f : Addr) (fd : FuncData) (ps : List Str) (sp : Sp) : Prop where
  len : ∀ vs H Q E, sp vs H Q E → vs.length = ps.length
  run : ∀ (A : Around) (outer : List Env) (s : Shared) (H : Hp) (args : Args) (us : List Value) (vs : List V) (Q : VK) (E : XK), RoomU k A → Env0 P w K mg base A outer s H → BindsTo s fd args (ps.zip us) → Vals vs us → sp vs H Q E →
    codeAny (model P w) A (.call (.ref f) args) (CR CX0 outer P w H s Q E) s
abbrev cxOfU (P : Program) (w : World) (K : PySem.W.Frag) (mg : Str → Option Value) (base : Heap) (N : List Str) (qual : Str) (scope : Scope) (f : Addr) (cd : Value) (A : Around) (outer : List Env) (s : Shared) (H : Hp) (E : XK) : Cx :=
  { cxOf CX0 P w K mg base N qual scope f cd A outer s H E with calm := false, xe := fun _ _ => False }
theorem Fun.okU {P : Program} {w : World} {K : PySem.W.Frag} {mg : Str → Option Value} {base : Heap} {x qual : Str} {st : Stmt} {f : Addr} {fd : FuncData} {N ps : List Str} {k : Nat} {sp : Sp} (F : Fun K x qual st f fd) (S : FnScope N ps (defScope st)) (len : ∀ vs H Q E, sp vs H Q E → vs.length = ps.length)
    (hbody : ∀ (cdv : Value) (A : Around) (outer : List Env) (s : Shared) (H : Hp) (vs : List V) (Q : VK) (E : XK), RoomU k (A.deeper (envOfC qual (defScope st) s.heap.objs.size f cdv)) → sp vs H Q E →
      ∃ t, PSs (cxOfU P w K mg base N qual (defScope st) f cdv A outer s H E) (defBody st) t ∧ t { nx := fun _ H' => Q .non H', rt := Q } (start N vs) H) : FnU P w K mg base (k + 1) f fd ps sp := by
  obtain ⟨oc, od, kV, doc, pm, an, cdv, ct, osl, rfl, lk, hcd⟩ := F.ex
  refine ⟨len, fun A outer s H args us vs Q E hr e0 hb r hsp => ?_⟩
  have hl := len _ _ _ _ hsp
  have KX : K.In s.heap := e0.mod.kin.keeps fun b o e => (e0.bs b o e).1
  have lim : s.heap.NoLimit := e0.mod.nolimit.keeps fun b o e => (e0.bs b o e).1
  have hkd : ∀ y ∈ ps.zip us, (defScope st).names.lookup y.1 = some .local ∨ ((defScope st).names.lookup y.1 = some .cell ∧ ((cellsFrom (s.heap.objs.size + 1) (defScope st).names []).lookup y.1).isSome = true) := fun ⟨n, v⟩ hy => by
    rcases S.par n (List.of_mem_zip hy).1 with q | q
    · exact .inl q
    · exact .inr ⟨q, PySem.W.cellsFrom_some _ _ _ (.inl q)⟩
  refine codeAny_call_function (by have := hr.dp; omega) (KX _ _ lk) rfl S.co S.gen rfl (PySem.W.codeRec_of KX hcd) (hb _ _ _ _ ?_)
  refine wpAny_newFunctionEnv_cells S.kind hkd fun env he s1 z => ?_
  subst he
  refine ⟨lim.keeps z.toInCall.keep, codeAny_func ?_⟩
  obtain ⟨t, ht, hq⟩ := hbody cdv A outer s H vs Q E (hr.deeper _) hsp
  have e1 : Env0 P w K mg base { A with handled := none } outer s H := ⟨e0.frames, e0.mod, e0.bs, e0.bsz, e0.funs, e0.frf, e0.hok, e0.bare⟩
  have I0 : Inv (cxOf CX0 P w K mg base N qual (defScope st) f cdv { A with handled := none } outer s H E) [] (start N vs) H s1 := inv_start S rfl e1 hl r z
  have ok := I0.ok
  have I : Inv (cxOfU P w K mg base N qual (defScope st) f cdv A outer s H E) [] (start N vs) H s1 :=
    ⟨⟨ok.mod, ok.kind, ok.glob, ok.blt, ok.above, ok.inj, ok.has, ok.cab, (fun q => by cases q), ok.frames, ok.stk, ok.exf, ok.bs, ok.bsz, ok.noex, ok.exfs, ok.funs, ok.frf⟩, I0.os, I0.bare, I0.base, I0.loc, I0.cell, I0.free, I0.freeC, I0.pin, I0.hok, I0.len⟩
  refine wpAny_mono (ht [] s1 (start N vs) H _ I hq) (fun fl s' hs => ?_) fun e s' hs => False.elim hs
  have fin : ∀ {σ' : St} {H' : Hp} {v : V} {u : Value}, Inv (cxOfU P w K mg base N qual (defScope st) f cdv A outer s H E) [] σ' H' s' → RelV v u → Q v H' → CE outer P w H s Q u s' :=
    fun {σ' H' v u} J rv q => ⟨v, H', J.os, J.bare, J.base, J.hok, rv, q⟩
  cases fl with
  | ret u =>
    obtain ⟨v, σ', H', J, rv, q⟩ := hs
    exact fin J rv q
  | next =>
    obtain ⟨σ', H', J, q⟩ := hs
    exact fin (v := V.non) (u := Value.none) J rfl q
  | brk =>
    obtain ⟨_, _, _, q⟩ := hs
    exact False.elim q
  | cont =>
    obtain ⟨_, _, _, q⟩ := hs
    exact False.elim q
theorem pe_callU {X : Cx} {k : Nat} {f : Addr} {fd : FuncData} {ps : List Str} {sp : Sp} {dvs : List V} {ds : List Value} {x : Str} {p pos : Pos} {e : Expr} {es : List Expr} {t : TA} (F : FnU X.prog X.w X.K X.mg X.base k f fd ps sp) (hr : RoomU k X.A) (hg : Gl X x) (hm : X.mg x = some (.ref f))
    (hk : PySem.W.keepIn X.K (.ref f) = true) (hb : Binds X.K fd ps ds) (hd : Vals dvs ds) (ha : PA X (e :: es) t) (hdb : (x == ("__debug__" : Str)) = false := by decide) (he : starEach (e :: es) X.env = (false, eval e X.env) :: starEach es X.env := by rfl)
    (hpl : (backTo pos (starEach es X.env)).any (·.1) = false := by rfl) : PE X (.Call (.Name x p) (e :: es) [] pos) (tCall sp dvs E0 t) := by
  intro pins s σ H Q I h
  refine wpAny_Call_Name_kw (ld_glob I hg hm ?_ hdb)
  refine PySem.W.callWith_K (h₀ := X.base) I.ok.mod.kin hk (thn (ha pos pins s σ H _ I h) fun us s1 ⟨vs, H1, I1, rv, q⟩ => ⟨I1.kIn, ?_⟩) he hpl
  have r2 : Vals (vs ++ dvs) (us ++ ds) := rv.append hd
  have hl : (us ++ ds).length = ps.length := by rw [← r2.length]; exact F.len _ _ _ _ q
  refine wpAny_call (codeAny_mono (F.run X.A X.stack s1 H1 ⟨us, []⟩ (us ++ ds) (vs ++ dvs) Q _ hr I1.env0 (hb s1 us I1.kIn hl) r2 q) fun rr s' hq => ?_)
  cases rr with
  | error e => exact False.elim hq
  | ok fl =>
    cases fl with
    | ret u => exact I1.after hq
    | next => exact False.elim hq
    | brk => exact False.elim hq
    | cont => exact False.elim hq
end L2
set_option Elab.async false
set_option linter.all false
set_option maxRecDepth 100000
set_option maxHeartbeats 4000000
namespace L2
open PySem PySem.Spec PyProof.Rows
section
variable {prog : Program} {w : World} {A : Around} {E : Value → Shared → Prop} {s : Shared}
abbrev Drs (prog : Program) (w : World) (it l : Addr) (n : Nat) (P : Nat → Value → Prop) (S : Nat → Heap → Prop) : Prop := ∀ A : Around, A.handled = none → Draws prog w A it [it, l] n P S
theorem drs_list (it l : Addr) (hne : l ≠ it) (items : Array Value) : Drs prog w it l items.size (fun i v => items[i]? = some v) (fun i h => h.IsListIter it l i ∧ h.IsList l items) := fun A hh => Draws.list hh it l hne items
theorem drs_tup (it l : Addr) (hne : l ≠ it) (items : Array Value) : Drs prog w it l items.size (fun i v => items[i]? = some v) (fun i h => h.IsTupleIter it l i ∧ h.IsTuple l items) := fun A hh => draws_tuple hh it l hne items
theorem zipG_item {z TI TO i1 i2 l1 l2 : Addr} {k n1 n2 : Nat} {P1 P2 : Nat → Value → Prop} {S1 S2 : Nat → Heap → Prop} {a b : Value} {Q : Option Value → Shared → Prop} (hh : A.handled = none) (D : ZipApart z TI TO i1 i2 l1 l2) (W1 : Drs prog w i1 l1 n1 P1 S1) (W2 : Drs prog w i2 l2 n2 P2 S2)
    (hz : ZipS s.heap z TI TO) (hTI : IsPair s.heap TI (.ref i1) (.ref i2)) (hTO : IsPair s.heap TO a b) (h1 : S1 k s.heap) (h2 : S2 k s.heap) (hk1 : k < n1) (hk2 : k < n2)
    (hQ : ∀ h' tk x y, P1 k x → P2 k y → ZipS h' z TI TO → (∃ p q, IsPair h' TO p q) → S1 (k + 1) h' → S2 (k + 1) h' → IsPair h' s.heap.objs.size x y →
      (∀ c o, c ≠ z → c ≠ TO → c ≠ i1 → c ≠ i2 → s.heap.get? c = some o → h'.get? c = some o) → Q (some (.ref s.heap.objs.size)) { s with heap := h', toks := tk }) : wpAny (model prog w) A (pyNext (.ref z)) Q E s := by
  obtain ⟨f0, f1, hz, hf⟩ := hz
  have hT : s.TypeIs (.ref z) "zip" := ⟨_, hz, rfl⟩
  have fr1 : ∀ {i : Nat} {h h' : Heap}, S1 i h → (∀ b ∈ [i1, l1], ∀ o, h.get? b = some o → h'.get? b = some o) → S1 i h' := fun st k => (W1 A hh).frame _ _ _ st k
  have fr2 : ∀ {i : Nat} {h h' : Heap}, S2 i h → (∀ b ∈ [i2, l2], ∀ o, h.get? b = some o → h'.get? b = some o) → S2 i h' := fun st k => (W2 A hh).frame _ _ _ st k
  have sb1 : ∀ {i : Nat} {h h' : Heap} {c : Addr}, S1 i h → Heap.SameBut c h h' → i1 ≠ c → l1 ≠ c → S1 i h' := fun st e n1 n2 => fr1 st fun b hb o q => by
    rcases List.mem_cons.mp hb with r | hb
    · exact e.extBut _ _ (r ▸ n1) q
    · exact e.extBut _ _ (List.mem_singleton.mp hb ▸ n2) q
  have sb2 : ∀ {i : Nat} {h h' : Heap} {c : Addr}, S2 i h → Heap.SameBut c h h' → i2 ≠ c → l2 ≠ c → S2 i h' := fun st e n1 n2 => fr2 st fun b hb o q => by
    rcases List.mem_cons.mp hb with r | hb
    · exact e.extBut _ _ (r ▸ n1) q
    · exact e.extBut _ _ (List.mem_singleton.mp hb ▸ n2) q
  unfold pyNext
  refine wpAny_bind (wpAny_attempt (wpAny_callSpecial?_slot (name := Str.ofString "__next__") hT F.slot_zip_next (wpAny_call_entry F.slot_zip_next hT F.entry_zip_next ?_ (F.args_zip_next_1 _))))
  show wpAny _ _ (field (.ref z) 2 >>= _) _ _ _; refine wpAny_bind (wpAny_field hz rfl (x := .bool false) rfl ?_)
  show wpAny _ _ (field (.ref z) 3 >>= _) _ _ _; refine wpAny_bind (wpAny_field hz rfl (x := .ref TI) rfl ?_); refine wpAny_bind (wpAny_seqItems hTI rfl ?_)
  show wpAny _ _ (Builtin.SmallTypes.ownedTupleIsFree (.ref z) >>= _) _ _ _
  refine wpAny_bind (zip_free hz hf ?_ fun q1 hz1 hs1 => ?_)
  · simp only [if_true]; refine wpAny_bind (wpAny_rule ?_); refine wpAny_bind (wpAny_field hz rfl (x := .ref TO) rfl ?_)
    refine wpAny_bind (wpAny_setField_rec hz (by simp) fun q1 hz1 hs1 => ?_); replace hz1 : ZipF q1 z TI TO .ellipsis f1 := hz1
    refine wpAny_bind ?_; simp only [List.zipIdx_cons, List.zipIdx_nil, List.forIn_cons, List.forIn_nil]
    refine wpAny_bind (wpAny_bind (wpAny_onRaise ?_)); show wpAny _ _ (Builtin.SmallTypes.nextOf (.ref i1) >>= _) _ _ _
    refine wpAny_bind ((W1 A.in1 hh).item k _ _ _ hk1 (sb1 h1 hs1 D.i1z D.l1z) fun x q2 t2 p1 j1 hs2 => wpAny_pure ?_)
    have hTO2 : IsPair q2 TO a b := hs2.extBut _ _ D.TOi1 (hs1.extBut _ _ D.TOz hTO)
    refine wpAny_bind (wpAny_seqItems hTO2 rfl ?_); refine wpAny_bind (wpAny_updateSeq_pair hTO2 fun q3 hTO3 hs3 => ?_); replace hTO3 : IsPair q3 TO x b := hTO3
    refine wpAny_bind (wpAny_letGo (wpAny_pure ?_)); refine wpAny_bind (wpAny_bind (wpAny_onRaise ?_)); show wpAny _ _ (Builtin.SmallTypes.nextOf (.ref i2) >>= _) _ _ _
    refine wpAny_bind ((W2 A.in1 hh).item k _ _ _ hk2 (sb2 (sb2 (sb2 h2 hs1 D.i2z D.l2z) hs2 D.i12.symm D.l2i1) hs3 D.TOi2.symm D.l2TO) fun y q4 t4 p2 j2 hs4 => wpAny_pure ?_)
    have hTO4 : IsPair q4 TO x b := hs4.extBut _ _ D.TOi2 hTO3
    refine wpAny_bind (wpAny_seqItems hTO4 rfl ?_); refine wpAny_bind (wpAny_updateSeq_pair hTO4 fun q5 hTO5 hs5 => ?_); replace hTO5 : IsPair q5 TO x y := hTO5
    refine wpAny_bind (wpAny_letGo (wpAny_pure (wpAny_pure ?_))); refine wpAny_bind (wpAny_seqItems hTO5 rfl ?_); refine wpAny_bind (wpAny_newTuple ?_)
    have hsz : q5.objs.size = s.heap.objs.size := by rw [hs5.1, hs4.1, hs3.1, hs2.1, hs1.1]
    have hz5 : ZipF q5 z TI TO .ellipsis f1 := hs5.extBut _ _ D.TOz.symm (hs4.extBut _ _ D.i2z.symm (hs3.extBut _ _ D.TOz.symm (hs2.extBut _ _ D.i1z.symm hz1)))
    have hk5 : ∀ c o, c ≠ z → c ≠ TO → c ≠ i1 → c ≠ i2 → s.heap.get? c = some o → q5.get? c = some o := fun c o c1 c2 c3 c4 e => hs5.extBut _ _ c2 (hs4.extBut _ _ c4 (hs3.extBut _ _ c2 (hs2.extBut _ _ c3 (hs1.extBut _ _ c1 e))))
    have j15 : S1 (k + 1) q5 := sb1 (sb1 (sb1 j1 hs3 D.TOi1.symm D.l1TO) hs4 D.i12 D.l1i2) hs5 D.TOi1.symm D.l1TO
    have j25 : S2 (k + 1) q5 := sb2 j2 hs5 D.TOi2.symm D.l2TO
    have hzlt : z < q5.objs.size := Heap.lt_size hz5
    show wpAny _ _ (Builtin.SmallTypes.ownedTupleHandOut (.ref z) (.ref q5.objs.size) >>= _) _ _ _; refine wpAny_bind ?_; unfold Builtin.SmallTypes.ownedTupleHandOut
    have hz6 : ZipF (q5.push { cls := .type "tuple", data := .seq #[x, y] }) z TI TO .ellipsis f1 := Heap.get?_push_of_some _ hz5
    refine wpAny_bind (wpAny_setField_rec hz6 (by simp) fun q7 hz7 hs7 => ?_); replace hz7 : ZipF q7 z TI TO (rawInt q5.objs.size) f1 := hz7
    refine wpAny_setField_rec hz7 (by simp) fun q8 hz8 hs8 => ?_; replace hz8 : ZipF q8 z TI TO (rawInt q5.objs.size) false := hz8
    have up : ∀ c o, c ≠ z → q5.get? c = some o → q8.get? c = some o := fun c o c1 e => hs8.extBut _ _ c1 (hs7.extBut _ _ c1 (Heap.get?_push_of_some _ e))
    have hT8 : IsPair q8 q5.objs.size x y := hs8.extBut _ _ (Nat.ne_of_gt hzlt) (hs7.extBut _ _ (Nat.ne_of_gt hzlt) (Heap.get?_push_size _ rfl))
    rw [hsz] at hz8 hT8
    refine wpAny_pure ⟨_, rfl, wpAny_pure ?_⟩
    show Q (some (.ref q5.objs.size)) _
    rw [hsz]
    refine hQ q8 _ x y p1 p2 ⟨_, _, hz8, .inr ⟨_, rfl⟩⟩ ⟨_, _, up _ _ D.TOz hTO5⟩ (fr1 j15 fun b hb o e => up b o ?_ e) (fr2 j25 fun b hb o e => up b o ?_ e) hT8 fun c o c1 c2 c3 c4 e => up c o c1 (hk5 c o c1 c2 c3 c4 e)
    · rcases List.mem_cons.mp hb with r | hb
      · exact r ▸ D.i1z
      · exact List.mem_singleton.mp hb ▸ D.l1z
    · rcases List.mem_cons.mp hb with r | hb
      · exact r ▸ D.i2z
      · exact List.mem_singleton.mp hb ▸ D.l2z
  · rw [if_neg Bool.false_ne_true]
    refine wpAny_bind ?_
    rw [← Array.forIn_toList]
    simp only [List.forIn_cons, List.forIn_nil]
    refine wpAny_bind (wpAny_bind (wpAny_holding ?_)); show wpAny _ _ (Builtin.SmallTypes.nextOf (.ref i1) >>= _) _ _ _
    refine wpAny_bind ((W1 A.in1 hh).item k _ _ _ hk1 (sb1 h1 hs1 D.i1z D.l1z) fun x q2 t2 p1 j1 hs2 => wpAny_pure (wpAny_pure ?_))
    refine wpAny_bind (wpAny_bind (wpAny_holding ?_)); show wpAny _ _ (Builtin.SmallTypes.nextOf (.ref i2) >>= _) _ _ _
    refine wpAny_bind ((W2 A.in1 hh).item k _ _ _ hk2 (sb2 (sb2 h2 hs1 D.i2z D.l2z) hs2 D.i12.symm D.l2i1) fun y q4 t4 p2 j2 hs4 => wpAny_pure (wpAny_pure (wpAny_pure ?_)))
    refine wpAny_bind (wpAny_newTuple ?_ (by show 2 ≤ sizeLine; decide))
    have hsz : q4.objs.size = s.heap.objs.size := by rw [hs4.1, hs2.1, hs1.1]
    have hz4 : ZipF q4 z TI TO f0 true := hs4.extBut _ _ D.i2z.symm (hs2.extBut _ _ D.i1z.symm hz1)
    have up : ∀ c o, q4.get? c = some o → (q4.push { cls := .type "tuple", data := .seq #[x, y] }).get? c = some o := fun c o e => Heap.get?_push_of_some _ e
    have hk4 : ∀ c o, c ≠ z → c ≠ TO → c ≠ i1 → c ≠ i2 → s.heap.get? c = some o → q4.get? c = some o := fun c o c1 c2 c3 c4 e => hs4.extBut _ _ c4 (hs2.extBut _ _ c3 (hs1.extBut _ _ c1 e))
    have hT8 : IsPair (q4.push { cls := .type "tuple", data := .seq #[x, y] }) q4.objs.size x y := Heap.get?_push_size _ rfl
    have hTO4 : IsPair q4 TO a b := hs4.extBut _ _ D.TOi2 (hs2.extBut _ _ D.TOi1 (hs1.extBut _ _ D.TOz hTO))
    refine wpAny_pure ⟨_, rfl, wpAny_pure ?_⟩
    show Q (some (.ref q4.objs.size)) { s with heap := q4.push { cls := .type "tuple", data := .seq #[x, y] }, toks := t4 }
    rw [hsz] at hT8 ⊢
    exact hQ _ _ x y p1 p2 ⟨_, _, up _ _ hz4, hf⟩ ⟨_, _, up _ _ hTO4⟩ (fr1 (sb1 j1 hs4 D.i12 D.l1i2) fun b _ o e => up b o e) (fr2 j2 fun b _ o e => up b o e) hT8 fun c o c1 c2 c3 c4 e => up c o (hk4 c o c1 c2 c3 c4 e)
theorem zipG_end {z TI TO i1 i2 l1 l2 : Addr} {k n1 n2 : Nat} {P1 P2 : Nat → Value → Prop} {S1 S2 : Nat → Heap → Prop} {a b : Value} {Q : Option Value → Shared → Prop} (hh : A.handled = none) (D : ZipApart z TI TO i1 i2 l1 l2) (W1 : Drs prog w i1 l1 n1 P1 S1) (W2 : Drs prog w i2 l2 n2 P2 S2)
    (hz : ZipS s.heap z TI TO) (hTI : IsPair s.heap TI (.ref i1) (.ref i2)) (hTO : IsPair s.heap TO a b) (h1 : S1 k s.heap) (h2 : S2 k s.heap) (hend : k = n1 ∨ (k < n1 ∧ k = n2))
    (hQ : ∀ h' tk, (∀ c o, c ≠ z → c ≠ TO → c ≠ i1 → c ≠ i2 → s.heap.get? c = some o → h'.get? c = some o) → Q none { s with heap := h', toks := tk }) : wpAny (model prog w) A (pyNext (.ref z)) Q E s := by
  obtain ⟨f0, f1, hz, hf⟩ := hz
  have hT : s.TypeIs (.ref z) "zip" := ⟨_, hz, rfl⟩
  have fr1 : ∀ {i : Nat} {h h' : Heap}, S1 i h → (∀ b ∈ [i1, l1], ∀ o, h.get? b = some o → h'.get? b = some o) → S1 i h' := fun st k => (W1 A hh).frame _ _ _ st k
  have fr2 : ∀ {i : Nat} {h h' : Heap}, S2 i h → (∀ b ∈ [i2, l2], ∀ o, h.get? b = some o → h'.get? b = some o) → S2 i h' := fun st k => (W2 A hh).frame _ _ _ st k
  have sb1 : ∀ {i : Nat} {h h' : Heap} {c : Addr}, S1 i h → Heap.SameBut c h h' → i1 ≠ c → l1 ≠ c → S1 i h' := fun st e n1 n2 => fr1 st fun b hb o q => by
    rcases List.mem_cons.mp hb with r | hb
    · exact e.extBut _ _ (r ▸ n1) q
    · exact e.extBut _ _ (List.mem_singleton.mp hb ▸ n2) q
  have sb2 : ∀ {i : Nat} {h h' : Heap} {c : Addr}, S2 i h → Heap.SameBut c h h' → i2 ≠ c → l2 ≠ c → S2 i h' := fun st e n1 n2 => fr2 st fun b hb o q => by
    rcases List.mem_cons.mp hb with r | hb
    · exact e.extBut _ _ (r ▸ n1) q
    · exact e.extBut _ _ (List.mem_singleton.mp hb ▸ n2) q
  have fin : ∀ (h' : Heap) (tk : Nat) (e : Addr), (∀ c o, c ≠ z → c ≠ TO → c ≠ i1 → c ≠ i2 → s.heap.get? c = some o → h'.get? c = some o) → (∃ o, h'.get? e = some o ∧ o.cls = .type "StopIteration") →
      wpAny (model prog w) A (do if ← isInstance (.ref e) (.type "StopIteration") then pure none else throw (.ref e)) Q E { s with heap := h', toks := tk } := fun h' tk e hk ⟨o, ho, hc⟩ =>
    wpAny_bind (wpAny_isInstance (T := "StopIteration") (b := true) ⟨o, ho, hc⟩ isSubtype_stop (wpAny_pure (hQ _ _ hk)))
  unfold pyNext
  refine wpAny_bind (wpAny_attempt (wpAny_callSpecial?_slot (name := Str.ofString "__next__") hT F.slot_zip_next (wpAny_call_entry F.slot_zip_next hT F.entry_zip_next ?_ (F.args_zip_next_1 _))))
  show wpAny _ _ (field (.ref z) 2 >>= _) _ _ _; refine wpAny_bind (wpAny_field hz rfl (x := .bool false) rfl ?_)
  show wpAny _ _ (field (.ref z) 3 >>= _) _ _ _; refine wpAny_bind (wpAny_field hz rfl (x := .ref TI) rfl ?_); refine wpAny_bind (wpAny_seqItems hTI rfl ?_)
  show wpAny _ _ (Builtin.SmallTypes.ownedTupleIsFree (.ref z) >>= _) _ _ _
  refine wpAny_bind (zip_free hz hf ?_ fun q1 hz1 hs1 => ?_)
  · simp only [if_true]; refine wpAny_bind (wpAny_rule ?_); refine wpAny_bind (wpAny_field hz rfl (x := .ref TO) rfl ?_)
    refine wpAny_bind (wpAny_setField_rec hz (by simp) fun q1 hz1 hs1 => ?_); replace hz1 : ZipF q1 z TI TO .ellipsis f1 := hz1
    refine wpAny_bind ?_; simp only [List.zipIdx_cons, List.zipIdx_nil, List.forIn_cons, List.forIn_nil]
    refine wpAny_bind (wpAny_bind (wpAny_onRaise ?_)); show wpAny _ _ (Builtin.SmallTypes.nextOf (.ref i1) >>= _) _ _ _
    rcases hend with he | ⟨hk1, he⟩
    · subst he
      refine wpAny_bind ((W1 A.in1 hh).done _ _ _ (sb1 h1 hs1 D.i1z D.l1z) fun q2 e hs2 hx => ?_)
      obtain ⟨oe, hoe, hce⟩ := hx
      have hz2 : ZipF q2 z TI TO .ellipsis f1 := hs2 _ _ D.i1z.symm hz1
      have hez : e ≠ z := fun x => by subst x; rw [hz2] at hoe; cases hoe; simp at hce
      exact wpAny_setField_rec hz2 (by simp) fun q3 _ hs3 => fin q3 _ e (fun c o c1 _ c3 _ x => hs3.extBut _ _ c1 (hs2 _ _ c3 (hs1.extBut _ _ c1 x))) ⟨oe, hs3.extBut _ _ hez hoe, hce⟩
    · subst he
      refine wpAny_bind ((W1 A.in1 hh).item k _ _ _ hk1 (sb1 h1 hs1 D.i1z D.l1z) fun x q2 t2 p1 j1 hs2 => wpAny_pure ?_)
      have hTO2 : IsPair q2 TO a b := hs2.extBut _ _ D.TOi1 (hs1.extBut _ _ D.TOz hTO)
      refine wpAny_bind (wpAny_seqItems hTO2 rfl ?_); refine wpAny_bind (wpAny_updateSeq_pair hTO2 fun q3 hTO3 hs3 => ?_)
      refine wpAny_bind (wpAny_letGo (wpAny_pure ?_)); refine wpAny_bind (wpAny_bind (wpAny_onRaise ?_)); show wpAny _ _ (Builtin.SmallTypes.nextOf (.ref i2) >>= _) _ _ _
      refine wpAny_bind ((W2 A.in1 hh).done _ _ _ (sb2 (sb2 (sb2 h2 hs1 D.i2z D.l2z) hs2 D.i12.symm D.l2i1) hs3 D.TOi2.symm D.l2TO) fun q4 e hs4 hx => ?_)
      obtain ⟨oe, hoe, hce⟩ := hx
      have hz4 : ZipF q4 z TI TO .ellipsis f1 := hs4 _ _ D.i2z.symm (hs3.extBut _ _ D.TOz.symm (hs2.extBut _ _ D.i1z.symm hz1))
      have hez : e ≠ z := fun x => by subst x; rw [hz4] at hoe; cases hoe; simp at hce
      exact wpAny_setField_rec hz4 (by simp) fun q5 _ hs5 => fin q5 _ e (fun c o c1 c2 c3 c4 x => hs5.extBut _ _ c1 (hs4 _ _ c4 (hs3.extBut _ _ c2 (hs2.extBut _ _ c3 (hs1.extBut _ _ c1 x))))) ⟨oe, hs5.extBut _ _ hez hoe, hce⟩
  · rw [if_neg Bool.false_ne_true]
    refine wpAny_bind ?_
    rw [← Array.forIn_toList]
    simp only [List.forIn_cons, List.forIn_nil]
    refine wpAny_bind (wpAny_bind (wpAny_holding ?_)); show wpAny _ _ (Builtin.SmallTypes.nextOf (.ref i1) >>= _) _ _ _
    rcases hend with he | ⟨hk1, he⟩
    · subst he
      refine wpAny_bind ((W1 A.in1 hh).done _ _ _ (sb1 h1 hs1 D.i1z D.l1z) fun q2 e hs2 hx => ?_)
      exact fin q2 _ e (fun c o c1 _ c3 _ x => hs2 _ _ c3 (hs1.extBut _ _ c1 x)) hx
    · subst he
      refine wpAny_bind ((W1 A.in1 hh).item k _ _ _ hk1 (sb1 h1 hs1 D.i1z D.l1z) fun x q2 t2 p1 j1 hs2 => wpAny_pure (wpAny_pure ?_))
      refine wpAny_bind (wpAny_bind (wpAny_holding ?_)); show wpAny _ _ (Builtin.SmallTypes.nextOf (.ref i2) >>= _) _ _ _
      refine wpAny_bind ((W2 A.in1 hh).done _ _ _ (sb2 (sb2 h2 hs1 D.i2z D.l2z) hs2 D.i12.symm D.l2i1) fun q4 e hs4 hx => ?_)
      exact fin q4 _ e (fun c o c1 _ c3 c4 x => hs4 _ _ c4 (hs2.extBut _ _ c3 (hs1.extBut _ _ c1 x))) hx
end
def PairsAt (P1 P2 : Nat → Value → Prop) (b0 : Nat) (h : Heap) (acc : Array Value) : Prop := ∀ (j : Nat) v, acc[j]? = some v → ∃ a x y, v = .ref a ∧ b0 ≤ a ∧ IsPair h a x y ∧ P1 j x ∧ P2 j y
section
variable {prog : Program} {w : World} {A : Around} {E : Value → Shared → Prop} {s : Shared} {R : Result → Shared → Prop}
theorem zip_loop {z TI TO i1 i2 l1 l2 S : Addr} {n1 n2 : Nat} {P1 P2 : Nat → Value → Prop} {S1 S2 : Nat → Heap → Prop} (hh : A.handled = none) (D : ZipApart z TI TO i1 i2 l1 l2) (W1 : Drs prog w i1 l1 n1 P1 S1) (W2 : Drs prog w i2 l2 n2 P2 S2)
    (hS : S ≠ z ∧ S ≠ TI ∧ S ≠ TO ∧ S ≠ i1 ∧ S ≠ i2 ∧ S ≠ l1 ∧ S ≠ l2) (res : Value) (hn : n1 ≤ 1000) (b0 : Nat) :
    ∀ (k i : Nat) (s : Shared) (acc : Array Value) (c : Nat), min n1 n2 - i = k → i ≤ min n1 n2 → ZipS s.heap z TI TO → IsPair s.heap TI (.ref i1) (.ref i2) → (∃ p q, IsPair s.heap TO p q) → S1 i s.heap → S2 i s.heap → b0 ≤ s.heap.objs.size → (∀ x ∈ [z, TI, TO, i1, i2, l1, l2, S], x < b0) →
      s.heap.get? S = some { cls := .type "list", dict := none, data := .seq acc c, slots := #[] } → acc.size = i → PairsAt P1 P2 b0 s.heap acc →
      (∀ h' tk acc' c', (∀ b o, b ≠ z → b ≠ TO → b ≠ i1 → b ≠ i2 → b ≠ S → s.heap.get? b = some o → h'.get? b = some o) → h'.get? S = some { cls := .type "list", dict := none, data := .seq acc' c', slots := #[] } → acc'.size = min n1 n2 → PairsAt P1 P2 b0 h' acc' → R (.ok (.ret res)) { s with heap := h', toks := tk }) →
      codeAny (model prog w) A (.builtin "list.extend.loop" ⟨[.ref S, .ref z, res], []⟩) R s := by
  obtain ⟨s1, s2, s3, s4, s5, s6, s7⟩ := hS
  intro k
  induction k with
  | zero =>
    intro i s acc c hk hi hz hTI hTO h1 h2 hb hlt hS hacc hP hR
    obtain ⟨p, q, hTO⟩ := hTO
    refine codeAny_builtin F.entry_extend_loop ?_
    rw [Around.under_plainId F.plain_extend_loop _]
    show wpAny _ A.in1 (pyNext (.ref z) >>= _) _ _ s
    refine wpAny_bind (zipG_end (k := i) hh D W1 W2 hz hTI hTO h1 h2 (by omega) fun h' tk hkp => ?_)
    refine wpAny_pure (hR h' tk acc c (fun b o n1 n2 n3 n4 _ e => hkp b o n1 n2 n3 n4 e) (hkp S _ s1 s3 s4 s5 hS) (by omega) fun j v e => ?_)
    obtain ⟨a, x, y, ev, hba, hpr, r⟩ := hP j v e
    have ne : ∀ c ∈ [z, TI, TO, i1, i2, l1, l2, S], a ≠ c := fun c hc z => absurd (hlt c hc) (by rw [← z]; exact Nat.not_lt.mpr hba)
    exact ⟨a, x, y, ev, hba, hkp a _ (ne z (by simp)) (ne TO (by simp)) (ne i1 (by simp)) (ne i2 (by simp)) hpr, r⟩
  | succ k ih =>
    intro i s acc c hk hi hz hTI hTO h1 h2 hb hlt hS hacc hP hR
    obtain ⟨p, q, hTO⟩ := hTO
    refine codeAny_builtin F.entry_extend_loop ?_
    rw [Around.under_plainId F.plain_extend_loop _]
    show wpAny _ A.in1 (pyNext (.ref z) >>= _) _ _ s
    refine wpAny_bind (zipG_item (k := i) hh D W1 W2 hz hTI hTO h1 h2 (by omega) (by omega) fun h' tk x y p1 p2 hz' hTO' j1 j2 hpr hkp => ?_)
    have hS' := hkp S _ s1 s3 s4 s5 hS
    show wpAny _ A.in1 (updateSeq S (·.push (.ref s.heap.objs.size)) >>= _) _ _ _
    refine wpAny_bind ?_
    have fin : sizeLine = sizeLine := rfl
    have h1000 : (1000 : Nat) ≤ sizeLine := by decide
    have oth : ∀ b o, b ≠ S → h'.get? b = some o → (h'.update S (Obj.mapSeq (·.push (.ref s.heap.objs.size)))).get? b = some o := fun b o hb e => (Heap.get?_update_other _ _ (Ne.symm hb)).trans e
    have fr1 : ∀ {i : Nat} {h h' : Heap}, S1 i h → (∀ b ∈ [i1, l1], ∀ o, h.get? b = some o → h'.get? b = some o) → S1 i h' := fun st k => (W1 A hh).frame _ _ _ st k
    have fr2 : ∀ {i : Nat} {h h' : Heap}, S2 i h → (∀ b ∈ [i2, l2], ∀ o, h.get? b = some o → h'.get? b = some o) → S2 i h' := fun st k => (W2 A hh).frame _ _ _ st k
    obtain ⟨f0, f1, hz', hf⟩ := hz'
    obtain ⟨p', q', hTO'⟩ := hTO'
    have hTI' : IsPair h' TI (.ref i1) (.ref i2) := hkp TI _ D.TIz D.TITO D.TIi1 D.TIi2 hTI
    have hsz : s.heap.objs.size < h'.objs.size := Heap.lt_size hpr
    have nS : s.heap.objs.size ≠ S := Nat.ne_of_gt (Heap.lt_size hS)
    refine wpAny_updateSeq hS' rfl (wpAny_pure ⟨plainId_quiet F.plain_extend_loop _, ih (i + 1) _ (acc.push (.ref s.heap.objs.size)) _ (by omega) (by omega) ⟨f0, f1, oth z _ s1.symm hz', hf⟩ (oth TI _ s2.symm hTI') ⟨p', q', oth TO _ s3.symm hTO'⟩
      (fr1 j1 fun b hb o e => oth b o ?_ e) (fr2 j2 fun b hb o e => oth b o ?_ e) (by show b0 ≤ (h'.update S _).objs.size; rw [Heap.size_after_update]; omega) hlt (Heap.get?_update_self _ hS' rfl) (by rw [Array.size_push, hacc]) ?_ fun h'' tk'' acc'' c'' hk'' hS'' hz'' hp'' => ?_⟩)
      (by rw [hacc]; omega) (by show (acc.push _).size ≤ sizeLine + 1; rw [Array.size_push, hacc]; omega)
    · rcases List.mem_cons.mp hb with r | hb
      · exact r ▸ s4.symm
      · exact List.mem_singleton.mp hb ▸ s6.symm
    · rcases List.mem_cons.mp hb with r | hb
      · exact r ▸ s5.symm
      · exact List.mem_singleton.mp hb ▸ s7.symm
    · intro j v e
      rw [Array.getElem?_push] at e
      split at e
      · rename_i ej
        cases e
        refine ⟨_, x, y, rfl, hb, oth _ _ nS hpr, ?_, ?_⟩
        · rw [ej, hacc]; exact p1
        · rw [ej, hacc]; exact p2
      · obtain ⟨a, x', y', ev, hba, hpr', r⟩ := hP j v e
        have ne : ∀ c ∈ [z, TI, TO, i1, i2, l1, l2, S], a ≠ c := fun c hc z => absurd (hlt c hc) (by rw [← z]; exact Nat.not_lt.mpr hba)
        exact ⟨a, x', y', ev, hba, oth _ _ (ne S (by simp)) (hkp a _ (ne z (by simp)) (ne TO (by simp)) (ne i1 (by simp)) (ne i2 (by simp)) hpr'), r⟩
    · exact hR h'' tk'' acc'' c'' (fun b o n1 n2 n3 n4 n5 e => hk'' b o n1 n2 n3 n4 n5 (oth b o n5 (hkp b o n1 n2 n3 n4 e))) hS'' hz'' hp''
end
end L2
set_option Elab.async false
set_option linter.all false
set_option maxRecDepth 100000
set_option maxHeartbeats 4000000
namespace L2
open PySem PySem.Spec PyProof.Rows
theorem zip_no_len : typeLookup (.type "zip") (Str.ofString "__len__") = pure none := by rw [typeLookup_type, builtinLookup_eq_fast]; kernel_rfl
theorem zip_no_hint : typeLookup (.type "zip") (Str.ofString "__length_hint__") = pure none := by rw [typeLookup_type, builtinLookup_eq_fast]; kernel_rfl
section
variable {prog : Program} {w : World} {A : Around} {E : Value → Shared → Prop} {s : Shared}
theorem zip_iter {z TI TO : Addr} {Q : Value → Shared → Prop} (hz : ZipS s.heap z TI TO) (h : Q (.ref z) s) : wpAny (model prog w) A (pyIter (.ref z)) Q E s := by
  obtain ⟨f0, f1, hz, _⟩ := hz
  have hT : s.TypeIs (.ref z) "zip" := ⟨_, hz, rfl⟩
  refine wpAny_pyIter_slot hT F.slot_zip_iter (wpAny_call_entry F.slot_zip_iter hT F.entry_zip_iter ?_ (F.args_zip_iter_1 _))
  show wpAny _ _ (ret (.ref z)) _ _ s
  exact wpAny_pure ⟨_, rfl, "zip", _, hT, F.slot_zip_next.lookup, h⟩
theorem zip_hint {z : Addr} {Q : Bool → Shared → Prop} (hT : s.TypeIs (.ref z) "zip") (h : Q true s) : wpAny (model prog w) A (Builtin.List.listLengthHint (.ref z)) Q E s := by
  unfold Builtin.List.listLengthHint
  refine wpAny_bind (wpAny_specialOf hT zip_no_len ?_)
  show wpAny _ _ (specialOf (Value.ref z) (Str.ofString "__length_hint__") >>= _) _ _ _
  refine wpAny_bind (wpAny_specialOf hT zip_no_hint ?_)
  exact wpAny_pure h
theorem zip_extend {z TI TO i1 i2 l1 l2 S : Addr} {n1 n2 : Nat} {P1 P2 : Nat → Value → Prop} {S1 S2 : Nat → Heap → Prop} {R : Result → Shared → Prop} (hh : A.handled = none) (D : ZipApart z TI TO i1 i2 l1 l2) (W1 : Drs prog w i1 l1 n1 P1 S1) (W2 : Drs prog w i2 l2 n2 P2 S2)
    (hS : S ≠ z ∧ S ≠ TI ∧ S ≠ TO ∧ S ≠ i1 ∧ S ≠ i2 ∧ S ≠ l1 ∧ S ≠ l2) (res : Value) (hn : n1 ≤ 1000) (c0 : Nat) (hz : ZipS s.heap z TI TO) (hTI : IsPair s.heap TI (.ref i1) (.ref i2)) (hTO : ∃ p q, IsPair s.heap TO p q) (h1 : S1 0 s.heap) (h2 : S2 0 s.heap)
    (hlt : ∀ x ∈ [z, TI, TO, i1, i2, l1, l2, S], x < s.heap.objs.size) (hL : s.heap.get? S = some { cls := .type "list", data := .seq #[] c0 })
    (hR : ∀ h' tk acc' c', (∀ b o, b ≠ z → b ≠ TO → b ≠ i1 → b ≠ i2 → b ≠ S → s.heap.get? b = some o → h'.get? b = some o) → h'.get? S = some { cls := .type "list", dict := none, data := .seq acc' c', slots := #[] } → acc'.size = min n1 n2 → PairsAt P1 P2 s.heap.objs.size h' acc' → R (.ok (.ret res)) { s with heap := h', toks := tk }) :
    wpAny (model prog w) A.in1 (Builtin.List.listExtendWith (.ref S) (.ref z) res)
      (fun fin s' => match fin with | .done f => R (.ok f) s' | .again c' => c'.quiet = true ∧ codeAny (model prog w) A c' R s') (fun e s' => R (.error e) s') s := by
  obtain ⟨f0, f1, hz0, hf⟩ := hz
  have hT : s.TypeIs (.ref z) "zip" := ⟨_, hz0, rfl⟩
  obtain ⟨s1, s2, s3, s4, s5, s6, s7⟩ := id hS
  unfold Builtin.List.listExtendWith
  refine wpAny_bind (wpAny_typeOf (T := "zip") hT ?_)
  have e1 : Builtin.List.listSameRef (.ref S) (.ref z) = false := by simp [Builtin.List.listSameRef, s1]
  have e2 : (Value.type "zip" == Value.type "list") = false := by decide
  have e3 : (Value.type "zip" == Value.type "tuple") = false := by decide
  simp only [e1, e2, e3, Bool.or_false, Bool.false_eq_true, if_false]
  refine wpAny_bind (zip_iter ⟨f0, f1, hz0, hf⟩ ?_)
  refine wpAny_bind (wpAny_holding (zip_hint hT ?_))
  have fr1 : ∀ {i : Nat} {h h' : Heap}, S1 i h → (∀ b ∈ [i1, l1], ∀ o, h.get? b = some o → h'.get? b = some o) → S1 i h' := fun st k => (W1 A hh).frame _ _ _ st k
  have fr2 : ∀ {i : Nat} {h h' : Heap}, S2 i h → (∀ b ∈ [i2, l2], ∀ o, h.get? b = some o → h'.get? b = some o) → S2 i h' := fun st k => (W2 A hh).frame _ _ _ st k
  have key : ∀ (h : Heap) (c1 tk : Nat), h.objs.size = s.heap.objs.size → (∀ b o, b ≠ S → s.heap.get? b = some o → h.get? b = some o) → h.get? S = some { cls := .type "list", data := .seq #[] c1 } →
      codeAny (model prog w) A (.builtin "list.extend.loop" ⟨[.ref S, .ref z, res], []⟩) R { s with heap := h, toks := tk } := by
    intro h c1 tk hsz hk hS1
    obtain ⟨p, q, hTO⟩ := hTO
    refine zip_loop hh D W1 W2 hS res hn s.heap.objs.size (min n1 n2) 0 _ #[] c1 (by omega) (by omega) ⟨f0, f1, hk z _ s1.symm hz0, hf⟩ (hk TI _ s2.symm hTI) ⟨p, q, hk TO _ s3.symm hTO⟩ (fr1 h1 fun b hb o e => hk b o ?_ e) (fr2 h2 fun b hb o e => hk b o ?_ e) (by show _ ≤ h.objs.size; omega) hlt hS1 rfl (fun j v e => by simp at e) fun h' tk' acc' c' k' a b d => ?_
    · rcases List.mem_cons.mp hb with r | hb
      · exact r ▸ s4.symm
      · exact List.mem_singleton.mp hb ▸ s6.symm
    · rcases List.mem_cons.mp hb with r | hb
      · exact r ▸ s5.symm
      · exact List.mem_singleton.mp hb ▸ s7.symm
    · exact hR h' tk' acc' c' (fun b o n1 n2 n3 n4 n5 e => k' b o n1 n2 n3 n4 n5 (hk b o n5 e)) a b d
  refine wpAny_ite_split (fun _ => ?_) (fun _ => wpAny_pure ⟨plainId_quiet PySem.F.plain_extend_loop _, key _ c0 _ rfl (fun b o _ e => e) hL⟩)
  refine wpAny_bind (wpAny_rule ?_)
  refine wpAny_bind ?_
  show wpAny _ _ (updateSeq S (·.push .none) >>= fun _ => updateSeq S (·.pop)) _ _ _
  refine wpAny_bind (wpAny_updateSeq hL rfl ?_)
  have hL2 := Heap.get?_update_self (Obj.mapSeq (·.push Value.none)) hL rfl
  refine wpAny_updateSeq (hz := by seq_fits) hL2 rfl ?_
  have hL3 := Heap.get?_update_self (Obj.mapSeq (·.pop)) hL2 rfl
  refine wpAny_pure ⟨plainId_quiet PySem.F.plain_extend_loop _, key _ _ _ (by rw [Heap.size_after_update, Heap.size_after_update]) (fun b o hb e => ?_) hL3⟩
  exact (Heap.get?_update_other _ _ (Ne.symm hb)).trans ((Heap.get?_update_other _ _ (Ne.symm hb)).trans e)
theorem call_listZip {z TI TO i1 i2 l1 l2 : Addr} {n1 n2 : Nat} {P1 P2 : Nat → Value → Prop} {S1 S2 : Nat → Heap → Prop} {Q : Value → Shared → Prop} (hh : A.handled = none) (D : ZipApart z TI TO i1 i2 l1 l2) (W1 : Drs prog w i1 l1 n1 P1 S1) (W2 : Drs prog w i2 l2 n2 P2 S2) (hn : n1 ≤ 1000)
    (hz : ZipS s.heap z TI TO) (hTI : IsPair s.heap TI (.ref i1) (.ref i2)) (hTO : ∃ p q, IsPair s.heap TO p q) (h1 : S1 0 s.heap) (h2 : S2 0 s.heap) (hlt : ∀ x ∈ [z, TI, TO, i1, i2, l1, l2], x < s.heap.objs.size)
    (hQ : ∀ h' tk acc' c', (∀ b o, b ≠ z → b ≠ TO → b ≠ i1 → b ≠ i2 → s.heap.get? b = some o → h'.get? b = some o) → h'.get? s.heap.objs.size = some { cls := .type "list", dict := none, data := .seq acc' c', slots := #[] } → acc'.size = min n1 n2 → PairsAt P1 P2 (s.heap.objs.size + 1) h' acc' → Q (.ref s.heap.objs.size) { s with heap := h', toks := tk }) :
    wpAny (model prog w) A (call (.type "list") [.ref z]) Q E s := by
  refine callType_codes (Q₁ := fun obj s₁ => obj = .ref s.heap.objs.size ∧ s₁ = { s with heap := s.heap.push { cls := .type "list", data := .seq #[] } }) PySem.F.called_list (PySem.F.typeCall_list_1 _) PySem.F.entry_list_init
    (code_list_new _ ⟨rfl, rfl⟩) fun obj s₁ h₁ => ?_
  obtain ⟨rfl, rfl⟩ := h₁
  have hS : (s.heap.push { cls := .type "list", data := .seq #[] }).get? s.heap.objs.size = some { cls := .type "list", data := .seq #[] } := Heap.get?_push_size _ rfl
  have ne : ∀ x ∈ [z, TI, TO, i1, i2, l1, l2], s.heap.objs.size ≠ x := fun x hx => Nat.ne_of_gt (hlt x hx)
  refine ⟨⟨_, hS, rfl⟩, PySem.F.args_list_init_2 _ _, ?_⟩
  show wpAny _ _ (do let old ← Builtin.List.listItems (.ref s.heap.objs.size); Builtin.List.listUpdate (.ref s.heap.objs.size) (fun _ => #[]); letGo old.toList.reverse; Builtin.List.listExtendWith (.ref s.heap.objs.size) (.ref z) .none) _ _ _
  refine wpAny_bind ?_
  unfold Builtin.List.listItems
  refine wpAny_bind (wpAny_seqItems hS rfl (wpAny_pure ?_))
  show wpAny _ _ (updateSeq s.heap.objs.size (fun _ => #[]) >>= fun _ => letGo (#[] : Array Value).toList.reverse >>= fun _ => Builtin.List.listExtendWith (.ref s.heap.objs.size) (.ref z) .none) _ _ _
  refine wpAny_bind (wpAny_updateSeq hS rfl ?_)
  have hS₂ := Heap.get?_update_self (Obj.mapSeq (fun _ => (#[] : Array Value))) hS rfl
  have oth : ∀ b o, b ≠ s.heap.objs.size → s.heap.get? b = some o → ((s.heap.push { cls := .type "list", data := .seq #[] }).update s.heap.objs.size (Obj.mapSeq (fun _ => (#[] : Array Value)))).get? b = some o :=
    fun b o hb e => (Heap.get?_update_other _ _ (Ne.symm hb)).trans (Heap.get?_push_of_some _ e)
  have up : ∀ b o, s.heap.get? b = some o → ((s.heap.push { cls := .type "list", data := .seq #[] }).update s.heap.objs.size (Obj.mapSeq (fun _ => (#[] : Array Value)))).get? b = some o := fun b o e => oth b o (Nat.ne_of_lt (Heap.lt_size e)) e
  refine wpAny_bind (wpAny_letGo ?_)
  obtain ⟨f0, f1, hz0, hf⟩ := hz
  obtain ⟨p, q, hTO⟩ := hTO
  have fr1 : ∀ {i : Nat} {h h' : Heap}, S1 i h → (∀ b ∈ [i1, l1], ∀ o, h.get? b = some o → h'.get? b = some o) → S1 i h' := fun st k => (W1 A hh).frame _ _ _ st k
  have fr2 : ∀ {i : Nat} {h h' : Heap}, S2 i h → (∀ b ∈ [i2, l2], ∀ o, h.get? b = some o → h'.get? b = some o) → S2 i h' := fun st k => (W2 A hh).frame _ _ _ st k
  have hsz : ((s.heap.push { cls := .type "list", data := .seq #[] }).update s.heap.objs.size (Obj.mapSeq (fun _ => (#[] : Array Value)))).objs.size = s.heap.objs.size + 1 := by rw [Heap.size_after_update, Heap.size_push]
  refine zip_extend (A := A.in1) hh D W1 W2 ⟨ne z (by simp), ne TI (by simp), ne TO (by simp), ne i1 (by simp), ne i2 (by simp), ne l1 (by simp), ne l2 (by simp)⟩ .none hn _ ⟨f0, f1, up _ _ hz0, hf⟩ (up _ _ hTI) ⟨p, q, up _ _ hTO⟩ (fr1 h1 fun b _ o e => up b o e) (fr2 h2 fun b _ o e => up b o e) (fun x hx => ?_) hS₂ fun h' tk acc' c' hk hS' ha hp => ?_
  · show x < _
    rw [hsz]
    by_cases hx' : x ∈ [z, TI, TO, i1, i2, l1, l2]
    · exact Nat.lt_succ_of_lt (hlt x hx')
    · have : x = s.heap.objs.size := by
        simp only [List.mem_cons, List.not_mem_nil, or_false] at hx hx'
        simp only [not_or] at hx'
        obtain ⟨a1, a2, a3, a4, a5, a6, a7⟩ := hx'
        rcases hx with r | r | r | r | r | r | r | r
        · exact absurd r a1
        · exact absurd r a2
        · exact absurd r a3
        · exact absurd r a4
        · exact absurd r a5
        · exact absurd r a6
        · exact absurd r a7
        · exact r
      rw [this]; exact Nat.lt_succ_self _
  · refine ⟨rfl, hQ h' tk acc' c' (fun b o n1 n2 n3 n4 e => hk b o n1 n2 n3 n4 (Nat.ne_of_lt (Heap.lt_size e)) (up b o e)) hS' ha ?_⟩
    have hp' : PairsAt P1 P2 ((s.heap.push { cls := .type "list", data := .seq #[] }).update s.heap.objs.size (Obj.mapSeq (fun _ => (#[] : Array Value)))).objs.size h' acc' := hp
    rw [hsz] at hp'
    exact hp'
end
end L2
set_option Elab.async false
set_option linter.all false
set_option maxRecDepth 100000
set_option maxHeartbeats 4000000
namespace L2
open PySem PySem.Spec PyProof.Rows
theorem meets_zipLT (l1 l2 : Addr) (xs ys : Array Value) :
    Meets (Builtin.«zip.__new__» ⟨[.type "zip", .ref l1, .ref l2], []⟩) (fun _ R s => s.heap.IsList l1 xs ∧ s.heap.IsTuple l2 ys ∧
      ∀ (h' : Heap) (z TI TO i1 i2 : Addr), (∀ c o, s.heap.get? c = some o → h'.get? c = some o) → s.heap.objs.size ≤ z → s.heap.objs.size ≤ TI → s.heap.objs.size ≤ TO → s.heap.objs.size ≤ i1 → s.heap.objs.size ≤ i2 →
        (TI ≠ z ∧ TO ≠ z ∧ i1 ≠ z ∧ i2 ≠ z ∧ TI ≠ TO ∧ TI ≠ i1 ∧ TI ≠ i2 ∧ TO ≠ i1 ∧ TO ≠ i2 ∧ i1 ≠ i2) → IsZip h' z TI TO .none → IsPair h' TI (.ref i1) (.ref i2) → IsPair h' TO .none .none → h'.IsListIter i1 l1 0 → h'.IsTupleIter i2 l2 0 →
        R (.ok (.ret (.ref z))) { s with heap := h' }) :=
  .of_wp fun prog w A R s h => by
    obtain ⟨hp, g, d, tk, os⟩ := s; obtain ⟨hl1, hl2, h⟩ := h; have hsub := sub_zip
    have hL1 : Heap.IsList (Shared.heap ⟨hp, g, d, tk, os⟩) l1 xs := hl1
    have hL2 : Heap.IsTuple (Shared.heap ⟨hp.push { cls := .type "list_iterator", data := .fields #[.ref l1, .int 0 0] }, g, d, tk, os⟩) l2 ys := let ⟨o, ho, r⟩ := hl2; ⟨o, Heap.get?_push_of_some _ ho, r⟩
    wp_walk using wpAny_pyIter_list hL1, wpAny_pyIter_tuple hL2
    refine ⟨_, rfl, h _ _ _ _ _ _ (fun c o e => Heap.get?_push_of_some _ (Heap.get?_push_of_some _ (Heap.get?_push_of_some _ (Heap.get?_push_of_some _ (Heap.get?_push_of_some _ e))))) ?_ ?_ ?_ ?_ ?_ ?_ (Heap.get?_push_size _ rfl) (Heap.get?_push_of_some _ (Heap.get?_push_of_some _ (Heap.get?_push_size _ rfl))) (Heap.get?_push_of_some _ (Heap.get?_push_size _ rfl))
      ⟨_, Heap.get?_push_of_some _ (Heap.get?_push_of_some _ (Heap.get?_push_of_some _ (Heap.get?_push_of_some _ (Heap.get?_push_size _ rfl)))), rfl, rfl⟩ ⟨_, Heap.get?_push_of_some _ (Heap.get?_push_of_some _ (Heap.get?_push_of_some _ (Heap.get?_push_size _ rfl))), rfl, rfl⟩⟩
    all_goals simp only [Heap.size_push]
    all_goals first
      | omega
      | (refine ⟨?_, ?_, ?_, ?_, ?_, ?_, ?_, ?_, ?_, ?_⟩ <;> (intro e; have e' : @Eq Nat _ _ := e; omega))
section
variable {prog : Program} {w : World} {A : Around} {E : Value → Shared → Prop} {s : Shared}
theorem call_zipLT {l1 l2 : Addr} {xs ys : Array Value} {Q : Value → Shared → Prop} (hl1 : s.heap.IsList l1 xs) (hl2 : s.heap.IsTuple l2 ys)
    (h : ∀ (h' : Heap) (z TI TO i1 i2 : Addr), (∀ c o, s.heap.get? c = some o → h'.get? c = some o) → s.heap.objs.size ≤ z → s.heap.objs.size ≤ TI → s.heap.objs.size ≤ TO → s.heap.objs.size ≤ i1 → s.heap.objs.size ≤ i2 →
        (TI ≠ z ∧ TO ≠ z ∧ i1 ≠ z ∧ i2 ≠ z ∧ TI ≠ TO ∧ TI ≠ i1 ∧ TI ≠ i2 ∧ TO ≠ i1 ∧ TO ≠ i2 ∧ i1 ≠ i2) → IsZip h' z TI TO .none → IsPair h' TI (.ref i1) (.ref i2) → IsPair h' TO .none .none → h'.IsListIter i1 l1 0 → h'.IsTupleIter i2 l2 0 → Q (.ref z) { s with heap := h' }) :
    wpAny (model prog w) A (call (.type "zip") [.ref l1, .ref l2]) Q E s := by
  refine callType_new F.called_zip (by decide) (F.typeCall_zip_2 _ _) (F.newCall_zip_2 _ _) (fun obj => F.args_object_init_3 obj _ _) F.entry_zip_new (meets_zipLT l1 l2 xs ys) ⟨hl1, hl2, fun h' z TI TO i1 i2 a0 a1 a2 a3 a4 a5 a6 a7 a8 a9 b1 b2 => ?_⟩
  exact ⟨⟨_, a7, rfl⟩, h h' z TI TO i1 i2 a0 a1 a2 a3 a4 a5 a6 a7 a8 a9 b1 b2⟩
end
def ov (H N : Hp) : Hp := fun a => (N a).or (H a)
theorem ov_new {H N : Hp} {a : Addr} {o : HO} (h : N a = some o) : ov H N a = some o := by unfold ov; rw [h]; rfl
theorem ov_old {H N : Hp} {a : Addr} (h : N a = none) : ov H N a = H a := by unfold ov; rw [h]; rfl
theorem Inv.more {X : Cx} {pins : List (Addr × Obj)} {σ : St} {H N : Hp} {s : Shared} {h' : Heap} {t' : Nat} (I : Inv X pins σ H s) (k : ∀ b u, s.heap.get? b = some u → h'.get? b = some u) (hN : ∀ a o, N a = some o → s.heap.objs.size ≤ a)
    (new : ∀ a o, N a = some o → ObjOk X.prog X.w (ov H N) h' a o) : Inv X pins σ (ov H N) { s with heap := h', toks := t' } := by
  have old : ∀ b, b < s.heap.objs.size → N b = none := fun b hb => by
    cases e : N b with
    | none => rfl
    | some o => exact absurd (hN b o e) (Nat.not_le.mpr hb)
  have tr : ∀ b u, H b = some u → ov H N b = some u := fun b u e => by rw [ov_old (old b (I.hok.lt e))]; exact e
  refine I.un ⟨fun b o q _ _ _ => k b o q, fun b o q _ _ _ => ⟨o.slots, k b o q⟩, fun b o q n _ => by rw [ov_old (old b (Heap.lt_size q))]; exact n, fun b o q _ => ⟨o, k b o q⟩, fun b xs q => tr b _ q, fun b o u q => tr b _ q, fun b ps q => ⟨#[], by rw [tr b _ q]; simp⟩⟩ fun b u e => ?_
  cases en : N b with
  | some o =>
    rw [ov_new en] at e; cases e
    exact new b _ en
  | none =>
    rw [ov_old en] at e
    exact (I.hok b u e).stay (fun c v _ q => k c v q) (fun c q => tr c _ q) fun c xs q => tr c _ q
theorem vals_refs : ∀ ps : List Addr, Vals (ps.map V.ref) (ps.map Value.ref)
  | [] => .nil
  | _ :: ps => .cons rfl (vals_refs ps)
def tListZip (ta : TA) : TE := fun σ H Q => ta σ H fun vs H1 => ∃ (a b : Addr) (xs ys : List V), vs = [.ref a, .ref b] ∧ H1 a = some (.lst xs) ∧ H1 b = some (.tup ys) ∧ xs.length ≤ 1000 ∧
  ∀ (l : Addr) (ps : List Addr) (H' : Hp), Same H1 H' → H1 l = none → ps.length = min xs.length ys.length → H' l = some (.lst (ps.map V.ref)) → (∀ (j : Nat) p, ps[j]? = some p → p ≠ l ∧ H1 p = none ∧ ∃ x y, xs[j]? = some x ∧ ys[j]? = some y ∧ H' p = some (.tup [x, y])) → Q (.ref l) H'
theorem pe_listZip {X : Cx} {a b : Expr} {ta : TA} {p p2 pos pos2 : Pos} (hc : X.calm = true) (hg : Gl X "list") (hm : X.mg "list" = none) (hg2 : Gl X "zip") (hm2 : X.mg "zip" = none) (ha : PA X [a, b] ta) (hs : starEach [a, b] X.env = [(false, eval a X.env), (false, eval b X.env)] := by rfl) (hs2 : starEach [b] X.env = [(false, eval b X.env)] := by rfl)
    (hs3 : starEach [Expr.Call (.Name "zip" p2) [a, b] [] pos2] X.env = [(false, eval (Expr.Call (.Name "zip" p2) [a, b] [] pos2) X.env)] := by rfl) :
    PE X (.Call (.Name "list" p) [.Call (.Name "zip" p2) [a, b] [] pos2] [] pos) (tListZip ta) := by
  intro pins s σ H Q I h
  refine Call_ (ld_blt I hg hm PyProof.Rows.boot_list (PyProof.Rows.callWith_type1 ?_ hs3 rfl))
  rw [hs3]
  show wpAny _ _ (spliced [(false, eval (Expr.Call (.Name "zip" p2) [a, b] [] pos2) X.env)]) _ _ s
  refine Calls.spliced_cons ?_
  refine Call_ (ld_blt I hg2 hm2 boot_zip' (PyProof.Rows.callWith_type1 (thn (ha pos2 pins s σ H _ I h) fun us s1 ⟨vs, H1, I1, r1, q1⟩ => ?_) (by rw [hs, hs2]) (by rw [hs2]; rfl)))
  obtain ⟨la, lb, xs, ys, e, h1, h2, hx, q⟩ := q1
  subst e
  obtain ⟨u1, u2, rfl, ru1, ru2⟩ := vals2 r1
  cases ru1
  cases ru2
  obtain ⟨its, rv, t1, _⟩ := I1.list (SqL.of h1)
  obtain ⟨its2, rv2, t2, _⟩ := I1.tuple (SqT.of h2)
  have e1 := rv.length
  have e2 := rv2.length
  refine call_zipLT t1.isList (show s1.heap.IsTuple lb its2.toArray from t2) fun h' z TI TO i1 i2 a0 a1 a2 a3 a4 a5 a6 a7 a8 a9 b1 b2 => ?_
  refine Calls.spliced_nil ?_
  have zlt : ∀ x ∈ [z, TI, TO, i1, i2, la, lb], x < h'.objs.size := fun x hx => by
    simp only [List.mem_cons, List.not_mem_nil, or_false] at hx
    rcases hx with rfl | rfl | rfl | rfl | rfl | rfl | rfl
    · exact Heap.lt_size a7
    · exact Heap.lt_size a8
    · exact Heap.lt_size a9
    · obtain ⟨_, e, _⟩ := b1; exact Heap.lt_size e
    · obtain ⟨_, e, _⟩ := b2; exact Heap.lt_size e
    · obtain ⟨o, _, e, _⟩ := t1; exact Heap.lt_size (a0 _ _ e)
    · obtain ⟨o, e, _⟩ := t2; exact Heap.lt_size (a0 _ _ e)
  have lla : la < s1.heap.objs.size := let ⟨o, _, e, _⟩ := t1; Heap.lt_size e
  have llb : lb < s1.heap.objs.size := let ⟨o, e, _⟩ := t2; Heap.lt_size e
  obtain ⟨n1, n2, n3, n4, n5, n6, n7, n8, n9, n10⟩ := a6
  have D : ZipApart z TI TO i1 i2 la lb := ⟨n1, n2, n3, n4, n5, n6, n7, n8, n9, n10, Nat.ne_of_lt (Nat.lt_of_lt_of_le lla a1), Nat.ne_of_lt (Nat.lt_of_lt_of_le lla a3), Nat.ne_of_lt (Nat.lt_of_lt_of_le lla a4), Nat.ne_of_lt (Nat.lt_of_lt_of_le lla a5),
    Nat.ne_of_lt (Nat.lt_of_lt_of_le llb a1), Nat.ne_of_lt (Nat.lt_of_lt_of_le llb a3), Nat.ne_of_lt (Nat.lt_of_lt_of_le llb a4), Nat.ne_of_lt (Nat.lt_of_lt_of_le llb a5)⟩
  have L1 : h'.IsList la its.toArray := let ⟨o, n, e, r⟩ := t1; PlainL.isList ⟨o, n, a0 _ _ e, r⟩
  have L2 : h'.IsTuple lb its2.toArray := let ⟨o, e, r⟩ := t2; ⟨o, a0 _ _ e, r⟩
  refine call_listZip (s := { s1 with heap := h' }) (I1.ok.hd hc) D (drs_list i1 la D.l1i1 its.toArray) (drs_tup i2 lb D.l2i2 its2.toArray) (by simp; omega) ⟨_, _, a7, .inl rfl⟩ a8 ⟨_, _, a9⟩ ⟨b1, L1⟩ ⟨b2, L2⟩ zlt fun h2 tk acc c' k2 hS hsz hp => ?_
  have k1 : ∀ b o, s1.heap.get? b = some o → h2.get? b = some o := fun b o e => k2 b o (Nat.ne_of_lt (Nat.lt_of_lt_of_le (Heap.lt_size e) a1)) (Nat.ne_of_lt (Nat.lt_of_lt_of_le (Heap.lt_size e) a3)) (Nat.ne_of_lt (Nat.lt_of_lt_of_le (Heap.lt_size e) a4)) (Nat.ne_of_lt (Nat.lt_of_lt_of_le (Heap.lt_size e) a5)) (a0 b o e)
  have hge : s1.heap.objs.size ≤ h'.objs.size := Nat.le_trans a1 (Nat.le_of_lt (Heap.lt_size a7))
  generalize hSS : h'.objs.size = S at hS hp hge zlt ⊢
  have hS2 : h2.get? S = some { cls := .type "list", dict := none, data := .seq acc c', slots := #[] } := by
    have := hS
    exact this
  have hp2 : PairsAt (fun i v => its.toArray[i]? = some v) (fun i v => its2.toArray[i]? = some v) (S + 1) h2 acc := by
    have := hp
    simpa [hSS] using this
  obtain ⟨ps, hps⟩ : ∃ ps : List Addr, acc.toList = ps.map Value.ref := by
    have : ∀ l : List Value, (∀ v ∈ l, ∃ a, v = Value.ref a) → ∃ ps : List Addr, l = ps.map Value.ref := by
      intro l
      induction l with
      | nil => intro _; exact ⟨[], rfl⟩
      | cons v l ih =>
        intro hv
        obtain ⟨a, rfl⟩ := hv v (by simp)
        obtain ⟨ps, rfl⟩ := ih fun u hu => hv u (by simp [hu])
        exact ⟨a :: ps, rfl⟩
    refine this _ fun v hv => ?_
    obtain ⟨j, hj, e⟩ := List.mem_iff_getElem.mp hv
    obtain ⟨a, _, _, ev, _⟩ := hp2 j v (by rw [← Array.getElem?_toList, List.getElem?_eq_getElem hj, e])
    exact ⟨a, ev⟩
  have at_ : ∀ (j : Nat) p, ps[j]? = some p → ∃ x y u v, h2.get? p = some { cls := .type "tuple", data := .seq #[u, v] } ∧ xs[j]? = some x ∧ ys[j]? = some y ∧ RelV x u ∧ RelV y v ∧ S + 1 ≤ p := fun j p e => by
    obtain ⟨a, u, v, ev, hb, hpr, p1, p2⟩ := hp2 j (.ref p) (by rw [← Array.getElem?_toList, hps, List.getElem?_map, e]; rfl)
    cases ev
    have g1 : its[j]? = some u := by simpa using p1
    have g2 : its2[j]? = some v := by simpa using p2
    have l1 : j < xs.length := by rw [e1]; exact (List.getElem?_eq_some_iff.mp g1).1
    have l2 : j < ys.length := by rw [e2]; exact (List.getElem?_eq_some_iff.mp g2).1
    obtain ⟨u', hu', ru'⟩ := rv.get (List.getElem?_eq_getElem l1)
    obtain ⟨v', hv', rv'⟩ := rv2.get (List.getElem?_eq_getElem l2)
    rw [g1] at hu'; cases hu'
    rw [g2] at hv'; cases hv'
    exact ⟨_, _, u, v, hpr, List.getElem?_eq_getElem l1, List.getElem?_eq_getElem l2, ru', rv', hb⟩
  have hln : ps.length = min xs.length ys.length := by
    have h0 := congrArg List.length hps
    rw [Array.length_toList, List.length_map] at h0
    have : acc.size = min its.toArray.size its2.toArray.size := hsz
    simp at this
    omega
  let N : Hp := fun c => if c = S then some (.lst (ps.map V.ref)) else if c ∈ ps then (h2.get? c).bind (fun o => match o.data with | .seq a _ => some (.tup (a.toList.map fun u => (absV u).getD .non)) | _ => none) else none
  have nS : N S = some (.lst (ps.map V.ref)) := if_pos rfl
  have nP : ∀ (j : Nat) p, ps[j]? = some p → ∃ x y, p ≠ S ∧ xs[j]? = some x ∧ ys[j]? = some y ∧ N p = some (.tup [x, y]) := fun j p e => by
    obtain ⟨x, y, u, v, hg, hx1, hy1, rx, ry, hb⟩ := at_ j p e
    have ne : p ≠ S := fun z => by rw [z] at hb; exact absurd hb (Nat.not_succ_le_self _)
    refine ⟨x, y, ne, hx1, hy1, ?_⟩
    show (if p = S then _ else _) = _
    rw [if_neg ne, if_pos (List.mem_of_getElem? e), hg]
    show some (HO.tup [(absV u).getD .non, (absV v).getD .non]) = _
    rw [rx.abs, ry.abs]
    rfl
  have nA : ∀ c o, N c = some o → c = S ∨ ∃ j, ps[j]? = some c := fun c o e => by
    by_cases hcS : c = S
    · exact .inl hcS
    · right
      have e' : (if c = S then _ else if c ∈ ps then _ else none) = some o := e
      rw [if_neg hcS] at e'
      by_cases hcp : c ∈ ps
      · obtain ⟨j, hj, ej⟩ := List.mem_iff_getElem.mp hcp
        exact ⟨j, by rw [List.getElem?_eq_getElem hj, ej]⟩
      · rw [if_neg hcp] at e'; cases e'
  have hN : ∀ c o, N c = some o → s1.heap.objs.size ≤ c := fun c o e => by
    rcases nA c o e with rfl | ⟨j, ej⟩
    · exact hge
    · obtain ⟨_, _, _, _, _, _, _, _, _, hb⟩ := at_ j c ej
      omega
  have I2 := I1.more (N := N) (h' := h2) (t' := tk) k1 hN fun c o e => by
    rcases nA c o e with rfl | ⟨j, ej⟩
    · rw [nS] at e; cases e
      refine ⟨by rw [List.length_map, hln]; exact line1000 (by omega), ps.map Value.ref, c', ?_, ?_⟩
      · exact vals_refs ps
      · rw [hS2, ← hps]
    · obtain ⟨x, y, ne, hx1, hy1, en⟩ := nP j c ej
      rw [en] at e; cases e
      obtain ⟨x', y', u, v, hg, hx2, hy2, rx, ry, hb⟩ := at_ j c ej
      rw [hx1] at hx2; cases hx2
      rw [hy1] at hy2; cases hy2
      exact ⟨by show 2 ≤ sizeLine; decide, [u, v], .cons rx (.cons ry .nil), _, hg, rfl, _, rfl⟩
  refine ⟨.ref S, ov H1 N, I2, rfl, q S ps (ov H1 N) (fun b u e => ?_) (I1.hok.fresh hge) hln (ov_new nS) fun j p ej => ?_⟩
  · rw [ov_old]
    · exact e
    · cases en : N b with
      | none => rfl
      | some o => exact absurd (hN b o en) (Nat.not_le.mpr (I1.hok.lt e))
  · obtain ⟨x, y, ne, hx1, hy1, en⟩ := nP j p ej
    exact ⟨ne, I1.hok.fresh (hN p _ en), x, y, hx1, hy1, ov_new en⟩
end L2
set_option Elab.async false
set_option linter.all false
set_option maxRecDepth 100000
set_option maxHeartbeats 4000000
namespace L2
open PySem PySem.Spec PyProof.Rows
theorem boot_VE : bootBuiltins "ValueError" = some (.type "ValueError") := by decide +kernel
theorem kit_self {K : PySem.W.Frag} {C : Addr} : PySem.W.kitOne K (.ref C) (.ref C) = some true := if_pos (by simp)
theorem cls_of {K : PySem.W.Frag} {C : Addr} {c0 : Value} {dd : Option Addr} {cd : ClassData} {sl : Array (Option Value)} (lk : K.lookup C = some ⟨c0, dd, .cls cd, sl⟩) : (PySem.W.clsIn K C).isSome = true := by
  unfold PySem.W.clsIn
  rw [lk]
  rfl
theorem kit_ref {K : PySem.W.Frag} {C D : Addr} {b : Bool} {dd : Option Addr} {cd : ClassData} {sl : Array (Option Value)} (ne : C ≠ D) (lk : K.lookup D = some ⟨.type "type", dd, .cls cd, sl⟩) (e : PySem.W.subIn K (.ref C) (.ref D) = some b) : PySem.W.kitOne K (.ref C) (.ref D) = some b := by
  unfold PySem.W.kitOne
  rw [if_neg (by simp [ne])]
  show (if ((PySem.W.clsIn K D).isSome && PySem.W.typeIn K (.ref D) == some (.type "type")) = true then PySem.W.subIn K (.ref C) (.ref D) else none) = some b
  have t : PySem.W.typeIn K (.ref D) = some (.type "type") := by
    show (K.lookup D).map (·.cls) = _
    rw [lk]; rfl
  rw [cls_of lk, t, if_pos (by simp)]
  exact e
theorem kit_ty {K : PySem.W.Frag} {C : Addr} {b : Bool} {T : String} (hm : PySem.W.kitMeta T = true) (e : PySem.W.subIn K (.ref C) (.type T) = some b) : PySem.W.kitOne K (.ref C) (.type T) = some b := by
  unfold PySem.W.kitOne
  rw [if_neg (by intro z; cases beq_iff_eq.mp z)]
  show (if PySem.W.kitMeta T = true then PySem.W.subIn K (.ref C) (.type T) else none) = some b
  rw [if_pos hm]
  exact e
structure FnF (P : Program) (w : World) (K : PySem.W.Frag) (mg : Str → Option Value) (base : Heap) (k : Nat) (x : Str) (f : Addr) (fd : FuncData) (ps : List Str) (sp : Sp) : Prop where
  ok : FnOk P w K mg base (CXF P w) k f fd ps sp
  bd : Binds K fd ps []
  kp : PySem.W.keepIn K (.ref f) = true
  gl : mg x = some (.ref f)
theorem FnF.up {P : Program} {w : World} {K : PySem.W.Frag} {mg : Str → Option Value} {base : Heap} {j k : Nat} {x : Str} {f : Addr} {fd : FuncData} {ps : List Str} {sp : Sp} (F : FnF P w K mg base j x f fd ps sp) (h : j ≤ k) : FnF P w K mg base k x f fd ps sp :=
  ⟨F.ok.mono h, F.bd, F.kp, F.gl⟩
structure FnV (P : Program) (w : World) (K : PySem.W.Frag) (mg : Str → Option Value) (base : Heap) (k : Nat) (x : Str) (f : Addr) (fd : FuncData) (ps : List Str) (sp : Sp) : Prop where
  ok : FnU P w K mg base k f fd ps sp
  bd : Binds K fd ps []
  kp : PySem.W.keepIn K (.ref f) = true
  gl : mg x = some (.ref f)
theorem FnV.up {P : Program} {w : World} {K : PySem.W.Frag} {mg : Str → Option Value} {base : Heap} {j k : Nat} {x : Str} {f : Addr} {fd : FuncData} {ps : List Str} {sp : Sp} (F : FnV P w K mg base j x f fd ps sp) (h : j ≤ k) : FnV P w K mg base k x f fd ps sp :=
  ⟨⟨F.ok.len, fun A outer s H args us vs Q E hr => F.ok.run A outer s H args us vs Q E (hr.mono h)⟩, F.bd, F.kp, F.gl⟩
theorem own_cx {P : Program} {w : World} {K : PySem.W.Frag} {mg : Str → Option Value} {base : Heap} {N : List Str} {qual : Str} {scope : Scope} {f : Addr} {cd : Value} {A : Around} {outer : List Env} {s : Shared} {H : Hp} {E : XK} {CX : CXT} :
    PassesOwn (model (cxOf CX P w K mg base N qual scope f cd A outer s H E).prog (cxOf CX P w K mg base N qual scope f cd A outer s H E).w) (cxOf CX P w K mg base N qual scope f cd A outer s H E).A (cxOf CX P w K mg base N qual scope f cd A outer s H E).env (cxOf CX P w K mg base N qual scope f cd A outer s H E).xe := PassesOwn.leaving
end L2
set_option Elab.async false
set_option linter.all false
set_option maxRecDepth 100000
set_option maxHeartbeats 4000000
namespace L2
open PySem PySem.Spec PyProof.Rows
def sV : Str ⊕ Int → V
  | .inl x => .str x
  | .inr n => .int n
def RowRep (H : Hp) (r : DRow) (v : V) : Prop := ∃ a, v = .ref a ∧ H a = some (.tup [.str r.1, sV r.2])
def endR : Int ⊕ Str → DRow
  | .inl n => ("is", .inr n)
  | .inr w => ("stop", .inl w)
structure TD (H H' : Hp) : Prop where
  tk : Tk H H'
  dk : ∀ b kvs, H b = some (.dK kvs) → H' b = some (.dK kvs)
def EnvAt (H : Hp) (n : Nat) (e : En) (v : V) : Prop := ∃ d kvs, v = .ref d ∧ H d = some (.dK kvs) ∧ kvs.length ≤ n ∧ ∀ x : Str, (valV kvs (Sum.inr x : Key)).getD (.int 0) = .int (e x)
def InB (i : Int) : Prop := 0 ≤ i ∧ i < 10 ^ 30
def EnB (e : En) : Prop := ∀ x, InB (e x)
def TrB : Tr → Prop
  | .num n => InB n
  | .say a => TrB a | .bin _ a b => TrB a ∧ TrB b | .ite a b c => TrB a ∧ TrB b ∧ TrB c | .lett _ a b => TrB a ∧ TrB b
  | _ => True
def ItemRep (H : Hp) (i : Item) (v : V) : Prop := ∃ a u dv n, v = .ref a ∧ H a = some (.tup [u, dv, .bl i.2.2]) ∧ Rep H i.1 u ∧ EnvAt H n i.2.1 dv ∧ n + i.1.size ≤ 900 ∧ TrB i.1 ∧ EnB i.2.1
def cflds (aA dl el wl : Addr) : List (Str × V) := putF "waiting" (.ref wl) (putF "ends" (.ref el) (putF "deeds" (.ref dl) (putF "asked" (.ref aA) [])))
section
variable {aA dl el wl : Addr}
end
structure Co (C : Addr) (H : Hp) (p aA dl el wl : Addr) (ds es ws : List V) : Prop where
  ob : ∃ dx, H p = some (.ins C dx (cflds aA dl el wl))
  d : H dl = some (.lst ds)
  e : H el = some (.lst es)
  w : H wl = some (.lst ws)
  de : dl ≠ el
  dw : dl ≠ wl
  ew : el ≠ wl
def Kp (dl el wl : Addr) (H H' : Hp) : Prop := ∀ b o, H b = some o → b ≠ dl → b ≠ el → b ≠ wl → H' b = some o
section
variable {C : Addr} {H H' : Hp} {p aA dl el wl : Addr} {ds es ws : List V}
end
theorem paired_append {α : Type} {F : α → V → Prop} : ∀ {as bs : List α} {us vs : List V}, Paired F as us → Paired F bs vs → Paired F (as ++ bs) (us ++ vs)
  | _, _, _, _, .nil, h => h
  | _, _, _, _, .cons r t, h => .cons r (paired_append t h)
structure Cf (C : Addr) (H : Hp) (p aA dl el wl : Addr) (a : En) (W : List Item) (E : List Int) (D : List DRow) : Prop where
  co : ∃ ds ws, Co C H p aA dl el wl ds (E.reverse.map V.int) ws ∧ Paired (RowRep H) D ds ∧ Paired (ItemRep H) W.reverse ws
  en : EnvAt H 900 a (.ref aA)
  ab : EnB a
  eb : ∀ n ∈ E, InB n
section
variable {C : Addr} {H H' : Hp} {p aA dl el wl : Addr} {a : En} {W : List Item} {E : List Int} {D : List DRow}
end
theorem paired_len {α : Type} {F : α → V → Prop} {as : List α} {us : List V} (h : Paired F as us) : us.length = as.length := h.length.symm
def bgn (a : En) (t : Tr) (e : En) (W : List Item) (E : List Int) (D : List DRow) : Option (List Item × List Int × List DRow) :=
  match t with
  | .num n => some (W, n :: E, D)
  | .name x => some (W, e x :: E, D)
  | .ask x => some (W, a x :: E, D ++ [askR x])
  | .stop _ => none
  | .gap _ _ => none
  | .say s => some ((s, e, false) :: (t, e, true) :: W, E, D)
  | .bin .thn s _ => some ((s, e, false) :: (t, e, true) :: W, E, D)
  | .bin _ s u => some ((s, e, false) :: (u, e, false) :: (t, e, true) :: W, E, D)
  | .ite c _ _ => some ((c, e, false) :: (t, e, true) :: W, E, D)
  | .lett _ s _ => some ((s, e, false) :: (t, e, true) :: W, E, D)
def gon (t : Tr) (e : En) (W : List Item) (E : List Int) (D : List DRow) : Option (List Item × List Int × List DRow) :=
  match t, E with
  | .say _, n :: E => some (W, n :: E, D ++ [sayR n])
  | .bin .thn _ u, _ :: E => some ((u, e, false) :: W, E, D)
  | .bin o _ _, n :: m :: E => some (W, o.op m n :: E, D)
  | .ite _ s u, n :: E => some ((if n = 0 then u else s, e, false) :: W, E, D)
  | .lett x _ u, n :: E => some ((u, e.set x n, false) :: W, E, D)
  | _, _ => none
end L2
set_option Elab.async false
set_option linter.all false
set_option maxRecDepth 100000
set_option maxHeartbeats 4000000
namespace L2
open PySem
def signsV : List V := [.str "num", .str "name", .str "ask", .str "stop", .str "gap"]
def LeafSigns (K : PySem.W.Frag) (lv : Addr) : Prop := ∃ (o : Obj) (its : Array Value) (n : Nat), K.lookup lv = some o ∧ o.cls = .type "tuple" ∧ o.data = .seq its n ∧ its.size ≤ sizeLine ∧ Vals signsV its.toList
theorem in_signs (k : Kd) : inV (.str k.s) signsV = k.leaf := by cases k <;> decide +kernel
theorem head_pos (t : Tr) : 1 ≤ t.head := by cases t <;> simp [Tr.head]
def Tr.kid (t : Tr) (i : Int) : Option Tr := if 0 ≤ i then t.parts[i.toNat]? else none
def Tr.at_ : Tr → List Int → Option Tr
  | t, [] => some t
  | t, i :: is => (t.kid i).bind fun u => u.at_ is
def chain : Tr → List Int → Option (List Tr)
  | t, [] => some [t]
  | t, i :: is => (t.kid i).bind fun u => (chain u is).map fun l => t :: l
def Tr.withP : Tr → List Tr → Tr
  | .say _, [a] => .say a
  | .bin o _ _, [a, b] => .bin o a b
  | .ite _ _ _, [a, b, c] => .ite a b c
  | .lett x _ _, [a, b] => .lett x a b
  | t, _ => t
def putT : Tr → List Int → Tr → Tr
  | _, [], u => u
  | t, i :: is, u => match t.kid i with
    | some k => t.withP (t.parts.set i.toNat (putT k is u))
    | none => t
theorem at_app (t : Tr) (p q : List Int) : t.at_ (p ++ q) = (t.at_ p).bind fun u => u.at_ q := by
  induction p generalizing t with
  | nil => rfl
  | cons i p ih =>
    show (t.kid i).bind _ = ((t.kid i).bind _).bind _
    cases t.kid i with
    | none => rfl
    | some u => exact ih u
theorem chain_len : ∀ {ns : List Int} {t : Tr} {ts : List Tr}, chain t ns = some ts → ts.length = ns.length + 1
  | [], t, ts, h => by cases h; rfl
  | i :: is, t, ts, h => by
    obtain ⟨u, hu, h⟩ := Option.bind_eq_some_iff.mp (show (t.kid i).bind _ = some ts from h)
    obtain ⟨l, hl, rfl⟩ := Option.map_eq_some_iff.mp h
    have := chain_len hl
    simp [this]
theorem chain_at : ∀ {ns : List Int} {t : Tr} {ts : List Tr}, chain t ns = some ts → ∀ (j : Nat) u, ts[j]? = some u → t.at_ (ns.take j) = some u
  | [], t, ts, h, j, u, e => by
    cases h
    cases j with
    | zero => simpa [Tr.at_] using e
    | succ j => simp at e
  | i :: is, t, ts, h, j, u, e => by
    obtain ⟨k, hk, h⟩ := Option.bind_eq_some_iff.mp (show (t.kid i).bind _ = some ts from h)
    obtain ⟨l, hl, rfl⟩ := Option.map_eq_some_iff.mp h
    cases j with
    | zero => simpa [Tr.at_] using e
    | succ j =>
      have := chain_at hl j u (by simpa using e)
      show (t.kid i).bind _ = _
      rw [hk]
      exact this
theorem chain_last {ns : List Int} {t : Tr} {ts : List Tr} (h : chain t ns = some ts) : ∃ ts' u, ts = ts' ++ [u] ∧ t.at_ ns = some u := by
  have hl := chain_len h
  have : ts ≠ [] := by intro z; rw [z] at hl; simp at hl
  obtain ⟨ts', u, rfl⟩ : ∃ ts' u, ts = ts' ++ [u] := ⟨ts.dropLast, ts.getLast this, (List.dropLast_concat_getLast this).symm⟩
  refine ⟨ts', u, rfl, ?_⟩
  have hl' : ts'.length = ns.length := by simpa using hl
  have := chain_at h ns.length u (by rw [← hl']; simp)
  rwa [List.take_length] at this
theorem chain_none {t : Tr} : ∀ {ns : List Int}, chain t ns = none ↔ t.at_ ns = none := by
  intro ns
  induction ns generalizing t with
  | nil => simp [chain, Tr.at_]
  | cons i is ih =>
    show (t.kid i).bind _ = none ↔ (t.kid i).bind _ = none
    cases t.kid i with
    | none => simp
    | some u => simp [ih]
theorem chain_snoc : ∀ {ns : List Int} {t : Tr} {ts : List Tr} {u k : Tr} {i : Int}, chain t ns = some ts → t.at_ ns = some u → u.kid i = some k → chain t (ns ++ [i]) = some (ts ++ [k])
  | [], t, ts, u, k, i, h, hu, hk => by
    cases h
    cases hu
    show (t.kid i).bind _ = _
    rw [hk]
    rfl
  | j :: is, t, ts, u, k, i, h, hu, hk => by
    obtain ⟨v, hv, h⟩ := Option.bind_eq_some_iff.mp (show (t.kid j).bind _ = some ts from h)
    obtain ⟨l, hl, rfl⟩ := Option.map_eq_some_iff.mp h
    have hu' : v.at_ is = some u := by
      have : (t.kid j).bind (fun u => u.at_ is) = some u := hu
      rw [hv] at this
      exact this
    show (t.kid j).bind _ = _
    rw [hv]
    show (chain v (is ++ [i])).map _ = _
    rw [chain_snoc hl hu' hk]
    rfl
theorem chain_get : ∀ {ns : List Int} {t : Tr} {ts : List Tr}, chain t ns = some ts → ∀ (j : Nat) (i : Int), ns[j]? = some i → ∃ u k, ts[j]? = some u ∧ ts[j + 1]? = some k ∧ u.kid i = some k
  | [], t, ts, h, j, i, e => by simp at e
  | i0 :: is, t, ts, h, j, i, e => by
    obtain ⟨v, hv, h⟩ := Option.bind_eq_some_iff.mp (show (t.kid i0).bind _ = some ts from h)
    obtain ⟨l, hl, rfl⟩ := Option.map_eq_some_iff.mp h
    cases j with
    | zero =>
      have e' : i0 = i := by simpa using e
      subst e'
      refine ⟨t, v, rfl, ?_, hv⟩
      cases is with
      | nil => cases hl; rfl
      | cons a b =>
        obtain ⟨w, _, h⟩ := Option.bind_eq_some_iff.mp (show (v.kid a).bind _ = some l from hl)
        obtain ⟨l', _, rfl⟩ := Option.map_eq_some_iff.mp h
        rfl
    | succ j => exact chain_get hl j i (by simpa using e)
theorem kid_lt {t k : Tr} {i : Int} (h : t.kid i = some k) : 0 ≤ i ∧ i < t.parts.length ∧ t.parts[i.toNat]? = some k := by
  unfold Tr.kid at h
  split at h
  · rename_i h0
    have := (List.getElem?_eq_some_iff.mp h).1
    exact ⟨h0, by omega, h⟩
  · cases h
theorem kid_no {t : Tr} {i : Int} (h : ¬ (0 ≤ i ∧ i < t.parts.length)) : t.kid i = none := by
  unfold Tr.kid
  split
  · exact List.getElem?_eq_none (by omega)
  · rfl
theorem kid_yes {t : Tr} {i : Int} (h0 : 0 ≤ i) (h1 : i < t.parts.length) : ∃ k, t.kid i = some k ∧ t.parts[i.toNat]? = some k := by
  have hl : i.toNat < t.parts.length := by omega
  exact ⟨t.parts[i.toNat], by unfold Tr.kid; rw [if_pos h0]; exact List.getElem?_eq_getElem hl, List.getElem?_eq_getElem hl⟩
theorem Rep.build {H : Hp} {t : Tr} {v : V} {ps : List Tr} (h : Rep H t v) (hl : ps.length = t.parts.length) : ∃ a hs us, v = .ref a ∧ H a = some (.tup (.str t.sign :: hs ++ us)) ∧ hs.length + 1 = t.head ∧ us.length = t.parts.length ∧
    ∀ {H' : Hp} {p : Addr} {ws : List V}, Tk H H' → H' p = some (.tup (.str t.sign :: hs ++ ws)) → Paired (Rep H') ps ws → Rep H' (t.withP ps) (.ref p) := by
  cases t with
  | num n => obtain ⟨a, e, ha⟩ := h; exact ⟨a, [.int n], [], e, ha, rfl, rfl, fun k e p => by cases ps with | nil => cases p; exact ⟨_, rfl, e⟩ | cons _ _ => cases hl⟩
  | name x => obtain ⟨a, e, ha⟩ := h; exact ⟨a, [.str x], [], e, ha, rfl, rfl, fun k e p => by cases ps with | nil => cases p; exact ⟨_, rfl, e⟩ | cons _ _ => cases hl⟩
  | ask x => obtain ⟨a, e, ha⟩ := h; exact ⟨a, [.str x], [], e, ha, rfl, rfl, fun k e p => by cases ps with | nil => cases p; exact ⟨_, rfl, e⟩ | cons _ _ => cases hl⟩
  | stop x => obtain ⟨a, e, ha⟩ := h; exact ⟨a, [.str x], [], e, ha, rfl, rfl, fun k e p => by cases ps with | nil => cases p; exact ⟨_, rfl, e⟩ | cons _ _ => cases hl⟩
  | gap g as =>
    obtain ⟨a, b, us, e, ha, hb, n, q⟩ := h
    exact ⟨a, [.str g, .ref b], [], e, ha, rfl, rfl, fun k e p => by cases ps with | nil => cases p; exact ⟨_, b, us, rfl, e, k _ _ hb, n, Paired.mapP q fun _ _ z => z.mono k⟩ | cons _ _ => cases hl⟩
  | say s =>
    obtain ⟨a, u, e, ha, r⟩ := h
    exact ⟨a, [], [u], e, ha, rfl, rfl, fun k e p => by
      match ps, hl with
      | [c], _ =>
        cases p with | cons r1 p => cases p; exact ⟨_, _, rfl, e, r1⟩⟩
  | bin o s t =>
    obtain ⟨a, u, w, e, ha, r, r'⟩ := h
    exact ⟨a, [], [u, w], e, (by show _ = some (HO.tup [V.str o.kd.s, u, w]); rw [Bin.kd_s]; exact ha), rfl, rfl, fun {H' p ws} k e q => by
      match ps, hl with
      | [c, d], _ =>
        cases q with | cons r1 q => cases q with | cons r2 q =>
          cases q
          have e' : H' p = some (.tup [.str o.kd.s, _, _]) := e
          rw [Bin.kd_s] at e'
          exact ⟨_, _, _, rfl, e', r1, r2⟩⟩
  | ite r s t =>
    obtain ⟨a, u, w, z, e, ha, _, _, _⟩ := h
    exact ⟨a, [], [u, w, z], e, ha, rfl, rfl, fun k e q => by
      match ps, hl with
      | [c, d, f], _ =>
        cases q with | cons r1 q => cases q with | cons r2 q => cases q with | cons r3 q =>
          cases q
          exact ⟨_, _, _, _, rfl, e, r1, r2, r3⟩⟩
  | lett x s t =>
    obtain ⟨a, u, w, e, ha, _, _⟩ := h
    exact ⟨a, [.str x], [u, w], e, ha, rfl, rfl, fun k e q => by
      match ps, hl with
      | [c, d], _ =>
        cases q with | cons r1 q => cases q with | cons r2 q =>
          cases q
          exact ⟨_, _, _, rfl, e, r1, r2⟩⟩
theorem paired_set {α : Type} {F : α → V → Prop} {x : α} {u : V} (r : F x u) : ∀ {as : List α} {us : List V} (i : Nat), Paired F as us → Paired F (as.set i x) (us.set i u)
  | _, _, _, .nil => .nil
  | _, _, 0, .cons _ t => .cons r t
  | _, _, i + 1, .cons q t => .cons q (paired_set r i t)
theorem paired_unsnoc {α : Type} {F : α → V → Prop} : ∀ {as : List α} {a : α} {us : List V}, Paired F (as ++ [a]) us → ∃ us' u, us = us' ++ [u] ∧ Paired F as us' ∧ F a u
  | [], _, _, .cons r .nil => ⟨[], _, rfl, .nil, r⟩
  | _ :: as, _, _, .cons r t => by
    obtain ⟨us', u, rfl, h1, h2⟩ := paired_unsnoc t
    exact ⟨_ :: us', u, rfl, .cons r h1, h2⟩
end L2
namespace K02
open PySem PySem.Spec L2 PyProof.Rows
def top (i : Nat) : Stmt := PySem.Challenge.pw_recastle_k02_parts_put.main.body.getD i (.Pass ⟨0, 0, 0, 0⟩)
abbrev s_is_whole : Stmt := top 7
theorem sc_is_whole : FnScope ["value"] ["value"] (defScope s_is_whole) := ⟨rfl, rfl, rfl, by decide +kernel, rfl, by decide +kernel, by decide +kernel⟩
abbrev s_parts_begin : Stmt := top 8
theorem sc_parts_begin : FnScope ["tree"] ["tree"] (defScope s_parts_begin) := ⟨rfl, rfl, rfl, by decide +kernel, rfl, by decide +kernel, by decide +kernel⟩
abbrev s_parts : Stmt := top 9
theorem sc_parts : FnScope ["tree"] ["tree"] (defScope s_parts) := ⟨rfl, rfl, rfl, by decide +kernel, rfl, by decide +kernel, by decide +kernel⟩
abbrev s_with_parts : Stmt := top 10
theorem sc_with_parts : FnScope ["tree", "parts"] ["tree", "parts"] (defScope s_with_parts) := ⟨rfl, rfl, rfl, by decide +kernel, rfl, by decide +kernel, by decide +kernel⟩
abbrev s_trees_down_to : Stmt := top 11
theorem sc_trees_down_to : FnScope ["tree", "place", "met", "number", "inner"] ["tree", "place"] (defScope s_trees_down_to) := ⟨rfl, rfl, rfl, by decide +kernel, rfl, by decide +kernel, by decide +kernel⟩
abbrev s_part_at : Stmt := top 12
theorem sc_part_at : FnScope ["tree", "place"] ["tree", "place"] (defScope s_part_at) := ⟨rfl, rfl, rfl, by decide +kernel, rfl, by decide +kernel, by decide +kernel⟩
abbrev s_put_at : Stmt := top 13
theorem sc_put_at : FnScope ["tree", "place", "part", "met", "changed", "outer", "number", "inner"] ["tree", "place", "part"] (defScope s_put_at) := ⟨rfl, rfl, rfl, by decide +kernel, rfl, by decide +kernel, by decide +kernel⟩
section
variable {P : Program} {w : World} {K : PySem.W.Frag} {mg : Str → Option Value} {base : Heap}
def begin_ (t : Tr) : Int := t.head
def sp_whole : Sp := fun vs H Q _ => ∃ i : Int, vs = [.int i] ∧ Q (.bl true) H
theorem ok_whole {k : Nat} {f : Addr} {fd : FuncData} (F : Fun K "is_whole" "is_whole" s_is_whole f fd) (z_isinstance : mg "isinstance" = none) (z_int : mg "int" = none) (z_bool : mg "bool" = none) : FnOk P w K mg base CX0 (k + 1) f fd ["value"] sp_whole := by
  refine F.ok sc_is_whole (fun vs H Q E h => ?_) (fun cdv A outer s H vs Q E hr h => ?_)
  · obtain ⟨i, rfl, _⟩ := h
    rfl
  obtain ⟨i, rfl, q⟩ := h
  refine ⟨_, (pss_one (ps_ret (pe_and (pe_callB call_isi (by rfl) z_isinstance PyProof.Rows.boot_isinstance (pa_cons (pv 0) (pa_cons (pe_bltn (v := .ty _) (by rfl) z_int PyProof.Rows.boot_int (by rfl)) pa_nil))) (pe_one (pe_not (pe_callB call_isi (by rfl) z_isinstance PyProof.Rows.boot_isinstance (pa_cons (pv 0) (pa_cons (pe_bltn (v := .ty _) (by rfl) z_bool PyProof.Rows.boot_bool (by rfl)) pa_nil)))))))), ?_⟩
  refine ⟨_, rfl, .int i, "int", _, true, rfl, .int i, rfl, _, rfl, ?_⟩
  refine iteT ⟨_, rfl, .int i, "bool", _, false, rfl, .int i, rfl, _, rfl, q⟩
def sp_parts_begin : Sp := fun vs H Q _ => ∃ t v, vs = [v] ∧ Rep H t v ∧ Q (.int (begin_ t)) H
theorem ok_parts_begin {k : Nat} {f : Addr} {fd : FuncData} {lv : Addr} (F : Fun K "parts_begin" "parts_begin" s_parts_begin f fd) (z_len : mg "len" = none) (m_LEAF_SIGNS : mg "LEAF_SIGNS" = some (.ref lv)) (hL : LeafSigns K lv) :
    FnOk P w K mg base CX0 (k + 1) f fd ["tree"] sp_parts_begin := by
  refine F.ok sc_parts_begin (fun vs H Q E h => ?_) (fun cdv A outer s H vs Q E hr h => ?_)
  · obtain ⟨t, v, rfl, _⟩ := h
    rfl
  obtain ⟨t, v, rfl, hR, q⟩ := h
  refine ⟨_, (pss_cons (ps_if (pt_cmpR (r := rIn K false) op_in_seq (pe_ix (r := rIxT K) ix_tup (pv 0) pe_int (fun _ _ => rfl)) (pe_glob (v := .ref _) (by rfl) m_LEAF_SIGNS (by rfl)) rfl) (pss_one (ps_ret (pe_callB call_len_seq (by rfl) z_len PySem.boot_len (pa_cons (pv 0) pa_nil)))) pss_nil)
    (pss_cons (ps_if (pt_cmpR op_eq (pe_ix (r := rIxT K) ix_tup (pv 0) pe_int (fun _ _ => rfl)) pe_str (nomark _)) (pss_one (ps_ret pe_int)) pss_nil)
    (pss_one (ps_ret pe_int)))), ?_⟩
  obtain ⟨a, hs, us, rfl, ha, hl, hp⟩ := hR.all
  have h0 : atI (V.str t.kd.s :: hs ++ us) 0 = some (.str t.kd.s) := atI_nat (j := 0) rfl
  refine ⟨_, rfl, a, _, 0, _, rfl, rfl, SqT.of ha, h0, lv, signsV, rfl, .inr (.inr hL), rfl, rfl, _, rfl, ?_⟩
  show if inV (.str t.kd.s) signsV = true then _ else _
  rw [in_signs]
  refine ite2 (fun c => ?_) (fun c => ?_)
  · refine ⟨_, rfl, a, _, rfl, .inr (SqT.of ha), ?_⟩
    have e : ((V.str t.sign :: hs ++ us).length : Int) = begin_ t := by
      have hu : us.length = 0 := by
        rw [← hp.length]
        cases t with
        | bin o a b => cases o <;> cases c
        | _ => first | rfl | cases c
      rw [List.length_append, List.length_cons, hu]
      unfold begin_
      omega
    rw [e]
    exact q
  · refine ⟨_, rfl, a, _, 0, _, rfl, rfl, SqT.of ha, h0, rfl, _, rfl, ?_⟩
    refine ite2 (fun d => ?_) (fun d => ?_)
    · have z : t.kd = .lett := Kd.eq_iff.mp (of_decide_eq_true d)
      have e : begin_ t = 2 := by
        cases t with
        | lett x a b => rfl
        | bin o a b => cases o <;> cases z
        | _ => cases z
      rw [e] at q
      exact q
    · have e : begin_ t = 1 := by
        cases t with
        | lett x a b => exact absurd rfl d
        | bin o a b => rfl
        | ite a b c => rfl
        | say a => rfl
        | _ => exact absurd rfl c
      rw [e] at q
      exact q
def sp_parts : Sp := fun vs H Q _ => ∃ t v, vs = [v] ∧ Rep H t v ∧ ∀ p H' us, Same H H' → H' p = some (.tup us) → Paired (Rep H') t.parts us → Q (.ref p) H'
theorem ok_parts {k : Nat} {f g : Addr} {fd gd : FuncData} (F : Fun K "parts" "parts" s_parts f fd) (G_parts_begin : FnB P w K mg base k "parts_begin" g gd ["tree"] sp_parts_begin) :
    FnOk P w K mg base CX0 (k + 1) f fd ["tree"] sp_parts := by
  refine F.ok sc_parts (fun vs H Q E h => ?_) (fun cdv A outer s H vs Q E hr h => ?_)
  · obtain ⟨t, v, rfl, _⟩ := h
    rfl
  obtain ⟨t, v, rfl, hR, q⟩ := h
  refine ⟨_, (pss_one (ps_ret (pe_slice sl_tupV (pv 0) (po_some (pe_call G_parts_begin.ok hr (by rfl) G_parts_begin.gl G_parts_begin.kp G_parts_begin.bd .nil pass0 (pa_cons (pv 0) pa_nil))) po_none))), ?_⟩
  obtain ⟨a, hs, us, rfl, ha, hl, hp⟩ := hR.all
  have hn : (V.str t.sign :: hs ++ us).length = t.head + us.length := by rw [List.length_append, List.length_cons]; omega
  have h1 := head_pos t
  have e1 : HT.sIx (V.str t.sign :: hs ++ us).length 0 (some (begin_ t)) = t.head := by
    show HT.sIx _ 0 (some ((t.head : Nat) : Int)) = _
    rw [HT.sIx_nat, hn]
    omega
  have e2 : cutV (V.str t.sign :: hs ++ us) (some (begin_ t)) none = us := by
    unfold cutV
    rw [e1, HT.sIx_none, hn]
    have : (V.str t.sign :: hs ++ us).drop t.head = us := by
      rw [← hl]
      exact List.drop_left' rfl
    rw [this, List.take_of_length_le (by omega)]
  refine ⟨_, rfl, _, rfl, t, _, rfl, hR, _, rfl, a, _, rfl, ha, fun z => ?_, fun p H' g e => ?_⟩
  · rw [e1] at z
    omega
  · rw [e2] at e
    exact q p H' us g e (Paired.mapP hp fun _ _ r => r.mono g.tk)
def sp_with : Sp := fun vs H Q _ => ∃ (t : Tr) (v : V) (l : Addr) (us : List V) (ps : List Tr), vs = [v, .ref l] ∧ Rep H t v ∧ H l = some (.lst us) ∧ Paired (Rep H) ps us ∧ ps.length = t.parts.length ∧ 0 < ps.length ∧ ∀ v' H', Same H H' → Rep H' (t.withP ps) v' → Q v' H'
theorem parts_le3 (t : Tr) : t.parts.length ≤ 3 := by cases t <;> simp [Tr.parts]
theorem head_le3 (t : Tr) : t.head ≤ 3 := by cases t <;> simp [Tr.head]
theorem ok_with {k : Nat} {f g : Addr} {fd gd : FuncData} (F : Fun K "with_parts" "with_parts" s_with_parts f fd) (z_tuple : mg "tuple" = none) (G_parts_begin : FnB P w K mg base k "parts_begin" g gd ["tree"] sp_parts_begin) :
    FnOk P w K mg base CX0 (k + 1) f fd ["tree", "parts"] sp_with := by
  refine F.ok sc_with_parts (fun vs H Q E h => ?_) (fun cdv A outer s H vs Q E hr h => ?_)
  · obtain ⟨t, v, l, us, ps, rfl, _⟩ := h
    rfl
  obtain ⟨t, v, l, ws, ps, rfl, hR, hl0, hp, hpl, hpos, q⟩ := h
  refine ⟨_, (pss_one (ps_ret (pe_op op_catV (pe_slice sl_tupV (pv 0) po_none (po_some (pe_call G_parts_begin.ok hr (by rfl) G_parts_begin.gl G_parts_begin.kp G_parts_begin.bd .nil pass0 (pa_cons (pv 0) pa_nil)))) (pe_callTy call_tuple_of (by rfl) z_tuple PyProof.Rows.boot_tuple (pa_cons (pv 1) pa_nil))))), ?_⟩
  obtain ⟨a, hs, us, rfl, ha, hl, hul, mk⟩ := hR.build hpl
  have hn : (V.str t.sign :: hs ++ us).length = t.head + us.length := by rw [List.length_append, List.length_cons]; omega
  have e1 : HT.sIx (V.str t.sign :: hs ++ us).length (V.str t.sign :: hs ++ us).length (some (begin_ t)) = t.head := by
    show HT.sIx _ _ (some ((t.head : Nat) : Int)) = _
    rw [HT.sIx_nat, hn]
    omega
  have e2 : cutV (V.str t.sign :: hs ++ us) none (some (begin_ t)) = V.str t.sign :: hs := by
    unfold cutV
    rw [e1, HT.sIx_none, Nat.sub_zero, List.drop_zero, ← hl]
    exact List.take_left' rfl
  have h3 := head_le3 t
  have h4 := parts_le3 t
  refine ⟨_, rfl, _, rfl, t, _, rfl, hR, _, rfl, a, _, rfl, ha, fun z => ?_, fun p H' g e => ?_⟩
  · rw [e1] at z
    omega
  · rw [e2] at e
    have hw : ws.length = ps.length := (paired_len hp)
    refine ⟨_, rfl, l, ws, rfl, .inl ⟨SqL.of (g _ _ hl0), fun p2 hp2 => ?_⟩⟩
    have g2 := same_upd (o := .tup ws) hp2
    refine ⟨p, p2, _, _, rfl, rfl, g2 _ _ e, upd_same, line1000 ?_, fun p3 H3 g3 e3 => ?_⟩
    · rw [List.length_cons]
      omega
    · have gA := g.trans (g2.trans g3)
      exact q (.ref p3) H3 gA (mk gA.tk e3 (Paired.mapP hp fun _ _ r => r.mono gA.tk))
def sp_down (cN : Addr) : Sp := fun vs H Q E => ∃ (t : Tr) (v : V) (pl : Addr) (ns : List Int), vs = [v, .ref pl] ∧ Rep H t v ∧ H pl = some (.tup (ns.map V.int)) ∧ ns.length ≤ 900 ∧
  (∀ ts, chain t ns = some ts → ∀ l us H', Same H H' → H l = none → H' l = some (.lst us) → Paired (Rep H') ts us → Q (.ref l) H') ∧ (chain t ns = none → ∀ H', Same H H' → E (.ref cN) none H')
theorem ok_down {k : Nat} {f g1 g2 cN : Addr} {fd gd1 gd2 : FuncData} (F : Fun K "trees_down_to" "trees_down_to" s_trees_down_to f fd) (z_len : mg "len" = none) (m_NoPlace : mg "NoPlace" = some (.ref cN)) (x_NoPlace : PySem.W.excIn K cN bmVE "ValueError.__new__" = true)
    (G_is_whole : FnB P w K mg base k "is_whole" g1 gd1 ["value"] sp_whole) (G_parts : FnB P w K mg base k "parts" g2 gd2 ["tree"] sp_parts) : FnOk P w K mg base (CXF P w) (k + 1) f fd ["tree", "place"] (sp_down cN) := by
  refine F.okF sc_trees_down_to (fun vs H Q E h => ?_) (fun cdv A outer s H vs Q E hr h => ?_)
  · obtain ⟨t, v, pl, ns, rfl, _⟩ := h
    rfl
  obtain ⟨t, v, pl, ns, rfl, hR, hpl, hns, q, qe⟩ := h
  refine ⟨_, (pss_cons (ps_set (i := 2) sc_trees_down_to.nd rfl (Or.inl rfl) (pe_lst (pa_cons (pv 0) pa_nil) : PE _ _ _))
    (pss_cons (ps_for own_cx rfl (pi_tup (pv 1)) (pg_name (i := 3) sc_trees_down_to.nd rfl (Or.inl rfl)) (pss_cons (ps_set (i := 4) sc_trees_down_to.nd rfl (Or.inl rfl) (pe_call G_parts.ok hr (by rfl) G_parts.gl G_parts.kp G_parts.bd .nil pass0 (pa_cons (pe_ix (r := rIxL K) ix_list (pv 2) (pe_un un_neg pe_int) (fun _ _ => rfl)) pa_nil)))
    (pss_cons (ps_if (pw_or (pt_not (pt_val (pe_call G_is_whole.ok hr (by rfl) G_is_whole.gl G_is_whole.kp G_is_whole.bd .nil pass0 (pa_cons (pv 3) pa_nil)))) (pw_or1 (pt_not (pt_chain op_le op_lt pe_int (pv 3) (pe_callB call_len_seq (by rfl) z_len PySem.boot_len (pa_cons (pv 4) pa_nil)))))).pt (pss_one (ps_raise (by rfl) m_NoPlace x_NoPlace (pa_cons pe_str pa_nil))) pss_nil)
    (pss_one (ps_expr (pe_bm PySem.F.plainAttrs_list PySem.F.slot_list_append PySem.F.type_list_append mt_append (pv 2) (pa_cons (pe_ix (r := rIxT K) ix_tup (pv 4) (pv 3) (fun _ _ => rfl)) pa_nil)))))))
    (pss_one (ps_ret (pv 2))))), ?_⟩
  have hnl : (ns.map V.int).length = ns.length := List.length_map _
  refine ⟨_, rfl, (by show 1 ≤ sizeLine; decide), fun l hl => ?_⟩
  have g0 := same_upd (o := .lst [v]) hl
  refine ⟨_, rfl, pl, rfl, ⟨_, SqT.of (g0 _ _ hpl)⟩, ?_⟩
  refine for_tup (xs := ns.map V.int) (fun i σ' H' => ∃ (us : List V) (ts : List Tr) (s3 s4 : Option V), σ' = [some v, some (.ref pl), some (.ref l), s3, s4] ∧ Same H H' ∧ H' l = some (.lst us) ∧ Paired (Rep H') ts us ∧ chain t (ns.take i) = some ts) ?_ ?_ ?_ ?_
  · exact ⟨[v], [t], none, none, rfl, g0, upd_same, .cons (hR.mono g0.tk) .nil, rfl⟩
  · rintro i σ1 H1 _ ⟨us, ts, s3, s4, rfl, g, el, hp, hc⟩
    exact SqT.of (g _ _ hpl)
  · rintro i x σ1 H1 hx ⟨us, ts, s3, s4, rfl, g, el, hp, hc⟩
    obtain ⟨n, en, rfl⟩ : ∃ n, ns[i]? = some n ∧ V.int n = x := by
      rw [List.getElem?_map] at hx
      exact Option.map_eq_some_iff.mp hx
    obtain ⟨ts', u, rfl, hu⟩ := chain_last hc
    obtain ⟨us', w', rfl, hp', ru⟩ : ∃ us' w', us = us' ++ [w'] ∧ Paired (Rep H1) ts' us' ∧ Rep H1 u w' := paired_unsnoc hp
    refine ⟨_, rfl, _, rfl, l, _, _, _, rfl, rfl, SqL.of el, atI_last us' w', u, _, rfl, ru, fun pp H2 vs2 g2 ep hvs => ?_⟩
    have hvl := paired_len hvs
    refine ⟨_, rfl, n, rfl, _, rfl, iteF ?_⟩
    refine ⟨_, rfl, _, _, rfl, rfl, _, rfl, ?_⟩
    have htk : ns.take (i + 1) = ns.take i ++ [n] := take_next en
    have bad : u.kid n = none → chain t ns = none := fun z => by
      have hsp : ns.take i ++ n :: ns.drop (i + 1) = ns := by
        have := List.take_append_drop (i + 1) ns
        rw [htk, List.append_assoc] at this
        exact this
      rw [chain_none, ← hsp, at_app, hu]
      show (u.kid n).bind _ = none
      rw [z]; rfl
    have hraise : u.kid n = none → (1 : Nat) ≤ sizeLine ∧ E (.ref cN) none H2 := fun z => ⟨by decide, qe (bad z) H2 (g.trans g2)⟩
    refine ite2 (fun c1 => ?_) (fun c1 => ?_)
    · refine ⟨_, rfl, pp, _, rfl, .inr (SqT.of ep), _, _, rfl, rfl, _, rfl, ?_⟩
      refine ite2 (fun c2 => hraise (kid_no fun z => ?_)) (fun c2 => ?_)
      · rw [← hvl] at z
        have := decide_eq_true (p := n < (vs2.length : Int)) z.2
        rw [this] at c2
        cases c2
      · have h0 : 0 ≤ n := of_decide_eq_true c1
        have h1 : n < (vs2.length : Int) := by
          by_cases z : n < (vs2.length : Int)
          · exact z
          · exact absurd (by rw [decide_eq_false z]; rfl) c2
        obtain ⟨kd, hkd, ekd⟩ := kid_yes (t := u) h0 (by rw [← hvl]; exact h1)
        obtain ⟨y, ey⟩ : ∃ y, vs2[n.toNat]? = some y := ⟨vs2[n.toNat]'(by omega), List.getElem?_eq_getElem _⟩
        obtain ⟨kd', ekd', rk⟩ := paired_get hvs ey
        rw [ekd] at ekd'; cases ekd'
        have en' : ((n.toNat : Nat) : Int) = n := by omega
        have el2 := g2 _ _ el
        have hln := chain_len hc
        have hpl2 := paired_len hp
        refine ⟨_, rfl, .inl ⟨rfl, _, SqL.of el2⟩, _, rfl, _, rfl, pp, _, n, _, rfl, rfl, SqT.of ep, (by have := atI_nat ey; rwa [en'] at this), l, _, _, rfl, rfl, el2, small1000 ?_, ?_⟩
        · have : (ns.take i).length ≤ ns.length := by rw [List.length_take]; omega
          omega
        · have tk := Tk.lst (o := .lst (us' ++ [w'] ++ [y])) el2
          have tk2 := g2.tk.trans tk
          refine ⟨_, ts' ++ [u] ++ [kd], _, _, rfl, same_set (g.trans g2) hl, upd_same, paired_append (Paired.mapP hp fun _ _ z => z.mono tk2) (.cons (rk.mono tk) .nil), ?_⟩
          rw [htk]
          exact chain_snoc hc hu hkd
    · refine ⟨_, rfl, ?_⟩
      refine iteT (hraise (kid_no fun z => c1 (decide_eq_true z.1)))
  · rintro σ1 H1 ⟨us, ts, s3, s4, rfl, g, el, hp, hc⟩
    rw [hnl, List.take_length] at hc
    exact ⟨_, rfl, q ts hc l us H1 g hl el hp⟩
def sp_part_at (cN : Addr) : Sp := fun vs H Q E => ∃ (t : Tr) (v : V) (pl : Addr) (ns : List Int), vs = [v, .ref pl] ∧ Rep H t v ∧ H pl = some (.tup (ns.map V.int)) ∧ ns.length ≤ 900 ∧
  (∀ u, t.at_ ns = some u → ∀ v' H', Same H H' → Rep H' u v' → Q v' H') ∧ (t.at_ ns = none → ∀ H', Same H H' → E (.ref cN) none H')
theorem ok_part_at {k : Nat} {f g1 cN : Addr} {fd gd1 : FuncData} (F : Fun K "part_at" "part_at" s_part_at f fd) (G_trees_down_to : FnF P w K mg base k "trees_down_to" g1 gd1 ["tree", "place"] (sp_down cN)) : FnOk P w K mg base (CXF P w) (k + 1) f fd ["tree", "place"] (sp_part_at cN) := by
  refine F.okF sc_part_at (fun vs H Q E h => ?_) (fun cdv A outer s H vs Q E hr h => ?_)
  · obtain ⟨t, v, pl, ns, rfl, _⟩ := h
    rfl
  obtain ⟨t, v, pl, ns, rfl, hR, hpl, hns, q, qe⟩ := h
  refine ⟨_, (pss_one (ps_ret (pe_ix (r := rIxL K) ix_list (pe_call G_trees_down_to.ok hr (by rfl) G_trees_down_to.gl G_trees_down_to.kp G_trees_down_to.bd .nil cxf_pass (pa_cons (pv 0) (pa_cons (pv 1) pa_nil))) (pe_un un_neg pe_int) (fun _ _ => rfl)))), ?_⟩
  refine ⟨_, rfl, _, rfl, t, v, pl, ns, rfl, hR, hpl, hns, fun ts hc l us H' g hl el hp => ?_, fun z H' g => qe (chain_none.mp z) H' g⟩
  obtain ⟨ts', u, rfl, hu⟩ := chain_last hc
  obtain ⟨us', w', rfl, hp', ru⟩ := paired_unsnoc hp
  exact ⟨_, rfl, l, _, _, _, rfl, rfl, SqL.of el, atI_last us' w', q u hu w' H' g ru⟩
def sp_put_at (cN : Addr) : Sp := fun vs H Q E => ∃ (t u : Tr) (v vu : V) (pl : Addr) (ns : List Int), vs = [v, .ref pl, vu] ∧ Rep H t v ∧ Rep H u vu ∧ H pl = some (.tup (ns.map V.int)) ∧ ns.length ≤ 900 ∧
  (t.at_ ns ≠ none → ∀ v' H', Same H H' → Rep H' (putT t ns u) v' → Q v' H') ∧ (t.at_ ns = none → ∀ H', Same H H' → E (.ref cN) none H')
theorem put_step {t k u : Tr} {i : Int} {is : List Int} (h : t.kid i = some k) : putT t (i :: is) u = t.withP (t.parts.set i.toNat (putT k is u)) := by
  show (match t.kid i with | some k => t.withP (t.parts.set i.toNat (putT k is u)) | none => t) = _
  rw [h]
theorem ok_put_at {k : Nat} {f g1 g2 g3 cN : Addr} {fd gd1 gd2 gd3 : FuncData} (F : Fun K "put_at" "put_at" s_put_at f fd) (z_list : mg "list" = none) (z_zip : mg "zip" = none) (z_reversed : mg "reversed" = none)
    (G_trees_down_to : FnF P w K mg base k "trees_down_to" g1 gd1 ["tree", "place"] (sp_down cN)) (G_parts : FnB P w K mg base k "parts" g2 gd2 ["tree"] sp_parts) (G_with_parts : FnB P w K mg base k "with_parts" g3 gd3 ["tree", "parts"] sp_with) :
    FnOk P w K mg base (CXF P w) (k + 1) f fd ["tree", "place", "part"] (sp_put_at cN) := by
  refine F.okF sc_put_at (fun vs H Q E h => ?_) (fun cdv A outer s H vs Q E hr h => ?_)
  · obtain ⟨t, u, v, vu, pl, ns, rfl, _⟩ := h
    rfl
  obtain ⟨t, u, v, vu, pl, ns, rfl, hR, hU, hpl, hns, q, qe⟩ := h
  refine ⟨_, (pss_cons (ps_set (i := 3) sc_put_at.nd rfl (Or.inl rfl) (pe_call G_trees_down_to.ok hr (by rfl) G_trees_down_to.gl G_trees_down_to.kp G_trees_down_to.bd .nil cxf_pass (pa_cons (pv 0) (pa_cons (pv 1) pa_nil))))
    (pss_cons (ps_set (i := 4) sc_put_at.nd rfl (Or.inl rfl) (pv 2))
    (pss_cons (ps_for own_cx rfl (pi_revL (by rfl) z_reversed (pa_cons (pe_listZip rfl (by rfl) z_list (by rfl) z_zip (pa_cons (pv 3) (pa_cons (pv 1) pa_nil))) pa_nil)) (pg_tup rfl (pgs_cons (pg_name (i := 5) sc_put_at.nd rfl (Or.inl rfl)) (pgs_cons (pg_name (i := 6) sc_put_at.nd rfl (Or.inl rfl)) pgs_nil))) (pss_cons (ps_set (i := 7) sc_put_at.nd rfl (Or.inl rfl) (pe_callTy call_list_of (by rfl) z_list PyProof.Rows.boot_list (pa_cons (pe_call G_parts.ok hr (by rfl) G_parts.gl G_parts.kp G_parts.bd .nil pass0 (pa_cons (pv 5) pa_nil)) pa_nil)))
    (pss_cons (ps_asg (pv 4) (pg_sub (pv 7) (pv 6) set_list))
    (pss_one (ps_set (i := 4) sc_put_at.nd rfl (Or.inl rfl) (pe_call G_with_parts.ok hr (by rfl) G_with_parts.gl G_with_parts.kp G_with_parts.bd .nil pass0 (pa_cons (pv 5) (pa_cons (pv 7) pa_nil))))))))
    (pss_one (ps_ret (pv 4)))))), ?_⟩
  refine ⟨_, rfl, _, rfl, t, v, pl, ns, rfl, hR, hpl, hns, fun ts hc l us H1 g1 hl el hp => ?_, fun z H' g => qe (chain_none.mp z) H' g⟩
  have hcl := chain_len hc
  have hul := paired_len hp
  have hnl : (ns.map V.int).length = ns.length := List.length_map _
  refine ⟨_, rfl, ?_⟩
  refine ⟨_, rfl, _, rfl, l, pl, us, _, rfl, el, g1 _ _ hpl, by omega, fun lz ps H2 g2 hlz hps elz hpr => ?_⟩
  have hpsl : (ps.map V.ref).length = ns.length := by rw [List.length_map, hps, hnl]; omega
  refine ⟨lz, rfl, _, SqL.of elz, ?_⟩
  refine for_revL (xs := ps.map V.ref) (fun i σ' H' => ∃ (ch : V) (s5 s6 s7 : Option V) (c : Tr), σ' = [some v, some (.ref pl), some vu, some (.ref l), some ch, s5, s6, s7] ∧ Same H2 H' ∧ i ≤ ns.length ∧ ts[ns.length - i]? = some c ∧ Rep H' (putT c (ns.drop (ns.length - i)) u) ch) ?_ ?_ ?_ ?_
  · obtain ⟨ts', c, rfl, hcat⟩ := chain_last hc
    refine ⟨vu, none, none, none, c, rfl, Same.refl _, Nat.zero_le _, ?_, ?_⟩
    · have : ts'.length = ns.length := by simpa using hcl
      rw [Nat.sub_zero, ← this]
      simp
    · rw [Nat.sub_zero, List.drop_length]
      exact hU.mono (g1.trans g2).tk
  · rintro i σ1 H3 _ ⟨ch, s5, s6, s7, c, rfl, g3, hi, ec, rc⟩
    exact SqL.of (g3 _ _ elz)
  · rintro i x σ1 H3 hi hx ⟨ch, s5, s6, s7, c, rfl, g3, _, ec, rc⟩
    rw [hpsl] at hi hx
    obtain ⟨j, hj⟩ : ∃ j, ns.length - 1 - i = j := ⟨_, rfl⟩
    have hj1 : ns.length - i = j + 1 := by omega
    have hj2 : ns.length - (i + 1) = j := by omega
    rw [hj] at hx
    rw [hj1] at ec rc
    obtain ⟨p, ep, rfl⟩ : ∃ p, ps[j]? = some p ∧ V.ref p = x := by
      rw [List.getElem?_map] at hx
      exact Option.map_eq_some_iff.mp hx
    obtain ⟨npl, hpn, x0, y0, ex, ey, etp⟩ := hpr j p ep
    obtain ⟨n, en, rfl⟩ : ∃ n, ns[j]? = some n ∧ V.int n = y0 := by
      rw [List.getElem?_map] at ey
      exact Option.map_eq_some_iff.mp ey
    obtain ⟨o, kk, eo, ek, hk⟩ := chain_get hc j n en
    rw [ec] at ek; cases ek
    obtain ⟨o', eo', ro⟩ := paired_get hp ex
    rw [eo] at eo'; cases eo'
    have ro3 := ro.mono (g2.trans g3).tk
    have etp3 := g3 _ _ etp
    refine ⟨p, [x0, .int n], rfl, SqT.of etp3, rfl, _, _, rfl, _, _, rfl, rfl, ?_⟩
    obtain ⟨k0, k1, k2⟩ := kid_lt hk
    refine ⟨_, rfl, o, x0, rfl, ro3, fun pp H4 vs4 g4 e4 hvs => ⟨pp, vs4, rfl, .inr (SqT.of e4), fun li hli => ?_⟩⟩
    have g5 := same_upd (o := .lst vs4) hli
    have hv4 := paired_len hvs
    refine ⟨_, rfl, _, rfl, _, rfl, li, vs4, n, n.toNat, rfl, rfl, upd_same, ?_, ?_⟩
    · unfold ixN
      rw [if_pos k0, if_pos (by omega)]
    have tk5 : Tk (upd H4 li (.lst vs4)) (upd (upd H4 li (.lst vs4)) li (.lst (vs4.set n.toNat ch))) := Tk.lst upd_same
    have s5' : Same H4 (upd (upd H4 li (.lst vs4)) li (.lst (vs4.set n.toNat ch))) := same_set g5 hli
    have tkA := g4.tk.trans s5'.tk
    refine ⟨_, rfl, _, rfl, o, x0, li, vs4.set n.toNat ch, o.parts.set n.toNat (putT c (ns.drop (j + 1)) u), rfl, ro3.mono tkA, upd_same, paired_set (rc.mono tkA) _ (Paired.mapP hvs fun _ _ z => z.mono s5'.tk), by rw [List.length_set], by rw [List.length_set]; omega, fun v' H6 g6 r6 => ?_⟩
    refine ⟨v', _, _, _, o, rfl, g3.trans (g4.trans (s5'.trans g6)), by omega, by rw [hj2]; exact eo, ?_⟩
    rw [hj2]
    have hd : ns.drop j = n :: ns.drop (j + 1) := by
      obtain ⟨hlt, e⟩ := List.getElem?_eq_some_iff.mp en
      rw [← e]
      exact List.drop_eq_getElem_cons hlt
    rw [hd, put_step hk]
    exact r6
  · rintro σ1 H3 ⟨ch, s5, s6, s7, c, rfl, g3, _, ec, rc⟩
    rw [hpsl, Nat.sub_self] at ec rc
    have : c = t := by
      have := chain_at hc 0 c ec
      simpa [Tr.at_] using this.symm
    subst this
    refine ⟨_, rfl, q (fun z => ?_) ch H3 (g1.trans (g2.trans g3)) rc⟩
    rw [← chain_none, hc] at z
    cases z
end
end K02
set_option Elab.async false
set_option linter.all false
set_option maxRecDepth 100000
set_option maxHeartbeats 4000000
namespace L2
open PySem PySem.Spec PyProof.Rows
def eqVs (xs ys : List V) : Bool := xs.length == ys.length && (List.range xs.length).all fun j => match xs[j]?, ys[j]? with | some x, some y => eqV x y | _, _ => false
def rEqFl : R2 := fun x y H Q => ∃ (p r : Addr) (xs ys : List V), x = .ref p ∧ y = .ref r ∧ H p = some (.lst xs) ∧ H r = some (.lst ys) ∧ xs.all flatV = true ∧ ys.all flatV = true ∧ Q (.bl (eqVs xs ys)) H
theorem op_eqFl {X : Cx} (hu : X.A.units < cLine) : OpR X (compareOp .Eq) rEqFl := by
  intro pins s σ H x y v u Q I rx ry h
  obtain ⟨p, r, xs, ys, rfl, rfl, hp, hr, fx, fy, q⟩ := h
  cases rx
  cases ry
  obtain ⟨_, its, n, r1, l1, e1⟩ := I.lstM hp
  obtain ⟨_, its2, n2, r2, l2, e2⟩ := I.lstM hr
  have L1 : s.heap.IsList p its.toArray := ⟨_, e1, rfl, _, rfl⟩
  have L2 : s.heap.IsList r its2.toArray := ⟨_, e2, rfl, _, rfl⟩
  by_cases hl : xs.length = ys.length
  · obtain ⟨e, h1, h2⟩ := eqL_all (A := X.A.in1) (s := s) r1 r2 fx fy
    refine SeqAt.eq_listAt L1 L2 (by simp; omega) hu h1 ?_
    have ez : its.toArray.size = xs.length := by simp; omega
    have : (List.range xs.length).all e = eqVs xs ys := by
      unfold eqVs
      rw [beq_iff_eq.mpr hl, Bool.true_and]
      have pt : ∀ j, j < xs.length → e j = (match xs[j]?, ys[j]? with | some x, some y => eqV x y | _, _ => false) := fun j hj => by
        have g1 := List.getElem?_eq_getElem hj
        have g2 := List.getElem?_eq_getElem (show j < ys.length by omega)
        rw [h2 j _ _ g1 g2, g1, g2]
      rw [Bool.eq_iff_iff, List.all_eq_true, List.all_eq_true]
      exact ⟨fun z j hj => by rw [← pt j (List.mem_range.mp hj)]; exact z j hj, fun z j hj => by rw [pt j (List.mem_range.mp hj)]; exact z j hj⟩
    rw [ez, this]
    exact ⟨.bl _, H, I, rfl, q⟩
  · refine SeqAt.eq_list_lengthsAt L1 L2 (by simp; omega) hu ⟨.bl false, H, I, rfl, ?_⟩
    have : eqVs xs ys = false := by unfold eqVs; rw [beq_eq_false_iff_ne.mpr hl]; rfl
    rw [this] at q
    exact q
theorem passF {X : Cx} {P : Program} {w : World} : Passes (CXF P w) X (fun _ _ _ => False) := fun _ _ _ _ _ _ _ h => by
  obtain ⟨_, _, _, _, _, z⟩ := h
  exact z.elim
def dtA : Atom → Dt
  | .name x => .tup [.str "name", .str x]
  | .num n => .tup [.str "num", .int n]
  | .gap g => .tup [.str "gap", .str g, .tup []]
def dtT : Tr → Dt
  | .num n => .tup [.str "num", .int n]
  | .name x => .tup [.str "name", .str x]
  | .ask x => .tup [.str "ask", .str x]
  | .stop x => .tup [.str "stop", .str x]
  | .gap g as => .tup [.str "gap", .str g, .tup (as.map dtA)]
  | .say a => .tup [.str "say", dtT a]
  | .bin o a b => .tup [.str o.s, dtT a, dtT b]
  | .ite a b c => .tup [.str "if", dtT a, dtT b, dtT c]
  | .lett x a b => .tup [.str "let", .str x, dtT a, dtT b]
theorem AtRep.dr {H : Hp} : ∀ {a : Atom} {v : V}, AtRep H a v → DR H (dtA a) v
  | .name x, _, ⟨a, e, h⟩ => e ▸ .tup h (.cons (.str _) (.cons (.str _) .nil))
  | .num n, _, ⟨a, e, h⟩ => e ▸ .tup h (.cons (.str _) (.cons (.int _) .nil))
  | .gap g, _, ⟨a, b, e, h, h'⟩ => e ▸ .tup h (.cons (.str _) (.cons (.str _) (.cons (.tup h' .nil) .nil)))
theorem atoms_dr {H : Hp} : ∀ {as : List Atom} {us : List V}, Paired (AtRep H) as us → DRs H (as.map dtA) us
  | _, _, .nil => .nil
  | _, _, .cons r t => .cons r.dr (atoms_dr t)
theorem Rep.dr {H : Hp} : ∀ {t : Tr} {v : V}, Rep H t v → DR H (dtT t) v
  | .num n, _, ⟨a, e, h⟩ => e ▸ .tup h (.cons (.str _) (.cons (.int _) .nil))
  | .name n, _, ⟨a, e, h⟩ => e ▸ .tup h (.cons (.str _) (.cons (.str _) .nil))
  | .ask n, _, ⟨a, e, h⟩ => e ▸ .tup h (.cons (.str _) (.cons (.str _) .nil))
  | .stop n, _, ⟨a, e, h⟩ => e ▸ .tup h (.cons (.str _) (.cons (.str _) .nil))
  | .gap g as, _, ⟨a, b, us, e, h, h', _, p⟩ => e ▸ .tup h (.cons (.str _) (.cons (.str _) (.cons (.tup h' (atoms_dr p)) .nil)))
  | .say _, _, ⟨a, u, e, h, r⟩ => e ▸ .tup h (.cons (.str _) (.cons r.dr .nil))
  | .bin o _ _, _, ⟨a, u, w, e, h, r, s⟩ => e ▸ .tup h (.cons (.str _) (.cons r.dr (.cons s.dr .nil)))
  | .ite _ _ _, _, ⟨a, u, w, z, e, h, r, s, t⟩ => e ▸ .tup h (.cons (.str _) (.cons r.dr (.cons s.dr (.cons t.dr .nil))))
  | .lett x _ _, _, ⟨a, u, w, e, h, r, s⟩ => e ▸ .tup h (.cons (.str _) (.cons (.str _) (.cons r.dr (.cons s.dr .nil))))
theorem dtA_deeps : ∀ as : List Atom, Dt.deeps (as.map dtA) ≤ 2
  | [] => by simp [Dt.deeps]
  | a :: as => by
    have := dtA_deeps as
    cases a <;> simp [Dt.deeps, dtA, Dt.deep] <;> omega
theorem dtT_deep : ∀ t : Tr, (dtT t).deep ≤ t.size + 3
  | .num _ => by simp [dtT, Dt.deep, Dt.deeps]
  | .name _ => by simp [dtT, Dt.deep, Dt.deeps]
  | .ask _ => by simp [dtT, Dt.deep, Dt.deeps]
  | .stop _ => by simp [dtT, Dt.deep, Dt.deeps]
  | .gap _ as => by have := dtA_deeps as; simp [dtT, Dt.deep, Dt.deeps, Tr.size]; omega
  | .say a => by have := dtT_deep a; simp [dtT, Dt.deep, Dt.deeps, Tr.size]; omega
  | .bin _ a b => by have := dtT_deep a; have := dtT_deep b; simp [dtT, Dt.deep, Dt.deeps, Tr.size]; omega
  | .ite a b c => by have := dtT_deep a; have := dtT_deep b; have := dtT_deep c; simp [dtT, Dt.deep, Dt.deeps, Tr.size]; omega
  | .lett _ a b => by have := dtT_deep a; have := dtT_deep b; simp [dtT, Dt.deep, Dt.deeps, Tr.size]; omega
theorem atI_in {α : Type} {xs : List α} {i : Int} (h0 : 0 ≤ i) (h1 : i < xs.length) : ∃ v, v ∈ xs ∧ atI xs i = some v := by
  have hl : i.toNat < xs.length := by omega
  have e : ((i.toNat : Nat) : Int) = i := by omega
  refine ⟨xs[i.toNat], List.getElem_mem hl, ?_⟩
  have := atI_nat (xs := xs) (j := i.toNat) (v := xs[i.toNat]) (List.getElem?_eq_getElem hl)
  rwa [e] at this
theorem sIx_int {n d : Nat} {v : Int} (h0 : 0 ≤ v) (h1 : v ≤ n) : HT.sIx n d (some v) = v.toNat := by
  have e : ((v.toNat : Nat) : Int) = v := by omega
  rw [← e, HT.sIx_nat, Int.toNat_natCast]
  omega
theorem cutInts {ns : List Int} {lo hi : Option Int} {i j : Nat} (h1 : HT.sIx ns.length 0 lo = i) (h2 : HT.sIx ns.length ns.length hi = j) (h : j ≤ ns.length) : ∃ ms : List Int, cutV (ns.map V.int) lo hi = ms.map V.int ∧ ms.length = j - i := by
  refine ⟨(ns.drop i).take (j - i), ?_, ?_⟩
  · unfold cutV
    rw [List.length_map, h1, h2, ← List.map_drop, ← List.map_take]
  · rw [List.length_take, List.length_drop]
    omega
end L2
namespace K02
open PySem PySem.Spec L2 PyProof.Rows
abbrev s_law_cell_at : Stmt := top 15
theorem sc_law_cell_at : FnScope ["_law_script", "_law_k"] ["_law_script", "_law_k"] (defScope s_law_cell_at) := ⟨rfl, rfl, rfl, by decide +kernel, rfl, by decide +kernel, by decide +kernel⟩
abbrev s_law_word : Stmt := top 16
theorem sc_law_word : FnScope ["_law_cell", "_law_letters", "_law_word_here", "_law_j"] ["_law_cell"] (defScope s_law_word) := ⟨rfl, rfl, rfl, by decide +kernel, rfl, by decide +kernel, by decide +kernel⟩
abbrev s_law_leaf : Stmt := top 17
theorem sc_law_leaf : FnScope ["_law_cell", "_law_kind", "_law_word_here"] ["_law_cell"] (defScope s_law_leaf) := ⟨rfl, rfl, rfl, by decide +kernel, rfl, by decide +kernel, by decide +kernel⟩
abbrev s_law_first : Stmt := top 19
theorem sc_law_first : FnScope ["_law_tree_here"] ["_law_tree_here"] (defScope s_law_first) := ⟨rfl, rfl, rfl, by decide +kernel, rfl, by decide +kernel, by decide +kernel⟩
abbrev s_law_many : Stmt := top 20
theorem sc_law_many : FnScope ["_law_tree_here"] ["_law_tree_here"] (defScope s_law_many) := ⟨rfl, rfl, rfl, by decide +kernel, rfl, by decide +kernel, by decide +kernel⟩
section
variable {P : Program} {w : World} {K : PySem.W.Frag} {mg : Str → Option Value} {base : Heap}
def sp_cell_at (K : PySem.W.Frag) : Sp := fun vs H Q _ => ∃ (a : Addr) (ns : List Int) (k : Int), vs = [.ref a, .int k] ∧ SqL K H a (ns.map V.int) ∧ 0 ≤ k ∧ ∀ i : Int, Q (.int i) H
theorem ok_cell_at {k : Nat} {f : Addr} {fd : FuncData} (F : Fun K "_law_cell_at" "_law_cell_at" s_law_cell_at f fd) (z_len : mg "len" = none) : FnOk P w K mg base CX0 (k + 1) f fd ["_law_script", "_law_k"] (sp_cell_at K) := by
  refine F.ok sc_law_cell_at (fun vs H Q E h => ?_) (fun cdv A outer s H vs Q E hr h => ?_)
  · obtain ⟨a, ns, k, rfl, _⟩ := h
    rfl
  obtain ⟨a, ns, k, rfl, hS, h0, q⟩ := h
  refine ⟨_, (pss_cons (ps_if (pt_cmpR op_lt (pv 1) (pe_callB call_len_seq (by rfl) z_len PySem.boot_len (pa_cons (pv 0) pa_nil)) (nomark _)) (pss_one (ps_ret (pe_ix (r := rIxL K) ix_list (pv 0) (pv 1) (fun _ _ => rfl)))) pss_nil)
    (pss_one (ps_ret pe_int))), ?_⟩
  refine ⟨_, rfl, _, rfl, a, _, rfl, .inl hS, _, _, rfl, rfl, _, rfl, ?_⟩
  refine ite2 (fun c => ?_) (fun c => ?_)
  · have c' : k < ((ns.map V.int).length : Int) := of_decide_eq_true c
    obtain ⟨v, hv, e⟩ := atI_in h0 c'
    obtain ⟨i, _, rfl⟩ := List.mem_map.mp hv
    exact ⟨_, rfl, _, rfl, a, _, k, _, rfl, rfl, hS, e, q i⟩
  · exact q 0
def sp_word : Sp := fun vs H Q _ => ∃ c : Int, vs = [.int c] ∧ ∀ (x : Str) (H' : Hp), Same H H' → Q (.str x) H'
theorem ok_word {k : Nat} {f : Addr} {fd : FuncData} (F : Fun K "_law_word" "_law_word" s_law_word f fd) (z_range : mg "range" = none) : FnOk P w K mg base CX0 (k + 1) f fd ["_law_cell"] sp_word := by
  refine F.ok sc_law_word (fun vs H Q E h => ?_) (fun cdv A outer s H vs Q E hr h => ?_)
  · obtain ⟨c, rfl, _⟩ := h
    rfl
  obtain ⟨c, rfl, q⟩ := h
  refine ⟨_, (pss_cons (ps_set (i := 1) sc_law_word.nd rfl (Or.inl rfl) pe_str)
    (pss_cons (ps_set (i := 2) sc_law_word.nd rfl (Or.inl rfl) pe_str)
    (pss_cons (ps_for PassesOwn.never rfl (pi_range1 (by rfl) z_range (pa_cons (pe_op op_add pe_int (pe_op op_mod (pv 0) pe_int)) pa_nil)) (pg_name (i := 3) sc_law_word.nd rfl (Or.inl rfl)) (pss_one (ps_set (i := 2) sc_law_word.nd rfl (Or.inl rfl) (pe_op op_add_str (pv 2) (pe_ix ix_str (pv 1) (pe_op op_mod (pe_op op_fdiv (pv 0) (pe_op op_mul pe_int (pe_op op_add (pv 3) pe_int))) pe_int) (fun _ _ => rfl))))))
    (pss_cons (ps_if (pt_cmpR (r := rIn K false) op_in_seq (pv 2) (pe_tupR [.str "let", .str "in", .str "if", .str "then", .str "else", .str "say", .str "ask", .str "stop", .str "where", .str "quiet", .str "number"] (by rfl) : PE _ _ _) rfl) (pss_one (ps_ret (pe_op op_add_str pe_str (pe_slice sl_str (pv 2) (po_some pe_int) po_none)))) pss_nil)
    (pss_one (ps_ret (pv 2))))))), ?_⟩
  generalize hL : Str.ofString "abcdefghijklmnopqrstuvwxyz" = L
  have hLlen : L.length = 26 := by rw [← hL]; decide +kernel
  refine ⟨_, rfl, _, _, rfl, rfl, (show (0 : Int) < 8 by decide), _, _, rfl, rfl, _, rfl, by omega, by omega, ?_⟩
  refine for_range (n := (1 + c % 8).toNat) (fun i σ' H' => ∃ (x : Str) (s3 : Option V), σ' = [some (.int c), some (.str L), some (.str x), s3] ∧ H' = H ∧ x.length = i) ?_ ?_ ?_
  · exact ⟨_, none, rfl, rfl, by decide +kernel⟩
  · rintro i σ1 H1 hi ⟨x, s3, rfl, rfl, hx⟩
    have hi8 : i < 8 := by omega
    have hl : ((L.cps.toList).length : Int) = 26 := by
      rw [Array.length_toList]
      exact_mod_cast hLlen
    obtain ⟨ch, _, e1⟩ := atI_in (xs := L.cps.toList) (i := c / (8 * (0 + (i : Int) + 1)) % 26) (by omega) (by omega)
    refine ⟨_, rfl, _, rfl, _, rfl, _, rfl, _, _, rfl, rfl, _, _, rfl, rfl, .inl ⟨by decide, by decide⟩, _, _, rfl, rfl, ⟨by omega, by omega⟩, _, _, rfl, rfl, (show (0 : Int) < 26 by decide), L, _, _, rfl, rfl, line1000 (by rw [hLlen]; decide), e1, _, _, rfl, rfl, line1000 ?_, ?_⟩
    · show x.length + 1 ≤ 1000
      omega
    · refine ⟨_, _, rfl, rfl, ?_⟩
      have : (x ++ (⟨#[ch]⟩ : Str)).length = x.length + 1 := by
        show (x.cps ++ #[ch]).size = x.cps.size + 1
        simp
      omega
  · rintro σ1 H1 ⟨x, s3, rfl, rfl, hx⟩
    refine ⟨_, rfl, (by show 11 ≤ sizeLine; decide), fun p hp => ⟨p, _, rfl, .inr (SqT.of upd_same), rfl, rfl, _, rfl, ?_⟩⟩
    refine ite2 (fun hin => ?_) (fun _ => ?_)
    · refine ⟨_, rfl, _, rfl, x, rfl, line1000 (by omega), fun hle => ⟨_, _, rfl, rfl, line1000 ?_, q _ _ (same_upd hp)⟩⟩
      have : (Str.ofString "q").length = 1 := by decide +kernel
      omega
    · exact ⟨_, rfl, q _ _ (same_upd hp)⟩
def sp_leaf : Sp := fun vs H Q _ => ∃ c : Int, vs = [.int c] ∧ ∀ (t : Tr) (v : V) (H' : Hp), Same H H' → Rep H' t v → t.size = 1 → Q v H'
theorem ok_leaf {k : Nat} {f g : Addr} {fd gd : FuncData} (F : Fun K "_law_leaf" "_law_leaf" s_law_leaf f fd) (G_law_word : FnB P w K mg base k "_law_word" g gd ["_law_cell"] sp_word) : FnOk P w K mg base CX0 (k + 1) f fd ["_law_cell"] sp_leaf := by
  refine F.ok sc_law_leaf (fun vs H Q E h => ?_) (fun cdv A outer s H vs Q E hr h => ?_)
  · obtain ⟨c, rfl, _⟩ := h
    rfl
  obtain ⟨c, rfl, q⟩ := h
  refine ⟨_, (Sd.un (pss_consS (ps_setS (i := 1) sc_law_leaf.nd rfl (Or.inl rfl) ⟨pe_op op_mod (pv 0) pe_int⟩)
    (pss_consS (ps_setS (i := 2) sc_law_leaf.nd rfl (Or.inl rfl) ⟨pe_call G_law_word.ok hr (by rfl) G_law_word.gl G_law_word.kp G_law_word.bd .nil pass0 (pa_cons (pe_op op_fdiv (pv 0) pe_int) pa_nil)⟩)
    (pss_consS (ps_ifS ⟨pt_cmpR op_eq (pv 1) pe_int (nomark _)⟩ (pss_oneS (ps_retS (pe_tupS (pa_consS ⟨pe_str⟩ (pa_consS ⟨pe_op op_mod (pe_op op_fdiv (pv 0) pe_int) (pe_op op_pow pe_int pe_int)⟩ ⟨pa_nil⟩))))) ⟨pss_nil⟩)
    (pss_consS (ps_ifS ⟨pt_cmpR op_eq (pv 1) pe_int (nomark _)⟩ (pss_oneS (ps_retS (pe_tupS (pa_consS ⟨pe_str⟩ (pa_consS ⟨pv 2⟩ (pa_consS (pe_tupS ⟨pa_nil⟩) ⟨pa_nil⟩)))))) ⟨pss_nil⟩)
    (pss_oneS (ps_retS (pe_tupS (pa_consS (pe_ixS (r := rIxL K) ix_list ⟨pe_lstR [.str "num", .str "gap", .str "ask", .str "stop", .str "name"] (by rfl)⟩ ⟨pv 1⟩ (fun _ _ => rfl)) (pa_consS ⟨pv 2⟩ ⟨pa_nil⟩)))))))))), ?_⟩
  have d2 : 2 ≤ sizeLine := by decide
  have d3 : 3 ≤ sizeLine := by decide
  have d5 : 5 ≤ sizeLine := by decide
  have d0 : 0 ≤ sizeLine := by decide
  refine ⟨_, rfl, _, _, rfl, rfl, (show (0 : Int) < 5 by decide), _, rfl, _, _, rfl, rfl, ⟨(show (0 : Int) < 5 by decide), (show (5 : Int) < 1073741824 by decide)⟩, _, rfl, fun x H1 g1 => ?_⟩
  refine ⟨_, rfl, rfl, _, rfl, ?_⟩
  refine ite2 (fun _ => ?_) (fun c0 => ?_)
  · refine ⟨_, rfl, _, _, rfl, rfl, ⟨(show (0 : Int) < 5 by decide), (show (5 : Int) < 1073741824 by decide)⟩, _, _, rfl, rfl, ⟨by decide, by decide, by decide⟩, _, _, rfl, rfl, (show (0 : Int) < 10 ^ 30 by decide), d2, fun p hp => ?_⟩
    exact q (.num _) _ _ (g1.trans (same_upd hp)) ⟨p, rfl, upd_same⟩ rfl
  refine ⟨_, rfl, rfl, _, rfl, ?_⟩
  refine ite2 (fun _ => ?_) (fun c1 => ?_)
  · refine ⟨_, rfl, d0, fun p1 hp1 => ⟨d3, fun p2 hp2 => ?_⟩⟩
    have g2 := same_upd (o := .tup []) hp1
    have g3 := same_upd (o := .tup [.str "gap", .str x, .ref p1]) hp2
    exact q (.gap x []) _ _ (g1.trans (g2.trans g3)) ⟨p2, p1, [], rfl, upd_same, g3 _ _ upd_same, by decide, .nil⟩ rfl
  · have n0 : c % 5 ≠ 0 := fun z => c0 (decide_eq_true (by show V.int (c % 5) = _; rw [z]))
    have n1 : c % 5 ≠ 1 := fun z => c1 (decide_eq_true (by show V.int (c % 5) = _; rw [z]))
    obtain ⟨z, hz, hz2, hz5⟩ : ∃ z : Nat, ((z : Nat) : Int) = c % 5 ∧ 2 ≤ z ∧ z < 5 := ⟨(c % 5).toNat, by omega, by omega, by omega⟩
    obtain ⟨v, hv, ev⟩ : ∃ v, v ∈ [V.str "ask", V.str "stop", V.str "name"] ∧ atI [V.str "num", V.str "gap", V.str "ask", V.str "stop", V.str "name"] (c % 5) = some v := by
      rw [← hz]
      have : z = 2 ∨ z = 3 ∨ z = 4 := by omega
      rcases this with rfl | rfl | rfl
      · exact ⟨_, by simp, atI_nat rfl⟩
      · exact ⟨_, by simp, atI_nat rfl⟩
      · exact ⟨_, by simp, atI_nat rfl⟩
    refine ⟨d5, fun p0 hp0 => ⟨_, rfl, p0, _, _, _, rfl, rfl, SqL.of upd_same, ev, _, rfl, d2, fun p hp => ?_⟩⟩
    have g2 := (same_upd (o := .lst [V.str "num", V.str "gap", V.str "ask", V.str "stop", V.str "name"]) hp0)
    simp only [List.mem_cons, List.not_mem_nil, or_false] at hv
    rcases hv with rfl | rfl | rfl
    · exact q (.ask x) _ _ (g1.trans (g2.trans (same_upd hp))) ⟨p, rfl, upd_same⟩ rfl
    · exact q (.stop x) _ _ (g1.trans (g2.trans (same_upd hp))) ⟨p, rfl, upd_same⟩ rfl
    · exact q (.name x) _ _ (g1.trans (g2.trans (same_upd hp))) ⟨p, rfl, upd_same⟩ rfl
def first_ (t : Tr) : Nat := match t with | .lett _ _ _ => 2 | _ => 1
def sp_first : Sp := fun vs H Q _ => ∃ t v, vs = [v] ∧ Rep H t v ∧ Q (.int (first_ t)) H
theorem ok_first {k : Nat} {f : Addr} {fd : FuncData} (F : Fun K "_law_first" "_law_first" s_law_first f fd) : FnOk P w K mg base CX0 (k + 1) f fd ["_law_tree_here"] sp_first := by
  refine F.ok sc_law_first (fun vs H Q E h => ?_) (fun cdv A outer s H vs Q E hr h => ?_)
  · obtain ⟨t, v, rfl, _⟩ := h
    rfl
  obtain ⟨t, v, rfl, hR, q⟩ := h
  refine ⟨_, (pss_cons (ps_if (pt_cmpR op_eq (pe_ix (r := rIxT K) ix_tup (pv 0) pe_int (fun _ _ => rfl)) pe_str (nomark _)) (pss_one (ps_ret pe_int)) pss_nil)
    (pss_one (ps_ret pe_int))), ?_⟩
  obtain ⟨a, hs, us, rfl, ha, hl, hp⟩ := hR.all
  have h0 : atI (V.str t.kd.s :: hs ++ us) 0 = some (.str t.kd.s) := atI_nat (j := 0) rfl
  refine ⟨_, rfl, a, _, 0, _, rfl, rfl, SqT.of ha, h0, rfl, _, rfl, ?_⟩
  refine ite2 (fun d => ?_) (fun d => ?_)
  · have z : t.kd = .lett := Kd.eq_iff.mp (of_decide_eq_true d)
    have e : first_ t = 2 := by
      cases t with
      | lett x a b => rfl
      | bin o a b => cases o <;> cases z
      | _ => cases z
    rw [e] at q
    exact q
  · have e : first_ t = 1 := by
      cases t with
      | lett x a b => exact absurd rfl d
      | _ => rfl
    rw [e] at q
    exact q
theorem first_head {t : Tr} (h : 0 < t.parts.length) : first_ t = t.head := by
  cases t <;> first | rfl | (exact absurd h (by simp [Tr.parts]))
def sp_many : Sp := fun vs H Q _ => ∃ t v, vs = [v] ∧ Rep H t v ∧ ∀ H', Same H H' → Q (.int t.parts.length) H'
theorem ok_many {k : Nat} {f g : Addr} {fd gd : FuncData} (F : Fun K "_law_many" "_law_many" s_law_many f fd) (z_len : mg "len" = none) (G_law_first : FnB P w K mg base k "_law_first" g gd ["_law_tree_here"] sp_first) : FnOk P w K mg base CX0 (k + 1) f fd ["_law_tree_here"] sp_many := by
  refine F.ok sc_law_many (fun vs H Q E h => ?_) (fun cdv A outer s H vs Q E hr h => ?_)
  · obtain ⟨t, v, rfl, _⟩ := h
    rfl
  obtain ⟨t, v, rfl, hR, q⟩ := h
  refine ⟨_, (pss_cons (ps_if (pt_cmpR (r := rIn K false) op_in_seq (pe_ix (r := rIxT K) ix_tup (pv 0) pe_int (fun _ _ => rfl)) (pe_tupR [.str "num", .str "name", .str "ask", .str "stop", .str "gap"] (by rfl) : PE _ _ _) rfl) (pss_one (ps_ret pe_int)) pss_nil)
    (pss_one (ps_ret (pe_op op_sub (pe_callB call_len_seq (by rfl) z_len PySem.boot_len (pa_cons (pv 0) pa_nil)) (pe_call G_law_first.ok hr (by rfl) G_law_first.gl G_law_first.kp G_law_first.bd .nil pass0 (pa_cons (pv 0) pa_nil)))))), ?_⟩
  obtain ⟨a, hs, us, rfl, ha, hl, hp⟩ := hR.all
  have h0 : atI (V.str t.kd.s :: hs ++ us) 0 = some (.str t.kd.s) := atI_nat (j := 0) rfl
  refine ⟨_, rfl, a, _, 0, _, rfl, rfl, SqT.of ha, h0, (by show 5 ≤ sizeLine; decide), fun pp hpp => ?_⟩
  have g1 := same_upd (o := .tup signsV) hpp
  refine ⟨pp, signsV, rfl, .inr (SqT.of upd_same), rfl, rfl, _, rfl, ?_⟩
  show if inV (.str t.kd.s) signsV = true then _ else _
  rw [in_signs]
  have hu := paired_len hp
  refine ite2 (fun c => ?_) (fun c => ?_)
  · have e : t.parts.length = 0 := by
      cases t with
      | bin o a b => cases o <;> cases c
      | _ => first | rfl | cases c
    have := q _ g1
    rw [e] at this
    exact this
  · have e : 0 < t.parts.length := by
      cases t with
      | bin o a b => exact Nat.succ_pos _
      | say a => exact Nat.succ_pos _
      | ite a b c => exact Nat.succ_pos _
      | lett x a b => exact Nat.succ_pos _
      | _ => exact absurd rfl c
    refine ⟨_, rfl, a, _, rfl, .inr (SqT.of (g1 _ _ ha)), _, rfl, t, _, rfl, hR.mono g1.tk, _, _, rfl, rfl, ?_⟩
    have e2 : ((V.str t.sign :: hs ++ us).length : Int) - (first_ t : Int) = t.parts.length := by
      rw [first_head e, List.length_append, List.length_cons]
      omega
    show Q (V.int (((V.str t.sign :: hs ++ us).length : Int) - (first_ t : Int))) _
    rw [e2]
    exact q _ g1
end
end K02
set_option Elab.async false
set_option linter.all false
set_option maxRecDepth 100000
set_option maxHeartbeats 4000000
namespace L2
open PySem
def RowR (H : Hp) (x : List Int × Tr) (v : V) : Prop := ∃ a pl u, v = .ref a ∧ H a = some (.tup [.ref pl, u]) ∧ H pl = some (.tup (x.1.map V.int)) ∧ Rep H x.2 u
theorem RowR.mono {H H' : Hp} (k : Tk H H') {x : List Int × Tr} {v : V} : RowR H x v → RowR H' x v
  | ⟨a, pl, u, e, h, h', r⟩ => ⟨a, pl, u, e, k _ _ h, k _ _ h', r.mono k⟩
theorem paired_mem {α : Type} {F : α → V → Prop} : ∀ {as : List α} {us : List V} {u : V}, Paired F as us → u ∈ us → ∃ a, a ∈ as ∧ F a u
  | _, _, _, .nil, h => by simp at h
  | _, _, u, .cons r t, h => by
    rcases List.mem_cons.mp h with rfl | h
    · exact ⟨_, List.mem_cons_self, r⟩
    · obtain ⟨a, h1, h2⟩ := paired_mem t h
      exact ⟨a, List.mem_cons_of_mem _ h1, h2⟩
def szR (L : List (List Int × Tr)) : Nat := (L.map fun x => x.2.size).sum
theorem szR_app (a b : List (List Int × Tr)) : szR (a ++ b) = szR a + szR b := by simp [szR]
theorem szR_one (x : List Int × Tr) : szR [x] = x.2.size := by simp [szR]
theorem size_pos2 : ∀ t : Tr, 1 ≤ t.size := by intro t; cases t <;> simp [Tr.size]
theorem parts_size (t : Tr) : (t.parts.map Tr.size).sum + 1 = t.size := by
  cases t <;> simp [Tr.parts, Tr.size] <;> omega
theorem single_le_sum : ∀ {l : List Nat} {a : Nat}, a ∈ l → a ≤ l.sum
  | b :: l, a, h => by
    rw [List.sum_cons]
    rcases List.mem_cons.mp h with rfl | h
    · omega
    · have := single_le_sum h
      omega
def rowKids (x : List Int × Tr) (n : Nat) : List (List Int × Tr) := (x.2.parts.take n).zipIdx.map fun q => (x.1 ++ [(q.2 : Int)], q.1)
theorem rowKids_next {x : List Int × Tr} {n : Nat} {c : Tr} (h : x.2.parts[n]? = some c) : rowKids x (n + 1) = rowKids x n ++ [(x.1 ++ [(n : Int)], c)] := by
  unfold rowKids
  have hl : (x.2.parts.take n).length = n := by
    have := (List.getElem?_eq_some_iff.mp h).1
    rw [List.length_take]; omega
  rw [take_next h, List.zipIdx_append, List.map_append, hl]
  simp
theorem rowKids_sz (x : List Int × Tr) (n : Nat) : szR (rowKids x n) + 1 ≤ x.2.size := by
  have h1 := parts_size x.2
  have h2 : szR (rowKids x n) = ((x.2.parts.take n).map Tr.size).sum := by
    unfold szR rowKids
    rw [List.map_map]
    have : ((fun x : List Int × Tr => x.2.size) ∘ fun q : Tr × Nat => (x.1 ++ [(q.2 : Int)], q.1)) = Tr.size ∘ Prod.fst := rfl
    rw [this, ← List.map_map, List.zipIdx_map_fst]
  have h3 : (x.2.parts.map Tr.size).sum = ((x.2.parts.take n).map Tr.size).sum + ((x.2.parts.drop n).map Tr.size).sum := by
    rw [← List.sum_append, ← List.map_append, List.take_append_drop]
  omega
theorem szR_len : ∀ L : List (List Int × Tr), L.length ≤ szR L
  | [] => Nat.le_refl _
  | x :: L => by
    have := szR_len L
    have := size_pos2 x.2
    simp only [szR, List.map_cons, List.sum_cons, List.length_cons] at *
    omega
theorem at_snoc {t u : Tr} {p : List Int} {n : Nat} {c : Tr} (h : t.at_ p = some u) (hc : u.parts[n]? = some c) : t.at_ (p ++ [(n : Int)]) = some c := by
  rw [at_app, h]
  show (u.kid (n : Int)).bind _ = _
  have : u.kid (n : Int) = some c := by
    unfold Tr.kid
    rw [if_pos (by omega), Int.toNat_natCast]
    exact hc
  rw [this]
  rfl
end L2
namespace K02
open PySem PySem.Spec L2 PyProof.Rows
abbrev s_law_all : Stmt := top 21
theorem sc_law_all : FnScope ["_law_tree_here", "_law_found", "_law_ahead", "_law_place", "_law_part", "_law_number"] ["_law_tree_here"] (defScope s_law_all) := ⟨rfl, rfl, rfl, by decide +kernel, rfl, by decide +kernel, by decide +kernel⟩
section
variable {P : Program} {w : World} {K : PySem.W.Frag} {mg : Str → Option Value} {base : Heap}
def sp_all : Sp := fun vs H Q _ => ∃ (t : Tr) (v : V), vs = [v] ∧ Rep H t v ∧ t.size ≤ 400 ∧ ∀ (l : Addr) (us : List V) (R : List (List Int × Tr)) (H' : Hp), Same H H' → H l = none → H' l = some (.lst us) → Paired (RowR H') R us → R ≠ [] → R.length ≤ 400 → (∀ x ∈ R, t.at_ x.1 = some x.2 ∧ x.1.length ≤ 400) → Q (.ref l) H'
theorem ok_all {k : Nat} {f g1 g2 : Addr} {fd gd1 gd2 : FuncData} (F : Fun K "_law_all" "_law_all" s_law_all f fd) (z_len : mg "len" = none) (z_range : mg "range" = none) (G_law_many : FnB P w K mg base k "_law_many" g1 gd1 ["_law_tree_here"] sp_many)
    (G_law_first : FnB P w K mg base k "_law_first" g2 gd2 ["_law_tree_here"] sp_first) : FnOk P w K mg base CX0 (k + 1) f fd ["_law_tree_here"] sp_all := by
  refine F.ok sc_law_all (fun vs H Q E h => ?_) (fun cdv A outer s H vs Q E hr h => ?_)
  · obtain ⟨t, v, rfl, _⟩ := h
    rfl
  obtain ⟨t, v, rfl, hR, hsz, q⟩ := h
  refine ⟨_, (pss_cons (ps_set (i := 1) sc_law_all.nd rfl (Or.inl rfl) (pe_lst pa_nil : PE _ _ _))
    (pss_cons (ps_set (i := 2) sc_law_all.nd rfl (Or.inl rfl) (pe_lst (pa_cons (pe_tup (pa_cons (pe_tup pa_nil : PE _ _ _) (pa_cons (pv 0) pa_nil)) : PE _ _ _) pa_nil) : PE _ _ _))
    (pss_cons (ps_while PassesOwn.never (pt_cmpR op_gt (pe_callB call_len_seq (by rfl) z_len PySem.boot_len (pa_cons (pv 2) pa_nil)) pe_int (nomark _)) (pss_cons (ps_asg (pe_bm0 PySem.F.plainAttrs_list PySem.F.slot_list_pop PySem.F.type_list_pop mt_pop (pv 2)) (pg_tup rfl (pgs_cons (pg_name (i := 3) sc_law_all.nd rfl (Or.inl rfl)) (pgs_cons (pg_name (i := 4) sc_law_all.nd rfl (Or.inl rfl)) pgs_nil))))
    (pss_cons (ps_expr (pe_bm PySem.F.plainAttrs_list PySem.F.slot_list_append PySem.F.type_list_append mt_append (pv 1) (pa_cons (pe_tup (pa_cons (pv 3) (pa_cons (pv 4) pa_nil)) : PE _ _ _) pa_nil)))
    (pss_one (ps_for PassesOwn.never rfl (pi_range1 (by rfl) z_range (pa_cons (pe_call G_law_many.ok hr (by rfl) G_law_many.gl G_law_many.kp G_law_many.bd .nil pass0 (pa_cons (pv 4) pa_nil)) pa_nil)) (pg_name (i := 5) sc_law_all.nd rfl (Or.inl rfl)) (pss_one (ps_expr (pe_bm PySem.F.plainAttrs_list PySem.F.slot_list_append PySem.F.type_list_append mt_append (pv 2) (pa_cons (pe_tup (pa_cons (pe_op op_catV (pv 3) (pe_tup (pa_cons (pv 5) pa_nil) : PE _ _ _)) (pa_cons (pe_ix (r := rIxT K) ix_tup (pv 4) (pe_op op_add (pe_call G_law_first.ok hr (by rfl) G_law_first.gl G_law_first.kp G_law_first.bd .nil pass0 (pa_cons (pv 4) pa_nil)) (pv 5)) (fun _ _ => rfl)) pa_nil)) : PE _ _ _) pa_nil)))))))))
    (pss_one (ps_ret (pv 1)))))), ?_⟩
  have d0 : 0 ≤ sizeLine := by decide
  have d1 : 1 ≤ sizeLine := by decide
  have d2 : 2 ≤ sizeLine := by decide
  refine ⟨d0, fun fo hfo => ⟨d0, fun p0 hp0 => ⟨_, rfl, d2, fun p1 hp1 => ⟨d1, fun l hl => ?_⟩⟩⟩⟩
  have g1 := same_upd (o := .lst []) hfo
  have g2 := same_upd (o := .tup []) hp0
  have g3 := same_upd (o := .tup [.ref p0, v]) hp1
  have g4 := same_upd (o := .lst [.ref p1]) hl
  have gA := g1.trans (g2.trans (g3.trans g4))
  have nlf : l ≠ fo := Ne.symm (ne_of_none (g3 _ _ (g2 _ _ (upd_same (H := H) (a := fo) (o := .lst [])))) hl)
  have hlH : H l = none := (g1.trans (g2.trans g3)).free hl
  have ef0 := g4 _ _ (g3 _ _ (g2 _ _ (upd_same (H := H) (a := fo) (o := .lst []))))
  have r0 : RowR (upd (upd (upd (upd H fo (.lst [])) p0 (.tup [])) p1 (.tup [.ref p0, v])) l (.lst [.ref p1])) ([], t) (.ref p1) := ⟨p1, p0, v, rfl, g4 _ _ upd_same, g4 _ _ (g3 _ _ upd_same), hR.mono gA.tk⟩
  refine ⟨fun m σ' H' => ∃ (ls fs : List V) (L Fd : List (List Int × Tr)) (s3 s4 s5 : Option V), σ' = [some v, some (.ref fo), some (.ref l), s3, s4, s5] ∧ Same H H' ∧ H' fo = some (.lst fs) ∧ H' l = some (.lst ls) ∧ Paired (RowR H') Fd fs ∧ Paired (RowR H') L ls ∧ m = szR L ∧
      (∀ x ∈ Fd ++ L, t.at_ x.1 = some x.2 ∧ x.1.length + x.2.size ≤ t.size) ∧ Fd.length + szR L ≤ t.size ∧ 0 < Fd.length + L.length,
    ⟨t.size, [.ref p1], [], [([], t)], [], none, none, none, rfl, gA, ef0, upd_same, .nil, .cons r0 .nil, by simp [szR], ?_, by simp [szR], by simp⟩, ?_⟩
  · intro x hx
    simp at hx
    subst hx
    exact ⟨rfl, by simp⟩
  rintro m σ' H1 ⟨ls, fs, L, Fd, s3, s4, s5, rfl, gw, ef, el, pF, pL, rfl, hmem, hcnt, hpos⟩
  have lL := paired_len pL
  have lF := paired_len pF
  refine ⟨_, rfl, l, _, rfl, .inl (SqL.of el), _, _, rfl, rfl, _, rfl, ?_⟩
  refine ite2 (fun c => ?_) (fun c => ?_)
  · have hLp : 0 < L.length := by
      have := of_decide_eq_true c
      omega
    obtain ⟨L', x, rfl⟩ : ∃ L' x, L = L' ++ [x] := ⟨L.dropLast, L.getLast (by intro z; rw [z] at hLp; simp at hLp), (List.dropLast_concat_getLast _).symm⟩
    obtain ⟨ls', u, rfl, pL', rx⟩ := paired_unsnoc pL
    obtain ⟨a, pl, uw, rfl, ea, epl, ru⟩ := rx
    have hx := hmem x (by simp)
    have hxs := size_pos2 x.2
    rw [szR_app, szR_one] at hcnt
    refine ⟨_, fun _ _ h => h, ?_⟩
    refine ⟨_, rfl, .inl ⟨rfl, _, SqL.of el⟩, l, _, .ref a, rfl, rfl, el, (by rw [List.length_append]; simp), ?_⟩
    rw [List.dropLast_concat]
    have k1 : Tk H1 (upd H1 l (.lst ls')) := Tk.lst el
    have s1 : Same H (upd H1 l (.lst ls')) := same_set gw hlH
    have ef1 : (upd H1 l (.lst ls')) fo = some (.lst fs) := by rw [upd_ne (Ne.symm nlf)]; exact ef
    have el1 : (upd H1 l (.lst ls')) l = some (.lst ls') := upd_same
    have ea1 := k1 _ _ ea
    have epl1 := k1 _ _ epl
    have ru1 := ru.mono k1
    have pF1 : Paired (RowR (upd H1 l (.lst ls'))) Fd fs := Paired.mapP pF fun _ _ z => z.mono k1
    have pL1 : Paired (RowR (upd H1 l (.lst ls'))) L' ls' := Paired.mapP pL' fun _ _ z => z.mono k1
    generalize upd H1 l (.lst ls') = H2 at k1 s1 ef1 el1 ea1 epl1 ru1 pF1 pL1 ⊢
    refine ⟨a, [.ref pl, uw], rfl, SqT.of ea1, rfl, _, _, rfl, _, _, rfl, rfl, ?_⟩
    have lF1 := paired_len pF1
    refine ⟨_, rfl, .inl ⟨rfl, _, SqL.of ef1⟩, _, rfl, _, rfl, d2, fun pr hpr => ?_⟩
    have g5 := same_upd (o := .tup [.ref pl, uw]) hpr
    have ef2 := g5 _ _ ef1
    refine ⟨fo, fs, _, rfl, rfl, ef2, small1000 (by omega), ?_⟩
    have k3 : Tk (upd H2 pr (.tup [.ref pl, uw])) (upd (upd H2 pr (.tup [.ref pl, uw])) fo (.lst (fs ++ [.ref pr]))) := Tk.lst ef2
    have k4 := g5.tk.trans k3
    have s3 : Same H (upd (upd H2 pr (.tup [.ref pl, uw])) fo (.lst (fs ++ [.ref pr]))) := same_set (s1.trans g5) hfo
    have ef3 : (upd (upd H2 pr (.tup [.ref pl, uw])) fo (.lst (fs ++ [.ref pr]))) fo = some (.lst (fs ++ [.ref pr])) := upd_same
    have el3 : (upd (upd H2 pr (.tup [.ref pl, uw])) fo (.lst (fs ++ [.ref pr]))) l = some (.lst ls') := by rw [upd_ne nlf]; exact g5 _ _ el1
    have epr3 := k3 _ _ (upd_same (H := H2) (a := pr) (o := .tup [.ref pl, uw]))
    have epl3 := k4 _ _ epl1
    have ru3 := ru1.mono k4
    have pF3 : Paired (RowR (upd (upd H2 pr (.tup [.ref pl, uw])) fo (.lst (fs ++ [.ref pr])))) (Fd ++ [x]) (fs ++ [.ref pr]) := paired_append (Paired.mapP pF1 fun _ _ z => z.mono k4) (.cons ⟨pr, pl, uw, rfl, epr3, epl3, ru3⟩ .nil)
    have pL3 : Paired (RowR (upd (upd H2 pr (.tup [.ref pl, uw])) fo (.lst (fs ++ [.ref pr])))) L' ls' := Paired.mapP pL1 fun _ _ z => z.mono k4
    dsimp only
    generalize upd (upd H2 pr (.tup [.ref pl, uw])) fo (.lst (fs ++ [.ref pr])) = H4 at s3 ef3 el3 epl3 ru3 pF3 pL3 ⊢
    have h3 := parts_le3 x.2
    refine ⟨_, rfl, x.2, uw, rfl, ru3, fun H5 g6 => ⟨_, rfl, by omega, by omega, ?_⟩⟩
    refine for_range (n := ((x.2.parts.length : Int)).toNat) (fun i σ' H' => ∃ (ls2 : List V) (s5 : Option V), σ' = [some v, some (.ref fo), some (.ref l), some (.ref pl), some uw, s5] ∧ Same H H' ∧ Tk H4 H' ∧ H' fo = some (.lst (fs ++ [.ref pr])) ∧ H' l = some (.lst ls2) ∧ Paired (RowR H') (L' ++ rowKids x i) ls2) ?_ ?_ ?_
    · exact ⟨ls', s5, rfl, s3.trans g6, g6.tk, g6 _ _ ef3, g6 _ _ el3, by simpa [rowKids] using Paired.mapP pL3 fun _ _ z => z.mono g6.tk⟩
    · rintro i σ2 H6 hi ⟨ls2, s5', rfl, sH, kH, efH, elH, pH⟩
      have hi' : i < x.2.parts.length := by omega
      have ec := List.getElem?_eq_getElem hi'
      have ruH := ru3.mono kH
      obtain ⟨a', hs, us, rfl, ha', hl', hp'⟩ := ruH.all
      have hul := paired_len hp'
      obtain ⟨y, ey⟩ : ∃ y, us[i]? = some y := ⟨us[i]'(by omega), List.getElem?_eq_getElem _⟩
      obtain ⟨c, ec', rc⟩ := paired_get hp' ey
      have hfh : first_ x.2 = x.2.head := first_head (by omega)
      have ey2 : atI (V.str x.2.sign :: hs ++ us) ((first_ x.2 : Int) + (0 + (i : Int))) = some y := by
        have e1 : ((first_ x.2 : Int) + (0 + (i : Int))) = (((V.str x.2.sign :: hs).length + i : Nat) : Int) := by
          rw [hfh, List.length_cons]; omega
        rw [e1]
        refine atI_nat ?_
        rw [List.getElem?_append_right (by omega)]
        simpa using ey
      have hpln : x.1.length ≤ 400 := by omega
      refine ⟨_, rfl, .inl ⟨rfl, _, SqL.of elH⟩, _, rfl, _, rfl, d1, fun q1 hq1 => ⟨pl, q1, x.1.map V.int, [V.int (0 + (i : Int))], rfl, rfl, ?_, upd_same, line1000 ?_, fun q2 H7 g7 e7 => ?_⟩⟩
      · have := (same_upd (o := .tup [V.int (0 + (i : Int))]) hq1) _ _ (kH _ _ epl3)
        exact this
      · rw [List.length_map]
        show x.1.length + 1 ≤ 1000
        omega
      have gq := (same_upd (o := .tup [V.int (0 + (i : Int))]) hq1).trans g7
      refine ⟨_, rfl, _, rfl, x.2, _, rfl, ruH.mono gq.tk, _, rfl, _, _, rfl, rfl, a', _, _, _, rfl, rfl, SqT.of (gq _ _ ha'), ey2, d2, fun q3 hq3 => ?_⟩
      have g8 := same_upd (o := .tup [.ref q2, y]) hq3
      have gQ := gq.trans g8
      have elQ := gQ _ _ elH
      have lH := paired_len pH
      have hkz := rowKids_sz x i
      have hlz := szR_len (rowKids x i)
      have hl2 := szR_len L'
      refine ⟨l, ls2, _, rfl, rfl, elQ, small1000 ?_, ?_⟩
      · rw [List.length_append] at lH
        omega
      have k9 : Tk (upd H7 q3 (.tup [.ref q2, y])) (upd (upd H7 q3 (.tup [.ref q2, y])) l (.lst (ls2 ++ [.ref q3]))) := Tk.lst elQ
      have kQ := gQ.tk.trans k9
      refine ⟨ls2 ++ [.ref q3], _, rfl, same_set (sH.trans gQ) hlH, kH.trans kQ, ?_, upd_same, ?_⟩
      · rw [upd_ne (Ne.symm nlf)]; exact gQ _ _ efH
      · rw [rowKids_next ec', ← List.append_assoc]
        refine paired_append (Paired.mapP pH fun _ _ z => z.mono kQ) (.cons ⟨q3, q2, y, rfl, k9 _ _ upd_same, ?_, rc.mono kQ⟩ .nil)
        have := k9 _ _ (g8 _ _ e7)
        rw [this, List.map_append]
        simp
    · rintro σ2 H6 ⟨ls2, s5', rfl, sH, kH, efH, elH, pH⟩
      have hkz := rowKids_sz x ((x.2.parts.length : Int)).toNat
      rw [Int.toNat_natCast] at hkz pH
      refine ⟨szR (L' ++ rowKids x x.2.parts.length), ?_, ls2, fs ++ [.ref pr], L' ++ rowKids x x.2.parts.length, Fd ++ [x], _, _, _, rfl, sH, efH, elH, Paired.mapP pF3 fun _ _ z => z.mono kH, pH, rfl, ?_, ?_, ?_⟩
      · rw [szR_app, szR_app, szR_one]; omega
      · intro z hz
        have : z ∈ Fd ++ (L' ++ [x]) ∨ z ∈ rowKids x x.2.parts.length := by
          simp only [List.mem_append, List.mem_singleton] at hz ⊢
          rcases hz with (h | h) | (h | h)
          · exact .inl (.inl h)
          · exact .inl (.inr (.inr h))
          · exact .inl (.inr (.inl h))
          · exact .inr h
        rcases this with h | h
        · exact hmem z h
        · unfold rowKids at h
          obtain ⟨qq, hq, rfl⟩ := List.mem_map.mp h
          have hg := List.mem_zipIdx_iff_getElem?.mp hq
          rw [List.take_length] at hg
          refine ⟨at_snoc hx.1 hg, ?_⟩
          have h5 : qq.1.size ≤ (x.2.parts.map Tr.size).sum := by
            have : qq.1 ∈ x.2.parts := List.mem_of_getElem? hg
            exact single_le_sum (List.mem_map_of_mem this)
          have h6 := parts_size x.2
          show (x.1 ++ [(qq.2 : Int)]).length + qq.1.size ≤ _
          rw [List.length_append]
          simp only [List.length_cons, List.length_nil]
          omega
      · rw [szR_app, List.length_append]
        simp only [List.length_cons, List.length_nil]
        omega
      · rw [List.length_append]
        simp only [List.length_cons, List.length_nil]
        omega
  · have e0 : ls = [] := by
      cases ls with
      | nil => rfl
      | cons _ _ => exact absurd (decide_eq_true (by show (0 : Int) < _; simp)) c
    have eL : L = [] := by
      subst e0
      cases L with
      | nil => rfl
      | cons _ _ => simp at lL
    subst eL
    refine ⟨_, rfl, q fo fs Fd H1 gw hfo ef pF (fun z => ?_) (by simp [szR] at hcnt; omega) fun x hx => ?_⟩
    · rw [z] at hpos; simp at hpos
    · have := hmem x (List.mem_append_left _ hx)
      exact ⟨this.1, by omega⟩
end
end K02
set_option Elab.async false
set_option linter.all false
set_option maxRecDepth 100000
set_option maxHeartbeats 4000000
namespace K02
open PySem PySem.Spec L2 PyProof.Rows
abbrev s_law_tree : Stmt := top 18
theorem sc_law_tree : FnScope ["_law_cells", "_law_deep", "_law_number", "_law_rest", "_law_at", "_law_sign", "_law_one", "_law_far", "_law_two", "_law_other"] ["_law_cells", "_law_deep"] (defScope s_law_tree) := ⟨rfl, rfl, rfl, by decide +kernel, rfl, by decide +kernel, by decide +kernel⟩
section
variable {P : Program} {w : World} {K : PySem.W.Frag} {mg : Str → Option Value} {base : Heap}
def sp_tree (K : PySem.W.Frag) (n : Nat) : Sp := fun vs H Q _ => ∃ (a : Addr) (ns : List Int) (d : Int), vs = [.ref a, .int d] ∧ SqL K H a (ns.map V.int) ∧ ns.length ≤ 63 ∧ 0 ≤ d ∧ d < n ∧
  ∀ (t : Tr) (v : V) (H' : Hp), Same H H' → Rep H' t v → t.size ≤ 3 * ns.length + 1 → Q v H'
def kds : List Kd := [.say, .add, .sub, .mul, .thn, .ite, .ite, .lett, .lett, .mul]
theorem pickSign (z : Int) : ∃ kd : Kd, kd ∈ kds ∧ atI (kds.map fun k => V.str k.s) (z % 10) = some (.str kd.s) := by
  have hl : ((kds.map fun k => V.str k.s).length : Int) = 10 := rfl
  obtain ⟨v, hv, e⟩ := atI_in (xs := kds.map fun k => V.str k.s) (i := z % 10) (by omega) (by omega)
  obtain ⟨kd, hk, rfl⟩ := List.mem_map.mp hv
  exact ⟨kd, hk, e⟩
theorem ok_tree {k n : Nat} {f g1 g2 : Addr} {fd gd1 gd2 : FuncData} (F : Fun K "_law_tree" "_law_tree" s_law_tree f fd) (z_len : mg "len" = none) (G_law_leaf : FnB P w K mg base k "_law_leaf" g1 gd1 ["_law_cell"] sp_leaf)
    (G_law_word : FnB P w K mg base k "_law_word" g2 gd2 ["_law_cell"] sp_word) (G_law_tree : FnB P w K mg base k "_law_tree" f fd ["_law_cells", "_law_deep"] (sp_tree K n)) :
    FnOk P w K mg base CX0 (k + 1) f fd ["_law_cells", "_law_deep"] (sp_tree K (n + 1)) := by
  refine F.ok sc_law_tree (fun vs H Q E h => ?_) (fun cdv A outer s H vs Q E hr h => ?_)
  · obtain ⟨a, ns, d, rfl, _⟩ := h
    rfl
  obtain ⟨a, ns, d, rfl, hS, h63, hd0, hdn, q⟩ := h
  refine ⟨_, (Sd.un (pss_consS (ps_ifS ⟨pt_cmpR op_eq (pe_callB call_len_seq (by rfl) z_len PySem.boot_len (pa_cons (pv 0) pa_nil)) pe_int (nomark _)⟩ (pss_oneS (ps_retS (pe_tupS (pa_consS ⟨pe_str⟩ (pa_consS ⟨pv 1⟩ ⟨pa_nil⟩))))) ⟨pss_nil⟩)
    (pss_consS (ps_ifS ⟨(pw_or (pt_cmpR op_eq (pe_callB call_len_seq (by rfl) z_len PySem.boot_len (pa_cons (pv 0) pa_nil)) pe_int (nomark _)) (pw_or1 (pt_cmpR op_eq (pv 1) pe_int (nomark _)))).pt⟩ (pss_oneS (ps_retS ⟨pe_call G_law_leaf.ok hr (by rfl) G_law_leaf.gl G_law_leaf.kp G_law_leaf.bd .nil pass0 (pa_cons (pe_ix (r := rIxL K) ix_list (pv 0) pe_int (fun _ _ => rfl)) pa_nil)⟩)) ⟨pss_nil⟩)
    (pss_consS (ps_setS (i := 2) sc_law_tree.nd rfl (Or.inl rfl) ⟨pe_op op_mod (pe_op op_mul (pe_ix (r := rIxL K) ix_list (pv 0) pe_int (fun _ _ => rfl)) pe_int) pe_int⟩)
    (pss_consS (ps_setS (i := 3) sc_law_tree.nd rfl (Or.inl rfl) ⟨pe_slice (r := rSlL K) sl_list (pv 0) (po_some pe_int) po_none⟩)
    (pss_consS (ps_setS (i := 4) sc_law_tree.nd rfl (Or.inl rfl) ⟨pe_op op_mod (pe_op op_fdiv (pv 2) pe_int) (pe_op op_add (pe_callB call_len_seq (by rfl) z_len PySem.boot_len (pa_cons (pv 3) pa_nil)) pe_int)⟩)
    (pss_consS (ps_setS (i := 5) sc_law_tree.nd rfl (Or.inl rfl) (pe_ixS (r := rIxL K) ix_list ⟨pe_lstR [.str "say", .str "add", .str "sub", .str "mul", .str "then", .str "if", .str "if", .str "let", .str "let", .str "mul"] (by rfl)⟩ ⟨pe_op op_mod (pv 2) pe_int⟩ (fun _ _ => rfl)))
    (pss_consS (ps_ifS ⟨pt_cmpR op_eq (pv 5) pe_str (nomark _)⟩ (pss_oneS (ps_retS (pe_tupS (pa_consS ⟨pe_str⟩ (pa_consS ⟨pe_call G_law_tree.ok hr (by rfl) G_law_tree.gl G_law_tree.kp G_law_tree.bd .nil pass0 (pa_cons (pv 3) (pa_cons (pe_op op_sub (pv 1) pe_int) pa_nil))⟩ ⟨pa_nil⟩))))) ⟨pss_nil⟩)
    (pss_consS (ps_setS (i := 6) sc_law_tree.nd rfl (Or.inl rfl) ⟨pe_call G_law_tree.ok hr (by rfl) G_law_tree.gl G_law_tree.kp G_law_tree.bd .nil pass0 (pa_cons (pe_slice (r := rSlL K) sl_list (pv 3) po_none (po_some (pv 4))) (pa_cons (pe_op op_sub (pv 1) pe_int) pa_nil))⟩)
    (pss_consS (ps_ifS ⟨pt_cmpR op_eq (pv 5) pe_str (nomark _)⟩ (pss_consS (ps_setS (i := 7) sc_law_tree.nd rfl (Or.inl rfl) ⟨pe_op op_add (pv 4) (pe_op op_mod (pe_op op_fdiv (pv 2) pe_int) (pe_op op_add (pe_op op_sub (pe_callB call_len_seq (by rfl) z_len PySem.boot_len (pa_cons (pv 3) pa_nil)) (pv 4)) pe_int))⟩)
    (pss_consS (ps_setS (i := 8) sc_law_tree.nd rfl (Or.inl rfl) ⟨pe_call G_law_tree.ok hr (by rfl) G_law_tree.gl G_law_tree.kp G_law_tree.bd .nil pass0 (pa_cons (pe_slice (r := rSlL K) sl_list (pv 3) (po_some (pv 4)) (po_some (pv 7))) (pa_cons (pe_op op_sub (pv 1) pe_int) pa_nil))⟩)
    (pss_oneS (ps_retS (pe_tupS (pa_consS ⟨pe_str⟩ (pa_consS ⟨pv 6⟩ (pa_consS ⟨pv 8⟩ (pa_consS ⟨pe_call G_law_tree.ok hr (by rfl) G_law_tree.gl G_law_tree.kp G_law_tree.bd .nil pass0 (pa_cons (pe_slice (r := rSlL K) sl_list (pv 3) (po_some (pv 7)) po_none) (pa_cons (pe_op op_sub (pv 1) pe_int) pa_nil))⟩ ⟨pa_nil⟩))))))))) ⟨pss_nil⟩)
    (pss_consS (ps_setS (i := 9) sc_law_tree.nd rfl (Or.inl rfl) ⟨pe_call G_law_tree.ok hr (by rfl) G_law_tree.gl G_law_tree.kp G_law_tree.bd .nil pass0 (pa_cons (pe_slice (r := rSlL K) sl_list (pv 3) (po_some (pv 4)) po_none) (pa_cons (pe_op op_sub (pv 1) pe_int) pa_nil))⟩)
    (pss_consS (ps_ifS ⟨pt_cmpR op_eq (pv 5) pe_str (nomark _)⟩ (pss_oneS (ps_retS (pe_tupS (pa_consS ⟨pe_str⟩ (pa_consS ⟨pe_call G_law_word.ok hr (by rfl) G_law_word.gl G_law_word.kp G_law_word.bd .nil pass0 (pa_cons (pe_op op_fdiv (pv 2) pe_int) pa_nil)⟩ (pa_consS ⟨pv 6⟩ (pa_consS ⟨pv 9⟩ ⟨pa_nil⟩))))))) ⟨pss_nil⟩)
    (pss_oneS (ps_retS (pe_tupS (pa_consS ⟨pv 5⟩ (pa_consS ⟨pv 6⟩ (pa_consS ⟨pv 9⟩ ⟨pa_nil⟩)))))))))))))))))), ?_⟩
  have d2 : 2 ≤ sizeLine := by decide
  have d3 : 3 ≤ sizeLine := by decide
  have d4 : 4 ≤ sizeLine := by decide
  have d10 : 10 ≤ sizeLine := by decide
  have hlen : (ns.map V.int).length = ns.length := List.length_map _
  refine ⟨_, rfl, a, _, rfl, .inl hS, rfl, _, rfl, ?_⟩
  refine ite2 (fun _ => ?_) (fun c0 => ?_)
  · refine ⟨_, rfl, d2, fun p hp => ?_⟩
    exact q (.num d) _ _ (same_upd hp) ⟨p, rfl, upd_same⟩ (by show 1 ≤ _; omega)
  have c0' : ns.length ≠ 0 := fun z => c0 (decide_eq_true (by rw [hlen, z]; rfl))
  obtain ⟨v0, hv0, e0⟩ := atI_in (xs := ns.map V.int) (i := 0) (Int.le_refl 0) (by rw [hlen]; omega)
  obtain ⟨i0, _, rfl⟩ := List.mem_map.mp hv0
  refine ⟨_, rfl, a, _, rfl, .inl hS, rfl, _, rfl, ?_⟩
  refine ite2 (fun _ => ?_) (fun c1 => ⟨_, rfl, rfl, _, rfl, ite2 (fun _ => ?_) (fun c2 => ?_)⟩)
  · exact ⟨_, rfl, a, _, 0, _, rfl, rfl, hS, e0, i0, rfl, fun t v H' g r sz => q t v H' g r (by omega)⟩
  · exact ⟨_, rfl, a, _, 0, _, rfl, rfl, hS, e0, i0, rfl, fun t v H' g r sz => q t v H' g r (by omega)⟩
  have c2' : d ≠ 0 := fun z => c2 (decide_eq_true (by rw [z]))
  refine ⟨_, rfl, a, _, 0, _, rfl, rfl, hS, e0, _, _, rfl, rfl, .inr ⟨by decide, by decide⟩, _, _, rfl, rfl, (show (0 : Int) < 2147483629 by decide), ?_⟩
  obtain ⟨ms, em, lm⟩ := cutInts (ns := ns) (lo := some 1) (hi := none) (i := 1) (j := ns.length) (sIx_int (by decide) (by omega)) rfl (Nat.le_refl _)
  refine ⟨_, rfl, _, rfl, a, _, rfl, hS, fun pr hpr => ?_⟩
  rw [em]
  have g1 := same_upd (o := .lst (ms.map V.int)) hpr
  have epr : upd H pr (.lst (ms.map V.int)) pr = some (.lst (ms.map V.int)) := upd_same
  have hlm : (ms.map V.int).length = ms.length := List.length_map _
  generalize upd H pr (.lst (ms.map V.int)) = H1 at g1 epr ⊢
  dsimp only
  generalize hN : i0 * 39373 % 2147483629 = N
  refine ⟨_, rfl, _, _, rfl, rfl, ⟨(show (0 : Int) < 10 by decide), (show (10 : Int) < 1073741824 by decide)⟩, _, rfl, pr, _, rfl, .inl (SqL.of epr), _, _, rfl, rfl, _, _, rfl, rfl, (by rw [hlm]; omega), ?_⟩
  obtain ⟨at_, hat, hat0, hat1⟩ : ∃ at_ : Int, N / 10 % (((ms.map V.int).length : Int) + 1) = at_ ∧ 0 ≤ at_ ∧ at_ ≤ ms.length :=
    ⟨_, rfl, Int.emod_nonneg _ (by omega), by have := Int.emod_lt_of_pos (N / 10) (show (0 : Int) < ((ms.map V.int).length : Int) + 1 by omega); rw [hlm] at this ⊢; omega⟩
  dsimp only
  rw [hat]
  obtain ⟨kd, hk, ek⟩ := pickSign N
  refine ⟨d10, fun ps hps => ⟨_, rfl, _, _, rfl, rfl, (show (0 : Int) < 10 by decide), ps, _, _, _, rfl, rfl, SqL.of upd_same, ek, ?_⟩⟩
  have g2 := same_upd (o := .lst [.str "say", .str "add", .str "sub", .str "mul", .str "then", .str "if", .str "if", .str "let", .str "let", .str "mul"]) hps
  have epr2 := g2 _ _ epr
  have gA := g1.trans g2
  generalize upd H1 ps (.lst [.str "say", .str "add", .str "sub", .str "mul", .str "then", .str "if", .str "if", .str "let", .str "let", .str "mul"]) = H2 at g2 epr2 gA ⊢
  refine ⟨_, rfl, rfl, _, rfl, ?_⟩
  refine ite2 (fun c3 => ?_) (fun c3 => ?_)
  · refine ⟨_, rfl, _, rfl, _, _, rfl, rfl, pr, ms, d - 1, rfl, SqL.of epr2, by omega, by omega, by omega, fun t v H3 g3 r3 sz3 => ⟨d2, fun p hp => ?_⟩⟩
    exact q (.say t) _ _ (gA.trans (g3.trans (same_upd hp))) ⟨p, v, rfl, upd_same, r3.mono (same_upd hp).tk⟩ (by show t.size + 1 ≤ _; omega)
  obtain ⟨m1, em1, lm1⟩ := cutInts (ns := ms) (lo := none) (hi := some at_) (i := 0) (j := at_.toNat) rfl (sIx_int hat0 hat1) (by omega)
  refine ⟨_, rfl, _, rfl, _, rfl, pr, _, rfl, SqL.of epr2, fun p1 hp1 => ?_⟩
  rw [em1]
  have g3 := same_upd (o := .lst (m1.map V.int)) hp1
  refine ⟨_, rfl, _, _, rfl, rfl, p1, m1, d - 1, rfl, SqL.of upd_same, by omega, by omega, by omega, fun t1 v1 H4 g4 r1 sz1 => ?_⟩
  have gB := gA.trans (g3.trans g4)
  have epr4 := g4 _ _ (g3 _ _ epr2)
  refine ⟨_, rfl, rfl, _, rfl, ?_⟩
  refine ite2 (fun c4 => ?_) (fun c4 => ?_)
  · refine ⟨_, rfl, _, rfl, _, _, rfl, rfl, ⟨(show (0 : Int) < 1009 by decide), (show (1009 : Int) < 1073741824 by decide)⟩, _, rfl, pr, _, rfl, .inl (SqL.of epr4), _, rfl, _, _, rfl, rfl, _, _, rfl, rfl, _, _, rfl, rfl, (by rw [hlm]; omega), _, _, rfl, rfl, ?_⟩
    obtain ⟨far, hfar, hf0, hf1⟩ : ∃ far : Int, at_ + N / 1009 % (((ms.map V.int).length : Int) - at_ + 1) = far ∧ at_ ≤ far ∧ far ≤ ms.length :=
      ⟨_, rfl, by have := Int.emod_nonneg (N / 1009) (show ((ms.map V.int).length : Int) - at_ + 1 ≠ 0 by rw [hlm]; omega); omega, by have := Int.emod_lt_of_pos (N / 1009) (show (0 : Int) < ((ms.map V.int).length : Int) - at_ + 1 by rw [hlm]; omega); rw [hlm] at this ⊢; omega⟩
    dsimp only
    rw [hfar]
    obtain ⟨m2, em2, lm2⟩ := cutInts (ns := ms) (lo := some at_) (hi := some far) (i := at_.toNat) (j := far.toNat) (sIx_int hat0 hat1) (sIx_int (by omega) hf1) (by omega)
    obtain ⟨m3, em3, lm3⟩ := cutInts (ns := ms) (lo := some far) (hi := none) (i := far.toNat) (j := ms.length) (sIx_int (by omega) hf1) rfl (Nat.le_refl _)
    refine ⟨_, rfl, _, rfl, _, rfl, _, rfl, _, rfl, pr, _, rfl, SqL.of epr4, fun p2 hp2 => ?_⟩
    rw [em2]
    have g5 := same_upd (o := .lst (m2.map V.int)) hp2
    refine ⟨_, rfl, _, _, rfl, rfl, p2, m2, d - 1, rfl, SqL.of upd_same, by omega, by omega, by omega, fun t2 v2 H6 g6 r2 sz2 => ?_⟩
    have epr6 := g6 _ _ (g5 _ _ epr4)
    refine ⟨_, rfl, _, rfl, _, rfl, _, rfl, _, rfl, pr, _, rfl, SqL.of epr6, fun p3 hp3 => ?_⟩
    rw [em3]
    have g7 := same_upd (o := .lst (m3.map V.int)) hp3
    refine ⟨_, rfl, _, _, rfl, rfl, p3, m3, d - 1, rfl, SqL.of upd_same, by omega, by omega, by omega, fun t3 v3 H8 g8 r3 sz3 => ⟨d4, fun p hp => ?_⟩⟩
    have gp := same_upd (o := .tup [.str "if", v1, v2, v3]) hp
    exact q (.ite t1 t2 t3) _ _ (gB.trans (g5.trans (g6.trans (g7.trans (g8.trans gp))))) ⟨p, v1, v2, v3, rfl, upd_same, r1.mono (g5.trans (g6.trans (g7.trans (g8.trans gp)))).tk, r2.mono (g7.trans (g8.trans gp)).tk, r3.mono gp.tk⟩ (by show t1.size + t2.size + t3.size + 1 ≤ _; omega)
  obtain ⟨m2, em2, lm2⟩ := cutInts (ns := ms) (lo := some at_) (hi := none) (i := at_.toNat) (j := ms.length) (sIx_int hat0 hat1) rfl (Nat.le_refl _)
  refine ⟨_, rfl, _, rfl, _, rfl, pr, _, rfl, SqL.of epr4, fun p2 hp2 => ?_⟩
  rw [em2]
  have g5 := same_upd (o := .lst (m2.map V.int)) hp2
  refine ⟨_, rfl, _, _, rfl, rfl, p2, m2, d - 1, rfl, SqL.of upd_same, by omega, by omega, by omega, fun t2 v2 H6 g6 r2 sz2 => ?_⟩
  have gC := gB.trans (g5.trans g6)
  have r1' := r1.mono (g5.trans g6).tk
  refine ⟨_, rfl, rfl, _, rfl, ?_⟩
  refine ite2 (fun c5 => ?_) (fun c5 => ?_)
  · refine ⟨_, rfl, _, _, rfl, rfl, ⟨(show (0 : Int) < 5003 by decide), (show (5003 : Int) < 1073741824 by decide)⟩, _, rfl, fun x H7 g7 => ⟨_, rfl, _, rfl, d4, fun p hp => ?_⟩⟩
    have gp := g7.trans (same_upd (o := .tup [.str "let", .str x, v1, v2]) hp)
    exact q (.lett x t1 t2) _ _ (gC.trans gp) ⟨p, v1, v2, rfl, upd_same, r1'.mono gp.tk, r2.mono gp.tk⟩ (by show t1.size + t2.size + 1 ≤ _; omega)
  · refine ⟨_, rfl, _, rfl, _, rfl, d3, fun p hp => ?_⟩
    have gp := same_upd (o := .tup [.str kd.s, v1, v2]) hp
    have n3 : kd ≠ .say := fun z => c3 (decide_eq_true (by rw [z]; rfl))
    have n4 : kd ≠ .ite := fun z => c4 (decide_eq_true (by rw [z]; rfl))
    have n5 : kd ≠ .lett := fun z => c5 (decide_eq_true (by rw [z]; rfl))
    obtain ⟨o, ho⟩ : ∃ o : Bin, o.s = kd.s := by
      cases kd with
      | add => exact ⟨.add, rfl⟩
      | sub => exact ⟨.sub, rfl⟩
      | mul => exact ⟨.mul, rfl⟩
      | thn => exact ⟨.thn, rfl⟩
      | say => exact absurd rfl n3
      | ite => exact absurd rfl n4
      | lett => exact absurd rfl n5
      | _ => exact absurd hk (by decide)
    exact q (.bin o t1 t2) _ _ (gC.trans gp) ⟨p, v1, v2, rfl, by rw [ho]; exact upd_same, r1'.mono gp.tk, r2.mono gp.tk⟩ (by show t1.size + t2.size + 1 ≤ _; omega)
theorem none_left {k : Nat} {f : Addr} {fd : FuncData} : FnOk P w K mg base CX0 k f fd ["_law_cells", "_law_deep"] (sp_tree K 0) := by
  have no : ∀ vs H Q E, ¬ sp_tree K 0 vs H Q E := fun vs H Q E h => by
    obtain ⟨a, ns, d, _, _, _, h1, h2, _⟩ := h
    omega
  exact ⟨fun vs H Q E h => absurd h (no vs H Q E), fun A outer s H args us vs Q E _ _ _ _ h => absurd h (no vs H Q E)⟩
theorem all_tree {k : Nat} {f g1 g2 : Addr} {fd gd1 gd2 : FuncData} (F : Fun K "_law_tree" "_law_tree" s_law_tree f fd) (b : Binds K fd ["_law_cells", "_law_deep"] []) (m : mg "_law_tree" = some (.ref f)) (z_len : mg "len" = none)
    (G : FnB P w K mg base k "_law_leaf" g1 gd1 ["_law_cell"] sp_leaf) (G2 : FnB P w K mg base k "_law_word" g2 gd2 ["_law_cell"] sp_word) : ∀ n : Nat, FnB P w K mg base (k + n) "_law_tree" f fd ["_law_cells", "_law_deep"] (sp_tree K n)
  | 0 => ⟨none_left, b, F.kp, m⟩
  | n + 1 => ⟨ok_tree F z_len (G.up (Nat.le_add_right _ _)) (G2.up (Nat.le_add_right _ _)) (all_tree F b m z_len G G2 n), b, F.kp, m⟩
end
end K02
set_option Elab.async false
set_option linter.all false
set_option maxRecDepth 100000
set_option maxHeartbeats 4000000
namespace L2
open PySem
theorem Rep.build2 {H : Hp} {t : Tr} {v : V} {ps : List Tr} (h : Rep H t v) (hl : ps.length = t.parts.length) : ∃ a hs us, v = .ref a ∧ H a = some (.tup (.str t.sign :: hs ++ us)) ∧ hs.length + 1 = t.head ∧ us.length = t.parts.length ∧ Paired (Rep H) t.parts us ∧
    ∀ {H' : Hp} {p : Addr} {ws : List V}, Tk H H' → H' p = some (.tup (.str t.sign :: hs ++ ws)) → Paired (Rep H') ps ws → Rep H' (t.withP ps) (.ref p) := by
  obtain ⟨a, hs, us, e, ha, hl1, hl2, mk⟩ := h.build hl
  obtain ⟨a2, hs2, us2, e2, ha2, hl3, hp2⟩ := h.all
  rw [e] at e2; cases e2
  rw [ha] at ha2
  have e3 : V.str t.sign :: hs ++ us = V.str t.sign :: hs2 ++ us2 := by injection ha2 with z; injection z
  have e4 := List.append_inj e3 (by rw [List.length_cons, List.length_cons]; omega)
  rw [← e4.2] at hp2
  exact ⟨a, hs, us, e, ha, hl1, hl2, hp2, mk⟩
end L2
namespace K02
open PySem PySem.Spec L2 PyProof.Rows
abbrev s_law_put : Stmt := top 22
theorem sc_law_put : FnScope ["_law_tree_here", "_law_place", "_law_part", "_law_at"] ["_law_tree_here", "_law_place", "_law_part"] (defScope s_law_put) := ⟨rfl, rfl, rfl, by decide +kernel, rfl, by decide +kernel, by decide +kernel⟩
abbrev s_law_same : Stmt := top 23
theorem sc_law_same : FnScope ["_law_found", "_law_due", "_law_one", "_law_other"] ["_law_found", "_law_due"] (defScope s_law_same) := ⟨rfl, rfl, rfl, by decide +kernel, rfl, by decide +kernel, by decide +kernel⟩
section
variable {P : Program} {w : World} {K : PySem.W.Frag} {mg : Str → Option Value} {base : Heap}
def sp_lput (n : Nat) : Sp := fun vs H Q _ => ∃ (t u : Tr) (v vu : V) (pl : Addr) (ns : List Int), vs = [v, .ref pl, vu] ∧ Rep H t v ∧ Rep H u vu ∧ H pl = some (.tup (ns.map V.int)) ∧ ns.length < n ∧ ns.length ≤ 900 ∧ t.at_ ns ≠ none ∧ ∀ v' H', Same H H' → Rep H' (putT t ns u) v' → Q v' H'
theorem set_split {α : Type} {us : List α} {i : Nat} {w : α} (h : i < us.length) : us.set i w = us.take i ++ w :: us.drop (i + 1) := by
  rw [List.set_eq_take_append_cons_drop, if_pos h]
theorem ok_lput {k n : Nat} {f g1 : Addr} {fd gd1 : FuncData} (F : Fun K "_law_put" "_law_put" s_law_put f fd) (G_law_first : FnB P w K mg base k "_law_first" g1 gd1 ["_law_tree_here"] sp_first)
    (G_law_put : FnB P w K mg base k "_law_put" f fd ["_law_tree_here", "_law_place", "_law_part"] (sp_lput n)) : FnOk P w K mg base CX0 (k + 1) f fd ["_law_tree_here", "_law_place", "_law_part"] (sp_lput (n + 1)) := by
  refine F.ok sc_law_put (fun vs H Q E h => ?_) (fun cdv A outer s H vs Q E hr h => ?_)
  · obtain ⟨t, u, v, vu, pl, ns, rfl, _⟩ := h
    rfl
  obtain ⟨t, u, v, vu, pl, ns, rfl, hR, hU, hpl, hn, h900, hat, q⟩ := h
  have hu0 := Nat.lt_of_succ_lt (hu_of hr)
  refine ⟨_, (pss_cons (ps_if (pt_cmpR (op_eqE hu0) (pv 1) (pe_tup pa_nil : PE _ _ _) (nomark _)) (pss_one (ps_ret (pv 2))) pss_nil)
    (pss_cons (ps_set (i := 3) sc_law_put.nd rfl (Or.inl rfl) (pe_op op_add (pe_call G_law_first.ok hr (by rfl) G_law_first.gl G_law_first.kp G_law_first.bd .nil pass0 (pa_cons (pv 0) pa_nil)) (pe_ix (r := rIxT K) ix_tup (pv 1) pe_int (fun _ _ => rfl))))
    (pss_one (ps_ret (pe_op op_catV (pe_op op_catV (pe_slice sl_tupV (pv 0) po_none (po_some (pv 3))) (pe_tup (pa_cons (pe_call G_law_put.ok hr (by rfl) G_law_put.gl G_law_put.kp G_law_put.bd .nil pass0 (pa_cons (pe_ix (r := rIxT K) ix_tup (pv 0) (pv 3) (fun _ _ => rfl)) (pa_cons (pe_slice sl_tupV (pv 1) (po_some pe_int) po_none) (pa_cons (pv 2) pa_nil)))) pa_nil) : PE _ _ _)) (pe_slice sl_tupV (pv 0) (po_some (pe_op op_add (pv 3) pe_int)) po_none)))))), ?_⟩
  have d0 : 0 ≤ sizeLine := by decide
  have d1 : 1 ≤ sizeLine := by decide
  refine ⟨_, rfl, d0, fun p hp => ?_⟩
  have g0 := same_upd (o := .tup []) hp
  refine ⟨pl, p, _, rfl, rfl, g0 _ _ hpl, upd_same, _, rfl, ?_⟩
  generalize upd H p (.tup []) = H0 at g0 ⊢
  cases ns with
  | nil => exact iteT ⟨_, rfl, q vu H0 g0 (hU.mono g0.tk)⟩
  | cons i is =>
    refine iteF ?_
    obtain ⟨kk, hk, hat2⟩ : ∃ kk, t.kid i = some kk ∧ kk.at_ is ≠ none := by
      cases e : t.kid i with
      | none => exact absurd (show (t.kid i).bind _ = none by rw [e]; rfl) hat
      | some kk => exact ⟨kk, rfl, fun z => hat (show (t.kid i).bind _ = none by rw [e]; exact z)⟩
    obtain ⟨k0, k1, k2⟩ := kid_lt hk
    have hR0 := hR.mono g0.tk
    obtain ⟨a, hs, us, rfl, ha, hl, hul, hpp, mk⟩ := hR0.build2 (ps := t.parts.set i.toNat (putT kk is u)) (by rw [List.length_set])
    have hfh : first_ t = t.head := first_head (by omega)
    have hp0 := g0 _ _ hpl
    have hln : (V.str t.sign :: hs ++ us).length = t.head + us.length := by rw [List.length_append, List.length_cons]; omega
    refine ⟨_, rfl, t, _, rfl, hR0, _, rfl, pl, _, 0, _, rfl, rfl, SqT.of hp0, atI_nat (j := 0) rfl, _, _, rfl, rfl, ?_⟩
    have eat : (first_ t : Int) + i = ((t.head + i.toNat : Nat) : Int) := by rw [hfh]; omega
    dsimp only
    rw [eat]
    have hp3 := head_pos t
    have c1 : cutV (V.str t.sign :: hs ++ us) none (some ((t.head + i.toNat : Nat) : Int)) = V.str t.sign :: hs ++ us.take i.toNat := by
      unfold cutV
      rw [HT.sIx_none, HT.sIx_nat, hln, Nat.sub_zero, List.drop_zero, Nat.min_eq_left (by omega), ← hl, show hs.length + 1 + i.toNat = (V.str t.sign :: hs).length + i.toNat by rfl, List.take_length_add_append]
    have c2 : cutV (V.str t.sign :: hs ++ us) (some (((t.head + i.toNat : Nat) : Int) + 1)) none = us.drop (i.toNat + 1) := by
      have e1 : ((t.head + i.toNat : Nat) : Int) + 1 = ((t.head + (i.toNat + 1) : Nat) : Int) := by omega
      unfold cutV
      rw [e1, HT.sIx_none, HT.sIx_nat, hln, Nat.min_eq_left (by omega), ← hl, show hs.length + 1 + (i.toNat + 1) = (V.str t.sign :: hs).length + (i.toNat + 1) by rfl, List.drop_length_add_append, List.take_of_length_le]
      rw [List.length_drop]
      simp only [List.length_cons]
      omega
    have c3 : cutV ((i :: is).map V.int) (some 1) none = is.map V.int := by
      unfold cutV
      rw [show (1 : Int) = ((1 : Nat) : Int) from rfl, HT.sIx_none, HT.sIx_nat]
      simp
      exact List.take_of_length_le (by simp)
    have eu : atI (V.str t.sign :: hs ++ us) ((t.head + i.toNat : Nat) : Int) = some (us[i.toNat]'(by omega)) := by
      refine atI_nat ?_
      rw [← hl, show hs.length + 1 + i.toNat = (V.str t.sign :: hs).length + i.toNat by rfl, List.getElem?_append_right (by omega)]
      simp only [Nat.add_sub_cancel_left]
      exact List.getElem?_eq_getElem _
    have h3 := parts_le3 t
    have h4 := head_le3 t
    refine ⟨_, rfl, _, rfl, _, rfl, a, _, rfl, ha, fun z => ?_, fun pA HA gA eA => ?_⟩
    · have z2 := z.2
      rw [HT.sIx_nat, hln] at z2
      omega
    rw [c1] at eA
    have haA := gA _ _ ha
    have hpA := gA _ _ hp0
    refine ⟨_, rfl, _, rfl, a, _, _, _, rfl, rfl, SqT.of haA, eu, _, rfl, _, rfl, pl, _, rfl, hpA, fun z => ?_, fun pB HB gB eB => ?_⟩
    · have z1 := z.1
      rw [show (1 : Int) = ((1 : Nat) : Int) from rfl, HT.sIx_nat] at z1
      simp at z1
    rw [c3] at eB
    have gAB := g0.trans (gA.trans gB)
    have gAB' := gA.trans gB
    obtain ⟨kk', ekk, rk⟩ := paired_get hpp (List.getElem?_eq_getElem (show i.toNat < us.length by omega))
    rw [k2] at ekk; cases ekk
    refine ⟨_, rfl, kk, u, _, vu, pB, is, rfl, rk.mono gAB'.tk, hU.mono gAB.tk, eB, by simp at hn; omega, by simp at h900; omega, hat2, fun v' HC gC rC => ⟨d1, fun pD hpD => ?_⟩⟩
    have gD := same_upd (o := .tup [v']) hpD
    refine ⟨pA, pD, _, _, rfl, rfl, gD _ _ (gC _ _ (gB _ _ eA)), upd_same, line1000 ?_, fun pE HE gE eE => ?_⟩
    · rw [List.length_append, List.length_cons, List.length_take]
      simp only [List.length_cons, List.length_nil]
      omega
    have gZ := gAB'.trans (gC.trans (gD.trans gE))
    refine ⟨_, rfl, _, rfl, _, _, rfl, rfl, _, rfl, a, _, rfl, gZ _ _ ha, fun z => ?_, fun pF HF gF eF => ?_⟩
    · have z1 := z.1
      rw [show ((t.head + i.toNat : Nat) : Int) + 1 = ((t.head + i.toNat + 1 : Nat) : Int) by omega, HT.sIx_nat, hln] at z1
      omega
    rw [c2] at eF
    refine ⟨pE, pF, _, _, rfl, rfl, gF _ _ eE, eF, line1000 ?_, fun pG HG gG eG => ?_⟩
    · simp only [List.length_append, List.length_cons, List.length_take, List.length_drop, List.length_nil]
      omega
    have gY := gZ.trans (gF.trans gG)
    refine q (.ref pG) HG (g0.trans gY) ?_
    rw [put_step hk]
    refine mk gY.tk (ws := us.set i.toNat v') ?_ ?_
    · rw [eG, set_split (by omega)]
      simp
    · refine paired_set (rC.mono (gD.trans (gE.trans (gF.trans gG))).tk) _ (Paired.mapP hpp fun _ _ z => z.mono gY.tk)
theorem no_lput {k : Nat} {f : Addr} {fd : FuncData} : FnOk P w K mg base CX0 k f fd ["_law_tree_here", "_law_place", "_law_part"] (sp_lput 0) := by
  have no : ∀ vs H Q E, ¬ sp_lput 0 vs H Q E := fun vs H Q E h => by
    obtain ⟨t, u, v, vu, pl, ns, _, _, _, _, h1, _⟩ := h
    omega
  exact ⟨fun vs H Q E h => absurd h (no vs H Q E), fun A outer s H args us vs Q E _ _ _ _ h => absurd h (no vs H Q E)⟩
theorem all_lput {k : Nat} {f g1 : Addr} {fd gd1 : FuncData} (F : Fun K "_law_put" "_law_put" s_law_put f fd) (b : Binds K fd ["_law_tree_here", "_law_place", "_law_part"] []) (m : mg "_law_put" = some (.ref f))
    (G : FnB P w K mg base k "_law_first" g1 gd1 ["_law_tree_here"] sp_first) : ∀ n : Nat, FnB P w K mg base (k + n) "_law_put" f fd ["_law_tree_here", "_law_place", "_law_part"] (sp_lput n)
  | 0 => ⟨no_lput, b, F.kp, m⟩
  | n + 1 => ⟨ok_lput F (G.up (Nat.le_add_right _ _)) (all_lput F b m G n), b, F.kp, m⟩
def sp_same (n : Nat) : Sp := fun vs H Q _ => ∃ (d : Dt) (v1 v2 : V), vs = [v1, v2] ∧ DR H d v1 ∧ DR H d v2 ∧ d.deep < n ∧ ∀ H', Same H H' → Q (.bl true) H'
theorem ok_same {k n : Nat} {f : Addr} {fd : FuncData} (F : Fun K "_law_same" "_law_same" s_law_same f fd) (z_isinstance : mg "isinstance" = none) (z_tuple : mg "tuple" = none) (z_str : mg "str" = none) (z_int : mg "int" = none) (z_bool : mg "bool" = none) (z_len : mg "len" = none) (z_zip : mg "zip" = none)
    (G_law_same : FnB P w K mg base k "_law_same" f fd ["_law_found", "_law_due"] (sp_same n)) : FnOk P w K mg base CX0 (k + 1) f fd ["_law_found", "_law_due"] (sp_same (n + 1)) := by
  refine F.ok sc_law_same (fun vs H Q E h => ?_) (fun cdv A outer s H vs Q E hr h => ?_)
  · obtain ⟨d, v1, v2, rfl, _⟩ := h
    rfl
  obtain ⟨d, v1, v2, rfl, r1, r2, hdn, q⟩ := h
  refine ⟨_, (pss_cons (ps_if (pt_val (pe_callB call_isi (by rfl) z_isinstance PyProof.Rows.boot_isinstance (pa_cons (pv 1) (pa_cons (pe_bltn (v := .ty _) (by rfl) z_tuple PyProof.Rows.boot_tuple (by rfl)) pa_nil)))) (pss_cons (ps_if (pw_or (pt_not (pt_val (pe_callB call_isi (by rfl) z_isinstance PyProof.Rows.boot_isinstance (pa_cons (pv 0) (pa_cons (pe_bltn (v := .ty _) (by rfl) z_tuple PyProof.Rows.boot_tuple (by rfl)) pa_nil))))) (pw_or1 (pt_cmpR op_ne (pe_callB call_len_seq (by rfl) z_len PySem.boot_len (pa_cons (pv 0) pa_nil)) (pe_callB call_len_seq (by rfl) z_len PySem.boot_len (pa_cons (pv 1) pa_nil)) (nomark _)))).pt (pss_one (ps_ret pe_bl)) pss_nil)
    (pss_cons (ps_for PassesOwn.never rfl (pi_zip (by rfl) z_zip (pa_cons (pv 0) (pa_cons (pv 1) pa_nil))) (pg_tup rfl (pgs_cons (pg_name (i := 2) sc_law_same.nd rfl (Or.inl rfl)) (pgs_cons (pg_name (i := 3) sc_law_same.nd rfl (Or.inl rfl)) pgs_nil))) (pss_one (ps_if (pt_not (pt_val (pe_call G_law_same.ok hr (by rfl) G_law_same.gl G_law_same.kp G_law_same.bd .nil pass0 (pa_cons (pv 2) (pa_cons (pv 3) pa_nil))))) (pss_one (ps_ret pe_bl)) pss_nil)))
    (pss_one (ps_ret pe_bl)))) pss_nil)
    (pss_cons (ps_if (pt_val (pe_callB call_isi (by rfl) z_isinstance PyProof.Rows.boot_isinstance (pa_cons (pv 1) (pa_cons (pe_bltn (v := .ty _) (by rfl) z_str PyProof.Rows.boot_str (by rfl)) pa_nil)))) (pss_one (ps_ret (pe_and (pe_callB call_isi (by rfl) z_isinstance PyProof.Rows.boot_isinstance (pa_cons (pv 0) (pa_cons (pe_bltn (v := .ty _) (by rfl) z_str PyProof.Rows.boot_str (by rfl)) pa_nil))) (pe_one (pe_cmpR op_eq (pv 0) (pv 1) (nomark _)))))) pss_nil)
    (pss_one (ps_ret (pe_and (pe_callB call_isi (by rfl) z_isinstance PyProof.Rows.boot_isinstance (pa_cons (pv 0) (pa_cons (pe_bltn (v := .ty _) (by rfl) z_int PyProof.Rows.boot_int (by rfl)) pa_nil))) (pe_and (pe_not (pe_callB call_isi (by rfl) z_isinstance PyProof.Rows.boot_isinstance (pa_cons (pv 0) (pa_cons (pe_bltn (v := .ty _) (by rfl) z_bool PyProof.Rows.boot_bool (by rfl)) pa_nil)))) (pe_one (pe_cmpR op_eq (pv 0) (pv 1) (nomark _))))))))), ?_⟩
  cases r1 with
  | @tup a xs ds ha hxs =>
    cases r2 with
    | @tup b ys _ hb hys =>
      have lx := hxs.length
      have ly := hys.length
      refine ⟨_, rfl, .ref b, "tuple", _, true, rfl, .tup hb, rfl, _, rfl, iteT ?_⟩
      refine ⟨_, rfl, .ref a, "tuple", _, true, rfl, .tup ha, rfl, _, rfl, iteF ?_⟩
      refine ⟨_, rfl, a, _, rfl, .inr (SqT.of ha), _, rfl, b, _, rfl, .inr (SqT.of hb), rfl, _, rfl, ?_⟩
      refine ite2 (fun c => ?_) (fun _ => ?_)
      · have en : xs.length = ys.length := by omega
        rw [en, decide_eq_true rfl] at c
        cases c
      refine ⟨_, rfl, _, rfl, a, b, xs, ys, rfl, ha, hb, ?_⟩
      refine for_zip (xs := xs) (ys := ys) (fun i σ' H' => ∃ s2 s3 : Option V, σ' = [some (.ref a), some (.ref b), s2, s3] ∧ Same H H') ?_ ?_ ?_ ?_
      · exact ⟨none, none, rfl, Same.refl _⟩
      · rintro i σ1 H1 _ ⟨s2, s3, rfl, g⟩
        exact ⟨g _ _ ha, g _ _ hb⟩
      · rintro i x y T σ1 H1 hx hy ⟨s2, s3, rfl, g⟩ hT
        obtain ⟨d1, e1, rd1⟩ := hxs.get hx
        obtain ⟨d2, e2, rd2⟩ := hys.get hy
        rw [e1] at e2; cases e2
        have g1 := g.trans (same_upd (o := .tup [x, y]) hT)
        have hd := deep_get e1
        have hdd : (Dt.tup ds).deep = Dt.deeps ds + 1 := rfl
        refine ⟨T, [x, y], rfl, SqT.of upd_same, rfl, _, _, rfl, _, _, rfl, rfl, ?_⟩
        refine ⟨_, rfl, _, rfl, d1, x, y, rfl, rd1.mono g1.tk, rd2.mono g1.tk, by omega, fun H2 g2 => ⟨_, rfl, iteF ?_⟩⟩
        exact ⟨_, _, rfl, g1.trans g2⟩
      · rintro σ1 H1 ⟨s2, s3, rfl, g⟩
        exact q H1 g
  | str x =>
    cases r2 with
    | str _ =>
      refine ⟨_, rfl, .str x, "tuple", _, false, rfl, .str x, rfl, _, rfl, iteF ?_⟩
      refine ⟨_, rfl, .str x, "str", _, true, rfl, .str x, rfl, _, rfl, iteT ?_⟩
      refine ⟨_, rfl, .str x, "str", _, true, rfl, .str x, rfl, _, rfl, iteT ?_⟩
      refine ⟨_, rfl, _, rfl, rfl, ?_⟩
      rw [decide_eq_true rfl]
      exact q H (Same.refl _)
  | int i =>
    cases r2 with
    | int _ =>
      refine ⟨_, rfl, .int i, "tuple", _, false, rfl, .int i, rfl, _, rfl, iteF ?_⟩
      refine ⟨_, rfl, .int i, "str", _, false, rfl, .int i, rfl, _, rfl, iteF ?_⟩
      refine ⟨_, rfl, .int i, "int", _, true, rfl, .int i, rfl, _, rfl, iteT ?_⟩
      refine ⟨_, rfl, .int i, "bool", _, false, rfl, .int i, rfl, _, rfl, _, rfl, iteT ?_⟩
      refine ⟨_, rfl, _, rfl, rfl, ?_⟩
      rw [decide_eq_true rfl]
      exact q H (Same.refl _)
theorem no_same {k : Nat} {f : Addr} {fd : FuncData} : FnOk P w K mg base CX0 k f fd ["_law_found", "_law_due"] (sp_same 0) := by
  have no : ∀ vs H Q E, ¬ sp_same 0 vs H Q E := fun vs H Q E h => by
    obtain ⟨d, v1, v2, _, _, _, h1, _⟩ := h
    omega
  exact ⟨fun vs H Q E h => absurd h (no vs H Q E), fun A outer s H args us vs Q E _ _ _ _ h => absurd h (no vs H Q E)⟩
theorem all_same {k : Nat} {f : Addr} {fd : FuncData} (F : Fun K "_law_same" "_law_same" s_law_same f fd) (b : Binds K fd ["_law_found", "_law_due"] []) (m : mg "_law_same" = some (.ref f)) (z_isinstance : mg "isinstance" = none) (z_tuple : mg "tuple" = none) (z_str : mg "str" = none) (z_int : mg "int" = none) (z_bool : mg "bool" = none) (z_len : mg "len" = none) (z_zip : mg "zip" = none) :
    ∀ n : Nat, FnB P w K mg base (k + n) "_law_same" f fd ["_law_found", "_law_due"] (sp_same n)
  | 0 => ⟨no_same, b, F.kp, m⟩
  | n + 1 => ⟨ok_same F z_isinstance z_tuple z_str z_int z_bool z_len z_zip (all_same F b m z_isinstance z_tuple z_str z_int z_bool z_len z_zip n), b, F.kp, m⟩
end
end K02
set_option Elab.async false
set_option linter.all false
set_option maxRecDepth 100000
set_option maxHeartbeats 4000000
namespace K02
open PySem PySem.Spec L2 PyProof.Rows
abbrev s_law_lone : Stmt := top 24
theorem sc_law_lone : FnScope ["_law_e"] ["_law_e"] (defScope s_law_lone) := ⟨rfl, rfl, rfl, by decide +kernel, rfl, by decide +kernel, by decide +kernel⟩
abbrev s_law_refused : Stmt := top 25
theorem sc_law_refused : FnScope ["_law_tree_here", "_law_place", "_law_part", "_law_told", "_law_e"] ["_law_tree_here", "_law_place", "_law_part"] (defScope s_law_refused) := ⟨rfl, rfl, rfl, by decide +kernel, rfl, by decide +kernel, by decide +kernel⟩
abbrev s_law_no_place : Stmt := top 26
theorem sc_law_no_place : FnScope ["_law_rows", "_law_cell", "_law_place", "_law_part", "_law_many_here", "_law_number"] ["_law_rows", "_law_cell"] (defScope s_law_no_place) := ⟨rfl, rfl, rfl, by decide +kernel, rfl, by decide +kernel, by decide +kernel⟩
section
variable {P : Program} {w : World} {K : PySem.W.Frag} {mg : Str → Option Value} {base : Heap}
structure Errs (K : PySem.W.Frag) (cR cT cN cU : Addr) : Prop where
  xN : PySem.W.ExCls K cN
  r : ExC K cR
  nR : PySem.W.mroIn K cN (.ref cR) = some true
  nT : PySem.W.kitOne K (.ref cN) (.ref cT) = some false
  nU : PySem.W.kitOne K (.ref cN) (.ref cU) = some false
  nN : PySem.W.kitOne K (.ref cN) (.ref cN) = some true
  nV : PySem.W.kitOne K (.ref cN) (.type "ValueError") = some true
def sp_lone (cN : Addr) : Sp := fun vs H Q _ => ∃ ea : Addr, vs = [.ref ea] ∧ H ea = some (exO ea cN) ∧ Q (.bl true) H
theorem ok_lone {k : Nat} {f cR cT cN cU : Addr} {fd : FuncData} (F : Fun K "_law_lone" "_law_lone" s_law_lone f fd) (z_isinstance : mg "isinstance" = none) (z_ValueError : mg "ValueError" = none) (m_NoText : mg "NoText" = some (.ref cT)) (m_NoPlace : mg "NoPlace" = some (.ref cN)) (m_NoNumber : mg "NoNumber" = some (.ref cU))
    (X : Errs K cR cT cN cU) : FnU P w K mg base (k + 1) f fd ["_law_e"] (sp_lone cN) := by
  refine F.okU sc_law_lone (fun vs H Q E h => ?_) (fun cdv A outer s H vs Q E hr h => ?_)
  · obtain ⟨ea, rfl, _⟩ := h
    rfl
  obtain ⟨ea, rfl, he, q⟩ := h
  refine ⟨_, (pss_cons (ps_if (pw_or (pt_val (pe_callB call_isiX (by rfl) z_isinstance PyProof.Rows.boot_isinstance (pa_cons (pv 0) (pa_cons (pe_glob (v := .ref _) (by rfl) m_NoText (by rfl)) pa_nil)))) (pw_or1 (pt_val (pe_callB call_isiX (by rfl) z_isinstance PyProof.Rows.boot_isinstance (pa_cons (pv 0) (pa_cons (pe_glob (v := .ref _) (by rfl) m_NoNumber (by rfl)) pa_nil)))))).pt (pss_one (ps_ret pe_bl)) pss_nil)
    (pss_one (ps_ret (pe_and (pe_callB call_isiX (by rfl) z_isinstance PyProof.Rows.boot_isinstance (pa_cons (pv 0) (pa_cons (pe_glob (v := .ref _) (by rfl) m_NoPlace (by rfl)) pa_nil))) (pe_one (pe_callB call_isiX (by rfl) z_isinstance PyProof.Rows.boot_isinstance (pa_cons (pv 0) (pa_cons (pe_bltn (v := .ty _) (by rfl) z_ValueError boot_VE (by rfl)) pa_nil)))))))), ?_⟩
  refine ⟨_, rfl, ea, cN, .ref cT, .ref cT, false, rfl, he, X.xN, (fun u r => r), X.nT, _, rfl, iteF ?_⟩
  refine ⟨_, rfl, ea, cN, .ref cU, .ref cU, false, rfl, he, X.xN, (fun u r => r), X.nU, _, rfl, iteF ?_⟩
  refine ⟨_, rfl, ea, cN, .ref cN, .ref cN, true, rfl, he, X.xN, (fun u r => r), X.nN, _, rfl, iteT ?_⟩
  exact ⟨_, rfl, ea, cN, .ty "ValueError", .type "ValueError", true, rfl, he, X.xN, (fun u r => r), X.nV, q⟩
def sp_refused : Sp := fun vs H Q _ => ∃ (t u : Tr) (v vu : V) (pl : Addr) (ns : List Int), vs = [v, .ref pl, vu] ∧ Rep H t v ∧ Rep H u vu ∧ H pl = some (.tup (ns.map V.int)) ∧ ns.length ≤ 900 ∧ t.at_ ns = none ∧ ∀ H', Same H H' → Q (.bl true) H'
theorem ok_refused {k : Nat} {f g1 g2 g3 cR cT cN cU : Addr} {fd gd1 gd2 gd3 : FuncData} (F : Fun K "_law_refused" "_law_refused" s_law_refused f fd) (m_RecastError : mg "RecastError" = some (.ref cR)) (X : Errs K cR cT cN cU)
    (G_part_at : FnF P w K mg base k "part_at" g1 gd1 ["tree", "place"] (sp_part_at cN)) (G_put_at : FnF P w K mg base k "put_at" g2 gd2 ["tree", "place", "part"] (sp_put_at cN)) (G_law_lone : FnV P w K mg base k "_law_lone" g3 gd3 ["_law_e"] (sp_lone cN)) :
    FnOk P w K mg base CX0 (k + 1) f fd ["_law_tree_here", "_law_place", "_law_part"] sp_refused := by
  refine F.ok sc_law_refused (fun vs H Q E h => ?_) (fun cdv A outer s H vs Q E hr h => ?_)
  · obtain ⟨t, u, v, vu, pl, ns, rfl, _⟩ := h
    rfl
  obtain ⟨t, u, v, vu, pl, ns, rfl, hR, hU, hpl, h900, hno, q⟩ := h
  have hu0 := Nat.lt_of_succ_lt (hu_of hr)
  have c_RecastError := X.r
  refine ⟨_, (pss_cons (ps_set (i := 3) sc_law_refused.nd rfl (Or.inl rfl) (pe_lst (pa_cons pe_bl (pa_cons pe_bl pa_nil)) : PE _ _ _))
    (pss_cons (ps_try (fun _ _ => (pss_one (ps_expr (pe_callT rfl rfl (ph_as sc_law_refused.nd (i := 4) rfl rfl (by rfl) m_RecastError c_RecastError (fun _ => (pss_one (ps_asg (pe_callU G_law_lone.ok (hr.marked _) (by rfl) G_law_lone.gl G_law_lone.kp G_law_lone.bd .nil (pa_cons (pv 4) pa_nil)) (pg_sub (pv 3) pe_int set_list)))) ph_nil) G_part_at.ok hr (by rfl) G_part_at.gl G_part_at.kp G_part_at.bd .nil (pa_cons (pv 0) (pa_cons (pv 1) pa_nil)))))) pss_nil)
    (pss_cons (ps_try (fun _ _ => (pss_one (ps_expr (pe_callT rfl rfl (ph_as sc_law_refused.nd (i := 4) rfl rfl (by rfl) m_RecastError c_RecastError (fun _ => (pss_one (ps_asg (pe_callU G_law_lone.ok (hr.marked _) (by rfl) G_law_lone.gl G_law_lone.kp G_law_lone.bd .nil (pa_cons (pv 4) pa_nil)) (pg_sub (pv 3) pe_int set_list)))) ph_nil) G_put_at.ok hr (by rfl) G_put_at.gl G_put_at.kp G_put_at.bd .nil (pa_cons (pv 0) (pa_cons (pv 1) (pa_cons (pv 2) pa_nil))))))) pss_nil)
    (pss_one (ps_ret (pe_cmpR (op_eqFl hu0) (pv 3) (pe_lst (pa_cons pe_bl (pa_cons pe_bl pa_nil)) : PE _ _ _) (nomark _))))))), ?_⟩
  have d2 : 2 ≤ sizeLine := by decide
  refine ⟨d2, fun l hl => ?_⟩
  have g0 := same_upd (o := .lst [.bl false, .bl false]) hl
  refine ⟨_, rfl, _, rfl, t, v, pl, ns, rfl, hR.mono g0.tk, g0 _ _ hpl, h900, fun u' z => (by rw [hno] at z; cases z), fun _ H1 g1 => ⟨cN, rfl, X.xN, true, X.nR, iteT fun ea hea => ?_⟩⟩
  have el1 := g1 _ _ (upd_same (H := H) (a := l) (o := .lst [.bl false, .bl false]))
  have g2 := same_upd (o := exO ea cN) hea
  have gA := g0.trans (g1.trans g2)
  refine ⟨_, rfl, ea, rfl, upd_same, _, rfl, l, _, 0, 0, rfl, rfl, g2 _ _ el1, rfl, ?_⟩
  have s2 : Same H (upd (upd H1 ea (exO ea cN)) l (.lst ([V.bl false, V.bl false].set 0 (V.bl true)))) := same_set gA hl
  have el2 : (upd (upd H1 ea (exO ea cN)) l (.lst ([V.bl false, V.bl false].set 0 (V.bl true)))) l = some (.lst [.bl true, .bl false]) := upd_same
  generalize upd (upd H1 ea (exO ea cN)) l (.lst ([V.bl false, V.bl false].set 0 (V.bl true))) = H2 at s2 el2 ⊢
  refine ⟨_, rfl, _, rfl, _, rfl, t, u, v, vu, pl, ns, rfl, hR.mono s2.tk, hU.mono s2.tk, s2 _ _ hpl, h900, fun z => absurd hno z, fun _ H3 g3 => ⟨cN, rfl, X.xN, true, X.nR, iteT fun eb heb => ?_⟩⟩
  have g4 := same_upd (o := exO eb cN) heb
  have gB := s2.trans (g3.trans g4)
  refine ⟨_, rfl, eb, rfl, upd_same, _, rfl, l, _, 1, 1, rfl, rfl, g4 _ _ (g3 _ _ el2), rfl, ?_⟩
  have s5 : Same H (upd (upd H3 eb (exO eb cN)) l (.lst ([V.bl true, V.bl false].set 1 (V.bl true)))) := same_set gB hl
  have el5 : (upd (upd H3 eb (exO eb cN)) l (.lst ([V.bl true, V.bl false].set 1 (V.bl true)))) l = some (.lst [.bl true, .bl true]) := upd_same
  generalize upd (upd H3 eb (exO eb cN)) l (.lst ([V.bl true, V.bl false].set 1 (V.bl true))) = H5 at s5 el5 ⊢
  refine ⟨_, rfl, d2, fun l2 hl2 => ?_⟩
  have g6 := same_upd (o := .lst [.bl true, .bl true]) hl2
  exact ⟨l, l2, _, _, rfl, rfl, g6 _ _ el5, upd_same, rfl, rfl, q _ (s5.trans g6)⟩
def sp_no_place : Sp := fun vs H Q _ => ∃ (t : Tr) (l : Addr) (us : List V) (R : List (List Int × Tr)) (c : Int), vs = [.ref l, .int c] ∧ H l = some (.lst us) ∧ Paired (RowR H) R us ∧ R ≠ [] ∧ R.length ≤ 400 ∧ (∀ x ∈ R, t.at_ x.1 = some x.2 ∧ x.1.length ≤ 400) ∧
  ∀ (p : Addr) (ns : List Int) (H' : Hp), Same H H' → H' p = some (.tup (ns.map V.int)) → ns.length ≤ 900 → t.at_ ns = none → Q (.ref p) H'
theorem ok_no_place {k : Nat} {f g1 : Addr} {fd gd1 : FuncData} (F : Fun K "_law_no_place" "_law_no_place" s_law_no_place f fd) (z_len : mg "len" = none) (G_law_many : FnB P w K mg base k "_law_many" g1 gd1 ["_law_tree_here"] sp_many) :
    FnOk P w K mg base CX0 (k + 1) f fd ["_law_rows", "_law_cell"] sp_no_place := by
  refine F.ok sc_law_no_place (fun vs H Q E h => ?_) (fun cdv A outer s H vs Q E hr h => ?_)
  · obtain ⟨t, l, us, R, c, rfl, _⟩ := h
    rfl
  obtain ⟨t, l, us, R, c, rfl, el, pR, hne, hR4, hmem, q⟩ := h
  refine ⟨_, (pss_cons (ps_asg (pe_ix (r := rIxL K) ix_list (pv 0) (pe_op op_mod (pe_op op_fdiv (pv 1) pe_int) (pe_callB call_len_seq (by rfl) z_len PySem.boot_len (pa_cons (pv 0) pa_nil))) (fun _ _ => rfl)) (pg_tup rfl (pgs_cons (pg_name (i := 2) sc_law_no_place.nd rfl (Or.inl rfl)) (pgs_cons (pg_name (i := 3) sc_law_no_place.nd rfl (Or.inl rfl)) pgs_nil))))
    (pss_cons (ps_set (i := 4) sc_law_no_place.nd rfl (Or.inl rfl) (pe_call G_law_many.ok hr (by rfl) G_law_many.gl G_law_many.kp G_law_many.bd .nil pass0 (pa_cons (pv 3) pa_nil)))
    (pss_cons (ps_set (i := 5) sc_law_no_place.nd rfl (Or.inl rfl) (pe_ix (r := rIxL K) ix_list (pe_lst (pa_cons (pv 4) (pa_cons (pe_op op_add (pe_op op_add (pv 4) pe_int) (pe_op op_mod (pe_op op_fdiv (pv 1) pe_int) pe_int)) (pa_cons (pe_op op_sub (pe_op op_sub pe_int pe_int) (pe_op op_mod (pe_op op_fdiv (pv 1) pe_int) pe_int)) (pa_cons (pv 4) pa_nil)))) : PE _ _ _) (pe_op op_mod (pv 1) pe_int) (fun _ _ => rfl)))
    (pss_one (ps_ret (pe_op op_catV (pe_op op_catV (pv 2) (pe_tup (pa_cons (pv 5) pa_nil) : PE _ _ _)) (pe_ix (r := rIxL K) ix_list (pe_lst (pa_cons (pe_tup pa_nil : PE _ _ _) (pa_cons (pe_tup (pa_cons pe_int pa_nil) : PE _ _ _) (pa_cons (pe_tup (pa_cons pe_int (pa_cons pe_int pa_nil)) : PE _ _ _) pa_nil))) : PE _ _ _) (pe_op op_mod (pe_op op_fdiv (pv 1) pe_int) pe_int) (fun _ _ => rfl)))))))), ?_⟩
  have d0 : 0 ≤ sizeLine := by decide
  have d1 : 1 ≤ sizeLine := by decide
  have d2 : 2 ≤ sizeLine := by decide
  have d3 : 3 ≤ sizeLine := by decide
  have d4 : 4 ≤ sizeLine := by decide
  have lR := paired_len pR
  have hpos : 0 < us.length := by
    rw [lR]
    cases R with
    | nil => exact absurd rfl hne
    | cons _ _ => simp
  obtain ⟨u, hu, eu⟩ := atI_in (xs := us) (i := c / 4 % (us.length : Int)) (Int.emod_nonneg _ (by omega)) (Int.emod_lt_of_pos _ (by omega))
  obtain ⟨x, hx, rx⟩ := paired_mem pR hu
  obtain ⟨a, pl, uw, rfl, ea, epl, ru⟩ := rx
  refine ⟨_, rfl, _, rfl, _, _, rfl, rfl, ⟨(show (0 : Int) < 4 by decide), (show (4 : Int) < 1073741824 by decide)⟩, _, rfl, l, _, rfl, .inl (SqL.of el), _, _, rfl, rfl, (by show (0 : Int) < us.length; omega), l, us, _, _, rfl, rfl, SqL.of el, eu, ?_⟩
  refine ⟨a, [.ref pl, uw], rfl, SqT.of ea, rfl, _, _, rfl, _, _, rfl, rfl, ?_⟩
  refine ⟨_, rfl, x.2, uw, rfl, ru, fun H1 g1 => ?_⟩
  have epl1 := g1 _ _ epl
  obtain ⟨hat, hxl⟩ := hmem x hx
  have hF : (0 : Int) < 5 ∧ (0 : Int) < 3 ∧ (0 : Int) < 97 ∧ (97 : Int) < 1073741824 := by decide
  refine ⟨_, rfl, _, rfl, _, _, rfl, rfl, _, rfl, _, _, rfl, rfl, ⟨hF.2.2.1, hF.2.2.2⟩, _, _, rfl, rfl, hF.1, _, _, rfl, rfl, _, _, rfl, rfl, _, rfl, _, _, rfl, rfl, ⟨hF.2.2.1, hF.2.2.2⟩, _, _, rfl, rfl, hF.2.1, _, _, rfl, rfl, _, rfl, d4, fun p1 hp1 => ?_⟩
  dsimp only
  have g2 := same_upd (o := .lst [V.int x.2.parts.length, V.int ((x.2.parts.length : Int) + 1 + c / 97 % 5), V.int (0 - 1 - c / 97 % 3), V.int x.2.parts.length]) hp1
  obtain ⟨z, hz, ez⟩ : ∃ z : Int, x.2.kid z = none ∧ atI [V.int x.2.parts.length, V.int ((x.2.parts.length : Int) + 1 + c / 97 % 5), V.int (0 - 1 - c / 97 % 3), V.int x.2.parts.length] (c % 4) = some (V.int z) := by
    obtain ⟨v0, hv0, e0⟩ := atI_in (xs := [V.int x.2.parts.length, V.int ((x.2.parts.length : Int) + 1 + c / 97 % 5), V.int (0 - 1 - c / 97 % 3), V.int x.2.parts.length]) (i := c % 4) (by omega) (by show _ < ((4 : Nat) : Int); omega)
    simp only [List.mem_cons, List.not_mem_nil, or_false] at hv0
    rcases hv0 with rfl | rfl | rfl | rfl
    · exact ⟨_, kid_no (by omega), e0⟩
    · exact ⟨_, kid_no (by omega), e0⟩
    · exact ⟨_, kid_no (by omega), e0⟩
    · exact ⟨_, kid_no (by omega), e0⟩
  refine ⟨_, rfl, _, _, rfl, rfl, (show (0 : Int) < 4 by decide), p1, _, _, _, rfl, rfl, SqL.of upd_same, ez, ?_⟩
  generalize upd H1 p1 (.lst [V.int x.2.parts.length, V.int ((x.2.parts.length : Int) + 1 + c / 97 % 5), V.int (0 - 1 - c / 97 % 3), V.int x.2.parts.length]) = H2 at g2 ⊢
  have epl2 := g2 _ _ epl1
  have gA := g1.trans g2
  refine ⟨_, rfl, _, rfl, d1, fun p2 hp2 => ⟨pl, p2, x.1.map V.int, [V.int z], rfl, rfl, ?_, upd_same, line1000 ?_, fun p3 H3 g3 e3 => ?_⟩⟩
  · exact (same_upd (o := .tup [V.int z]) hp2) _ _ epl2
  · rw [List.length_map]
    show x.1.length + 1 ≤ 1000
    omega
  have gB := gA.trans ((same_upd (o := .tup [V.int z]) hp2).trans g3)
  refine ⟨d0, fun q1 hq1 => ⟨d1, fun q2 hq2 => ⟨d2, fun q3 hq3 => ⟨d3, fun q4 hq4 => ?_⟩⟩⟩⟩
  have k1 := same_upd (o := .tup []) hq1
  have k2 := same_upd (o := .tup [V.int 0]) hq2
  have k3 := same_upd (o := .tup [V.int 1, V.int 0]) hq3
  have k4 := same_upd (o := .lst [.ref q1, .ref q2, .ref q3]) hq4
  have kA := k1.trans (k2.trans (k3.trans k4))
  have t1 := k4 _ _ (k3 _ _ (k2 _ _ (upd_same (H := H3) (a := q1) (o := .tup []))))
  have t2 := k4 _ _ (k3 _ _ (upd_same (H := upd H3 q1 (.tup [])) (a := q2) (o := .tup [V.int 0])))
  have t3 := k4 _ _ (upd_same (H := upd (upd H3 q1 (.tup [])) q2 (.tup [V.int 0])) (a := q3) (o := .tup [V.int 1, V.int 0]))
  have t4 : (upd (upd (upd (upd H3 q1 (.tup [])) q2 (.tup [V.int 0])) q3 (.tup [V.int 1, V.int 0])) q4 (.lst [.ref q1, .ref q2, .ref q3])) q4 = some (.lst [.ref q1, .ref q2, .ref q3]) := upd_same
  generalize upd (upd (upd (upd H3 q1 (.tup [])) q2 (.tup [V.int 0])) q3 (.tup [V.int 1, V.int 0])) q4 (.lst [.ref q1, .ref q2, .ref q3]) = H4 at kA t1 t2 t3 t4 ⊢
  obtain ⟨r, ms, er, tr⟩ : ∃ (r : Addr) (ms : List Int), atI [V.ref q1, V.ref q2, V.ref q3] (c / 1009 % 3) = some (.ref r) ∧ H4 r = some (.tup (ms.map V.int)) ∧ ms.length ≤ 2 := by
    obtain ⟨v0, hv0, e0⟩ := atI_in (xs := [V.ref q1, V.ref q2, V.ref q3]) (i := c / 1009 % 3) (by omega) (by show _ < ((3 : Nat) : Int); omega)
    simp only [List.mem_cons, List.not_mem_nil, or_false] at hv0
    rcases hv0 with rfl | rfl | rfl
    · exact ⟨q1, [], e0, t1, by decide⟩
    · exact ⟨q2, [0], e0, t2, by decide⟩
    · exact ⟨q3, [1, 0], e0, t3, by decide⟩
  refine ⟨_, rfl, _, _, rfl, rfl, ⟨(show (0 : Int) < 1009 by decide), (show (1009 : Int) < 1073741824 by decide)⟩, _, _, rfl, rfl, (show (0 : Int) < 3 by decide), q4, _, _, _, rfl, rfl, SqL.of t4, er, ?_⟩
  refine ⟨p3, r, _, _, rfl, rfl, kA _ _ e3, tr.1, line1000 ?_, fun p5 H5 g5 e5 => q p5 (x.1 ++ [z] ++ ms) H5 (gB.trans (kA.trans g5)) ?_ ?_ ?_⟩
  · simp only [List.length_append, List.length_map, List.length_cons, List.length_nil]
    omega
  · rw [e5]
    simp
  · simp only [List.length_append, List.length_cons, List.length_nil]
    omega
  · rw [List.append_assoc, at_app, hat]
    show (x.2.kid z).bind _ = none
    rw [hz]
    rfl
end
end K02
set_option Elab.async false
set_option linter.all false
set_option maxRecDepth 100000
set_option maxHeartbeats 4000000
namespace L2
open PySem
theorem withP_parts {t : Tr} {ps : List Tr} (h : ps.length = t.parts.length) : (t.withP ps).parts = ps := by
  cases t with
  | say a => match ps, h with | [c], _ => rfl
  | bin o a b => match ps, h with | [c, d], _ => rfl
  | ite a b c => match ps, h with | [c, d, e], _ => rfl
  | lett x a b => match ps, h with | [c, d], _ => rfl
  | _ => cases ps with | nil => rfl | cons _ _ => cases h
theorem withP_withP {t : Tr} {ps qs : List Tr} (h : ps.length = t.parts.length) (h2 : qs.length = t.parts.length) : (t.withP ps).withP qs = t.withP qs := by
  cases t with
  | say a => match ps, h, qs, h2 with | [c], _, [d], _ => rfl
  | bin o a b => match ps, h, qs, h2 with | [c, d], _, [e, f], _ => rfl
  | ite a b c => match ps, h, qs, h2 with | [c, d, e], _, [f, g, i], _ => rfl
  | lett x a b => match ps, h, qs, h2 with | [c, d], _, [e, f], _ => rfl
  | _ => cases ps with | nil => rfl | cons _ _ => cases h
theorem withP_self (t : Tr) : t.withP t.parts = t := by cases t <;> rfl
theorem withP_size {t : Tr} {ps : List Tr} (h : ps.length = t.parts.length) : (t.withP ps).size = (ps.map Tr.size).sum + 1 := by
  have := parts_size (t.withP ps)
  rw [withP_parts h] at this
  omega
theorem kid_set {t k k' : Tr} {i : Int} (h : t.kid i = some k) : (t.withP (t.parts.set i.toNat k')).kid i = some k' := by
  obtain ⟨h0, h1, _⟩ := kid_lt h
  unfold Tr.kid
  rw [if_pos h0, withP_parts (by rw [List.length_set])]
  rw [List.getElem?_set_self (by omega)]
theorem put_stepL {t k u : Tr} {i : Int} {is : List Int} (h : t.kid i = some k) : putT t (i :: is) u = t.withP (t.parts.set i.toNat (putT k is u)) := by
  show (match t.kid i with | some k => t.withP (t.parts.set i.toNat (putT k is u)) | none => t) = _
  rw [h]
theorem viaS {G : Prop} {E : L2.St → Hp → Prop} (A : L2.St → Hp → Prop) (h : (∀ σ H2, A σ H2 → E σ H2) → G) (r : ∀ σ H2, A σ H2 → E σ H2) : G := h r
theorem put_at_ : ∀ {ns : List Int} {t u : Tr}, t.at_ ns ≠ none → (putT t ns u).at_ ns = some u
  | [], t, u, _ => rfl
  | i :: is, t, u, h => by
    cases e : t.kid i with
    | none => exact absurd (show (t.kid i).bind _ = none by rw [e]; rfl) h
    | some k =>
      rw [put_stepL e]
      show (Tr.kid _ i).bind _ = _
      rw [kid_set e]
      exact put_at_ fun z => h (show (t.kid i).bind _ = none by rw [e]; exact z)
theorem put_back : ∀ {ns : List Int} {t u o : Tr}, t.at_ ns = some o → putT (putT t ns u) ns o = t
  | [], t, u, o, h => by cases h; rfl
  | i :: is, t, u, o, h => by
    obtain ⟨k, e, h⟩ := Option.bind_eq_some_iff.mp (show (t.kid i).bind _ = some o from h)
    rw [put_stepL e, put_stepL (kid_set e), withP_parts (by rw [List.length_set]), withP_withP (by rw [List.length_set]) (by rw [List.length_set, List.length_set]), List.set_set, put_back h]
    obtain ⟨h0, h1, h2⟩ := kid_lt e
    have : t.parts.set i.toNat k = t.parts := by
      obtain ⟨hl, e2⟩ := List.getElem?_eq_some_iff.mp h2
      rw [← e2]
      exact List.set_getElem_self hl
    rw [this, withP_self]
theorem sum_set : ∀ {l : List Nat} {i : Nat} {a b : Nat}, l[i]? = some a → (l.set i b).sum + a = l.sum + b
  | x :: l, 0, a, b, h => by simp at h; subst h; simp; omega
  | x :: l, i + 1, a, b, h => by
    have := sum_set (l := l) (i := i) (a := a) (b := b) (by simpa using h)
    simp
    omega
  | [], _, _, _, h => by simp at h
theorem put_size : ∀ {ns : List Int} {t u o : Tr}, t.at_ ns = some o → (putT t ns u).size + o.size = t.size + u.size
  | [], t, u, o, h => by cases h; show u.size + t.size = _; omega
  | i :: is, t, u, o, h => by
    obtain ⟨k, e, h⟩ := Option.bind_eq_some_iff.mp (show (t.kid i).bind _ = some o from h)
    have ih := put_size (u := u) h
    rw [put_stepL e, withP_size (by rw [List.length_set])]
    obtain ⟨h0, h1, h2⟩ := kid_lt e
    have e3 : (t.parts.map Tr.size)[i.toNat]? = some k.size := by rw [List.getElem?_map, h2]; rfl
    have := sum_set (b := (putT k is u).size) e3
    rw [← List.map_set] at this
    have hp := parts_size t
    omega
theorem at_size : ∀ {ns : List Int} {t o : Tr}, t.at_ ns = some o → o.size ≤ t.size
  | [], t, o, h => by cases h; exact Nat.le_refl _
  | i :: is, t, o, h => by
    obtain ⟨k, e, h⟩ := Option.bind_eq_some_iff.mp (show (t.kid i).bind _ = some o from h)
    have := at_size h
    obtain ⟨_, _, h2⟩ := kid_lt e
    have h5 : k.size ≤ (t.parts.map Tr.size).sum := single_le_sum (List.mem_map_of_mem (List.mem_of_getElem? h2))
    have := parts_size t
    omega
theorem at_len : ∀ {ns : List Int} {t o : Tr}, t.at_ ns = some o → ns.length + o.size ≤ t.size
  | [], t, o, h => by cases h; simp
  | i :: is, t, o, h => by
    obtain ⟨k, e, h⟩ := Option.bind_eq_some_iff.mp (show (t.kid i).bind _ = some o from h)
    have := at_len h
    obtain ⟨_, _, h2⟩ := kid_lt e
    have h5 : k.size ≤ (t.parts.map Tr.size).sum := single_le_sum (List.mem_map_of_mem (List.mem_of_getElem? h2))
    have := parts_size t
    rw [List.length_cons]
    omega
theorem cutSome {ns : List Int} (lo hi : Option Int) {n : Nat} (h : HT.sIx ns.length ns.length hi - HT.sIx ns.length 0 lo ≤ n) : ∃ ms : List Int, cutV (ns.map V.int) lo hi = ms.map V.int ∧ ms.length ≤ n := by
  obtain ⟨ms, e, l⟩ := cutInts (ns := ns) (lo := lo) (hi := hi) rfl rfl (HT.sIx_le _ _ (Nat.le_refl _) _)
  exact ⟨ms, e, by omega⟩
end L2
namespace K02
open PySem PySem.Spec L2 PyProof.Rows
abbrev s_law : Stmt := top 27
theorem sc_law : FnScope ["_law_script", "_law_tree_here", "_law_part", "_law_rows", "_law_place", "_law_old", "_law_wrong", "_law_found"] ["_law_script"] (defScope s_law) := ⟨rfl, rfl, rfl, by decide +kernel, rfl, by decide +kernel, by decide +kernel⟩
section
variable {P : Program} {w : World} {K : PySem.W.Frag} {mg : Str → Option Value} {base : Heap}
def sp_law (K : PySem.W.Frag) : Sp := fun vs H Q _ => ∃ (a : Addr) (ns : List Int), vs = [.ref a] ∧ SqL K H a (ns.map V.int) ∧ ns.length ≤ 63 ∧ ∀ H', Q (.bl true) H'
theorem ok_law {k : Nat} {f g1 g2 g3 g4 g5 g6 g7 g8 g9 g10 cN : Addr} {fd gd1 gd2 gd3 gd4 gd5 gd6 gd7 gd8 gd9 gd10 : FuncData} (F : Fun K "law" "law" s_law f fd) (z_len : mg "len" = none)
    (G_law_tree : FnB P w K mg base k "_law_tree" g1 gd1 ["_law_cells", "_law_deep"] (sp_tree K 13)) (G_law_cell_at : FnB P w K mg base k "_law_cell_at" g2 gd2 ["_law_script", "_law_k"] (sp_cell_at K)) (G_law_leaf : FnB P w K mg base k "_law_leaf" g3 gd3 ["_law_cell"] sp_leaf)
    (G_law_all : FnB P w K mg base k "_law_all" g4 gd4 ["_law_tree_here"] sp_all) (G_law_no_place : FnB P w K mg base k "_law_no_place" g5 gd5 ["_law_rows", "_law_cell"] sp_no_place) (G_law_refused : FnB P w K mg base k "_law_refused" g6 gd6 ["_law_tree_here", "_law_place", "_law_part"] sp_refused)
    (G_law_same : FnB P w K mg base k "_law_same" g7 gd7 ["_law_found", "_law_due"] (sp_same 221)) (G_law_put : FnB P w K mg base k "_law_put" g8 gd8 ["_law_tree_here", "_law_place", "_law_part"] (sp_lput 200))
    (G_part_at : FnF P w K mg base k "part_at" g9 gd9 ["tree", "place"] (sp_part_at cN)) (G_put_at : FnF P w K mg base k "put_at" g10 gd10 ["tree", "place", "part"] (sp_put_at cN)) :
    FnOk P w K mg base CX0 (k + 1) f fd ["_law_script"] (sp_law K) := by
  refine F.ok sc_law (fun vs H Q E h => ?_) (fun cdv A outer s H vs Q E hr h => ?_)
  · obtain ⟨a, ns, rfl, _⟩ := h
    rfl
  obtain ⟨a, ns, rfl, hS, h63, q⟩ := h
  refine ⟨_, (Sd.un (pss_consS (ps_setS (i := 1) sc_law.nd rfl (Or.inl rfl) ⟨pe_call G_law_tree.ok hr (by rfl) G_law_tree.gl G_law_tree.kp G_law_tree.bd .nil pass0 (pa_cons (pe_slice (r := rSlL K) sl_list (pv 0) (po_some pe_int) (po_some pe_int)) (pa_cons pe_int pa_nil))⟩)
    (pss_consS (ps_setS (i := 2) sc_law.nd rfl (Or.inl rfl) ⟨pe_call G_law_tree.ok hr (by rfl) G_law_tree.gl G_law_tree.kp G_law_tree.bd .nil pass0 (pa_cons (pe_slice (r := rSlL K) sl_list (pv 0) (po_some (pe_un un_neg pe_int)) po_none) (pa_cons pe_int pa_nil))⟩)
    (pss_consS (ps_ifS ⟨pt_cmpR op_eq (pe_op op_mod (pe_call G_law_cell_at.ok hr (by rfl) G_law_cell_at.gl G_law_cell_at.kp G_law_cell_at.bd .nil pass0 (pa_cons (pv 0) (pa_cons pe_int pa_nil))) pe_int) pe_int (nomark _)⟩ (pss_oneS (ps_setS (i := 2) sc_law.nd rfl (Or.inl rfl) ⟨pe_call G_law_leaf.ok hr (by rfl) G_law_leaf.gl G_law_leaf.kp G_law_leaf.bd .nil pass0 (pa_cons (pe_op op_fdiv (pe_call G_law_cell_at.ok hr (by rfl) G_law_cell_at.gl G_law_cell_at.kp G_law_cell_at.bd .nil pass0 (pa_cons (pv 0) (pa_cons pe_int pa_nil))) pe_int) pa_nil)⟩)) ⟨pss_nil⟩)
    (pss_consS (ps_setS (i := 3) sc_law.nd rfl (Or.inl rfl) ⟨pe_call G_law_all.ok hr (by rfl) G_law_all.gl G_law_all.kp G_law_all.bd .nil pass0 (pa_cons (pv 1) pa_nil)⟩)
    (pss_consS ⟨ps_asg (pe_ix (r := rIxL K) ix_list (pv 3) (pe_op op_mod (pe_call G_law_cell_at.ok hr (by rfl) G_law_cell_at.gl G_law_cell_at.kp G_law_cell_at.bd .nil pass0 (pa_cons (pv 0) (pa_cons pe_int pa_nil))) (pe_callB call_len_seq (by rfl) z_len PySem.boot_len (pa_cons (pv 3) pa_nil))) (fun _ _ => rfl)) (pg_tup rfl (pgs_cons (pg_name (i := 4) sc_law.nd rfl (Or.inl rfl)) (pgs_cons (pg_name (i := 5) sc_law.nd rfl (Or.inl rfl)) pgs_nil)))⟩
    (pss_consS (ps_setS (i := 6) sc_law.nd rfl (Or.inl rfl) ⟨pe_call G_law_no_place.ok hr (by rfl) G_law_no_place.gl G_law_no_place.kp G_law_no_place.bd .nil pass0 (pa_cons (pv 3) (pa_cons (pe_call G_law_cell_at.ok hr (by rfl) G_law_cell_at.gl G_law_cell_at.kp G_law_cell_at.bd .nil pass0 (pa_cons (pv 0) (pa_cons pe_int pa_nil))) pa_nil))⟩)
    (pss_consS (ps_ifS ⟨pt_not (pt_val (pe_call G_law_refused.ok hr (by rfl) G_law_refused.gl G_law_refused.kp G_law_refused.bd .nil pass0 (pa_cons (pv 1) (pa_cons (pv 6) (pa_cons (pv 2) pa_nil)))))⟩ (pss_oneS (ps_retS ⟨pe_bl⟩)) ⟨pss_nil⟩)
    (pss_consS (ps_ifS ⟨(pw_or (pt_not (pt_val (pe_call G_law_same.ok hr (by rfl) G_law_same.gl G_law_same.kp G_law_same.bd .nil pass0 (pa_cons (pe_call G_part_at.ok hr (by rfl) G_part_at.gl G_part_at.kp G_part_at.bd .nil passF (pa_cons (pv 1) (pa_cons (pv 4) pa_nil))) (pa_cons (pv 5) pa_nil))))) (pw_or1 (pt_not (pt_val (pe_call G_law_same.ok hr (by rfl) G_law_same.gl G_law_same.kp G_law_same.bd .nil pass0 (pa_cons (pe_call G_part_at.ok hr (by rfl) G_part_at.gl G_part_at.kp G_part_at.bd .nil passF (pa_cons (pv 1) (pa_cons (pe_tup pa_nil : PE _ _ _) pa_nil))) (pa_cons (pv 1) pa_nil))))))).pt⟩ (pss_oneS (ps_retS ⟨pe_bl⟩)) ⟨pss_nil⟩)
    (pss_consS (ps_setS (i := 7) sc_law.nd rfl (Or.inl rfl) ⟨pe_call G_put_at.ok hr (by rfl) G_put_at.gl G_put_at.kp G_put_at.bd .nil passF (pa_cons (pv 1) (pa_cons (pv 4) (pa_cons (pv 2) pa_nil)))⟩)
    (pss_consS (ps_ifS ⟨pt_not (pt_val (pe_call G_law_same.ok hr (by rfl) G_law_same.gl G_law_same.kp G_law_same.bd .nil pass0 (pa_cons (pv 7) (pa_cons (pe_call G_law_put.ok hr (by rfl) G_law_put.gl G_law_put.kp G_law_put.bd .nil pass0 (pa_cons (pv 1) (pa_cons (pv 4) (pa_cons (pv 2) pa_nil)))) pa_nil))))⟩ (pss_oneS (ps_retS ⟨pe_bl⟩)) ⟨pss_nil⟩)
    (pss_consS (ps_ifS ⟨(pw_or (pt_not (pt_val (pe_call G_law_same.ok hr (by rfl) G_law_same.gl G_law_same.kp G_law_same.bd .nil pass0 (pa_cons (pe_call G_part_at.ok hr (by rfl) G_part_at.gl G_part_at.kp G_part_at.bd .nil passF (pa_cons (pv 7) (pa_cons (pv 4) pa_nil))) (pa_cons (pv 2) pa_nil))))) (pw_or1 (pt_not (pt_val (pe_call G_law_same.ok hr (by rfl) G_law_same.gl G_law_same.kp G_law_same.bd .nil pass0 (pa_cons (pe_call G_put_at.ok hr (by rfl) G_put_at.gl G_put_at.kp G_put_at.bd .nil passF (pa_cons (pv 1) (pa_cons (pe_tup pa_nil : PE _ _ _) (pa_cons (pv 2) pa_nil)))) (pa_cons (pv 2) pa_nil))))))).pt⟩ (pss_oneS (ps_retS ⟨pe_bl⟩)) ⟨pss_nil⟩)
    (pss_oneS (ps_retS ⟨pe_and (pe_call G_law_same.ok hr (by rfl) G_law_same.gl G_law_same.kp G_law_same.bd .nil pass0 (pa_cons (pe_call G_part_at.ok hr (by rfl) G_part_at.gl G_part_at.kp G_part_at.bd .nil passF (pa_cons (pv 1) (pa_cons (pv 4) pa_nil))) (pa_cons (pv 5) pa_nil))) (pe_one (pe_call G_law_same.ok hr (by rfl) G_law_same.gl G_law_same.kp G_law_same.bd .nil pass0 (pa_cons (pe_call G_put_at.ok hr (by rfl) G_put_at.gl G_put_at.kp G_put_at.bd .nil passF (pa_cons (pv 7) (pa_cons (pv 4) (pa_cons (pv 5) pa_nil)))) (pa_cons (pv 1) pa_nil))))⟩)))))))))))))), ?_⟩
  have d0 : 0 ≤ sizeLine := by decide
  obtain ⟨ms, em, lm⟩ := cutSome (ns := ns) (some 3) (some 63) (n := 60) (by
    rw [show (63 : Int) = ((63 : Nat) : Int) from rfl, show (3 : Int) = ((3 : Nat) : Int) from rfl, HT.sIx_nat, HT.sIx_nat]; omega)
  obtain ⟨ms2, em2, lm2⟩ := cutSome (ns := ns) (some (-12)) none (n := 12) (by
    rw [HT.sIx_none]
    show _ - (if (-12 : Int) < 0 then ((-12 : Int) + (ns.length : Int)).toNat else min (-12 : Int).toNat ns.length) ≤ 12
    rw [if_pos (by decide)]
    omega)
  refine ⟨_, rfl, _, rfl, _, rfl, a, _, rfl, hS, fun p1 hp1 => ?_⟩
  rw [em]
  have g1 := same_upd (o := .lst (ms.map V.int)) hp1
  refine ⟨p1, ms, 12, rfl, SqL.of upd_same, by omega, by decide, by decide, fun t v H1 g2 rt szt => ?_⟩
  have gA := g1.trans g2
  refine ⟨_, rfl, _, rfl, _, rfl, a, _, rfl, gA.seq hS, fun p2 hp2 => ?_⟩
  rw [em2]
  have g3 := same_upd (o := .lst (ms2.map V.int)) hp2
  refine ⟨p2, ms2, 8, rfl, SqL.of upd_same, by omega, by decide, by decide, fun u vu H2 g4 ru szu => ?_⟩
  have gB := gA.trans (g3.trans g4)
  have rt2 := rt.mono (g3.trans g4).tk
  apply viaS (fun σ' H' => ∃ (u : Tr) (vu : V), σ' = [some (.ref a), some v, some vu, none, none, none, none, none] ∧ Same H H' ∧ Rep H' t v ∧ Rep H' u vu ∧ u.size ≤ 37)
  · intro rest
    refine ⟨_, rfl, a, ns, 2, rfl, gB.seq hS, by decide, fun c2 => ⟨_, _, rfl, rfl, (show (0 : Int) < 3 by decide), rfl, _, rfl, ?_⟩⟩
    refine ite2 (fun _ => ?_) (fun _ => rest _ _ ⟨u, vu, rfl, gB, rt2, ru, by omega⟩)
    refine ⟨_, rfl, a, ns, 2, rfl, gB.seq hS, by decide, fun c3 => ⟨_, _, rfl, rfl, ⟨(show (0 : Int) < 3 by decide), (show (3 : Int) < 1073741824 by decide)⟩, _, rfl, fun u2 vu2 H3 g5 ru2 sz2 => ?_⟩⟩
    exact rest _ _ ⟨u2, vu2, rfl, gB.trans g5, rt2.mono g5.tk, ru2, by omega⟩
  · rintro σ' H3 ⟨u, vu, rfl, gC, rt3, ru3, su⟩
    have hsz : t.size ≤ 181 := by omega
    refine ⟨_, rfl, t, v, rfl, rt3, by omega, fun l us R H4 g5 hl el pR hne hR4 hmem => ?_⟩
    have lR := paired_len pR
    have hpos : 0 < us.length := by
      rw [lR]
      cases R with
      | nil => exact absurd rfl hne
      | cons _ _ => simp
    have gD := gC.trans g5
    refine ⟨_, rfl, _, rfl, a, ns, 0, rfl, gD.seq hS, by decide, fun c0 => ⟨_, rfl, l, _, rfl, .inl (SqL.of el), _, _, rfl, rfl, (by show (0 : Int) < us.length; omega), ?_⟩⟩
    obtain ⟨y, hy, ey⟩ := atI_in (xs := us) (i := c0 % (us.length : Int)) (Int.emod_nonneg _ (by omega)) (Int.emod_lt_of_pos _ (by omega))
    obtain ⟨x, hx, rx⟩ := paired_mem pR hy
    obtain ⟨ra, pl, vo, rfl, era, epl, ro⟩ := rx
    obtain ⟨hat, hxl⟩ := hmem x hx
    obtain ⟨o, ho⟩ : ∃ o, x.2 = o := ⟨_, rfl⟩
    rw [ho] at hat ro
    generalize x.1 = ns0 at hat hxl epl
    refine ⟨l, us, _, _, rfl, rfl, SqL.of el, ey, ra, [.ref pl, vo], rfl, SqT.of era, rfl, _, _, rfl, _, _, rfl, rfl, ?_⟩
    refine ⟨_, rfl, _, rfl, a, ns, 1, rfl, gD.seq hS, by decide, fun c1 => ⟨t, l, us, R, c1, rfl, el, pR, hne, hR4, hmem, fun pw wn H5 g6 epw hwl hwn => ?_⟩⟩
    have gE := g5.trans g6
    have rt5 := rt3.mono gE.tk
    have ru5 := ru3.mono gE.tk
    refine ⟨_, rfl, _, rfl, _, rfl, t, u, v, vu, pw, wn, rfl, rt5, ru5, epw, hwl, hwn, fun H6 g7 => ⟨_, rfl, iteF ?_⟩⟩
    have rt6 := rt5.mono g7.tk
    have ru6 := ru5.mono g7.tk
    have epl6 := g7 _ _ (g6 _ _ epl)
    have ro6 := ro.mono (g6.trans g7).tk
    have hos : o.size ≤ t.size := at_size hat
    have dps : ∀ z : Tr, z.size ≤ 217 → (dtT z).deep < 221 := fun z hz => by have := dtT_deep z; omega
    refine ⟨_, rfl, _, rfl, t, v, pl, ns0, rfl, rt6, epl6, by omega, fun o' ho' v1 H7 g8 r1 => ?_, fun z => by rw [hat] at z; cases z⟩
    rw [hat] at ho'; cases ho'
    refine ⟨_, rfl, dtT o, v1, vo, rfl, r1.dr, (ro6.mono g8.tk).dr, dps o (by omega), fun H8 g9 => ⟨_, rfl, iteF ?_⟩⟩
    have g10 := g8.trans g9
    refine ⟨_, rfl, d0, fun pe hpe => ?_⟩
    have g11 := g10.trans (same_upd (o := .tup []) hpe)
    have rt7 := rt6.mono g11.tk
    refine ⟨t, v, pe, [], rfl, rt7, upd_same, by simp, fun o' ho' v2 H9 g12 r2 => ?_, fun z => by cases z⟩
    cases ho'
    have g13 := g11.trans g12
    have rt9 := rt6.mono g13.tk
    refine ⟨_, rfl, dtT t, v2, v, rfl, r2.dr, rt9.dr, dps t (by omega), fun H10 g14 => ⟨_, rfl, iteF ?_⟩⟩
    have g15 := g13.trans g14
    have rtA := rt6.mono g15.tk
    have ruA := ru6.mono g15.tk
    have roA := ro6.mono g15.tk
    have eplA := g15 _ _ epl6
    have hne0 : t.at_ ns0 ≠ none := by rw [hat]; intro z; cases z
    have hps := put_size (u := u) hat
    have hop := size_pos2 o
    refine ⟨_, rfl, _, rfl, _, rfl, t, u, v, vu, pl, ns0, rfl, rtA, ruA, eplA, by omega, fun _ vf HB gF rf => ?_, fun z => absurd z hne0⟩
    have rtB := rtA.mono gF.tk
    have ruB := ruA.mono gF.tk
    have roB := roA.mono gF.tk
    have eplB := gF _ _ eplA
    have hn200 : ns0.length < 200 := by
      have := at_len hat
      omega
    refine ⟨_, rfl, _, rfl, _, rfl, _, rfl, t, u, v, vu, pl, ns0, rfl, rtB, ruB, eplB, hn200, by omega, hne0, fun vg HC gG rg => ?_⟩
    refine ⟨dtT (putT t ns0 u), vf, vg, rfl, (rf.mono gG.tk).dr, rg.dr, dps _ (by omega), fun HD gH => ⟨_, rfl, iteF ?_⟩⟩
    have gI := gG.trans gH
    have rfD := rf.mono gI.tk
    have eplD := gI _ _ eplB
    have rtD := rtB.mono gI.tk
    have ruD := ruB.mono gI.tk
    have roD := roB.mono gI.tk
    refine ⟨_, rfl, _, rfl, putT t ns0 u, vf, pl, ns0, rfl, rfD, eplD, by omega, fun u' hu' v3 HE gJ r3 => ?_, fun z => by rw [put_at_ hne0] at z; cases z⟩
    rw [put_at_ hne0] at hu'; cases hu'
    refine ⟨_, rfl, dtT u, v3, vu, rfl, r3.dr, (ruD.mono gJ.tk).dr, dps u (by omega), fun HF gK => ⟨_, rfl, iteF ?_⟩⟩
    have gL := gJ.trans gK
    refine ⟨_, rfl, d0, fun pe2 hpe2 => ⟨_, rfl, ?_⟩⟩
    have gM := gL.trans (same_upd (o := .tup []) hpe2)
    refine ⟨t, u, v, vu, pe2, [], rfl, rtD.mono gM.tk, ruD.mono gM.tk, upd_same, by simp, fun _ v4 HG gN r4 => ?_, fun z => by cases z⟩
    have gO := gM.trans gN
    refine ⟨_, rfl, dtT u, v4, vu, rfl, (show Rep HG u v4 from r4).dr, (ruD.mono gO.tk).dr, dps u (by omega), fun HH gP => ⟨_, rfl, iteF ?_⟩⟩
    have gQ := gO.trans gP
    refine ⟨_, rfl, _, rfl, t, v, pl, ns0, rfl, rtD.mono gQ.tk, gQ _ _ eplD, by omega, fun o' ho' v5 HI gR r5 => ?_, fun z => absurd z hne0⟩
    rw [hat] at ho'; cases ho'
    refine ⟨_, rfl, dtT o, v5, vo, rfl, r5.dr, (roD.mono (gQ.trans gR).tk).dr, dps o (by omega), fun HJ gS => ⟨_, rfl, iteT ?_⟩⟩
    have gT := gQ.trans (gR.trans gS)
    refine ⟨_, rfl, _, rfl, _, rfl, putT t ns0 u, o, vf, vo, pl, ns0, rfl, rfD.mono gT.tk, roD.mono gT.tk, gT _ _ eplD, by omega, fun _ v6 HK gU r6 => ?_, fun z => by rw [put_at_ hne0] at z; cases z⟩
    rw [put_back hat] at r6
    exact ⟨_, rfl, dtT t, v6, v, rfl, r6.dr, (rtD.mono (gT.trans gU).tk).dr, dps t (by omega), fun HL gV => q HL⟩
end
end K02
set_option Elab.async false
set_option linter.all false
set_option maxRecDepth 100000
set_option maxHeartbeats 4000000
namespace K02
open PySem PySem.Spec L2 PyProof.Rows
theorem all_mk {l : PySem.W.OpenLaw} {w : World} {K : PySem.W.Frag} {h : Heap} {mg : Str → Option Value} {fa f0 f1 f2 f3 f4 f5 f6 f7 f8 f9 f10 f11 f12 f13 f14 f15 f16 f17 f18 f19 lv_LEAF_SIGNS c_RecastError c_NoText c_NoPlace c_NoNumber : Addr} (X : K.In h) (G : h.Ns mainGlobals mg) (hfa : mg "law" = some (.ref fa))
    {od0 an0 : Option Addr} {sl0 : Array (Option Value)} {oc0 kV0 dc0 pm0 cd0 ct0 : Value}
    {od1 an1 : Option Addr} {sl1 : Array (Option Value)} {oc1 kV1 dc1 pm1 cd1 ct1 : Value}
    {od2 an2 : Option Addr} {sl2 : Array (Option Value)} {oc2 kV2 dc2 pm2 cd2 ct2 : Value}
    {od3 an3 : Option Addr} {sl3 : Array (Option Value)} {oc3 kV3 dc3 pm3 cd3 ct3 : Value}
    {od4 an4 : Option Addr} {sl4 : Array (Option Value)} {oc4 kV4 dc4 pm4 cd4 ct4 : Value}
    {od5 an5 : Option Addr} {sl5 : Array (Option Value)} {oc5 kV5 dc5 pm5 cd5 ct5 : Value}
    {od6 an6 : Option Addr} {sl6 : Array (Option Value)} {oc6 kV6 dc6 pm6 cd6 ct6 : Value}
    {od7 an7 : Option Addr} {sl7 : Array (Option Value)} {oc7 kV7 dc7 pm7 cd7 ct7 : Value}
    {od8 an8 : Option Addr} {sl8 : Array (Option Value)} {oc8 kV8 dc8 pm8 cd8 ct8 : Value}
    {od9 an9 : Option Addr} {sl9 : Array (Option Value)} {oc9 kV9 dc9 pm9 cd9 ct9 : Value}
    {od10 an10 : Option Addr} {sl10 : Array (Option Value)} {oc10 kV10 dc10 pm10 cd10 ct10 : Value}
    {od11 an11 : Option Addr} {sl11 : Array (Option Value)} {oc11 kV11 dc11 pm11 cd11 ct11 : Value}
    {od12 an12 : Option Addr} {sl12 : Array (Option Value)} {oc12 kV12 dc12 pm12 cd12 ct12 : Value}
    {od13 an13 : Option Addr} {sl13 : Array (Option Value)} {oc13 kV13 dc13 pm13 cd13 ct13 : Value}
    {od14 an14 : Option Addr} {sl14 : Array (Option Value)} {oc14 kV14 dc14 pm14 cd14 ct14 : Value}
    {od15 an15 : Option Addr} {sl15 : Array (Option Value)} {oc15 kV15 dc15 pm15 cd15 ct15 : Value}
    {od16 an16 : Option Addr} {sl16 : Array (Option Value)} {oc16 kV16 dc16 pm16 cd16 ct16 : Value}
    {od17 an17 : Option Addr} {sl17 : Array (Option Value)} {oc17 kV17 dc17 pm17 cd17 ct17 : Value}
    {od18 an18 : Option Addr} {sl18 : Array (Option Value)} {oc18 kV18 dc18 pm18 cd18 ct18 : Value}
    {od19 an19 : Option Addr} {sl19 : Array (Option Value)} {oc19 kV19 dc19 pm19 cd19 ct19 : Value}
    {odC0 : Option Addr} {slC0 : Array (Option Value)} {nC0 : Nat} {tC0_0 tC0_1 tC0_2 tC0_3 tC0_4 : Tok}
    {dd_RecastError : Option Addr} {cd_RecastError : ClassData} {sl_RecastError : Array (Option Value)}
    {dd_NoText : Option Addr} {cd_NoText : ClassData} {sl_NoText : Array (Option Value)}
    {dd_NoPlace : Option Addr} {cd_NoPlace : ClassData} {sl_NoPlace : Array (Option Value)}
    {dd_NoNumber : Option Addr} {cd_NoNumber : ClassData} {sl_NoNumber : Array (Option Value)}
    (a0 : PySem.W.nsIn K mainGlobals "is_whole" = some (some (.ref f0))) (l0 : K.lookup f0 = some ⟨oc0, od0, .func (PySem.W.fnOf "is_whole" "is_whole" (defArgs s_is_whole) (defBody s_is_whole) (defScope s_is_whole) .none kV0 dc0 pm0 an0 cd0 ct0), sl0⟩) (c0 : PySem.W.codeIn K cd0 "is_whole" = true) (k0 : PySem.W.keepIn K (.ref f0) = true)
    (a1 : PySem.W.nsIn K mainGlobals "parts_begin" = some (some (.ref f1))) (l1 : K.lookup f1 = some ⟨oc1, od1, .func (PySem.W.fnOf "parts_begin" "parts_begin" (defArgs s_parts_begin) (defBody s_parts_begin) (defScope s_parts_begin) .none kV1 dc1 pm1 an1 cd1 ct1), sl1⟩) (c1 : PySem.W.codeIn K cd1 "parts_begin" = true) (k1 : PySem.W.keepIn K (.ref f1) = true)
    (a2 : PySem.W.nsIn K mainGlobals "parts" = some (some (.ref f2))) (l2 : K.lookup f2 = some ⟨oc2, od2, .func (PySem.W.fnOf "parts" "parts" (defArgs s_parts) (defBody s_parts) (defScope s_parts) .none kV2 dc2 pm2 an2 cd2 ct2), sl2⟩) (c2 : PySem.W.codeIn K cd2 "parts" = true) (k2 : PySem.W.keepIn K (.ref f2) = true)
    (a3 : PySem.W.nsIn K mainGlobals "with_parts" = some (some (.ref f3))) (l3 : K.lookup f3 = some ⟨oc3, od3, .func (PySem.W.fnOf "with_parts" "with_parts" (defArgs s_with_parts) (defBody s_with_parts) (defScope s_with_parts) .none kV3 dc3 pm3 an3 cd3 ct3), sl3⟩) (c3 : PySem.W.codeIn K cd3 "with_parts" = true) (k3 : PySem.W.keepIn K (.ref f3) = true)
    (a4 : PySem.W.nsIn K mainGlobals "trees_down_to" = some (some (.ref f4))) (l4 : K.lookup f4 = some ⟨oc4, od4, .func (PySem.W.fnOf "trees_down_to" "trees_down_to" (defArgs s_trees_down_to) (defBody s_trees_down_to) (defScope s_trees_down_to) .none kV4 dc4 pm4 an4 cd4 ct4), sl4⟩) (c4 : PySem.W.codeIn K cd4 "trees_down_to" = true) (k4 : PySem.W.keepIn K (.ref f4) = true)
    (a5 : PySem.W.nsIn K mainGlobals "part_at" = some (some (.ref f5))) (l5 : K.lookup f5 = some ⟨oc5, od5, .func (PySem.W.fnOf "part_at" "part_at" (defArgs s_part_at) (defBody s_part_at) (defScope s_part_at) .none kV5 dc5 pm5 an5 cd5 ct5), sl5⟩) (c5 : PySem.W.codeIn K cd5 "part_at" = true) (k5 : PySem.W.keepIn K (.ref f5) = true)
    (a6 : PySem.W.nsIn K mainGlobals "put_at" = some (some (.ref f6))) (l6 : K.lookup f6 = some ⟨oc6, od6, .func (PySem.W.fnOf "put_at" "put_at" (defArgs s_put_at) (defBody s_put_at) (defScope s_put_at) .none kV6 dc6 pm6 an6 cd6 ct6), sl6⟩) (c6 : PySem.W.codeIn K cd6 "put_at" = true) (k6 : PySem.W.keepIn K (.ref f6) = true)
    (a7 : PySem.W.nsIn K mainGlobals "_law_cell_at" = some (some (.ref f7))) (l7 : K.lookup f7 = some ⟨oc7, od7, .func (PySem.W.fnOf "_law_cell_at" "_law_cell_at" (defArgs s_law_cell_at) (defBody s_law_cell_at) (defScope s_law_cell_at) .none kV7 dc7 pm7 an7 cd7 ct7), sl7⟩) (c7 : PySem.W.codeIn K cd7 "_law_cell_at" = true) (k7 : PySem.W.keepIn K (.ref f7) = true)
    (a8 : PySem.W.nsIn K mainGlobals "_law_word" = some (some (.ref f8))) (l8 : K.lookup f8 = some ⟨oc8, od8, .func (PySem.W.fnOf "_law_word" "_law_word" (defArgs s_law_word) (defBody s_law_word) (defScope s_law_word) .none kV8 dc8 pm8 an8 cd8 ct8), sl8⟩) (c8 : PySem.W.codeIn K cd8 "_law_word" = true) (k8 : PySem.W.keepIn K (.ref f8) = true)
    (a9 : PySem.W.nsIn K mainGlobals "_law_leaf" = some (some (.ref f9))) (l9 : K.lookup f9 = some ⟨oc9, od9, .func (PySem.W.fnOf "_law_leaf" "_law_leaf" (defArgs s_law_leaf) (defBody s_law_leaf) (defScope s_law_leaf) .none kV9 dc9 pm9 an9 cd9 ct9), sl9⟩) (c9 : PySem.W.codeIn K cd9 "_law_leaf" = true) (k9 : PySem.W.keepIn K (.ref f9) = true)
    (a10 : PySem.W.nsIn K mainGlobals "_law_tree" = some (some (.ref f10))) (l10 : K.lookup f10 = some ⟨oc10, od10, .func (PySem.W.fnOf "_law_tree" "_law_tree" (defArgs s_law_tree) (defBody s_law_tree) (defScope s_law_tree) .none kV10 dc10 pm10 an10 cd10 ct10), sl10⟩) (c10 : PySem.W.codeIn K cd10 "_law_tree" = true) (k10 : PySem.W.keepIn K (.ref f10) = true)
    (a11 : PySem.W.nsIn K mainGlobals "_law_first" = some (some (.ref f11))) (l11 : K.lookup f11 = some ⟨oc11, od11, .func (PySem.W.fnOf "_law_first" "_law_first" (defArgs s_law_first) (defBody s_law_first) (defScope s_law_first) .none kV11 dc11 pm11 an11 cd11 ct11), sl11⟩) (c11 : PySem.W.codeIn K cd11 "_law_first" = true) (k11 : PySem.W.keepIn K (.ref f11) = true)
    (a12 : PySem.W.nsIn K mainGlobals "_law_many" = some (some (.ref f12))) (l12 : K.lookup f12 = some ⟨oc12, od12, .func (PySem.W.fnOf "_law_many" "_law_many" (defArgs s_law_many) (defBody s_law_many) (defScope s_law_many) .none kV12 dc12 pm12 an12 cd12 ct12), sl12⟩) (c12 : PySem.W.codeIn K cd12 "_law_many" = true) (k12 : PySem.W.keepIn K (.ref f12) = true)
    (a13 : PySem.W.nsIn K mainGlobals "_law_all" = some (some (.ref f13))) (l13 : K.lookup f13 = some ⟨oc13, od13, .func (PySem.W.fnOf "_law_all" "_law_all" (defArgs s_law_all) (defBody s_law_all) (defScope s_law_all) .none kV13 dc13 pm13 an13 cd13 ct13), sl13⟩) (c13 : PySem.W.codeIn K cd13 "_law_all" = true) (k13 : PySem.W.keepIn K (.ref f13) = true)
    (a14 : PySem.W.nsIn K mainGlobals "_law_put" = some (some (.ref f14))) (l14 : K.lookup f14 = some ⟨oc14, od14, .func (PySem.W.fnOf "_law_put" "_law_put" (defArgs s_law_put) (defBody s_law_put) (defScope s_law_put) .none kV14 dc14 pm14 an14 cd14 ct14), sl14⟩) (c14 : PySem.W.codeIn K cd14 "_law_put" = true) (k14 : PySem.W.keepIn K (.ref f14) = true)
    (a15 : PySem.W.nsIn K mainGlobals "_law_same" = some (some (.ref f15))) (l15 : K.lookup f15 = some ⟨oc15, od15, .func (PySem.W.fnOf "_law_same" "_law_same" (defArgs s_law_same) (defBody s_law_same) (defScope s_law_same) .none kV15 dc15 pm15 an15 cd15 ct15), sl15⟩) (c15 : PySem.W.codeIn K cd15 "_law_same" = true) (k15 : PySem.W.keepIn K (.ref f15) = true)
    (a16 : PySem.W.nsIn K mainGlobals "_law_lone" = some (some (.ref f16))) (l16 : K.lookup f16 = some ⟨oc16, od16, .func (PySem.W.fnOf "_law_lone" "_law_lone" (defArgs s_law_lone) (defBody s_law_lone) (defScope s_law_lone) .none kV16 dc16 pm16 an16 cd16 ct16), sl16⟩) (c16 : PySem.W.codeIn K cd16 "_law_lone" = true) (k16 : PySem.W.keepIn K (.ref f16) = true)
    (a17 : PySem.W.nsIn K mainGlobals "_law_refused" = some (some (.ref f17))) (l17 : K.lookup f17 = some ⟨oc17, od17, .func (PySem.W.fnOf "_law_refused" "_law_refused" (defArgs s_law_refused) (defBody s_law_refused) (defScope s_law_refused) .none kV17 dc17 pm17 an17 cd17 ct17), sl17⟩) (c17 : PySem.W.codeIn K cd17 "_law_refused" = true) (k17 : PySem.W.keepIn K (.ref f17) = true)
    (a18 : PySem.W.nsIn K mainGlobals "_law_no_place" = some (some (.ref f18))) (l18 : K.lookup f18 = some ⟨oc18, od18, .func (PySem.W.fnOf "_law_no_place" "_law_no_place" (defArgs s_law_no_place) (defBody s_law_no_place) (defScope s_law_no_place) .none kV18 dc18 pm18 an18 cd18 ct18), sl18⟩) (c18 : PySem.W.codeIn K cd18 "_law_no_place" = true) (k18 : PySem.W.keepIn K (.ref f18) = true)
    (a19 : PySem.W.nsIn K mainGlobals "law" = some (some (.ref f19))) (l19 : K.lookup f19 = some ⟨oc19, od19, .func (PySem.W.fnOf "law" "law" (defArgs s_law) (defBody s_law) (defScope s_law) .none kV19 dc19 pm19 an19 cd19 ct19), sl19⟩) (c19 : PySem.W.codeIn K cd19 "law" = true) (k19 : PySem.W.keepIn K (.ref f19) = true)
    (aC0 : PySem.W.nsIn K mainGlobals "LEAF_SIGNS" = some (some (.ref lv_LEAF_SIGNS))) (lC0 : K.lookup lv_LEAF_SIGNS = some ⟨.type "tuple", odC0, .seq #[.str "num" tC0_0, .str "name" tC0_1, .str "ask" tC0_2, .str "stop" tC0_3, .str "gap" tC0_4] nC0, slC0⟩)
    (aX0 : PySem.W.nsIn K mainGlobals "RecastError" = some (some (.ref c_RecastError)))
    (aX1 : PySem.W.nsIn K mainGlobals "NoText" = some (some (.ref c_NoText)))
    (aX2 : PySem.W.nsIn K mainGlobals "NoPlace" = some (some (.ref c_NoPlace)))
    (aX3 : PySem.W.nsIn K mainGlobals "NoNumber" = some (some (.ref c_NoNumber)))
    (xN : PySem.W.excIn K c_NoPlace bmVE "ValueError.__new__" = true)
    (NoPlace_ga : PySem.W.findIn K (.ref c_NoPlace) "__getattribute__" = some (some (.builtin "BaseException.__getattribute__")))
    (NoPlace_gt : PySem.W.findIn K (.ref c_NoPlace) "__getattr__" = some none)
    (NoPlace_bs : PySem.W.mroIn K c_NoPlace (.type "BaseException") = some true)
    (NoPlace_cl : PySem.W.findIn K (.ref c_NoPlace) "__class__" = some (some (.builtin "object.__class__")))
    (NoPlace_ob : PySem.W.mroIn K c_NoPlace (.type "object") = some true)
    (RecastError_ga : PySem.W.findIn K (.ref c_RecastError) "__getattribute__" = some (some (.builtin "BaseException.__getattribute__")))
    (RecastError_gt : PySem.W.findIn K (.ref c_RecastError) "__getattr__" = some none)
    (RecastError_bs : PySem.W.mroIn K c_RecastError (.type "BaseException") = some true)
    (RecastError_cl : PySem.W.findIn K (.ref c_RecastError) "__class__" = some (some (.builtin "object.__class__")))
    (RecastError_ob : PySem.W.mroIn K c_RecastError (.type "object") = some true)
    (R_ty : PySem.W.typeIn K (.ref c_RecastError) = some (.type "type"))
    (nR : PySem.W.mroIn K c_NoPlace (.ref c_RecastError) = some true)
    (lk_RecastError : K.lookup c_RecastError = some ⟨.type "type", dd_RecastError, .cls cd_RecastError, sl_RecastError⟩)
    (lk_NoText : K.lookup c_NoText = some ⟨.type "type", dd_NoText, .cls cd_NoText, sl_NoText⟩)
    (lk_NoPlace : K.lookup c_NoPlace = some ⟨.type "type", dd_NoPlace, .cls cd_NoPlace, sl_NoPlace⟩)
    (lk_NoNumber : K.lookup c_NoNumber = some ⟨.type "type", dd_NoNumber, .cls cd_NoNumber, sl_NoNumber⟩)
    (ne_NoText : c_NoPlace ≠ c_NoText)
    (sb_NoText : PySem.W.subIn K (.ref c_NoPlace) (.ref c_NoText) = some false)
    (ne_NoNumber : c_NoPlace ≠ c_NoNumber)
    (sb_NoNumber : PySem.W.subIn K (.ref c_NoPlace) (.ref c_NoNumber) = some false)
    (sb_V : PySem.W.subIn K (.ref c_NoPlace) (.type "ValueError") = some true)
    (z_len : PySem.W.nsIn K mainGlobals "len" = some none)
    (z_range : PySem.W.nsIn K mainGlobals "range" = some none)
    (z_isinstance : PySem.W.nsIn K mainGlobals "isinstance" = some none)
    (z_int : PySem.W.nsIn K mainGlobals "int" = some none)
    (z_bool : PySem.W.nsIn K mainGlobals "bool" = some none)
    (z_str : PySem.W.nsIn K mainGlobals "str" = some none)
    (z_tuple : PySem.W.nsIn K mainGlobals "tuple" = some none)
    (z_list : PySem.W.nsIn K mainGlobals "list" = some none)
    (z_zip : PySem.W.nsIn K mainGlobals "zip" = some none)
    (z_reversed : PySem.W.nsIn K mainGlobals "reversed" = some none)
    (z_ValueError : PySem.W.nsIn K mainGlobals "ValueError" = some none)
    : ∃ fd : FuncData, (∀ (s : Shared) (v : Value), BindsTo s fd ⟨[v], []⟩ [("_law_script", v)]) ∧ ∀ base : Heap, K.In base → base.Ns mainGlobals mg → FnOk l.prog w K mg base CX0 222 fa fd ["_law_script"] (sp_law K) := by
  have e := hfa.symm.trans (PySem.W.mg_of X G a19)
  cases e
  have z_len := PySem.W.mg_none_of X G z_len
  have z_range := PySem.W.mg_none_of X G z_range
  have z_isinstance := PySem.W.mg_none_of X G z_isinstance
  have z_int := PySem.W.mg_none_of X G z_int
  have z_bool := PySem.W.mg_none_of X G z_bool
  have z_str := PySem.W.mg_none_of X G z_str
  have z_tuple := PySem.W.mg_none_of X G z_tuple
  have z_list := PySem.W.mg_none_of X G z_list
  have z_zip := PySem.W.mg_none_of X G z_zip
  have z_reversed := PySem.W.mg_none_of X G z_reversed
  have z_ValueError := PySem.W.mg_none_of X G z_ValueError
  have m_LEAF_SIGNS := PySem.W.mg_of X G aC0
  have h_LEAF_SIGNS : LeafSigns K lv_LEAF_SIGNS := ⟨_, _, _, lC0, rfl, rfl, (by show 5 ≤ sizeLine; decide), (.cons ⟨_, rfl⟩ (.cons ⟨_, rfl⟩ (.cons ⟨_, rfl⟩ (.cons ⟨_, rfl⟩ (.cons ⟨_, rfl⟩ .nil)))))⟩
  have m_RecastError := PySem.W.mg_of X G aX0
  have m_NoText := PySem.W.mg_of X G aX1
  have m_NoPlace := PySem.W.mg_of X G aX2
  have m_NoNumber := PySem.W.mg_of X G aX3
  have XX : Errs K c_RecastError c_NoText c_NoPlace c_NoNumber := ⟨⟨NoPlace_ga, NoPlace_gt, NoPlace_bs, NoPlace_cl, NoPlace_ob, cls_of lk_NoPlace⟩, ⟨⟨RecastError_ga, RecastError_gt, RecastError_bs, RecastError_cl, RecastError_ob, cls_of lk_RecastError⟩, R_ty⟩, nR, kit_ref ne_NoText lk_NoText sb_NoText, kit_ref ne_NoNumber lk_NoNumber sb_NoNumber, kit_self, kit_ty (by decide +kernel) sb_V⟩
  have F0 := fun_mk (st := s_is_whole) l0 c0 k0
  have b0 := F0.binds (ps := ["value"]) fun _ _ _ _ _ _ us hl => match us, hl with | [_], _ => rfl
  have m0 := PySem.W.mg_of X G a0
  have F1 := fun_mk (st := s_parts_begin) l1 c1 k1
  have b1 := F1.binds (ps := ["tree"]) fun _ _ _ _ _ _ us hl => match us, hl with | [_], _ => rfl
  have m1 := PySem.W.mg_of X G a1
  have F2 := fun_mk (st := s_parts) l2 c2 k2
  have b2 := F2.binds (ps := ["tree"]) fun _ _ _ _ _ _ us hl => match us, hl with | [_], _ => rfl
  have m2 := PySem.W.mg_of X G a2
  have F3 := fun_mk (st := s_with_parts) l3 c3 k3
  have b3 := F3.binds (ps := ["tree", "parts"]) fun _ _ _ _ _ _ us hl => match us, hl with | [_, _], _ => rfl
  have m3 := PySem.W.mg_of X G a3
  have F4 := fun_mk (st := s_trees_down_to) l4 c4 k4
  have b4 := F4.binds (ps := ["tree", "place"]) fun _ _ _ _ _ _ us hl => match us, hl with | [_, _], _ => rfl
  have m4 := PySem.W.mg_of X G a4
  have F5 := fun_mk (st := s_part_at) l5 c5 k5
  have b5 := F5.binds (ps := ["tree", "place"]) fun _ _ _ _ _ _ us hl => match us, hl with | [_, _], _ => rfl
  have m5 := PySem.W.mg_of X G a5
  have F6 := fun_mk (st := s_put_at) l6 c6 k6
  have b6 := F6.binds (ps := ["tree", "place", "part"]) fun _ _ _ _ _ _ us hl => match us, hl with | [_, _, _], _ => rfl
  have m6 := PySem.W.mg_of X G a6
  have F7 := fun_mk (st := s_law_cell_at) l7 c7 k7
  have b7 := F7.binds (ps := ["_law_script", "_law_k"]) fun _ _ _ _ _ _ us hl => match us, hl with | [_, _], _ => rfl
  have m7 := PySem.W.mg_of X G a7
  have F8 := fun_mk (st := s_law_word) l8 c8 k8
  have b8 := F8.binds (ps := ["_law_cell"]) fun _ _ _ _ _ _ us hl => match us, hl with | [_], _ => rfl
  have m8 := PySem.W.mg_of X G a8
  have F9 := fun_mk (st := s_law_leaf) l9 c9 k9
  have b9 := F9.binds (ps := ["_law_cell"]) fun _ _ _ _ _ _ us hl => match us, hl with | [_], _ => rfl
  have m9 := PySem.W.mg_of X G a9
  have F10 := fun_mk (st := s_law_tree) l10 c10 k10
  have b10 := F10.binds (ps := ["_law_cells", "_law_deep"]) fun _ _ _ _ _ _ us hl => match us, hl with | [_, _], _ => rfl
  have m10 := PySem.W.mg_of X G a10
  have F11 := fun_mk (st := s_law_first) l11 c11 k11
  have b11 := F11.binds (ps := ["_law_tree_here"]) fun _ _ _ _ _ _ us hl => match us, hl with | [_], _ => rfl
  have m11 := PySem.W.mg_of X G a11
  have F12 := fun_mk (st := s_law_many) l12 c12 k12
  have b12 := F12.binds (ps := ["_law_tree_here"]) fun _ _ _ _ _ _ us hl => match us, hl with | [_], _ => rfl
  have m12 := PySem.W.mg_of X G a12
  have F13 := fun_mk (st := s_law_all) l13 c13 k13
  have b13 := F13.binds (ps := ["_law_tree_here"]) fun _ _ _ _ _ _ us hl => match us, hl with | [_], _ => rfl
  have m13 := PySem.W.mg_of X G a13
  have F14 := fun_mk (st := s_law_put) l14 c14 k14
  have b14 := F14.binds (ps := ["_law_tree_here", "_law_place", "_law_part"]) fun _ _ _ _ _ _ us hl => match us, hl with | [_, _, _], _ => rfl
  have m14 := PySem.W.mg_of X G a14
  have F15 := fun_mk (st := s_law_same) l15 c15 k15
  have b15 := F15.binds (ps := ["_law_found", "_law_due"]) fun _ _ _ _ _ _ us hl => match us, hl with | [_, _], _ => rfl
  have m15 := PySem.W.mg_of X G a15
  have F16 := fun_mk (st := s_law_lone) l16 c16 k16
  have b16 := F16.binds (ps := ["_law_e"]) fun _ _ _ _ _ _ us hl => match us, hl with | [_], _ => rfl
  have m16 := PySem.W.mg_of X G a16
  have F17 := fun_mk (st := s_law_refused) l17 c17 k17
  have b17 := F17.binds (ps := ["_law_tree_here", "_law_place", "_law_part"]) fun _ _ _ _ _ _ us hl => match us, hl with | [_, _, _], _ => rfl
  have m17 := PySem.W.mg_of X G a17
  have F18 := fun_mk (st := s_law_no_place) l18 c18 k18
  have b18 := F18.binds (ps := ["_law_rows", "_law_cell"]) fun _ _ _ _ _ _ us hl => match us, hl with | [_, _], _ => rfl
  have m18 := PySem.W.mg_of X G a18
  have F19 := fun_mk (st := s_law) l19 c19 k19
  have b19 := F19.binds (ps := ["_law_script"]) fun _ _ _ _ _ _ us hl => match us, hl with | [_], _ => rfl
  have m19 := PySem.W.mg_of X G a19
  refine ⟨PySem.W.fnOf "law" "law" (defArgs s_law) (defBody s_law) (defScope s_law) .none kV19 dc19 pm19 an19 cd19 ct19, fun s v => .of_eq rfl, fun base _ _ => ?_⟩
  have G0 : FnB l.prog w K mg base 1 "is_whole" f0 _ _ _ := ⟨ok_whole (k := 0) F0 z_isinstance z_int z_bool, b0, k0, m0⟩
  have G1 : FnB l.prog w K mg base 1 "parts_begin" f1 _ _ _ := ⟨ok_parts_begin (k := 0) F1 z_len m_LEAF_SIGNS h_LEAF_SIGNS, b1, k1, m1⟩
  have G2 : FnB l.prog w K mg base 2 "parts" f2 _ _ _ := ⟨ok_parts F2 (G1.up (k := 1) (by decide)), b2, k2, m2⟩
  have G3 : FnB l.prog w K mg base 2 "with_parts" f3 _ _ _ := ⟨ok_with F3 z_tuple (G1.up (k := 1) (by decide)), b3, k3, m3⟩
  have G4 : FnF l.prog w K mg base 3 "trees_down_to" f4 _ _ _ := ⟨ok_down F4 z_len m_NoPlace xN (G0.up (k := 2) (by decide)) (G2.up (k := 2) (by decide)), b4, k4, m4⟩
  have G5 : FnF l.prog w K mg base 4 "part_at" f5 _ _ _ := ⟨ok_part_at F5 (G4.up (k := 3) (by decide)), b5, k5, m5⟩
  have G6 : FnF l.prog w K mg base 4 "put_at" f6 _ _ _ := ⟨ok_put_at F6 z_list z_zip z_reversed (G4.up (k := 3) (by decide)) (G2.up (k := 3) (by decide)) (G3.up (k := 3) (by decide)), b6, k6, m6⟩
  have G7 : FnB l.prog w K mg base 1 "_law_cell_at" f7 _ _ _ := ⟨ok_cell_at (k := 0) F7 z_len, b7, k7, m7⟩
  have G8 : FnB l.prog w K mg base 1 "_law_word" f8 _ _ _ := ⟨ok_word (k := 0) F8 z_range, b8, k8, m8⟩
  have G9 : FnB l.prog w K mg base 2 "_law_leaf" f9 _ _ _ := ⟨ok_leaf F9 (G8.up (k := 1) (by decide)), b9, k9, m9⟩
  have G10 := all_tree F10 b10 m10 z_len (G9.up (k := 2) (by decide)) (G8.up (k := 2) (by decide)) 13
  have G11 : FnB l.prog w K mg base 1 "_law_first" f11 _ _ _ := ⟨ok_first (k := 0) F11, b11, k11, m11⟩
  have G12 : FnB l.prog w K mg base 2 "_law_many" f12 _ _ _ := ⟨ok_many F12 z_len (G11.up (k := 1) (by decide)), b12, k12, m12⟩
  have G13 : FnB l.prog w K mg base 3 "_law_all" f13 _ _ _ := ⟨ok_all F13 z_len z_range (G12.up (k := 2) (by decide)) (G11.up (k := 2) (by decide)), b13, k13, m13⟩
  have G14 := all_lput F14 b14 m14 (G11.up (k := 1) (by decide)) 200
  have G15 := all_same (P := l.prog) (w := w) (base := base) (k := 0) F15 b15 m15 z_isinstance z_tuple z_str z_int z_bool z_len z_zip 221
  have G16 : FnV l.prog w K mg base 1 "_law_lone" f16 _ _ _ := ⟨ok_lone (k := 0) F16 z_isinstance z_ValueError m_NoText m_NoPlace m_NoNumber XX, b16, k16, m16⟩
  have G17 : FnB l.prog w K mg base 5 "_law_refused" f17 _ _ _ := ⟨ok_refused F17 m_RecastError XX (G5.up (k := 4) (by decide)) (G6.up (k := 4) (by decide)) (G16.up (k := 4) (by decide)), b17, k17, m17⟩
  have G18 : FnB l.prog w K mg base 3 "_law_no_place" f18 _ _ _ := ⟨ok_no_place F18 z_len (G12.up (k := 2) (by decide)), b18, k18, m18⟩
  exact ok_law F19 z_len (G10.up (k := 221) (by decide)) (G7.up (k := 221) (by decide)) (G9.up (k := 221) (by decide)) (G13.up (k := 221) (by decide)) (G18.up (k := 221) (by decide)) (G17.up (k := 221) (by decide)) (G15.up (k := 221) (by decide)) (G14.up (k := 221) (by decide)) (G5.up (k := 221) (by decide)) (G6.up (k := 221) (by decide))
theorem walk {l : PySem.W.OpenLaw} {q : Program} {loose : List Str} {XP : (Str → Option Value) → Heap → Prop} {YP : World → Heap → Prop} {d : DefRec} {K : Params → PySem.W.Frag} (hn : l.most = some 63) (hdf : d.params.defaults = [])
    (hY : ∀ (w : World) (h : Heap), YP w h → (K w.params).In h)
    (F : ∀ (w : World) (mg : Str → Option Value) (fa : Addr) (h : Heap), (K w.params).In h → h.Ns mainGlobals mg → mg d.name = some (.ref fa) →
      ∃ fd : FuncData, (∀ (s : Shared) (u : Value), BindsTo s fd ⟨[u], []⟩ [("_law_script", u)]) ∧ ∀ base : Heap, (K w.params).In base → base.Ns mainGlobals mg → FnOk l.prog w (K w.params) mg base CX0 222 fa fd ["_law_script"] (sp_law (K w.params))) :
    PySem.W.WalkO q loose XP YP l.row.toRowW d [] (fun f vs => PySem.call f vs) :=
  L2.walk_of (n := 63) (k := 222) (x := "_law_script") (CX := fun _ => CX0) (sp := fun w => sp_law (K w.params)) hn (by decide) hdf ⟨rfl, by decide, by decide⟩ hY F (fun _ _ a ns hl _ hS => ⟨a, ns, rfl, hS, hl, fun _ => rfl⟩) fun _ _ _ _ _ z => z
end K02
open PySem PySem.W PyProof.Rows
set_option maxRecDepth 100000 in
set_option maxHeartbeats 0 in
theorem PySem.Challenge.cw_recastle_k02_parts_put_holds : PySem.Challenge.rw_recastle_k02_parts_put.Holds := by
  w_on; o_law; k_head; (case hw => w_witness2)
  k_fill
  refine K02.walk (l := PySem.Challenge.rw_recastle_k02_parts_put) rfl rfl (fun w h Y => PySem.W.kIn_of Y) ?F
  case F =>
    intro w mg fa h KX G hmg
    refine' K02.all_mk KX G hmg ?a0 ?l0 ?c0 ?k0 ?a1 ?l1 ?c1 ?k1 ?a2 ?l2 ?c2 ?k2 ?a3 ?l3 ?c3 ?k3 ?a4 ?l4 ?c4 ?k4 ?a5 ?l5 ?c5 ?k5 ?a6 ?l6 ?c6 ?k6 ?a7 ?l7 ?c7 ?k7 ?a8 ?l8 ?c8 ?k8 ?a9 ?l9 ?c9 ?k9 ?a10 ?l10 ?c10 ?k10 ?a11 ?l11 ?c11 ?k11 ?a12 ?l12 ?c12 ?k12 ?a13 ?l13 ?c13 ?k13 ?a14 ?l14 ?c14 ?k14 ?a15 ?l15 ?c15 ?k15 ?a16 ?l16 ?c16 ?k16 ?a17 ?l17 ?c17 ?k17 ?a18 ?l18 ?c18 ?k18 ?a19 ?l19 ?c19 ?k19 ?aC0 ?lC0 ?aX0 ?aX1 ?aX2 ?aX3 ?xN ?NoPlace_ga ?NoPlace_gt ?NoPlace_bs ?NoPlace_cl ?NoPlace_ob ?RecastError_ga ?RecastError_gt ?RecastError_bs ?RecastError_cl ?RecastError_ob ?R_ty ?nR ?lk_RecastError ?lk_NoText ?lk_NoPlace ?lk_NoNumber ?ne_NoText ?sb_NoText ?ne_NoNumber ?sb_NoNumber ?sb_V ?z_len ?z_range ?z_isinstance ?z_int ?z_bool ?z_str ?z_tuple ?z_list ?z_zip ?z_reversed ?z_ValueError
    (case a0 => k_is); (case l0 => k_is); (case c0 => k_is); (case k0 => k_is)
    (case a1 => k_is); (case l1 => k_is); (case c1 => k_is); (case k1 => k_is)
    (case a2 => k_is); (case l2 => k_is); (case c2 => k_is); (case k2 => k_is)
    (case a3 => k_is); (case l3 => k_is); (case c3 => k_is); (case k3 => k_is)
    (case a4 => k_is); (case l4 => k_is); (case c4 => k_is); (case k4 => k_is)
    (case a5 => k_is); (case l5 => k_is); (case c5 => k_is); (case k5 => k_is)
    (case a6 => k_is); (case l6 => k_is); (case c6 => k_is); (case k6 => k_is)
    (case a7 => k_is); (case l7 => k_is); (case c7 => k_is); (case k7 => k_is)
    (case a8 => k_is); (case l8 => k_is); (case c8 => k_is); (case k8 => k_is)
    (case a9 => k_is); (case l9 => k_is); (case c9 => k_is); (case k9 => k_is)
    (case a10 => k_is); (case l10 => k_is); (case c10 => k_is); (case k10 => k_is)
    (case a11 => k_is); (case l11 => k_is); (case c11 => k_is); (case k11 => k_is)
    (case a12 => k_is); (case l12 => k_is); (case c12 => k_is); (case k12 => k_is)
    (case a13 => k_is); (case l13 => k_is); (case c13 => k_is); (case k13 => k_is)
    (case a14 => k_is); (case l14 => k_is); (case c14 => k_is); (case k14 => k_is)
    (case a15 => k_is); (case l15 => k_is); (case c15 => k_is); (case k15 => k_is)
    (case a16 => k_is); (case l16 => k_is); (case c16 => k_is); (case k16 => k_is)
    (case a17 => k_is); (case l17 => k_is); (case c17 => k_is); (case k17 => k_is)
    (case a18 => k_is); (case l18 => k_is); (case c18 => k_is); (case k18 => k_is)
    (case a19 => k_is); (case l19 => k_is); (case c19 => k_is); (case k19 => k_is)
    (case aC0 => k_is); (case lC0 => k_is); (case aX0 => k_is); (case aX1 => k_is)
    (case aX2 => k_is); (case aX3 => k_is); (case xN => k_exc); (case NoPlace_ga => k_is)
    (case NoPlace_gt => k_is); (case NoPlace_bs => k_is); (case NoPlace_cl => k_is); (case NoPlace_ob => k_is)
    (case RecastError_ga => k_is); (case RecastError_gt => k_is); (case RecastError_bs => k_is); (case RecastError_cl => k_is)
    (case RecastError_ob => k_is); (case R_ty => k_is); (case nR => k_is); (case lk_RecastError => k_is)
    (case lk_NoText => k_is); (case lk_NoPlace => k_is); (case lk_NoNumber => k_is); (case ne_NoText => decide)
    (case sb_NoText => k_is); (case ne_NoNumber => decide); (case sb_NoNumber => k_is); (case sb_V => k_is)
    (case z_len => k_is); (case z_range => k_is); (case z_isinstance => k_is); (case z_int => k_is)
    (case z_bool => k_is); (case z_str => k_is); (case z_tuple => k_is); (case z_list => k_is)
    (case z_zip => k_is); (case z_reversed => k_is); (case z_ValueError => k_is)
#print axioms PySem.Challenge.cw_recastle_k02_parts_put_holds