import PyProof.Rows.All
import Wide.All
import OpenK.AllK
import Wide.FinOn
import Lean
import PyProof.EqAt
import PyProof.EqKinds
import PyProof.TupleCall
import PyProof.NeKinds
import PyProof.AttrMissHeap
import KE.KDictOf
import KE.KDictLaws
import KE.KSortTup
import PyProof.Rows.SortWalk
import PyProof.Rows.SortShellK
import PySem.Challenge.RW_recastle_k01_parts_counted
set_option Elab.async false
set_option linter.all false
set_option maxRecDepth 100000
namespace L2
open PySem PySem.Spec PyProof.Rows
abbrev Key := Sum Int Str
def keyIs : Key → Value → Bool
  | .inl k, v => Value.isInt k v
  | .inr x, v => Value.isStrOf x v
def keyH (w : World) : Key → Int
  | .inl k => hashInt k
  | .inr x => hashStr w x
theorem keyIs_shape : ∀ {k : Key} {v : Value}, keyIs k v = true → (∃ i t, k = Sum.inl i ∧ v = Value.int i t) ∨ (∃ x t, k = Sum.inr x ∧ v = Value.str x t)
  | .inl i, v, h => by
    obtain ⟨t, e⟩ := Value.isInt_shape (k := i) (v := v) h
    exact .inl ⟨i, t, rfl, e⟩
  | .inr x, v, h => by
    obtain ⟨t, e⟩ := Value.isStrOf_shape (x := x) (v := v) h
    exact .inr ⟨x, t, rfl, e⟩
theorem key_ll (a b : Int) : decide ((Sum.inl a : Key) = Sum.inl b) = (a == b) := by
  by_cases e : a = b
  · subst e; simp
  · have h : ¬ (Sum.inl a : Key) = Sum.inl b := fun q => e (Sum.inl.inj q)
    rw [decide_eq_false h]
    exact (beq_eq_false_iff_ne.mpr e).symm
theorem key_rr (a b : Str) : decide ((Sum.inr a : Key) = Sum.inr b) = decide (a = b) := by
  by_cases e : a = b
  · subst e; simp
  · have h : ¬ (Sum.inr a : Key) = Sum.inr b := fun q => e (Sum.inr.inj q)
    rw [decide_eq_false h, decide_eq_false e]
theorem key_lr (a : Int) (b : Str) : decide ((Sum.inl a : Key) = Sum.inr b) = false := decide_eq_false (fun q => nomatch q)
theorem key_rl (a : Str) (b : Int) : decide ((Sum.inr a : Key) = Sum.inl b) = false := decide_eq_false (fun q => nomatch q)
def mixKind (prog : Program) (w : World) : PySem.KeyKind prog w Key where
  is := keyIs
  hash := keyH w
  inj := fun v a b ha hb => by
    rcases keyIs_shape ha with ⟨i, t, rfl, rfl⟩ | ⟨x, t, rfl, rfl⟩
    · rcases keyIs_shape hb with ⟨j, u, rfl, e⟩ | ⟨y, u, rfl, e⟩
      · injection e with e1 _; rw [e1]
      · exact nomatch e
    · rcases keyIs_shape hb with ⟨j, u, rfl, e⟩ | ⟨y, u, rfl, e⟩
      · exact nomatch e
      · injection e with e1 _; rw [e1]
  byValue := fun k v h => by
    rcases keyIs_shape h with ⟨i, t, rfl, rfl⟩ | ⟨x, t, rfl, rfl⟩ <;> rfl
  pyHash := fun hv h => by
    rcases keyIs_shape hv with ⟨i, t, rfl, rfl⟩ | ⟨x, t, rfl, rfl⟩
    · exact wpAny_pyHash_int h
    · exact wpAny_pyHash_str h
  eqBool := fun hu hv h => by
    rcases keyIs_shape hu with ⟨i, t, rfl, rfl⟩ | ⟨x, t, rfl, rfl⟩
    · rcases keyIs_shape hv with ⟨j, u, rfl, rfl⟩ | ⟨y, u, rfl, rfl⟩
      · rw [key_ll] at h; exact wpAny_eqBool_int h
      · rw [key_lr] at h; exact SeqAt.EqAt.int_str i t y u _ _ _ _ h
    · rcases keyIs_shape hv with ⟨j, u, rfl, rfl⟩ | ⟨y, u, rfl, rfl⟩
      · rw [key_rl] at h; exact SeqAt.EqAt.str_int x t j u _ _ _ _ h
      · rw [key_rr] at h; exact wpAny_eqBool_str h
  «strs» := fun k x t v h => by
    rcases keyIs_shape h with ⟨i, u, rfl, e⟩ | ⟨y, u, rfl, e⟩
    · exact nomatch e
    · injection e with e1 _
      subst e1
      cases v <;> rfl
end L2
namespace L2
open PySem PySem.Spec PyProof.Rows
inductive V where
  | non | bl (b : Bool) | int (i : Int) | str (x : Str) | byt (b : Array UInt8) | flt (b : UInt64) | ref (a : Addr) | ty (n : String)
  deriving DecidableEq
def RelV : V → Value → Prop
  | .non, u => u = Value.none
  | .bl b, u => u = Value.bool b
  | .int i, u => ∃ t, u = Value.int i t
  | .str x, u => ∃ t, u = Value.str x t
  | .byt b, u => ∃ t, u = Value.bytes b t
  | .flt b, u => ∃ t, u = Value.float b t
  | .ref a, u => u = Value.ref a
  | .ty n, u => u = Value.type n
abbrev Vals : List V → List Value → Prop := Paired RelV
theorem Vals.length {xs : List V} {us : List Value} (r : Vals xs us) : xs.length = us.length := Paired.length r
theorem Vals.get : ∀ {xs : List V} {us : List Value} {i : Nat} {x : V}, Vals xs us → xs[i]? = some x → ∃ u, us[i]? = some u ∧ RelV x u
  | _, _, _, _, .nil, e => by simp at e
  | _, _, 0, _, .cons r _, e => by simp at e; subst e; exact ⟨_, rfl, r⟩
  | _, _, i + 1, x, .cons _ t, e => by
    obtain ⟨u, h1, h2⟩ := Vals.get (i := i) (x := x) t (by simpa using e)
    exact ⟨u, by simpa using h1, h2⟩
theorem Vals.set {x : V} {u : Value} (r : RelV x u) : ∀ {xs : List V} {us : List Value} (i : Nat), Vals xs us → Vals (xs.set i x) (us.set i u)
  | _, _, _, .nil => .nil
  | _, _, 0, .cons _ t => .cons r t
  | _, _, i + 1, .cons q t => .cons q (Vals.set r i t)
theorem Vals.append : ∀ {xs ys : List V} {us ws : List Value}, Vals xs us → Vals ys ws → Vals (xs ++ ys) (us ++ ws)
  | _, _, _, _, .nil, s => s
  | _, _, _, _, .cons r t, s => .cons r (Vals.append t s)
theorem Vals.take : ∀ {xs : List V} {us : List Value} (n : Nat), Vals xs us → Vals (xs.take n) (us.take n)
  | _, _, 0, _ => .nil
  | _, _, _ + 1, .nil => .nil
  | _, _, n + 1, .cons r t => .cons r (Vals.take n t)
theorem Vals.drop : ∀ {xs : List V} {us : List Value} (n : Nat), Vals xs us → Vals (xs.drop n) (us.drop n)
  | _, _, 0, r => r
  | _, _, _ + 1, .nil => .nil
  | _, _, n + 1, .cons _ t => Vals.drop n t
def RelO : Option V → Option Value → Prop
  | some v, some u => RelV v u
  | none, none => True
  | _, _ => False
def KV {κ : Type} : List (κ × V) → List (κ × Value) → Prop := Paired fun (p : κ × V) (q : κ × Value) => p.1 = q.1 ∧ RelV p.2 q.2
def kV : Key → V
  | .inl i => .int i
  | .inr x => .str x
inductive HO where
  | lst (xs : List V)
  | tup (xs : List V)
  | dK (kvs : List (Key × V)) | dT (kvs : List (List Key × V))
  | set (S : Int → Bool) (n : Nat)
  | ins (C dx : Addr) (fs : List (Str × V))
  | own (x : Addr)
  | xd (fs : List (Str × V))
  | met (f x : Addr)
  | rng (lo hi : Int)
  | frz (o : Obj) (u : HO)
  | tbl (ps : Array Value)
  | ext (φ : Heap → Prop)
abbrev Hp := Addr → Option HO
def upd (H : Hp) (a : Addr) (o : HO) : Hp := fun b => if b = a then some o else H b
theorem upd_same {H : Hp} {a : Addr} {o : HO} : upd H a o a = some o := by unfold upd; rw [if_pos rfl]
theorem upd_ne {H : Hp} {a b : Addr} {o : HO} (h : b ≠ a) : upd H a o b = H b := by unfold upd; rw [if_neg h]
theorem ne_of_none {H : Hp} {a b : Addr} {o : HO} (h : H a = some o) (h' : H b = none) : a ≠ b := by
  intro e; subst e; rw [h] at h'; cases h'
section
variable (P : Program) (w : World)
def ObjOk (H : Hp) (h : Heap) (a : Addr) : HO → Prop
  | .lst xs => xs.length ≤ sizeLine ∧ ∃ (its : List Value) (n : Nat), Vals xs its ∧ h.get? a = some { cls := .type "list", data := .seq its.toArray n }
  | .tup xs => xs.length ≤ sizeLine ∧ ∃ its : List Value, Vals xs its ∧ IsTup h a its.toArray
  | .dK kvs => kvs.length ≤ sizeLine ∧ (a == sysModules) = false ∧ ∃ vs, KV kvs vs ∧ h.DictOf (mixKind P w) a vs
  | .dT kvs => kvs.length ≤ sizeLine ∧ (a == sysModules) = false ∧ ∃ xs : List (List Key × Addr × Value),
      Paired (fun (p : List Key × V) (q : List Key × Addr × Value) => p.1 = q.1 ∧ H q.2.1 = some (.tup (p.1.map kV)) ∧ RelV p.2 q.2.2) kvs xs ∧
      ∃ o es ep, h.get? a = some o ∧ o.ExactDict ∧ o.data = .dict es ep ∧ es.toList = xs.map (entryOfKey (tupleKind (mixKind P w))) ∧ (xs.map (·.1)).Nodup
  | .set S n => h.SetOf (intKind P w) a S n
  | .ins C dx fs => H dx = some (.own a) ∧ fs.length ≤ 1000 ∧ dx ≠ a ∧ h.get? a = some (PySem.W.instObj C dx) ∧
      ∃ mA, h.Ns1 dx mA ∧ (∀ f, RelO (fs.lookup f) (mA f)) ∧ PySem.Within mA (fs.map (·.1))
  | .own _ => ∃ o, h.get? a = some o
  | .xd fs => ∃ mA, h.Ns1 a mA ∧ ∀ f, RelO (fs.lookup f) (mA f)
  | .rng lo hi => ∃ t u v, h.get? a = some { cls := .type "range", data := .fields #[.int lo t, .int hi u, .int 1 v] }
  | .frz o u => h.get? a = some o ∧ ObjOk H h a u
  | .tbl ps => h.get? a = some { cls := .none, data := .fields ps }
  | .met f x => h.get? a = some (PySem.W.methodObj (.ref f) (.ref x))
  | .ext φ => φ h ∧ (∃ o, h.get? a = some o) ∧ ∀ h1 h2 : Heap, φ h1 → (∀ o, h1.get? a = some o → h2.get? a = some o) → φ h2
def HOk (H : Hp) (h : Heap) : Prop := ∀ a o, H a = some o → ObjOk P w H h a o
end
section
variable {P : Program} {w : World} {H H' : Hp} {h h' : Heap} {a : Addr} {o : HO}
theorem ObjOk.lt (x : ObjOk P w H h a o) : a < h.objs.size := by
  cases o with
  | lst xs => obtain ⟨_, _, _, _, e⟩ := x; exact Heap.lt_size e
  | tup xs => obtain ⟨_, _, _, p⟩ := x; exact p.lt
  | dK kvs => obtain ⟨_, _, _, _, o, _, _, e, _⟩ := x; exact Heap.lt_size e
  | dT kvs => obtain ⟨_, _, _, _, o, _, _, e, _⟩ := x; exact Heap.lt_size e
  | set S n => obtain ⟨o, _, _, _, e, _⟩ := x; exact Heap.lt_size e
  | ins C dx fs => obtain ⟨_, _, _, e, _⟩ := x; exact Heap.lt_size e
  | own y => obtain ⟨_, e⟩ := x; exact Heap.lt_size e
  | xd fs => obtain ⟨_, ⟨_, _, _, e, _⟩, _⟩ := x; exact Heap.lt_size e
  | rng lo hi => obtain ⟨_, _, _, e⟩ := x; exact Heap.lt_size e
  | frz ob u => obtain ⟨e, _⟩ := x; exact Heap.lt_size e
  | tbl ps => exact Heap.lt_size (show h.get? a = some _ from x)
  | met f y => exact Heap.lt_size (show h.get? a = some _ from x)
  | ext φ => obtain ⟨_, ⟨_, e⟩, _⟩ := x; exact Heap.lt_size e
theorem Paired.mapP {α β : Type} {F G : α → β → Prop} : ∀ {l₁ : List α} {l₂ : List β}, Paired F l₁ l₂ → (∀ a b, F a b → G a b) → Paired G l₁ l₂
  | _, _, .nil, _ => .nil
  | _, _, .cons r t, f => .cons (f _ _ r) (Paired.mapP t f)
theorem ObjOk.stay (x : ObjOk P w H h a o) (k : ∀ b u, (b = a ∨ H b = some (.own a)) → h.get? b = some u → h'.get? b = some u)
    (ho : ∀ b, H b = some (.own a) → H' b = some (.own a)) (ht : ∀ b xs, H b = some (.tup xs) → H' b = some (.tup xs)) : ObjOk P w H' h' a o := by
  induction o with
  | lst xs => obtain ⟨z, its, n, r, e⟩ := x; exact ⟨z, its, n, r, k _ _ (.inl rfl) e⟩
  | tup xs => obtain ⟨z, its, r, ob, e, c⟩ := x; exact ⟨z, its, r, ob, k _ _ (.inl rfl) e, c⟩
  | dK kvs => obtain ⟨z, y, vs, r, ob, es, ep, e, c⟩ := x; exact ⟨z, y, vs, r, ob, es, ep, k _ _ (.inl rfl) e, c⟩
  | dT kvs =>
    obtain ⟨z, y, xs, r, ob, es, ep, e, c⟩ := x
    exact ⟨z, y, xs, Paired.mapP r fun p q z => ⟨z.1, ht _ _ z.2.1, z.2.2⟩, ob, es, ep, k _ _ (.inl rfl) e, c⟩
  | set S n => obtain ⟨ob, es, ep, t, e, c⟩ := x; exact ⟨ob, es, ep, t, k _ _ (.inl rfl) e, c⟩
  | ins C dx fs =>
    obtain ⟨d, z, ne, e, mA, ⟨od, es, ep, e2, c⟩, r⟩ := x
    exact ⟨ho _ d, z, ne, k _ _ (.inl rfl) e, mA, ⟨od, es, ep, k _ _ (.inr d) e2, c⟩, r⟩
  | own y => obtain ⟨ob, e⟩ := x; exact ⟨ob, k _ _ (.inl rfl) e⟩
  | xd fs => obtain ⟨mA, ⟨od, es, ep, e, c⟩, r⟩ := x; exact ⟨mA, ⟨od, es, ep, k _ _ (.inl rfl) e, c⟩, r⟩
  | rng lo hi => obtain ⟨t, u, v, e⟩ := x; exact ⟨t, u, v, k _ _ (.inl rfl) e⟩
  | frz ob u ih => obtain ⟨e, q⟩ := x; exact ⟨k _ _ (.inl rfl) e, ih q⟩
  | tbl ps =>
    have e : h.get? a = some { cls := .none, data := .fields ps } := x
    show h'.get? a = some { cls := .none, data := .fields ps }
    exact k a _ (.inl rfl) e
  | met f y =>
    have e : h.get? a = some (PySem.W.methodObj (.ref f) (.ref y)) := x
    show h'.get? a = some (PySem.W.methodObj (.ref f) (.ref y))
    exact k a _ (.inl rfl) e
  | ext φ => obtain ⟨p, ⟨o, e⟩, st⟩ := x; exact ⟨st _ _ p fun o q => k _ _ (.inl rfl) q, ⟨o, k _ _ (.inl rfl) e⟩, st⟩
theorem HOk.lt (x : HOk P w H h) (e : H a = some o) : a < h.objs.size := (x a o e).lt
theorem HOk.fresh (x : HOk P w H h) (e : h.objs.size ≤ a) : H a = none := by
  cases q : H a with
  | none => rfl
  | some u => exact absurd (Nat.lt_of_lt_of_le (x.lt q) e) (Nat.lt_irrefl _)
theorem HOk.kept (x : HOk P w H h) (k : ∀ b u, h.get? b = some u → h'.get? b = some u) : HOk P w H h' := fun a o e =>
  (x a o e).stay (fun b u _ q => k b u q) (fun _ q => q) fun _ _ q => q
theorem HOk.laid (x : HOk P w H h) (k : ∀ b u, h.get? b = some u → h'.get? b = some u) (hp : h.objs.size ≤ a) (new : ObjOk P w (upd H a o) h' a o) : HOk P w (upd H a o) h' := fun b u e => by
  have hn := x.fresh hp
  by_cases hb : b = a
  · subst hb; rw [upd_same] at e; cases e; exact new
  · rw [upd_ne hb] at e
    exact (x b u e).stay (fun c v _ q => k c v q) (fun c q => by rw [upd_ne (ne_of_none q hn)]; exact q) fun c xs q => by rw [upd_ne (ne_of_none q hn)]; exact q
end
def Rd (H : Hp) (a : Addr) (u : HO) : Prop := H a = some u ∨ ∃ o, H a = some (.frz o u)
theorem Rd.ok {P : Program} {w : World} {H : Hp} {h : Heap} {a : Addr} {u : HO} (r : Rd H a u) (x : HOk P w H h) : ObjOk P w H h a u := by
  rcases r with r | ⟨o, r⟩
  · exact x a u r
  · obtain ⟨_, q⟩ := x a _ r
    exact q
def Mut : Option HO → Prop
  | some (.lst _) => True
  | some (.dK _) => True
  | some (.dT _) => True
  | some (.set _ _) => True
  | some (.ins _ _ _) => True
  | some (.ext _) => True
  | _ => False
section
variable {P : Program} {w : World} {H : Hp} {h h' : Heap} {x e : Addr} {o' : HO}
theorem HOk.write (ok : HOk P w H h) (mu : Mut (H x)) (he : e = x ∨ H e = some (.own x)) (k : ∀ b u, b ≠ e → h.get? b = some u → h'.get? b = some u) (heo : ∃ u, h'.get? e = some u)
    (new : ObjOk P w (upd H x o') h' x o') : HOk P w (upd H x o') h' := fun b u q => by
  have nown : ∀ c y, H c = some (.own y) → c ≠ x := fun c y r z => by subst z; rw [r] at mu; exact mu
  have ntup : ∀ c xs, H c = some (.tup xs) → c ≠ x := fun c xs r z => by subst z; rw [r] at mu; exact mu
  by_cases hb : b = x
  · subst hb; rw [upd_same] at q; cases q; exact new
  · rw [upd_ne hb] at q
    by_cases hbe : b = e
    · have q' : H b = some (.own x) := by
        rcases he with z | z
        · exact absurd (hbe.trans z) hb
        · rw [hbe]; exact z
      rw [q] at q'; cases q'
      obtain ⟨v, hv⟩ := heo
      exact ⟨v, by rw [hbe]; exact hv⟩
    · refine (ok b u q).stay (fun c v hc r => k c v ?_ r) (fun c r => by rw [upd_ne (nown c b r)]; exact r) fun c xs r => by rw [upd_ne (ntup c xs r)]; exact r
      rcases hc with rfl | hc
      · exact hbe
      · rintro rfl
        rcases he with z | z
        · exact nown c b hc z
        · rw [hc] at z; cases z; exact hb rfl
end
structure Un (fs ex : List Addr) (H H' : Hp) (h h' : Heap) : Prop where
  keep : ∀ b o, h.get? b = some o → H b = none → b ∉ fs → b ∉ ex → h'.get? b = some o
  slot : ∀ b o, h.get? b = some o → H b = none → b ∈ fs → b ∉ ex → ∃ sl, h'.get? b = some { o with slots := sl }
  free : ∀ b o, h.get? b = some o → H b = none → b ∉ ex → H' b = none
  there : ∀ b o, h.get? b = some o → b ∉ ex → ∃ o', h'.get? b = some o'
  tups : ∀ b xs, H b = some (.tup xs) → H' b = some (.tup xs)
  frzs : ∀ b o u, H b = some (.frz o u) → H' b = some (.frz o u)
  tbls : ∀ b ps, H b = some (.tbl ps) → ∃ more, H' b = some (.tbl (ps ++ more))
section
variable {fs fs' ex ex' : List Addr} {H H1 H2 : Hp} {h h1 h2 h' : Heap} {a x e : Addr} {o : HO}
theorem Un.any (u : Un fs ex H H1 h h1) {b : Addr} {ob : Obj} (q : h.get? b = some ob) (n : H b = none) (hx : b ∉ ex) : ∃ sl, h1.get? b = some { ob with slots := sl } := by
  by_cases hb : b ∈ fs
  · exact u.slot b ob q n hb hx
  · exact ⟨ob.slots, u.keep b ob q n hb hx⟩
theorem Un.kept (k : ∀ b u, h.get? b = some u → h'.get? b = some u) : Un fs ex H H h h' :=
  ⟨fun b ob q _ _ _ => k b ob q, fun b ob q _ _ _ => ⟨ob.slots, k b ob q⟩, fun _ _ _ n _ => n, fun b ob q _ => ⟨ob, k b ob q⟩, fun _ _ q => q, fun _ _ _ q => q, fun _ ps q => ⟨#[], by rw [q]; simp⟩⟩
theorem Un.refl : Un fs ex H H h h := Un.kept fun _ _ q => q
theorem Un.laid (k : ∀ b u, h.get? b = some u → h'.get? b = some u) (hp : h.objs.size ≤ a) (hn : H a = none) : Un fs ex H (upd H a o) h h' where
  keep := fun b u q _ _ _ => k b u q
  slot := fun b u q _ _ _ => ⟨u.slots, k b u q⟩
  free := fun b u q n _ => by rw [upd_ne (Nat.ne_of_lt (Nat.lt_of_lt_of_le (Heap.lt_size q) hp))]; exact n
  there := fun b u q _ => ⟨u, k b u q⟩
  tups := fun b xs q => by rw [upd_ne (ne_of_none q hn)]; exact q
  frzs := fun b u xs q => by rw [upd_ne (ne_of_none q hn)]; exact q
  tbls := fun b ps q => ⟨#[], by rw [upd_ne (ne_of_none q hn), q]; simp⟩
theorem Un.write (mu : Mut (H x)) (he : e = x ∨ H e = some (.own x)) (k : ∀ b u, b ≠ e → h.get? b = some u → h'.get? b = some u) (heo : ∃ u, h'.get? e = some u) : Un fs ex H (upd H x o) h h' := by
  have hx : ∀ b, H b = none → b ≠ x := fun b n z => by subst z; rw [n] at mu; exact mu
  have hb : ∀ b, H b = none → b ≠ e := fun b n z => by
    subst z
    rcases he with r | r
    · exact hx b n r
    · rw [n] at r; cases r
  have hm : ∀ b u, H b = some u → ¬ Mut (some u) → b ≠ x := fun b u q nm z => by subst z; rw [q] at mu; exact nm mu
  refine ⟨fun b u q n _ _ => k b u (hb b n) q, fun b u q n _ _ => ⟨u.slots, k b u (hb b n) q⟩, fun b u q n _ => by rw [upd_ne (hx b n)]; exact n, fun b u q _ => ?_,
    fun b xs q => by rw [upd_ne (hm b _ q fun z => z)]; exact q, fun b u xs q => by rw [upd_ne (hm b _ q fun z => z)]; exact q, fun b ps q => ⟨#[], by rw [upd_ne (hm b _ q fun z => z), q]; simp⟩⟩
  by_cases hbe : b = e
  · subst hbe; exact heo
  · exact ⟨u, k b u hbe q⟩
end
def trk (h : Heap) (H : Hp) : List Addr := (List.range h.objs.size).filter fun a => (H a).isSome
def hidT (h : Heap) (H : Hp) : Heap := PySem.W.hideAll h (trk h H)
theorem hidT_size (h : Heap) (H : Hp) : (hidT h H).objs.size = h.objs.size := PySem.W.hideAll_size _ _
theorem hidT_get {h : Heap} {H : Hp} {b : Addr} {o : Obj} (e : h.get? b = some o) (n : H b = none) : (hidT h H).get? b = some o :=
  PySem.W.hideAll_get _ e fun hm => by
    have q : (H b).isSome = true := (List.mem_filter.mp hm).2
    rw [n] at q; simp at q
theorem of_hidT {h : Heap} {H : Hp} {b : Addr} {o : Obj} (e : (hidT h H).get? b = some o) : h.get? b = some o ∧ H b = none := by
  have e' : h.get? b = some o := PySem.W.of_hideAll (trk h H) e
  refine ⟨e', ?_⟩
  cases q : H b with
  | none => rfl
  | some x =>
    have hm : b ∈ trk h H := List.mem_filter.mpr ⟨List.mem_range.mpr (Heap.lt_size e'), by simp [q]⟩
    have z : (hidT h H).get? b = none := PySem.W.hideAll_none (trk h H) hm
    rw [z] at e; cases e
def allNews (g h : Heap) (L : Addr) : List (Addr × Obj) := (List.range h.objs.size).filterMap fun a => if a = L ∨ (g.get? a).isSome = true then none else (h.get? a).map fun o => (a, o)
def rest (g h : Heap) (L d : Addr) : List (Addr × Obj) := (allNews g h L).filter fun p => decide (p.1 ≠ d)
end L2
namespace L2
open PySem PySem.Spec PyProof.Rows
structure Mod (K : PySem.W.Frag) (mg : Str → Option Value) (base : Heap) : Prop where
  kin : K.In base
  glob : base.Ns mainGlobals mg
  blt : ∃ mb, base.Ns builtinsNs mb ∧ ∀ x : Str, x ≠ "__name__" → mb x = bootBuiltins x
  nolimit : base.NoLimit
structure Cx where
  prog : Program
  w : World
  K : PySem.W.Frag
  mg : Str → Option Value
  base : Heap
  A : Around
  N : List Str
  s₀ : Shared
  H₀ : Hp
  env : Env
  outer : List Env
  stack : List Env
  ex : List Addr
  fn : Str → Bool
  calm : Bool
  pn : List (Addr × Obj)
  xe : Value → Shared → Prop
def frs (l : List Env) : List Addr := l.filterMap (·.frame)
abbrev Cx.fs (X : Cx) : List Addr := frs X.outer
def Vis (sc : Scope) (x : Str) : Prop := sc.names.lookup x = some .local ∨ sc.names.lookup x = some .cell ∨ sc.names.lookup x = some .free
def Loc (sc : Scope) (x : Str) : Prop := sc.names.lookup x = some .local ∨ sc.names.lookup x = some .cell
def Look (env : Env) (h : Heap) (m : Str → Option Value) (x : Str) (u : Value) : Prop :=
  (env.kindOf x = some .local ∧ m x = some u) ∨ ((env.kindOf x = some .cell ∨ env.kindOf x = some .free) ∧ ∃ c, env.cells.lookup x = some c ∧ h.IsCell c (some u))
structure Cx.Ok (X : Cx) : Prop where
  mod : Mod X.K X.mg X.base
  kind : X.env.scope.kind = .function
  glob : X.env.globals = mainGlobals
  blt : X.env.builtins = builtinsNs
  above : X.s₀.heap.objs.size ≤ X.env.locals
  inj : ∀ x y c, X.env.cells.lookup x = some c → X.env.cells.lookup y = some c → x = y
  has : ∀ x, (X.env.kindOf x = some .cell ∨ X.env.kindOf x = some .free) → ∃ c, X.env.cells.lookup x = some c
  cab : ∀ x c, X.fn x = true → X.env.cells.lookup x = some c → X.s₀.heap.objs.size ≤ c
  hd : X.calm = true → X.A.handled = none
  frames : X.A.frames = some X.stack
  stk : X.stack = X.outer ∨ (X.stack = X.env :: X.outer ∧ X.env.frame = some X.env.locals)
  exf : ∀ b ∈ X.ex, b ≠ X.env.locals ∧ ∀ x c, X.env.cells.lookup x = some c → c ≠ b
  bs : ∀ b o, X.base.get? b = some o → X.s₀.heap.get? b = some o ∧ X.H₀ b = none
  bsz : X.base.objs.size ≤ X.s₀.heap.objs.size
  noex : ∀ b o, X.base.get? b = some o → b ∉ X.ex
  exfs : ∀ b ∈ X.ex, b ∉ X.fs
  funs : X.s₀.heap.FunFrames X.base X.outer
  frf : ∀ b ∈ X.fs, X.H₀ b = none
structure Inv (X : Cx) (pins : List (Addr × Obj)) (σ : List (Option V)) (H : Hp) (s : Shared) : Prop where
  ok : X.Ok
  os : s.os = X.s₀.os
  bare : AllBare s.gens
  base : Un X.fs X.ex X.H₀ H X.s₀.heap s.heap
  loc : ∃ m, s.heap.Ns X.env.locals m ∧ ∀ (i : Nat) (x : Str) (v : V), X.N[i]? = some x → σ[i]? = some (some v) → Vis X.env.scope x → ∃ u, RelV v u ∧ Look X.env s.heap m x u
  cell : ∀ x c, X.env.cells.lookup x = some c → ∃ v, s.heap.IsCell c v
  free : H X.env.locals = none
  freeC : ∀ x c, X.env.cells.lookup x = some c → H c = none
  pin : ∀ p ∈ X.pn ++ pins, s.heap.get? p.1 = some p.2 ∧ H p.1 = none ∧ p.1 ≠ X.env.locals ∧ p.1 ∉ X.fs ∧ ∀ v, p.2.data ≠ .cell v
  hok : HOk X.prog X.w H s.heap
  len : σ.length = X.N.length
section
variable {X : Cx} {pins : List (Addr × Obj)} {σ : List (Option V)} {H H' : Hp} {s : Shared} {h' : Heap}
theorem Cx.Ok.nofr (ok : X.Ok) {b : Addr} {o : Obj} (e : X.base.get? b = some o) : b ∉ X.fs := fun hb => by
  have := (ok.funs.mem hb).1
  rw [e] at this; cases this
theorem Inv.bs (I : Inv X pins σ H s) : ∀ b o, X.base.get? b = some o → s.heap.get? b = some o ∧ H b = none := fun b o e =>
  ⟨I.base.keep b o (I.ok.bs b o e).1 (I.ok.bs b o e).2 (I.ok.nofr e) (I.ok.noex b o e), I.base.free b o (I.ok.bs b o e).1 (I.ok.bs b o e).2 (I.ok.noex b o e)⟩
theorem Inv.bk (I : Inv X pins σ H s) : ∀ b o, X.base.get? b = some o → s.heap.get? b = some o := fun b o e => (I.bs b o e).1
theorem Inv.mod (I : Inv X pins σ H s) : Mod X.K X.mg X.base := I.ok.mod
theorem Inv.kIn (I : Inv X pins σ H s) : X.K.In s.heap := I.ok.mod.kin.keeps I.bk
theorem Inv.lt (I : Inv X pins σ H s) : X.env.locals < s.heap.objs.size := let ⟨_, hn, _⟩ := I.loc; hn.lt
theorem Inv.sz (I : Inv X pins σ H s) : X.s₀.heap.objs.size ≤ s.heap.objs.size := Nat.le_trans I.ok.above (Nat.le_of_lt I.lt)
theorem Inv.nofs (I : Inv X pins σ H s) {a : Addr} (h : s.heap.objs.size ≤ a) : a ∉ X.fs := fun hb => by
  obtain ⟨_, o, ho, _⟩ := I.ok.funs.mem hb
  exact absurd (Nat.lt_of_lt_of_le (Heap.lt_size ho) (Nat.le_trans I.sz h)) (Nat.lt_irrefl _)
theorem Inv.cne (I : Inv X pins σ H s) : ∀ x c, X.env.cells.lookup x = some c → c ≠ X.env.locals := fun x c e z => by
  obtain ⟨v, o, ho, hd⟩ := I.cell x c e
  obtain ⟨m, ⟨o', es, ep, ho', hd', _⟩, _⟩ := I.loc
  rw [z, ho'] at ho; cases ho; rw [hd'] at hd; cases hd
theorem Inv.funs (I : Inv X pins σ H s) : s.heap.FunFrames X.base X.outer := by
  have all : ∀ (l : List Env), (∀ b ∈ frs l, b ∈ X.fs) → X.s₀.heap.FunFrames X.base l → s.heap.FunFrames X.base l := by
    intro l
    induction l with
    | nil => intro _ _; trivial
    | cons env r ih =>
      intro hs hl
      obtain ⟨hk, ⟨L, o, hf, hn, ho, hd⟩, hr⟩ := hl
      have hL : L ∈ X.fs := hs L (by unfold frs; rw [List.filterMap_cons, hf]; exact List.mem_cons_self)
      obtain ⟨sl, e⟩ := I.base.slot L o ho (I.ok.frf L hL) hL fun z => I.ok.exfs L z hL
      exact ⟨hk, ⟨L, _, hf, hn, e, hd⟩, ih (fun b hb => hs b (by unfold frs; rw [List.filterMap_cons, hf]; exact List.mem_cons_of_mem _ hb)) hr⟩
  exact all X.outer (fun _ hb => hb) I.ok.funs
theorem Inv.stack (I : Inv X pins σ H s) : s.heap.FunFrames X.base X.stack := by
  rcases I.ok.stk with e | ⟨e, hf⟩
  · rw [e]; exact I.funs
  · rw [e]
    obtain ⟨m, hn, _⟩ := I.loc
    refine .cons (by rw [I.ok.kind]; decide) hf hn ?_ I.funs
    exact Heap.get?_none_of_le (Nat.le_trans I.ok.bsz I.ok.above)
theorem Inv.stkSub (I : Inv X pins σ H s) : ∀ b ∈ frs X.stack, b ∈ X.env.locals :: X.fs := fun b hb => by
  rcases I.ok.stk with e | ⟨e, hf⟩
  · rw [e] at hb; exact List.mem_cons_of_mem _ hb
  · rw [e] at hb
    unfold frs at hb
    rw [List.filterMap_cons, hf] at hb
    exact hb
theorem Inv.stkFree (I : Inv X pins σ H s) : ∀ b ∈ frs X.stack, H b = none := fun b hb => by
  rcases List.mem_cons.mp (I.stkSub b hb) with e | hb
  · rw [e]; exact I.free
  · obtain ⟨_, o, ho, _⟩ := I.ok.funs.mem hb
    exact I.base.free b o ho (I.ok.frf b hb) fun z => I.ok.exfs b z hb
theorem Inv.step {g' : Array GenState} {t' : Nat} {d' : Drawn} {ch : List Addr} (I : Inv X pins σ H s)
    (hch : ∀ b ∈ ch, (b ∈ X.ex ∨ X.s₀.heap.objs.size ≤ b) ∧ b ≠ X.env.locals ∧ (∀ x c, X.env.cells.lookup x = some c → c ≠ b) ∧ ∀ p ∈ X.pn ++ pins, p.1 ≠ b)
    (keep : ∀ b o, b ≠ X.env.locals → b ∉ X.fs → b ∉ ch → s.heap.get? b = some o → H b = none → h'.get? b = some o)
    (slot : ∀ b o, b ≠ X.env.locals → b ∈ X.fs → b ∉ ch → s.heap.get? b = some o → H b = none → ∃ sl, h'.get? b = some { o with slots := sl }) (free : ∀ b o, b ∉ ch → s.heap.get? b = some o → H b = none → H' b = none)
    (there : ∀ b o, b ∉ ch → s.heap.get? b = some o → ∃ o', h'.get? b = some o')
    (tups : ∀ b xs, H b = some (.tup xs) → H' b = some (.tup xs)) (frzs : ∀ b o u, H b = some (.frz o u) → H' b = some (.frz o u)) (tbls : ∀ b ps, H b = some (.tbl ps) → ∃ more, H' b = some (.tbl (ps ++ more)))
    (ns : ∀ m, s.heap.Ns X.env.locals m → h'.Ns X.env.locals m) (hok : HOk X.prog X.w H' h') (hg : AllBare g') :
    Inv X pins σ H' { s with heap := h', gens := g', drawn := d', toks := t' } := by
  have neL : ∀ b o, X.s₀.heap.get? b = some o → b ≠ X.env.locals := fun b o e => Nat.ne_of_lt (Nat.lt_of_lt_of_le (Heap.lt_size e) I.ok.above)
  have neC : ∀ b o, X.s₀.heap.get? b = some o → b ∉ X.ex → b ∉ ch := fun b o e hx hb => by
    rcases (hch b hb).1 with z | z
    · exact hx z
    · exact absurd (Nat.lt_of_lt_of_le (Heap.lt_size e) z) (Nat.lt_irrefl _)
  have cellK : ∀ x c, X.env.cells.lookup x = some c → ∀ v, s.heap.IsCell c v → h'.IsCell c v := fun x c e v ⟨o, ho, hd⟩ => by
    have nch : c ∉ ch := fun z => (hch c z).2.2.1 x c e rfl
    by_cases hc : c ∈ X.fs
    · obtain ⟨sl, q⟩ := slot c o (I.cne x c e) hc nch ho (I.freeC x c e)
      exact ⟨_, q, hd⟩
    · exact ⟨o, keep c o (I.cne x c e) hc nch ho (I.freeC x c e), hd⟩
  refine ⟨I.ok, I.os, hg, ⟨fun b o e n hb hx => ?_, fun b o e n hb hx => ?_, fun b o e n hx => ?_, fun b o e hx => ?_, fun b xs e => tups b xs (I.base.tups b xs e), fun b o xs e => frzs b o xs (I.base.frzs b o xs e), fun b ps e => ?_⟩, ?_, fun x c e => ?_, ?_, fun x c e => ?_, fun p hp => ?_, hok, I.len⟩
  · exact keep b o (neL b o e) hb (neC b o e hx) (I.base.keep b o e n hb hx) (I.base.free b o e n hx)
  · obtain ⟨sl, e1⟩ := I.base.slot b o e n hb hx
    obtain ⟨sl', e2⟩ := slot b _ (neL b o e) hb (neC b o e hx) e1 (I.base.free b o e n hx)
    exact ⟨sl', e2⟩
  · obtain ⟨o', e1⟩ := I.base.there b o e hx
    exact free b o' (neC b o e hx) e1 (I.base.free b o e n hx)
  · obtain ⟨o', e1⟩ := I.base.there b o e hx
    exact there b o' (neC b o e hx) e1
  · obtain ⟨m1, e1⟩ := I.base.tbls b ps e
    obtain ⟨m2, e2⟩ := tbls b _ e1
    exact ⟨m1 ++ m2, by rw [e2, Array.append_assoc]⟩
  · obtain ⟨m, hn, hl⟩ := I.loc
    refine ⟨m, ns m hn, fun i x v e1 e2 e3 => ?_⟩
    obtain ⟨u, r, l⟩ := hl i x v e1 e2 e3
    refine ⟨u, r, ?_⟩
    rcases l with l | ⟨k, c, e, z⟩
    · exact .inl l
    · exact .inr ⟨k, c, e, cellK x c e _ z⟩
  · obtain ⟨v, z⟩ := I.cell x c e
    exact ⟨v, cellK x c e v z⟩
  · obtain ⟨m, ⟨o, _, _, ho, _⟩, _⟩ := I.loc
    exact free _ o (fun z => (hch _ z).2.1 rfl) ho I.free
  · obtain ⟨v, o, ho, hd⟩ := I.cell x c e
    exact free c o (fun z => (hch c z).2.2.1 x c e rfl) ho (I.freeC x c e)
  · obtain ⟨e, n, ne, nf, d⟩ := I.pin p hp
    have nch : p.1 ∉ ch := fun z => (hch p.1 z).2.2.2 p hp rfl
    exact ⟨keep p.1 p.2 ne nf nch e n, free p.1 p.2 nch e n, ne, nf, d⟩
theorem Inv.un {t' : Nat} (I : Inv X pins σ H s) (u : Un X.fs [] H H' s.heap h') (hok : HOk X.prog X.w H' h') : Inv X pins σ H' { s with heap := h', toks := t' } := by
  obtain ⟨m, ⟨o, es, ep, ho, r⟩, _⟩ := id I.loc
  obtain ⟨sl, hL⟩ := u.any ho I.free (by simp)
  exact I.step (g' := s.gens) (d' := s.drawn) (ch := []) (fun _ z => nomatch z) (fun b o _ hb _ e n => u.keep b o e n hb (by simp)) (fun b o _ hb _ e n => u.slot b o e n hb (by simp)) (fun b o _ e n => u.free b o e n (by simp)) (fun b o _ e => u.there b o e (by simp)) u.tups u.frzs u.tbls (fun m' hm => by
    obtain ⟨o', es', ep', ho', r'⟩ := hm
    rw [ho] at ho'; cases ho'
    exact ⟨_, es', ep', hL, r'⟩) hok I.bare
theorem Inv.call {g' : Array GenState} {t' : Nat} {d' : Drawn} {ch : List Addr} (I : Inv X pins σ H s) (u : Un (frs X.stack) ch H H' s.heap h') (hok : HOk X.prog X.w H' h') (hg : AllBare g')
    (hch : ∀ b ∈ ch, (b ∈ X.ex ∨ X.s₀.heap.objs.size ≤ b) ∧ b ≠ X.env.locals ∧ (∀ x c, X.env.cells.lookup x = some c → c ≠ b) ∧ ∀ p ∈ X.pn ++ pins, p.1 ≠ b) :
    Inv X pins σ H' { s with heap := h', gens := g', drawn := d', toks := t' } := by
  obtain ⟨m, ⟨o, es, ep, ho, r⟩, _⟩ := id I.loc
  obtain ⟨sl, hL⟩ := u.any ho I.free fun z => (hch _ z).2.1 rfl
  exact I.step (ch := ch) hch (fun b o hL hb hc e n => u.keep b o e n (fun z => (List.mem_cons.mp (I.stkSub b z)).elim hL hb) hc) (fun b o _ _ hc e n => u.any e n hc) (fun b o hc e n => u.free b o e n hc) (fun b o hc e => u.there b o e hc) u.tups u.frzs u.tbls (fun m' hm => by
    obtain ⟨o', es', ep', ho', r'⟩ := hm
    rw [ho] at ho'; cases ho'
    exact ⟨_, es', ep', hL, r'⟩) hok hg
theorem Inv.turned {t' : Nat} {it : Addr} (I : Inv X pins σ H s) (k : ∀ b o, b ≠ it → s.heap.get? b = some o → h'.get? b = some o) (hn : H it = none) (hL : it ≠ X.env.locals)
    (h1 : it ∈ X.ex ∨ X.s₀.heap.objs.size ≤ it) (h2 : ∀ x c, X.env.cells.lookup x = some c → c ≠ it) (h3 : ∀ p ∈ X.pn ++ pins, p.1 ≠ it) : Inv X pins σ H { s with heap := h', toks := t' } := by
  have nit : ∀ b u, H b = some u → b ≠ it := fun b u e z => by rw [z, hn] at e; cases e
  refine I.step (g' := s.gens) (d' := s.drawn) (ch := [it]) (fun b hb => ?_) (fun b o _ _ hc e _ => k b o (fun z => hc (by simp [z])) e) (fun b o _ _ hc e _ => ⟨o.slots, k b o (fun z => hc (by simp [z])) e⟩) (fun _ _ _ _ n => n)
    (fun b o hc e => ⟨o, k b o (fun z => hc (by simp [z])) e⟩) (fun _ _ e => e) (fun _ _ _ e => e) (fun b ps e => ⟨#[], by rw [e]; simp⟩) (fun m hm => ?_) (fun b u e => ?_) I.bare
  · have e : b = it := by simpa using hb
    subst e
    exact ⟨h1, hL, h2, h3⟩
  · obtain ⟨o, es, ep, ho, r⟩ := hm
    exact ⟨o, es, ep, k _ o (Ne.symm hL) ho, r⟩
  · refine (I.hok b u e).stay (fun c v hc q => k c v ?_ q) (fun _ q => q) fun _ _ q => q
    rcases hc with z | z
    · rw [z]; exact nit b u e
    · exact nit c _ z
theorem Inv.tok (I : Inv X pins σ H s) (t : Nat) : Inv X pins σ H { s with toks := t } := I.un (h' := s.heap) (t' := t) Un.refl I.hok
theorem Inv.kept {t' : Nat} (I : Inv X pins σ H s) (k : ∀ b u, s.heap.get? b = some u → h'.get? b = some u) : Inv X pins σ H { s with heap := h', toks := t' } := I.un (Un.kept k) (I.hok.kept k)
theorem Inv.laid {a : Addr} {o : HO} {t' : Nat} (I : Inv X pins σ H s) (k : ∀ b u, s.heap.get? b = some u → h'.get? b = some u) (hp : s.heap.objs.size ≤ a) (new : ObjOk X.prog X.w (upd H a o) h' a o) :
    Inv X pins σ (upd H a o) { s with heap := h', toks := t' } := I.un (Un.laid k hp (I.hok.fresh hp)) (I.hok.laid k hp new)
theorem Inv.write {x e : Addr} {o : HO} {t' : Nat} (I : Inv X pins σ H s) (mu : Mut (H x)) (he : e = x ∨ H e = some (.own x)) (k : ∀ b u, b ≠ e → s.heap.get? b = some u → h'.get? b = some u) (heo : ∃ u, h'.get? e = some u)
    (new : ObjOk X.prog X.w (upd H x o) h' x o) : Inv X pins σ (upd H x o) { s with heap := h', toks := t' } := I.un (Un.write mu he k heo) (I.hok.write mu he k heo new)
theorem Inv.weak {σ' : List (Option V)} (I : Inv X pins σ H s) (hl : σ'.length = σ.length) (w : ∀ (i : Nat) v, σ'[i]? = some (some v) → σ[i]? = some (some v)) : Inv X pins σ' H s :=
  ⟨I.ok, I.os, I.bare, I.base, let ⟨m, hn, hl'⟩ := I.loc; ⟨m, hn, fun i x v e1 e2 e3 => hl' i x v e1 (w i v e2) e3⟩, I.cell, I.free, I.freeC, I.pin, I.hok, hl.trans I.len⟩
theorem Inv.pins_of {pins' : List (Addr × Obj)} (I : Inv X pins σ H s) (h : ∀ p ∈ pins', s.heap.get? p.1 = some p.2 ∧ H p.1 = none ∧ p.1 ≠ X.env.locals ∧ p.1 ∉ X.fs ∧ ∀ v, p.2.data ≠ .cell v) : Inv X pins' σ H s :=
  ⟨I.ok, I.os, I.bare, I.base, I.loc, I.cell, I.free, I.freeC, fun p hp => (List.mem_append.mp hp).elim (fun z => I.pin p (List.mem_append_left _ z)) (h p), I.hok, I.len⟩
theorem nodup_ix {N : List Str} (hN : N.Nodup) {i j : Nat} {x : Str} (a : N[i]? = some x) (b : N[j]? = some x) : i = j := by
  obtain ⟨h1, e1⟩ := List.getElem?_eq_some_iff.mp a
  obtain ⟨h2, e2⟩ := List.getElem?_eq_some_iff.mp b
  exact (List.getElem_inj hN).mp (e1.trans e2.symm)
theorem store_ok2 {M : Model} {A : Around} {E : Value → Shared → Prop} {i : Nat} {x : Str} {v : V} {u : Value} {Q : Unit → Shared → Prop} (I : Inv X pins σ H s) (hN : X.N.Nodup) (hi : X.N[i]? = some x) (hx : Loc X.env.scope x) (r : RelV v u)
    (h : ∀ s', Inv X pins (σ.set i (some v)) H s' → (∃ a, Heap.SameBut a s.heap s'.heap ∧ (a = X.env.locals ∨ X.env.cells.lookup x = some a)) → Q () s') (hf : X.fn x = true ∨ X.env.scope.names.lookup x = some .local := by first | exact .inl rfl | exact .inr rfl | assumption) : wpAny M A (storeName X.env x u) Q E s := by
  obtain ⟨m, hn, hl⟩ := id I.loc
  have hcls : (X.env.scope.kind == .class || (X.env.scope.kind == .module && X.env.locals != X.env.globals)) = false := by rw [I.ok.kind]; rfl
  have hiσ : i < σ.length := by rw [I.len]; exact (List.getElem?_eq_some_iff.mp hi).1
  have cne := I.cne
  have tracked : ∀ {a : Addr} {h' : Heap}, (∃ o, s.heap.get? a = some o ∧ H a = none) → Heap.SameBut a s.heap h' → HOk X.prog X.w H h' := fun {a h'} ha hs b ob e => by
    obtain ⟨_, _, hfree⟩ := ha
    refine (I.hok b ob e).stay (fun c w' hc q => (hs.2 c ?_).trans q) (fun _ q => q) fun _ _ q => q
    rintro rfl
    rcases hc with rfl | hc
    · rw [hfree] at e; cases e
    · rw [hfree] at hc; cases hc
  rcases hx with hk | hk
  · refine wpAny_storeName_local hk hn (fun h' hn' hs => ?_) hcls
    obtain ⟨oL, _, _, hoL, _⟩ := id hn
    refine h _ ⟨I.ok, I.os, I.bare, ⟨fun b o e n hb hx => ?_, fun b o e n hb hx => ?_, I.base.free, fun b o e hx => ?_, I.base.tups, I.base.frzs, I.base.tbls⟩, ⟨_, hn', fun j y v' e1 e2 e3 => ?_⟩, fun y c e => ?_, I.free, I.freeC, fun p hp => ?_, tracked ⟨oL, hoL, I.free⟩ hs, by simpa using I.len⟩ ⟨_, hs, .inl rfl⟩
    · exact (hs.2 b (Nat.ne_of_lt (Nat.lt_of_lt_of_le (Heap.lt_size e) I.ok.above))).trans (I.base.keep b o e n hb hx)
    · obtain ⟨sl, e1⟩ := I.base.slot b o e n hb hx
      exact ⟨sl, (hs.2 b (Nat.ne_of_lt (Nat.lt_of_lt_of_le (Heap.lt_size e) I.ok.above))).trans e1⟩
    · obtain ⟨o', e1⟩ := I.base.there b o e hx
      exact ⟨o', (hs.2 b (Nat.ne_of_lt (Nat.lt_of_lt_of_le (Heap.lt_size e) I.ok.above))).trans e1⟩
    · by_cases hj : j = i
      · subst hj
        rw [hi] at e1; cases e1
        rw [List.getElem?_set_self hiσ] at e2
        cases e2
        exact ⟨u, r, .inl ⟨hk, by simp⟩⟩
      · rw [List.getElem?_set_ne (Ne.symm hj)] at e2
        obtain ⟨u', r', q⟩ := hl j y v' e1 e2 e3
        refine ⟨u', r', ?_⟩
        rcases q with ⟨k, e⟩ | ⟨k, c, e, z⟩
        · refine .inl ⟨k, ?_⟩
          have : y ≠ x := fun e => hj (nodup_ix hN e1 (e ▸ hi))
          simp [this, e]
        · exact .inr ⟨k, c, e, z.sameBut hs (cne y c e)⟩
    · obtain ⟨w', z⟩ := I.cell y c e
      exact ⟨w', z.sameBut hs (cne y c e)⟩
    · obtain ⟨e, n, ne, nf, d⟩ := I.pin p hp
      exact ⟨(hs.2 p.1 ne).trans e, n, ne, nf, d⟩
  · have hfn : X.fn x = true := by
      rcases hf with z | z
      · exact z
      · rw [z] at hk; cases hk
    obtain ⟨c, hc⟩ := I.ok.has x (.inl hk)
    obtain ⟨w', z⟩ := I.cell x c hc
    refine wpAny_storeName_cell I.ok.kind hk hc z (fun h' hc' hs => ?_)
    obtain ⟨oc, hoc, hocd⟩ := id z
    refine h { s with heap := h' } ⟨I.ok, I.os, I.bare, ⟨fun b o e n hb hx => ?_, fun b o e n hb hx => ?_, I.base.free, fun b o e hx => ?_, I.base.tups, I.base.frzs, I.base.tbls⟩, ⟨m, hn.sameBut hs (Ne.symm (cne x c hc)), fun j y v' e1 e2 e3 => ?_⟩, fun y c' e => ?_, I.free, I.freeC, fun p hp => ?_, tracked ⟨oc, hoc, I.freeC x c hc⟩ hs, by simpa using I.len⟩ ⟨c, hs, .inr hc⟩
    · exact (hs.2 b (Nat.ne_of_lt (Nat.lt_of_lt_of_le (Heap.lt_size e) (I.ok.cab x c hfn hc)))).trans (I.base.keep b o e n hb hx)
    · obtain ⟨sl, e1⟩ := I.base.slot b o e n hb hx
      exact ⟨sl, (hs.2 b (Nat.ne_of_lt (Nat.lt_of_lt_of_le (Heap.lt_size e) (I.ok.cab x c hfn hc)))).trans e1⟩
    · obtain ⟨o', e1⟩ := I.base.there b o e hx
      exact ⟨o', (hs.2 b (Nat.ne_of_lt (Nat.lt_of_lt_of_le (Heap.lt_size e) (I.ok.cab x c hfn hc)))).trans e1⟩
    · by_cases hj : j = i
      · subst hj
        rw [hi] at e1; cases e1
        rw [List.getElem?_set_self hiσ] at e2
        cases e2
        exact ⟨u, r, .inr ⟨.inl hk, c, hc, hc'⟩⟩
      · rw [List.getElem?_set_ne (Ne.symm hj)] at e2
        obtain ⟨u', r', q⟩ := hl j y v' e1 e2 e3
        refine ⟨u', r', ?_⟩
        rcases q with q | ⟨k, c', e, z'⟩
        · exact .inl q
        · refine .inr ⟨k, c', e, z'.sameBut hs ?_⟩
          rintro rfl
          exact hj (nodup_ix hN e1 (I.ok.inj _ _ _ e hc ▸ hi))
    · by_cases hcc : c' = c
      · subst hcc; exact ⟨_, hc'⟩
      · obtain ⟨w2, z2⟩ := I.cell y c' e
        exact ⟨w2, z2.sameBut hs hcc⟩
    · obtain ⟨e, n, ne, nf, d⟩ := I.pin p hp
      refine ⟨(hs.2 p.1 ?_).trans e, n, ne, nf, d⟩
      intro q
      rw [q, hoc] at e
      have q' : oc = p.2 := Option.some.inj e
      exact d w' (by rw [← q']; exact hocd)
theorem store_ok {M : Model} {A : Around} {E : Value → Shared → Prop} {i : Nat} {x : Str} {v : V} {u : Value} {Q : Unit → Shared → Prop} (I : Inv X pins σ H s) (hN : X.N.Nodup) (hi : X.N[i]? = some x) (hx : Loc X.env.scope x) (r : RelV v u)
    (h : ∀ s', Inv X pins (σ.set i (some v)) H s' → Q () s') (hf : X.fn x = true ∨ X.env.scope.names.lookup x = some .local := by first | exact .inl rfl | exact .inr rfl | assumption) : wpAny M A (storeName X.env x u) Q E s :=
  store_ok2 I hN hi hx r (fun s' I' _ => h s' I') hf
theorem Inv.call' {s' : Shared} {ch : List Addr} (I : Inv X pins σ H s) (ho : s'.os = s.os) (u : Un (frs X.stack) ch H H' s.heap s'.heap) (hok : HOk X.prog X.w H' s'.heap) (hg : AllBare s'.gens)
    (hch : ∀ b ∈ ch, (b ∈ X.ex ∨ X.s₀.heap.objs.size ≤ b) ∧ b ≠ X.env.locals ∧ (∀ x c, X.env.cells.lookup x = some c → c ≠ b) ∧ ∀ p ∈ X.pn ++ pins, p.1 ≠ b) : Inv X pins σ H' s' := by
  obtain ⟨h', g', d', t', o'⟩ := s'
  have e : o' = s.os := ho
  subst e
  exact I.call (g' := g') (t' := t') (d' := d') u hok hg hch
end
abbrev XK := Value → Option Addr → Hp → Prop
abbrev St := List (Option V)
abbrev VK := V → Hp → Prop
abbrev TE := St → Hp → VK → Prop
abbrev TT := St → Hp → (Bool → Hp → Prop) → Prop
abbrev TA := St → Hp → (List V → Hp → Prop) → Prop
structure Ends where
  nx : St → Hp → Prop
  rt : VK
  bk : St → Hp → Prop := fun _ _ => False
  ct : St → Hp → Prop := fun _ _ => False
abbrev TS := Ends → St → Hp → Prop
def EP (X : Cx) (pins : List (Addr × Obj)) (σ : St) (Q : VK) (u : Value) (s' : Shared) : Prop := ∃ v H', Inv X pins σ H' s' ∧ RelV v u ∧ Q v H'
def TP (X : Cx) (pins : List (Addr × Obj)) (σ : St) (Q : Bool → Hp → Prop) (b : Bool) (s' : Shared) : Prop := ∃ H', Inv X pins σ H' s' ∧ Q b H'
def AP (X : Cx) (pins : List (Addr × Obj)) (σ : St) (Q : List V → Hp → Prop) (us : List Value) (s' : Shared) : Prop := ∃ vs H', Inv X pins σ H' s' ∧ Vals vs us ∧ Q vs H'
def SP (X : Cx) (pins : List (Addr × Obj)) (D : Ends) (f : Flow) (s' : Shared) : Prop :=
  match f with
  | .next => ∃ σ' H', Inv X pins σ' H' s' ∧ D.nx σ' H'
  | .brk => ∃ σ' H', Inv X pins σ' H' s' ∧ D.bk σ' H'
  | .cont => ∃ σ' H', Inv X pins σ' H' s' ∧ D.ct σ' H'
  | .ret u => ∃ v σ' H', Inv X pins σ' H' s' ∧ RelV v u ∧ D.rt v H'
def PE (X : Cx) (e : Expr) (t : TE) : Prop :=
  ∀ (pins : List (Addr × Obj)) (s : Shared) (σ : St) (H : Hp) (Q : VK), Inv X pins σ H s → t σ H Q → wpAny (model X.prog X.w) X.A (eval e X.env) (EP X pins σ Q) X.xe s
def PT (X : Cx) (e : Expr) (t : TT) : Prop :=
  ∀ (pins : List (Addr × Obj)) (s : Shared) (σ : St) (H : Hp) (Q : Bool → Hp → Prop), Inv X pins σ H s → t σ H Q → wpAny (model X.prog X.w) X.A (isTrue e X.env (eval e X.env)) (TP X pins σ Q) X.xe s
def PW (X : Cx) (e : Expr) (t : TT) : Prop :=
  ∀ (whole : Sem Value) (pins : List (Addr × Obj)) (s : Shared) (σ : St) (H : Hp) (Q : Bool → Hp → Prop), Inv X pins σ H s → t σ H Q → wpAny (model X.prog X.w) X.A (isTrue e X.env whole) (TP X pins σ Q) X.xe s
theorem PW.pt {X : Cx} {e : Expr} {t : TT} (h : PW X e t) : PT X e t := h _
def PA (X : Cx) (es : List Expr) (t : TA) : Prop :=
  ∀ (pos : Pos) (pins : List (Addr × Obj)) (s : Shared) (σ : St) (H : Hp) (Q : List V → Hp → Prop), Inv X pins σ H s → t σ H Q → wpAny (model X.prog X.w) X.A (spliced (backTo pos (starEach es X.env))) (AP X pins σ Q) X.xe s
def PS (X : Cx) (st : Stmt) (t : TS) : Prop :=
  ∀ (pins : List (Addr × Obj)) (s : Shared) (σ : St) (H : Hp) (D : Ends), Inv X pins σ H s → t D σ H → wpAny (model X.prog X.w) X.A (exec st X.env) (SP X pins D) X.xe s
def PSs (X : Cx) (st : List Stmt) (t : TS) : Prop :=
  ∀ (pins : List (Addr × Obj)) (s : Shared) (σ : St) (H : Hp) (D : Ends), Inv X pins σ H s → t D σ H → wpAny (model X.prog X.w) X.A (execs st X.env) (SP X pins D) X.xe s
theorem thn {α : Type} {t : Sem α} {Q Q' : α → Shared → Prop} {M : Model} {A : Around} {E : Value → Shared → Prop} {s : Shared} (h : wpAny M A t Q E s) (hQ : ∀ a s, Q a s → Q' a s) : wpAny M A t Q' E s := wpAny_mono h hQ fun _ _ x => x
end L2
namespace L2
open PySem PySem.Spec PyProof.Rows
section
variable {X : Cx}
def tVar (i : Nat) : TE := fun σ H Q => ∃ v, σ[i]? = some (some v) ∧ Q v H
def tC (v : V) : TE := fun _ H Q => Q v H
theorem pe_var {i : Nat} {x : Str} {pos : Pos} (hN : X.N[i]? = some x) (hv : Vis X.env.scope x) (hd : (x == ("__debug__" : Str)) = false := by decide) (hcd : (x == ("__classdict__" : Str)) = false := by decide) : PE X (.Name x pos) (tVar i) := by
  intro pins s σ H Q I h
  obtain ⟨v, e, h⟩ := h
  obtain ⟨m, hn, hl⟩ := I.loc
  obtain ⟨u, r, l⟩ := hl i x v hN e hv
  have fin : EP X pins σ Q u s := ⟨v, H, I, r, h⟩
  rcases l with ⟨hk, hm⟩ | ⟨hk, c, hc, hcell⟩
  · exact wpAny_Name (wpAny_loadName_local I.ok.kind hk hn hm fin) hd
  · rcases hk with hk | hk
    · exact wpAny_Name (wpAny_loadName_cell I.ok.kind hk hc hcell fin) hd
    · exact wpAny_Name (wpAny_loadName_free I.ok.kind hk hc hcell fin hcd) hd
theorem pe_int {i j pos} : PE X (.Constant (.int i) j pos) (tC (.int i)) := fun _ _ _ H _ I h => wpAny_Constant_int ⟨.int i, H, I.tok _, ⟨_, rfl⟩, h⟩
theorem pe_bl {b j pos} : PE X (.Constant (.bool b) j pos) (tC (.bl b)) := fun _ _ _ H _ I h => Constant_bool ⟨.bl b, H, I, rfl, h⟩
theorem pe_str {x j pos} : PE X (.Constant (.str x) j pos) (tC (.str x)) := fun _ _ _ H _ I h => Calls.Constant_str ⟨.str x, H, I.tok _, ⟨_, rfl⟩, h⟩
def Gl (X : Cx) (x : Str) : Prop := X.env.kindOf x = some .globalImplicit
theorem ld_glob {E : Value → Shared → Prop} {pins : List (Addr × Obj)} {s : Shared} {σ : St} {H : Hp} {x : Str} {u : Value} {pos : Pos} {Q : Value → Shared → Prop} (I : Inv X pins σ H s) (hg : Gl X x) (hm : X.mg x = some u) (h : Q u s)
    (hd : (x == ("__debug__" : Str)) = false := by decide) : wpAny (model X.prog X.w) X.A (eval (.Name x pos) X.env) Q E s :=
  Calls.Name_function_global I.ok.kind hg (Calls.loadGlobal_global (by rw [I.ok.glob]; exact I.mod.glob.keeps I.bk) hm h) hd
theorem ld_blt {E : Value → Shared → Prop} {pins : List (Addr × Obj)} {s : Shared} {σ : St} {H : Hp} {x : Str} {u : Value} {pos : Pos} {Q : Value → Shared → Prop} (I : Inv X pins σ H s) (hg : Gl X x) (hm : X.mg x = none) (hv : bootBuiltins x = some u) (h : Q u s)
    (hn : x ≠ "__name__" := by decide) (hd : (x == ("__debug__" : Str)) = false := by decide) : wpAny (model X.prog X.w) X.A (eval (.Name x pos) X.env) Q E s := by
  obtain ⟨mb, h1, h2⟩ := I.mod.blt
  exact Calls.Name_function_global I.ok.kind hg (Calls.loadGlobal_builtin (by rw [I.ok.glob]; exact I.mod.glob.keeps I.bk) hm (by rw [I.ok.blt]; exact h1.keeps I.bk) ((h2 x hn).trans hv) h) hd
theorem pe_glob {x : Str} {v : V} {u : Value} {pos : Pos} (hg : Gl X x) (hm : X.mg x = some u) (r : RelV v u) (hd : (x == ("__debug__" : Str)) = false := by decide) : PE X (.Name x pos) (tC v) :=
  fun _ _ _ H _ I h => ld_glob I hg hm ⟨v, H, I, r, h⟩ hd
theorem pe_bltn {x : Str} {v : V} {u : Value} {pos : Pos} (hg : Gl X x) (hm : X.mg x = none) (hv : bootBuiltins x = some u) (r : RelV v u) (hn : x ≠ "__name__" := by decide) (hd : (x == ("__debug__" : Str)) = false := by decide) : PE X (.Name x pos) (tC v) :=
  fun _ _ _ H _ I h => ld_blt I hg hm hv ⟨v, H, I, r, h⟩ hn hd
variable {a b : Expr} {ta tb : TE} {pos : Pos}
def tB (t : TE) : TT := fun σ H Q => t σ H fun x H1 => ∃ c, x = .bl c ∧ Q c H1
theorem pt_val {e : Expr} {t : TE} (h : PE X e t) (he : ∀ whole, isTrue e X.env whole = (do let v ← whole; standAt e.pos; holding [v] (truthy v)) := by intro _; rfl) : PT X e (tB t) := by
  intro pins s σ H Q I hw
  refine isTrue_plain (thn (h pins s σ H _ I hw) fun v s1 ⟨x, H1, I1, r1, q1⟩ => ?_) (he _)
  obtain ⟨d, rfl, q⟩ := q1
  cases r1
  exact wpAny_truthy_bool ⟨H1, I1, q⟩
variable {tA tB' : TT} {rest : List Expr}
def tAnd (t u : TT) : TT := fun σ H Q => t σ H fun c H1 => if c = true then u σ H1 Q else Q false H1
def tOr (t u : TT) : TT := fun σ H Q => t σ H fun c H1 => if c = true then Q true H1 else u σ H1 Q
def tNot (t : TT) : TT := fun σ H Q => t σ H fun c H1 => Q (!c) H1
theorem pw_and1 (ha : PT X a tA) : PW X (.BoolOp .And [a] pos) tA := by
  intro wh pins s σ H Q I h
  refine isTrue_and (thn (ha pins s σ H Q I h) fun c s1 e => ?_)
  cases c with
  | true => exact isTrue_and_nil e
  | false => exact e
theorem pw_or1 (ha : PT X a tA) : PW X (.BoolOp .Or [a] pos) tA := by
  intro wh pins s σ H Q I h
  refine isTrue_or (thn (ha pins s σ H Q I h) fun c s1 e => ?_)
  cases c with
  | false => exact isTrue_or_nil e
  | true => exact e
theorem pw_and (ha : PT X a tA) (hb : PW X (.BoolOp .And (b :: rest) pos) tB') : PW X (.BoolOp .And (a :: b :: rest) pos) (tAnd tA tB') := by
  intro wh pins s σ H Q I h
  refine isTrue_and (thn (ha pins s σ H _ I h) fun c s1 ⟨H1, I1, q1⟩ => ?_)
  cases c with
  | true => exact hb wh pins s1 σ H1 Q I1 q1
  | false => exact ⟨H1, I1, q1⟩
theorem pw_or (ha : PT X a tA) (hb : PW X (.BoolOp .Or (b :: rest) pos) tB') : PW X (.BoolOp .Or (a :: b :: rest) pos) (tOr tA tB') := by
  intro wh pins s σ H Q I h
  refine isTrue_or (thn (ha pins s σ H _ I h) fun c s1 ⟨H1, I1, q1⟩ => ?_)
  cases c with
  | true => exact ⟨H1, I1, q1⟩
  | false => exact hb wh pins s1 σ H1 Q I1 q1
theorem pt_not (ha : PT X a tA) : PT X (.UnaryOp .Not a pos) (tNot tA) := by
  intro pins s σ H Q I h
  exact isTrue_not (ha pins s σ H (fun c H1 => Q (!c) H1) I h)
def tAndV (ta tb : TE) : TE := fun σ H Q => ta σ H fun x H1 => ∃ c, x = .bl c ∧ if c = true then tb σ H1 Q else Q (.bl false) H1
def tNotV (ta : TE) : TE := fun σ H Q => ta σ H fun x H1 => ∃ c, x = .bl c ∧ Q (.bl (!c)) H1
theorem pe_one {op} {t : TE} (h : PE X a t) : PE X (.BoolOp op [a] pos) t := fun pins s σ H Q I hw => BoolOp_one (h pins s σ H Q I hw)
theorem pe_and (ha : PE X a ta) (hb : PE X (.BoolOp .And (b :: rest) pos) tb) : PE X (.BoolOp .And (a :: b :: rest) pos) (tAndV ta tb) := by
  intro pins s σ H Q I h
  refine BoolOp_and (thn (ha pins s σ H _ I h) fun v s1 ⟨x, H1, I1, r1, q1⟩ => ?_)
  obtain ⟨c, rfl, q1⟩ := q1
  cases r1
  refine wpAny_truthy_bool ?_
  cases c with
  | true => exact hb pins s1 σ H1 Q I1 q1
  | false => exact ⟨.bl false, H1, I1, rfl, q1⟩
theorem pe_not (ha : PE X a ta) : PE X (.UnaryOp .Not a pos) (tNotV ta) := by
  intro pins s σ H Q I h
  refine UnaryOp_ (thn (ha pins s σ H _ I h) fun v s1 ⟨x, H1, I1, r1, q1⟩ => ?_)
  obtain ⟨c, rfl, q1⟩ := q1
  cases r1
  exact not_of (wpAny_truthy_bool ⟨.bl (!c), H1, I1, rfl, q1⟩)
end
end L2
namespace L2
open PySem PySem.Spec PyProof.Rows
def SqL (K : PySem.W.Frag) (H : Hp) (a : Addr) (xs : List V) : Prop :=
  Rd H a (.lst xs) ∨
    ∃ (o : Obj) (its : Array Value) (n : Nat), K.lookup a = some o ∧ o.cls = .type "list" ∧ o.dict = none ∧ o.data = .seq its n ∧ its.size ≤ sizeLine ∧ Vals xs its.toList
def SqT (K : PySem.W.Frag) (H : Hp) (a : Addr) (xs : List V) : Prop :=
  Rd H a (.tup xs) ∨
    ∃ (o : Obj) (its : Array Value) (n : Nat), K.lookup a = some o ∧ o.cls = .type "tuple" ∧ o.data = .seq its n ∧ its.size ≤ sizeLine ∧ Vals xs its.toList
def absV : Value → Option V
  | .none => some .non
  | .bool b => some (.bl b)
  | .int i _ => some (.int i)
  | .str x _ => some (.str x)
  | .bytes b _ => some (.byt b)
  | .float b _ => some (.flt b)
  | .ref a => some (.ref a)
  | .type n => some (.ty n)
  | _ => none
theorem RelV.abs {x : V} {u : Value} (r : RelV x u) : absV u = some x := by
  cases x with
  | non => cases r; rfl
  | bl _ => cases r; rfl
  | int _ => obtain ⟨t, rfl⟩ := r; rfl
  | str _ => obtain ⟨t, rfl⟩ := r; rfl
  | byt _ => obtain ⟨t, rfl⟩ := r; rfl
  | flt _ => obtain ⟨t, rfl⟩ := r; rfl
  | ref _ => cases r; rfl
  | ty _ => cases r; rfl
theorem RelV.inj {x y : V} {u : Value} (r : RelV x u) (q : RelV y u) : x = y := Option.some.inj (r.abs.symm.trans q.abs)
theorem Vals.inj : ∀ {xs ys : List V} {us : List Value}, Vals xs us → Vals ys us → xs = ys
  | _, _, _, .nil, .nil => rfl
  | _, _, _, .cons r t, .cons r' t' => by rw [r.inj r', Vals.inj t t']
section
variable {X : Cx} {pins : List (Addr × Obj)} {σ : St} {H : Hp} {s : Shared} {a : Addr} {xs ys : List V}
theorem SqL.of {K : PySem.W.Frag} (h : H a = some (.lst xs)) : SqL K H a xs := .inl (.inl h)
theorem SqT.of {K : PySem.W.Frag} (h : H a = some (.tup xs)) : SqT K H a xs := .inl (.inl h)
theorem Inv.list (I : Inv X pins σ H s) (h : SqL X.K H a xs) : ∃ its : List Value, Vals xs its ∧ PlainL s.heap a its.toArray ∧ xs.length ≤ sizeLine := by
  rcases h with h | ⟨o, its, n, hk, hc, hd, hs, hz, r⟩
  · obtain ⟨z, its, n, r, e⟩ := h.ok I.hok
    exact ⟨its, r, ⟨_, n, e, rfl, rfl, rfl⟩, z⟩
  · refine ⟨its.toList, r, ⟨o, n, I.kIn a o hk, hc, hd, by simpa using hs⟩, ?_⟩
    have e := r.length
    simp only [Array.length_toList] at e
    omega
theorem Inv.tuple (I : Inv X pins σ H s) (h : SqT X.K H a xs) : ∃ its : List Value, Vals xs its ∧ IsTup s.heap a its.toArray ∧ xs.length ≤ sizeLine := by
  rcases h with h | ⟨o, its, n, hk, hc, hs, hz, r⟩
  · obtain ⟨z, its, r, p⟩ := h.ok I.hok
    exact ⟨its, r, p, z⟩
  · refine ⟨its.toList, r, ⟨o, I.kIn a o hk, hc, n, by simpa using hs⟩, ?_⟩
    have e := r.length
    simp only [Array.length_toList] at e
    omega
theorem Inv.list_inj (I : Inv X pins σ H s) (h : SqL X.K H a xs) (h' : SqL X.K H a ys) : xs = ys := by
  obtain ⟨its, r, ⟨o, n, e, _, _, d⟩, _⟩ := I.list h
  obtain ⟨its', r', ⟨o', n', e', _, _, d'⟩, _⟩ := I.list h'
  rw [e] at e'; cases e'
  rw [d] at d'
  injection d' with d1 _
  have : its = its' := by simpa using congrArg Array.toList d1
  subst this
  exact r.inj r'
theorem Inv.tuple_inj (I : Inv X pins σ H s) (h : SqT X.K H a xs) (h' : SqT X.K H a ys) : xs = ys := by
  obtain ⟨its, r, ⟨o, e, _, n, d⟩, _⟩ := I.tuple h
  obtain ⟨its', r', ⟨o', e', _, n', d'⟩, _⟩ := I.tuple h'
  rw [e] at e'; cases e'
  rw [d] at d'
  injection d' with d1 _
  have : its = its' := by simpa using congrArg Array.toList d1
  subst this
  exact r.inj r'
end
abbrev Cx.wish (X : Cx) (E : Value → Shared → Prop) : Cx := { X with xe := E }
abbrev Cx.nox (X : Cx) : Cx := X.wish fun _ _ => False
theorem Cx.Ok.wish {X : Cx} (ok : X.Ok) (E : Value → Shared → Prop) : (X.wish E).Ok :=
  ⟨ok.mod, ok.kind, ok.glob, ok.blt, ok.above, ok.inj, ok.has, ok.cab, ok.hd, ok.frames, ok.stk, ok.exf, ok.bs, ok.bsz, ok.noex, ok.exfs, ok.funs, ok.frf⟩
theorem Cx.Ok.unwish {X : Cx} {E : Value → Shared → Prop} (ok : (X.wish E).Ok) : X.Ok :=
  ⟨ok.mod, ok.kind, ok.glob, ok.blt, ok.above, ok.inj, ok.has, ok.cab, ok.hd, ok.frames, ok.stk, ok.exf, ok.bs, ok.bsz, ok.noex, ok.exfs, ok.funs, ok.frf⟩
section
variable {X : Cx} {pins : List (Addr × Obj)} {σ : St} {H : Hp} {s : Shared} {E : Value → Shared → Prop}
theorem Inv.wish (I : Inv X pins σ H s) (E : Value → Shared → Prop) : Inv (X.wish E) pins σ H s := ⟨I.ok.wish E, I.os, I.bare, I.base, I.loc, I.cell, I.free, I.freeC, I.pin, I.hok, I.len⟩
theorem Inv.unwish (I : Inv (X.wish E) pins σ H s) : Inv X pins σ H s := ⟨I.ok.unwish, I.os, I.bare, I.base, I.loc, I.cell, I.free, I.freeC, I.pin, I.hok, I.len⟩
theorem SP.unwish {D : Ends} {f : Flow} {s' : Shared} (h : SP (X.wish E) pins D f s') : SP X pins D f s' := by
  cases f with
  | next => obtain ⟨σ', H', I, q⟩ := h; exact ⟨σ', H', I.unwish, q⟩
  | brk => obtain ⟨σ', H', I, q⟩ := h; exact ⟨σ', H', I.unwish, q⟩
  | cont => obtain ⟨σ', H', I, q⟩ := h; exact ⟨σ', H', I.unwish, q⟩
  | ret u => obtain ⟨v, σ', H', I, r, q⟩ := h; exact ⟨v, σ', H', I.unwish, r, q⟩
theorem PSs.nox {st : List Stmt} {t : TS} (h : PSs X.nox st t) : PSs X st t := fun pins s σ H D I hw =>
  wpAny_mono (h pins s σ H D (I.wish _) hw) (fun _ _ q => q.unwish) fun _ _ z => False.elim z
end
section
variable {X : Cx} {st : Stmt} {rest : List Stmt} {t u : TS} {e : Expr} {te : TE} {pos : Pos}
def tNext : TS := fun D σ H => D.nx σ H
def tSeq (t u : TS) : TS := fun D σ H => t { D with nx := u D } σ H
theorem pss_nil : PSs X [] tNext := fun _ _ σ H _ I h => wpAny_execs_nil ⟨σ, H, I, h⟩
theorem pss_cons (h1 : PS X st t) (h2 : PSs X rest u) : PSs X (st :: rest) (tSeq t u) := by
  intro pins s σ H D I h
  refine wpAny_execs_cons (thn (h1 pins s σ H { D with nx := u D } I h) fun f s1 q => ?_)
  cases f with
  | next =>
    obtain ⟨σ', H', I', q⟩ := q
    exact h2 pins s1 σ' H' D I' q
  | ret v => exact q
  | brk => exact q
  | cont => exact q
theorem pss_one (h1 : PS X st t) : PSs X [st] t := by
  intro pins s σ H D I h
  refine wpAny_execs_cons (thn (h1 pins s σ H D I h) fun f s1 q => ?_)
  cases f with
  | next => exact wpAny_execs_nil q
  | ret v => exact q
  | brk => exact q
  | cont => exact q
theorem Inv.quiet {pins : List (Addr × Obj)} {σ : St} {H : Hp} {s : Shared} (I : Inv X pins σ H s) : interactive X.env = false := by simp [interactive, I.ok.kind]
def tDrop (te : TE) : TS := fun D σ H => te σ H fun _ H1 => D.nx σ H1
theorem ps_expr (he : PE X e te) (hs : swapsWith e none pos.line X.env = pure false := by rfl) : PS X (.Expr e pos) (tDrop te) := by
  intro pins s σ H D I h
  exact wpAny_Expr_any (thn (he pins s σ H _ I h) fun v s1 ⟨x, H1, I1, r1, q1⟩ => ⟨σ, H1, I1, q1⟩) I.quiet hs
def tRet (te : TE) : TS := fun D σ H => te σ H D.rt
theorem ps_ret (he : PE X e te) : PS X (.Return (some e) pos) (tRet te) := by
  intro pins s σ H D I h
  exact wpAny_Return_some (thn (he pins s σ H _ I h) fun v s1 ⟨x, H1, I1, r1, q1⟩ => ⟨x, σ, H1, I1, r1, q1⟩)
def tIfS (c : TT) (t u : TS) : TS := fun D σ H => c σ H fun b H1 => if b = true then t D σ H1 else u D σ H1
theorem ps_if {c : Expr} {a b : List Stmt} {tc : TT} (hc : PT X c tc) (ha : PSs X a t) (hb : PSs X b u) : PS X (.If c a b pos) (tIfS tc t u) := by
  intro pins s σ H D I h
  refine wpAny_If (thn (hc pins s σ H _ I h) fun d s1 ⟨H1, I1, q1⟩ => ?_)
  cases d with
  | true => exact ha pins s1 σ H1 D I1 q1
  | false => exact hb pins s1 σ H1 D I1 q1
end
abbrev TG := V → St → Hp → (St → Hp → Prop) → Prop
abbrev TGs := List V → St → Hp → (St → Hp → Prop) → Prop
def PG (X : Cx) (target : Expr) (t : TG) : Prop :=
  ∀ (pins : List (Addr × Obj)) (s : Shared) (σ : St) (H : Hp) (v : V) (u : Value) (Q : St → Hp → Prop), Inv X pins σ H s → RelV v u → t v σ H Q →
    wpAny (model X.prog X.w) X.A (assign target X.env u) (fun _ s' => ∃ σ' H', Inv X pins σ' H' s' ∧ Q σ' H') X.xe s
def PGs (X : Cx) (ts : List Expr) (t : TGs) : Prop :=
  ∀ (pins : List (Addr × Obj)) (s : Shared) (σ : St) (H : Hp) (vs : List V) (us : List Value) (Q : St → Hp → Prop), Inv X pins σ H s → Vals vs us → t vs σ H Q →
    wpAny (model X.prog X.w) X.A (assignInOrder ((assignEach ts X.env).map (·.2)) us) (fun _ s' => ∃ σ' H', Inv X pins σ' H' s' ∧ Q σ' H') X.xe s
abbrev TSet := V → V → V → Hp → (Hp → Prop) → Prop
def PSet (X : Cx) (t : TSet) : Prop :=
  ∀ (pins : List (Addr × Obj)) (s : Shared) (σ : St) (H : Hp) (o i v : V) (ov iv u : Value) (Q : Hp → Prop), Inv X pins σ H s → RelV o ov → RelV i iv → RelV v u → t o i v H Q →
    wpAny (model X.prog X.w) X.A (setItem ov iv u) (fun _ s' => ∃ H', Inv X pins σ H' s' ∧ Q H') X.xe s
section
variable {X : Cx} {pos : Pos}
def gName (i : Nat) : TG := fun v σ H Q => Q (σ.set i (some v)) H
theorem pg_name {i : Nat} {x : Str} (hN : X.N.Nodup) (hi : X.N[i]? = some x) (hx : Loc X.env.scope x) (hf : X.fn x = true ∨ X.env.scope.names.lookup x = some .local := by first | exact .inl rfl | exact .inr rfl | assumption) : PG X (.Name x pos) (gName i) := by
  intro pins s σ H v u Q I r h
  exact wpAny_assign_Name (store_ok I hN hi hx r (fun s' I' => ⟨_, H, I', h⟩) hf)
def gNil : TGs := fun vs σ H Q => vs = [] ∧ Q σ H
def gCons (t : TG) (u : TGs) : TGs := fun vs σ H Q => ∃ v r, vs = v :: r ∧ t v σ H fun σ' H' => u r σ' H' Q
theorem pgs_nil : PGs X [] gNil := by
  intro pins s σ H vs us Q I r h
  obtain ⟨e, h⟩ := h
  subst e
  cases r
  exact assignInOrder_nil ⟨σ, H, I, h⟩
theorem pgs_cons {e : Expr} {es : List Expr} {t : TG} {u : TGs} (h1 : PG X e t) (h2 : PGs X es u)
    (hs : (assignEach (e :: es) X.env).map (·.2) = assign e X.env :: (assignEach es X.env).map (·.2) := by rfl) : PGs X (e :: es) (gCons t u) := by
  intro pins s σ H vs us Q I r h
  obtain ⟨v, vr, e1, h⟩ := h
  subst e1
  cases r with
  | cons r rr =>
    rw [hs]
    refine assignInOrder_cons (thn (h1 pins s σ H _ _ _ I r h) fun _ s1 ⟨σ1, H1, I1, q1⟩ => ?_)
    exact h2 pins s1 σ1 H1 _ _ Q I1 rr q1
def gTup (K : PySem.W.Frag) (n : Nat) (t : TGs) : TG := fun v σ H Q => ∃ a xs, v = .ref a ∧ SqT K H a xs ∧ xs.length = n ∧ t xs σ H Q
theorem pg_tup {es : List Expr} {k : Nat} {t : TGs} {n : Nat} (hc : X.calm = true) (h : PGs X es t)
    (hn : (assignEach es X.env).length = n := by rfl) (hst : (assignEach es X.env).findIdx? (·.1) = none := by rfl) : PG X (.Tuple es k pos) (gTup X.K n t) := by
  intro pins s σ H v u Q I r hw
  obtain ⟨a, xs, e1, hq, hl, hw⟩ := hw
  subst e1
  cases r
  obtain ⟨its, rv, ht, hz⟩ := I.tuple hq
  refine assign_Tuple_tuple (I.ok.hd hc) ht (by simp [hn, ← hl, rv.length]) hst fun h' hx => ?_
  have I1 : Inv X pins σ H { s with heap := h' } := I.kept (t' := s.toks) fun b o e => hx b o (Nat.ne_of_lt (Heap.lt_size e)) e
  exact h pins _ σ H xs _ Q I1 (by simpa using rv) hw
def gSub (to ti : TE) (t : TSet) : TG := fun v σ H Q => to σ H fun o H1 => ti σ H1 fun i H2 => t o i v H2 fun H3 => Q σ H3
theorem pg_sub {o i : Expr} {to ti : TE} {t : TSet} (ho : PE X o to) (hi : PE X i ti) (hs : PSet X t)
    (ha : ∀ v, assign (.Subscript o i pos) X.env v = (do
      let ov ← holding [v] (eval o X.env)
      let iv ← holding [v, ov] (eval i X.env)
      standAt pos
      holding [v, ov, iv] (setItem ov iv v)
      release [v, ov, iv] []) := by intro _; rfl) : PG X (.Subscript o i pos) (gSub to ti t) := by
  intro pins s σ H v u Q I r h
  rw [ha]
  refine wpAny_bind (wpAny_holding (thn (ho pins s σ H _ I h) fun ov s1 ⟨x, H1, I1, r1, q1⟩ => ?_))
  refine wpAny_bind (wpAny_holding (thn (hi pins s1 σ H1 _ I1 q1) fun iv s2 ⟨y, H2, I2, r2, q2⟩ => ?_))
  refine wpAny_bind (wpAny_standAt (wpAny_bind (wpAny_holding (thn (hs pins s2 σ H2 x y v ov iv u _ I2 r1 r2 r q2) fun _ s3 ⟨H3, I3, q3⟩ => ?_))))
  exact wpAny_release ⟨σ, H3, I3, q3⟩
def tAsg (te : TE) (g : TG) : TS := fun D σ H => te σ H fun x H1 => g x σ H1 D.nx
theorem ps_asg {tg e : Expr} {te : TE} {g : TG} (he : PE X e te) (hg : PG X tg g) (hs : swapsWithSole [tg] e pos.line X.env = pure false := by rfl) (hw : swappedStores [tg] e X.env = pure none := by rfl)
    (h1 : (assignEach [tg] X.env).map (·.2) = [assign tg X.env] := by rfl) : PS X (.Assign [tg] e pos) (tAsg te g) := by
  intro pins s σ H D I h
  refine wpAny_Assign_stores (thn (he pins s σ H _ I h) fun v s1 ⟨x, H1, I1, r1, q1⟩ => ?_) hs hw
  rw [h1]
  exact thn (hg pins s1 σ H1 x v _ I1 r1 q1) fun _ s2 q => q
theorem ps_set {i : Nat} {x : Str} {e : Expr} {te : TE} {pos' : Pos} (hN : X.N.Nodup) (hi : X.N[i]? = some x) (hx : Loc X.env.scope x) (he : PE X e te) (hs : swapsWith e (some (.Name x pos')) pos.line X.env = pure false := by rfl) (hf : X.fn x = true ∨ X.env.scope.names.lookup x = some .local := by first | exact .inl rfl | exact .inr rfl | assumption) :
    PS X (.Assign [.Name x pos'] e pos) (tAsg te (gName i)) := by
  intro pins s σ H D I h
  refine wpAny_Assign_Name (thn (he pins s σ H _ I h) fun v s1 ⟨y, H1, I1, r1, q1⟩ => ?_) hs
  exact store_ok I1 hN hi hx r1 (fun s2 I2 => ⟨_, H1, I2, q1⟩) hf
end
section
variable {X : Cx} {pos : Pos}
def tWhile (c : TT) (tb : TS) : TS := fun D σ H => ∃ W : Nat → St → Hp → Prop, (∃ m, W m σ H) ∧ ∀ m σ H, W m σ H →
  c σ H fun b H1 => if b = true then ∃ N : St → Hp → Prop, (∀ σ' H', N σ' H' → ∃ m', m' < m ∧ W m' σ' H') ∧ tb { D with nx := N, ct := N, bk := D.nx } σ H1 else D.nx σ H1
theorem ps_while {c : Expr} {body : List Stmt} {tc : TT} {tb : TS} (hp : PassesOwn (model X.prog X.w) X.A X.env X.xe) (hc : PT X c tc) (hb : PSs X body tb) : PS X (.While c body [] pos) (tWhile tc tb) := by
  intro pins s σ H D I h
  obtain ⟨W, ⟨m0, w0⟩, turn⟩ := h
  refine wpAny_While (codeAny_whileLoop (fun n s' => ∃ σ' H', Inv X pins σ' H' s' ∧ W n σ' H') ?_ m0 ⟨σ, H, I, w0⟩)
  rintro n s1 ⟨σ1, H1, I1, w1⟩
  refine wpAny_passesOwn hp (thn (hc pins s1 σ1 H1 _ I1 (turn n σ1 H1 w1)) fun b s2 ⟨H2, I2, q2⟩ => ?_)
  cases b with
  | true =>
    obtain ⟨N, hN, q2⟩ := q2
    rw [if_pos rfl]
    refine wpAny_passesOwn hp (thn (hb pins s2 σ1 H2 _ I2 q2) fun f s3 q3 => ?_)
    cases f with
    | next =>
      obtain ⟨σ3, H3, I3, n3⟩ := q3
      obtain ⟨m', hm, w3⟩ := hN σ3 H3 n3
      exact ⟨m', hm, σ3, H3, I3, w3⟩
    | cont =>
      obtain ⟨σ3, H3, I3, n3⟩ := q3
      obtain ⟨m', hm, w3⟩ := hN σ3 H3 n3
      exact ⟨m', hm, σ3, H3, I3, w3⟩
    | brk => exact q3
    | ret v => exact q3
  | false =>
    rw [if_neg Bool.false_ne_true]
    exact wpAny_execs_nil ⟨σ1, H2, I2, q2⟩
end
structure It where
  go : Nat → Hp → Prop
  yld : Nat → Hp → V → Hp → Prop
  stop : Nat → Hp → Prop
def FpOk (X : Cx) (pins : List (Addr × Obj)) (H : Hp) (b : Addr) : Prop :=
  H b = none ∧ b ≠ X.env.locals ∧ b ∉ X.fs ∧ (b ∈ X.ex ∨ X.s₀.heap.objs.size ≤ b) ∧ (∀ x c, X.env.cells.lookup x = some c → c ≠ b) ∧ ∀ p ∈ X.pn ++ pins, p.1 ≠ b
theorem Inv.fpOk {X : Cx} {pins : List (Addr × Obj)} {σ : St} {H H' : Hp} {s : Shared} {b : Addr} (I : Inv X pins σ H s) (hb : s.heap.objs.size ≤ b) (hn : H' b = none) : FpOk X pins H' b := by
  refine ⟨hn, Nat.ne_of_gt (Nat.lt_of_lt_of_le I.lt hb), I.nofs hb, .inr (Nat.le_trans I.sz hb), fun x c e z => ?_, fun p hp z => ?_⟩
  · obtain ⟨v, q⟩ := I.cell x c e
    exact absurd (Nat.lt_of_lt_of_le q.lt (by rw [z]; exact hb)) (Nat.lt_irrefl _)
  · exact absurd (Nat.lt_of_lt_of_le (Heap.lt_size (I.pin p hp).1) (by rw [z]; exact hb)) (Nat.lt_irrefl _)
structure Turn (P : Program) (w : World) (K : PySem.W.Frag) (tg : Expr) (J : It) (fp : List Addr) (it : Addr) (tn : Nat → Heap → Prop) : Prop where
  mem : it ∈ fp
  obj : ∀ i h, tn i h → ∀ b ∈ fp, ∃ o, h.get? b = some o ∧ ∀ v, o.data ≠ .cell v
  keep : ∀ i h h', tn i h → (∀ b ∈ fp, ∀ o, h.get? b = some o → h'.get? b = some o) → tn i h'
  item : ∀ (X : Cx), X.prog = P → X.w = w → X.K = K → X.calm = true → ∀ (i : Nat) (pins : List (Addr × Obj)) (s : Shared) (σ : St) (H : Hp) (E : Value → Shared → Prop), Inv X pins σ H s → (∀ b ∈ fp, FpOk X pins H b) → tn i s.heap → J.go i H →
    wpAny (model P w) X.A (pyNext (.ref it)) (fun r s1 => ∃ u, r = some u ∧
      wpAny (model P w) X.A (letOwnedTupleGo tg (.ref it) u) (fun _ s2 => ∃ x H', Inv X pins σ H' s2 ∧ RelV x u ∧ J.yld i H x H' ∧ tn (i + 1) s2.heap ∧ ∀ b ∈ fp, H' b = none) E s1) E s
  done : ∀ (X : Cx), X.prog = P → X.w = w → X.K = K → X.calm = true → ∀ (i : Nat) (pins : List (Addr × Obj)) (s : Shared) (σ : St) (H : Hp) (E : Value → Shared → Prop), Inv X pins σ H s → (∀ b ∈ fp, FpOk X pins H b) → tn i s.heap → J.stop i H →
    wpAny (model P w) X.A (pyNext (.ref it)) (fun r s1 => r = none ∧ Inv X pins σ H s1) E s
  self : ∀ (A : Around) (i : Nat) (s : Shared) (Q : Value → Shared → Prop) (E : Value → Shared → Prop), tn i s.heap → Q (.ref it) s → wpAny (model P w) A (pyIter (.ref it)) Q E s
abbrev TI := St → Hp → (It → Hp → Prop) → Prop
def PIE (X : Cx) (pins : List (Addr × Obj)) (σ : St) (tg : Expr) (R : It → Hp → Prop) (itv : Value) (s2 : Shared) : Prop :=
  ∃ (it : Addr) (fp : List Addr) (tn : Nat → Heap → Prop) (J : It) (H' : Hp), itv = .ref it ∧ Inv X pins σ H' s2 ∧ Turn X.prog X.w X.K tg J fp it tn ∧ tn 0 s2.heap ∧ (∀ b ∈ fp, FpOk X pins H' b) ∧ R J H'
def PI (X : Cx) (tg iter : Expr) (wi : TI) : Prop :=
  ∀ (pins : List (Addr × Obj)) (s : Shared) (σ : St) (H : Hp) (R : It → Hp → Prop), Inv X pins σ H s → wi σ H R →
    wpAny (model X.prog X.w) X.A (eval iter X.env) (fun v s1 => wpAny (model X.prog X.w) X.A (pyIter v) (PIE X pins σ tg R) X.xe s1) X.xe s
theorem go_of {M : Model} {A : Around} {E : Value → Shared → Prop} {s : Shared} {tg : Expr} {it : Addr} {u : Value} {o : Obj} {n : String} {vs : Array Value} {Q : Unit → Shared → Prop} (ho : s.heap.get? it = some o) (hc : o.cls = .type n) (hd : o.data = .fields vs)
    (hn : ["enumerate", "zip", "dict_itemiterator", "dict_reverseitemiterator", "odict_iterator", "itertools.zip_longest", "itertools.pairwise"].contains n = false) (hQ : Q () s) : wpAny M A (letOwnedTupleGo tg (.ref it) u) Q E s := by
  unfold letOwnedTupleGo
  cases tg <;> first
    | exact wpAny_pure hQ
    | (cases u <;> first
        | exact wpAny_pure hQ
        | (refine wpAny_bind (wpAny_load ho ?_)
           rw [hc, hd]
           show wpAny M A (if (["enumerate", "zip", "dict_itemiterator", "dict_reverseitemiterator", "odict_iterator", "itertools.zip_longest", "itertools.pairwise"].contains n && vs[0]? == some (rawInt _)) = true then _ else _) Q E s
           rw [if_neg (by intro h; rw [hn, Bool.false_and] at h; cases h)]
           exact wpAny_pure hQ))
def Itl (K : PySem.W.Frag) (a : Addr) : It :=
  ⟨fun i H => ∃ xs x, SqL K H a xs ∧ xs[i]? = some x, fun i H x H' => H' = H ∧ ∀ xs, SqL K H a xs → xs[i]? = some x, fun i H => ∃ xs, SqL K H a xs ∧ xs.length ≤ i⟩
def Itt (K : PySem.W.Frag) (a : Addr) : It :=
  ⟨fun i H => ∃ xs x, SqT K H a xs ∧ xs[i]? = some x, fun i H x H' => H' = H ∧ ∀ xs, SqT K H a xs → xs[i]? = some x, fun i H => ∃ xs, SqT K H a xs ∧ xs.length ≤ i⟩
def Itr (lo : Int) (n : Nat) : It := ⟨fun i _ => i < n, fun i H x H' => H' = H ∧ x = .int (lo + i), fun i _ => n ≤ i⟩
theorem turn_list {P : Program} {w : World} {K : PySem.W.Frag} {tg : Expr} (a it : Addr) : Turn P w K tg (Itl K a) [it] it (fun i h => h.IsListIter it a i) where
  mem := by simp
  obj := fun i h st b hb => by
    have e : b = it := by simpa using hb
    subst e
    obtain ⟨o, e, c, d⟩ := st
    exact ⟨o, e, fun v z => by rw [d] at z; cases z⟩
  keep := fun i h h' st k => st.at fun o e => k it (by simp) o e
  item := by
    intro X hP hw hK hc i pins s σ H E I hf st hg
    subst hP hw hK
    obtain ⟨xs, x, hq, hx⟩ := hg
    obtain ⟨its, rv, p, hz⟩ := I.list hq
    obtain ⟨u, hu, ru⟩ := rv.get hx
    obtain ⟨f0, f1, f2, f3, f4, f5⟩ := hf it (by simp)
    refine wpAny_pyNext_list_item st p.isList (x := u) (by simpa using hu) fun h' st' sb => ?_
    have I1 : Inv X pins σ H { s with heap := h' } := I.turned (t' := s.toks) (fun b o hb e => (sb.2 b hb).trans e) f0 f1 f3 f4 f5
    obtain ⟨o, e, c, d⟩ := id st'
    exact ⟨u, rfl, go_of (s := { s with heap := h' }) e c d (by decide) ⟨x, H, I1, ru, ⟨rfl, fun ys hy => by rw [I.list_inj hy hq]; exact hx⟩, st', fun b hb => (hf b hb).1⟩⟩
  done := by
    intro X hP hw hK hc i pins s σ H E I hf st hg
    subst hP hw hK
    obtain ⟨xs, hq, hx⟩ := hg
    obtain ⟨its, rv, p, hz⟩ := I.list hq
    obtain ⟨f0, f1, f2, f3, f4, f5⟩ := hf it (by simp)
    have hl := rv.length
    exact wpAny_pyNext_list_end (I.ok.hd hc) st p.isList (by simp; omega) fun h' eb => ⟨rfl, I.turned (t' := s.toks) (fun b o hb e => eb b o hb e) f0 f1 f3 f4 f5⟩
  self := fun _ _ _ _ _ st h => wpAny_pyIter_listiter st h
theorem turn_tuple {P : Program} {w : World} {K : PySem.W.Frag} {tg : Expr} (a it : Addr) : Turn P w K tg (Itt K a) [it] it (fun i h => h.IsTupleIter it a i) where
  mem := by simp
  obj := fun i h st b hb => by
    have e : b = it := by simpa using hb
    subst e
    obtain ⟨o, e, c, d⟩ := st
    exact ⟨o, e, fun v z => by rw [d] at z; cases z⟩
  keep := fun i h h' st k => st.at fun o e => k it (by simp) o e
  item := by
    intro X hP hw hK hc i pins s σ H E I hf st hg
    subst hP hw hK
    obtain ⟨xs, x, hq, hx⟩ := hg
    obtain ⟨its, rv, p, hz⟩ := I.tuple hq
    obtain ⟨u, hu, ru⟩ := rv.get hx
    obtain ⟨f0, f1, f2, f3, f4, f5⟩ := hf it (by simp)
    refine wpAny_pyNext_tuple_item st (show s.heap.IsTuple a its.toArray from p) (x := u) (by simpa using hu) fun h' st' sb => ?_
    have I1 : Inv X pins σ H { s with heap := h' } := I.turned (t' := s.toks) (fun b o hb e => (sb.2 b hb).trans e) f0 f1 f3 f4 f5
    obtain ⟨o, e, c, d⟩ := id st'
    exact ⟨u, rfl, go_of (s := { s with heap := h' }) e c d (by decide) ⟨x, H, I1, ru, ⟨rfl, fun ys hy => by rw [I.tuple_inj hy hq]; exact hx⟩, st', fun b hb => (hf b hb).1⟩⟩
  done := by
    intro X hP hw hK hc i pins s σ H E I hf st hg
    subst hP hw hK
    obtain ⟨xs, hq, hx⟩ := hg
    obtain ⟨its, rv, p, hz⟩ := I.tuple hq
    obtain ⟨f0, f1, f2, f3, f4, f5⟩ := hf it (by simp)
    have hl := rv.length
    exact wpAny_pyNext_tuple_end (I.ok.hd hc) st (show s.heap.IsTuple a its.toArray from p) (by simp; omega) fun h' eb => ⟨rfl, I.turned (t' := s.toks) (fun b o hb e => eb b o hb e) f0 f1 f3 f4 f5⟩
  self := fun _ _ _ _ _ st h => wpAny_pyIter_tupleiter st h
theorem turn_range {P : Program} {w : World} {K : PySem.W.Frag} {tg : Expr} (it : Addr) (lo : Int) (n : Nat) : Turn P w K tg (Itr lo n) [it] it (fun i h => IsRangeIter h it (lo + (i : Nat) * 1) ((n : Int) - (i : Nat)) 1) where
  mem := by simp
  obj := fun i h st b hb => by
    have e : b = it := by simpa using hb
    subst e
    exact ⟨_, st, fun v z => by
      have z' : Data.fields _ = Data.cell v := z
      cases z'⟩
  keep := fun i h h' st k => k it (by simp) _ st
  item := by
    intro X hP hw hK hc i pins s σ H E I hf st hg
    subst hP hw hK
    obtain ⟨f0, f1, f2, f3, f4, f5⟩ := hf it (by simp)
    have W := Walks.range (prog := X.prog) (w := X.w) (I.ok.hd hc) it lo 1 n
    refine W.item i s _ _ hg st fun v h' tk hv st' kk => ?_
    obtain ⟨t, rfl⟩ := hv
    have I1 : Inv X pins σ H { s with heap := h', toks := tk } := I.turned (fun b o hb e => kk b o (by simpa using hb) e) f0 f1 f3 f4 f5
    refine ⟨_, rfl, go_of (s := { s with heap := h', toks := tk }) (n := "range_iterator") st' rfl rfl (by decide) ⟨.int (lo + i), H, I1, ⟨t, ?_⟩, ⟨rfl, rfl⟩, st', fun b hb => (hf b hb).1⟩⟩
    rw [Int.mul_one]
  done := by
    intro X hP hw hK hc i pins s σ H E I hf st hg
    subst hP hw hK
    obtain ⟨f0, f1, f2, f3, f4, f5⟩ := hf it (by simp)
    exact wpAny_pyNext_range_end (I.ok.hd hc) st (by have : n ≤ i := hg; omega) fun h' eb => ⟨rfl, I.turned (t' := s.toks) (fun b o hb e => eb b o hb e) f0 f1 f3 f4 f5⟩
  self := fun _ _ _ _ _ st h => wpAny_pyIter_rangeiter st h
end L2
namespace L2
open PySem PySem.Spec PyProof.Rows
section
variable {X : Cx} {tg : Expr}
def iList (K : PySem.W.Frag) (tl : TE) : TI := fun σ H R => tl σ H fun x H1 => ∃ a, x = .ref a ∧ (∃ xs, SqL K H1 a xs) ∧ R (Itl K a) H1
def iTup (K : PySem.W.Frag) (tl : TE) : TI := fun σ H R => tl σ H fun x H1 => ∃ a, x = .ref a ∧ (∃ xs, SqT K H1 a xs) ∧ R (Itt K a) H1
theorem pi_list {l : Expr} {tl : TE} (hl : PE X l tl) : PI X tg l (iList X.K tl) := by
  intro pins s σ H R I h
  refine thn (hl pins s σ H _ I h) fun v s1 ⟨x, H1, I1, r1, q1⟩ => ?_
  obtain ⟨a, e, ⟨xs, hq⟩, q⟩ := q1
  subst e
  cases r1
  obtain ⟨its, rv, p, hz⟩ := I1.list hq
  refine wpAny_pyIter_list p.isList ?_
  refine ⟨s1.heap.objs.size, [s1.heap.objs.size], _, _, H1, rfl, I1.kept (t' := s1.toks) fun b o e => Heap.get?_push_of_some _ e, turn_list a _, ⟨_, Heap.get?_push_size _ rfl, rfl, rfl⟩, fun b hb => ?_, q⟩
  have e : b = s1.heap.objs.size := by simpa using hb
  subst e
  exact I1.fpOk (Nat.le_refl _) (I1.hok.fresh (Nat.le_refl _))
theorem pi_tup {l : Expr} {tl : TE} (hl : PE X l tl) : PI X tg l (iTup X.K tl) := by
  intro pins s σ H R I h
  refine thn (hl pins s σ H _ I h) fun v s1 ⟨x, H1, I1, r1, q1⟩ => ?_
  obtain ⟨a, e, ⟨xs, hq⟩, q⟩ := q1
  subst e
  cases r1
  obtain ⟨its, rv, p, hz⟩ := I1.tuple hq
  refine wpAny_pyIter_tuple (show s1.heap.IsTuple a its.toArray from p) ?_
  refine ⟨s1.heap.objs.size, [s1.heap.objs.size], _, _, H1, rfl, I1.kept (t' := s1.toks) fun b o e => Heap.get?_push_of_some _ e, turn_tuple a _, ⟨_, Heap.get?_push_size _ rfl, rfl, rfl⟩, fun b hb => ?_, q⟩
  have e : b = s1.heap.objs.size := by simpa using hb
  subst e
  exact I1.fpOk (Nat.le_refl _) (I1.hok.fresh (Nat.le_refl _))
theorem range_it {pins : List (Addr × Obj)} {σ : St} {H : Hp} {s : Shared} {R : It → Hp → Prop} {E : Value → Shared → Prop} {lo hi : Int} {t u v : Tok} {tk : Nat} (I : Inv X pins σ H s) (h1 : -(2 ^ 62) ≤ lo) (h2 : lo < 2 ^ 62) (h3 : -(2 ^ 62) ≤ hi) (h4 : hi < 2 ^ 62)
    (q : R (Itr lo (hi - lo).toNat) H) : wpAny (model X.prog X.w) X.A (pyIter (.ref s.heap.objs.size)) (PIE X pins σ tg R) E { s with heap := s.heap.push { cls := .type "range", data := .fields #[.int lo t, .int hi u, .int 1 v] }, toks := tk } := by
  refine wpAny_pyIter_range (IsRange.new ..) (small_one h1 h2 h3 h4) ?_
  have I1 : Inv X pins σ H { s with heap := s.heap.push { cls := .type "range", data := .fields #[.int lo t, .int hi u, .int 1 v] }, toks := tk } := I.kept fun b o e => Heap.get?_push_of_some _ e
  refine ⟨(s.heap.push { cls := .type "range", data := .fields #[.int lo t, .int hi u, .int 1 v] }).objs.size, [(s.heap.push { cls := .type "range", data := .fields #[.int lo t, .int hi u, .int 1 v] }).objs.size], _, _, H, rfl,
    I1.kept (t' := tk) fun b o e => Heap.get?_push_of_some _ e, turn_range _ lo (hi - lo).toNat, ?_, fun b hb => ?_, q⟩
  · have e1 : lo + ((0 : Nat) : Int) * 1 = lo := by simp
    have e2 : (((hi - lo).toNat : Nat) : Int) - ((0 : Nat) : Int) = Builtin.Range.rangeSize lo hi 1 := by rw [rangeSize_one]; split <;> omega
    show IsRangeIter _ _ (lo + ((0 : Nat) : Int) * 1) ((((hi - lo).toNat : Nat) : Int) - ((0 : Nat) : Int)) 1
    rw [e1, e2]
    exact Heap.get?_push_size _ rfl
  · have e : b = (s.heap.push { cls := .type "range", data := .fields #[.int lo t, .int hi u, .int 1 v] }).objs.size := by simpa using hb
    subst e
    exact I1.fpOk (Nat.le_refl _) (I1.hok.fresh (Nat.le_refl _))
def iRng1 (ta : TA) : TI := fun σ H R => ta σ H fun vs H1 => ∃ j : Int, vs = [.int j] ∧ -(2 ^ 62) ≤ j ∧ j < 2 ^ 62 ∧ R (Itr 0 j.toNat) H1
theorem pi_range1 {a : Expr} {ta : TA} {p pos : Pos} (hg : Gl X "range") (hm : X.mg "range" = none) (ha : PA X [a] ta) (hs : starEach [a] X.env = [(false, eval a X.env)] := by rfl) : PI X tg (.Call (.Name "range" p) [a] [] pos) (iRng1 ta) := by
  intro pins s σ H R I h
  refine Call_ (ld_blt I hg hm boot_range (PyProof.Rows.callWith_type1 (thn (ha pos pins s σ H _ I h) fun us s1 ⟨vs, H1, I1, r1, q1⟩ => ?_) hs rfl))
  obtain ⟨j, e, q1, q2, q⟩ := q1
  subst e
  cases r1 with
  | cons r rr =>
    cases rr
    obtain ⟨t, rfl⟩ := r
    exact call_range_1 (range_it I1 (by omega) (by omega) q1 q2 (by simpa using q))
def tFor (wi : TI) (g : TG) (tb : TS) : TS := fun D σ H => wi σ H fun J H1 => ∃ W : Nat → Nat → St → Hp → Prop, (∃ m, W 0 m σ H1) ∧ ∀ i m σ H, W i m σ H →
  (J.stop i H ∧ D.nx σ H) ∨ (J.go i H ∧ ∃ N : St → Hp → Prop, (∀ σ' H', N σ' H' → ∃ m', m' < m ∧ W (i + 1) m' σ' H') ∧ ∀ x H', J.yld i H x H' → g x σ H' fun σ2 H2 => tb { D with nx := N, ct := N, bk := D.nx } σ2 H2)
def pinsAt (fp : List Addr) (h : Heap) : List (Addr × Obj) := fp.filterMap fun b => (h.get? b).map fun o => (b, o)
theorem mem_pinsAt {fp : List Addr} {h : Heap} {b : Addr} {o : Obj} (hb : b ∈ fp) (e : h.get? b = some o) : (b, o) ∈ pinsAt fp h := List.mem_filterMap.mpr ⟨b, hb, by rw [e]; rfl⟩
theorem of_pinsAt {fp : List Addr} {h : Heap} {p : Addr × Obj} (hp : p ∈ pinsAt fp h) : p.1 ∈ fp ∧ h.get? p.1 = some p.2 := by
  obtain ⟨b, hb, e⟩ := List.mem_filterMap.mp hp
  cases q : h.get? b with
  | none => rw [q] at e; cases e
  | some o =>
    rw [q] at e
    have e' : (b, o) = p := Option.some.inj e
    subst e'
    exact ⟨hb, q⟩
theorem Inv.pinned {pins : List (Addr × Obj)} {σ : St} {H : Hp} {s : Shared} {fp : List Addr} (I : Inv X pins σ H s) (hf : ∀ b ∈ fp, FpOk X pins H b) (ho : ∀ b ∈ fp, ∃ o, s.heap.get? b = some o ∧ ∀ v, o.data ≠ .cell v) : Inv X (pins ++ pinsAt fp s.heap) σ H s :=
  I.pins_of fun p hp => (List.mem_append.mp hp).elim (fun z => I.pin p (List.mem_append_right _ z)) fun z => by
    obtain ⟨hb, e⟩ := of_pinsAt z
    obtain ⟨f0, f1, f2, _⟩ := hf p.1 hb
    obtain ⟨o, e', d⟩ := ho p.1 hb
    rw [e] at e'; cases e'
    exact ⟨e, f0, f1, f2, d⟩
theorem Inv.unpinned {pins pl : List (Addr × Obj)} {σ : St} {H : Hp} {s : Shared} (I : Inv X (pins ++ pl) σ H s) : Inv X pins σ H s := I.pins_of fun p hp => I.pin p (List.mem_append_right _ (List.mem_append_left _ hp))
theorem ps_for {iter : Expr} {body : List Stmt} {wi : TI} {g : TG} {tb : TS} {pos : Pos} (hp : PassesOwn (model X.prog X.w) X.A X.env X.xe) (hc : X.calm = true) (hi : PI X tg iter wi) (hg : PG X tg g) (hb : PSs X body tb)
    (hs : ∀ x, foldedSetIterable iter X.env x = pure x := by intro _; rfl) : PS X (.For tg iter body [] pos) (tFor wi g tb) := by
  intro pins s σ H D I h
  refine wpAny_For (thn (hi pins s σ H _ I h) fun v s1 h1 => thn h1 fun itv s2 h2 => ?_) hs
  obtain ⟨it, fp, tn, J, H2, e, I2, T, st2, f2, W, ⟨m0, w0⟩, turn⟩ := h2
  subst e
  have stat : ∀ {H' : Hp}, (∀ b ∈ fp, H' b = none) → ∀ b ∈ fp, FpOk X pins H' b := fun hn b hb => ⟨hn b hb, (f2 b hb).2⟩
  refine codeAny_forLoop_any (fun n s' => ∃ i σ' H', Inv X pins σ' H' s' ∧ tn i s'.heap ∧ (∀ b ∈ fp, H' b = none) ∧ W i n σ' H') ?_ m0 ⟨0, σ, H2, I2, st2, fun b hb => (f2 b hb).1, w0⟩
  rintro n s3 ⟨i, σ3, H3, I3, st3, fr3, w3⟩
  rcases turn i n σ3 H3 w3 with ⟨stop, qn⟩ | ⟨go, N, hN, step⟩
  · refine wpAny_passesOwn hp (thn (T.done X rfl rfl rfl hc i pins s3 σ3 H3 X.xe I3 (stat fr3) st3 stop) fun r s4 ⟨hr, I4⟩ => ?_)
    subst hr
    exact wpAny_execs_nil ⟨σ3, H3, I4, qn⟩
  · refine wpAny_passesOwn hp (thn (T.item X rfl rfl rfl hc i pins s3 σ3 H3 X.xe I3 (stat fr3) st3 go) fun r s4 ⟨u, hr, h4⟩ => ?_)
    subst hr
    refine wpAny_passesOwn hp (thn h4 fun _ s5 ⟨x, H5, I5, r5, y5, st5, fr5⟩ => ?_)
    have I5' := I5.pinned (stat fr5) (T.obj _ _ st5)
    refine wpAny_passesOwn hp (thn (hg _ s5 σ3 H5 x u _ I5' r5 (step x H5 y5)) fun _ s6 ⟨σ6, H6, I6, q6⟩ => ?_)
    refine wpAny_passesOwn hp (thn (hb _ s6 σ6 H6 _ I6 q6) fun f s7 q7 => ?_)
    have again : ∀ {σ7 : St} {H7 : Hp}, Inv X (pins ++ pinsAt fp s5.heap) σ7 H7 s7 → N σ7 H7 → ∃ m, m < n ∧ ∃ i σ' H', Inv X pins σ' H' s7 ∧ tn i s7.heap ∧ (∀ b ∈ fp, H' b = none) ∧ W i m σ' H' := fun {σ7 H7} I7 n7 => by
      obtain ⟨m', hm, w7⟩ := hN σ7 H7 n7
      refine ⟨m', hm, i + 1, σ7, H7, I7.unpinned, T.keep _ _ _ st5 fun b hb o e => (I7.pin (b, o) (List.mem_append_right _ (List.mem_append_right _ (mem_pinsAt hb e)))).1, fun b hb => ?_, w7⟩
      obtain ⟨o, e, d⟩ := T.obj _ _ st5 b hb
      exact (I7.pin (b, o) (List.mem_append_right _ (List.mem_append_right _ (mem_pinsAt hb e)))).2.1
    cases f with
    | next => obtain ⟨σ7, H7, I7, n7⟩ := q7; exact again I7 n7
    | cont => obtain ⟨σ7, H7, I7, n7⟩ := q7; exact again I7 n7
    | brk => obtain ⟨σ7, H7, I7, q7⟩ := q7; exact ⟨σ7, H7, I7.unpinned, q7⟩
    | ret v => obtain ⟨x7, σ7, H7, I7, r7, q7⟩ := q7; exact ⟨x7, σ7, H7, I7.unpinned, r7, q7⟩
end
theorem for_list {K : PySem.W.Frag} {a : Addr} {xs : List V} {g : TG} {tb : TS} {D : Ends} {σ : St} {H : Hp} (Pv : Nat → St → Hp → Prop) (h0 : Pv 0 σ H) (hl : ∀ i σ H, i ≤ xs.length → Pv i σ H → SqL K H a xs)
    (hs : ∀ i x σ H, xs[i]? = some x → Pv i σ H → g x σ H fun σ2 H2 => tb { D with nx := Pv (i + 1), ct := Pv (i + 1), bk := D.nx } σ2 H2) (hd : ∀ σ H, Pv xs.length σ H → D.nx σ H) :
    ∃ W : Nat → Nat → St → Hp → Prop, (∃ m, W 0 m σ H) ∧ ∀ i m σ H, W i m σ H →
      ((Itl K a).stop i H ∧ D.nx σ H) ∨ ((Itl K a).go i H ∧ ∃ N : St → Hp → Prop, (∀ σ' H', N σ' H' → ∃ m', m' < m ∧ W (i + 1) m' σ' H') ∧ ∀ x H', (Itl K a).yld i H x H' → g x σ H' fun σ2 H2 => tb { D with nx := N, ct := N, bk := D.nx } σ2 H2) := by
  refine ⟨fun i m σ H => m = xs.length - i ∧ i ≤ xs.length ∧ Pv i σ H, ⟨xs.length, by simp, Nat.zero_le _, h0⟩, ?_⟩
  rintro i m σ H ⟨rfl, hi, p⟩
  have q := hl i σ H hi p
  by_cases hlt : i < xs.length
  · refine .inr ⟨⟨xs, xs[i], q, by simp [hlt]⟩, Pv (i + 1), fun σ' H' p' => ⟨xs.length - (i + 1), by omega, rfl, hlt, p'⟩, fun x H' y => ?_⟩
    obtain ⟨e, y⟩ := y
    subst e
    exact hs i x σ _ (y xs q) p
  · have e : i = xs.length := by omega
    subst e
    exact .inl ⟨⟨xs, q, Nat.le_refl _⟩, hd σ H p⟩
theorem for_range {lo : Int} {n : Nat} {g : TG} {tb : TS} {D : Ends} {σ : St} {H : Hp} (Pv : Nat → St → Hp → Prop) (h0 : Pv 0 σ H)
    (hs : ∀ i σ H, i < n → Pv i σ H → g (.int (lo + i)) σ H fun σ2 H2 => tb { D with nx := Pv (i + 1), ct := Pv (i + 1), bk := D.nx } σ2 H2) (hd : ∀ σ H, Pv n σ H → D.nx σ H) :
    ∃ W : Nat → Nat → St → Hp → Prop, (∃ m, W 0 m σ H) ∧ ∀ i m σ H, W i m σ H →
      ((Itr lo n).stop i H ∧ D.nx σ H) ∨ ((Itr lo n).go i H ∧ ∃ N : St → Hp → Prop, (∀ σ' H', N σ' H' → ∃ m', m' < m ∧ W (i + 1) m' σ' H') ∧ ∀ x H', (Itr lo n).yld i H x H' → g x σ H' fun σ2 H2 => tb { D with nx := N, ct := N, bk := D.nx } σ2 H2) := by
  refine ⟨fun i m σ H => m = n - i ∧ i ≤ n ∧ Pv i σ H, ⟨n, by simp, Nat.zero_le _, h0⟩, ?_⟩
  rintro i m σ H ⟨rfl, hi, p⟩
  by_cases hlt : i < n
  · refine .inr ⟨hlt, Pv (i + 1), fun σ' H' p' => ⟨n - (i + 1), by omega, rfl, hlt, p'⟩, fun x H' y => ?_⟩
    obtain ⟨e, y⟩ := y
    subst e y
    exact hs i σ _ hlt p
  · have e : i = n := by omega
    subst e
    exact .inl ⟨Nat.le_refl _, hd σ H p⟩
end L2
namespace L2
open PySem PySem.Spec PyProof.Rows
abbrev R2 := V → V → Hp → VK → Prop
def OpR (X : Cx) (f : Value → Value → Sem Value) (r : R2) : Prop :=
  ∀ (pins : List (Addr × Obj)) (s : Shared) (σ : St) (H : Hp) (x y : V) (v u : Value) (Q : VK), Inv X pins σ H s → RelV x v → RelV y u → r x y H Q →
    wpAny (model X.prog X.w) X.A (f v u) (EP X pins σ Q) X.xe s
def CallR (X : Cx) (f : Value) (r : List V → Hp → VK → Prop) : Prop :=
  ∀ (pins : List (Addr × Obj)) (s : Shared) (σ : St) (H : Hp) (xs : List V) (us : List Value) (Q : VK), Inv X pins σ H s → Vals xs us → r xs H Q →
    wpAny (model X.prog X.w) X.A (call f us) (EP X pins σ Q) X.xe s
def TruR (X : Cx) (r : V → Hp → (Bool → Hp → Prop) → Prop) : Prop :=
  ∀ (pins : List (Addr × Obj)) (s : Shared) (σ : St) (H : Hp) (x : V) (v : Value) (Q : Bool → Hp → Prop), Inv X pins σ H s → RelV x v → r x H Q →
    wpAny (model X.prog X.w) X.A (truthy v) (TP X pins σ Q) X.xe s
def tOp (r : R2) (ta tb : TE) : TE := fun σ H Q => ta σ H fun x H1 => tb σ H1 fun y H2 => r x y H2 Q
def rI (C : Int → Int → Prop) (g : Int → Int → V) : R2 := fun x y H Q => ∃ i j, x = .int i ∧ y = .int j ∧ C i j ∧ Q (g i j) H
def rI0 (g : Int → Int → V) : R2 := fun x y H Q => ∃ i j, x = .int i ∧ y = .int j ∧ Q (g i j) H
section
variable {X : Cx} {a b c : Expr} {ta tb tc : TE} {pos : Pos}
theorem binT (ha : PE X a ta) (hb : PE X b tb) {pins : List (Addr × Obj)} {s : Shared} {σ : St} {H : Hp} {R : V → V → Hp → Prop} (I : Inv X pins σ H s)
    (h : ta σ H fun x H1 => tb σ H1 fun y H2 => R x y H2) {Q : Value → Shared → Prop} {f : Value → Value → Sem Value}
    (hf : ∀ v u s2 x y H2, Inv X pins σ H2 s2 → RelV x v → RelV y u → R x y H2 → wpAny (model X.prog X.w) X.A (f v u) Q X.xe s2) :
    wpAny (model X.prog X.w) X.A (eval a X.env) (fun v s₁ => wpAny (model X.prog X.w) X.A (eval b X.env) (fun u s₂ => wpAny (model X.prog X.w) X.A (f v u) Q X.xe s₂) X.xe s₁) X.xe s := by
  refine thn (ha pins s σ H _ I h) fun v s1 ⟨x, H1, I1, r1, q1⟩ => ?_
  refine thn (hb pins s1 σ H1 _ I1 q1) fun u s2 ⟨y, H2, I2, r2, q2⟩ => ?_
  exact hf v u s2 x y H2 I2 r1 r2 q2
theorem pe_op {op : Operator} {r : R2} (ho : OpR X (binaryOp op) r) (ha : PE X a ta) (hb : PE X b tb) : PE X (.BinOp a op b pos) (tOp r ta tb) := by
  intro pins s σ H Q I h
  exact wpAny_BinOp (binT ha hb I h fun v u s2 x y H2 I2 rx ry q => ho pins s2 σ H2 x y v u Q I2 rx ry q)
theorem opI {f : Value → Value → Sem Value} {C : Int → Int → Prop} {g : Int → Int → Int}
    (rule : ∀ (i j : Int) (t u : Tok) (s : Shared) (Q : Value → Shared → Prop) (E : Value → Shared → Prop), C i j → Q (.int (g i j) s.toks) { s with toks := s.toks + 1 } → wpAny (model X.prog X.w) X.A (f (.int i t) (.int j u)) Q E s) :
    OpR X f (rI C fun i j => .int (g i j)) := by
  intro pins s σ H x y v u Q I rx ry h
  obtain ⟨i, j, rfl, rfl, hc, q⟩ := h
  obtain ⟨t, rfl⟩ := rx
  obtain ⟨t', rfl⟩ := ry
  exact rule i j t t' s _ _ hc ⟨.int (g i j), H, I.tok _, ⟨_, rfl⟩, q⟩
theorem opI0 {f : Value → Value → Sem Value} {g : Int → Int → Int}
    (rule : ∀ (i j : Int) (t u : Tok) (s : Shared) (Q : Value → Shared → Prop) (E : Value → Shared → Prop), Q (.int (g i j) s.toks) { s with toks := s.toks + 1 } → wpAny (model X.prog X.w) X.A (f (.int i t) (.int j u)) Q E s) :
    OpR X f (rI0 fun i j => .int (g i j)) := by
  intro pins s σ H x y v u Q I rx ry h
  obtain ⟨i, j, rfl, rfl, q⟩ := h
  obtain ⟨t, rfl⟩ := rx
  obtain ⟨t', rfl⟩ := ry
  exact rule i j t t' s _ _ ⟨.int (g i j), H, I.tok _, ⟨_, rfl⟩, q⟩
theorem opB0 {f : Value → Value → Sem Value} {g : Int → Int → Bool}
    (rule : ∀ (i j : Int) (t u : Tok) (s : Shared) (Q : Value → Shared → Prop) (E : Value → Shared → Prop), Q (.bool (g i j)) s → wpAny (model X.prog X.w) X.A (f (.int i t) (.int j u)) Q E s) :
    OpR X f (rI0 fun i j => .bl (g i j)) := by
  intro pins s σ H x y v u Q I rx ry h
  obtain ⟨i, j, rfl, rfl, q⟩ := h
  obtain ⟨t, rfl⟩ := rx
  obtain ⟨t', rfl⟩ := ry
  exact rule i j t t' s _ _ ⟨.bl (g i j), H, I, rfl, q⟩
def CDiv (i j : Int) : Prop := 0 < j ∧ j < 1073741824
def CPow (i j : Int) : Prop := 0 ≤ j ∧ j ≤ 1000000 ∧ i.natAbs < 2 ^ 64
def CMul (i j : Int) : Prop := (-(2 ^ 64) < i ∧ i < 2 ^ 64) ∨ (-(2 ^ 64) < j ∧ j < 2 ^ 64)
theorem CMul.ok {i j : Int} (h : CMul i j) : IntMulOk i j := by
  rcases h with ⟨h1, h2⟩ | ⟨h1, h2⟩
  · exact .of_left (intBits_le_64 h1 h2)
  · exact .of_right (intBits_le_64 h1 h2)
theorem op_add : OpR X (binaryOp .Add) (rI0 fun i j => .int (i + j)) := opI0 fun _ _ _ _ _ _ _ q => add_int q
theorem op_sub : OpR X (binaryOp .Sub) (rI0 fun i j => .int (i - j)) := opI0 fun _ _ _ _ _ _ _ q => sub_int q
theorem op_mul : OpR X (binaryOp .Mult) (rI CMul fun i j => .int (i * j)) := opI fun _ _ _ _ _ _ _ hc q => mul_int q hc.ok
theorem op_fdiv : OpR X (binaryOp .FloorDiv) (rI CDiv fun i j => .int (i / j)) := opI fun i j _ _ _ _ _ hc q => by
  have h1 : (0 : Int) < j := hc.1
  have h2 : j < 1073741824 := hc.2
  exact floordiv_int (by omega) (by rw [Int.fdiv_eq_ediv_of_nonneg i (by omega)]; exact q) (.inl (PyProof.noPylong_small (by omega)))
theorem op_mod : OpR X (binaryOp .Mod) (rI (fun _ j => 0 < j) fun i j => .int (i % j)) := opI fun i j _ _ _ _ _ hc q => by
  have h1 : (0 : Int) < j := hc
  exact mod_int' (by omega) (by rw [Int.fmod_eq_emod_of_nonneg i (by omega)]; exact q)
theorem op_pow : OpR X (binaryOp .Pow) (rI CPow fun i j => .int (i ^ j.toNat)) := opI fun _ _ _ _ _ _ _ hc q => pow_int_small hc.1 hc.2.1 hc.2.2 q
end
def scal : V → V → Bool
  | .non, .non => true | .non, .int _ => true | .int _, .non => true | .non, .bl _ => true | .bl _, .non => true | .non, .str _ => true | .str _, .non => true
  | .int _, .int _ => true | .bl _, .bl _ => true | .str _, .str _ => true | .byt _, .byt _ => true
  | .int _, .str _ => true | .str _, .int _ => true | .bl _, .str _ => true | .str _, .bl _ => true
  | _, _ => false
def rEq : R2 := fun x y H Q => scal x y = true ∧ Q (.bl (decide (x = y))) H
def rNe : R2 := fun x y H Q => scal x y = true ∧ Q (.bl (!decide (x = y))) H
theorem dec_int {i j : Int} : decide (V.int i = V.int j) = (i == j) := by
  rw [Bool.eq_iff_iff]
  simp
theorem dec_bl {i j : Bool} : decide (V.bl i = V.bl j) = (i == j) := by
  rw [Bool.eq_iff_iff]
  simp
theorem dec_str {i j : Str} : decide (V.str i = V.str j) = (i == j) := by
  rw [Bool.eq_iff_iff]
  simp
theorem dec_byt {i j : Array UInt8} : decide (V.byt i = V.byt j) = (i.toList == j.toList) := by
  rw [Bool.eq_iff_iff]
  cases i
  cases j
  simp
section
variable {X : Cx} {a b c : Expr} {ta tb tc : TE} {pos : Pos}
theorem fin_bl {pins : List (Addr × Obj)} {σ : St} {H : Hp} {s : Shared} {Q : VK} {k k' : Bool} (I : Inv X pins σ H s) (q : Q (.bl k) H) (e : k = k') : EP X pins σ Q (.bool k') s := by
  subst e
  exact ⟨.bl k, H, I, rfl, q⟩
theorem op_eq : OpR X (compareOp .Eq) rEq := by
  intro pins s σ H x y v u Q I rx ry h
  obtain ⟨hs, q⟩ := h
  cases x with
  | non =>
    cases rx
    cases y with
    | non => cases ry; exact PySem.EqNone.eq_none_none (fin_bl I q (by simp))
    | bl j => cases ry; exact PySem.EqNone.eq_none_bool (fin_bl I q (by simp))
    | int j => obtain ⟨t', rfl⟩ := ry; exact PySem.EqNone.eq_none_int (fin_bl I q (by simp))
    | str j => obtain ⟨t', rfl⟩ := ry; exact PySem.EqNone.eq_none_str (fin_bl I q (by simp))
    | _ => exact absurd (show false = true from hs) Bool.false_ne_true
  | bl i =>
    cases rx
    cases y with
    | non => cases ry; exact PySem.EqNone.eq_bool_none (fin_bl I q (by simp))
    | bl j => cases ry; exact eq_bool (fin_bl I q dec_bl)
    | str j => obtain ⟨t', rfl⟩ := ry; exact PySem.EqMixed.eq_bool_str (fin_bl I q (by simp))
    | _ => exact absurd (show false = true from hs) Bool.false_ne_true
  | int i =>
    obtain ⟨t, rfl⟩ := rx
    cases y with
    | non => cases ry; exact PySem.EqNone.eq_int_none (fin_bl I q (by simp))
    | int j => obtain ⟨t', rfl⟩ := ry; exact eq_int (fin_bl I q dec_int)
    | str j => obtain ⟨t', rfl⟩ := ry; exact PySem.EqMixed.eq_int_str (fin_bl I q (by simp))
    | _ => exact absurd (show false = true from hs) Bool.false_ne_true
  | str i =>
    obtain ⟨t, rfl⟩ := rx
    cases y with
    | non => cases ry; exact PySem.EqNone.eq_str_none (fin_bl I q (by simp))
    | bl j => cases ry; exact PySem.EqMixed.eq_str_bool (fin_bl I q (by simp))
    | int j => obtain ⟨t', rfl⟩ := ry; exact PySem.EqMixed.eq_str_int (fin_bl I q (by simp))
    | str j => obtain ⟨t', rfl⟩ := ry; exact eq_str (fin_bl I q dec_str)
    | _ => exact absurd (show false = true from hs) Bool.false_ne_true
  | byt i =>
    obtain ⟨t, rfl⟩ := rx
    cases y with
    | byt j => obtain ⟨t', rfl⟩ := ry; exact PySem.W.eq_bytes (fin_bl I q dec_byt)
    | _ => exact absurd (show false = true from hs) Bool.false_ne_true
  | _ => cases y <;> exact absurd (show false = true from hs) Bool.false_ne_true
theorem op_ne : OpR X (compareOp .NotEq) rNe := by
  intro pins s σ H x y v u Q I rx ry h
  obtain ⟨hs, q⟩ := h
  cases x with
  | non =>
    cases rx
    cases y with
    | non => cases ry; exact PySem.EqNone.ne_none_none (fin_bl I q (by simp))
    | bl j => cases ry; exact PySem.EqNone.ne_none_bool (fin_bl I q (by simp))
    | int j => obtain ⟨t', rfl⟩ := ry; exact PySem.EqNone.ne_none_int (fin_bl I q (by simp))
    | str j => obtain ⟨t', rfl⟩ := ry; exact PySem.EqNone.ne_none_str (fin_bl I q (by simp))
    | _ => exact absurd (show false = true from hs) Bool.false_ne_true
  | bl i =>
    cases rx
    cases y with
    | non => cases ry; exact PySem.EqNone.ne_bool_none (fin_bl I q (by simp))
    | bl j => cases ry; exact ne_bool (fin_bl I q (congrArg not dec_bl))
    | str j => obtain ⟨t', rfl⟩ := ry; exact PySem.EqMixed.ne_bool_str (fin_bl I q (by simp))
    | _ => exact absurd (show false = true from hs) Bool.false_ne_true
  | int i =>
    obtain ⟨t, rfl⟩ := rx
    cases y with
    | non => cases ry; exact PySem.EqNone.ne_int_none (fin_bl I q (by simp))
    | int j => obtain ⟨t', rfl⟩ := ry; exact ne_int (fin_bl I q (congrArg not dec_int))
    | str j => obtain ⟨t', rfl⟩ := ry; exact PySem.EqMixed.ne_int_str (fin_bl I q (by simp))
    | _ => exact absurd (show false = true from hs) Bool.false_ne_true
  | str i =>
    obtain ⟨t, rfl⟩ := rx
    cases y with
    | non => cases ry; exact PySem.EqNone.ne_str_none (fin_bl I q (by simp))
    | bl j => cases ry; exact PySem.EqMixed.ne_str_bool (fin_bl I q (by simp))
    | int j => obtain ⟨t', rfl⟩ := ry; exact PySem.EqMixed.ne_str_int (fin_bl I q (by simp))
    | str j => obtain ⟨t', rfl⟩ := ry; exact ne_str (fin_bl I q (congrArg not dec_str))
    | _ => exact absurd (show false = true from hs) Bool.false_ne_true
  | byt i =>
    obtain ⟨t, rfl⟩ := rx
    cases y with
    | byt j => obtain ⟨t', rfl⟩ := ry; exact PySem.W.ne_bytes (fin_bl I q (congrArg not dec_byt))
    | _ => exact absurd (show false = true from hs) Bool.false_ne_true
  | _ => cases y <;> exact absurd (show false = true from hs) Bool.false_ne_true
theorem op_lt : OpR X (compareOp .Lt) (rI0 fun i j => .bl (decide (i < j))) := opB0 fun _ _ _ _ _ _ _ q => lt_int q
theorem op_gt : OpR X (compareOp .Gt) (rI0 fun i j => .bl (decide (j < i))) := opB0 fun _ _ _ _ _ _ _ q => gt_int q
theorem nomark (b : Expr) {op : CmpOp} (h : op ≠ .In := by decide) (h2 : op ≠ .NotIn := by decide) : behindInMarks op b = false := by
  have e1 : (op == CmpOp.In) = false := by cases op <;> first | rfl | exact absurd rfl h
  have e2 : (op == CmpOp.NotIn) = false := by cases op <;> first | rfl | exact absurd rfl h2
  cases b <;> simp [behindInMarks, e1, e2]
theorem pe_cmpR {op : CmpOp} {r : R2} (ho : OpR X (compareOp op) r) (ha : PE X a ta) (hb : PE X b tb) (hm : behindInMarks op b = false) : PE X (.Compare a [op] [b] pos) (tOp r ta tb) := by
  intro pins s σ H Q I h
  exact wpAny_Compare1 (binT ha hb I h fun v u s2 x y H2 I2 rx ry q => ho pins s2 σ H2 x y v u Q I2 rx ry q) hm
def tTest (t : TE) : TT := fun σ H Q => t σ H fun x H' => ∃ k, x = .bl k ∧ Q k H'
theorem pt_cmpR {op : CmpOp} {r : R2} (ho : OpR X (compareOp op) r) (ha : PE X a ta) (hb : PE X b tb) (hm : behindInMarks op b = false) : PT X (.Compare a [op] [b] pos) (tTest (tOp r ta tb)) := by
  intro pins s σ H Q I h
  refine wpAny_isTrue_Compare1 (thn (ha pins s σ H _ I h) fun v s1 ⟨x, H1, I1, r1, q1⟩ => thn (hb pins s1 σ H1 _ I1 q1) fun u s2 ⟨y, H2, I2, r2, q2⟩ =>
    thn (ho pins s2 σ H2 x y v u _ I2 r1 r2 q2) fun c s3 ⟨z, H3, I3, r3, k, e, q3⟩ => ?_) hm
  subst e
  cases r3
  exact wpAny_truthy_bool ⟨H3, I3, q3⟩
def TruV (K : PySem.W.Frag) (x : V) (H : Hp) (k : Bool) : Prop :=
  match x with
  | .non => k = false
  | .bl b => k = b
  | .int i => k = (i != 0)
  | .str y => y.length ≤ sizeLine ∧ k = ((y.length : Int) != 0)
  | .byt y => y.size ≤ sizeLine ∧ k = ((y.size : Int) != 0)
  | .ref p => (∃ xs, SqL K H p xs ∧ k = !xs.isEmpty) ∨ (∃ xs, SqT K H p xs ∧ k = !xs.isEmpty) ∨ ∃ kvs, H p = some (.dK kvs) ∧ k = !kvs.isEmpty
  | _ => False
theorem isEmpty_kv {κ : Type} {kvs : List (κ × V)} {vs : List (κ × Value)} (r : KV kvs vs) : (!vs.isEmpty) = !kvs.isEmpty := by
  cases r <;> rfl
theorem isEmpty_of {xs : List V} {its : List Value} (r : Vals xs its) : (!its.toArray.isEmpty) = !xs.isEmpty := by
  cases r <;> simp
theorem line63 : (sizeLine : Nat) < 2 ^ 63 := by rw [sizeLine_eq]; decide
theorem tru_ok : TruR X (fun x H Q => ∃ k, TruV X.K x H k ∧ Q k H) := by
  intro pins s σ H x v Q I rx h
  obtain ⟨k, e, q⟩ := h
  have hl := line63
  have hs : sizeLine = 16777216 := sizeLine_eq
  cases x with
  | non =>
    cases rx
    have e' : k = false := e
    subst e'
    exact truthy_none ⟨H, I, q⟩
  | bl b =>
    cases rx
    have e' : k = b := e
    subst e'
    exact wpAny_truthy_bool ⟨H, I, q⟩
  | int i =>
    obtain ⟨t, rfl⟩ := rx
    have e' : k = (i != 0) := e
    subst e'
    exact PySem.P.truthy_int ⟨H, I, q⟩
  | str y =>
    obtain ⟨t, rfl⟩ := rx
    obtain ⟨hy, e'⟩ : y.length ≤ sizeLine ∧ k = ((y.length : Int) != 0) := e
    subst e'
    exact PySem.P.truthy_str (by omega) ⟨H, I.tok _, q⟩
  | byt y =>
    obtain ⟨t, rfl⟩ := rx
    obtain ⟨hy, e'⟩ : y.size ≤ sizeLine ∧ k = ((y.size : Int) != 0) := e
    subst e'
    exact PySem.W.truthy_bytes (by omega) ⟨H, I.tok _, q⟩
  | ref p =>
    cases rx
    have e' : (∃ xs, SqL X.K H p xs ∧ k = !xs.isEmpty) ∨ (∃ xs, SqT X.K H p xs ∧ k = !xs.isEmpty) ∨ ∃ kvs, H p = some (.dK kvs) ∧ k = !kvs.isEmpty := e
    rcases e' with ⟨xs, hx, e'⟩ | ⟨xs, hx, e'⟩ | ⟨kvs, hx, e'⟩
    · subst e'
      obtain ⟨its, r, pl, hz⟩ := I.list hx
      have hlen := r.length
      exact wpAny_truthy_list pl.isList (by simp only [List.size_toArray]; omega) ⟨H, I.tok _, by rw [isEmpty_of r]; exact q⟩
    · subst e'
      obtain ⟨its, r, pl, hz⟩ := I.tuple hx
      have hlen := r.length
      exact truthy_tuple pl (by simp only [List.size_toArray]; omega) ⟨H, I.tok _, by rw [isEmpty_of r]; exact q⟩
    · subst e'
      obtain ⟨hz, hS, vs, r, m⟩ : kvs.length ≤ sizeLine ∧ (p == sysModules) = false ∧ ∃ vs, KV kvs vs ∧ s.heap.DictOf (mixKind X.prog X.w) p vs := I.hok p _ hx
      have hlen : kvs.length = vs.length := Paired.length r
      exact wpAny_truthy_dict hS m (by omega) ⟨H, I.tok _, by rw [isEmpty_kv r]; exact q⟩
  | _ => exact (show False from e).elim
theorem pt_truth (ha : PE X a ta) (he : ∀ whole, isTrue a X.env whole = (do let v ← whole; standAt a.pos; holding [v] (truthy v))) :
    PT X a (fun σ H Q => ta σ H fun x H' => ∃ k, TruV X.K x H' k ∧ Q k H') := by
  intro pins s σ H Q I h
  exact isTrue_plain (thn (ha pins s σ H _ I h) fun v s1 ⟨x, H1, I1, r1, q1⟩ => tru_ok pins s1 σ H1 x v Q I1 r1 q1) (he _)
theorem op_add_str : OpR X (binaryOp .Add) (fun x y H Q => ∃ i j, x = .str i ∧ y = .str j ∧ i.length + j.length ≤ sizeLine ∧ Q (.str (i ++ j)) H) := by
  intro pins s σ H x y v u Q I rx ry h
  obtain ⟨i, j, rfl, rfl, hz, q⟩ := h
  obtain ⟨t, rfl⟩ := rx
  obtain ⟨t', rfl⟩ := ry
  exact add_str (fun t' tk => ⟨.str (i ++ j), H, I.tok _, ⟨_, rfl⟩, q⟩) hz
theorem vals1 {x : V} {us : List Value} (r : Vals [x] us) : ∃ u, us = [u] ∧ RelV x u := by
  cases r with
  | cons r1 r2 => cases r2; exact ⟨_, rfl, r1⟩
theorem vals2 {x y : V} {us : List Value} (r : Vals [x, y] us) : ∃ u w', us = [u, w'] ∧ RelV x u ∧ RelV y w' := by
  cases r with
  | cons r1 r2 =>
    cases r2 with
    | cons r3 r4 => cases r4; exact ⟨_, _, rfl, r1, r3⟩
end
end L2
namespace L2
open PySem PySem.Spec PyProof.Rows
structure ObjM (h : Heap) (x dx C : Addr) (mA : Str → Option Value) : Prop where
  obj : h.get? x = some (PySem.W.instObj C dx)
  ns : h.Ns1 dx mA
  ne : dx ≠ x
theorem lookIn_ns {h : Heap} {dx : Addr} {mA : Str → Option Value} (n : h.Ns1 dx mA) : ∃ od, h.get? dx = some od ∧ ∀ name, PySem.W.lookIn name od = some (mA name) := by
  obtain ⟨o, es, ep, ho, hd, hk, _, hm⟩ := n
  refine ⟨o, ho, fun name => ?_⟩
  have e := hm name
  unfold nsFind findBy at e
  rw [← Array.find?_toList] at e
  unfold PySem.W.lookIn
  rw [hd]
  dsimp only
  split
  · rename_i y q
    rw [q] at e
    exact congrArg some e
  · rename_i q
    rw [q] at e
    have a : es.toList.any (·.refKey) = false := by
      rw [List.any_eq_false]
      intro y hy
      obtain ⟨z, t, hkey⟩ := hk y (Array.mem_toList_iff.mp hy)
      simp [DictEntry.refKey, hkey]
    have a' : ¬ es.toList.any (·.refKey) = true := by rw [a]; exact Bool.false_ne_true
    rw [if_neg a']
    exact congrArg some e
theorem ObjM.look {h : Heap} {x dx C : Addr} {mA : Str → Option Value} (I : ObjM h x dx C mA) : ∃ od, PySem.W.InstAt h x (PySem.W.instObj C dx) C (some od) ∧ ∀ name, PySem.W.lookIn name od = some (mA name) :=
  let ⟨od, ho, hl⟩ := lookIn_ns I.ns
  ⟨od, ⟨I.obj, rfl, rfl, ho⟩, hl⟩
section
variable {prog : Program} {w : World} {A : Around} {E : Value → Shared → Prop} {s : Shared} {K : PySem.W.Frag} {x dx C f : Addr} {mA : Str → Option Value} {name : Str} {v : Value}
end
section
variable {P : Program} {w : World} {H H' : Hp} {h h' : Heap} {a C dx : Addr} {fs fs' : List (Str × V)}
theorem ins_get (hok : HOk P w H h) (e : H a = some (.ins C dx fs)) : ∃ mA, ObjM h a dx C mA ∧ (∀ f, RelO (fs.lookup f) (mA f)) ∧ PySem.Within mA (fs.map (·.1)) ∧ fs.length ≤ 1000 ∧ H dx = some (.own a) := by
  obtain ⟨d, z, ne, ob, mA, n, r, q⟩ := (show ObjOk P w H h a (.ins C dx fs) from hok a _ e)
  exact ⟨mA, ⟨ob, n, ne⟩, r, q, z, d⟩
end
structure Cls (K : PySem.W.Frag) (C : Addr) : Prop where
  pg : PySem.W.plainGet K C Str.empty = true
  hd : PySem.W.hasDictIn K C = true
  po : PySem.W.plainOver K C = true
  sa : PySem.W.findIn K (.ref C) "__setattr__" = some (some (.builtin "object.__setattr__"))
theorem Cls.get {K : PySem.W.Frag} {C : Addr} (c : Cls K C) (f : Str) : PySem.W.plainGet K C f = true := c.pg
section
variable {X : Cx} {pins : List (Addr × Obj)} {σ : St} {H : Hp} {s : Shared} {a C dx : Addr} {fs : List (Str × V)} {f : Str} {v : V} {A : Around} {E : Value → Shared → Prop}
end
section
variable {X : Cx} {o e value : Expr} {f : Str} {pos pos' tpos : Pos} {ta tv : TE}
end
section
variable {X : Cx} {pins : List (Addr × Obj)} {σ : St} {H : Hp} {s : Shared} {A : Around} {E : Value → Shared → Prop} {Q : Value → Shared → Prop} {c : Value} {b : Bool}
inductive TyOf (K : PySem.W.Frag) (H : Hp) : V → Value → Prop where
  | non : TyOf K H .non (.type "NoneType")
  | bl (x : Bool) : TyOf K H (.bl x) (.type "bool")
  | int (i : Int) : TyOf K H (.int i) (.type "int")
  | str (x : Str) : TyOf K H (.str x) (.type "str")
  | flt (x : UInt64) : TyOf K H (.flt x) (.type "float")
  | lst {a : Addr} {xs : List V} (e : H a = some (.lst xs)) : TyOf K H (.ref a) (.type "list")
  | frz {a : Addr} {o : Obj} {xs : List V} (e : H a = some (.frz o (.lst xs))) : TyOf K H (.ref a) (.type "list")
  | tup {a : Addr} {xs : List V} (e : H a = some (.tup xs)) : TyOf K H (.ref a) (.type "tuple")
  | dK {a : Addr} {kvs : List (Key × V)} (e : H a = some (.dK kvs)) : TyOf K H (.ref a) (.type "dict")
  | dT {a : Addr} {kvs : List (List Key × V)} (e : H a = some (.dT kvs)) : TyOf K H (.ref a) (.type "dict")
  | ins {a C dx : Addr} {fs : List (Str × V)} (e : H a = some (.ins C dx fs)) (cl : Cls K C) (ha : PySem.W.findIn K (.ref C) "__class__" = some (some (.builtin "object.__class__")))
      (hn : PySem.W.specialIn K (.builtin "object.__class__") "__get__" = some (some (.builtin "getset_descriptor.__get__"))) (htk : PySem.W.takesIn K (.builtin "object.__class__") = some true)
      (hm : PySem.W.mroIn K C (.type "object") = some true) : TyOf K H (.ref a) (.ref C)
theorem isinst_ok {x : V} {u t : Value} (I : Inv X pins σ H s) (rx : RelV x u) (ty : TyOf X.K H x t) (e : PySem.W.kitOne X.K t c = some b) (h : ∀ tk, Q (.bool b) { s with toks := tk }) :
    wpAny (model X.prog X.w) A (call (.builtin "isinstance") [u, c]) Q E s := by
  cases ty with
  | non => cases (show u = Value.none from rx); exact PySem.W.kia_one PySem.W.kitx_none I.kIn True.intro e (fun z => nomatch z) h
  | bl y => cases (show u = Value.bool y from rx); exact PySem.W.kia_one PySem.W.kitx_bool I.kIn True.intro e (fun z => nomatch z) h
  | int i => obtain ⟨t, q⟩ := (show ∃ t, u = Value.int i t from rx); cases q; exact PySem.W.kia_one PySem.W.kitx_int I.kIn True.intro e (fun z => nomatch z) h
  | str y => obtain ⟨t, q⟩ := (show ∃ t, u = Value.str y t from rx); cases q; exact PySem.W.kia_one PySem.W.kitx_str I.kIn True.intro e (fun z => nomatch z) h
  | flt y => obtain ⟨t, q⟩ := (show ∃ t, u = Value.float y t from rx); cases q; exact PySem.W.kia_one PySem.W.kitx_float I.kIn True.intro e (fun z => nomatch z) h
  | @lst a xs ea =>
    cases (show u = Value.ref a from rx)
    obtain ⟨_, _, n, _, h1⟩ := (show ObjOk X.prog X.w H s.heap a (.lst xs) from I.hok a _ ea)
    exact PySem.W.kia_one PySem.W.kitx_list I.kIn ⟨_, h1, rfl⟩ e (fun z => nomatch z) h
  | @frz a ob xs ea =>
    cases (show u = Value.ref a from rx)
    obtain ⟨_, _, _, n, _, h1⟩ := (show ObjOk X.prog X.w H s.heap a (.frz ob (.lst xs)) from I.hok a _ ea)
    exact PySem.W.kia_one PySem.W.kitx_list I.kIn ⟨_, h1, rfl⟩ e (fun z => nomatch z) h
  | @tup a xs ea =>
    cases (show u = Value.ref a from rx)
    obtain ⟨_, _, _, p⟩ := (show ObjOk X.prog X.w H s.heap a (.tup xs) from I.hok a _ ea)
    obtain ⟨o, h1, h2, _⟩ := p
    exact PySem.W.kia_one PySem.W.kitx_tuple I.kIn ⟨o, h1, h2⟩ e (fun z => nomatch z) h
  | @dK a kvs ea =>
    cases (show u = Value.ref a from rx)
    obtain ⟨_, _, vs, _, p⟩ := (show ObjOk X.prog X.w H s.heap a (.dK kvs) from I.hok a _ ea)
    obtain ⟨o, es, ep, h1, h2, _⟩ := p
    exact PySem.W.kia_one PySem.W.kitx_dict I.kIn ⟨o, h1, h2.1⟩ e (fun z => nomatch z) h
  | @dT a kvs ea =>
    cases (show u = Value.ref a from rx)
    obtain ⟨_, _, xs, _, o, es, ep, h1, h2, _⟩ := (show ObjOk X.prog X.w H s.heap a (.dT kvs) from I.hok a _ ea)
    exact PySem.W.kia_one PySem.W.kitx_dict I.kIn ⟨o, h1, h2.1⟩ e (fun z => nomatch z) h
  | @ins a C dx fs ea cl ha hn htk hm =>
    cases (show u = Value.ref a from rx)
    obtain ⟨mA, O, _⟩ := ins_get I.hok ea
    obtain ⟨od, J, _⟩ := O.look
    exact PySem.W.kia_one (PySem.W.kitx_own (cl.get _) cl.hd ha hn htk hm) I.kIn J e (fun z => nomatch z) h
end
end L2
namespace L2
open PySem PySem.Spec PyProof.Rows
structure Room (k : Nat) (A : Around) : Prop where
  hd : A.handled = none
  dp : A.depth + 3 * k + 5 < recursionLimit
  un : A.units + 16 * k + 200 < cLine
theorem Room.mono {j k : Nat} {A : Around} (r : Room k A) (h : j ≤ k) : Room j A := ⟨r.hd, by have := r.dp; omega, by have := r.un; omega⟩
theorem Room.deeper {k : Nat} {A : Around} (r : Room (k + 1) A) (env : Env) : Room k (A.deeper env) :=
  ⟨r.hd, by have := r.dp; show A.depth + 1 + 3 * k + 5 < _; omega, by have := r.un; show A.units + 3 + 16 * k + 200 < _; omega⟩
theorem Room.depth {k : Nat} {A : Around} (r : Room k A) : A.depth < recursionLimit := by have := r.dp; omega
def tNil : TA := fun _ H Q => Q [] H
def tCons (ta : TE) (tr : TA) : TA := fun σ H Q => ta σ H fun x H1 => tr σ H1 fun xs H2 => Q (x :: xs) H2
section
variable {X : Cx} {e : Expr} {es : List Expr} {te : TE} {t : TA} {pos : Pos}
theorem pa_nil : PA X [] tNil := fun _ _ _ _ H Q I h => Calls.spliced_nil ⟨[], H, I, .nil, h⟩
theorem pa_cons (ha : PE X e te) (hr : PA X es t) (hs : starEach (e :: es) X.env = (false, eval e X.env) :: starEach es X.env := by rfl) : PA X (e :: es) (tCons te t) := by
  intro pos pins s σ H Q I h
  rw [hs]
  show wpAny _ _ (spliced ((false, eval e X.env) :: backTo pos (starEach es X.env))) _ _ s
  refine Calls.spliced_cons (thn (ha pins s σ H _ I h) fun u s1 ⟨x, H1, I1, r1, q1⟩ => ?_)
  exact thn (hr pos pins s1 σ H1 _ I1 q1) fun us s2 ⟨xs, H2, I2, r2, q2⟩ => ⟨x :: xs, H2, I2, .cons r1 r2, q2⟩
def tTup (t : TA) : TE := fun σ H Q => t σ H fun xs H1 => xs.length ≤ sizeLine ∧ ∀ p, H1 p = none → Q (.ref p) (upd H1 p (.tup xs))
def tLst (t : TA) : TE := fun σ H Q => t σ H fun xs H1 => xs.length ≤ sizeLine ∧ ∀ p, H1 p = none → Q (.ref p) (upd H1 p (.lst xs))
theorem pe_tup {x1} (h : PA X es t) : PE X (.Tuple es x1 pos) (tTup t) := by
  intro pins s σ H Q I hq
  refine wpAny_Tuple_spliced (thn (h pos pins s σ H _ I hq) fun us s1 ⟨xs, H1, I1, r, z, q⟩ => ⟨by rw [← r.length]; exact z, ?_⟩)
  have hf : H1 s1.heap.objs.size = none := I1.hok.fresh (Nat.le_refl _)
  refine ⟨.ref s1.heap.objs.size, upd H1 s1.heap.objs.size (.tup xs), I1.laid (t' := s1.toks) (fun b u e => Heap.get?_push_of_some _ e) (Nat.le_refl _) ?_, rfl, q _ hf⟩
  exact ⟨z, us, r, ⟨_, Heap.get?_push_size _ rfl, rfl, _, rfl⟩⟩
theorem pe_lst (h : PA X es t) : PE X (.List es pos) (tLst t) := by
  intro pins s σ H Q I hq
  refine wpAny_List_spliced (thn (h pos pins s σ H _ I hq) fun us s1 ⟨xs, H1, I1, r, z, q⟩ => ⟨by rw [← r.length]; exact z, ?_⟩)
  have hf : H1 s1.heap.objs.size = none := I1.hok.fresh (Nat.le_refl _)
  refine ⟨.ref s1.heap.objs.size, upd H1 s1.heap.objs.size (.lst xs), I1.laid (t' := s1.toks) (fun b u e => Heap.get?_push_of_some _ e) (Nat.le_refl _) ?_, rfl, q _ hf⟩
  exact ⟨z, us, 0, r, Heap.get?_push_size _ rfl⟩
end
abbrev Sp := List V → Hp → VK → XK → Prop
abbrev CXT := List Env → Hp → Shared → XK → Value → Shared → Prop
structure Env0 (P : Program) (w : World) (K : PySem.W.Frag) (mg : Str → Option Value) (base : Heap) (A : Around) (outer : List Env) (s : Shared) (H : Hp) : Prop where
  frames : A.frames = some outer
  mod : Mod K mg base
  bs : ∀ b o, base.get? b = some o → s.heap.get? b = some o ∧ H b = none
  bsz : base.objs.size ≤ s.heap.objs.size
  funs : s.heap.FunFrames base outer
  frf : ∀ b ∈ frs outer, H b = none
  hok : HOk P w H s.heap
  bare : AllBare s.gens
def CE (outer : List Env) (P : Program) (w : World) (H : Hp) (s : Shared) (Q : VK) (u : Value) (s' : Shared) : Prop :=
  ∃ v H', s'.os = s.os ∧ AllBare s'.gens ∧ Un (frs outer) [] H H' s.heap s'.heap ∧ HOk P w H' s'.heap ∧ RelV v u ∧ Q v H'
def CR (CX : CXT) (outer : List Env) (P : Program) (w : World) (H : Hp) (s : Shared) (Q : VK) (E : XK) (r : Result) (s' : Shared) : Prop :=
  match r with
  | .ok (.ret u) => CE outer P w H s Q u s'
  | .ok _ => False
  | .error e => CX outer H s E e s'
structure FnOk (P : Program) (w : World) (K : PySem.W.Frag) (mg : Str → Option Value) (base : Heap) (CX : CXT) (k : Nat) (f : Addr) (fd : FuncData) (ps : List Str) (sp : Sp) : Prop where
  len : ∀ vs H Q E, sp vs H Q E → vs.length = ps.length
  run : ∀ (A : Around) (outer : List Env) (s : Shared) (H : Hp) (args : Args) (us : List Value) (vs : List V) (Q : VK) (E : XK), Room k A → Env0 P w K mg base A outer s H → BindsTo s fd args (ps.zip us) → Vals vs us → sp vs H Q E →
    codeAny (model P w) A (.call (.ref f) args) (CR CX outer P w H s Q E) s
theorem FnOk.mono {P : Program} {w : World} {K : PySem.W.Frag} {mg : Str → Option Value} {base : Heap} {CX : CXT} {j k : Nat} {f : Addr} {fd : FuncData} {ps : List Str} {sp : Sp} (F : FnOk P w K mg base CX j f fd ps sp) (h : j ≤ k) :
    FnOk P w K mg base CX k f fd ps sp := ⟨F.len, fun A outer s H args us vs Q E hr => F.run A outer s H args us vs Q E (hr.mono h)⟩
section
variable {X : Cx} {pins : List (Addr × Obj)} {σ : St} {H : Hp} {s s' : Shared}
theorem Inv.env0 (I : Inv X pins σ H s) : Env0 X.prog X.w X.K X.mg X.base X.A X.stack s H :=
  ⟨I.ok.frames, I.ok.mod, I.bs, Nat.le_trans I.ok.bsz I.sz, I.stack, I.stkFree, I.hok, I.bare⟩
theorem Inv.after {Q : VK} {u : Value} (I : Inv X pins σ H s) (h : CE X.stack X.prog X.w H s Q u s') : EP X pins σ Q u s' := by
  obtain ⟨v, H', os, bare, un, hok, r, q⟩ := h
  obtain ⟨hh, g, d, t, os'⟩ := s'
  obtain rfl : os' = s.os := os
  exact ⟨v, H', I.call (h' := hh) (g' := g) (d' := d) (t' := t) (ch := []) un hok bare (fun b z => absurd z (by simp)), r, q⟩
end
def tCall (sp : Sp) (dvs : List V) (E : XK) (t : TA) : TE := fun σ H Q => t σ H fun vs H1 => sp (vs ++ dvs) H1 Q E
def Binds (K : PySem.W.Frag) (fd : FuncData) (ps : List Str) (ds : List Value) : Prop :=
  ∀ (s : Shared) (us : List Value), K.In s.heap → (us ++ ds).length = ps.length → BindsTo s fd ⟨us, []⟩ (ps.zip (us ++ ds))
theorem Binds.all {K : PySem.W.Frag} {fd : FuncData} {ps : List Str} (h : ∀ us : List Value, us.length = ps.length → bindArgs fd ⟨us, []⟩ = pure (ps.zip us)) : Binds K fd ps [] := fun s us _ hl => by
  rw [List.append_nil] at hl ⊢
  exact .of_eq (h us hl)
def Passes (CX : CXT) (X : Cx) (E : XK) : Prop := ∀ (pins : List (Addr × Obj)) (σ : St) (H : Hp) (s : Shared) (e : Value) (s' : Shared), Inv X pins σ H s → CX X.stack H s E e s' → X.xe e s'
section
variable {X : Cx} {CX : CXT} {k : Nat} {f C : Addr} {fd : FuncData} {ps : List Str} {sp : Sp} {dvs : List V} {ds : List Value} {E : XK} {x m : Str} {p pos apos : Pos} {e o : Expr} {es : List Expr} {ta : TE} {t : TA}
theorem run_fn {pins : List (Addr × Obj)} {σ : St} {H : Hp} {s : Shared} {Q : VK} {us : List Value} {vs : List V} (F : FnOk X.prog X.w X.K X.mg X.base CX k f fd ps sp) (hr : Room k X.A) (hb : Binds X.K fd ps ds) (hd : Vals dvs ds) (hx : Passes CX X E)
    (I : Inv X pins σ H s) (r : Vals vs us) (h : sp (vs ++ dvs) H Q E) : wpAny (model X.prog X.w) X.A (call (.ref f) us) (EP X pins σ Q) X.xe s := by
  have r2 : Vals (vs ++ dvs) (us ++ ds) := r.append hd
  have hl : (us ++ ds).length = ps.length := by rw [← r2.length]; exact F.len _ _ _ _ h
  refine wpAny_call (codeAny_mono (F.run X.A X.stack s H ⟨us, []⟩ (us ++ ds) (vs ++ dvs) Q E hr I.env0 (hb s us I.kIn hl) r2 h) fun r s' hq => ?_)
  cases r with
  | error e => exact hx pins σ H s e s' I hq
  | ok fl =>
    cases fl with
    | ret u => exact I.after hq
    | next => exact False.elim hq
    | brk => exact False.elim hq
    | cont => exact False.elim hq
theorem pe_call (F : FnOk X.prog X.w X.K X.mg X.base CX k f fd ps sp) (hr : Room k X.A) (hg : Gl X x) (hm : X.mg x = some (.ref f)) (hk : PySem.W.keepIn X.K (.ref f) = true) (hb : Binds X.K fd ps ds) (hd : Vals dvs ds) (hx : Passes CX X E)
    (ha : PA X (e :: es) t) (hdb : (x == ("__debug__" : Str)) = false := by decide) (he : starEach (e :: es) X.env = (false, eval e X.env) :: starEach es X.env := by rfl) (hpl : (backTo pos (starEach es X.env)).any (·.1) = false := by rfl) :
    PE X (.Call (.Name x p) (e :: es) [] pos) (tCall sp dvs E t) := by
  intro pins s σ H Q I h
  refine wpAny_Call_Name_kw (ld_glob I hg hm ?_ hdb)
  refine PySem.W.callWith_K (h₀ := X.base) I.ok.mod.kin hk (thn (ha pos pins s σ H _ I h) fun us s1 ⟨vs, H1, I1, r, q⟩ => ⟨I1.kIn, ?_⟩) he hpl
  exact run_fn F hr hb hd hx I1 r q
end
section
variable {X : Cx} {CX : CXT} {k : Nat} {f C : Addr} {fd : FuncData} {ps ks : List Str} {sp : Sp} {E : XK} {x m : Str} {p pos apos kpos : Pos} {e o : Expr} {es : List Expr} {kws : List Keyword} {te ta : TE} {t tk : TA} {nm : Option Str}
variable {g : List Value → List Value → List Value} {gV : List V → List V → List V}
end
structure FnScope (N P : List Str) (sc : Scope) : Prop where
  kind : sc.kind = .function
  co : sc.isCoroutine = false
  gen : sc.isGenerator = false
  nd : N.Nodup
  pre : N.take P.length = P
  par : ∀ x ∈ P, sc.names.lookup x = some .local ∨ sc.names.lookup x = some .cell
  nofree : ∀ y ∈ sc.names, y.2 ≠ .free
theorem bindL_out {kindOf : Str → Option NameKind} {x : Str} : ∀ {binds : List (Str × Value)} {m : Str → Option Value}, (∀ v, (x, v) ∉ binds) → bindL kindOf binds m x = m x
  | [], _, _ => rfl
  | (n, v) :: r, m, h => by
    unfold bindL
    rw [bindL_out fun w hw => h w (List.mem_cons_of_mem _ hw)]
    split
    · have : x ≠ n := by rintro rfl; exact h v List.mem_cons_self
      simp [this]
    · rfl
theorem bindC_out {kindOf : Str → Option NameKind} {x : Str} : ∀ {binds : List (Str × Value)} {m : Str → Option Value}, (∀ v, (x, v) ∉ binds) → bindC kindOf binds m x = m x
  | [], _, _ => rfl
  | (n, v) :: r, m, h => by
    unfold bindC
    rw [bindC_out fun w hw => h w (List.mem_cons_of_mem _ hw)]
    split
    · rfl
    · have : x ≠ n := by rintro rfl; exact h v List.mem_cons_self
      simp [this]
theorem bindL_get {kindOf : Str → Option NameKind} {x : Str} {v : Value} : ∀ {P : List Str} {vs : List Value} {i : Nat} {m : Str → Option Value}, P.Nodup → P[i]? = some x → vs[i]? = some v → kindOf x = some .local →
    bindL kindOf (P.zip vs) m x = some v
  | [], _, _, _, _, h, _, _ => by simp at h
  | _ :: _, [], _, _, _, _, h, _ => by simp at h
  | p :: P, w :: vs, 0, m, nd, h1, h2, hk => by
    simp at h1 h2; subst h1; subst h2
    show bindL kindOf ((p, w) :: P.zip vs) m p = _
    unfold bindL
    rw [bindL_out fun v hv => (List.nodup_cons.mp nd).1 (List.of_mem_zip hv).1, if_pos hk]
    simp
  | p :: P, w :: vs, i + 1, m, nd, h1, h2, hk => by
    show bindL kindOf ((p, w) :: P.zip vs) m x = _
    unfold bindL
    exact bindL_get (i := i) (List.nodup_cons.mp nd).2 (by simpa using h1) (by simpa using h2) hk
theorem bindC_get {kindOf : Str → Option NameKind} {x : Str} {v : Value} : ∀ {P : List Str} {vs : List Value} {i : Nat} {m : Str → Option Value}, P.Nodup → P[i]? = some x → vs[i]? = some v → kindOf x ≠ some .local →
    bindC kindOf (P.zip vs) m x = some v
  | [], _, _, _, _, h, _, _ => by simp at h
  | _ :: _, [], _, _, _, _, h, _ => by simp at h
  | p :: P, w :: vs, 0, m, nd, h1, h2, hk => by
    simp at h1 h2; subst h1; subst h2
    show bindC kindOf ((p, w) :: P.zip vs) m p = _
    unfold bindC
    rw [bindC_out fun v hv => (List.nodup_cons.mp nd).1 (List.of_mem_zip hv).1, if_neg hk]
    simp
  | p :: P, w :: vs, i + 1, m, nd, h1, h2, hk => by
    show bindC kindOf ((p, w) :: P.zip vs) m x = _
    unfold bindC
    exact bindC_get (i := i) (List.nodup_cons.mp nd).2 (by simpa using h1) (by simpa using h2) hk
def start (N : List Str) (vs : List V) : St := vs.map some ++ List.replicate (N.length - vs.length) none
def cxOf (CX : CXT) (P : Program) (w : World) (K : PySem.W.Frag) (mg : Str → Option Value) (base : Heap) (N : List Str) (qual : Str) (scope : Scope) (f : Addr) (cd : Value) (A : Around) (outer : List Env) (s : Shared) (H : Hp) (E : XK) : Cx where
  prog := P
  w := w
  K := K
  mg := mg
  base := base
  A := A.deeper (envOfC qual scope s.heap.objs.size f cd)
  N := N
  s₀ := s
  H₀ := H
  env := envOfC qual scope s.heap.objs.size f cd
  outer := outer
  stack := envOfC qual scope s.heap.objs.size f cd :: outer
  ex := []
  calm := true
  fn := fun _ => true
  pn := []
  xe := fun e s' => wpAny (model P w) (A.deeper (envOfC qual scope s.heap.objs.size f cd)) (leaving (envOfC qual scope s.heap.objs.size f cd) e) (fun _ s'' => CX outer H s E e s'') (fun e' s'' => CX outer H s E e' s'') s'
theorem cell_has {sc : Scope} {n : Nat} {x : Str} (h : sc.names.lookup x = some .cell) : ∃ c, (cellsFrom n sc.names []).lookup x = some c := by
  have q := PySem.W.cellsFrom_some sc.names n [] (.inl h)
  exact Option.isSome_iff_exists.mp q
theorem inv_start {CX : CXT} {P : Program} {w : World} {K : PySem.W.Frag} {mg : Str → Option Value} {base : Heap} {N ps : List Str} {qual : Str} {scope : Scope} {f : Addr} {cd : Value} {A : Around} {outer : List Env} {s s1 : Shared} {H : Hp} {E : XK} {us : List Value} {vs : List V}
    (S : FnScope N ps scope) (hd : A.handled = none) (e0 : Env0 P w K mg base A outer s H) (hl : vs.length = ps.length) (r : Vals vs us)
    (x : InCallC s s.heap.objs.size (bindL (envOfC qual scope s.heap.objs.size f cd).kindOf (ps.zip us) fun _ => none) (cellsFrom (s.heap.objs.size + 1) scope.names []) (bindC (envOfC qual scope s.heap.objs.size f cd).kindOf (ps.zip us) fun _ => none) s1) :
    Inv (cxOf CX P w K mg base N qual scope f cd A outer s H E) [] (start N vs) H s1 := by
  have hpl : ps.length ≤ N.length := by have := congrArg List.length S.pre; rw [List.length_take] at this; omega
  obtain ⟨h1, tk, rfl, hk⟩ := x.done
  have noA : ∀ b : Addr, b ∉ (cxOf CX P w K mg base N qual scope f cd A outer s H E).ex := fun b z => absurd (show b ∈ ([] : List Addr) from z) (by simp)
  refine ⟨⟨e0.mod, S.kind, rfl, rfl, Nat.le_refl _, fun y z c h1 h2 => ?_, fun y hy => ?_, fun y c _ h => ?_, fun _ => hd, Around.frames_deeper e0.frames, .inr ⟨rfl, rfl⟩, fun b z => absurd z (noA b), e0.bs, e0.bsz, fun b _ _ => noA b, fun b z => absurd z (noA b), e0.funs, e0.frf⟩,
    rfl, e0.bare, Un.kept hk, ⟨_, x.toInCall.ns, fun i y v h1 h2 h3 => ?_⟩, fun y c h => ⟨_, x.cell y c h⟩, e0.hok.fresh (Nat.le_refl _), fun y c h => ?_, fun p hp => absurd (show p ∈ ([] : List (Addr × Obj)) from hp) (by simp), e0.hok.kept hk, ?_⟩
  · exact name_of_addr x.apart (PySem.mem_of_lookup h1) (PySem.mem_of_lookup h2)
  · have hy : scope.names.lookup y = some .cell ∨ scope.names.lookup y = some .free := hy
    rcases hy with hy | hy
    · exact cell_has hy
    · exact absurd rfl (S.nofree _ (PySem.mem_of_lookup hy))
  · exact Nat.le_of_lt (x.above y c (PySem.mem_of_lookup h))
  · have hi : i < vs.length := by
      unfold start at h2
      by_cases hi : i < vs.length
      · exact hi
      · rw [List.getElem?_append_right (by simpa using hi)] at h2
        rw [List.getElem?_replicate] at h2
        split at h2 <;> cases h2
    have ha : vs[i]? = some v := by
      unfold start at h2
      rw [List.getElem?_append_left (by simpa using hi), List.getElem?_map] at h2
      cases e : vs[i]? with
      | none => rw [e] at h2; cases h2
      | some a => rw [e] at h2; cases h2; rfl
    obtain ⟨u, hu, rv⟩ := r.get ha
    have hp : ps[i]? = some y := by
      rw [← S.pre, List.getElem?_take_of_lt (by omega)]; exact h1
    have ndP : ps.Nodup := by rw [← S.pre]; exact S.nd.sublist (List.take_sublist _ _)
    refine ⟨u, rv, ?_⟩
    rcases S.par y (List.mem_of_getElem? hp) with k | k
    · exact .inl ⟨k, bindL_get ndP hp hu k⟩
    · obtain ⟨c, e⟩ := cell_has (n := s.heap.objs.size + 1) k
      refine .inr ⟨.inl k, c, e, ?_⟩
      have q := x.cell y c e
      rw [bindC_get ndP hp hu (by show scope.names.lookup y ≠ _; rw [k]; decide)] at q
      exact q
  · exact e0.hok.fresh (Nat.le_of_lt (x.above y c (PySem.mem_of_lookup h)))
  · unfold start
    show _ = N.length
    rw [List.length_append, List.length_map, List.length_replicate]
    omega
theorem fn_of {CX : CXT} {P : Program} {w : World} {K : PySem.W.Frag} {mg : Str → Option Value} {base : Heap} {k : Nat} {f : Addr} {name qual : Str} {params : Arguments} {body : List Stmt} {scope : Scope} {dV kV doc pm cdv ct oc : Value} {an od : Option Addr}
    {osl : Array (Option Value)} {N ps : List Str} {sp : Sp} (lk : K.lookup f = some ⟨oc, od, .func (PySem.W.fnOf name qual params body scope dV kV doc pm an cdv ct), osl⟩) (hcd : PySem.W.codeIn K cdv qual = true) (S : FnScope N ps scope)
    (len : ∀ vs H Q E, sp vs H Q E → vs.length = ps.length)
    (hbody : ∀ (A : Around) (outer : List Env) (s : Shared) (H : Hp) (vs : List V) (Q : VK) (E : XK), Room k (A.deeper (envOfC qual scope s.heap.objs.size f cdv)) → sp vs H Q E →
      ∃ t, PSs (cxOf CX P w K mg base N qual scope f cdv A outer s H E) body t ∧ t { nx := fun _ H' => Q .non H', rt := Q } (start N vs) H) :
    FnOk P w K mg base CX (k + 1) f (PySem.W.fnOf name qual params body scope dV kV doc pm an cdv ct) ps sp := by
  refine ⟨len, fun A outer s H args us vs Q E hr e0 hb r hsp => ?_⟩
  have hl := len _ _ _ _ hsp
  have KX : K.In s.heap := e0.mod.kin.keeps fun b o e => (e0.bs b o e).1
  have lim : s.heap.NoLimit := e0.mod.nolimit.keeps fun b o e => (e0.bs b o e).1
  have hkind : ∀ y ∈ ps.zip us, scope.names.lookup y.1 = some .local ∨ (scope.names.lookup y.1 = some .cell ∧ ((cellsFrom (s.heap.objs.size + 1) scope.names []).lookup y.1).isSome = true) := fun ⟨n, v⟩ hy => by
    rcases S.par n (List.of_mem_zip hy).1 with q | q
    · exact .inl q
    · exact .inr ⟨q, PySem.W.cellsFrom_some _ _ _ (.inl q)⟩
  refine codeAny_call_function hr.depth (KX _ _ lk) rfl S.co S.gen rfl (PySem.W.codeRec_of KX hcd) (hb _ _ _ _ ?_)
  refine wpAny_newFunctionEnv_cells S.kind hkind fun env he s1 x => ?_
  subst he
  refine ⟨lim.keeps x.toInCall.keep, codeAny_func ?_⟩
  obtain ⟨t, ht, hq⟩ := hbody A outer s H vs Q E (hr.deeper _) hsp
  have I : Inv (cxOf CX P w K mg base N qual scope f cdv A outer s H E) [] (start N vs) H s1 := inv_start S hr.hd e0 hl r x
  refine wpAny_mono (ht [] s1 (start N vs) H _ I hq) (fun fl s' hs => ?_) fun e s' hs => hs
  have fin : ∀ {σ' : St} {H' : Hp} {v : V} {u : Value}, Inv (cxOf CX P w K mg base N qual scope f cdv A outer s H E) [] σ' H' s' → RelV v u → Q v H' → CE outer P w H s Q u s' :=
    fun {σ' H' v u} J rv q => ⟨v, H', J.os, J.bare, J.base, J.hok, rv, q⟩
  cases fl with
  | ret u =>
    obtain ⟨v, σ', H', J, rv, q⟩ := hs
    exact fin J rv q
  | next =>
    obtain ⟨σ', H', J, q⟩ := hs
    exact fin (v := V.non) (u := Value.none) J rfl q
  | brk =>
    obtain ⟨_, _, _, q⟩ := hs
    exact False.elim q
  | cont =>
    obtain ⟨_, _, _, q⟩ := hs
    exact False.elim q
end L2
namespace L2
open PySem PySem.Spec PyProof.Rows
section
variable {X : Cx} {x : Str} {p pos : Pos} {e : Expr} {es : List Expr} {t : TA} {id T : String} {r : List V → Hp → VK → Prop}
def tCB (r : List V → Hp → VK → Prop) (t : TA) : TE := fun σ H Q => t σ H fun vs H1 => r vs H1 Q
theorem pe_callB (hc : CallR X (.builtin id) r) (hg : Gl X x) (hm : X.mg x = none) (hv : bootBuiltins x = some (.builtin id)) (ha : PA X (e :: es) t) (hn : x ≠ "__name__" := by decide) (hdb : (x == ("__debug__" : Str)) = false := by decide)
    (he : starEach (e :: es) X.env = (false, eval e X.env) :: starEach es X.env := by rfl) (hpl : (backTo pos (starEach es X.env)).any (·.1) = false := by rfl) : PE X (.Call (.Name x p) (e :: es) [] pos) (tCB r t) := by
  intro pins s σ H Q I h
  refine wpAny_Call_Name_kw (ld_blt I hg hm hv ?_ hn hdb)
  exact PyProof.Rows.callWith_builtin1 (thn (ha pos pins s σ H _ I h) fun us s1 ⟨vs, H1, I1, r1, q1⟩ => hc pins s1 σ H1 vs us Q I1 r1 q1) he hpl
theorem pe_callTy (hc : CallR X (.type T) r) (hg : Gl X x) (hm : X.mg x = none) (hv : bootBuiltins x = some (.type T)) (ha : PA X (e :: es) t) (hn : x ≠ "__name__" := by decide) (hdb : (x == ("__debug__" : Str)) = false := by decide)
    (he : starEach (e :: es) X.env = (false, eval e X.env) :: starEach es X.env := by rfl) (hpl : (backTo pos (starEach es X.env)).any (·.1) = false := by rfl) : PE X (.Call (.Name x p) (e :: es) [] pos) (tCB r t) := by
  intro pins s σ H Q I h
  refine wpAny_Call_Name_kw (ld_blt I hg hm hv ?_ hn hdb)
  exact PyProof.Rows.callWith_type1 (thn (ha pos pins s σ H _ I h) fun us s1 ⟨vs, H1, I1, r1, q1⟩ => hc pins s1 σ H1 vs us Q I1 r1 q1) he hpl
end
end L2
namespace HT
open PySem PyProof.Rows
section
open PySem.SeqAt
open PySem.AutoSeq1 (wpAny_loadPart')
open PySem.MeetsSeq PySem.MeetsSeq2 PySem.MeetsSeq3
end
section
variable {prog : Program} {w : World} {A : Around} {E : Value → Shared → Prop} {s : Shared}
theorem cat_tup {t b : Addr} {vs ws : List Value} {Q : Value → Shared → Prop} (ht : IsTup s.heap t vs.toArray) (hb : IsTup s.heap b ws.toArray) (hv : vs ≠ [])
    (h1 : ws = [] → Q (.ref t) s) (h2 : ws ≠ [] → Q (.ref s.heap.objs.size) { s with heap := s.heap.push { cls := .type "tuple", data := .seq (vs ++ ws).toArray } })
    (hsz : vs.length + ws.length ≤ sizeLine) : wpAny (model prog w) A (binaryOp .Add (.ref t) (.ref b)) Q E s := by
  obtain ⟨⟨cls, dd, data, sl⟩, ho, hc, n, hd⟩ := id ht
  obtain ⟨⟨cls2, dd2, data2, sl2⟩, ho2, hc2, n2, hd2⟩ := id hb
  simp only at hc hd hc2 hd2
  subst hc hd hc2 hd2
  have e : vs.toArray ++ ws.toArray = (vs ++ ws).toArray := by simp
  by_cases hw : ws = []
  · exact concat_meets ⟨_, ho, rfl⟩ ⟨_, ho2, rfl⟩ noFill_tuple_add seq_tuple_add PySem.F.slot_tuple_add PySem.F.entry_tuple_add (PySem.F.args_tuple_add_2 _ _)
      (tuple_addW1 t b vs.toArray ws.toArray n n2 dd dd2 sl sl2 (by simpa using hv) (by simp [hw])) ⟨ho, ho2, h1 hw⟩
  · refine concat_meets ⟨_, ho, rfl⟩ ⟨_, ho2, rfl⟩ noFill_tuple_add seq_tuple_add PySem.F.slot_tuple_add PySem.F.entry_tuple_add (PySem.F.args_tuple_add_2 _ _)
      (tuple_addW2 t b vs.toArray ws.toArray n n2 dd dd2 sl sl2 (by simpa using hv) (by simpa using hw) (by rw [List.size_toArray, List.size_toArray]; exact hsz)) ⟨ho, ho2, ?_⟩
    rw [e]
    exact h2 hw
def sIx (n d : Nat) : Option Int → Nat
  | none => d
  | some v => if v < 0 then (v + (n : Int)).toNat else min v.toNat n
theorem sIx_none (n d : Nat) : sIx n d none = d := rfl
theorem sIx_nat (n d k : Nat) : sIx n d (some (k : Int)) = min k n := by
  show (if (k : Int) < 0 then ((k : Int) + (n : Int)).toNat else min (k : Int).toNat n) = min k n
  rw [if_neg (by omega), Int.toNat_natCast]
theorem sIx_le (n d : Nat) (hd : d ≤ n) (o : Option Int) : sIx n d o ≤ n := by
  cases o with
  | none => exact hd
  | some v =>
    show (if v < 0 then (v + (n : Int)).toNat else min v.toNat n) ≤ n
    by_cases hv : v < 0
    · rw [if_pos hv]; omega
    · rw [if_neg hv]; exact Nat.min_le_right _ _
theorem clip_eq (v : Int) (n d : Nat) : (if v < 0 then max (v + (n : Int)) 0 else min v (n : Int)) = ((sIx n d (some v) : Nat) : Int) := by
  show (if v < 0 then max (v + (n : Int)) 0 else min v (n : Int)) = (((if v < 0 then (v + (n : Int)).toNat else min v.toNat n) : Nat) : Int)
  by_cases hv : v < 0
  · simp only [if_pos hv]; omega
  · simp only [if_neg hv]; omega
theorem adjust_gen (lo hi : Option Int) (n : Nat) : Builtin.Slice.sliceAdjust lo hi 1 (n : Int) = (((sIx n 0 lo : Nat) : Int), ((sIx n n hi : Nat) : Int)) := by
  have h1 : ¬ ((1 : Int) < 0) := by omega
  unfold Builtin.Slice.sliceAdjust
  simp only [h1, if_false]
  refine Prod.ext ?_ ?_
  · cases lo with
    | none => rfl
    | some v => exact clip_eq v n 0
  · cases hi with
    | none => rfl
    | some v => exact clip_eq v n n
theorem places_gen (i j : Nat) : Builtin.Slice.slicePlaces (i : Int) (j : Int) 1 = j - i := by
  unfold Builtin.Slice.slicePlaces
  have h1 : (1 : Int) > 0 := by omega
  simp only [h1, if_true, Int.ediv_one]
  split <;> omega
theorem slicePart_ {v : Value} {o : Option Int} {Q : Option Int → Shared → Prop} (p : IsPart v o) (h : Q o s) : wpAny (model prog w) A (Builtin.Slice.slicePartIndex v) Q E s := by
  cases p with
  | none => exact slicePart_none h
  | int i t => exact slicePart_int h
theorem sliceApplied_gen {sl : Addr} {vl vu : Value} {lo hi : Option Int} {n : Nat} {Q : Int × Int × Nat → Shared → Prop} (hs : s.heap.IsSliceOf sl vl vu .none) (pl : IsPart vl lo) (pu : IsPart vu hi)
    (h : Q (((sIx n 0 lo : Nat) : Int), 1, sIx n n hi - sIx n 0 lo) s) : wpAny (model prog w) A (Builtin.Slice.sliceApplied (.ref sl) (pure (n : Int))) Q E s := by
  obtain ⟨os, hos, hcs, hds⟩ := id hs
  unfold Builtin.Slice.sliceApplied Builtin.Slice.sliceFields
  refine wpAny_bind (wpAny_bind (wpAny_field hos hds (x := vl) rfl (wpAny_bind (wpAny_field hos hds (x := vu) rfl (wpAny_bind (wpAny_field hos hds (x := .none) rfl (wpAny_pure ?_)))))))
  refine wpAny_bind (slicePart_none ?_)
  show wpAny _ _ (if ((1 : Int) == 0) = true then _ else _) _ _ s
  rw [if_neg (by decide)]
  refine wpAny_bind (slicePart_ pl (wpAny_bind (slicePart_ pu (wpAny_bind (wpAny_pure ?_)))))
  show wpAny _ _ (match Builtin.Slice.sliceAdjust lo hi 1 (n : Int) with | (lo, hi) => pure (lo, (1 : Int), Builtin.Slice.slicePlaces lo hi 1)) _ _ s
  rw [adjust_gen lo hi n]
  show wpAny _ _ (pure (((sIx n 0 lo : Nat) : Int), (1 : Int), Builtin.Slice.slicePlaces ((sIx n 0 lo : Nat) : Int) ((sIx n n hi : Nat) : Int) 1)) _ _ s
  rw [places_gen]
  exact wpAny_pure h
theorem pick_gen (xs : Array Value) (i k : Nat) : ((List.range k).filterMap fun (m : Nat) => xs[((i : Int) + (m : Int) * 1).toNat]?).toArray = ((xs.toList.drop i).take k).toArray := by
  have e : (fun (m : Nat) => xs[((i : Int) + (m : Int) * 1).toNat]?) = fun m => xs[i + m]? := by
    funext m
    have : ((i : Int) + (m : Int) * 1).toNat = i + m := by omega
    rw [this]
  rw [e]
  have := pick_run xs i k
  rw [List.filterMap_map] at this
  have e2 : ((fun x => xs[x]?) ∘ fun x => i + x) = fun m => xs[i + m]? := rfl
  rw [e2] at this
  rw [this]
theorem getItem_tuple_cut {t sl : Addr} {items : Array Value} {vl vu : Value} {lo hi : Option Int} {Q : Value → Shared → Prop} (ht : IsTup s.heap t items) (hs : s.heap.IsSliceOf sl vl vu .none) (pl : IsPart vl lo) (pu : IsPart vu hi)
    (hw : ¬ (sIx items.size 0 lo = 0 ∧ sIx items.size items.size hi = items.size))
    (h : Q (.ref s.heap.objs.size) { s with heap := s.heap.push { cls := .type "tuple", data := .seq ((items.toList.drop (sIx items.size 0 lo)).take (sIx items.size items.size hi - sIx items.size 0 lo)).toArray } })
    (hsz : items.size ≤ sizeLine) : wpAny (model prog w) A (getItem (.ref t) (.ref sl)) Q E s := by
  have htake : sizeOk (.seq ((items.toList.drop (sIx items.size 0 lo)).take (sIx items.size items.size hi - sIx items.size 0 lo)).toArray) := by
    show ((items.toList.drop (sIx items.size 0 lo)).take (sIx items.size items.size hi - sIx items.size 0 lo)).toArray.size ≤ sizeLine
    rw [List.size_toArray, List.length_take, List.length_drop, Array.length_toList]
    omega
  have hj : sIx items.size items.size hi ≤ items.size := sIx_le _ _ (Nat.le_refl _) hi
  obtain ⟨os, hos, hcs, hds⟩ := id hs
  have hTs : s.TypeIs (.ref sl) "slice" := ⟨os, hos, hcs⟩
  unfold getItem
  try with_reducible refine wpAny_holding ?_
  first | refine wpAny_bind (wpAny_pure ?_) | skip
  refine wpAny_bind (wpAny_sequenceKey ht.typeIs (by decide) ?_)
  refine wpAny_bind (wpAny_callSpecial?_slot (name := Str.ofString "__getitem__") ht.typeIs PyProof.Rows.slot_tuple_getitem
    (wpAny_call_entry PyProof.Rows.slot_tuple_getitem ht.typeIs entry_tuple_getitem ?_ (args_tuple_getitem _ _)))
  show wpAny _ _ (Builtin.Tuple.tupleItemsOf (.ref t) >>= _) _ _ s
  refine wpAny_bind (tupleItemsOf_ ht ?_)
  refine wpAny_bind (wpAny_typeOf hTs ?_)
  rw [if_pos (by decide)]
  refine wpAny_bind (sliceApplied_gen hs pl pu ?_)
  have hno : ¬ ((((sIx items.size 0 lo : Nat) : Int) == 0 && (1 : Int) == 1 && (sIx items.size items.size hi - sIx items.size 0 lo) == items.size) = true) := by
    intro q
    rw [Bool.and_eq_true, Bool.and_eq_true] at q
    have q1 : ((sIx items.size 0 lo : Nat) : Int) = 0 := eq_of_beq q.1.1
    have q2 : sIx items.size items.size hi - sIx items.size 0 lo = items.size := eq_of_beq q.2
    exact hw ⟨by omega, by omega⟩
  show wpAny _ _ (if (((sIx items.size 0 lo : Nat) : Int) == 0 && (1 : Int) == 1 && (sIx items.size items.size hi - sIx items.size 0 lo) == items.size) = true then _ else _) _ _ s
  rw [if_neg hno, pick_gen]
  first
    | exact wpAny_bind (m := Builtin.Tuple.tupleExact _) (wpAny_newObj_type (wpAny_pure ⟨_, rfl, wpAny_pure h⟩) htake)
    | exact wpAny_bind (m := Builtin.Tuple.tupleExact _) (wpAny_newObj_type (wpAny_bind (wpAny_pure (wpAny_pure ⟨_, rfl, wpAny_pure h⟩))) htake)
    | exact wpAny_bind (wpAny_bind (m := Builtin.Tuple.tupleExact _) (wpAny_newObj_type (wpAny_pure (wpAny_pure ⟨_, rfl, wpAny_pure h⟩)) htake))
    | exact wpAny_bind (wpAny_bind (m := Builtin.Tuple.tupleExact _) (wpAny_newObj_type (wpAny_pure ⟨_, rfl, wpAny_pure h⟩) htake))
end
end HT
namespace L2
open PySem PySem.Spec PyProof.Rows
abbrev TO := St → Hp → (Option Int → Hp → Prop) → Prop
def PO (X : Cx) (e : Option Expr) (t : TO) : Prop :=
  ∀ (pins : List (Addr × Obj)) (s : Shared) (σ : St) (H : Hp) (Q : Option Int → Hp → Prop), Inv X pins σ H s → t σ H Q →
    wpAny (model X.prog X.w) X.A (evalPart e X.env) (fun u s' => ∃ o H', Inv X pins σ H' s' ∧ IsPart u o ∧ Q o H') X.xe s
def tNoPart : TO := fun _ H Q => Q none H
def tPart (t : TE) : TO := fun σ H Q => t σ H fun x H1 => ∃ i, x = .int i ∧ Q (some i) H1
section
variable {X : Cx} {e : Expr} {te : TE} {lo hi : Option Expr} {tl th : TO} {pos p2 : Pos}
theorem po_none : PO X none tNoPart := by
  intro pins s σ H Q I h
  rw [evalPart_none]
  exact wpAny_pure ⟨none, H, I, .none, h⟩
theorem po_some (h : PE X e te) : PO X (some e) (tPart te) := by
  intro pins s σ H Q I hw
  rw [evalPart_some]
  refine thn (h pins s σ H _ I hw) fun u s1 ⟨x, H1, I1, r1, q1⟩ => ?_
  obtain ⟨i, rfl, q⟩ := q1
  obtain ⟨t, rfl⟩ := r1
  exact ⟨some i, H1, I1, .int i t, q⟩
def SlR (X : Cx) (r : V → Option Int → Option Int → Hp → VK → Prop) : Prop :=
  ∀ (pins : List (Addr × Obj)) (s : Shared) (σ : St) (H : Hp) (x : V) (v vl vu : Value) (lo hi : Option Int) (sl : Addr) (Q : VK), Inv X pins σ H s → RelV x v → s.heap.IsSliceOf sl vl vu .none → IsPart vl lo → IsPart vu hi → r x lo hi H Q →
    ∃ T id, typeLookup (.type T) "__getitem__" = pure (some (.builtin id)) ∧ s.TypeIs v T ∧ wpAny (model X.prog X.w) X.A (getItem v (.ref sl)) (EP X pins σ Q) X.xe s
def tSl (r : V → Option Int → Option Int → Hp → VK → Prop) (te : TE) (tl th : TO) : TE := fun σ H Q => te σ H fun x H1 => tl σ H1 fun l H2 => th σ H2 fun u H3 => r x l u H3 Q
theorem pe_slice {r : V → Option Int → Option Int → Hp → VK → Prop} (hr : SlR X r) (he : PE X e te) (hl : PO X lo tl) (hu : PO X hi th) : PE X (.Subscript e (.Slice lo hi none p2) pos) (tSl r te tl th) := by
  intro pins s σ H Q I h
  refine Subscript_ (thn (he pins s σ H _ I h) fun v s1 ⟨x, H1, I1, r1, q1⟩ => ?_)
  refine wpAny_Slice (thn (hl pins s1 σ H1 _ I1 q1) fun vl s2 ⟨l, H2, I2, pl, q2⟩ => thn (hu pins s2 σ H2 _ I2 q2) fun vu s3 ⟨u, H3, I3, pu, q3⟩ => ?_)
  rw [evalPart_none]
  refine wpAny_pure ?_
  have I4 : Inv X pins σ H3 { s3 with heap := s3.heap.push { cls := .type "slice", data := .fields #[vl, vu, .none] } } := I3.kept (t' := s3.toks) fun b ob q => Heap.get?_push_of_some _ q
  obtain ⟨T, id, hT, ht, hg⟩ := hr pins { s3 with heap := s3.heap.push { cls := .type "slice", data := .fields #[vl, vu, .none] } } σ H3 x v vl vu l u s3.heap.objs.size Q I4 r1 (Heap.IsSliceOf.new ..) pl pu q3
  show wpAny (model X.prog X.w) X.A (subscriptTail e (.Slice lo hi none p2) v (.ref s3.heap.objs.size)) (EP X pins σ Q) X.xe { s3 with heap := s3.heap.push { cls := .type "slice", data := .fields #[vl, vu, .none] } }
  exact tail_any (ops := [.ref s3.heap.objs.size, v]) ht hT hg (by with_unfolding_all rfl)
def cutV (xs : List V) (lo hi : Option Int) : List V := (xs.drop (HT.sIx xs.length 0 lo)).take (HT.sIx xs.length xs.length hi - HT.sIx xs.length 0 lo)
theorem cutV_length (xs : List V) (lo hi : Option Int) : (cutV xs lo hi).length ≤ xs.length := by
  unfold cutV
  rw [List.length_take, List.length_drop]
  omega
def rSlT (K : PySem.W.Frag) : V → Option Int → Option Int → Hp → VK → Prop := fun x lo hi H Q => ∃ a xs, x = .ref a ∧ SqT K H a xs ∧
  ¬ (HT.sIx xs.length 0 lo = 0 ∧ HT.sIx xs.length xs.length hi = xs.length) ∧ ∀ p, H p = none → Q (.ref p) (upd H p (.tup (cutV xs lo hi)))
theorem sl_tup : SlR X (rSlT X.K) := by
  intro pins s σ H x v vl vu lo hi sl Q I rx hs pl pu h
  obtain ⟨a, xs, rfl, hx, hw, q⟩ := h
  cases rx
  obtain ⟨its, r, ht, hz⟩ := I.tuple hx
  have hlen : its.toArray.size = xs.length := by rw [List.size_toArray]; exact r.length.symm
  refine ⟨"tuple", _, PyProof.Rows.slot_tuple_getitem.lookup, ht.typeIs, ?_⟩
  refine HT.getItem_tuple_cut ht hs pl pu (by rw [hlen]; exact hw) ?_ (by rw [hlen]; exact hz)
  rw [hlen]
  refine ⟨.ref s.heap.objs.size, _, I.laid (t' := s.toks) (o := .tup (cutV xs lo hi)) (fun b ob q => Heap.get?_push_of_some _ q) (Nat.le_refl _) ?_, rfl, q _ (I.hok.fresh (Nat.le_refl _))⟩
  exact ⟨Nat.le_trans (cutV_length xs lo hi) hz, _, (r.drop (HT.sIx xs.length 0 lo)).take (HT.sIx xs.length xs.length hi - HT.sIx xs.length 0 lo), IsTup.new _ _⟩
def rCatT (K : PySem.W.Frag) : R2 := fun x y H Q => ∃ a b xs ys, x = .ref a ∧ y = .ref b ∧ SqT K H a xs ∧ SqT K H b ys ∧ xs ≠ [] ∧ xs.length + ys.length ≤ sizeLine ∧
  (ys = [] → Q (.ref a) H) ∧ (ys ≠ [] → ∀ p, H p = none → Q (.ref p) (upd H p (.tup (xs ++ ys))))
theorem Vals.nil_iff {xs : List V} {us : List Value} (r : Vals xs us) : us = [] ↔ xs = [] := by
  cases r with
  | nil => simp
  | cons _ _ => simp
theorem op_catT : OpR X (binaryOp .Add) (rCatT X.K) := by
  intro pins s σ H x y v u Q I rx ry h
  obtain ⟨a, b, xs, ys, rfl, rfl, ha, hb, hx, hz, q1, q2⟩ := h
  cases rx
  cases ry
  obtain ⟨its, r1, p1, _⟩ := I.tuple ha
  obtain ⟨its2, r2, p2, _⟩ := I.tuple hb
  refine HT.cat_tup p1 p2 (fun z => hx (r1.nil_iff.mp z)) (fun z => ⟨.ref a, H, I, rfl, q1 (r2.nil_iff.mp z)⟩) (fun z => ?_) (by rw [← r1.length, ← r2.length]; exact hz)
  refine ⟨.ref s.heap.objs.size, _, I.laid (t' := s.toks) (o := .tup (xs ++ ys)) (fun b ob q => Heap.get?_push_of_some _ q) (Nat.le_refl _) ?_, rfl, q2 (fun w => z (r2.nil_iff.mpr w)) _ (I.hok.fresh (Nat.le_refl _))⟩
  exact ⟨by rw [List.length_append]; exact hz, _, r1.append r2, IsTup.new _ _⟩
end
end L2
namespace L2
open PySem PySem.Spec PyProof.Rows
def ixN (n : Nat) (i : Int) : Option Nat := if 0 ≤ i then (if i < n then some i.toNat else none) else if -(n : Int) ≤ i then some (i + n).toNat else none
def atI {α : Type} (xs : List α) (i : Int) : Option α := (ixN xs.length i).bind fun j => xs[j]?
theorem ixN_seq {n : Nat} {i : Int} {j : Nat} (h : ixN n i = some j) : seqIndex? i n = some j ∧ j < n ∧ -(n : Int) ≤ i ∧ i < n := by
  unfold ixN at h
  by_cases h0 : 0 ≤ i
  · rw [if_pos h0] at h
    by_cases h1 : i < n
    · rw [if_pos h1] at h
      have e : i.toNat = j := Option.some.inj h
      exact ⟨by rw [seqIndex_of h0 h1, e], by omega, by omega, h1⟩
    · rw [if_neg h1] at h; cases h
  · rw [if_neg h0] at h
    by_cases h1 : -(n : Int) ≤ i
    · rw [if_pos h1] at h
      have e : (i + n).toNat = j := Option.some.inj h
      exact ⟨by rw [seqIndex_neg (by omega) h1, e], by omega, h1, by omega⟩
    · rw [if_neg h1] at h; cases h
theorem atI_get {α : Type} {xs : List α} {i : Int} {v : α} (h : atI xs i = some v) : ∃ j, seqIndex? i xs.length = some j ∧ xs[j]? = some v ∧ j < xs.length ∧ -(xs.length : Int) ≤ i ∧ i < xs.length := by
  unfold atI at h
  cases e : ixN xs.length i with
  | none => rw [e] at h; cases h
  | some j =>
    rw [e] at h
    obtain ⟨h1, h2, h3, h4⟩ := ixN_seq e
    exact ⟨j, h1, h, h2, h3, h4⟩
theorem atI_nat {α : Type} {xs : List α} {j : Nat} {v : α} (h : xs[j]? = some v) : atI xs (j : Int) = some v := by
  have hj : j < xs.length := (List.getElem?_eq_some_iff.mp h).1
  have e : ixN xs.length (j : Int) = some j := by
    unfold ixN
    rw [if_pos (by omega), if_pos (by omega)]; simp
  unfold atI; rw [e]; exact h
def PlainIx (b : Expr) : Prop := ∀ o i, subscripted b false o i = operate [o, i] (getItem o i)
def IxR (X : Cx) (r : R2) : Prop :=
  ∀ (value slice : Expr) (pins : List (Addr × Obj)) (s : Shared) (σ : St) (H : Hp) (x y : V) (v u : Value) (Q : VK), Inv X pins σ H s → RelV x v → RelV y u → r x y H Q →
    subscripted slice false v u = operate [v, u] (getItem v u) → wpAny (model X.prog X.w) X.A (subscriptTail value slice v u) (EP X pins σ Q) X.xe s
def MtR (X : Cx) (id : String) (r : V → List V → Hp → VK → Prop) : Prop :=
  ∀ (pins : List (Addr × Obj)) (s : Shared) (σ : St) (H : Hp) (x : V) (xs : List V) (v : Value) (us : List Value) (Q : VK), Inv X pins σ H s → RelV x v → Vals xs us → r x xs H Q →
    wpAny (model X.prog X.w) X.A (call (.builtin id) (v :: us)) (EP X pins σ Q) X.xe s
section
variable {X : Cx} {a b : Expr} {ta tb : TE} {pos : Pos}
theorem pe_ix {r : R2} (hr : IxR X r) (ha : PE X a ta) (hb : PE X b tb) (hs : PlainIx b) : PE X (.Subscript a b pos) (tOp r ta tb) := by
  intro pins s σ H Q I h
  exact Subscript_ (binT ha hb I h fun v u s2 x y H2 I2 rx ry q => hr a b pins s2 σ H2 x y v u Q I2 rx ry q (hs _ _))
def rIxL (K : PySem.W.Frag) : R2 := fun x y H Q => ∃ p xs i v, x = .ref p ∧ y = .int i ∧ SqL K H p xs ∧ atI xs i = some v ∧ Q v H
def rIxT (K : PySem.W.Frag) : R2 := fun x y H Q => ∃ p xs i v, x = .ref p ∧ y = .int i ∧ SqT K H p xs ∧ atI xs i = some v ∧ Q v H
def rIxS : R2 := fun x y H Q => ∃ z i c, x = .str z ∧ y = .int i ∧ z.length ≤ sizeLine ∧ atI z.cps.toList i = some c ∧ Q (.str ⟨#[c]⟩) H
theorem ix_list : IxR X (rIxL X.K) := by
  intro value slice pins s σ H x y v u Q I rx ry h hs
  obtain ⟨p, xs, i, z, rfl, rfl, hq, he, q⟩ := h
  cases rx
  obtain ⟨t, rfl⟩ := ry
  obtain ⟨its, r, pl, hz⟩ := I.list hq
  obtain ⟨j, h1, h2, h3, h4, h5⟩ := atI_get he
  obtain ⟨w, ew, rw'⟩ := r.get h2
  have hl := r.length
  have hn := line63
  have fin : EP X pins σ Q w s := ⟨z, H, I, rw', q⟩
  by_cases h0 : 0 ≤ i
  · have hj : i.toNat = j := by
      rw [seqIndex_of h0 h5] at h1
      exact Option.some.inj h1
    exact item_listR pl.isList h0 (by omega) (by rw [hj]; simpa using ew) fin hs
  · have hj : (i + (its.toArray.size : Int)).toNat = j := by
      rw [seqIndex_neg (by omega) h4] at h1
      rw [List.size_toArray, ← hl]
      exact Option.some.inj h1
    exact subscriptTail_builtinR (x := w) pl.isList.typeIs slot_list_getitem.lookup
      (wpAny_getItem_list_neg (Q := fun r s' => r = w ∧ EP X pins σ Q r s') pl.isList (by omega) (by rw [List.size_toArray] <;> omega) (by omega) (by rw [hj]; simpa using ew) ⟨rfl, fin⟩) hs
theorem ix_tup : IxR X (rIxT X.K) := by
  intro value slice pins s σ H x y v u Q I rx ry h hs
  obtain ⟨p, xs, i, z, rfl, rfl, hq, he, q⟩ := h
  cases rx
  obtain ⟨t, rfl⟩ := ry
  obtain ⟨its, r, pl, hz⟩ := I.tuple hq
  obtain ⟨j, h1, h2, h3, h4, h5⟩ := atI_get he
  obtain ⟨w, ew, rw'⟩ := r.get h2
  have hl := r.length
  have hn := line63
  have fin : EP X pins σ Q w s := ⟨z, H, I, rw', q⟩
  exact subscriptTail_builtinR (x := w) pl.typeIs slot_tuple_getitem.lookup
    (getItem_tuple (j := j) (Q := fun r s' => r = w ∧ EP X pins σ Q r s') pl (by omega) (by omega) (by rw [List.size_toArray, ← hl]; exact h1) (by simpa using ew) ⟨rfl, fin⟩) hs
theorem ix_str : IxR X rIxS := by
  intro value slice pins s σ H x y v u Q I rx ry h hs
  obtain ⟨z, i, c, rfl, rfl, hz, he, q⟩ := h
  obtain ⟨t, rfl⟩ := rx
  obtain ⟨t', rfl⟩ := ry
  obtain ⟨j, h1, h2, h3, h4, h5⟩ := atI_get he
  have hl : z.cps.toList.length = z.length := by simp [Str.length]
  rw [hl] at h1 h4 h5
  have hn := line63
  exact tail_any (typeIs_str s z t) slot_str_getitem.lookup (getItem_str (c := c) (by
    have e1 : decide (i < -(2 ^ 63 : Int)) = false := decide_eq_false (by omega)
    have e2 : decide (i ≥ 2 ^ 63) = false := decide_eq_false (by omega)
    rw [e1, e2, Bool.or_false]) (by rw [h1]; simpa using h2) ⟨.str ⟨#[c]⟩, H, I.tok _, ⟨_, rfl⟩, q⟩) hs
theorem mapSeq_set (its : List Value) (n j : Nat) (u : Value) : Obj.mapSeq (·.setIfInBounds j u) { cls := .type "list", data := .seq its.toArray n } = { cls := .type "list", data := .seq (its.set j u).toArray n } := by
  simp [Obj.mapSeq]
theorem Inv.lst {pins : List (Addr × Obj)} {σ : St} {H : Hp} {s : Shared} {p : Addr} {xs : List V} (I : Inv X pins σ H s) (h : H p = some (.lst xs)) :
    ∃ (its : List Value) (n : Nat), Vals xs its ∧ s.heap.get? p = some { cls := .type "list", data := .seq its.toArray n } ∧ xs.length ≤ sizeLine := by
  obtain ⟨z, its, n, r, e⟩ := I.hok p _ h
  exact ⟨its, n, r, e, z⟩
theorem Inv.lstUpd {pins : List (Addr × Obj)} {σ : St} {H : Hp} {s : Shared} {p : Addr} {xs ys : List V} {its its' : List Value} {n n' : Nat} {f : Obj → Obj} (I : Inv X pins σ H s) (h : H p = some (.lst xs))
    (ho : s.heap.get? p = some { cls := .type "list", data := .seq its.toArray n }) (hf : f { cls := .type "list", data := .seq its.toArray n } = { cls := .type "list", data := .seq its'.toArray n' }) (r : Vals ys its') (hz : ys.length ≤ sizeLine) (t : Nat) :
    Inv X pins σ (upd H p (.lst ys)) { s with heap := s.heap.update p f, toks := t } := by
  have e : (s.heap.update p f).get? p = some { cls := .type "list", data := .seq its'.toArray n' } := by
    rw [Heap.get?_update_self f ho (by rw [hf] <;> rfl), hf]
  refine I.write (x := p) (e := p) (by rw [h]; trivial) (.inl rfl) (fun b u hb q => (Heap.get?_update_other _ _ (Ne.symm hb)).trans q) ⟨_, e⟩ ?_
  exact ⟨hz, its', n', r, e⟩
def rSetL : V → V → V → Hp → (Hp → Prop) → Prop := fun o i v H Q => ∃ p xs k j, o = .ref p ∧ i = .int k ∧ H p = some (.lst xs) ∧ ixN xs.length k = some j ∧ Q (upd H p (.lst (xs.set j v)))
theorem set_list : PSet X rSetL := by
  intro pins s σ H o i v ov iv u Q I ro ri rv h
  obtain ⟨p, xs, k, j, rfl, rfl, hp, hj, q⟩ := h
  cases ro
  obtain ⟨t, rfl⟩ := ri
  obtain ⟨its, n, r, ho, hz⟩ := I.lst hp
  obtain ⟨h1, h2, h3, h4⟩ := ixN_seq hj
  have hl := r.length
  have hn := line63
  have I' : Inv X pins σ (upd H p (.lst (xs.set j v))) { s with heap := s.heap.update p (Obj.mapSeq (·.setIfInBounds j u)) } :=
    I.lstUpd hp ho (mapSeq_set its n j u) (r.set rv j) (by rw [List.length_set]; exact hz) s.toks
  by_cases h0 : 0 ≤ k
  · have hk : k.toNat = j := by
      rw [seqIndex_of h0 h4] at h1
      exact Option.some.inj h1
    exact PySem.W.ki_setAt ho h0 (by omega) (by rw [List.size_toArray, ← hl]; exact h4) (by rw [hk]; exact ⟨_, I', q⟩)
  · have hk : (k + (its.toArray.size : Int)).toNat = j := by
      rw [seqIndex_neg (by omega) h3] at h1
      rw [List.size_toArray, ← hl]
      exact Option.some.inj h1
    exact PySem.W.ki_setBack ho (by omega) (by rw [List.size_toArray, ← hl]; exact h3) (by omega) (by rw [hk]; exact ⟨_, I', q⟩)
theorem slice_bounds (lo hi : Option Int) (n : Nat) : (sliceBounds lo hi none n).1 = ((HT.sIx n 0 lo : Nat) : Int) ∧ (sliceBounds lo hi none n).2.1 = ((HT.sIx n n hi : Nat) : Int) ∧ (sliceBounds lo hi none n).2.2 = 1 := by
  refine ⟨?_, ?_, rfl⟩
  · cases lo with
    | none => simp [sliceBounds, HT.sIx]
    | some i =>
      simp only [sliceBounds, HT.sIx, Option.getD_none, show (1 : Int) > 0 by decide, if_true]
      by_cases h : i < 0
      · simp only [h, if_true] <;> omega
      · simp only [h, if_false] <;> omega
  · cases hi with
    | none => simp [sliceBounds, HT.sIx]
    | some i =>
      simp only [sliceBounds, HT.sIx, Option.getD_none, show (1 : Int) > 0 by decide, if_true]
      by_cases h : i < 0
      · simp only [h, if_true] <;> omega
      · simp only [h, if_false] <;> omega
theorem slicePick_cut (its : List Value) (lo hi : Option Int) : slicePick its.toArray lo hi none = ((its.drop (HT.sIx its.length 0 lo)).take (HT.sIx its.length its.length hi - HT.sIx its.length 0 lo)).toArray := by
  obtain ⟨h1, h2, h3⟩ := slice_bounds lo hi its.toArray.size
  unfold slicePick
  rw [h1, h2, h3]
  simp only [sliceRange_one, pick_run, List.size_toArray] <;> rfl
def rSlL (K : PySem.W.Frag) : V → Option Int → Option Int → Hp → VK → Prop := fun x lo hi H Q => ∃ a xs, x = .ref a ∧ SqL K H a xs ∧ ∀ p, H p = none → Q (.ref p) (upd H p (.lst (cutV xs lo hi)))
theorem sl_list : SlR X (rSlL X.K) := by
  intro pins s σ H x v vl vu lo hi sl Q I rx hs pl pu h
  obtain ⟨a, xs, rfl, hx, q⟩ := h
  cases rx
  obtain ⟨its, r, ht, hz⟩ := I.list hx
  have hlen := r.length
  refine ⟨"list", _, slot_list_getitem.lookup, ht.isList.typeIs, ?_⟩
  refine wpAny_getItem_list_slice ht.isList hs pl pu .none (by simp) ?_ (by rw [List.size_toArray] <;> omega)
  rw [slicePick_cut, ← hlen]
  refine ⟨.ref s.heap.objs.size, _, I.laid (t' := s.toks) (o := .lst (cutV xs lo hi)) (fun b ob q => Heap.get?_push_of_some _ q) (Nat.le_refl _) ?_, rfl, q _ (I.hok.fresh (Nat.le_refl _))⟩
  exact ⟨Nat.le_trans (cutV_length xs lo hi) hz, _, 0, (r.drop (HT.sIx xs.length 0 lo)).take (HT.sIx xs.length xs.length hi - HT.sIx xs.length 0 lo), Heap.get?_push_size _ rfl⟩
def flatV : V → Bool
  | .non => true
  | .bl _ => true
  | .int _ => true
  | .str _ => true
  | _ => false
def eqV : V → V → Bool
  | .non, .non => true
  | .bl a, .bl b => a == b
  | .bl a, .int b => (if a then 1 else 0) == b
  | .int a, .bl b => a == (if b then 1 else 0)
  | .int a, .int b => a == b
  | .str a, .str b => a == b
  | _, _ => false
theorem eqAt_V {A : Around} {s : Shared} {y x : V} {u v : Value} (ry : RelV y u) (rx : RelV x v) (fy : flatV y = true) (fx : flatV x = true) : SeqAt.EqAt A s u v (eqV y x) := by
  cases y with
  | non =>
    cases ry
    cases x with
    | non => cases rx; exact SeqAt.EqAt.same _
    | bl b => cases rx; exact SeqAt.EqAt.none_bool b
    | int b => obtain ⟨t, rfl⟩ := rx; exact SeqAt.EqAt.none_int b t
    | str b => obtain ⟨t, rfl⟩ := rx; exact SeqAt.EqAt.none_str b t
    | _ => exact absurd (show false = true from fx) Bool.false_ne_true
  | bl a =>
    cases ry
    cases x with
    | non => cases rx; exact SeqAt.EqAt.bool_none a
    | bl b => cases rx; exact SeqAt.EqAt.bool_bool a b
    | int b => obtain ⟨t, rfl⟩ := rx; exact SeqAt.EqAt.bool_int a b t
    | str b => obtain ⟨t, rfl⟩ := rx; exact SeqAt.EqAt.bool_str a b t
    | _ => exact absurd (show false = true from fx) Bool.false_ne_true
  | int a =>
    obtain ⟨t', rfl⟩ := ry
    cases x with
    | non => cases rx; exact SeqAt.EqAt.int_none a t'
    | bl b => cases rx; exact SeqAt.EqAt.int_bool a t' b
    | int b => obtain ⟨t, rfl⟩ := rx; exact SeqAt.EqAt.int_int a t' b t
    | str b => obtain ⟨t, rfl⟩ := rx; exact SeqAt.EqAt.int_str a t' b t
    | _ => exact absurd (show false = true from fx) Bool.false_ne_true
  | str a =>
    obtain ⟨t', rfl⟩ := ry
    cases x with
    | non => cases rx; exact SeqAt.EqAt.str_none a t'
    | bl b => cases rx; exact SeqAt.EqAt.str_bool a t' b
    | int b => obtain ⟨t, rfl⟩ := rx; exact SeqAt.EqAt.str_int a t' b t
    | str b => obtain ⟨t, rfl⟩ := rx; exact SeqAt.EqAt.str_str a t' b t
    | _ => exact absurd (show false = true from fx) Bool.false_ne_true
  | _ => exact absurd (show false = true from fy) Bool.false_ne_true
def eqU (x : V) (u : Value) : Bool := match u with
  | .none => eqV .non x
  | .bool b => eqV (.bl b) x
  | .int i _ => eqV (.int i) x
  | .str z _ => eqV (.str z) x
  | _ => false
theorem eqU_of {x y : V} {u : Value} (r : RelV y u) (f : flatV y = true) : eqU x u = eqV y x := by
  cases y with
  | non => cases r; rfl
  | bl b => cases r; rfl
  | int i => obtain ⟨t, rfl⟩ := r; rfl
  | str z => obtain ⟨t, rfl⟩ := r; rfl
  | _ => exact absurd (show false = true from f) Bool.false_ne_true
theorem any_eqU {x : V} : ∀ {xs : List V} {us : List Value}, Vals xs us → xs.all flatV = true → us.any (eqU x) = xs.any fun y => eqV y x
  | _, _, .nil, _ => rfl
  | y :: xs, u :: us, .cons r t, f => by
    rw [List.all_cons, Bool.and_eq_true] at f
    rw [List.any_cons, List.any_cons, eqU_of r f.1, any_eqU t f.2]
theorem mem_eqAt {A : Around} {s : Shared} {x : V} {v : Value} (rx : RelV x v) (fx : flatV x = true) : ∀ {xs : List V} {us : List Value}, Vals xs us → xs.all flatV = true → ∀ u ∈ us, SeqAt.EqAt A s u v (eqU x u)
  | _, _, .nil, _ => fun u hu => by cases hu
  | y :: xs, u :: us, .cons r t, f => fun u' hu => by
    rw [List.all_cons, Bool.and_eq_true] at f
    rcases List.mem_cons.mp hu with rfl | hu
    · rw [eqU_of r f.1]; exact eqAt_V r rx f.1 fx
    · exact mem_eqAt rx fx t f.2 u' hu
def inV (x : V) (xs : List V) : Bool := xs.any fun y => eqV y x
def rIn (K : PySem.W.Frag) (neg : Bool) : R2 := fun x y H Q => ∃ p xs, y = .ref p ∧ (SqL K H p xs ∨ SqT K H p xs) ∧ flatV x = true ∧ xs.all flatV = true ∧ Q (.bl (if neg then !inV x xs else inV x xs)) H
theorem op_in_seq : OpR X (compareOp .In) (rIn X.K false) := by
  intro pins s σ H x y v u Q I rx ry h
  obtain ⟨p, xs, rfl, hq, fx, fs, q⟩ := h
  cases ry
  rcases hq with hq | hq
  · obtain ⟨its, r, pl, hz⟩ := I.list hq
    refine SeqAt.in_listAt (eqU x) pl.isList (fun w hw => mem_eqAt rx fx r fs w (by simpa using hw)) ⟨.bl _, H, I, rfl, ?_⟩
    rw [show its.toArray.any (eqU x) = its.any (eqU x) by simp, any_eqU r fs]
    exact q
  · obtain ⟨its, r, pl, hz⟩ := I.tuple hq
    refine SeqAt.in_tupleAt (eqU x) pl (fun w hw => mem_eqAt rx fx r fs w (by simpa using hw)) ⟨.bl _, H, I, rfl, ?_⟩
    rw [show its.toArray.any (eqU x) = its.any (eqU x) by simp, any_eqU r fs]
    exact q
theorem call_len_seq : CallR X (.builtin "len") (fun xs H Q => ∃ p ys, xs = [.ref p] ∧ (SqL X.K H p ys ∨ SqT X.K H p ys) ∧ Q (.int ys.length) H) := by
  intro pins s σ H xs us Q I r h
  obtain ⟨p, ys, rfl, hq, q⟩ := h
  obtain ⟨u, rfl, rx⟩ := vals1 r
  cases rx
  have hn := line63
  rcases hq with hq | hq
  · obtain ⟨its, r', pl, hz⟩ := I.list hq
    have hlen := r'.length
    exact Calls.call_len_list pl.isList (by simp only [List.size_toArray] <;> omega) ⟨.int ys.length, H, I.tok _, ⟨s.toks + 1, by rw [List.size_toArray, hlen]⟩, q⟩
  · obtain ⟨its, r', pl, hz⟩ := I.tuple hq
    have hlen := r'.length
    exact len_tuple pl (by simp only [List.size_toArray] <;> omega) ⟨.int ys.length, H, I.tok _, ⟨s.toks + 1, by rw [List.size_toArray, hlen]⟩, q⟩
theorem call_tuple_of : CallR X (.type "tuple") (fun xs H Q => ∃ p ys, xs = [.ref p] ∧ ((SqL X.K H p ys ∧ ∀ l, H l = none → Q (.ref l) (upd H l (.tup ys))) ∨ (SqT X.K H p ys ∧ Q (.ref p) H))) := by
  intro pins s σ H xs us Q I r h
  obtain ⟨p, ys, rfl, h⟩ := h
  obtain ⟨u, rfl, rx⟩ := vals1 r
  cases rx
  rcases h with ⟨hq, q⟩ | ⟨hq, q⟩
  · obtain ⟨its, r', pl, hz⟩ := I.list hq
    have hlen := r'.length
    refine call_tuple_list pl.isList (fun h' kp => ?_) (by simp only [List.size_toArray] <;> omega)
    have I1 : Inv X pins σ H { s with heap := h' } := I.kept (t' := s.toks) kp
    have I2 : Inv X pins σ (upd H h'.objs.size (.tup ys)) { s with heap := h'.push { cls := .type "tuple", data := .seq its.toArray } } :=
      I1.laid (t' := s.toks) (fun b o e => Heap.get?_push_of_some _ e) (Nat.le_refl _) (show ObjOk X.prog X.w _ _ _ (.tup ys) from ⟨hz, its, r', IsTup.new _ _⟩)
    exact ⟨.ref h'.objs.size, _, I2, rfl, q _ (I1.hok.fresh (Nat.le_refl _))⟩
  · obtain ⟨its, r', pl, hz⟩ := I.tuple hq
    exact call_tuple_same pl ⟨.ref p, H, I, rfl, q⟩
def tyV (K : PySem.W.Frag) (T : String) (x : V) (H : Hp) : Prop := match x with
  | .str _ => T = "str"
  | .int _ => T = "int"
  | .ref p => (T = "list" ∧ ∃ xs, SqL K H p xs) ∨ (T = "tuple" ∧ ∃ o, K.lookup p = some o ∧ o.cls = .type "tuple" ∧ o.dict = none) ∨
      (T = "dict" ∧ ((∃ kvs, H p = some (.dK kvs)) ∨ ∃ kvs, H p = some (.dT kvs))) ∨ (T = "set" ∧ ∃ S n, H p = some (.set S n))
  | _ => False
theorem tyV_is {pins : List (Addr × Obj)} {σ : St} {H : Hp} {s : Shared} {T : String} {x : V} {v : Value} (I : Inv X pins σ H s) (r : RelV x v) (ty : tyV X.K T x H) :
    s.TypeIs v T ∧ ∀ a, v = .ref a → ∃ ob, s.heap.get? a = some ob ∧ ob.dict = none := by
  cases x with
  | str z =>
    obtain ⟨t, rfl⟩ := r
    cases (show T = "str" from ty)
    exact ⟨typeIs_str s z t, fun _ e => nomatch e⟩
  | int i =>
    obtain ⟨t, rfl⟩ := r
    cases (show T = "int" from ty)
    exact ⟨typeIs_int s i t, fun _ e => nomatch e⟩
  | ref p =>
    cases r
    rcases ty with ⟨rfl, xs, hq⟩ | ⟨rfl, o, hk, hc, hd⟩ | ⟨rfl, hk⟩ | ⟨rfl, S, n, hk⟩
    · obtain ⟨its, _, pl, _⟩ := I.list hq
      refine ⟨pl.isList.typeIs, fun a e => ?_⟩
      cases e
      obtain ⟨o, n, e, c, hd, _⟩ := pl
      exact ⟨o, e, hd⟩
    · refine ⟨⟨o, I.kIn p o hk, hc⟩, fun a e => ?_⟩
      cases e
      exact ⟨o, I.kIn _ o hk, hd⟩
    · have z : ∃ o, s.heap.get? p = some o ∧ o.ExactDict := by
        rcases hk with ⟨kvs, hk⟩ | ⟨kvs, hk⟩
        · obtain ⟨_, _, _, _, o, _, _, e, ex, _⟩ := I.hok p _ hk
          exact ⟨o, e, ex⟩
        · obtain ⟨_, _, _, _, o, _, _, e, ex, _⟩ := I.hok p _ hk
          exact ⟨o, e, ex⟩
      obtain ⟨o, e, ex⟩ := z
      refine ⟨⟨o, e, ex.1⟩, fun a e2 => ?_⟩
      cases e2
      exact ⟨o, e, ex.2.1⟩
    · obtain ⟨o, _, _, _, e, ex, _⟩ := I.hok p _ hk
      refine ⟨⟨o, e, ex.1⟩, fun a e2 => ?_⟩
      cases e2
      exact ⟨o, e, ex.2.1⟩
  | _ => exact False.elim ty
def tBM0 (K : PySem.W.Frag) (T : String) (r : V → List V → Hp → VK → Prop) (to : TE) : TE := fun σ H Q => to σ H fun x H1 => tyV K T x H1 ∧ r x [] H1 Q
def tBM (K : PySem.W.Frag) (T : String) (r : V → List V → Hp → VK → Prop) (to : TE) (t : TA) : TE := fun σ H Q => to σ H fun x H1 => tyV K T x H1 ∧ t σ H1 fun xs H2 => r x xs H2 Q
variable {o e : Expr} {es : List Expr} {to : TE} {t : TA} {name : Str} {apos cpos : Pos} {T id : String} {r : V → List V → Hp → VK → Prop}
theorem pe_bm0 (pa : PlainAttrs T) (slot : Slot T name id) (hty : typeOf (.builtin id) = pure (.type "method_descriptor")) (hm : MtR X id r) (ho : PE X o to)
    (hbase : attributeBase o name X.env (eval o X.env) = eval o X.env := by rfl) (hline : (apos.endLine == cpos.line) = true := by rfl) : PE X (.Call (.Attribute o name apos) [] [] cpos) (tBM0 X.K T r to) := by
  intro pins s σ H Q I h
  refine wpAny_Call_method0_late hbase hline (thn (ho pins s σ H _ I h) fun v s1 ⟨x, H1, I1, r1, ty, q1⟩ => ?_)
  obtain ⟨h1, h2⟩ := tyV_is I1 r1 ty
  exact ⟨T, id, pa, slot, hty, h1, h2, Calls.callWith_builtin rfl (PySem.evalArgs_none (hm pins s1 σ H1 x [] v [] Q I1 r1 .nil q1))⟩
theorem pe_bm (pa : PlainAttrs T) (slot : Slot T name id) (hty : typeOf (.builtin id) = pure (.type "method_descriptor")) (hm : MtR X id r) (ho : PE X o to) (ha : PA X (e :: es) t)
    (hbase : attributeBase o name X.env (eval o X.env) = eval o X.env := by rfl)
    (hfew : ((backTo cpos (starEach (e :: es) X.env)).all (fun x => !x.1) && (backToKw cpos (keywordEach [] X.env)).all (fun x => x.1.isSome)
      && decide ((e :: es).length + ([] : List Keyword).length + (if ([] : List Keyword).isEmpty then 0 else 1) < 30)) = true := by rfl)
    (hline : (apos.endLine == cpos.line) = true := by rfl) (hs : starEach (e :: es) X.env = (false, eval e X.env) :: starEach es X.env := by rfl) (hplain : (backTo cpos (starEach es X.env)).any (·.1) = false := by rfl) :
    PE X (.Call (.Attribute o name apos) (e :: es) [] cpos) (tBM X.K T r to t) := by
  intro pins s σ H Q I h
  refine wpAny_Call_method_late hbase hfew hline rfl (thn (ho pins s σ H _ I h) fun v s1 ⟨x, H1, I1, r1, ty, q1⟩ => ?_)
  obtain ⟨h1, h2⟩ := tyV_is I1 r1 ty
  refine ⟨T, id, pa, slot, hty, h1, h2, ?_⟩
  have hA := ha cpos pins s1 σ H1 _ I1 q1
  rw [hs] at hA ⊢
  refine Calls.callWith_builtin (by show (false || (backTo cpos (starEach es X.env)).any (·.1)) = false; rw [hplain] <;> rfl) (Calls.evalArgs_plain ?_)
  exact thn hA fun us s2 ⟨vs, H2, I2, r2, q2⟩ => hm pins s2 σ H2 x vs v us Q I2 r1 r2 q2
end
end L2
namespace L2
open PySem PySem.Spec PyProof.Rows
def MtM (X : Cx) (id : String) (r : V → List V → Hp → VK → Prop) : Prop :=
  ∀ (pins : List (Addr × Obj)) (s : Shared) (σ : St) (H : Hp) (x : V) (xs : List V) (v : Value) (us : List Value) (Q : VK), Inv X pins σ H s → RelV x v → Vals xs us → r x xs H Q →
    wpAny (model X.prog X.w) X.A (call (.builtin id) (v :: us)) (EP X pins σ Q) X.xe s
theorem Vals.one : ∀ {x : V} {us : List Value}, Vals [x] us → ∃ u, us = [u] ∧ RelV x u
  | _, _, .cons r .nil => ⟨_, rfl, r⟩
theorem Vals.zero : ∀ {us : List Value}, Vals [] us → us = []
  | _, .nil => rfl
theorem Vals.dropLast {xs : List V} {us : List Value} (h : Vals xs us) : Vals xs.dropLast us.dropLast := by
  induction h with
  | nil => exact .nil
  | cons r t ih =>
    cases t with
    | nil => exact .nil
    | cons q t' => exact .cons r ih
theorem erase_last {α : Type} (l : List α) : l.eraseIdx (l.length - 1) = l.dropLast := by
  induction l with
  | nil => rfl
  | cons a r ih =>
    cases r with
    | nil => rfl
    | cons b r =>
      have e : (a :: b :: r).length - 1 = ((b :: r).length - 1) + 1 := by
        have h1 : (a :: b :: r).length = r.length + 2 := rfl
        have h2 : (b :: r).length = r.length + 1 := rfl
        omega
      rw [e, List.eraseIdx_cons_succ, ih]
      all_goals rfl
section
variable {X : Cx} {pins : List (Addr × Obj)} {σ : St} {H : Hp} {s : Shared} {l b : Addr} {xs ys zs : List V}
theorem Inv.lset {its its' : List Value} {n : Nat} {f : Array Value → Array Value} {t' : Nat} (I : Inv X pins σ H s) (hH : H l = some (.lst xs))
    (e : s.heap.get? l = some { cls := .type "list", data := .seq its.toArray n }) (hf : f its.toArray = its'.toArray) (hv : Vals ys its') (hz : ys.length ≤ sizeLine) :
    Inv X pins σ (upd H l (.lst ys)) { s with heap := s.heap.update l (Obj.mapSeq f), toks := t' } := by
  have q := PySem.IsL.update e f
  rw [hf] at q
  refine I.write (x := l) (e := l) (by rw [hH]; exact trivial) (.inl rfl) (fun b' u hb hu => (Heap.get?_update_other s.heap (Obj.mapSeq f) (Ne.symm hb)).trans hu) ⟨_, q⟩ ?_
  exact ⟨hz, its', _, hv, q⟩
theorem Inv.lnew {its : List Value} {t' : Nat} (I : Inv X pins σ H s) (hv : Vals ys its) (hz : ys.length ≤ sizeLine) :
    Inv X pins σ (upd H s.heap.objs.size (.lst ys)) { s with heap := s.heap.push { cls := .type "list", data := .seq its.toArray }, toks := t' } :=
  I.laid (fun _ _ q => Heap.get?_push_of_some _ q) (Nat.le_refl _) ⟨hz, its, 0, hv, Heap.get?_push_size _ rfl⟩
theorem Inv.fresh (I : Inv X pins σ H s) : H s.heap.objs.size = none := I.hok.fresh (Nat.le_refl _)
theorem Inv.lstM (I : Inv X pins σ H s) (hH : H l = some (.lst xs)) : xs.length ≤ sizeLine ∧ ∃ (its : List Value) (n : Nat), Vals xs its ∧ xs.length = its.length ∧ s.heap.get? l = some { cls := .type "list", data := .seq its.toArray n } := by
  obtain ⟨z, its, n, r, e⟩ := I.hok l _ hH
  exact ⟨z, its, n, r, r.length, e⟩
theorem notLongL {n : Nat} (h : n ≤ sizeLine) : Builtin.List.listTooLong n = false := by
  unfold Builtin.List.listTooLong
  exact decide_eq_false (by omega)
end
section
variable {X : Cx}
def rAppend : V → List V → Hp → VK → Prop := fun x vs H Q => ∃ l xs y, x = .ref l ∧ vs = [y] ∧ H l = some (.lst xs) ∧ xs.length < sizeLine ∧ Q .non (upd H l (.lst (xs ++ [y])))
theorem mt_append : MtM X "list.append" rAppend := by
  intro pins s σ H x vs v us Q I rx rv h
  obtain ⟨l, xs, y, rfl, rfl, hH, hz, q⟩ := h
  cases rx
  obtain ⟨u, rfl, ru⟩ := rv.one
  obtain ⟨z, its, n, r, hl, e⟩ := I.lstM hH
  refine call_meets F.slot_list_append ⟨_, e, rfl⟩ F.entry_list_append (F.args_list_append_2 _ _) (PySem.list_append l its.toArray n u (by rw [List.size_toArray]; omega)) ⟨e, ?_⟩
  refine ⟨.non, _, I.lset (its' := its ++ [u]) hH e (by simp) (r.append (.cons ru .nil)) ?_, rfl, q⟩
  rw [List.length_append, List.length_singleton]
  omega
def rExtend : V → List V → Hp → VK → Prop := fun x vs H Q => ∃ l b xs zs, x = .ref l ∧ vs = [.ref b] ∧ H l = some (.lst xs) ∧ H b = some (.lst zs) ∧ xs.length + zs.length ≤ sizeLine ∧ Q .non (upd H l (.lst (xs ++ zs)))
theorem mt_extend : MtM X "list.extend" rExtend := by
  intro pins s σ H x vs v us Q I rx rv h
  obtain ⟨l, b, xs, zs, rfl, rfl, hH, hB, hz, q⟩ := h
  cases rx
  obtain ⟨u, rfl, ru⟩ := rv.one
  cases ru
  obtain ⟨z, its, n, r, hl, e⟩ := I.lstM hH
  obtain ⟨z2, its2, n2, r2, hl2, e2⟩ := I.lstM hB
  have hsz : its.toArray.size + its2.toArray.size ≤ sizeLine := by rw [List.size_toArray, List.size_toArray]; omega
  have hlong : ¬ (!its.toArray.isEmpty && Builtin.List.listTooLong (its.toArray.size + its2.toArray.size)) = true := by
    rw [notLongL hsz, Bool.and_false]
    exact Bool.false_ne_true
  refine call_meets F.slot_list_extend ⟨_, e, rfl⟩ F.entry_list_extend (F.args_list_extend_2 _ _)
    (AutoSeq1.list_extend_list_list_0 l its.toArray n b its2.toArray n2 hlong (by rw [List.size_toArray]; omega) (by omega)) ⟨e, e2, ?_⟩
  refine ⟨.non, _, I.lset (its' := its ++ its2) hH e (by simp) (r.append r2) ?_, rfl, q⟩
  rw [List.length_append]
  omega
def rPop : V → List V → Hp → VK → Prop := fun x vs H Q => ∃ l xs y, x = .ref l ∧ vs = [] ∧ H l = some (.lst xs) ∧ xs[xs.length - 1]? = some y ∧ Q y (upd H l (.lst xs.dropLast))
theorem mt_pop : MtM X "list.pop" rPop := by
  intro pins s σ H x vs v us Q I rx rv h
  obtain ⟨l, xs, y, rfl, rfl, hH, hy, q⟩ := h
  cases rx
  have hus := rv.zero
  subst hus
  obtain ⟨z, its, n, r, hl, e⟩ := I.lstM hH
  obtain ⟨u, hu, ru⟩ := r.get hy
  have hy' : its.toArray[its.toArray.size - 1]? = some u := by
    show its.toArray[its.length - 1]? = some u
    rw [← Array.getElem?_toList, ← hl]
    exact hu
  refine call_meets F.slot_list_pop ⟨_, e, rfl⟩ F.entry_list_pop (F.args_list_pop_1 _) (MeetsSeq.list_pop_last l its.toArray n u hy' (by rw [List.size_toArray]; omega)) ⟨e, ?_⟩
  refine ⟨y, _, I.lset (its' := its.dropLast) hH e ?_ r.dropLast ?_, ru, q⟩
  · show its.toArray.eraseIdxIfInBounds (its.toArray.size - 1) = its.dropLast.toArray
    rw [List.size_toArray, List.eraseIdxIfInBounds_toArray, erase_last]
  · rw [List.length_dropLast]
    omega
end
section
variable {prog : Program} {w : World} {A : Around} {E : Value → Shared → Prop} {s : Shared}
end
section
variable {X : Cx}
end
end L2
namespace L2
open PySem PySem.Spec PyProof.Rows
section
variable {κ : Type} [DecidableEq κ]
end
section
variable {P : Program} {w : World} {H : Hp} {h : Heap} {a : Addr}
end
section
variable {X : Cx} {pins : List (Addr × Obj)} {σ : St} {H : Hp} {s : Shared} {a : Addr} {y v : V} {u r : Value} {o : Option V} {A : Around} {E : Value → Shared → Prop}
end
section
variable {X : Cx} {pins : List (Addr × Obj)} {σ : St} {H : Hp} {s : Shared} {a : Addr} {kvs : List (Key × V)} {k : Key} {u : Value} {A : Around} {E : Value → Shared → Prop}
end
section
variable {X : Cx} {o i e value : Expr} {pos pos' tpos : Pos} {td ty tv : TE}
end
section
variable {X : Cx} {pos : Pos}
end
section
variable {X : Cx} {pins : List (Addr × Obj)} {σ : St} {H : Hp} {s : Shared} {a : Addr} {y d : V} {u r : Value} {o : Option V} {A : Around} {E : Value → Shared → Prop}
end
section
variable {X : Cx} {o e f : Expr} {apos cpos : Pos} {td ty tx : TE}
end
section
variable {X : Cx} {pins : List (Addr × Obj)} {σ : St} {H : Hp} {s : Shared} {a : Addr} {kvs : List (Key × V)} {A : Around} {E : Value → Shared → Prop}
end
section
variable {X : Cx} {pins : List (Addr × Obj)} {σ : St} {H : Hp} {s : Shared} {a : Addr} {y : V} {u : Value} {A : Around} {E : Value → Shared → Prop}
end
end L2
namespace Att
open PySem PySem.W PySem.Calls PyProof.Rows
theorem ints_of_wellAll {P : Params} {h : Heap} : ∀ (ns : List Int) (vs : List Value), WellAll P h vs (ns.map WData.int) → IntsAre vs ns := by
  intro ns
  induction ns with
  | nil =>
    intro vs w
    rw [List.map_nil] at w
    cases w
    exact .nil
  | cons n ns ih =>
    intro vs w
    rw [List.map_cons] at w
    cases w with
    | cons a b =>
      cases a
      exact .cons _ _ (ih _ b)
theorem script_of {l : OpenLaw} {n : Nat} (hn : l.most = some n) {P : Params} {h : Heap} {args : List WData} {vals : List Value}
    (hpre : l.row.toRowW.claim.pre args = true) (hwl : WellAll P h vals args) :
    ∃ a vs ns, vals = [Value.ref a] ∧ args = [WData.list (ns.map WData.int)] ∧ h.get? a = some { cls := .type "list", data := .seq vs.toArray } ∧ IntsAre vs ns ∧ ns.length ≤ n := by
  have hsh : WShape.hasAll [] args [.list .int] = true := (pre_splitW hpre).1
  have hc : l.pre.holds [] { args := args } = true := (pre_splitW hpre).2
  obtain ⟨d, r, rfl, h1, h2⟩ := hasAllW_cons hsh
  obtain rfl := hasAllW_nil h2
  obtain ⟨xs, rfl, h3⟩ := hasW_list h1
  obtain ⟨ns, rfl⟩ := items_int h3
  have hlen : ns.length ≤ n := by
    unfold OpenLaw.pre at hc
    have h4 : (WTm.not (.lt (.lit (.int (n : Int))) (.len (.arg 0)))).holds [] { args := [.list (ns.map .int)] } = true := by
      have h4 := (holds_andW hc).1
      rw [hn] at h4
      exact h4
    have h5 := condW_of h4 (w_not (w_lt w_lit (w_len_list (w_arg rfl))))
    rw [List.length_map] at h5
    refine Nat.le_of_not_lt fun q => ?_
    have q' : (n : Int) < ((ns.length : Nat) : Int) := by omega
    first
      | (rw [decide_eq_true q'] at h5; exact absurd h5 (by decide))
      | (simp at h5; omega)
  cases hwl with
  | cons w1 w2 =>
    cases w2
    cases w1 with
    | list ho hall => exact ⟨_, _, ns, rfl, rfl, ho, ints_of_wellAll ns _ hall, hlen⟩
theorem post_true (l : OpenLaw) (args : List WData) : l.row.toRowW.claim.post args (.bool true) args = true :=
  postW_of (r := l.row.toRowW) (X := (true == true))
    (show WShape.has [] (.bool true) .bool = true by first | rfl | decide | simp [WShape.has, WShape.arms, WShape.armsAll])
    (show (WTm.eq .res (.lit (.bool true))).value [] { args := args, res := some (.bool true), after := args } = some (.bool (true == true)) from w_eq_bool (w_res rfl) w_lit) rfl
theorem attach_call {l : OpenLaw} {n : Nat} {q : Program} {loose : List Str} {XP : (Str → Option Value) → Heap → Prop} {YP : World → Heap → Prop} {d : DefRec}
    (hn : l.most = some n) (hdf : d.params.defaults = [])
    (call : ∀ (w : World) (s₀ s₁ : Shared) (mg mb : Str → Option Value) (fa : Addr) (o : Obj) (pm cd doc : Value) (a : Addr) (vs : List Value) (ns : List Int),
      Ground q loose [] XP w s₀ mg mb s₁.heap → YP w s₁.heap →
      s₁.heap.get? fa = some o → o.data = .func (docDef d.name d.params d.body d.scope pm cd doc) → s₁.heap.CodeRec cd d.name → mg d.name = some (.ref fa) →
      s₁.heap.get? a = some { cls := .type "list", data := .seq vs.toArray } → IntsAre vs ns → ns.length ≤ n → s₁.gens = #[] →
      codeAny (model l.prog w) callerA (.call (.ref fa) ⟨[.ref a], []⟩) (fun r s' => r = .ok (.ret (.bool true)) ∧ OldK s₁.heap s'.heap ∧ s'.os = s₁.os ∧ AllBare s'.gens) s₁) :
    WalkO q loose XP YP l.row.toRowW d [] (fun f vs => PySem.call f vs) := by
  intro w s₀ s₁ mg mb G Y fa o pm cd doc dV kV ho hd hcd hD hmg hg args vals as hpre hlay hrd hwl hlo
  obtain rfl : dV = .none := Dflts.none hD hdf
  obtain rfl : kV = .none := Dflts.noKw hD
  obtain ⟨a, vs, ns, rfl, rfl, hobj, hints, hlen⟩ := script_of hn hpre hwl
  refine enter_call (codeAny_mono (call w s₀ s₁ mg mb fa o pm cd doc a vs ns G Y ho (fd_plain hd) hcd hmg hobj hints hlen hg) fun r s' hq => ?_)
  obtain ⟨rfl, h2, h3, h4⟩ := hq
  exact ⟨.inl ⟨.bool true, .bool true, [], rfl, fun _ => rfl, .bool true, post_true l _, fun _ => ⟨List.Pairwise.nil, fun _ hm => (nomatch hm)⟩⟩, h2, h3, h4⟩
section
variable {prog : Program} {w : World} {A : Around} {E : Value → Shared → Prop} {s : Shared} {K : Frag}
end
end Att
namespace L2
open PySem PySem.Spec PyProof.Rows
theorem vals_ints : ∀ {vs : List Value} {ns : List Int}, IntsAre vs ns → Vals (ns.map V.int) vs
  | _, _, .nil => .nil
  | _, _, .cons n t h => .cons ⟨t, rfl⟩ (vals_ints h)
def Only (H : Hp) : Prop := ∀ b, H b = none ∨ ∃ o xs, H b = some (.frz o (.lst xs))
theorem law_call {P : Program} {w : World} {K : PySem.W.Frag} {mg mb : Str → Option Value} {CX : CXT} {k : Nat} {fa a : Addr} {fd : FuncData} {x : Str} {sp : Sp} {s₁ : Shared} {vs : List Value} {ns : List Int}
    (KX : K.In s₁.heap) (hns : s₁.heap.Ns mainGlobals mg) (hb : s₁.heap.Ns builtinsNs mb) (hbb : ∀ x : Str, x ≠ "__name__" → mb x = bootBuiltins x) (hlim : s₁.heap.NoLimit) (hg : s₁.gens = #[])
    (ha : s₁.heap.get? a = some { cls := .type "list", data := .seq vs.toArray }) (hi : IntsAre vs ns) (hl : ns.length ≤ sizeLine) (hr : Room k callerA)
    (F : ∀ base : Heap, K.In base → base.Ns mainGlobals mg → FnOk P w K mg base CX k fa fd [x] sp) (hbind : ∀ (s : Shared) (u : Value), BindsTo s fd ⟨[u], []⟩ [(x, u)])
    (hsp : ∀ H : Hp, Only H → SqL K H a (ns.map V.int) → sp [.ref a] H (fun v _ => v = .bl true) fun _ _ _ => False)
    (hCX : ∀ H e s', CX [] H s₁ (fun _ _ _ => False) e s' → False) :
    codeAny (model P w) callerA (.call (.ref fa) ⟨[.ref a], []⟩) (fun r s' => r = .ok (.ret (.bool true)) ∧ OldK s₁.heap s'.heap ∧ s'.os = s₁.os ∧ AllBare s'.gens) s₁ := by
  have rv := vals_ints hi
  have lenV := hi.length
  have core : ∀ H : Hp, Only H → SqL K H a (ns.map V.int) → HOk P w H s₁.heap → (∀ b, H b ≠ none → b = a) → (H a ≠ none → K.lookup a = none) →
      codeAny (model P w) callerA (.call (.ref fa) ⟨[.ref a], []⟩) (fun r s' => r = .ok (.ret (.bool true)) ∧ OldK s₁.heap s'.heap ∧ s'.os = s₁.os ∧ AllBare s'.gens) s₁ := by
    intro H hO hS hok hA hK
    have base_of : ∀ {b : Addr} {o : Obj}, s₁.heap.get? b = some o → H b = none → (hidT s₁.heap H).get? b = some o := fun e n => hidT_get e n
    have noA : ∀ {b : Addr} {o : Obj} {es : Array DictEntry} {ep : Nat}, s₁.heap.get? b = some o → o.data = .dict es ep → H b = none := fun {b o es ep} e d => by
      cases q : H b with
      | none => rfl
      | some u =>
        have e' : b = a := hA b (by rw [q]; simp)
        subst e'
        rw [ha] at e; cases e
        have d' : Data.seq vs.toArray _ = Data.dict es ep := d
        cases d'
    have nsK : ∀ {b : Addr} {m : Str → Option Value}, s₁.heap.Ns b m → (hidT s₁.heap H).Ns b m := fun {b m} ⟨o, es, ep, e, d, r⟩ => ⟨o, es, ep, base_of e (noA e d), d, r⟩
    have hKb : K.In (hidT s₁.heap H) := fun b o e => base_of (KX b o e) (by
      cases q : H b with
      | none => rfl
      | some u =>
        have e' : b = a := hA b (by rw [q]; simp)
        subst e'
        rw [hK (by rw [q]; simp)] at e; cases e)
    have hM : Mod K mg (hidT s₁.heap H) := ⟨hKb, nsK hns, ⟨mb, nsK hb, hbb⟩, let ⟨mc, h1, h2⟩ := hlim; ⟨mc, nsK h1, h2⟩⟩
    have e0 : Env0 P w K mg (hidT s₁.heap H) callerA [] s₁ H := ⟨rfl, hM, fun b o e => of_hidT e, Nat.le_of_eq (hidT_size _ _), trivial, fun b hb => absurd (show b ∈ ([] : List Addr) from hb) (by simp), hok, .of_eq hg⟩
    refine codeAny_mono ((F _ hKb (nsK hns)).run callerA [] s₁ H ⟨[.ref a], []⟩ [.ref a] [.ref a] _ _ hr e0 (hbind s₁ (.ref a)) (.cons rfl .nil) (hsp H hO hS)) fun r s' h => ?_
    cases r with
    | error e => exact (hCX H e s' h).elim
    | ok fl =>
      cases fl with
      | next => exact False.elim h
      | brk => exact False.elim h
      | cont => exact False.elim h
      | ret u =>
        obtain ⟨v, H', os, bare, un, hok', r', q⟩ := h
        have q' : v = .bl true := q
        subst q'
        obtain rfl : u = Value.bool true := r'
        refine ⟨rfl, OldK.of_keep fun b o e => ?_, os, bare⟩
        cases q : H b with
        | none => exact un.keep b o e q (by intro z; exact absurd (show b ∈ ([] : List Addr) from z) (by simp)) (by simp)
        | some u =>
          rcases hO b with z | ⟨ob, xs, z⟩
          · rw [q] at z; cases z
          · have z2 := un.frzs b ob _ z
            obtain ⟨e1, _⟩ := hok b _ z
            obtain ⟨e2, _⟩ := hok' b _ z2
            rw [e] at e1; cases e1
            exact e2
  cases hk : K.lookup a with
  | some o =>
    have e := KX a o hk
    rw [ha] at e
    cases e
    refine core (fun _ => none) (fun _ => .inl rfl) (.inr ⟨_, vs.toArray, _, hk, rfl, rfl, rfl, by rw [List.size_toArray, lenV]; exact hl, by simpa using rv⟩) (fun b u z => by have z' : (none : Option HO) = some u := z; cases z') (fun b z => absurd rfl z) fun z => absurd rfl z
  | none =>
    refine core (fun b => if b = a then some (.frz { cls := .type "list", data := .seq vs.toArray } (.lst (ns.map V.int))) else none) (fun b => ?_) (.inl (.inr ⟨{ cls := .type "list", data := .seq vs.toArray }, if_pos rfl⟩)) (fun b u z => ?_) (fun b z => ?_) fun _ => hk
    · by_cases hb : b = a
      · exact .inr ⟨_, _, if_pos hb⟩
      · exact .inl (if_neg hb)
    · by_cases hb : b = a
      · have z' := (if_pos hb).symm.trans z
        cases z'
        subst hb
        exact ⟨ha, by rw [List.length_map]; exact hl, vs, _, rv, ha⟩
      · have z' := (if_neg hb).symm.trans z
        cases z'
    · by_cases hb : b = a
      · exact hb
      · exact absurd (if_neg hb) z
end L2
namespace L2
open PySem PySem.Spec PyProof.Rows
theorem walk_of {l : PySem.W.OpenLaw} {n k : Nat} {q : Program} {loose : List Str} {XP : (Str → Option Value) → Heap → Prop} {YP : World → Heap → Prop} {d : DefRec} {K : Params → PySem.W.Frag} {CX : World → CXT} {sp : World → Sp} {x : Str}
    (hn : l.most = some n) (hn2 : n ≤ sizeLine) (hdf : d.params.defaults = []) (hr : Room k callerA)
    (hY : ∀ (w : World) (h : Heap), YP w h → (K w.params).In h)
    (F : ∀ (w : World) (mg : Str → Option Value) (fa : Addr) (h : Heap), (K w.params).In h → h.Ns mainGlobals mg → mg d.name = some (.ref fa) →
      ∃ fd : FuncData, (∀ (s : Shared) (u : Value), BindsTo s fd ⟨[u], []⟩ [(x, u)]) ∧
        ∀ base : Heap, (K w.params).In base → base.Ns mainGlobals mg → FnOk l.prog w (K w.params) mg base (CX w) k fa fd [x] (sp w))
    (hsp : ∀ (w : World) (H : Hp) (a : Addr) (ns : List Int), ns.length ≤ n → Only H → SqL (K w.params) H a (ns.map V.int) → sp w [.ref a] H (fun v _ => v = .bl true) fun _ _ _ => False)
    (hCX : ∀ (w : World) (H : Hp) (s : Shared) (e : Value) (s' : Shared), CX w [] H s (fun _ _ _ => False) e s' → False) :
    PySem.W.WalkO q loose XP YP l.row.toRowW d [] (fun f vs => PySem.call f vs) := by
  refine Att.attach_call hn hdf fun w s₀ s₁ mg mb fa o pm cd doc a vs ns G Y ho hd hcd hmg hobj hints hlen hg => ?_
  have KX := hY w _ Y
  obtain ⟨fd, hb, hF⟩ := F w mg fa _ KX G.T.g hmg
  exact law_call KX G.T.g G.T.b G.T.builtins G.T.nolimit hg hobj hints (Nat.le_trans hlen hn2) hr hF hb (fun H hO hS => hsp w H a ns hlen hO hS) fun H e s' => hCX w H s₁ e s'
end L2
namespace L2
open PySem PySem.Spec PyProof.Rows
def defArgs (s : Stmt) : Arguments := match s with
  | .FunctionDef _ a _ _ _ _ _ _ _ _ => a
  | _ => { posonlyargs := [], args := [], vararg := none, kwonlyargs := [], kw_defaults := [], kwarg := none, defaults := [] }
def defBody (s : Stmt) : List Stmt := match s with
  | .FunctionDef _ _ b _ _ _ _ _ _ _ => b
  | _ => []
def defScope (s : Stmt) : Scope := match s with
  | .FunctionDef _ _ _ _ _ _ sc _ _ _ => sc
  | _ => { kind := .function, names := [], isGenerator := false, isCoroutine := false }
abbrev CX0 : CXT := fun _ _ _ _ _ _ => False
abbrev E0 : XK := fun _ _ _ => False
theorem pass0 {X : Cx} : Passes CX0 X E0 := fun _ _ _ _ _ _ _ h => h.elim
structure Fun (K : PySem.W.Frag) (x qual : Str) (st : Stmt) (f : Addr) (fd : FuncData) : Prop where
  ex : ∃ (oc : Value) (od : Option Addr) (kV doc pm : Value) (an : Option Addr) (cdv ct : Value) (osl : Array (Option Value)),
    fd = PySem.W.fnOf x qual (defArgs st) (defBody st) (defScope st) .none kV doc pm an cdv ct ∧ K.lookup f = some ⟨oc, od, .func fd, osl⟩ ∧ PySem.W.codeIn K cdv qual = true
  kp : PySem.W.keepIn K (.ref f) = true
section
variable {P : Program} {w : World} {K : PySem.W.Frag} {mg : Str → Option Value} {base : Heap}
theorem Fun.ok {x qual : Str} {st : Stmt} {f : Addr} {fd : FuncData} {N ps : List Str} {k : Nat} {sp : Sp} (F : Fun K x qual st f fd) (S : FnScope N ps (defScope st)) (len : ∀ vs H Q E, sp vs H Q E → vs.length = ps.length)
    (hbody : ∀ (cdv : Value) (A : Around) (outer : List Env) (s : Shared) (H : Hp) (vs : List V) (Q : VK) (E : XK), Room k (A.deeper (envOfC qual (defScope st) s.heap.objs.size f cdv)) → sp vs H Q E →
      ∃ t, PSs (cxOf CX0 P w K mg base N qual (defScope st) f cdv A outer s H E).nox (defBody st) t ∧ t { nx := fun _ H' => Q .non H', rt := Q } (start N vs) H) : FnOk P w K mg base CX0 (k + 1) f fd ps sp := by
  obtain ⟨oc, od, kV, doc, pm, an, cdv, ct, osl, rfl, lk, hcd⟩ := F.ex
  refine fn_of lk hcd S len fun A outer s H vs Q E hr hsp => ?_
  obtain ⟨t, h, q⟩ := hbody cdv A outer s H vs Q E hr hsp
  exact ⟨t, h.nox, q⟩
theorem Fun.binds {x qual : Str} {st : Stmt} {f : Addr} {fd : FuncData} {ps : List Str} (F : Fun K x qual st f fd)
    (h : ∀ (kV doc pm : Value) (an : Option Addr) (cdv ct : Value) (us : List Value), us.length = ps.length → bindArgs (PySem.W.fnOf x qual (defArgs st) (defBody st) (defScope st) .none kV doc pm an cdv ct) ⟨us, []⟩ = pure (ps.zip us)) : Binds K fd ps [] := by
  obtain ⟨oc, od, kV, doc, pm, an, cdv, ct, osl, rfl, lk, hcd⟩ := F.ex
  exact .all (h kV doc pm an cdv ct)
theorem fun_mk {x qual : Str} {st : Stmt} {f : Addr} {oc : Value} {od an : Option Addr} {osl : Array (Option Value)} {kV doc pm cdv ct : Value} (l : K.lookup f = some ⟨oc, od, .func (PySem.W.fnOf x qual (defArgs st) (defBody st) (defScope st) .none kV doc pm an cdv ct), osl⟩)
    (c : PySem.W.codeIn K cdv qual = true) (k : PySem.W.keepIn K (.ref f) = true) : Fun K x qual st f (PySem.W.fnOf x qual (defArgs st) (defBody st) (defScope st) .none kV doc pm an cdv ct) := ⟨⟨oc, od, kV, doc, pm, an, cdv, ct, osl, rfl, l, c⟩, k⟩
end
theorem small1000 {n : Nat} (h : n ≤ 1000) : n < sizeLine := Nat.lt_of_le_of_lt h (by decide)
section
variable {X : Cx}
theorem pv (i : Nat) {x : Str} {pos : Pos} (hN : X.N[i]? = some x := by rfl) (hv : Vis X.env.scope x := by first | exact Or.inl rfl | exact Or.inr (Or.inl rfl) | exact Or.inr (Or.inr rfl)) (hd : (x == ("__debug__" : Str)) = false := by decide)
    (hcd : (x == ("__classdict__" : Str)) = false := by decide) : PE X (.Name x pos) (tVar i) := pe_var hN hv hd hcd
end
theorem iteF {A B : Prop} (h : B) : if false = true then A else B := by
  rw [if_neg Bool.false_ne_true]
  exact h
theorem iteT {A B : Prop} (h : A) : if true = true then A else B := by
  rw [if_pos rfl]
  exact h
theorem ite2 {c A B : Prop} [Decidable c] (h1 : c → A) (h2 : ¬ c → B) : if c then A else B := by
  by_cases h : c
  · rw [if_pos h]
    exact h1 h
  · rw [if_neg h]
    exact h2 h
def Same (H H' : Hp) : Prop := ∀ b o, H b = some o → H' b = some o
theorem Same.refl (H : Hp) : Same H H := fun _ _ h => h
theorem Same.trans {H H1 H2 : Hp} (a : Same H H1) (b : Same H1 H2) : Same H H2 := fun c o h => b c o (a c o h)
theorem Same.free {H H' : Hp} (e : Same H H') {l : Addr} (h : H' l = Option.none) : H l = Option.none := by
  cases q : H l with
  | none => rfl
  | some o =>
    rw [e l o q] at h
    cases h
theorem Same.seq {K : PySem.W.Frag} {H H' : Hp} {a : Addr} {xs : List V} (e : Same H H') (h : SqL K H a xs) : SqL K H' a xs := by
  rcases h with (h | ⟨o, h⟩) | h
  · exact .inl (.inl (e _ _ h))
  · exact .inl (.inr ⟨o, e _ _ h⟩)
  · exact .inr h
section
variable {κ : Type} [DecidableEq κ]
end
end L2
set_option Elab.async false
set_option linter.all false
set_option maxRecDepth 100000
set_option maxHeartbeats 4000000
namespace L2
open PySem PySem.Spec PyProof.Rows
abbrev NoX : Value → Shared → Prop := fun _ _ => False
theorem noX {al : Type} {t : Sem al} {Q : al → Shared → Prop} {M : Model} {A : Around} {E : Value → Shared → Prop} {s : Shared} (h : wpAny M A t Q NoX s) : wpAny M A t Q E s :=
  wpAny_mono h (fun _ _ q => q) fun _ _ z => z.elim
def capSt (cap : List (Option Nat)) (σ : St) : St := cap.map fun o => match o with
  | none => none
  | some j => (σ[j]?).join
inductive Ext : St → St → Prop
  | nil : Ext [] []
  | skip {a b : St} {x : Option V} : Ext a b → Ext (none :: a) (x :: b)
  | keep {a b : St} {x : Option V} : Ext a b → Ext (x :: a) (x :: b)
theorem Ext.len {a b : St} (h : Ext a b) : a.length = b.length := by
  induction h with
  | nil => rfl
  | skip _ ih => simp [ih]
  | keep _ ih => simp [ih]
theorem Ext.get {a b : St} (h : Ext a b) : ∀ (i : Nat) v, a[i]? = some (some v) → b[i]? = some (some v) := by
  induction h with
  | nil => intro i v e; simp at e
  | skip _ ih =>
    intro i v e
    cases i with
    | zero => simp at e
    | succ i => simpa using ih i v (by simpa using e)
  | keep _ ih =>
    intro i v e
    cases i with
    | zero => simpa using e
    | succ i => simpa using ih i v (by simpa using e)
def Cx.block (X : Cx) (sc : Scope) (cl : List (Str × Addr)) (N : List Str) (s : Shared) (H : Hp) (C : Addr) (ex : List Addr) : Cx where
  prog := X.prog
  w := X.w
  K := X.K
  mg := X.mg
  base := X.base
  A := X.A
  N := N
  s₀ := s
  H₀ := H
  env := compEnvC sc cl C X.env
  outer := X.stack
  stack := X.stack
  ex := ex
  fn := fun _ => false
  calm := X.calm
  pn := []
  xe := NoX
theorem closure_ok {env : Env} : ∀ (names : List (Str × NameKind)) (cs : List (Str × Addr)), (∀ n, (n, NameKind.free) ∈ names → ∃ c, env.cells.lookup n = some c) →
    (∀ x c, cs.lookup x = some c → env.cells.lookup x = some c) →
    ∃ cl : List (Str × Addr), (forIn names cs fun (x : Str × NameKind) (r : List (Str × Addr)) => (if (x.2 == NameKind.free) = true then do let c ← cellOf env x.1; pure (ForInStep.yield ((x.1, c) :: r)) else pure (ForInStep.yield r)) : Sem (List (Str × Addr))) = pure cl ∧
      (∀ x c, cl.lookup x = some c → env.cells.lookup x = some c) ∧ (∀ n, (n, NameKind.free) ∈ names → ∃ c, cl.lookup n = some c) ∧ (∀ n c, cs.lookup n = some c → ∃ c, cl.lookup n = some c)
  | [], cs, _, hc => ⟨cs, rfl, hc, fun _ h => (nomatch h), fun n c e => ⟨c, e⟩⟩
  | (n, k) :: r, cs, h, hc => by
    by_cases hk : k = .free
    · subst hk
      obtain ⟨c, ec⟩ := h n List.mem_cons_self
      have hc' : ∀ x c', ((n, c) :: cs).lookup x = some c' → env.cells.lookup x = some c' := fun x c' e => by
        rw [List.lookup_cons] at e
        cases hx : x == n with
        | true => rw [hx] at e; cases e; rw [eq_of_beq hx]; exact ec
        | false => rw [hx] at e; exact hc x c' e
      obtain ⟨cl, e1, e2, e3, e4⟩ := closure_ok r ((n, c) :: cs) (fun m hm => h m (List.mem_cons_of_mem _ hm)) hc'
      refine ⟨cl, ?_, e2, fun m hm => ?_, fun m c' e => ?_⟩
      · rw [List.forIn_cons, ← e1]
        simp only [beq_self_eq_true, if_true, cellOf, ec]
        rfl
      · rcases List.mem_cons.mp hm with z | z
        · cases z
          exact e4 n c (by simp)
        · exact e3 m z
      · by_cases hm : m = n
        · subst hm; exact e4 m c (by simp)
        · exact e4 m c' (by rw [List.lookup_cons, beq_eq_false_iff_ne.mpr hm]; exact e)
    · have hb : (k == NameKind.free) = false := by simpa using hk
      obtain ⟨cl, e1, e2, e3, e4⟩ := closure_ok r cs (fun m hm => h m (List.mem_cons_of_mem _ hm)) hc
      refine ⟨cl, ?_, e2, fun m hm => ?_, e4⟩
      · rw [List.forIn_cons, ← e1]
        simp only [hb, Bool.false_eq_true, if_false]
        rfl
      · rcases List.mem_cons.mp hm with z | z
        · cases z; exact absurd rfl hk
        · exact e3 m z
theorem closure_of {sc : Scope} {env : Env} (h : ∀ n, (n, NameKind.free) ∈ sc.names → ∃ c, env.cells.lookup n = some c) :
    ∃ cl : List (Str × Addr), closureFor sc env = pure cl ∧ (∀ x c, cl.lookup x = some c → env.cells.lookup x = some c) ∧ (∀ n, (n, NameKind.free) ∈ sc.names → ∃ c, cl.lookup n = some c) := by
  obtain ⟨cl, e1, e2, e3, _⟩ := closure_ok (env := env) sc.names [] h (fun x c e => by simp at e)
  refine ⟨cl, ?_, e2, e3⟩
  unfold closureFor
  rw [← bind_pure (pure cl), ← e1]
theorem lookup_mem {names : List (Str × NameKind)} {x : Str} {k : NameKind} (h : names.lookup x = some k) : (x, k) ∈ names := by
  induction names with
  | nil => simp at h
  | cons p r ih =>
    obtain ⟨n, j⟩ := p
    rw [List.lookup_cons] at h
    cases hx : x == n with
    | true => rw [hx] at h; cases h; rw [eq_of_beq hx]; exact List.mem_cons_self
    | false => rw [hx] at h; exact List.mem_cons_of_mem _ (ih h)
theorem relabel_free {sc : Scope} {env : Env} {x : Str} {k : NameKind} (hk : k = .cell ∨ k = .free) (nc : ∀ y ∈ sc.names, y.2 ≠ .cell) (h : (relabel sc env).names.lookup x = some k) : (x, NameKind.free) ∈ sc.names := by
  have m := lookup_mem h
  obtain ⟨⟨n, j⟩, hm, e⟩ := List.mem_map.mp m
  have q : (if (j == NameKind.free && env.scope.kind == .function && env.kindOf n == some .cell) = true then (n, NameKind.cell) else (n, j)) = (x, k) := e
  split at q
  · rename_i c
    rw [Bool.and_eq_true, Bool.and_eq_true] at c
    have j' : j = .free := by simpa using c.1.1
    cases q
    rw [j'] at hm
    exact hm
  · cases q
    rcases hk with z | z
    · exact absurd z (nc _ hm)
    · rw [z] at hm; exact hm
theorem lookup_relabel_free {sc : Scope} {env : Env} {x : Str} : ∀ {names : List (Str × NameKind)}, names.lookup x = some .free →
    (names.map fun (n, k) => if (k == NameKind.free && env.scope.kind == .function && env.kindOf n == some .cell) then (n, NameKind.cell) else (n, k)).lookup x = some .cell ∨
    (names.map fun (n, k) => if (k == NameKind.free && env.scope.kind == .function && env.kindOf n == some .cell) then (n, NameKind.cell) else (n, k)).lookup x = some .free
  | [], h => by simp at h
  | (n, k) :: r, h => by
    have ih := @lookup_relabel_free sc env x r
    rw [List.lookup_cons] at h
    by_cases c : (k == NameKind.free && env.scope.kind == .function && env.kindOf n == some .cell) = true
    · rw [List.map_cons]
      simp only [c, if_true, List.lookup_cons]
      cases hx : x == n with
      | true => exact .inl rfl
      | false => rw [hx] at h; exact ih h
    · rw [List.map_cons]
      have c' := Bool.eq_false_iff.mpr c
      simp only [c', Bool.false_eq_true, if_false, List.lookup_cons]
      cases hx : x == n with
      | true => rw [hx] at h; cases h; exact .inr rfl
      | false => rw [hx] at h; exact ih h
theorem comp_loop {P : Program} {w : World} {A : Around} {R : Result → Shared → Prop} {s : Shared} {elt tg iter : Expr} {ifs : List Expr} {sc : Scope} {pos : Pos} {it acc : Value} {env : Env} (J : Nat → Shared → Prop)
    (turn : ∀ n s, J n s → wpAny (model P w) A (pyNext it) (fun r s1 => match r with
      | none => R (.ok .next) s1
      | some v => wpAny (model P w) A (letOwnedTupleGo tg it v) (fun _ s2 => wpAny (model P w) A (assign tg env v) (fun _ s3 =>
          wpAny (model P w) A (forIn ifs true fun c r => if r = true then do let ok ← isTrue c env (eval c env); pure (ForInStep.yield ok) else pure (ForInStep.yield r)) (fun ok s4 =>
            if ok = true then wpAny (model P w) A (eval elt env) (fun x s5 => wpAny (model P w) A (call (.builtin "list.append") [acc, x]) (fun _ s6 => ∃ m, m < n ∧ J m s6) NoX s5) NoX s4
            else ∃ m, m < n ∧ J m s4) NoX s3) NoX s2) NoX s1) NoX s) (n : Nat) (h : J n s) :
    codeAny (model P w) A (.compLoop (.ListComp elt [⟨tg, iter, ifs, 0⟩] sc pos) 0 it acc env) R s := by
  refine codeAny_loop rfl J (fun n s hJ => ?_) n h
  refine wpAny_noted ?_
  rw [compTurn_list]
  refine wpAny_bind (wpAny_standAt (wpAny_bind (noX (thn (turn n s hJ) fun r s1 h1 => ?_))))
  cases r with
  | none => exact wpAny_pure h1
  | some v =>
    refine wpAny_bind (noX (thn h1 fun _ s2 h2 => ?_))
    refine wpAny_bind (noX (thn h2 fun _ s3 h3 => ?_))
    refine wpAny_bind (noX (thn h3 fun ok s4 h4 => ?_))
    cases ok with
    | false => exact wpAny_pure ⟨rfl, h4⟩
    | true => exact wpAny_bind (wpAny_bind (noX (thn h4 fun x s5 h5 => wpAny_bind (noX (thn h5 fun _ s6 h6 => wpAny_pure (wpAny_pure ⟨rfl, h6⟩))))))
def PTs (X : Cx) (ifs : List Expr) (t : TT) : Prop :=
  ∀ (pins : List (Addr × Obj)) (s : Shared) (σ : St) (H : Hp) (Q : Bool → Hp → Prop), Inv X pins σ H s → t σ H Q →
    wpAny (model X.prog X.w) X.A (forIn ifs true fun c r => if r = true then do let ok ← isTrue c X.env (eval c X.env); pure (ForInStep.yield ok) else pure (ForInStep.yield r)) (TP X pins σ Q) X.xe s
def tYes : TT := fun _ H Q => Q true H
theorem pts_nil {X : Cx} : PTs X [] tYes := fun _ _ _ H _ I h => wpAny_tests_nil ⟨H, I, h⟩
theorem pts_one {X : Cx} {c : Expr} {t : TT} (h : PT X c t) : PTs X [c] t := fun pins s σ H Q I hq => wpAny_tests_one (h pins s σ H Q I hq)
def tComp (cap : List (Option Nat)) (wi : TI) (g : TG) (tt : TT) (te : TE) : TE := fun σ H Q => wi σ H fun J H1 => ∀ acc, H1 acc = none →
  ∃ W : Nat → Nat → Hp → Prop, (∃ m, W 0 m (upd H1 acc (.lst []))) ∧ ∀ i m H2, W i m H2 →
    (J.stop i H2 ∧ Q (.ref acc) H2) ∨ (J.go i H2 ∧ ∃ N : Hp → Prop, (∀ H', N H' → ∃ m', m' < m ∧ W (i + 1) m' H') ∧ ∀ x H3, J.yld i H2 x H3 → g x (capSt cap σ) H3 fun σ2 H4 => Ext (capSt cap σ) σ2 ∧ tt σ2 H4 fun b H5 =>
      if b = true then te σ2 H5 fun y H6 => ∃ zs, H6 acc = some (.lst zs) ∧ zs.length < sizeLine ∧ N (upd H6 acc (.lst (zs ++ [y])))
      else N H5)
theorem HOk.but {P : Program} {w : World} {H : Hp} {h h' : Heap} {C : Addr} (x : HOk P w H h) (n : H C = none) (sb : Heap.SameBut C h h') : HOk P w H h' := fun a o e =>
  (x a o e).stay (fun b u hb q => (sb.2 b (fun z => by
    subst z
    rcases hb with z | z
    · subst z; rw [n] at e; cases e
    · rw [n] at z; cases z)).trans q) (fun _ q => q) fun _ _ q => q
theorem Un.but {fs ex : List Addr} {H H' : Hp} {h h1 h2 : Heap} {C : Addr} (u : Un fs ex H H' h h1) (lt : h.objs.size ≤ C) (sb : Heap.SameBut C h1 h2) : Un fs ex H H' h h2 := by
  have ne : ∀ b o, h.get? b = some o → b ≠ C := fun b o e => Nat.ne_of_lt (Nat.lt_of_lt_of_le (Heap.lt_size e) lt)
  refine ⟨fun b o e n hb hx => (sb.2 b (ne b o e)).trans (u.keep b o e n hb hx), fun b o e n hb hx => ?_, u.free, fun b o e hx => ?_, u.tups, u.frzs, u.tbls⟩
  · obtain ⟨sl, q⟩ := u.slot b o e n hb hx
    exact ⟨sl, (sb.2 b (ne b o e)).trans q⟩
  · obtain ⟨o', q⟩ := u.there b o e hx
    exact ⟨o', (sb.2 b (ne b o e)).trans q⟩
section
variable {X : Cx}
theorem block_ok {pins : List (Addr × Obj)} {σ : St} {H : Hp} {s : Shared} {sc : Scope} {cl : List (Str × Addr)} {N : List Str} {C : Addr} {fp : List Addr} (I : Inv X pins σ H s) (hk : sc.kind = .function) (nc : ∀ y ∈ sc.names, y.2 ≠ .cell)
    (hC : s.heap.objs.size ≤ C) (hf : ∀ b ∈ fp, FpOk X pins H b) (hfo : ∀ b ∈ fp, ∃ o, s.heap.get? b = some o) (c1 : ∀ x c, cl.lookup x = some c → X.env.cells.lookup x = some c) (c2 : ∀ n, (n, NameKind.free) ∈ sc.names → ∃ c, cl.lookup n = some c) :
    (X.block sc cl N s H C fp).Ok where
  mod := I.ok.mod
  kind := hk
  glob := I.ok.glob
  blt := I.ok.blt
  above := hC
  inj := fun x y c e e' => I.ok.inj x y c (c1 x c e) (c1 y c e')
  has := fun x h => c2 x (h.elim (relabel_free (.inl rfl) nc) (relabel_free (.inr rfl) nc))
  cab := fun x c e => (nomatch e)
  hd := I.ok.hd
  frames := I.ok.frames
  stk := .inl rfl
  exf := fun b hb => ⟨fun z => by
    obtain ⟨o, e⟩ := hfo b hb
    have lt := Heap.lt_size e
    rw [z] at lt
    exact absurd (Nat.lt_of_lt_of_le lt hC) (Nat.lt_irrefl _), fun x c e => (hf b hb).2.2.2.2.1 x c (c1 x c e)⟩
  bs := I.bs
  bsz := Nat.le_trans I.ok.bsz I.sz
  noex := fun b o e hb => by
    rcases (hf b hb).2.2.2.1 with z | z
    · exact I.ok.noex b o e z
    · exact absurd (Nat.lt_of_lt_of_le (Heap.lt_size (I.ok.bs b o e).1) z) (Nat.lt_irrefl _)
  exfs := fun b hb hs => by
    rcases List.mem_cons.mp (I.stkSub b hs) with z | z
    · exact (hf b hb).2.1 z
    · exact (hf b hb).2.2.1 z
  funs := I.stack
  frf := I.stkFree
theorem pe_comp {elt tg iter : Expr} {ifs : List Expr} {sc : Scope} {pos : Pos} {wi : TI} {g : TG} {tt : TT} {te : TE} (N : List Str) (cap : List (Option Nat)) (hc : X.calm = true) (hi : PI X tg iter wi)
    (hg : ∀ cl s H C ex, PG (X.block sc cl N s H C ex) tg g) (ht : ∀ cl s H C ex, PTs (X.block sc cl N s H C ex) ifs tt) (he : ∀ cl s H C ex, PE (X.block sc cl N s H C ex) elt te)
    (hk : sc.kind = .function) (nc : ∀ y ∈ sc.names, y.2 ≠ .cell) (hnames : ∀ y ∈ sc.names, y.2 = .local → sc.names.lookup y.1 = some .local)
    (hfree : ∀ n, (n, NameKind.free) ∈ sc.names → X.env.kindOf n = some .cell)
    (hcap : ∀ (i j : Nat), cap[i]? = some (some j) → ∃ x, N[i]? = some x ∧ X.N[j]? = some x ∧ sc.names.lookup x = some .free) (hlen : cap.length = N.length)
    (hs : ∀ x, foldedSetIterable iter X.env x = pure x := by intro _; rfl) : PE X (.ListComp elt [⟨tg, iter, ifs, 0⟩] sc pos) (tComp cap wi g tt te) := by
  intro pins s σ H Q I h
  obtain ⟨cl, hclos, c1, c2⟩ := closure_of (sc := sc) (env := X.env) fun n hn => I.ok.has n (.inl (hfree n hn))
  rw [eval_ListComp]
  refine wpAny_comprehension_free (use := none) rfl hs hclos hk hnames ?_
  refine thn (hi pins s σ H _ I h) fun v s1 h1 => thn h1 fun itv s2 h2 => ?_
  obtain ⟨it, fp, tn, J, H2, e, I2, T, st2, f2, q2⟩ := h2
  subst e
  have hfr : H2 s2.heap.objs.size = none := I2.fresh
  obtain ⟨W, ⟨m0, w0⟩, turn⟩ := q2 s2.heap.objs.size hfr
  have I3 := I2.lnew (ys := []) (its := []) (t' := s2.toks) .nil (Nat.zero_le _)
  have hacc : H2 s2.heap.objs.size = none := hfr
  refine wpAny_newObj_type (wpAny_newFunctionEnv nc (by intro y hy; simp at hy) (fun h4 hns hsb => ?_) hk)
  generalize hs3 : ({ s2 with heap := s2.heap.push { cls := .type "list", data := .seq ([] : List Value).toArray } } : Shared) = s3 at hns hsb I3 ⊢
  have hheap : s3.heap = s2.heap.push { cls := .type "list", data := .seq ([] : List Value).toArray } := by rw [← hs3]
  generalize hH3 : upd H2 s2.heap.objs.size (.lst []) = H3 at I3 w0
  have up2 : ∀ b o, s2.heap.get? b = some o → s3.heap.get? b = some o := fun b o q => by rw [hheap]; exact Heap.get?_push_of_some _ q
  have neA : ∀ b ∈ fp, b ≠ s2.heap.objs.size := fun b hb => by
    obtain ⟨o, q, _⟩ := T.obj _ _ st2 b hb
    exact Nat.ne_of_lt (Heap.lt_size q)
  have f3 : ∀ b ∈ fp, FpOk X pins H3 b := fun b hb => ⟨by rw [← hH3, upd_ne (neA b hb)]; exact (f2 b hb).1, (f2 b hb).2⟩
  have o3 : ∀ b ∈ fp, ∃ o, s3.heap.get? b = some o := fun b hb => by
    obtain ⟨o, q, _⟩ := T.obj _ _ st2 b hb
    exact ⟨o, up2 b o q⟩
  have ok' := block_ok (N := N) (C := s3.heap.objs.size) I3 hk nc (Nat.le_refl _) f3 o3 c1 c2
  generalize hC : s3.heap.objs.size = C at hns hsb ok' ⊢
  have ltC : ∀ b o, s3.heap.get? b = some o → b ≠ C := fun b o q => by rw [← hC]; exact Nat.ne_of_lt (Heap.lt_size q)
  have up4 : ∀ b o, s3.heap.get? b = some o → h4.get? b = some o := fun b o q => hsb.extBut b o (ltC b o q) (Heap.get?_push_of_some _ q)
  have st4 : tn 0 h4 := T.keep _ _ _ st2 fun b hb o q => up4 b o (up2 b o q)
  have I4 : Inv (X.block sc cl N s3 H3 C fp) [] (capSt cap σ) H3 { s3 with heap := h4, toks := s3.toks + ([] : List (Str × Value)).length } := by
    refine ⟨ok', rfl, I3.bare, Un.kept up4, ⟨_, hns, fun i x v e1 e2 e3 => ?_⟩, fun x c q => ?_, ?_, fun x c q => I3.freeC x c (c1 x c q), fun p hp => (nomatch hp), I3.hok.kept up4, ?_⟩
    · have ee : ∃ j, cap[i]? = some (some j) ∧ σ[j]? = some (some v) := by
        unfold capSt at e2
        rw [List.getElem?_map] at e2
        cases q : cap[i]? with
        | none => rw [q] at e2; cases e2
        | some o =>
          rw [q] at e2
          cases o with
          | none => cases e2
          | some j =>
            refine ⟨j, rfl, ?_⟩
            have e2' : some ((σ[j]?).join) = some (some v) := e2
            cases z : σ[j]? with
            | none => rw [z] at e2'; cases e2'
            | some o' =>
              rw [z] at e2'
              have e2'' : o' = some v := Option.some.inj e2'
              rw [e2'']
      obtain ⟨j, ej, es⟩ := ee
      obtain ⟨x', n1, n2, n3⟩ := hcap i j ej
      have e1' : N[i]? = some x := e1
      rw [n1] at e1'
      cases e1'
      have hfr' : (x, NameKind.free) ∈ sc.names := lookup_mem n3
      have kc := hfree x hfr'
      obtain ⟨m, _, hl⟩ := I3.loc
      obtain ⟨u, r, l⟩ := hl j x v n2 es (.inr (.inl kc))
      refine ⟨u, r, ?_⟩
      rcases l with ⟨l, _⟩ | ⟨_, c, ec, z⟩
      · rw [kc] at l; cases l
      · obtain ⟨c', ec'⟩ := c2 x hfr'
        have := c1 x c' ec'
        rw [ec] at this
        cases this
        obtain ⟨oc, q1, q2⟩ := z
        exact .inr ⟨lookup_relabel_free (sc := sc) n3, c, ec', oc, up4 _ _ q1, q2⟩
    · obtain ⟨v, oc, q1, q2⟩ := I3.cell x c (c1 x c q)
      exact ⟨v, oc, up4 _ _ q1, q2⟩
    · exact I3.hok.fresh (by rw [hC]; exact Nat.le_refl _)
    · show (capSt cap σ).length = N.length
      unfold capSt
      rw [List.length_map, hlen]
  have loop : codeAny (model X.prog X.w) X.A (.compLoop (.ListComp elt [⟨tg, iter, ifs, 0⟩] sc pos) 0 (.ref it) (.ref s2.heap.objs.size) (compEnvC sc cl C X.env)) (compPost (model X.prog X.w) X.A X.xe none (EP X pins σ Q) (.ref s2.heap.objs.size) C)
      { s3 with heap := h4, toks := s3.toks + ([] : List (Str × Value)).length } := by
    have stat : ∀ {H' : Hp}, (∀ b ∈ fp, H' b = none) → ∀ b ∈ fp, FpOk (X.block sc cl N s3 H3 C fp) [] H' b := fun hn b hb =>
      ⟨hn b hb, (ok'.exf b hb).1, ok'.exfs b hb, .inl hb, (ok'.exf b hb).2, fun p hp => (nomatch hp)⟩
    refine comp_loop (fun n s' => ∃ i H', Inv (X.block sc cl N s3 H3 C fp) [] (capSt cap σ) H' s' ∧ tn i s'.heap ∧ (∀ b ∈ fp, H' b = none) ∧ W i n H') ?_ m0 ⟨0, H3, I4, st4, fun b hb => (f3 b hb).1, w0⟩
    rintro n s5 ⟨i, H5, I5, st5, fr5, w5⟩
    rcases turn i n H5 w5 with ⟨stop, qn⟩ | ⟨go, N', hN', step⟩
    · refine thn (T.done (X.block sc cl N s3 H3 C fp) rfl rfl rfl hc i [] s5 _ H5 NoX I5 (stat fr5) st5 stop) fun r s6 ⟨hr, I6⟩ => ?_
      subst hr
      obtain ⟨m, hm, _⟩ := I6.loc
      refine ⟨m, hm, fun h' sb => ⟨.ref s2.heap.objs.size, H5, ?_, rfl, qn⟩⟩
      refine I3.call' (s' := { s6 with heap := h' }) (ch := fp) I6.os (I6.base.but (by rw [← hC]; exact Nat.le_refl _) sb) (I6.hok.but I6.free sb) I6.bare fun b hb => ?_
      obtain ⟨g0, g1, g2, g3, g4, g5⟩ := f3 b hb
      exact ⟨g3, g1, g4, g5⟩
    · refine thn (T.item (X.block sc cl N s3 H3 C fp) rfl rfl rfl hc i [] s5 _ H5 NoX I5 (stat fr5) st5 go) fun r s6 ⟨u, hr, h6⟩ => ?_
      subst hr
      refine thn h6 fun _ s7 ⟨x, H7, I7, r7, y7, st7, fr7⟩ => ?_
      have I7' := I7.pinned (stat fr7) (T.obj _ _ st7)
      have again : ∀ {σ8 : St} {H8 : Hp} {s8 : Shared}, Inv (X.block sc cl N s3 H3 C fp) ([] ++ pinsAt fp s7.heap) σ8 H8 s8 → Ext (capSt cap σ) σ8 → N' H8 →
          ∃ m, m < n ∧ ∃ i H', Inv (X.block sc cl N s3 H3 C fp) [] (capSt cap σ) H' s8 ∧ tn i s8.heap ∧ (∀ b ∈ fp, H' b = none) ∧ W i m H' := fun {σ8 H8 s8} I8 ex n8 => by
        obtain ⟨m', hm, w8⟩ := hN' H8 n8
        have I8' := I8.unpinned.weak ex.len ex.get
        refine ⟨m', hm, i + 1, H8, I8', T.keep _ _ _ st7 fun b hb o q => (I8.pin (b, o) (List.mem_append_right _ (List.mem_append_right _ (mem_pinsAt hb q)))).1, fun b hb => ?_, w8⟩
        obtain ⟨o, q, d⟩ := T.obj _ _ st7 b hb
        exact (I8.pin (b, o) (List.mem_append_right _ (List.mem_append_right _ (mem_pinsAt hb q)))).2.1
      refine thn (hg cl s3 H3 C fp _ s7 _ H7 x u _ I7' r7 (step x H7 y7)) fun _ s8 ⟨σ8, H8, I8, ex8, q8⟩ => ?_
      refine thn (ht cl s3 H3 C fp _ s8 σ8 H8 _ I8 q8) fun b s9 ⟨H9, I9, q9⟩ => ?_
      cases b with
      | false => exact again I9 ex8 q9
      | true =>
        rw [if_pos rfl] at q9 ⊢
        refine thn (he cl s3 H3 C fp _ s9 σ8 H9 _ I9 q9) fun yv s10 ⟨y, H10, I10, r10, zs, e10, l10, q10⟩ => ?_
        refine thn (mt_append (X := X.block sc cl N s3 H3 C fp) _ s10 σ8 H10 (.ref s2.heap.objs.size) [y] (.ref s2.heap.objs.size) [yv] (fun _ H' => N' H') I10 rfl (.cons r10 .nil) ⟨_, zs, y, rfl, rfl, e10, l10, q10⟩) fun _ s11 ⟨_, H11, I11, _, q11⟩ => ?_
        exact again I11 ex8 q11
  exact codeAny_compStart_list loop (T.self X.A 0 _ _ _ st4 loop)
end
theorem comp_range {lo : Int} {n : Nat} {acc : Addr} {g : TG} {tt : TT} {te : TE} {σ : St} {H : Hp} {Q : VK} (Pv : Nat → Hp → Prop) (h0 : Pv 0 (upd H acc (.lst [])))
    (hs : ∀ i H, i < n → Pv i H → g (.int (lo + i)) σ H fun σ2 H4 => Ext σ σ2 ∧ tt σ2 H4 fun b H5 =>
      if b = true then te σ2 H5 fun y H6 => ∃ zs, H6 acc = some (.lst zs) ∧ zs.length < sizeLine ∧ Pv (i + 1) (upd H6 acc (.lst (zs ++ [y]))) else Pv (i + 1) H5) (hd : ∀ H, Pv n H → Q (.ref acc) H) :
    ∃ W : Nat → Nat → Hp → Prop, (∃ m, W 0 m (upd H acc (.lst []))) ∧ ∀ i m H2, W i m H2 →
      ((Itr lo n).stop i H2 ∧ Q (.ref acc) H2) ∨ ((Itr lo n).go i H2 ∧ ∃ N : Hp → Prop, (∀ H', N H' → ∃ m', m' < m ∧ W (i + 1) m' H') ∧ ∀ x H3, (Itr lo n).yld i H2 x H3 → g x σ H3 fun σ2 H4 => Ext σ σ2 ∧ tt σ2 H4 fun b H5 =>
        if b = true then te σ2 H5 fun y H6 => ∃ zs, H6 acc = some (.lst zs) ∧ zs.length < sizeLine ∧ N (upd H6 acc (.lst (zs ++ [y])))
        else N H5) := by
  refine ⟨fun i m H => m = n - i ∧ i ≤ n ∧ Pv i H, ⟨n, by simp, Nat.zero_le _, h0⟩, ?_⟩
  rintro i m H2 ⟨rfl, hi, p⟩
  by_cases hlt : i < n
  · refine .inr ⟨hlt, Pv (i + 1), fun H' p' => ⟨n - (i + 1), by omega, rfl, hlt, p'⟩, fun x H' y => ?_⟩
    obtain ⟨e, y⟩ := y
    subst e y
    exact hs i _ hlt p
  · have e : i = n := by omega
    subst e
    exact .inl ⟨Nat.le_refl _, hd H2 p⟩
def compCk (sc : Scope) (env : Env) (XN N : List Str) (cap : List (Option Nat)) : Bool :=
  (sc.kind == .function) && (sc.names.all fun y => y.2 != .cell) && (sc.names.all fun y => y.2 != .local || sc.names.lookup y.1 == some .local) &&
  (sc.names.all fun y => y.2 != .free || env.kindOf y.1 == some .cell) &&
  ((List.range cap.length).all fun i => match cap[i]? with
    | some (some j) => (match N[i]? with | some x => XN[j]? == some x && sc.names.lookup x == some .free | none => false)
    | _ => true) && (cap.length == N.length)
theorem pe_compB {X : Cx} {elt tg iter : Expr} {ifs : List Expr} {sc : Scope} {pos : Pos} {wi : TI} {g : TG} {tt : TT} {te : TE} (N : List Str) (cap : List (Option Nat)) (hc : X.calm = true) (hi : PI X tg iter wi)
    (hg : ∀ cl s H C ex, PG (X.block sc cl N s H C ex) tg g) (ht : ∀ cl s H C ex, PTs (X.block sc cl N s H C ex) ifs tt) (he : ∀ cl s H C ex, PE (X.block sc cl N s H C ex) elt te)
    (ck : compCk sc X.env X.N N cap = true) (hs : ∀ x, foldedSetIterable iter X.env x = pure x := by intro _; rfl) : PE X (.ListComp elt [⟨tg, iter, ifs, 0⟩] sc pos) (tComp cap wi g tt te) := by
  unfold compCk at ck
  simp only [Bool.and_eq_true] at ck
  obtain ⟨⟨⟨⟨⟨k1, k2⟩, k3⟩, k4⟩, k5⟩, k6⟩ := ck
  refine pe_comp N cap hc hi hg ht he (by simpa using k1) (fun y hy => ?_) (fun y hy z => ?_) (fun n hn => ?_) (fun i j e => ?_) (by simpa using k6) hs
  · have := List.all_eq_true.mp k2 y hy
    simpa using this
  · have := List.all_eq_true.mp k3 y hy
    rw [z] at this
    simpa using this
  · have := List.all_eq_true.mp k4 _ hn
    simpa using this
  · have hi : i < cap.length := (List.getElem?_eq_some_iff.mp e).1
    have := List.all_eq_true.mp k5 i (List.mem_range.mpr hi)
    rw [e] at this
    dsimp only at this
    cases q : N[i]? with
    | none => rw [q] at this; cases this
    | some x =>
      rw [q] at this
      dsimp only at this
      rw [Bool.and_eq_true] at this
      exact ⟨x, rfl, by simpa using this.1, by simpa using this.2⟩
end L2
set_option Elab.async false
set_option linter.all false
set_option maxRecDepth 100000
set_option maxHeartbeats 4000000
namespace L2
open PySem PySem.Spec PyProof.Rows
section
variable {prog : Program} {w : World} {A : Around} {E : Value → Shared → Prop} {s : Shared}
theorem next_tup_item {it t : Addr} {i : Nat} {items : Array Value} {x : Value} {Q : Value → Shared → Prop} (hit : s.heap.IsTupleIter it t i) (ht : s.heap.IsTuple t items) (hx : items[i]? = some x)
    (hQ : ∀ h', h'.IsTupleIter it t (i + 1) → Heap.SameBut it s.heap h' → Q x { s with heap := h' }) : wpAny (model prog w) A (Builtin.SmallTypes.nextOf (.ref it)) Q E s := by
  obtain ⟨o, ho, hc, hd⟩ := id hit; obtain ⟨ol, hol, _, nl, hdl⟩ := ht; unfold Builtin.SmallTypes.nextOf
  refine wpAny_bind (wpAny_callSpecial?_slot (name := Str.ofString "__next__") hit.typeIs F.slot_tuple_iterator_next (wpAny_call_entry F.slot_tuple_iterator_next hit.typeIs F.entry_tuple_iterator_next ?_ (F.args_tuple_iterator_next_1 _)))
  show wpAny _ _ (field (.ref it) 0 >>= _) _ _ s; refine wpAny_bind (wpAny_field ho hd (x := .ref t) rfl ?_)
  show wpAny _ _ (if (Value.ref t == Value.none) = true then _ else _) _ _ s; rw [if_neg (show ¬ ((Value.ref t == Value.none) = true) from Bool.false_ne_true)]
  show wpAny _ _ (field (.ref it) 1 >>= _) _ _ s; refine wpAny_bind (wpAny_field ho hd (x := .int i 0) rfl ?_)
  show wpAny _ _ (seqItems? (.ref t) >>= _) _ _ s; refine wpAny_bind (wpAny_seqItems hol hdl ?_); simp only [Int.toNat_natCast, hx]
  refine wpAny_bind (wpAny_setField ho hd (by simp) (wpAny_pure ⟨x, rfl, wpAny_pure (hQ _ ?_ (Heap.SameBut.update ..))⟩))
  exact ⟨_, Heap.get?_update_self _ ho (Obj.isFreed_of_fields (Obj.data_mapFields hd _)), (Obj.cls_mapFields ..).trans hc, by rw [Obj.data_mapFields hd]; simp [rawInt]⟩
theorem next_tup_end {it t : Addr} {i : Nat} {items : Array Value} {Q : Value → Shared → Prop} (hh : A.handled = none) (hit : s.heap.IsTupleIter it t i) (ht : s.heap.IsTuple t items) (hx : items[i]? = none)
    (hE : ∀ h' e, Heap.ExtBut it s.heap h' → (∃ o, h'.get? e = some o ∧ o.cls = .type "StopIteration") → E (.ref e) { s with heap := h' }) : wpAny (model prog w) A (Builtin.SmallTypes.nextOf (.ref it)) Q E s := by
  obtain ⟨o, ho, hc, hd⟩ := id hit; obtain ⟨ol, hol, _, nl, hdl⟩ := ht; unfold Builtin.SmallTypes.nextOf
  refine wpAny_bind (wpAny_callSpecial?_slot (name := Str.ofString "__next__") hit.typeIs F.slot_tuple_iterator_next (wpAny_call_entry F.slot_tuple_iterator_next hit.typeIs F.entry_tuple_iterator_next ?_ (F.args_tuple_iterator_next_1 _)))
  show wpAny _ _ (field (.ref it) 0 >>= _) _ _ s; refine wpAny_bind (wpAny_field ho hd (x := .ref t) rfl ?_)
  show wpAny _ _ (if (Value.ref t == Value.none) = true then _ else _) _ _ s; rw [if_neg (show ¬ ((Value.ref t == Value.none) = true) from Bool.false_ne_true)]
  show wpAny _ _ (field (.ref it) 1 >>= _) _ _ s; refine wpAny_bind (wpAny_field ho hd (x := .int i 0) rfl ?_)
  show wpAny _ _ (seqItems? (.ref t) >>= _) _ _ s; refine wpAny_bind (wpAny_seqItems hol hdl ?_); simp only [Int.toNat_natCast, hx]
  refine wpAny_bind (wpAny_rule (wpAny_bind (wpAny_setField ho hd (by simp) ?_))); show wpAny _ _ (newExc (.type "StopIteration") [] >>= _) _ _ _
  refine wpAny_bind ?_; simp only [newExc, newTuple]; refine wpAny_bind (wpAny_newObj_type ?_ (by size_fits))
  refine wpAny_bind (m := firstArgMember _ _) (wpAny_of_eq (a := Value.none) (by first | rfl | (simp only [firstArgMember]; rfl)) ?_); refine wpAny_newObj_type ?_ (by size_fits)
  simp only [raiseNew]; refine wpAny_bind (wpAny_handled ?_); first | rw [show A.in1.handled = none from hh] | rw [hh]
  refine wpAny_bind (wpAny_pure (wpAny_throw ?_)); exact hE _ _ (((Heap.SameBut.update ..).extBut.push _).push _) ⟨_, Heap.get?_push_size _ rfl, rfl⟩
theorem draws_tuple {prog : Program} {w : World} {A : Around} (hh : A.handled = none) (it t : Addr) (hne : t ≠ it) (items : Array Value) :
    Draws prog w A it [it, t] items.size (fun i v => items[i]? = some v) (fun i h => h.IsTupleIter it t i ∧ h.IsTuple t items) where
  live := fun _ _ st => let ⟨o, ho, _⟩ := st.1; ⟨o, ho⟩
  frame := fun _ _ _ st hk => ⟨let ⟨o, ho, r⟩ := st.1; ⟨o, hk it (by simp) o ho, r⟩, let ⟨o, ho, r⟩ := st.2; ⟨o, hk t (by simp) o ho, r⟩⟩
  item := fun i s Q E hi st hQ => next_tup_item st.1 st.2 (x := items[i]) (by simp [hi]) fun h' hit' hs' => hQ _ h' s.toks (by simp [hi]) ⟨hit', let ⟨o, ho, r⟩ := st.2; ⟨o, hs'.extBut t o hne ho, r⟩⟩ hs'
  done := fun s Q E st hE => next_tup_end hh st.1 st.2 (by simp) hE
theorem meets_enum_tup (l : Addr) (items : Array Value) (n : Nat) (dct : Option Addr) (sl : Array (Option Value)) :
    Meets (Builtin.«enumerate.__new__» ⟨[.type "enumerate", .ref l], []⟩) (fun _ R s => s.heap.get? l = some { cls := .type "tuple", dict := dct, data := .seq items n, slots := sl } ∧
      R (.ok (.ret (.ref (s.heap.push { cls := .type "tuple_iterator", data := .fields #[.ref l, .int 0 0] }).objs.size)))
        { s with heap := (s.heap.push { cls := .type "tuple_iterator", data := .fields #[.ref l, .int 0 0] }).push { cls := .type "enumerate", data := .fields #[.none, .bool false, .ref s.heap.objs.size, rawInt 0, .none, .none] } }) :=
  .of_wp fun prog w A R s h => by
    obtain ⟨hp, g, d, tk, os⟩ := s; obtain ⟨hl, h⟩ := h; have hsub := sub_enumerate
    have hL : Heap.IsTuple (Shared.heap ⟨hp, g, d, tk, os⟩) l items := ⟨_, hl, rfl, n, rfl⟩
    wp_walk using AutoSeq1.wpAny_loadPart' hl
    refine wpAny_stack_any fun st => wpAny_pure ?_; split
    · rename_i c _ _ _ _ _; cases (c == Value.type "enumerate")
      · wp_walk using AutoSeq1.wpAny_loadPart' hl, wpAny_pyIter_tuple hL; exact ⟨_, rfl, h⟩
      · wp_walk using AutoSeq1.wpAny_loadPart' hl, wpAny_pyIter_tuple hL; exact ⟨_, rfl, h⟩
    · wp_walk using AutoSeq1.wpAny_loadPart' hl, wpAny_pyIter_tuple hL; exact ⟨_, rfl, h⟩
theorem call_enum_tup {l : Addr} {items : Array Value} {Q : Value → Shared → Prop} (hL : s.heap.IsTuple l items)
    (h : ∀ h', IsEnum h' (s.heap.objs.size + 1) s.heap.objs.size 0 .none → h'.IsTupleIter s.heap.objs.size l 0 → h'.objs.size = s.heap.objs.size + 2 →
      (∀ b o, s.heap.get? b = some o → h'.get? b = some o) → Q (.ref (s.heap.objs.size + 1)) { s with heap := h' }) : wpAny (model prog w) A (call (.type "enumerate") [.ref l]) Q E s := by
  obtain ⟨⟨c, dct, dt, sl⟩, hl, hc, n, hd⟩ := hL; replace hc : c = .type "tuple" := hc; replace hd : dt = .seq items n := hd; subst hc hd
  refine callType_new F.called_enumerate (by decide) (F.typeCall_enumerate_1 _) (F.newCall_enumerate_1 _) (fun obj => F.args_object_init_2 obj _) F.entry_enumerate_new (meets_enum_tup l items n dct sl) ⟨hl, ?_⟩
  have hz : (s.heap.push { cls := .type "tuple_iterator", data := .fields #[.ref l, .int 0 0] }).objs.size = s.heap.objs.size + 1 := Heap.size_push ..
  show _ ∧ _
  rw [hz]
  have he : IsEnum ((s.heap.push { cls := .type "tuple_iterator", data := .fields #[.ref l, .int 0 0] }).push { cls := .type "enumerate", data := .fields #[.none, .bool false, .ref s.heap.objs.size, rawInt 0, .none, .none] }) (s.heap.objs.size + 1) s.heap.objs.size 0 .none := by
    have := Heap.get?_push_size (s.heap.push { cls := .type "tuple_iterator", data := .fields #[.ref l, .int 0 0] }) (o := { cls := .type "enumerate", data := .fields #[.none, .bool false, .ref s.heap.objs.size, rawInt 0, .none, .none] }) rfl
    rw [hz] at this; exact this
  exact ⟨⟨_, he, rfl⟩, h _ he ⟨_, Heap.get?_push_of_some _ (Heap.get?_push_size _ rfl), rfl, rfl⟩ (by rw [Heap.size_push, hz]) fun b o x => Heap.get?_push_of_some _ (Heap.get?_push_of_some _ x)⟩
end
section
variable {X : Cx} {pins : List (Addr × Obj)} {σ : St} {H : Hp} {s : Shared} {h' : Heap}
theorem Inv.turnedN {t' : Nat} {ch : List Addr} (I : Inv X pins σ H s) (k : ∀ b o, b ∉ ch → s.heap.get? b = some o → h'.get? b = some o) (hf : ∀ b ∈ ch, FpOk X pins H b) : Inv X pins σ H { s with heap := h', toks := t' } := by
  refine I.step (g' := s.gens) (d' := s.drawn) (ch := ch) (fun b hb => ?_) (fun b o _ _ hc e _ => k b o hc e) (fun b o _ _ hc e _ => ⟨o.slots, k b o hc e⟩) (fun _ _ _ _ n => n)
    (fun b o hc e => ⟨o, k b o hc e⟩) (fun _ _ e => e) (fun _ _ _ e => e) (fun b ps e => ⟨#[], by rw [e]; simp⟩) (fun m hm => ?_) (fun b u e => ?_) I.bare
  · obtain ⟨f0, f1, f2, f3, f4, f5⟩ := hf b hb
    exact ⟨f3, f1, f4, f5⟩
  · obtain ⟨o, es, ep, ho, r⟩ := hm
    exact ⟨o, es, ep, k _ o (fun z => (hf _ z).2.1 rfl) ho, r⟩
  · refine (I.hok b u e).stay (fun c v hc q => k c v (fun z => ?_) q) (fun _ q => q) fun _ _ q => q
    have n := (hf c z).1
    rcases hc with y | y
    · rw [y, e] at n; cases n
    · rw [y] at n; cases n
theorem Inv.turnedL {t' : Nat} {ch : List Addr} {a : Addr} {o : HO} (I : Inv X pins σ H s) (k : ∀ b o, b ∉ ch → s.heap.get? b = some o → h'.get? b = some o) (hf : ∀ b ∈ ch, FpOk X pins H b) (hp : s.heap.objs.size ≤ a)
    (new : ObjOk X.prog X.w (upd H a o) h' a o) : Inv X pins σ (upd H a o) { s with heap := h', toks := t' } := by
  have hn : H a = none := I.hok.fresh hp
  have ne : ∀ b u, s.heap.get? b = some u → b ≠ a := fun b u e => Nat.ne_of_lt (Nat.lt_of_lt_of_le (Heap.lt_size e) hp)
  refine I.step (g' := s.gens) (d' := s.drawn) (ch := ch) (fun b hb => ?_) (fun b o _ _ hc e _ => k b o hc e) (fun b o _ _ hc e _ => ⟨o.slots, k b o hc e⟩) (fun b u _ e n => by rw [upd_ne (ne b u e)]; exact n)
    (fun b o hc e => ⟨o, k b o hc e⟩) (fun b xs q => by rw [upd_ne (ne_of_none q hn)]; exact q) (fun b u xs q => by rw [upd_ne (ne_of_none q hn)]; exact q) (fun b ps q => ⟨#[], by rw [upd_ne (ne_of_none q hn), q]; simp⟩) (fun m hm => ?_) (fun b u e => ?_) I.bare
  · obtain ⟨f0, f1, f2, f3, f4, f5⟩ := hf b hb
    exact ⟨f3, f1, f4, f5⟩
  · obtain ⟨o, es, ep, ho, r⟩ := hm
    exact ⟨o, es, ep, k _ o (fun z => (hf _ z).2.1 rfl) ho, r⟩
  · by_cases hb : b = a
    · subst hb
      rw [upd_same] at e
      cases e
      exact new
    · rw [upd_ne hb] at e
      refine (I.hok b u e).stay (fun c v hc q => k c v (fun z => ?_) q) (fun c q => by rw [upd_ne (ne_of_none q hn)]; exact q) fun c xs q => by rw [upd_ne (ne_of_none q hn)]; exact q
      have n := (hf c z).1
      rcases hc with y | y
      · rw [y, e] at n; cases n
      · rw [y] at n; cases n
end
def Ite (K : PySem.W.Frag) (a : Addr) : It :=
  ⟨fun i H => ∃ xs x, SqT K H a xs ∧ xs[i]? = some x, fun i H x H' => ∃ T y, H T = none ∧ x = .ref T ∧ H' = upd H T (.tup [.int i, y]) ∧ ∀ xs, SqT K H a xs → xs[i]? = some y, fun i H => ∃ xs, SqT K H a xs ∧ xs.length ≤ i⟩
theorem turn_enum {P : Program} {w : World} {K : PySem.W.Frag} {es : List Expr} {k : Nat} {pos : Pos} (a e it : Addr) (hei : e ≠ it) :
    Turn P w K (.Tuple es k pos) (Ite K a) [e, it] e (fun i h => (∃ old, IsEnum h e it i old) ∧ h.IsTupleIter it a i) where
  mem := by simp
  obj := fun i h st b hb => by
    obtain ⟨⟨old, z⟩, o, e', c, d⟩ := st
    rcases List.mem_cons.mp hb with y | y
    · subst y; exact ⟨_, z, fun v q => by have q' : Data.fields _ = Data.cell v := q; cases q'⟩
    · cases List.mem_singleton.mp y
      exact ⟨o, e', fun v q => by rw [d] at q; cases q⟩
  keep := fun i h h' st k => by
    obtain ⟨⟨old, z⟩, o, e', r⟩ := st
    exact ⟨⟨old, k e (by simp) _ z⟩, o, k it (by simp) o e', r⟩
  item := by
    intro X hP hw hK hc i pins s σ H E I hf st hg
    subst hP hw hK
    obtain ⟨xs, x, hq, hx⟩ := hg
    obtain ⟨its, rv, p, hz⟩ := I.tuple hq
    obtain ⟨u, hu, ru⟩ := rv.get hx
    obtain ⟨⟨old, he⟩, hit⟩ := st
    have p' : s.heap.IsTuple a its.toArray := p
    have hai : a ≠ it := fun z => by
      obtain ⟨o1, q1, c1, _⟩ := p'
      obtain ⟨o2, q2, c2, _⟩ := hit
      rw [z, q2] at q1; cases q1; rw [c2] at c1; injection c1 with c3; exact absurd c3 (by decide)
    have hae : a ≠ e := fun z => by
      obtain ⟨o1, q1, c1, _⟩ := p'
      rw [z] at q1
      have he' : s.heap.get? e = some _ := he
      rw [he'] at q1; cases q1; injection c1 with c3; exact absurd c3 (by decide)
    have hilt : i < its.toArray.size := by
      have := (List.getElem?_eq_some_iff.mp hu).1
      simpa using this
    refine wpAny_pyNext_enum_itemD (draws_tuple (A := X.A.in1) (I.ok.hd hc) it a hai its.toArray) he ⟨hit, p'⟩ hilt hei (by simp [hei, Ne.symm hae]) fun y h1 tk hy ho hst hT hsz hk => ?_
    have hyu : y = u := by
      have : (its.toArray)[i]? = some u := by simpa using hu
      rw [hy] at this; exact Option.some.inj this
    subst hyu
    refine ⟨_, rfl, ?_⟩
    have hn : H s.heap.objs.size = none := I.fresh
    have I1 : Inv X pins σ (upd H s.heap.objs.size (.tup [.int i, x])) { s with heap := h1, toks := tk + 1 } := I.turnedL (ch := [e, it]) (fun b o hb q => hk b o (fun z => hb (by simp [z])) (fun z => hb (by simp [z])) q) hf (Nat.le_refl _)
      ⟨Nat.le_of_lt (small1000 (show 2 ≤ 1000 by decide)), [.int i tk, y], .cons ⟨_, rfl⟩ (.cons ru .nil), _, hT, rfl, _, rfl⟩
    have neT : ∀ b ∈ [e, it], b ≠ s.heap.objs.size := fun b hb => by
      rcases List.mem_cons.mp hb with z | z
      · subst z; exact Nat.ne_of_lt (Heap.lt_size (show s.heap.get? b = some _ from he))
      · cases List.mem_singleton.mp z
        obtain ⟨o2, q2, _⟩ := hit
        exact Nat.ne_of_lt (Heap.lt_size q2)
    refine wpAny_letOwnedTupleGo_enum (s := { s with heap := h1, toks := tk + 1 }) ho fun h2 he2 hs2 => ⟨.ref s.heap.objs.size, _, ?_, rfl, ⟨_, x, hn, rfl, rfl, fun ys hy' => by rw [I.tuple_inj hy' hq]; exact hx⟩, ⟨⟨_, he2⟩, ?_⟩, fun b hb => ?_⟩
    · refine I1.turnedN (t' := tk + 1) (ch := [e]) (fun b o hb q => (hs2.2 b (fun z => hb (by simp [z]))).trans q) fun b hb => ?_
      have eb := List.mem_singleton.mp hb
      subst eb
      obtain ⟨f0, f⟩ := hf b (by simp)
      exact ⟨by rw [upd_ne (neT b (by simp))]; exact f0, f⟩
    · obtain ⟨o2, q2, r2⟩ := hst.1
      exact ⟨o2, (hs2.2 it hei.symm).trans q2, r2⟩
    · rw [upd_ne (neT b hb)]; exact (hf b hb).1
  done := by
    intro X hP hw hK hc i pins s σ H E I hf st hg
    subst hP hw hK
    obtain ⟨xs, hq, hx⟩ := hg
    obtain ⟨its, rv, p, hz⟩ := I.tuple hq
    obtain ⟨⟨old, he⟩, hit⟩ := st
    have p' : s.heap.IsTuple a its.toArray := p
    have hai : a ≠ it := fun z => by
      obtain ⟨o1, q1, c1, _⟩ := p'
      obtain ⟨o2, q2, c2, _⟩ := hit
      rw [z, q2] at q1; cases q1; rw [c2] at c1; injection c1 with c3; exact absurd c3 (by decide)
    have hl := rv.length
    have hT : s.TypeIs (.ref e) "enumerate" := ⟨_, he, rfl⟩
    unfold pyNext
    refine wpAny_bind (wpAny_attempt (wpAny_callSpecial?_slot (name := Str.ofString "__next__") hT F.slot_enumerate_next (wpAny_call_entry F.slot_enumerate_next hT F.entry_enumerate_next ?_ (F.args_enumerate_next_1 _))))
    show wpAny _ _ (field (.ref e) 2 >>= _) _ _ _
    refine wpAny_bind (wpAny_field he rfl (x := .ref it) rfl ?_)
    refine wpAny_bind (next_tup_end (I.ok.hd hc) hit p' (by simp; omega) fun h1 x hx1 ⟨o, ho, hc'⟩ => ?_)
    refine wpAny_bind (wpAny_isInstance (T := "StopIteration") (b := true) ⟨o, ho, hc'⟩ isSubtype_stop ?_)
    exact wpAny_pure ⟨rfl, I.turnedN (t' := s.toks) (ch := [it]) (fun b o hb q => hx1 b o (fun z => hb (by simp [z])) q) fun b hb => hf b (by simp at hb ⊢; exact .inr hb)⟩
  self := fun _ _ _ _ _ st h => let ⟨⟨_, he⟩, _⟩ := st; wpAny_pyIter_enum he h
def iEnum (K : PySem.W.Frag) (ta : TA) : TI := fun σ H R => ta σ H fun vs H1 => ∃ a, vs = [.ref a] ∧ (∃ xs, SqT K H1 a xs) ∧ R (Ite K a) H1
theorem pi_enum {X : Cx} {es : List Expr} {k : Nat} {tpos : Pos} {a : Expr} {ta : TA} {p pos : Pos} (hg : Gl X "enumerate") (hm : X.mg "enumerate" = none) (ha : PA X [a] ta) (hs : starEach [a] X.env = [(false, eval a X.env)] := by rfl) :
    PI X (.Tuple es k tpos) (.Call (.Name "enumerate" p) [a] [] pos) (iEnum X.K ta) := by
  intro pins s σ H R I h
  refine Call_ (ld_blt I hg hm boot_enumerate (PyProof.Rows.callWith_type1 (thn (ha pos pins s σ H _ I h) fun us s1 ⟨vs, H1, I1, r1, q1⟩ => ?_) hs rfl))
  obtain ⟨b, e, ⟨xs, hq⟩, q⟩ := q1
  subst e
  obtain ⟨u, rfl, ru⟩ := vals1 r1
  cases ru
  obtain ⟨its, rv, tp, hz⟩ := I1.tuple hq
  refine call_enum_tup (show s1.heap.IsTuple b its.toArray from tp) fun h' he hit hsz hk => ?_
  refine wpAny_pyIter_enum he ⟨_, [s1.heap.objs.size + 1, s1.heap.objs.size], _, _, H1, rfl, I1.kept (t' := s1.toks) hk, turn_enum b _ _ (Nat.succ_ne_self _), ⟨⟨_, he⟩, hit⟩, fun c hc => ?_, q⟩
  have ge : s1.heap.objs.size ≤ c := by
    rcases List.mem_cons.mp hc with z | z
    · rw [z]; exact Nat.le_succ _
    · rw [List.mem_singleton.mp z]; exact Nat.le_refl _
  exact I1.fpOk ge (I1.hok.fresh ge)
theorem for_enum {K : PySem.W.Frag} {a : Addr} {xs : List V} {g : TG} {tb : TS} {D : Ends} {σ : St} {H : Hp} (Pv : Nat → St → Hp → Prop) (h0 : Pv 0 σ H) (hl : ∀ i σ H, i ≤ xs.length → Pv i σ H → SqT K H a xs)
    (hs : ∀ i x T σ H, xs[i]? = some x → Pv i σ H → H T = none → g (.ref T) σ (upd H T (.tup [.int i, x])) fun σ2 H2 => tb { D with nx := Pv (i + 1), ct := Pv (i + 1), bk := D.nx } σ2 H2) (hd : ∀ σ H, Pv xs.length σ H → D.nx σ H) :
    ∃ W : Nat → Nat → St → Hp → Prop, (∃ m, W 0 m σ H) ∧ ∀ i m σ H, W i m σ H →
      ((Ite K a).stop i H ∧ D.nx σ H) ∨ ((Ite K a).go i H ∧ ∃ N : St → Hp → Prop, (∀ σ' H', N σ' H' → ∃ m', m' < m ∧ W (i + 1) m' σ' H') ∧ ∀ x H', (Ite K a).yld i H x H' → g x σ H' fun σ2 H2 => tb { D with nx := N, ct := N, bk := D.nx } σ2 H2) := by
  refine ⟨fun i m σ H => m = xs.length - i ∧ i ≤ xs.length ∧ Pv i σ H, ⟨xs.length, by simp, Nat.zero_le _, h0⟩, ?_⟩
  rintro i m σ H ⟨rfl, hi, p⟩
  have q := hl i σ H hi p
  by_cases hlt : i < xs.length
  · refine .inr ⟨⟨xs, xs[i], q, by simp [hlt]⟩, Pv (i + 1), fun σ' H' p' => ⟨xs.length - (i + 1), by omega, rfl, hlt, p'⟩, fun x H' y => ?_⟩
    obtain ⟨T, z, hT, ex, eH, y⟩ := y
    subst ex eH
    exact hs i z T σ H (y xs q) p hT
  · have e : i = xs.length := by omega
    subst e
    exact .inl ⟨⟨xs, q, Nat.le_refl _⟩, hd σ H p⟩
end L2
set_option Elab.async false
set_option linter.all false
set_option maxRecDepth 100000
set_option maxHeartbeats 4000000
namespace L2
open PySem PySem.Spec PyProof.Rows
section
variable {X : Cx}
theorem same_upd {H : Hp} {p : Addr} {o : HO} (h : H p = none) : Same H (upd H p o) := fun b u q => by rw [upd_ne (ne_of_none q h)]; exact q
def rIsi (K : PySem.W.Frag) : List V → Hp → VK → Prop := fun xs H Q => ∃ x T t b, xs = [x, .ty T] ∧ TyOf K H x t ∧ PySem.W.kitOne K t (.type T) = some b ∧ Q (.bl b) H
theorem call_isi : CallR X (.builtin "isinstance") (rIsi X.K) := by
  intro pins s σ H xs us Q I r h
  obtain ⟨x, T, t, b, rfl, ty, e, q⟩ := h
  obtain ⟨u, w', rfl, ru, rw'⟩ := vals2 r
  cases rw'
  exact isinst_ok I ru ty e fun tk => ⟨.bl b, H, I.tok tk, rfl, q⟩
def rSlS : V → Option Int → Option Int → Hp → VK → Prop := fun x lo hi H Q => ∃ z, x = .str z ∧ z.length ≤ sizeLine ∧ ((Txt.slice z lo hi).length ≤ z.length → Q (.str (Txt.slice z lo hi)) H)
theorem part_of {v : Value} {o : Option Int} (p : IsPart v o) : ∃ q : Option (Int × Tok), q.map (·.1) = o ∧ v = (match q with | none => Value.none | some (i, t) => .int i t) := by
  cases p with
  | none => exact ⟨none, rfl, rfl⟩
  | int i t => exact ⟨some (i, t), rfl, rfl⟩
theorem sl_str : SlR X rSlS := by
  intro pins s σ H x v vl vu lo hi sl Q I rx hs pl pu h
  obtain ⟨z, rfl, hz, q⟩ := h
  obtain ⟨t, rfl⟩ := rx
  obtain ⟨l, hl, el⟩ := part_of pl
  obtain ⟨u, hu, eu⟩ := part_of pu
  subst hl hu
  refine ⟨"str", _, F.slot_str_getitem.lookup, typeIs_str _ _ _, wpAny_getItem_str_slice (l := l) (u := u) (st := none) ?_ rfl (post_val_or_str ⟨Nat.le_trans (Txt.slice_le z _ _) hz, fun t' k => ⟨.str (Txt.slice z _ _), H, I.kept (fun _ _ e => e), ⟨t', rfl⟩, q (Txt.slice_le z _ _)⟩⟩)⟩
  obtain ⟨o, ho, hc, hd⟩ := hs
  refine ⟨o, ho, hc, ?_⟩
  rw [hd, el, eu]
  cases l <;> cases u <;> rfl
theorem eqV_str (a b : Str) : eqV (.str a) (.str b) = true ↔ a = b := by
  constructor
  · intro h; simpa [eqV] using h
  · intro h; subst h; simp [eqV]
end
end L2
set_option Elab.async false
set_option linter.all false
set_option maxRecDepth 100000
set_option maxHeartbeats 4000000
namespace L2
open PySem PySem.Spec PyProof.Rows
structure FnB (P : Program) (w : World) (K : PySem.W.Frag) (mg : Str → Option Value) (base : Heap) (k : Nat) (x : Str) (f : Addr) (fd : FuncData) (ps : List Str) (sp : Sp) : Prop where
  ok : FnOk P w K mg base CX0 k f fd ps sp
  bd : Binds K fd ps []
  kp : PySem.W.keepIn K (.ref f) = true
  gl : mg x = some (.ref f)
theorem FnB.up {P : Program} {w : World} {K : PySem.W.Frag} {mg : Str → Option Value} {base : Heap} {j k : Nat} {x : Str} {f : Addr} {fd : FuncData} {ps : List Str} {sp : Sp} (F : FnB P w K mg base j x f fd ps sp) (h : j ≤ k) : FnB P w K mg base k x f fd ps sp :=
  ⟨F.ok.mono h, F.bd, F.kp, F.gl⟩
def Tk (H H' : Hp) : Prop := ∀ b xs, H b = some (.tup xs) → H' b = some (.tup xs)
theorem Tk.refl (H : Hp) : Tk H H := fun _ _ h => h
theorem Tk.trans {H H1 H2 : Hp} (a : Tk H H1) (b : Tk H1 H2) : Tk H H2 := fun c xs h => b c xs (a c xs h)
theorem Same.tk {H H' : Hp} (h : Same H H') : Tk H H' := fun b xs e => h b _ e
theorem Tk.lst {H : Hp} {p : Addr} {xs : List V} {o : HO} (h : H p = some (.lst xs)) : Tk H (upd H p o) := fun b ys e => by
  rw [upd_ne (fun z => by subst z; rw [h] at e; cases e)]; exact e
section
variable {X : Cx}
def rCatV : R2 := fun x y H Q => ∃ a b xs ys, x = .ref a ∧ y = .ref b ∧ H a = some (.tup xs) ∧ H b = some (.tup ys) ∧ xs.length + ys.length ≤ sizeLine ∧
  ∀ p H', Same H H' → H' p = some (.tup (xs ++ ys)) → Q (.ref p) H'
theorem op_catV : OpR X (binaryOp .Add) rCatV := by
  intro pins s σ H x y v u Q I rx ry h
  obtain ⟨a, b, xs, ys, rfl, rfl, ha, hb, hz, q⟩ := h
  by_cases hx : xs = []
  · subst hx
    cases rx
    cases ry
    obtain ⟨its, r1, p1, _⟩ := I.tuple (SqT.of ha)
    obtain ⟨its2, r2, p2, _⟩ := I.tuple (SqT.of hb)
    have e0 : its = [] := r1.nil_iff.mpr rfl
    subst e0
    obtain ⟨⟨cls, dd, data, sl⟩, ho, hc, n, hd⟩ := id p1
    obtain ⟨⟨cls2, dd2, data2, sl2⟩, ho2, hc2, n2, hd2⟩ := id p2
    simp only at hc hd hc2 hd2
    subst hc hd hc2 hd2
    exact concat_meets ⟨_, ho, rfl⟩ ⟨_, ho2, rfl⟩ noFill_tuple_add seq_tuple_add PySem.F.slot_tuple_add PySem.F.entry_tuple_add (PySem.F.args_tuple_add_2 _ _) (tuple_addW0 a b _ _ n n2 dd dd2 sl sl2 rfl) ⟨ho, ho2, ⟨.ref b, H, I, rfl, q b H (.refl H) hb⟩⟩
  · refine op_catT pins s σ H (.ref a) (.ref b) v u Q I rx ry ⟨a, b, xs, ys, rfl, rfl, SqT.of ha, SqT.of hb, hx, hz, fun e => ?_, fun e p hp => ?_⟩
    · subst e
      exact q a H (.refl H) (by rw [List.append_nil]; exact ha)
    · exact q p _ (same_upd hp) upd_same
def rSlV : V → Option Int → Option Int → Hp → VK → Prop := fun x lo hi H Q => ∃ a xs, x = .ref a ∧ H a = some (.tup xs) ∧
  ¬ (HT.sIx xs.length 0 lo = 0 ∧ HT.sIx xs.length xs.length hi = xs.length) ∧ ∀ p H', Same H H' → H' p = some (.tup (cutV xs lo hi)) → Q (.ref p) H'
theorem sl_tupV : SlR X rSlV := by
  intro pins s σ H x v vl vu lo hi sl Q I rx hs pl pu h
  obtain ⟨a, xs, rfl, ha, hw, q⟩ := h
  exact sl_tup pins s σ H (.ref a) v vl vu lo hi sl Q I rx hs pl pu ⟨a, xs, rfl, SqT.of ha, hw, fun p hp => q p _ (same_upd hp) upd_same⟩
end
inductive Atom where
  | name (x : Str) | num (n : Int) | gap (g : Str)
inductive Bin where
  | add | sub | mul | thn
def Bin.s : Bin → Str
  | .add => "add" | .sub => "sub" | .mul => "mul" | .thn => "then"
inductive Tr where
  | num (n : Int) | name (x : Str) | ask (x : Str) | stop (x : Str) | gap (g : Str) (as : List Atom)
  | say (a : Tr) | bin (o : Bin) (a b : Tr) | ite (a b c : Tr) | lett (x : Str) (a b : Tr)
def AtRep (H : Hp) : Atom → V → Prop
  | .name x, v => ∃ a, v = .ref a ∧ H a = some (.tup [.str "name", .str x])
  | .num n, v => ∃ a, v = .ref a ∧ H a = some (.tup [.str "num", .int n])
  | .gap g, v => ∃ a b, v = .ref a ∧ H a = some (.tup [.str "gap", .str g, .ref b]) ∧ H b = some (.tup [])
def Rep (H : Hp) : Tr → V → Prop
  | .num n, v => ∃ a, v = .ref a ∧ H a = some (.tup [.str "num", .int n])
  | .name x, v => ∃ a, v = .ref a ∧ H a = some (.tup [.str "name", .str x])
  | .ask x, v => ∃ a, v = .ref a ∧ H a = some (.tup [.str "ask", .str x])
  | .stop x, v => ∃ a, v = .ref a ∧ H a = some (.tup [.str "stop", .str x])
  | .gap g as, v => ∃ a b us, v = .ref a ∧ H a = some (.tup [.str "gap", .str g, .ref b]) ∧ H b = some (.tup us) ∧ us.length ≤ 1000 ∧ Paired (AtRep H) as us
  | .say t, v => ∃ a u, v = .ref a ∧ H a = some (.tup [.str "say", u]) ∧ Rep H t u
  | .bin o s t, v => ∃ a u w, v = .ref a ∧ H a = some (.tup [.str o.s, u, w]) ∧ Rep H s u ∧ Rep H t w
  | .ite r s t, v => ∃ a u w z, v = .ref a ∧ H a = some (.tup [.str "if", u, w, z]) ∧ Rep H r u ∧ Rep H s w ∧ Rep H t z
  | .lett x s t, v => ∃ a u w, v = .ref a ∧ H a = some (.tup [.str "let", .str x, u, w]) ∧ Rep H s u ∧ Rep H t w
theorem AtRep.mono {H H' : Hp} (k : Tk H H') : ∀ {t : Atom} {v : V}, AtRep H t v → AtRep H' t v
  | .name _, _, ⟨a, e, h⟩ => ⟨a, e, k _ _ h⟩
  | .num _, _, ⟨a, e, h⟩ => ⟨a, e, k _ _ h⟩
  | .gap _, _, ⟨a, b, e, h, h'⟩ => ⟨a, b, e, k _ _ h, k _ _ h'⟩
theorem Rep.mono {H H' : Hp} (k : Tk H H') : ∀ {t : Tr} {v : V}, Rep H t v → Rep H' t v
  | .num _, _, ⟨a, e, h⟩ => ⟨a, e, k _ _ h⟩
  | .name _, _, ⟨a, e, h⟩ => ⟨a, e, k _ _ h⟩
  | .ask _, _, ⟨a, e, h⟩ => ⟨a, e, k _ _ h⟩
  | .stop _, _, ⟨a, e, h⟩ => ⟨a, e, k _ _ h⟩
  | .gap _ _, _, ⟨a, b, us, e, h, h', n, p⟩ => ⟨a, b, us, e, k _ _ h, k _ _ h', n, Paired.mapP p fun _ _ z => z.mono k⟩
  | .say _, _, ⟨a, u, e, h, r⟩ => ⟨a, u, e, k _ _ h, r.mono k⟩
  | .bin _ _ _, _, ⟨a, u, w, e, h, r, s⟩ => ⟨a, u, w, e, k _ _ h, r.mono k, s.mono k⟩
  | .ite _ _ _, _, ⟨a, u, w, z, e, h, r, s, t⟩ => ⟨a, u, w, z, e, k _ _ h, r.mono k, s.mono k, t.mono k⟩
  | .lett _ _ _, _, ⟨a, u, w, e, h, r, s⟩ => ⟨a, u, w, e, k _ _ h, r.mono k, s.mono k⟩
inductive Kd where
  | num | name | ask | stop | gap | say | add | sub | mul | thn | ite | lett
  deriving DecidableEq
def Kd.s : Kd → Str
  | .num => "num" | .name => "name" | .ask => "ask" | .stop => "stop" | .gap => "gap"
  | .say => "say" | .add => "add" | .sub => "sub" | .mul => "mul" | .thn => "then" | .ite => "if" | .lett => "let"
def Kd.leaf : Kd → Bool
  | .num => true | .name => true | .ask => true | .stop => true | .gap => true
  | _ => false
theorem Kd.inj {a b : Kd} (h : a.s = b.s) : a = b := by
  revert h
  cases a <;> cases b <;> first | (intro _; rfl) | (intro h; exact absurd h (by decide +kernel))
theorem Kd.eq_iff {a b : Kd} : (V.str a.s = V.str b.s) ↔ a = b := ⟨fun h => Kd.inj (V.str.inj h), fun h => by rw [h]⟩
def Bin.kd : Bin → Kd
  | .add => .add | .sub => .sub | .mul => .mul | .thn => .thn
def Tr.kd : Tr → Kd
  | .num _ => .num | .name _ => .name | .ask _ => .ask | .stop _ => .stop | .gap _ _ => .gap
  | .say _ => .say | .bin o _ _ => o.kd | .ite _ _ _ => .ite | .lett _ _ _ => .lett
def Tr.sign (t : Tr) : Str := t.kd.s
theorem Bin.kd_s (o : Bin) : o.kd.s = o.s := by cases o <;> rfl
def Tr.parts : Tr → List Tr
  | .say a => [a] | .bin _ a b => [a, b] | .ite a b c => [a, b, c] | .lett _ a b => [a, b]
  | _ => []
def Tr.head : Tr → Nat
  | .gap _ _ => 3 | .say _ => 1 | .bin _ _ _ => 1 | .ite _ _ _ => 1
  | _ => 2
theorem Rep.all {H : Hp} : ∀ {t : Tr} {v : V}, Rep H t v → ∃ a hs us, v = .ref a ∧ H a = some (.tup (.str t.sign :: hs ++ us)) ∧ hs.length + 1 = t.head ∧ Paired (Rep H) t.parts us
  | .num n, _, ⟨a, e, h⟩ => ⟨a, [.int n], [], e, h, rfl, .nil⟩
  | .name x, _, ⟨a, e, h⟩ => ⟨a, [.str x], [], e, h, rfl, .nil⟩
  | .ask x, _, ⟨a, e, h⟩ => ⟨a, [.str x], [], e, h, rfl, .nil⟩
  | .stop x, _, ⟨a, e, h⟩ => ⟨a, [.str x], [], e, h, rfl, .nil⟩
  | .gap g _, _, ⟨a, b, us, e, h, h', _, p⟩ => ⟨a, [.str g, .ref b], [], e, h, rfl, .nil⟩
  | .say _, _, ⟨a, u, e, h, r⟩ => ⟨a, [], [u], e, h, rfl, .cons r .nil⟩
  | .bin o _ _, _, ⟨a, u, w, e, h, r, s⟩ => ⟨a, [], [u, w], e, (by show _ = some (HO.tup [V.str o.kd.s, u, w]); rw [Bin.kd_s]; exact h), rfl, .cons r (.cons s .nil)⟩
  | .ite _ _ _, _, ⟨a, u, w, z, e, h, r, s, t⟩ => ⟨a, [], [u, w, z], e, h, rfl, .cons r (.cons s (.cons t .nil))⟩
  | .lett x _ _, _, ⟨a, u, w, e, h, r, s⟩ => ⟨a, [.str x], [u, w], e, h, rfl, .cons r (.cons s .nil)⟩
def Tr.size : Tr → Nat
  | .say a => a.size + 1 | .bin _ a b => a.size + b.size + 1 | .ite a b c => a.size + b.size + c.size + 1 | .lett _ a b => a.size + b.size + 1
  | _ => 1
theorem paired_get {α : Type} {F : α → V → Prop} : ∀ {as : List α} {us : List V} {i : Nat} {u : V}, Paired F as us → us[i]? = some u → ∃ a, as[i]? = some a ∧ F a u
  | _, _, _, _, .nil, e => by simp at e
  | _, _, 0, _, .cons r _, e => by simp at e; subst e; exact ⟨_, rfl, r⟩
  | _, _, i + 1, u, .cons _ t, e => by
    obtain ⟨a, h1, h2⟩ := paired_get (i := i) (u := u) t (by simpa using e)
    exact ⟨a, by simpa using h1, h2⟩
theorem same_set {H H' : Hp} {p : Addr} {o : HO} (g : Same H H') (h : H p = none) : Same H (upd H' p o) := fun b u q => by rw [upd_ne (ne_of_none q h)]; exact g b u q
theorem take_next {α : Type} {as : List α} {i : Nat} {a : α} (h : as[i]? = some a) : as.take (i + 1) = as.take i ++ [a] := by
  rw [List.take_add_one, h]; rfl
def Atom.names : Atom → List Str
  | .name x => [x]
  | _ => []
def Tr.names : Tr → List Str
  | .name x => [x]
  | .gap _ as => as.flatMap Atom.names
  | _ => []
theorem line1000 {n : Nat} (h : n ≤ 1000) : n ≤ sizeLine := Nat.le_of_lt (small1000 h)
def constVs : List Expr → Option (List V)
  | [] => some []
  | .Constant (.str x) _ _ :: r => (constVs r).map fun l => V.str x :: l
  | .Constant (.int i) _ _ :: r => (constVs r).map fun l => V.int i :: l
  | _ => none
def tRow (vs : List V) : TA := fun _ H Q => Q vs H
theorem pa_row {X : Cx} : ∀ {es : List Expr} (vs : List V), constVs es = some vs → PA X es (tRow vs)
  | [], vs, h => by cases h; exact pa_nil
  | .Constant (.str x) j p :: r, vs, h => by
    obtain ⟨l, hl, e⟩ := Option.map_eq_some_iff.mp (show (constVs r).map (fun l => V.str x :: l) = some vs from h)
    subst e
    exact pa_cons pe_str (pa_row l hl)
  | .Constant (.int x) j p :: r, vs, h => by
    obtain ⟨l, hl, e⟩ := Option.map_eq_some_iff.mp (show (constVs r).map (fun l => V.int x :: l) = some vs from h)
    subst e
    exact pa_cons pe_int (pa_row l hl)
def rowT : Expr → Option (List V)
  | .Tuple es _ _ => constVs es
  | _ => none
def rowL : Expr → Option (List V)
  | .List es _ => constVs es
  | _ => none
theorem pe_tupR {X : Cx} {e : Expr} (vs : List V) (h : rowT e = some vs) : PE X e (tTup (tRow vs)) := by
  unfold rowT at h
  split at h
  · exact pe_tup (pa_row vs h)
  · cases h
theorem pe_lstR {X : Cx} {e : Expr} (vs : List V) (h : rowL e = some vs) : PE X e (tLst (tRow vs)) := by
  unfold rowL at h
  split at h
  · exact pe_lst (pa_row vs h)
  · cases h
end L2
set_option Elab.async false
set_option linter.all false
set_option maxRecDepth 100000
set_option maxHeartbeats 4000000
namespace L2
open PySem
abbrev DRow := Str × (Str ⊕ Int)
abbrev En := Str → Int
abbrev Res := List DRow × (Int ⊕ Str)
def askR (x : Str) : DRow := ("ask", .inl x)
def sayR (n : Int) : DRow := ("say", .inr n)
def Bin.op : Bin → Int → Int → Int
  | .add, m, n => (m + n) % 10 ^ 30
  | .sub, m, n => (m - n) % 10 ^ 30
  | .mul, m, n => (m * n) % 10 ^ 30
  | .thn, _, n => n
def En.set (e : En) (x : Str) (n : Int) : En := fun y => if y = x then n else e y
def pre (D : List DRow) (o : Option Res) : Option Res := o.map fun q => (D ++ q.1, q.2)
def seqR (r : Option Res) (k : Int → Option Res) : Option Res := r.bind fun r => match r.2 with
  | .inr w => some (r.1, .inr w)
  | .inl n => pre r.1 (k n)
def ev (a : En) : Tr → En → Option Res
  | .num n, _ => some ([], .inl n)
  | .name x, e => some ([], .inl (e x))
  | .ask x, _ => some ([askR x], .inl (a x))
  | .stop x, _ => some ([], .inr x)
  | .gap _ _, _ => none
  | .say t, e => seqR (ev a t e) fun n => some ([sayR n], .inl n)
  | .bin o s t, e => seqR (ev a s e) fun m => seqR (ev a t e) fun n => some ([], .inl (o.op m n))
  | .ite c s t, e => seqR (ev a c e) fun n => if n = 0 then ev a t e else ev a s e
  | .lett x s t, e => seqR (ev a s e) fun n => ev a t (e.set x n)
def aft (a : En) (t : Tr) (e : En) (E : List Int) : Option (Option Res × List Int) :=
  match t with
  | .say _ => match E with
    | n :: E => some (some ([sayR n], .inl n), E)
    | _ => none
  | .bin .thn _ t => match E with
    | _ :: E => some (ev a t e, E)
    | _ => none
  | .bin o _ _ => match E with
    | n :: m :: E => some (some ([], .inl (o.op m n)), E)
    | _ => none
  | .ite _ s t => match E with
    | n :: E => some (if n = 0 then ev a t e else ev a s e, E)
    | _ => none
  | .lett x _ t => match E with
    | n :: E => some (ev a t (e.set x n), E)
    | _ => none
  | _ => none
abbrev Item := Tr × En × Bool
def cont (a : En) : List Item → List Int → Option Res
  | [], [] => none
  | [], n :: _ => some ([], .inl n)
  | (t, e, false) :: W, E => seqR (ev a t e) fun n => cont a W (n :: E)
  | (t, e, true) :: W, E => (aft a t e E).bind fun p => seqR p.1 fun n => cont a W (n :: p.2)
section
variable {a e : En} {W : List Item} {E : List Int}
end
end L2
set_option Elab.async false
set_option linter.all false
set_option maxRecDepth 100000
set_option maxHeartbeats 4000000
namespace L2
open PySem PySem.Spec PyProof.Rows
section
variable {P : Program} {w : World} {K : PySem.W.Frag} {mg : Str → Option Value} {base : Heap}
end
end L2
set_option Elab.async false
set_option linter.all false
set_option maxRecDepth 100000
set_option maxHeartbeats 4000000
namespace L2
open PySem PySem.Spec PyProof.Rows
section
variable {prog : Program} {w : World} {A : Around} {E : Value → Shared → Prop} {s : Shared}
end
end L2
set_option Elab.async false
set_option linter.all false
set_option maxRecDepth 100000
set_option maxHeartbeats 4000000
namespace L2
open PySem PySem.Spec PyProof.Rows
section
variable {aA dl el wl : Addr}
end
section
variable {C : Addr} {H H' : Hp} {p aA dl el wl : Addr} {ds es ws : List V}
end
theorem paired_append {α : Type} {F : α → V → Prop} : ∀ {as bs : List α} {us vs : List V}, Paired F as us → Paired F bs vs → Paired F (as ++ bs) (us ++ vs)
  | _, _, _, _, .nil, h => h
  | _, _, _, _, .cons r t, h => .cons r (paired_append t h)
section
variable {C : Addr} {H H' : Hp} {p aA dl el wl : Addr} {a : En} {W : List Item} {E : List Int} {D : List DRow}
end
theorem paired_len {α : Type} {F : α → V → Prop} {as : List α} {us : List V} (h : Paired F as us) : us.length = as.length := h.length.symm
end L2
set_option Elab.async false
set_option linter.all false
set_option maxRecDepth 100000
set_option maxHeartbeats 4000000
namespace L2
open PySem PySem.Spec PyProof.Rows
theorem comp_rangeR {lo : Int} {n : Nat} {acc : Addr} {g : TG} {tt : TT} {te : TE} {σ : L2.St} {H : Hp} {R : Hp → Prop} (Pv : Nat → Hp → Prop) (h0 : Pv 0 (upd H acc (.lst [])))
    (hs : ∀ i H, i < n → Pv i H → g (.int (lo + i)) σ H fun σ2 H4 => Ext σ σ2 ∧ tt σ2 H4 fun b H5 =>
      if b = true then te σ2 H5 fun y H6 => ∃ zs, H6 acc = some (.lst zs) ∧ zs.length < sizeLine ∧ Pv (i + 1) (upd H6 acc (.lst (zs ++ [y]))) else Pv (i + 1) H5) (hd : ∀ H, Pv n H → R H) :
    ∃ W : Nat → Nat → Hp → Prop, (∃ m, W 0 m (upd H acc (.lst []))) ∧ ∀ i m H2, W i m H2 →
      ((Itr lo n).stop i H2 ∧ R H2) ∨ ((Itr lo n).go i H2 ∧ ∃ N : Hp → Prop, (∀ H', N H' → ∃ m', m' < m ∧ W (i + 1) m' H') ∧ ∀ x H3, (Itr lo n).yld i H2 x H3 → g x σ H3 fun σ2 H4 => Ext σ σ2 ∧ tt σ2 H4 fun b H5 =>
        if b = true then te σ2 H5 fun y H6 => ∃ zs, H6 acc = some (.lst zs) ∧ zs.length < sizeLine ∧ N (upd H6 acc (.lst (zs ++ [y])))
        else N H5) := comp_range (Q := fun _ H => R H) Pv h0 hs hd
end L2
set_option Elab.async false
set_option linter.all false
set_option maxRecDepth 100000
set_option maxHeartbeats 4000000
namespace L2
open PySem PySem.Spec PyProof.Rows
theorem comp_listR {K : PySem.W.Frag} {a : Addr} {xs : List V} {acc : Addr} {g : TG} {tt : TT} {te : TE} {σ : L2.St} {H : Hp} {R : Hp → Prop} (Pv : Nat → Hp → Prop) (h0 : Pv 0 (upd H acc (.lst []))) (hl : ∀ i H, i ≤ xs.length → Pv i H → SqL K H a xs)
    (hs : ∀ i x H, xs[i]? = some x → Pv i H → g x σ H fun σ2 H4 => Ext σ σ2 ∧ tt σ2 H4 fun b H5 =>
      if b = true then te σ2 H5 fun y H6 => ∃ zs, H6 acc = some (.lst zs) ∧ zs.length < sizeLine ∧ Pv (i + 1) (upd H6 acc (.lst (zs ++ [y]))) else Pv (i + 1) H5) (hd : ∀ H, Pv xs.length H → R H) :
    ∃ W : Nat → Nat → Hp → Prop, (∃ m, W 0 m (upd H acc (.lst []))) ∧ ∀ i m H2, W i m H2 →
      ((Itl K a).stop i H2 ∧ R H2) ∨ ((Itl K a).go i H2 ∧ ∃ N : Hp → Prop, (∀ H', N H' → ∃ m', m' < m ∧ W (i + 1) m' H') ∧ ∀ x H3, (Itl K a).yld i H2 x H3 → g x σ H3 fun σ2 H4 => Ext σ σ2 ∧ tt σ2 H4 fun b H5 =>
        if b = true then te σ2 H5 fun y H6 => ∃ zs, H6 acc = some (.lst zs) ∧ zs.length < sizeLine ∧ N (upd H6 acc (.lst (zs ++ [y])))
        else N H5) := by
  refine ⟨fun i m H => m = xs.length - i ∧ i ≤ xs.length ∧ Pv i H, ⟨xs.length, by simp, Nat.zero_le _, h0⟩, ?_⟩
  rintro i m H2 ⟨rfl, hi, p⟩
  have q := hl i H2 hi p
  by_cases hlt : i < xs.length
  · refine .inr ⟨⟨xs, xs[i], q, by simp [hlt]⟩, Pv (i + 1), fun H' p' => ⟨xs.length - (i + 1), by omega, rfl, hlt, p'⟩, fun x H' y => ?_⟩
    obtain ⟨e, y⟩ := y
    subst e
    exact hs i x _ (y xs q) p
  · have e : i = xs.length := by omega
    subst e
    exact .inl ⟨⟨xs, q, Nat.le_refl _⟩, hd H2 p⟩
end L2
set_option Elab.async false
set_option linter.all false
set_option maxRecDepth 100000
set_option maxHeartbeats 4000000
namespace L2
open PySem PySem.Spec PyProof.Rows
section
variable {prog : Program} {w : World}
open AutoSeq1 (wpAny_loadPart')
open MeetsSeq MeetsSeq2 MeetsSeq3 SeqAt
end
end L2
set_option Elab.async false
set_option linter.all false
set_option maxRecDepth 100000
set_option maxHeartbeats 1000000
namespace L2
open PySem PySem.Spec PyProof.Rows
section
variable {X : Cx}
theorem ps_comp {elt tg iter : Expr} {y : Str} {py spos : Pos} {jj : Nat} {ifs : List Expr} {sc : Scope} {pos : Pos} {wi : TI} {g : TG} {tt : TT} {te : TE} (N : List Str) (cap : List (Option Nat)) (hc : X.calm = true) (hi : PI X tg iter wi)
    (hg : ∀ cl s H C ex, PG (X.block sc cl N s H C ex) tg g) (ht : ∀ cl s H C ex, PTs (X.block sc cl N s H C ex) ifs tt) (he : ∀ cl s H C ex, PE (X.block sc cl N s H C ex) elt te)
    (hk : sc.kind = .function) (nc : ∀ y ∈ sc.names, y.2 ≠ .cell) (hnames : ∀ y ∈ sc.names, y.2 = .local → sc.names.lookup y.1 = some .local)
    (hfree : ∀ n, (n, NameKind.free) ∈ sc.names → X.env.kindOf n = some .cell)
    (hcap : ∀ (i j : Nat), cap[i]? = some (some j) → ∃ x, N[i]? = some x ∧ X.N[j]? = some x ∧ sc.names.lookup x = some .free) (hlen : cap.length = N.length)
    (hN : X.N.Nodup) (hjj : X.N[jj]? = some y) (hxx : Loc X.env.scope y) (hf : X.fn y = true ∨ X.env.scope.names.lookup y = some .local)
    (hsw : swapsWith (.ListComp elt [⟨tg, iter, ifs, 0⟩] sc pos) (some (.Name y py)) spos.line X.env = pure true)
    (hs : ∀ x, foldedSetIterable iter X.env x = pure x := by intro _; rfl) : PS X (.Assign [.Name y py] (.ListComp elt [⟨tg, iter, ifs, 0⟩] sc pos) spos) (tAsg (tComp cap wi g tt te) (gName jj)) := by
  intro pins s σ H D I h
  obtain ⟨cl, hclos, c1, c2⟩ := closure_of (sc := sc) (env := X.env) fun n hn => I.ok.has n (.inl (hfree n hn))
  rw [exec_Assign_Name_used _ _ _ _ hsw]; refine wpAny_bind (wpAny_standAt (wpAny_bind ?_)); show wpAny _ X.A (do let _ ← comprehension (.ListComp elt [⟨tg, iter, ifs, 0⟩] sc pos) sc X.env _ (newList []) false (eval iter X.env) (some (assign (.Name y py) X.env))) _ _ s
  refine wpAny_bind (wpAny_mono (wpAny_comprehension_free (use := some (assign (.Name y py) X.env)) (Q := fun _ s' => SP X pins D .next s') rfl hs hclos hk hnames ?_) (fun _ s' hq => wpAny_pure (wpAny_pure hq)) fun _ _ e => e)
  refine thn (hi pins s σ H _ I h) fun v s1 h1 => thn h1 fun itv s2 h2 => ?_
  obtain ⟨it, fp, tn, J, H2, e, I2, T, st2, f2, q2⟩ := h2
  subst e
  have hfr : H2 s2.heap.objs.size = none := I2.fresh
  obtain ⟨W, ⟨m0, w0⟩, turn⟩ := q2 s2.heap.objs.size hfr
  have I3 := I2.lnew (ys := []) (its := []) (t' := s2.toks) .nil (Nat.zero_le _)
  have hacc : H2 s2.heap.objs.size = none := hfr
  refine wpAny_newObj_type (wpAny_newFunctionEnv nc (by intro y hy; simp at hy) (fun h4 hns hsb => ?_) hk)
  generalize hs3 : ({ s2 with heap := s2.heap.push { cls := .type "list", data := .seq ([] : List Value).toArray } } : Shared) = s3 at hns hsb I3 ⊢
  have hheap : s3.heap = s2.heap.push { cls := .type "list", data := .seq ([] : List Value).toArray } := by rw [← hs3]
  generalize hH3 : upd H2 s2.heap.objs.size (.lst []) = H3 at I3 w0
  have up2 : ∀ b o, s2.heap.get? b = some o → s3.heap.get? b = some o := fun b o q => by rw [hheap]; exact Heap.get?_push_of_some _ q
  have neA : ∀ b ∈ fp, b ≠ s2.heap.objs.size := fun b hb => by
    obtain ⟨o, q, _⟩ := T.obj _ _ st2 b hb
    exact Nat.ne_of_lt (Heap.lt_size q)
  have f3 : ∀ b ∈ fp, FpOk X pins H3 b := fun b hb => ⟨by rw [← hH3, upd_ne (neA b hb)]; exact (f2 b hb).1, (f2 b hb).2⟩
  have o3 : ∀ b ∈ fp, ∃ o, s3.heap.get? b = some o := fun b hb => by
    obtain ⟨o, q, _⟩ := T.obj _ _ st2 b hb
    exact ⟨o, up2 b o q⟩
  have ok' := block_ok (N := N) (C := s3.heap.objs.size) I3 hk nc (Nat.le_refl _) f3 o3 c1 c2
  generalize hC : s3.heap.objs.size = C at hns hsb ok' ⊢
  have ltC : ∀ b o, s3.heap.get? b = some o → b ≠ C := fun b o q => by rw [← hC]; exact Nat.ne_of_lt (Heap.lt_size q)
  have up4 : ∀ b o, s3.heap.get? b = some o → h4.get? b = some o := fun b o q => hsb.extBut b o (ltC b o q) (Heap.get?_push_of_some _ q)
  have st4 : tn 0 h4 := T.keep _ _ _ st2 fun b hb o q => up4 b o (up2 b o q)
  have I4 : Inv (X.block sc cl N s3 H3 C fp) [] (capSt cap σ) H3 { s3 with heap := h4, toks := s3.toks + ([] : List (Str × Value)).length } := by
    refine ⟨ok', rfl, I3.bare, Un.kept up4, ⟨_, hns, fun i x v e1 e2 e3 => ?_⟩, fun x c q => ?_, ?_, fun x c q => I3.freeC x c (c1 x c q), fun p hp => (nomatch hp), I3.hok.kept up4, ?_⟩
    · have ee : ∃ j, cap[i]? = some (some j) ∧ σ[j]? = some (some v) := by
        unfold capSt at e2
        rw [List.getElem?_map] at e2
        cases q : cap[i]? with
        | none => rw [q] at e2; cases e2
        | some o =>
          rw [q] at e2
          cases o with
          | none => cases e2
          | some j =>
            refine ⟨j, rfl, ?_⟩
            have e2' : some ((σ[j]?).join) = some (some v) := e2
            cases z : σ[j]? with
            | none => rw [z] at e2'; cases e2'
            | some o' =>
              rw [z] at e2'
              have e2'' : o' = some v := Option.some.inj e2'
              rw [e2'']
      obtain ⟨j, ej, es⟩ := ee
      obtain ⟨x', n1, n2, n3⟩ := hcap i j ej
      have e1' : N[i]? = some x := e1
      rw [n1] at e1'
      cases e1'
      have hfr' : (x, NameKind.free) ∈ sc.names := lookup_mem n3
      have kc := hfree x hfr'
      obtain ⟨m, _, hl⟩ := I3.loc
      obtain ⟨u, r, l⟩ := hl j x v n2 es (.inr (.inl kc))
      refine ⟨u, r, ?_⟩
      rcases l with ⟨l, _⟩ | ⟨_, c, ec, z⟩
      · rw [kc] at l; cases l
      · obtain ⟨c', ec'⟩ := c2 x hfr'
        have := c1 x c' ec'
        rw [ec] at this
        cases this
        obtain ⟨oc, q1, q2⟩ := z
        exact .inr ⟨lookup_relabel_free (sc := sc) n3, c, ec', oc, up4 _ _ q1, q2⟩
    · obtain ⟨v, oc, q1, q2⟩ := I3.cell x c (c1 x c q)
      exact ⟨v, oc, up4 _ _ q1, q2⟩
    · exact I3.hok.fresh (by rw [hC]; exact Nat.le_refl _)
    · show (capSt cap σ).length = N.length
      unfold capSt
      rw [List.length_map, hlen]
  have loop : codeAny (model X.prog X.w) X.A (.compLoop (.ListComp elt [⟨tg, iter, ifs, 0⟩] sc pos) 0 (.ref it) (.ref s2.heap.objs.size) (compEnvC sc cl C X.env)) (compPost (model X.prog X.w) X.A X.xe (some (assign (.Name y py) X.env)) (fun _ s' => SP X pins D .next s') (.ref s2.heap.objs.size) C)
      { s3 with heap := h4, toks := s3.toks + ([] : List (Str × Value)).length } := by
    have stat : ∀ {H' : Hp}, (∀ b ∈ fp, H' b = none) → ∀ b ∈ fp, FpOk (X.block sc cl N s3 H3 C fp) [] H' b := fun hn b hb =>
      ⟨hn b hb, (ok'.exf b hb).1, ok'.exfs b hb, .inl hb, (ok'.exf b hb).2, fun p hp => (nomatch hp)⟩
    refine comp_loop (fun n s' => ∃ i H', Inv (X.block sc cl N s3 H3 C fp) [] (capSt cap σ) H' s' ∧ tn i s'.heap ∧ (∀ b ∈ fp, H' b = none) ∧ W i n H') ?_ m0 ⟨0, H3, I4, st4, fun b hb => (f3 b hb).1, w0⟩
    rintro n s5 ⟨i, H5, I5, st5, fr5, w5⟩
    rcases turn i n H5 w5 with ⟨stop, qn⟩ | ⟨go, N', hN', step⟩
    · refine thn (T.done (X.block sc cl N s3 H3 C fp) rfl rfl rfl hc i [] s5 _ H5 NoX I5 (stat fr5) st5 stop) fun r s6 ⟨hr, I6⟩ => ?_
      subst hr
      obtain ⟨m, hm, _⟩ := I6.loc
      have I7 : Inv X pins σ H5 s6 := by
        refine I3.call' (s' := s6) (ch := fp) I6.os I6.base I6.hok I6.bare fun b hb => ?_
        obtain ⟨g0, g1, g2, g3, g4, g5⟩ := f3 b hb
        exact ⟨g3, g1, g4, g5⟩
      have hCl : X.env.locals ≠ C := by
        obtain ⟨_, hn3, _⟩ := I3.loc
        rw [← hC]
        exact Nat.ne_of_lt hn3.lt
      have hCc : ∀ x c, X.env.cells.lookup x = some c → c ≠ C := fun x c q => by
        obtain ⟨v, oc, q1, q2⟩ := I3.cell x c q
        exact ltC _ _ q1
      refine wpAny_assign_Name (store_ok2 I7 hN hjj hxx (v := .ref s2.heap.objs.size) rfl (fun s9 I9 ⟨a9, sb9, ha9⟩ => ?_) hf)
      have hCa : a9 ≠ C := by
        rcases ha9 with rfl | z
        · exact hCl
        · exact hCc _ _ z
      refine ⟨m, hm.sameBut sb9 (Ne.symm hCa), fun h' sb => ⟨_, H5, ?_, qn⟩⟩
      refine I9.call' (s' := { s9 with heap := h' }) (ch := [C]) rfl ?_ (I9.hok.but I6.free sb) I9.bare fun b hb => ?_
      · have st : ∀ b o, s9.heap.get? b = some o → b ∉ [C] → h'.get? b = some o := fun b o q hx => (sb.2 b (fun z => hx (by rw [z]; exact List.mem_singleton.mpr rfl))).trans q
        exact ⟨fun b o q _ _ hx => st b o q hx, fun b o q _ _ hx => ⟨o.slots, st b o q hx⟩, fun b o q n _ => n, fun b o q hx => ⟨o, st b o q hx⟩, fun _ _ q => q, fun _ _ _ q => q, fun b ps q => ⟨#[], by simpa using q⟩⟩
      · rw [List.mem_singleton.mp hb]
        exact ⟨.inr (by rw [← hC]; exact I3.sz), Ne.symm hCl, hCc, fun p hp => ltC _ _ (I3.pin p hp).1⟩
    · refine thn (T.item (X.block sc cl N s3 H3 C fp) rfl rfl rfl hc i [] s5 _ H5 NoX I5 (stat fr5) st5 go) fun r s6 ⟨u, hr, h6⟩ => ?_
      subst hr
      refine thn h6 fun _ s7 ⟨x, H7, I7, r7, y7, st7, fr7⟩ => ?_
      have I7' := I7.pinned (stat fr7) (T.obj _ _ st7)
      have again : ∀ {σ8 : St} {H8 : Hp} {s8 : Shared}, Inv (X.block sc cl N s3 H3 C fp) ([] ++ pinsAt fp s7.heap) σ8 H8 s8 → Ext (capSt cap σ) σ8 → N' H8 →
          ∃ m, m < n ∧ ∃ i H', Inv (X.block sc cl N s3 H3 C fp) [] (capSt cap σ) H' s8 ∧ tn i s8.heap ∧ (∀ b ∈ fp, H' b = none) ∧ W i m H' := fun {σ8 H8 s8} I8 ex n8 => by
        obtain ⟨m', hm, w8⟩ := hN' H8 n8
        have I8' := I8.unpinned.weak ex.len ex.get
        refine ⟨m', hm, i + 1, H8, I8', T.keep _ _ _ st7 fun b hb o q => (I8.pin (b, o) (List.mem_append_right _ (List.mem_append_right _ (mem_pinsAt hb q)))).1, fun b hb => ?_, w8⟩
        obtain ⟨o, q, d⟩ := T.obj _ _ st7 b hb
        exact (I8.pin (b, o) (List.mem_append_right _ (List.mem_append_right _ (mem_pinsAt hb q)))).2.1
      refine thn (hg cl s3 H3 C fp _ s7 _ H7 x u _ I7' r7 (step x H7 y7)) fun _ s8 ⟨σ8, H8, I8, ex8, q8⟩ => ?_
      refine thn (ht cl s3 H3 C fp _ s8 σ8 H8 _ I8 q8) fun b s9 ⟨H9, I9, q9⟩ => ?_
      cases b with
      | false => exact again I9 ex8 q9
      | true =>
        rw [if_pos rfl] at q9 ⊢
        refine thn (he cl s3 H3 C fp _ s9 σ8 H9 _ I9 q9) fun yv s10 ⟨y, H10, I10, r10, zs, e10, l10, q10⟩ => ?_
        refine thn (mt_append (X := X.block sc cl N s3 H3 C fp) _ s10 σ8 H10 (.ref s2.heap.objs.size) [y] (.ref s2.heap.objs.size) [yv] (fun _ H' => N' H') I10 rfl (.cons r10 .nil) ⟨_, zs, y, rfl, rfl, e10, l10, q10⟩) fun _ s11 ⟨_, H11, I11, _, q11⟩ => ?_
        exact again I11 ex8 q11
  exact codeAny_compStart_list loop (T.self X.A 0 _ _ _ st4 loop)
theorem ps_compB {elt tg iter : Expr} {y : Str} {py spos : Pos} {jj : Nat} {ifs : List Expr} {sc : Scope} {pos : Pos} {wi : TI} {g : TG} {tt : TT} {te : TE} (N : List Str) (cap : List (Option Nat)) (hc : X.calm = true) (hi : PI X tg iter wi)
    (hg : ∀ cl s H C ex, PG (X.block sc cl N s H C ex) tg g) (ht : ∀ cl s H C ex, PTs (X.block sc cl N s H C ex) ifs tt) (he : ∀ cl s H C ex, PE (X.block sc cl N s H C ex) elt te)
    (ck : compCk sc X.env X.N N cap = true) (hN : X.N.Nodup) (hjj : X.N[jj]? = some y) (hxx : Loc X.env.scope y) (hf : X.fn y = true ∨ X.env.scope.names.lookup y = some .local)
    (hsw : swapsWith (.ListComp elt [⟨tg, iter, ifs, 0⟩] sc pos) (some (.Name y py)) spos.line X.env = pure true := by rfl) (hs : ∀ x, foldedSetIterable iter X.env x = pure x := by intro _; rfl) : PS X (.Assign [.Name y py] (.ListComp elt [⟨tg, iter, ifs, 0⟩] sc pos) spos) (tAsg (tComp cap wi g tt te) (gName jj)) := by
  unfold compCk at ck
  simp only [Bool.and_eq_true] at ck
  obtain ⟨⟨⟨⟨⟨k1, k2⟩, k3⟩, k4⟩, k5⟩, k6⟩ := ck
  refine ps_comp N cap hc hi hg ht he (by simpa using k1) (fun y hy => ?_) (fun y hy z => ?_) (fun n hn => ?_) (fun i j e => ?_) (by simpa using k6) hN hjj hxx hf hsw hs
  · have := List.all_eq_true.mp k2 y hy
    simpa using this
  · have := List.all_eq_true.mp k3 y hy
    rw [z] at this
    simpa using this
  · have := List.all_eq_true.mp k4 _ hn
    simpa using this
  · have hi : i < cap.length := (List.getElem?_eq_some_iff.mp e).1
    have := List.all_eq_true.mp k5 i (List.mem_range.mpr hi)
    rw [e] at this
    dsimp only at this
    cases q : N[i]? with
    | none => rw [q] at this; cases this
    | some x =>
      rw [q] at this
      dsimp only at this
      rw [Bool.and_eq_true] at this
      exact ⟨x, rfl, by simpa using this.1, by simpa using this.2⟩
end
end L2
set_option Elab.async false
set_option linter.all false
set_option maxRecDepth 100000
set_option maxHeartbeats 4000000
namespace L2
open PySem PySem.Spec PyProof.Rows
inductive Dt where
  | int (i : Int) | str (x : Str) | tup (ds : List Dt)
mutual
def Dt.beq : Dt → Dt → Bool
  | .int i, .int j => decide (i = j)
  | .str x, .str y => decide (x = y)
  | .tup ds, .tup es => Dt.beqs ds es
  | _, _ => false
def Dt.beqs : List Dt → List Dt → Bool
  | [], [] => true
  | d :: ds, e :: es => Dt.beq d e && Dt.beqs ds es
  | _, _ => false
end
mutual
theorem Dt.beq_iff : ∀ {d e : Dt}, Dt.beq d e = true ↔ d = e
  | .int i, .int j => by simp [Dt.beq]
  | .str x, .str y => by simp [Dt.beq]
  | .tup ds, .tup es => by
    have := Dt.beqs_iff (ds := ds) (es := es)
    simp [Dt.beq, this]
  | .int _, .str _ => by simp [Dt.beq]
  | .int _, .tup _ => by simp [Dt.beq]
  | .str _, .int _ => by simp [Dt.beq]
  | .str _, .tup _ => by simp [Dt.beq]
  | .tup _, .int _ => by simp [Dt.beq]
  | .tup _, .str _ => by simp [Dt.beq]
theorem Dt.beqs_iff : ∀ {ds es : List Dt}, Dt.beqs ds es = true ↔ ds = es
  | [], [] => by simp [Dt.beqs]
  | [], _ :: _ => by simp [Dt.beqs]
  | _ :: _, [] => by simp [Dt.beqs]
  | d :: ds, e :: es => by
    have h1 := Dt.beq_iff (d := d) (e := e)
    have h2 := Dt.beqs_iff (ds := ds) (es := es)
    simp [Dt.beqs, h1, h2]
end
mutual
def Dt.deep : Dt → Nat
  | .tup ds => Dt.deeps ds + 1
  | _ => 0
def Dt.deeps : List Dt → Nat
  | [] => 0
  | d :: ds => max (Dt.deep d) (Dt.deeps ds)
end
mutual
inductive DR (H : Hp) : Dt → V → Prop
  | int (i : Int) : DR H (.int i) (.int i)
  | str (x : Str) : DR H (.str x) (.str x)
  | tup {a : Addr} {xs : List V} {ds : List Dt} : H a = some (.tup xs) → DRs H ds xs → DR H (.tup ds) (.ref a)
inductive DRs (H : Hp) : List Dt → List V → Prop
  | nil : DRs H [] []
  | cons {d : Dt} {v : V} {ds : List Dt} {vs : List V} : DR H d v → DRs H ds vs → DRs H (d :: ds) (v :: vs)
end
mutual
theorem DR.mono {H H' : Hp} (k : Tk H H') : ∀ {d : Dt} {v : V}, DR H d v → DR H' d v
  | _, _, .int i => .int i
  | _, _, .str x => .str x
  | _, _, .tup h r => .tup (k _ _ h) (DRs.mono k r)
theorem DRs.mono {H H' : Hp} (k : Tk H H') : ∀ {ds : List Dt} {vs : List V}, DRs H ds vs → DRs H' ds vs
  | _, _, .nil => .nil
  | _, _, .cons r t => .cons (DR.mono k r) (DRs.mono k t)
end
theorem DRs.length {H : Hp} : ∀ {ds : List Dt} {vs : List V}, DRs H ds vs → ds.length = vs.length
  | _, _, .nil => rfl
  | _, _, .cons _ t => congrArg (· + 1) t.length
mutual
theorem DR.inj {H : Hp} : ∀ {d e : Dt} {v : V}, DR H d v → DR H e v → d = e
  | _, _, _, .int _, .int _ => rfl
  | _, _, _, .str _, .str _ => rfl
  | _, _, _, .tup h r, .tup h' r' => by
    rw [h] at h'
    cases h'
    rw [DRs.inj r r']
theorem DRs.inj {H : Hp} : ∀ {ds es : List Dt} {vs : List V}, DRs H ds vs → DRs H es vs → ds = es
  | _, _, _, .nil, .nil => rfl
  | _, _, _, .cons r t, .cons r' t' => by rw [DR.inj r r', DRs.inj t t']
end
theorem DRs.get {H : Hp} : ∀ {ds : List Dt} {vs : List V} {j : Nat} {v : V}, DRs H ds vs → vs[j]? = some v → ∃ d, ds[j]? = some d ∧ DR H d v
  | _, _, _, _, .nil, e => by simp at e
  | _, _, 0, _, .cons r _, e => by simp at e; subst e; exact ⟨_, rfl, r⟩
  | _, _, j + 1, v, .cons _ t, e => by
    obtain ⟨d, h1, h2⟩ := DRs.get (j := j) (v := v) t (by simpa using e)
    exact ⟨d, by simpa using h1, h2⟩
theorem deep_get : ∀ {ds : List Dt} {j : Nat} {d : Dt}, ds[j]? = some d → d.deep ≤ Dt.deeps ds
  | [], _, _, h => by simp at h
  | e :: ds, 0, d, h => by simp at h; subst h; simp [Dt.deeps]; omega
  | e :: ds, j + 1, d, h => by
    have := deep_get (ds := ds) (j := j) (d := d) (by simpa using h)
    simp [Dt.deeps]; omega
theorem beqs_all : ∀ (ds es : List Dt), Dt.beqs ds es = ((List.range (min ds.length es.length)).all (fun j => match ds[j]?, es[j]? with | some d, some e => Dt.beq d e | _, _ => false) && ds.length == es.length) := by
  intro ds es
  rw [Bool.eq_iff_iff, Dt.beqs_iff, Bool.and_eq_true, List.all_eq_true]
  constructor
  · rintro rfl
    refine ⟨fun j hj => ?_, by simp⟩
    have hj' : j < ds.length := by simpa using List.mem_range.mp hj
    simp [List.getElem?_eq_getElem hj', Dt.beq_iff]
  · rintro ⟨h, hl⟩
    have hl' : ds.length = es.length := by simpa using hl
    refine List.ext_getElem hl' fun j h1 h2 => ?_
    have := h j (List.mem_range.mpr (by omega))
    simpa [List.getElem?_eq_getElem h1, List.getElem?_eq_getElem h2, Dt.beq_iff] using this
section
variable {X : Cx} {pins : List (Addr × Obj)} {σ : St} {H : Hp} {s : Shared}
theorem hu150 {k : Nat} {A : Around} (hr : Room k A) : A.units + 150 < cLine := by have := hr.un; omega
end
end L2
set_option Elab.async false
set_option linter.all false
set_option maxRecDepth 100000
set_option maxHeartbeats 4000000
namespace L2
open PySem PySem.Spec PyProof.Rows
theorem itB {h h' : Heap} {a b t : Addr} {i : Nat} (x : h.IsTupleIter a t i) (e : Heap.SameBut b h h') (n : a ≠ b) : h'.IsTupleIter a t i := x.extBut e.extBut n
theorem tpB {h h' : Heap} {a b : Addr} {xs : Array Value} (x : h.IsTuple a xs) (e : Heap.SameBut b h h') (n : a ≠ b) : h'.IsTuple a xs := let ⟨o, ho, r⟩ := x; ⟨o, e.extBut a o n ho, r⟩
section
variable {prog : Program} {w : World} {A : Around} {E : Value → Shared → Prop} {s : Shared}
theorem zipT_item {z TI TO i1 i2 l1 l2 : Addr} {k : Nat} {xs ys : Array Value} {x y a b : Value} {Q : Option Value → Shared → Prop} (D : ZipApart z TI TO i1 i2 l1 l2)
    (hz : IsZip s.heap z TI TO .none) (hTI : IsPair s.heap TI (.ref i1) (.ref i2)) (hTO : IsPair s.heap TO a b) (h1 : s.heap.IsTupleIter i1 l1 k) (h2 : s.heap.IsTupleIter i2 l2 k)
    (hl1 : s.heap.IsTuple l1 xs) (hl2 : s.heap.IsTuple l2 ys) (hx : xs[k]? = some x) (hy : ys[k]? = some y)
    (hQ : ∀ h', IsZip h' z TI TO (rawInt s.heap.objs.size) → IsPair h' TO x y → h'.IsTupleIter i1 l1 (k + 1) → h'.IsTupleIter i2 l2 (k + 1) → IsPair h' s.heap.objs.size x y →
      (∀ c o, c ≠ z → c ≠ TO → c ≠ i1 → c ≠ i2 → s.heap.get? c = some o → h'.get? c = some o) → Q (some (.ref s.heap.objs.size)) { s with heap := h' }) : wpAny (model prog w) A (pyNext (.ref z)) Q E s := by
  have hT : s.TypeIs (.ref z) "zip" := ⟨_, hz, rfl⟩
  unfold pyNext
  refine wpAny_bind (wpAny_attempt (wpAny_callSpecial?_slot (name := Str.ofString "__next__") hT F.slot_zip_next (wpAny_call_entry F.slot_zip_next hT F.entry_zip_next ?_ (F.args_zip_next_1 _))))
  show wpAny _ _ (field (.ref z) 2 >>= _) _ _ _; refine wpAny_bind (wpAny_field hz rfl (x := .bool false) rfl ?_)
  show wpAny _ _ (field (.ref z) 3 >>= _) _ _ _; refine wpAny_bind (wpAny_field hz rfl (x := .ref TI) rfl ?_); refine wpAny_bind (wpAny_seqItems hTI rfl ?_)
  show wpAny _ _ (Builtin.SmallTypes.ownedTupleIsFree (.ref z) >>= _) _ _ _; refine wpAny_bind ?_; unfold Builtin.SmallTypes.ownedTupleIsFree
  refine wpAny_bind (wpAny_field hz rfl (x := .none) rfl (wpAny_pure ?_)); simp only [if_true]; refine wpAny_bind (wpAny_rule ?_); refine wpAny_bind (wpAny_field hz rfl (x := .ref TO) rfl ?_)
  refine wpAny_bind (wpAny_setField_rec hz (by simp) fun q1 hz1 hs1 => ?_); replace hz1 : IsZip q1 z TI TO .ellipsis := hz1
  refine wpAny_bind ?_; simp only [List.zipIdx_cons, List.zipIdx_nil, List.forIn_cons, List.forIn_nil]
  refine wpAny_bind (wpAny_bind (wpAny_onRaise ?_)); show wpAny _ _ (Builtin.SmallTypes.nextOf (.ref i1) >>= _) _ _ _
  refine wpAny_bind (next_tup_item (itB h1 hs1 D.i1z) (tpB hl1 hs1 D.l1z) hx fun q2 j1 hs2 => wpAny_pure ?_)
  have hTO2 : IsPair q2 TO a b := hs2.extBut _ _ D.TOi1 (hs1.extBut _ _ D.TOz hTO)
  refine wpAny_bind (wpAny_seqItems hTO2 rfl ?_); refine wpAny_bind (wpAny_updateSeq_pair hTO2 fun q3 hTO3 hs3 => ?_); replace hTO3 : IsPair q3 TO x b := hTO3
  refine wpAny_bind (wpAny_letGo (wpAny_pure ?_)); refine wpAny_bind (wpAny_bind (wpAny_onRaise ?_)); show wpAny _ _ (Builtin.SmallTypes.nextOf (.ref i2) >>= _) _ _ _
  refine wpAny_bind (next_tup_item (itB (itB (itB h2 hs1 D.i2z) hs2 D.i12.symm) hs3 D.TOi2.symm) (tpB (tpB (tpB hl2 hs1 D.l2z) hs2 D.l2i1) hs3 D.l2TO) hy fun q4 j2 hs4 => wpAny_pure ?_)
  have hTO4 : IsPair q4 TO x b := hs4.extBut _ _ D.TOi2 hTO3
  refine wpAny_bind (wpAny_seqItems hTO4 rfl ?_); refine wpAny_bind (wpAny_updateSeq_pair hTO4 fun q5 hTO5 hs5 => ?_); replace hTO5 : IsPair q5 TO x y := hTO5
  refine wpAny_bind (wpAny_letGo (wpAny_pure (wpAny_pure ?_))); refine wpAny_bind (wpAny_seqItems hTO5 rfl ?_); refine wpAny_bind (wpAny_newTuple ?_)
  have hsz : q5.objs.size = s.heap.objs.size := by rw [hs5.1, hs4.1, hs3.1, hs2.1, hs1.1]
  have hz5 : IsZip q5 z TI TO .ellipsis := hs5.extBut _ _ D.TOz.symm (hs4.extBut _ _ D.i2z.symm (hs3.extBut _ _ D.TOz.symm (hs2.extBut _ _ D.i1z.symm hz1)))
  have hk5 : ∀ c o, c ≠ z → c ≠ TO → c ≠ i1 → c ≠ i2 → s.heap.get? c = some o → q5.get? c = some o := fun c o c1 c2 c3 c4 e => hs5.extBut _ _ c2 (hs4.extBut _ _ c4 (hs3.extBut _ _ c2 (hs2.extBut _ _ c3 (hs1.extBut _ _ c1 e))))
  have j15 : q5.IsTupleIter i1 l1 (k + 1) := itB (itB (itB j1 hs3 D.TOi1.symm) hs4 D.i12) hs5 D.TOi1.symm
  have j25 : q5.IsTupleIter i2 l2 (k + 1) := itB j2 hs5 D.TOi2.symm
  have hzlt : z < q5.objs.size := Heap.lt_size hz5
  show wpAny _ _ (Builtin.SmallTypes.ownedTupleHandOut (.ref z) (.ref q5.objs.size) >>= _) _ _ _; refine wpAny_bind ?_; unfold Builtin.SmallTypes.ownedTupleHandOut
  have hz6 : IsZip (q5.push { cls := .type "tuple", data := .seq #[x, y] }) z TI TO .ellipsis := Heap.get?_push_of_some _ hz5
  refine wpAny_bind (wpAny_setField_rec hz6 (by simp) fun q7 hz7 hs7 => ?_); replace hz7 : IsZip q7 z TI TO (rawInt q5.objs.size) := hz7
  refine wpAny_setField_rec hz7 (by simp) fun q8 hz8 hs8 => ?_; replace hz8 : IsZip q8 z TI TO (rawInt q5.objs.size) := hz8
  have up : ∀ c o, c ≠ z → q5.get? c = some o → q8.get? c = some o := fun c o c1 e => hs8.extBut _ _ c1 (hs7.extBut _ _ c1 (Heap.get?_push_of_some _ e))
  have hT8 : IsPair q8 q5.objs.size x y := hs8.extBut _ _ (Nat.ne_of_gt hzlt) (hs7.extBut _ _ (Nat.ne_of_gt hzlt) (Heap.get?_push_size _ rfl))
  rw [hsz] at hz8 hT8
  refine wpAny_pure ⟨_, rfl, wpAny_pure ?_⟩
  show Q (some (.ref q5.objs.size)) _
  rw [hsz]
  exact hQ q8 hz8 (up _ _ D.TOz hTO5) (let ⟨o, e, r⟩ := j15; ⟨o, up _ o D.i1z e, r⟩) (let ⟨o, e, r⟩ := j25; ⟨o, up _ o D.i2z e, r⟩) hT8 fun c o c1 c2 c3 c4 e => up c o c1 (hk5 c o c1 c2 c3 c4 e)
theorem zipT_end {z TI TO i1 i2 l1 l2 : Addr} {k : Nat} {xs ys : Array Value} {a b : Value} {Q : Option Value → Shared → Prop} (hh : A.handled = none) (D : ZipApart z TI TO i1 i2 l1 l2)
    (hz : IsZip s.heap z TI TO .none) (hTI : IsPair s.heap TI (.ref i1) (.ref i2)) (hTO : IsPair s.heap TO a b) (h1 : s.heap.IsTupleIter i1 l1 k) (h2 : s.heap.IsTupleIter i2 l2 k)
    (hl1 : s.heap.IsTuple l1 xs) (hl2 : s.heap.IsTuple l2 ys) (hend : xs[k]? = none ∨ ys[k]? = none)
    (hQ : ∀ h', (∀ c o, c ≠ z → c ≠ TO → c ≠ i1 → c ≠ i2 → s.heap.get? c = some o → h'.get? c = some o) → Q none { s with heap := h' }) : wpAny (model prog w) A (pyNext (.ref z)) Q E s := by
  have hT : s.TypeIs (.ref z) "zip" := ⟨_, hz, rfl⟩
  unfold pyNext
  have fin : ∀ (h' : Heap) (e : Addr), (∀ c o, c ≠ z → c ≠ TO → c ≠ i1 → c ≠ i2 → s.heap.get? c = some o → h'.get? c = some o) → (∃ o, h'.get? e = some o ∧ o.cls = .type "StopIteration") →
      wpAny (model prog w) A (do if ← isInstance (.ref e) (.type "StopIteration") then pure none else throw (.ref e)) Q E { s with heap := h' } := fun h' e hk ⟨o, ho, hc⟩ =>
    wpAny_bind (wpAny_isInstance (T := "StopIteration") (b := true) ⟨o, ho, hc⟩ isSubtype_stop (wpAny_pure (hQ _ hk)))
  refine wpAny_bind (wpAny_attempt (wpAny_callSpecial?_slot (name := Str.ofString "__next__") hT F.slot_zip_next (wpAny_call_entry F.slot_zip_next hT F.entry_zip_next ?_ (F.args_zip_next_1 _))))
  show wpAny _ _ (field (.ref z) 2 >>= _) _ _ _; refine wpAny_bind (wpAny_field hz rfl (x := .bool false) rfl ?_)
  show wpAny _ _ (field (.ref z) 3 >>= _) _ _ _; refine wpAny_bind (wpAny_field hz rfl (x := .ref TI) rfl ?_); refine wpAny_bind (wpAny_seqItems hTI rfl ?_)
  show wpAny _ _ (Builtin.SmallTypes.ownedTupleIsFree (.ref z) >>= _) _ _ _; refine wpAny_bind ?_; unfold Builtin.SmallTypes.ownedTupleIsFree
  refine wpAny_bind (wpAny_field hz rfl (x := .none) rfl (wpAny_pure ?_)); simp only [if_true]; refine wpAny_bind (wpAny_rule ?_); refine wpAny_bind (wpAny_field hz rfl (x := .ref TO) rfl ?_)
  refine wpAny_bind (wpAny_setField_rec hz (by simp) fun q1 hz1 hs1 => ?_); replace hz1 : IsZip q1 z TI TO .ellipsis := hz1
  refine wpAny_bind ?_; simp only [List.zipIdx_cons, List.zipIdx_nil, List.forIn_cons, List.forIn_nil]
  refine wpAny_bind (wpAny_bind (wpAny_onRaise ?_)); show wpAny _ _ (Builtin.SmallTypes.nextOf (.ref i1) >>= _) _ _ _
  cases hx : xs[k]? with
  | none =>
    refine wpAny_bind (next_tup_end hh (itB h1 hs1 D.i1z) (tpB hl1 hs1 D.l1z) hx fun q2 e hs2 he => ?_)
    obtain ⟨oe, hoe, hce⟩ := he
    have hz2 : IsZip q2 z TI TO .ellipsis := hs2 _ _ D.i1z.symm hz1
    have hez : e ≠ z := fun x => by subst x; rw [hz2] at hoe; cases hoe; simp at hce
    exact wpAny_setField_rec hz2 (by simp) fun q3 _ hs3 => fin q3 e (fun c o c1 _ c3 _ x => hs3.extBut _ _ c1 (hs2 _ _ c3 (hs1.extBut _ _ c1 x))) ⟨oe, hs3.extBut _ _ hez hoe, hce⟩
  | some x =>
    have hy : ys[k]? = none := by rcases hend with h | h; rw [hx] at h; cases h; exact h
    refine wpAny_bind (next_tup_item (itB h1 hs1 D.i1z) (tpB hl1 hs1 D.l1z) hx fun q2 j1 hs2 => wpAny_pure ?_)
    have hTO2 : IsPair q2 TO a b := hs2.extBut _ _ D.TOi1 (hs1.extBut _ _ D.TOz hTO)
    refine wpAny_bind (wpAny_seqItems hTO2 rfl ?_); refine wpAny_bind (wpAny_updateSeq_pair hTO2 fun q3 hTO3 hs3 => ?_)
    refine wpAny_bind (wpAny_letGo (wpAny_pure ?_)); refine wpAny_bind (wpAny_bind (wpAny_onRaise ?_)); show wpAny _ _ (Builtin.SmallTypes.nextOf (.ref i2) >>= _) _ _ _
    refine wpAny_bind (next_tup_end hh (itB (itB (itB h2 hs1 D.i2z) hs2 D.i12.symm) hs3 D.TOi2.symm) (tpB (tpB (tpB hl2 hs1 D.l2z) hs2 D.l2i1) hs3 D.l2TO) hy fun q4 e hs4 he => ?_)
    obtain ⟨oe, hoe, hce⟩ := he
    have hz4 : IsZip q4 z TI TO .ellipsis := hs4 _ _ D.i2z.symm (hs3.extBut _ _ D.TOz.symm (hs2.extBut _ _ D.i1z.symm hz1))
    have hez : e ≠ z := fun x => by subst x; rw [hz4] at hoe; cases hoe; simp at hce
    exact wpAny_setField_rec hz4 (by simp) fun q5 _ hs5 => fin q5 e (fun c o c1 c2 c3 c4 x => hs5.extBut _ _ c1 (hs4 _ _ c4 (hs3.extBut _ _ c2 (hs2.extBut _ _ c3 (hs1.extBut _ _ c1 x))))) ⟨oe, hs5.extBut _ _ hez hoe, hce⟩
end
theorem meets_zipT (l1 l2 : Addr) (xs ys : Array Value) :
    Meets (Builtin.«zip.__new__» ⟨[.type "zip", .ref l1, .ref l2], []⟩) (fun _ R s => s.heap.IsTuple l1 xs ∧ s.heap.IsTuple l2 ys ∧
      ∀ (h' : Heap) (z TI TO i1 i2 : Addr), (∀ c o, s.heap.get? c = some o → h'.get? c = some o) → s.heap.objs.size ≤ z → s.heap.objs.size ≤ TI → s.heap.objs.size ≤ TO → s.heap.objs.size ≤ i1 → s.heap.objs.size ≤ i2 →
        (TI ≠ z ∧ TO ≠ z ∧ i1 ≠ z ∧ i2 ≠ z ∧ TI ≠ TO ∧ TI ≠ i1 ∧ TI ≠ i2 ∧ TO ≠ i1 ∧ TO ≠ i2 ∧ i1 ≠ i2) → IsZip h' z TI TO .none → IsPair h' TI (.ref i1) (.ref i2) → IsPair h' TO .none .none → h'.IsTupleIter i1 l1 0 → h'.IsTupleIter i2 l2 0 →
        R (.ok (.ret (.ref z))) { s with heap := h' }) :=
  .of_wp fun prog w A R s h => by
    obtain ⟨hp, g, d, tk, os⟩ := s; obtain ⟨hl1, hl2, h⟩ := h; have hsub := sub_zip
    have hL1 : Heap.IsTuple (Shared.heap ⟨hp, g, d, tk, os⟩) l1 xs := hl1
    have hL2 : Heap.IsTuple (Shared.heap ⟨hp.push { cls := .type "tuple_iterator", data := .fields #[.ref l1, .int 0 0] }, g, d, tk, os⟩) l2 ys := let ⟨o, ho, r⟩ := hl2; ⟨o, Heap.get?_push_of_some _ ho, r⟩
    wp_walk using wpAny_pyIter_tuple hL1, wpAny_pyIter_tuple hL2
    refine ⟨_, rfl, h _ _ _ _ _ _ (fun c o e => Heap.get?_push_of_some _ (Heap.get?_push_of_some _ (Heap.get?_push_of_some _ (Heap.get?_push_of_some _ (Heap.get?_push_of_some _ e))))) ?_ ?_ ?_ ?_ ?_ ?_ (Heap.get?_push_size _ rfl) (Heap.get?_push_of_some _ (Heap.get?_push_of_some _ (Heap.get?_push_size _ rfl))) (Heap.get?_push_of_some _ (Heap.get?_push_size _ rfl))
      ⟨_, Heap.get?_push_of_some _ (Heap.get?_push_of_some _ (Heap.get?_push_of_some _ (Heap.get?_push_of_some _ (Heap.get?_push_size _ rfl)))), rfl, rfl⟩ ⟨_, Heap.get?_push_of_some _ (Heap.get?_push_of_some _ (Heap.get?_push_of_some _ (Heap.get?_push_size _ rfl))), rfl, rfl⟩⟩
    all_goals simp only [Heap.size_push]
    all_goals first
      | omega
      | (refine ⟨?_, ?_, ?_, ?_, ?_, ?_, ?_, ?_, ?_, ?_⟩ <;> (intro e; have e' : @Eq Nat _ _ := e; omega))
section
variable {prog : Program} {w : World} {A : Around} {E : Value → Shared → Prop} {s : Shared}
theorem call_zipT {l1 l2 : Addr} {xs ys : Array Value} {Q : Value → Shared → Prop} (hl1 : s.heap.IsTuple l1 xs) (hl2 : s.heap.IsTuple l2 ys)
    (h : ∀ (h' : Heap) (z TI TO i1 i2 : Addr), (∀ c o, s.heap.get? c = some o → h'.get? c = some o) → s.heap.objs.size ≤ z → s.heap.objs.size ≤ TI → s.heap.objs.size ≤ TO → s.heap.objs.size ≤ i1 → s.heap.objs.size ≤ i2 →
        (TI ≠ z ∧ TO ≠ z ∧ i1 ≠ z ∧ i2 ≠ z ∧ TI ≠ TO ∧ TI ≠ i1 ∧ TI ≠ i2 ∧ TO ≠ i1 ∧ TO ≠ i2 ∧ i1 ≠ i2) → IsZip h' z TI TO .none → IsPair h' TI (.ref i1) (.ref i2) → IsPair h' TO .none .none → h'.IsTupleIter i1 l1 0 → h'.IsTupleIter i2 l2 0 → Q (.ref z) { s with heap := h' }) :
    wpAny (model prog w) A (call (.type "zip") [.ref l1, .ref l2]) Q E s := by
  refine callType_new F.called_zip (by decide) (F.typeCall_zip_2 _ _) (F.newCall_zip_2 _ _) (fun obj => F.args_object_init_3 obj _ _) F.entry_zip_new (meets_zipT l1 l2 xs ys) ⟨hl1, hl2, fun h' z TI TO i1 i2 a0 a1 a2 a3 a4 a5 a6 a7 a8 a9 b1 b2 => ?_⟩
  exact ⟨⟨_, a7, rfl⟩, h h' z TI TO i1 i2 a0 a1 a2 a3 a4 a5 a6 a7 a8 a9 b1 b2⟩
end
def Itz (a b : Addr) : It :=
  ⟨fun i H => ∃ xs ys x y, H a = some (.tup xs) ∧ H b = some (.tup ys) ∧ xs[i]? = some x ∧ ys[i]? = some y,
   fun i H v H' => ∃ T x y, H T = none ∧ v = .ref T ∧ H' = upd H T (.tup [x, y]) ∧ (∀ xs, H a = some (.tup xs) → xs[i]? = some x) ∧ ∀ ys, H b = some (.tup ys) → ys[i]? = some y,
   fun i H => ∃ xs ys, H a = some (.tup xs) ∧ H b = some (.tup ys) ∧ (xs.length ≤ i ∨ ys.length ≤ i)⟩
theorem turn_zip {P : Program} {w : World} {K : PySem.W.Frag} {es : List Expr} {kk : Nat} {pos : Pos} (a b z TI TO i1 i2 : Addr)
    (ap : TI ≠ z ∧ TO ≠ z ∧ i1 ≠ z ∧ i2 ≠ z ∧ TI ≠ TO ∧ TI ≠ i1 ∧ TI ≠ i2 ∧ TO ≠ i1 ∧ TO ≠ i2 ∧ i1 ≠ i2) :
    Turn P w K (.Tuple es kk pos) (Itz a b) [z, TI, TO, i1, i2] z (fun i h => IsZip h z TI TO .none ∧ IsPair h TI (.ref i1) (.ref i2) ∧ (∃ p q, IsPair h TO p q) ∧ h.IsTupleIter i1 a i ∧ h.IsTupleIter i2 b i) where
  mem := by simp
  obj := fun i h st c hc => by
    obtain ⟨hz, hTI, ⟨p, q, hTO⟩, ⟨o1, e1, c1, d1⟩, o2, e2, c2, d2⟩ := st
    simp only [List.mem_cons, List.not_mem_nil, or_false] at hc
    rcases hc with rfl | rfl | rfl | rfl | rfl
    · exact ⟨_, hz, fun v z => by have z' : Data.fields _ = Data.cell v := z; cases z'⟩
    · exact ⟨_, hTI, fun v z => by have z' : Data.seq _ _ = Data.cell v := z; cases z'⟩
    · exact ⟨_, hTO, fun v z => by have z' : Data.seq _ _ = Data.cell v := z; cases z'⟩
    · exact ⟨o1, e1, fun v z => by rw [d1] at z; cases z⟩
    · exact ⟨o2, e2, fun v z => by rw [d2] at z; cases z⟩
  keep := fun i h h' st k => by
    obtain ⟨hz, hTI, ⟨p, q, hTO⟩, ⟨o1, e1, r1⟩, o2, e2, r2⟩ := st
    exact ⟨k z (by simp) _ hz, k TI (by simp) _ hTI, ⟨p, q, k TO (by simp) _ hTO⟩, ⟨o1, k i1 (by simp) _ e1, r1⟩, o2, k i2 (by simp) _ e2, r2⟩
  item := by
    intro X hP hw hK hc i pins s σ H E I hf st hg
    subst hP hw hK
    obtain ⟨xs, ys, x, y, ha, hb, hx, hy⟩ := hg
    obtain ⟨hz, hTI, ⟨p, q, hTO⟩, h1, h2⟩ := st
    obtain ⟨its, rv, t1, _⟩ := I.tuple (SqT.of ha)
    obtain ⟨its2, rv2, t2, _⟩ := I.tuple (SqT.of hb)
    obtain ⟨u, hu, ru⟩ := rv.get hx
    obtain ⟨u2, hu2, ru2⟩ := rv2.get hy
    obtain ⟨n1, n2, n3, n4, n5, n6, n7, n8, n9, n10⟩ := ap
    have ne : ∀ {c d : Addr} {o : HO}, H c = some o → d ∈ [z, TI, TO, i1, i2] → c ≠ d := fun e hd => ne_of_none e (hf _ hd).1
    have D : ZipApart z TI TO i1 i2 a b := ⟨n1, n2, n3, n4, n5, n6, n7, n8, n9, n10, ne ha (by simp), ne ha (by simp), ne ha (by simp), ne ha (by simp), ne hb (by simp), ne hb (by simp), ne hb (by simp), ne hb (by simp)⟩
    refine zipT_item D hz hTI hTO h1 h2 (show s.heap.IsTuple a its.toArray from t1) (show s.heap.IsTuple b its2.toArray from t2) (by simpa using hu) (by simpa using hu2) fun q1 hz1 hTO1 j1 j2 hT hk => ⟨_, rfl, ?_⟩
    have hn : H s.heap.objs.size = none := I.fresh
    have hT1 : IsPair q1 TI (.ref i1) (.ref i2) := hk _ _ n1 n5 n6 n7 hTI
    have neT : ∀ c ∈ [z, TI, TO, i1, i2], c ≠ s.heap.objs.size := fun c hc => by
      simp only [List.mem_cons, List.not_mem_nil, or_false] at hc
      rcases hc with rfl | rfl | rfl | rfl | rfl
      · exact Nat.ne_of_lt (Heap.lt_size (show s.heap.get? _ = some _ from hz))
      · exact Nat.ne_of_lt (Heap.lt_size (show s.heap.get? _ = some _ from hTI))
      · exact Nat.ne_of_lt (Heap.lt_size (show s.heap.get? _ = some _ from hTO))
      · obtain ⟨_, e, _⟩ := h1; exact Nat.ne_of_lt (Heap.lt_size e)
      · obtain ⟨_, e, _⟩ := h2; exact Nat.ne_of_lt (Heap.lt_size e)
    have I1 : Inv X pins σ (upd H s.heap.objs.size (.tup [x, y])) { s with heap := q1, toks := s.toks } := I.turnedL (ch := [z, TO, i1, i2]) (fun c o hc e => hk c o (fun q => hc (by simp [q])) (fun q => hc (by simp [q])) (fun q => hc (by simp [q])) (fun q => hc (by simp [q])) e)
      (fun c hc => hf c (by simp at hc ⊢; rcases hc with r | r | r | r <;> simp [r])) (Nat.le_refl _) ⟨Nat.le_of_lt (small1000 (show 2 ≤ 1000 by decide)), [u, u2], .cons ru (.cons ru2 .nil), _, hT, rfl, _, rfl⟩
    refine wpAny_letOwnedTupleGo_zip (s := { s with heap := q1 }) hz1 fun q2 hz2 hs2 => ⟨.ref s.heap.objs.size, _, ?_, rfl, ⟨_, x, y, hn, rfl, rfl, fun ws e => by rw [ha] at e; cases e; exact hx, fun ws e => by rw [hb] at e; cases e; exact hy⟩, ⟨hz2, hs2.extBut _ _ n1 hT1, ⟨_, _, hs2.extBut _ _ n2 hTO1⟩, itB j1 hs2 n3, itB j2 hs2 n4⟩, fun c hc => ?_⟩
    · refine I1.turnedN (t' := s.toks) (ch := [z]) (fun c o hc e => (hs2.2 c (fun q => hc (by simp [q]))).trans e) fun c hc => ?_
      have ec := List.mem_singleton.mp hc
      subst ec
      obtain ⟨f0, f⟩ := hf c (by simp)
      exact ⟨by rw [upd_ne (neT c (by simp))]; exact f0, f⟩
    · rw [upd_ne (neT c hc)]; exact (hf c hc).1
  done := by
    intro X hP hw hK hc i pins s σ H E I hf st hg
    subst hP hw hK
    obtain ⟨xs, ys, ha, hb, hend⟩ := hg
    obtain ⟨hz, hTI, ⟨p, q, hTO⟩, h1, h2⟩ := st
    obtain ⟨its, rv, t1, _⟩ := I.tuple (SqT.of ha)
    obtain ⟨its2, rv2, t2, _⟩ := I.tuple (SqT.of hb)
    have l1 := rv.length
    have l2 := rv2.length
    obtain ⟨n1, n2, n3, n4, n5, n6, n7, n8, n9, n10⟩ := ap
    have ne : ∀ {c d : Addr} {o : HO}, H c = some o → d ∈ [z, TI, TO, i1, i2] → c ≠ d := fun e hd => ne_of_none e (hf _ hd).1
    have D : ZipApart z TI TO i1 i2 a b := ⟨n1, n2, n3, n4, n5, n6, n7, n8, n9, n10, ne ha (by simp), ne ha (by simp), ne ha (by simp), ne ha (by simp), ne hb (by simp), ne hb (by simp), ne hb (by simp), ne hb (by simp)⟩
    refine zipT_end (I.ok.hd hc) D hz hTI hTO h1 h2 (show s.heap.IsTuple a its.toArray from t1) (show s.heap.IsTuple b its2.toArray from t2) ?_ fun q1 hk => ⟨rfl, ?_⟩
    · rcases hend with h | h
      · exact .inl (by simp; omega)
      · exact .inr (by simp; omega)
    · exact I.turnedN (t' := s.toks) (ch := [z, TO, i1, i2]) (fun c o hc e => hk c o (fun q => hc (by simp [q])) (fun q => hc (by simp [q])) (fun q => hc (by simp [q])) (fun q => hc (by simp [q])) e) (fun c hc => hf c (by simp at hc ⊢; rcases hc with r | r | r | r <;> simp [r]))
  self := fun _ _ _ _ _ st h => wpAny_pyIter_zip st.1 h
theorem boot_zip' : bootBuiltins "zip" = some (.type "zip") := by decide +kernel
def iZip (ta : TA) : TI := fun σ H R => ta σ H fun vs H1 => ∃ a b xs ys, vs = [.ref a, .ref b] ∧ H1 a = some (.tup xs) ∧ H1 b = some (.tup ys) ∧ R (Itz a b) H1
theorem pi_zip {X : Cx} {es : List Expr} {k : Nat} {tpos : Pos} {a b : Expr} {ta : TA} {p pos : Pos} (hg : Gl X "zip") (hm : X.mg "zip" = none) (ha : PA X [a, b] ta) (hs : starEach [a, b] X.env = [(false, eval a X.env), (false, eval b X.env)] := by rfl) (hs2 : starEach [b] X.env = [(false, eval b X.env)] := by rfl) :
    PI X (.Tuple es k tpos) (.Call (.Name "zip" p) [a, b] [] pos) (iZip ta) := by
  intro pins s σ H R I h
  refine Call_ (ld_blt I hg hm boot_zip' (PyProof.Rows.callWith_type1 (thn (ha pos pins s σ H _ I h) fun us s1 ⟨vs, H1, I1, r1, q1⟩ => ?_) (by rw [hs, hs2]) (by rw [hs2]; rfl)))
  obtain ⟨l1, l2, xs, ys, e, h1, h2, q⟩ := q1
  subst e
  obtain ⟨u, w', rfl, ru, rw'⟩ := vals2 r1
  cases ru
  cases rw'
  obtain ⟨its, rv, t1, _⟩ := I1.tuple (SqT.of h1)
  obtain ⟨its2, rv2, t2, _⟩ := I1.tuple (SqT.of h2)
  refine call_zipT (show s1.heap.IsTuple l1 its.toArray from t1) (show s1.heap.IsTuple l2 its2.toArray from t2) fun h' z TI TO i1 i2 a0 a1 a2 a3 a4 a5 a6 a7 a8 a9 b1 b2 => ?_
  refine wpAny_pyIter_zip a7 ⟨_, [z, TI, TO, i1, i2], _, _, H1, rfl, I1.kept (t' := s1.toks) a0, turn_zip l1 l2 z TI TO i1 i2 a6, ⟨a7, a8, ⟨_, _, a9⟩, b1, b2⟩, fun c hc => ?_, q⟩
  have ge : s1.heap.objs.size ≤ c := by
    simp only [List.mem_cons, List.not_mem_nil, or_false] at hc
    rcases hc with rfl | rfl | rfl | rfl | rfl <;> assumption
  exact I1.fpOk ge (I1.hok.fresh ge)
theorem for_zip {a b : Addr} {xs ys : List V} {g : TG} {tb : TS} {D : Ends} {σ : St} {H : Hp} (Pv : Nat → St → Hp → Prop) (h0 : Pv 0 σ H) (hl : ∀ i σ H, i ≤ min xs.length ys.length → Pv i σ H → H a = some (.tup xs) ∧ H b = some (.tup ys))
    (hs : ∀ i x y T σ H, xs[i]? = some x → ys[i]? = some y → Pv i σ H → H T = none → g (.ref T) σ (upd H T (.tup [x, y])) fun σ2 H2 => tb { D with nx := Pv (i + 1), ct := Pv (i + 1), bk := D.nx } σ2 H2) (hd : ∀ σ H, Pv (min xs.length ys.length) σ H → D.nx σ H) :
    ∃ W : Nat → Nat → St → Hp → Prop, (∃ m, W 0 m σ H) ∧ ∀ i m σ H, W i m σ H →
      ((Itz a b).stop i H ∧ D.nx σ H) ∨ ((Itz a b).go i H ∧ ∃ N : St → Hp → Prop, (∀ σ' H', N σ' H' → ∃ m', m' < m ∧ W (i + 1) m' σ' H') ∧ ∀ x H', (Itz a b).yld i H x H' → g x σ H' fun σ2 H2 => tb { D with nx := N, ct := N, bk := D.nx } σ2 H2) := by
  refine ⟨fun i m σ H => m = min xs.length ys.length - i ∧ i ≤ min xs.length ys.length ∧ Pv i σ H, ⟨min xs.length ys.length, by simp, Nat.zero_le _, h0⟩, ?_⟩
  rintro i m σ H ⟨rfl, hi, p⟩
  obtain ⟨ha, hb⟩ := hl i σ H hi p
  by_cases hlt : i < min xs.length ys.length
  · have hx : i < xs.length := by omega
    have hy : i < ys.length := by omega
    refine .inr ⟨⟨xs, ys, xs[i], ys[i], ha, hb, by simp [hx], by simp [hy]⟩, Pv (i + 1), fun σ' H' p' => ⟨min xs.length ys.length - (i + 1), by omega, rfl, hlt, p'⟩, fun x H' y => ?_⟩
    obtain ⟨T, u, v, hT, ex, eH, e1, e2⟩ := y
    subst ex eH
    exact hs i u v T σ H (e1 xs ha) (e2 ys hb) p hT
  · have e : i = min xs.length ys.length := by omega
    subst e
    exact .inl ⟨⟨xs, ys, ha, hb, by omega⟩, hd σ H p⟩
end L2
set_option Elab.async false
set_option linter.all false
set_option maxRecDepth 100000
set_option maxHeartbeats 4000000
namespace L2
open PySem PySem.Spec PyProof.Rows
end L2
set_option Elab.async false
set_option linter.all false
set_option maxRecDepth 100000
set_option maxHeartbeats 4000000
namespace L2
open PySem PySem.Spec PyProof.Rows
theorem comp_tupR {K : PySem.W.Frag} {a : Addr} {xs : List V} {acc : Addr} {g : TG} {tt : TT} {te : TE} {σ : L2.St} {H : Hp} {R : Hp → Prop} (Pv : Nat → Hp → Prop) (h0 : Pv 0 (upd H acc (.lst []))) (hl : ∀ i H, i ≤ xs.length → Pv i H → SqT K H a xs)
    (hs : ∀ i x H, xs[i]? = some x → Pv i H → g x σ H fun σ2 H4 => Ext σ σ2 ∧ tt σ2 H4 fun b H5 =>
      if b = true then te σ2 H5 fun y H6 => ∃ zs, H6 acc = some (.lst zs) ∧ zs.length < sizeLine ∧ Pv (i + 1) (upd H6 acc (.lst (zs ++ [y]))) else Pv (i + 1) H5) (hd : ∀ H, Pv xs.length H → R H) :
    ∃ W : Nat → Nat → Hp → Prop, (∃ m, W 0 m (upd H acc (.lst []))) ∧ ∀ i m H2, W i m H2 →
      ((Itt K a).stop i H2 ∧ R H2) ∨ ((Itt K a).go i H2 ∧ ∃ N : Hp → Prop, (∀ H', N H' → ∃ m', m' < m ∧ W (i + 1) m' H') ∧ ∀ x H3, (Itt K a).yld i H2 x H3 → g x σ H3 fun σ2 H4 => Ext σ σ2 ∧ tt σ2 H4 fun b H5 =>
        if b = true then te σ2 H5 fun y H6 => ∃ zs, H6 acc = some (.lst zs) ∧ zs.length < sizeLine ∧ N (upd H6 acc (.lst (zs ++ [y])))
        else N H5) := by
  refine ⟨fun i m H => m = xs.length - i ∧ i ≤ xs.length ∧ Pv i H, ⟨xs.length, by simp, Nat.zero_le _, h0⟩, ?_⟩
  rintro i m H2 ⟨rfl, hi, p⟩
  have q := hl i H2 hi p
  by_cases hlt : i < xs.length
  · refine .inr ⟨⟨xs, xs[i], q, by simp [hlt]⟩, Pv (i + 1), fun H' p' => ⟨xs.length - (i + 1), by omega, rfl, hlt, p'⟩, fun x H' y => ?_⟩
    obtain ⟨e, y⟩ := y
    subst e
    exact hs i x _ (y xs q) p
  · have e : i = xs.length := by omega
    subst e
    exact .inl ⟨⟨xs, q, Nat.le_refl _⟩, hd H2 p⟩
theorem pg_tupK {X : Cx} {K : PySem.W.Frag} {es : List Expr} {k : Nat} {t : TGs} {n : Nat} {pos : Pos} (hK : X.K = K) (hc : X.calm = true) (h : PGs X es t)
    (hn : (assignEach es X.env).length = n := by rfl) (hst : (assignEach es X.env).findIdx? (·.1) = none := by rfl) : PG X (.Tuple es k pos) (gTup K n t) := hK ▸ pg_tup hc h hn hst
section
variable {X : Cx}
theorem getItem_tuple_whole {prog : Program} {w : World} {A : Around} {E : Value → Shared → Prop} {s : Shared} {t sl : Addr} {items : Array Value} {vl vu : Value} {lo hi : Option Int} {Q : Value → Shared → Prop} (ht : IsTup s.heap t items) (hs : s.heap.IsSliceOf sl vl vu .none) (pl : IsPart vl lo) (pu : IsPart vu hi)
    (hw : HT.sIx items.size 0 lo = 0 ∧ HT.sIx items.size items.size hi = items.size) (h : Q (.ref t) s) : wpAny (model prog w) A (getItem (.ref t) (.ref sl)) Q E s := by
  obtain ⟨os, hos, hcs, hds⟩ := id hs
  have hTs : s.TypeIs (.ref sl) "slice" := ⟨os, hos, hcs⟩
  unfold getItem
  try with_reducible refine wpAny_holding ?_
  first | refine wpAny_bind (wpAny_pure ?_) | skip
  refine wpAny_bind (wpAny_sequenceKey ht.typeIs (by decide) ?_)
  refine wpAny_bind (wpAny_callSpecial?_slot (name := Str.ofString "__getitem__") ht.typeIs PyProof.Rows.slot_tuple_getitem
    (wpAny_call_entry PyProof.Rows.slot_tuple_getitem ht.typeIs entry_tuple_getitem ?_ (args_tuple_getitem _ _)))
  show wpAny _ _ (Builtin.Tuple.tupleItemsOf (.ref t) >>= _) _ _ s
  refine wpAny_bind (tupleItemsOf_ ht ?_)
  refine wpAny_bind (wpAny_typeOf hTs ?_)
  rw [if_pos (by decide)]
  refine wpAny_bind (HT.sliceApplied_gen hs pl pu ?_)
  have hyes : (((HT.sIx items.size 0 lo : Nat) : Int) == 0 && (1 : Int) == 1 && (HT.sIx items.size items.size hi - HT.sIx items.size 0 lo) == items.size) = true := by
    rw [hw.1, hw.2]; simp
  show wpAny _ _ (if (((HT.sIx items.size 0 lo : Nat) : Int) == 0 && (1 : Int) == 1 && (HT.sIx items.size items.size hi - HT.sIx items.size 0 lo) == items.size) = true then _ else _) _ _ s
  rw [if_pos hyes]
  refine wpAny_bind ?_
  unfold Builtin.Tuple.tupleIsExact
  refine wpAny_bind (wpAny_typeOf ht.typeIs (wpAny_pure ?_))
  rw [if_pos (by decide)]
  first
    | exact wpAny_bind (wpAny_rule (wpAny_bind (wpAny_pure (wpAny_pure ⟨_, rfl, wpAny_pure h⟩))))
    | exact wpAny_bind (wpAny_rule (wpAny_pure ⟨_, rfl, wpAny_pure h⟩))
    | exact wpAny_bind (wpAny_rule (wpAny_bind (wpAny_pure ⟨_, rfl, wpAny_pure h⟩)))
def rSlW : V → Option Int → Option Int → Hp → VK → Prop := fun x lo hi H Q => ∃ a xs, x = .ref a ∧ H a = some (.tup xs) ∧ ∀ p H', Same H H' → H' p = some (.tup (cutV xs lo hi)) → Q (.ref p) H'
theorem sl_tupW : SlR X rSlW := by
  intro pins s σ H x v vl vu lo hi sl Q I rx hs pl pu h
  obtain ⟨a, xs, rfl, ha, q⟩ := h
  by_cases hw : HT.sIx xs.length 0 lo = 0 ∧ HT.sIx xs.length xs.length hi = xs.length
  · cases rx
    obtain ⟨its, r, ht, hz⟩ := I.tuple (SqT.of ha)
    have hlen : its.toArray.size = xs.length := by rw [List.size_toArray]; exact r.length.symm
    refine ⟨"tuple", _, PyProof.Rows.slot_tuple_getitem.lookup, ht.typeIs, ?_⟩
    refine getItem_tuple_whole ht hs pl pu (by rw [hlen]; exact hw) ⟨.ref a, H, I, rfl, q a H (.refl H) ?_⟩
    rw [ha]
    unfold cutV
    rw [hw.1, hw.2]
    simp
  · exact sl_tup pins s σ H (.ref a) v vl vu lo hi sl Q I rx hs pl pu ⟨a, xs, rfl, SqT.of ha, hw, fun p hp => q p _ (same_upd hp) upd_same⟩
end
structure Sd (p : Prop) : Prop where
  un : p
section
variable {X : Cx} {st : Stmt} {rest : List Stmt} {t u : TS} {e a b : Expr} {es : List Expr} {te ta tb : TE} {tA : TA} {pos : Pos}
theorem pss_consS (h1 : Sd (PS X st t)) (h2 : Sd (PSs X rest u)) : Sd (PSs X (st :: rest) (tSeq t u)) := ⟨pss_cons h1.un h2.un⟩
theorem pss_oneS (h1 : Sd (PS X st t)) : Sd (PSs X [st] t) := ⟨pss_one h1.un⟩
theorem ps_ifS {c : Expr} {x y : List Stmt} {tc : TT} (hc : Sd (PT X c tc)) (ha : Sd (PSs X x t)) (hb : Sd (PSs X y u)) : Sd (PS X (.If c x y pos) (tIfS tc t u)) := ⟨ps_if hc.un ha.un hb.un⟩
theorem ps_retS (he : Sd (PE X e te)) : Sd (PS X (.Return (some e) pos) (tRet te)) := ⟨ps_ret he.un⟩
theorem ps_setS {i : Nat} {x : Str} {pos' : Pos} (hN : X.N.Nodup) (hi : X.N[i]? = some x) (hx : Loc X.env.scope x) (he : Sd (PE X e te)) (hs : swapsWith e (some (.Name x pos')) pos.line X.env = pure false := by rfl) (hf : X.fn x = true ∨ X.env.scope.names.lookup x = some .local := by first | exact .inl rfl | exact .inr rfl | assumption) :
    Sd (PS X (.Assign [.Name x pos'] e pos) (tAsg te (gName i))) := ⟨ps_set hN hi hx he.un hs hf⟩
theorem pe_tupS {k : Nat} (h : Sd (PA X es tA)) : Sd (PE X (.Tuple es k pos) (tTup tA)) := ⟨pe_tup h.un⟩
theorem pe_lstS (h : Sd (PA X es tA)) : Sd (PE X (.List es pos) (tLst tA)) := ⟨pe_lst h.un⟩
theorem pa_consS (ha : Sd (PE X e te)) (hr : Sd (PA X es tA)) (hs : starEach (e :: es) X.env = (false, eval e X.env) :: starEach es X.env := by rfl) : Sd (PA X (e :: es) (tCons te tA)) := ⟨pa_cons ha.un hr.un hs⟩
theorem pe_ixS {r : R2} (hr : IxR X r) (ha : Sd (PE X a ta)) (hb : Sd (PE X b tb)) (hs : PlainIx b) : Sd (PE X (.Subscript a b pos) (tOp r ta tb)) := ⟨pe_ix hr ha.un hb.un hs⟩
end
end L2
set_option Elab.async false
set_option linter.all false
set_option maxRecDepth 100000
set_option maxHeartbeats 4000000
namespace L2
open PySem PySem.Spec PyProof.Rows
section
variable {prog : Program} {w : World} {A : Around} {E : Value → Shared → Prop} {s : Shared}
end
end L2
set_option Elab.async false
set_option linter.all false
namespace L2
open PySem PySem.Spec PyProof.Rows
section
variable {X : Cx}
end
section
variable {prog : Program} {w : World} {A : Around} {E : Value → Shared → Prop} {s : Shared}
end
end L2
set_option Elab.async false
set_option linter.all false
set_option maxRecDepth 100000
set_option maxHeartbeats 4000000
namespace L2
open PySem PySem.Spec PyProof.Rows
section
variable {X : Cx}
end
end L2
set_option Elab.async false
set_option linter.all false
set_option maxRecDepth 100000
set_option maxHeartbeats 4000000
namespace L2
open PySem PySem.Spec PyProof.Rows
section
variable {X : Cx}
open Classical in
noncomputable def eqW (H : Hp) (dx : Dt) (w : Value) : Bool := decide (∃ x d, RelV x w ∧ DR H d x ∧ Dt.beq d dx = true)
end
end L2
set_option linter.all false
set_option maxRecDepth 100000
set_option maxHeartbeats 4000000
namespace PySem
open Sem (wp)
namespace F
end F
section
variable {prog : Program} {w : World} {K : Type} [DecidableEq K] {knd : KeyKind prog w K} {A : Around} {R : Result → Shared → Prop} {E : Value → Shared → Prop}
end
end PySem
set_option Elab.async false
set_option linter.all false
set_option maxRecDepth 100000
set_option maxHeartbeats 4000000
namespace L2
open PySem PySem.Spec PyProof.Rows
section
variable {X : Cx}
end
end L2
set_option linter.all false
set_option maxRecDepth 100000
set_option maxHeartbeats 4000000
namespace L2
open PySem PySem.W PyProof.Rows
section
variable {n : Nat} {r : Nat → Nat → Bool}
abbrev lt (r : Nat → Nat → Bool) (p : Array Nat) (i j : Nat) : Bool := r (p.getD i 0) (p.getD j 0)
end
end L2
set_option linter.all false
set_option maxRecDepth 100000
set_option maxHeartbeats 4000000
namespace L2
def lexB : List Int → List Int → Bool
  | _, [] => false
  | [], _ :: _ => true
  | a :: as, b :: bs => if a = b then lexB as bs else decide (a < b)
theorem lexB_self : ∀ as : List Int, lexB as as = false
  | [] => rfl
  | a :: as => by rw [lexB, if_pos rfl]; exact lexB_self as
theorem lexB_asym : ∀ {as bs : List Int}, lexB as bs = true → lexB bs as = false
  | [], [], h => by cases h
  | [], _ :: _, _ => rfl
  | _ :: _, [], h => by cases h
  | a :: as, b :: bs, k => by
    rw [lexB] at k ⊢
    by_cases e : a = b
    · subst e
      rw [if_pos rfl] at k ⊢
      exact lexB_asym k
    · rw [if_neg e] at k
      rw [if_neg (Ne.symm e)]
      have := of_decide_eq_true k
      exact decide_eq_false (by omega)
end L2
namespace PySem
open PySem.Calls PyProof.Rows PySem.W L2
open AutoSeq1 (wpAny_loadPart')
end PySem
set_option linter.all false
set_option maxRecDepth 100000
set_option maxHeartbeats 4000000
namespace PySem
open PySem.Calls PyProof.Rows PySem.W L2
section
variable {prog : Program} {w : World} {A : Around} {E : Value → Shared → Prop} {s : Shared}
theorem snds_few : ∀ {vs : List Value}, vs.length < 2 → (vs.toArray.zip vs.toArray).map (·.2) = List.toArray ((List.toArray (List.range vs.length)).toList.map fun i => vs.getD i Value.none)
  | [], _ => by simp
  | [x], _ => by simp [List.range_succ]
  | _ :: _ :: _, h => by simp at h; omega
end
end PySem
set_option Elab.async false
set_option linter.all false
set_option maxRecDepth 100000
set_option maxHeartbeats 4000000
namespace L2
open PySem PySem.Spec PyProof.Rows PySem.W
def PlV (H : Hp) (p : List Int × V) (v : V) : Prop := ∃ (b c : Addr), v = .ref b ∧ H b = some (.tup [.ref c, p.2]) ∧ H c = some (.tup (p.1.map V.int))
theorem PlV.mono {H H' : Hp} (k : Tk H H') {p : List Int × V} {v : V} : PlV H p v → PlV H' p v
  | ⟨b, c, e, h1, h2⟩ => ⟨b, c, e, k _ _ h1, k _ _ h2⟩
section
variable {X : Cx}
end
end L2
set_option Elab.async false
set_option linter.all false
set_option maxRecDepth 100000
set_option maxHeartbeats 4000000
namespace PySem
open AutoSeq1
set_option maxRecDepth 8000 in
theorem extend_tupleW (l : Addr) (items : Array Value) (n : Nat) (b : Addr) (items2 : Array Value) (n2 : Nat) (dd : Option Addr) (sl : Array (Option Value)) (hs0 : ¬(!items.isEmpty && Builtin.List.listTooLong (items.size + items2.size)) = true) (hs1 : items.size ≤ sizeLine) (hs2 : items.size + items2.size ≤ sizeLine + 1) :
    Meets (Builtin.«list.extend» ⟨[.ref l, .ref b], []⟩) (fun _ R s => s.heap.get? l = some { cls := .type "list", dict := none, data := .seq items n, slots := #[] } ∧ s.heap.get? b = some { cls := .type "tuple", dict := dd, data := .seq items2 n2, slots := sl } ∧ R (.ok (.ret Value.none)) { s with heap := s.heap.update l (Obj.mapSeq fun x => x ++ items2), toks := s.toks }) :=
  .of_wp fun prog w A R s h => by
    obtain ⟨hp, g, d, tk, os⟩ := s
    obtain ⟨hl, hb, h⟩ := h
    have f1 := idx_int
    have f2 := sub_tuple_tuple
    have f3 := sub_list_list
    have f4 := sub_tuple_list
    have f5 := sub_list_tuple
    have hz' : (items ++ items2).size ≤ sizeLine + 1 := by rw [Array.size_append]; exact hs2
    wp_walk using (wpAny_updateSeq hl rfl (hz := hs1) (_hz' := hz')), wpAny_loadPart' hl, wpAny_loadPart' hb
    exact ⟨_, rfl, h⟩
end PySem
namespace L2
open PySem PySem.Spec PyProof.Rows
section
variable {X : Cx}
def rExtendT (K : PySem.W.Frag) : V → List V → Hp → VK → Prop := fun x vs H Q => ∃ l b xs zs, x = .ref l ∧ vs = [.ref b] ∧ H l = some (.lst xs) ∧ SqT K H b zs ∧ xs.length + zs.length ≤ sizeLine ∧ Q .non (upd H l (.lst (xs ++ zs)))
theorem mt_extendT : MtM X "list.extend" (rExtendT X.K) := by
  intro pins s σ H x vs v us Q I rx rv h
  obtain ⟨l, b, xs, zs, rfl, rfl, hH, hB, hz, q⟩ := h
  cases rx
  obtain ⟨u, rfl, ru⟩ := rv.one
  cases ru
  obtain ⟨z, its, n, r, hl, e⟩ := I.lstM hH
  obtain ⟨its2, r2, p2, z2⟩ := I.tuple hB
  obtain ⟨⟨cls, dd, data, sl⟩, e2, hc, n2, hd⟩ := id p2
  simp only at hc hd
  subst hc hd
  have hl2 := r2.length
  have hsz : its.toArray.size + its2.toArray.size ≤ sizeLine := by rw [List.size_toArray, List.size_toArray]; omega
  have hlong : ¬ (!its.toArray.isEmpty && Builtin.List.listTooLong (its.toArray.size + its2.toArray.size)) = true := by
    rw [notLongL hsz, Bool.and_false]
    exact Bool.false_ne_true
  refine call_meets F.slot_list_extend ⟨_, e, rfl⟩ F.entry_list_extend (F.args_list_extend_2 _ _)
    (extend_tupleW l its.toArray n b its2.toArray n2 dd sl hlong (by rw [List.size_toArray]; omega) (by omega)) ⟨e, e2, ?_⟩
  refine ⟨.non, _, I.lset (its' := its ++ its2) hH e (by simp) (r.append r2) ?_, rfl, q⟩
  rw [List.length_append]
  omega
end
end L2
set_option linter.all false
set_option maxRecDepth 100000
set_option maxHeartbeats 4000000
namespace L2
open PySem PySem.W PyProof.Rows
section
variable {n : Nat} {r : Nat → Nat → Bool}
end
end L2
set_option Elab.async false
set_option linter.all false
set_option maxRecDepth 100000
set_option maxHeartbeats 4000000
namespace L2
open PySem PySem.Spec PyProof.Rows PySem.W
instance : DecidableEq Dt := fun d e => decidable_of_iff (Dt.beq d e = true) Dt.beq_iff
theorem beq_dec (d e : Dt) : Dt.beq d e = decide (d = e) := by
  by_cases h : d = e
  · rw [decide_eq_true h]; exact Dt.beq_iff.mpr h
  · rw [decide_eq_false h]
    cases z : Dt.beq d e with
    | false => rfl
    | true => exact absurd (Dt.beq_iff.mp z) h
mutual
inductive DA (h : Heap) : Dt → Value → Prop
  | int (i : Int) (t : Tok) : DA h (.int i) (.int i t)
  | str (x : Str) (t : Tok) : DA h (.str x) (.str x t)
  | tup {a : Addr} {items : Array Value} {ds : List Dt} : h.IsTuple a items → DAs h ds items.toList → DA h (.tup ds) (.ref a)
inductive DAs (h : Heap) : List Dt → List Value → Prop
  | nil : DAs h [] []
  | cons {d : Dt} {u : Value} {ds : List Dt} {us : List Value} : DA h d u → DAs h ds us → DAs h (d :: ds) (u :: us)
end
theorem istup_inj {h : Heap} {a : Addr} {x y : Array Value} (hx : h.IsTuple a x) (hy : h.IsTuple a y) : x = y := by
  obtain ⟨o, ho, _, n, hd⟩ := hx
  obtain ⟨o', ho', _, n', hd'⟩ := hy
  rw [ho] at ho'
  cases ho'
  rw [hd] at hd'
  cases hd'
  rfl
mutual
theorem DA.inj {h : Heap} : ∀ {d e : Dt} {u : Value}, DA h d u → DA h e u → d = e
  | _, _, _, .int _ _, .int _ _ => rfl
  | _, _, _, .str _ _, .str _ _ => rfl
  | _, _, _, .tup h1 r1, .tup h2 r2 => by
    have := istup_inj h1 h2
    subst this
    rw [DAs.inj r1 r2]
theorem DAs.inj {h : Heap} : ∀ {d e : List Dt} {u : List Value}, DAs h d u → DAs h e u → d = e
  | _, _, _, .nil, .nil => rfl
  | _, _, _, .cons r q, .cons r2 q2 => by rw [DA.inj r r2, DAs.inj q q2]
end
theorem istup_kept {h h' : Heap} (k : ∀ b o, o.cls = .type "tuple" → h.get? b = some o → h'.get? b = some o) {a : Addr} {x : Array Value} : h.IsTuple a x → h'.IsTuple a x
  | ⟨o, ho, hc, r⟩ => ⟨o, k _ _ hc ho, hc, r⟩
mutual
theorem DA.kept {h h' : Heap} (k : ∀ b x, h.IsTuple b x → h'.IsTuple b x) : ∀ {d : Dt} {u : Value}, DA h d u → DA h' d u
  | _, _, .int _ _ => .int _ _
  | _, _, .str _ _ => .str _ _
  | _, _, .tup h r => .tup (k _ _ h) (DAs.kept k r)
theorem DAs.kept {h h' : Heap} (k : ∀ b x, h.IsTuple b x → h'.IsTuple b x) : ∀ {d : List Dt} {u : List Value}, DAs h d u → DAs h' d u
  | _, _, .nil => .nil
  | _, _, .cons r q => .cons (DA.kept k r) (DAs.kept k q)
end
theorem DAs.length {h : Heap} : ∀ {ds : List Dt} {us : List Value}, DAs h ds us → ds.length = us.length
  | _, _, .nil => rfl
  | _, _, .cons _ q => by simp [DAs.length q]
theorem DAs.get {h : Heap} : ∀ {ds : List Dt} {us : List Value} {j : Nat} {u : Value}, DAs h ds us → us[j]? = some u → ∃ d, ds[j]? = some d ∧ DA h d u
  | _, _, 0, _, .cons r _, e => ⟨_, rfl, by cases e; exact r⟩
  | _, _, j + 1, _, .cons _ q, e => by
    obtain ⟨d, e1, r⟩ := DAs.get q (j := j) (by simpa using e)
    exact ⟨d, by simpa using e1, r⟩
section
variable {P : Program} {w : World} {H : Hp} {h : Heap}
mutual
theorem DR.da (ok : HOk P w H h) : ∀ {d : Dt} {v : V} {u : Value}, DR H d v → RelV v u → DA h d u
  | _, _, _, .int i, r => by obtain ⟨t, rfl⟩ := r; exact .int _ _
  | _, _, _, .str x, r => by obtain ⟨t, rfl⟩ := r; exact .str _ _
  | _, _, _, .tup (a := a) ha q, r => by
    cases r
    obtain ⟨_, its, rv, p⟩ := ok a _ ha
    exact .tup p (by rw [List.toList_toArray]; exact DRs.da ok q rv)
theorem DRs.da (ok : HOk P w H h) : ∀ {d : List Dt} {v : List V} {u : List Value}, DRs H d v → Vals v u → DAs h d u
  | _, _, _, .nil, .nil => .nil
  | _, _, _, .cons r q, .cons a b => .cons (DR.da ok r a) (DRs.da ok q b)
end
end
section
variable {s : Shared}
theorem eqAt_DA : ∀ (n : Nat) (A : Around) {d e : Dt} {u y : Value}, d.deep ≤ n → DA s.heap d u → DA s.heap e y → A.units + n < cLine → SeqAt.EqAt A s u y (Dt.beq d e) := by
  intro n
  induction n with
  | zero =>
    intro A d e u y hn rd re hu
    cases rd with
    | int i t =>
      cases re with
      | int j t' => rw [show Dt.beq (.int i) (.int j) = (i == j) by simp [Dt.beq, Bool.beq_eq_decide_eq]]; exact SeqAt.EqAt.int_int i t j t'
      | str x t' => exact SeqAt.EqAt.int_str i t x t'
      | tup h r => exact SeqAt.EqAt.int_tuple i t h (by omega)
    | str x t =>
      cases re with
      | int j t' => exact SeqAt.EqAt.str_int x t j t'
      | str w' t' => rw [show Dt.beq (.str x) (.str w') = (x == w') by simp [Dt.beq, Bool.beq_eq_decide_eq]]; exact SeqAt.EqAt.str_str x t w' t'
      | tup h r => exact SeqAt.EqAt.str_tuple x t h (by omega)
    | tup h r => simp [Dt.deep] at hn
  | succ n ih =>
    intro A d e u y hn rd re hu
    cases rd with
    | int i t =>
      cases re with
      | int j t' => rw [show Dt.beq (.int i) (.int j) = (i == j) by simp [Dt.beq, Bool.beq_eq_decide_eq]]; exact SeqAt.EqAt.int_int i t j t'
      | str x t' => exact SeqAt.EqAt.int_str i t x t'
      | tup h r => exact SeqAt.EqAt.int_tuple i t h (by omega)
    | str x t =>
      cases re with
      | int j t' => exact SeqAt.EqAt.str_int x t j t'
      | str w' t' => rw [show Dt.beq (.str x) (.str w') = (x == w') by simp [Dt.beq, Bool.beq_eq_decide_eq]]; exact SeqAt.EqAt.str_str x t w' t'
      | tup h r => exact SeqAt.EqAt.str_tuple x t h (by omega)
    | @tup a items ds ha rs =>
      have hn' : Dt.deeps ds ≤ n := by simpa [Dt.deep] using hn
      cases re with
      | int j t' => exact SeqAt.EqAt.tuple_int j t' ha (by omega)
      | str w' t' => exact SeqAt.EqAt.tuple_str w' t' ha (by omega)
      | @tup b items2 es hb rs' =>
        by_cases hab : a = b
        · subst hab
          have := istup_inj ha hb
          subst this
          have : ds = es := DAs.inj rs rs'
          subst this
          rw [show Dt.beq (.tup ds) (.tup ds) = true from Dt.beq_iff.mpr rfl]
          exact SeqAt.EqAt.same _
        · refine SeqAt.EqAt.of_refs hab ?_
          have m1 := rs.length
          have m2 := rs'.length
          have key := SeqAt.RcAt.tuples (A := A) (s := s) (e := fun j => match ds[j]?, es[j]? with | some d, some e => Dt.beq d e | _, _ => false) ha hb (by omega) fun j h1 h2 => by
            obtain ⟨d1, ed, rd1⟩ := rs.get (show items.toList[j]? = some items[j] by simp [h1])
            obtain ⟨d2, ed2, rd2⟩ := rs'.get (show items2.toList[j]? = some items2[j] by simp [h2])
            simp only [ed, ed2]
            exact ih A.in1 (Nat.le_trans (deep_get ed) hn') rd1 rd2 (by rw [show A.in1.units = A.units + 1 from rfl]; omega)
          have ez : Dt.beq (.tup ds) (.tup es) = ((List.range (min items.size items2.size)).all (fun j => match ds[j]?, es[j]? with | some d, some e => Dt.beq d e | _, _ => false) && items.size == items2.size) := by
            rw [show Dt.beq (.tup ds) (.tup es) = Dt.beqs ds es by simp [Dt.beq], beqs_all]
            have a1 : items.size = ds.length := by rw [m1]; simp
            have a2 : items2.size = es.length := by rw [m2]; simp
            rw [a1, a2]
            try rfl
          rw [ez]
          exact key
end
mutual
def Dt.hsh (w : World) : Dt → Int
  | .int i => hashInt i
  | .str x => hashStr w x
  | .tup ds => reduceHash (Builtin.Tuple.tupleHashOf (Dt.hshs w ds))
def Dt.hshs (w : World) : List Dt → List Int
  | [] => []
  | d :: ds => Dt.hsh w d :: Dt.hshs w ds
end
mutual
def Dt.draws : Dt → Nat
  | .int _ => 1
  | .str _ => 1
  | .tup ds => Dt.drawss ds + 1
def Dt.drawss : List Dt → Nat
  | [] => 0
  | d :: ds => Dt.draws d + Dt.drawss ds
end
section
variable {prog : Program} {w : World} {E : Value → Shared → Prop}
end
end L2
set_option Elab.async false
set_option linter.all false
set_option maxRecDepth 100000
set_option maxHeartbeats 4000000
namespace L2
open PySem PySem.Spec PyProof.Rows PySem.W
def strLt (x y : Str) : Bool := decide (x.cps.toList < y.cps.toList)
theorem strLt_irr (x : Str) : strLt x x = false := by unfold strLt; exact decide_eq_false (List.lt_irrefl _)
theorem strLt_trans {x y z : Str} (h : strLt x y = true) (k : strLt y z = true) : strLt x z = true := by
  unfold strLt at *
  exact decide_eq_true (List.lt_trans (of_decide_eq_true h) (of_decide_eq_true k))
theorem strLt_tri {x y : Str} (h : strLt x y = false) (k : strLt y x = false) : x = y := by
  unfold strLt at *
  have a := of_decide_eq_false h
  have b := of_decide_eq_false k
  have : x.cps.toList = y.cps.toList := List.le_antisymm (List.not_lt.mp b) (List.not_lt.mp a)
  cases x; cases y
  congr 1
  exact Array.toList_inj.mp this
mutual
def Dt.lt : Dt → Dt → Bool
  | .int i, .int j => decide (i < j)
  | .str x, .str y => strLt x y
  | .tup ds, .tup es => Dt.lts ds es
  | .int _, .str _ => true
  | .int _, .tup _ => true
  | .str _, .tup _ => true
  | .str _, .int _ => false
  | .tup _, .int _ => false
  | .tup _, .str _ => false
def Dt.lts : List Dt → List Dt → Bool
  | [], [] => false
  | [], _ :: _ => true
  | _ :: _, [] => false
  | d :: ds, e :: es => if Dt.beq d e = true then Dt.lts ds es else Dt.lt d e
end
theorem beq_self' (d : Dt) : Dt.beq d d = true := Dt.beq_iff.mpr rfl
mutual
theorem Dt.lt_irr : ∀ d : Dt, Dt.lt d d = false
  | .int i => by simp [Dt.lt]
  | .str x => by rw [Dt.lt]; exact strLt_irr x
  | .tup ds => by rw [Dt.lt]; exact Dt.lts_irr ds
theorem Dt.lts_irr : ∀ ds : List Dt, Dt.lts ds ds = false
  | [] => rfl
  | d :: ds => by rw [Dt.lts, if_pos (beq_self' d)]; exact Dt.lts_irr ds
end
mutual
theorem Dt.lt_tri : ∀ {d e : Dt}, Dt.lt d e = false → Dt.lt e d = false → d = e
  | .int i, .int j, h, k => by simp [Dt.lt] at h k; rw [show i = j by omega]
  | .str x, .str y, h, k => by rw [Dt.lt] at h k; rw [strLt_tri h k]
  | .tup ds, .tup es, h, k => by rw [Dt.lt] at h k; rw [Dt.lts_tri h k]
  | .int _, .str _, h, k => by simp [Dt.lt] at h
  | .int _, .tup _, h, k => by simp [Dt.lt] at h
  | .str _, .tup _, h, k => by simp [Dt.lt] at h
  | .str _, .int _, h, k => by simp [Dt.lt] at k
  | .tup _, .int _, h, k => by simp [Dt.lt] at k
  | .tup _, .str _, h, k => by simp [Dt.lt] at k
theorem Dt.lts_tri : ∀ {ds es : List Dt}, Dt.lts ds es = false → Dt.lts es ds = false → ds = es
  | [], [], _, _ => rfl
  | [], _ :: _, h, k => by simp [Dt.lts] at h
  | _ :: _, [], h, k => by simp [Dt.lts] at k
  | d :: ds, e :: es, h, k => by
    rw [Dt.lts] at h k
    by_cases c : d = e
    · subst c
      rw [if_pos (beq_self' d)] at h k
      rw [Dt.lts_tri h k]
    · rw [if_neg (fun z => c (Dt.beq_iff.mp z))] at h
      rw [if_neg (fun z => c (Dt.beq_iff.mp z).symm)] at k
      exact absurd (Dt.lt_tri h k) c
end
theorem strLt_asym {x y : Str} (h : strLt x y = true) : strLt y x = false := by
  cases e : strLt y x with
  | false => rfl
  | true => have := strLt_trans h e; rw [strLt_irr] at this; cases this
mutual
theorem Dt.lt_asym : ∀ {d e : Dt}, Dt.lt d e = true → Dt.lt e d = false
  | .int i, .int j, h => by simp [Dt.lt] at h ⊢; omega
  | .str x, .str y, h => by rw [Dt.lt] at h ⊢; exact strLt_asym h
  | .tup ds, .tup es, h => by rw [Dt.lt] at h ⊢; exact Dt.lts_asym h
  | .int _, .str _, h => by simp [Dt.lt]
  | .int _, .tup _, h => by simp [Dt.lt]
  | .str _, .tup _, h => by simp [Dt.lt]
  | .str _, .int _, h => by simp [Dt.lt] at h
  | .tup _, .int _, h => by simp [Dt.lt] at h
  | .tup _, .str _, h => by simp [Dt.lt] at h
theorem Dt.lts_asym : ∀ {ds es : List Dt}, Dt.lts ds es = true → Dt.lts es ds = false
  | [], [], h => by simp [Dt.lts] at h
  | [], _ :: _, h => by simp [Dt.lts]
  | _ :: _, [], h => by simp [Dt.lts] at h
  | d :: ds, e :: es, h => by
    rw [Dt.lts] at h ⊢
    by_cases c : d = e
    · subst c
      rw [if_pos (beq_self' d)] at h ⊢
      exact Dt.lts_asym h
    · rw [if_neg (fun z => c (Dt.beq_iff.mp z))] at h
      rw [if_neg (fun z => c (Dt.beq_iff.mp z).symm)]
      exact Dt.lt_asym h
end
mutual
theorem Dt.lt_trans : ∀ {d e f : Dt}, Dt.lt d e = true → Dt.lt e f = true → Dt.lt d f = true
  | .int i, .int j, .int k, h, l => by simp [Dt.lt] at h l ⊢; omega
  | .str x, .str y, .str z, h, l => by rw [Dt.lt] at h l ⊢; exact strLt_trans h l
  | .tup ds, .tup es, .tup fs, h, l => by rw [Dt.lt] at h l ⊢; exact Dt.lts_trans h l
  | .int _, _, .str _, h, l => by simp [Dt.lt]
  | .int _, _, .tup _, h, l => by simp [Dt.lt]
  | .str _, _, .tup _, h, l => by simp [Dt.lt]
  | .int _, .str _, .int _, h, l => by simp [Dt.lt] at l
  | .int _, .tup _, .int _, h, l => by simp [Dt.lt] at l
  | .str _, .int _, _, h, l => by simp [Dt.lt] at h
  | .str _, .str _, .int _, h, l => by simp [Dt.lt] at l
  | .str _, .tup _, .int _, h, l => by simp [Dt.lt] at l
  | .str _, .tup _, .str _, h, l => by simp [Dt.lt] at l
  | .tup _, .int _, _, h, l => by simp [Dt.lt] at h
  | .tup _, .str _, _, h, l => by simp [Dt.lt] at h
  | .tup _, .tup _, .int _, h, l => by simp [Dt.lt] at l
  | .tup _, .tup _, .str _, h, l => by simp [Dt.lt] at l
theorem Dt.lts_trans : ∀ {ds es fs : List Dt}, Dt.lts ds es = true → Dt.lts es fs = true → Dt.lts ds fs = true
  | [], _, _ :: _, h, l => by simp [Dt.lts]
  | [], [], [], h, l => by simp [Dt.lts] at h
  | [], _ :: _, [], h, l => by simp [Dt.lts] at l
  | _ :: _, [], _, h, l => by simp [Dt.lts] at h
  | _ :: _, _ :: _, [], h, l => by simp [Dt.lts] at l
  | d :: ds, e :: es, f :: fs, h, l => by
    rw [Dt.lts] at h l ⊢
    by_cases c : d = e
    · subst c
      rw [if_pos (beq_self' d)] at h
      by_cases c2 : d = f
      · subst c2
        rw [if_pos (beq_self' d)] at l ⊢
        exact Dt.lts_trans h l
      · rw [if_neg (fun z => c2 (Dt.beq_iff.mp z))] at l ⊢
        exact l
    · rw [if_neg (fun z => c (Dt.beq_iff.mp z))] at h
      by_cases c2 : e = f
      · subst c2
        rw [if_neg (fun z => c (Dt.beq_iff.mp z))]
        exact h
      · rw [if_neg (fun z => c2 (Dt.beq_iff.mp z))] at l
        have c3 : d ≠ f := fun z => by
          subst z
          have := Dt.lt_asym h
          rw [l] at this
          cases this
        rw [if_neg (fun z => c3 (Dt.beq_iff.mp z))]
        exact Dt.lt_trans h l
end
theorem Dt.lt_neg {d e f : Dt} (h : Dt.lt d e = false) (k : Dt.lt e f = false) : Dt.lt d f = false := by
  cases z : Dt.lt d f with
  | false => rfl
  | true =>
    cases a : Dt.lt f e with
    | true => have := Dt.lt_trans z a; rw [h] at this; cases this
    | false =>
      have := Dt.lt_tri k a
      subst this
      rw [h] at z
      cases z
inductive Ty where
  | int | str | many (t : Ty) | two (a b : Ty)
mutual
def Dt.has : Ty → Dt → Bool
  | .int, .int _ => true
  | .str, .str _ => true
  | .many t, .tup ds => Dt.hass t ds
  | .two a b, .tup ds => Dt.hasp a b ds
  | _, _ => false
def Dt.hass : Ty → List Dt → Bool
  | _, [] => true
  | t, d :: ds => Dt.has t d && Dt.hass t ds
def Dt.hasp : Ty → Ty → List Dt → Bool
  | a, b, d :: es => Dt.has a d && Dt.hasq b es
  | _, _, _ => false
def Dt.hasq : Ty → List Dt → Bool
  | b, e :: es => Dt.has b e && (es.length == 0)
  | _, _ => false
end
mutual
def Dt.cmp : Dt → Dt → Bool
  | .int _, .int _ => true
  | .str _, .str _ => true
  | .tup ds, .tup es => Dt.cmps ds es
  | _, _ => false
def Dt.cmps : List Dt → List Dt → Bool
  | [], _ => true
  | _ :: _, [] => true
  | d :: ds, e :: es => if Dt.beq d e = true then Dt.cmps ds es else Dt.cmp d e
end
theorem cmps_of {ds es : List Dt} : (∀ d ∈ ds, ∀ e ∈ es, Dt.cmp d e = true) → Dt.cmps ds es = true := by
  induction ds generalizing es with
  | nil => intro _; cases es <;> rfl
  | cons d ds ih =>
    intro h
    cases es with
    | nil => rfl
    | cons e es =>
      rw [Dt.cmps]
      by_cases c : Dt.beq d e = true
      · rw [if_pos c]
        exact ih fun x hx y hy => h x (List.mem_cons_of_mem _ hx) y (List.mem_cons_of_mem _ hy)
      · rw [if_neg c]
        exact h d List.mem_cons_self e List.mem_cons_self
end L2
set_option Elab.async false
set_option linter.all false
set_option maxRecDepth 100000
set_option maxHeartbeats 4000000
namespace L2
open PySem PySem.Calls PySem.Spec PyProof.Rows PySem.W
open AutoSeq1 (wpAny_loadPart')
def LtAt (A : Around) (s : Shared) (u y : Value) (b : Bool) : Prop :=
  ∀ (prog : Program) (w : World) (E : Value → Shared → Prop) (Q : Value → Shared → Prop), Q (.bool b) s → wpAny (model prog w) A (compareOp .Lt u y) Q E s
def lexF (e f : Nat → Bool) (n m i : Nat) : Nat → Bool
  | 0 => decide (n < m)
  | k + 1 => if e i = true then lexF e f n m (i + 1) k else f i
theorem tuple_ltG (l b : Addr) (items items2 : Array Value) (n n2 : Nat) (dd dd2 : Option Addr) (sl sl2 : Array (Option Value)) (e f : Nat → Bool) :
    Meets (Builtin.«tuple.__lt__» ⟨[.ref l, .ref b], []⟩)
      (fun A R s => s.heap.get? l = some { cls := .type "tuple", dict := dd, data := .seq items n, slots := sl } ∧ s.heap.get? b = some { cls := .type "tuple", dict := dd2, data := .seq items2 n2, slots := sl2 } ∧
        (∀ j (h1 : j < items.size) (h2 : j < items2.size), SeqAt.EqAt A.in1 s items[j] items2[j] (e j)) ∧
        (∀ j (h1 : j < items.size) (h2 : j < items2.size), e j = false → (∀ i, i < j → e i = true) → LtAt A.in1 s items[j] items2[j] (f j)) ∧
        R (.ok (.ret (.bool (lexF e f items.size items2.size 0 (min items.size items2.size))))) s) :=
  .of_wp fun prog w A R s h => by
    obtain ⟨hp, g, d, tk, os⟩ := s; obtain ⟨hl, hb, he, hf, h⟩ := h
    have f2 := AutoSeq1.sub_tuple_tuple
    have hZ : (items.toList.zip items2.toList).length = min items.size items2.size := by simp
    wp_walk using wpAny_loadPart' hl, wpAny_loadPart' hb, wpAny_forIn_list _ (fun rest b s' => b.1 = none ∧ s' = ⟨hp, g, d, tk, os⟩ ∧ ∃ i, rest = (items.toList.zip items2.toList).drop i ∧ i ≤ min items.size items2.size ∧ (∀ j, j < i → e j = true) ∧
      R (.ok (.ret (.bool (lexF e f items.size items2.size i (min items.size items2.size - i))))) ⟨hp, g, d, tk, os⟩) _
    case turn =>
      rintro ⟨y, x⟩ rest b s' ⟨hb', rfl, i, hz, him, hpre, hR⟩
      have hlt : i < (items.toList.zip items2.toList).length := by
        rcases Nat.lt_or_ge i (items.toList.zip items2.toList).length with h' | h'
        · exact h'
        · rw [List.drop_of_length_le h'] at hz; cases hz
      have hm : i < min items.size items2.size := hZ ▸ hlt
      have h1 : i < items.size := Nat.lt_of_lt_of_le hm (Nat.min_le_left _ _)
      have h2 : i < items2.size := Nat.lt_of_lt_of_le hm (Nat.min_le_right _ _)
      rw [List.drop_eq_getElem_cons hlt] at hz
      injection hz with hyx hrest
      have hy : y = items[i] := by have := congrArg Prod.fst hyx; simpa using this
      have hx : x = items2[i] := by have := congrArg Prod.snd hyx; simpa using this
      subst hy hx
      obtain ⟨k, hk⟩ : ∃ k, min items.size items2.size - i = k + 1 := ⟨min items.size items2.size - i - 1, by omega⟩
      have hk' : min items.size items2.size - (i + 1) = k := by omega
      rw [hk, lexF] at hR
      refine wpAny_bind (he i h1 h2 prog w _ _ ?_)
      cases hy : e i with
      | true =>
        rw [hy, if_pos rfl] at hR
        wp_walk
        exact ⟨rfl, rfl, i + 1, hrest, by omega, fun j hj => by
          by_cases c : j = i
          · rw [c]; exact hy
          · exact hpre j (by omega), by rw [hk']; exact hR⟩
      | false =>
        rw [hy] at hR
        rw [if_pos (by rfl)]
        refine wpAny_bind (wpAny_rule (wpAny_bind (hf i h1 h2 hy hpre prog w _ _ ?_)))
        wp_walk
        exact ⟨_, rfl, by simpa using hR⟩
    case fin =>
      rintro ⟨b1, b2⟩ s' ⟨hb', rfl, i, hz, him, hpre, hR⟩
      simp only at hb'
      subst hb'
      have hge : min items.size items2.size ≤ i := by
        rcases Nat.lt_or_ge i (items.toList.zip items2.toList).length with h' | h'
        · rw [List.drop_eq_getElem_cons h'] at hz; cases hz
        · exact hZ ▸ h'
      rw [show min items.size items2.size - i = 0 by omega, lexF] at hR
      wp_walk
      exact ⟨_, rfl, by simpa [Builtin.Tuple.tupleCompareSizes] using hR⟩
    case h =>
      exact ⟨rfl, rfl, 0, rfl, Nat.zero_le _, fun j hj => by omega, by simpa using h⟩
theorem LtAt.tuples {A : Around} {s : Shared} {l b : Addr} {items items2 : Array Value} {e f : Nat → Bool} (hl : s.heap.IsTuple l items) (hb : s.heap.IsTuple b items2) (hu : A.units < cLine)
    (he : ∀ j (h1 : j < items.size) (h2 : j < items2.size), SeqAt.EqAt A.in1 s items[j] items2[j] (e j))
    (hf : ∀ j (h1 : j < items.size) (h2 : j < items2.size), e j = false → (∀ i, i < j → e i = true) → LtAt A.in1 s items[j] items2[j] (f j)) : LtAt A s (.ref l) (.ref b) (lexF e f items.size items2.size 0 (min items.size items2.size)) := fun prog w E Q h => by
  obtain ⟨⟨cls, dd, data, sl⟩, ho, hc, n, hd⟩ := id hl
  obtain ⟨⟨cls2, dd2, data2, sl2⟩, ho2, hc2, n2, hd2⟩ := id hb
  simp only at hc hd hc2 hd2
  subst hc hd hc2 hd2
  exact richCompare_meets_room (op := .Lt) ⟨_, ho, rfl⟩ ⟨_, ho2, rfl⟩ F.slot_tuple_lt F.entry_tuple_lt (F.args_tuple_lt_2 _ _) (tuple_ltG l b items items2 n n2 dd dd2 sl sl2 e f)
    ⟨ho, ho2, he, hf, show Value.bool (lexF e f items.size items2.size 0 (min items.size items2.size)) ≠ Value.notImplemented ∧ Q (.bool (lexF e f items.size items2.size 0 (min items.size items2.size))) s from ⟨(fun x => nomatch x), h⟩⟩ hu
def eAt (ds es : List Dt) (j : Nat) : Bool := match ds[j]?, es[j]? with | some d, some e => Dt.beq d e | _, _ => false
def fAt (ds es : List Dt) (j : Nat) : Bool := match ds[j]?, es[j]? with | some d, some e => Dt.lt d e | _, _ => false
theorem lexF_lts : ∀ (ds es ds0 es0 : List Dt) (i : Nat), ds = ds0.drop i → es = es0.drop i → i ≤ min ds0.length es0.length → lexF (eAt ds0 es0) (fAt ds0 es0) ds0.length es0.length i (min ds0.length es0.length - i) = Dt.lts ds es
  | [], es, ds0, es0, i, h1, h2, hi => by
    have : ds0.length ≤ i := List.drop_eq_nil_iff.mp h1.symm
    have l2 : es.length = es0.length - i := by rw [h2, List.length_drop]
    rw [show min ds0.length es0.length - i = 0 by omega, lexF]
    cases es with
    | nil => rw [Dt.lts]; exact decide_eq_false (by simp at l2; omega)
    | cons e es => rw [Dt.lts]; exact decide_eq_true (by simp at l2; omega)
  | d :: ds, [], ds0, es0, i, h1, h2, hi => by
    have : es0.length ≤ i := List.drop_eq_nil_iff.mp h2.symm
    rw [show min ds0.length es0.length - i = 0 by omega, lexF, Dt.lts]
    exact decide_eq_false (by omega)
  | d :: ds, e :: es, ds0, es0, i, h1, h2, hi => by
    have l1 : (d :: ds).length = ds0.length - i := by rw [h1, List.length_drop]
    have l2 : (e :: es).length = es0.length - i := by rw [h2, List.length_drop]
    simp only [List.length_cons] at l1 l2
    have g1 : ds0[i]? = some d := by have := congrArg (·[0]?) h1; simpa using this.symm
    have g2 : es0[i]? = some e := by have := congrArg (·[0]?) h2; simpa using this.symm
    have t1 : ds = ds0.drop (i + 1) := by have := congrArg List.tail h1; simpa using this
    have t2 : es = es0.drop (i + 1) := by have := congrArg List.tail h2; simpa using this
    rw [show min ds0.length es0.length - i = (min ds0.length es0.length - (i + 1)) + 1 by omega, lexF, Dt.lts]
    have a1 : eAt ds0 es0 i = Dt.beq d e := by unfold eAt; rw [g1, g2]
    have a2 : fAt ds0 es0 i = Dt.lt d e := by unfold fAt; rw [g1, g2]
    rw [a1, a2, lexF_lts ds es ds0 es0 (i + 1) t1 t2 (by omega)]
theorem cmps_first : ∀ {ds es : List Dt} {j : Nat} {d e : Dt}, Dt.cmps ds es = true → ds[j]? = some d → es[j]? = some e → Dt.beq d e = false → (∀ i, i < j → eAt ds es i = true) → Dt.cmp d e = true
  | [], _, _, _, _, _, h, _, _, _ => by simp at h
  | _ :: _, [], _, _, _, _, _, h, _, _ => by simp at h
  | x :: ds, y :: es, 0, d, e, h, h1, h2, hb, _ => by
    simp at h1 h2
    subst h1 h2
    rw [Dt.cmps, if_neg (by rw [hb]; simp)] at h
    exact h
  | x :: ds, y :: es, j + 1, d, e, h, h1, h2, hb, hp => by
    have h0 : Dt.beq x y = true := by have := hp 0 (by omega); simpa [eAt] using this
    rw [Dt.cmps, if_pos h0] at h
    exact cmps_first h (by simpa using h1) (by simpa using h2) hb fun i hi => by have := hp (i + 1) (by omega); simpa [eAt] using this
theorem ltAt_DA {s : Shared} : ∀ (n : Nat) (A : Around) {d e : Dt} {u y : Value}, d.deep ≤ n → Dt.cmp d e = true → DA s.heap d u → DA s.heap e y → A.units + n < cLine → LtAt A s u y (Dt.lt d e) := by
  intro n
  induction n with
  | zero =>
    intro A d e u y hn hc rd re hu
    cases rd with
    | int i t =>
      cases re with
      | int j t' => intro prog w E Q h; exact PyProof.Rows.lt_int (by rw [Dt.lt] at h; exact h)
      | _ => simp [Dt.cmp] at hc
    | str x t =>
      cases re with
      | str x' t' => intro prog w E Q h; exact PyProof.Rows.lt_str (by rw [Dt.lt] at h; exact h)
      | _ => simp [Dt.cmp] at hc
    | tup _ _ => simp [Dt.deep] at hn
  | succ n ih =>
    intro A d e u y hn hc rd re hu
    cases rd with
    | int i t =>
      cases re with
      | int j t' => intro prog w E Q h; exact PyProof.Rows.lt_int (by rw [Dt.lt] at h; exact h)
      | _ => simp [Dt.cmp] at hc
    | str x t =>
      cases re with
      | str x' t' => intro prog w E Q h; exact PyProof.Rows.lt_str (by rw [Dt.lt] at h; exact h)
      | _ => simp [Dt.cmp] at hc
    | @tup a items ds ha rs =>
      have hn' : Dt.deeps ds ≤ n := by simpa [Dt.deep] using hn
      cases re with
      | @tup b items2 es hb rs' =>
        have m1 := rs.length
        have m2 := rs'.length
        have s1 : items.size = ds.length := by rw [m1]; simp
        have s2 : items2.size = es.length := by rw [m2]; simp
        rw [Dt.cmp] at hc
        have key := LtAt.tuples (A := A) (s := s) (e := eAt ds es) (f := fAt ds es) ha hb (by omega)
          (fun j h1 h2 => by
            obtain ⟨d1, ed, rd1⟩ := rs.get (show items.toList[j]? = some items[j] by simp [h1])
            obtain ⟨d2, ed2, rd2⟩ := rs'.get (show items2.toList[j]? = some items2[j] by simp [h2])
            have : eAt ds es j = Dt.beq d1 d2 := by unfold eAt; rw [ed, ed2]
            rw [this]
            exact eqAt_DA n A.in1 (Nat.le_trans (deep_get ed) hn') rd1 rd2 (by rw [show A.in1.units = A.units + 1 from rfl]; omega))
          (fun j h1 h2 hne hpre => by
            obtain ⟨d1, ed, rd1⟩ := rs.get (show items.toList[j]? = some items[j] by simp [h1])
            obtain ⟨d2, ed2, rd2⟩ := rs'.get (show items2.toList[j]? = some items2[j] by simp [h2])
            have e1 : eAt ds es j = Dt.beq d1 d2 := by unfold eAt; rw [ed, ed2]
            have e2 : fAt ds es j = Dt.lt d1 d2 := by unfold fAt; rw [ed, ed2]
            rw [e2]
            exact ih A.in1 (Nat.le_trans (deep_get ed) hn') (cmps_first hc ed ed2 (e1 ▸ hne) hpre) rd1 rd2 (by rw [show A.in1.units = A.units + 1 from rfl]; omega))
        rw [s1, s2] at key
        have ez := lexF_lts ds es ds es 0 rfl rfl (Nat.zero_le _)
        rw [Nat.sub_zero] at ez
        rw [ez] at key
        rw [Dt.lt]
        exact key
      | _ => simp [Dt.cmp] at hc
end L2
set_option Elab.async false
set_option linter.all false
set_option maxRecDepth 100000
set_option maxHeartbeats 4000000
namespace L2
open PySem PySem.Calls PySem.Spec PyProof.Rows PySem.W
section
variable {prog : Program} {w : World} {A : Around} {E : Value → Shared → Prop} {s : Shared}
theorem key_general {u y : Value} {b : Bool} {Q : Bool → Shared → Prop} (hl : LtAt A s u y b) (h : Q b s) : wpAny (model prog w) A (keyLt' general' u y) Q E s := by
  show wpAny (model prog w) A (oneLt' false u y) Q E s
  exact kat_one _ _ (hl prog w E _ h)
theorem key_oneType {a b : Addr} {ds es : List Dt} {items items2 : Array Value} {Q : Bool → Shared → Prop} (ha : s.heap.IsTuple a items) (hb : s.heap.IsTuple b items2) (n : Nat) (hn : Dt.deeps ds ≤ n) (hc : Dt.cmps ds es = true)
    (rs : DAs s.heap ds items.toList) (rs' : DAs s.heap es items2.toList) (hu : A.units + (n + 1) < cLine) (h : Q (Dt.lts ds es) s) : wpAny (model prog w) A (keyLt' oneType' (.ref a) (.ref b)) Q E s := by
  rw [keyLt'_oneType, oneLt'_eq]
  simp only [if_true]
  refine wpAny_bind (wpAny_cRoomFor (by omega) ?_)
  obtain ⟨⟨cls, dd, data, sl⟩, ho, hcl, m, hd⟩ := id ha
  obtain ⟨⟨cls2, dd2, data2, sl2⟩, ho2, hcl2, m2, hd2⟩ := id hb
  simp only at hcl hd hcl2 hd2
  subst hcl hd hcl2 hd2
  have l1 := rs.length
  have l2 := rs'.length
  have s1 : items.size = ds.length := by rw [l1]; simp
  have s2 : items2.size = es.length := by rw [l2]; simp
  have ez := lexF_lts ds es ds es 0 rfl rfl (Nat.zero_le _)
  rw [Nat.sub_zero] at ez
  refine wpAny_bind (wpAny_callSpecialIfBound?_slot (s := s) (T := "tuple") ⟨_, ho, rfl⟩ F.slot_tuple_lt (call_meets (s := s) F.slot_tuple_lt ⟨_, ho, rfl⟩ F.entry_tuple_lt (F.args_tuple_lt_2 _ _) (tuple_ltG a b items items2 m m2 dd dd2 sl sl2 (eAt ds es) (fAt ds es)) ⟨ho, ho2, ?_, ?_, ?_⟩))
  · intro j h1 h2
    obtain ⟨d1, ed, rd1⟩ := rs.get (show items.toList[j]? = some items[j] by simp [h1])
    obtain ⟨d2, ed2, rd2⟩ := rs'.get (show items2.toList[j]? = some items2[j] by simp [h2])
    have : eAt ds es j = Dt.beq d1 d2 := by unfold eAt; rw [ed, ed2]
    rw [this]
    exact eqAt_DA n A.in1 (Nat.le_trans (deep_get ed) hn) rd1 rd2 (by rw [show A.in1.units = A.units + 1 from rfl]; omega)
  · intro j h1 h2 hne hpre
    obtain ⟨d1, ed, rd1⟩ := rs.get (show items.toList[j]? = some items[j] by simp [h1])
    obtain ⟨d2, ed2, rd2⟩ := rs'.get (show items2.toList[j]? = some items2[j] by simp [h2])
    have e1 : eAt ds es j = Dt.beq d1 d2 := by unfold eAt; rw [ed, ed2]
    have e2 : fAt ds es j = Dt.lt d1 d2 := by unfold fAt; rw [ed, ed2]
    rw [e2]
    exact ltAt_DA n A.in1 (Nat.le_trans (deep_get ed) hn) (cmps_first hc ed ed2 (e1 ▸ hne) hpre) rd1 rd2 (by rw [show A.in1.units = A.units + 1 from rfl]; omega)
  · rw [s1, s2, ez]
    show wpAny _ _ (truthOfDropped (.bool (Dt.lts ds es))) Q E s
    exact wpAny_truthy_bool h
theorem key_lex {b : Bool} {Q : Bool → Shared → Prop} (n : Nat) (hu : A.units + (n + 1) < cLine) : ∀ {ds es : List Dt} {us ys : List Value} (i : Nat), DAs s.heap ds us → DAs s.heap es ys → Dt.deeps ds ≤ n → Dt.cmps ds es = true →
    (b = true → i = 0 → ∀ d ∈ ds.head?, ∀ e ∈ es.head?, ∃ x z, d = .str x ∧ e = .str z) → ∀ {fin : Bool}, fin = decide (ds.length < es.length) → Q (Dt.lts ds es) s → KatLex prog w A b fin Q (us.zip ys) i s
  | _, _, _, _, i, .nil, .nil, _, _, _, _, hf, h => by subst hf; exact h
  | _, _, _, _, i, .nil, .cons _ _, _, _, _, _, hf, h => by subst hf; exact h
  | _, _, _, _, i, .cons _ _, .nil, _, _, _, _, hf, h => by subst hf; exact h
  | d :: ds, e :: es, u :: us, y :: ys, i, .cons r q, .cons r' q', hn, hc, hb, fin, hf, h => by
    rw [Dt.deeps] at hn
    rw [Dt.lts] at h
    rw [List.zip_cons_cons]
    refine kat_cons (eqAt_DA n A (by omega) r r' (by omega) prog w _ _ ?_)
    by_cases c : Dt.beq d e = true
    · rw [c]
      rw [if_pos c] at h
      rw [Dt.cmps, if_pos c] at hc
      exact kat_yes (key_lex n hu (i + 1) q q' (by omega) hc (fun _ z => by omega) (by rw [hf]; simp) h)
    · rw [if_neg c] at h
      rw [Dt.cmps, if_neg c] at hc
      rw [show Dt.beq d e = false by simpa using c]
      refine kat_no ?_
      cases hb' : (b && i == 0) with
      | false => exact kat_one _ _ (ltAt_DA n A (by omega) hc r r' (by omega) prog w _ _ h)
      | true =>
        rw [Bool.and_eq_true] at hb'
        obtain ⟨x, z, rfl, rfl⟩ := hb hb'.1 (by simpa using hb'.2) d rfl e rfl
        cases r with
        | str _ t => cases r' with
          | str _ t' => exact oneLt_str (by rw [Dt.lt] at h; exact h)
theorem firsts_DA : ∀ {ds : List Dt} {vs : List Value}, DAs s.heap ds vs → (∀ d ∈ ds, ∃ r, d = .tup r) → ∀ {Q : List (Option Value) → Shared → Prop}, (∀ fs : List (Option Value), fs.length = ds.length → (∀ j : Nat, (fs[j]? = some none) ↔ ds[j]? = some (Dt.tup [])) → Q fs s) → wpAny (model prog w) A (vs.mapM firstOfTuple') Q E s
  | _, _, .nil, _, Q, h => by rw [List.mapM_nil]; exact wpAny_pure (h [] rfl (by simp))
  | d :: ds, v :: vs, .cons r q, ht, Q, h => by
    obtain ⟨l, rfl⟩ := ht d List.mem_cons_self
    cases r with
    | @tup a items _ ha ri =>
      obtain ⟨o, ho, hc, n, hd⟩ := ha
      rw [List.mapM_cons]
      refine wpAny_bind ?_
      rw [kas_first_eq]
      refine wpAny_bind (Looks.here (show Looks (model prog w) s.heap (typeOf (.ref a)) o.cls from (Looks.ld ho).andThen .now) ?_)
      rw [hc, if_neg (by first | decide | simp)]
      refine wpAny_bind (listItems_at ho hd (wpAny_pure ?_))
      refine wpAny_bind (firsts_DA q (fun d hd => ht d (List.mem_cons_of_mem _ hd)) (Q := fun bs s' => wpAny _ A (pure (items[0]? :: bs)) Q E s') fun fs hl hj => wpAny_pure (h _ (by simp [hl]) fun j => ?_))
      cases j with
      | zero =>
        have l1 := ri.length
        cases l with
        | nil =>
          have : items.size = 0 := by simpa using l1.symm
          simp [this]
        | cons x l =>
          have : 0 < items.size := by simp at l1; omega
          simp [this]
      | succ j => simpa using hj j
def GoodK (κ : SortKind) (ds : List Dt) : Prop := κ = general' ∨ κ = oneType' ∨ κ = tuples' false ∨ (κ = tuples' true ∧ ∀ d ∈ ds, ∃ x r, d = .tup (.str x :: r))
def Heads (ds : List Dt) : Prop := (∀ d ∈ ds, ∃ x r, d = .tup (.str x :: r)) ∨ ∀ d ∈ ds, d = .tup [] ∨ ∃ l r, d = .tup (.tup l :: r)
theorem katTups_of {T : Value} (hT : ∀ {d : Dt} {v : Value}, DA s.heap d v → (T = .type "str" ∧ ∃ x, d = .str x) ∨ (T = .type "tuple" ∧ ∃ l, d = .tup l) → Looks (model prog w) s.heap (typeOf v) T) : ∀ {ds : List Dt} {vs : List Value}, DAs s.heap ds vs → (∀ d ∈ ds, ∃ f r, d = .tup (f :: r) ∧ ((T = .type "str" ∧ ∃ x, f = .str x) ∨ (T = .type "tuple" ∧ ∃ l, f = .tup l))) →
    ∃ fs, KatTups s.heap vs fs ∧ fs.length = vs.length ∧ ∀ v ∈ fs, Looks (model prog w) s.heap (typeOf v) T
  | _, _, .nil, _ => ⟨[], trivial, rfl, fun v hv => nomatch hv⟩
  | d :: ds, v :: vs, .cons r q, ht => by
    obtain ⟨fs, h1, h2, h3⟩ := katTups_of hT q fun d hd => ht d (List.mem_cons_of_mem _ hd)
    obtain ⟨f, l, rfl, hf⟩ := ht d List.mem_cons_self
    cases r with
    | @tup a items _ ha ri =>
      obtain ⟨o, ho, hc, n, hd⟩ := ha
      generalize hit : items.toList = its at ri
      cases ri with
      | @cons _ u _ us r0 _ =>
        have h0 : items[0]? = some u := by rw [← Array.getElem?_toList, hit]; rfl
        refine ⟨u :: fs, KatTups.cons ho hc hd h0 h1, by simp [h2], fun v hv => ?_⟩
        rcases List.mem_cons.mp hv with rfl | hv
        · exact hT r0 hf
        · exact h3 v hv
theorem looks_DA {T : Value} {d : Dt} {v : Value} (r : DA s.heap d v) : (T = .type "str" ∧ ∃ x, d = .str x) ∨ (T = .type "tuple" ∧ ∃ l, d = .tup l) → Looks (model prog w) s.heap (typeOf v) T := by
  rintro (⟨rfl, x, rfl⟩ | ⟨rfl, l, rfl⟩)
  · cases r with
    | str _ t => exact Looks.of_pure rfl
  · cases r with
    | @tup a items _ ha _ =>
      obtain ⟨o, ho, hc, n, hd⟩ := ha
      have := (show Looks (model prog w) s.heap (typeOf (.ref a)) o.cls from (Looks.ld ho).andThen .now)
      rw [hc] at this
      exact this
theorem kind_DA {ds : List Dt} {vs : List Value} {Q : SortKind → Shared → Prop} (hd : DAs s.heap ds vs) (h2 : 2 ≤ vs.length) (hh : Heads ds) (h : ∀ κ, GoodK κ ds → Q κ s) : wpAny (model prog w) A (keyKind' vs.toArray) Q E s := by
  have hl := hd.length
  rcases hh with hh | hh
  · obtain ⟨fs, t1, t2, t3⟩ := katTups_of (prog := prog) (w := w) (T := .type "str") looks_DA hd fun d hd => by
      obtain ⟨x, r, rfl⟩ := hh d hd
      exact ⟨_, _, rfl, .inl ⟨rfl, x, rfl⟩⟩
    refine kat_kind (T := .type "str") t1 (by omega) t3 (by decide) (h _ (.inr (.inr (.inr ⟨?_, hh⟩))))
    rw [show (Value.type "str" != Value.type "tuple") = true by decide]
  · by_cases hall : ∀ d ∈ ds, d ≠ .tup []
    · obtain ⟨fs, t1, t2, t3⟩ := katTups_of (prog := prog) (w := w) (T := .type "tuple") looks_DA hd fun d hd => by
        rcases hh d hd with rfl | ⟨l, r, rfl⟩
        · exact absurd rfl (hall _ hd)
        · exact ⟨_, _, rfl, .inr ⟨rfl, l, rfl⟩⟩
      refine kat_kind (T := .type "tuple") t1 (by omega) t3 (by decide) (h _ (.inr (.inr (.inl ?_))))
      rw [show (Value.type "tuple" != Value.type "tuple") = false by decide]
    · have ht : ∀ d ∈ ds, ∃ r, d = .tup r := fun d hd => by
        rcases hh d hd with rfl | ⟨l, r, rfl⟩
        · exact ⟨_, rfl⟩
        · exact ⟨_, rfl⟩
      rw [kat_kind_eq, List.mapM_toArray, map_eq_pure_bind]
      refine wpAny_bind (wpAny_bind (firsts_DA hd ht fun fs hfl hj => wpAny_pure ?_))
      have hno : ¬ (fs.toArray.all fun x => x.isSome) = true := by
        intro z
        apply hall
        intro d hd e
        subst e
        obtain ⟨j, hjl, hje⟩ := List.getElem_of_mem hd
        have := (hj j).mpr (by rw [List.getElem?_eq_getElem hjl, hje])
        rw [List.all_toArray, List.all_eq_true] at z
        have := z none (List.mem_of_getElem? this)
        cases this
      rw [if_neg hno]
      by_cases c0 : ((fs.toArray[0]?.bind id).isSome) = true
      · rw [if_pos c0]
        exact wpAny_pure (h _ (.inl rfl))
      · rw [if_neg c0]
        rw [oneTypeOnly'_eq, List.mapM_toArray, map_eq_pure_bind]
        have hT : ∀ v ∈ vs, Looks (model prog w) s.heap (typeOf v) (.type "tuple") := fun v hv => by
          obtain ⟨j, hjl, hje⟩ := List.getElem_of_mem hv
          obtain ⟨d, ed, rd⟩ := hd.get (show vs[j]? = some v by rw [List.getElem?_eq_getElem hjl, hje])
          obtain ⟨l, rfl⟩ := ht d (List.mem_of_getElem? ed)
          exact looks_DA rd (.inr ⟨rfl, l, rfl⟩)
        refine wpAny_bind (wpAny_bind (wpAny_bind (kas_mapM (r := Value.type "tuple") _ (fun v hv Q' hq => (hT v hv).here hq) (wpAny_pure ?_))))
        obtain ⟨v1, vr, rfl⟩ : ∃ v1 vr, vs = v1 :: vr := by
          match vs, h2 with
          | v1 :: vr, _ => exact ⟨v1, vr, rfl⟩
        have h0 : (List.map (fun _ => Value.type "tuple") (v1 :: vr)).toArray[0]? = some (.type "tuple") := by simp
        have hall2 : ((List.map (fun _ => Value.type "tuple") (v1 :: vr)).toArray.all fun x => x == Value.type "tuple") = true := by
          simp only [List.all_toArray, List.all_map, List.all_eq_true]
          intro _ _
          show (Value.type "tuple" == Value.type "tuple") = true
          decide
        rw [h0]
        simp only [hall2, if_true]
        exact wpAny_pure (wpAny_pure (h _ (.inr (.inl rfl))))
theorem ask_DA {κ : SortKind} {ds : List Dt} (hg : GoodK κ ds) {d e : Dt} (hd : d ∈ ds) (he : e ∈ ds) (htd : ∃ r, d = .tup r) (hte : ∃ r, e = .tup r) (n : Nat) (hn : d.deep ≤ n) (hc : Dt.cmp d e = true) {u y : Value} (rd : DA s.heap d u) (re : DA s.heap e y) (hu : A.units + n < cLine) {Q : Bool → Shared → Prop} (h : Q (Dt.lt d e) s) :
    wpAny (model prog w) A (keyLt' κ u y) Q E s := by
  obtain ⟨r1, rfl⟩ := htd
  obtain ⟨r2, rfl⟩ := hte
  obtain ⟨m, rfl⟩ : ∃ m, n = m + 1 := ⟨n - 1, by rw [Dt.deep] at hn; omega⟩
  rcases hg with rfl | rfl | rfl | ⟨rfl, hs⟩
  · exact key_general (ltAt_DA (m + 1) A hn hc rd re hu) h
  · cases rd with
    | tup ha ra => cases re with
      | tup hb rb => exact key_oneType ha hb m (by rw [Dt.deep] at hn; omega) (by rw [Dt.cmp] at hc; exact hc) ra rb hu (by rw [Dt.lt] at h; exact h)
  · cases rd with
    | tup ha ra => cases re with
      | tup hb rb =>
        obtain ⟨o, ho, _, k, hd'⟩ := ha
        obtain ⟨o', ho', _, k', hd''⟩ := hb
        have l1 := ra.length
        have l2 := rb.length
        exact kat_lt ho hd' ho' hd'' (key_lex m hu 0 ra rb (by rw [Dt.deep] at hn; omega) (by rw [Dt.cmp] at hc; exact hc) (fun z => by cases z) (by rw [l1, l2]; simp) (by rw [Dt.lt] at h; exact h))
  · cases rd with
    | tup ha ra => cases re with
      | tup hb rb =>
        obtain ⟨o, ho, _, k, hd'⟩ := ha
        obtain ⟨o', ho', _, k', hd''⟩ := hb
        have l1 := ra.length
        have l2 := rb.length
        refine kat_lt ho hd' ho' hd'' (key_lex m hu 0 ra rb (by rw [Dt.deep] at hn; omega) (by rw [Dt.cmp] at hc; exact hc) (fun _ _ d1 h1 e1 h2 => ?_) (by rw [l1, l2]; simp) (by rw [Dt.lt] at h; exact h))
        obtain ⟨x, q, e3⟩ := hs _ hd
        obtain ⟨x', q', e4⟩ := hs _ he
        injection e3 with e3
        injection e4 with e4
        subst e3 e4
        simp at h1 h2
        exact ⟨x, x', h1.symm, h2.symm⟩
end
end L2
set_option Elab.async false
set_option linter.all false
set_option maxRecDepth 100000
set_option maxHeartbeats 4000000
namespace L2
open PySem PySem.Calls PySem.Spec PyProof.Rows PySem.W
section
variable {prog : Program} {w : World} {A : Around} {E : Value → Shared → Prop} {s : Shared}
end
def insD (d : Dt) : List Dt → List Dt
  | [] => [d]
  | e :: es => if Dt.lt e d = true then e :: insD d es else d :: e :: es
def sortD : List Dt → List Dt
  | [] => []
  | d :: ds => insD d (sortD ds)
def OrdD (ds : List Dt) : Prop := ds.Pairwise fun a b => Dt.lt b a = false
theorem insD_perm (d : Dt) : ∀ ds : List Dt, (insD d ds).Perm (d :: ds)
  | [] => .refl _
  | e :: es => by
    unfold insD
    split
    · exact ((insD_perm d es).cons e).trans (.swap d e es)
    · exact .refl _
theorem sortD_perm : ∀ ds : List Dt, (sortD ds).Perm ds
  | [] => .refl _
  | d :: ds => (insD_perm d _).trans ((sortD_perm ds).cons d)
theorem insD_ord (d : Dt) : ∀ {ds : List Dt}, OrdD ds → OrdD (insD d ds)
  | [], _ => by unfold insD OrdD; exact List.pairwise_singleton _ _
  | e :: es, h => by
    unfold OrdD at h ⊢
    obtain ⟨h1, h2⟩ := List.pairwise_cons.mp h
    unfold insD
    by_cases c : Dt.lt e d = true
    · rw [if_pos c]
      refine List.pairwise_cons.mpr ⟨fun x hx => ?_, insD_ord d h2⟩
      rcases List.mem_cons.mp ((insD_perm d es).mem_iff.mp hx) with rfl | hx
      · exact Dt.lt_asym c
      · exact h1 x hx
    · rw [if_neg c]
      have c' : Dt.lt e d = false := by simpa using c
      refine List.pairwise_cons.mpr ⟨fun x hx => ?_, h⟩
      rcases List.mem_cons.mp hx with rfl | hx
      · exact c'
      · exact Dt.lt_neg (h1 x hx) c'
theorem sortD_ord : ∀ ds : List Dt, OrdD (sortD ds)
  | [] => .nil
  | d :: ds => insD_ord d (sortD_ord ds)
theorem ord_unique : ∀ {a b : List Dt}, OrdD a → OrdD b → a.Perm b → a = b
  | [], b, _, _, p => (List.nil_perm.mp p).symm
  | x :: a, [], _, _, p => absurd p.length_eq (by simp)
  | x :: a, y :: b, ha, hb, p => by
    obtain ⟨h1, h2⟩ := List.pairwise_cons.mp ha
    obtain ⟨k1, k2⟩ := List.pairwise_cons.mp hb
    have e : x = y := by
      have m1 : x ∈ y :: b := p.mem_iff.mp List.mem_cons_self
      have m2 : y ∈ x :: a := p.mem_iff.mpr List.mem_cons_self
      rcases List.mem_cons.mp m1 with e | m1
      · exact e
      · rcases List.mem_cons.mp m2 with e | m2
        · exact e.symm
        · exact Dt.lt_tri (k1 x m1) (h1 y m2)
    subst e
    rw [ord_unique h2 k2 (List.perm_cons x |>.mp p)]
theorem sortD_of {a b : List Dt} (h : OrdD a) (p : a.Perm b) : a = sortD b := ord_unique h (sortD_ord b) (p.trans (sortD_perm b).symm)
end L2
set_option Elab.async false
set_option linter.all false
set_option maxRecDepth 100000
set_option maxHeartbeats 4000000
namespace L2
open PySem PySem.W PyProof.Rows
def gallop' : Bool → Keyed → Array Keyed → Nat → Nat → Nat → StateT SortSt Sem (Option Nat) := sortPriv% PySem.Builtin.gallop
def mergeLo' : Array Keyed → Array Keyed → StateT SortSt Sem (Array Keyed) := sortPriv% PySem.Builtin.mergeLo
def mergeHi' : Array Keyed → Array Keyed → StateT SortSt Sem (Array Keyed) := sortPriv% PySem.Builtin.mergeHi
structure LtE (M : Model) (A : Around) (E : Value → Shared → Prop) (s : Shared) (κ : SortKind) (G : Keyed → Prop) (R : Keyed → Keyed → Bool) : Prop where
  lt : ∀ x y, G x → G y → ∀ (st : SortSt) (Q : Option Bool → SortSt → Prop), kindOf st = κ → Q (some (R x y)) st → wpS M A E s (lt' x y) Q st
  asym : ∀ x y, G x → G y → R x y = true → R y x = false
  tr : ∀ x y z, G x → G y → G z → R x y = false → R y z = false → R x z = false
section
variable {M : Model} {A : Around} {E : Value → Shared → Prop} {s : Shared} {κ : SortKind} {G : Keyed → Prop} {R : Keyed → Keyed → Bool}
theorem wpS_rule {n : String} {Q : Unit → SortSt → Prop} {st : SortSt} (h : Q () st) : wpS M A E s (liftM (rule n) : StateT SortSt Sem Unit) Q st := wpS_lift (wpAny_rule ⟨rfl, h⟩)
theorem wpS_elem {arr : Array Keyed} {i : Nat} {x : Keyed} {Q : Keyed → SortSt → Prop} {st : SortSt} (e : arr[i]? = some x) (h : Q x st) : wpS M A E s (elem' arr i) Q st := by
  rw [elem'_eq, e]
  exact wpS_pure h
def byd (R : Keyed → Keyed → Bool) (left : Bool) (key x : Keyed) : Bool := if left = true then R x key else !R key x
theorem bey (L : LtE M A E s κ G R) {left : Bool} {key : Keyed} {arr : Array Keyed} {base n i : Nat} {f : Nat → Keyed} {st : SortSt} {Q : Option Bool → SortSt → Prop} (hk : kindOf st = κ) (gk : G key) (hf : ∀ i, i < n → arr[base + i]? = some (f i)) (gf : ∀ i, i < n → G (f i)) (hi : i < n) (h : Q (some (byd R left key (f i))) st) :
    wpS M A E s ((do let x ← elem' arr (base + i); if left = true then lt' x key else do let r ← lt' key x; pure (r.map (!·))) : StateT SortSt Sem (Option Bool)) Q st := by
  refine wpS_bind (wpS_elem (hf i hi) ?_)
  unfold byd at h
  by_cases c : left = true
  · rw [if_pos c] at h ⊢
    exact L.lt _ _ (gf i hi) gk st Q hk h
  · rw [if_neg c] at h ⊢
    exact wpS_bind (L.lt _ _ gk (gf i hi) st _ hk (wpS_pure h))
theorem gallop_ok (L : LtE M A E s κ G R) {left : Bool} {key : Keyed} {arr : Array Keyed} {base n hint : Nat} {f : Nat → Keyed} {st : SortSt} {Q : Option Nat → SortSt → Prop} (hk : kindOf st = κ) (gk : G key) (hf : ∀ i, i < n → arr[base + i]? = some (f i)) (gf : ∀ i, i < n → G (f i)) (hh : hint < n)
    (hmono : ∀ i j, i ≤ j → j < n → byd R left key (f j) = true → byd R left key (f i) = true)
    (h : ∀ k, k ≤ n → (∀ i, i < k → byd R left key (f i) = true) → (∀ i, k ≤ i → i < n → byd R left key (f i) = false) → Q (some k) st) : wpS M A E s (gallop' left key arr base n hint) Q st := by
  refine wpS_bind (bey L hk gk hf gf hh ?_)
  dsimp only
  cases hc : byd R left key (f hint) with
  | true =>
    rw [if_pos rfl]
    refine wpS_bind (wpS_mono (wpS_forRange (I := fun i (c : Option (Option Nat) × Nat × Nat) st' => st = st' ∧ c.1 = none ∧ i + 1 ≤ c.2.2 ∧ c.2.1 < c.2.2 ∧ hint + c.2.1 < n ∧ byd R left key (f (hint + c.2.1)) = true) (Q := fun c st' => st = st' ∧ c.1 = none ∧ hint + c.2.1 < n ∧ c.2.1 < c.2.2 ∧ byd R left key (f (hint + c.2.1)) = true ∧ (n - hint ≤ c.2.2 ∨ (hint + c.2.2 < n ∧ byd R left key (f (hint + c.2.2)) = false))) ?_ ?_ ⟨rfl, rfl, Nat.le_refl _, Nat.zero_lt_one, hh, hc⟩) ?_)
    · rintro i ⟨r, la, o⟩ st' _ hin ⟨rfl, rfl, h1, h2, h3, h4⟩
      dsimp only at h1 h2 h3 h4 ⊢
      by_cases c : o ≥ n - hint
      · rw [if_pos c]
        exact wpS_pure ⟨rfl, rfl, h3, h2, h4, .inl c⟩
      · rw [if_neg c]
        refine wpS_bind (bey L hk gk hf gf (i := hint + o) (by omega) ?_)
        dsimp only
        cases hm : byd R left key (f (hint + o)) with
        | true => exact wpS_pure ⟨rfl, rfl, (by dsimp only; omega), (by dsimp only; omega), (by dsimp only; omega), hm⟩
        | false => exact wpS_pure ⟨rfl, rfl, h3, h2, h4, .inr ⟨by dsimp only; omega, hm⟩⟩
    · rintro ⟨r, la, o⟩ st' ⟨rfl, rfl, h1, h2, h3, h4⟩
      dsimp only at h1 h2 h3 h4 ⊢
      exact ⟨rfl, rfl, h3, h2, h4, .inl (by omega)⟩
    rintro ⟨r, la, o⟩ st' ⟨rfl, rfl, h1, h2, h3, h4⟩
    dsimp only at h1 h2 h3 h4 ⊢
    refine wpS_bind (wpS_forRange (I := fun i (c : Option (Option Nat) × Nat × Nat) st' => st = st' ∧ c.1 = none ∧ c.2.1 ≤ c.2.2 ∧ c.2.2 ≤ n ∧ c.2.2 - c.2.1 ≤ n - i ∧ (∀ j, j < c.2.1 → byd R left key (f j) = true) ∧ (∀ j, c.2.2 ≤ j → j < n → byd R left key (f j) = false)) ?_ ?_ ⟨rfl, rfl, (by dsimp only; omega), (by dsimp only; omega), (by dsimp only; omega), (fun j hj => hmono j _ (by dsimp only at hj; omega) h1 h3), (fun j hj hjn => by
      dsimp only at hj
      rcases h4 with h4 | ⟨h5, h6⟩
      · omega
      · cases z : byd R left key (f j) with
        | false => rfl
        | true => rw [hmono _ j (by omega) hjn z] at h6; cases h6)⟩)
    · rintro i ⟨r, lo, hi⟩ st' _ hin ⟨rfl, rfl, hlh, hhn, hfu, hlo, hhi⟩
      dsimp only at hlh hhn hfu hlo hhi ⊢
      by_cases c : lo ≥ hi
      · rw [if_pos c]
        refine wpS_pure ?_
        have : lo = hi := by omega
        subst this
        exact wpS_pure (h lo hhn hlo hhi)
      · rw [if_neg c]
        refine wpS_bind (bey L hk gk hf gf (i := lo + (hi - lo) / 2) (by omega) ?_)
        dsimp only
        cases hm : byd R left key (f (lo + (hi - lo) / 2)) with
        | true => exact wpS_pure ⟨rfl, rfl, (by dsimp only; omega), hhn, (by dsimp only; omega), fun j hj => hmono j _ (by dsimp only at hj; omega) (by omega) hm, hhi⟩
        | false => exact wpS_pure ⟨rfl, rfl, (by dsimp only; omega), (by dsimp only; omega), (by dsimp only; omega), hlo, fun j hj hjn => by
            cases z : byd R left key (f j) with
            | false => rfl
            | true => rw [hmono _ j hj hjn z] at hm; cases hm⟩
    · rintro ⟨r, lo, hi⟩ st' ⟨rfl, rfl, hlh, hhn, hfu, hlo, hhi⟩
      dsimp only at hlh hhn hfu hlo hhi ⊢
      have : lo = hi := by omega
      subst this
      exact wpS_pure (h lo hhn hlo hhi)
  | false =>
    rw [if_neg (by simp)]
    refine wpS_bind (wpS_mono (wpS_forRange (I := fun i (c : Option (Option Nat) × Nat × Nat) st' => st = st' ∧ c.1 = none ∧ i + 1 ≤ c.2.2 ∧ c.2.1 < c.2.2 ∧ c.2.1 ≤ hint ∧ byd R left key (f (hint - c.2.1)) = false) (Q := fun c st' => st = st' ∧ c.1 = none ∧ c.2.1 ≤ hint ∧ c.2.1 < c.2.2 ∧ byd R left key (f (hint - c.2.1)) = false ∧ (hint + 1 ≤ c.2.2 ∨ (c.2.2 ≤ hint ∧ byd R left key (f (hint - c.2.2)) = true))) ?_ ?_ ⟨rfl, rfl, Nat.le_refl _, Nat.zero_lt_one, Nat.zero_le _, hc⟩) ?_)
    · rintro i ⟨r, la, o⟩ st' _ hin ⟨rfl, rfl, h1, h2, h3, h4⟩
      dsimp only at h1 h2 h3 h4 ⊢
      by_cases c : o ≥ hint + 1
      · rw [if_pos c]
        exact wpS_pure ⟨rfl, rfl, h3, h2, h4, .inl c⟩
      · rw [if_neg c]
        refine wpS_bind (bey L hk gk hf gf (i := hint - o) (by omega) ?_)
        dsimp only
        cases hm : byd R left key (f (hint - o)) with
        | false => exact wpS_pure ⟨rfl, rfl, (by dsimp only; omega), (by dsimp only; omega), (by dsimp only; omega), hm⟩
        | true => exact wpS_pure ⟨rfl, rfl, h3, h2, h4, .inr ⟨by dsimp only; omega, hm⟩⟩
    · rintro ⟨r, la, o⟩ st' ⟨rfl, rfl, h1, h2, h3, h4⟩
      dsimp only at h1 h2 h3 h4 ⊢
      exact ⟨rfl, rfl, h3, h2, h4, .inl (by omega)⟩
    rintro ⟨r, la, o⟩ st' ⟨rfl, rfl, h1, h2, h3, h4⟩
    dsimp only at h1 h2 h3 h4 ⊢
    refine wpS_bind (wpS_forRange (I := fun i (c : Option (Option Nat) × Nat × Nat) st' => st = st' ∧ c.1 = none ∧ c.2.1 ≤ c.2.2 ∧ c.2.2 ≤ n ∧ c.2.2 - c.2.1 ≤ n - i ∧ (∀ j, j < c.2.1 → byd R left key (f j) = true) ∧ (∀ j, c.2.2 ≤ j → j < n → byd R left key (f j) = false)) ?_ ?_ ⟨rfl, rfl, (by dsimp only; omega), (by dsimp only; omega), (by dsimp only; omega), (fun j hj => by
      dsimp only at hj
      rcases h4 with h4 | ⟨h5, h6⟩
      · omega
      · exact hmono j _ (by omega) (by omega) h6), (fun j hj hjn => by
      dsimp only at hj
      cases z : byd R left key (f j) with
        | false => rfl
        | true => rw [hmono _ j (by omega) hjn z] at h3; cases h3)⟩)
    · rintro i ⟨r, lo, hi⟩ st' _ hin ⟨rfl, rfl, hlh, hhn, hfu, hlo, hhi⟩
      dsimp only at hlh hhn hfu hlo hhi ⊢
      by_cases c : lo ≥ hi
      · rw [if_pos c]
        refine wpS_pure ?_
        have : lo = hi := by omega
        subst this
        exact wpS_pure (h lo hhn hlo hhi)
      · rw [if_neg c]
        refine wpS_bind (bey L hk gk hf gf (i := lo + (hi - lo) / 2) (by omega) ?_)
        dsimp only
        cases hm : byd R left key (f (lo + (hi - lo) / 2)) with
        | true => exact wpS_pure ⟨rfl, rfl, (by dsimp only; omega), hhn, (by dsimp only; omega), fun j hj => hmono j _ (by dsimp only at hj; omega) (by omega) hm, hhi⟩
        | false => exact wpS_pure ⟨rfl, rfl, (by dsimp only; omega), (by dsimp only; omega), (by dsimp only; omega), hlo, fun j hj hjn => by
            cases z : byd R left key (f j) with
            | false => rfl
            | true => rw [hmono _ j hj hjn z] at hm; cases hm⟩
    · rintro ⟨r, lo, hi⟩ st' ⟨rfl, rfl, hlh, hhn, hfu, hlo, hhi⟩
      dsimp only at hlh hhn hfu hlo hhi ⊢
      have : lo = hi := by omega
      subst this
      exact wpS_pure (h lo hhn hlo hhi)
end
end L2
set_option Elab.async false
set_option linter.all false
set_option maxRecDepth 100000
set_option maxHeartbeats 4000000
namespace L2
open PySem PySem.W PyProof.Rows
def OL (R : Keyed → Keyed → Bool) (l : List Keyed) : Prop := l.Pairwise fun x y => R y x = false
structure MI (R : Keyed → Keyed → Bool) (A B o as bs : List Keyed) : Prop where
  ord : OL R o
  le : ∀ x ∈ o, ∀ y, y ∈ as ∨ y ∈ bs → R y x = false
  perm : (o ++ (as ++ bs)).Perm (A ++ B)
  sa : OL R as
  sb : OL R bs
section
variable {R : Keyed → Keyed → Bool} {A B o as bs p : List Keyed}
theorem MI.a (h : MI R A B o (p ++ as) bs) (hp : ∀ x ∈ p, ∀ y ∈ bs, R y x = false) : MI R A B (o ++ p) as bs := by
  obtain ⟨s1, s2, s3⟩ := List.pairwise_append.mp h.sa
  refine ⟨List.pairwise_append.mpr ⟨h.ord, s1, fun x hx y hy => h.le x hx y (.inl (List.mem_append_left _ hy))⟩, fun x hx y hy => ?_, ?_, s2, h.sb⟩
  · rcases List.mem_append.mp hx with hx | hx
    · exact h.le x hx y (hy.imp (List.mem_append_right _) id)
    · rcases hy with hy | hy
      · exact s3 x hx y hy
      · exact hp x hx y hy
  · have e : o ++ p ++ (as ++ bs) = o ++ (p ++ as ++ bs) := by simp [List.append_assoc]
    rw [e]; exact h.perm
theorem MI.b (h : MI R A B o as (p ++ bs)) (hp : ∀ x ∈ p, ∀ y ∈ as, R y x = false) : MI R A B (o ++ p) as bs := by
  obtain ⟨s1, s2, s3⟩ := List.pairwise_append.mp h.sb
  refine ⟨List.pairwise_append.mpr ⟨h.ord, s1, fun x hx y hy => h.le x hx y (.inr (List.mem_append_left _ hy))⟩, fun x hx y hy => ?_, ?_, h.sa, s2⟩
  · rcases List.mem_append.mp hx with hx | hx
    · exact h.le x hx y (hy.imp id (List.mem_append_right _))
    · rcases hy with hy | hy
      · exact hp x hx y hy
      · exact s3 x hx y hy
  · refine List.Perm.trans ?_ h.perm
    rw [List.append_assoc]
    refine List.Perm.append_left _ ?_
    rw [← List.append_assoc, ← List.append_assoc]
    exact List.Perm.append_right _ List.perm_append_comm
theorem MI.fin (h : MI R A B o as bs) (hp : ∀ x ∈ as, ∀ y ∈ bs, R y x = false) : OL R (o ++ as ++ bs) ∧ (o ++ as ++ bs).Perm (A ++ B) := by
  rw [List.append_assoc]
  refine ⟨List.pairwise_append.mpr ⟨h.ord, List.pairwise_append.mpr ⟨h.sa, h.sb, hp⟩, fun x hx y hy => h.le x hx y (List.mem_append.mp hy)⟩, h.perm⟩
theorem MI.fin2 (h : MI R A B o as bs) (hp : ∀ x ∈ bs, ∀ y ∈ as, R y x = false) : OL R (o ++ bs ++ as) ∧ (o ++ bs ++ as).Perm (A ++ B) := by
  rw [List.append_assoc]
  refine ⟨List.pairwise_append.mpr ⟨h.ord, List.pairwise_append.mpr ⟨h.sb, h.sa, hp⟩, fun x hx y hy => h.le x hx y (List.mem_append.mp hy).symm⟩, ?_⟩
  exact (List.Perm.append_left _ List.perm_append_comm).trans h.perm
end
abbrev setG (st : SortSt) (g : Nat) : SortSt := SortSt.mk' (kindOf st) (arrOf st) (pendingOf st) g (failedOf st)
section
variable {M : Model} {A : Around} {E : Value → Shared → Prop} {s : Shared} {κ : SortKind} {G : Keyed → Prop} {R : Keyed → Keyed → Bool}
abbrev d0 : Keyed := (.none, .none)
theorem ex_all (a : Array Keyed) (i : Nat) : (a.extract i).toList = a.toList.drop i := by
  rw [Array.toList_extract, List.extract_eq_take_drop]
  exact List.take_of_length_le (by simp)
theorem ex_k (a : Array Keyed) (i k : Nat) : (a.extract i (i + k)).toList = (a.toList.drop i).take k := by
  rw [Array.toList_extract, List.extract_eq_take_drop, Nat.add_sub_cancel_left]
theorem drop_at {a : Array Keyed} {i : Nat} (h : i < a.size) : a.toList.drop i = a.getD i d0 :: a.toList.drop (i + 1) := by
  rw [List.drop_eq_getElem_cons (by simpa using h)]
  congr 1
  simp [Array.getD, h]
theorem at_get {a : Array Keyed} {i : Nat} (h : i < a.size) : a[i]? = some (a.getD i d0) := by simp [Array.getD, h]
theorem at_mem {a : Array Keyed} {i : Nat} (h : i < a.size) : a.getD i d0 ∈ a.toList := by
  have : a.getD i d0 = a[i] := by simp [Array.getD, h]
  rw [this]; simp
theorem mem_drop {a : Array Keyed} {i : Nat} {x : Keyed} (h : x ∈ a.toList.drop i) : ∃ j, i ≤ j ∧ j < a.size ∧ x = a.getD j d0 := by
  obtain ⟨j, hj, e⟩ := List.getElem_of_mem h
  rw [List.length_drop] at hj
  have hj' : i + j < a.size := by simp at hj; omega
  refine ⟨i + j, by omega, hj', ?_⟩
  rw [← e, List.getElem_drop]
  simp [Array.getD, hj']
theorem mem_take {a : Array Keyed} {i k : Nat} {x : Keyed} (h : x ∈ (a.toList.drop i).take k) : ∃ j, j < k ∧ i + j < a.size ∧ x = a.getD (i + j) d0 := by
  obtain ⟨j, hj, e⟩ := List.getElem_of_mem h
  rw [List.length_take, List.length_drop] at hj
  have hj' : i + j < a.size := by simp at hj; omega
  refine ⟨j, by omega, hj', ?_⟩
  rw [← e, List.getElem_take, List.getElem_drop]
  simp [Array.getD, hj']
theorem ol_at {a : Array Keyed} (h : OL R a.toList) {i j : Nat} (hij : i < j) (hj : j < a.size) : R (a.getD j d0) (a.getD i d0) = false := by
  have := List.pairwise_iff_getElem.mp h i j (by simp; omega) (by simpa using hj) hij
  simpa [Array.getD, hj, show i < a.size by omega] using this
theorem mono_r (L : LtE M A E s κ G R) {key : Keyed} {f : Nat → Keyed} {n : Nat} (gk : G key) (gf : ∀ i, i < n → G (f i)) (sg : ∀ i j, i < j → j < n → R (f j) (f i) = false) : ∀ i j, i ≤ j → j < n → byd R false key (f j) = true → byd R false key (f i) = true := fun i j hij hj h => by
  by_cases e : i = j
  · rw [e]; exact h
  · simp [byd] at h ⊢
    exact L.tr _ _ _ gk (gf j hj) (gf i (by omega)) h (sg i j (by omega) hj)
theorem mono_l (L : LtE M A E s κ G R) {key : Keyed} {f : Nat → Keyed} {n : Nat} (gk : G key) (gf : ∀ i, i < n → G (f i)) (sg : ∀ i j, i < j → j < n → R (f j) (f i) = false) : ∀ i j, i ≤ j → j < n → byd R true key (f j) = true → byd R true key (f i) = true := fun i j hij hj h => by
  by_cases e : i = j
  · rw [e]; exact h
  · simp [byd] at h ⊢
    cases z : R (f i) key with
    | true => rfl
    | false => rw [L.tr _ _ _ (gf j hj) (gf i (by omega)) gk (sg i j (by omega) hj) z] at h; cases h
structure ML (R : Keyed → Keyed → Bool) (G : Keyed → Prop) (a b : Array Keyed) : Prop where
  ga : ∀ x ∈ a.toList, G x
  gb : ∀ x ∈ b.toList, G x
  oa : OL R a.toList
  ob : OL R b.toList
section
variable {a b o : Array Keyed} {ia ib k : Nat}
abbrev MA (R : Keyed → Keyed → Bool) (a b o : Array Keyed) (ia ib : Nat) : Prop := MI R a.toList b.toList o.toList (a.toList.drop ia) (b.toList.drop ib)
theorem ML.ga_at (m : ML R G a b) {i : Nat} (h : i < a.size) : G (a.getD i d0) := m.ga _ (at_mem h)
theorem ML.gb_at (m : ML R G a b) {i : Nat} (h : i < b.size) : G (b.getD i d0) := m.gb _ (at_mem h)
theorem ML.a_le (L : LtE M A E s κ G R) (m : ML R G a b) {i j : Nat} (hij : i ≤ j) (hj : j < a.size) : R (a.getD j d0) (a.getD i d0) = false := by
  by_cases e : i = j
  · subst e
    cases z : R (a.getD i d0) (a.getD i d0) with
    | false => rfl
    | true => have := L.asym _ _ (m.ga_at hj) (m.ga_at hj) z; rw [z] at this; cases this
  · exact ol_at m.oa (by omega) hj
theorem ML.b_le (L : LtE M A E s κ G R) (m : ML R G a b) {i j : Nat} (hij : i ≤ j) (hj : j < b.size) : R (b.getD j d0) (b.getD i d0) = false := by
  by_cases e : i = j
  · subst e
    cases z : R (b.getD i d0) (b.getD i d0) with
    | false => rfl
    | true => have := L.asym _ _ (m.gb_at hj) (m.gb_at hj) z; rw [z] at this; cases this
  · exact ol_at m.ob (by omega) hj
theorem MA.pb (h : MA R a b o ia ib) (hb : ib < b.size) (hp : ∀ j, ia ≤ j → j < a.size → R (a.getD j d0) (b.getD ib d0) = false) : MA R a b (o.push (b.getD ib d0)) ia (ib + 1) := by
  unfold MA at h ⊢
  rw [drop_at hb] at h
  rw [Array.toList_push]
  refine MI.b (p := [b.getD ib d0]) h fun x hx y hy => ?_
  rw [List.mem_singleton] at hx
  subst hx
  obtain ⟨j, h1, h2, rfl⟩ := mem_drop hy
  exact hp j h1 h2
theorem MA.pa (h : MA R a b o ia ib) (ha : ia < a.size) (hp : ∀ j, ib ≤ j → j < b.size → R (b.getD j d0) (a.getD ia d0) = false) : MA R a b (o.push (a.getD ia d0)) (ia + 1) ib := by
  unfold MA at h ⊢
  rw [drop_at ha] at h
  rw [Array.toList_push]
  refine MI.a (p := [a.getD ia d0]) h fun x hx y hy => ?_
  rw [List.mem_singleton] at hx
  subst hx
  obtain ⟨j, h1, h2, rfl⟩ := mem_drop hy
  exact hp j h1 h2
theorem MA.ka (h : MA R a b o ia ib) (hp : ∀ i, i < k → ia + i < a.size → ∀ j, ib ≤ j → j < b.size → R (b.getD j d0) (a.getD (ia + i) d0) = false) : MA R a b (o ++ a.extract ia (ia + k)) (ia + k) ib := by
  unfold MA at h ⊢
  rw [Array.toList_append, ex_k]
  refine MI.a (p := (a.toList.drop ia).take k) (by rw [← List.drop_drop, List.take_append_drop]; exact h) fun x hx y hy => ?_
  obtain ⟨i, i1, i2, rfl⟩ := mem_take hx
  obtain ⟨j, h1, h2, rfl⟩ := mem_drop hy
  exact hp i i1 i2 j h1 h2
theorem MA.kb (h : MA R a b o ia ib) (hp : ∀ i, i < k → ib + i < b.size → ∀ j, ia ≤ j → j < a.size → R (a.getD j d0) (b.getD (ib + i) d0) = false) : MA R a b (o ++ b.extract ib (ib + k)) ia (ib + k) := by
  unfold MA at h ⊢
  rw [Array.toList_append, ex_k]
  refine MI.b (p := (b.toList.drop ib).take k) (by rw [← List.drop_drop, List.take_append_drop]; exact h) fun x hx y hy => ?_
  obtain ⟨i, i1, i2, rfl⟩ := mem_take hx
  obtain ⟨j, h1, h2, rfl⟩ := mem_drop hy
  exact hp i i1 i2 j h1 h2
abbrev Mgd (R : Keyed → Keyed → Bool) (a b x : Array Keyed) : Prop := OL R x.toList ∧ x.toList.Perm (a.toList ++ b.toList)
theorem MA.done (h : MA R a b o ia ib) (hd : a.size ≤ ia ∨ b.size ≤ ib) : Mgd R a b (o ++ a.extract ia ++ b.extract ib) := by
  unfold Mgd
  rw [Array.toList_append, Array.toList_append, ex_all, ex_all]
  refine MI.fin h fun x hx y hy => ?_
  obtain ⟨i, i1, i2, _⟩ := mem_drop hx
  obtain ⟨j, j1, j2, _⟩ := mem_drop hy
  omega
theorem MA.last (h : MA R a b o ia ib) (hl : ∀ j, ib ≤ j → j < b.size → ∀ i, ia ≤ i → i < a.size → R (a.getD i d0) (b.getD j d0) = false) : Mgd R a b (o ++ b.extract ib ++ a.extract ia) := by
  unfold Mgd
  rw [Array.toList_append, Array.toList_append, ex_all, ex_all]
  refine MI.fin2 h fun x hx y hy => ?_
  obtain ⟨j, j1, j2, rfl⟩ := mem_drop hx
  obtain ⟨i, i1, i2, rfl⟩ := mem_drop hy
  exact hl j j1 j2 i i1 i2
end
end
end L2
set_option Elab.async false
set_option linter.all false
set_option maxRecDepth 100000
set_option maxHeartbeats 4000000
namespace L2
open PySem PySem.W PyProof.Rows
def setMin' : Nat → StateT SortSt Sem Unit := sortPriv% PySem.Builtin.setMinGallop
section
variable {M : Model} {A : Around} {E : Value → Shared → Prop} {s : Shared} {κ : SortKind} {G : Keyed → Prop} {R : Keyed → Keyed → Bool}
theorem wpS_setMin {g : Nat} {Q : Unit → SortSt → Prop} {st : SortSt} (h : Q () (setG st g)) : wpS M A E s (setMin' g) Q st := wpS_modify h
theorem mergeLo_ok (L : LtE M A E s κ G R) {a b : Array Keyed} {st : SortSt} {Q : Array Keyed → SortSt → Prop} (hk : kindOf st = κ) (m : ML R G a b) (ha : 0 < a.size) (hb : 0 < b.size)
    (h0 : ∀ i, i < a.size → R (a.getD i d0) (b.getD 0 d0) = false) (hl : ∀ j, j < b.size → R (a.getD (a.size - 1) d0) (b.getD j d0) = false)
    (h : ∀ out g, Mgd R a b out → Q out (setG st g)) : wpS M A E s (mergeLo' a b) Q st := by
  have start : MA R a b #[b.getD 0 d0] 0 1 := by
    have z : MA R a b #[] 0 0 := ⟨List.Pairwise.nil, (fun x hx => nomatch hx), by simp, by simpa using m.oa, by simpa using m.ob⟩
    have := z.pb hb fun j _ hj => h0 j hj
    simpa using this
  have hlast : ∀ {o : Array Keyed} {ia ib : Nat}, MA R a b o ia ib → ia + 1 = a.size → Mgd R a b (o ++ b.extract ib ++ a.extract ia) := fun {o ia ib} h e => h.last fun j _ hj i hi1 hi2 => by
    have : i = a.size - 1 := by omega
    rw [this]; exact hl j hj
  refine wpS_bind (wpS_rule ?_)
  refine wpS_bind (wpS_elem (at_get hb) ?_)
  dsimp only
  by_cases c1 : (1 == b.size) = true
  · rw [if_pos c1]
    exact wpS_pure (h _ (gallopOf st) (start.done (.inr (by have := eq_of_beq c1; omega))))
  · rw [if_neg c1]
    have c1' : 1 < b.size := by have : ¬ 1 = b.size := by simpa using c1
                                omega
    by_cases c2 : (0 + 1 == a.size) = true
    · rw [if_pos c2]
      exact wpS_pure (h _ (gallopOf st) (hlast start (by simpa using c2)))
    · rw [if_neg c2]
      have c2' : 1 < a.size := by have : ¬ 1 = a.size := by simpa using c2
                                  omega
      refine wpS_bind (wpS_get ?_)
      refine wpS_bind (wpS_mono (wpS_forRange (I := fun i (c : Option (Array Keyed) × Array Keyed × Nat × Nat × Nat) st' => (∃ g, st' = setG st g) ∧ c.1 = none ∧ MA R a b c.2.1 c.2.2.1 c.2.2.2.1 ∧ c.2.2.1 + 1 < a.size ∧ c.2.2.2.1 < b.size ∧ i + 1 ≤ c.2.2.1 + c.2.2.2.1)
        (Q := fun c st' => (∃ g, st' = setG st g) ∧ ∃ X, c.1 = some X ∧ Mgd R a b X) ?_ ?_ ⟨⟨gallopOf st, rfl⟩, rfl, start, c2', c1', Nat.le_refl _⟩) ?_)
      · rintro i ⟨r, o, ia, ib, mg⟩ st1 _ hin ⟨⟨g, rfl⟩, rfl, hm, hia, hib, hcnt⟩
        dsimp only at hm hia hib hcnt ⊢
        refine wpS_bind (wpS_mono (wpS_forRange (I := fun i (d : Option (Array Keyed) × Array Keyed × Nat × Nat × Nat × Nat) st' => (∃ g, st' = setG st g) ∧ d.1 = none ∧ MA R a b d.2.1 d.2.2.1 d.2.2.2.1 ∧ d.2.2.1 + 1 < a.size ∧ d.2.2.2.1 < b.size ∧ ia + ib + i ≤ d.2.2.1 + d.2.2.2.1)
          (Q := fun d st' => (∃ g, st' = setG st g) ∧ ((∃ X, d.1 = some X ∧ Mgd R a b X) ∨ (d.1 = none ∧ MA R a b d.2.1 d.2.2.1 d.2.2.2.1 ∧ d.2.2.1 + 1 < a.size ∧ d.2.2.2.1 < b.size ∧ ia + ib + 1 ≤ d.2.2.1 + d.2.2.2.1))) ?_ ?_ ⟨⟨g, rfl⟩, rfl, hm, hia, hib, Nat.le_refl _⟩) ?_)
        · rintro i2 ⟨r, o, ja, jb, ac, bc⟩ st2 _ hin2 ⟨⟨g, rfl⟩, rfl, hm, hja, hjb, hcn⟩
          dsimp only at hm hja hjb hcn ⊢
          refine wpS_bind (wpS_elem (at_get hjb) (wpS_bind (wpS_elem (at_get (show ja < a.size by omega)) ?_)))
          refine wpS_bind (L.lt _ _ (m.gb_at hjb) (m.ga_at (by omega)) _ _ hk ?_)
          dsimp only
          by_cases c : R (b.getD jb d0) (a.getD ja d0) = true
          · rw [if_pos c]
            refine wpS_bind (wpS_elem (at_get hjb) ?_)
            have hm2 := hm.pb hjb fun j h1 h2 => L.tr _ _ _ (m.ga_at h2) (m.ga_at (by omega)) (m.gb_at hjb) (m.a_le L h1 h2) (L.asym _ _ (m.gb_at hjb) (m.ga_at (by omega)) c)
            by_cases e : (jb + 1 == b.size) = true
            · rw [if_pos e]
              exact wpS_pure ⟨⟨g, rfl⟩, .inl ⟨_, rfl, hm2.done (.inr (by have := eq_of_beq e; omega))⟩⟩
            · rw [if_neg e]
              have e' : jb + 1 < b.size := by have : ¬ jb + 1 = b.size := by simpa using e
                                              omega
              by_cases f : bc + 1 ≥ mg
              · rw [if_pos f]
                exact wpS_pure ⟨⟨g, rfl⟩, .inr ⟨rfl, hm2, hja, e', by dsimp only; omega⟩⟩
              · rw [if_neg f]
                exact wpS_pure ⟨⟨g, rfl⟩, rfl, hm2, hja, e', by dsimp only; omega⟩
          · rw [if_neg c]
            have c' : R (b.getD jb d0) (a.getD ja d0) = false := by simpa using c
            refine wpS_bind (wpS_elem (at_get (show ja < a.size by omega)) ?_)
            have hm2 := hm.pa (show ja < a.size by omega) fun j h1 h2 => L.tr _ _ _ (m.gb_at h2) (m.gb_at hjb) (m.ga_at (by omega)) (m.b_le L h1 h2) c'
            by_cases e : (ja + 1 + 1 == a.size) = true
            · rw [if_pos e]
              exact wpS_pure ⟨⟨g, rfl⟩, .inl ⟨_, rfl, hlast hm2 (eq_of_beq e)⟩⟩
            · rw [if_neg e]
              have e' : ja + 1 + 1 < a.size := by have : ¬ ja + 1 + 1 = a.size := by simpa using e
                                                  omega
              by_cases f : ac + 1 ≥ mg
              · rw [if_pos f]
                exact wpS_pure ⟨⟨g, rfl⟩, .inr ⟨rfl, hm2, e', hjb, by dsimp only; omega⟩⟩
              · rw [if_neg f]
                exact wpS_pure ⟨⟨g, rfl⟩, rfl, hm2, e', hjb, by dsimp only; omega⟩
        · rintro ⟨r, o, ja, jb, ac, bc⟩ st2 ⟨⟨g, rfl⟩, rfl, hm, hja, hjb, hcn⟩
          dsimp only at hm hja hjb hcn
          exfalso
          omega
        rintro ⟨r, o, ja, jb, ac, bc⟩ st2 ⟨⟨g, rfl⟩, hres⟩
        rcases hres with ⟨X, hX, hM⟩ | ⟨hX, hm, hja, hjb, hcn⟩
        · dsimp only at hX
          subst hX
          exact wpS_pure ⟨⟨g, rfl⟩, X, rfl, hM⟩
        · dsimp only at hX hm hja hjb hcn ⊢
          subst hX
          dsimp only
          refine wpS_bind (wpS_rule ?_)
          refine wpS_bind (wpS_mono (wpS_forRange (I := fun i (d : Option (Array Keyed) × Array Keyed × Nat × Nat × Nat × Nat × Nat) st' => (∃ g, st' = setG st g) ∧ d.1 = none ∧ MA R a b d.2.1 d.2.2.1 d.2.2.2.1 ∧ d.2.2.1 + 1 < a.size ∧ d.2.2.2.1 < b.size ∧ ja + jb + i ≤ d.2.2.1 + d.2.2.2.1)
            (Q := fun d st' => (∃ g, st' = setG st g) ∧ ((∃ X, d.1 = some X ∧ Mgd R a b X) ∨ (d.1 = none ∧ MA R a b d.2.1 d.2.2.1 d.2.2.2.1 ∧ d.2.2.1 + 1 < a.size ∧ d.2.2.2.1 < b.size ∧ ja + jb ≤ d.2.2.1 + d.2.2.2.1))) ?_ ?_ ⟨⟨g, rfl⟩, rfl, hm, hja, hjb, Nat.le_refl _⟩) ?_)
          · rintro i2 ⟨r, o, ka, kb, mg2, ac2, bc2⟩ st3 _ hin2 ⟨⟨g, rfl⟩, rfl, hm, hka, hkb, hcn2⟩
            dsimp only at hm hka hkb hcn2 ⊢
            by_cases cg : mg2 > 1
            · rw [if_pos cg]
              refine wpS_bind (wpS_setMin ?_)
              refine wpS_bind (wpS_elem (at_get hkb) ?_)
              refine wpS_bind (gallop_ok L (left := false) (f := fun i => a.getD (ka + i) d0) hk (m.gb_at hkb) (fun i hi => at_get (by omega)) (fun i hi => m.ga_at (by omega)) (by omega) (mono_r L (m.gb_at hkb) (fun i hi => m.ga_at (by omega)) (fun i j hij hj => m.a_le L (by omega) (by omega))) fun k hkn hk1 hk2 => ?_)
              dsimp only
              have le1 : ∀ i, i < k → ∀ j, kb ≤ j → j < b.size → R (b.getD j d0) (a.getD (ka + i) d0) = false := fun i hi j h1 h2 => L.tr _ _ _ (m.gb_at h2) (m.gb_at hkb) (m.ga_at (by omega)) (m.b_le L h1 h2) (by have := hk1 i hi; simpa [byd] using this)
              have gt1 : ∀ j, ka + k ≤ j → j < a.size → R (a.getD j d0) (b.getD kb d0) = false := fun j h1 h2 => L.asym _ _ (m.gb_at hkb) (m.ga_at h2) (by have := hk2 (j - ka) (by omega) (by omega); simpa [byd, show ka + (j - ka) = j by omega] using this)
              by_cases ck : k > 0
              · rw [if_pos ck]
                have hm1 := hm.ka (k := k) fun i hi _ j h1 h2 => le1 i hi j h1 h2
                by_cases e : (ka + k + 1 == a.size) = true
                · rw [if_pos e]
                  exact wpS_pure ⟨⟨_, rfl⟩, .inl ⟨_, rfl, hlast hm1 (eq_of_beq e)⟩⟩
                · rw [if_neg e]
                  have e' : ¬ ka + k + 1 = a.size := by simpa using e
                  by_cases e2 : (ka + k == a.size) = true
                  · rw [if_pos e2]
                    exact wpS_pure ⟨⟨_, rfl⟩, .inl ⟨_, rfl, hm1.done (.inl (by have := eq_of_beq e2; omega))⟩⟩
                  · rw [if_neg e2]
                    have e2' : ¬ ka + k = a.size := by simpa using e2
                    refine wpS_bind (wpS_elem (at_get hkb) ?_)
                    have hm3 := hm1.pb hkb fun j h1 h2 => gt1 j (by omega) h2
                    by_cases e3 : (kb + 1 == b.size) = true
                    · rw [if_pos e3]
                      exact wpS_pure ⟨⟨_, rfl⟩, .inl ⟨_, rfl, hm3.done (.inr (by have := eq_of_beq e3; omega))⟩⟩
                    · rw [if_neg e3]
                      have e3' : ¬ kb + 1 = b.size := by simpa using e3
                      refine wpS_bind (wpS_elem (at_get (show ka + k < a.size by omega)) ?_)
                      refine wpS_bind (gallop_ok L (left := true) (f := fun i => b.getD (kb + 1 + i) d0) hk (m.ga_at (by omega)) (fun i hi => at_get (by omega)) (fun i hi => m.gb_at (by omega)) (by omega) (mono_l L (m.ga_at (by omega)) (fun i hi => m.gb_at (by omega)) (fun i j hij hj => m.b_le L (by omega) (by omega))) fun k1 hk1n hk11 hk12 => ?_)
                      dsimp only
                      have le2 : ∀ i, i < k1 → kb + 1 + i < b.size → ∀ j, ka + k ≤ j → j < a.size → R (a.getD j d0) (b.getD (kb + 1 + i) d0) = false := fun i hi hib j h1 h2 => L.tr _ _ _ (m.ga_at h2) (m.ga_at (by omega)) (m.gb_at hib) (m.a_le L h1 h2) (L.asym _ _ (m.gb_at hib) (m.ga_at (by omega)) (by have := hk11 i hi; simpa [byd] using this))
                      have gt2 : ∀ j, kb + 1 + k1 ≤ j → j < b.size → R (b.getD j d0) (a.getD (ka + k) d0) = false := fun j h1 h2 => by have := hk12 (j - (kb + 1)) (by omega) (by omega); simpa [byd, show kb + 1 + (j - (kb + 1)) = j by omega] using this
                      by_cases ck1 : k1 > 0
                      · rw [if_pos ck1]
                        have hm4 := hm3.kb (k := k1) fun i hi hib j h1 h2 => le2 i hi hib j h1 h2
                        by_cases e4 : (kb + 1 + k1 == b.size) = true
                        · rw [if_pos e4]
                          exact wpS_pure ⟨⟨_, rfl⟩, .inl ⟨_, rfl, hm4.done (.inr (by have := eq_of_beq e4; omega))⟩⟩
                        · rw [if_neg e4]
                          have e4' : ¬ kb + 1 + k1 = b.size := by simpa using e4
                          refine wpS_bind (wpS_elem (at_get (show ka + k < a.size by omega)) ?_)
                          have hm5 := hm4.pa (show ka + k < a.size by omega) fun j h1 h2 => gt2 j (by omega) h2
                          by_cases e5 : (ka + k + 1 + 1 == a.size) = true
                          · rw [if_pos e5]
                            exact wpS_pure ⟨⟨_, rfl⟩, .inl ⟨_, rfl, hlast hm5 (eq_of_beq e5)⟩⟩
                          · rw [if_neg e5]
                            have e5' : ¬ ka + k + 1 + 1 = a.size := by simpa using e5
                            by_cases f : (decide (k < 7) && decide (k1 < 7)) = true
                            · rw [if_pos f]
                              exact wpS_pure ⟨⟨_, rfl⟩, .inr ⟨rfl, hm5, (by dsimp only; omega), (by dsimp only; omega), by dsimp only; omega⟩⟩
                            · rw [if_neg f]
                              exact wpS_pure ⟨⟨_, rfl⟩, rfl, hm5, (by dsimp only; omega), (by dsimp only; omega), by dsimp only; omega⟩
                      · rw [if_neg ck1]
                        have : k1 = 0 := by omega
                        subst this
                        refine wpS_bind (wpS_elem (at_get (show ka + k < a.size by omega)) ?_)
                        have hm5 := hm3.pa (show ka + k < a.size by omega) fun j h1 h2 => gt2 j (by omega) h2
                        by_cases e5 : (ka + k + 1 + 1 == a.size) = true
                        · rw [if_pos e5]
                          exact wpS_pure ⟨⟨_, rfl⟩, .inl ⟨_, rfl, hlast hm5 (eq_of_beq e5)⟩⟩
                        · rw [if_neg e5]
                          have e5' : ¬ ka + k + 1 + 1 = a.size := by simpa using e5
                          by_cases f : (decide (k < 7) && decide (0 < 7)) = true
                          · rw [if_pos f]
                            exact wpS_pure ⟨⟨_, rfl⟩, .inr ⟨rfl, hm5, (by dsimp only; omega), (by dsimp only; omega), by dsimp only; omega⟩⟩
                          · rw [if_neg f]
                            exact wpS_pure ⟨⟨_, rfl⟩, rfl, hm5, (by dsimp only; omega), (by dsimp only; omega), by dsimp only; omega⟩
              · rw [if_neg ck]
                have : k = 0 := by omega
                subst this
                have hm1 := hm
                refine wpS_bind (wpS_elem (at_get hkb) ?_)
                have hm3 := hm1.pb hkb fun j h1 h2 => gt1 j (by omega) h2
                by_cases e3 : (kb + 1 == b.size) = true
                · rw [if_pos e3]
                  exact wpS_pure ⟨⟨_, rfl⟩, .inl ⟨_, rfl, hm3.done (.inr (by have := eq_of_beq e3; omega))⟩⟩
                · rw [if_neg e3]
                  have e3' : ¬ kb + 1 = b.size := by simpa using e3
                  refine wpS_bind (wpS_elem (at_get (show ka < a.size by omega)) ?_)
                  refine wpS_bind (gallop_ok L (left := true) (f := fun i => b.getD (kb + 1 + i) d0) hk (m.ga_at (by omega)) (fun i hi => at_get (by omega)) (fun i hi => m.gb_at (by omega)) (by omega) (mono_l L (m.ga_at (by omega)) (fun i hi => m.gb_at (by omega)) (fun i j hij hj => m.b_le L (by omega) (by omega))) fun k1 hk1n hk11 hk12 => ?_)
                  dsimp only
                  have le2 : ∀ i, i < k1 → kb + 1 + i < b.size → ∀ j, ka ≤ j → j < a.size → R (a.getD j d0) (b.getD (kb + 1 + i) d0) = false := fun i hi hib j h1 h2 => L.tr _ _ _ (m.ga_at h2) (m.ga_at (by omega)) (m.gb_at hib) (m.a_le L h1 h2) (L.asym _ _ (m.gb_at hib) (m.ga_at (by omega)) (by have := hk11 i hi; simpa [byd] using this))
                  have gt2 : ∀ j, kb + 1 + k1 ≤ j → j < b.size → R (b.getD j d0) (a.getD (ka) d0) = false := fun j h1 h2 => by have := hk12 (j - (kb + 1)) (by omega) (by omega); simpa [byd, show kb + 1 + (j - (kb + 1)) = j by omega] using this
                  by_cases ck1 : k1 > 0
                  · rw [if_pos ck1]
                    have hm4 := hm3.kb (k := k1) fun i hi hib j h1 h2 => le2 i hi hib j h1 h2
                    by_cases e4 : (kb + 1 + k1 == b.size) = true
                    · rw [if_pos e4]
                      exact wpS_pure ⟨⟨_, rfl⟩, .inl ⟨_, rfl, hm4.done (.inr (by have := eq_of_beq e4; omega))⟩⟩
                    · rw [if_neg e4]
                      have e4' : ¬ kb + 1 + k1 = b.size := by simpa using e4
                      refine wpS_bind (wpS_elem (at_get (show ka < a.size by omega)) ?_)
                      have hm5 := hm4.pa (show ka < a.size by omega) fun j h1 h2 => gt2 j (by omega) h2
                      by_cases e5 : (ka + 1 + 1 == a.size) = true
                      · rw [if_pos e5]
                        exact wpS_pure ⟨⟨_, rfl⟩, .inl ⟨_, rfl, hlast hm5 (eq_of_beq e5)⟩⟩
                      · rw [if_neg e5]
                        have e5' : ¬ ka + 1 + 1 = a.size := by simpa using e5
                        by_cases f : (decide (0 < 7) && decide (k1 < 7)) = true
                        · rw [if_pos f]
                          exact wpS_pure ⟨⟨_, rfl⟩, .inr ⟨rfl, hm5, (by dsimp only; omega), (by dsimp only; omega), by dsimp only; omega⟩⟩
                        · rw [if_neg f]
                          exact wpS_pure ⟨⟨_, rfl⟩, rfl, hm5, (by dsimp only; omega), (by dsimp only; omega), by dsimp only; omega⟩
                  · rw [if_neg ck1]
                    have : k1 = 0 := by omega
                    subst this
                    refine wpS_bind (wpS_elem (at_get (show ka < a.size by omega)) ?_)
                    have hm5 := hm3.pa (show ka < a.size by omega) fun j h1 h2 => gt2 j (by omega) h2
                    by_cases e5 : (ka + 1 + 1 == a.size) = true
                    · rw [if_pos e5]
                      exact wpS_pure ⟨⟨_, rfl⟩, .inl ⟨_, rfl, hlast hm5 (eq_of_beq e5)⟩⟩
                    · rw [if_neg e5]
                      have e5' : ¬ ka + 1 + 1 = a.size := by simpa using e5
                      by_cases f : (decide (0 < 7) && decide (0 < 7)) = true
                      · rw [if_pos f]
                        exact wpS_pure ⟨⟨_, rfl⟩, .inr ⟨rfl, hm5, (by dsimp only; omega), (by dsimp only; omega), by dsimp only; omega⟩⟩
                      · rw [if_neg f]
                        exact wpS_pure ⟨⟨_, rfl⟩, rfl, hm5, (by dsimp only; omega), (by dsimp only; omega), by dsimp only; omega⟩
            · rw [if_neg cg]
              refine wpS_bind (wpS_setMin ?_)
              refine wpS_bind (wpS_elem (at_get hkb) ?_)
              refine wpS_bind (gallop_ok L (left := false) (f := fun i => a.getD (ka + i) d0) hk (m.gb_at hkb) (fun i hi => at_get (by omega)) (fun i hi => m.ga_at (by omega)) (by omega) (mono_r L (m.gb_at hkb) (fun i hi => m.ga_at (by omega)) (fun i j hij hj => m.a_le L (by omega) (by omega))) fun k hkn hk1 hk2 => ?_)
              dsimp only
              have le1 : ∀ i, i < k → ∀ j, kb ≤ j → j < b.size → R (b.getD j d0) (a.getD (ka + i) d0) = false := fun i hi j h1 h2 => L.tr _ _ _ (m.gb_at h2) (m.gb_at hkb) (m.ga_at (by omega)) (m.b_le L h1 h2) (by have := hk1 i hi; simpa [byd] using this)
              have gt1 : ∀ j, ka + k ≤ j → j < a.size → R (a.getD j d0) (b.getD kb d0) = false := fun j h1 h2 => L.asym _ _ (m.gb_at hkb) (m.ga_at h2) (by have := hk2 (j - ka) (by omega) (by omega); simpa [byd, show ka + (j - ka) = j by omega] using this)
              by_cases ck : k > 0
              · rw [if_pos ck]
                have hm1 := hm.ka (k := k) fun i hi _ j h1 h2 => le1 i hi j h1 h2
                by_cases e : (ka + k + 1 == a.size) = true
                · rw [if_pos e]
                  exact wpS_pure ⟨⟨_, rfl⟩, .inl ⟨_, rfl, hlast hm1 (eq_of_beq e)⟩⟩
                · rw [if_neg e]
                  have e' : ¬ ka + k + 1 = a.size := by simpa using e
                  by_cases e2 : (ka + k == a.size) = true
                  · rw [if_pos e2]
                    exact wpS_pure ⟨⟨_, rfl⟩, .inl ⟨_, rfl, hm1.done (.inl (by have := eq_of_beq e2; omega))⟩⟩
                  · rw [if_neg e2]
                    have e2' : ¬ ka + k = a.size := by simpa using e2
                    refine wpS_bind (wpS_elem (at_get hkb) ?_)
                    have hm3 := hm1.pb hkb fun j h1 h2 => gt1 j (by omega) h2
                    by_cases e3 : (kb + 1 == b.size) = true
                    · rw [if_pos e3]
                      exact wpS_pure ⟨⟨_, rfl⟩, .inl ⟨_, rfl, hm3.done (.inr (by have := eq_of_beq e3; omega))⟩⟩
                    · rw [if_neg e3]
                      have e3' : ¬ kb + 1 = b.size := by simpa using e3
                      refine wpS_bind (wpS_elem (at_get (show ka + k < a.size by omega)) ?_)
                      refine wpS_bind (gallop_ok L (left := true) (f := fun i => b.getD (kb + 1 + i) d0) hk (m.ga_at (by omega)) (fun i hi => at_get (by omega)) (fun i hi => m.gb_at (by omega)) (by omega) (mono_l L (m.ga_at (by omega)) (fun i hi => m.gb_at (by omega)) (fun i j hij hj => m.b_le L (by omega) (by omega))) fun k1 hk1n hk11 hk12 => ?_)
                      dsimp only
                      have le2 : ∀ i, i < k1 → kb + 1 + i < b.size → ∀ j, ka + k ≤ j → j < a.size → R (a.getD j d0) (b.getD (kb + 1 + i) d0) = false := fun i hi hib j h1 h2 => L.tr _ _ _ (m.ga_at h2) (m.ga_at (by omega)) (m.gb_at hib) (m.a_le L h1 h2) (L.asym _ _ (m.gb_at hib) (m.ga_at (by omega)) (by have := hk11 i hi; simpa [byd] using this))
                      have gt2 : ∀ j, kb + 1 + k1 ≤ j → j < b.size → R (b.getD j d0) (a.getD (ka + k) d0) = false := fun j h1 h2 => by have := hk12 (j - (kb + 1)) (by omega) (by omega); simpa [byd, show kb + 1 + (j - (kb + 1)) = j by omega] using this
                      by_cases ck1 : k1 > 0
                      · rw [if_pos ck1]
                        have hm4 := hm3.kb (k := k1) fun i hi hib j h1 h2 => le2 i hi hib j h1 h2
                        by_cases e4 : (kb + 1 + k1 == b.size) = true
                        · rw [if_pos e4]
                          exact wpS_pure ⟨⟨_, rfl⟩, .inl ⟨_, rfl, hm4.done (.inr (by have := eq_of_beq e4; omega))⟩⟩
                        · rw [if_neg e4]
                          have e4' : ¬ kb + 1 + k1 = b.size := by simpa using e4
                          refine wpS_bind (wpS_elem (at_get (show ka + k < a.size by omega)) ?_)
                          have hm5 := hm4.pa (show ka + k < a.size by omega) fun j h1 h2 => gt2 j (by omega) h2
                          by_cases e5 : (ka + k + 1 + 1 == a.size) = true
                          · rw [if_pos e5]
                            exact wpS_pure ⟨⟨_, rfl⟩, .inl ⟨_, rfl, hlast hm5 (eq_of_beq e5)⟩⟩
                          · rw [if_neg e5]
                            have e5' : ¬ ka + k + 1 + 1 = a.size := by simpa using e5
                            by_cases f : (decide (k < 7) && decide (k1 < 7)) = true
                            · rw [if_pos f]
                              exact wpS_pure ⟨⟨_, rfl⟩, .inr ⟨rfl, hm5, (by dsimp only; omega), (by dsimp only; omega), by dsimp only; omega⟩⟩
                            · rw [if_neg f]
                              exact wpS_pure ⟨⟨_, rfl⟩, rfl, hm5, (by dsimp only; omega), (by dsimp only; omega), by dsimp only; omega⟩
                      · rw [if_neg ck1]
                        have : k1 = 0 := by omega
                        subst this
                        refine wpS_bind (wpS_elem (at_get (show ka + k < a.size by omega)) ?_)
                        have hm5 := hm3.pa (show ka + k < a.size by omega) fun j h1 h2 => gt2 j (by omega) h2
                        by_cases e5 : (ka + k + 1 + 1 == a.size) = true
                        · rw [if_pos e5]
                          exact wpS_pure ⟨⟨_, rfl⟩, .inl ⟨_, rfl, hlast hm5 (eq_of_beq e5)⟩⟩
                        · rw [if_neg e5]
                          have e5' : ¬ ka + k + 1 + 1 = a.size := by simpa using e5
                          by_cases f : (decide (k < 7) && decide (0 < 7)) = true
                          · rw [if_pos f]
                            exact wpS_pure ⟨⟨_, rfl⟩, .inr ⟨rfl, hm5, (by dsimp only; omega), (by dsimp only; omega), by dsimp only; omega⟩⟩
                          · rw [if_neg f]
                            exact wpS_pure ⟨⟨_, rfl⟩, rfl, hm5, (by dsimp only; omega), (by dsimp only; omega), by dsimp only; omega⟩
              · rw [if_neg ck]
                have : k = 0 := by omega
                subst this
                have hm1 := hm
                refine wpS_bind (wpS_elem (at_get hkb) ?_)
                have hm3 := hm1.pb hkb fun j h1 h2 => gt1 j (by omega) h2
                by_cases e3 : (kb + 1 == b.size) = true
                · rw [if_pos e3]
                  exact wpS_pure ⟨⟨_, rfl⟩, .inl ⟨_, rfl, hm3.done (.inr (by have := eq_of_beq e3; omega))⟩⟩
                · rw [if_neg e3]
                  have e3' : ¬ kb + 1 = b.size := by simpa using e3
                  refine wpS_bind (wpS_elem (at_get (show ka < a.size by omega)) ?_)
                  refine wpS_bind (gallop_ok L (left := true) (f := fun i => b.getD (kb + 1 + i) d0) hk (m.ga_at (by omega)) (fun i hi => at_get (by omega)) (fun i hi => m.gb_at (by omega)) (by omega) (mono_l L (m.ga_at (by omega)) (fun i hi => m.gb_at (by omega)) (fun i j hij hj => m.b_le L (by omega) (by omega))) fun k1 hk1n hk11 hk12 => ?_)
                  dsimp only
                  have le2 : ∀ i, i < k1 → kb + 1 + i < b.size → ∀ j, ka ≤ j → j < a.size → R (a.getD j d0) (b.getD (kb + 1 + i) d0) = false := fun i hi hib j h1 h2 => L.tr _ _ _ (m.ga_at h2) (m.ga_at (by omega)) (m.gb_at hib) (m.a_le L h1 h2) (L.asym _ _ (m.gb_at hib) (m.ga_at (by omega)) (by have := hk11 i hi; simpa [byd] using this))
                  have gt2 : ∀ j, kb + 1 + k1 ≤ j → j < b.size → R (b.getD j d0) (a.getD (ka) d0) = false := fun j h1 h2 => by have := hk12 (j - (kb + 1)) (by omega) (by omega); simpa [byd, show kb + 1 + (j - (kb + 1)) = j by omega] using this
                  by_cases ck1 : k1 > 0
                  · rw [if_pos ck1]
                    have hm4 := hm3.kb (k := k1) fun i hi hib j h1 h2 => le2 i hi hib j h1 h2
                    by_cases e4 : (kb + 1 + k1 == b.size) = true
                    · rw [if_pos e4]
                      exact wpS_pure ⟨⟨_, rfl⟩, .inl ⟨_, rfl, hm4.done (.inr (by have := eq_of_beq e4; omega))⟩⟩
                    · rw [if_neg e4]
                      have e4' : ¬ kb + 1 + k1 = b.size := by simpa using e4
                      refine wpS_bind (wpS_elem (at_get (show ka < a.size by omega)) ?_)
                      have hm5 := hm4.pa (show ka < a.size by omega) fun j h1 h2 => gt2 j (by omega) h2
                      by_cases e5 : (ka + 1 + 1 == a.size) = true
                      · rw [if_pos e5]
                        exact wpS_pure ⟨⟨_, rfl⟩, .inl ⟨_, rfl, hlast hm5 (eq_of_beq e5)⟩⟩
                      · rw [if_neg e5]
                        have e5' : ¬ ka + 1 + 1 = a.size := by simpa using e5
                        by_cases f : (decide (0 < 7) && decide (k1 < 7)) = true
                        · rw [if_pos f]
                          exact wpS_pure ⟨⟨_, rfl⟩, .inr ⟨rfl, hm5, (by dsimp only; omega), (by dsimp only; omega), by dsimp only; omega⟩⟩
                        · rw [if_neg f]
                          exact wpS_pure ⟨⟨_, rfl⟩, rfl, hm5, (by dsimp only; omega), (by dsimp only; omega), by dsimp only; omega⟩
                  · rw [if_neg ck1]
                    have : k1 = 0 := by omega
                    subst this
                    refine wpS_bind (wpS_elem (at_get (show ka < a.size by omega)) ?_)
                    have hm5 := hm3.pa (show ka < a.size by omega) fun j h1 h2 => gt2 j (by omega) h2
                    by_cases e5 : (ka + 1 + 1 == a.size) = true
                    · rw [if_pos e5]
                      exact wpS_pure ⟨⟨_, rfl⟩, .inl ⟨_, rfl, hlast hm5 (eq_of_beq e5)⟩⟩
                    · rw [if_neg e5]
                      have e5' : ¬ ka + 1 + 1 = a.size := by simpa using e5
                      by_cases f : (decide (0 < 7) && decide (0 < 7)) = true
                      · rw [if_pos f]
                        exact wpS_pure ⟨⟨_, rfl⟩, .inr ⟨rfl, hm5, (by dsimp only; omega), (by dsimp only; omega), by dsimp only; omega⟩⟩
                      · rw [if_neg f]
                        exact wpS_pure ⟨⟨_, rfl⟩, rfl, hm5, (by dsimp only; omega), (by dsimp only; omega), by dsimp only; omega⟩
          · rintro ⟨r, o, ka, kb, mg2, ac2, bc2⟩ st3 ⟨⟨g, rfl⟩, rfl, hm, hka, hkb, hcn2⟩
            dsimp only at hm hka hkb hcn2
            exfalso
            omega
          rintro ⟨r, o, ka, kb, mg2, ac2, bc2⟩ st3 ⟨⟨g, rfl⟩, hres⟩
          rcases hres with ⟨X, hX, hM⟩ | ⟨hX, hm, hka, hkb, hcn2⟩
          · dsimp only at hX
            subst hX
            exact wpS_pure ⟨⟨g, rfl⟩, X, rfl, hM⟩
          · dsimp only at hX hm hka hkb hcn2 ⊢
            subst hX
            dsimp only
            refine wpS_bind (wpS_setMin (wpS_pure ⟨⟨_, rfl⟩, rfl, hm, hka, hkb, ?_⟩))
            dsimp only
            omega
      · rintro ⟨r, o, ia, ib, mg⟩ st1 ⟨⟨g, rfl⟩, rfl, hm, hia, hib, hcnt⟩
        dsimp only at hm hia hib hcnt
        exfalso
        omega
      rintro ⟨r, o, ia, ib, mg⟩ st1 ⟨⟨g, rfl⟩, X, hX, hM⟩
      dsimp only at hX ⊢
      subst hX
      exact wpS_pure (h X g hM)
end
end L2
set_option Elab.async false
set_option linter.all false
set_option maxRecDepth 100000
set_option maxHeartbeats 4000000
namespace L2
open PySem PySem.W PyProof.Rows
section
variable {M : Model} {A : Around} {E : Value → Shared → Prop} {s : Shared} {κ : SortKind} {G : Keyed → Prop} {R : Keyed → Keyed → Bool}
abbrev flR (R : Keyed → Keyed → Bool) : Keyed → Keyed → Bool := fun x y => R y x
theorem ol_rev {l : List Keyed} : OL (flR R) l.reverse ↔ OL R l := by
  unfold OL
  rw [List.pairwise_reverse]
section
variable {a b o : Array Keyed} {na nb k : Nat}
abbrev MB (R : Keyed → Keyed → Bool) (a b o : Array Keyed) (na nb : Nat) : Prop := MI (flR R) a.toList.reverse b.toList.reverse o.toList (a.toList.take na).reverse (b.toList.take nb).reverse
theorem take_at {a : Array Keyed} {i : Nat} (h0 : 0 < i) (h : i ≤ a.size) : (a.toList.take i).reverse = a.getD (i - 1) d0 :: (a.toList.take (i - 1)).reverse := by
  obtain ⟨j, rfl⟩ : ∃ j, i = j + 1 := ⟨i - 1, by omega⟩
  rw [List.take_succ_eq_append_getElem (by simp; omega), List.reverse_append]
  have : a.getD j d0 = a[j]'(by omega) := by simp [Array.getD, show j < a.size by omega]
  rw [Nat.add_sub_cancel, this]
  rfl
theorem mem_takeR {a : Array Keyed} {i : Nat} {x : Keyed} (h : x ∈ (a.toList.take i).reverse) : ∃ j, j < i ∧ j < a.size ∧ x = a.getD j d0 := by
  rw [List.mem_reverse] at h
  obtain ⟨j, hj, e⟩ := List.getElem_of_mem h
  rw [List.length_take] at hj
  have hj' : j < a.size := by simp at hj; omega
  refine ⟨j, by omega, hj', ?_⟩
  rw [← e, List.getElem_take]
  simp [Array.getD, hj']
theorem MB.pb (h : MB R a b o na nb) (h1 : 0 < nb) (hb : nb ≤ b.size) (hp : ∀ j, j < na → j < a.size → R (b.getD (nb - 1) d0) (a.getD j d0) = false) : MB R a b (o.push (b.getD (nb - 1) d0)) na (nb - 1) := by
  unfold MB at h ⊢
  rw [take_at h1 hb] at h
  rw [Array.toList_push]
  refine MI.b (p := [b.getD (nb - 1) d0]) h fun x hx y hy => ?_
  rw [List.mem_singleton] at hx
  subst hx
  obtain ⟨j, j1, j2, rfl⟩ := mem_takeR hy
  exact hp j j1 j2
theorem MB.pa (h : MB R a b o na nb) (h1 : 0 < na) (ha : na ≤ a.size) (hp : ∀ j, j < nb → j < b.size → R (a.getD (na - 1) d0) (b.getD j d0) = false) : MB R a b (o.push (a.getD (na - 1) d0)) (na - 1) nb := by
  unfold MB at h ⊢
  rw [take_at h1 ha] at h
  rw [Array.toList_push]
  refine MI.a (p := [a.getD (na - 1) d0]) h fun x hx y hy => ?_
  rw [List.mem_singleton] at hx
  subst hx
  obtain ⟨j, j1, j2, rfl⟩ := mem_takeR hy
  exact hp j j1 j2
theorem ex_rev (a : Array Keyed) (i n : Nat) : (a.extract i n).reverse.toList = ((a.toList.take n).drop i).reverse := by
  rw [Array.toList_reverse, Array.toList_extract, List.extract_eq_take_drop, List.drop_take]
theorem take_split (l : List Keyed) {i n : Nat} (h : i ≤ n) : (l.take n).reverse = ((l.take n).drop i).reverse ++ (l.take i).reverse := by
  rw [← List.reverse_append]
  congr 1
  have : l.take i = (l.take n).take i := by rw [List.take_take, Nat.min_eq_left h]
  rw [this, List.take_append_drop]
theorem mem_mid {a : Array Keyed} {i n : Nat} {x : Keyed} (h : x ∈ ((a.toList.take n).drop i).reverse) : ∃ j, i ≤ j ∧ j < n ∧ j < a.size ∧ x = a.getD j d0 := by
  rw [List.mem_reverse] at h
  obtain ⟨j, hj, e⟩ := List.getElem_of_mem h
  rw [List.length_drop, List.length_take] at hj
  have hj' : i + j < a.size := by simp at hj; omega
  refine ⟨i + j, by omega, by omega, hj', ?_⟩
  rw [← e, List.getElem_drop, List.getElem_take]
  simp [Array.getD, hj']
theorem MB.ka (h : MB R a b o na nb) (hk : k ≤ na) (hp : ∀ i, k ≤ i → i < na → i < a.size → ∀ j, j < nb → j < b.size → R (a.getD i d0) (b.getD j d0) = false) : MB R a b (o ++ (a.extract k na).reverse) k nb := by
  unfold MB at h ⊢
  rw [Array.toList_append, ex_rev]
  refine MI.a (p := ((a.toList.take na).drop k).reverse) (by rw [← take_split _ hk]; exact h) fun x hx y hy => ?_
  obtain ⟨i, i1, i2, i3, rfl⟩ := mem_mid hx
  obtain ⟨j, h1, h2, rfl⟩ := mem_takeR hy
  exact hp i i1 i2 i3 j h1 h2
theorem MB.kb (h : MB R a b o na nb) (hk : k ≤ nb) (hp : ∀ i, k ≤ i → i < nb → i < b.size → ∀ j, j < na → j < a.size → R (b.getD i d0) (a.getD j d0) = false) : MB R a b (o ++ (b.extract k nb).reverse) na k := by
  unfold MB at h ⊢
  rw [Array.toList_append, ex_rev]
  refine MI.b (p := ((b.toList.take nb).drop k).reverse) (by rw [← take_split _ hk]; exact h) fun x hx y hy => ?_
  obtain ⟨i, i1, i2, i3, rfl⟩ := mem_mid hx
  obtain ⟨j, h1, h2, rfl⟩ := mem_takeR hy
  exact hp i i1 i2 i3 j h1 h2
theorem ex_0 (a : Array Keyed) (n : Nat) : (a.extract 0 n).toList = a.toList.take n := by
  rw [Array.toList_extract, List.extract_eq_take_drop]
  simp
theorem mgd_rev {x : Array Keyed} (h : OL (flR R) x.toList.reverse ∧ x.toList.reverse.Perm (a.toList.reverse ++ b.toList.reverse)) : Mgd R a b x := by
  refine ⟨ol_rev.mp h.1, ?_⟩
  exact (List.reverse_perm _).symm.trans (h.2.trans ((List.reverse_perm _).append (List.reverse_perm _)))
theorem MB.done (h : MB R a b o na nb) (hd : na = 0 ∨ nb = 0) : Mgd R a b (a.extract 0 na ++ b.extract 0 nb ++ o.reverse) := by
  refine mgd_rev ?_
  rw [Array.toList_append, Array.toList_append, ex_0, ex_0, Array.toList_reverse, List.reverse_append, List.reverse_append, List.reverse_reverse, ← List.append_assoc]
  refine MI.fin2 h fun x hx y hy => ?_
  obtain ⟨i, i1, i2, _⟩ := mem_takeR hx
  obtain ⟨j, j1, j2, _⟩ := mem_takeR hy
  omega
theorem MB.first (h : MB R a b o na nb) (hl : ∀ i, i < na → i < a.size → ∀ j, j < nb → j < b.size → R (a.getD i d0) (b.getD j d0) = false) : Mgd R a b (b.extract 0 nb ++ a.extract 0 na ++ o.reverse) := by
  refine mgd_rev ?_
  rw [Array.toList_append, Array.toList_append, ex_0, ex_0, Array.toList_reverse, List.reverse_append, List.reverse_append, List.reverse_reverse, ← List.append_assoc]
  refine MI.fin h fun x hx y hy => ?_
  obtain ⟨i, i1, i2, rfl⟩ := mem_takeR hx
  obtain ⟨j, j1, j2, rfl⟩ := mem_takeR hy
  exact hl i i1 i2 j j1 j2
end
theorem mergeHi_ok (L : LtE M A E s κ G R) {a b : Array Keyed} {st : SortSt} {Q : Array Keyed → SortSt → Prop} (hk : kindOf st = κ) (m : ML R G a b) (ha : 0 < a.size) (hb : 0 < b.size)
    (h0 : ∀ i, i < a.size → R (a.getD i d0) (b.getD 0 d0) = false) (hl : ∀ j, j < b.size → R (a.getD (a.size - 1) d0) (b.getD j d0) = false)
    (h : ∀ out g, Mgd R a b out → Q out (setG st g)) : wpS M A E s (mergeHi' a b) Q st := by
  have start : MB R a b #[a.getD (a.size - 1) d0] (a.size - 1) b.size := by
    have z : MB R a b #[] a.size b.size := ⟨List.Pairwise.nil, (fun x hx => nomatch hx), by
      have e1 : a.toList.take a.size = a.toList := List.take_of_length_le (by simp)
      have e2 : b.toList.take b.size = b.toList := List.take_of_length_le (by simp)
      rw [e1, e2]
      simp, by
      have e1 : a.toList.take a.size = a.toList := List.take_of_length_le (by simp)
      rw [e1]
      exact ol_rev.mpr m.oa, by
      have e2 : b.toList.take b.size = b.toList := List.take_of_length_le (by simp)
      rw [e2]
      exact ol_rev.mpr m.ob⟩
    have := z.pa ha (Nat.le_refl _) fun j _ hj => hl j hj
    simpa using this
  have hfirst : ∀ {o : Array Keyed} {na nb : Nat}, MB R a b o na nb → nb = 1 → Mgd R a b (b.extract 0 nb ++ a.extract 0 na ++ o.reverse) := fun {o na nb} h e => h.first fun i _ hi j hj1 hj2 => by
    have : j = 0 := by omega
    rw [this]; exact h0 i hi
  refine wpS_bind (wpS_rule ?_)
  refine wpS_bind (wpS_elem (at_get (show a.size - 1 < a.size by omega)) ?_)
  dsimp only
  by_cases c1 : (a.size - 1 == 0) = true
  · rw [if_pos c1]
    exact wpS_pure (h _ (gallopOf st) (start.done (.inl (eq_of_beq c1))))
  · rw [if_neg c1]
    have c1' : ¬ a.size - 1 = 0 := by simpa using c1
    by_cases c2 : (b.size == 1) = true
    · rw [if_pos c2]
      exact wpS_pure (h _ (gallopOf st) (hfirst start (eq_of_beq c2)))
    · rw [if_neg c2]
      have c2' : ¬ b.size = 1 := by simpa using c2
      refine wpS_bind (wpS_get ?_)
      refine wpS_bind (wpS_mono (wpS_forRange (I := fun i (c : Option (Array Keyed) × Nat × Nat × Array Keyed × Nat) st' => (∃ g, st' = setG st g) ∧ c.1 = none ∧ MB R a b c.2.2.2.1 c.2.1 c.2.2.1 ∧ 0 < c.2.1 ∧ 1 < c.2.2.1 ∧ c.2.1 ≤ a.size ∧ c.2.2.1 ≤ b.size ∧ i + 1 + c.2.1 + c.2.2.1 ≤ a.size + b.size)
        (Q := fun c st' => (∃ g, st' = setG st g) ∧ ∃ X, c.1 = some X ∧ Mgd R a b X) ?_ ?_ ⟨⟨gallopOf st, rfl⟩, rfl, start, (by dsimp only; omega), (by dsimp only; omega), (by dsimp only; omega), Nat.le_refl _, by dsimp only; omega⟩) ?_)
      · rintro i ⟨r, na, nb, o, mg⟩ st1 _ hin ⟨⟨g, rfl⟩, rfl, hm, hia, hib, hia2, hib2, hcnt⟩
        dsimp only at hm hia hib hia2 hib2 hcnt ⊢
        refine wpS_bind (wpS_mono (wpS_forRange (I := fun i (d : Option (Array Keyed) × Nat × Nat × Array Keyed × Nat × Nat) st' => (∃ g, st' = setG st g) ∧ d.1 = none ∧ MB R a b d.2.2.2.1 d.2.1 d.2.2.1 ∧ 0 < d.2.1 ∧ 1 < d.2.2.1 ∧ d.2.1 ≤ a.size ∧ d.2.2.1 ≤ b.size ∧ i + d.2.1 + d.2.2.1 ≤ na + nb)
          (Q := fun d st' => (∃ g, st' = setG st g) ∧ ((∃ X, d.1 = some X ∧ Mgd R a b X) ∨ (d.1 = none ∧ MB R a b d.2.2.2.1 d.2.1 d.2.2.1 ∧ 0 < d.2.1 ∧ 1 < d.2.2.1 ∧ d.2.1 ≤ a.size ∧ d.2.2.1 ≤ b.size ∧ 1 + d.2.1 + d.2.2.1 ≤ na + nb))) ?_ ?_ ⟨⟨g, rfl⟩, rfl, hm, hia, hib, hia2, hib2, by dsimp only; omega⟩) ?_)
        · rintro i2 ⟨r, ja, jb, o, ac, bc⟩ st2 _ hin2 ⟨⟨g, rfl⟩, rfl, hm, hja, hjb, hja2, hjb2, hcn⟩
          dsimp only at hm hja hjb hja2 hjb2 hcn ⊢
          refine wpS_bind (wpS_elem (at_get (show jb - 1 < b.size by omega)) (wpS_bind (wpS_elem (at_get (show ja - 1 < a.size by omega)) ?_)))
          refine wpS_bind (L.lt _ _ (m.gb_at (by omega)) (m.ga_at (by omega)) _ _ hk ?_)
          dsimp only
          by_cases c : R (b.getD (jb - 1) d0) (a.getD (ja - 1) d0) = true
          · rw [if_pos c]
            refine wpS_bind (wpS_elem (at_get (show ja - 1 < a.size by omega)) ?_)
            have hm2 := hm.pa hja hja2 fun j h1 h2 => L.tr _ _ _ (m.ga_at (by omega)) (m.gb_at (show jb - 1 < b.size by omega)) (m.gb_at h2) (L.asym _ _ (m.gb_at (by omega)) (m.ga_at (by omega)) c) (m.b_le L (by omega) (by omega))
            by_cases e : (ja - 1 == 0) = true
            · rw [if_pos e]
              exact wpS_pure ⟨⟨g, rfl⟩, .inl ⟨_, rfl, hm2.done (.inl (eq_of_beq e))⟩⟩
            · rw [if_neg e]
              have e' : ¬ ja - 1 = 0 := by simpa using e
              by_cases f : ac + 1 ≥ mg
              · rw [if_pos f]
                exact wpS_pure ⟨⟨g, rfl⟩, .inr ⟨rfl, hm2, (by dsimp only; omega), hjb, (by dsimp only; omega), hjb2, by dsimp only; omega⟩⟩
              · rw [if_neg f]
                exact wpS_pure ⟨⟨g, rfl⟩, rfl, hm2, (by dsimp only; omega), hjb, (by dsimp only; omega), hjb2, by dsimp only; omega⟩
          · rw [if_neg c]
            have c' : R (b.getD (jb - 1) d0) (a.getD (ja - 1) d0) = false := by simpa using c
            refine wpS_bind (wpS_elem (at_get (show jb - 1 < b.size by omega)) ?_)
            have hm2 := hm.pb (by omega) hjb2 fun j h1 h2 => L.tr _ _ _ (m.gb_at (by omega)) (m.ga_at (show ja - 1 < a.size by omega)) (m.ga_at h2) c' (m.a_le L (by omega) (by omega))
            by_cases e : (jb - 1 == 1) = true
            · rw [if_pos e]
              exact wpS_pure ⟨⟨g, rfl⟩, .inl ⟨_, rfl, hfirst hm2 (eq_of_beq e)⟩⟩
            · rw [if_neg e]
              have e' : ¬ jb - 1 = 1 := by simpa using e
              by_cases f : bc + 1 ≥ mg
              · rw [if_pos f]
                exact wpS_pure ⟨⟨g, rfl⟩, .inr ⟨rfl, hm2, hja, (by dsimp only; omega), hja2, (by dsimp only; omega), by dsimp only; omega⟩⟩
              · rw [if_neg f]
                exact wpS_pure ⟨⟨g, rfl⟩, rfl, hm2, hja, (by dsimp only; omega), hja2, (by dsimp only; omega), by dsimp only; omega⟩
        · rintro ⟨r, ja, jb, o, ac, bc⟩ st2 ⟨⟨g, rfl⟩, rfl, hm, hja, hjb, hja2, hjb2, hcn⟩
          dsimp only at hm hja hjb hja2 hjb2 hcn
          exfalso
          omega
        rintro ⟨r, ja, jb, o, ac, bc⟩ st2 ⟨⟨g, rfl⟩, hres⟩
        rcases hres with ⟨X, hX, hM⟩ | ⟨hX, hm, hja, hjb, hja2, hjb2, hcn⟩
        · dsimp only at hX
          subst hX
          exact wpS_pure ⟨⟨g, rfl⟩, X, rfl, hM⟩
        · dsimp only at hX hm hja hjb hja2 hjb2 hcn ⊢
          subst hX
          dsimp only
          refine wpS_bind (wpS_rule ?_)
          refine wpS_bind (wpS_mono (wpS_forRange (I := fun i (d : Option (Array Keyed) × Nat × Nat × Array Keyed × Nat × Nat × Nat) st' => (∃ g, st' = setG st g) ∧ d.1 = none ∧ MB R a b d.2.2.2.1 d.2.1 d.2.2.1 ∧ 0 < d.2.1 ∧ 1 < d.2.2.1 ∧ d.2.1 ≤ a.size ∧ d.2.2.1 ≤ b.size ∧ i + d.2.1 + d.2.2.1 ≤ ja + jb)
            (Q := fun d st' => (∃ g, st' = setG st g) ∧ ((∃ X, d.1 = some X ∧ Mgd R a b X) ∨ (d.1 = none ∧ MB R a b d.2.2.2.1 d.2.1 d.2.2.1 ∧ 0 < d.2.1 ∧ 1 < d.2.2.1 ∧ d.2.1 ≤ a.size ∧ d.2.2.1 ≤ b.size ∧ d.2.1 + d.2.2.1 ≤ ja + jb))) ?_ ?_ ⟨⟨g, rfl⟩, rfl, hm, hja, hjb, hja2, hjb2, by dsimp only; omega⟩) ?_)
          · rintro i2 ⟨r, ka, kb, o, mg2, ac2, bc2⟩ st3 _ hin2 ⟨⟨g, rfl⟩, rfl, hm, hka, hkb, hka2, hkb2, hcn2⟩
            dsimp only at hm hka hkb hka2 hkb2 hcn2 ⊢
            by_cases cg : mg2 > 1
            · rw [if_pos cg]
              refine wpS_bind (wpS_setMin ?_)
              refine wpS_bind (wpS_elem (at_get (show kb - 1 < b.size by omega)) ?_)
              refine wpS_bind (gallop_ok L (left := false) (f := fun i => a.getD (0 + i) d0) hk (m.gb_at (by omega)) (fun i hi => at_get (by omega)) (fun i hi => m.ga_at (by omega)) (by omega) (mono_r L (m.gb_at (by omega)) (fun i hi => m.ga_at (by omega)) (fun i j hij hj => m.a_le L (by omega) (by omega))) fun k hkn hk1 hk2 => ?_)
              dsimp only
              have le1 : ∀ i, k ≤ i → i < ka → i < a.size → ∀ j, j < kb → j < b.size → R (a.getD i d0) (b.getD j d0) = false := fun i h1 h2 h3 j h4 h5 => L.tr _ _ _ (m.ga_at h3) (m.gb_at (show kb - 1 < b.size by omega)) (m.gb_at h5) (L.asym _ _ (m.gb_at (by omega)) (m.ga_at h3) (by have := hk2 i h1 h2; simpa [byd] using this)) (m.b_le L (by omega) (by omega))
              have gt1 : ∀ j, j < k → j < a.size → R (b.getD (kb - 1) d0) (a.getD j d0) = false := fun j h1 h2 => by have := hk1 j h1; simpa [byd] using this
              by_cases ck : ka - k > 0
              · rw [if_pos ck]
                have hm1 := hm.ka (k := k) (by omega) fun i h1 h2 h3 j h4 h5 => le1 i h1 h2 h3 j h4 h5
                by_cases e : (k == 0) = true
                · rw [if_pos e]
                  exact wpS_pure ⟨⟨_, rfl⟩, .inl ⟨_, rfl, hm1.done (.inl (eq_of_beq e))⟩⟩
                · rw [if_neg e]
                  have e' : ¬ k = 0 := by simpa using e
                  refine wpS_bind (wpS_elem (at_get (show kb - 1 < b.size by omega)) ?_)
                  have hm3 := hm1.pb (show 0 < kb by omega) (by omega) fun j h1 h2 => gt1 j (by omega) h2
                  by_cases e3 : (kb - 1 == 1) = true
                  · rw [if_pos e3]
                    exact wpS_pure ⟨⟨_, rfl⟩, .inl ⟨_, rfl, hfirst hm3 (eq_of_beq e3)⟩⟩
                  · rw [if_neg e3]
                    have e3' : ¬ kb - 1 = 1 := by simpa using e3
                    refine wpS_bind (wpS_elem (at_get (show k - 1 < a.size by omega)) ?_)
                    refine wpS_bind (gallop_ok L (left := true) (f := fun i => b.getD (0 + i) d0) hk (m.ga_at (by omega)) (fun i hi => at_get (by omega)) (fun i hi => m.gb_at (by omega)) (by omega) (mono_l L (m.ga_at (by omega)) (fun i hi => m.gb_at (by omega)) (fun i j hij hj => m.b_le L (by omega) (by omega))) fun k1 hk1n hk11 hk12 => ?_)
                    dsimp only
                    have le2 : ∀ i, k1 ≤ i → i < kb - 1 → i < b.size → ∀ j, j < k → j < a.size → R (b.getD i d0) (a.getD j d0) = false := fun i hi hib hi2 j h1 h2 => L.tr _ _ _ (m.gb_at hi2) (m.ga_at (show k - 1 < a.size by omega)) (m.ga_at h2) (by have := hk12 i hi hib; simpa [byd] using this) (m.a_le L (by omega) (by omega))
                    have gt2 : ∀ j, j < k1 → j < b.size → R (a.getD (k - 1) d0) (b.getD j d0) = false := fun j h1 h2 => L.asym _ _ (m.gb_at h2) (m.ga_at (by omega)) (by have := hk11 j h1; simpa [byd] using this)
                    by_cases ck1 : kb - 1 - k1 > 0
                    · rw [if_pos ck1]
                      have hm4 := hm3.kb (k := k1) (by omega) fun i h1 h2 h3 j h4 h5 => le2 i h1 h2 h3 j h4 h5
                      by_cases e4 : (k1 == 1) = true
                      · rw [if_pos e4]
                        exact wpS_pure ⟨⟨_, rfl⟩, .inl ⟨_, rfl, hfirst hm4 (eq_of_beq e4)⟩⟩
                      · rw [if_neg e4]
                        have e4' : ¬ k1 = 1 := by simpa using e4
                        by_cases e6 : (k1 == 0) = true
                        · rw [if_pos e6]
                          exact wpS_pure ⟨⟨_, rfl⟩, .inl ⟨_, rfl, hm4.done (.inr (eq_of_beq e6))⟩⟩
                        · rw [if_neg e6]
                          have e6' : ¬ k1 = 0 := by simpa using e6
                          refine wpS_bind (wpS_elem (at_get (show k - 1 < a.size by omega)) ?_)
                          have hm5 := hm4.pa (show 0 < k by omega) (by omega) fun j h1 h2 => gt2 j (by omega) h2
                          by_cases e5 : (k - 1 == 0) = true
                          · rw [if_pos e5]
                            exact wpS_pure ⟨⟨_, rfl⟩, .inl ⟨_, rfl, hm5.done (.inl (eq_of_beq e5))⟩⟩
                          · rw [if_neg e5]
                            have e5' : ¬ k - 1 = 0 := by simpa using e5
                            by_cases f : (decide (ka - k < 7) && decide (kb - 1 - k1 < 7)) = true
                            · rw [if_pos f]
                              exact wpS_pure ⟨⟨_, rfl⟩, .inr ⟨rfl, hm5, (by dsimp only; omega), (by dsimp only; omega), (by dsimp only; omega), (by dsimp only; omega), by dsimp only; omega⟩⟩
                            · rw [if_neg f]
                              exact wpS_pure ⟨⟨_, rfl⟩, rfl, hm5, (by dsimp only; omega), (by dsimp only; omega), (by dsimp only; omega), (by dsimp only; omega), by dsimp only; omega⟩
                    · rw [if_neg ck1]
                      have : k1 = kb - 1 := by omega
                      refine wpS_bind (wpS_elem (at_get (show k - 1 < a.size by omega)) ?_)
                      have hm5 := hm3.pa (show 0 < k by omega) (by omega) fun j h1 h2 => gt2 j (by omega) h2
                      by_cases e5 : (k - 1 == 0) = true
                      · rw [if_pos e5]
                        exact wpS_pure ⟨⟨_, rfl⟩, .inl ⟨_, rfl, hm5.done (.inl (eq_of_beq e5))⟩⟩
                      · rw [if_neg e5]
                        have e5' : ¬ k - 1 = 0 := by simpa using e5
                        by_cases f : (decide (ka - k < 7) && decide (kb - 1 - k1 < 7)) = true
                        · rw [if_pos f]
                          exact wpS_pure ⟨⟨_, rfl⟩, .inr ⟨rfl, hm5, (by dsimp only; omega), (by dsimp only; omega), (by dsimp only; omega), (by dsimp only; omega), by dsimp only; omega⟩⟩
                        · rw [if_neg f]
                          exact wpS_pure ⟨⟨_, rfl⟩, rfl, hm5, (by dsimp only; omega), (by dsimp only; omega), (by dsimp only; omega), (by dsimp only; omega), by dsimp only; omega⟩
              · rw [if_neg ck]
                have : k = ka := by omega
                have hm1 := hm
                refine wpS_bind (wpS_elem (at_get (show kb - 1 < b.size by omega)) ?_)
                have hm3 := hm1.pb (show 0 < kb by omega) (by omega) fun j h1 h2 => gt1 j (by omega) h2
                by_cases e3 : (kb - 1 == 1) = true
                · rw [if_pos e3]
                  exact wpS_pure ⟨⟨_, rfl⟩, .inl ⟨_, rfl, hfirst hm3 (eq_of_beq e3)⟩⟩
                · rw [if_neg e3]
                  have e3' : ¬ kb - 1 = 1 := by simpa using e3
                  refine wpS_bind (wpS_elem (at_get (show ka - 1 < a.size by omega)) ?_)
                  refine wpS_bind (gallop_ok L (left := true) (f := fun i => b.getD (0 + i) d0) hk (m.ga_at (by omega)) (fun i hi => at_get (by omega)) (fun i hi => m.gb_at (by omega)) (by omega) (mono_l L (m.ga_at (by omega)) (fun i hi => m.gb_at (by omega)) (fun i j hij hj => m.b_le L (by omega) (by omega))) fun k1 hk1n hk11 hk12 => ?_)
                  dsimp only
                  have le2 : ∀ i, k1 ≤ i → i < kb - 1 → i < b.size → ∀ j, j < ka → j < a.size → R (b.getD i d0) (a.getD j d0) = false := fun i hi hib hi2 j h1 h2 => L.tr _ _ _ (m.gb_at hi2) (m.ga_at (show ka - 1 < a.size by omega)) (m.ga_at h2) (by have := hk12 i hi hib; simpa [byd] using this) (m.a_le L (by omega) (by omega))
                  have gt2 : ∀ j, j < k1 → j < b.size → R (a.getD (ka - 1) d0) (b.getD j d0) = false := fun j h1 h2 => L.asym _ _ (m.gb_at h2) (m.ga_at (by omega)) (by have := hk11 j h1; simpa [byd] using this)
                  by_cases ck1 : kb - 1 - k1 > 0
                  · rw [if_pos ck1]
                    have hm4 := hm3.kb (k := k1) (by omega) fun i h1 h2 h3 j h4 h5 => le2 i h1 h2 h3 j h4 h5
                    by_cases e4 : (k1 == 1) = true
                    · rw [if_pos e4]
                      exact wpS_pure ⟨⟨_, rfl⟩, .inl ⟨_, rfl, hfirst hm4 (eq_of_beq e4)⟩⟩
                    · rw [if_neg e4]
                      have e4' : ¬ k1 = 1 := by simpa using e4
                      by_cases e6 : (k1 == 0) = true
                      · rw [if_pos e6]
                        exact wpS_pure ⟨⟨_, rfl⟩, .inl ⟨_, rfl, hm4.done (.inr (eq_of_beq e6))⟩⟩
                      · rw [if_neg e6]
                        have e6' : ¬ k1 = 0 := by simpa using e6
                        refine wpS_bind (wpS_elem (at_get (show ka - 1 < a.size by omega)) ?_)
                        have hm5 := hm4.pa (show 0 < ka by omega) (by omega) fun j h1 h2 => gt2 j (by omega) h2
                        by_cases e5 : (ka - 1 == 0) = true
                        · rw [if_pos e5]
                          exact wpS_pure ⟨⟨_, rfl⟩, .inl ⟨_, rfl, hm5.done (.inl (eq_of_beq e5))⟩⟩
                        · rw [if_neg e5]
                          have e5' : ¬ ka - 1 = 0 := by simpa using e5
                          by_cases f : (decide (ka - k < 7) && decide (kb - 1 - k1 < 7)) = true
                          · rw [if_pos f]
                            exact wpS_pure ⟨⟨_, rfl⟩, .inr ⟨rfl, hm5, (by dsimp only; omega), (by dsimp only; omega), (by dsimp only; omega), (by dsimp only; omega), by dsimp only; omega⟩⟩
                          · rw [if_neg f]
                            exact wpS_pure ⟨⟨_, rfl⟩, rfl, hm5, (by dsimp only; omega), (by dsimp only; omega), (by dsimp only; omega), (by dsimp only; omega), by dsimp only; omega⟩
                  · rw [if_neg ck1]
                    have : k1 = kb - 1 := by omega
                    refine wpS_bind (wpS_elem (at_get (show ka - 1 < a.size by omega)) ?_)
                    have hm5 := hm3.pa (show 0 < ka by omega) (by omega) fun j h1 h2 => gt2 j (by omega) h2
                    by_cases e5 : (ka - 1 == 0) = true
                    · rw [if_pos e5]
                      exact wpS_pure ⟨⟨_, rfl⟩, .inl ⟨_, rfl, hm5.done (.inl (eq_of_beq e5))⟩⟩
                    · rw [if_neg e5]
                      have e5' : ¬ ka - 1 = 0 := by simpa using e5
                      by_cases f : (decide (ka - k < 7) && decide (kb - 1 - k1 < 7)) = true
                      · rw [if_pos f]
                        exact wpS_pure ⟨⟨_, rfl⟩, .inr ⟨rfl, hm5, (by dsimp only; omega), (by dsimp only; omega), (by dsimp only; omega), (by dsimp only; omega), by dsimp only; omega⟩⟩
                      · rw [if_neg f]
                        exact wpS_pure ⟨⟨_, rfl⟩, rfl, hm5, (by dsimp only; omega), (by dsimp only; omega), (by dsimp only; omega), (by dsimp only; omega), by dsimp only; omega⟩
            · rw [if_neg cg]
              refine wpS_bind (wpS_setMin ?_)
              refine wpS_bind (wpS_elem (at_get (show kb - 1 < b.size by omega)) ?_)
              refine wpS_bind (gallop_ok L (left := false) (f := fun i => a.getD (0 + i) d0) hk (m.gb_at (by omega)) (fun i hi => at_get (by omega)) (fun i hi => m.ga_at (by omega)) (by omega) (mono_r L (m.gb_at (by omega)) (fun i hi => m.ga_at (by omega)) (fun i j hij hj => m.a_le L (by omega) (by omega))) fun k hkn hk1 hk2 => ?_)
              dsimp only
              have le1 : ∀ i, k ≤ i → i < ka → i < a.size → ∀ j, j < kb → j < b.size → R (a.getD i d0) (b.getD j d0) = false := fun i h1 h2 h3 j h4 h5 => L.tr _ _ _ (m.ga_at h3) (m.gb_at (show kb - 1 < b.size by omega)) (m.gb_at h5) (L.asym _ _ (m.gb_at (by omega)) (m.ga_at h3) (by have := hk2 i h1 h2; simpa [byd] using this)) (m.b_le L (by omega) (by omega))
              have gt1 : ∀ j, j < k → j < a.size → R (b.getD (kb - 1) d0) (a.getD j d0) = false := fun j h1 h2 => by have := hk1 j h1; simpa [byd] using this
              by_cases ck : ka - k > 0
              · rw [if_pos ck]
                have hm1 := hm.ka (k := k) (by omega) fun i h1 h2 h3 j h4 h5 => le1 i h1 h2 h3 j h4 h5
                by_cases e : (k == 0) = true
                · rw [if_pos e]
                  exact wpS_pure ⟨⟨_, rfl⟩, .inl ⟨_, rfl, hm1.done (.inl (eq_of_beq e))⟩⟩
                · rw [if_neg e]
                  have e' : ¬ k = 0 := by simpa using e
                  refine wpS_bind (wpS_elem (at_get (show kb - 1 < b.size by omega)) ?_)
                  have hm3 := hm1.pb (show 0 < kb by omega) (by omega) fun j h1 h2 => gt1 j (by omega) h2
                  by_cases e3 : (kb - 1 == 1) = true
                  · rw [if_pos e3]
                    exact wpS_pure ⟨⟨_, rfl⟩, .inl ⟨_, rfl, hfirst hm3 (eq_of_beq e3)⟩⟩
                  · rw [if_neg e3]
                    have e3' : ¬ kb - 1 = 1 := by simpa using e3
                    refine wpS_bind (wpS_elem (at_get (show k - 1 < a.size by omega)) ?_)
                    refine wpS_bind (gallop_ok L (left := true) (f := fun i => b.getD (0 + i) d0) hk (m.ga_at (by omega)) (fun i hi => at_get (by omega)) (fun i hi => m.gb_at (by omega)) (by omega) (mono_l L (m.ga_at (by omega)) (fun i hi => m.gb_at (by omega)) (fun i j hij hj => m.b_le L (by omega) (by omega))) fun k1 hk1n hk11 hk12 => ?_)
                    dsimp only
                    have le2 : ∀ i, k1 ≤ i → i < kb - 1 → i < b.size → ∀ j, j < k → j < a.size → R (b.getD i d0) (a.getD j d0) = false := fun i hi hib hi2 j h1 h2 => L.tr _ _ _ (m.gb_at hi2) (m.ga_at (show k - 1 < a.size by omega)) (m.ga_at h2) (by have := hk12 i hi hib; simpa [byd] using this) (m.a_le L (by omega) (by omega))
                    have gt2 : ∀ j, j < k1 → j < b.size → R (a.getD (k - 1) d0) (b.getD j d0) = false := fun j h1 h2 => L.asym _ _ (m.gb_at h2) (m.ga_at (by omega)) (by have := hk11 j h1; simpa [byd] using this)
                    by_cases ck1 : kb - 1 - k1 > 0
                    · rw [if_pos ck1]
                      have hm4 := hm3.kb (k := k1) (by omega) fun i h1 h2 h3 j h4 h5 => le2 i h1 h2 h3 j h4 h5
                      by_cases e4 : (k1 == 1) = true
                      · rw [if_pos e4]
                        exact wpS_pure ⟨⟨_, rfl⟩, .inl ⟨_, rfl, hfirst hm4 (eq_of_beq e4)⟩⟩
                      · rw [if_neg e4]
                        have e4' : ¬ k1 = 1 := by simpa using e4
                        by_cases e6 : (k1 == 0) = true
                        · rw [if_pos e6]
                          exact wpS_pure ⟨⟨_, rfl⟩, .inl ⟨_, rfl, hm4.done (.inr (eq_of_beq e6))⟩⟩
                        · rw [if_neg e6]
                          have e6' : ¬ k1 = 0 := by simpa using e6
                          refine wpS_bind (wpS_elem (at_get (show k - 1 < a.size by omega)) ?_)
                          have hm5 := hm4.pa (show 0 < k by omega) (by omega) fun j h1 h2 => gt2 j (by omega) h2
                          by_cases e5 : (k - 1 == 0) = true
                          · rw [if_pos e5]
                            exact wpS_pure ⟨⟨_, rfl⟩, .inl ⟨_, rfl, hm5.done (.inl (eq_of_beq e5))⟩⟩
                          · rw [if_neg e5]
                            have e5' : ¬ k - 1 = 0 := by simpa using e5
                            by_cases f : (decide (ka - k < 7) && decide (kb - 1 - k1 < 7)) = true
                            · rw [if_pos f]
                              exact wpS_pure ⟨⟨_, rfl⟩, .inr ⟨rfl, hm5, (by dsimp only; omega), (by dsimp only; omega), (by dsimp only; omega), (by dsimp only; omega), by dsimp only; omega⟩⟩
                            · rw [if_neg f]
                              exact wpS_pure ⟨⟨_, rfl⟩, rfl, hm5, (by dsimp only; omega), (by dsimp only; omega), (by dsimp only; omega), (by dsimp only; omega), by dsimp only; omega⟩
                    · rw [if_neg ck1]
                      have : k1 = kb - 1 := by omega
                      refine wpS_bind (wpS_elem (at_get (show k - 1 < a.size by omega)) ?_)
                      have hm5 := hm3.pa (show 0 < k by omega) (by omega) fun j h1 h2 => gt2 j (by omega) h2
                      by_cases e5 : (k - 1 == 0) = true
                      · rw [if_pos e5]
                        exact wpS_pure ⟨⟨_, rfl⟩, .inl ⟨_, rfl, hm5.done (.inl (eq_of_beq e5))⟩⟩
                      · rw [if_neg e5]
                        have e5' : ¬ k - 1 = 0 := by simpa using e5
                        by_cases f : (decide (ka - k < 7) && decide (kb - 1 - k1 < 7)) = true
                        · rw [if_pos f]
                          exact wpS_pure ⟨⟨_, rfl⟩, .inr ⟨rfl, hm5, (by dsimp only; omega), (by dsimp only; omega), (by dsimp only; omega), (by dsimp only; omega), by dsimp only; omega⟩⟩
                        · rw [if_neg f]
                          exact wpS_pure ⟨⟨_, rfl⟩, rfl, hm5, (by dsimp only; omega), (by dsimp only; omega), (by dsimp only; omega), (by dsimp only; omega), by dsimp only; omega⟩
              · rw [if_neg ck]
                have : k = ka := by omega
                have hm1 := hm
                refine wpS_bind (wpS_elem (at_get (show kb - 1 < b.size by omega)) ?_)
                have hm3 := hm1.pb (show 0 < kb by omega) (by omega) fun j h1 h2 => gt1 j (by omega) h2
                by_cases e3 : (kb - 1 == 1) = true
                · rw [if_pos e3]
                  exact wpS_pure ⟨⟨_, rfl⟩, .inl ⟨_, rfl, hfirst hm3 (eq_of_beq e3)⟩⟩
                · rw [if_neg e3]
                  have e3' : ¬ kb - 1 = 1 := by simpa using e3
                  refine wpS_bind (wpS_elem (at_get (show ka - 1 < a.size by omega)) ?_)
                  refine wpS_bind (gallop_ok L (left := true) (f := fun i => b.getD (0 + i) d0) hk (m.ga_at (by omega)) (fun i hi => at_get (by omega)) (fun i hi => m.gb_at (by omega)) (by omega) (mono_l L (m.ga_at (by omega)) (fun i hi => m.gb_at (by omega)) (fun i j hij hj => m.b_le L (by omega) (by omega))) fun k1 hk1n hk11 hk12 => ?_)
                  dsimp only
                  have le2 : ∀ i, k1 ≤ i → i < kb - 1 → i < b.size → ∀ j, j < ka → j < a.size → R (b.getD i d0) (a.getD j d0) = false := fun i hi hib hi2 j h1 h2 => L.tr _ _ _ (m.gb_at hi2) (m.ga_at (show ka - 1 < a.size by omega)) (m.ga_at h2) (by have := hk12 i hi hib; simpa [byd] using this) (m.a_le L (by omega) (by omega))
                  have gt2 : ∀ j, j < k1 → j < b.size → R (a.getD (ka - 1) d0) (b.getD j d0) = false := fun j h1 h2 => L.asym _ _ (m.gb_at h2) (m.ga_at (by omega)) (by have := hk11 j h1; simpa [byd] using this)
                  by_cases ck1 : kb - 1 - k1 > 0
                  · rw [if_pos ck1]
                    have hm4 := hm3.kb (k := k1) (by omega) fun i h1 h2 h3 j h4 h5 => le2 i h1 h2 h3 j h4 h5
                    by_cases e4 : (k1 == 1) = true
                    · rw [if_pos e4]
                      exact wpS_pure ⟨⟨_, rfl⟩, .inl ⟨_, rfl, hfirst hm4 (eq_of_beq e4)⟩⟩
                    · rw [if_neg e4]
                      have e4' : ¬ k1 = 1 := by simpa using e4
                      by_cases e6 : (k1 == 0) = true
                      · rw [if_pos e6]
                        exact wpS_pure ⟨⟨_, rfl⟩, .inl ⟨_, rfl, hm4.done (.inr (eq_of_beq e6))⟩⟩
                      · rw [if_neg e6]
                        have e6' : ¬ k1 = 0 := by simpa using e6
                        refine wpS_bind (wpS_elem (at_get (show ka - 1 < a.size by omega)) ?_)
                        have hm5 := hm4.pa (show 0 < ka by omega) (by omega) fun j h1 h2 => gt2 j (by omega) h2
                        by_cases e5 : (ka - 1 == 0) = true
                        · rw [if_pos e5]
                          exact wpS_pure ⟨⟨_, rfl⟩, .inl ⟨_, rfl, hm5.done (.inl (eq_of_beq e5))⟩⟩
                        · rw [if_neg e5]
                          have e5' : ¬ ka - 1 = 0 := by simpa using e5
                          by_cases f : (decide (ka - k < 7) && decide (kb - 1 - k1 < 7)) = true
                          · rw [if_pos f]
                            exact wpS_pure ⟨⟨_, rfl⟩, .inr ⟨rfl, hm5, (by dsimp only; omega), (by dsimp only; omega), (by dsimp only; omega), (by dsimp only; omega), by dsimp only; omega⟩⟩
                          · rw [if_neg f]
                            exact wpS_pure ⟨⟨_, rfl⟩, rfl, hm5, (by dsimp only; omega), (by dsimp only; omega), (by dsimp only; omega), (by dsimp only; omega), by dsimp only; omega⟩
                  · rw [if_neg ck1]
                    have : k1 = kb - 1 := by omega
                    refine wpS_bind (wpS_elem (at_get (show ka - 1 < a.size by omega)) ?_)
                    have hm5 := hm3.pa (show 0 < ka by omega) (by omega) fun j h1 h2 => gt2 j (by omega) h2
                    by_cases e5 : (ka - 1 == 0) = true
                    · rw [if_pos e5]
                      exact wpS_pure ⟨⟨_, rfl⟩, .inl ⟨_, rfl, hm5.done (.inl (eq_of_beq e5))⟩⟩
                    · rw [if_neg e5]
                      have e5' : ¬ ka - 1 = 0 := by simpa using e5
                      by_cases f : (decide (ka - k < 7) && decide (kb - 1 - k1 < 7)) = true
                      · rw [if_pos f]
                        exact wpS_pure ⟨⟨_, rfl⟩, .inr ⟨rfl, hm5, (by dsimp only; omega), (by dsimp only; omega), (by dsimp only; omega), (by dsimp only; omega), by dsimp only; omega⟩⟩
                      · rw [if_neg f]
                        exact wpS_pure ⟨⟨_, rfl⟩, rfl, hm5, (by dsimp only; omega), (by dsimp only; omega), (by dsimp only; omega), (by dsimp only; omega), by dsimp only; omega⟩
          · rintro ⟨r, ka, kb, o, mg2, ac2, bc2⟩ st3 ⟨⟨g, rfl⟩, rfl, hm, hka, hkb, hka2, hkb2, hcn2⟩
            dsimp only at hm hka hkb hka2 hkb2 hcn2
            exfalso
            omega
          rintro ⟨r, ka, kb, o, mg2, ac2, bc2⟩ st3 ⟨⟨g, rfl⟩, hres⟩
          rcases hres with ⟨X, hX, hM⟩ | ⟨hX, hm, hka, hkb, hka2, hkb2, hcn2⟩
          · dsimp only at hX
            subst hX
            exact wpS_pure ⟨⟨g, rfl⟩, X, rfl, hM⟩
          · dsimp only at hX hm hka hkb hka2 hkb2 hcn2 ⊢
            subst hX
            dsimp only
            refine wpS_bind (wpS_setMin (wpS_pure ⟨⟨_, rfl⟩, rfl, hm, hka, hkb, hka2, hkb2, ?_⟩))
            dsimp only
            omega
      · rintro ⟨r, na, nb, o, mg⟩ st1 ⟨⟨g, rfl⟩, rfl, hm, hia, hib, hia2, hib2, hcnt⟩
        dsimp only at hm hia hib hia2 hib2 hcnt
        exfalso
        omega
      rintro ⟨r, na, nb, o, mg⟩ st1 ⟨⟨g, rfl⟩, X, hX, hM⟩
      dsimp only at hX ⊢
      subst hX
      exact wpS_pure (h X g hM)
end
end L2
set_option Elab.async false
set_option linter.all false
set_option maxRecDepth 100000
set_option maxHeartbeats 4000000
namespace L2
open PySem PySem.W PyProof.Rows
section
variable {M : Model} {A : Around} {E : Value → Shared → Prop} {s : Shared} {κ : SortKind} {G : Keyed → Prop} {R : Keyed → Keyed → Bool}
def SegO (R : Keyed → Keyed → Bool) (xs : Array Keyed) (l u : Nat) : Prop := ∀ i j, l ≤ i → i < j → j < u → R (xs.getD j d0) (xs.getD i d0) = false
theorem SegO.le (L : LtE M A E s κ G R) {xs : Array Keyed} {l u : Nat} (h : SegO R xs l u) (g : ∀ x ∈ xs.toList, G x) (hu : u ≤ xs.size) {i j : Nat} (hl : l ≤ i) (hij : i ≤ j) (hj : j < u) : R (xs.getD j d0) (xs.getD i d0) = false := by
  by_cases e : i = j
  · subst e
    have gi := g _ (at_mem (a := xs) (i := i) (by omega))
    cases z : R (xs.getD i d0) (xs.getD i d0) with
    | false => rfl
    | true => have := L.asym _ _ gi gi z; rw [z] at this; cases this
  · exact h i j hl (by omega) hj
def layB (sa : Nat) (ms : List (Keyed × Nat)) (arr : Array Keyed) : Array Keyed := ms.foldl (fun a x => a.setIfInBounds (sa + x.2) x.1) arr
theorem layB_get (sa : Nat) : ∀ (ms : List Keyed) (off : Nat) (arr : Array Keyed) (k : Nat), sa + off + ms.length ≤ arr.size → (layB sa (ms.zipIdx off) arr)[k]? = if sa + off ≤ k ∧ k < sa + off + ms.length then ms[k - (sa + off)]? else arr[k]?
  | [], off, arr, k, h => by
    rw [if_neg (by simp)]
    rfl
  | m :: ms, off, arr, k, h => by
    simp only [List.length_cons] at h ⊢
    have ih := layB_get sa ms (off + 1) (arr.setIfInBounds (sa + off) m) k (by simp; omega)
    have e : layB sa ((m :: ms).zipIdx off) arr = layB sa (ms.zipIdx (off + 1)) (arr.setIfInBounds (sa + off) m) := rfl
    rw [e, ih]
    by_cases c : k = sa + off
    · subst c
      rw [if_neg (by omega), if_pos (by omega)]
      simp [Array.getElem?_setIfInBounds, show sa + off < arr.size by omega]
    · by_cases d : sa + (off + 1) ≤ k ∧ k < sa + (off + 1) + ms.length
      · rw [if_pos d, if_pos (by omega), show k - (sa + off) = (k - (sa + (off + 1))) + 1 by omega, List.getElem?_cons_succ]
      · rw [if_neg d, if_neg (by omega), Array.getElem?_setIfInBounds, if_neg (by omega)]
theorem layB_list {sa : Nat} {ms : List Keyed} {arr : Array Keyed} (h : sa + ms.length ≤ arr.size) : (layB sa ms.zipIdx arr).toList = arr.toList.take sa ++ (ms ++ arr.toList.drop (sa + ms.length)) := by
  refine List.ext_getElem? fun k => ?_
  rw [Array.getElem?_toList, layB_get sa ms 0 arr k (by omega), Nat.add_zero]
  have l1 : (arr.toList.take sa).length = sa := by rw [List.length_take]; simp; omega
  by_cases c : k < sa
  · rw [if_neg (by omega), List.getElem?_append_left (by omega), List.getElem?_take, if_pos c, Array.getElem?_toList]
  · rw [List.getElem?_append_right (by omega), l1]
    by_cases d : k < sa + ms.length
    · rw [if_pos (by omega), List.getElem?_append_left (by omega)]
    · rw [if_neg (by omega), List.getElem?_append_right (by omega), List.getElem?_drop, Array.getElem?_toList]
      congr 1
      omega
theorem ex_get {a : Array Keyed} {i n j : Nat} (hn : n ≤ a.size) (h : i + j < n) : (a.extract i n).getD j d0 = a.getD (i + j) d0 := by
  have h1 : j < (a.extract i n).size := by rw [Array.size_extract]; omega
  simp only [Array.getD, h1, dif_pos, show i + j < a.size by omega]
  simp
theorem ex_size {a : Array Keyed} {i n : Nat} (hn : n ≤ a.size) : (a.extract i n).size = n - i := by rw [Array.size_extract, Nat.min_eq_left hn]
theorem ol_of {a : Array Keyed} (h : ∀ i j, i < j → j < a.size → R (a.getD j d0) (a.getD i d0) = false) : OL R a.toList := by
  refine List.pairwise_iff_getElem.mpr fun i j hi hj hij => ?_
  have := h i j hij (by simpa using hj)
  simpa [Array.getD, show j < a.size by simpa using hj, show i < a.size by simpa using hi] using this
theorem lay_at {sa : Nat} {mr arr : Array Keyed} (h : sa + mr.size ≤ arr.size) (k : Nat) : (layB sa mr.toList.zipIdx arr).getD k d0 = if sa ≤ k ∧ k < sa + mr.size then mr.getD (k - sa) d0 else arr.getD k d0 := by
  have := layB_get sa mr.toList 0 arr k (by simpa using h)
  rw [Nat.add_zero, Array.length_toList] at this
  rw [Array.getD_eq_getD_getElem?, this]
  by_cases c : sa ≤ k ∧ k < sa + mr.size
  · rw [if_pos c, if_pos c, Array.getElem?_toList, Array.getD_eq_getD_getElem?]
  · rw [if_neg c, if_neg c, Array.getD_eq_getD_getElem?]
theorem mgd_mem {a b x : Array Keyed} (h : Mgd R a b x) {i : Nat} (hi : i < x.size) : (∃ j, j < a.size ∧ x.getD i d0 = a.getD j d0) ∨ (∃ j, j < b.size ∧ x.getD i d0 = b.getD j d0) := by
  have m := h.2.mem_iff.mp (at_mem hi)
  rcases List.mem_append.mp m with m | m
  · obtain ⟨j, _, hj, e⟩ := mem_drop (i := 0) (by rw [List.drop_zero]; exact m)
    exact .inl ⟨j, hj, e⟩
  · obtain ⟨j, _, hj, e⟩ := mem_drop (i := 0) (by rw [List.drop_zero]; exact m)
    exact .inr ⟨j, hj, e⟩
theorem wpS_set {st1 st : SortSt} {Q : PUnit → SortSt → Prop} (h : Q ⟨⟩ st1) : wpS M A E s (set st1 : StateT SortSt Sem PUnit) Q st := by
  unfold wpS; rw [StateT.run_set]; exact wpAny_pure ⟨rfl, h⟩
theorem mergeAt_ok (L : LtE M A E s κ G R) {i : Nat} {st : SortSt} {sa na pa sb nb pb : Nat} {Q : Bool → SortSt → Prop} (hk : kindOf st = κ) (hf : failedOf st = none) (gl : ∀ x ∈ (arrOf st).toList, G x) (p1 : (pendingOf st)[i]? = some (sa, na, pa)) (p2 : (pendingOf st)[i + 1]? = some (sb, nb, pb)) (hs : sa + na = sb) (hn : sb + nb ≤ (arrOf st).size) (h1 : 0 < na) (h2 : 0 < nb)
    (o1 : SegO R (arrOf st) sa sb) (o2 : SegO R (arrOf st) sb (sb + nb))
    (h : ∀ arr g, arr.toList.Perm (arrOf st).toList → (∀ j, j < sa ∨ sb + nb ≤ j → arr.getD j d0 = (arrOf st).getD j d0) → SegO R arr sa (sb + nb) → Q true (SortSt.mk' κ arr (((pendingOf st).setIfInBounds i (sa, na + nb, pa)).eraseIdxIfInBounds (i + 1)) g none)) : wpS M A E s (mergeAt' i) Q st := by
  have G1 : ∀ {j : Nat}, j < (arrOf st).size → G ((arrOf st).getD j d0) := fun h => gl _ (at_mem h)
  have le1 : ∀ {i j : Nat}, sa ≤ i → i ≤ j → j < sb → R ((arrOf st).getD j d0) ((arrOf st).getD i d0) = false := fun a b c => o1.le L gl (by omega) a b c
  have le2 : ∀ {i j : Nat}, sb ≤ i → i ≤ j → j < sb + nb → R ((arrOf st).getD j d0) ((arrOf st).getD i d0) = false := fun a b c => o2.le L gl hn a b c
  refine wpS_bind (wpS_get ?_)
  rw [p1, p2]
  dsimp only
  refine wpS_bind (wpS_set ?_)
  refine wpS_bind (wpS_elem (at_get (show sb < (arrOf st).size by omega)) ?_)
  refine wpS_bind (gallop_ok L (left := false) (f := fun i => (arrOf st).getD (sa + i) d0) hk (G1 (by omega)) (fun i hi => at_get (a := arrOf st) (by omega)) (fun i hi => G1 (by omega)) h1 (mono_r L (G1 (by omega)) (fun i hi => G1 (by omega)) (fun i j hij hj => le1 (by omega) (by omega) (by omega))) fun k hkn hk1 hk2 => ?_)
  dsimp only
  have low : ∀ i, i < k → R ((arrOf st).getD sb d0) ((arrOf st).getD (sa + i) d0) = false := fun i hi => by have := hk1 i hi; simpa [byd] using this
  have high : ∀ i, k ≤ i → i < na → R ((arrOf st).getD sb d0) ((arrOf st).getD (sa + i) d0) = true := fun i h1 h2 => by have := hk2 i h1 h2; simpa [byd] using this
  have lowB : ∀ i j, sa ≤ i → i < sa + k → sb ≤ j → j < sb + nb → R ((arrOf st).getD j d0) ((arrOf st).getD i d0) = false := fun i j a b c d => by
    have z := low (i - sa) (by omega)
    rw [show sa + (i - sa) = i by omega] at z
    exact L.tr _ _ _ (G1 (by omega)) (G1 (by omega)) (G1 (by omega)) (le2 (Nat.le_refl _) c d) z
  by_cases c1 : (na - k == 0) = true
  · rw [if_pos c1]
    have c1' : na - k = 0 := eq_of_beq c1
    refine wpS_pure ?_
    have z := h (arrOf st) (gallopOf st) (.refl _) (fun _ _ => rfl) fun i j hi hij hj => by
      by_cases ci : i < sb
      · by_cases cj : j < sb
        · exact le1 hi (by omega) cj
        · exact lowB i j hi (by omega) (by omega) hj
      · exact le2 (by omega) (by omega) hj
    rw [← hk, ← hf] at z
    exact z
  · rw [if_neg c1]
    have c1' : ¬ na - k = 0 := by simpa using c1
    refine wpS_bind (wpS_elem (at_get (show sa + k + (na - k) - 1 < (arrOf st).size by omega)) ?_)
    have eL : sa + k + (na - k) - 1 = sb - 1 := by omega
    rw [eL]
    refine wpS_bind (gallop_ok L (left := true) (f := fun i => (arrOf st).getD (sb + i) d0) hk (G1 (by omega)) (fun i hi => at_get (a := arrOf st) (by omega)) (fun i hi => G1 (by omega)) (by omega) (mono_l L (G1 (by omega)) (fun i hi => G1 (by omega)) (fun i j hij hj => le2 (by omega) (by omega) (by omega))) fun n2 hn2 hn21 hn22 => ?_)
    dsimp only
    have below : ∀ i, i < n2 → R ((arrOf st).getD (sb + i) d0) ((arrOf st).getD (sb - 1) d0) = true := fun i hi => by have := hn21 i hi; simpa [byd] using this
    have above : ∀ i j, sa ≤ i → i < sb → sb + n2 ≤ j → j < sb + nb → R ((arrOf st).getD j d0) ((arrOf st).getD i d0) = false := fun i j a b c d => by
      have z : R ((arrOf st).getD j d0) ((arrOf st).getD (sb - 1) d0) = false := by
        have := hn22 (j - sb) (by omega) (by omega)
        simpa [byd, show sb + (j - sb) = j by omega] using this
      exact L.tr _ _ _ (G1 (by omega)) (G1 (by omega)) (G1 (by omega)) z (le1 a (by omega) (by omega))
    by_cases c2 : (n2 == 0) = true
    · rw [if_pos c2]
      have c2' : n2 = 0 := eq_of_beq c2
      refine wpS_pure ?_
      have z := h (arrOf st) (gallopOf st) (.refl _) (fun _ _ => rfl) fun i j hi hij hj => by
        by_cases ci : i < sb
        · by_cases cj : j < sb
          · exact le1 hi (by omega) cj
          · exact above i j hi ci (by omega) hj
        · exact le2 (by omega) (by omega) hj
      rw [← hk, ← hf] at z
      exact z
    · rw [if_neg c2]
      have c2' : ¬ n2 = 0 := by simpa using c2
      have sx : ((arrOf st).extract (sa + k) sb).size = sb - (sa + k) := ex_size (by omega)
      have sy : ((arrOf st).extract sb (sb + n2)).size = n2 := by rw [ex_size (by omega)]; omega
      have gx : ∀ {j : Nat}, j < sb - (sa + k) → ((arrOf st).extract (sa + k) sb).getD j d0 = (arrOf st).getD (sa + k + j) d0 := fun hj => ex_get (by omega) (by omega)
      have gy : ∀ {j : Nat}, j < n2 → ((arrOf st).extract sb (sb + n2)).getD j d0 = (arrOf st).getD (sb + j) d0 := fun hj => ex_get (by omega) (by omega)
      have mem : ∀ {i n : Nat} {x : Keyed}, x ∈ ((arrOf st).extract i n).toList → G x := fun {i n x} hx => by
        rw [Array.toList_extract, List.extract_eq_take_drop] at hx
        exact gl x (List.mem_of_mem_drop (List.mem_of_mem_take hx))
      have m : ML R G ((arrOf st).extract (sa + k) sb) ((arrOf st).extract sb (sb + n2)) := ⟨fun x => mem, fun x => mem, ol_of fun i j hij hj => by
          rw [sx] at hj
          rw [gx (by omega), gx (by omega)]
          exact le1 (by omega) (by omega) (by omega), ol_of fun i j hij hj => by
          rw [sy] at hj
          rw [gy (by omega), gy (by omega)]
          exact le2 (by omega) (by omega) (by omega)⟩
      have q0 : ∀ i, i < ((arrOf st).extract (sa + k) sb).size → R (((arrOf st).extract (sa + k) sb).getD i d0) (((arrOf st).extract sb (sb + n2)).getD 0 d0) = false := fun i hi => by
        rw [sx] at hi
        rw [gx hi, gy (by omega)]
        refine L.asym _ _ (G1 (by omega)) (G1 (by omega)) ?_
        have := high (k + i) (by omega) (by omega)
        rw [← Nat.add_assoc] at this
        exact this
      have q1 : ∀ j, j < ((arrOf st).extract sb (sb + n2)).size → R (((arrOf st).extract (sa + k) sb).getD (((arrOf st).extract (sa + k) sb).size - 1) d0) (((arrOf st).extract sb (sb + n2)).getD j d0) = false := fun j hj => by
        rw [sy] at hj
        rw [sx, gx (by omega), gy hj, show sa + k + (sb - (sa + k) - 1) = sb - 1 by omega]
        exact L.asym _ _ (G1 (by omega)) (G1 (by omega)) (below j hj)
      have mfin : ∀ mr, Mgd R ((arrOf st).extract (sa + k) sb) ((arrOf st).extract sb (sb + n2)) mr → (layB (sa + k) mr.toList.zipIdx (arrOf st)).toList.Perm (arrOf st).toList ∧ (∀ j, j < sa ∨ sb + nb ≤ j → (layB (sa + k) mr.toList.zipIdx (arrOf st)).getD j d0 = (arrOf st).getD j d0) ∧ SegO R (layB (sa + k) mr.toList.zipIdx (arrOf st)) sa (sb + nb) := fun mr hM => by
        have sm : mr.size = sb + n2 - (sa + k) := by
          have := hM.2.length_eq
          rw [List.length_append, Array.length_toList, Array.length_toList, Array.length_toList, sx, sy] at this
          omega
        refine ⟨?_, fun j hj => ?_, fun i j hi hij hj => ?_⟩
        · rw [layB_list (by rw [Array.length_toList, sm]; omega)]
          have e : (arrOf st).toList = (arrOf st).toList.take (sa + k) ++ (((arrOf st).extract (sa + k) sb).toList ++ ((arrOf st).extract sb (sb + n2)).toList ++ (arrOf st).toList.drop (sa + k + mr.toList.length)) := by
            rw [Array.length_toList, sm, Array.toList_extract, Array.toList_extract, List.extract_eq_take_drop, List.extract_eq_take_drop]
            have e1 : ((arrOf st).toList.drop sb).take (sb + n2 - sb) = (((arrOf st).toList.drop (sa + k)).drop (sb - (sa + k))).take (n2) := by rw [List.drop_drop, show sa + k + (sb - (sa + k)) = sb by omega, Nat.add_sub_cancel_left]
            have e2 : (arrOf st).toList.drop (sa + k + (sb + n2 - (sa + k))) = (((arrOf st).toList.drop (sa + k)).drop (sb - (sa + k))).drop n2 := by rw [List.drop_drop, List.drop_drop]; congr 1; omega
            rw [e1, e2, List.append_assoc, List.take_append_drop, List.take_append_drop, List.take_append_drop]
          conv => rhs; rw [e]
          exact List.Perm.append_left _ (List.Perm.append_right _ hM.2)
        · rw [lay_at (by omega), if_neg (by omega)]
        · rw [lay_at (by omega), lay_at (by omega)]
          by_cases ci : sa + k ≤ i ∧ i < sa + k + mr.size
          · rw [if_pos ci]
            by_cases cj : sa + k ≤ j ∧ j < sa + k + mr.size
            · rw [if_pos cj]
              exact ol_at hM.1 (by omega) (by omega)
            · rw [if_neg cj]
              rcases mgd_mem hM (i := i - (sa + k)) (by omega) with ⟨t, ht, et⟩ | ⟨t, ht, et⟩
              · rw [sx] at ht
                rw [et, gx ht]
                exact above _ j (by omega) (by omega) (by omega) hj
              · rw [sy] at ht
                rw [et, gy ht]
                exact le2 (by omega) (by omega) hj
          · rw [if_neg ci]
            by_cases cj : sa + k ≤ j ∧ j < sa + k + mr.size
            · rw [if_pos cj]
              rcases mgd_mem hM (i := j - (sa + k)) (by omega) with ⟨t, ht, et⟩ | ⟨t, ht, et⟩
              · rw [sx] at ht
                rw [et, gx ht]
                exact le1 hi (by omega) (by omega)
              · rw [sy] at ht
                rw [et, gy ht]
                exact lowB i _ hi (by omega) (by omega) (by omega)
            · rw [if_neg cj]
              by_cases di : i < sa + k
              · by_cases dj : j < sb
                · exact le1 hi (by omega) dj
                · exact lowB i j hi di (by omega) hj
              · exact le2 (by omega) (by omega) hj
      by_cases c3 : na - k ≤ n2
      · rw [if_pos c3]
        refine wpS_bind (mergeLo_ok L (a := (arrOf st).extract (sa + k) sb) (b := (arrOf st).extract sb (sb + n2)) hk m (by omega) (by omega) q0 q1 fun mr g hM => ?_)
        refine wpS_bind (wpS_modify (wpS_bind (wpS_get ?_)))
        refine wpS_pure ?_
        show Q (failedOf st).isNone (SortSt.mk' (kindOf st) (layB (sa + k) mr.toList.zipIdx (arrOf st)) _ g (failedOf st))
        rw [hf, hk]
        exact h _ g (mfin mr hM).1 (mfin mr hM).2.1 (mfin mr hM).2.2
      · rw [if_neg c3]
        refine wpS_bind (mergeHi_ok L (a := (arrOf st).extract (sa + k) sb) (b := (arrOf st).extract sb (sb + n2)) hk m (by omega) (by omega) q0 q1 fun mr g hM => ?_)
        refine wpS_bind (wpS_modify (wpS_bind (wpS_get ?_)))
        refine wpS_pure ?_
        show Q (failedOf st).isNone (SortSt.mk' (kindOf st) (layB (sa + k) mr.toList.zipIdx (arrOf st)) _ g (failedOf st))
        rw [hf, hk]
        exact h _ g (mfin mr hM).1 (mfin mr hM).2.1 (mfin mr hM).2.2
end
end L2
set_option Elab.async false
set_option linter.all false
set_option maxRecDepth 100000
set_option maxHeartbeats 4000000
namespace L2
open PySem PySem.W PyProof.Rows
section
variable {M : Model} {A : Around} {E : Value → Shared → Prop} {s : Shared} {κ : SortKind} {G : Keyed → Prop} {R : Keyed → Keyed → Bool}
theorem wpS_ltAtG (L : LtE M A E s κ G R) {st : SortSt} {i j : Nat} {Q : Option Bool → SortSt → Prop} (hk : kindOf st = κ) (gl : ∀ x ∈ (arrOf st).toList, G x) (hi : i < (arrOf st).size) (hj : j < (arrOf st).size) (h : Q (some (R ((arrOf st).getD i d0) ((arrOf st).getD j d0))) st) : wpS M A E s (ltAt' i j) Q st := by
  rw [ltAt'_eq]
  refine wpS_bind (wpS_get (wpS_bind (wpS_elem (at_get hi) (wpS_bind (wpS_elem (at_get hj) ?_)))))
  exact L.lt _ _ (gl _ (at_mem hi)) (gl _ (at_mem hj)) _ _ hk h
theorem mir_at {xs : Array Keyed} {i j : Nat} (hj : j ≤ xs.size) (k : Nat) : (mirror xs i j ((j - i) / 2)).getD k d0 = if i ≤ k ∧ k < j then xs.getD (i + j - 1 - k) d0 else xs.getD k d0 := by
  rw [Array.getD_eq_getD_getElem?, getElem?_mirror_all hj]
  by_cases c : i ≤ k ∧ k < j
  · rw [if_pos c, if_pos c, Array.getD_eq_getD_getElem?]
  · rw [if_neg c, if_neg c, Array.getD_eq_getD_getElem?]
theorem bub_at {xs : Array Keyed} {src n : Nat} (h : src < xs.size) (hn : n ≤ src) (k : Nat) : (bubble xs src n).getD k d0 = if k = src - n then xs.getD src d0 else if src - n < k ∧ k ≤ src then xs.getD (k - 1) d0 else xs.getD k d0 := by
  rw [Array.getD_eq_getD_getElem?, getElem?_bubble h n hn]
  by_cases c : k = src - n
  · rw [if_pos c, if_pos c, Array.getD_eq_getD_getElem?]
  · rw [if_neg c, if_neg c]
    by_cases d : src - n < k ∧ k ≤ src
    · rw [if_pos d, if_pos d, Array.getD_eq_getD_getElem?]
    · rw [if_neg d, if_neg d, Array.getD_eq_getD_getElem?]
structure Agr (xs ys : Array Keyed) (l u : Nat) : Prop where
  perm : ys.toList.Perm xs.toList
  out : ∀ j, j < l ∨ u ≤ j → ys.getD j d0 = xs.getD j d0
theorem Agr.refl (xs : Array Keyed) (l u : Nat) : Agr xs xs l u := ⟨.refl _, fun _ _ => rfl⟩
theorem Agr.trans {xs ys zs : Array Keyed} {l u : Nat} (a : Agr xs ys l u) (b : Agr ys zs l u) : Agr xs zs l u := ⟨b.perm.trans a.perm, fun j hj => (b.out j hj).trans (a.out j hj)⟩
theorem Agr.wide {xs ys : Array Keyed} {l u l' u' : Nat} (a : Agr xs ys l u) (hl : l' ≤ l) (hu : u ≤ u') : Agr xs ys l' u' := ⟨a.perm, fun j hj => a.out j (by omega)⟩
theorem Agr.size {xs ys : Array Keyed} {l u : Nat} (a : Agr xs ys l u) : ys.size = xs.size := by have := a.perm.length_eq; simpa using this
theorem Agr.gl {xs ys : Array Keyed} {l u : Nat} (a : Agr xs ys l u) (g : ∀ x ∈ xs.toList, G x) : ∀ x ∈ ys.toList, G x := fun x hx => g x (a.perm.mem_iff.mp hx)
theorem agr_mir {xs : Array Keyed} {i j : Nat} (hj : j ≤ xs.size) : Agr xs (mirror xs i j ((j - i) / 2)) i j := ⟨Array.perm_iff_toList_perm.mp (mirror_perm _ _ _ _), fun k hk => by rw [mir_at hj, if_neg (by omega)]⟩
theorem agr_bub {xs : Array Keyed} {src n : Nat} (h : src < xs.size) (hn : n ≤ src) : Agr xs (bubble xs src n) (src - n) (src + 1) := ⟨Array.perm_iff_toList_perm.mp (bubble_perm _ _ _), fun k hk => by rw [bub_at h hn, if_neg (by omega), if_neg (by omega)]⟩
def DsO (R : Keyed → Keyed → Bool) (xs : Array Keyed) (l u : Nat) : Prop := ∀ i j, l ≤ i → i < j → j < u → R (xs.getD i d0) (xs.getD j d0) = false
def EqO (R : Keyed → Keyed → Bool) (xs : Array Keyed) (l u : Nat) : Prop := ∀ i j, l ≤ i → i < u → l ≤ j → j < u → R (xs.getD i d0) (xs.getD j d0) = false
theorem ltE_irr (L : LtE M A E s κ G R) {x : Keyed} (g : G x) : R x x = false := by
  cases z : R x x with
  | false => rfl
  | true => have := L.asym _ _ g g z; rw [z] at this; cases this
theorem SegO.more (L : LtE M A E s κ G R) {xs : Array Keyed} {l u : Nat} (g : ∀ x ∈ xs.toList, G x) (hu : u < xs.size) (hlu : l < u) (h : SegO R xs l u) (e : R (xs.getD u d0) (xs.getD (u - 1) d0) = false) : SegO R xs l (u + 1) := fun i j hi hij hj => by
  by_cases c : j = u
  · subst c
    by_cases d : i = j - 1
    · rw [d]; exact e
    · exact L.tr _ _ _ (g _ (at_mem (by omega))) (g _ (at_mem (by omega))) (g _ (at_mem (by omega))) e (h i (j - 1) hi (by omega) (by omega))
  · exact h i j hi hij (by omega)
theorem DsO.more (L : LtE M A E s κ G R) {xs : Array Keyed} {l u : Nat} (g : ∀ x ∈ xs.toList, G x) (hu : u < xs.size) (hlu : l < u) (h : DsO R xs l u) (e : R (xs.getD (u - 1) d0) (xs.getD u d0) = false) : DsO R xs l (u + 1) := fun i j hi hij hj => by
  by_cases c : j = u
  · subst c
    by_cases d : i = j - 1
    · rw [d]; exact e
    · exact L.tr _ _ _ (g _ (at_mem (by omega))) (g _ (at_mem (by omega))) (g _ (at_mem (by omega))) (h i (j - 1) hi (by omega) (by omega)) e
  · exact h i j hi hij (by omega)
theorem dso_rev {xs : Array Keyed} {l a k m : Nat} (hla : l ≤ a) (hkm : k ≤ m) (hk : k ≤ xs.size) (h : DsO R xs l m) (e : EqO R xs a k) : DsO R (mirror xs a k ((k - a) / 2)) l m := fun i j hi hij hj => by
  rw [mir_at hk, mir_at hk]
  by_cases ci : a ≤ i ∧ i < k
  · rw [if_pos ci]
    by_cases cj : a ≤ j ∧ j < k
    · rw [if_pos cj]; exact e _ _ (by omega) (by omega) (by omega) (by omega)
    · rw [if_neg cj]; exact h _ _ (by omega) (by omega) hj
  · rw [if_neg ci]
    by_cases cj : a ≤ j ∧ j < k
    · rw [if_pos cj]; exact h _ _ hi (by omega) (by omega)
    · rw [if_neg cj]; exact h _ _ hi hij hj
theorem seg_rev {xs : Array Keyed} {l u : Nat} (hu : u ≤ xs.size) (h : DsO R xs l u) : SegO R (mirror xs l u ((u - l) / 2)) l u := fun i j hi hij hj => by
  rw [mir_at hu, mir_at hu, if_pos (by omega), if_pos (by omega)]
  exact h _ _ (by omega) (by omega) (by omega)
theorem wpS_revS {st : SortSt} {arr : Array Keyed} {i j : Nat} {Q : Unit → SortSt → Prop} (h : Q () (setArr st (mirror arr i j ((j - i) / 2)))) : wpS M A E s (reverseSlice' i j) Q (setArr st arr) := by
  rw [reverseSlice'_eq]
  exact wpS_modify h
theorem wpS_moveS {st : SortSt} {arr : Array Keyed} {i j : Nat} {Q : Unit → SortSt → Prop} (h : Q () (setArr st (bubble arr i (i - j)))) : wpS M A E s (moveDown' i j) Q (setArr st arr) := by
  rw [moveDown'_eq]
  exact wpS_modify h
theorem binary_ok (L : LtE M A E s κ G R) {st : SortSt} {lo n ok : Nat} {Q : Bool → SortSt → Prop} (hk : kindOf st = κ) (gl : ∀ x ∈ (arrOf st).toList, G x) (hn : lo + n ≤ (arrOf st).size) (h1 : 1 ≤ ok) (hok : ok ≤ n) (hs : SegO R (arrOf st) lo (lo + ok))
    (h : ∀ arr, Agr (arrOf st) arr lo (lo + n) → SegO R arr lo (lo + n) → Q true (setArr st arr)) : wpS M A E s (binarySort' lo n ok) Q st := by
  rw [binarySort'_eq]
  refine wpS_bind (wpS_mono (wpS_forRange (I := fun k (c : Option Bool × Unit) st' => ∃ arr, st' = setArr st arr ∧ c.1 = none ∧ Agr (arrOf st) arr lo (lo + n) ∧ SegO R arr lo (lo + k)) (Q := fun c st' => ∃ arr, st' = setArr st arr ∧ c.1 = none ∧ Agr (arrOf st) arr lo (lo + n) ∧ SegO R arr lo (lo + n)) ?_ ?_ ⟨arrOf st, rfl, rfl, Agr.refl _ _ _, by rw [Nat.max_eq_left h1]; exact hs⟩) ?_)
  · rintro k ⟨r, u⟩ st' hk1 hk2 ⟨arr, rfl, rfl, ag, sg⟩
    have sz := ag.size
    have ga := ag.gl gl
    dsimp only at sg ⊢
    refine wpS_bind (wpS_mono (wpS_forRange (I := fun i (c : Option Bool × Nat × Nat) st2 => st2 = setArr st arr ∧ c.1 = none ∧ c.2.1 ≤ c.2.2 ∧ c.2.2 ≤ k ∧ c.2.2 - c.2.1 ≤ k - i ∧ (∀ j, j < c.2.1 → R (arr.getD (lo + k) d0) (arr.getD (lo + j) d0) = false) ∧ (∀ j, c.2.2 ≤ j → j < k → R (arr.getD (lo + j) d0) (arr.getD (lo + k) d0) = false))
      (Q := fun c st2 => st2 = setArr st arr ∧ c.1 = none ∧ c.2.1 ≤ k ∧ (∀ j, j < c.2.1 → R (arr.getD (lo + k) d0) (arr.getD (lo + j) d0) = false) ∧ (∀ j, c.2.1 ≤ j → j < k → R (arr.getD (lo + j) d0) (arr.getD (lo + k) d0) = false)) ?_ ?_ ⟨rfl, rfl, Nat.zero_le _, Nat.le_refl _, Nat.le_refl _, (fun j hj => by dsimp only at hj; omega), (fun j h1 h2 => by dsimp only at h1; omega)⟩) ?_)
    · rintro i ⟨r, l, u⟩ st2 _ hi ⟨rfl, rfl, q1, q2, q3, q4, q5⟩
      dsimp only at q1 q2 q3 q4 q5 ⊢
      by_cases c : l ≥ u
      · rw [if_pos c]
        exact wpS_pure ⟨rfl, rfl, (by dsimp only; omega), q4, fun j j1 j2 => q5 j (by dsimp only at j1; omega) j2⟩
      · rw [if_neg c]
        refine wpS_bind (wpS_ltAtG L (st := setArr st arr) hk ga (show lo + k < arr.size by omega) (show lo + (l + u) / 2 < arr.size by omega) ?_)
        dsimp only
        cases z : R (arr.getD (lo + k) d0) (arr.getD (lo + (l + u) / 2) d0) with
        | true =>
          have z' := L.asym _ _ (ga _ (at_mem (by omega))) (ga _ (at_mem (by omega))) z
          exact wpS_pure ⟨rfl, rfl, (by dsimp only; omega), (by dsimp only; omega), (by dsimp only; omega), q4, fun j j1 j2 => by
            dsimp only at j1
            exact L.tr _ _ _ (ga _ (at_mem (by omega))) (ga _ (at_mem (by omega))) (ga _ (at_mem (by omega))) (sg.le L ga (by omega) (by omega) (by omega) (by omega)) z'⟩
        | false =>
          exact wpS_pure ⟨rfl, rfl, (by dsimp only; omega), (by dsimp only; omega), (by dsimp only; omega), (fun j j1 => by
            dsimp only at j1
            exact L.tr _ _ _ (ga _ (at_mem (by omega))) (ga _ (at_mem (by omega))) (ga _ (at_mem (by omega))) z (sg.le L ga (by omega) (by omega) (by omega) (by omega))), q5⟩
    · rintro ⟨r, l, u⟩ st2 ⟨rfl, rfl, q1, q2, q3, q4, q5⟩
      dsimp only at q1 q2 q3 q4 q5 ⊢
      exact ⟨rfl, rfl, (by omega), q4, fun j j1 j2 => q5 j (by omega) j2⟩
    rintro ⟨r, l, u⟩ st2 ⟨rfl, rfl, q2, q4, q5⟩
    dsimp only at q2 q4 q5 ⊢
    refine wpS_bind (wpS_moveS (wpS_pure ⟨_, rfl, rfl, ag.trans ((agr_bub (src := lo + k) (n := lo + k - (lo + l)) (by omega) (by omega)).wide (by omega) (by omega)), ?_⟩))
    intro i j hi hij hj
    rw [bub_at (by omega) (by omega), bub_at (by omega) (by omega)]
    have es : lo + k - (lo + k - (lo + l)) = lo + l := by omega
    rw [es]
    by_cases i1 : i = lo + l
    · rw [if_pos i1, if_neg (by omega), if_pos ⟨by omega, by omega⟩]
      have := q5 (j - 1 - lo) (by omega) (by omega)
      rw [show lo + (j - 1 - lo) = j - 1 by omega] at this
      exact this
    · rw [if_neg i1]
      by_cases j1 : j = lo + l
      · rw [if_pos j1, if_neg (by omega)]
        have := q4 (i - lo) (by omega)
        rw [show lo + (i - lo) = i by omega] at this
        exact this
      · rw [if_neg j1]
        by_cases i2 : lo + l < i ∧ i ≤ lo + k
        · rw [if_pos i2, if_pos ⟨by omega, by omega⟩]
          exact sg (i - 1) (j - 1) (by omega) (by omega) (by omega)
        · rw [if_neg i2]
          by_cases j2 : lo + l < j ∧ j ≤ lo + k
          · rw [if_pos j2]
            exact sg i (j - 1) hi (by omega) (by omega)
          · rw [if_neg j2]
            exact sg i j hi hij (by omega)
  · rintro ⟨r, u⟩ st' ⟨arr, rfl, rfl, ag, sg⟩
    exact ⟨arr, rfl, rfl, ag, by rw [show max (max ok 1) n = n by omega] at sg; exact sg⟩
  rintro ⟨r, u⟩ st' ⟨arr, rfl, rfl, ag, sg⟩
  exact wpS_pure (h arr ag sg)
theorem count_ok (L : LtE M A E s κ G R) {st : SortSt} {lo nrem : Nat} {Q : Option Nat → SortSt → Prop} (hk : kindOf st = κ) (gl : ∀ x ∈ (arrOf st).toList, G x) (hn : lo + nrem ≤ (arrOf st).size) (h1 : 1 ≤ nrem)
    (h : ∀ n arr, 1 ≤ n → n ≤ nrem → Agr (arrOf st) arr lo (lo + nrem) → SegO R arr lo (lo + n) → Q (some n) (setArr st arr)) : wpS M A E s (countRun' lo nrem) Q st := by
  rw [countRun'_eq]
  have sg0 : SegO R (arrOf st) lo (lo + 1) := fun i j hi hij hj => by omega
  refine wpS_bind (wpS_mono (wpS_forRange (I := fun i (c : Option (Option Nat) × Nat) st2 => st2 = setArr st (arrOf st) ∧ c.1 = none ∧ c.2 = i ∧ 1 ≤ c.2 ∧ c.2 ≤ nrem ∧ SegO R (arrOf st) lo (lo + c.2)) (Q := fun c st2 => st2 = setArr st (arrOf st) ∧ c.1 = none ∧ 1 ≤ c.2 ∧ c.2 ≤ nrem ∧ SegO R (arrOf st) lo (lo + c.2) ∧ (c.2 < nrem → R ((arrOf st).getD (lo + c.2) d0) ((arrOf st).getD (lo + c.2 - 1) d0) = true)) ?_ ?_ ⟨rfl, rfl, rfl, Nat.le_refl _, h1, sg0⟩) ?_)
  · rintro i ⟨r, n⟩ st2 _ hi ⟨rfl, rfl, rfl, q1, q2, q3⟩
    dsimp only at q1 q2 q3 hi ⊢
    refine wpS_bind (wpS_ltAtG L (st := setArr st (arrOf st)) hk gl (show lo + n < (arrOf st).size by omega) (show lo + n - 1 < (arrOf st).size by omega) ?_)
    dsimp only
    cases z : R ((arrOf st).getD (lo + n) d0) ((arrOf st).getD (lo + n - 1) d0) with
    | true => exact wpS_pure ⟨rfl, rfl, q1, q2, q3, fun _ => z⟩
    | false => exact wpS_pure ⟨rfl, rfl, rfl, (by dsimp only; omega), (by dsimp only; omega), q3.more (u := lo + n) L gl (by omega) (by omega) z⟩
  · rintro ⟨r, n⟩ st2 ⟨rfl, rfl, q0, q1, q2, q3⟩
    dsimp only at q0 q1 q2 q3 ⊢
    exact ⟨rfl, rfl, q1, q2, q3, fun z => by omega⟩
  rintro ⟨r, m⟩ st2 ⟨rfl, rfl, q1, q2, q3, q4⟩
  dsimp only at q1 q2 q3 q4 ⊢
  by_cases e0 : (m == nrem) = true
  · rw [if_pos e0]
    exact wpS_pure (h m (arrOf st) q1 q2 (Agr.refl _ _ _) q3)
  · rw [if_neg e0]
    have e0' : ¬ m = nrem := by simpa using e0
    have lm := q4 (by omega)
    have gm := L.asym _ _ (gl _ (at_mem (by omega))) (gl _ (at_mem (by omega))) lm
    by_cases e1 : m > 1
    · rw [if_pos e1]
      refine wpS_bind (wpS_ltAtG L (st := setArr st (arrOf st)) hk gl (show lo < (arrOf st).size by omega) (show lo + m - 1 < (arrOf st).size by omega) ?_)
      dsimp only
      cases z : R ((arrOf st).getD lo d0) ((arrOf st).getD (lo + m - 1) d0) with
      | true => exact wpS_pure (h m (arrOf st) q1 q2 (Agr.refl _ _ _) q3)
      | false =>
        rw [if_neg (by simp)]
        have le0 : ∀ j, lo ≤ j → j < lo + m → R ((arrOf st).getD lo d0) ((arrOf st).getD j d0) = false := fun j j1 j2 => L.tr _ _ _ (gl _ (at_mem (by omega))) (gl _ (at_mem (by omega))) (gl _ (at_mem (by omega))) z (q3.le L gl (by omega) j1 (by omega) (by omega))
        have eq : EqO R (arrOf st) lo (lo + m) := fun i j i1 i2 j1 j2 => L.tr _ _ _ (gl _ (at_mem (by omega))) (gl _ (at_mem (by omega))) (gl _ (at_mem (by omega))) (q3.le L gl (by omega) (Nat.le_refl _) i1 i2) (le0 j j1 j2)
        have ds : DsO R (arrOf st) lo (lo + m + 1) := fun i j i1 ij j2 => by
          by_cases c : j = lo + m
          · rw [c]
            exact L.tr _ _ _ (gl _ (at_mem (by omega))) (gl _ (at_mem (by omega))) (gl _ (at_mem (by omega))) (eq i (lo + m - 1) i1 (by omega) (by omega) (by omega)) gm
          · exact eq i j i1 (by omega) (by omega) (by omega)
        refine wpS_bind (wpS_revS ?_)
        have ag0 : Agr (arrOf st) (mirror (arrOf st) lo (lo + m) ((lo + m - lo) / 2)) lo (lo + nrem) := (agr_mir (by omega)).wide (by omega) (by omega)
        have ds0 := dso_rev (l := lo) (Nat.le_refl _) (show lo + m ≤ lo + (m + 1) by omega) (by omega) ds eq
        generalize mirror (arrOf st) lo (lo + m) ((lo + m - lo) / 2) = arr0 at ag0 ds0 ⊢
        refine wpS_bind (wpS_rule ?_)
        refine wpS_bind (wpS_mono (wpS_forRange (I := fun i (c : Option (Option Nat) × Nat × Nat) st2 => ∃ arr, st2 = setArr st arr ∧ c.1 = none ∧ c.2.1 = i ∧ c.2.1 ≤ nrem ∧ Agr (arrOf st) arr lo (lo + nrem) ∧ DsO R arr lo (lo + c.2.1) ∧ c.2.2 + 1 ≤ c.2.1 ∧ EqO R arr (lo + c.2.1 - (c.2.2 + 1)) (lo + c.2.1)) (Q := fun c st2 => ∃ arr, st2 = setArr st arr ∧ c.1 = none ∧ c.2.1 ≤ nrem ∧ Agr (arrOf st) arr lo (lo + nrem) ∧ DsO R arr lo (lo + c.2.1) ∧ c.2.2 + 1 ≤ c.2.1 ∧ EqO R arr (lo + c.2.1 - (c.2.2 + 1)) (lo + c.2.1)) ?_ ?_ ⟨arr0, rfl, rfl, rfl, (by dsimp only; omega), ag0, ds0, (by dsimp only; omega), fun i j i1 i2 j1 j2 => by
            dsimp only at i1 i2 j1 j2
            have e1 : i = lo + m := by omega
            have e2 : j = lo + m := by omega
            rw [e1, e2]
            exact ltE_irr L (ag0.gl gl _ (at_mem (by have := ag0.size; omega)))⟩) ?_)
        · rintro i ⟨r, n, q⟩ st2 _ hi ⟨arr, rfl, rfl, rfl, q2, ag, ds, hq, eb⟩
          dsimp only at q2 ds hq eb hi ⊢
          have ga := ag.gl gl
          have sz := ag.size
          refine wpS_bind (wpS_ltAtG L (st := setArr st arr) hk ga (show lo + n < arr.size by omega) (show lo + n - 1 < arr.size by omega) ?_)
          dsimp only
          have one : ∀ {xs : Array Keyed}, Agr (arrOf st) xs lo (lo + nrem) → EqO R xs (lo + (n + 1) - (0 + 1)) (lo + (n + 1)) := fun {xs} agx i j i1 i2 j1 j2 => by
            have e1 : i = lo + n := by omega
            have e2 : j = lo + n := by omega
            rw [e1, e2]
            exact ltE_irr L (agx.gl gl _ (at_mem (by have := agx.size; omega)))
          cases z : R (arr.getD (lo + n) d0) (arr.getD (lo + n - 1) d0) with
          | true =>
            have d2 := ds.more L ga (by omega) (by omega) (L.asym _ _ (ga _ (at_mem (by omega))) (ga _ (at_mem (by omega))) z)
            rw [if_pos rfl]
            by_cases c : q > 0
            · rw [if_pos c]
              have ag3 := ag.trans ((agr_mir (xs := arr) (i := lo + n - (q + 1)) (j := lo + n) (by omega)).wide (by omega) (by omega))
              exact wpS_bind (wpS_revS (wpS_pure ⟨_, rfl, rfl, rfl, (by dsimp only; omega), ag3, dso_rev (m := lo + n + 1) (by omega) (by omega) (by omega) d2 eb, (by dsimp only; omega), one ag3⟩))
            · rw [if_neg c]
              exact wpS_pure ⟨_, rfl, rfl, rfl, (by dsimp only; omega), ag, d2, (by dsimp only; omega), one ag⟩
          | false =>
            rw [if_neg (by simp)]
            refine wpS_bind (wpS_ltAtG L (st := setArr st arr) hk ga (show lo + n - 1 < arr.size by omega) (show lo + n < arr.size by omega) ?_)
            dsimp only
            cases z2 : R (arr.getD (lo + n - 1) d0) (arr.getD (lo + n) d0) with
            | true => exact wpS_pure ⟨_, rfl, rfl, q2, ag, ds, hq, eb⟩
            | false =>
              have d2 := ds.more L ga (by omega) (by omega) z2
              refine wpS_pure ⟨_, rfl, rfl, rfl, (by dsimp only; omega), ag, d2, (by dsimp only; omega), fun i j i1 i2 j1 j2 => ?_⟩
              dsimp only at i1 i2 j1 j2
              have b1 : ∀ i, lo + n - (q + 1) ≤ i → i < lo + n → R (arr.getD i d0) (arr.getD (lo + n) d0) = false := fun i i1 i2 => L.tr _ _ _ (ga _ (at_mem (by omega))) (ga _ (at_mem (by omega))) (ga _ (at_mem (by omega))) (eb i (lo + n - 1) i1 i2 (by omega) (by omega)) z2
              have b2 : ∀ i, lo + n - (q + 1) ≤ i → i < lo + n → R (arr.getD (lo + n) d0) (arr.getD i d0) = false := fun i i1 i2 => L.tr _ _ _ (ga _ (at_mem (by omega))) (ga _ (at_mem (by omega))) (ga _ (at_mem (by omega))) z (eb (lo + n - 1) i (by omega) (by omega) i1 i2)
              by_cases ci : i = lo + n
              · by_cases cj : j = lo + n
                · rw [ci, cj]; exact ltE_irr L (ga _ (at_mem (by omega)))
                · rw [ci]; exact b2 j (by omega) (by omega)
              · by_cases cj : j = lo + n
                · rw [cj]; exact b1 i (by omega) (by omega)
                · exact eb i j (by omega) (by omega) (by omega) (by omega)
        · rintro ⟨r, n, q⟩ st2 ⟨arr, rfl, rfl, q0, q2, ag, ds, hq, eb⟩
          exact ⟨arr, rfl, rfl, q2, ag, ds, hq, eb⟩
        rintro ⟨r, n2, q⟩ st2 ⟨arr, rfl, rfl, q2, ag, ds, hq, eb⟩
        dsimp only at q2 ds hq eb ⊢
        have sz := ag.size
        by_cases c : q > 0
        · rw [if_pos c]
          have ag3 := ag.trans ((agr_mir (xs := arr) (i := lo + n2 - (q + 1)) (j := lo + n2) (by omega)).wide (by omega) (by omega))
          have sz3 := ag3.size
          have d3 := dso_rev (l := lo) (by omega) (Nat.le_refl (lo + n2)) (by omega) ds eb
          refine wpS_bind (wpS_revS (wpS_bind (wpS_revS ?_)))
          have ag2 := ag3.trans ((agr_mir (i := lo) (j := lo + n2) (by omega)).wide (by omega) (by omega))
          have sg2 := seg_rev (by omega) d3
          generalize mirror (mirror arr (lo + n2 - (q + 1)) (lo + n2) ((lo + n2 - (lo + n2 - (q + 1))) / 2)) lo (lo + n2) ((lo + n2 - lo) / 2) = arr2 at ag2 sg2 ⊢
          have ga2 := ag2.gl gl
          have sz2 := ag2.size
          refine wpS_bind (wpS_mono (wpS_forRange (I := fun i (c : Option (Option Nat) × Nat) st2 => st2 = setArr st arr2 ∧ c.1 = none ∧ c.2 = i ∧ 1 ≤ c.2 ∧ c.2 ≤ nrem ∧ SegO R arr2 lo (lo + c.2)) (Q := fun c st2 => st2 = setArr st arr2 ∧ c.1 = none ∧ 1 ≤ c.2 ∧ c.2 ≤ nrem ∧ SegO R arr2 lo (lo + c.2) ∧ (c.2 < nrem → R (arr2.getD (lo + c.2) d0) (arr2.getD (lo + c.2 - 1) d0) = true)) ?_ ?_ ⟨rfl, rfl, rfl, (by dsimp only; omega), (by dsimp only; omega), sg2⟩) ?_)
          · rintro i ⟨r, n⟩ st2 _ hi ⟨rfl, rfl, rfl, q1, q2, q3⟩
            dsimp only at q1 q2 q3 hi ⊢
            refine wpS_bind (wpS_ltAtG L (st := setArr st arr2) hk ga2 (show lo + n < arr2.size by omega) (show lo + n - 1 < arr2.size by omega) ?_)
            dsimp only
            cases z : R (arr2.getD (lo + n) d0) (arr2.getD (lo + n - 1) d0) with
            | true => exact wpS_pure ⟨rfl, rfl, q1, q2, q3, fun _ => z⟩
            | false => exact wpS_pure ⟨rfl, rfl, rfl, (by dsimp only; omega), (by dsimp only; omega), q3.more (u := lo + n) L ga2 (by omega) (by omega) z⟩
          · rintro ⟨r, n⟩ st2 ⟨rfl, rfl, q0, q1, q2, q3⟩
            dsimp only at q0 q1 q2 q3 ⊢
            exact ⟨rfl, rfl, q1, q2, q3, fun z => by omega⟩
          rintro ⟨r, n⟩ st2 ⟨rfl, rfl, q1, q2, q3, q4⟩
          dsimp only at q1 q2 q3 q4 ⊢
          exact wpS_pure (h n arr2 q1 q2 ag2 q3)
        · rw [if_neg c]
          refine wpS_bind (wpS_revS ?_)
          have ag2 := ag.trans ((agr_mir (xs := arr) (i := lo) (j := lo + n2) (by omega)).wide (by omega) (by omega))
          have sg2 := seg_rev (by omega) ds
          generalize mirror arr lo (lo + n2) ((lo + n2 - lo) / 2) = arr2 at ag2 sg2 ⊢
          have ga2 := ag2.gl gl
          have sz2 := ag2.size
          refine wpS_bind (wpS_mono (wpS_forRange (I := fun i (c : Option (Option Nat) × Nat) st2 => st2 = setArr st arr2 ∧ c.1 = none ∧ c.2 = i ∧ 1 ≤ c.2 ∧ c.2 ≤ nrem ∧ SegO R arr2 lo (lo + c.2)) (Q := fun c st2 => st2 = setArr st arr2 ∧ c.1 = none ∧ 1 ≤ c.2 ∧ c.2 ≤ nrem ∧ SegO R arr2 lo (lo + c.2) ∧ (c.2 < nrem → R (arr2.getD (lo + c.2) d0) (arr2.getD (lo + c.2 - 1) d0) = true)) ?_ ?_ ⟨rfl, rfl, rfl, (by dsimp only; omega), (by dsimp only; omega), sg2⟩) ?_)
          · rintro i ⟨r, n⟩ st2 _ hi ⟨rfl, rfl, rfl, q1, q2, q3⟩
            dsimp only at q1 q2 q3 hi ⊢
            refine wpS_bind (wpS_ltAtG L (st := setArr st arr2) hk ga2 (show lo + n < arr2.size by omega) (show lo + n - 1 < arr2.size by omega) ?_)
            dsimp only
            cases z : R (arr2.getD (lo + n) d0) (arr2.getD (lo + n - 1) d0) with
            | true => exact wpS_pure ⟨rfl, rfl, q1, q2, q3, fun _ => z⟩
            | false => exact wpS_pure ⟨rfl, rfl, rfl, (by dsimp only; omega), (by dsimp only; omega), q3.more (u := lo + n) L ga2 (by omega) (by omega) z⟩
          · rintro ⟨r, n⟩ st2 ⟨rfl, rfl, q0, q1, q2, q3⟩
            dsimp only at q0 q1 q2 q3 ⊢
            exact ⟨rfl, rfl, q1, q2, q3, fun z => by omega⟩
          rintro ⟨r, n⟩ st2 ⟨rfl, rfl, q1, q2, q3, q4⟩
          dsimp only at q1 q2 q3 q4 ⊢
          exact wpS_pure (h n arr2 q1 q2 ag2 q3)
    · rw [if_neg e1]
      have em : m = 1 := by omega
      have ag0 := Agr.refl (arrOf st) lo (lo + nrem)
      have ds0 : DsO R (arrOf st) lo (lo + (m + 1)) := fun i j i1 ij j2 => by
        have c1 : i = lo + m - 1 := by omega
        have c2 : j = lo + m := by omega
        rw [c1, c2]
        exact gm
      have hx : ∃ arr0, arr0 = arrOf st := ⟨_, rfl⟩
      obtain ⟨arr0, harr⟩ := hx
      rw [← harr] at ag0 ds0 ⊢
      rw [harr] at ag0
      conv at ag0 => arg 2; rw [← harr]
      refine wpS_bind (wpS_rule ?_)
      refine wpS_bind (wpS_mono (wpS_forRange (I := fun i (c : Option (Option Nat) × Nat × Nat) st2 => ∃ arr, st2 = setArr st arr ∧ c.1 = none ∧ c.2.1 = i ∧ c.2.1 ≤ nrem ∧ Agr (arrOf st) arr lo (lo + nrem) ∧ DsO R arr lo (lo + c.2.1) ∧ c.2.2 + 1 ≤ c.2.1 ∧ EqO R arr (lo + c.2.1 - (c.2.2 + 1)) (lo + c.2.1)) (Q := fun c st2 => ∃ arr, st2 = setArr st arr ∧ c.1 = none ∧ c.2.1 ≤ nrem ∧ Agr (arrOf st) arr lo (lo + nrem) ∧ DsO R arr lo (lo + c.2.1) ∧ c.2.2 + 1 ≤ c.2.1 ∧ EqO R arr (lo + c.2.1 - (c.2.2 + 1)) (lo + c.2.1)) ?_ ?_ ⟨arr0, rfl, rfl, rfl, (by dsimp only; omega), ag0, ds0, (by dsimp only; omega), fun i j i1 i2 j1 j2 => by
          dsimp only at i1 i2 j1 j2
          have e1 : i = lo + m := by omega
          have e2 : j = lo + m := by omega
          rw [e1, e2]
          exact ltE_irr L (ag0.gl gl _ (at_mem (by have := ag0.size; omega)))⟩) ?_)
      · rintro i ⟨r, n, q⟩ st2 _ hi ⟨arr, rfl, rfl, rfl, q2, ag, ds, hq, eb⟩
        dsimp only at q2 ds hq eb hi ⊢
        have ga := ag.gl gl
        have sz := ag.size
        refine wpS_bind (wpS_ltAtG L (st := setArr st arr) hk ga (show lo + n < arr.size by omega) (show lo + n - 1 < arr.size by omega) ?_)
        dsimp only
        have one : ∀ {xs : Array Keyed}, Agr (arrOf st) xs lo (lo + nrem) → EqO R xs (lo + (n + 1) - (0 + 1)) (lo + (n + 1)) := fun {xs} agx i j i1 i2 j1 j2 => by
          have e1 : i = lo + n := by omega
          have e2 : j = lo + n := by omega
          rw [e1, e2]
          exact ltE_irr L (agx.gl gl _ (at_mem (by have := agx.size; omega)))
        cases z : R (arr.getD (lo + n) d0) (arr.getD (lo + n - 1) d0) with
        | true =>
          have d2 := ds.more L ga (by omega) (by omega) (L.asym _ _ (ga _ (at_mem (by omega))) (ga _ (at_mem (by omega))) z)
          rw [if_pos rfl]
          by_cases c : q > 0
          · rw [if_pos c]
            have ag3 := ag.trans ((agr_mir (xs := arr) (i := lo + n - (q + 1)) (j := lo + n) (by omega)).wide (by omega) (by omega))
            exact wpS_bind (wpS_revS (wpS_pure ⟨_, rfl, rfl, rfl, (by dsimp only; omega), ag3, dso_rev (m := lo + n + 1) (by omega) (by omega) (by omega) d2 eb, (by dsimp only; omega), one ag3⟩))
          · rw [if_neg c]
            exact wpS_pure ⟨_, rfl, rfl, rfl, (by dsimp only; omega), ag, d2, (by dsimp only; omega), one ag⟩
        | false =>
          rw [if_neg (by simp)]
          refine wpS_bind (wpS_ltAtG L (st := setArr st arr) hk ga (show lo + n - 1 < arr.size by omega) (show lo + n < arr.size by omega) ?_)
          dsimp only
          cases z2 : R (arr.getD (lo + n - 1) d0) (arr.getD (lo + n) d0) with
          | true => exact wpS_pure ⟨_, rfl, rfl, q2, ag, ds, hq, eb⟩
          | false =>
            have d2 := ds.more L ga (by omega) (by omega) z2
            refine wpS_pure ⟨_, rfl, rfl, rfl, (by dsimp only; omega), ag, d2, (by dsimp only; omega), fun i j i1 i2 j1 j2 => ?_⟩
            dsimp only at i1 i2 j1 j2
            have b1 : ∀ i, lo + n - (q + 1) ≤ i → i < lo + n → R (arr.getD i d0) (arr.getD (lo + n) d0) = false := fun i i1 i2 => L.tr _ _ _ (ga _ (at_mem (by omega))) (ga _ (at_mem (by omega))) (ga _ (at_mem (by omega))) (eb i (lo + n - 1) i1 i2 (by omega) (by omega)) z2
            have b2 : ∀ i, lo + n - (q + 1) ≤ i → i < lo + n → R (arr.getD (lo + n) d0) (arr.getD i d0) = false := fun i i1 i2 => L.tr _ _ _ (ga _ (at_mem (by omega))) (ga _ (at_mem (by omega))) (ga _ (at_mem (by omega))) z (eb (lo + n - 1) i (by omega) (by omega) i1 i2)
            by_cases ci : i = lo + n
            · by_cases cj : j = lo + n
              · rw [ci, cj]; exact ltE_irr L (ga _ (at_mem (by omega)))
              · rw [ci]; exact b2 j (by omega) (by omega)
            · by_cases cj : j = lo + n
              · rw [cj]; exact b1 i (by omega) (by omega)
              · exact eb i j (by omega) (by omega) (by omega) (by omega)
      · rintro ⟨r, n, q⟩ st2 ⟨arr, rfl, rfl, q0, q2, ag, ds, hq, eb⟩
        exact ⟨arr, rfl, rfl, q2, ag, ds, hq, eb⟩
      rintro ⟨r, n2, q⟩ st2 ⟨arr, rfl, rfl, q2, ag, ds, hq, eb⟩
      dsimp only at q2 ds hq eb ⊢
      have sz := ag.size
      by_cases c : q > 0
      · rw [if_pos c]
        have ag3 := ag.trans ((agr_mir (xs := arr) (i := lo + n2 - (q + 1)) (j := lo + n2) (by omega)).wide (by omega) (by omega))
        have sz3 := ag3.size
        have d3 := dso_rev (l := lo) (by omega) (Nat.le_refl (lo + n2)) (by omega) ds eb
        refine wpS_bind (wpS_revS (wpS_bind (wpS_revS ?_)))
        have ag2 := ag3.trans ((agr_mir (i := lo) (j := lo + n2) (by omega)).wide (by omega) (by omega))
        have sg2 := seg_rev (by omega) d3
        generalize mirror (mirror arr (lo + n2 - (q + 1)) (lo + n2) ((lo + n2 - (lo + n2 - (q + 1))) / 2)) lo (lo + n2) ((lo + n2 - lo) / 2) = arr2 at ag2 sg2 ⊢
        have ga2 := ag2.gl gl
        have sz2 := ag2.size
        refine wpS_bind (wpS_mono (wpS_forRange (I := fun i (c : Option (Option Nat) × Nat) st2 => st2 = setArr st arr2 ∧ c.1 = none ∧ c.2 = i ∧ 1 ≤ c.2 ∧ c.2 ≤ nrem ∧ SegO R arr2 lo (lo + c.2)) (Q := fun c st2 => st2 = setArr st arr2 ∧ c.1 = none ∧ 1 ≤ c.2 ∧ c.2 ≤ nrem ∧ SegO R arr2 lo (lo + c.2) ∧ (c.2 < nrem → R (arr2.getD (lo + c.2) d0) (arr2.getD (lo + c.2 - 1) d0) = true)) ?_ ?_ ⟨rfl, rfl, rfl, (by dsimp only; omega), (by dsimp only; omega), sg2⟩) ?_)
        · rintro i ⟨r, n⟩ st2 _ hi ⟨rfl, rfl, rfl, q1, q2, q3⟩
          dsimp only at q1 q2 q3 hi ⊢
          refine wpS_bind (wpS_ltAtG L (st := setArr st arr2) hk ga2 (show lo + n < arr2.size by omega) (show lo + n - 1 < arr2.size by omega) ?_)
          dsimp only
          cases z : R (arr2.getD (lo + n) d0) (arr2.getD (lo + n - 1) d0) with
          | true => exact wpS_pure ⟨rfl, rfl, q1, q2, q3, fun _ => z⟩
          | false => exact wpS_pure ⟨rfl, rfl, rfl, (by dsimp only; omega), (by dsimp only; omega), q3.more (u := lo + n) L ga2 (by omega) (by omega) z⟩
        · rintro ⟨r, n⟩ st2 ⟨rfl, rfl, q0, q1, q2, q3⟩
          dsimp only at q0 q1 q2 q3 ⊢
          exact ⟨rfl, rfl, q1, q2, q3, fun z => by omega⟩
        rintro ⟨r, n⟩ st2 ⟨rfl, rfl, q1, q2, q3, q4⟩
        dsimp only at q1 q2 q3 q4 ⊢
        exact wpS_pure (h n arr2 q1 q2 ag2 q3)
      · rw [if_neg c]
        refine wpS_bind (wpS_revS ?_)
        have ag2 := ag.trans ((agr_mir (xs := arr) (i := lo) (j := lo + n2) (by omega)).wide (by omega) (by omega))
        have sg2 := seg_rev (by omega) ds
        generalize mirror arr lo (lo + n2) ((lo + n2 - lo) / 2) = arr2 at ag2 sg2 ⊢
        have ga2 := ag2.gl gl
        have sz2 := ag2.size
        refine wpS_bind (wpS_mono (wpS_forRange (I := fun i (c : Option (Option Nat) × Nat) st2 => st2 = setArr st arr2 ∧ c.1 = none ∧ c.2 = i ∧ 1 ≤ c.2 ∧ c.2 ≤ nrem ∧ SegO R arr2 lo (lo + c.2)) (Q := fun c st2 => st2 = setArr st arr2 ∧ c.1 = none ∧ 1 ≤ c.2 ∧ c.2 ≤ nrem ∧ SegO R arr2 lo (lo + c.2) ∧ (c.2 < nrem → R (arr2.getD (lo + c.2) d0) (arr2.getD (lo + c.2 - 1) d0) = true)) ?_ ?_ ⟨rfl, rfl, rfl, (by dsimp only; omega), (by dsimp only; omega), sg2⟩) ?_)
        · rintro i ⟨r, n⟩ st2 _ hi ⟨rfl, rfl, rfl, q1, q2, q3⟩
          dsimp only at q1 q2 q3 hi ⊢
          refine wpS_bind (wpS_ltAtG L (st := setArr st arr2) hk ga2 (show lo + n < arr2.size by omega) (show lo + n - 1 < arr2.size by omega) ?_)
          dsimp only
          cases z : R (arr2.getD (lo + n) d0) (arr2.getD (lo + n - 1) d0) with
          | true => exact wpS_pure ⟨rfl, rfl, q1, q2, q3, fun _ => z⟩
          | false => exact wpS_pure ⟨rfl, rfl, rfl, (by dsimp only; omega), (by dsimp only; omega), q3.more (u := lo + n) L ga2 (by omega) (by omega) z⟩
        · rintro ⟨r, n⟩ st2 ⟨rfl, rfl, q0, q1, q2, q3⟩
          dsimp only at q0 q1 q2 q3 ⊢
          exact ⟨rfl, rfl, q1, q2, q3, fun z => by omega⟩
        rintro ⟨r, n⟩ st2 ⟨rfl, rfl, q1, q2, q3, q4⟩
        dsimp only at q1 q2 q3 q4 ⊢
        exact wpS_pure (h n arr2 q1 q2 ag2 q3)
end
end L2
set_option Elab.async false
set_option linter.all false
set_option maxRecDepth 100000
set_option maxHeartbeats 4000000
namespace L2
open PySem PySem.W PyProof.Rows
abbrev Run3 := Nat × Nat × Nat
def CovR : List Run3 → Nat → Nat → Prop
  | [], lo, hi => lo = hi
  | r :: rs, lo, hi => r.1 = lo ∧ 0 < r.2.1 ∧ CovR rs (lo + r.2.1) hi
theorem CovR.app : ∀ {a b : List Run3} {lo hi : Nat}, CovR (a ++ b) lo hi ↔ ∃ m, CovR a lo m ∧ CovR b m hi
  | [], b, lo, hi => by simp [CovR]
  | r :: a, b, lo, hi => by
    simp only [List.cons_append, CovR, CovR.app (a := a)]
    constructor
    · rintro ⟨h1, h2, m, h3, h4⟩; exact ⟨m, ⟨h1, h2, h3⟩, h4⟩
    · rintro ⟨m, ⟨h1, h2, h3⟩, h4⟩; exact ⟨h1, h2, m, h3, h4⟩
theorem CovR.le : ∀ {a : List Run3} {lo hi : Nat}, CovR a lo hi → lo + a.length ≤ hi
  | [], lo, hi, h => by simp [CovR] at h ⊢; omega
  | r :: a, lo, hi, h => by
    obtain ⟨h1, h2, h3⟩ := h
    have := h3.le
    simp
    omega
theorem CovR.mem : ∀ {a : List Run3} {lo hi : Nat}, CovR a lo hi → ∀ r ∈ a, lo ≤ r.1 ∧ r.1 + r.2.1 ≤ hi
  | r :: a, lo, hi, ⟨h1, h2, h3⟩, x, hx => by
    have := h3.le
    rcases List.mem_cons.mp hx with rfl | hx
    · omega
    · have := h3.mem x hx
      omega
section
variable {M : Model} {A : Around} {E : Value → Shared → Prop} {s : Shared} {κ : SortKind} {G : Keyed → Prop} {R : Keyed → Keyed → Bool} {a₀ : Array Keyed}
structure RunS (κ : SortKind) (R : Keyed → Keyed → Bool) (a₀ : Array Keyed) (st : SortSt) (lo : Nat) : Prop where
  kind : kindOf st = κ
  fail : failedOf st = none
  perm : (arrOf st).toList.Perm a₀.toList
  cov : CovR (pendingOf st).toList 0 lo
  seg : ∀ r ∈ (pendingOf st).toList, SegO R (arrOf st) r.1 (r.1 + r.2.1)
theorem RunS.size {st : SortSt} {lo : Nat} (p : RunS κ R a₀ st lo) : (arrOf st).size = a₀.size := by have := p.perm.length_eq; simpa using this
theorem SegO.same {xs ys : Array Keyed} {l u : Nat} (h : SegO R xs l u) (e : ∀ j, l ≤ j → j < u → ys.getD j d0 = xs.getD j d0) : SegO R ys l u := fun i j hi hij hj => by
  rw [e i hi (by omega), e j (by omega) hj]
  exact h i j hi hij hj
theorem RunS.above {st : SortSt} {lo u : Nat} (p : RunS κ R a₀ st lo) {arr : Array Keyed} (ag : Agr (arrOf st) arr lo u) : RunS κ R a₀ (setArr st arr) lo :=
  ⟨p.kind, p.fail, ag.perm.trans p.perm, p.cov, fun r hr => (p.seg r hr).same fun j h1 h2 => ag.out j (.inl (by have := p.cov.mem r hr; omega))⟩
theorem split2 {p : List Run3} {i : Nat} (h : i + 1 < p.length) : ∃ pre x y post, p = pre ++ x :: y :: post ∧ pre.length = i := by
  refine ⟨p.take i, p[i], p[i + 1], p.drop (i + 2), ?_, by simp; omega⟩
  rw [← List.drop_eq_getElem_cons (i := i + 1) (by omega), ← List.drop_eq_getElem_cons (i := i) (by omega), List.take_append_drop]
theorem merge_step (L : LtE M A E s κ G R) (ga : ∀ x ∈ a₀.toList, G x) {st : SortSt} {lo i : Nat} (p : RunS κ R a₀ st lo) (hlo : lo ≤ a₀.size) (hi : i + 1 < (pendingOf st).size) {Q : Bool → SortSt → Prop}
    (h : ∀ st' : SortSt, RunS κ R a₀ st' lo → (pendingOf st').size + 1 = (pendingOf st).size → (∀ j, lo ≤ j → (arrOf st').getD j d0 = (arrOf st).getD j d0) → Q true st') : wpS M A E s (mergeAt' i) Q st := by
  obtain ⟨pre, ⟨sa, na, pa⟩, ⟨sb, nb, pb⟩, post, ep, el⟩ := split2 (p := (pendingOf st).toList) (i := i) (by simpa using hi)
  have cv := p.cov
  rw [ep] at cv
  obtain ⟨m, c1, c2, c3, c4, c5, c6⟩ := CovR.app.mp cv
  dsimp only at c2 c3 c4 c5 c6
  have hle := c6.le
  have g1 : (pendingOf st)[i]? = some (sa, na, pa) := by rw [← Array.getElem?_toList, ep, List.getElem?_append_right (by omega), el]; simp
  have g2 : (pendingOf st)[i + 1]? = some (sb, nb, pb) := by rw [← Array.getElem?_toList, ep, List.getElem?_append_right (by omega), el]; simp
  have s1 := p.seg (sa, na, pa) (by rw [ep]; simp)
  have s2 := p.seg (sb, nb, pb) (by rw [ep]; simp)
  dsimp only at s1 s2
  have sz := p.size
  refine mergeAt_ok L p.kind p.fail (fun x hx => ga x (p.perm.mem_iff.mp hx)) g1 g2 (by omega) (by omega) c3 c5 (by rw [show sb = sa + na by omega]; exact s1) s2 fun arr g pm same sg => ?_
  have en : (((pendingOf st).setIfInBounds i (sa, na + nb, pa)).eraseIdxIfInBounds (i + 1)).toList = pre ++ (sa, na + nb, pa) :: post := by
    rw [Array.toList_eraseIdxIfInBounds, Array.toList_setIfInBounds, ep, List.set_append_right _ _ (by omega), el, Nat.sub_self]
    rw [List.eraseIdx_append_of_length_le (by omega), el, Nat.add_sub_cancel_left]
    simp
  refine h _ ⟨rfl, rfl, pm.trans p.perm, ?_, ?_⟩ ?_ fun j hj => same j (.inr (by omega))
  · show CovR (((pendingOf st).setIfInBounds i (sa, na + nb, pa)).eraseIdxIfInBounds (i + 1)).toList 0 lo
    rw [en]
    refine CovR.app.mpr ⟨m, c1, c2, by show 0 < na + nb; omega, ?_⟩
    show CovR post (m + (na + nb)) lo
    rw [← Nat.add_assoc]
    exact c6
  · intro r hr
    have hr' : r ∈ pre ++ (sa, na + nb, pa) :: post := by rw [← en]; exact hr
    rcases List.mem_append.mp hr' with hr' | hr'
    · have z := c1.mem r hr'
      exact (p.seg r (by rw [ep]; exact List.mem_append_left _ hr')).same fun j h1 h2 => same j (.inl (by omega))
    · rcases List.mem_cons.mp hr' with rfl | hr'
      · show SegO R arr sa (sa + (na + nb))
        rw [show sa + (na + nb) = sb + nb by omega]
        exact sg
      · have z := c6.mem r hr'
        exact (p.seg r (by rw [ep]; simp [hr'])).same fun j h1 h2 => same j (.inr (by omega))
  · have := congrArg List.length en
    have e2 := congrArg List.length ep
    simp only [Array.length_toList, List.length_append, List.length_cons] at this e2
    show (((pendingOf st).setIfInBounds i (sa, na + nb, pa)).eraseIdxIfInBounds (i + 1)).size + 1 = _
    omega
theorem wpS_ite {α : Type} {c : Prop} [Decidable c] {m n : StateT SortSt Sem α} {Q : α → SortSt → Prop} {st : SortSt} (h1 : c → wpS M A E s m Q st) (h2 : ¬ c → wpS M A E s n Q st) : wpS M A E s (if c then m else n) Q st := by
  by_cases z : c
  · rw [if_pos z]; exact h1 z
  · rw [if_neg z]; exact h2 z
theorem CovR.of_map : ∀ {a b : List Run3} {lo hi : Nat}, a.map (fun r => (r.1, r.2.1)) = b.map (fun r => (r.1, r.2.1)) → CovR a lo hi → CovR b lo hi
  | [], [], _, _, _, h => h
  | [], _ :: _, _, _, e, _ => by simp at e
  | _ :: _, [], _, _, e, _ => by simp at e
  | r :: a, q :: b, lo, hi, e, ⟨h1, h2, h3⟩ => by
    simp only [List.map_cons, List.cons.injEq, Prod.mk.injEq] at e
    obtain ⟨⟨e1, e2⟩, e3⟩ := e
    exact ⟨e1 ▸ h1, e2 ▸ h2, e2 ▸ CovR.of_map e3 h3⟩
theorem RunS.push {st : SortSt} {lo n : Nat} (p : RunS κ R a₀ st lo) (hn : 0 < n) (sg : SegO R (arrOf st) lo (lo + n)) : RunS κ R a₀ (setPending st ((pendingOf st).push (lo, n, 0))) (lo + n) := by
  refine ⟨p.kind, p.fail, p.perm, ?_, ?_⟩
  · show CovR ((pendingOf st).push (lo, n, 0)).toList 0 (lo + n)
    rw [Array.toList_push]
    exact CovR.app.mpr ⟨lo, p.cov, rfl, hn, rfl⟩
  · intro r hr
    have hr' : r ∈ ((pendingOf st).push (lo, n, 0)).toList := hr
    rw [Array.toList_push] at hr'
    rcases List.mem_append.mp hr' with hr' | hr'
    · exact p.seg r hr'
    · rw [List.mem_singleton] at hr'
      subst hr'
      exact sg
theorem RunS.modify {st : SortSt} {lo k w : Nat} (p : RunS κ R a₀ st lo) : RunS κ R a₀ (setPending st ((pendingOf st).modify k fun x => (x.1, x.2.1, w))) lo := by
  have em : ((pendingOf st).modify k fun x => (x.1, x.2.1, w)).toList.map (fun r => (r.1, r.2.1)) = (pendingOf st).toList.map (fun r => (r.1, r.2.1)) := by
    rw [Array.toList_modify]
    refine List.ext_getElem? fun j => ?_
    rw [List.getElem?_map, List.getElem?_map, List.getElem?_modify]
    cases (pendingOf st).toList[j]? with
    | none => rfl
    | some x => by_cases c : k = j <;> simp [c]
  refine ⟨p.kind, p.fail, p.perm, p.cov.of_map em.symm, fun r hr => ?_⟩
  have hr' : (r.1, r.2.1) ∈ ((pendingOf st).modify k fun x => (x.1, x.2.1, w)).toList.map (fun r => (r.1, r.2.1)) := List.mem_map.mpr ⟨r, hr, rfl⟩
  rw [em] at hr'
  obtain ⟨q, hq, e⟩ := List.mem_map.mp hr'
  have := p.seg q hq
  simp only [Prod.mk.injEq] at e
  rw [e.1, e.2] at this
  exact this
theorem sortRuns_ok (L : LtE M A E s κ G R) (ga : ∀ x ∈ a₀.toList, G x) {st : SortSt} {Q : Unit → SortSt → Prop} (p : RunS κ R a₀ st 0) (h0 : 0 < a₀.size)
    (h : ∀ st' : SortSt, kindOf st' = κ → failedOf st' = none → (arrOf st').toList.Perm a₀.toList → SegO R (arrOf st') 0 a₀.size → Q () st') : wpS M A E s sortRuns' Q st := by
  rw [sortRuns'_eq]
  refine wpS_bind (wpS_get ?_)
  dsimp only
  have sz0 := p.size
  refine wpS_bind (wpS_mono (wpS_forRange (I := fun i (c : Option Unit × Nat) st' => c.1 = none ∧ RunS κ R a₀ st' c.2 ∧ c.2 ≤ a₀.size ∧ i ≤ c.2) (Q := fun c st' => c.1 = none ∧ RunS κ R a₀ st' a₀.size) ?_ ?_ ⟨rfl, p, Nat.zero_le _, Nat.le_refl _⟩) ?_)
  · rintro i ⟨r, lo⟩ st' _ hi ⟨rfl, p', hlo, hil⟩
    dsimp only at p' hlo hil ⊢
    have szp := p'.size
    by_cases c0 : lo ≥ (arrOf st).size
    · rw [if_pos c0]
      have : lo = a₀.size := by omega
      rw [this] at p' ⊢
      exact wpS_pure ⟨rfl, p'⟩
    · rw [if_neg c0]
      refine wpS_bind (count_ok L p'.kind (fun x hx => ga x (p'.perm.mem_iff.mp hx)) (by omega) (by omega) fun n arr hn1 hn2 ag sg => ?_)
      dsimp only
      have pa := p'.above ag
      have aga := ag.size
      by_cases cm : n < minRun' (arrOf st).size (arrOf st).size 0
      · rw [if_pos cm]
        refine wpS_bind (wpS_rule ?_)
        refine wpS_bind (binary_ok L (st := setArr st' arr) pa.kind (fun x hx => ga x (pa.perm.mem_iff.mp hx)) (show lo + min ((arrOf st).size - lo) (minRun' (arrOf st).size (arrOf st).size 0) ≤ arr.size by omega) hn1 (by omega) sg fun arr2 ag2 sg2 => ?_)
        rw [if_neg (by simp)]
        have p1 : RunS κ R a₀ (setArr st' arr2) lo := pa.above ag2
        have sg1 : SegO R (arrOf (setArr st' arr2)) lo (lo + min ((arrOf st).size - lo) (minRun' (arrOf st).size (arrOf st).size 0)) := sg2
        have hN : 0 < min ((arrOf st).size - lo) (minRun' (arrOf st).size (arrOf st).size 0) := by omega
        have hN2 : lo + min ((arrOf st).size - lo) (minRun' (arrOf st).size (arrOf st).size 0) ≤ a₀.size := by omega
        show wpS M A E s _ _ (setArr st' arr2)
        generalize setArr st' arr2 = st1 at p1 sg1 ⊢
        generalize min ((arrOf st).size - lo) (minRun' (arrOf st).size (arrOf st).size 0) = N at hN hN2 sg1 ⊢
        refine wpS_bind (wpS_get ?_)
        cases hb : (pendingOf st1).back? with
        | none =>
          dsimp only
          refine wpS_bind (wpS_modify (wpS_pure ⟨rfl, p1.push hN sg1, ?_, ?_⟩))
          · exact hN2
          · dsimp only; omega
        | some r3 =>
          obtain ⟨s1, n1, o1⟩ := r3
          dsimp only
          refine wpS_bind (wpS_mono (wpS_forRange (I := fun i (c : Option Unit × Unit) st2 => c.1 = none ∧ RunS κ R a₀ st2 lo ∧ SegO R (arrOf st2) lo (lo + N)) (Q := fun c st2 => c.1 = none ∧ RunS κ R a₀ st2 lo ∧ SegO R (arrOf st2) lo (lo + N)) ?_ ?_ ⟨rfl, p1, sg1⟩) ?_)
          · rintro i2 ⟨r, u⟩ st2 _ _ ⟨rfl, p2, sg2⟩
            refine wpS_bind (wpS_get ?_)
            by_cases c : (pendingOf st2).size > 1
            · rw [if_pos c]
              obtain ⟨⟨x1, x2, x3⟩, hx⟩ : ∃ x, (pendingOf st2)[(pendingOf st2).size - 2]? = some x := ⟨_, Array.getElem?_eq_getElem (by omega)⟩
              rw [hx]
              dsimp only
              refine wpS_ite (fun _ => wpS_pure ⟨rfl, p2, sg2⟩) fun _ => ?_
              refine wpS_bind (merge_step L ga p2 (by omega) (by omega) fun st3 p3 _ same => ?_)
              rw [if_neg (by simp)]
              exact wpS_pure ⟨rfl, p3, sg2.same fun j h1 h2 => same j h1⟩
            · rw [if_neg c]
              exact wpS_pure ⟨rfl, p2, sg2⟩
          · rintro ⟨r, u⟩ st2 ⟨rfl, p2, sg2⟩
            exact ⟨rfl, p2, sg2⟩
          rintro ⟨r, u⟩ st2 ⟨rfl, p2, sg2⟩
          dsimp only
          refine wpS_bind (wpS_modify (wpS_bind (wpS_modify (wpS_pure ⟨rfl, (p2.modify).push hN sg2, ?_, ?_⟩))))
          · exact hN2
          · dsimp only; omega
      · rw [if_neg cm]
        have p1 := pa
        have sg1 : SegO R (arrOf (setArr st' arr)) lo (lo + n) := sg
        have hN : 0 < n := hn1
        have hN2 : lo + n ≤ a₀.size := by omega
        generalize setArr st' arr = st1 at p1 sg1 ⊢
        refine wpS_bind (wpS_get ?_)
        cases hb : (pendingOf st1).back? with
        | none =>
          dsimp only
          refine wpS_bind (wpS_modify (wpS_pure ⟨rfl, p1.push hN sg1, ?_, ?_⟩))
          · exact hN2
          · dsimp only; omega
        | some r3 =>
          obtain ⟨s1, n1, o1⟩ := r3
          dsimp only
          refine wpS_bind (wpS_mono (wpS_forRange (I := fun i (c : Option Unit × Unit) st2 => c.1 = none ∧ RunS κ R a₀ st2 lo ∧ SegO R (arrOf st2) lo (lo + n)) (Q := fun c st2 => c.1 = none ∧ RunS κ R a₀ st2 lo ∧ SegO R (arrOf st2) lo (lo + n)) ?_ ?_ ⟨rfl, p1, sg1⟩) ?_)
          · rintro i2 ⟨r, u⟩ st2 _ _ ⟨rfl, p2, sg2⟩
            refine wpS_bind (wpS_get ?_)
            by_cases c : (pendingOf st2).size > 1
            · rw [if_pos c]
              obtain ⟨⟨x1, x2, x3⟩, hx⟩ : ∃ x, (pendingOf st2)[(pendingOf st2).size - 2]? = some x := ⟨_, Array.getElem?_eq_getElem (by omega)⟩
              rw [hx]
              dsimp only
              refine wpS_ite (fun _ => wpS_pure ⟨rfl, p2, sg2⟩) fun _ => ?_
              refine wpS_bind (merge_step L ga p2 (by omega) (by omega) fun st3 p3 _ same => ?_)
              rw [if_neg (by simp)]
              exact wpS_pure ⟨rfl, p3, sg2.same fun j h1 h2 => same j h1⟩
            · rw [if_neg c]
              exact wpS_pure ⟨rfl, p2, sg2⟩
          · rintro ⟨r, u⟩ st2 ⟨rfl, p2, sg2⟩
            exact ⟨rfl, p2, sg2⟩
          rintro ⟨r, u⟩ st2 ⟨rfl, p2, sg2⟩
          dsimp only
          refine wpS_bind (wpS_modify (wpS_bind (wpS_modify (wpS_pure ⟨rfl, (p2.modify).push hN sg2, ?_, ?_⟩))))
          · exact hN2
          · dsimp only; omega
  · rintro ⟨r, lo⟩ st' ⟨rfl, p', hlo, hil⟩
    dsimp only at p' hlo hil ⊢
    have : lo = a₀.size := by omega
    rw [this] at p'
    exact ⟨rfl, p'⟩
  rintro ⟨r, lo⟩ st' ⟨rfl, p'⟩
  dsimp only
  have hend : ∀ st2, RunS κ R a₀ st2 a₀.size → (pendingOf st2).size ≤ 1 → Q () st2 := fun st2 p2 hs => by
    refine h st2 p2.kind p2.fail p2.perm ?_
    have cv := p2.cov
    have sg := p2.seg
    have hs' : (pendingOf st2).toList.length ≤ 1 := by simpa using hs
    match hp : (pendingOf st2).toList, hs' with
    | [], _ =>
      rw [hp] at cv
      simp [CovR] at cv
      omega
    | [x], _ =>
      rw [hp] at cv sg
      obtain ⟨c1, c2, c3⟩ := cv
      have := sg x List.mem_cons_self
      rw [c1] at this
      have c3' : 0 + x.2.1 = a₀.size := c3
      rw [c3'] at this
      exact this
    | _ :: _ :: _, z => simp at z
  have sz' : (pendingOf st').size ≤ a₀.size := by have := p'.cov.le; simpa using this
  refine wpS_bind (wpS_mono (wpS_forRange (I := fun i (c : Option Unit × Unit) st2 => c.1 = none ∧ RunS κ R a₀ st2 a₀.size ∧ (pendingOf st2).size + i ≤ a₀.size) (Q := fun c st2 => c.1 = none ∧ RunS κ R a₀ st2 a₀.size ∧ (pendingOf st2).size ≤ 1) ?_ ?_ ⟨rfl, p', sz'⟩) ?_)
  · rintro i ⟨r, u⟩ st2 _ hi ⟨rfl, p2, hc⟩
    refine wpS_bind (wpS_get ?_)
    by_cases c : (pendingOf st2).size ≤ 1
    · rw [if_pos c]
      exact wpS_pure ⟨rfl, p2, c⟩
    · rw [if_neg c]
      refine wpS_bind (merge_step L ga p2 (Nat.le_refl _) ?_ fun st3 p3 hs _ => ?_)
      · have ite_le : ∀ (b : Prop) [Decidable b] (x : Nat), (if b then x - 1 else x) ≤ x := fun b _ x => by split <;> omega
        refine Nat.lt_of_le_of_lt (Nat.succ_le_succ (ite_le _ _)) ?_
        omega
      · rw [if_neg (by simp)]
        exact wpS_pure ⟨rfl, p3, by omega⟩
  · rintro ⟨r, u⟩ st2 ⟨rfl, p2, hc⟩
    exact ⟨rfl, p2, by omega⟩
  rintro ⟨r, u⟩ st2 ⟨rfl, p2, hs⟩
  exact wpS_pure (hend st2 p2 hs)
end
end L2
set_option Elab.async false
set_option linter.all false
set_option maxRecDepth 100000
set_option maxHeartbeats 4000000
namespace L2
open PySem PySem.Calls PySem.W PyProof.Rows
section
variable {prog : Program} {w : World} {A : Around} {E : Value → Shared → Prop} {s : Shared} {κ : SortKind} {G : Keyed → Prop} {R : Keyed → Keyed → Bool}
theorem ltE_of (hlt : ∀ x y, G x → G y → ∀ (E' : Value → Shared → Prop) (Q : Bool → Shared → Prop), Q (R x y) s → wpAny (model prog w) A (keyLt' κ x.1 y.1) Q E' s)
    (asym : ∀ x y, G x → G y → R x y = true → R y x = false) (tr : ∀ x y z, G x → G y → G z → R x y = false → R y z = false → R x z = false) : LtE (model prog w) A E s κ G R :=
  ⟨fun x y gx gy st Q hk h => by
    rw [lt'_eq]
    refine wpS_bind (wpS_get ?_)
    rw [hk]
    exact wpS_bind (wpS_lift (wpAny_attempt (hlt x y gx gy _ _ ⟨rfl, wpS_pure h⟩))), asym, tr⟩
theorem zip_self (vs : List Value) : (vs.toArray.zip vs.toArray).toList = vs.map fun v => (v, v) := by
  simp only [Array.toList_zip]
  induction vs with
  | nil => rfl
  | cons v vs ih => simpa using ih
theorem list_sort_gen {a : Addr} {vs : List Value} {n : Nat} {P : PySem.Fin → Shared → Prop} (Kd : SortKind → Prop) (ho : s.heap.get? a = some (seqObj "list" vs.toArray n)) (hz : vs.length ≤ 1000)
    (hk : ∀ h' : Heap, (∀ b x, s.heap.IsTuple b x → h'.IsTuple b x) → 2 ≤ vs.length → ∀ Q : SortKind → Shared → Prop, (∀ κ, Kd κ → Q κ { s with heap := h' }) → wpAny (model prog w) A (keyKind' vs.toArray) Q E { s with heap := h' })
    (hL : ∀ h' : Heap, (∀ b x, s.heap.IsTuple b x → h'.IsTuple b x) → ∀ κ, Kd κ → LtE (model prog w) A E { s with heap := h' } κ G R) (hG : ∀ v ∈ vs, G (v, v))
    (h : ∀ ws : List Value, ws.Perm vs → ws.Pairwise (fun x y => R (y, y) (x, x) = false) → P (.done (.ret .none)) { s with heap := sortedHeap s.heap a vs ws.toArray }) :
    wpAny (model prog w) A (Builtin.«list.sort» ⟨[.ref a], []⟩) P E s := by
  have zl : vs.length ≤ sizeLine := Nat.le_of_lt (small1000 hz)
  rw [list_sort_plain]
  have ha : a < s.heap.objs.size := Heap.lt_size ho
  refine wpAny_bind (listItems_at ho rfl (wpAny_bind (listUpdate_at ho rfl ?_ (by rw [List.size_toArray]; exact zl) (Nat.zero_le _))))
  obtain ⟨e1, ho1⟩ : ∃ e1, (s.heap.update a (Obj.mapSeq fun _ => #[])).get? a = some (seqObj "list" #[] e1) := ⟨_, get?_update_seq ho (fun _ => #[])⟩
  refine wpAny_bind (seqEpoch_at ho1 rfl (wpAny_bind (wpAny_newTuple ?_ (by show vs.length ≤ _; exact zl))))
  refine wpAny_bind (wpAny_newList ?_ (Nat.zero_le _))
  refine wpAny_holding ?_
  have ho6 : (((s.heap.update a (Obj.mapSeq fun _ => #[])).push (seqObj "tuple" vs.toArray 0)).push (seqObj "list" #[] 0)).get? a = some (seqObj "list" #[] e1) := by rw [Heap.get?_push_ne _ _ _ (by rw [size_push', Heap.size_update]; exact Nat.ne_of_lt (Nat.lt_succ_of_lt ha)), Heap.get?_push_ne _ _ _ (by rw [Heap.size_update]; exact Nat.ne_of_lt ha)]; exact ho1
  have keep : ∀ b x, s.heap.IsTuple b x → (((s.heap.update a (Obj.mapSeq fun _ => #[])).push (seqObj "tuple" vs.toArray 0)).push (seqObj "list" #[] 0)).IsTuple b x := fun b x hb => istup_kept (fun b o hc hb => by
    have hne : b ≠ a := fun z => by
      rw [z, ho] at hb
      cases hb
      injection hc with hh
      exact absurd hh (by decide)
    exact Heap.get?_push_of_some _ (Heap.get?_push_of_some _ (by rw [Heap.get?_update_ne _ _ _ _ hne]; exact hb))) hb
  show wpAny (model prog w) A _ P E { s with heap := ((s.heap.update a (Obj.mapSeq fun _ => #[])).push (seqObj "tuple" vs.toArray 0)).push (seqObj "list" #[] 0) }
  dsimp only
  have outs : ∀ arr : Array Keyed, arr.toList.Perm (vs.map fun v => (v, v)) → ∃ ws : List Value, ws.Perm vs ∧ arr.map (·.2) = ws.toArray ∧ arr.toList = ws.map fun v => (v, v) := fun arr pm => by
    refine ⟨arr.toList.map (·.2), ?_, ?_, ?_⟩
    · have := pm.map (·.2)
      rw [List.map_map] at this
      have e : ((fun x : Keyed => x.2) ∘ fun v : Value => (v, v)) = id := rfl
      rw [e, List.map_id] at this
      exact this
    · rw [← Array.toList_map]
    · rw [List.map_map]
      refine (List.map_id _).symm.trans (List.map_congr_left fun x hx => ?_)
      obtain ⟨v, _, rfl⟩ := List.mem_map.mp (pm.mem_iff.mp hx)
      rfl
  by_cases h2 : vs.toArray.size < 2
  · rw [if_pos h2, if_pos h2]
    refine wpAny_bind (wpAny_pure ?_); rw [StateT.run_pure]
    refine wpAny_bind (wpAny_pure ?_)
    dsimp only
    have h2' : vs.length < 2 := by simpa using h2
    have hid : (arrOf (SortSt.mk' general' (vs.toArray.zip vs.toArray) #[] 7 none)).map (·.2) = vs.toArray := by
      show (vs.toArray.zip vs.toArray).map (·.2) = _
      rw [snds_few h2']
      match vs, h2' with
      | [], _ => rfl
      | [x], _ => simp [List.range_succ]
    rw [hid]
    refine wpAny_bind (seqEpoch_at ho6 rfl ?_)
    refine wpAny_bind (listUpdate_at ho6 rfl ?_ (Nat.zero_le _) (by rw [List.size_toArray]; omega))
    simp only [bne_self_eq_false, Bool.false_eq_true, if_false]
    refine wpAny_pure (h vs (.refl _) ?_)
    match vs, h2' with
    | [], _ => exact List.Pairwise.nil
    | [x], _ => exact List.pairwise_singleton _ _
  · rw [if_neg h2, if_neg h2]
    have h2' : 2 ≤ vs.length := by simpa using h2
    refine wpAny_bind (hk _ keep h2' _ fun κ hκ => ?_)
    have L := hL _ keep κ hκ
    have ga : ∀ x ∈ (vs.toArray.zip vs.toArray).toList, G x := fun x hx => by
      rw [zip_self] at hx
      obtain ⟨v, hv, rfl⟩ := List.mem_map.mp hx
      exact hG v hv
    show wpAny (model prog w) A ((sortRuns').run (SortSt.mk' κ (vs.toArray.zip vs.toArray) #[] 7 none) >>= _) P E _
    have sr := sortRuns_ok L (a₀ := vs.toArray.zip vs.toArray) ga (st := SortSt.mk' κ (vs.toArray.zip vs.toArray) #[] 7 none) (Q := fun _ st' => failedOf st' = none ∧ (arrOf st').toList.Perm (vs.map fun v => (v, v)) ∧ SegO R (arrOf st') 0 vs.length) ⟨rfl, rfl, .refl _, rfl, fun r hr => by cases hr⟩ (by simp; omega) fun st' _ q2 q3 q4 => ⟨q2, by rw [zip_self] at q3; exact q3, by
      have : (vs.toArray.zip vs.toArray).size = vs.length := by simp
      rw [this] at q4
      exact q4⟩
    refine wpAny_bind (wpAny_mono sr ?_ fun _ _ e => e)
    rintro ⟨⟨⟩, st'⟩ s' ⟨rfl, hf, pm, sg⟩
    dsimp only at hf pm sg ⊢
    obtain ⟨ws, pw, ew, el⟩ := outs (arrOf st') pm
    have szw : ws.length = vs.length := pw.length_eq
    have sza : (arrOf st').size = vs.length := by have := pm.length_eq; simpa using this
    rw [ew]
    refine wpAny_bind (seqEpoch_at ho6 rfl ?_)
    refine wpAny_bind (listUpdate_at ho6 rfl ?_ (Nat.zero_le _) (by rw [List.size_toArray, szw]; omega))
    rw [hf]
    simp only [bne_self_eq_false, Bool.false_eq_true, if_false]
    refine wpAny_pure (h ws pw ?_)
    have ol : OL R (arrOf st').toList := ol_of fun i j hij hj => sg i j (Nat.zero_le _) hij (by omega)
    rw [el] at ol
    unfold OL at ol
    rw [List.pairwise_map] at ol
    exact ol
end
end L2
set_option Elab.async false
set_option linter.all false
set_option maxRecDepth 100000
set_option maxHeartbeats 4000000
namespace L2
open PySem PySem.Calls PySem.Spec PySem.W PyProof.Rows
open Classical in
noncomputable def dtOf (h : Heap) (v : Value) : Dt := if e : ∃ d, DA h d v then e.choose else .tup []
theorem dtOf_eq {h : Heap} {d : Dt} {v : Value} (r : DA h d v) : dtOf h v = d := by
  unfold dtOf
  have e : ∃ d, DA h d v := ⟨d, r⟩
  rw [dif_pos e]
  exact e.choose_spec.inj r
theorem dts_of {h : Heap} : ∀ {ds : List Dt} {vs : List Value}, DAs h ds vs → vs.map (dtOf h) = ds
  | _, _, .nil => rfl
  | _, _, .cons r q => by rw [List.map_cons, dtOf_eq r, dts_of q]
theorem da_mem {h : Heap} {ds : List Dt} {vs : List Value} (r : DAs h ds vs) {v : Value} (hv : v ∈ vs) : ∃ d ∈ ds, DA h d v := by
  obtain ⟨j, hj, e⟩ := List.getElem_of_mem hv
  obtain ⟨d, ed, rd⟩ := r.get (show vs[j]? = some v by rw [List.getElem?_eq_getElem hj, e])
  exact ⟨d, List.mem_of_getElem? ed, rd⟩
theorem heads_tup {ds : List Dt} (hh : Heads ds) : ∀ d ∈ ds, ∃ r, d = Dt.tup r := fun d hd => by
  rcases hh with hh | hh
  · obtain ⟨x, r, rfl⟩ := hh d hd; exact ⟨_, rfl⟩
  · rcases hh d hd with rfl | ⟨l, r, rfl⟩ <;> exact ⟨_, rfl⟩
section
variable {prog : Program} {w : World} {A : Around} {E : Value → Shared → Prop} {s : Shared}
theorem list_sort_datA {a : Addr} {vs : List Value} {ds : List Dt} {n m : Nat} {P : PySem.Fin → Shared → Prop} (ho : s.heap.get? a = some (seqObj "list" vs.toArray n)) (hp : DAs s.heap ds vs) (hh : Heads ds) (hc : ∀ d ∈ ds, ∀ e ∈ ds, Dt.cmp d e = true) (hm : Dt.deeps ds ≤ m) (hz : vs.length ≤ 1000) (hu : A.units + m < cLine)
    (h : ∀ ws : List Value, ws.Perm vs → ws.map (dtOf s.heap) = sortD ds → P (.done (.ret .none)) { s with heap := sortedHeap s.heap a vs ws.toArray }) :
    wpAny (model prog w) A (Builtin.«list.sort» ⟨[.ref a], []⟩) P E s := by
  refine list_sort_gen (G := fun x => x.1 ∈ vs) (R := fun x y => Dt.lt (dtOf s.heap x.1) (dtOf s.heap y.1)) (fun κ => GoodK κ ds) ho hz (fun h' kp h2 Q q => kind_DA (hp.kept kp) h2 hh q) (fun h' kp κ hκ => ?_) (fun v hv => hv) fun ws pw od => h ws pw ?_
  · refine ltE_of (fun x y gx gy E' Q q => ?_) (fun x y _ _ => Dt.lt_asym) fun x y z _ _ _ => Dt.lt_neg
    obtain ⟨d, hd, rd⟩ := da_mem hp gx
    obtain ⟨e, he, re⟩ := da_mem hp gy
    rw [dtOf_eq rd, dtOf_eq re] at q
    obtain ⟨j, hj, ej⟩ := List.getElem_of_mem hd
    exact ask_DA hκ hd he (heads_tup hh d hd) (heads_tup hh e he) m (Nat.le_trans (deep_get (show ds[j]? = some d by rw [List.getElem?_eq_getElem hj, ej])) hm) (hc d hd e he) (rd.kept kp) (re.kept kp) hu q
  · refine sortD_of ?_ ?_
    · unfold OrdD
      rw [List.pairwise_map]
      exact od
    · have := pw.map (dtOf s.heap)
      rw [dts_of hp] at this
      exact this
end
def absR : Value → V
  | .ref a => .ref a
  | _ => .non
theorem vals_mem : ∀ {vs : List V} {its : List Value}, Vals vs its → ∀ {u : Value}, u ∈ its → ∃ v ∈ vs, RelV v u
  | _, _, .cons r q, u, hu => by
    rcases List.mem_cons.mp hu with rfl | hu
    · exact ⟨_, List.mem_cons_self, r⟩
    · obtain ⟨v, hv, rv⟩ := vals_mem q hu
      exact ⟨v, List.mem_cons_of_mem _ hv, rv⟩
theorem drs_mem {H : Hp} : ∀ {ds : List Dt} {vs : List V}, DRs H ds vs → ∀ {v : V}, v ∈ vs → ∃ d ∈ ds, DR H d v
  | _, _, .cons r q, v, hv => by
    rcases List.mem_cons.mp hv with rfl | hv
    · exact ⟨_, List.mem_cons_self, r⟩
    · obtain ⟨d, hd, rd⟩ := drs_mem q hv
      exact ⟨d, List.mem_cons_of_mem _ hd, rd⟩
theorem pick_abs {P : Program} {w : World} {H : Hp} {h : Heap} (ok : HOk P w H h) {ds : List Dt} {vs : List V} {its : List Value} (rv : Vals vs its) (hd : DRs H ds vs) (ht : ∀ d ∈ ds, ∃ r, d = Dt.tup r) :
    ∀ {ws : List Value}, (∀ u ∈ ws, u ∈ its) → Vals (ws.map absR) ws ∧ DRs H (ws.map (dtOf h)) (ws.map absR)
  | [], _ => ⟨.nil, .nil⟩
  | u :: ws, hm => by
    obtain ⟨i1, i2⟩ := pick_abs ok rv hd ht (ws := ws) fun x hx => hm x (List.mem_cons_of_mem _ hx)
    obtain ⟨v, hv, r⟩ := vals_mem rv (hm u List.mem_cons_self)
    obtain ⟨d, hdm, rd⟩ := drs_mem hd hv
    obtain ⟨l, rfl⟩ := ht d hdm
    obtain ⟨a, rfl⟩ : ∃ a, v = .ref a := by cases rd; exact ⟨_, rfl⟩
    cases r
    refine ⟨.cons rfl i1, ?_⟩
    rw [List.map_cons, List.map_cons, dtOf_eq (DR.da ok rd rfl)]
    exact .cons rd i2
end L2
set_option Elab.async false
set_option linter.all false
set_option maxRecDepth 100000
set_option maxHeartbeats 4000000
namespace L2
open PySem PySem.Calls PySem.Spec PyProof.Rows PySem.W
structure SrtOk (ds : List Dt) : Prop where
  heads : Heads ds
  cmp : ∀ d ∈ ds, ∀ e ∈ ds, Dt.cmp d e = true
  deep : Dt.deeps ds ≤ 100
  few : ds.length ≤ 1000
section
variable {X : Cx}
def rSortDt : List V → Hp → VK → Prop := fun xs H Q => ∃ (l : Addr) (vs : List V) (ds : List Dt), xs = [.ref l] ∧ H l = some (.lst vs) ∧ DRs H ds vs ∧ SrtOk ds ∧
  ∀ (l' : Addr) (ws : List V), H l' = none → DRs H (sortD ds) ws → Q (.ref l') (upd H l' (.lst ws))
theorem call_sortedDt (hu : X.A.units + 150 < cLine) : CallR X (.builtin "sorted") rSortDt := by
  intro pins s σ H xs us Q I r h
  obtain ⟨l, vs, ds, rfl, hl, hd, so, q⟩ := h
  obtain ⟨u, rfl, ru⟩ := vals1 r
  cases ru
  obtain ⟨_, its, n0, rv, hlen, el⟩ := I.lstM hl
  have hlv : its.length = vs.length := rv.length.symm
  have hlp : ds.length = vs.length := hd.length
  have line : its.length ≤ sizeLine := Nat.le_of_lt (small1000 (by have := so.few; omega))
  refine Calls.call_function_entry kind_sorted plain_sorted entry_sorted (args_sorted1 _) ?_
  unfold Builtin.«sorted»
  refine wpAny_bind (m := checkCount "sorted" 1 1 _) (wpAny_pure ?_)
  have hL : s.heap.IsList l its.toArray := ⟨_, el, rfl, _, rfl⟩
  refine wpAny_bind (collect_list hL ?_ (by simpa using line))
  refine wpAny_bind (wpAny_newList ?_ (by simpa using line))
  have keep1 : ∀ b o, s.heap.get? b = some o → ((s.heap.push (seqObj "list" #[] 0)).update s.heap.objs.size (Obj.mapSeq (· ++ its.toArray))).get? b = some o := fun b o q => by
    have hlt : b < s.heap.objs.size := Heap.lt_size q
    rw [Heap.get?_update_ne _ _ _ _ (Nat.ne_of_lt hlt)]
    exact Heap.get?_push_of_some _ q
  show wpAny _ _ _ _ _ { s with heap := ((s.heap.push (seqObj "list" #[] 0)).update s.heap.objs.size (Obj.mapSeq (· ++ its.toArray))).push { cls := .type "list", data := .seq its.toArray } }
  generalize (s.heap.push (seqObj "list" #[] 0)).update s.heap.objs.size (Obj.mapSeq (· ++ its.toArray)) = h1 at keep1 ⊢
  have I1 : Inv X pins σ H { s with heap := h1 } := I.kept (t' := s.toks) keep1
  have hoL : (h1.push { cls := .type "list", data := .seq its.toArray }).get? h1.objs.size = some (seqObj "list" its.toArray 0) := Heap.get?_push_size _ rfl
  have keepT : ∀ b x, h1.IsTuple b x → (h1.push { cls := .type "list", data := .seq its.toArray }).IsTuple b x := fun b x hb => istup_kept (fun b o _ e => Heap.get?_push_of_some _ e) hb
  have hda0 : DAs h1 ds its := DRs.da I1.hok hd rv
  have hda : DAs (h1.push { cls := .type "list", data := .seq its.toArray }) ds its := hda0.kept keepT
  have hld : ds.length = vs.length := hd.length
  have hdl : its.length = ds.length := by omega
  refine wpAny_bind (wpAny_holding (wpAny_call_entry slot_list_sort ⟨_, hoL, rfl⟩ entry_list_sort (list_sort_datA (m := 100) hoL hda so.heads so.cmp so.deep (by have := so.few; omega) (by show X.A.units + 1 + 1 + 100 < cLine; omega) fun ws pw od => ⟨_, rfl, ?_⟩) (args_list_sort _)))
  have hwl : ws.length = ds.length := by rw [pw.length_eq]; exact hdl
  obtain ⟨e, he⟩ : ∃ e, (sortedHeap (h1.push { cls := .type "list", data := .seq its.toArray }) h1.objs.size its ws.toArray).get? h1.objs.size = some (seqObj "list" ws.toArray e) := sortedHeap_at hoL
  have hn1 := I1.hok.fresh (Nat.le_refl h1.objs.size)
  obtain ⟨v1, v2⟩ := pick_abs I1.hok rv hd (heads_tup so.heads) (ws := ws) fun u hu => pw.mem_iff.mp hu
  have eqd : ws.map (dtOf h1) = sortD ds := by
    rw [← od]
    refine List.map_congr_left fun u hu => ?_
    obtain ⟨d, _, rd⟩ := da_mem hda0 (pw.mem_iff.mp hu)
    rw [dtOf_eq rd, dtOf_eq (rd.kept keepT)]
  rw [eqd] at v2
  refine wpAny_pure ⟨_, rfl, ⟨.ref h1.objs.size, upd H h1.objs.size (.lst (ws.map absR)), I1.laid (t' := s.toks) (a := h1.objs.size) (o := .lst (ws.map absR)) (fun b o hb => ?_) (Nat.le_refl _) ⟨?_, _, e, v1, ?_⟩, rfl, q _ _ hn1 v2⟩⟩
  · rw [sortedHeap_old (Nat.ne_of_lt (Heap.lt_size hb)) (by rw [Heap.size_push]; exact Nat.lt_succ_of_lt (Heap.lt_size hb))]
    exact Heap.get?_push_of_some _ hb
  · rw [List.length_map, hwl]
    exact Nat.le_of_lt (small1000 so.few)
  · rw [he]
end
end L2
set_option Elab.async false
set_option linter.all false
set_option maxRecDepth 100000
set_option maxHeartbeats 4000000
namespace L2
open PySem PySem.Calls PySem.Spec PyProof.Rows PySem.W
abbrev XN := List (Dt × Addr × V)
section
variable {P : Program} {w : World} {H H' : Hp} {h : Heap} {a : Addr} {kvs : List (Dt × V)}
end
section
variable {X : Cx} {pins : List (Addr × Obj)} {σ : L2.St} {H : Hp} {s : Shared} {a b : Addr} {k : Dt} {kvs : List (Dt × V)} {v : V} {A : Around} {E : Value → Shared → Prop}
end
end L2
set_option Elab.async false
set_option linter.all false
set_option maxRecDepth 100000
set_option maxHeartbeats 4000000
namespace PySem
open Sem (wp)
section
variable {prog : Program} {w : World} {A : Around} {E : Value → Shared → Prop} {s : Shared} {d it : Addr} {es : Array DictEntry} {ep i : Nat}
end
end PySem
namespace PySem.W
open PySem
section
variable {prog : Program} {w : World} {d r : Addr} {es : Array DictEntry} {ep : Nat}
end
end PySem.W
set_option Elab.async false
set_option linter.all false
set_option maxRecDepth 100000
set_option maxHeartbeats 4000000
namespace PySem.W
open PySem PySem.Spec PySem.Calls PyProof.Rows
section
variable {prog : Program} {w : World} {A : Around} {E : Value → Shared → Prop} {K : Frag} {x D : Addr} {h : Heap} {g : Array GenState} {d : Drawn} {t : Nat} {os : OsState}
end
end PySem.W
set_option Elab.async false
set_option linter.all false
set_option maxRecDepth 100000
set_option maxHeartbeats 4000000
namespace L2
open PySem PySem.Spec PyProof.Rows
section
variable {P : Program} {w : World} {H H' : Hp} {h h' g : Heap} {a : Addr} {o : HO}
end
section
variable {X : Cx} {pins : List (Addr × Obj)} {σ : St} {H H' : Hp} {s s' : Shared} {ea C : Addr}
end
section
variable {P : Program} {w : World} {K : PySem.W.Frag} {mg : Str → Option Value} {base : Heap} {N : List Str} {qual : Str} {scope : Scope} {f : Addr} {cd : Value} {A : Around} {outer : List Env} {s : Shared} {H : Hp} {E : XK}
end
end L2
set_option Elab.async false
set_option linter.all false
set_option maxRecDepth 100000
set_option maxHeartbeats 4000000
namespace PySem.W
open PySem PySem.Spec PySem.Calls PyProof.Rows
section
variable {M : Model} {A : Around} {E : Value → Shared → Prop} {K : Frag} {x C D : Addr} {b : Bool} {h : Heap} {g : Array GenState} {d : Drawn} {t : Nat} {os : OsState}
end
end PySem.W
namespace L2
open PySem PySem.Spec PyProof.Rows
section
variable {P : Program} {w : World} {K : PySem.W.Frag} {mg : Str → Option Value} {base : Heap} {N : List Str} {qual : Str} {scope : Scope} {f : Addr} {cd : Value} {A : Around} {outer : List Env} {s : Shared} {H : Hp} {E : XK}
end
end L2
set_option Elab.async false
set_option linter.all false
set_option maxRecDepth 100000
set_option maxHeartbeats 4000000
namespace L2
open PySem PySem.Spec PyProof.Rows
abbrev HR := Ends → Addr → St → Hp → Prop
section
variable {X : Cx} {pins : List (Addr × Obj)} {σ : St} {H H' : Hp} {s s' : Shared} {ea C : Addr}
end
section
variable {X : Cx} {x n : Str} {np pos : Pos} {i : Nat} {b0 : Stmt} {suite : List Stmt} {rest : List ExceptHandler} {ts : TS} {r : HR} {Da : Addr}
end
end L2
set_option Elab.async false
set_option linter.all false
set_option maxRecDepth 100000
set_option maxHeartbeats 4000000
namespace L2
open PySem PySem.Spec PyProof.Rows
end L2
set_option Elab.async false
set_option linter.all false
set_option maxRecDepth 100000
set_option maxHeartbeats 4000000
namespace L2
open PySem PySem.Spec PyProof.Rows
section
variable {prog : Program} {w : World} {A : Around} {E : Value → Shared → Prop} {s : Shared}
end
section
variable {prog : Program} {w : World} {A : Around} {E : Value → Shared → Prop} {s : Shared} {R : Result → Shared → Prop}
end
end L2
set_option Elab.async false
set_option linter.all false
set_option maxRecDepth 100000
set_option maxHeartbeats 4000000
namespace L2
open PySem PySem.Spec PyProof.Rows
section
variable {prog : Program} {w : World} {A : Around} {E : Value → Shared → Prop} {s : Shared}
end
end L2
set_option Elab.async false
set_option linter.all false
set_option maxRecDepth 100000
set_option maxHeartbeats 4000000
namespace L2
open PySem PySem.Spec PyProof.Rows
section
variable {prog : Program} {w : World} {A : Around} {E : Value → Shared → Prop} {s : Shared}
end
def ov (H N : Hp) : Hp := fun a => (N a).or (H a)
end L2
set_option Elab.async false
set_option linter.all false
set_option maxRecDepth 100000
set_option maxHeartbeats 4000000
namespace L2
open PySem PySem.Spec PyProof.Rows
end L2
set_option Elab.async false
set_option linter.all false
set_option maxRecDepth 100000
set_option maxHeartbeats 4000000
namespace L2
open PySem PySem.Spec PyProof.Rows
end L2
set_option Elab.async false
set_option linter.all false
set_option maxRecDepth 100000
set_option maxHeartbeats 4000000
namespace L2
open PySem PySem.Calls PySem.Spec PyProof.Rows PySem.W
section
variable {X : Cx} {o i e f value : Expr} {pos pos' tpos apos cpos : Pos} {td ty tv tx : TE}
end
end L2
set_option Elab.async false
set_option linter.all false
set_option maxRecDepth 100000
set_option maxHeartbeats 4000000
namespace L2
open PySem PySem.Spec PyProof.Rows
end L2
namespace PyProof.Rows
open PySem PySem.Calls
end PyProof.Rows
namespace L2
open PySem PySem.Calls PySem.Spec PyProof.Rows PySem.W
section
variable {X : Cx}
end
end L2
set_option Elab.async false
set_option linter.all false
set_option maxRecDepth 100000
set_option maxHeartbeats 4000000
namespace L2
open PySem PySem.Calls PySem.Spec PyProof.Rows PySem.W
section
variable {prog : Program} {w : World} {A : Around} {E : Value → Shared → Prop} {s : Shared}
def rgO (b : Int) (t u v : Tok) : Obj := { cls := .type "range", data := .fields #[.int 0 t, .int b u, .int 1 v] }
def rgI (x left step : Int) : Obj := { cls := .type "range_iterator", data := .fields #[rawInt x, rawInt left, rawInt step] }
theorem rg_size {b : Int} (h0 : 0 ≤ b) : Builtin.Range.rangeSize 0 b 1 = b := by
  unfold Builtin.Range.rangeSize
  rw [if_pos (by decide)]
  split <;> omega
theorem rg_small {b : Int} (h0 : 0 ≤ b) (h1 : b < 1000) : (Builtin.Range.rangeFitsLong 0 && Builtin.Range.rangeFitsLong b && Builtin.Range.rangeFitsLong 1 && Builtin.Range.rangeFitsLong (-1) && Builtin.Range.rangeFitsLong (0 - 1) && Builtin.Range.rangeFitsLong b) = true := by
  simp only [Builtin.Range.rangeFitsLong, Bool.and_eq_true, decide_eq_true_eq]
  omega
theorem call_rng_rev {r : Addr} {b : Int} {t u v : Tok} {Q : Value → Shared → Prop} (hr : s.heap.get? r = some (rgO b t u v)) (h0 : 0 ≤ b) (h1 : b < 1000)
    (h : Q (.ref s.heap.objs.size) { s with heap := s.heap.push (rgI (b - 1) b (-1)) }) : wpAny (model prog w) A (call (.builtin "range.__reversed__") [.ref r]) Q E s := by
  refine wpAny_call_entry F.slot_range_reversed ⟨_, hr, rfl⟩ F.entry_range_reversed ?_ (F.args_range_reversed_1 _)
  unfold Builtin.«range.__reversed__»
  refine wpAny_bind (wpAny_of_eq (a := Value.ref r) rfl ?_)
  unfold Builtin.Range.rangeFields
  refine wpAny_bind ?_
  refine wpAny_bind (wpAny_field hr rfl (x := .int 0 t) rfl ?_)
  refine wpAny_bind (wpAny_pure ?_)
  refine wpAny_bind (wpAny_field hr rfl (x := .int b u) rfl ?_)
  refine wpAny_bind (wpAny_pure ?_)
  refine wpAny_bind (wpAny_field hr rfl (x := .int 1 v) rfl ?_)
  refine wpAny_bind (wpAny_pure ?_)
  refine wpAny_pure ?_
  dsimp only
  rw [rg_size h0, rg_small h0 h1]
  rw [if_neg (by decide), if_pos rfl, show (0 : Int) + (b - 1) * 1 = b - 1 by omega]
  exact wpAny_bind (wpAny_newObj_type (wpAny_pure ⟨_, rfl, h⟩))
theorem sub_rgi_rev : isSubtype (.type "range_iterator") (.type "reversed") = pure false := by rw [isSubtype_type]; kernel_rfl
theorem code_rev_rng {r : Addr} {b : Int} {t u v : Tok} {Q₁ : Value → Shared → Prop} (hr : s.heap.get? r = some (rgO b t u v)) (h0 : 0 ≤ b) (h1 : b < 1000)
    (h : Q₁ (.ref s.heap.objs.size) { s with heap := s.heap.push (rgI (b - 1) b (-1)) }) :
    codeAny (model prog w) A (.call (.builtin "reversed.__new__") ⟨[.type "reversed", .ref r], []⟩) (wants Q₁ E) s := by
  refine codeAny_of_tree ?_
  show wpAny _ A.in1 (do checkBuiltinCall "reversed.__new__" ⟨[.type "reversed", .ref r], []⟩; again (.builtin "reversed.__new__" ⟨[.type "reversed", .ref r], []⟩)) _ _ s
  refine wpAny_bind (wpAny_of_eq (F.newCall_reversed_1 _) (wpAny_pure ⟨plainId_quiet F.plain_reversed_new _, codeAny_builtin F.entry_reversed_new ?_⟩))
  rw [Around.under_plainId F.plain_reversed_new _]; unfold Builtin.«reversed.__new__»
  refine wpAny_bind (wpAny_of_eq (newClass_reversed _) ?_); try dsimp only
  refine wpAny_bind (wpAny_of_eq (a := ()) (by first | rfl | kernel_rfl) (wpAny_bind (wpAny_of_eq (a := ()) (by first | rfl | kernel_rfl) ?_))); try dsimp only
  refine wpAny_bind (wpAny_specialOf (T := "range") ⟨_, hr, rfl⟩ F.slot_range_reversed.lookup ?_); try dsimp only
  refine wpAny_bind (wpAny_of_eq (F.slot_range_reversed.bind _) ?_); try dsimp only
  first
  | rw [if_neg (show ¬ ((Value.builtin "range.__reversed__" == Value.none) = true) from Bool.false_ne_true)]
  | (show wpAny _ _ (if (Value.builtin "range.__reversed__" == Value.none) = true then _ else _) _ _ _; rw [if_neg (show ¬ ((Value.builtin "range.__reversed__" == Value.none) = true) from Bool.false_ne_true)])
  refine wpAny_bind (wpAny_rule (wpAny_bind (m := runValue (.call (.builtin "range.__reversed__") ⟨[.ref r], []⟩)) (show wpAny _ _ (call (.builtin "range.__reversed__") [.ref r]) _ _ _ from call_rng_rev hr h0 h1 ?_)))
  first
  | exact wpAny_pure h
  | exact wpAny_bind (wpAny_pure (wpAny_pure h))
theorem call_rev_rng {r : Addr} {b : Int} {t u v : Tok} {Q : Value → Shared → Prop} (hr : s.heap.get? r = some (rgO b t u v)) (h0 : 0 ≤ b) (h1 : b < 1000)
    (h : Q (.ref s.heap.objs.size) { s with heap := s.heap.push (rgI (b - 1) b (-1)) }) : wpAny (model prog w) A (call (.type "reversed") [.ref r]) Q E s := by
  refine callType_other (U := "range_iterator") (Q₁ := fun obj s₁ => obj = .ref s.heap.objs.size ∧ s₁ = { s with heap := s.heap.push (rgI (b - 1) b (-1)) }) (by decide +kernel) F.create_reversed ⟨_, _, F.mro_reversed⟩ F.made_reversed sub_rgi_rev (F.typeCall_reversed_1 _) (code_rev_rng hr h0 h1 ⟨rfl, rfl⟩) ?_
  rintro obj s₁ ⟨rfl, rfl⟩
  exact ⟨⟨_, Heap.get?_push_size _ rfl, rfl⟩, h⟩
end
def ItrD (n : Nat) : It := ⟨fun i _ => i < n, fun i H x H' => H' = H ∧ x = .int ((n : Int) - 1 - (i : Int)), fun i _ => n ≤ i⟩
theorem turn_rangeD {P : Program} {w : World} {K : PySem.W.Frag} {tg : Expr} (it : Addr) (n : Nat) : Turn P w K tg (ItrD n) [it] it (fun i h => IsRangeIter h it (((n : Int) - 1) + (i : Nat) * (-1)) ((n : Int) - (i : Nat)) (-1)) where
  mem := by simp
  obj := fun i h st b hb => by
    have e : b = it := by simpa using hb
    subst e
    exact ⟨_, st, fun v z => by have z' : Data.fields _ = Data.cell v := z; cases z'⟩
  keep := fun i h h' st k => k it (by simp) _ st
  item := by
    intro X hP hw hK hc i pins s σ H E I hf st hg
    subst hP hw hK
    obtain ⟨f0, f1, f2, f3, f4, f5⟩ := hf it (by simp)
    refine (Walks.range (prog := X.prog) (w := X.w) (I.ok.hd hc) it ((n : Int) - 1) (-1) n).item i s _ _ hg st fun v h' tk hv st' kk => ?_
    obtain ⟨t, rfl⟩ := hv
    have I1 : Inv X pins σ H { s with heap := h', toks := tk } := I.turned (fun b o hb e => kk b o (by simpa using hb) e) f0 f1 f3 f4 f5
    refine ⟨_, rfl, go_of (s := { s with heap := h', toks := tk }) (n := "range_iterator") st' rfl rfl (by decide) ⟨.int ((n : Int) - 1 - (i : Int)), H, I1, ⟨t, by congr 1; omega⟩, ⟨rfl, rfl⟩, st', fun b hb => (hf b hb).1⟩⟩
  done := by
    intro X hP hw hK hc i pins s σ H E I hf st hg
    subst hP hw hK
    obtain ⟨f0, f1, f2, f3, f4, f5⟩ := hf it (by simp)
    exact wpAny_pyNext_range_end (I.ok.hd hc) st (by have : n ≤ i := hg; omega) fun h' eb => ⟨rfl, I.turned (t' := s.toks) (fun b o hb e => eb b o hb e) f0 f1 f3 f4 f5⟩
  self := fun _ _ _ _ _ st h => wpAny_pyIter_rangeiter st h
def iRngD (ta : TA) : TI := fun σ H R => ta σ H fun vs H1 => ∃ j : Int, vs = [.int j] ∧ 0 ≤ j ∧ j < 1000 ∧ R (ItrD j.toNat) H1
theorem pi_revR {X : Cx} {tg a : Expr} {ta : TA} {p p2 pos pos2 : Pos} (hg : Gl X "reversed") (hm : X.mg "reversed" = none) (hg2 : Gl X "range") (hm2 : X.mg "range" = none) (ha : PA X [a] ta) (hs : starEach [a] X.env = [(false, eval a X.env)] := by rfl)
    (hs3 : starEach [Expr.Call (.Name "range" p2) [a] [] pos2] X.env = [(false, eval (Expr.Call (.Name "range" p2) [a] [] pos2) X.env)] := by rfl) :
    PI X tg (.Call (.Name "reversed" p) [.Call (.Name "range" p2) [a] [] pos2] [] pos) (iRngD ta) := by
  intro pins s σ H R I h
  refine Call_ (ld_blt I hg hm boot_reversed (PyProof.Rows.callWith_type1 ?_ hs3 rfl))
  rw [hs3]
  show wpAny _ _ (spliced [(false, eval (Expr.Call (.Name "range" p2) [a] [] pos2) X.env)]) _ _ s
  refine Calls.spliced_cons ?_
  refine Call_ (ld_blt I hg2 hm2 boot_range (PyProof.Rows.callWith_type1 (thn (ha pos2 pins s σ H _ I h) fun us s1 ⟨vs, H1, I1, r1, q1⟩ => ?_) hs rfl))
  obtain ⟨j, e, j0, j1, q⟩ := q1
  subst e
  obtain ⟨u, rfl, ru⟩ := vals1 r1
  obtain ⟨t, rfl⟩ := ru
  refine call_range_1 ?_
  refine Calls.spliced_nil ?_
  refine call_rev_rng (Heap.get?_push_size _ rfl) j0 j1 ?_
  have I2 : Inv X pins σ H1 { s1 with heap := s1.heap.push { cls := .type "range", data := .fields #[.int 0 s1.toks, .int j t, .int 1 (s1.toks + 1)] }, toks := s1.toks + 1 + 1 } := I1.kept (t' := s1.toks + 1 + 1) fun b o e => Heap.get?_push_of_some _ e
  refine wpAny_pyIter_rangeiter (Heap.get?_push_size _ rfl) ?_
  refine ⟨_, [(s1.heap.push { cls := .type "range", data := .fields #[.int 0 s1.toks, .int j t, .int 1 (s1.toks + 1)] }).objs.size], _, _, H1, rfl, I2.kept (t' := s1.toks + 1 + 1) fun b o e => Heap.get?_push_of_some _ e, turn_rangeD _ j.toNat, ?_, fun b hb => ?_, q⟩
  · have e1 : ((j.toNat : Nat) : Int) - 1 + ((0 : Nat) : Int) * (-1) = j - 1 := by omega
    have e2 : ((j.toNat : Nat) : Int) - ((0 : Nat) : Int) = j := by omega
    show IsRangeIter _ _ (((j.toNat : Nat) : Int) - 1 + ((0 : Nat) : Int) * (-1)) (((j.toNat : Nat) : Int) - ((0 : Nat) : Int)) (-1)
    rw [e1, e2]
    exact Heap.get?_push_size _ rfl
  · have e := List.mem_singleton.mp hb
    subst e
    exact I2.fpOk (Nat.le_refl _) (I2.hok.fresh (Nat.le_refl _))
theorem for_rangeD {n : Nat} {g : TG} {tb : TS} {D : Ends} {σ : L2.St} {H : Hp} (Pv : Nat → L2.St → Hp → Prop) (h0 : Pv 0 σ H)
    (hs : ∀ i σ H, i < n → Pv i σ H → g (.int ((n : Int) - 1 - (i : Int))) σ H fun σ2 H2 => tb { D with nx := Pv (i + 1), ct := Pv (i + 1), bk := D.nx } σ2 H2) (hd : ∀ σ H, Pv n σ H → D.nx σ H) :
    ∃ W : Nat → Nat → L2.St → Hp → Prop, (∃ m, W 0 m σ H) ∧ ∀ i m σ H, W i m σ H →
      ((ItrD n).stop i H ∧ D.nx σ H) ∨ ((ItrD n).go i H ∧ ∃ N : L2.St → Hp → Prop, (∀ σ' H', N σ' H' → ∃ m', m' < m ∧ W (i + 1) m' σ' H') ∧ ∀ x H', (ItrD n).yld i H x H' → g x σ H' fun σ2 H2 => tb { D with nx := N, ct := N, bk := D.nx } σ2 H2) := by
  refine ⟨fun i m σ H => m = n - i ∧ i ≤ n ∧ Pv i σ H, ⟨n, by simp, Nat.zero_le _, h0⟩, ?_⟩
  rintro i m σ H ⟨rfl, hi, p⟩
  by_cases c : i < n
  · refine .inr ⟨c, Pv (i + 1), fun σ' H' h => ⟨n - (i + 1), by omega, rfl, by omega, h⟩, ?_⟩
    rintro x H' ⟨rfl, rfl⟩
    exact hs i σ _ c p
  · have e : i = n := by omega
    subst e
    exact .inl ⟨Nat.le_refl _, hd σ H p⟩
end L2
set_option Elab.async false
set_option linter.all false
set_option maxRecDepth 100000
set_option maxHeartbeats 4000000
namespace L2
open PySem
def signsV : List V := [.str "num", .str "name", .str "ask", .str "stop", .str "gap"]
def LeafSigns (K : PySem.W.Frag) (lv : Addr) : Prop := ∃ (o : Obj) (its : Array Value) (n : Nat), K.lookup lv = some o ∧ o.cls = .type "tuple" ∧ o.data = .seq its n ∧ its.size ≤ sizeLine ∧ Vals signsV its.toList
theorem in_signs (k : Kd) : inV (.str k.s) signsV = k.leaf := by cases k <;> decide +kernel
theorem head_pos (t : Tr) : 1 ≤ t.head := by cases t <;> simp [Tr.head]
theorem mem_size : ∀ {ts : List Tr} {t : Tr}, t ∈ ts → t.size ≤ (ts.map Tr.size).sum
  | a :: ts, t, h => by
    rw [List.map_cons, List.sum_cons]
    rcases List.mem_cons.mp h with rfl | h
    · omega
    · have := mem_size h
      omega
theorem parts_size (t : Tr) : (t.parts.map Tr.size).sum + 1 = t.size := by
  cases t <;> simp [Tr.parts, Tr.size] <;> omega
theorem part_size {t p : Tr} (h : p ∈ t.parts) : p.size + 1 ≤ t.size := by
  have := mem_size h
  have := parts_size t
  omega
theorem size_pos20 (t : Tr) : 1 ≤ t.size := by cases t <;> simp [Tr.size]
def szT (ts : List Tr) : Nat := (ts.map Tr.size).sum
theorem szT_app (a b : List Tr) : szT (a ++ b) = szT a + szT b := by simp [szT]
theorem szT_cons (a : Tr) (b : List Tr) : szT (a :: b) = a.size + szT b := by simp [szT]
theorem szT_nil : szT [] = 0 := rfl
theorem szT_len : ∀ ts : List Tr, ts.length ≤ szT ts
  | [] => Nat.le_refl _
  | t :: ts => by
    rw [szT_cons, List.length_cons]
    have := szT_len ts
    have := size_pos20 t
    omega
theorem szT_take (L : List Tr) (i : Nat) : szT (L.take i) ≤ szT L := by
  have e : szT L = szT (L.take i) + szT (L.drop i) := by rw [← szT_app, List.take_append_drop]
  omega
theorem szT_parts (t : Tr) : szT t.parts + 1 = t.size := parts_size t
theorem szT_level : ∀ L : List Tr, szT (L.flatMap Tr.parts) + L.length = szT L
  | [] => rfl
  | t :: L => by
    have ih := szT_level L
    have := szT_parts t
    rw [List.flatMap_cons, szT_app, szT_cons, List.length_cons]
    omega
abbrev PlT := List Int × Tr
def kidsP (x : PlT) : List PlT := x.2.parts.zipIdx.map fun q => (x.1 ++ [(q.2 : Int)], q.1)
def psub : List Int → Tr → List PlT
  | pl, .say a => (pl, .say a) :: psub (pl ++ [0]) a
  | pl, .bin o a b => (pl, .bin o a b) :: (psub (pl ++ [0]) a ++ psub (pl ++ [1]) b)
  | pl, .ite a b c => (pl, .ite a b c) :: (psub (pl ++ [0]) a ++ (psub (pl ++ [1]) b ++ psub (pl ++ [2]) c))
  | pl, .lett x a b => (pl, .lett x a b) :: (psub (pl ++ [0]) a ++ psub (pl ++ [1]) b)
  | pl, .num n => [(pl, .num n)]
  | pl, .name n => [(pl, .name n)]
  | pl, .ask n => [(pl, .ask n)]
  | pl, .stop n => [(pl, .stop n)]
  | pl, .gap n as => [(pl, .gap n as)]
theorem psub_eq (pl : List Int) (t : Tr) : psub pl t = (pl, t) :: (kidsP (pl, t)).flatMap fun x => psub x.1 x.2 := by
  cases t <;> simp [psub, kidsP, Tr.parts, List.zipIdx]
theorem psub_len : ∀ (t : Tr) (pl : List Int), (psub pl t).length = t.size
  | .say a, pl => by simp [psub, Tr.size, psub_len a]
  | .bin o a b, pl => by simp [psub, Tr.size, psub_len a, psub_len b]
  | .ite a b c, pl => by simp [psub, Tr.size, psub_len a, psub_len b, psub_len c]; omega
  | .lett x a b, pl => by simp [psub, Tr.size, psub_len a, psub_len b]
  | .num _, _ => rfl
  | .name _, _ => rfl
  | .ask _, _ => rfl
  | .stop _, _ => rfl
  | .gap _ _, _ => rfl
theorem psub_pre : ∀ (t : Tr) (pl : List Int), ∀ p ∈ (psub pl t).map (·.1), ∃ r, p = pl ++ r := by
  have one : ∀ {pl p : List Int} {i : Int}, (∃ r, p = pl ++ [i] ++ r) → ∃ r, p = pl ++ r := fun {pl p i} h => by
    obtain ⟨r, e⟩ := h
    exact ⟨[i] ++ r, by rw [e, List.append_assoc]⟩
  intro t
  induction t with
  | say a ih =>
    intro pl p hp
    simp only [psub, List.map_cons] at hp
    rcases List.mem_cons.mp hp with rfl | hp
    · exact ⟨[], by simp⟩
    · exact one (ih _ p hp)
  | bin o a b iha ihb =>
    intro pl p hp
    simp only [psub, List.map_cons, List.map_append] at hp
    rcases List.mem_cons.mp hp with rfl | hp
    · exact ⟨[], by simp⟩
    · rcases List.mem_append.mp hp with hp | hp
      · exact one (iha _ p hp)
      · exact one (ihb _ p hp)
  | ite a b c iha ihb ihc =>
    intro pl p hp
    simp only [psub, List.map_cons, List.map_append] at hp
    rcases List.mem_cons.mp hp with rfl | hp
    · exact ⟨[], by simp⟩
    · rcases List.mem_append.mp hp with hp | hp
      · exact one (iha _ p hp)
      · rcases List.mem_append.mp hp with hp | hp
        · exact one (ihb _ p hp)
        · exact one (ihc _ p hp)
  | lett x a b iha ihb =>
    intro pl p hp
    simp only [psub, List.map_cons, List.map_append] at hp
    rcases List.mem_cons.mp hp with rfl | hp
    · exact ⟨[], by simp⟩
    · rcases List.mem_append.mp hp with hp | hp
      · exact one (iha _ p hp)
      · exact one (ihb _ p hp)
  | _ =>
    intro pl p hp
    simp [psub] at hp
    exact ⟨[], by simp [hp]⟩
theorem psub_far {t u : Tr} {pl : List Int} {i j : Int} (ne : i ≠ j) : ∀ p ∈ (psub (pl ++ [i]) t).map (·.1), ∀ q ∈ (psub (pl ++ [j]) u).map (·.1), p ≠ q := fun p hp q hq e => by
  obtain ⟨r, rfl⟩ := psub_pre t _ p hp
  obtain ⟨r', e'⟩ := psub_pre u _ q hq
  rw [e'] at e
  rw [List.append_assoc, List.append_assoc] at e
  have := List.append_cancel_left e
  simp at this
  exact ne this.1
theorem psub_own {t : Tr} {pl : List Int} {i : Int} : pl ∉ (psub (pl ++ [i]) t).map (·.1) := fun h => by
  obtain ⟨r, e⟩ := psub_pre t _ _ h
  have := congrArg List.length e
  simp at this
theorem psub_nd : ∀ (t : Tr) (pl : List Int), ((psub pl t).map (·.1)).Nodup
  | .say a, pl => by
    simp only [psub, List.map_cons, List.nodup_cons]
    exact ⟨psub_own, psub_nd a _⟩
  | .bin o a b, pl => by
    simp only [psub, List.map_cons, List.nodup_cons, List.map_append, List.nodup_append, List.mem_append, not_or]
    exact ⟨⟨psub_own, psub_own⟩, psub_nd a _, psub_nd b _, psub_far (by decide)⟩
  | .lett x a b, pl => by
    simp only [psub, List.map_cons, List.nodup_cons, List.map_append, List.nodup_append, List.mem_append, not_or]
    exact ⟨⟨psub_own, psub_own⟩, psub_nd a _, psub_nd b _, psub_far (by decide)⟩
  | .ite a b c, pl => by
    simp only [psub, List.map_cons, List.nodup_cons, List.map_append, List.nodup_append, List.mem_append, not_or]
    refine ⟨⟨psub_own, psub_own, psub_own⟩, psub_nd a _, ⟨psub_nd b _, psub_nd c _, psub_far (by decide)⟩, fun p hp q hq => ?_⟩
    rcases hq with hq | hq
    · exact psub_far (by decide) p hp q hq
    · exact psub_far (by decide) p hp q hq
  | .num _, _ => by simp [psub]
  | .name _, _ => by simp [psub]
  | .ask _, _ => by simp [psub]
  | .stop _, _ => by simp [psub]
  | .gap _ _, _ => by simp [psub]
def allP (L : List PlT) : List PlT := L.flatMap fun x => psub x.1 x.2
theorem allP_level : ∀ L : List PlT, (allP L).Perm (L ++ allP (L.flatMap kidsP))
  | [] => .nil
  | x :: L => by
    have ih := allP_level L
    unfold allP at ih ⊢
    rw [List.flatMap_cons, psub_eq, List.flatMap_cons, List.flatMap_append, List.cons_append, List.cons_append]
    refine List.Perm.cons _ ?_
    refine (ih.append_left _).trans ?_
    rw [← List.append_assoc, ← List.append_assoc]
    exact List.Perm.append_right _ List.perm_append_comm
theorem kidsP_get {pl : List Int} {t : Tr} {j : Nat} {c : Tr} (h : t.parts[j]? = some c) : (kidsP (pl, t))[j]? = some (pl ++ [(j : Int)], c) := by
  unfold kidsP
  rw [List.getElem?_map, List.getElem?_zipIdx]
  simp [h]
theorem kidsP_len (pl : List Int) (t : Tr) : (kidsP (pl, t)).length = t.parts.length := by simp [kidsP]
def szP (L : List PlT) : Nat := szT (L.map (·.2))
theorem kidsP_snd (x : PlT) : (kidsP x).map (·.2) = x.2.parts := by
  unfold kidsP
  rw [List.map_map]
  have : ((fun x : PlT => x.2) ∘ fun q : Tr × Nat => (x.1 ++ [(q.2 : Int)], q.1)) = Prod.fst := rfl
  rw [this, List.zipIdx_map_fst]
theorem szP_level (L : List PlT) : szP (L.flatMap kidsP) + L.length = szP L := by
  have := szT_level (L.map (·.2))
  unfold szP
  rw [List.map_flatMap]
  have e : (L.flatMap fun x => (kidsP x).map (·.2)) = (L.map (·.2)).flatMap Tr.parts := by
    rw [List.flatMap_map]
    congr 1
    funext x
    exact kidsP_snd x
  rw [e]
  rw [List.length_map] at this
  exact this
theorem szP_len (L : List PlT) : L.length ≤ szP L := by have := szT_len (L.map (·.2)); rw [List.length_map] at this; exact this
theorem parts_le3 (t : Tr) : t.parts.length ≤ 3 := by cases t <;> simp [Tr.parts]
theorem allP_len (L : List PlT) : (allP L).length = szP L := by
  induction L with
  | nil => rfl
  | cons x L ih =>
    unfold allP at ih ⊢
    unfold szP at ih ⊢
    rw [List.flatMap_cons, List.length_append, ih, List.map_cons, szT_cons, psub_len]
def dtA : Atom → Dt
  | .name x => .tup [.str "name", .str x]
  | .num n => .tup [.str "num", .int n]
  | .gap g => .tup [.str "gap", .str g, .tup []]
def dtT : Tr → Dt
  | .num n => .tup [.str "num", .int n]
  | .name x => .tup [.str "name", .str x]
  | .ask x => .tup [.str "ask", .str x]
  | .stop x => .tup [.str "stop", .str x]
  | .gap g as => .tup [.str "gap", .str g, .tup (as.map dtA)]
  | .say a => .tup [.str "say", dtT a]
  | .bin o a b => .tup [.str o.s, dtT a, dtT b]
  | .ite a b c => .tup [.str "if", dtT a, dtT b, dtT c]
  | .lett x a b => .tup [.str "let", .str x, dtT a, dtT b]
theorem AtRep.dr {H : Hp} : ∀ {a : Atom} {v : V}, AtRep H a v → DR H (dtA a) v
  | .name x, _, ⟨a, e, h⟩ => e ▸ .tup h (.cons (.str _) (.cons (.str _) .nil))
  | .num n, _, ⟨a, e, h⟩ => e ▸ .tup h (.cons (.str _) (.cons (.int _) .nil))
  | .gap g, _, ⟨a, b, e, h, h'⟩ => e ▸ .tup h (.cons (.str _) (.cons (.str _) (.cons (.tup h' .nil) .nil)))
theorem atoms_dr {H : Hp} : ∀ {as : List Atom} {us : List V}, Paired (AtRep H) as us → DRs H (as.map dtA) us
  | _, _, .nil => .nil
  | _, _, .cons r t => .cons r.dr (atoms_dr t)
theorem Rep.dr {H : Hp} : ∀ {t : Tr} {v : V}, Rep H t v → DR H (dtT t) v
  | .num n, _, ⟨a, e, h⟩ => e ▸ .tup h (.cons (.str _) (.cons (.int _) .nil))
  | .name n, _, ⟨a, e, h⟩ => e ▸ .tup h (.cons (.str _) (.cons (.str _) .nil))
  | .ask n, _, ⟨a, e, h⟩ => e ▸ .tup h (.cons (.str _) (.cons (.str _) .nil))
  | .stop n, _, ⟨a, e, h⟩ => e ▸ .tup h (.cons (.str _) (.cons (.str _) .nil))
  | .gap g as, _, ⟨a, b, us, e, h, h', _, p⟩ => e ▸ .tup h (.cons (.str _) (.cons (.str _) (.cons (.tup h' (atoms_dr p)) .nil)))
  | .say _, _, ⟨a, u, e, h, r⟩ => e ▸ .tup h (.cons (.str _) (.cons r.dr .nil))
  | .bin o _ _, _, ⟨a, u, w, e, h, r, s⟩ => e ▸ .tup h (.cons (.str _) (.cons r.dr (.cons s.dr .nil)))
  | .ite _ _ _, _, ⟨a, u, w, z, e, h, r, s, t⟩ => e ▸ .tup h (.cons (.str _) (.cons r.dr (.cons s.dr (.cons t.dr .nil))))
  | .lett x _ _, _, ⟨a, u, w, e, h, r, s⟩ => e ▸ .tup h (.cons (.str _) (.cons (.str _) (.cons r.dr (.cons s.dr .nil))))
theorem dtA_deeps : ∀ as : List Atom, Dt.deeps (as.map dtA) ≤ 2
  | [] => by simp [Dt.deeps]
  | a :: as => by
    have := dtA_deeps as
    cases a <;> simp [Dt.deeps, dtA, Dt.deep] <;> omega
theorem lexB_pre : ∀ (pl : List Int) (i : Int) (r : List Int), lexB pl (pl ++ i :: r) = true
  | [], _, _ => rfl
  | a :: pl, i, r => by rw [List.cons_append, lexB, if_pos rfl]; exact lexB_pre pl i r
theorem lexB_fork : ∀ (pl : List Int) {i j : Int} (r r' : List Int), i < j → lexB (pl ++ i :: r) (pl ++ j :: r') = true
  | [], i, j, r, r', h => by
    rw [List.nil_append, List.nil_append, lexB, if_neg (by omega)]
    exact decide_eq_true h
  | a :: pl, i, j, r, r', h => by rw [List.cons_append, List.cons_append, lexB, if_pos rfl]; exact lexB_fork pl r r' h
theorem asc_own {t : Tr} {pl : List Int} {i : Int} : ∀ p ∈ (psub (pl ++ [i]) t).map (·.1), lexB pl p = true := fun p hp => by
  obtain ⟨r, rfl⟩ := psub_pre t _ p hp
  rw [List.append_assoc]
  exact lexB_pre pl i r
theorem asc_far {t u : Tr} {pl : List Int} {i j : Int} (h : i < j) : ∀ p ∈ (psub (pl ++ [i]) t).map (·.1), ∀ q ∈ (psub (pl ++ [j]) u).map (·.1), lexB p q = true := fun p hp q hq => by
  obtain ⟨r, rfl⟩ := psub_pre t _ p hp
  obtain ⟨r', rfl⟩ := psub_pre u _ q hq
  rw [List.append_assoc, List.append_assoc]
  exact lexB_fork pl r r' h
theorem psub_asc : ∀ (t : Tr) (pl : List Int), ((psub pl t).map (·.1)).Pairwise fun a b => lexB a b = true
  | .say a, pl => by
    simp only [psub, List.map_cons, List.pairwise_cons]
    exact ⟨asc_own, psub_asc a _⟩
  | .bin o a b, pl => by
    simp only [psub, List.map_cons, List.pairwise_cons, List.map_append, List.pairwise_append]
    exact ⟨fun p hp => (List.mem_append.mp hp).elim (asc_own p) (asc_own p), psub_asc a _, psub_asc b _, asc_far (by decide)⟩
  | .lett x a b, pl => by
    simp only [psub, List.map_cons, List.pairwise_cons, List.map_append, List.pairwise_append]
    exact ⟨fun p hp => (List.mem_append.mp hp).elim (asc_own p) (asc_own p), psub_asc a _, psub_asc b _, asc_far (by decide)⟩
  | .ite a b c, pl => by
    simp only [psub, List.map_cons, List.pairwise_cons, List.map_append, List.pairwise_append]
    refine ⟨fun p hp => (List.mem_append.mp hp).elim (asc_own p) fun hp => (List.mem_append.mp hp).elim (asc_own p) (asc_own p), psub_asc a _, ⟨psub_asc b _, psub_asc c _, asc_far (by decide)⟩, fun p hp q hq => ?_⟩
    exact (List.mem_append.mp hq).elim (asc_far (by decide) p hp q) (asc_far (by decide) p hp q)
  | .num _, _ => by simp [psub]
  | .name _, _ => by simp [psub]
  | .ask _, _ => by simp [psub]
  | .stop _, _ => by simp [psub]
  | .gap _ _, _ => by simp [psub]
def plD (ns : List Int) : Dt := .tup (ns.map .int)
def pD (x : PlT) : Dt := .tup [plD x.1, dtT x.2]
theorem plD_inj {ns ms : List Int} (h : plD ns = plD ms) : ns = ms := by
  unfold plD at h
  injection h with h
  exact List.map_inj_right (fun a b e => by injection e) |>.mp h
theorem lts_ints : ∀ ns ms : List Int, Dt.lts (ns.map .int) (ms.map .int) = lexB ns ms
  | [], [] => rfl
  | [], _ :: _ => rfl
  | _ :: _, [] => rfl
  | a :: ns, b :: ms => by
    rw [List.map_cons, List.map_cons, Dt.lts, lexB, lts_ints ns ms, beq_dec]
    by_cases c : a = b
    · subst c; simp
    · rw [if_neg (by simpa using c), if_neg c, Dt.lt]
theorem pD_lt {x y : PlT} (h : x.1 ≠ y.1) : Dt.lt (pD x) (pD y) = lexB x.1 y.1 := by
  unfold pD
  rw [Dt.lt, Dt.lts, beq_dec, if_neg (by simpa using fun e => h (plD_inj e))]
  unfold plD
  rw [Dt.lt, lts_ints]
theorem cmps_ints (ns ms : List Int) : Dt.cmps (ns.map .int) (ms.map .int) = true := by
  refine cmps_of fun d hd e he => ?_
  obtain ⟨a, _, rfl⟩ := List.mem_map.mp hd
  obtain ⟨b, _, rfl⟩ := List.mem_map.mp he
  rfl
theorem cmp_same : ∀ ds : List Dt, Dt.cmps ds ds = true
  | [] => rfl
  | d :: ds => by rw [Dt.cmps, if_pos (beq_self' d)]; exact cmp_same ds
theorem psub_deep : ∀ (t : Tr) (pl : List Int), ∀ x ∈ psub pl t, (dtT x.2).deep ≤ (dtT t).deep
  | .say a, pl, x, hx => by
    rcases List.mem_cons.mp hx with rfl | hx
    · exact Nat.le_refl _
    · have := psub_deep a _ x hx; simp [dtT, Dt.deep, Dt.deeps]; omega
  | .bin o a b, pl, x, hx => by
    rcases List.mem_cons.mp hx with rfl | hx
    · exact Nat.le_refl _
    · rcases List.mem_append.mp hx with hx | hx
      · have := psub_deep a _ x hx; simp [dtT, Dt.deep, Dt.deeps]; omega
      · have := psub_deep b _ x hx; simp [dtT, Dt.deep, Dt.deeps]; omega
  | .lett n a b, pl, x, hx => by
    rcases List.mem_cons.mp hx with rfl | hx
    · exact Nat.le_refl _
    · rcases List.mem_append.mp hx with hx | hx
      · have := psub_deep a _ x hx; simp [dtT, Dt.deep, Dt.deeps]; omega
      · have := psub_deep b _ x hx; simp [dtT, Dt.deep, Dt.deeps]; omega
  | .ite a b c, pl, x, hx => by
    rcases List.mem_cons.mp hx with rfl | hx
    · exact Nat.le_refl _
    · rcases List.mem_append.mp hx with hx | hx
      · have := psub_deep a _ x hx; simp [dtT, Dt.deep, Dt.deeps]; omega
      · rcases List.mem_append.mp hx with hx | hx
        · have := psub_deep b _ x hx; simp [dtT, Dt.deep, Dt.deeps]; omega
        · have := psub_deep c _ x hx; simp [dtT, Dt.deep, Dt.deeps]; omega
  | .num _, pl, x, hx => by simp [psub] at hx; subst hx; exact Nat.le_refl _
  | .name _, pl, x, hx => by simp [psub] at hx; subst hx; exact Nat.le_refl _
  | .ask _, pl, x, hx => by simp [psub] at hx; subst hx; exact Nat.le_refl _
  | .stop _, pl, x, hx => by simp [psub] at hx; subst hx; exact Nat.le_refl _
  | .gap _ _, pl, x, hx => by simp [psub] at hx; subst hx; exact Nat.le_refl _
theorem deeps_le : ∀ {ds : List Dt} {n : Nat}, (∀ d ∈ ds, d.deep ≤ n) → Dt.deeps ds ≤ n
  | [], _, _ => Nat.zero_le _
  | d :: ds, n, h => by
    rw [Dt.deeps]
    have := h d List.mem_cons_self
    have := deeps_le (ds := ds) fun e he => h e (List.mem_cons_of_mem _ he)
    omega
theorem plD_deep (ns : List Int) : (plD ns).deep ≤ 2 := by
  unfold plD
  rw [Dt.deep]
  have := deeps_le (ds := ns.map .int) (n := 1) fun d hd => by
    obtain ⟨a, _, rfl⟩ := List.mem_map.mp hd
    simp [Dt.deep]
  omega
theorem pD_deep (x : PlT) {n : Nat} (h : (dtT x.2).deep ≤ n) (h2 : 2 ≤ n) : (pD x).deep ≤ n + 1 := by
  have := plD_deep x.1
  unfold pD
  simp only [Dt.deep, Dt.deeps]
  omega
theorem srt_pairs {Fd : List PlT} {t : Tr} (hp : Fd.Perm (psub [] t)) (hd : (dtT t).deep ≤ 90) (hl : Fd.length ≤ 1000) : SrtOk (Fd.map pD) := by
  have nd : (Fd.map (·.1)).Nodup := (hp.map _).nodup_iff.mpr (psub_nd t [])
  refine ⟨.inr fun d hd => ?_, fun d hd e he => ?_, deeps_le fun d hm => ?_, by rw [List.length_map]; exact hl⟩
  · obtain ⟨x, _, rfl⟩ := List.mem_map.mp hd
    exact .inr ⟨_, _, rfl⟩
  · obtain ⟨x, hx, rfl⟩ := List.mem_map.mp hd
    obtain ⟨y, hy, rfl⟩ := List.mem_map.mp he
    by_cases c : x.1 = y.1
    · have e : x = y := by
        obtain ⟨i, hi, ei⟩ := List.getElem_of_mem hx
        obtain ⟨j, hj, ej⟩ := List.getElem_of_mem hy
        have e3 : (Fd.map (·.1))[i]'(by simpa using hi) = (Fd.map (·.1))[j]'(by simpa using hj) := by simp [ei, ej, c]
        have e4 := (List.getElem_inj nd).mp e3
        subst e4
        exact ei.symm.trans ej
      rw [e]
      unfold pD
      rw [Dt.cmp]
      exact cmp_same _
    · unfold pD
      rw [Dt.cmp, Dt.cmps, beq_dec, if_neg (by simpa using fun e => c (plD_inj e))]
      unfold plD
      rw [Dt.cmp]
      exact cmps_ints _ _
  · obtain ⟨x, hx, rfl⟩ := List.mem_map.mp hm
    have := psub_deep t [] x (hp.mem_iff.mp hx)
    have := pD_deep x (n := 90) (by omega) (by decide)
    omega
theorem srt_places {Fd : List PlT} {t : Tr} (hp : Fd.Perm (psub [] t)) : sortD (Fd.map pD) = (psub [] t).map pD := by
  refine (sortD_of ?_ (hp.symm.map pD)).symm
  unfold OrdD
  rw [List.pairwise_map]
  have h := psub_asc t []
  rw [List.pairwise_map] at h
  refine h.imp fun {x y} hxy => ?_
  have ne : y.1 ≠ x.1 := fun e => by rw [e, lexB_self] at hxy; cases hxy
  rw [pD_lt ne]
  exact lexB_asym hxy
theorem drs_app {H : Hp} : ∀ {a b : List Dt} {us vs : List V}, DRs H a us → DRs H b vs → DRs H (a ++ b) (us ++ vs)
  | _, _, _, _, .nil, q => q
  | _, _, _, _, .cons r p, q => .cons r (drs_app p q)
theorem drs_ints {H : Hp} : ∀ ns : List Int, DRs H (ns.map .int) (ns.map V.int)
  | [] => .nil
  | n :: ns => .cons (.int n) (drs_ints ns)
end L2
namespace K01
open PySem PySem.Spec L2 PyProof.Rows
def top (i : Nat) : Stmt := PySem.Challenge.pw_recastle_k01_parts_counted.main.body.getD i (.Pass ⟨0, 0, 0, 0⟩)
abbrev s_parts_begin : Stmt := top 2
theorem sc_parts_begin : FnScope ["tree"] ["tree"] (defScope s_parts_begin) := ⟨rfl, rfl, rfl, by decide +kernel, rfl, by decide +kernel, by decide +kernel⟩
abbrev s_parts : Stmt := top 3
theorem sc_parts : FnScope ["tree"] ["tree"] (defScope s_parts) := ⟨rfl, rfl, rfl, by decide +kernel, rfl, by decide +kernel, by decide +kernel⟩
abbrev s_all_parts : Stmt := top 5
theorem sc_all_parts : FnScope ["tree", "found", "level", "deeper", "part"] ["tree"] (defScope s_all_parts) := ⟨rfl, rfl, rfl, by decide +kernel, rfl, by decide +kernel, by decide +kernel⟩
abbrev s_placed_parts : Stmt := top 6
theorem sc_placed_parts : FnScope ["tree", "found", "level", "deeper", "place", "part", "number", "inner"] ["tree"] (defScope s_placed_parts) := ⟨rfl, rfl, rfl, by decide +kernel, rfl, by decide +kernel, by decide +kernel⟩
abbrev s_size : Stmt := top 7
theorem sc_size : FnScope ["tree"] ["tree"] (defScope s_size) := ⟨rfl, rfl, rfl, by decide +kernel, rfl, by decide +kernel, by decide +kernel⟩
abbrev s_places : Stmt := top 8
theorem sc_places : FnScope ["tree"] ["tree"] (defScope s_places) := ⟨rfl, rfl, rfl, by decide +kernel, rfl, by decide +kernel, by decide +kernel⟩
abbrev s_with_parts : Stmt := top 4
theorem sc_with_parts : FnScope ["tree", "parts"] ["tree", "parts"] (defScope s_with_parts) := ⟨rfl, rfl, rfl, by decide +kernel, rfl, by decide +kernel, by decide +kernel⟩
section
variable {P : Program} {w : World} {K : PySem.W.Frag} {mg : Str → Option Value} {base : Heap}
def begin_ (t : Tr) : Int := t.head
def sp_parts_begin : Sp := fun vs H Q _ => ∃ t v, vs = [v] ∧ Rep H t v ∧ Q (.int (begin_ t)) H
theorem ok_parts_begin {k : Nat} {f : Addr} {fd : FuncData} {lv : Addr} (F : Fun K "parts_begin" "parts_begin" s_parts_begin f fd) (z_len : mg "len" = none) (m_LEAF_SIGNS : mg "LEAF_SIGNS" = some (.ref lv)) (hL : LeafSigns K lv) :
    FnOk P w K mg base CX0 (k + 1) f fd ["tree"] sp_parts_begin := by
  refine F.ok sc_parts_begin (fun vs H Q E h => ?_) (fun cdv A outer s H vs Q E hr h => ?_)
  · obtain ⟨t, v, rfl, _⟩ := h
    rfl
  obtain ⟨t, v, rfl, hR, q⟩ := h
  refine ⟨_, (pss_cons (ps_if (pt_cmpR (r := rIn K false) op_in_seq (pe_ix (r := rIxT K) ix_tup (pv 0) pe_int (fun _ _ => rfl)) (pe_glob (v := .ref _) (by rfl) m_LEAF_SIGNS (by rfl)) rfl) (pss_one (ps_ret (pe_callB call_len_seq (by rfl) z_len PySem.boot_len (pa_cons (pv 0) pa_nil)))) pss_nil)
    (pss_cons (ps_if (pt_cmpR op_eq (pe_ix (r := rIxT K) ix_tup (pv 0) pe_int (fun _ _ => rfl)) pe_str (nomark _)) (pss_one (ps_ret pe_int)) pss_nil)
    (pss_one (ps_ret pe_int)))), ?_⟩
  obtain ⟨a, hs, us, rfl, ha, hl, hp⟩ := hR.all
  have h0 : atI (V.str t.kd.s :: hs ++ us) 0 = some (.str t.kd.s) := atI_nat (j := 0) rfl
  refine ⟨_, rfl, a, _, 0, _, rfl, rfl, SqT.of ha, h0, lv, signsV, rfl, .inr (.inr hL), rfl, rfl, _, rfl, ?_⟩
  show if inV (.str t.kd.s) signsV = true then _ else _
  rw [in_signs]
  refine ite2 (fun c => ?_) (fun c => ?_)
  · refine ⟨_, rfl, a, _, rfl, .inr (SqT.of ha), ?_⟩
    have e : ((V.str t.sign :: hs ++ us).length : Int) = begin_ t := by
      have hu : us.length = 0 := by
        rw [← hp.length]
        cases t with
        | bin o a b => cases o <;> cases c
        | _ => first | rfl | cases c
      rw [List.length_append, List.length_cons, hu]
      unfold begin_
      omega
    rw [e]
    exact q
  · refine ⟨_, rfl, a, _, 0, _, rfl, rfl, SqT.of ha, h0, rfl, _, rfl, ?_⟩
    refine ite2 (fun d => ?_) (fun d => ?_)
    · have z : t.kd = .lett := Kd.eq_iff.mp (of_decide_eq_true d)
      have e : begin_ t = 2 := by
        cases t with
        | lett x a b => rfl
        | bin o a b => cases o <;> cases z
        | _ => cases z
      rw [e] at q
      exact q
    · have e : begin_ t = 1 := by
        cases t with
        | lett x a b => exact absurd rfl d
        | bin o a b => rfl
        | ite a b c => rfl
        | say a => rfl
        | _ => exact absurd rfl c
      rw [e] at q
      exact q
def sp_parts : Sp := fun vs H Q _ => ∃ t v, vs = [v] ∧ Rep H t v ∧ ∀ p H' us, Same H H' → H' p = some (.tup us) → Paired (Rep H') t.parts us → Q (.ref p) H'
theorem ok_parts {k : Nat} {f g : Addr} {fd gd : FuncData} (F : Fun K "parts" "parts" s_parts f fd) (G_parts_begin : FnB P w K mg base k "parts_begin" g gd ["tree"] sp_parts_begin) :
    FnOk P w K mg base CX0 (k + 1) f fd ["tree"] sp_parts := by
  refine F.ok sc_parts (fun vs H Q E h => ?_) (fun cdv A outer s H vs Q E hr h => ?_)
  · obtain ⟨t, v, rfl, _⟩ := h
    rfl
  obtain ⟨t, v, rfl, hR, q⟩ := h
  refine ⟨_, (pss_one (ps_ret (pe_slice sl_tupV (pv 0) (po_some (pe_call G_parts_begin.ok hr (by rfl) G_parts_begin.gl G_parts_begin.kp G_parts_begin.bd .nil pass0 (pa_cons (pv 0) pa_nil))) po_none))), ?_⟩
  obtain ⟨a, hs, us, rfl, ha, hl, hp⟩ := hR.all
  have hn : (V.str t.sign :: hs ++ us).length = t.head + us.length := by rw [List.length_append, List.length_cons]; omega
  have h1 := head_pos t
  have e1 : HT.sIx (V.str t.sign :: hs ++ us).length 0 (some (begin_ t)) = t.head := by
    show HT.sIx _ 0 (some ((t.head : Nat) : Int)) = _
    rw [HT.sIx_nat, hn]
    omega
  have e2 : cutV (V.str t.sign :: hs ++ us) (some (begin_ t)) none = us := by
    unfold cutV
    rw [e1, HT.sIx_none, hn]
    have : (V.str t.sign :: hs ++ us).drop t.head = us := by
      rw [← hl]
      exact List.drop_left' rfl
    rw [this, List.take_of_length_le (by omega)]
  refine ⟨_, rfl, _, rfl, t, _, rfl, hR, _, rfl, a, _, rfl, ha, fun z => ?_, fun p H' g e => ?_⟩
  · rw [e1] at z
    omega
  · rw [e2] at e
    exact q p H' us g e (Paired.mapP hp fun _ _ r => r.mono g.tk)
def sp_all : Sp := fun vs H Q _ => ∃ (t : Tr) (v : V), vs = [v] ∧ Rep H t v ∧ t.size ≤ 400 ∧ ∀ (l : Addr) (us : List V) (F : List Tr) (H' : Hp), Same H H' → H' l = some (.lst us) → Paired (Rep H') F us → us.length = t.size → Q (.ref l) H'
theorem ok_all {k : Nat} {f g1 : Addr} {fd gd1 : FuncData} (F : Fun K "all_parts" "all_parts" s_all_parts f fd) (G_parts : FnB P w K mg base k "parts" g1 gd1 ["tree"] sp_parts) : FnOk P w K mg base CX0 (k + 1) f fd ["tree"] sp_all := by
  refine F.ok sc_all_parts (fun vs H Q E h => ?_) (fun cdv A outer s H vs Q E hr h => ?_)
  · obtain ⟨t, v, rfl, _⟩ := h
    rfl
  obtain ⟨t, v, rfl, hR, hsz, q⟩ := h
  refine ⟨_, (pss_cons (ps_set (i := 1) sc_all_parts.nd rfl (Or.inl rfl) (pe_lst pa_nil : PE _ _ _))
    (pss_cons (ps_set (i := 2) sc_all_parts.nd rfl (Or.inl rfl) (pe_lst (pa_cons (pv 0) pa_nil) : PE _ _ _))
    (pss_cons (ps_while PassesOwn.never (pt_truth (pv 2) (fun _ => rfl)) (pss_cons (ps_expr (pe_bm PySem.F.plainAttrs_list PySem.F.slot_list_extend PySem.F.type_list_extend mt_extend (pv 1) (pa_cons (pv 2) pa_nil)))
    (pss_cons (ps_set (i := 3) sc_all_parts.nd rfl (Or.inl rfl) (pe_lst pa_nil : PE _ _ _))
    (pss_cons (ps_for PassesOwn.never rfl (pi_list (pv 2)) (pg_name (i := 4) sc_all_parts.nd rfl (Or.inl rfl)) (pss_one (ps_expr (pe_bm PySem.F.plainAttrs_list PySem.F.slot_list_extend PySem.F.type_list_extend mt_extendT (pv 3) (pa_cons (pe_call G_parts.ok hr (by rfl) G_parts.gl G_parts.kp G_parts.bd .nil pass0 (pa_cons (pv 4) pa_nil)) pa_nil)))))
    (pss_one (ps_set (i := 2) sc_all_parts.nd rfl (Or.inl rfl) (pv 3)))))))
    (pss_one (ps_ret (pv 1)))))), ?_⟩
  refine ⟨(by show 0 ≤ sizeLine; decide), fun fo hfo => ⟨_, rfl, (by show 1 ≤ sizeLine; decide), fun l hl => ?_⟩⟩
  have g1 := same_upd (o := .lst []) hfo
  have g2 := same_upd (o := .lst [v]) hl
  refine ⟨fun m σ' H' => ∃ (l : Addr) (ls fs : List V) (L Fd : List Tr) (s3 s4 : Option V), σ' = [some v, some (.ref fo), some (.ref l), s3, s4] ∧ Same H H' ∧ H l = none ∧ l ≠ fo ∧ H' fo = some (.lst fs) ∧ H' l = some (.lst ls) ∧
      Paired (Rep H') Fd fs ∧ Paired (Rep H') L ls ∧ m = szT L ∧ Fd.length + szT L = t.size,
    ⟨t.size, l, [v], [], [t], [], none, none, rfl, g1.trans g2, g1.free hl, Ne.symm (ne_of_none (upd_same (H := H) (a := fo) (o := .lst [])) hl), g2 _ _ upd_same, upd_same, .nil, .cons (hR.mono (g1.trans g2).tk) .nil, by simp [szT], by simp [szT]⟩, ?_⟩
  rintro m σ' Hw ⟨l, ls, fs, L, Fd, s3, s4, rfl, gw, hl, hlf, ef, el, pF, pL, rfl, hcnt⟩
  have lL : ls.length = L.length := paired_len pL
  have lF : fs.length = Fd.length := paired_len pF
  have hZ := szT_level L
  refine ⟨_, rfl, _, .inl ⟨ls, SqL.of el, rfl⟩, ?_⟩
  refine ite2 (fun c => ?_) (fun c => ?_)
  · refine ⟨_, fun _ _ h => h, ?_⟩
    refine ⟨_, rfl, .inl ⟨rfl, _, SqL.of ef⟩, _, rfl, fo, l, fs, ls, rfl, rfl, ef, el, line1000 (by omega), ?_⟩
    have ef1 : (upd Hw fo (.lst (fs ++ ls))) fo = some (.lst (fs ++ ls)) := upd_same
    have el1 : (upd Hw fo (.lst (fs ++ ls))) l = some (.lst ls) := by rw [upd_ne hlf]; exact el
    have gw1 : Same H (upd Hw fo (.lst (fs ++ ls))) := same_set gw hfo
    have tk1 : Tk Hw (upd Hw fo (.lst (fs ++ ls))) := Tk.lst ef
    show tSeq _ _ _ _ (upd Hw fo (.lst (fs ++ ls)))
    generalize upd Hw fo (.lst (fs ++ ls)) = H1 at ef1 el1 gw1 tk1 ⊢
    refine ⟨(by show 0 ≤ sizeLine; decide), fun dp hdp => ?_⟩
    have g4 := same_upd (o := .lst []) hdp
    have hdpH : H dp = none := gw1.free hdp
    have ndf : dp ≠ fo := Ne.symm (ne_of_none ef1 hdp)
    have ndl : dp ≠ l := Ne.symm (ne_of_none el1 hdp)
    refine ⟨_, rfl, l, rfl, ⟨ls, SqL.of (g4 _ _ el1)⟩, ?_⟩
    refine for_list (xs := ls) (fun i σ' H' => ∃ (dps : List V) (s4 : Option V), σ' = [some v, some (.ref fo), some (.ref l), some (.ref dp), s4] ∧ Same H H' ∧ Tk H1 H' ∧ H' fo = some (.lst (fs ++ ls)) ∧ H' l = some (.lst ls) ∧ H' dp = some (.lst dps) ∧ Paired (Rep H') ((L.take i).flatMap Tr.parts) dps) ?_ ?_ ?_ ?_
    · exact ⟨[], s4, rfl, gw1.trans g4, g4.tk, g4 _ _ ef1, g4 _ _ el1, upd_same, .nil⟩
    · rintro i σ1 H2 _ ⟨dps, s4, rfl, g5, k5, ef5, el5, ed5, p5⟩
      exact SqL.of el5
    · rintro i x σ1 H2 hx ⟨dps, s4, rfl, g5, k5, ef5, el5, ed5, p5⟩
      obtain ⟨tq, eq, rq⟩ := paired_get pL hx
      refine ⟨_, rfl, .inl ⟨rfl, _, SqL.of ed5⟩, _, rfl, tq, x, rfl, rq.mono (tk1.trans k5), fun pp H3 us g6 ep hus => ?_⟩
      have hflat : ((L.take (i + 1)).flatMap Tr.parts) = ((L.take i).flatMap Tr.parts) ++ tq.parts := by
        rw [take_next eq, List.flatMap_append]
        simp
      have hlen : dps.length + us.length ≤ 1000 := by
        have z0 := paired_len p5
        have z1 := paired_len hus
        have z2 := szT_len ((L.take (i + 1)).flatMap Tr.parts)
        have z3 := szT_level (L.take (i + 1))
        have z4 := szT_take L (i + 1)
        rw [hflat, List.length_append] at z2
        rw [hflat] at z3
        omega
      have ed6 := g6 _ _ ed5
      refine ⟨dp, pp, dps, us, rfl, rfl, ed6, SqT.of ep, line1000 hlen, ?_⟩
      have tkz : Tk H3 (upd H3 dp (.lst (dps ++ us))) := Tk.lst ed6
      refine ⟨dps ++ us, _, rfl, same_set (g5.trans g6) hdpH, k5.trans (g6.tk.trans tkz), by rw [upd_ne (Ne.symm ndf)]; exact g6 _ _ ef5, by rw [upd_ne (Ne.symm ndl)]; exact g6 _ _ el5, upd_same, ?_⟩
      rw [hflat]
      exact paired_append (Paired.mapP p5 fun _ _ z => z.mono (g6.tk.trans tkz)) (Paired.mapP hus fun _ _ z => z.mono tkz)
    · rintro σ1 H2 ⟨dps, s4, rfl, g5, k5, ef5, el5, ed5, p5⟩
      rw [List.take_of_length_le (by omega)] at p5
      have hpos : 0 < L.length := by
        rw [← lL]
        cases ls with
        | nil => simp at c
        | cons _ _ => simp
      refine ⟨_, rfl, szT (L.flatMap Tr.parts), by omega, dp, dps, fs ++ ls, L.flatMap Tr.parts, Fd ++ L, some (.ref dp), s4, rfl, g5, hdpH, ndf, ef5, ed5, paired_append (Paired.mapP pF fun _ _ z => z.mono (tk1.trans k5)) (Paired.mapP pL fun _ _ z => z.mono (tk1.trans k5)), p5, rfl, ?_⟩
      rw [List.length_append]
      omega
  · have e0 : ls = [] := by
      cases ls with
      | nil => rfl
      | cons _ _ => simp at c
    have eL : L = [] := by
      subst e0
      cases L with
      | nil => rfl
      | cons _ _ => simp at lL
    subst eL
    refine ⟨_, rfl, q fo fs Fd Hw gw ef pF ?_⟩
    rw [szT_nil] at hcnt
    omega
def PPl (H : Hp) (x : PlT) (v : V) : Prop := ∃ u, PlV H (x.1, u) v ∧ Rep H x.2 u
theorem PPl.mono {H H' : Hp} (k : Tk H H') {x : PlT} {v : V} : PPl H x v → PPl H' x v
  | ⟨u, h, r⟩ => ⟨u, h.mono k, r.mono k⟩
theorem PPl.dr {H : Hp} {x : PlT} {v : V} : PPl H x v → DR H (pD x) v
  | ⟨u, ⟨b, c, e, h1, h2⟩, r⟩ => e ▸ .tup h1 (.cons (.tup h2 (drs_ints _)) (.cons r.dr .nil))
theorem ppls_dr {H : Hp} : ∀ {F : List PlT} {us : List V}, Paired (PPl H) F us → DRs H (F.map pD) us
  | _, _, .nil => .nil
  | _, _, .cons r q => .cons r.dr (ppls_dr q)
def sp_placed : Sp := fun vs H Q _ => ∃ (t : Tr) (v : V), vs = [v] ∧ Rep H t v ∧ t.size ≤ 400 ∧ (dtT t).deep ≤ 90 ∧ ∀ (l : Addr) (us : List V) (H' : Hp), Same H H' → H' l = some (.lst us) → DRs H' ((psub [] t).map pD) us → Q (.ref l) H'
theorem ok_placed {k : Nat} {f g1 : Addr} {fd gd1 : FuncData} (F : Fun K "placed_parts" "placed_parts" s_placed_parts f fd) (z_enumerate : mg "enumerate" = none) (z_sorted : mg "sorted" = none) (G_parts : FnB P w K mg base k "parts" g1 gd1 ["tree"] sp_parts) : FnOk P w K mg base CX0 (k + 1) f fd ["tree"] sp_placed := by
  refine F.ok sc_placed_parts (fun vs H Q E h => ?_) (fun cdv A outer s H vs Q E hr h => ?_)
  · obtain ⟨t, v, rfl, _⟩ := h
    rfl
  obtain ⟨t, v, rfl, hR, hsz, hdeep, q⟩ := h
  have hu5 := hu150 hr
  refine ⟨_, (pss_cons (ps_set (i := 1) sc_placed_parts.nd rfl (Or.inl rfl) (pe_lst pa_nil : PE _ _ _))
    (pss_cons (ps_set (i := 2) sc_placed_parts.nd rfl (Or.inl rfl) (pe_lst (pa_cons (pe_tup (pa_cons (pe_tup pa_nil : PE _ _ _) (pa_cons (pv 0) pa_nil)) : PE _ _ _) pa_nil) : PE _ _ _))
    (pss_cons (ps_while PassesOwn.never (pt_truth (pv 2) (fun _ => rfl)) (pss_cons (ps_expr (pe_bm PySem.F.plainAttrs_list PySem.F.slot_list_extend PySem.F.type_list_extend mt_extend (pv 1) (pa_cons (pv 2) pa_nil)))
    (pss_cons (ps_set (i := 3) sc_placed_parts.nd rfl (Or.inl rfl) (pe_lst pa_nil : PE _ _ _))
    (pss_cons (ps_for PassesOwn.never rfl (pi_list (pv 2)) (pg_tup rfl (pgs_cons (pg_name (i := 4) sc_placed_parts.nd rfl (Or.inl rfl)) (pgs_cons (pg_name (i := 5) sc_placed_parts.nd rfl (Or.inl rfl)) pgs_nil))) (pss_one (ps_for PassesOwn.never rfl (pi_enum (by rfl) z_enumerate (pa_cons (pe_call G_parts.ok hr (by rfl) G_parts.gl G_parts.kp G_parts.bd .nil pass0 (pa_cons (pv 5) pa_nil)) pa_nil)) (pg_tup rfl (pgs_cons (pg_name (i := 6) sc_placed_parts.nd rfl (Or.inl rfl)) (pgs_cons (pg_name (i := 7) sc_placed_parts.nd rfl (Or.inl rfl)) pgs_nil))) (pss_one (ps_expr (pe_bm PySem.F.plainAttrs_list PySem.F.slot_list_append PySem.F.type_list_append mt_append (pv 3) (pa_cons (pe_tup (pa_cons (pe_op op_catV (pv 4) (pe_tup (pa_cons (pv 6) pa_nil) : PE _ _ _)) (pa_cons (pv 7) pa_nil)) : PE _ _ _) pa_nil)))))))
    (pss_one (ps_set (i := 2) sc_placed_parts.nd rfl (Or.inl rfl) (pv 3)))))))
    (pss_one (ps_ret (pe_callB (call_sortedDt hu5) (by rfl) z_sorted PyProof.Rows.boot_sorted (pa_cons (pv 1) pa_nil))))))), ?_⟩
  have d2 : 2 ≤ sizeLine := by decide
  refine ⟨(by show 0 ≤ sizeLine; decide), fun fo hfo => ⟨(by show 0 ≤ sizeLine; decide), fun pe hpe => ⟨_, rfl, d2, fun pr hpr => ⟨(by show 1 ≤ sizeLine; decide), fun l hl => ?_⟩⟩⟩⟩
  have g1 := same_upd (o := .lst []) hfo
  have g2 := same_upd (o := .tup []) hpe
  have g3 := same_upd (o := .tup [.ref pe, v]) hpr
  have g4 := same_upd (o := .lst [.ref pr]) hl
  have g23 := g2.trans g3
  have gA := g1.trans (g23.trans g4)
  refine ⟨fun m σ' H' => ∃ (l : Addr) (ls fs : List V) (L Fd : List PlT) (s3 s4 s5 s6 s7 : Option V), σ' = [some v, some (.ref fo), some (.ref l), s3, s4, s5, s6, s7] ∧ Same H H' ∧ H l = none ∧ l ≠ fo ∧ H' fo = some (.lst fs) ∧ H' l = some (.lst ls) ∧
      Paired (PPl H') Fd fs ∧ Paired (PPl H') L ls ∧ m = szP L ∧ (Fd ++ allP L).Perm (psub [] t) ∧ (∀ x ∈ L, x.1.length + x.2.size ≤ 400),
    ⟨szP [([], t)], l, [.ref pr], [], [([], t)], [], none, none, none, none, none, rfl, gA, (g1.trans g23).free hl, ?_, g4 _ _ (g23 _ _ upd_same), upd_same, .nil, .cons ⟨v, ⟨pr, pe, rfl, g4 _ _ upd_same, g4 _ _ (g3 _ _ upd_same)⟩, hR.mono gA.tk⟩ .nil, rfl, by simp [allP], by simpa using hsz⟩, ?_⟩
  · exact Ne.symm (ne_of_none (g23 _ _ (upd_same (H := H) (a := fo) (o := .lst []))) hl)
  rintro m σ' Hw ⟨l, ls, fs, L, Fd, s3, s4, s5, s6, s7, rfl, gw, hl, hlf, ef, el, pF, pL, rfl, hperm, hdp0⟩
  have lL : ls.length = L.length := paired_len pL
  have lF : fs.length = Fd.length := paired_len pF
  have hZ := szP_level L
  have hcnt : Fd.length + szP L ≤ 400 := by
    have := hperm.length_eq
    rw [List.length_append, allP_len, psub_len] at this
    omega
  refine ⟨_, rfl, _, .inl ⟨ls, SqL.of el, rfl⟩, ?_⟩
  refine ite2 (fun c => ?_) (fun c => ?_)
  · refine ⟨_, fun _ _ h => h, ?_⟩
    refine ⟨_, rfl, .inl ⟨rfl, _, SqL.of ef⟩, _, rfl, fo, l, fs, ls, rfl, rfl, ef, el, line1000 (by omega), ?_⟩
    have ef1 : (upd Hw fo (.lst (fs ++ ls))) fo = some (.lst (fs ++ ls)) := upd_same
    have el1 : (upd Hw fo (.lst (fs ++ ls))) l = some (.lst ls) := by rw [upd_ne hlf]; exact el
    have gw1 : Same H (upd Hw fo (.lst (fs ++ ls))) := same_set gw hfo
    have tk1 : Tk Hw (upd Hw fo (.lst (fs ++ ls))) := Tk.lst ef
    show tSeq _ _ _ _ (upd Hw fo (.lst (fs ++ ls)))
    generalize upd Hw fo (.lst (fs ++ ls)) = H1 at ef1 el1 gw1 tk1 ⊢
    refine ⟨(by show 0 ≤ sizeLine; decide), fun dp hdp => ?_⟩
    have g4 := same_upd (o := .lst []) hdp
    have hdpH : H dp = none := gw1.free hdp
    have ndf : dp ≠ fo := Ne.symm (ne_of_none ef1 hdp)
    have ndl : dp ≠ l := Ne.symm (ne_of_none el1 hdp)
    refine ⟨_, rfl, l, rfl, ⟨ls, SqL.of (g4 _ _ el1)⟩, ?_⟩
    refine for_list (xs := ls) (fun i σ' H' => ∃ (dps : List V) (s4 s5 s6 s7 : Option V), σ' = [some v, some (.ref fo), some (.ref l), some (.ref dp), s4, s5, s6, s7] ∧ Same H H' ∧ Tk H1 H' ∧ H' fo = some (.lst (fs ++ ls)) ∧ H' l = some (.lst ls) ∧ H' dp = some (.lst dps) ∧ Paired (PPl H') ((L.take i).flatMap kidsP) dps) ?_ ?_ ?_ ?_
    · exact ⟨[], s4, s5, s6, s7, rfl, gw1.trans g4, g4.tk, g4 _ _ ef1, g4 _ _ el1, upd_same, .nil⟩
    · rintro i σ1 H2 _ ⟨dps, s4, s5, s6, s7, rfl, g5, k5, ef5, el5, ed5, p5⟩
      exact SqL.of el5
    · rintro i x σ1 H2 hx ⟨dps, s4, s5, s6, s7, rfl, g5, k5, ef5, el5, ed5, p5⟩
      obtain ⟨⟨pl, tq⟩, eq, rq⟩ := paired_get pL hx
      obtain ⟨u, ⟨b, c', rfl, hb, hc'⟩, ru⟩ := rq.mono (tk1.trans k5)
      dsimp only at hb hc' ru
      refine ⟨b, _, rfl, SqT.of hb, rfl, _, _, rfl, _, _, rfl, rfl, ?_⟩
      have hflat : ((L.take (i + 1)).flatMap kidsP) = ((L.take i).flatMap kidsP) ++ kidsP (pl, tq) := by
        rw [take_next eq, List.flatMap_append]
        simp
      have hlen : ((L.take i).flatMap kidsP).length + (kidsP (pl, tq)).length ≤ 400 := by
        have z2 := szP_len ((L.take (i + 1)).flatMap kidsP)
        have z3 := szP_level (L.take (i + 1))
        have z4 : szP (L.take (i + 1)) ≤ szP L := by unfold szP; rw [List.map_take]; exact szT_take _ _
        rw [hflat, List.length_append] at z2
        rw [hflat] at z3
        omega
      refine ⟨_, rfl, tq, u, rfl, ru, fun pp H3 us g6 ep hus => ⟨pp, rfl, ⟨us, SqT.of ep⟩, ?_⟩⟩
      have lus : us.length = tq.parts.length := paired_len hus
      refine for_enum (xs := us) (fun j σ' H' => ∃ (dps' : List V) (s6 s7 : Option V), σ' = [some v, some (.ref fo), some (.ref l), some (.ref dp), some (.ref c'), some u, s6, s7] ∧ Same H H' ∧ Tk H3 H' ∧ H' fo = some (.lst (fs ++ ls)) ∧ H' l = some (.lst ls) ∧ H' dp = some (.lst dps') ∧ Paired (PPl H') (((L.take i).flatMap kidsP) ++ (kidsP (pl, tq)).take j) dps') ?_ ?_ ?_ ?_
      · refine ⟨dps, s6, s7, rfl, g5.trans g6, .refl _, g6 _ _ ef5, g6 _ _ el5, g6 _ _ ed5, ?_⟩
        rw [List.take_zero, List.append_nil]
        exact Paired.mapP p5 fun _ _ z => z.mono g6.tk
      · rintro j σ3 H5 _ ⟨dps5, s6, s7, rfl, g7, k7, ef7, el7, ed7, p7⟩
        exact SqT.of (k7 _ _ ep)
      · rintro j x T σ3 H5 hx ⟨dps5, s6, s7, rfl, g7, k7, ef7, el7, ed7, p7⟩ hT
        have gT := same_upd (o := .tup [.int j, x]) hT
        obtain ⟨cc, ec, rc⟩ := paired_get hus hx
        have kk := kidsP_get (pl := pl) ec
        have ld : dps5.length ≤ 400 := by
          rw [paired_len p7, List.length_append, List.length_take]
          omega
        refine ⟨T, _, rfl, SqT.of upd_same, rfl, _, _, rfl, _, _, rfl, rfl, ?_⟩
        have ed8 := gT _ _ ed7
        have hc8 : (upd H5 T (.tup [.int j, x])) c' = some (.tup (pl.map V.int)) := gT.tk _ _ (k7 _ _ (g6.tk _ _ hc'))
        refine ⟨_, rfl, .inl ⟨rfl, _, SqL.of ed8⟩, _, rfl, _, rfl, (by show 1 ≤ sizeLine; decide), fun pj hpj => ?_⟩
        have gj := same_upd (o := .tup [.int j]) hpj
        have hpl : pl.length ≤ 400 := by
          have h9 := hdp0 _ (List.mem_of_getElem? eq)
          dsimp only at h9
          omega
        refine ⟨c', pj, _, _, rfl, rfl, gj.tk _ _ hc8, upd_same, line1000 (by simp; omega), fun pn H6 g9 e9 => ?_⟩
        refine ⟨_, rfl, d2, fun pt hpt => ?_⟩
        have g10 := same_upd (o := .tup [.ref pn, x]) hpt
        have gB := gT.trans (gj.trans (g9.trans g10))
        have ed9 := gB _ _ ed7
        refine ⟨dp, dps5, _, rfl, rfl, ed9, small1000 (by omega), ?_⟩
        have tkz : Tk _ _ := Tk.lst (o := .lst (dps5 ++ [.ref pt])) ed9
        have e9' : H6 pn = some (.tup ((pl ++ [(j : Int)]).map V.int)) := by rw [e9, List.map_append]; rfl
        refine ⟨dps5 ++ [.ref pt], _, _, rfl, same_set (g7.trans gB) hdpH, k7.trans (gB.tk.trans tkz), by rw [upd_ne (Ne.symm ndf)]; exact gB _ _ ef7, by rw [upd_ne (Ne.symm ndl)]; exact gB _ _ el7, upd_same, ?_⟩
        rw [take_next kk, ← List.append_assoc]
        exact paired_append (Paired.mapP p7 fun _ _ z => z.mono (gB.tk.trans tkz)) (.cons ⟨x, ⟨pt, pn, rfl, tkz _ _ upd_same, tkz _ _ (g10.tk _ _ e9')⟩, rc.mono (k7.trans (gB.tk.trans tkz))⟩ .nil)
      · rintro σ3 H5 ⟨dps5, s6, s7, rfl, g7, k7, ef7, el7, ed7, p7⟩
        have ek : (kidsP (pl, tq)).take us.length = kidsP (pl, tq) := List.take_of_length_le (by rw [kidsP_len]; omega)
        rw [ek, ← hflat] at p7
        exact ⟨dps5, _, _, _, _, rfl, g7, k5.trans (g6.tk.trans k7), ef7, el7, ed7, p7⟩
    · rintro σ1 H2 ⟨dps, s4, s5, s6, s7, rfl, g5, k5, ef5, el5, ed5, p5⟩
      rw [List.take_of_length_le (by omega)] at p5
      have hpos : 0 < L.length := by
        rw [← lL]
        cases ls with
        | nil => simp at c
        | cons _ _ => simp
      refine ⟨_, rfl, szP (L.flatMap kidsP), by omega, dp, dps, fs ++ ls, L.flatMap kidsP, Fd ++ L, some (.ref dp), s4, s5, s6, s7, rfl, g5, hdpH, ndf, ef5, ed5, paired_append (Paired.mapP pF fun _ _ z => z.mono (tk1.trans k5)) (Paired.mapP pL fun _ _ z => z.mono (tk1.trans k5)), p5, rfl, ?_, ?_⟩
      · rw [List.append_assoc]
        exact ((allP_level L).symm.append_left Fd).trans hperm
      · intro x hx
        obtain ⟨y, hy, hx⟩ := List.mem_flatMap.mp hx
        have h9 := hdp0 y hy
        unfold kidsP at hx
        obtain ⟨z, hz, rfl⟩ := List.mem_map.mp hx
        have h8 : z.1 ∈ y.2.parts := List.fst_mem_of_mem_zipIdx hz
        have h7 := part_size h8
        simp
        omega
  · have e0 : ls = [] := by
      cases ls with
      | nil => rfl
      | cons _ _ => simp at c
    have eL : L = [] := by
      subst e0
      cases L with
      | nil => rfl
      | cons _ _ => simp at lL
    subst eL
    have hperm' : Fd.Perm (psub [] t) := by simpa [allP] using hperm
    refine ⟨_, rfl, fo, fs, Fd.map pD, rfl, ef, ppls_dr pF, srt_pairs hperm' hdeep (by omega), fun l' zs hl' dz => ?_⟩
    have gl := same_upd (o := .lst zs) hl'
    rw [srt_places hperm'] at dz
    exact q l' zs _ (gw.trans gl) upd_same (dz.mono gl.tk)
def sp_size : Sp := fun vs H Q _ => ∃ (t : Tr) (v : V), vs = [v] ∧ Rep H t v ∧ t.size ≤ 400 ∧ ∀ (H' : Hp), Same H H' → Q (.int (t.size : Int)) H'
theorem ok_size {k : Nat} {f g1 : Addr} {fd gd1 : FuncData} (F : Fun K "size" "size" s_size f fd) (z_len : mg "len" = none) (G_all_parts : FnB P w K mg base k "all_parts" g1 gd1 ["tree"] sp_all) : FnOk P w K mg base CX0 (k + 1) f fd ["tree"] sp_size := by
  refine F.ok sc_size (fun vs H Q E h => ?_) (fun cdv A outer s H vs Q E hr h => ?_)
  · obtain ⟨t, v, rfl, _⟩ := h
    rfl
  obtain ⟨t, v, rfl, hR, hsz, q⟩ := h
  refine ⟨_, (pss_one (ps_ret (pe_callB call_len_seq (by rfl) z_len PySem.boot_len (pa_cons (pe_call G_all_parts.ok hr (by rfl) G_all_parts.gl G_all_parts.kp G_all_parts.bd .nil pass0 (pa_cons (pv 0) pa_nil)) pa_nil)))), ?_⟩
  refine ⟨_, rfl, t, v, rfl, hR, hsz, fun l us Fd H' g e _ ln => ⟨l, us, rfl, .inl (SqL.of e), ?_⟩⟩
  rw [ln]
  exact q H' g
def sp_places : Sp := fun vs H Q _ => ∃ (t : Tr) (v : V), vs = [v] ∧ Rep H t v ∧ t.size ≤ 400 ∧ (dtT t).deep ≤ 90 ∧ ∀ (l : Addr) (us : List V) (H' : Hp), Same H H' → H l = none → H' l = some (.lst us) → DRs H' ((psub [] t).map fun x => plD x.1) us → Q (.ref l) H'
theorem ok_places {k : Nat} {f g1 : Addr} {fd gd1 : FuncData} (F : Fun K "places" "places" s_places f fd) (G_placed_parts : FnB P w K mg base k "placed_parts" g1 gd1 ["tree"] sp_placed) : FnOk P w K mg base CX0 (k + 1) f fd ["tree"] sp_places := by
  refine F.ok sc_places (fun vs H Q E h => ?_) (fun cdv A outer s H vs Q E hr h => ?_)
  · obtain ⟨t, v, rfl, _⟩ := h
    rfl
  obtain ⟨t, v, rfl, hR, hsz, hdeep, q⟩ := h
  refine ⟨_, (pss_one (ps_ret (pe_compB ["place", "part"] [none, none] rfl (pi_list (pe_call G_placed_parts.ok hr (by rfl) G_placed_parts.gl G_placed_parts.kp G_placed_parts.bd .nil pass0 (pa_cons (pv 0) pa_nil))) (fun _ _ _ _ _ => (pg_tupK (K := K) (n := 2) rfl rfl (pgs_cons (pg_name (i := 0) (show List.Nodup (["place", "part"] : List Str) by decide +kernel) rfl (Or.inl rfl)) (pgs_cons (pg_name (i := 1) (show List.Nodup (["place", "part"] : List Str) by decide +kernel) rfl (Or.inl rfl)) pgs_nil)))) (fun _ _ _ _ _ => pts_nil) (fun _ _ _ _ _ => (pv 0)) rfl))), ?_⟩
  refine ⟨_, rfl, t, v, rfl, hR, hsz, hdeep, fun l us H1 g1 e1 d1 => ⟨l, rfl, ⟨us, SqL.of e1⟩, fun acc hacc => ?_⟩⟩
  have lu := d1.length
  rw [List.length_map, psub_len] at lu
  refine comp_listR (xs := us) (fun i H2 => Same H1 H2 ∧ ∃ zs, H2 acc = some (.lst zs) ∧ DRs H2 (((psub [] t).take i).map fun x => plD x.1) zs) ⟨same_upd hacc, [], upd_same, .nil⟩ (fun i H2 _ h => SqL.of (h.1 _ _ e1)) ?_ ?_
  · rintro i x H2 hx ⟨g2, zs, ez, dz⟩
    obtain ⟨dd, ed, rd⟩ := d1.get hx
    rw [List.getElem?_map] at ed
    obtain ⟨p, ep, rfl⟩ := Option.map_eq_some_iff.mp ed
    have hi : i < us.length := (List.getElem?_eq_some_iff.mp hx).1
    have rd2 := rd.mono g2.tk
    unfold pD at rd2
    cases rd2 with
    | tup hb rs =>
      cases rs with
      | cons ra rs =>
        cases rs with
        | cons rb rs =>
          cases rs
          have lz := dz.length
          rw [List.length_map, List.length_take] at lz
          refine ⟨_, _, rfl, SqT.of hb, rfl, _, _, rfl, _, _, rfl, rfl, .skip (.skip .nil), ?_⟩
          refine ⟨_, rfl, zs, ez, small1000 (by omega), same_set g2 hacc, _, upd_same, ?_⟩
          rw [take_next ep, List.map_append]
          exact drs_app (dz.mono (Tk.lst ez)) (.cons (ra.mono (Tk.lst ez)) .nil)
  · rintro H3 ⟨g3, zs, ez, dz⟩
    rw [List.take_of_length_le (by rw [psub_len]; omega)] at dz
    exact q acc zs H3 (g1.trans g3) (g1.free hacc) ez dz
def sp_with : Sp := fun vs H Q _ => ∃ (t : Tr) (a l : Addr) (us ps : List V), vs = [.ref a, .ref l] ∧ Rep H t (.ref a) ∧ H a = some (.tup us) ∧ H l = some (.tup ps) ∧ us.length ≤ 10 ∧ ps.length ≤ 10 ∧ ∀ (p : Addr) (H' : Hp), Same H H' → H' p = some (.tup (us.take (begin_ t).toNat ++ ps)) → Q (.ref p) H'
theorem ok_with {k : Nat} {f g : Addr} {fd gd : FuncData} (F : Fun K "with_parts" "with_parts" s_with_parts f fd) (z_tuple : mg "tuple" = none) (G_parts_begin : FnB P w K mg base k "parts_begin" g gd ["tree"] sp_parts_begin) : FnOk P w K mg base CX0 (k + 1) f fd ["tree", "parts"] sp_with := by
  refine F.ok sc_with_parts (fun vs H Q E h => ?_) (fun cdv A outer s H vs Q E hr h => ?_)
  · obtain ⟨t, a, l, us, ps, rfl, _⟩ := h
    rfl
  obtain ⟨t, a, l, us, ps, rfl, hR, ha, hl, l1, l2, q⟩ := h
  refine ⟨_, (pss_one (ps_ret (pe_op op_catV (pe_slice sl_tupW (pv 0) po_none (po_some (pe_call G_parts_begin.ok hr (by rfl) G_parts_begin.gl G_parts_begin.kp G_parts_begin.bd .nil pass0 (pa_cons (pv 0) pa_nil)))) (pe_callTy call_tuple_of (by rfl) z_tuple PyProof.Rows.boot_tuple (pa_cons (pv 1) pa_nil))))), ?_⟩
  have e1 : cutV us none (some (begin_ t)) = us.take (begin_ t).toNat := by
    unfold cutV
    show List.take (HT.sIx us.length us.length (some ((t.head : Nat) : Int)) - HT.sIx us.length 0 none) (us.drop (HT.sIx us.length 0 none)) = us.take ((t.head : Nat) : Int).toNat
    rw [HT.sIx_nat, HT.sIx_none, Nat.sub_zero, List.drop_zero, Int.toNat_natCast]
    rcases Nat.le_total t.head us.length with h | h
    · rw [Nat.min_eq_left h]
    · rw [Nat.min_eq_right h, List.take_of_length_le (Nat.le_refl _), List.take_of_length_le h]
  refine ⟨_, rfl, _, rfl, t, _, rfl, hR, _, rfl, a, us, rfl, ha, fun p H' g e => ?_⟩
  rw [e1] at e
  refine ⟨_, rfl, l, ps, rfl, .inr ⟨SqT.of (g _ _ hl), ?_⟩⟩
  refine ⟨p, l, _, _, rfl, rfl, e, g _ _ hl, line1000 ?_, fun p3 H3 g3 e3 => q p3 H3 (g.trans g3) e3⟩
  rw [List.length_take]
  omega
end
end K01
set_option Elab.async false
set_option linter.all false
set_option maxRecDepth 100000
set_option maxHeartbeats 4000000
namespace L2
open PySem PySem.Spec PyProof.Rows
section
variable {X : Cx} {o e : Expr} {es : List Expr} {te to : TE} {t : TA} {name x : Str} {apos cpos pos p : Pos} {T id : String}
theorem pe_callTyS {r : List V → Hp → VK → Prop} (hc : CallR X (.type T) r) (hg : Gl X x) (hm : X.mg x = none) (hv : bootBuiltins x = some (.type T)) (ha : Sd (PA X (e :: es) t)) (hn : x ≠ "__name__" := by decide) (hdb : (x == ("__debug__" : Str)) = false := by decide)
    (he : starEach (e :: es) X.env = (false, eval e X.env) :: starEach es X.env := by rfl) (hpl : (backTo pos (starEach es X.env)).any (·.1) = false := by rfl) : Sd (PE X (.Call (.Name x p) (e :: es) [] pos) (tCB r t)) := ⟨pe_callTy hc hg hm hv ha.un hn hdb he hpl⟩
end
instance instDecDt : DecidableEq Dt := fun a b => decidable_of_iff (Dt.beq a b = true) Dt.beq_iff
def lookB (x : Str) : List Str → Option Nat
  | [] => none
  | y :: r => if y = x then some 0 else (lookB x r).map (· + 1)
def keyB (x : Str) (rs : List Str) : Nat ⊕ Str := match lookB x rs with
  | some k => .inl k
  | none => .inr x
def keyD : Nat ⊕ Str → Dt
  | .inl k => .tup [.str "bound", .int k]
  | .inr z => .tup [.str "free", .str z]
def bareN (x : Str) (bs : List Str) : Dt := keyD (keyB x bs.reverse)
inductive Lf where
  | name (x : Str) | num (n : Int) | gap (g : Str) | ask (x : Str) | stop (x : Str)
def dtL : Lf → List Dt
  | .name x => [.str "name", .str x] | .num n => [.str "num", .int n] | .gap g => [.str "gap", .str g, .tup []] | .ask x => [.str "ask", .str x] | .stop x => [.str "stop", .str x]
def bareL (l : Lf) (bs : List Str) : Dt := match l with
  | .name x => bareN x bs
  | l => .tup (dtL l)
def Atom.lf : Atom → Lf
  | .name x => .name x | .num n => .num n | .gap g => .gap g
def bareA (bs : List Str) (a : Atom) : Dt := bareL a.lf bs
def bare : Tr → List Str → Dt
  | .num n, _ => .tup [.str "num", .int n]
  | .name x, bs => bareN x bs
  | .ask x, _ => .tup [.str "ask", .str x]
  | .stop x, _ => .tup [.str "stop", .str x]
  | .gap g as, bs => .tup [.str "gap", .str g, .tup (as.map (bareA bs))]
  | .say a, bs => .tup [.str "say", bare a bs]
  | .bin o a b, bs => .tup [.str o.s, bare a bs, bare b bs]
  | .ite a b c, bs => .tup [.str "if", bare a bs, bare b bs, bare c bs]
  | .lett x a b, bs => .tup [.str "let", bare a bs, bare b (bs ++ [x])]
end L2
set_option Elab.async false
set_option linter.all false
set_option maxRecDepth 100000
set_option maxHeartbeats 4000000
namespace L2
open PySem
def Tr.dep : Tr → Nat
  | .gap _ [] => 1
  | .gap _ (_ :: _) => 2
  | .say a => a.dep + 1
  | .bin _ a b => max a.dep b.dep + 1
  | .ite a b c => max a.dep (max b.dep c.dep) + 1
  | .lett _ a b => max a.dep b.dep + 1
  | _ => 1
theorem dep_leaf {t : Tr} (h : t.size = 1) : t.dep ≤ 2 := by
  have p := size_pos20
  cases t with
  | say a => have := p a; simp [Tr.size] at h; omega
  | bin o a b => have := p a; simp [Tr.size] at h; omega
  | ite a b c => have := p a; simp [Tr.size] at h; omega
  | lett x a b => have := p a; simp [Tr.size] at h; omega
  | gap g as => cases as <;> simp [Tr.dep]
  | _ => simp [Tr.dep]
end L2
namespace L2
open PySem
theorem atI_in {α : Type} {xs : List α} {i : Int} (h0 : 0 ≤ i) (h1 : i < xs.length) : ∃ v, v ∈ xs ∧ atI xs i = some v := by
  have hl : i.toNat < xs.length := by omega
  have e : ((i.toNat : Nat) : Int) = i := by omega
  refine ⟨xs[i.toNat], List.getElem_mem hl, ?_⟩
  have := atI_nat (xs := xs) (j := i.toNat) (v := xs[i.toNat]) (List.getElem?_eq_getElem hl)
  rwa [e] at this
end L2
namespace K01
open PySem PySem.Spec L2 PyProof.Rows
abbrev s_law_cell_at : Stmt := top 10
theorem sc_law_cell_at : FnScope ["_law_script", "_law_k"] ["_law_script", "_law_k"] (defScope s_law_cell_at) := ⟨rfl, rfl, rfl, by decide +kernel, rfl, by decide +kernel, by decide +kernel⟩
abbrev s_law_word : Stmt := top 12
theorem sc_law_word : FnScope ["_law_cell", "_law_long", "_law_at", "_law_turn", "_law_letters", "_law_word_here", "_law_j", "_law_number"] ["_law_cell", "_law_long", "_law_at", "_law_turn"] (defScope s_law_word) := ⟨rfl, rfl, rfl, by decide +kernel, rfl, by decide +kernel, by decide +kernel⟩
abbrev s_law_whole : Stmt := top 11
theorem sc_law_whole : FnScope ["_law_found"] ["_law_found"] (defScope s_law_whole) := ⟨rfl, rfl, rfl, by decide +kernel, rfl, by decide +kernel, by decide +kernel⟩
abbrev s_law_words : Stmt := top 13
theorem sc_law_words : FnScope ["_law_cell", "_law_long", "_law_at"] ["_law_cell"] (defScope s_law_words) := ⟨rfl, rfl, rfl, by decide +kernel, rfl, by decide +kernel, by decide +kernel⟩
section
variable {P : Program} {w : World} {K : PySem.W.Frag} {mg : Str → Option Value} {base : Heap}
def sp_cell_at (K : PySem.W.Frag) : Sp := fun vs H Q _ => ∃ (a : Addr) (ns : List Int) (k : Int), vs = [.ref a, .int k] ∧ SqL K H a (ns.map V.int) ∧ 0 ≤ k ∧ ∀ i : Int, Q (.int i) H
theorem ok_cell_at {k : Nat} {f : Addr} {fd : FuncData} (F : Fun K "_law_cell_at" "_law_cell_at" s_law_cell_at f fd) (z_len : mg "len" = none) : FnOk P w K mg base CX0 (k + 1) f fd ["_law_script", "_law_k"] (sp_cell_at K) := by
  refine F.ok sc_law_cell_at (fun vs H Q E h => ?_) (fun cdv A outer s H vs Q E hr h => ?_)
  · obtain ⟨a, ns, k, rfl, _⟩ := h
    rfl
  obtain ⟨a, ns, k, rfl, hS, h0, q⟩ := h
  refine ⟨_, (pss_cons (ps_if (pt_cmpR op_lt (pv 1) (pe_callB call_len_seq (by rfl) z_len PySem.boot_len (pa_cons (pv 0) pa_nil)) (nomark _)) (pss_one (ps_ret (pe_ix (r := rIxL K) ix_list (pv 0) (pv 1) (fun _ _ => rfl)))) pss_nil)
    (pss_one (ps_ret pe_int))), ?_⟩
  refine ⟨_, rfl, _, rfl, a, _, rfl, .inl hS, _, _, rfl, rfl, _, rfl, ?_⟩
  refine ite2 (fun c => ?_) (fun c => ?_)
  · have c' : k < ((ns.map V.int).length : Int) := of_decide_eq_true c
    obtain ⟨v, hv, e⟩ := atI_in h0 c'
    obtain ⟨i, _, rfl⟩ := List.mem_map.mp hv
    exact ⟨_, rfl, _, rfl, a, _, k, _, rfl, rfl, hS, e, q i⟩
  · exact q 0
def sp_word : Sp := fun vs H Q _ => ∃ (c n at_ tn : Int), vs = [.int c, .int n, .int at_, .int tn] ∧ 0 ≤ n ∧ n ≤ 8 ∧ ∀ (x : Str) (H' : Hp), Same H H' → (x.length : Int) = n → Q (.str x) H'
theorem ok_word {k : Nat} {f : Addr} {fd : FuncData} (F : Fun K "_law_word" "_law_word" s_law_word f fd) (z_range : mg "range" = none) : FnOk P w K mg base CX0 (k + 1) f fd ["_law_cell", "_law_long", "_law_at", "_law_turn"] sp_word := by
  refine F.ok sc_law_word (fun vs H Q E h => ?_) (fun cdv A outer s H vs Q E hr h => ?_)
  · obtain ⟨c, n, a, tn, rfl, _⟩ := h
    rfl
  obtain ⟨c, n, at_, tn, rfl, hn0, hn8, q⟩ := h
  refine ⟨_, (pss_cons (ps_set (i := 4) sc_law_word.nd rfl (Or.inl rfl) pe_str)
    (pss_cons (ps_set (i := 5) sc_law_word.nd rfl (Or.inl rfl) pe_str)
    (pss_cons (ps_for PassesOwn.never rfl (pi_range1 (by rfl) z_range (pa_cons (pv 1) pa_nil)) (pg_name (i := 6) sc_law_word.nd rfl (Or.inl rfl)) (pss_cons (ps_set (i := 7) sc_law_word.nd rfl (Or.inl rfl) (pe_op op_fdiv (pe_op op_mod (pe_op op_mul (pe_op op_mod (pv 0) pe_int) (pe_op op_add pe_int (pe_op op_mul (pe_op op_mul pe_int (pv 6)) (pv 6)))) pe_int) pe_int))
    (pss_cons (ps_if (pt_cmpR op_eq (pv 6) (pv 2) (nomark _)) (pss_one (ps_set (i := 7) sc_law_word.nd rfl (Or.inl rfl) (pe_op op_add (pv 7) (pv 3)))) pss_nil)
    (pss_one (ps_set (i := 5) sc_law_word.nd rfl (Or.inl rfl) (pe_op op_add_str (pv 5) (pe_ix ix_str (pv 4) (pe_op op_mod (pv 7) pe_int) (fun _ _ => rfl))))))))
    (pss_cons (ps_if (pt_cmpR (r := rIn K false) op_in_seq (pv 5) (pe_tupR [.str "let", .str "in", .str "if", .str "then", .str "else", .str "say", .str "ask", .str "stop", .str "where", .str "quiet", .str "number"] (by rfl) : PE _ _ _) rfl) (pss_one (ps_ret (pe_op op_add_str pe_str (pe_slice sl_str (pv 5) (po_some pe_int) po_none)))) pss_nil)
    (pss_one (ps_ret (pv 5))))))), ?_⟩
  generalize hL : Str.ofString "abcdefghijklmnopqrstuvwxyz" = L
  have hLlen : L.length = 26 := by rw [← hL]; decide +kernel
  refine ⟨_, rfl, n, rfl, by omega, by omega, ?_⟩
  refine for_range (n := n.toNat) (fun i σ' H' => ∃ (x : Str) (s6 s7 : Option V), σ' = [some (.int c), some (.int n), some (.int at_), some (.int tn), some (.str L), some (.str x), s6, s7] ∧ H' = H ∧ x.length = i) ?_ ?_ ?_
  · exact ⟨_, none, none, rfl, rfl, by decide +kernel⟩
  · rintro i σ1 H1 hi ⟨x, s6, s7, rfl, rfl, hx⟩
    refine ⟨_, rfl, _, _, rfl, rfl, (show (0 : Int) < 1000003 by decide), _, rfl, _, _, rfl, rfl, .inl ⟨(by decide), (by decide)⟩, _, rfl, _, _, rfl, rfl, .inl ⟨(by omega), (by omega)⟩, _, _, rfl, rfl, _, _, rfl, rfl, .inl ⟨(by omega), (by omega)⟩, _, _, rfl, rfl, (show (0 : Int) < 2147483647 by decide), _, _, rfl, rfl, ⟨(show (0 : Int) < 97 by decide), (show (97 : Int) < 1073741824 by decide)⟩, ?_⟩
    refine ⟨_, rfl, _, rfl, rfl, _, rfl, ?_⟩
    have fin : ∀ z : Int, ∃ (ch : Str), ch.length = 1 ∧ atI L.cps.toList (z % 26) = some (ch.cps.getD 0 0) ∧ ch = ⟨#[ch.cps.getD 0 0]⟩ := fun z => by
      have hl : ((L.cps.toList).length : Int) = 26 := by
        rw [Array.length_toList]
        exact_mod_cast hLlen
      obtain ⟨v, _, e⟩ := atI_in (xs := L.cps.toList) (i := z % 26) (by omega) (by omega)
      exact ⟨⟨#[v]⟩, rfl, e, rfl⟩
    refine ite2 (fun _ => ?_) (fun _ => ?_)
    · refine ⟨_, rfl, _, rfl, _, _, rfl, rfl, ?_⟩
      obtain ⟨ch, l1, e1, e2⟩ := fin _
      refine ⟨_, rfl, _, rfl, _, rfl, _, _, rfl, rfl, (show (0 : Int) < 26 by decide), L, _, _, rfl, rfl, line1000 (by rw [hLlen]; decide), e1, _, _, rfl, rfl, line1000 ?_, ?_⟩
      · show x.length + 1 ≤ 1000
        omega
      · refine ⟨_, _, _, rfl, rfl, ?_⟩
        have : (x ++ (⟨#[ch.cps.getD 0 0]⟩ : Str)).length = x.length + 1 := by
          show (x.cps ++ #[ch.cps.getD 0 0]).size = x.cps.size + 1
          simp
        omega
    · obtain ⟨ch, l1, e1, e2⟩ := fin _
      refine ⟨_, rfl, _, rfl, _, rfl, _, _, rfl, rfl, (show (0 : Int) < 26 by decide), L, _, _, rfl, rfl, line1000 (by rw [hLlen]; decide), e1, _, _, rfl, rfl, line1000 ?_, ?_⟩
      · show x.length + 1 ≤ 1000
        omega
      · refine ⟨_, _, _, rfl, rfl, ?_⟩
        have : (x ++ (⟨#[ch.cps.getD 0 0]⟩ : Str)).length = x.length + 1 := by
          show (x.cps ++ #[ch.cps.getD 0 0]).size = x.cps.size + 1
          simp
        omega
  · rintro σ1 H1 ⟨x, s6, s7, rfl, rfl, hx⟩
    refine ⟨_, rfl, (by show 11 ≤ sizeLine; decide), fun p hp => ⟨p, _, rfl, .inr (SqT.of upd_same), rfl, rfl, _, rfl, ?_⟩⟩
    refine ite2 (fun hin => ?_) (fun _ => ?_)
    · have hkw : ("k" ++ Txt.slice x (some 1) none).length = x.length := by
        have h1 : inV (.str x) [.str "let", .str "in", .str "if", .str "then", .str "else", .str "say", .str "ask", .str "stop", .str "where", .str "quiet", .str "number"] = true := hin
        have h2 : ∀ y ∈ ([("let" : Str), "in", "if", "then", "else", "say", "ask", "stop", "where", "quiet", "number"] : List Str), ((("k" : Str)) ++ Txt.slice y (some 1) none).length = y.length := by decide +kernel
        refine h2 x ?_
        unfold inV at h1
        obtain ⟨v, hv, e⟩ := List.any_eq_true.mp h1
        have : v ∈ ([("let" : Str), "in", "if", "then", "else", "say", "ask", "stop", "where", "quiet", "number"] : List Str).map V.str := hv
        obtain ⟨y, hy, rfl⟩ := List.mem_map.mp this
        rw [eqV_str] at e
        exact e ▸ hy
      refine ⟨_, rfl, _, rfl, x, rfl, line1000 (by omega), fun hle => ⟨_, _, rfl, rfl, line1000 ?_, q _ _ (same_upd hp) ?_⟩⟩
      · have : (Str.ofString "k").length = 1 := by decide +kernel
        omega
      · rw [hkw, hx]
        omega
    · exact ⟨_, rfl, q _ _ (same_upd hp) (by rw [hx]; omega)⟩
end
end K01
namespace K01
open PySem PySem.Spec L2 PyProof.Rows
section
variable {P : Program} {w : World} {K : PySem.W.Frag} {mg : Str → Option Value} {base : Heap}
def sp_words : Sp := fun vs H Q _ => ∃ (c : Int), vs = [.int c] ∧ ∀ (l : Addr) (H' : Hp) (ws : List Str), Same H H' → H l = none → ws.length = 4 → (∃ n : Nat, ∀ x ∈ ws, x.length = n) → H' l = some (.lst (ws.map V.str)) → Q (.ref l) H'
theorem ok_words {k : Nat} {f g : Addr} {fd gd : FuncData} (F : Fun K "_law_words" "_law_words" s_law_words f fd) (z_range : mg "range" = none) (G_law_word : FnB P w K mg base k "_law_word" g gd ["_law_cell", "_law_long", "_law_at", "_law_turn"] sp_word) :
    FnOk P w K mg base CX0 (k + 1) f fd ["_law_cell"] sp_words := by
  refine F.ok sc_law_words (fun vs H Q E h => ?_) (fun cdv A outer s H vs Q E hr h => ?_)
  · obtain ⟨c, rfl, _⟩ := h
    rfl
  obtain ⟨c, rfl, q⟩ := h
  refine ⟨_, (pss_cons (ps_set (i := 1) sc_law_words.nd rfl (Or.inr rfl) (pe_op op_add pe_int (pe_op op_mod (pv 0) pe_int)))
    (pss_cons (ps_set (i := 2) sc_law_words.nd rfl (Or.inr rfl) (pe_op op_mod (pe_op op_fdiv (pv 0) pe_int) (pv 1)))
    (pss_one (ps_ret (pe_compB ["_law_k", "_law_long", "_law_at", "_law_cell"] [none, some 1, some 2, some 0] rfl (pi_range1 (by rfl) z_range (pa_cons pe_int pa_nil)) (fun _ _ _ _ _ => (pg_name (i := 0) (show List.Nodup (["_law_k", "_law_long", "_law_at", "_law_cell"] : List Str) by decide +kernel) rfl (Or.inl rfl))) (fun _ _ _ _ _ => pts_nil) (fun _ _ _ _ _ => (pe_call G_law_word.ok hr (by rfl) G_law_word.gl G_law_word.kp G_law_word.bd .nil pass0 (pa_cons (pe_op op_fdiv (pv 3) pe_int) (pa_cons (pv 1) (pa_cons (pv 2) (pa_cons (pe_op op_mul pe_int (pv 0)) pa_nil)))))) rfl))))), ?_⟩
  refine ⟨_, rfl, _, _, rfl, rfl, (show (0 : Int) < 8 by decide), _, _, rfl, rfl, ?_⟩
  refine ⟨_, rfl, _, _, rfl, rfl, ⟨(show (0 : Int) < 8 by decide), (show (8 : Int) < 1073741824 by decide)⟩, _, rfl, _, _, rfl, rfl, (show (0 : Int) < 1 + c % 8 by omega), ?_⟩
  refine ⟨4, rfl, by decide, by decide, fun acc hacc => ?_⟩
  refine comp_range (n := 4) (fun i H' => Same H H' ∧ ∃ ws : List Str, ws.length = i ∧ (∀ x ∈ ws, (x.length : Int) = 1 + c % 8) ∧ H' acc = some (.lst (ws.map V.str))) ⟨same_upd hacc, [], rfl, by simp, upd_same⟩ ?_ ?_
  · rintro i H1 hi ⟨g1, ws, hw, hln, e1⟩
    refine ⟨.skip (.keep (.keep (.keep .nil))), ?_⟩
    refine ⟨_, rfl, _, _, rfl, rfl, ⟨(show (0 : Int) < 64 by decide), (show (64 : Int) < 1073741824 by decide)⟩, _, rfl, _, rfl, _, rfl, _, _, rfl, rfl, .inl ⟨by decide, by decide⟩, _, _, _, _, rfl, (by omega), (by omega), fun x H2 g2 hxl => ?_⟩
    refine ⟨_, g2 _ _ e1, small1000 (by rw [List.length_map]; omega), same_set (g1.trans g2) hacc, ws ++ [x], by rw [List.length_append, hw]; rfl, fun y hy => by rcases List.mem_append.mp hy with h | h; exact hln y h; rw [List.mem_singleton.mp h]; exact hxl, ?_⟩
    rw [upd_same, List.map_append]
    rfl
  · rintro H1 ⟨g1, ws, hw, hln, e1⟩
    exact q acc H1 ws g1 hacc hw ⟨(1 + c % 8).toNat, fun y hy => by have := hln y hy; omega⟩ e1
theorem pick {ws : List Str} (h : ws.length = 4) (z : Int) : ∃ x, x ∈ ws ∧ atI (ws.map V.str) (z % 4) = some (.str x) := by
  obtain ⟨v, hv, e⟩ := atI_in (xs := ws.map V.str) (i := z % 4) (by omega) (by rw [List.length_map]; omega)
  obtain ⟨x, hx, rfl⟩ := List.mem_map.mp hv
  exact ⟨x, hx, e⟩
theorem paired_take {α : Type} {F : α → V → Prop} : ∀ {as : List α} {us : List V} (n : Nat), Paired F as us → Paired F (as.take n) (us.take n)
  | _, _, 0, _ => .nil
  | _, _, _ + 1, .nil => .nil
  | _, _, n + 1, .cons r t => .cons r (paired_take n t)
theorem cut_front (xs : List V) (k : Int) (h : 0 ≤ k) : cutV xs none (some k) = xs.take k.toNat := by
  unfold cutV
  have e : ((k.toNat : Nat) : Int) = k := by omega
  rw [HT.sIx_none, ← e, HT.sIx_nat, Int.toNat_natCast]
  simp
def sp_leaf : Sp := fun vs H Q _ => ∃ (c : Int) (l : Addr) (ws : List Str), vs = [.int c, .ref l] ∧ H l = some (.lst (ws.map V.str)) ∧ ws.length = 4 ∧ ∀ (t : Tr) (v : V) (H' : Hp), Same H H' → Rep H' t v → t.size = 1 → Q v H'
abbrev s_law_leaf : Stmt := top 14
theorem sc_law_leaf : FnScope ["_law_cell", "_law_words_here", "_law_number", "_law_atoms"] ["_law_cell", "_law_words_here"] (defScope s_law_leaf) := ⟨rfl, rfl, rfl, by decide +kernel, rfl, by decide +kernel, by decide +kernel⟩
theorem ok_leaf {k : Nat} {f : Addr} {fd : FuncData} (F : Fun K "_law_leaf" "_law_leaf" s_law_leaf f fd) (z_tuple : mg "tuple" = none) : FnOk P w K mg base CX0 (k + 1) f fd ["_law_cell", "_law_words_here"] sp_leaf := by
  refine F.ok sc_law_leaf (fun vs H Q E h => ?_) (fun cdv A outer s H vs Q E hr h => ?_)
  · obtain ⟨c, l, ws, rfl, _⟩ := h
    rfl
  obtain ⟨c, l, ws, rfl, hl, hw, q⟩ := h
  refine ⟨_, (Sd.un (pss_consS (ps_setS (i := 2) sc_law_leaf.nd rfl (Or.inl rfl) ⟨pe_op op_mod (pe_op op_mul (pv 0) pe_int) pe_int⟩)
    (pss_consS (ps_ifS ⟨pt_cmpR op_eq (pe_op op_mod (pv 2) pe_int) pe_int (nomark _)⟩ (pss_oneS (ps_retS (pe_tupS (pa_consS ⟨pe_str⟩ (pa_consS ⟨pe_op op_mod (pv 0) (pe_op op_pow pe_int pe_int)⟩ ⟨pa_nil⟩))))) ⟨pss_nil⟩)
    (pss_consS (ps_ifS ⟨pt_cmpR op_eq (pe_op op_mod (pv 2) pe_int) pe_int (nomark _)⟩ (pss_consS (ps_setS (i := 3) sc_law_leaf.nd rfl (Or.inl rfl) (pe_lstS (pa_consS (pe_tupS (pa_consS ⟨pe_str⟩ (pa_consS (pe_ixS (r := rIxL K) ix_list ⟨pv 1⟩ ⟨pe_op op_mod (pe_op op_fdiv (pv 2) pe_int) pe_int⟩ (fun _ _ => rfl)) ⟨pa_nil⟩))) (pa_consS (pe_tupS (pa_consS ⟨pe_str⟩ (pa_consS ⟨pe_op op_mod (pv 0) pe_int⟩ ⟨pa_nil⟩))) (pa_consS (pe_tupS (pa_consS ⟨pe_str⟩ (pa_consS (pe_ixS (r := rIxL K) ix_list ⟨pv 1⟩ ⟨pe_op op_mod (pe_op op_fdiv (pv 2) pe_int) pe_int⟩ (fun _ _ => rfl)) (pa_consS (pe_tupS ⟨pa_nil⟩) ⟨pa_nil⟩)))) ⟨pa_nil⟩)))))
    (pss_oneS (ps_retS (pe_tupS (pa_consS ⟨pe_str⟩ (pa_consS (pe_ixS (r := rIxL K) ix_list ⟨pv 1⟩ ⟨pe_op op_mod (pe_op op_fdiv (pv 2) pe_int) pe_int⟩ (fun _ _ => rfl)) (pa_consS (pe_callTyS call_tuple_of (by rfl) z_tuple PyProof.Rows.boot_tuple (pa_consS ⟨pe_slice (r := rSlL K) sl_list (pv 3) po_none (po_some (pe_op op_mod (pe_op op_fdiv (pv 2) pe_int) pe_int))⟩ ⟨pa_nil⟩)) ⟨pa_nil⟩))))))) ⟨pss_nil⟩)
    (pss_oneS (ps_retS (pe_tupS (pa_consS (pe_ixS (r := rIxL K) ix_list ⟨pe_lstR [.str "num", .str "ask", .str "stop", .str "name"] (by rfl)⟩ ⟨pe_op op_mod (pv 2) pe_int⟩ (fun _ _ => rfl)) (pa_consS (pe_ixS (r := rIxL K) ix_list ⟨pv 1⟩ ⟨pe_op op_mod (pe_op op_fdiv (pv 2) pe_int) pe_int⟩ (fun _ _ => rfl)) ⟨pa_nil⟩))))))))), ?_⟩
  refine ⟨_, rfl, _, _, rfl, rfl, .inr ⟨by decide, by decide⟩, _, _, rfl, rfl, (show (0 : Int) < 2147483647 by decide), ?_⟩
  dsimp only
  generalize c * 48271 % 2147483647 = N
  have d2 : 2 ≤ sizeLine := by decide
  have d3 : 3 ≤ sizeLine := by decide
  have d0 : 0 ≤ sizeLine := by decide
  have d4 : (0 : Int) < 4 := by decide
  have d5 : (0 : Int) < 5 := by decide
  obtain ⟨x, hx, ex⟩ := pick hw (N / 5)
  refine ⟨_, rfl, _, _, rfl, rfl, d5, rfl, _, rfl, ?_⟩
  refine ite2 (fun _ => ?_) (fun c1 => ?_)
  · refine ⟨_, rfl, _, _, rfl, rfl, ⟨by decide, by decide, by decide⟩, _, _, rfl, rfl, (show (0 : Int) < 10 ^ 30 by decide), d2, fun p hp => ?_⟩
    exact q (.num _) _ _ (same_upd hp) ⟨p, rfl, upd_same⟩ rfl
  refine ⟨_, rfl, _, _, rfl, rfl, d5, rfl, _, rfl, ?_⟩
  refine ite2 (fun _ => ?_) (fun c2 => ?_)
  · obtain ⟨y1, hy1, e1⟩ := pick hw (N / 20)
    obtain ⟨y2, hy2, e2⟩ := pick hw (N / 80)
    refine ⟨_, rfl, _, rfl, _, _, rfl, rfl, ⟨(show (0 : Int) < 20 by decide), (show (20 : Int) < 1073741824 by decide)⟩, _, _, rfl, rfl, d4, l, _, _, _, rfl, rfl, SqL.of hl, e1, d2, fun p1 hp1 => ?_⟩
    have g1 := same_upd (o := .tup [.str "name", .str y1]) hp1
    refine ⟨_, rfl, _, _, rfl, rfl, (show (0 : Int) < 1000 by decide), d2, fun p4 hp4 => ?_⟩
    have g5 := same_upd (o := .tup [.str "num", .int (c % 1000)]) hp4
    refine ⟨_, rfl, _, rfl, _, _, rfl, rfl, ⟨(show (0 : Int) < 80 by decide), (show (80 : Int) < 1073741824 by decide)⟩, _, _, rfl, rfl, d4, l, _, _, _, rfl, rfl, SqL.of (g5 _ _ (g1 _ _ hl)), e2, d0, fun p2 hp2 => ⟨d3, fun p3 hp3 => ⟨d3, fun ls hls => ?_⟩⟩⟩
    have g2 := same_upd (o := .tup []) hp2
    have g3 := same_upd (o := .tup [.str "gap", .str y2, .ref p2]) hp3
    have g4 := same_upd (o := .lst [.ref p1, .ref p4, .ref p3]) hls
    have gA := g1.trans (g5.trans (g2.trans (g3.trans g4)))
    have t1 := g4 _ _ (g3 _ _ (g2 _ _ (g5 _ _ (upd_same (H := H) (a := p1) (o := .tup [.str "name", .str y1])))))
    have t4 := g4 _ _ (g3 _ _ (g2 _ _ (upd_same (H := upd H p1 (.tup [.str "name", .str y1])) (a := p4) (o := .tup [.str "num", .int (c % 1000)]))))
    have t2 := g4 _ _ (g3 _ _ (upd_same (H := upd (upd H p1 (.tup [.str "name", .str y1])) p4 (.tup [.str "num", .int (c % 1000)])) (a := p2) (o := .tup [])))
    have t3 := g4 _ _ (upd_same (H := upd (upd (upd H p1 (.tup [.str "name", .str y1])) p4 (.tup [.str "num", .int (c % 1000)])) p2 (.tup [])) (a := p3) (o := .tup [.str "gap", .str y2, .ref p2]))
    have els : (upd (upd (upd (upd (upd H p1 (.tup [.str "name", .str y1])) p4 (.tup [.str "num", .int (c % 1000)])) p2 (.tup [])) p3 (.tup [.str "gap", .str y2, .ref p2])) ls (.lst [.ref p1, .ref p4, .ref p3])) ls = some (.lst [.ref p1, .ref p4, .ref p3]) := upd_same
    generalize upd (upd (upd (upd (upd H p1 (.tup [.str "name", .str y1])) p4 (.tup [.str "num", .int (c % 1000)])) p2 (.tup [])) p3 (.tup [.str "gap", .str y2, .ref p2])) ls (.lst [.ref p1, .ref p4, .ref p3]) = H1 at gA t1 t2 t3 t4 els ⊢
    clear g1 g2 g3 g4 g5
    generalize hz : N / 320 % 4 = z
    have hz0 : 0 ≤ z := by omega
    refine ⟨_, rfl, _, rfl, _, _, rfl, rfl, ⟨(show (0 : Int) < 5 by decide), (show (5 : Int) < 1073741824 by decide)⟩, _, _, rfl, rfl, d4, l, _, _, _, rfl, rfl, SqL.of (gA _ _ hl), ex, _, rfl, _, rfl, _, _, rfl, rfl, ⟨(show (0 : Int) < 320 by decide), (show (320 : Int) < 1073741824 by decide)⟩, _, _, rfl, rfl, d4, z, (by rw [← hz]), ls, _, rfl, SqL.of els, fun p5 hp5 => ⟨p5, _, rfl, .inl ⟨SqL.of upd_same, fun p6 hp6 => ⟨d3, fun p7 hp7 => ?_⟩⟩⟩⟩
    have g6 := same_upd (o := .lst (cutV [.ref p1, .ref p4, .ref p3] none (some z))) hp5
    have g7 := same_upd (o := .tup (cutV [.ref p1, .ref p4, .ref p3] none (some z))) hp6
    have g8 := same_upd (o := .tup [.str "gap", .str x, .ref p6]) hp7
    have gC := (g6.trans (g7.trans g8)).tk
    refine q (.gap x ([Atom.name y1, .num (c % 1000), .gap y2].take z.toNat)) _ _ (gA.trans (g6.trans (g7.trans g8))) ⟨p7, p6, _, rfl, upd_same, g8 _ _ upd_same, ?_, ?_⟩ rfl
    · exact Nat.le_trans (cutV_length _ _ _) (show 3 ≤ 1000 by decide)
    · have all : ∀ H' : Hp, Tk H1 H' → Paired (AtRep H') ([Atom.name y1, .num (c % 1000), .gap y2].take z.toNat) (cutV [.ref p1, .ref p4, .ref p3] none (some z)) := fun H' k => by
        rw [cut_front _ _ hz0]
        exact paired_take _ (.cons ⟨p1, rfl, k _ _ t1⟩ (.cons ⟨p4, rfl, k _ _ t4⟩ (.cons ⟨p3, p2, rfl, k _ _ t3, k _ _ t2⟩ .nil)))
      exact all _ gC
  · have n1 : N % 5 ≠ 0 := fun z => c1 (decide_eq_true (congrArg V.int z))
    have n2 : N % 5 ≠ 4 := fun z => c2 (decide_eq_true (congrArg V.int z))
    have h0 := Int.emod_nonneg N (show (5 : Int) ≠ 0 by decide)
    have h1 := Int.emod_lt_of_pos N d5
    refine ⟨(by show 4 ≤ sizeLine; decide), fun p0 hp0 => ?_⟩
    have g0 := same_upd (o := .lst [.str "num", .str "ask", .str "stop", .str "name"]) hp0
    have hv : ∃ (tr : Tr) (sg : Str), atI [V.str "num", V.str "ask", V.str "stop", V.str "name"] (N % 5) = some (.str sg) ∧ tr.size = 1 ∧ ∀ (H' : Hp) (p : Addr), H' p = some (.tup [.str sg, .str x]) → Rep H' tr (.ref p) := by
      have h3 : N % 5 = 1 ∨ N % 5 = 2 ∨ N % 5 = 3 := by omega
      rcases h3 with h | h | h
      · rw [h]; exact ⟨.ask x, "ask", rfl, rfl, fun H' p e => ⟨p, rfl, e⟩⟩
      · rw [h]; exact ⟨.stop x, "stop", rfl, rfl, fun H' p e => ⟨p, rfl, e⟩⟩
      · rw [h]; exact ⟨.name x, "name", rfl, rfl, fun H' p e => ⟨p, rfl, e⟩⟩
    obtain ⟨tr, sg, ev, hs, mk⟩ := hv
    refine ⟨_, rfl, _, _, rfl, rfl, d5, p0, _, _, _, rfl, rfl, SqL.of upd_same, ev, _, rfl, _, rfl, _, _, rfl, rfl, ⟨(show (0 : Int) < 5 by decide), (show (5 : Int) < 1073741824 by decide)⟩, _, _, rfl, rfl, d4, l, _, _, _, rfl, rfl, SqL.of (g0 _ _ hl), ex, d2, fun p hp => ?_⟩
    exact q tr _ _ (g0.trans (same_upd hp)) (mk _ _ upd_same) hs
def sp_whole : Sp := fun vs H Q _ => ∃ i : Int, vs = [.int i] ∧ Q (.bl true) H
theorem ok_whole {k : Nat} {f : Addr} {fd : FuncData} (F : Fun K "_law_whole" "_law_whole" s_law_whole f fd) (z_isinstance : mg "isinstance" = none) (z_int : mg "int" = none) (z_bool : mg "bool" = none) : FnOk P w K mg base CX0 (k + 1) f fd ["_law_found"] sp_whole := by
  refine F.ok sc_law_whole (fun vs H Q E h => ?_) (fun cdv A outer s H vs Q E hr h => ?_)
  · obtain ⟨i, rfl, _⟩ := h
    rfl
  obtain ⟨i, rfl, q⟩ := h
  refine ⟨_, (pss_one (ps_ret (pe_and (pe_callB call_isi (by rfl) z_isinstance PyProof.Rows.boot_isinstance (pa_cons (pv 0) (pa_cons (pe_bltn (v := .ty _) (by rfl) z_int PyProof.Rows.boot_int (by rfl)) pa_nil))) (pe_one (pe_not (pe_callB call_isi (by rfl) z_isinstance PyProof.Rows.boot_isinstance (pa_cons (pv 0) (pa_cons (pe_bltn (v := .ty _) (by rfl) z_bool PyProof.Rows.boot_bool (by rfl)) pa_nil)))))))), ?_⟩
  refine ⟨_, rfl, _, "int", _, true, rfl, .int i, rfl, true, rfl, ?_⟩
  exact ⟨_, rfl, _, "bool", _, false, rfl, .int i, rfl, false, rfl, q⟩
end
end K01
set_option Elab.async false
set_option linter.all false
set_option maxRecDepth 100000
set_option maxHeartbeats 4000000
namespace L2
open PySem
theorem sIx_int {n d : Nat} {v : Int} (h0 : 0 ≤ v) (h1 : v ≤ n) : HT.sIx n d (some v) = v.toNat := by
  have e : ((v.toNat : Nat) : Int) = v := by omega
  rw [← e, HT.sIx_nat, Int.toNat_natCast]
  omega
theorem cutInts {ns : List Int} {lo hi : Option Int} {i j : Nat} (h1 : HT.sIx ns.length 0 lo = i) (h2 : HT.sIx ns.length ns.length hi = j) (h : j ≤ ns.length) : ∃ ms : List Int, cutV (ns.map V.int) lo hi = ms.map V.int ∧ ms.length = j - i := by
  refine ⟨(ns.drop i).take (j - i), ?_, ?_⟩
  · unfold cutV
    rw [List.length_map, h1, h2, ← List.map_drop, ← List.map_take]
  · rw [List.length_take, List.length_drop]
    omega
theorem dtT_dep : ∀ t : Tr, (dtT t).deep ≤ t.dep + 3
  | .num _ => by simp [dtT, Dt.deep, Dt.deeps]
  | .name _ => by simp [dtT, Dt.deep, Dt.deeps]
  | .ask _ => by simp [dtT, Dt.deep, Dt.deeps]
  | .stop _ => by simp [dtT, Dt.deep, Dt.deeps]
  | .gap _ [] => by simp [dtT, Dt.deep, Dt.deeps, Tr.dep]
  | .gap _ (a :: as) => by have := dtA_deeps (a :: as); simp only [dtT, Dt.deep, Dt.deeps, Tr.dep]; omega
  | .say a => by have := dtT_dep a; simp [dtT, Dt.deep, Dt.deeps, Tr.dep]; omega
  | .bin _ a b => by have := dtT_dep a; have := dtT_dep b; simp [dtT, Dt.deep, Dt.deeps, Tr.dep]; omega
  | .ite a b c => by have := dtT_dep a; have := dtT_dep b; have := dtT_dep c; simp [dtT, Dt.deep, Dt.deeps, Tr.dep]; omega
  | .lett _ a b => by have := dtT_dep a; have := dtT_dep b; simp [dtT, Dt.deep, Dt.deeps, Tr.dep]; omega
end L2
namespace K01
open PySem PySem.Spec L2 PyProof.Rows
abbrev s_law_tree : Stmt := top 15
theorem sc_law_tree : FnScope ["_law_cells", "_law_words_here", "_law_deep", "_law_number", "_law_rest", "_law_at", "_law_sign", "_law_one", "_law_far", "_law_two", "_law_other"] ["_law_cells", "_law_words_here", "_law_deep"] (defScope s_law_tree) := ⟨rfl, rfl, rfl, by decide +kernel, rfl, by decide +kernel, by decide +kernel⟩
section
variable {P : Program} {w : World} {K : PySem.W.Frag} {mg : Str → Option Value} {base : Heap}
def sp_tree (K : PySem.W.Frag) (n : Nat) : Sp := fun vs H Q _ => ∃ (a l : Addr) (ns : List Int) (ws : List Str) (d : Int), vs = [.ref a, .ref l, .int d] ∧ SqL K H a (ns.map V.int) ∧ ns.length ≤ 63 ∧ H l = some (.lst (ws.map V.str)) ∧ ws.length = 4 ∧ 0 ≤ d ∧ d < n ∧
  ∀ (t : Tr) (v : V) (H' : Hp), Same H H' → Rep H' t v → t.size ≤ 3 * ns.length + 1 → (t.dep : Int) ≤ d + 2 → Q v H'
def kds : List Kd := [.say, .add, .sub, .mul, .thn, .ite, .ite, .lett, .lett]
theorem pickSign (z : Int) : ∃ kd : Kd, kd ∈ kds ∧ atI (kds.map fun k => V.str k.s) (z % 9) = some (.str kd.s) := by
  have hl : ((kds.map fun k => V.str k.s).length : Int) = 9 := rfl
  obtain ⟨v, hv, e⟩ := atI_in (xs := kds.map fun k => V.str k.s) (i := z % 9) (by omega) (by omega)
  obtain ⟨kd, hk, rfl⟩ := List.mem_map.mp hv
  exact ⟨kd, hk, e⟩
theorem ok_tree {k n : Nat} {f g1 : Addr} {fd gd1 : FuncData} (F : Fun K "_law_tree" "_law_tree" s_law_tree f fd) (z_len : mg "len" = none) (G_law_leaf : FnB P w K mg base k "_law_leaf" g1 gd1 ["_law_cell", "_law_words_here"] sp_leaf)
    (G_law_tree : FnB P w K mg base k "_law_tree" f fd ["_law_cells", "_law_words_here", "_law_deep"] (sp_tree K n)) :
    FnOk P w K mg base CX0 (k + 1) f fd ["_law_cells", "_law_words_here", "_law_deep"] (sp_tree K (n + 1)) := by
  refine F.ok sc_law_tree (fun vs H Q E h => ?_) (fun cdv A outer s H vs Q E hr h => ?_)
  · obtain ⟨a, l, ns, ws, d, rfl, _⟩ := h
    rfl
  obtain ⟨a, l, ns, ws, d, rfl, hS, h63, hl, hw, hd0, hdn, q⟩ := h
  refine ⟨_, (Sd.un (pss_consS (ps_ifS ⟨pt_cmpR op_eq (pe_callB call_len_seq (by rfl) z_len PySem.boot_len (pa_cons (pv 0) pa_nil)) pe_int (nomark _)⟩ (pss_oneS (ps_retS (pe_tupS (pa_consS ⟨pe_str⟩ (pa_consS (pe_ixS (r := rIxL K) ix_list ⟨pv 1⟩ ⟨pe_op op_mod (pv 2) pe_int⟩ (fun _ _ => rfl)) ⟨pa_nil⟩))))) ⟨pss_nil⟩)
    (pss_consS (ps_ifS ⟨(pw_or (pt_cmpR op_eq (pe_callB call_len_seq (by rfl) z_len PySem.boot_len (pa_cons (pv 0) pa_nil)) pe_int (nomark _)) (pw_or1 (pt_cmpR op_eq (pv 2) pe_int (nomark _)))).pt⟩ (pss_oneS (ps_retS ⟨pe_call G_law_leaf.ok hr (by rfl) G_law_leaf.gl G_law_leaf.kp G_law_leaf.bd .nil pass0 (pa_cons (pe_ix (r := rIxL K) ix_list (pv 0) pe_int (fun _ _ => rfl)) (pa_cons (pv 1) pa_nil))⟩)) ⟨pss_nil⟩)
    (pss_consS (ps_setS (i := 3) sc_law_tree.nd rfl (Or.inl rfl) ⟨pe_op op_mod (pe_op op_mul (pe_ix (r := rIxL K) ix_list (pv 0) pe_int (fun _ _ => rfl)) pe_int) pe_int⟩)
    (pss_consS (ps_setS (i := 4) sc_law_tree.nd rfl (Or.inl rfl) ⟨pe_slice (r := rSlL K) sl_list (pv 0) (po_some pe_int) po_none⟩)
    (pss_consS (ps_setS (i := 5) sc_law_tree.nd rfl (Or.inl rfl) ⟨pe_op op_mod (pe_op op_fdiv (pv 3) pe_int) (pe_op op_add (pe_callB call_len_seq (by rfl) z_len PySem.boot_len (pa_cons (pv 4) pa_nil)) pe_int)⟩)
    (pss_consS (ps_setS (i := 6) sc_law_tree.nd rfl (Or.inl rfl) (pe_ixS (r := rIxL K) ix_list ⟨pe_lstR [.str "say", .str "add", .str "sub", .str "mul", .str "then", .str "if", .str "if", .str "let", .str "let"] (by rfl)⟩ ⟨pe_op op_mod (pv 3) pe_int⟩ (fun _ _ => rfl)))
    (pss_consS (ps_ifS ⟨pt_cmpR op_eq (pv 6) pe_str (nomark _)⟩ (pss_oneS (ps_retS (pe_tupS (pa_consS ⟨pe_str⟩ (pa_consS ⟨pe_call G_law_tree.ok hr (by rfl) G_law_tree.gl G_law_tree.kp G_law_tree.bd .nil pass0 (pa_cons (pv 4) (pa_cons (pv 1) (pa_cons (pe_op op_sub (pv 2) pe_int) pa_nil)))⟩ ⟨pa_nil⟩))))) ⟨pss_nil⟩)
    (pss_consS (ps_setS (i := 7) sc_law_tree.nd rfl (Or.inl rfl) ⟨pe_call G_law_tree.ok hr (by rfl) G_law_tree.gl G_law_tree.kp G_law_tree.bd .nil pass0 (pa_cons (pe_slice (r := rSlL K) sl_list (pv 4) po_none (po_some (pv 5))) (pa_cons (pv 1) (pa_cons (pe_op op_sub (pv 2) pe_int) pa_nil)))⟩)
    (pss_consS (ps_ifS ⟨pt_cmpR op_eq (pv 6) pe_str (nomark _)⟩ (pss_consS (ps_setS (i := 8) sc_law_tree.nd rfl (Or.inl rfl) ⟨pe_op op_add (pv 5) (pe_op op_mod (pe_op op_fdiv (pv 3) pe_int) (pe_op op_add (pe_op op_sub (pe_callB call_len_seq (by rfl) z_len PySem.boot_len (pa_cons (pv 4) pa_nil)) (pv 5)) pe_int))⟩)
    (pss_consS (ps_setS (i := 9) sc_law_tree.nd rfl (Or.inl rfl) ⟨pe_call G_law_tree.ok hr (by rfl) G_law_tree.gl G_law_tree.kp G_law_tree.bd .nil pass0 (pa_cons (pe_slice (r := rSlL K) sl_list (pv 4) (po_some (pv 5)) (po_some (pv 8))) (pa_cons (pv 1) (pa_cons (pe_op op_sub (pv 2) pe_int) pa_nil)))⟩)
    (pss_oneS (ps_retS (pe_tupS (pa_consS ⟨pe_str⟩ (pa_consS ⟨pv 7⟩ (pa_consS ⟨pv 9⟩ (pa_consS ⟨pe_call G_law_tree.ok hr (by rfl) G_law_tree.gl G_law_tree.kp G_law_tree.bd .nil pass0 (pa_cons (pe_slice (r := rSlL K) sl_list (pv 4) (po_some (pv 8)) po_none) (pa_cons (pv 1) (pa_cons (pe_op op_sub (pv 2) pe_int) pa_nil)))⟩ ⟨pa_nil⟩))))))))) ⟨pss_nil⟩)
    (pss_consS (ps_setS (i := 10) sc_law_tree.nd rfl (Or.inl rfl) ⟨pe_call G_law_tree.ok hr (by rfl) G_law_tree.gl G_law_tree.kp G_law_tree.bd .nil pass0 (pa_cons (pe_slice (r := rSlL K) sl_list (pv 4) (po_some (pv 5)) po_none) (pa_cons (pv 1) (pa_cons (pe_op op_sub (pv 2) pe_int) pa_nil)))⟩)
    (pss_consS (ps_ifS ⟨pt_cmpR op_eq (pv 6) pe_str (nomark _)⟩ (pss_oneS (ps_retS (pe_tupS (pa_consS ⟨pe_str⟩ (pa_consS (pe_ixS (r := rIxL K) ix_list ⟨pv 1⟩ ⟨pe_op op_mod (pe_op op_fdiv (pv 3) pe_int) pe_int⟩ (fun _ _ => rfl)) (pa_consS ⟨pv 7⟩ (pa_consS ⟨pv 10⟩ ⟨pa_nil⟩))))))) ⟨pss_nil⟩)
    (pss_oneS (ps_retS (pe_tupS (pa_consS ⟨pv 6⟩ (pa_consS ⟨pv 7⟩ (pa_consS ⟨pv 10⟩ ⟨pa_nil⟩)))))))))))))))))), ?_⟩
  have d2 : 2 ≤ sizeLine := by decide
  have d3 : 3 ≤ sizeLine := by decide
  have d4 : 4 ≤ sizeLine := by decide
  have d9 : 9 ≤ sizeLine := by decide
  have z4 : (0 : Int) < 4 := by decide
  have hlen : (ns.map V.int).length = ns.length := List.length_map _
  refine ⟨_, rfl, a, _, rfl, .inl hS, rfl, _, rfl, ?_⟩
  refine ite2 (fun _ => ?_) (fun c0 => ?_)
  · obtain ⟨x, hx, ex⟩ := pick hw d
    refine ⟨_, rfl, _, rfl, _, _, rfl, rfl, z4, l, _, _, _, rfl, rfl, SqL.of hl, ex, d2, fun p hp => ?_⟩
    exact q (.name x) _ _ (same_upd hp) ⟨p, rfl, upd_same⟩ (by show 1 ≤ _; omega) (by show ((1 : Nat) : Int) ≤ _; omega)
  have c0' : ns.length ≠ 0 := fun z => c0 (decide_eq_true (by rw [hlen, z]; rfl))
  obtain ⟨v0, hv0, e0⟩ := atI_in (xs := ns.map V.int) (i := 0) (Int.le_refl 0) (by rw [hlen]; omega)
  obtain ⟨i0, _, rfl⟩ := List.mem_map.mp hv0
  refine ⟨_, rfl, a, _, rfl, .inl hS, rfl, _, rfl, ?_⟩
  refine ite2 (fun _ => ?_) (fun c1 => ⟨_, rfl, rfl, _, rfl, ite2 (fun _ => ?_) (fun c2 => ?_)⟩)
  · exact ⟨_, rfl, a, _, 0, _, rfl, rfl, hS, e0, _, rfl, i0, l, ws, rfl, hl, hw, fun t v H' g r sz => q t v H' g r (by omega) (by have := dep_leaf sz; omega)⟩
  · exact ⟨_, rfl, a, _, 0, _, rfl, rfl, hS, e0, _, rfl, i0, l, ws, rfl, hl, hw, fun t v H' g r sz => q t v H' g r (by omega) (by have := dep_leaf sz; omega)⟩
  have c2' : d ≠ 0 := fun z => c2 (decide_eq_true (by rw [z]))
  refine ⟨_, rfl, a, _, 0, _, rfl, rfl, hS, e0, _, _, rfl, rfl, .inr ⟨by decide, by decide⟩, _, _, rfl, rfl, (show (0 : Int) < 2147483647 by decide), ?_⟩
  obtain ⟨ms, em, lm⟩ := cutInts (ns := ns) (lo := some 1) (hi := none) (i := 1) (j := ns.length) (sIx_int (by decide) (by omega)) rfl (Nat.le_refl _)
  refine ⟨_, rfl, _, rfl, a, _, rfl, hS, fun pr hpr => ?_⟩
  rw [em]
  have g1 := same_upd (o := .lst (ms.map V.int)) hpr
  have epr : upd H pr (.lst (ms.map V.int)) pr = some (.lst (ms.map V.int)) := upd_same
  have hlm : (ms.map V.int).length = ms.length := List.length_map _
  generalize upd H pr (.lst (ms.map V.int)) = H1 at g1 epr ⊢
  dsimp only
  generalize hN : i0 * 69621 % 2147483647 = N
  have hl1 := g1 _ _ hl
  refine ⟨_, rfl, _, _, rfl, rfl, ⟨(show (0 : Int) < 9 by decide), (show (9 : Int) < 1073741824 by decide)⟩, _, rfl, pr, _, rfl, .inl (SqL.of epr), _, _, rfl, rfl, _, _, rfl, rfl, (by rw [hlm]; omega), ?_⟩
  obtain ⟨at_, hat, hat0, hat1⟩ : ∃ at_ : Int, N / 9 % (((ms.map V.int).length : Int) + 1) = at_ ∧ 0 ≤ at_ ∧ at_ ≤ ms.length :=
    ⟨_, rfl, Int.emod_nonneg _ (by omega), by have := Int.emod_lt_of_pos (N / 9) (show (0 : Int) < ((ms.map V.int).length : Int) + 1 by omega); rw [hlm] at this ⊢; omega⟩
  dsimp only
  rw [hat]
  obtain ⟨kd, hk, ek⟩ := pickSign N
  refine ⟨d9, fun ps hps => ⟨_, rfl, _, _, rfl, rfl, (show (0 : Int) < 9 by decide), ps, _, _, _, rfl, rfl, SqL.of upd_same, ek, ?_⟩⟩
  have g2 := same_upd (o := .lst [.str "say", .str "add", .str "sub", .str "mul", .str "then", .str "if", .str "if", .str "let", .str "let"]) hps
  have epr2 := g2 _ _ epr
  have hl2 := g2 _ _ hl1
  have gA := g1.trans g2
  generalize upd H1 ps (.lst [.str "say", .str "add", .str "sub", .str "mul", .str "then", .str "if", .str "if", .str "let", .str "let"]) = H2 at g2 epr2 hl2 gA ⊢
  refine ⟨_, rfl, rfl, _, rfl, ?_⟩
  refine ite2 (fun c3 => ?_) (fun c3 => ?_)
  · refine ⟨_, rfl, _, rfl, _, rfl, _, _, rfl, rfl, pr, l, ms, ws, d - 1, rfl, SqL.of epr2, by omega, hl2, hw, by omega, by omega, fun t v H3 g3 r3 sz3 dp3 => ⟨d2, fun p hp => ?_⟩⟩
    exact q (.say t) _ _ (gA.trans (g3.trans (same_upd hp))) ⟨p, v, rfl, upd_same, r3.mono (same_upd hp).tk⟩ (by show t.size + 1 ≤ _; omega) (by show ((t.dep + 1 : Nat) : Int) ≤ _; omega)
  obtain ⟨m1, em1, lm1⟩ := cutInts (ns := ms) (lo := none) (hi := some at_) (i := 0) (j := at_.toNat) rfl (sIx_int hat0 hat1) (by omega)
  refine ⟨_, rfl, _, rfl, _, rfl, pr, _, rfl, SqL.of epr2, fun p1 hp1 => ?_⟩
  rw [em1]
  have g3 := same_upd (o := .lst (m1.map V.int)) hp1
  refine ⟨_, rfl, _, rfl, _, _, rfl, rfl, p1, l, m1, ws, d - 1, rfl, SqL.of upd_same, by omega, g3 _ _ hl2, hw, by omega, by omega, fun t1 v1 H4 g4 r1 sz1 dp1 => ?_⟩
  have gB := gA.trans (g3.trans g4)
  have epr4 := g4 _ _ (g3 _ _ epr2)
  have hl4 := g4 _ _ (g3 _ _ hl2)
  refine ⟨_, rfl, rfl, _, rfl, ?_⟩
  refine ite2 (fun c4 => ?_) (fun c4 => ?_)
  · refine ⟨_, rfl, _, rfl, _, _, rfl, rfl, ⟨(show (0 : Int) < 1009 by decide), (show (1009 : Int) < 1073741824 by decide)⟩, _, rfl, pr, _, rfl, .inl (SqL.of epr4), _, rfl, _, _, rfl, rfl, _, _, rfl, rfl, _, _, rfl, rfl, (by rw [hlm]; omega), _, _, rfl, rfl, ?_⟩
    obtain ⟨far, hfar, hf0, hf1⟩ : ∃ far : Int, at_ + N / 1009 % (((ms.map V.int).length : Int) - at_ + 1) = far ∧ at_ ≤ far ∧ far ≤ ms.length :=
      ⟨_, rfl, by have := Int.emod_nonneg (N / 1009) (show ((ms.map V.int).length : Int) - at_ + 1 ≠ 0 by rw [hlm]; omega); omega, by have := Int.emod_lt_of_pos (N / 1009) (show (0 : Int) < ((ms.map V.int).length : Int) - at_ + 1 by rw [hlm]; omega); rw [hlm] at this ⊢; omega⟩
    dsimp only
    rw [hfar]
    obtain ⟨m2, em2, lm2⟩ := cutInts (ns := ms) (lo := some at_) (hi := some far) (i := at_.toNat) (j := far.toNat) (sIx_int hat0 hat1) (sIx_int (by omega) hf1) (by omega)
    obtain ⟨m3, em3, lm3⟩ := cutInts (ns := ms) (lo := some far) (hi := none) (i := far.toNat) (j := ms.length) (sIx_int (by omega) hf1) rfl (Nat.le_refl _)
    refine ⟨_, rfl, _, rfl, _, rfl, _, rfl, _, rfl, pr, _, rfl, SqL.of epr4, fun p2 hp2 => ?_⟩
    rw [em2]
    have g5 := same_upd (o := .lst (m2.map V.int)) hp2
    refine ⟨_, rfl, _, rfl, _, _, rfl, rfl, p2, l, m2, ws, d - 1, rfl, SqL.of upd_same, by omega, g5 _ _ hl4, hw, by omega, by omega, fun t2 v2 H6 g6 r2 sz2 dp2 => ?_⟩
    have epr6 := g6 _ _ (g5 _ _ epr4)
    have hl6 := g6 _ _ (g5 _ _ hl4)
    refine ⟨_, rfl, _, rfl, _, rfl, _, rfl, _, rfl, pr, _, rfl, SqL.of epr6, fun p3 hp3 => ?_⟩
    rw [em3]
    have g7 := same_upd (o := .lst (m3.map V.int)) hp3
    refine ⟨_, rfl, _, rfl, _, _, rfl, rfl, p3, l, m3, ws, d - 1, rfl, SqL.of upd_same, by omega, g7 _ _ hl6, hw, by omega, by omega, fun t3 v3 H8 g8 r3 sz3 dp3 => ⟨d4, fun p hp => ?_⟩⟩
    have gp := same_upd (o := .tup [.str "if", v1, v2, v3]) hp
    exact q (.ite t1 t2 t3) _ _ (gB.trans (g5.trans (g6.trans (g7.trans (g8.trans gp))))) ⟨p, v1, v2, v3, rfl, upd_same, r1.mono (g5.trans (g6.trans (g7.trans (g8.trans gp)))).tk, r2.mono (g7.trans (g8.trans gp)).tk, r3.mono gp.tk⟩ (by show t1.size + t2.size + t3.size + 1 ≤ _; omega) (by show ((max t1.dep (max t2.dep t3.dep) + 1 : Nat) : Int) ≤ _; omega)
  obtain ⟨m2, em2, lm2⟩ := cutInts (ns := ms) (lo := some at_) (hi := none) (i := at_.toNat) (j := ms.length) (sIx_int hat0 hat1) rfl (Nat.le_refl _)
  refine ⟨_, rfl, _, rfl, _, rfl, pr, _, rfl, SqL.of epr4, fun p2 hp2 => ?_⟩
  rw [em2]
  have g5 := same_upd (o := .lst (m2.map V.int)) hp2
  refine ⟨_, rfl, _, rfl, _, _, rfl, rfl, p2, l, m2, ws, d - 1, rfl, SqL.of upd_same, by omega, g5 _ _ hl4, hw, by omega, by omega, fun t2 v2 H6 g6 r2 sz2 dp2 => ?_⟩
  have hl6 := g6 _ _ (g5 _ _ hl4)
  have gC := gB.trans (g5.trans g6)
  have r1' := r1.mono (g5.trans g6).tk
  refine ⟨_, rfl, rfl, _, rfl, ?_⟩
  refine ite2 (fun c5 => ?_) (fun c5 => ?_)
  · obtain ⟨x, hx, ex⟩ := pick hw (N / 5003)
    refine ⟨_, rfl, _, rfl, _, _, rfl, rfl, ⟨(show (0 : Int) < 5003 by decide), (show (5003 : Int) < 1073741824 by decide)⟩, _, _, rfl, rfl, z4, l, _, _, _, rfl, rfl, SqL.of hl6, ex, _, rfl, _, rfl, d4, fun p hp => ?_⟩
    have gp := same_upd (o := .tup [.str "let", .str x, v1, v2]) hp
    exact q (.lett x t1 t2) _ _ (gC.trans gp) ⟨p, v1, v2, rfl, upd_same, r1'.mono gp.tk, r2.mono gp.tk⟩ (by show t1.size + t2.size + 1 ≤ _; omega) (by show ((max t1.dep t2.dep + 1 : Nat) : Int) ≤ _; omega)
  · refine ⟨_, rfl, _, rfl, _, rfl, d3, fun p hp => ?_⟩
    have gp := same_upd (o := .tup [.str kd.s, v1, v2]) hp
    have n3 : kd ≠ .say := fun z => c3 (decide_eq_true (by rw [z]; rfl))
    have n4 : kd ≠ .ite := fun z => c4 (decide_eq_true (by rw [z]; rfl))
    have n5 : kd ≠ .lett := fun z => c5 (decide_eq_true (by rw [z]; rfl))
    obtain ⟨o, ho⟩ : ∃ o : Bin, o.s = kd.s := by
      cases kd with
      | add => exact ⟨.add, rfl⟩
      | sub => exact ⟨.sub, rfl⟩
      | mul => exact ⟨.mul, rfl⟩
      | thn => exact ⟨.thn, rfl⟩
      | say => exact absurd rfl n3
      | ite => exact absurd rfl n4
      | lett => exact absurd rfl n5
      | _ => exact absurd hk (by decide)
    exact q (.bin o t1 t2) _ _ (gC.trans gp) ⟨p, v1, v2, rfl, by rw [ho]; exact upd_same, r1'.mono gp.tk, r2.mono gp.tk⟩ (by show t1.size + t2.size + 1 ≤ _; omega) (by show ((max t1.dep t2.dep + 1 : Nat) : Int) ≤ _; omega)
theorem none_left {k : Nat} {f : Addr} {fd : FuncData} : FnOk P w K mg base CX0 k f fd ["_law_cells", "_law_words_here", "_law_deep"] (sp_tree K 0) := by
  have no : ∀ vs H Q E, ¬ sp_tree K 0 vs H Q E := fun vs H Q E h => by
    obtain ⟨a, l, ns, ws, d, _, _, _, _, _, h1, h2, _⟩ := h
    omega
  exact ⟨fun vs H Q E h => absurd h (no vs H Q E), fun A outer s H args us vs Q E _ _ _ _ h => absurd h (no vs H Q E)⟩
theorem all_tree {k : Nat} {f g1 : Addr} {fd gd1 : FuncData} (F : Fun K "_law_tree" "_law_tree" s_law_tree f fd) (b : Binds K fd ["_law_cells", "_law_words_here", "_law_deep"] []) (m : mg "_law_tree" = some (.ref f)) (z_len : mg "len" = none)
    (G : FnB P w K mg base k "_law_leaf" g1 gd1 ["_law_cell", "_law_words_here"] sp_leaf) : ∀ n : Nat, FnB P w K mg base (k + n) "_law_tree" f fd ["_law_cells", "_law_words_here", "_law_deep"] (sp_tree K n)
  | 0 => ⟨none_left, b, F.kp, m⟩
  | n + 1 => ⟨ok_tree F z_len (G.up (Nat.le_add_right _ _)) (all_tree F b m z_len G n), b, F.kp, m⟩
end
end K01
set_option Elab.async false
set_option linter.all false
set_option maxRecDepth 100000
set_option maxHeartbeats 4000000
namespace L2
open PySem
def isR : V → Bool
  | .ref _ => true
  | _ => false
theorem Rep.items {H : Hp} {t : Tr} {v : V} (h : Rep H t v) : ∃ (a : Addr) (hs us : List V), v = .ref a ∧ H a = some (.tup (V.str t.sign :: (hs ++ us))) ∧ Paired (Rep H) t.parts us ∧ hs.length + 1 = t.head ∧ ((t.sign ≠ "gap" ∧ ∀ x ∈ hs, (∃ n, x = .int n) ∨ ∃ y, x = .str y) ∨ (t.sign = "gap" ∧ t.parts = [])) := by
  have sg : ∀ k : Kd, k ≠ .gap → k.s ≠ "gap" := by intro k hk; cases k <;> first | exact absurd rfl hk | decide
  cases t with
  | num n => obtain ⟨a, e, h⟩ := h; exact ⟨a, [.int n], [], e, h, .nil, rfl, .inl ⟨sg .num (by decide), fun x hx => .inl ⟨n, List.mem_singleton.mp hx⟩⟩⟩
  | name n => obtain ⟨a, e, h⟩ := h; exact ⟨a, [.str n], [], e, h, .nil, rfl, .inl ⟨sg .name (by decide), fun x hx => .inr ⟨n, List.mem_singleton.mp hx⟩⟩⟩
  | ask n => obtain ⟨a, e, h⟩ := h; exact ⟨a, [.str n], [], e, h, .nil, rfl, .inl ⟨sg .ask (by decide), fun x hx => .inr ⟨n, List.mem_singleton.mp hx⟩⟩⟩
  | stop n => obtain ⟨a, e, h⟩ := h; exact ⟨a, [.str n], [], e, h, .nil, rfl, .inl ⟨sg .stop (by decide), fun x hx => .inr ⟨n, List.mem_singleton.mp hx⟩⟩⟩
  | gap g as => obtain ⟨a, b, us, e, h, _⟩ := h; exact ⟨a, [.str g, .ref b], [], e, h, .nil, rfl, .inr ⟨rfl, rfl⟩⟩
  | say x => obtain ⟨a, u, e, h, r⟩ := h; exact ⟨a, [], [u], e, h, .cons r .nil, rfl, .inl ⟨sg .say (by decide), fun x hx => nomatch hx⟩⟩
  | bin o x y =>
    obtain ⟨a, u, z, e, h, r, s⟩ := h
    cases o
    · exact ⟨a, [], [u, z], e, h, .cons r (.cons s .nil), rfl, .inl ⟨sg .add (by decide), fun x hx => nomatch hx⟩⟩
    · exact ⟨a, [], [u, z], e, h, .cons r (.cons s .nil), rfl, .inl ⟨sg .sub (by decide), fun x hx => nomatch hx⟩⟩
    · exact ⟨a, [], [u, z], e, h, .cons r (.cons s .nil), rfl, .inl ⟨sg .mul (by decide), fun x hx => nomatch hx⟩⟩
    · exact ⟨a, [], [u, z], e, h, .cons r (.cons s .nil), rfl, .inl ⟨sg .thn (by decide), fun x hx => nomatch hx⟩⟩
  | ite x y z => obtain ⟨a, u, w, z, e, h, r, s, t⟩ := h; exact ⟨a, [], [u, w, z], e, h, .cons r (.cons s (.cons t .nil)), rfl, .inl ⟨sg .ite (by decide), fun x hx => nomatch hx⟩⟩
  | lett n x y => obtain ⟨a, u, z, e, h, r, s⟩ := h; exact ⟨a, [.str n], [u, z], e, h, .cons r (.cons s .nil), rfl, .inl ⟨sg .lett (by decide), fun x hx => .inr ⟨n, List.mem_singleton.mp hx⟩⟩⟩
theorem head_le3' (t : Tr) : t.head ≤ 3 := by cases t <;> simp [Tr.head]
theorem Rep.tupAt {H : Hp} {t : Tr} {v : V} (h : Rep H t v) : ∃ a xs, v = .ref a ∧ H a = some (.tup xs) := by
  obtain ⟨a, hs, us, e, h, _⟩ := h.items
  exact ⟨a, _, e, h⟩
theorem mem_rep {H : Hp} : ∀ {ts : List Tr} {us : List V}, Paired (Rep H) ts us → ∀ x ∈ us, ∃ t, Rep H t x
  | _, _, .cons r q, x, hx => by
    rcases List.mem_cons.mp hx with rfl | hx
    · exact ⟨_, r⟩
    · exact mem_rep q x hx
end L2
namespace K01
open PySem PySem.Spec L2 PyProof.Rows
abbrev s_law_parts : Stmt := top 16
theorem sc_law_parts : FnScope ["_law_tree_here"] ["_law_tree_here"] (defScope s_law_parts) := ⟨rfl, rfl, rfl, by decide +kernel, rfl, by decide +kernel, by decide +kernel⟩
section
variable {P : Program} {w : World} {K : PySem.W.Frag} {mg : Str → Option Value} {base : Heap}
def sp_lparts : Sp := fun vs H Q _ => ∃ (t : Tr) (v : V), vs = [v] ∧ Rep H t v ∧ ∀ (l : Addr) (us : List V) (H' : Hp), Same H H' → H l = none → H' l = some (.lst us) → Paired (Rep H') t.parts us → Q (.ref l) H'
theorem ok_lparts {k : Nat} {f : Addr} {fd : FuncData} (F : Fun K "_law_parts" "_law_parts" s_law_parts f fd) (z_isinstance : mg "isinstance" = none) (z_tuple : mg "tuple" = none) : FnOk P w K mg base CX0 (k + 1) f fd ["_law_tree_here"] sp_lparts := by
  refine F.ok sc_law_parts (fun vs H Q E h => ?_) (fun cdv A outer s H vs Q E hr h => ?_)
  · obtain ⟨t, v, rfl, _⟩ := h
    rfl
  obtain ⟨t, v, rfl, hR, q⟩ := h
  refine ⟨_, (pss_one (ps_ret (pe_compB ["_law_part", "_law_tree_here"] [none, some 0] rfl (pi_tup (pe_slice sl_tupV (pv 0) (po_some pe_int) po_none)) (fun _ _ _ _ _ => (pg_name (i := 0) (show List.Nodup (["_law_part", "_law_tree_here"] : List Str) by decide +kernel) rfl (Or.inl rfl))) (fun _ _ _ _ _ => (pts_one (PW.pt (pw_and (pt_cmpR op_ne (pe_ix (r := rIxT K) ix_tup (pv 1) pe_int (fun _ _ => rfl)) pe_str (nomark _)) (pw_and1 (pt_val (pe_callB (r := rIsi K) call_isi (by rfl) z_isinstance PyProof.Rows.boot_isinstance (pa_cons (pv 0) (pa_cons (pe_bltn (v := .ty _) (by rfl) z_tuple PyProof.Rows.boot_tuple (by rfl)) pa_nil))))))))) (fun _ _ _ _ _ => (pv 0)) rfl))), ?_⟩
  obtain ⟨a, hs, us, rfl, ha, hp, hlh, hk⟩ := hR.items
  have hl3 := head_le3' t
  have lp : us.length ≤ 3 := by rw [paired_len hp]; exact parts_le3 t
  have e1 : HT.sIx (V.str t.sign :: (hs ++ us)).length 0 (some 1) = 1 := sIx_int (by decide) (by rw [List.length_cons]; omega)
  have e2 : cutV (V.str t.sign :: (hs ++ us)) (some 1) none = hs ++ us := by
    unfold cutV
    rw [e1, HT.sIx_none]
    rw [List.drop_one, List.tail_cons, List.length_cons, Nat.add_sub_cancel]
    exact List.take_of_length_le (Nat.le_refl _)
  refine ⟨_, rfl, _, rfl, a, _, rfl, ha, fun z => ?_, fun p H1 g1 ep => ?_⟩
  · rw [e1] at z
    omega
  rw [e2] at ep
  refine ⟨p, rfl, ⟨_, SqT.of ep⟩, fun acc hacc => ?_⟩
  have ha1 := g1 _ _ ha
  refine comp_tupR (xs := hs ++ us) (fun i H2 => Same H1 H2 ∧ H2 acc = some (.lst (((hs ++ us).take i).filter fun x => decide (t.sign ≠ "gap") && isR x))) ⟨same_upd hacc, upd_same⟩ (fun i H2 _ h => SqT.of (h.1 _ _ ep)) ?_ ?_
  · rintro i x H2 hx ⟨g2, ez⟩
    refine ⟨.skip (.keep .nil), ?_⟩
    have hi : i < (hs ++ us).length := (List.getElem?_eq_some_iff.mp hx).1
    have lf : (((hs ++ us).take i).filter fun x => decide (t.sign ≠ "gap") && isR x).length ≤ 5 := Nat.le_trans (List.length_filter_le _ _) (by rw [List.length_take]; rw [List.length_append] at hi ⊢; omega)
    have tn : (hs ++ us).take (i + 1) = (hs ++ us).take i ++ [x] := take_next hx
    refine ⟨_, rfl, a, _, 0, .str t.sign, rfl, rfl, SqT.of (g2 _ _ ha1), atI_nat (j := 0) rfl, rfl, _, rfl, ite2 (fun c => ?_) (fun c => ?_)⟩
    · have c' : t.sign ≠ "gap" := fun z => by rw [z] at c; exact absurd c (by decide)
      have hk' := hk.resolve_right fun z => c' z.1
      have yes : isR x = true → (((hs ++ us).take (i + 1)).filter fun x => decide (t.sign ≠ "gap") && isR x) = (((hs ++ us).take i).filter fun x => decide (t.sign ≠ "gap") && isR x) ++ [x] := fun h => by
        rw [tn, List.filter_append, List.filter_cons, if_pos (by rw [decide_eq_true c', h]; rfl), List.filter_nil]
      have no : isR x = false → (((hs ++ us).take (i + 1)).filter fun x => decide (t.sign ≠ "gap") && isR x) = (((hs ++ us).take i).filter fun x => decide (t.sign ≠ "gap") && isR x) := fun h => by
        rw [tn, List.filter_append, List.filter_cons, if_neg (by rw [h]; simp), List.filter_nil, List.append_nil]
      rcases List.mem_append.mp (List.mem_of_getElem? hx) with hm | hm
      · rcases hk'.2 x hm with ⟨n, rfl⟩ | ⟨y, rfl⟩
        · refine ⟨_, rfl, .int n, "tuple", _, false, rfl, .int n, rfl, _, rfl, iteF ?_⟩
          exact ⟨g2, by rw [no rfl]; exact ez⟩
        · refine ⟨_, rfl, .str y, "tuple", _, false, rfl, .str y, rfl, _, rfl, iteF ?_⟩
          exact ⟨g2, by rw [no rfl]; exact ez⟩
      · obtain ⟨tq, rq⟩ := mem_rep hp x hm
        obtain ⟨b, xs, rfl, hb⟩ := rq.tupAt
        refine ⟨_, rfl, .ref b, "tuple", _, true, rfl, .tup (g2 _ _ (g1 _ _ hb)), rfl, _, rfl, iteT ?_⟩
        refine ⟨_, rfl, _, ez, small1000 (by omega), same_set g2 hacc, ?_⟩
        rw [upd_same, yes rfl]
    · have c' : t.sign = "gap" := Classical.byContradiction fun z => c (by simpa using z)
      refine iteF ⟨g2, ?_⟩
      rw [tn, List.filter_append, List.filter_cons, if_neg (by rw [decide_eq_false (fun z => z c')]; simp), List.filter_nil, List.append_nil]
      exact ez
  · rintro H3 ⟨g3, ez⟩
    rw [List.take_of_length_le (Nat.le_refl _)] at ez
    have e9 : ((hs ++ us).filter fun x => decide (t.sign ≠ "gap") && isR x) = us := by
      rcases hk with ⟨c', hh⟩ | ⟨c', hh⟩
      · have f1 : (hs.filter fun x => decide (t.sign ≠ "gap") && isR x) = [] := List.filter_eq_nil_iff.mpr fun x hx => by
          rcases hh x hx with ⟨n, rfl⟩ | ⟨y, rfl⟩ <;> simp [isR]
        have f2 : (us.filter fun x => decide (t.sign ≠ "gap") && isR x) = us := List.filter_eq_self.mpr fun x hx => by
          obtain ⟨tq, rq⟩ := mem_rep hp x hx
          obtain ⟨b, xs, rfl, hb⟩ := rq.tupAt
          rw [decide_eq_true c']; rfl
        rw [List.filter_append, f1, f2, List.nil_append]
      · have eu : us = [] := by
          have := paired_len hp
          rw [hh] at this
          exact List.length_eq_zero_iff.mp this
        rw [eu]
        exact List.filter_eq_nil_iff.mpr fun x hx => by rw [decide_eq_false (fun z => z c')]; simp
    rw [e9] at ez
    exact q acc us H3 (g1.trans g3) (g1.free hacc) ez (Paired.mapP hp fun _ _ r => r.mono (g1.trans g3).tk)
end
end K01
set_option Elab.async false
set_option linter.all false
set_option maxRecDepth 100000
set_option maxHeartbeats 4000000
namespace L2
open PySem
theorem paired_unsnoc {α : Type} {R : α → V → Prop} : ∀ {L : List α} {x : α} {ls : List V}, Paired R (L ++ [x]) ls → ∃ ls' u, ls = ls' ++ [u] ∧ Paired R L ls' ∧ R x u
  | [], x, _, .cons r .nil => ⟨[], _, rfl, .nil, r⟩
  | y :: L, x, _, .cons r q => by
    obtain ⟨ls', u, e, p, rx⟩ := paired_unsnoc q
    exact ⟨_ :: ls', u, by rw [e]; rfl, .cons r p, rx⟩
theorem allP_app (a b : List PlT) : allP (a ++ b) = allP a ++ allP b := by simp [allP]
theorem allP_cons (x : PlT) (b : List PlT) : allP (x :: b) = x :: (allP (kidsP x) ++ allP b) := by
  unfold allP
  rw [List.flatMap_cons, psub_eq]
  rfl
theorem szP_app (a b : List PlT) : szP (a ++ b) = szP a + szP b := by unfold szP; rw [List.map_append, szT_app]
theorem szP_rev (a : List PlT) : szP a.reverse = szP a := by
  unfold szP szT
  rw [List.map_reverse, List.map_reverse]
  exact (List.reverse_perm _).sum_nat
theorem szP_kids (x : PlT) : szP (kidsP x) + 1 = x.2.size := by
  unfold szP
  rw [kidsP_snd]
  exact szT_parts x.2
theorem szP_one (x : PlT) : szP [x] = x.2.size := by simp [szP, szT]
theorem rev_get1 {α : Type} {l : List α} {j : Nat} (h : j < l.length) : l.reverse[j]? = l[l.length - 1 - j]? := by
  rw [List.getElem?_reverse h]
end L2
namespace K01
open PySem PySem.Spec L2 PyProof.Rows
abbrev s_law_places : Stmt := top 17
theorem sc_law_places : FnScope ["_law_tree_here", "_law_found", "_law_ahead", "_law_place", "_law_part", "_law_some", "_law_number"] ["_law_tree_here"] (defScope s_law_places) := ⟨rfl, rfl, rfl, by decide +kernel, rfl, by decide +kernel, by decide +kernel⟩
abbrev s_law_same : Stmt := top 18
theorem sc_law_same : FnScope ["_law_found", "_law_due", "_law_one", "_law_other"] ["_law_found", "_law_due"] (defScope s_law_same) := ⟨rfl, rfl, rfl, by decide +kernel, rfl, by decide +kernel, by decide +kernel⟩
section
variable {P : Program} {w : World} {K : PySem.W.Frag} {mg : Str → Option Value} {base : Heap}
def sp_lplaces : Sp := fun vs H Q _ => ∃ (t : Tr) (v : V), vs = [v] ∧ Rep H t v ∧ t.size ≤ 400 ∧ ∀ (l : Addr) (us : List V) (H' : Hp), Same H H' → H l = none → H' l = some (.lst us) → DRs H' ((psub [] t).map fun x => plD x.1) us → Q (.ref l) H'
theorem ok_lplaces {k : Nat} {f g1 : Addr} {fd gd1 : FuncData} (F : Fun K "_law_places" "_law_places" s_law_places f fd) (z_len : mg "len" = none) (z_range : mg "range" = none) (z_reversed : mg "reversed" = none) (G_law_parts : FnB P w K mg base k "_law_parts" g1 gd1 ["_law_tree_here"] sp_lparts) :
    FnOk P w K mg base CX0 (k + 1) f fd ["_law_tree_here"] sp_lplaces := by
  refine F.ok sc_law_places (fun vs H Q E h => ?_) (fun cdv A outer s H vs Q E hr h => ?_)
  · obtain ⟨t, v, rfl, _⟩ := h
    rfl
  obtain ⟨t, v, rfl, hR, hsz, q⟩ := h
  refine ⟨_, (pss_cons (ps_set (i := 1) sc_law_places.nd rfl (Or.inl rfl) (pe_lst pa_nil : PE _ _ _))
    (pss_cons (ps_set (i := 2) sc_law_places.nd rfl (Or.inl rfl) (pe_lst (pa_cons (pe_tup (pa_cons (pe_tup pa_nil : PE _ _ _) (pa_cons (pv 0) pa_nil)) : PE _ _ _) pa_nil) : PE _ _ _))
    (pss_cons (ps_while PassesOwn.never (pt_cmpR op_gt (pe_callB call_len_seq (by rfl) z_len PySem.boot_len (pa_cons (pv 2) pa_nil)) pe_int (nomark _)) (pss_cons (ps_asg (pe_bm0 PySem.F.plainAttrs_list PySem.F.slot_list_pop PySem.F.type_list_pop mt_pop (pv 2)) (pg_tup rfl (pgs_cons (pg_name (i := 3) sc_law_places.nd rfl (Or.inl rfl)) (pgs_cons (pg_name (i := 4) sc_law_places.nd rfl (Or.inl rfl)) pgs_nil))))
    (pss_cons (ps_expr (pe_bm PySem.F.plainAttrs_list PySem.F.slot_list_append PySem.F.type_list_append mt_append (pv 1) (pa_cons (pv 3) pa_nil)))
    (pss_cons (ps_set (i := 5) sc_law_places.nd rfl (Or.inl rfl) (pe_call G_law_parts.ok hr (by rfl) G_law_parts.gl G_law_parts.kp G_law_parts.bd .nil pass0 (pa_cons (pv 4) pa_nil)))
    (pss_one (ps_for PassesOwn.never rfl (pi_revR (by rfl) z_reversed (by rfl) z_range (pa_cons (pe_callB call_len_seq (by rfl) z_len PySem.boot_len (pa_cons (pv 5) pa_nil)) pa_nil)) (pg_name (i := 6) sc_law_places.nd rfl (Or.inl rfl)) (pss_one (ps_expr (pe_bm PySem.F.plainAttrs_list PySem.F.slot_list_append PySem.F.type_list_append mt_append (pv 2) (pa_cons (pe_tup (pa_cons (pe_op op_catV (pv 3) (pe_tup (pa_cons (pv 6) pa_nil) : PE _ _ _)) (pa_cons (pe_ix (r := rIxL K) ix_list (pv 5) (pv 6) (fun _ _ => rfl)) pa_nil)) : PE _ _ _) pa_nil))))))))))
    (pss_one (ps_ret (pv 1)))))), ?_⟩
  have d0 : 0 ≤ sizeLine := by decide
  have d1 : 1 ≤ sizeLine := by decide
  have d2 : 2 ≤ sizeLine := by decide
  refine ⟨d0, fun fo hfo => ⟨d0, fun p0 hp0 => ⟨_, rfl, d2, fun p1 hp1 => ⟨d1, fun l hl => ?_⟩⟩⟩⟩
  have g1 := same_upd (o := .lst []) hfo
  have g2 := same_upd (o := .tup []) hp0
  have g3 := same_upd (o := .tup [.ref p0, v]) hp1
  have g4 := same_upd (o := .lst [.ref p1]) hl
  have gA := g1.trans (g2.trans (g3.trans g4))
  have nlf : l ≠ fo := Ne.symm (ne_of_none (g3 _ _ (g2 _ _ (upd_same (H := H) (a := fo) (o := .lst [])))) hl)
  have hlH : H l = none := (g1.trans (g2.trans g3)).free hl
  have ef0 := g4 _ _ (g3 _ _ (g2 _ _ (upd_same (H := H) (a := fo) (o := .lst []))))
  have r0 : PPl (upd (upd (upd (upd H fo (.lst [])) p0 (.tup [])) p1 (.tup [.ref p0, v])) l (.lst [.ref p1])) ([], t) (.ref p1) := ⟨v, ⟨p1, p0, rfl, g4 _ _ upd_same, g4 _ _ (g3 _ _ upd_same)⟩, hR.mono gA.tk⟩
  refine ⟨fun m σ' H' => ∃ (ls fs : List V) (L : List PlT) (Fd : List (List Int)) (s3 s4 s5 s6 : Option V), σ' = [some v, some (.ref fo), some (.ref l), s3, s4, s5, s6] ∧ Same H H' ∧ H' fo = some (.lst fs) ∧ H' l = some (.lst ls) ∧ DRs H' (Fd.map plD) fs ∧ Paired (PPl H') L ls ∧ m = szP L ∧
      Fd ++ (allP L.reverse).map (·.1) = (psub [] t).map (·.1) ∧ (∀ x ∈ L, x.1.length + x.2.size ≤ t.size),
    ⟨t.size, [.ref p1], [], [([], t)], [], none, none, none, none, rfl, gA, ef0, upd_same, .nil, .cons r0 .nil, (szP_one (([], t) : PlT)).symm, by simp [allP], ?_⟩, ?_⟩
  · intro x hx
    rw [List.mem_singleton.mp hx]
    simp
  rintro m σ' H1 ⟨ls, fs, L, Fd, s3, s4, s5, s6, rfl, gw, ef, el, dF, pL, rfl, heq, hsz2⟩
  have lL := paired_len pL
  have lF := dF.length
  rw [List.length_map] at lF
  have hcnt : Fd.length + szP L = t.size := by
    have := congrArg List.length heq
    rw [List.length_append, List.length_map, List.length_map, allP_len, psub_len, szP_rev] at this
    exact this
  refine ⟨_, rfl, l, _, rfl, .inl (SqL.of el), _, _, rfl, rfl, _, rfl, ?_⟩
  refine ite2 (fun c => ?_) (fun c => ?_)
  · have hLp : 0 < L.length := by
      have := of_decide_eq_true c
      omega
    obtain ⟨L', x, rfl⟩ : ∃ L' x, L = L' ++ [x] := ⟨L.dropLast, L.getLast (by intro z; rw [z] at hLp; simp at hLp), (List.dropLast_concat_getLast _).symm⟩
    obtain ⟨ls', u, rfl, pL', rx⟩ := paired_unsnoc pL
    obtain ⟨uw, ⟨a, pl, rfl, ea, epl⟩, ru⟩ := rx
    dsimp only at ea epl ru
    have hx := hsz2 x (by simp)
    rw [szP_app, szP_one] at hcnt
    have hkz := szP_kids x
    refine ⟨_, fun _ _ h => h, ?_⟩
    refine ⟨_, rfl, .inl ⟨rfl, _, SqL.of el⟩, l, _, .ref a, rfl, rfl, el, (by rw [List.length_append]; simp), ?_⟩
    rw [List.dropLast_concat]
    have k1 : Tk H1 (upd H1 l (.lst ls')) := Tk.lst el
    have s1 : Same H (upd H1 l (.lst ls')) := same_set gw hlH
    have ef1 : (upd H1 l (.lst ls')) fo = some (.lst fs) := by rw [upd_ne (Ne.symm nlf)]; exact ef
    have el1 : (upd H1 l (.lst ls')) l = some (.lst ls') := upd_same
    have ea1 := k1 _ _ ea
    have epl1 := k1 _ _ epl
    have ru1 := ru.mono k1
    have dF1 := dF.mono k1
    have pL1 : Paired (PPl (upd H1 l (.lst ls'))) L' ls' := Paired.mapP pL' fun _ _ z => z.mono k1
    generalize upd H1 l (.lst ls') = H2 at k1 s1 ef1 el1 ea1 epl1 ru1 dF1 pL1 ⊢
    refine ⟨a, [.ref pl, uw], rfl, SqT.of ea1, rfl, _, _, rfl, _, _, rfl, rfl, ?_⟩
    refine ⟨_, rfl, .inl ⟨rfl, _, SqL.of ef1⟩, _, rfl, fo, fs, _, rfl, rfl, ef1, small1000 (by omega), ?_⟩
    have k3 : Tk H2 (upd H2 fo (.lst (fs ++ [.ref pl]))) := Tk.lst ef1
    have s3 : Same H (upd H2 fo (.lst (fs ++ [.ref pl]))) := same_set s1 hfo
    have ef3 : (upd H2 fo (.lst (fs ++ [.ref pl]))) fo = some (.lst (fs ++ [.ref pl])) := upd_same
    have el3 : (upd H2 fo (.lst (fs ++ [.ref pl]))) l = some (.lst ls') := by rw [upd_ne nlf]; exact el1
    have epl3 := k3 _ _ epl1
    have ru3 := ru1.mono k3
    have dF3 : DRs (upd H2 fo (.lst (fs ++ [.ref pl]))) ((Fd ++ [x.1]).map plD) (fs ++ [.ref pl]) := by
      rw [List.map_append]
      exact drs_app (dF1.mono k3) (.cons (.tup epl3 (drs_ints _)) .nil)
    have pL3 : Paired (PPl (upd H2 fo (.lst (fs ++ [.ref pl])))) L' ls' := Paired.mapP pL1 fun _ _ z => z.mono k3
    dsimp only
    generalize upd H2 fo (.lst (fs ++ [.ref pl])) = H4 at s3 ef3 el3 epl3 ru3 dF3 pL3 ⊢
    have h3 := parts_le3 x.2
    refine ⟨_, rfl, x.2, uw, rfl, ru3, fun ps us H5 g5 hps eps hus => ?_⟩
    have lus : us.length = x.2.parts.length := paired_len hus
    have nfp : fo ≠ ps := ne_of_none ef3 hps
    have nlp : l ≠ ps := ne_of_none el3 hps
    have kl : (kidsP x).length = us.length := by rw [lus]; exact kidsP_len x.1 x.2
    refine ⟨_, rfl, ps, us, rfl, .inl (SqL.of eps), _, rfl, by omega, by omega, ?_⟩
    refine for_rangeD (n := ((us.length : Nat) : Int).toNat) (fun i σ' H' => ∃ (ls2 : List V) (s6 : Option V), σ' = [some v, some (.ref fo), some (.ref l), some (.ref pl), some uw, some (.ref ps), s6] ∧ Same H H' ∧ Tk H5 H' ∧ H' fo = some (.lst (fs ++ [.ref pl])) ∧ H' ps = some (.lst us) ∧ H' l = some (.lst ls2) ∧ Paired (PPl H') (L' ++ (kidsP x).reverse.take i) ls2) ?_ ?_ ?_
    · refine ⟨ls', s6, rfl, s3.trans g5, .refl _, g5 _ _ ef3, eps, g5 _ _ el3, ?_⟩
      rw [List.take_zero, List.append_nil]
      exact Paired.mapP pL3 fun _ _ z => z.mono g5.tk
    · rintro i σ2 H6 hi ⟨ls2, s6', rfl, sH, kH, efH, epH, elH, pH⟩
      rw [Int.toNat_natCast] at hi ⊢
      have hj : us.length - 1 - i < us.length := by omega
      obtain ⟨y, ey⟩ : ∃ y, us[us.length - 1 - i]? = some y := ⟨us[us.length - 1 - i], List.getElem?_eq_getElem hj⟩
      obtain ⟨tc, ec, rc⟩ := paired_get hus ey
      have ej : (us.length : Int) - 1 - (i : Int) = ((us.length - 1 - i : Nat) : Int) := by omega
      have kk := kidsP_get (pl := x.1) ec
      have kr : (kidsP x).reverse[i]? = some (x.1 ++ [((us.length - 1 - i : Nat) : Int)], tc) := by
        rw [rev_get1 (by omega), kl]
        exact kk
      rw [ej]
      generalize us.length - 1 - i = j at hj ey ec kk kr
      have hpln : x.1.length ≤ 400 := by omega
      refine ⟨_, rfl, .inl ⟨rfl, _, SqL.of elH⟩, _, rfl, _, rfl, d1, fun q1 hq1 => ⟨pl, q1, x.1.map V.int, [V.int (j : Int)], rfl, rfl, (same_upd (o := .tup [V.int (j : Int)]) hq1) _ _ (kH _ _ (g5.tk _ _ epl3)), upd_same, line1000 (by rw [List.length_map]; show x.1.length + 1 ≤ 1000; omega), fun q2 H7 g7 e7 => ?_⟩⟩
      have gq := (same_upd (o := .tup [V.int (j : Int)]) hq1).trans g7
      refine ⟨_, rfl, _, rfl, ps, us, (j : Int), y, rfl, rfl, SqL.of (gq _ _ epH), atI_nat ey, d2, fun q3 hq3 => ?_⟩
      have g8 := same_upd (o := .tup [.ref q2, y]) hq3
      have gQ := gq.trans g8
      have elQ := gQ _ _ elH
      have lH := paired_len pH
      have hl2 := szP_len L'
      have hl4 := szP_len (kidsP x)
      refine ⟨l, ls2, _, rfl, rfl, elQ, small1000 ?_, ?_⟩
      · rw [List.length_append, List.length_take, List.length_reverse] at lH
        omega
      have k9 : Tk (upd H7 q3 (.tup [.ref q2, y])) (upd (upd H7 q3 (.tup [.ref q2, y])) l (.lst (ls2 ++ [.ref q3]))) := Tk.lst elQ
      have kQ := gQ.tk.trans k9
      refine ⟨ls2 ++ [.ref q3], _, rfl, same_set (sH.trans gQ) hlH, kH.trans kQ, ?_, ?_, upd_same, ?_⟩
      · rw [upd_ne (Ne.symm nlf)]; exact gQ _ _ efH
      · rw [upd_ne (Ne.symm nlp)]; exact gQ _ _ epH
      · rw [take_next kr, ← List.append_assoc]
        refine paired_append (Paired.mapP pH fun _ _ z => z.mono kQ) (.cons ⟨y, ⟨q3, q2, rfl, k9 _ _ upd_same, ?_⟩, rc.mono (kH.trans kQ)⟩ .nil)
        have := k9 _ _ (g8 _ _ e7)
        rw [this, List.map_append]
        rfl
    · rintro σ2 H6 ⟨ls2, s6', rfl, sH, kH, efH, epH, elH, pH⟩
      rw [Int.toNat_natCast, List.take_of_length_le (by rw [List.length_reverse]; omega)] at pH
      refine ⟨szP (L' ++ (kidsP x).reverse), ?_, ls2, fs ++ [.ref pl], L' ++ (kidsP x).reverse, Fd ++ [x.1], _, _, _, _, rfl, sH, efH, elH, dF3.mono (g5.tk.trans kH), pH, rfl, ?_, ?_⟩
      · rw [szP_app, szP_app, szP_one, szP_rev]; omega
      · rw [← heq, List.reverse_append, List.reverse_reverse, List.reverse_append, allP_app]
        show Fd ++ [x.1] ++ (allP (kidsP x) ++ allP L'.reverse).map (·.1) = Fd ++ (allP (x :: L'.reverse)).map (·.1)
        rw [allP_cons]
        simp
      · intro z hz
        rcases List.mem_append.mp hz with h | h
        · exact hsz2 z (List.mem_append_left _ h)
        · have h := List.mem_reverse.mp h
          unfold kidsP at h
          obtain ⟨qq, hq, rfl⟩ := List.mem_map.mp h
          have h8 : qq.1 ∈ x.2.parts := List.fst_mem_of_mem_zipIdx hq
          have h7 := part_size h8
          simp
          omega
  · have e0 : ls = [] := by
      cases ls with
      | nil => rfl
      | cons _ _ => exact absurd (decide_eq_true (by show (0 : Int) < _; simp)) c
    have eL : L = [] := by
      subst e0
      cases L with
      | nil => rfl
      | cons _ _ => simp at lL
    subst eL
    have heq' : Fd = (psub [] t).map (·.1) := by simpa [allP] using heq
    have e9 : (psub [] t).map (fun x => plD x.1) = Fd.map plD := by rw [heq', List.map_map]; rfl
    exact ⟨_, rfl, q fo fs H1 gw hfo ef (by rw [e9]; exact dF)⟩
def sp_same (n : Nat) : Sp := fun vs H Q _ => ∃ (d : Dt) (v1 v2 : V), vs = [v1, v2] ∧ DR H d v1 ∧ DR H d v2 ∧ d.deep < n ∧ ∀ H', Same H H' → Q (.bl true) H'
theorem ok_same {k n : Nat} {f g1 : Addr} {fd gd1 : FuncData} (F : Fun K "_law_same" "_law_same" s_law_same f fd) (z_isinstance : mg "isinstance" = none) (z_tuple : mg "tuple" = none) (z_str : mg "str" = none) (z_len : mg "len" = none) (z_zip : mg "zip" = none) (G_law_whole : FnB P w K mg base k "_law_whole" g1 gd1 ["_law_found"] sp_whole)
    (G_law_same : FnB P w K mg base k "_law_same" f fd ["_law_found", "_law_due"] (sp_same n)) : FnOk P w K mg base CX0 (k + 1) f fd ["_law_found", "_law_due"] (sp_same (n + 1)) := by
  refine F.ok sc_law_same (fun vs H Q E h => ?_) (fun cdv A outer s H vs Q E hr h => ?_)
  · obtain ⟨d, v1, v2, rfl, _⟩ := h
    rfl
  obtain ⟨d, v1, v2, rfl, r1, r2, hdn, q⟩ := h
  refine ⟨_, (pss_cons (ps_if (pt_val (pe_callB call_isi (by rfl) z_isinstance PyProof.Rows.boot_isinstance (pa_cons (pv 1) (pa_cons (pe_bltn (v := .ty _) (by rfl) z_tuple PyProof.Rows.boot_tuple (by rfl)) pa_nil)))) (pss_cons (ps_if (pw_or (pt_not (pt_val (pe_callB call_isi (by rfl) z_isinstance PyProof.Rows.boot_isinstance (pa_cons (pv 0) (pa_cons (pe_bltn (v := .ty _) (by rfl) z_tuple PyProof.Rows.boot_tuple (by rfl)) pa_nil))))) (pw_or1 (pt_cmpR op_ne (pe_callB call_len_seq (by rfl) z_len PySem.boot_len (pa_cons (pv 0) pa_nil)) (pe_callB call_len_seq (by rfl) z_len PySem.boot_len (pa_cons (pv 1) pa_nil)) (nomark _)))).pt (pss_one (ps_ret pe_bl)) pss_nil)
    (pss_cons (ps_for PassesOwn.never rfl (pi_zip (by rfl) z_zip (pa_cons (pv 0) (pa_cons (pv 1) pa_nil))) (pg_tup rfl (pgs_cons (pg_name (i := 2) sc_law_same.nd rfl (Or.inl rfl)) (pgs_cons (pg_name (i := 3) sc_law_same.nd rfl (Or.inl rfl)) pgs_nil))) (pss_one (ps_if (pt_not (pt_val (pe_call G_law_same.ok hr (by rfl) G_law_same.gl G_law_same.kp G_law_same.bd .nil pass0 (pa_cons (pv 2) (pa_cons (pv 3) pa_nil))))) (pss_one (ps_ret pe_bl)) pss_nil)))
    (pss_one (ps_ret pe_bl)))) pss_nil)
    (pss_cons (ps_if (pt_val (pe_callB call_isi (by rfl) z_isinstance PyProof.Rows.boot_isinstance (pa_cons (pv 1) (pa_cons (pe_bltn (v := .ty _) (by rfl) z_str PyProof.Rows.boot_str (by rfl)) pa_nil)))) (pss_one (ps_ret (pe_and (pe_callB call_isi (by rfl) z_isinstance PyProof.Rows.boot_isinstance (pa_cons (pv 0) (pa_cons (pe_bltn (v := .ty _) (by rfl) z_str PyProof.Rows.boot_str (by rfl)) pa_nil))) (pe_one (pe_cmpR op_eq (pv 0) (pv 1) (nomark _)))))) pss_nil)
    (pss_one (ps_ret (pe_and (pe_call G_law_whole.ok hr (by rfl) G_law_whole.gl G_law_whole.kp G_law_whole.bd .nil pass0 (pa_cons (pv 0) pa_nil)) (pe_one (pe_cmpR op_eq (pv 0) (pv 1) (nomark _)))))))), ?_⟩
  cases r1 with
  | @tup a xs ds ha hxs =>
    cases r2 with
    | @tup b ys _ hb hys =>
      have lx := hxs.length
      have ly := hys.length
      refine ⟨_, rfl, .ref b, "tuple", _, true, rfl, .tup hb, rfl, _, rfl, iteT ?_⟩
      refine ⟨_, rfl, .ref a, "tuple", _, true, rfl, .tup ha, rfl, _, rfl, iteF ?_⟩
      refine ⟨_, rfl, a, _, rfl, .inr (SqT.of ha), _, rfl, b, _, rfl, .inr (SqT.of hb), rfl, _, rfl, ?_⟩
      refine ite2 (fun c => ?_) (fun _ => ?_)
      · have en : xs.length = ys.length := by omega
        rw [en, decide_eq_true rfl] at c
        cases c
      refine ⟨_, rfl, _, rfl, a, b, xs, ys, rfl, ha, hb, ?_⟩
      refine for_zip (xs := xs) (ys := ys) (fun i σ' H' => ∃ s2 s3 : Option V, σ' = [some (.ref a), some (.ref b), s2, s3] ∧ Same H H') ?_ ?_ ?_ ?_
      · exact ⟨none, none, rfl, Same.refl _⟩
      · rintro i σ1 H1 _ ⟨s2, s3, rfl, g⟩
        exact ⟨g _ _ ha, g _ _ hb⟩
      · rintro i x y T σ1 H1 hx hy ⟨s2, s3, rfl, g⟩ hT
        obtain ⟨d1, e1, rd1⟩ := hxs.get hx
        obtain ⟨d2, e2, rd2⟩ := hys.get hy
        rw [e1] at e2; cases e2
        have g1 := g.trans (same_upd (o := .tup [x, y]) hT)
        have hd := deep_get e1
        have hdd : (Dt.tup ds).deep = Dt.deeps ds + 1 := rfl
        refine ⟨T, [x, y], rfl, SqT.of upd_same, rfl, _, _, rfl, _, _, rfl, rfl, ?_⟩
        refine ⟨_, rfl, _, rfl, d1, x, y, rfl, rd1.mono g1.tk, rd2.mono g1.tk, by omega, fun H2 g2 => ⟨_, rfl, iteF ?_⟩⟩
        exact ⟨_, _, rfl, g1.trans g2⟩
      · rintro σ1 H1 ⟨s2, s3, rfl, g⟩
        exact q H1 g
  | str x =>
    cases r2 with
    | str _ =>
      refine ⟨_, rfl, .str x, "tuple", _, false, rfl, .str x, rfl, _, rfl, iteF ?_⟩
      refine ⟨_, rfl, .str x, "str", _, true, rfl, .str x, rfl, _, rfl, iteT ?_⟩
      refine ⟨_, rfl, .str x, "str", _, true, rfl, .str x, rfl, _, rfl, iteT ?_⟩
      refine ⟨_, rfl, _, rfl, rfl, ?_⟩
      rw [decide_eq_true rfl]
      exact q H (Same.refl _)
  | int i =>
    cases r2 with
    | int _ =>
      refine ⟨_, rfl, .int i, "tuple", _, false, rfl, .int i, rfl, _, rfl, iteF ?_⟩
      refine ⟨_, rfl, .int i, "str", _, false, rfl, .int i, rfl, _, rfl, iteF ?_⟩
      refine ⟨_, rfl, i, rfl, _, rfl, iteT ?_⟩
      refine ⟨_, rfl, _, rfl, rfl, ?_⟩
      rw [decide_eq_true rfl]
      exact q H (Same.refl _)
theorem no_same {k : Nat} {f : Addr} {fd : FuncData} : FnOk P w K mg base CX0 k f fd ["_law_found", "_law_due"] (sp_same 0) := by
  have no : ∀ vs H Q E, ¬ sp_same 0 vs H Q E := fun vs H Q E h => by
    obtain ⟨d, v1, v2, _, _, _, h1, _⟩ := h
    omega
  exact ⟨fun vs H Q E h => absurd h (no vs H Q E), fun A outer s H args us vs Q E _ _ _ _ h => absurd h (no vs H Q E)⟩
theorem all_same {k : Nat} {f g1 : Addr} {fd gd1 : FuncData} (F : Fun K "_law_same" "_law_same" s_law_same f fd) (b : Binds K fd ["_law_found", "_law_due"] []) (m : mg "_law_same" = some (.ref f)) (z_isinstance : mg "isinstance" = none) (z_tuple : mg "tuple" = none) (z_str : mg "str" = none) (z_len : mg "len" = none) (z_zip : mg "zip" = none) (G : FnB P w K mg base k "_law_whole" g1 gd1 ["_law_found"] sp_whole) :
    ∀ n : Nat, FnB P w K mg base (k + n) "_law_same" f fd ["_law_found", "_law_due"] (sp_same n)
  | 0 => ⟨no_same, b, F.kp, m⟩
  | n + 1 => ⟨ok_same F z_isinstance z_tuple z_str z_len z_zip (G.up (Nat.le_add_right _ _)) (all_same F b m z_isinstance z_tuple z_str z_len z_zip G n), b, F.kp, m⟩
end
end K01
set_option Elab.async false
set_option linter.all false
set_option maxRecDepth 100000
set_option maxHeartbeats 4000000
namespace L2
open PySem
theorem dr_tup {H : Hp} {d : Dt} {a : Addr} {us : List V} (h : DR H d (.ref a)) (e : H a = some (.tup us)) : ∃ ds, d = .tup ds ∧ DRs H ds us := by
  cases h with
  | tup h rs => rw [e] at h; cases h; exact ⟨_, rfl, rs⟩
theorem drs_take {H : Hp} : ∀ {ds : List Dt} {us : List V} (n : Nat), DRs H ds us → DRs H (ds.take n) (us.take n)
  | _, _, 0, _ => .nil
  | _, _, _ + 1, .nil => .nil
  | _, _, n + 1, .cons r q => .cons r (drs_take n q)
theorem reps_dr {H : Hp} : ∀ {ts : List Tr} {us : List V}, Paired (Rep H) ts us → DRs H (ts.map dtT) us
  | _, _, .nil => .nil
  | _, _, .cons r q => .cons r.dr (reps_dr q)
theorem deep_mem : ∀ {ds : List Dt} {d : Dt}, d ∈ ds → d.deep ≤ Dt.deeps ds
  | e :: ds, d, h => by
    rw [Dt.deeps]
    rcases List.mem_cons.mp h with rfl | h
    · omega
    · have := deep_mem h
      omega
theorem places_deep (L : List PlT) : (Dt.tup (L.map fun x => plD x.1)).deep < 25 := by
  rw [Dt.deep]
  have := deeps_le (ds := L.map fun x => plD x.1) (n := 2) fun d hd => by
    obtain ⟨x, _, rfl⟩ := List.mem_map.mp hd
    exact plD_deep x.1
  omega
theorem part_deep {t p : Tr} (h : p ∈ t.parts) : (dtT p).deep ≤ (dtT t).deep := by
  cases t <;> simp [Tr.parts] at h
  · subst h; simp [dtT, Dt.deep, Dt.deeps]
  · rcases h with rfl | rfl <;> simp [dtT, Dt.deep, Dt.deeps] <;> omega
  · rcases h with rfl | rfl | rfl <;> simp [dtT, Dt.deep, Dt.deeps] <;> omega
  · rcases h with rfl | rfl <;> simp [dtT, Dt.deep, Dt.deeps] <;> omega
end L2
namespace K01
open PySem PySem.Spec L2 PyProof.Rows
abbrev s_law : Stmt := top 19
theorem sc_law : FnScope ["_law_script", "_law_words_here", "_law_tree_here", "_law_due", "_law_found", "_law_many", "_law_some", "_law_others", "_law_laid"] ["_law_script"] (defScope s_law) := ⟨rfl, rfl, rfl, by decide +kernel, rfl, by decide +kernel, by decide +kernel⟩
section
variable {P : Program} {w : World} {K : PySem.W.Frag} {mg : Str → Option Value} {base : Heap}
def sp_law (K : PySem.W.Frag) : Sp := fun vs H Q _ => ∃ (a : Addr) (ns : List Int), vs = [.ref a] ∧ SqL K H a (ns.map V.int) ∧ ns.length ≤ 63 ∧ ∀ H', Q (.bl true) H'
theorem ok_law {k : Nat} {f g1 g2 g3 g4 g5 g6 g7 g8 g9 g10 g11 g12 : Addr} {fd gd1 gd2 gd3 gd4 gd5 gd6 gd7 gd8 gd9 gd10 gd11 gd12 : FuncData} (F : Fun K "law" "law" s_law f fd) (z_isinstance : mg "isinstance" = none) (z_list : mg "list" = none) (z_tuple : mg "tuple" = none) (z_len : mg "len" = none) (z_range : mg "range" = none)
    (G_law_words : FnB P w K mg base k "_law_words" g1 gd1 ["_law_cell"] sp_words) (G_law_cell_at : FnB P w K mg base k "_law_cell_at" g2 gd2 ["_law_script", "_law_k"] (sp_cell_at K))
    (G_law_tree : FnB P w K mg base k "_law_tree" g3 gd3 ["_law_cells", "_law_words_here", "_law_deep"] (sp_tree K 13)) (G_law_places : FnB P w K mg base k "_law_places" g4 gd4 ["_law_tree_here"] sp_lplaces)
    (G_places : FnB P w K mg base k "places" g5 gd5 ["tree"] sp_places) (G_law_same : FnB P w K mg base k "_law_same" g6 gd6 ["_law_found", "_law_due"] (sp_same 25))
    (G_size : FnB P w K mg base k "size" g7 gd7 ["tree"] sp_size) (G_law_whole : FnB P w K mg base k "_law_whole" g8 gd8 ["_law_found"] sp_whole) (G_law_parts : FnB P w K mg base k "_law_parts" g9 gd9 ["_law_tree_here"] sp_lparts)
    (G_parts : FnB P w K mg base k "parts" g10 gd10 ["tree"] sp_parts) (G_law_leaf : FnB P w K mg base k "_law_leaf" g11 gd11 ["_law_cell", "_law_words_here"] sp_leaf) (G_with_parts : FnB P w K mg base k "with_parts" g12 gd12 ["tree", "parts"] sp_with) :
    FnOk P w K mg base CX0 (k + 1) f fd ["_law_script"] (sp_law K) := by
  refine F.ok sc_law (fun vs H Q E h => ?_) (fun cdv A outer s H vs Q E hr h => ?_)
  · obtain ⟨a, ns, rfl, _⟩ := h
    rfl
  obtain ⟨a, ns, rfl, hS, h63, q⟩ := h
  refine ⟨_, (pss_cons (ps_set (i := 1) sc_law.nd rfl (Or.inr rfl) (pe_call G_law_words.ok hr (by rfl) G_law_words.gl G_law_words.kp G_law_words.bd .nil pass0 (pa_cons (pe_call G_law_cell_at.ok hr (by rfl) G_law_cell_at.gl G_law_cell_at.kp G_law_cell_at.bd .nil pass0 (pa_cons (pv 0) (pa_cons pe_int pa_nil))) pa_nil)))
    (pss_cons (ps_set (i := 2) sc_law.nd rfl (Or.inl rfl) (pe_call G_law_tree.ok hr (by rfl) G_law_tree.gl G_law_tree.kp G_law_tree.bd .nil pass0 (pa_cons (pe_slice (r := rSlL K) sl_list (pv 0) (po_some pe_int) (po_some pe_int)) (pa_cons (pv 1) (pa_cons pe_int pa_nil)))))
    (pss_cons (ps_set (i := 3) sc_law.nd rfl (Or.inl rfl) (pe_call G_law_places.ok hr (by rfl) G_law_places.gl G_law_places.kp G_law_places.bd .nil pass0 (pa_cons (pv 2) pa_nil)))
    (pss_cons (ps_set (i := 4) sc_law.nd rfl (Or.inl rfl) (pe_call G_places.ok hr (by rfl) G_places.gl G_places.kp G_places.bd .nil pass0 (pa_cons (pv 2) pa_nil)))
    (pss_cons (ps_if (pw_or (pt_not (pt_val (pe_callB call_isi (by rfl) z_isinstance PyProof.Rows.boot_isinstance (pa_cons (pv 4) (pa_cons (pe_bltn (v := .ty _) (by rfl) z_list PyProof.Rows.boot_list (by rfl)) pa_nil))))) (pw_or1 (pt_not (pt_val (pe_call G_law_same.ok hr (by rfl) G_law_same.gl G_law_same.kp G_law_same.bd .nil pass0 (pa_cons (pe_callTy call_tuple_of (by rfl) z_tuple PyProof.Rows.boot_tuple (pa_cons (pv 4) pa_nil)) (pa_cons (pe_callTy call_tuple_of (by rfl) z_tuple PyProof.Rows.boot_tuple (pa_cons (pv 3) pa_nil)) pa_nil))))))).pt (pss_one (ps_ret pe_bl)) pss_nil)
    (pss_cons (ps_expr (pe_bm PySem.F.plainAttrs_list PySem.F.slot_list_append PySem.F.type_list_append mt_append (pv 4) (pa_cons (pe_tup (pa_cons pe_int pa_nil) : PE _ _ _) pa_nil)))
    (pss_cons (ps_asg (pe_tup (pa_cons pe_int (pa_cons pe_int pa_nil)) : PE _ _ _) (pg_sub (pv 4) pe_int set_list))
    (pss_cons (ps_set (i := 5) sc_law.nd rfl (Or.inl rfl) (pe_call G_size.ok hr (by rfl) G_size.gl G_size.kp G_size.bd .nil pass0 (pa_cons (pv 2) pa_nil)))
    (pss_cons (ps_if (pw_or (pt_not (pt_val (pe_call G_law_whole.ok hr (by rfl) G_law_whole.gl G_law_whole.kp G_law_whole.bd .nil pass0 (pa_cons (pv 5) pa_nil)))) (pw_or1 (pt_cmpR op_ne (pv 5) (pe_callB call_len_seq (by rfl) z_len PySem.boot_len (pa_cons (pv 3) pa_nil)) (nomark _)))).pt (pss_one (ps_ret pe_bl)) pss_nil)
    (pss_cons (ps_set (i := 6) sc_law.nd rfl (Or.inl rfl) (pe_call G_law_parts.ok hr (by rfl) G_law_parts.gl G_law_parts.kp G_law_parts.bd .nil pass0 (pa_cons (pv 2) pa_nil)))
    (pss_cons (ps_if (pt_not (pt_val (pe_call G_law_same.ok hr (by rfl) G_law_same.gl G_law_same.kp G_law_same.bd .nil pass0 (pa_cons (pe_call G_parts.ok hr (by rfl) G_parts.gl G_parts.kp G_parts.bd .nil pass0 (pa_cons (pv 2) pa_nil)) (pa_cons (pe_callTy call_tuple_of (by rfl) z_tuple PyProof.Rows.boot_tuple (pa_cons (pv 6) pa_nil)) pa_nil))))) (pss_one (ps_ret pe_bl)) pss_nil)
    (pss_cons (ps_compB (jj := 7) ["_law_k", "_law_words_here", "_law_script"] [none, some 1, some 0] rfl (pi_range1 (by rfl) z_range (pa_cons (pe_callB call_len_seq (by rfl) z_len PySem.boot_len (pa_cons (pv 6) pa_nil)) pa_nil)) (fun _ _ _ _ _ => (pg_name (i := 0) (show List.Nodup (["_law_k", "_law_words_here", "_law_script"] : List Str) by decide +kernel) rfl (Or.inl rfl))) (fun _ _ _ _ _ => pts_nil) (fun _ _ _ _ _ => (pe_call G_law_leaf.ok hr (by rfl) G_law_leaf.gl G_law_leaf.kp G_law_leaf.bd .nil pass0 (pa_cons (pe_op op_add (pe_op op_fdiv (pe_call G_law_cell_at.ok hr (by rfl) G_law_cell_at.gl G_law_cell_at.kp G_law_cell_at.bd .nil pass0 (pa_cons (pv 2) (pa_cons pe_int pa_nil))) (pe_op op_add (pv 0) pe_int)) (pv 0)) (pa_cons (pv 1) pa_nil)))) rfl sc_law.nd rfl (Or.inl rfl) (Or.inr rfl))
    (pss_cons (ps_set (i := 8) sc_law.nd rfl (Or.inl rfl) (pe_call G_with_parts.ok hr (by rfl) G_with_parts.gl G_with_parts.kp G_with_parts.bd .nil pass0 (pa_cons (pv 2) (pa_cons (pe_callTy call_tuple_of (by rfl) z_tuple PyProof.Rows.boot_tuple (pa_cons (pv 7) pa_nil)) pa_nil))))
    (pss_cons (ps_if (pt_not (pt_val (pe_call G_law_same.ok hr (by rfl) G_law_same.gl G_law_same.kp G_law_same.bd .nil pass0 (pa_cons (pv 8) (pa_cons (pe_op op_catV (pe_slice sl_tupW (pv 2) po_none (po_some (pe_op op_sub (pe_callB call_len_seq (by rfl) z_len PySem.boot_len (pa_cons (pv 2) pa_nil)) (pe_callB call_len_seq (by rfl) z_len PySem.boot_len (pa_cons (pv 6) pa_nil))))) (pe_callTy call_tuple_of (by rfl) z_tuple PyProof.Rows.boot_tuple (pa_cons (pv 7) pa_nil))) pa_nil))))) (pss_one (ps_ret pe_bl)) pss_nil)
    (pss_one (ps_ret (pe_call G_law_same.ok hr (by rfl) G_law_same.gl G_law_same.kp G_law_same.bd .nil pass0 (pa_cons (pe_callTy call_tuple_of (by rfl) z_tuple PyProof.Rows.boot_tuple (pa_cons (pe_call G_places.ok hr (by rfl) G_places.gl G_places.kp G_places.bd .nil pass0 (pa_cons (pv 2) pa_nil)) pa_nil)) (pa_cons (pe_callTy call_tuple_of (by rfl) z_tuple PyProof.Rows.boot_tuple (pa_cons (pv 3) pa_nil)) pa_nil))))))))))))))))))), ?_⟩
  refine ⟨_, rfl, a, ns, 0, rfl, hS, Int.le_refl 0, fun i0 => ⟨i0, rfl, fun wl H1 ws g1 hwl hw4 _ ew => ?_⟩⟩
  obtain ⟨cs, ecs, lcs⟩ : ∃ cs : List Int, cutV (ns.map V.int) (some 2) (some 62) = cs.map V.int ∧ cs.length ≤ 60 := by
    have e2 : HT.sIx ns.length ns.length (some ((62 : Nat) : Int)) = min 62 ns.length := HT.sIx_nat _ _ _
    have e1 : HT.sIx ns.length 0 (some ((2 : Nat) : Int)) = min 2 ns.length := HT.sIx_nat _ _ _
    obtain ⟨ms, e, h⟩ := cutInts (ns := ns) (lo := some ((2 : Nat) : Int)) (hi := some ((62 : Nat) : Int)) e1 e2 (by omega)
    exact ⟨ms, e, by omega⟩
  refine ⟨_, rfl, _, rfl, _, rfl, a, _, rfl, g1.seq hS, fun pc hpc => ?_⟩
  rw [ecs]
  have g2 := same_upd (o := .lst (cs.map V.int)) hpc
  refine ⟨_, rfl, pc, wl, cs, ws, 12, rfl, SqL.of upd_same, by omega, g2 _ _ ew, hw4, by decide, by decide, fun t v H2 g3 rt sz dp => ?_⟩
  have gA := g1.trans (g2.trans g3)
  have ew2 := g3 _ _ (g2 _ _ ew)
  have hsz : t.size ≤ 400 := by omega
  have hdp : (dtT t).deep ≤ 17 := by have := dtT_dep t; omega
  refine ⟨_, rfl, t, v, rfl, rt, hsz, fun du us H3 g4 hdu edu ddu => ?_⟩
  have gB := gA.trans g4
  have rt3 := rt.mono g4.tk
  have ew3 := g4 _ _ ew2
  have lus : us.length = t.size := by rw [← ddu.length, List.length_map, psub_len]
  clear gA g1 g2 g3 g4 rt ew2
  obtain ⟨ta, hs, pus, rfl, eta, ppt, hlh, _⟩ := rt3.items
  refine ⟨_, rfl, t, .ref ta, rfl, rt3, hsz, by omega, fun fl fs H4 g5 hfl efl dfl => ?_⟩
  have lfs : fs.length = t.size := by rw [← dfl.length, List.length_map, psub_len]
  refine ⟨_, rfl, .ref fl, "list", _, true, rfl, .lst efl, rfl, _, rfl, iteF ?_⟩
  refine ⟨_, rfl, fl, fs, rfl, .inl ⟨SqL.of efl, fun tp htp => ?_⟩⟩
  have g6 := same_upd (o := .tup fs) htp
  refine ⟨_, rfl, du, us, rfl, .inl ⟨SqL.of (g6 _ _ (g5 _ _ edu)), fun tq htq => ?_⟩⟩
  have g7 := same_upd (o := .tup us) htq
  refine ⟨_, .ref tp, .ref tq, rfl, (DR.tup upd_same (dfl.mono g6.tk)).mono g7.tk, .tup upd_same (ddu.mono (g5.trans (g6.trans g7)).tk), places_deep _, fun H5 g8 => ⟨_, rfl, iteF ?_⟩⟩
  have gC := g6.trans (g7.trans g8)
  have efl5 := gC _ _ efl
  have g9 := g5.trans gC
  clear g6 g7 g8 gC htp htq dfl
  refine ⟨_, rfl, .inl ⟨rfl, _, SqL.of efl5⟩, (by show 1 ≤ sizeLine; decide), fun p7 hp7 => ?_⟩
  have k1 := same_upd (o := .tup [.int 7]) hp7
  refine ⟨fl, fs, _, rfl, rfl, k1 _ _ efl5, small1000 (by omega), ?_⟩
  have s6 : Same H3 (upd (upd H5 p7 (.tup [.int 7])) fl (.lst (fs ++ [.ref p7]))) := same_set (g9.trans k1) hfl
  have ef6 : (upd (upd H5 p7 (.tup [.int 7])) fl (.lst (fs ++ [.ref p7]))) fl = some (.lst (fs ++ [.ref p7])) := upd_same
  dsimp only
  generalize upd (upd H5 p7 (.tup [.int 7])) fl (.lst (fs ++ [.ref p7])) = H6 at s6 ef6 ⊢
  refine ⟨(by show 2 ≤ sizeLine; decide), fun p3 hp3 => ?_⟩
  have k2 := same_upd (o := .tup [.int 3, .int 3]) hp3
  have hix : ixN (fs ++ [V.ref p7]).length 0 = some 0 := by
    unfold ixN
    rw [if_pos (by decide), if_pos (by rw [List.length_append]; simp)]
    rfl
  refine ⟨_, rfl, fl, _, 0, 0, rfl, rfl, k2 _ _ ef6, hix, ?_⟩
  have s7 : Same H3 (upd (upd H6 p3 (.tup [.int 3, .int 3])) fl (.lst ((fs ++ [V.ref p7]).set 0 (V.ref p3)))) := same_set (s6.trans k2) hfl
  dsimp only
  generalize upd (upd H6 p3 (.tup [.int 3, .int 3])) fl (.lst ((fs ++ [V.ref p7]).set 0 (V.ref p3))) = H7 at s7 ⊢
  clear k1 k2 s6 ef6 efl5 g9 g5 efl lfs hp7 hp3
  refine ⟨_, rfl, t, .ref ta, rfl, rt3.mono s7.tk, hsz, fun H8 g10 => ?_⟩
  have s8 := s7.trans g10
  refine ⟨_, rfl, _, rfl, _, rfl, iteF ?_⟩
  refine ⟨_, rfl, _, rfl, du, us, rfl, .inl (SqL.of (s8 _ _ edu)), rfl, _, rfl, ite2 (fun c => ?_) (fun _ => ?_)⟩
  · rw [lus] at c
    exact absurd c (by simp)
  refine ⟨_, rfl, t, .ref ta, rfl, rt3.mono s8.tk, fun sl sus H9 g11 hsl esl psl => ?_⟩
  have s9 := s8.trans g11
  refine ⟨_, rfl, t, .ref ta, rfl, rt3.mono s9.tk, fun pp H10 pus2 g12 epp hpp => ?_⟩
  refine ⟨_, rfl, sl, sus, rfl, .inl ⟨SqL.of (g12 _ _ esl), fun tp htp => ?_⟩⟩
  have g13 := same_upd (o := .tup sus) htp
  have dpp : (Dt.tup (t.parts.map dtT)).deep < 25 := by
    rw [Dt.deep]
    have := deeps_le (ds := t.parts.map dtT) (n := 17) fun d hd => by
      obtain ⟨p, hp, rfl⟩ := List.mem_map.mp hd
      have := part_deep hp
      omega
    omega
  refine ⟨.tup (t.parts.map dtT), .ref pp, .ref tp, rfl, .tup (g13 _ _ epp) ((reps_dr hpp).mono g13.tk), .tup upd_same ((reps_dr psl).mono (g12.trans g13).tk), dpp, fun H11 g14 => ⟨_, rfl, iteF ?_⟩⟩
  have gD := g12.trans (g13.trans g14)
  have s11 := s9.trans gD
  have esl11 := gD _ _ esl
  have lsl : sus.length = t.parts.length := paired_len psl
  have h3 := parts_le3 t
  clear g10 g11 g12 g13 g14 gD htp epp hpp
  refine ⟨_, rfl, sl, sus, rfl, .inl (SqL.of esl11), _, rfl, by omega, by omega, fun acc hacc => ?_⟩
  refine comp_rangeR (n := ((sus.length : Nat) : Int).toNat) (fun j H' => Same H11 H' ∧ ∃ (os : List V) (ts : List Tr), H' acc = some (.lst os) ∧ Paired (Rep H') ts os ∧ os.length = j ∧ ∀ x ∈ ts, x.size = 1) ⟨same_upd hacc, [], [], upd_same, .nil, rfl, fun x hx => nomatch hx⟩ ?_ ?_
  · rintro j H12 hj ⟨g15, os, ts, eo, po, lo, ho⟩
    rw [Int.toNat_natCast] at hj
    refine ⟨.skip (.keep (.keep .nil)), ?_⟩
    refine ⟨_, rfl, a, ns, 1, rfl, ((gB.trans s11).trans g15).seq hS, by decide, fun i1 => ⟨_, rfl, _, _, rfl, rfl, _, _, rfl, rfl, ⟨(show (0 : Int) < 0 + (j : Int) + 1 by omega), (show 0 + (j : Int) + 1 < 1073741824 by omega)⟩, _, rfl, _, _, rfl, rfl, _, rfl, ?_⟩⟩
    refine ⟨_, wl, ws, rfl, (s11.trans g15) _ _ ew3, hw4, fun tr vv H13 g16 rr hs1 => ?_⟩
    have eo2 := g16 _ _ eo
    refine ⟨os, eo2, small1000 (by omega), same_set (g15.trans g16) hacc, os ++ [vv], ts ++ [tr], upd_same, ?_, by simp [lo], fun x hx => ?_⟩
    · exact paired_append (Paired.mapP po fun _ _ z => z.mono (g16.tk.trans (Tk.lst eo2))) (.cons (rr.mono (Tk.lst eo2)) .nil)
    · rcases List.mem_append.mp hx with h | h
      · exact ho x h
      · rw [List.mem_singleton.mp h]; exact hs1
  · rintro H12 ⟨g15, os, ts, eo, po, lo, ho⟩
    rw [Int.toNat_natCast] at lo
    have s12 := s11.trans g15
    have esl12 := g15 _ _ esl11
    have lpus : pus.length = t.parts.length := paired_len ppt
    have hh3 := head_le3' t
    have hTI : (V.str t.sign :: (hs ++ pus)).length = t.head + pus.length := by rw [List.length_cons, List.length_append]; omega
    refine ⟨_, rfl, _, rfl, acc, os, rfl, .inl ⟨SqL.of eo, fun to hto => ?_⟩⟩
    have g16 := same_upd (o := .tup os) hto
    refine ⟨t, ta, to, _, os, rfl, rt3.mono (s12.trans g16).tk, (s12.trans g16) _ _ eta, upd_same, by omega, by omega, fun ld H13 g17 eld => ?_⟩
    have gE := g16.trans g17
    have s13 := s12.trans gE
    have eta13 := s13 _ _ eta
    have e1 : (begin_ t).toNat = t.head := by show ((t.head : Nat) : Int).toNat = _; simp
    rw [e1] at eld
    refine ⟨_, rfl, _, rfl, _, rfl, ta, _, rfl, .inr (SqT.of eta13), _, rfl, sl, sus, rfl, .inl (SqL.of (gE _ _ esl12)), _, _, rfl, rfl, _, rfl, ta, _, rfl, eta13, fun hd H14 g18 ehd => ?_⟩
    have e2 : cutV (V.str t.sign :: (hs ++ pus)) none (some (((V.str t.sign :: (hs ++ pus)).length : Int) - (sus.length : Int))) = (V.str t.sign :: (hs ++ pus)).take t.head := by
      have e3 : ((V.str t.sign :: (hs ++ pus)).length : Int) - (sus.length : Int) = ((t.head : Nat) : Int) := by omega
      rw [e3]
      unfold cutV
      rw [HT.sIx_nat, HT.sIx_none, Nat.sub_zero, List.drop_zero, hTI, Nat.min_eq_left (by omega)]
    rw [e2] at ehd
    refine ⟨_, rfl, acc, os, rfl, .inl ⟨SqL.of (g18 _ _ (gE _ _ eo)), fun t2 ht2 => ?_⟩⟩
    have g19 := same_upd (o := .tup os) ht2
    refine ⟨hd, t2, _, _, rfl, rfl, g19 _ _ ehd, upd_same, line1000 (by rw [List.length_take]; omega), fun jn H15 g20 ejn => ?_⟩
    have gF := g18.trans (g19.trans g20)
    obtain ⟨ds0, ed0, dr0⟩ := dr_tup (rt3.mono s13.tk).dr eta13
    have dt := drs_take t.head dr0
    have dO := (reps_dr po).mono gE.tk
    have dall := drs_app dt dO
    have hdd : (Dt.tup (ds0.take t.head ++ ts.map dtT)).deep < 25 := by
      rw [Dt.deep]
      have hd0 : Dt.deeps ds0 + 1 ≤ 17 := by
        have : (dtT t).deep = Dt.deeps ds0 + 1 := by rw [ed0, Dt.deep]
        omega
      have := deeps_le (ds := ds0.take t.head ++ ts.map dtT) (n := 17) fun d hd => by
        rcases List.mem_append.mp hd with h | h
        · have := deep_mem (List.mem_of_mem_take h)
          omega
        · obtain ⟨x, hx, rfl⟩ := List.mem_map.mp h
          have h1 := dep_leaf (ho x hx)
          have h2 := dtT_dep x
          omega
      omega
    refine ⟨_, .ref ld, .ref jn, rfl, (DR.tup eld dall).mono gF.tk, .tup ejn (dall.mono gF.tk), hdd, fun H16 g21 => ⟨_, rfl, iteF ?_⟩⟩
    have s16 := s13.trans (gF.trans g21)
    refine ⟨_, rfl, t, .ref ta, rfl, rt3.mono s16.tk, hsz, by omega, fun f2 fs2 H17 g22 _ ef2 df2 => ?_⟩
    refine ⟨f2, fs2, rfl, .inl ⟨SqL.of ef2, fun u1 hu1 => ?_⟩⟩
    have g23 := same_upd (o := .tup fs2) hu1
    refine ⟨_, rfl, du, us, rfl, .inl ⟨SqL.of (g23 _ _ (g22 _ _ (s16 _ _ edu))), fun u2 hu2 => ?_⟩⟩
    have g24 := same_upd (o := .tup us) hu2
    exact ⟨_, .ref u1, .ref u2, rfl, (DR.tup upd_same (df2.mono g23.tk)).mono g24.tk, .tup upd_same (ddu.mono (s16.trans (g22.trans (g23.trans g24))).tk), places_deep _, fun H18 _ => q H18⟩
end
end K01
set_option Elab.async false
set_option linter.all false
set_option maxRecDepth 100000
set_option maxHeartbeats 4000000
namespace K01
open PySem PySem.Spec L2 PyProof.Rows
theorem keep_of {K : PySem.W.Frag} {f : Addr} {oc : Value} {od : Option Addr} {fd : FuncData} {sl : Array (Option Value)} (l : K.lookup f = some ⟨oc, od, .func fd, sl⟩) : PySem.W.keepIn K (.ref f) = true := by unfold PySem.W.keepIn; dsimp only; rw [l]
theorem all_mk {l : PySem.W.OpenLaw} {w : World} {K : PySem.W.Frag} {h : Heap} {mg : Str → Option Value} {fa f0 f1 f2 f3 f4 f5 f6 f7 f8 f9 f10 f11 f12 f13 f14 f15 f16 lv_LEAF_SIGNS : Addr} (X : K.In h) (G : h.Ns mainGlobals mg) (hfa : mg "law" = some (.ref fa))
    {od0 an0 : Option Addr} {sl0 : Array (Option Value)} {oc0 kV0 dc0 pm0 cd0 ct0 : Value}
    {od1 an1 : Option Addr} {sl1 : Array (Option Value)} {oc1 kV1 dc1 pm1 cd1 ct1 : Value}
    {od2 an2 : Option Addr} {sl2 : Array (Option Value)} {oc2 kV2 dc2 pm2 cd2 ct2 : Value}
    {od3 an3 : Option Addr} {sl3 : Array (Option Value)} {oc3 kV3 dc3 pm3 cd3 ct3 : Value}
    {od4 an4 : Option Addr} {sl4 : Array (Option Value)} {oc4 kV4 dc4 pm4 cd4 ct4 : Value}
    {od5 an5 : Option Addr} {sl5 : Array (Option Value)} {oc5 kV5 dc5 pm5 cd5 ct5 : Value}
    {od6 an6 : Option Addr} {sl6 : Array (Option Value)} {oc6 kV6 dc6 pm6 cd6 ct6 : Value}
    {od7 an7 : Option Addr} {sl7 : Array (Option Value)} {oc7 kV7 dc7 pm7 cd7 ct7 : Value}
    {od8 an8 : Option Addr} {sl8 : Array (Option Value)} {oc8 kV8 dc8 pm8 cd8 ct8 : Value}
    {od9 an9 : Option Addr} {sl9 : Array (Option Value)} {oc9 kV9 dc9 pm9 cd9 ct9 : Value}
    {od10 an10 : Option Addr} {sl10 : Array (Option Value)} {oc10 kV10 dc10 pm10 cd10 ct10 : Value}
    {od11 an11 : Option Addr} {sl11 : Array (Option Value)} {oc11 kV11 dc11 pm11 cd11 ct11 : Value}
    {od12 an12 : Option Addr} {sl12 : Array (Option Value)} {oc12 kV12 dc12 pm12 cd12 ct12 : Value}
    {od13 an13 : Option Addr} {sl13 : Array (Option Value)} {oc13 kV13 dc13 pm13 cd13 ct13 : Value}
    {od14 an14 : Option Addr} {sl14 : Array (Option Value)} {oc14 kV14 dc14 pm14 cd14 ct14 : Value}
    {od15 an15 : Option Addr} {sl15 : Array (Option Value)} {oc15 kV15 dc15 pm15 cd15 ct15 : Value}
    {od16 an16 : Option Addr} {sl16 : Array (Option Value)} {oc16 kV16 dc16 pm16 cd16 ct16 : Value}
    {odC0 : Option Addr} {slC0 : Array (Option Value)} {nC0 : Nat} {tC0_0 tC0_1 tC0_2 tC0_3 tC0_4 : Tok}
    (a0 : PySem.W.nsIn K mainGlobals "parts_begin" = some (some (.ref f0))) (l0 : K.lookup f0 = some ⟨oc0, od0, .func (PySem.W.fnOf "parts_begin" "parts_begin" (defArgs s_parts_begin) (defBody s_parts_begin) (defScope s_parts_begin) .none kV0 dc0 pm0 an0 cd0 ct0), sl0⟩) (c0 : PySem.W.codeIn K cd0 "parts_begin" = true)
    (a1 : PySem.W.nsIn K mainGlobals "parts" = some (some (.ref f1))) (l1 : K.lookup f1 = some ⟨oc1, od1, .func (PySem.W.fnOf "parts" "parts" (defArgs s_parts) (defBody s_parts) (defScope s_parts) .none kV1 dc1 pm1 an1 cd1 ct1), sl1⟩) (c1 : PySem.W.codeIn K cd1 "parts" = true)
    (a2 : PySem.W.nsIn K mainGlobals "with_parts" = some (some (.ref f2))) (l2 : K.lookup f2 = some ⟨oc2, od2, .func (PySem.W.fnOf "with_parts" "with_parts" (defArgs s_with_parts) (defBody s_with_parts) (defScope s_with_parts) .none kV2 dc2 pm2 an2 cd2 ct2), sl2⟩) (c2 : PySem.W.codeIn K cd2 "with_parts" = true)
    (a3 : PySem.W.nsIn K mainGlobals "all_parts" = some (some (.ref f3))) (l3 : K.lookup f3 = some ⟨oc3, od3, .func (PySem.W.fnOf "all_parts" "all_parts" (defArgs s_all_parts) (defBody s_all_parts) (defScope s_all_parts) .none kV3 dc3 pm3 an3 cd3 ct3), sl3⟩) (c3 : PySem.W.codeIn K cd3 "all_parts" = true)
    (a4 : PySem.W.nsIn K mainGlobals "placed_parts" = some (some (.ref f4))) (l4 : K.lookup f4 = some ⟨oc4, od4, .func (PySem.W.fnOf "placed_parts" "placed_parts" (defArgs s_placed_parts) (defBody s_placed_parts) (defScope s_placed_parts) .none kV4 dc4 pm4 an4 cd4 ct4), sl4⟩) (c4 : PySem.W.codeIn K cd4 "placed_parts" = true)
    (a5 : PySem.W.nsIn K mainGlobals "size" = some (some (.ref f5))) (l5 : K.lookup f5 = some ⟨oc5, od5, .func (PySem.W.fnOf "size" "size" (defArgs s_size) (defBody s_size) (defScope s_size) .none kV5 dc5 pm5 an5 cd5 ct5), sl5⟩) (c5 : PySem.W.codeIn K cd5 "size" = true)
    (a6 : PySem.W.nsIn K mainGlobals "places" = some (some (.ref f6))) (l6 : K.lookup f6 = some ⟨oc6, od6, .func (PySem.W.fnOf "places" "places" (defArgs s_places) (defBody s_places) (defScope s_places) .none kV6 dc6 pm6 an6 cd6 ct6), sl6⟩) (c6 : PySem.W.codeIn K cd6 "places" = true)
    (a7 : PySem.W.nsIn K mainGlobals "_law_cell_at" = some (some (.ref f7))) (l7 : K.lookup f7 = some ⟨oc7, od7, .func (PySem.W.fnOf "_law_cell_at" "_law_cell_at" (defArgs s_law_cell_at) (defBody s_law_cell_at) (defScope s_law_cell_at) .none kV7 dc7 pm7 an7 cd7 ct7), sl7⟩) (c7 : PySem.W.codeIn K cd7 "_law_cell_at" = true)
    (a8 : PySem.W.nsIn K mainGlobals "_law_whole" = some (some (.ref f8))) (l8 : K.lookup f8 = some ⟨oc8, od8, .func (PySem.W.fnOf "_law_whole" "_law_whole" (defArgs s_law_whole) (defBody s_law_whole) (defScope s_law_whole) .none kV8 dc8 pm8 an8 cd8 ct8), sl8⟩) (c8 : PySem.W.codeIn K cd8 "_law_whole" = true)
    (a9 : PySem.W.nsIn K mainGlobals "_law_word" = some (some (.ref f9))) (l9 : K.lookup f9 = some ⟨oc9, od9, .func (PySem.W.fnOf "_law_word" "_law_word" (defArgs s_law_word) (defBody s_law_word) (defScope s_law_word) .none kV9 dc9 pm9 an9 cd9 ct9), sl9⟩) (c9 : PySem.W.codeIn K cd9 "_law_word" = true)
    (a10 : PySem.W.nsIn K mainGlobals "_law_words" = some (some (.ref f10))) (l10 : K.lookup f10 = some ⟨oc10, od10, .func (PySem.W.fnOf "_law_words" "_law_words" (defArgs s_law_words) (defBody s_law_words) (defScope s_law_words) .none kV10 dc10 pm10 an10 cd10 ct10), sl10⟩) (c10 : PySem.W.codeIn K cd10 "_law_words" = true)
    (a11 : PySem.W.nsIn K mainGlobals "_law_leaf" = some (some (.ref f11))) (l11 : K.lookup f11 = some ⟨oc11, od11, .func (PySem.W.fnOf "_law_leaf" "_law_leaf" (defArgs s_law_leaf) (defBody s_law_leaf) (defScope s_law_leaf) .none kV11 dc11 pm11 an11 cd11 ct11), sl11⟩) (c11 : PySem.W.codeIn K cd11 "_law_leaf" = true)
    (a12 : PySem.W.nsIn K mainGlobals "_law_tree" = some (some (.ref f12))) (l12 : K.lookup f12 = some ⟨oc12, od12, .func (PySem.W.fnOf "_law_tree" "_law_tree" (defArgs s_law_tree) (defBody s_law_tree) (defScope s_law_tree) .none kV12 dc12 pm12 an12 cd12 ct12), sl12⟩) (c12 : PySem.W.codeIn K cd12 "_law_tree" = true)
    (a13 : PySem.W.nsIn K mainGlobals "_law_parts" = some (some (.ref f13))) (l13 : K.lookup f13 = some ⟨oc13, od13, .func (PySem.W.fnOf "_law_parts" "_law_parts" (defArgs s_law_parts) (defBody s_law_parts) (defScope s_law_parts) .none kV13 dc13 pm13 an13 cd13 ct13), sl13⟩) (c13 : PySem.W.codeIn K cd13 "_law_parts" = true)
    (a14 : PySem.W.nsIn K mainGlobals "_law_places" = some (some (.ref f14))) (l14 : K.lookup f14 = some ⟨oc14, od14, .func (PySem.W.fnOf "_law_places" "_law_places" (defArgs s_law_places) (defBody s_law_places) (defScope s_law_places) .none kV14 dc14 pm14 an14 cd14 ct14), sl14⟩) (c14 : PySem.W.codeIn K cd14 "_law_places" = true)
    (a15 : PySem.W.nsIn K mainGlobals "_law_same" = some (some (.ref f15))) (l15 : K.lookup f15 = some ⟨oc15, od15, .func (PySem.W.fnOf "_law_same" "_law_same" (defArgs s_law_same) (defBody s_law_same) (defScope s_law_same) .none kV15 dc15 pm15 an15 cd15 ct15), sl15⟩) (c15 : PySem.W.codeIn K cd15 "_law_same" = true)
    (a16 : PySem.W.nsIn K mainGlobals "law" = some (some (.ref f16))) (l16 : K.lookup f16 = some ⟨oc16, od16, .func (PySem.W.fnOf "law" "law" (defArgs s_law) (defBody s_law) (defScope s_law) .none kV16 dc16 pm16 an16 cd16 ct16), sl16⟩) (c16 : PySem.W.codeIn K cd16 "law" = true)
    (aC0 : PySem.W.nsIn K mainGlobals "LEAF_SIGNS" = some (some (.ref lv_LEAF_SIGNS))) (lC0 : K.lookup lv_LEAF_SIGNS = some ⟨.type "tuple", odC0, .seq #[.str "num" tC0_0, .str "name" tC0_1, .str "ask" tC0_2, .str "stop" tC0_3, .str "gap" tC0_4] nC0, slC0⟩)
    (z_len : PySem.W.nsIn K mainGlobals "len" = some none)
    (z_range : PySem.W.nsIn K mainGlobals "range" = some none)
    (z_isinstance : PySem.W.nsIn K mainGlobals "isinstance" = some none)
    (z_int : PySem.W.nsIn K mainGlobals "int" = some none)
    (z_bool : PySem.W.nsIn K mainGlobals "bool" = some none)
    (z_str : PySem.W.nsIn K mainGlobals "str" = some none)
    (z_tuple : PySem.W.nsIn K mainGlobals "tuple" = some none)
    (z_list : PySem.W.nsIn K mainGlobals "list" = some none)
    (z_reversed : PySem.W.nsIn K mainGlobals "reversed" = some none)
    (z_sorted : PySem.W.nsIn K mainGlobals "sorted" = some none)
    (z_enumerate : PySem.W.nsIn K mainGlobals "enumerate" = some none)
    (z_zip : PySem.W.nsIn K mainGlobals "zip" = some none)
    : ∃ fd : FuncData, (∀ (s : Shared) (v : Value), BindsTo s fd ⟨[v], []⟩ [("_law_script", v)]) ∧ ∀ base : Heap, K.In base → base.Ns mainGlobals mg → FnOk l.prog w K mg base CX0 27 fa fd ["_law_script"] (sp_law K) := by
  have e := hfa.symm.trans (PySem.W.mg_of X G a16)
  cases e
  have z_len := PySem.W.mg_none_of X G z_len
  have z_range := PySem.W.mg_none_of X G z_range
  have z_isinstance := PySem.W.mg_none_of X G z_isinstance
  have z_int := PySem.W.mg_none_of X G z_int
  have z_bool := PySem.W.mg_none_of X G z_bool
  have z_str := PySem.W.mg_none_of X G z_str
  have z_tuple := PySem.W.mg_none_of X G z_tuple
  have z_list := PySem.W.mg_none_of X G z_list
  have z_reversed := PySem.W.mg_none_of X G z_reversed
  have z_sorted := PySem.W.mg_none_of X G z_sorted
  have z_enumerate := PySem.W.mg_none_of X G z_enumerate
  have z_zip := PySem.W.mg_none_of X G z_zip
  have m_LEAF_SIGNS := PySem.W.mg_of X G aC0
  have h_LEAF_SIGNS : LeafSigns K lv_LEAF_SIGNS := ⟨_, _, _, lC0, rfl, rfl, (by show 5 ≤ sizeLine; decide), (.cons ⟨_, rfl⟩ (.cons ⟨_, rfl⟩ (.cons ⟨_, rfl⟩ (.cons ⟨_, rfl⟩ (.cons ⟨_, rfl⟩ .nil)))))⟩
  have k0 := keep_of l0
  have F0 := fun_mk (st := s_parts_begin) l0 c0 k0
  have b0 := F0.binds (ps := ["tree"]) fun _ _ _ _ _ _ us hl => match us, hl with | [_], _ => rfl
  have m0 := PySem.W.mg_of X G a0
  have k1 := keep_of l1
  have F1 := fun_mk (st := s_parts) l1 c1 k1
  have b1 := F1.binds (ps := ["tree"]) fun _ _ _ _ _ _ us hl => match us, hl with | [_], _ => rfl
  have m1 := PySem.W.mg_of X G a1
  have k2 := keep_of l2
  have F2 := fun_mk (st := s_with_parts) l2 c2 k2
  have b2 := F2.binds (ps := ["tree", "parts"]) fun _ _ _ _ _ _ us hl => match us, hl with | [_, _], _ => rfl
  have m2 := PySem.W.mg_of X G a2
  have k3 := keep_of l3
  have F3 := fun_mk (st := s_all_parts) l3 c3 k3
  have b3 := F3.binds (ps := ["tree"]) fun _ _ _ _ _ _ us hl => match us, hl with | [_], _ => rfl
  have m3 := PySem.W.mg_of X G a3
  have k4 := keep_of l4
  have F4 := fun_mk (st := s_placed_parts) l4 c4 k4
  have b4 := F4.binds (ps := ["tree"]) fun _ _ _ _ _ _ us hl => match us, hl with | [_], _ => rfl
  have m4 := PySem.W.mg_of X G a4
  have k5 := keep_of l5
  have F5 := fun_mk (st := s_size) l5 c5 k5
  have b5 := F5.binds (ps := ["tree"]) fun _ _ _ _ _ _ us hl => match us, hl with | [_], _ => rfl
  have m5 := PySem.W.mg_of X G a5
  have k6 := keep_of l6
  have F6 := fun_mk (st := s_places) l6 c6 k6
  have b6 := F6.binds (ps := ["tree"]) fun _ _ _ _ _ _ us hl => match us, hl with | [_], _ => rfl
  have m6 := PySem.W.mg_of X G a6
  have k7 := keep_of l7
  have F7 := fun_mk (st := s_law_cell_at) l7 c7 k7
  have b7 := F7.binds (ps := ["_law_script", "_law_k"]) fun _ _ _ _ _ _ us hl => match us, hl with | [_, _], _ => rfl
  have m7 := PySem.W.mg_of X G a7
  have k8 := keep_of l8
  have F8 := fun_mk (st := s_law_whole) l8 c8 k8
  have b8 := F8.binds (ps := ["_law_found"]) fun _ _ _ _ _ _ us hl => match us, hl with | [_], _ => rfl
  have m8 := PySem.W.mg_of X G a8
  have k9 := keep_of l9
  have F9 := fun_mk (st := s_law_word) l9 c9 k9
  have b9 := F9.binds (ps := ["_law_cell", "_law_long", "_law_at", "_law_turn"]) fun _ _ _ _ _ _ us hl => match us, hl with | [_, _, _, _], _ => rfl
  have m9 := PySem.W.mg_of X G a9
  have k10 := keep_of l10
  have F10 := fun_mk (st := s_law_words) l10 c10 k10
  have b10 := F10.binds (ps := ["_law_cell"]) fun _ _ _ _ _ _ us hl => match us, hl with | [_], _ => rfl
  have m10 := PySem.W.mg_of X G a10
  have k11 := keep_of l11
  have F11 := fun_mk (st := s_law_leaf) l11 c11 k11
  have b11 := F11.binds (ps := ["_law_cell", "_law_words_here"]) fun _ _ _ _ _ _ us hl => match us, hl with | [_, _], _ => rfl
  have m11 := PySem.W.mg_of X G a11
  have k12 := keep_of l12
  have F12 := fun_mk (st := s_law_tree) l12 c12 k12
  have b12 := F12.binds (ps := ["_law_cells", "_law_words_here", "_law_deep"]) fun _ _ _ _ _ _ us hl => match us, hl with | [_, _, _], _ => rfl
  have m12 := PySem.W.mg_of X G a12
  have k13 := keep_of l13
  have F13 := fun_mk (st := s_law_parts) l13 c13 k13
  have b13 := F13.binds (ps := ["_law_tree_here"]) fun _ _ _ _ _ _ us hl => match us, hl with | [_], _ => rfl
  have m13 := PySem.W.mg_of X G a13
  have k14 := keep_of l14
  have F14 := fun_mk (st := s_law_places) l14 c14 k14
  have b14 := F14.binds (ps := ["_law_tree_here"]) fun _ _ _ _ _ _ us hl => match us, hl with | [_], _ => rfl
  have m14 := PySem.W.mg_of X G a14
  have k15 := keep_of l15
  have F15 := fun_mk (st := s_law_same) l15 c15 k15
  have b15 := F15.binds (ps := ["_law_found", "_law_due"]) fun _ _ _ _ _ _ us hl => match us, hl with | [_, _], _ => rfl
  have m15 := PySem.W.mg_of X G a15
  have k16 := keep_of l16
  have F16 := fun_mk (st := s_law) l16 c16 k16
  have b16 := F16.binds (ps := ["_law_script"]) fun _ _ _ _ _ _ us hl => match us, hl with | [_], _ => rfl
  have m16 := PySem.W.mg_of X G a16
  refine ⟨PySem.W.fnOf "law" "law" (defArgs s_law) (defBody s_law) (defScope s_law) .none kV16 dc16 pm16 an16 cd16 ct16, fun s v => .of_eq rfl, fun base _ _ => ?_⟩
  have G0 : FnB l.prog w K mg base 1 "parts_begin" f0 _ _ _ := ⟨ok_parts_begin (k := 0) F0 z_len m_LEAF_SIGNS h_LEAF_SIGNS, b0, k0, m0⟩
  have G1 : FnB l.prog w K mg base 2 "parts" f1 _ _ _ := ⟨ok_parts F1 (G0.up (k := 1) (by decide)), b1, k1, m1⟩
  have G2 : FnB l.prog w K mg base 2 "with_parts" f2 _ _ _ := ⟨ok_with F2 z_tuple (G0.up (k := 1) (by decide)), b2, k2, m2⟩
  have G3 : FnB l.prog w K mg base 3 "all_parts" f3 _ _ _ := ⟨ok_all F3 (G1.up (k := 2) (by decide)), b3, k3, m3⟩
  have G4 : FnB l.prog w K mg base 3 "placed_parts" f4 _ _ _ := ⟨ok_placed F4 z_enumerate z_sorted (G1.up (k := 2) (by decide)), b4, k4, m4⟩
  have G5 : FnB l.prog w K mg base 4 "size" f5 _ _ _ := ⟨ok_size F5 z_len (G3.up (k := 3) (by decide)), b5, k5, m5⟩
  have G6 : FnB l.prog w K mg base 4 "places" f6 _ _ _ := ⟨ok_places F6 (G4.up (k := 3) (by decide)), b6, k6, m6⟩
  have G7 : FnB l.prog w K mg base 1 "_law_cell_at" f7 _ _ _ := ⟨ok_cell_at (k := 0) F7 z_len, b7, k7, m7⟩
  have G8 : FnB l.prog w K mg base 1 "_law_whole" f8 _ _ _ := ⟨ok_whole (k := 0) F8 z_isinstance z_int z_bool, b8, k8, m8⟩
  have G9 : FnB l.prog w K mg base 1 "_law_word" f9 _ _ _ := ⟨ok_word (k := 0) F9 z_range, b9, k9, m9⟩
  have G10 : FnB l.prog w K mg base 2 "_law_words" f10 _ _ _ := ⟨ok_words F10 z_range (G9.up (k := 1) (by decide)), b10, k10, m10⟩
  have G11 : FnB l.prog w K mg base 1 "_law_leaf" f11 _ _ _ := ⟨ok_leaf (k := 0) F11 z_tuple, b11, k11, m11⟩
  have G12 := all_tree F12 b12 m12 z_len (G11.up (k := 1) (by decide)) 13
  have G13 : FnB l.prog w K mg base 1 "_law_parts" f13 _ _ _ := ⟨ok_lparts (k := 0) F13 z_isinstance z_tuple, b13, k13, m13⟩
  have G14 : FnB l.prog w K mg base 2 "_law_places" f14 _ _ _ := ⟨ok_lplaces F14 z_len z_range z_reversed (G13.up (k := 1) (by decide)), b14, k14, m14⟩
  have G15 := all_same F15 b15 m15 z_isinstance z_tuple z_str z_len z_zip (G8.up (k := 1) (by decide)) 25
  exact ok_law F16 z_isinstance z_list z_tuple z_len z_range (G10.up (k := 26) (by decide)) (G7.up (k := 26) (by decide)) (G12.up (k := 26) (by decide)) (G14.up (k := 26) (by decide)) (G6.up (k := 26) (by decide)) (G15.up (k := 26) (by decide)) (G5.up (k := 26) (by decide)) (G8.up (k := 26) (by decide)) (G13.up (k := 26) (by decide)) (G1.up (k := 26) (by decide)) (G11.up (k := 26) (by decide)) (G2.up (k := 26) (by decide))
theorem walk {l : PySem.W.OpenLaw} {q : Program} {loose : List Str} {XP : (Str → Option Value) → Heap → Prop} {YP : World → Heap → Prop} {d : DefRec} {K : Params → PySem.W.Frag} (hn : l.most = some 63) (hdf : d.params.defaults = [])
    (hY : ∀ (w : World) (h : Heap), YP w h → (K w.params).In h)
    (F : ∀ (w : World) (mg : Str → Option Value) (fa : Addr) (h : Heap), (K w.params).In h → h.Ns mainGlobals mg → mg d.name = some (.ref fa) →
      ∃ fd : FuncData, (∀ (s : Shared) (u : Value), BindsTo s fd ⟨[u], []⟩ [("_law_script", u)]) ∧ ∀ base : Heap, (K w.params).In base → base.Ns mainGlobals mg → FnOk l.prog w (K w.params) mg base CX0 27 fa fd ["_law_script"] (sp_law (K w.params))) :
    PySem.W.WalkO q loose XP YP l.row.toRowW d [] (fun f vs => PySem.call f vs) :=
  L2.walk_of (n := 63) (k := 27) (x := "_law_script") (CX := fun _ => CX0) (sp := fun w => sp_law (K w.params)) hn (by decide) hdf ⟨rfl, by decide, by decide⟩ hY F (fun _ _ a ns hl _ hS => ⟨a, ns, rfl, hS, hl, fun _ => rfl⟩) fun _ _ _ _ _ z => z
end K01
open PySem PySem.W PyProof.Rows
set_option maxRecDepth 100000 in
set_option maxHeartbeats 0 in
theorem PySem.Challenge.cw_recastle_k01_parts_counted_holds : PySem.Challenge.rw_recastle_k01_parts_counted.Holds := by
  w_on; o_law; k_head; (case hw => w_witness2)
  k_fill
  refine K01.walk (l := PySem.Challenge.rw_recastle_k01_parts_counted) rfl rfl (fun w h Y => PySem.W.kIn_of Y) ?F
  case F =>
    intro w mg fa h KX G hmg
    refine' K01.all_mk KX G hmg ?a0 ?l0 ?c0 ?a1 ?l1 ?c1 ?a2 ?l2 ?c2 ?a3 ?l3 ?c3 ?a4 ?l4 ?c4 ?a5 ?l5 ?c5 ?a6 ?l6 ?c6 ?a7 ?l7 ?c7 ?a8 ?l8 ?c8 ?a9 ?l9 ?c9 ?a10 ?l10 ?c10 ?a11 ?l11 ?c11 ?a12 ?l12 ?c12 ?a13 ?l13 ?c13 ?a14 ?l14 ?c14 ?a15 ?l15 ?c15 ?a16 ?l16 ?c16 ?aC0 ?lC0 ?z_len ?z_range ?z_isinstance ?z_int ?z_bool ?z_str ?z_tuple ?z_list ?z_reversed ?z_sorted ?z_enumerate ?z_zip
    (case a0 => k_is); (case l0 => k_is); (case c0 => k_is); (case a1 => k_is)
    (case l1 => k_is); (case c1 => k_is); (case a2 => k_is); (case l2 => k_is)
    (case c2 => k_is); (case a3 => k_is); (case l3 => k_is); (case c3 => k_is)
    (case a4 => k_is); (case l4 => k_is); (case c4 => k_is); (case a5 => k_is)
    (case l5 => k_is); (case c5 => k_is); (case a6 => k_is); (case l6 => k_is)
    (case c6 => k_is); (case a7 => k_is); (case l7 => k_is); (case c7 => k_is)
    (case a8 => k_is); (case l8 => k_is); (case c8 => k_is); (case a9 => k_is)
    (case l9 => k_is); (case c9 => k_is); (case a10 => k_is); (case l10 => k_is)
    (case c10 => k_is); (case a11 => k_is); (case l11 => k_is); (case c11 => k_is)
    (case a12 => k_is); (case l12 => k_is); (case c12 => k_is); (case a13 => k_is)
    (case l13 => k_is); (case c13 => k_is); (case a14 => k_is); (case l14 => k_is)
    (case c14 => k_is); (case a15 => k_is); (case l15 => k_is); (case c15 => k_is)
    (case a16 => k_is); (case l16 => k_is); (case c16 => k_is); (case aC0 => k_is)
    (case lC0 => k_is); (case z_len => k_is); (case z_range => k_is); (case z_isinstance => k_is)
    (case z_int => k_is); (case z_bool => k_is); (case z_str => k_is); (case z_tuple => k_is)
    (case z_list => k_is); (case z_reversed => k_is); (case z_sorted => k_is); (case z_enumerate => k_is)
    (case z_zip => k_is)
#print axioms PySem.Challenge.cw_recastle_k01_parts_counted_holds